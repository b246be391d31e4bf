/-
  The law ReqLoads, from the contracts. (Written by tools/gen_req_o.py.)
-/
import Derived.Test.YtbdfmnlfdhhnjaaK5
import Derived.Deep.RegionHeld3
namespace Go.Proofs.Ytbdfmnlfdhhnjaa
set_option linter.unusedVariables false
set_option linter.unusedSimpArgs false
open Go.RowKit

/-! ### Plain -/
theorem wt_take : ∀ {R : List (List Int)} {j : Nat} {r : List Int}, R[j]? = some r → wtR (R.take (j + 1)) = wtR (R.take j) + (r.length : Int) * ((2 ^ j : Nat) : Int)
  | [], j, r, h => by simp at h
  | q :: R, 0, r, h => by
    have e : q = r := by simpa using h
    subst e
    show (q.length : Int) + 2 * 0 = 0 + (q.length : Int) * ((1 : Nat) : Int)
    omega
  | q :: R, j + 1, r, h => by
    have ih := wt_take (R := R) (j := j) (r := r) (by simpa using h)
    show (q.length : Int) + 2 * wtR (R.take (j + 1)) = (q.length : Int) + 2 * wtR (R.take j) + _
    rw [ih, Nat.pow_succ, Int.natCast_mul, Int.mul_add]
    have e : (r.length : Int) * (((2 ^ j : Nat) : Int) * ((2 : Nat) : Int)) = 2 * ((r.length : Int) * ((2 ^ j : Nat) : Int)) := by rw [Int.mul_comm ((2 ^ j : Nat) : Int), Int.mul_left_comm]; rfl
    omega
theorem wt_bd (K : Int) : ∀ {R : List (List Int)}, (∀ r, r ∈ R → (r.length : Int) ≤ K) → 0 ≤ wtR R ∧ wtR R ≤ K * ((2 ^ R.length - 1 : Nat) : Int)
  | [], _ => ⟨Int.le_refl _, by show (0 : Int) ≤ K * 0; omega⟩
  | q :: R, h => by
    obtain ⟨i1, i2⟩ := wt_bd K (R := R) fun r hr => h r (List.mem_cons_of_mem _ hr)
    have hq := h q List.mem_cons_self
    have hp : 1 ≤ 2 ^ R.length := Nat.one_le_two_pow
    have e : ((2 ^ (R.length + 1) - 1 : Nat) : Int) = 2 * ((2 ^ R.length - 1 : Nat) : Int) + 1 := by rw [Nat.pow_succ]; omega
    have eb : K * ((2 ^ (R.length + 1) - 1 : Nat) : Int) = 2 * (K * ((2 ^ R.length - 1 : Nat) : Int)) + K := by rw [e, Int.mul_add, Int.mul_left_comm, Int.mul_one]
    refine ⟨by show 0 ≤ (q.length : Int) + 2 * wtR R; omega, ?_⟩
    show (q.length : Int) + 2 * wtR R ≤ K * ((2 ^ (R.length + 1) - 1 : Nat) : Int)
    rw [eb]
    omega
/-- Can a row be, at its height? -/
def okRow (B : Int) (n h l : Nat) : Bool := decide ((l : Int) < B) && !(decide (0 < h) && decide (h + 1 = n) && decide (l = 0))
/-- .. and all up to one? -/
def okRows (B : Int) (n : Nat) (R : List (List Int)) : Nat → Bool
  | 0 => true
  | j + 1 => okRows B n R j && match R[j]? with | none => true | some r => okRow B n j r.length
theorem okRows_iff {B : Int} {n : Nat} {R : List (List Int)} : ∀ j, okRows B n R j = true ↔ ∀ i r, i < j → R[i]? = some r → okRow B n i r.length = true
  | 0 => ⟨fun _ i r hi => absurd hi (Nat.not_lt_zero _), fun _ => rfl⟩
  | j + 1 => by
    show (okRows B n R j && match R[j]? with | none => true | some r => okRow B n j r.length) = true ↔ _
    rw [Bool.and_eq_true, okRows_iff j]
    constructor
    · rintro ⟨h1, h2⟩ i r hi hr
      rcases Nat.lt_succ_iff_lt_or_eq.1 hi with h | rfl
      · exact h1 i r h hr
      · rw [hr] at h2; exact h2
    · intro h
      refine ⟨fun i r hi hr => h i r (by omega) hr, ?_⟩
      cases hr : R[j]? with
      | none => rfl
      | some r => exact h j r (Nat.lt_succ_self _) hr
theorem loadQ_iff {B used : Int} {R : List (List Int)} : LoadQ B R used 3 4 ↔ (1 ≤ R.length ∧ R.length ≤ 16 ∧ 0 ≤ used) ∧ okRows B R.length R R.length = true ∧ wtR R ≤ B * 1024 ∧ 0 < wtR R := by
  rw [okRows_iff]
  constructor
  · intro h
    have hw := wt_nonneg R
    refine ⟨⟨h.some_, h.few, h.use⟩, fun i r hi hr => ?_, h.room, ?_⟩
    · unfold okRow
      have h1 := h.short r (List.mem_of_getElem? hr)
      rw [decide_eq_true h1]
      by_cases h0 : 0 < i
      · by_cases h2 : i + 1 = R.length
        · have h3 := h.top (by omega) r (by rw [show R.length - 1 = i by omega]; exact hr)
          have h4 : ¬ r.length = 0 := fun e => h3 (List.eq_nil_of_length_eq_zero e)
          simp [h4]
        · simp [h2]
      · simp [h0]
    · rcases Int.lt_or_eq_of_le hw with h1 | h1
      · exact h1
      · have := (h.none_ h1.symm).1; omega
  · rintro ⟨⟨h1, h2, h3⟩, h4, h5, h6⟩
    refine ⟨h1, h2, fun r hr => ?_, fun hl r hr e => ?_, h5, h3, by omega, fun e => by omega⟩
    · obtain ⟨i, hi⟩ := List.getElem?_of_mem hr
      have hlt : i < R.length := by
        rcases Nat.lt_or_ge i R.length with c | c
        · exact c
        · rw [List.getElem?_eq_none c] at hi; cases hi
      have h := h4 i r hlt hi
      unfold okRow at h
      rw [Bool.and_eq_true] at h
      simpa using h.1
    · have h := h4 (R.length - 1) r (by omega) hr
      unfold okRow at h
      rw [Bool.and_eq_true] at h
      have h7 := h.2
      rw [decide_eq_true (show 0 < R.length - 1 by omega), decide_eq_true (show R.length - 1 + 1 = R.length by omega), e] at h7
      simp at h7
theorem load_ok {B : Int} {word : Int} {V : List Int} (h4 : B % 4 = 0) (h0 : 4 ≤ B) (h64 : B ≤ 64) (hn : (V.length : Int) ≤ 200) {lo hi : Int} (he : lo ≤ hi) (hz : V.length = 0 → lo = 0 ∧ hi = 0) (u : Nat) : LoadQ B (towQ B word V).1 u lo hi := by
  have hT := tow_P (B := B) word h4 h0 V
  have hf := hT.fuel h0 h64 (by omega)
  refine ⟨?_, by omega, hT.short, fun hl r hr e => ?_, by rw [hT.wt]; omega, by omega, he, fun e => hz (by rw [hT.wt] at e; omega)⟩
  · have := hT.ne
    cases hR : (towQ B word V).1 with
    | nil => exact absurd hR this
    | cons a b => simp
  · subst e
    have ht := hT.top
    have key : ∀ (R : List (List Int)), okTop B R → R ≠ [] → R[R.length - 1]? = some [] → False := by
      intro R
      induction R with
      | nil => intro _ h _; exact h rfl
      | cons a R ih =>
        intro h1 _ h3
        cases R with
        | nil =>
          have e : a = [] := by simpa using h3
          rw [e] at h1
          have h1' : B ≤ 4 * ((([] : List Int).length : Nat) : Int) := h1
          simp at h1'
          omega
        | cons b R => exact ih h1 (List.cons_ne_nil _ _) (by simpa using h3)
    cases hR : (towQ B word V).1 with
    | nil => rw [hR] at hl; simp at hl
    | cons a R =>
      rw [hR] at ht hr hl
      simp only [List.tail_cons] at ht
      cases R with
      | nil => simp at hl
      | cons b R => exact key _ ht (List.cons_ne_nil _ _) (by simpa using hr)
theorem end_facts {A : List PairV} (h : ∀ p, p ∈ A → okP p) : (endAD A).1 ≤ (endAD A).2.1 ∧ I64 (endAD A).1 ∧ I64 (endAD A).2.1 ∧ (A = [] → endAD A = (0, 0, false)) ∧ (A ≠ [] → (endAD A).2.2 = true) := by
  unfold endAD
  by_cases e : A = []
  · rw [if_pos e]
    exact ⟨Int.le_refl _, ⟨by decide, by decide⟩, ⟨by decide, by decide⟩, fun _ => rfl, fun hn => absurd e hn⟩
  · rw [if_neg e]
    obtain ⟨⟨v, hv, e1⟩, h1⟩ := lov_factsD e
    obtain ⟨⟨u, hu, e2⟩, h2⟩ := hiv_factsD e
    refine ⟨?_, by show I64 (loVD A); rw [← e1]; exact (h v hv).1, by show I64 (hiVD A); rw [← e2]; exact (h u hu).1, fun hn => absurd hn e, fun _ => rfl⟩
    show loVD A ≤ hiVD A
    have := h2 v hv
    omega

set_option maxRecDepth 100000 in
set_option maxHeartbeats 16000000 in
theorem loads21_walk {Rq : RqT} (D : RqDoes Rq) (w : World) (B word : Int) (A : List PairV) (a : Option Addr) (cap : Nat) (x : Int) (A3 : Option Addr) (R3 : List RowI) (k3 : Nat) (us : Int) (hB : I64 B) (hw : Word word) (hA : Pairs w a A) (hl : A.length ≤ 140737488351232) (hx : I64 x) (hR : RowsN w A3 R3) (hus : I64 us) (hl3 : R3.length ≤ 140737488351232) (hl4 : ∀ r, r ∈ R3 → r.l.length ≤ 140737488351232) :
    Calls Try.prog 10 #[.agg #[.int .i64 B, .int .u64 word], .slice a A.length cap, .int .i64 x, .slice A3 R3.length k3, .int .i64 us] w fun e w' => e = .returned (.bool true) ∧ Below w.heap.size w w' := by
  have HD := Lib.hid D
  have HA := Lib.hid hA
  have HX := Lib.hid hx
  have HR3 := Lib.hid hR
  have HL4 := Lib.hid hl4
  have HUS := Lib.hid hus
  have HWD := Lib.hid hw
  have HAL := Lib.hid (fun W => alive21_any D W)
  have HBD := Lib.hid (fun W hW => build21_any D W B word A a cap hB hw hW hl)
  obtain ⟨bx0, bx1⟩ := two_boxQ w (.int .i64 B) (.int .u64 word) 24
  have HBX : Hid (Below w.heap.size w (w.alloc (.cells #[.int .i64 B, .int .u64 word] 24))) := Lib.hid ((Below.refl _ _).alloc (Nat.le_refl _) _)
  have HX0 := Lib.hid bx0
  have HX1 := Lib.hid bx1
  obtain ⟨n, hn⟩ : ∃ n, A.length = n := ⟨_, rfl⟩
  obtain ⟨n3, hn3⟩ : ∃ n, R3.length = n := ⟨_, rfl⟩
  rw [hn] at HBD ⊢
  rw [hn3] at hl3 ⊢
  have HN := Lib.hid hn
  have HN3 := Lib.hid hn3
  obtain ⟨us0, us1⟩ := hus
  clear D hA hl hx hB hw hR hl4 bx0 bx1 hn hn3
  go_enter Try.func10, Try.ntmps10
  go_wp2_with fail
  with_reducible (refine (HAL.out _).mono ?_)
  rintro e w1 ⟨rfl, b1⟩
  have HB1 := Lib.hid (HBX.out.trans (b1.mono HBX.out.size))
  have HZ1 : Hid (w.heap.size + 1 ≤ w1.heap.size) := Lib.hid (by have h := b1.size; rw [size_boxQ] at h; exact h)
  have HC0 := Lib.hid (cell_later b1 HX0.out)
  have HC1 := Lib.hid (cell_later b1 HX1.out)
  have c0 := HC0.out
  have c1 := HC1.out
  clear b1
  go_wp2_with fail
  with_reducible (refine (HBD.out _ (HA.out.call HB1.out)).mono ?_)
  rintro e w2 (⟨P, S, M, hv, R, rfl, hg, hf, hq⟩ | ⟨rfl, _, hb2⟩)
  case inr =>
    have HB2 := Lib.hid (HB1.out.trans (hb2.mono HB1.out.size))
    clear hb2 c0 c1
    go_wp2_with fail
    go_ret
    exact ⟨rfl, HB2.out⟩
  case inl =>
  have HB2 := Lib.hid (HB1.out.trans (hq.below.mono HB1.out.size))
  have HZ12 := Lib.hid hq.below.size
  have HD0 := Lib.hid (cell_later hq.below HC0.out)
  have HD1 := Lib.hid (cell_later hq.below HC1.out)
  have HF := Lib.hid hf
  have HG := Lib.hid hg
  obtain ⟨gb1, gb2, gb3⟩ := goodQ_iff.1 hg
  obtain ⟨V, hV⟩ : ∃ V, allG A = V := ⟨_, rfl⟩
  have HPL := Lib.hid (all_lenQ HF.out.one)
  rw [hV] at HPL
  have HL : Hid ((V.length : Int) ≤ 200) := Lib.hid (by have := HPL.out; have := HF.out.sum; omega)
  have hrq := hq.rq
  rw [hV] at hrq
  have href := hq.ref
  rw [hV] at href
  have hrows := hq.rows
  rw [hV] at hrows
  obtain ⟨ef1, ef2, ef3, ef4, ef5⟩ := end_facts HA.out.ok
  obtain ⟨lo, hi, ok, hend⟩ : ∃ a b c, endAD A = (a, b, c) := ⟨_, _, _, rfl⟩
  rw [hend] at hrq ef1 ef2 ef3 ef4 ef5
  have hTP := fun W => tow_P (B := B) word gb3 gb1 W
  have hTL := fun (W : List Int) (hW : W.length ≤ 300) => tow_less (B := B) word gb3 gb1 gb2 W (by omega)
  have HTP := Lib.hid hTP
  have HTL := Lib.hid hTL
  have hVA : V.length = 0 → A = [] := fun e => by
    cases hA : A with
    | nil => rfl
    | cons p r =>
      exfalso
      have h1 := HPL.out
      have h2 := HF.out.one
      rw [hA] at h1 h2
      have h3 := h2 p List.mem_cons_self
      have h4 := (one_sumQ fun q hq => h2 q (List.mem_cons_of_mem _ hq)).1
      rw [sumP_cons, e] at h1
      omega
  have HLQ := Lib.hid (load_ok (B := B) (word := word) (V := V) gb3 gb1 gb2 HL.out ef1 (fun e => by
    have := ef4 (hVA e)
    exact ⟨(Prod.mk.inj this).1, (Prod.mk.inj (Prod.mk.inj this).2).1⟩) (towQ B word V).2)
  have HEN := Lib.hid (HD.out.ends w2 P S B word _ lo hi ok hrq)
  have HFU := Lib.hid (fun W (hW : W.length ≤ 300) => (hTP W).fuel gb1 gb2 (by omega))
  obtain ⟨u, hu⟩ : ∃ u, (towQ B word V).2 = u := ⟨_, rfl⟩
  have hub := hTL V (by have := HL.out; omega)
  rw [hu] at hub
  have hub2 : (u : Int) ≤ 1000000 := by have := HL.out; omega
  have HUE := Lib.hid hu
  rw [hu] at HLQ
  have HRO := Lib.hid (fun W (hb : Below w2.heap.size w2 W) => (HD.out.rows W P S B word _ _ (HD.out.call hrq hb)).mono fun e w' hx => (by
    obtain ⟨A, c, R, he, h1, h2, h3⟩ := hx
    exact ⟨A, R.length, c, R, he, h1, h2, rfl, h3⟩ : ∃ A n c R, e = Ending.returned (.slice A n c) ∧ RowsN w' A R ∧ lsI R = (towQ B word V).1 ∧ R.length = n ∧ Below W.heap.size W w'))
  have HUD := Lib.hid (fun W (hb : Below w2.heap.size w2 W) => HD.out.used W P S B word _ _ (HD.out.call hrq hb))
  rw [hu] at HUD
  have HLO := Lib.hid (fun W (hb : Below w2.heap.size w2 W) A n c (R : List RowI) (hR : RowsN W A R) (hl : lsI R = (towQ B word V).1) (hn : R.length = n) => (HD.out.load W B word A n c R u lo hi HG.out HWD.out hR hn ⟨by omega, by omega⟩ ef2 ef3 (fun r hr => by
    have h := (HFU.out V (by have := HL.out; omega)).2.2 r.l (by rw [← hl]; exact List.mem_map.2 ⟨r, hr, rfl⟩)
    omega) (by rw [hl]; exact HLQ.out)).mono fun e w' hx => (by
    obtain ⟨P', S', he, h1, h2, h3⟩ := hx
    rw [hl] at h1
    exact ⟨P', S', he, ⟨_, h1⟩, fun i hi => Nat.le_trans hb.size (h2 i hi), h3⟩ : ∃ P' S', e = Ending.returned (.tuple #[.pointer (some ⟨P', 0, none⟩), .int .i64 0]) ∧ (∃ ee, Rq w' P' S' B word ((towQ B word V).1, u) ee) ∧ (∀ i, S' i → w2.heap.size ≤ i) ∧ Below W.heap.size W w'))
  have HREF := Lib.hid href
  have HROW := Lib.hid hrows
  have HRG := Lib.hid (fun k h => href.blocks k h)
  have HRN := Lib.hid hq.newR
  have HGB := Lib.hid (And.intro gb1 (And.intro gb2 gb3))
  clear hq hf hg hV hrq href hrows ef1 ef2 ef3 ef4 ef5 hend hTP hTL hVA hu hub c0 c1 gb1 gb2 gb3
  by_cases h20 : (20 : Int) < n3
  · go_wp2_with fail
    go_ret
    exact ⟨rfl, HB2.out⟩
  have n20 : n3 ≤ 20 := by omega
  go_wp2_with fail
  with_reducible (refine HEN.out.mono ?_)
  rintro e w3 ⟨rfl, b3⟩
  have HC3 := Lib.hid b3
  have HB3 := Lib.hid (HB2.out.trans (b3.mono HB2.out.size))
  have HS0 : Hid (w3.drew.cell? ⟨w.heap.size, 0, none⟩ = some (.int .i64 B) ∧ w3.drew.cell? ⟨w.heap.size, 1, none⟩ = some (.int .u64 word) ∧ Below w2.heap.size w2 w3.drew) := Lib.hid ⟨cell_later HC3.out.drew HD0.out, cell_later HC3.out.drew HD1.out, HC3.out.drew⟩
  have HST := Lib.hid (fun (W W' : World) (h : W.cell? ⟨w.heap.size, 0, none⟩ = some (.int .i64 B) ∧ W.cell? ⟨w.heap.size, 1, none⟩ = some (.int .u64 word) ∧ Below w2.heap.size w2 W) (hb : Below W.heap.size W W') => (⟨cell_later hb h.1, cell_later hb h.2.1, h.2.2.trans (hb.mono h.2.2.size)⟩ : W'.cell? ⟨w.heap.size, 0, none⟩ = some (.int .i64 B) ∧ W'.cell? ⟨w.heap.size, 1, none⟩ = some (.int .u64 word) ∧ Below w2.heap.size w2 W'))
  clear b3
  go_wp2_with fail
  go_region_held3 (fun w' => w'.cell? ⟨w.heap.size, 0, none⟩ = some (.int .i64 B) ∧ w'.cell? ⟨w.heap.size, 1, none⟩ = some (.int .u64 word) ∧ Below w2.heap.size w2 w')
    (first | exact HS0.out | exact HST.out _ _ (by assumption) hbA | exact HST.out _ _ (by assumption) hbB | exact HST.out _ _ (by assumption) hbC | assumption)
    ((first
      | (go_at_call 25; (with_reducible (refine (HRO.out _ (And.right (And.right (by assumption)))).mono ?_)); rintro e wA ⟨A4, n4, k4, R4, rfl, hP4, hL4, hN4, hbA⟩)
      | (go_at_call 26; (with_reducible (refine (HUD.out _ (And.right (And.right (by assumption)))).mono ?_)); rintro e wB ⟨rfl, hbB⟩; have hP5 := hP4.call hbB)
      | (go_at_call 32; (with_reducible (refine (HLO.out _ (And.right (And.right (by assumption))) A4 n4 k4 R4 ?_ hL4 hN4).mono ?_)); (first | exact hP5 | exact hP4); rintro e wC ⟨P', S', rfl, hq5, hS5, hbC⟩)))
  rename_i hHeld
  obtain ⟨e5, hq5⟩ := hq5
  have HQ5 := Lib.hid hq5
  have HS5 := Lib.hid hS5
  have HC5 := Lib.hid hHeld.2.2
  have HE0 := Lib.hid hHeld.1
  have HE1 := Lib.hid hHeld.2.1
  have HB5 := Lib.hid (HB2.out.trans (HC5.out.mono HB2.out.size))
  have HL5 := Lib.hid (HD.out.lt _ _ _ _ _ _ _ hq5)
  have HR5 := Lib.hid (HREF.out.call HC5.out)
  have hne5 : R ≠ [] := fun e => by have h := HROW.out; rw [e] at h; exact (HTP.out V).ne h.symm
  have hrs5 : R.length ≤ 20 ∧ ∀ r, r ∈ R → r.l.length ≤ 20000 := by
    have h := HFU.out V (by have := HL.out; omega)
    refine ⟨by rw [← ls_len, HROW.out]; omega, fun r hr => ?_⟩
    have := h.2.2 r.l (by rw [← HROW.out]; exact List.mem_map.2 ⟨r, hr, rfl⟩)
    omega
  have hr5' := HR5.out
  rw [HUE.out] at hr5'
  have HSM := Lib.hid (same21_any HD.out _ P' S' B word word ((towQ B word V).1, u) _ M hv R hq5 hr5' HROW.out hne5 hrs5.1 hrs5.2)
  clear hHeld HS0 HST hq5 hS5 hP4 hP5 hL4 hN4 hbA hbB hbC hne5 hrs5 hr5'
  go_wp2_with fail
  with_reducible (refine HSM.out.mono ?_)
  rintro e w6 ⟨rfl, b6⟩
  have HB6 := Lib.hid (HB5.out.trans (b6.mono HB5.out.size))
  have HF0 := Lib.hid (cell_later b6 HE0.out)
  have HF1 := Lib.hid (cell_later b6 HE1.out)
  have hq6 := HD.out.call HQ5.out b6
  have hr6 := HR5.out.call b6
  rw [← HUE.out] at hq6
  have HQ6 : Hid (Rq w6 P' S' B word (towQ B word (V ++ List.replicate 0 x)) e5) := Lib.hid (by rw [List.replicate_zero, List.append_nil]; exact hq6)
  have HR6 : Hid (OnRef w6 B word (V ++ List.replicate 0 x) M hv R hv R w6) := Lib.hid ⟨by rw [List.replicate_zero, List.append_nil]; exact hr6, by rw [List.replicate_zero, List.append_nil]; exact HROW.out, fun k hk => Or.inl hk, Keeps.refl _ _⟩
  have HZ6 := Lib.hid (Nat.le_trans HC5.out.size b6.size)
  have HZ7 := Lib.hid HB2.out.size
  clear b6 hq6 hr6 HSM
  go_wp2_with fail
  go_loopw [19] (fun iv wr => ∃ (j : Nat) (Sj : Nat → Prop) (ej : Int × Int × Bool) (hv' : Value) (R' : List RowI), j ≤ 9 ∧ iv = .int .i64 j ∧ Rq wr P' Sj B word (towQ B word (V ++ List.replicate j x)) ej ∧ RefT wr M B word (towQ B word (V ++ List.replicate j x)).2 hv' R' ∧ lsI R' = (towQ B word (V ++ List.replicate j x)).1 ∧ (∀ k, rgT M hv' R' k → ¬ Sj k) ∧ (∀ k, Sj k → w1.heap.size ≤ k) ∧ (∀ k, rgT M hv' R' k → w1.heap.size ≤ k) ∧ w1.heap.size ≤ wr.heap.size ∧ wr.cell? ⟨w.heap.size, 0, none⟩ = some (.int .i64 B) ∧ wr.cell? ⟨w.heap.size, 1, none⟩ = some (.int .u64 word) ∧ Below w.heap.size w wr) (fun iv _ => 9 - (intOf iv).toNat)
  case atStart =>
    refine ⟨0, S', e5, hv, R, Nat.zero_le _, rfl, HQ6.out, HR6.out.ref, HR6.out.rows, fun k h1 h2 => ?_, fun k h => ?_, HRN.out, ?_, HF0.out, HF1.out, HB6.out⟩
    · have := HRG.out k h1; have := HS5.out k h2; omega
    · have h2 := HS5.out k h; have := HZ12.out; omega
    · have := HZ12.out; have := HZ6.out; omega
  case round =>
    obtain ⟨j, Sj, ej, hv', R', hj, rfl, hqj, hrj, hlj, hsep, hsn, hrn, hz, hc0, hc1, hbj⟩ := hrel
    obtain ⟨VJ, hVJ⟩ : ∃ VJ, V ++ List.replicate j x = VJ := ⟨_, rfl⟩
    have hvl : VJ.length ≤ 300 := by rw [← hVJ, List.length_append, List.length_replicate]; have := HL.out; omega
    have HVL : Hid (VJ.length ≤ 200 + j) := Lib.hid (by rw [← hVJ, List.length_append, List.length_replicate]; have := HL.out; omega)
    have HNV : Hid (V ++ List.replicate (j + 1) x = VJ ++ [x]) := Lib.hid (by rw [rep_succ, ← List.append_assoc, hVJ])
    rw [hVJ] at hqj hrj hlj
    have HQJ := Lib.hid hqj
    have HRJ := Lib.hid hrj
    have HLJ := Lib.hid hlj
    have HSEP := Lib.hid hsep
    have HSN := Lib.hid hsn
    have HRNJ := Lib.hid hrn
    have HZJ := Lib.hid hz
    have HCJ0 := Lib.hid hc0
    have HCJ1 := Lib.hid hc1
    have HBJ := Lib.hid hbj
    have HFJ := Lib.hid (HFU.out VJ hvl)
    have HUJ := Lib.hid (HTL.out VJ hvl)
    have HNEJ : Hid (R' ≠ []) := Lib.hid (fun e => by rw [e] at hlj; exact (HTP.out VJ).ne hlj.symm)
    obtain ⟨gb1, gb2, gb3⟩ := HGB.out
    have HVE := Lib.hid hVJ
    clear hqj hrj hlj hsep hsn hrn hz hc0 hc1 hbj hvl hVJ
    by_cases hlt : j < 9
    · have kk : (j : Int) < 9 := by omega
      have HPU := Lib.hid (HD.out.put wr P' Sj B word _ _ x 1 HQJ.out HX.out (by decide) (by decide) (by rw [(HTP.out VJ).wt]; have := HVL.out; show _ + (1 : Int) ≤ _; omega) (by have := HUJ.out; have := HVL.out; omega))
      rw [show ((1 : Nat) : Int) = 1 from rfl] at HPU
      go_wp2_with fail
      with_reducible (refine HPU.out.mono ?_)
      rintro e w7 ⟨S7, rfl, hq7, hk7, hs7⟩
      have HQ7 : Hid (Rq w7 P' S7 B word (towQ B word (VJ ++ [x])) (addW ej x)) := Lib.hid (by rw [tow_app]; exact hq7)
      have HK7 := Lib.hid hk7
      have HS7 := Lib.hid hs7
      have HB7 := Lib.hid (hk7.below HBJ.out HBJ.out.size (fun k h => by have := HSN.out k h; have := HZ1.out; omega))
      have HR7 := Lib.hid (HRJ.out.keep hk7 HSEP.out)
      have HC70 := Lib.hid (hk7.cell (fun h => by have := HSN.out _ h; have := HZ1.out; omega) HCJ0.out)
      have HC71 := Lib.hid (hk7.cell (fun h => by have := HSN.out _ h; have := HZ1.out; omega) HCJ1.out)
      have HRP := Lib.hid (rput21_gen w7 M B word _ hv' R' x HR7.out HNEJ.out HX.out gb3 gb1 gb2 HWD.out (by have := HUJ.out; have := HVL.out; omega) (by rw [HLJ.out]; have := HFJ.out.2.1; omega))
      have HL7 := Lib.hid (HD.out.lt _ _ _ _ _ _ _ hq7)
      have HRB := Lib.hid HRJ.out.blocks
      clear hq7 hk7 hs7 HPU
      go_wp2_with fail
      with_reducible (refine HRP.out.mono ?_)
      rintro e w8 ⟨rfl, hs8⟩
      obtain ⟨hv8, R8, hr8, hl8, ha8⟩ := hs8
      have ek : putT B (coinB word) (lsI R', (towQ B word VJ).2) x = towQ B word (VJ ++ [x]) := by rw [tow_snoc, HLJ.out]
      rw [ek] at hr8 hl8
      have HR8 := Lib.hid hr8
      have HLS8 := Lib.hid hl8
      have hk8 := ha8.keepR
      have hsep7 : ∀ k, rgT M hv' R' k → ¬ S7 k := fun k h1 h2 => by
        rcases HS7.out k h2 with h | h
        · exact HSEP.out k h1 h
        · have := HRB.out k h1; omega
      have HQ8 := Lib.hid (HD.out.past HQ7.out hk8 (fun k h1 h2 => hsep7 k h2 h1))
      have HB8 := Lib.hid (hk8.below HB7.out HB7.out.size (fun k h => by have := HRNJ.out k h; have := HZ1.out; omega))
      have HC80 := Lib.hid (hk8.cell (fun h => by have := HRNJ.out _ h; have := HZ1.out; omega) HC70.out)
      have HC81 := Lib.hid (hk8.cell (fun h => by have := HRNJ.out _ h; have := HZ1.out; omega) HC71.out)
      have HSEP8 : Hid (∀ k, rgT M hv8 R8 k → ¬ S7 k) := Lib.hid fun k h1 h2 => by
        rcases ha8.rg k h1 with h | h
        · exact hsep7 k h h2
        · have := HL7.out k h2; omega
      have HSN8 : Hid (∀ k, S7 k → w1.heap.size ≤ k) := Lib.hid fun k h => by
        rcases HS7.out k h with h | h
        · exact HSN.out k h
        · have := HZJ.out; omega
      have HRN8 : Hid (∀ k, rgT M hv8 R8 k → w1.heap.size ≤ k) := Lib.hid fun k h => by
        rcases ha8.rg k h with h | h
        · exact HRNJ.out k h
        · have := HZJ.out; have := HK7.out.size; omega
      have HZ8 : Hid (w1.heap.size ≤ w8.heap.size) := Lib.hid (by have := HZJ.out; have := HK7.out.size; have := hk8.size; omega)
      clear hr8 hl8 ha8 hk8 hsep7 ek HRP
      go_wp2_with fail
      go_roundw
      case rel => exact ⟨j + 1, S7, _, hv8, R8, by omega, by go_num, by rw [HNV.out]; exact HQ8.out, by rw [HNV.out]; exact HR8.out, by rw [HNV.out]; exact HLS8.out, HSEP8.out, HSN8.out, HRN8.out, HZ8.out, HC80.out, HC81.out, HB8.out⟩
      case measure => simp [intOf]; omega
    · have kk : ¬ (j : Int) < 9 := by omega
      have HSM := Lib.hid (same21_any HD.out wr P' Sj B word word _ _ M hv' R' HQJ.out HRJ.out HLJ.out HNEJ.out (by rw [← ls_len, HLJ.out]; have := HFJ.out.1; omega) (fun r hr => by
        have := HFJ.out.2.2 r.l (by rw [← HLJ.out]; exact List.mem_map.2 ⟨r, hr, rfl⟩)
        omega))
      go_wp2_with fail
      with_reducible (refine HSM.out.mono ?_)
      rintro e w9 ⟨rfl, b9⟩
      have HB9 := Lib.hid (HBJ.out.trans (b9.mono HBJ.out.size))
      have HG0 := Lib.hid (cell_later b9 HCJ0.out)
      have HG1 := Lib.hid (cell_later b9 HCJ1.out)
      have g0 := HG0.out
      have g1 := HG1.out
      have HRA := Lib.hid (HR3.out.call HB9.out)
      clear b9 HSM
      obtain ⟨z0, hz0⟩ : ∃ z : Bool, (decide (1 ≤ n3) && decide (n3 ≤ 16) && decide (0 ≤ us)) = z := ⟨_, rfl⟩
      have HZ0 := Lib.hid hz0
      clear hz0
      obtain ⟨F, hF⟩ : ∃ F, lsI R3 = F := ⟨_, rfl⟩
      have HF3 := Lib.hid hF
      have HFL : Hid (F.length = n3) := Lib.hid (by rw [← hF, ls_len, HN3.out])
      clear hF
      by_cases t1 : 1 ≤ n3
      case neg =>
        have t1' : ¬ (1 : Int) ≤ n3 := by omega
        have hz : z0 = false := by rw [← HZ0.out, decide_eq_false t1]; rfl
        have HZV := Lib.hid hz
        clear hz
        go_wp2_with fail
        go_loopg [20, 21, 93] n3 (fun g bv sv iv wr => ∃ (i : Nat) (s : Int), i ≤ n3 ∧ g = n3 - i ∧ iv = .int .i64 i ∧ bv = .bool (z0 && okRows B n3 F i) ∧ sv = .int .u64 s ∧ s = wtR (F.take i) ∧ (∀ q r, q < i → F[q]? = some r → r.length ≤ 70) ∧ w9 = wr)
        case atStart => exact ⟨0, 0, Nat.zero_le _, rfl, rfl, by rw [HZV.out]; first | rfl | (rw [decide_eq_false (show ¬ 0 ≤ us by omega)]; rfl), rfl, rfl, fun q r h => absurd h (Nat.not_lt_zero _), rfl⟩
        case round =>
          obtain ⟨i, s, hi, hgk, rfl, hbv, rfl, hs, h70, rfl⟩ := hrel
          obtain ⟨b, hb⟩ : ∃ b, (z0 && okRows B n3 F i) = b := ⟨_, rfl⟩
          rw [hb] at hbv
          subst hbv
          have HBB := Lib.hid hb
          have HSS := Lib.hid hs
          have H70 := Lib.hid h70
          have hsb : 0 ≤ s ∧ s ≤ 73400250 := by
            rw [hs]
            obtain ⟨b1, b2⟩ := wt_bd 70 (R := F.take i) fun r hr => by
              obtain ⟨q, hq⟩ := List.getElem?_of_mem hr
              rw [List.getElem?_take] at hq
              split at hq
              · next hlt => have := h70 q r hlt hq; omega
              · cases hq
            refine ⟨b1, Int.le_trans b2 ?_⟩
            have hp : 2 ^ (F.take i).length ≤ 2 ^ 20 := Nat.pow_le_pow_right (by decide) (by rw [List.length_take]; omega)
            omega
          obtain ⟨s0, s1⟩ := hsb
          clear hb hs h70
          by_cases hlt2 : i < n3
          · exfalso; omega
          · have kk2 : ¬ (i : Int) < n3 := by omega
            obtain rfl : i = n3 := by omega
            have hbt : IntKind.u64.wrap B = B := by rw [IntKind.wrap_u64]; have := HGB.out; omega
            have hgb := HGB.out
            obtain ⟨gb1', gb2', gb3'⟩ := hgb
            have hb1024 : IntKind.u64.wrap (B * 1024) = B * 1024 := by rw [IntKind.wrap_u64]; omega
            have hsF : s = wtR F := by rw [HSS.out, List.take_of_length_le (by rw [HFL.out]; exact Nat.le_refl _)]
            have HSF := Lib.hid hsF
            have HIFF : Hid (LoadQ B F us 3 4 ↔ (b = true ∧ s ≤ B * 1024 ∧ 0 < s)) := Lib.hid (by
              rw [loadQ_iff, ← hsF, HFL.out, ← HBB.out, Bool.and_eq_true, ← HZ0.out]
              simp only [Bool.and_eq_true, decide_eq_true_eq, and_assoc])
            have HR70 : Hid (∀ r, r ∈ R3 → r.l.length ≤ 70) := Lib.hid fun r hr => by
              obtain ⟨q, hq⟩ := List.getElem?_of_mem hr
              have hq2 := ls_at hq
              rw [HF3.out] at hq2
              have hlt : q < i := by
                rcases Nat.lt_or_ge q i with c | c
                · exact c
                · rw [List.getElem?_eq_none (by rw [HFL.out]; exact c)] at hq2; cases hq2
              exact H70.out q _ hlt hq2
            have HUN := Lib.hid (fun (hno : ¬ LoadQ B F us 3 4) => HD.out.unfit w9 B word A3 i k3 R3 us 3 4 HG.out HWD.out HRA.out HN3.out n20 HUS.out ⟨by decide, by decide⟩ ⟨by decide, by decide⟩ HR70.out (by rw [HF3.out]; exact hno))
            have HLD := Lib.hid (fun (um : Nat) (hu : us = um) (hyes : LoadQ B F us 3 4) => HD.out.load w9 B word A3 i k3 R3 um 3 4 HG.out HWD.out HRA.out HN3.out (by rw [← hu]; exact HUS.out) ⟨by decide, by decide⟩ ⟨by decide, by decide⟩ HR70.out (by rw [HF3.out, ← hu]; exact hyes))
            rw [HF3.out] at HLD
            clear hsF hgk
            obtain rfl : b = false := by rw [← HBB.out, HZV.out]; rfl
            have HNO := Lib.hid (HUN.out (fun h => by have := HIFF.out.1 h; cases this.1))
            go_wp2_with fail
            with_reducible (refine HNO.out.mono ?_)
            rintro e wA ⟨rfl, bA⟩
            have HBA := Lib.hid (HB9.out.trans (bA.mono HB9.out.size))
            clear bA
            go_wp2_with fail
            go_ret
            exact ⟨rfl, HBA.out⟩
      by_cases t2 : n3 ≤ 16
      case neg =>
        have t1' : (1 : Int) ≤ n3 := by omega
        have t2' : ¬ (n3 : Int) ≤ 16 := by omega
        have hz : z0 = false := by rw [← HZ0.out, decide_eq_false t2]; simp
        have HZV := Lib.hid hz
        clear hz
        go_wp2_with fail
        go_loopg [20, 21, 93] n3 (fun g bv sv iv wr => ∃ (i : Nat) (s : Int), i ≤ n3 ∧ g = n3 - i ∧ iv = .int .i64 i ∧ bv = .bool (z0 && okRows B n3 F i) ∧ sv = .int .u64 s ∧ s = wtR (F.take i) ∧ (∀ q r, q < i → F[q]? = some r → r.length ≤ 70) ∧ w9 = wr)
        case atStart => exact ⟨0, 0, Nat.zero_le _, rfl, rfl, by rw [HZV.out]; first | rfl | (rw [decide_eq_false (show ¬ 0 ≤ us by omega)]; rfl), rfl, rfl, fun q r h => absurd h (Nat.not_lt_zero _), rfl⟩
        case round =>
          obtain ⟨i, s, hi, hgk, rfl, hbv, rfl, hs, h70, rfl⟩ := hrel
          obtain ⟨b, hb⟩ : ∃ b, (z0 && okRows B n3 F i) = b := ⟨_, rfl⟩
          rw [hb] at hbv
          subst hbv
          have HBB := Lib.hid hb
          have HSS := Lib.hid hs
          have H70 := Lib.hid h70
          have hsb : 0 ≤ s ∧ s ≤ 73400250 := by
            rw [hs]
            obtain ⟨b1, b2⟩ := wt_bd 70 (R := F.take i) fun r hr => by
              obtain ⟨q, hq⟩ := List.getElem?_of_mem hr
              rw [List.getElem?_take] at hq
              split at hq
              · next hlt => have := h70 q r hlt hq; omega
              · cases hq
            refine ⟨b1, Int.le_trans b2 ?_⟩
            have hp : 2 ^ (F.take i).length ≤ 2 ^ 20 := Nat.pow_le_pow_right (by decide) (by rw [List.length_take]; omega)
            omega
          obtain ⟨s0, s1⟩ := hsb
          clear hb hs h70
          by_cases hlt2 : i < n3
          · have kk2 : (i : Int) < n3 := by omega
            obtain ⟨r, hr⟩ : ∃ r, R3[i]? = some r := ⟨_, List.getElem?_eq_getElem (by rw [HN3.out]; exact hlt2)⟩
            obtain ⟨br, orr, rfl, _, f0⟩ := HRA.out.at_ i r hr
            obtain ⟨l, hle⟩ : ∃ l, r.l.length = l := ⟨_, rfl⟩
            rw [hle] at f0
            have hl48 := HL4.out r (List.mem_of_getElem? hr)
            rw [hle] at hl48
            have HFI : Hid (F[i]? = some r.l) := Lib.hid (by rw [← HF3.out]; exact ls_at hr)
            have HLE := Lib.hid hle
            clear hr hle
            by_cases h7 : (70 : Int) < l
            · go_wp2_with fail
              go_ret
              exact ⟨rfl, HB9.out⟩
            have l70 : l ≤ 70 := by omega
            have hp20 : 2 ^ i ≤ 2 ^ 20 := Nat.pow_le_pow_right (by decide) (by omega)
            have hp1 : 1 ≤ 2 ^ i := Nat.one_le_two_pow
            obtain ⟨pw, hpw⟩ : ∃ p : Nat, 2 ^ i = p := ⟨_, rfl⟩
            rw [hpw] at hp20 hp1
            obtain ⟨p, hp⟩ : ∃ p : Int, (l : Int) * (pw : Int) = p := ⟨_, rfl⟩
            have hpb : 0 ≤ p ∧ p ≤ 73400320 := by
              rw [← hp]
              refine ⟨Int.mul_nonneg (by omega) (by omega), ?_⟩
              have h1 := Int.mul_le_mul (show (l : Int) ≤ 70 by omega) (show (pw : Int) ≤ 1048576 by omega) (by omega) (by decide)
              omega
            obtain ⟨pb0, pb1⟩ := hpb
            have epw : (2 : Int) ^ i = (pw : Int) := by rw [← hpw, Int.natCast_pow]; rfl
            have x1 : IntKind.u64.wrap ((l : Int) * 2 ^ i) = p := by rw [epw, hp, IntKind.wrap_u64]; omega
            have x2 : IntKind.u64.wrap (l : Int) = (l : Int) := by rw [IntKind.wrap_u64]; omega
            have x3 : IntKind.u64.wrap (i : Int) = (i : Int) := by rw [IntKind.wrap_u64]; omega
            have HSN2 : Hid (s + p = wtR (F.take (i + 1))) := Lib.hid (by rw [wt_take HFI.out, ← HSS.out, HLE.out, hpw, hp])
            have HOK : Hid ((z0 && okRows B n3 F (i + 1)) = (b && okRow B n3 i l)) := Lib.hid (by
              show (z0 && (okRows B n3 F i && match F[i]? with | none => true | some r => okRow B n3 i r.length)) = _
              rw [HFI.out, ← Bool.and_assoc, HBB.out]
              show (b && okRow B n3 i r.l.length) = _
              rw [HLE.out])
            have H71 : Hid (∀ q r, q < i + 1 → F[q]? = some r → r.length ≤ 70) := Lib.hid fun q r' hq hr' => by
              rcases Nat.lt_succ_iff_lt_or_eq.1 hq with h | rfl
              · exact H70.out q r' h hr'
              · rw [HFI.out] at hr'
                have e := Option.some.inj hr'
                rw [← e, HLE.out]; exact l70
            clear hp hpw epw
            obtain rfl : b = false := by rw [← HBB.out, HZV.out]; rfl
            have HV : Hid ((false && okRow B n3 i l) = false) := Lib.hid rfl
            go_wp2_with fail
            go_roundg (n3 - (i + 1))
            case measure => omega
            case rel => exact ⟨i + 1, s + p, by omega, rfl, by first | rfl | go_num, by rw [HOK.out, HV.out], by first | rfl | go_num, HSN2.out, H71.out, by first | rfl | trivial⟩
          · have kk2 : ¬ (i : Int) < n3 := by omega
            obtain rfl : i = n3 := by omega
            have hbt : IntKind.u64.wrap B = B := by rw [IntKind.wrap_u64]; have := HGB.out; omega
            have hgb := HGB.out
            obtain ⟨gb1', gb2', gb3'⟩ := hgb
            have hb1024 : IntKind.u64.wrap (B * 1024) = B * 1024 := by rw [IntKind.wrap_u64]; omega
            have hsF : s = wtR F := by rw [HSS.out, List.take_of_length_le (by rw [HFL.out]; exact Nat.le_refl _)]
            have HSF := Lib.hid hsF
            have HIFF : Hid (LoadQ B F us 3 4 ↔ (b = true ∧ s ≤ B * 1024 ∧ 0 < s)) := Lib.hid (by
              rw [loadQ_iff, ← hsF, HFL.out, ← HBB.out, Bool.and_eq_true, ← HZ0.out]
              simp only [Bool.and_eq_true, decide_eq_true_eq, and_assoc])
            have HR70 : Hid (∀ r, r ∈ R3 → r.l.length ≤ 70) := Lib.hid fun r hr => by
              obtain ⟨q, hq⟩ := List.getElem?_of_mem hr
              have hq2 := ls_at hq
              rw [HF3.out] at hq2
              have hlt : q < i := by
                rcases Nat.lt_or_ge q i with c | c
                · exact c
                · rw [List.getElem?_eq_none (by rw [HFL.out]; exact c)] at hq2; cases hq2
              exact H70.out q _ hlt hq2
            have HUN := Lib.hid (fun (hno : ¬ LoadQ B F us 3 4) => HD.out.unfit w9 B word A3 i k3 R3 us 3 4 HG.out HWD.out HRA.out HN3.out n20 HUS.out ⟨by decide, by decide⟩ ⟨by decide, by decide⟩ HR70.out (by rw [HF3.out]; exact hno))
            have HLD := Lib.hid (fun (um : Nat) (hu : us = um) (hyes : LoadQ B F us 3 4) => HD.out.load w9 B word A3 i k3 R3 um 3 4 HG.out HWD.out HRA.out HN3.out (by rw [← hu]; exact HUS.out) ⟨by decide, by decide⟩ ⟨by decide, by decide⟩ HR70.out (by rw [HF3.out, ← hu]; exact hyes))
            rw [HF3.out] at HLD
            clear hsF hgk
            obtain rfl : b = false := by rw [← HBB.out, HZV.out]; rfl
            have HNO := Lib.hid (HUN.out (fun h => by have := HIFF.out.1 h; cases this.1))
            go_wp2_with fail
            with_reducible (refine HNO.out.mono ?_)
            rintro e wA ⟨rfl, bA⟩
            have HBA := Lib.hid (HB9.out.trans (bA.mono HB9.out.size))
            clear bA
            go_wp2_with fail
            go_ret
            exact ⟨rfl, HBA.out⟩
      by_cases t3 : 0 ≤ us
      case neg =>
        have t1' : (1 : Int) ≤ n3 := by omega
        have t2' : (n3 : Int) ≤ 16 := by omega
        have hz : z0 = false := by rw [← HZ0.out, decide_eq_false t3]; simp
        have HZV := Lib.hid hz
        clear hz
        go_wp2_with fail
        go_loopg [20, 21, 93] n3 (fun g bv sv iv wr => ∃ (i : Nat) (s : Int), i ≤ n3 ∧ g = n3 - i ∧ iv = .int .i64 i ∧ bv = .bool (z0 && okRows B n3 F i) ∧ sv = .int .u64 s ∧ s = wtR (F.take i) ∧ (∀ q r, q < i → F[q]? = some r → r.length ≤ 70) ∧ w9 = wr)
        case atStart => exact ⟨0, 0, Nat.zero_le _, rfl, rfl, by rw [HZV.out]; first | rfl | (rw [decide_eq_false (show ¬ 0 ≤ us by omega)]; rfl), rfl, rfl, fun q r h => absurd h (Nat.not_lt_zero _), rfl⟩
        case round =>
          obtain ⟨i, s, hi, hgk, rfl, hbv, rfl, hs, h70, rfl⟩ := hrel
          obtain ⟨b, hb⟩ : ∃ b, (z0 && okRows B n3 F i) = b := ⟨_, rfl⟩
          rw [hb] at hbv
          subst hbv
          have HBB := Lib.hid hb
          have HSS := Lib.hid hs
          have H70 := Lib.hid h70
          have hsb : 0 ≤ s ∧ s ≤ 73400250 := by
            rw [hs]
            obtain ⟨b1, b2⟩ := wt_bd 70 (R := F.take i) fun r hr => by
              obtain ⟨q, hq⟩ := List.getElem?_of_mem hr
              rw [List.getElem?_take] at hq
              split at hq
              · next hlt => have := h70 q r hlt hq; omega
              · cases hq
            refine ⟨b1, Int.le_trans b2 ?_⟩
            have hp : 2 ^ (F.take i).length ≤ 2 ^ 20 := Nat.pow_le_pow_right (by decide) (by rw [List.length_take]; omega)
            omega
          obtain ⟨s0, s1⟩ := hsb
          clear hb hs h70
          by_cases hlt2 : i < n3
          · have kk2 : (i : Int) < n3 := by omega
            obtain ⟨r, hr⟩ : ∃ r, R3[i]? = some r := ⟨_, List.getElem?_eq_getElem (by rw [HN3.out]; exact hlt2)⟩
            obtain ⟨br, orr, rfl, _, f0⟩ := HRA.out.at_ i r hr
            obtain ⟨l, hle⟩ : ∃ l, r.l.length = l := ⟨_, rfl⟩
            rw [hle] at f0
            have hl48 := HL4.out r (List.mem_of_getElem? hr)
            rw [hle] at hl48
            have HFI : Hid (F[i]? = some r.l) := Lib.hid (by rw [← HF3.out]; exact ls_at hr)
            have HLE := Lib.hid hle
            clear hr hle
            by_cases h7 : (70 : Int) < l
            · go_wp2_with fail
              go_ret
              exact ⟨rfl, HB9.out⟩
            have l70 : l ≤ 70 := by omega
            have hp20 : 2 ^ i ≤ 2 ^ 20 := Nat.pow_le_pow_right (by decide) (by omega)
            have hp1 : 1 ≤ 2 ^ i := Nat.one_le_two_pow
            obtain ⟨pw, hpw⟩ : ∃ p : Nat, 2 ^ i = p := ⟨_, rfl⟩
            rw [hpw] at hp20 hp1
            obtain ⟨p, hp⟩ : ∃ p : Int, (l : Int) * (pw : Int) = p := ⟨_, rfl⟩
            have hpb : 0 ≤ p ∧ p ≤ 73400320 := by
              rw [← hp]
              refine ⟨Int.mul_nonneg (by omega) (by omega), ?_⟩
              have h1 := Int.mul_le_mul (show (l : Int) ≤ 70 by omega) (show (pw : Int) ≤ 1048576 by omega) (by omega) (by decide)
              omega
            obtain ⟨pb0, pb1⟩ := hpb
            have epw : (2 : Int) ^ i = (pw : Int) := by rw [← hpw, Int.natCast_pow]; rfl
            have x1 : IntKind.u64.wrap ((l : Int) * 2 ^ i) = p := by rw [epw, hp, IntKind.wrap_u64]; omega
            have x2 : IntKind.u64.wrap (l : Int) = (l : Int) := by rw [IntKind.wrap_u64]; omega
            have x3 : IntKind.u64.wrap (i : Int) = (i : Int) := by rw [IntKind.wrap_u64]; omega
            have HSN2 : Hid (s + p = wtR (F.take (i + 1))) := Lib.hid (by rw [wt_take HFI.out, ← HSS.out, HLE.out, hpw, hp])
            have HOK : Hid ((z0 && okRows B n3 F (i + 1)) = (b && okRow B n3 i l)) := Lib.hid (by
              show (z0 && (okRows B n3 F i && match F[i]? with | none => true | some r => okRow B n3 i r.length)) = _
              rw [HFI.out, ← Bool.and_assoc, HBB.out]
              show (b && okRow B n3 i r.l.length) = _
              rw [HLE.out])
            have H71 : Hid (∀ q r, q < i + 1 → F[q]? = some r → r.length ≤ 70) := Lib.hid fun q r' hq hr' => by
              rcases Nat.lt_succ_iff_lt_or_eq.1 hq with h | rfl
              · exact H70.out q r' h hr'
              · rw [HFI.out] at hr'
                have e := Option.some.inj hr'
                rw [← e, HLE.out]; exact l70
            clear hp hpw epw
            obtain rfl : b = false := by rw [← HBB.out, HZV.out]; rfl
            have HV : Hid ((false && okRow B n3 i l) = false) := Lib.hid rfl
            go_wp2_with fail
            go_roundg (n3 - (i + 1))
            case measure => omega
            case rel => exact ⟨i + 1, s + p, by omega, rfl, by first | rfl | go_num, by rw [HOK.out, HV.out], by first | rfl | go_num, HSN2.out, H71.out, by first | rfl | trivial⟩
          · have kk2 : ¬ (i : Int) < n3 := by omega
            obtain rfl : i = n3 := by omega
            have hbt : IntKind.u64.wrap B = B := by rw [IntKind.wrap_u64]; have := HGB.out; omega
            have hgb := HGB.out
            obtain ⟨gb1', gb2', gb3'⟩ := hgb
            have hb1024 : IntKind.u64.wrap (B * 1024) = B * 1024 := by rw [IntKind.wrap_u64]; omega
            have hsF : s = wtR F := by rw [HSS.out, List.take_of_length_le (by rw [HFL.out]; exact Nat.le_refl _)]
            have HSF := Lib.hid hsF
            have HIFF : Hid (LoadQ B F us 3 4 ↔ (b = true ∧ s ≤ B * 1024 ∧ 0 < s)) := Lib.hid (by
              rw [loadQ_iff, ← hsF, HFL.out, ← HBB.out, Bool.and_eq_true, ← HZ0.out]
              simp only [Bool.and_eq_true, decide_eq_true_eq, and_assoc])
            have HR70 : Hid (∀ r, r ∈ R3 → r.l.length ≤ 70) := Lib.hid fun r hr => by
              obtain ⟨q, hq⟩ := List.getElem?_of_mem hr
              have hq2 := ls_at hq
              rw [HF3.out] at hq2
              have hlt : q < i := by
                rcases Nat.lt_or_ge q i with c | c
                · exact c
                · rw [List.getElem?_eq_none (by rw [HFL.out]; exact c)] at hq2; cases hq2
              exact H70.out q _ hlt hq2
            have HUN := Lib.hid (fun (hno : ¬ LoadQ B F us 3 4) => HD.out.unfit w9 B word A3 i k3 R3 us 3 4 HG.out HWD.out HRA.out HN3.out n20 HUS.out ⟨by decide, by decide⟩ ⟨by decide, by decide⟩ HR70.out (by rw [HF3.out]; exact hno))
            have HLD := Lib.hid (fun (um : Nat) (hu : us = um) (hyes : LoadQ B F us 3 4) => HD.out.load w9 B word A3 i k3 R3 um 3 4 HG.out HWD.out HRA.out HN3.out (by rw [← hu]; exact HUS.out) ⟨by decide, by decide⟩ ⟨by decide, by decide⟩ HR70.out (by rw [HF3.out, ← hu]; exact hyes))
            rw [HF3.out] at HLD
            clear hsF hgk
            obtain rfl : b = false := by rw [← HBB.out, HZV.out]; rfl
            have HNO := Lib.hid (HUN.out (fun h => by have := HIFF.out.1 h; cases this.1))
            go_wp2_with fail
            with_reducible (refine HNO.out.mono ?_)
            rintro e wA ⟨rfl, bA⟩
            have HBA := Lib.hid (HB9.out.trans (bA.mono HB9.out.size))
            clear bA
            go_wp2_with fail
            go_ret
            exact ⟨rfl, HBA.out⟩
      case pos =>
        have t1' : (1 : Int) ≤ n3 := by omega
        have t2' : (n3 : Int) ≤ 16 := by omega
        have hz : z0 = true := by rw [← HZ0.out, decide_eq_true t1, decide_eq_true t2, decide_eq_true t3]; rfl
        have HZV := Lib.hid hz
        clear hz
        go_wp2_with fail
        go_loopg [20, 21, 93] n3 (fun g bv sv iv wr => ∃ (i : Nat) (s : Int), i ≤ n3 ∧ g = n3 - i ∧ iv = .int .i64 i ∧ bv = .bool (z0 && okRows B n3 F i) ∧ sv = .int .u64 s ∧ s = wtR (F.take i) ∧ (∀ q r, q < i → F[q]? = some r → r.length ≤ 70) ∧ w9 = wr)
        case atStart => exact ⟨0, 0, Nat.zero_le _, rfl, rfl, by rw [HZV.out]; first | rfl | (rw [decide_eq_false (show ¬ 0 ≤ us by omega)]; rfl), rfl, rfl, fun q r h => absurd h (Nat.not_lt_zero _), rfl⟩
        case round =>
          obtain ⟨i, s, hi, hgk, rfl, hbv, rfl, hs, h70, rfl⟩ := hrel
          obtain ⟨b, hb⟩ : ∃ b, (z0 && okRows B n3 F i) = b := ⟨_, rfl⟩
          rw [hb] at hbv
          subst hbv
          have HBB := Lib.hid hb
          have HSS := Lib.hid hs
          have H70 := Lib.hid h70
          have hsb : 0 ≤ s ∧ s ≤ 73400250 := by
            rw [hs]
            obtain ⟨b1, b2⟩ := wt_bd 70 (R := F.take i) fun r hr => by
              obtain ⟨q, hq⟩ := List.getElem?_of_mem hr
              rw [List.getElem?_take] at hq
              split at hq
              · next hlt => have := h70 q r hlt hq; omega
              · cases hq
            refine ⟨b1, Int.le_trans b2 ?_⟩
            have hp : 2 ^ (F.take i).length ≤ 2 ^ 20 := Nat.pow_le_pow_right (by decide) (by rw [List.length_take]; omega)
            omega
          obtain ⟨s0, s1⟩ := hsb
          clear hb hs h70
          by_cases hlt2 : i < n3
          · have kk2 : (i : Int) < n3 := by omega
            obtain ⟨r, hr⟩ : ∃ r, R3[i]? = some r := ⟨_, List.getElem?_eq_getElem (by rw [HN3.out]; exact hlt2)⟩
            obtain ⟨br, orr, rfl, _, f0⟩ := HRA.out.at_ i r hr
            obtain ⟨l, hle⟩ : ∃ l, r.l.length = l := ⟨_, rfl⟩
            rw [hle] at f0
            have hl48 := HL4.out r (List.mem_of_getElem? hr)
            rw [hle] at hl48
            have HFI : Hid (F[i]? = some r.l) := Lib.hid (by rw [← HF3.out]; exact ls_at hr)
            have HLE := Lib.hid hle
            clear hr hle
            by_cases h7 : (70 : Int) < l
            · go_wp2_with fail
              go_ret
              exact ⟨rfl, HB9.out⟩
            have l70 : l ≤ 70 := by omega
            have hp20 : 2 ^ i ≤ 2 ^ 20 := Nat.pow_le_pow_right (by decide) (by omega)
            have hp1 : 1 ≤ 2 ^ i := Nat.one_le_two_pow
            obtain ⟨pw, hpw⟩ : ∃ p : Nat, 2 ^ i = p := ⟨_, rfl⟩
            rw [hpw] at hp20 hp1
            obtain ⟨p, hp⟩ : ∃ p : Int, (l : Int) * (pw : Int) = p := ⟨_, rfl⟩
            have hpb : 0 ≤ p ∧ p ≤ 73400320 := by
              rw [← hp]
              refine ⟨Int.mul_nonneg (by omega) (by omega), ?_⟩
              have h1 := Int.mul_le_mul (show (l : Int) ≤ 70 by omega) (show (pw : Int) ≤ 1048576 by omega) (by omega) (by decide)
              omega
            obtain ⟨pb0, pb1⟩ := hpb
            have epw : (2 : Int) ^ i = (pw : Int) := by rw [← hpw, Int.natCast_pow]; rfl
            have x1 : IntKind.u64.wrap ((l : Int) * 2 ^ i) = p := by rw [epw, hp, IntKind.wrap_u64]; omega
            have x2 : IntKind.u64.wrap (l : Int) = (l : Int) := by rw [IntKind.wrap_u64]; omega
            have x3 : IntKind.u64.wrap (i : Int) = (i : Int) := by rw [IntKind.wrap_u64]; omega
            have HSN2 : Hid (s + p = wtR (F.take (i + 1))) := Lib.hid (by rw [wt_take HFI.out, ← HSS.out, HLE.out, hpw, hp])
            have HOK : Hid ((z0 && okRows B n3 F (i + 1)) = (b && okRow B n3 i l)) := Lib.hid (by
              show (z0 && (okRows B n3 F i && match F[i]? with | none => true | some r => okRow B n3 i r.length)) = _
              rw [HFI.out, ← Bool.and_assoc, HBB.out]
              show (b && okRow B n3 i r.l.length) = _
              rw [HLE.out])
            have H71 : Hid (∀ q r, q < i + 1 → F[q]? = some r → r.length ≤ 70) := Lib.hid fun q r' hq hr' => by
              rcases Nat.lt_succ_iff_lt_or_eq.1 hq with h | rfl
              · exact H70.out q r' h hr'
              · rw [HFI.out] at hr'
                have e := Option.some.inj hr'
                rw [← e, HLE.out]; exact l70
            clear hp hpw epw
            cases b with
            | false =>
              have HV : Hid ((false && okRow B n3 i l) = false) := Lib.hid rfl
              go_wp2_with fail
              go_roundg (n3 - (i + 1))
              case measure => omega
              case rel => exact ⟨i + 1, s + p, by omega, rfl, by first | rfl | go_num, by rw [HOK.out, HV.out], by first | rfl | go_num, HSN2.out, H71.out, by first | rfl | trivial⟩
            | true =>
            by_cases v1 : (l : Int) < B
            case neg =>
              have v1' : B ≤ (l : Int) := by omega
              have HV : Hid ((true && okRow B n3 i l) = false) := Lib.hid (by unfold okRow; rw [decide_eq_false v1]; rfl)
              go_wp2_with fail
              go_roundg (n3 - (i + 1))
              case measure => omega
              case rel => exact ⟨i + 1, s + p, by omega, rfl, by first | rfl | go_num, by rw [HOK.out, HV.out], by first | rfl | go_num, HSN2.out, H71.out, by first | rfl | trivial⟩
            by_cases v2 : 0 < i
            case neg =>
              have v2' : ¬ (0 : Int) < i := by omega
              have HV : Hid ((true && okRow B n3 i l) = true) := Lib.hid (by unfold okRow; rw [decide_eq_true v1, decide_eq_false v2]; rfl)
              go_wp2_with fail
              go_roundg (n3 - (i + 1))
              case measure => omega
              case rel => exact ⟨i + 1, s + p, by omega, rfl, by first | rfl | go_num, by rw [HOK.out, HV.out], by first | rfl | go_num, HSN2.out, H71.out, by first | rfl | trivial⟩
            have v2' : (0 : Int) < i := by omega
            by_cases v3 : i + 1 = n3
            case neg =>
              have v3' : ((i : Int) == (n3 : Int) - 1) = false := by rw [beq_eq_false_iff_ne]; omega
              have HV : Hid ((true && okRow B n3 i l) = true) := Lib.hid (by unfold okRow; rw [decide_eq_true v1, decide_eq_true v2, decide_eq_false v3]; rfl)
              go_wp2_with fail
              go_roundg (n3 - (i + 1))
              case measure => omega
              case rel => exact ⟨i + 1, s + p, by omega, rfl, by first | rfl | go_num, by rw [HOK.out, HV.out], by first | rfl | go_num, HSN2.out, H71.out, by first | rfl | trivial⟩
            have v3' : ((i : Int) == (n3 : Int) - 1) = true := by rw [beq_iff_eq]; omega
            by_cases v4 : l = 0
            case pos =>
              have HV : Hid ((true && okRow B n3 i l) = false) := Lib.hid (by unfold okRow; rw [decide_eq_true v1, decide_eq_true v2, decide_eq_true v3, decide_eq_true v4]; rfl)
              have HV3 := Lib.hid v3
              have v4' : ((l : Int) == 0) = true := by simp [v4]
              clear v3 v4
              go_wp2_with fail
              go_roundg (n3 - (i + 1))
              case measure => omega
              case rel => exact ⟨i + 1, s + p, by omega, rfl, by first | rfl | go_num, by rw [HOK.out, HV.out], by first | rfl | go_num, HSN2.out, H71.out, by first | rfl | trivial⟩
            case neg =>
              have HV : Hid ((true && okRow B n3 i l) = true) := Lib.hid (by unfold okRow; rw [decide_eq_true v1, decide_eq_true v2, decide_eq_true v3, decide_eq_false v4]; rfl)
              have HV3 := Lib.hid v3
              have v4' : ((l : Int) == 0) = false := by simp [v4]
              clear v3
              go_wp2_with fail
              go_roundg (n3 - (i + 1))
              case measure => omega
              case rel => exact ⟨i + 1, s + p, by omega, rfl, by first | rfl | go_num, by rw [HOK.out, HV.out], by first | rfl | go_num, HSN2.out, H71.out, by first | rfl | trivial⟩
          · have kk2 : ¬ (i : Int) < n3 := by omega
            obtain rfl : i = n3 := by omega
            have hbt : IntKind.u64.wrap B = B := by rw [IntKind.wrap_u64]; have := HGB.out; omega
            have hgb := HGB.out
            obtain ⟨gb1', gb2', gb3'⟩ := hgb
            have hb1024 : IntKind.u64.wrap (B * 1024) = B * 1024 := by rw [IntKind.wrap_u64]; omega
            have hsF : s = wtR F := by rw [HSS.out, List.take_of_length_le (by rw [HFL.out]; exact Nat.le_refl _)]
            have HSF := Lib.hid hsF
            have HIFF : Hid (LoadQ B F us 3 4 ↔ (b = true ∧ s ≤ B * 1024 ∧ 0 < s)) := Lib.hid (by
              rw [loadQ_iff, ← hsF, HFL.out, ← HBB.out, Bool.and_eq_true, ← HZ0.out]
              simp only [Bool.and_eq_true, decide_eq_true_eq, and_assoc])
            have HR70 : Hid (∀ r, r ∈ R3 → r.l.length ≤ 70) := Lib.hid fun r hr => by
              obtain ⟨q, hq⟩ := List.getElem?_of_mem hr
              have hq2 := ls_at hq
              rw [HF3.out] at hq2
              have hlt : q < i := by
                rcases Nat.lt_or_ge q i with c | c
                · exact c
                · rw [List.getElem?_eq_none (by rw [HFL.out]; exact c)] at hq2; cases hq2
              exact H70.out q _ hlt hq2
            have HUN := Lib.hid (fun (hno : ¬ LoadQ B F us 3 4) => HD.out.unfit w9 B word A3 i k3 R3 us 3 4 HG.out HWD.out HRA.out HN3.out n20 HUS.out ⟨by decide, by decide⟩ ⟨by decide, by decide⟩ HR70.out (by rw [HF3.out]; exact hno))
            have HLD := Lib.hid (fun (um : Nat) (hu : us = um) (hyes : LoadQ B F us 3 4) => HD.out.load w9 B word A3 i k3 R3 um 3 4 HG.out HWD.out HRA.out HN3.out (by rw [← hu]; exact HUS.out) ⟨by decide, by decide⟩ ⟨by decide, by decide⟩ HR70.out (by rw [HF3.out, ← hu]; exact hyes))
            rw [HF3.out] at HLD
            clear hsF hgk
            cases b with
            | false =>
              have HNO := Lib.hid (HUN.out (fun h => by have := HIFF.out.1 h; cases this.1))
              go_wp2_with fail
              with_reducible (refine HNO.out.mono ?_)
              rintro e wA ⟨rfl, bA⟩
              have HBA := Lib.hid (HB9.out.trans (bA.mono HB9.out.size))
              clear bA
              go_wp2_with fail
              go_ret
              exact ⟨rfl, HBA.out⟩
            | true =>
            by_cases v1 : s ≤ B * 1024
            case neg =>
              have HNO := Lib.hid (HUN.out (fun h => by have := HIFF.out.1 h; exact v1 this.2.1))
              go_wp2_with fail
              with_reducible (refine HNO.out.mono ?_)
              rintro e wA ⟨rfl, bA⟩
              have HBA := Lib.hid (HB9.out.trans (bA.mono HB9.out.size))
              clear bA
              go_wp2_with fail
              go_ret
              exact ⟨rfl, HBA.out⟩
            by_cases v2 : 0 < s
            case neg =>
              have HNO := Lib.hid (HUN.out (fun h => by have := HIFF.out.1 h; exact v2 this.2.2))
              go_wp2_with fail
              with_reducible (refine HNO.out.mono ?_)
              rintro e wA ⟨rfl, bA⟩
              have HBA := Lib.hid (HB9.out.trans (bA.mono HB9.out.size))
              clear bA
              go_wp2_with fail
              go_ret
              exact ⟨rfl, HBA.out⟩
            have HYES := Lib.hid (HIFF.out.2 ⟨rfl, v1, v2⟩)
            obtain ⟨um, hum⟩ : ∃ um : Nat, us = um := ⟨us.toNat, by have := HYES.out.use; omega⟩
            have HLW := Lib.hid (HLD.out um hum HYES.out)
            subst hum
            go_wp2_with fail
            with_reducible (refine HLW.out.mono ?_)
            rintro e wA ⟨PA, SA, rfl, hqA, _, bA⟩
            have HBA := Lib.hid (HB9.out.trans (bA.mono HB9.out.size))
            have HCA := Lib.hid bA
            have HTO := Lib.hid (HD.out.total wA PA SA B word _ _ hqA)
            rw [← HSF.out] at HTO
            have HRW := Lib.hid (fun W (hb : Below wA.heap.size wA W) => HD.out.rows W PA SA B word _ _ (HD.out.call hqA hb))
            have HUW := Lib.hid (fun W (hb : Below wA.heap.size wA W) => HD.out.used W PA SA B word _ _ (HD.out.call hqA hb))
            clear hqA bA HLW
            go_wp2_with fail
            with_reducible (refine HTO.out.mono ?_)
            rintro e wB ⟨rfl, bB⟩
            have HBB2 := Lib.hid (HBA.out.trans (bB.mono HBA.out.size))
            have HRW2 := Lib.hid (HRW.out wB bB)
            have HCB := Lib.hid bB
            clear bB
            go_wp2_with fail
            with_reducible (refine HRW2.out.mono ?_)
            rintro e wC ⟨A6, c6, R6, rfl, hr6', hl6', bC⟩
            have HBC := Lib.hid (HBB2.out.trans (bC.mono HBB2.out.size))
            have HCC := Lib.hid (HCB.out.trans (bC.mono HCB.out.size))
            have hlen6 : R6.length = i := by rw [← ls_len, hl6', HFL.out]
            have HSX := Lib.hid (rsame21_any wC A6 A3 i c6 k3 R6 R3 hr6' (HR3.out.call HBC.out) hlen6 (by rw [hl6', HF3.out]) (by omega) (fun r hr => by
              have hm : r.l ∈ lsI R3 := by rw [HF3.out, ← hl6']; exact List.mem_map.2 ⟨r, hr, rfl⟩
              obtain ⟨q, hq, e⟩ := List.mem_map.1 hm
              have := HR70.out q hq
              rw [e] at this
              omega))
            rw [hlen6]
            clear hr6' hl6' bC hlen6
            go_wp2_with fail
            with_reducible (refine HSX.out.mono ?_)
            rintro e wD ⟨rfl, bD⟩
            have HBD2 := Lib.hid (HBC.out.trans (bD.mono HBC.out.size))
            have HUW2 := Lib.hid (HUW.out wD (HCC.out.trans (bD.mono HCC.out.size)))
            clear bD
            go_wp2_with fail
            with_reducible (refine HUW2.out.mono ?_)
            rintro e wE ⟨rfl, bE⟩
            have HBE := Lib.hid (HBD2.out.trans (bE.mono HBD2.out.size))
            clear bE
            go_wp2_with fail
            go_ret
            exact ⟨rfl, HBE.out⟩
end Go.Proofs.Ytbdfmnlfdhhnjaa
