/-
  The landed package coins: Halve, Split, Up.
-/
import Derived.Test.YtecnlpkfcggimaaCoinC
import Derived.Test.YtecnlpkfcggimaaRowN
import Derived.Test.YtecnlpkfcggimaaShelfS
import Derived.Deep.QuietTactic
import Derived.BigQuiet
namespace Go.Proofs.Ytecnlpkfcggimaa
set_option linter.unusedVariables false
set_option linter.unusedSimpArgs false
open Go.RowKit Go.Sort

/-- What Split answers. -/
def SplitR (w : World) (keep : Int) (L : List Int) (e : Ending) (w' : World) : Prop :=
  ∃ u v, e = .returned (.tuple #[u, v]) ∧ FullN w' w.heap.size u (stayL keep L) ∧ PartN w' w.heap.size v (restL keep L) ∧ SplitN u v ∧ Below w.heap.size w w'
theorem splitr_of {w w1 w2 : World} {g n k cap d : Nat} {keep : Int} {L : List Int} {B : Option Addr} (hown : OwnN w1 w.heap.size (.slice (some ⟨g, 0, none⟩) n cap) (sortI L)) (hn : L.length = n) (hk : keepN keep n = k) (ok : ∀ p, p ∈ L → I64 p)
    (hB : B = some ⟨g, 0 + k, none⟩ ∨ (n = k ∧ B = some ⟨g, 0, none⟩)) (hd : n - k ≤ d) (hb : Below w.heap.size w w1) (h2 : Below w1.heap.size w1 w2) : SplitR w keep L (.returned (.tuple #[.slice (some ⟨g, 0, none⟩) k k, .slice B (n - k) d])) w2 := by
  obtain ⟨l1, l2⟩ := stay_len keep L
  rw [hn, hk] at l1 l2
  have hkn : k ≤ n := by rw [← hk]; exact (keepN_le keep n).1
  have hlt := hown.lt g rfl
  obtain ⟨A', cap', e, hN⟩ := hown.rows (fun p hp => ok p (sortI_mem.1 hp))
  obtain ⟨rfl, _, rfl⟩ := Value.slice.inj e
  have hfz : ∀ o, w1.frozen? ⟨g, o, none⟩ = false := World.ownsRow.frozenAt (show w1.ownsRow w.heap.size 2 1 (.slice (some ⟨g, 0, none⟩) n cap) _ (intsL (sortI L)) by
    have hX : w1.ownsRow w.heap.size 2 1 (.slice (some ⟨g, 0, none⟩) n cap) (sortI L).length (intsL (sortI L)) := hown
    rwa [sortI_len, hn] at hX)
  have hR := refsplit_of (base := w.heap.size) hn hk hN hlt.1 hB k d
  obtain ⟨r1, _, r3, _, r5, r6⟩ := hR
  have hF : FullN w1 w.heap.size (.slice (some ⟨g, 0, none⟩) k k) (stayL keep L) := ⟨_, by rw [l1], r1.at_, fun e => (by cases e), fun a e => (by cases e; exact hlt)⟩
  have hP : PartN w1 w.heap.size (.slice B (n - k) d) (restL keep L) := by
    refine ⟨B, d, by rw [l2], by omega, r3.at_, ?_, ?_⟩
    · rw [l2]
      rcases hB with rfl | ⟨e, rfl⟩
      · refine Or.inr ⟨g, 0 + k, rfl, hlt.2, fun i hi => ?_, hfz⟩
        obtain ⟨b, off, e, _, c0⟩ := r3.at_ i _ (List.getElem?_eq_getElem (by rw [l2]; exact hi))
        cases e
        exact ⟨_, c0⟩
      · exact Or.inl (by omega)
    · intro a e
      rcases hB with rfl | ⟨_, rfl⟩ <;> cases e <;> exact hlt
  refine ⟨_, _, rfl, hF.call h2, hP.call h2, ?_, hb.trans (h2.mono hb.size)⟩
  intro b o m c b' o' m' c' e1 e2 i j hi hj
  obtain ⟨e3, rfl, rfl⟩ := Value.slice.inj e1
  obtain ⟨e4, rfl, rfl⟩ := Value.slice.inj e2
  cases e3
  rcases hB with rfl | ⟨e5, rfl⟩
  · cases e4
    intro e6
    have := (Addr.mk.inj e6).2.1
    omega
  · omega
theorem splitr_nil {w w1 w2 : World} {keep : Int} {L : List Int} (hL : L.length = 0) (hb : Below w.heap.size w w1) (h2 : Below w1.heap.size w1 w2) : SplitR w keep L (.returned (.tuple #[.slice none 0 0, .slice none 0 0])) w2 := by
  obtain ⟨l1, l2⟩ := stay_len keep L
  have hk := (keepN_le keep L.length).1
  have e1 : stayL keep L = [] := List.eq_nil_of_length_eq_zero (by omega)
  have e2 : restL keep L = [] := List.eq_nil_of_length_eq_zero (by omega)
  refine ⟨_, _, rfl, ?_, ?_, ?_, hb.trans (h2.mono hb.size)⟩
  · rw [e1]; exact ⟨none, rfl, fun i p hi => by simp at hi, fun _ => rfl, fun a e => (by cases e)⟩
  · rw [e2]; exact ⟨none, 0, rfl, Nat.le_refl _, fun i p hi => by simp at hi, Or.inl rfl, fun a e => (by cases e)⟩
  · intro b o m c b' o' m' c' e1 e2
    cases e1

set_option maxRecDepth 100000 in
set_option maxHeartbeats 4000000 in
theorem coin_split (w : World) (A : Option Addr) (n cw : Nat) (L : List Int) (keep : Int) (h : Nums w A L) (hn : L.length = n) (hc : n ≤ cw) (hl : n ≤ 50000) (hk : I64 keep) :
    Calls Try.prog 15 #[.slice A n cw, .int .i64 keep] w fun e w' => SplitR w keep L e w' := by
  have HC := Lib.hid (clone_nums w A n cw L h hn (by omega))
  have HN := Lib.hid hn
  have HIL := Lib.hid h.ok
  obtain ⟨k0, k1⟩ := hk
  obtain ⟨k, hk⟩ : ∃ k, keepN keep n = k := ⟨_, rfl⟩
  have HK := Lib.hid hk
  have hkn : k ≤ n := by rw [← hk]; exact (keepN_le keep n).1
  have hmn : (if (n - min keep.toNat n) % 2 = 0 then min keep.toNat n else min keep.toNat n + 1) = k := hk
  obtain ⟨m, hm⟩ : ∃ m : Nat, max keep 0 = (m : Int) := ⟨(max keep 0).toNat, by omega⟩
  obtain ⟨s, hs⟩ : ∃ s : Nat, min m n = s := ⟨_, rfl⟩
  obtain ⟨r, hr⟩ : ∃ r : Nat, (n - s) % 2 = r := ⟨_, rfl⟩
  have hms : min keep.toNat n = s := by omega
  rw [hms] at hmn
  have hsk : s + r = k := by
    by_cases hp : (n - s) % 2 = 0
    · rw [if_pos hp] at hmn; omega
    · rw [if_neg hp] at hmn; omega
  have M0 := hm
  have M1 : min (m : Int) (n : Int) = (s : Int) := by omega
  have t1 : ((n : Int) - (s : Int)).tmod 2 = (r : Int) := by rw [Int.tmod_eq_emod_of_nonneg (by omega)]; omega
  have t2 : ((n : Int) - (s : Int)) % 2 = (r : Int) := by omega
  have t3 : (s : Int) + (r : Int) = (k : Int) := by omega
  have HM0 := Lib.hid M0
  have HSN : Hid (s ≤ n) := Lib.hid (by omega)
  clear h hn hk hms hmn hs hr hm M0
  go_enter Try.func15, Try.ntmps15
  go_wp2_with fail
  refine HC.out.mono ?_
  rintro e w1 ⟨v, rfl, hown, hb⟩
  have HS := Lib.hid (sort_nums w1 w.heap.size v L hown (by rw [HN.out]; omega))
  have HB := Lib.hid hb
  have hbs := hb.size
  clear hb
  go_wp2_with fail
  refine HS.out.mono ?_
  rintro e w2 ⟨rfl, hown2, hg2⟩
  have HB2 := Lib.hid (hown.below HB.out hg2 hbs)
  clear hg2 hown HS
  rcases hown2.either (fun p hp => HIL.out p (sortI_mem.1 hp)) with ⟨rfl, hnil⟩ | ⟨g, off, cap, rfl, hnums, hg0, hg1, hcap⟩
  · have hn0 : n = 0 := by rw [← HN.out, ← sortI_len L, hnil]; rfl
    subst hn0
    have hk0 : k = 0 := by omega
    have hs0 : s = 0 := by have := HSN.out; omega
    have hr0 : r = 0 := by omega
    subst hk0 hs0 hr0
    clear hown2 hnil t1 t2 t3 M1 hsk hc
    have M0 := HM0.out
    have M2 : min (m : Int) 0 = 0 := by omega
    go_wp2_with fail
    go_quiet (fail)
    rename_i nq
    go_wp2_with fail
    go_ret2
    exact splitr_nil HN.out HB2.out (below_drewN (Below.refl _ _) nq)
  · rw [sortI_len, HN.out] at hcap ⊢
    have hoff : off = 0 := by
      rcases hown2.2 with ⟨e2, _⟩ | ⟨g', cap', cur, e2, _⟩
      · cases e2
      · injection e2 with e3
        exact (Addr.mk.inj (Option.some.inj e3)).2.1
    subst hoff
    rw [sortI_len, HN.out] at hown2
    have HO := Lib.hid hown2
    clear hown2 hnums hc
    have p2 : (k : Int) ≤ cap := by omega
    have p3 : k ≤ cap := by omega
    have p4 : (n : Int) ≤ cap := by omega
    have p5 : (k : Int) ≤ n := by omega
    have MM := HM0.out
    by_cases hck : cap = k
    · have hnk : n = k := by omega
      have HF := Lib.hid (fun nq => splitr_of (d := 0) (w2 := w2.drewN nq) HO.out HN.out HK.out HIL.out (Or.inr ⟨hnk, rfl⟩) (by omega) HB2.out (below_drewN (Below.refl _ _) nq))
      subst hnk
      subst hck
      go_wp2_with fail
      go_quiet (fail)
      rename_i nq
      go_wp2_with fail
      go_ret2
      first | exact HF.out nq | (simp only [Nat.sub_self] at HF ⊢; exact HF.out nq)
    · have HF := Lib.hid (fun nq => splitr_of (d := cap - k) (w2 := w2.drewN nq) HO.out HN.out HK.out HIL.out (Or.inl rfl) (by omega) HB2.out (below_drewN (Below.refl _ _) nq))
      go_wp2_with fail
      go_quiet (fail)
      rename_i nq
      go_wp2_with fail
      go_ret2
      first | exact HF.out nq | (simp only [Nat.zero_add] at HF ⊢; exact HF.out nq)

/-- Is the value at an index greater? -/
def overN (x : Int) (L : List Int) (i : Nat) : Bool := match L[i]? with | none => true | some y => decide (x < y)
theorem over_count (x : Int) : ∀ (L : List Int), (((List.range L.length).countP (fun i => !overN x L i) : Nat) : Int) = upV L x
  | [] => rfl
  | p :: r => by
    have ih := over_count x r
    rw [List.length_cons, List.range_succ_eq_map, List.countP_cons, List.countP_map, upV_cons, ← ih]
    have e : ((fun i => !overN x (p :: r) i) ∘ Nat.succ) = fun i => !overN x r i := by
      funext i
      show (!overN x (p :: r) (i + 1)) = _
      unfold overN
      rw [List.getElem?_cons_succ]
    rw [e]
    have e2 : overN x (p :: r) 0 = decide (x < p) := rfl
    rw [e2]
    by_cases h : x < p
    · have hp : ¬ p ≤ x := by omega
      rw [decide_eq_true h]; simp [hp]
    · have hp : p ≤ x := by omega
      rw [decide_eq_false h]; simp [hp]; omega
theorem over_mono {x : Int} {L : List Int} (h : L.Pairwise (fun a b => a ≤ b)) {a b : Nat} (hab : a ≤ b) (hb : b < L.length) (ha : overN x L a = true) : overN x L b = true := by
  unfold overN at *
  rw [List.getElem?_eq_getElem hb]
  rw [List.getElem?_eq_getElem (show a < L.length by omega)] at ha
  simp only [decide_eq_true_eq] at ha ⊢
  rcases Nat.lt_or_ge a b with hlt | hge
  · have := List.pairwise_iff_getElem.1 h a b (by omega) hb hlt
    omega
  · have : a = b := by omega
    subst this
    exact ha

set_option maxRecDepth 100000 in
set_option maxHeartbeats 1000000 in
/-- One index asked. -/
theorem nask_any (w : World) (X Y cap n i : Nat) (A : Option Addr) (L : List Int) (x : Int) (hi : i < n) (hn : L.length = n) (hl : n ≤ 100000) (hx : I64 x) (h : Nums w A L)
    (cX : w.cell? ⟨X, 0, none⟩ = some (.slice A n cap)) (cY : w.cell? ⟨Y, 0, none⟩ = some (.int .i64 x)) :
    Calls Try.prog 26 (#[.int .i64 i] ++ #[.pointer (some ⟨X, 0, none⟩), .pointer (some ⟨Y, 0, none⟩)]) w fun e w' => e = .returned (.bool (overN x L i)) ∧ ∃ q, w' = w.drewN q := by
  have hiz : (i : Int) < (n : Int) := by omega
  have hxk := List.getElem?_eq_getElem (l := L) (i := i) (by omega)
  generalize L[i]'(by omega) = y at hxk
  obtain ⟨b0, off, rfl, hbl, c0⟩ := h.at_ i _ hxk
  have ha : overN x L i = decide (x < y) := by unfold overN; rw [hxk]
  obtain ⟨x0, x1⟩ := hx
  rw [ha]
  clear ha hxk h hn
  go_enter Try.func26, Try.ntmps26
  go_wp2_with fail
  go_quiet (fail)
  go_wp2_with fail
  go_ret
  exact ⟨rfl, _, rfl⟩

theorem grow_belowC {B : Nat} {w : World} (q : Nat) (os : Array Obj) (hB : B ≤ w.heap.size) : Below B w (grow (w.drewN q) os) := below_grown_sl B w q os hB

set_option maxHeartbeats 1000000 in
theorem nsrch_any (w : World) (X Y cap n : Nat) (A : Option Addr) (L : List Int) (x m : Int) (hn : L.length = n) (hl : n ≤ 100000) (hx : I64 x) (h : Nums w A L) (hs : L.Pairwise (fun a b => a ≤ b))
    (cX : w.cell? ⟨X, 0, none⟩ = some (.slice A n cap)) (cY : w.cell? ⟨Y, 0, none⟩ = some (.int .i64 x)) (hk : upV L x = m) :
    Calls Try.prog 25 #[.int .i64 n, .func (.func 26) #[] #[.pointer (some ⟨X, 0, none⟩), .pointer (some ⟨Y, 0, none⟩)]] w fun e w' => e = .returned (.int .i64 m) ∧ Below w.heap.size w w' := by
  have eg : ∀ args w, (callFunc 26 args).run Try.prog w = .ok (.enter 26 args) w := enters_of Try.func26 (by kernel_rfl) rfl
  have lX := World.block_lt_of_cell? (a := ⟨X, 0, none⟩) w cX
  have lY := World.block_lt_of_cell? (a := ⟨Y, 0, none⟩) w cY
  have hS := Any.sort_Search Try.search 26 #[.pointer (some ⟨X, 0, none⟩), .pointer (some ⟨Y, 0, none⟩)] n (fun i => overN x L i) w eg (by omega)
    (fun q os i hi => (nask_any _ X Y cap n i A L x hi hn hl hx (h.call (grow_belowC q os (Nat.le_refl _))) (Go.cell_grown lX cX q os) (Go.cell_grown lY cY q os)).mono
      fun _ _ ⟨he, q, hq⟩ => ⟨he, q, #[], by rw [hq, grow_empty]⟩)
    (fun a b hab hb ha => over_mono hs (by omega) (by rw [hn]; exact hb) ha)
  have e : (((List.range n).countP (fun i => !overN x L i) : Nat) : Int) = m := by rw [← hn, over_count]; exact hk
  refine hS.mono ?_
  rintro e' w' ⟨rfl, q, os, rfl⟩
  exact ⟨by rw [← e], grow_belowC q os (Nat.le_refl _)⟩

/-- Two boxes. -/
structure BoxN (w : World) (X Y : Nat) (A : Option Addr) (n cap : Nat) (x : Int) : Prop where
  cX : w.cell? ⟨X, 0, none⟩ = some (.slice A n cap)
  cY : w.cell? ⟨Y, 0, none⟩ = some (.int .i64 x)
theorem boxN_new (w : World) (A : Option Addr) (n cap : Nat) (x : Int) : BoxN ((w.alloc (.cells #[.slice A n cap] 31)).alloc (.cells #[.int .i64 x] 2)) w.heap.size (w.heap.size + 1) A n cap x := by
  have h1 : (w.alloc (.cells #[.slice A n cap] 31)).cell? ⟨w.heap.size, 0, none⟩ = some (.slice A n cap) := by
    rw [Joins.cell_of_block (heap_alloc_new w _)]; rfl
  have h2 := Joins.cell_of_block (i := 0) (heap_alloc_new (w.alloc (.cells #[.slice A n cap] 31)) (.cells #[.int .i64 x] 2))
  have e : (w.alloc (.cells #[.slice A n cap] 31)).heap.size = w.heap.size + 1 := by simp
  rw [e] at h2
  exact ⟨cell_later ((Below.refl _ _).alloc (Nat.le_refl _) _) h1, by rw [h2]; rfl⟩

set_option maxHeartbeats 1000000 in
theorem coin_up (w : World) (A : Option Addr) (n cap : Nat) (L : List Int) (x m : Int) (h : Nums w A L) (hs : L.Pairwise (fun a b => a ≤ b)) (hn : L.length = n) (hc : n ≤ cap) (hl : n ≤ 50000) (hx : I64 x) (hm : upV L x = m) :
    Calls Try.prog 21 #[.slice A n cap, .int .i64 x] w fun e w' => e = .returned (.int .i64 m) ∧ Below w.heap.size w w' := by
  have HB := Lib.hid (boxN_new w A n cap x)
  have HBL : Hid (Below w.heap.size w ((w.alloc (.cells #[.slice A n cap] 31)).alloc (.cells #[.int .i64 x] 2))) := Lib.hid (((Below.refl _ _).alloc (Nat.le_refl _) _).alloc (by simp) _)
  have HS := Lib.hid (nsrch_any _ w.heap.size (w.heap.size + 1) cap n A L x m hn (by omega) hx (h.call HBL.out) hs HB.out.cX HB.out.cY hm)
  have cX := HB.out.cX
  clear h hs hn hm
  go_enter Try.func21, Try.ntmps21
  go_wp2_with fail
  refine HS.out.mono ?_
  rintro e w3 ⟨rfl, hb3⟩
  have HB3 := Lib.hid (HBL.out.trans (hb3.mono HBL.out.size))
  clear hb3
  go_wp2_with fail
  go_ret
  exact ⟨rfl, HB3.out⟩

set_option maxRecDepth 100000 in
set_option maxHeartbeats 2000000 in
theorem coin_halve (w : World) (A : Option Addr) (n cap : Nat) (L : List Int) (b : Bool) (h : Nums w A L) (hn : L.length = n) (hl : n ≤ 50000) :
    Calls Try.prog 18 #[.slice A n cap, .bool b] w fun e w' => ∃ v, e = .returned v ∧ OwnN w' w.heap.size v (halvB b L) ∧ Below w.heap.size w w' := by
  have HI := Lib.hid h
  have HL := Lib.hid hn
  obtain ⟨s, hs⟩ : ∃ s : Nat, (if b = true then 1 else 0) = s := ⟨_, rfl⟩
  have HS := Lib.hid hs
  have hs1 : s ≤ 1 := by cases b <;> simp at hs <;> omega
  have H0 : Hid (halvB b (L.take s) = []) := Lib.hid (by
    rw [← hs]
    cases b with
    | false => rfl
    | true => cases L <;> rfl)
  have HLE : Hid (∀ i, (halvB b (L.take i)).length ≤ 50000) := Lib.hid fun i => by
    rw [halv_len]
    have : (L.take i).length ≤ n := by rw [List.length_take]; omega
    split <;> omega
  clear h hn
  have key : ∀ (w2 : World), w2 = w → True := fun _ _ => trivial
  clear key
  cases b with
  | false =>
    obtain rfl : s = 0 := by simpa using hs.symm
    clear hs
    go_enter Try.func18, Try.ntmps18
    go_wp2_with fail
    go_loopw [6, 7] (fun ov iv wr => ∃ (i : Nat), i ≤ n + 1 ∧ i % 2 = 0 ∧ iv = .int .i64 i ∧ OwnN wr w.heap.size ov (halvB false (L.take i)) ∧ Below w.heap.size w wr) (fun _ iv _ => n + 2 - (intOf iv).toNat)
    case atStart => exact ⟨0, Nat.zero_le _, rfl, rfl, OwnN.nil _ _, Below.refl _ _⟩
    case round =>
      obtain ⟨i, hi, hp, rfl, ho, hb⟩ := hrel
      have HO := Lib.hid ho
      have HB := Lib.hid hb
      have hbs := hb.size
      obtain ⟨vA, vk, hv⟩ := ho.form
      obtain ⟨m, hm⟩ : ∃ m, (halvB false (L.take i)).length = m := ⟨_, rfl⟩
      rw [hm] at hv
      subst hv
      have hm2 : m ≤ 50000 := by rw [← hm]; exact HLE.out i
      have HM := Lib.hid hm
      clear ho hb hm
      by_cases hlt : i < n
      · have kk : (i : Int) < n := by omega
        have hxk := List.getElem?_eq_getElem (l := L) (i := i) (by rw [HL.out]; exact hlt)
        generalize L[i]'(by rw [HL.out]; exact hlt) = x at hxk
        obtain ⟨ba, oa, rfl, _, c0⟩ := (HI.out.call HB.out).at_ i x hxk
        have HST := Lib.hid (halv_step false L i x hxk (by simpa using hp))
        have HAL : Hid (Below wr.heap.size wr (wr.alloc (.cells #[.int .i64 x] 2))) := Lib.hid ((Below.refl _ _).alloc (Nat.le_refl _) _)
        clear hxk
        go_wp2_with (at_builtin; refine wpList_append_num rfl _ _ rfl w.heap.size _ _ m HM.out wr.heap.size x rfl (HO.out.call HAL.out) rfl ?c1 ?c4 ?c5 ?_)
        case c1 => go_simp
        case c4 => omega
        case c5 => exact Nat.le_trans hbs HAL.out.size
        intro g' cp w1 hown' hgrow _
        have hb4 := (HO.out.call HAL.out).below (HB.out.trans (HAL.out.mono hbs)) hgrow (Nat.le_trans hbs HAL.out.size)
        rw [← HST.out] at hown'
        clear hgrow
        go_wp2_with fail
        go_roundw
        case rel => exact ⟨i + 2, by omega, by omega, by go_num, hown', hb4⟩
        case measure => simp [intOf]; omega
      · have kk : ¬ (i : Int) < n := by omega
        have HT : Hid (L.take i = L) := Lib.hid (List.take_of_length_le (by rw [HL.out]; omega))
        rw [HT.out] at HO
        go_wp2_with fail
        go_ret
        exact ⟨_, rfl, HO.out, HB.out⟩
  | true =>
    obtain rfl : s = 1 := by simpa using hs.symm
    clear hs
    go_enter Try.func18, Try.ntmps18
    go_wp2_with fail
    go_loopw [6, 7] (fun ov iv wr => ∃ (i : Nat), i ≤ n + 1 ∧ i % 2 = 1 ∧ iv = .int .i64 i ∧ OwnN wr w.heap.size ov (halvB true (L.take i)) ∧ Below w.heap.size w wr) (fun _ iv _ => n + 2 - (intOf iv).toNat)
    case atStart => exact ⟨1, by omega, rfl, rfl, by rw [H0.out]; exact OwnN.nil _ _, Below.refl _ _⟩
    case round =>
      obtain ⟨i, hi, hp, rfl, ho, hb⟩ := hrel
      have HO := Lib.hid ho
      have HB := Lib.hid hb
      have hbs := hb.size
      obtain ⟨vA, vk, hv⟩ := ho.form
      obtain ⟨m, hm⟩ : ∃ m, (halvB true (L.take i)).length = m := ⟨_, rfl⟩
      rw [hm] at hv
      subst hv
      have hm2 : m ≤ 50000 := by rw [← hm]; exact HLE.out i
      have HM := Lib.hid hm
      clear ho hb hm
      by_cases hlt : i < n
      · have kk : (i : Int) < n := by omega
        have hxk := List.getElem?_eq_getElem (l := L) (i := i) (by rw [HL.out]; exact hlt)
        generalize L[i]'(by rw [HL.out]; exact hlt) = x at hxk
        obtain ⟨ba, oa, rfl, _, c0⟩ := (HI.out.call HB.out).at_ i x hxk
        have HST := Lib.hid (halv_step true L i x hxk (by simpa using hp))
        have HAL : Hid (Below wr.heap.size wr (wr.alloc (.cells #[.int .i64 x] 2))) := Lib.hid ((Below.refl _ _).alloc (Nat.le_refl _) _)
        clear hxk
        go_wp2_with (at_builtin; refine wpList_append_num rfl _ _ rfl w.heap.size _ _ m HM.out wr.heap.size x rfl (HO.out.call HAL.out) rfl ?c1 ?c4 ?c5 ?_)
        case c1 => go_simp
        case c4 => omega
        case c5 => exact Nat.le_trans hbs HAL.out.size
        intro g' cp w1 hown' hgrow _
        have hb4 := (HO.out.call HAL.out).below (HB.out.trans (HAL.out.mono hbs)) hgrow (Nat.le_trans hbs HAL.out.size)
        rw [← HST.out] at hown'
        clear hgrow
        go_wp2_with fail
        go_roundw
        case rel => exact ⟨i + 2, by omega, by omega, by go_num, hown', hb4⟩
        case measure => simp [intOf]; omega
      · have kk : ¬ (i : Int) < n := by omega
        have HT : Hid (L.take i = L) := Lib.hid (List.take_of_length_le (by rw [HL.out]; omega))
        rw [HT.out] at HO
        go_wp2_with fail
        go_ret
        exact ⟨_, rfl, HO.out, HB.out⟩

theorem row_does : RowDoes where
  halve := coin_halve
  split := coin_split
  up := coin_up

end Go.Proofs.Ytecnlpkfcggimaa
