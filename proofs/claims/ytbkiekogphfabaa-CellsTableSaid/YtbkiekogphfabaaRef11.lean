/-
  Walks: layer 11's reference: all cells of a closeness.
-/
import Derived.Test.YtbkiekogphfabaaCellI
import Derived.Test.YtbkiekogphfabaaCellF
import Derived.Test.YtbkiekogphfabaaROver
import Derived.Test.YtbkiekogphfabaaWideE
namespace Go.Proofs.Ytbkiekogphfabaa
set_option linter.unusedVariables false
set_option linter.unusedSimpArgs false
open Go.RowKit

def lowsC (u v : Int) (n : Nat) : List Int := (List.range n).map fun i => lowC u v i
def repsC (u v : Int) (n : Nat) : List Int := (List.range n).map fun i => repC u v (lowC u v i)
theorem lowsC_len (u v : Int) (n : Nat) : (lowsC u v n).length = n := by unfold lowsC; simp
theorem repsC_len (u v : Int) (n : Nat) : (repsC u v n).length = n := by unfold repsC; simp
theorem lowsC_succ (u v : Int) (n : Nat) : lowsC u v (n + 1) = lowsC u v n ++ [lowC u v n] := by unfold lowsC; rw [List.range_succ, List.map_append]; rfl
theorem repsC_succ (u v : Int) (n : Nat) : repsC u v (n + 1) = repsC u v n ++ [repC u v (lowC u v n)] := by unfold repsC; rw [List.range_succ, List.map_append]; rfl
theorem lowsC_at (u v : Int) {n i : Nat} (h : i < n) : (lowsC u v n)[i]? = some (lowC u v i) := by unfold lowsC; rw [List.getElem?_map, List.getElem?_range h]; rfl
theorem repsC_at (u v : Int) {n i : Nat} (h : i < n) : (repsC u v n)[i]? = some (repC u v (lowC u v i)) := by unfold repsC; rw [List.getElem?_map, List.getElem?_range h]; rfl

/-- The two rows on their way. -/
structure Rows11 (w0 w : World) (u v : Int) (a b : Value) (L R : List Int) : Prop where
  p0 : w.cell? ⟨w0.heap.size, 0, none⟩ = some (.int .u64 u)
  p1 : w.cell? ⟨w0.heap.size, 1, none⟩ = some (.int .u64 v)
  oa : OwnW w (w0.heap.size + 1) a L
  ob : OwnW w (w0.heap.size + 1) b R
  ne : ∀ g, a.ownBlock = some g → b.ownBlock ≠ some g
  sz : w0.heap.size + 1 ≤ w.heap.size
  bel : Below w0.heap.size w0 w
theorem Rows11.call {w0 w w' : World} {u v : Int} {a b : Value} {L R : List Int} (h : Rows11 w0 w u v a b L R) (hb : Below w.heap.size w w') : Rows11 w0 w' u v a b L R :=
  ⟨cell_later hb h.p0, cell_later hb h.p1, h.oa.call hb, h.ob.call hb, h.ne, Nat.le_trans h.sz hb.size, h.bel.trans (hb.mono h.bel.size)⟩
theorem Rows11.swap {w0 w : World} {u v : Int} {a b : Value} {L R : List Int} (h : Rows11 w0 w u v a b L R) : Rows11 w0 w u v b a R L :=
  ⟨h.p0, h.p1, h.ob, h.oa, fun g h1 h2 => h.ne g h2 h1, h.sz, h.bel⟩
/-- Behind an append to the first of them. -/
theorem Rows11.put {w0 w w' : World} {u v : Int} {a b : Value} {L R M : List Int} {g n cap : Nat} (h : Rows11 w0 w u v a b L R) (ho : OwnW w' (w0.heap.size + 1) (.slice (some ⟨g, 0, none⟩) n cap) M) (hg : w.grownBy w' a.ownBlock) (hat : a.ownBlock = some g ∨ g = w.heap.size) :
    Rows11 w0 w' u v (.slice (some ⟨g, 0, none⟩) n cap) b M R := by
  have hne : ∀ k, a.ownBlock = some k → w0.heap.size + 1 ≤ k := fun k hk => (h.oa.lt k hk).1
  have hb1 : Below (w0.heap.size + 1) w w' := (Below.refl _ _).grown hg h.sz hne
  have hc : ∀ (o : Nat) (y : Value), w.cell? ⟨w0.heap.size, o, none⟩ = some y → w'.cell? ⟨w0.heap.size, o, none⟩ = some y := fun o y hy =>
    (World.cell?_of_block (a := ⟨w0.heap.size, o, none⟩) (hb1.block _ (by show w0.heap.size < w0.heap.size + 1; omega))).trans hy
  refine ⟨hc 0 _ h.p0, hc 1 _ h.p1, ho, h.ob.other hg ?_, ?_, Nat.le_trans h.sz hg.size, h.bel.trans (hb1.mono (by omega))⟩
  · cases hb : b.ownBlock with
    | none => exact .inl rfl
    | some k =>
      refine .inr fun e => ?_
      exact h.ne k e.symm hb
  · intro k hk hbk
    have hk' : g = k := by simpa [Value.ownBlock] using hk
    subst hk'
    rcases hat with e | e
    · exact h.ne g e hbk
    · have := (h.ob.lt g hbk).2; omega

/-- What the reference tells. -/
def RefC (w : World) (u v : Int) (e : Ending) (w' : World) : Prop :=
  (∃ n A c A' c', TabN u v n ∧ 1 ≤ n ∧ n ≤ 4096 ∧ e = .returned (.tuple #[.slice A n c, .slice A' n c', .bool true]) ∧ OwnW w' (w.heap.size + 1) (.slice A n c) (lowsC u v n) ∧ OwnW w' (w.heap.size + 1) (.slice A' n c') (repsC u v n) ∧ Below w.heap.size w w') ∨
  (e = .returned (.tuple #[.slice none 0 0, .slice none 0 0, .bool false]) ∧ lowC u v 4096 ≤ 9223372036854775808 ∧ Below w.heap.size w w')
theorem rtimes_lo (u v lo : Int) (g : GoodC u v) (h : 1 ≤ lo) (h2 : lo ≤ 9223372036854775808) (w : World) :
    Calls Try.prog 19 #[.int .u64 lo, .int .u64 (v + u)] w fun e w' => e = .returned (.agg #[.int .u64 (hiW (lo * (v + u))), .int .u64 (loW (lo * (v + u)))]) ∧ Below w.heap.size w w' := by
  obtain ⟨g0, g1, g2⟩ := g
  exact rtimes_any lo (v + u) (by unfold Word; omega) (by unfold Word; omega) w
theorem rover_lo (u v lo r s : Int) (g : GoodC u v) (h : 1 ≤ lo) (h2 : lo ≤ 9223372036854775808) (hr : rawC u v lo = r) (hs : ovR (lo * (v + u)) v = s) (w : World) :
    Calls Try.prog 22 #[.agg #[.int .u64 (hiW (lo * (v + u))), .int .u64 (loW (lo * (v + u)))], .int .u64 v] w fun e w' => e = .returned (.tuple #[.int .u64 r, .int .u64 s, .bool true]) ∧ Below w.heap.size w w' := by
  obtain ⟨g0, g1, g2⟩ := id g
  obtain ⟨m0, m1⟩ := mul_bd (a := lo) (b := v + u) (by unfold Word; omega) (by unfold Word; omega)
  have hf := rover_num (lo * (v + u)) v m0 m1 (by unfold Word; omega) w
  obtain ⟨e1, e2⟩ := ov_raw g h h2
  rw [e1, e2, hr, hs] at hf
  exact hf
theorem rtimes_up (u v r : Int) (g : GoodC u v) (h : 0 ≤ r) (h2 : r < 18446744073709551616) (w : World) :
    Calls Try.prog 19 #[.int .u64 r, .int .u64 v] w fun e w' => e = .returned (.agg #[.int .u64 (hiW (r * v)), .int .u64 (loW (r * v))]) ∧ Below w.heap.size w w' := by
  obtain ⟨g0, g1, g2⟩ := g
  exact rtimes_any r v (by unfold Word; omega) (by unfold Word; omega) w
theorem rover_up (u v r q s : Int) (b : Bool) (g : GoodC u v) (h : 0 ≤ r) (h2 : r < 18446744073709551616) (hq : ovQ (r * v) (v - u) = q) (hs : ovR (r * v) (v - u) = s) (hb : ovB (r * v) (v - u) = b) (w : World) :
    Calls Try.prog 22 #[.agg #[.int .u64 (hiW (r * v)), .int .u64 (loW (r * v))], .int .u64 (v - u)] w fun e w' => e = .returned (.tuple #[.int .u64 q, .int .u64 s, .bool b]) ∧ Below w.heap.size w w' := by
  obtain ⟨g0, g1, g2⟩ := id g
  obtain ⟨m0, m1⟩ := mul_bd (a := r) (b := v) (by unfold Word; omega) (by unfold Word; omega)
  have hf := rover_num (r * v) (v - u) m0 m1 (by unfold Word; omega) w
  rw [hq, hs, hb] at hf
  exact hf
/-- The ways of a round: where the cell ends, and what stands for it. -/
theorem ref_ways {u v lo r q E R : Int} {b : Bool} (g : GoodC u v) (h : 1 ≤ lo) (hr : rawC u v lo = r) (hq : ovQ (r * v) (v - u) = q) (hb : ovB (r * v) (v - u) = b) (hE : endC u v lo = E) (hR : repC u v lo = R) :
    (9223372036854775808 < r ∧ E = 9223372036854775808 ∧ R = 9223372036854775807) ∨
    (r < 9223372036854775808 ∧ b = true ∧ q < 9223372036854775808 ∧ E = q ∧ R = r) ∨
    (r < 9223372036854775808 ∧ b = true ∧ 9223372036854775808 ≤ q ∧ E = 9223372036854775808 ∧ R = r) ∨
    (r < 9223372036854775808 ∧ b = false ∧ E = 9223372036854775808 ∧ R = r) ∨
    (r = 9223372036854775808 ∧ b = true ∧ 9223372036854775808 ≤ q ∧ E = 9223372036854775808 ∧ R = 9223372036854775807) ∨
    (r = 9223372036854775808 ∧ b = false ∧ E = 9223372036854775808 ∧ R = 9223372036854775807) := by
  have hr0 := raw_ge g h
  have hw := way_ge g (show 0 ≤ r by omega)
  unfold endC at hE
  unfold repC at hR
  rw [hr] at hE hR hr0
  rcases ov_way g (show 0 ≤ r by omega) with ⟨e1, e2, e3⟩ | ⟨e1, e2, e3⟩
  · rw [hb] at e1
    rw [hq] at e2
    subst e1
    by_cases c1 : 9223372036854775808 < r
    · left; omega
    · by_cases c2 : r = 9223372036854775808
      · right; right; right; right; left; exact ⟨c2, rfl, by omega, by omega, by omega⟩
      · by_cases c3 : q < 9223372036854775808
        · right; left; exact ⟨by omega, rfl, by omega, by omega, by omega⟩
        · right; right; left; exact ⟨by omega, rfl, by omega, by omega, by omega⟩
  · rw [hb] at e1
    subst e1
    by_cases c1 : 9223372036854775808 < r
    · left; omega
    · by_cases c2 : r = 9223372036854775808
      · right; right; right; right; right; exact ⟨c2, rfl, by omega, by omega⟩
      · right; right; right; left; exact ⟨by omega, rfl, by omega, by omega⟩

/-- What a round needs of its cell: the two calls ahead, their numbers, and the ways. -/
theorem rows_done {w0 w : World} {u v : Int} {k : Nat} {a b : Value} (g : GoodC u v) (hk : k ≤ 4096) (hl : ∀ j, j < k → lowC u v j ≤ 9223372036854775808) (hn : ¬ lowC u v k ≤ 9223372036854775808) (h : Rows11 w0 w u v a b (lowsC u v k) (repsC u v k)) :
    RefC w0 u v (.returned (.tuple #[a, b, .bool true])) w := by
  have ht : TabN u v k := ⟨hl, by have := low_le u v k; omega⟩
  obtain ⟨A, c, rfl⟩ := h.oa.form
  obtain ⟨A', c', rfl⟩ := h.ob.form
  have oa := h.oa
  have ob := h.ob
  rw [lowsC_len] at oa ⊢
  rw [repsC_len] at ob ⊢
  exact Or.inl ⟨k, A, c, A', c', ht, tab_pos ht, hk, rfl, oa, ob, h.bel⟩

set_option maxRecDepth 100000 in
set_option maxHeartbeats 4000000 in
theorem rcells_any (u v : Int) (g : GoodC u v) (w : World) :
    Calls Try.prog 12 #[.agg #[.int .u64 u, .int .u64 v]] w (RefC w u v) := by
  have HG : Hid (GoodC u v) := Lib.hid g
  obtain ⟨g0, g1, g2⟩ := id g
  clear g
  go_enter Try.func12, Try.ntmps12
  go_wp2_with fail
  have W0 : Rows11 w (w.alloc (.cells #[.int .u64 u, .int .u64 v] 24)) u v (.slice none 0 0) (.slice none 0 0) (lowsC u v 0) (repsC u v 0) :=
    ⟨by go_simp, by go_simp, OwnW.nil _ _, OwnW.nil _ _, fun g h => by simp [Value.ownBlock] at h, by simp, (Below.refl _ _).alloc (Nat.le_refl _) _⟩
  generalize w.alloc (.cells #[.int .u64 u, .int .u64 v] 24) = w1 at *
  go_loopw [5, 6, 8] (fun a b s wr => ∃ k : Nat, k ≤ 4096 ∧ s = .int .u64 (lowC u v k) ∧ (∀ j, j < k → lowC u v j ≤ 9223372036854775808) ∧ Rows11 w wr u v a b (lowsC u v k) (repsC u v k)) (fun _ _ s _ => (9223372036854775810 - intOf s).toNat)
  case atStart => exact ⟨0, by omega, rfl, fun j hj => absurd hj (Nat.not_lt_zero _), W0⟩
  case round =>
    clear W0
    obtain ⟨k, hk, rfl, hl, hw⟩ := hrel
    have HL := Lib.hid hl
    have HW := Lib.hid hw
    clear hl hw
    have l0 := low_pos HG.out k
    have HU := Lib.hid (low_succ u v k)
    have HF : Hid (k = 4096 → lowC u v k = lowC u v 4096) := Lib.hid fun h => by rw [h]
    have HK : Hid (¬ lowC u v k ≤ 9223372036854775808 → RefC w u v (.returned (.tuple #[u5, u6, .bool true])) wr) := Lib.hid fun h => rows_done HG.out hk HL.out h HW.out
    generalize hlo : lowC u v k = lo at *
    have HLO := Lib.hid hlo
    by_cases hle : lo ≤ 9223372036854775808
    · clear HK hlo
      obtain ⟨A, c, rfl⟩ := HW.out.oa.form_at (lowsC_len u v k)
      obtain ⟨A', c', rfl⟩ := HW.out.ob.form_at (repsC_len u v k)
      by_cases hf : k = 4096
      · have HF2 := Lib.hid (HF.out hf)
        have bel := HW.out.bel
        have e1 : ((k : Int) == 4096) = true := by simp; omega
        clear hf
        go_wp2_with fail
        refine bodyPost_ret (v := .tuple #[.slice none 0 0, .slice none 0 0, .bool false]) (by simp [results, Try.results12, go_sem]) rfl (Or.inr ⟨rfl, ?_, bel⟩)
        have := HF2.out
        omega
      · have e1 : ((k : Int) == 4096) = false := by simp; omega
        obtain ⟨r, hr⟩ : ∃ r, rawC u v lo = r := ⟨_, rfl⟩
        obtain ⟨s, hs⟩ : ∃ s, ovR (lo * (v + u)) v = s := ⟨_, rfl⟩
        obtain ⟨q, hq⟩ : ∃ q, ovQ (r * v) (v - u) = q := ⟨_, rfl⟩
        obtain ⟨s', hs'⟩ : ∃ s', ovR (r * v) (v - u) = s' := ⟨_, rfl⟩
        obtain ⟨b, hb⟩ : ∃ b, ovB (r * v) (v - u) = b := ⟨_, rfl⟩
        obtain ⟨E, hE⟩ : ∃ E, endC u v lo = E := ⟨_, rfl⟩
        obtain ⟨R, hR⟩ : ∃ R, repC u v lo = R := ⟨_, rfl⟩
        have hw := word_raw HG.out l0 hle
        rw [hr] at hw
        obtain ⟨r0, r1⟩ := hw
        have E0 : lo ≤ E := by rw [← hE]; exact end_ge HG.out l0 hle
        have E1 : E ≤ 9223372036854775808 := by rw [← hE]; exact end_le u v lo
        have HT1 := Lib.hid (rtimes_lo u v lo HG.out l0 hle)
        have HO1 := Lib.hid (rover_lo u v lo r s HG.out l0 hle hr hs)
        have HT2 := Lib.hid (rtimes_up u v r HG.out r0 r1)
        have HO2 := Lib.hid (rover_up u v r q s' b HG.out r0 r1 hq hs' hb)
        have HWY := Lib.hid (ref_ways HG.out l0 hr hq hb hE hR)
        have HE := Lib.hid hE
        have HR := Lib.hid hR
        have wa : IntKind.u64.wrap (v + u) = v + u := by rw [IntKind.wrap_u64]; omega
        have ws : IntKind.u64.wrap (v - u) = v - u := by rw [IntKind.wrap_u64]; omega
        have WA := Lib.hid wa
        have WS := Lib.hid ws
        clear hr hs hq hs' hb hE hR wa ws
        have HW1 := Lib.hid (HW.out.call ((Below.refl _ _).alloc (Nat.le_refl _) (.cells #[.int .u64 lo] 22)))
        go_wp2_with (at_builtin; refine wpList_append_word rfl _ _ rfl (w.heap.size + 1) _ (lowsC u v k) k (lowsC_len u v k) wr.heap.size lo rfl HW1.out.oa rfl ?c1 ?c2 ?c3 ?_)
        case c1 => go_simp
        case c2 => omega
        case c3 => exact HW1.out.sz
        intro g' cap' w2 ho hg hat
        have P0 := HW1.out.put ho hg (by rcases hat with h | h; exact .inl h; exact .inr (by rw [World.size_alloc]; exact h))
        rw [show lowsC u v k ++ [lo] = lowsC u v (k + 1) by rw [lowsC_succ, HLO.out]] at P0
        have P1 := Lib.hid P0
        have d0 := P0.p0
        have d1 := P0.p1
        have hb2 := P0.bel
        have wa := WA.out
        clear P0 ho hg hat HW1
        go_wp2_with fail
        have BB : Below w2.heap.size w2 w2.drew := (Below.refl _ _).drew
        go_region_held3 (fun w' => w'.cell? ⟨w.heap.size, 0, none⟩ = some (.int .u64 u) ∧ w'.cell? ⟨w.heap.size, 1, none⟩ = some (.int .u64 v) ∧ Below w2.heap.size w2 w')
          ((first | exact ⟨d0, d1, BB⟩ | exact keep2 (by assumption) hbA | assumption))
          (first
            | (go_at_call 19; refine (HT1.out _).mono ?_; rintro e wA ⟨rfl, hbA⟩)
            | (go_at_call 22; refine (HO1.out _).mono ?_; rintro e wA ⟨rfl, hbA⟩))
        have P2 := Lib.hid (P1.out.call (keep2_bel (by assumption)))
        rename_i hheld
        obtain ⟨d2, d3, _⟩ := id hheld
        clear hheld d0 d1 wa
        have wAP := P2
        rcases HWY.out with ⟨k1, rfl, rfl⟩ | ⟨k1, rfl, k2, rfl, rfl⟩ | ⟨k1, rfl, k2, rfl, rfl⟩ | ⟨k1, rfl, rfl, rfl⟩ | ⟨rfl, rfl, k2, rfl, rfl⟩ | ⟨rfl, rfl, rfl, rfl⟩
        · have c1 : decide (r ≤ 9223372036854775808) = false := decide_eq_false (by omega)
          clear HT2 HO2 HWY
          have P3 := Lib.hid ((wAP).out.swap.call ((Below.refl _ _).alloc (Nat.le_refl _) (.cells #[.int .u64 9223372036854775807] 22)))
          go_wp2_with (at_builtin; refine wpList_append_word rfl _ _ rfl (w.heap.size + 1) _ (repsC u v k) k (repsC_len u v k) wA.heap.size (9223372036854775807) rfl P3.out.oa rfl ?c10 ?c20 ?c30 ?_)
          case c10 => go_simp
          case c20 => omega
          case c30 => exact P3.out.sz
          intro g2 cap2 w5 ho hg hat
          have P4 := (P3.out.put ho hg (by rcases hat with h | h; exact .inl h; exact .inr (by rw [World.size_alloc]; exact h))).swap
          rw [show repsC u v k ++ [9223372036854775807] = repsC u v (k + 1) by rw [repsC_succ, HLO.out, HR.out]] at P4
          have P5 := Lib.hid P4
          clear P4 ho hg hat P3
          go_wp2_with fail
          go_roundw
          case rel => exact ⟨k + 1, by omega, by rw [HU.out, HE.out] <;> rfl, fun j hj => by
            by_cases e : j = k
            · subst e; have := HLO.out; omega
            · exact HL.out j (by omega), P5.out⟩
          case measure => simp [intOf]; omega
        · have c1 : (R == 9223372036854775808) = false := by simp; omega
          have ws := WS.out
          clear HWY
          go_wp2_with fail
          have BB2 : Below wA.heap.size wA wA.drew := (Below.refl _ _).drew
          go_region_held3 (fun w' => w'.cell? ⟨w.heap.size, 0, none⟩ = some (.int .u64 u) ∧ w'.cell? ⟨w.heap.size, 1, none⟩ = some (.int .u64 v) ∧ Below wA.heap.size wA w')
            ((first | exact ⟨d2, d3, BB2⟩ | exact keep2 (by assumption) hbB | assumption))
            (first
              | (go_at_call 19; refine (HT2.out _).mono ?_; rintro e wB ⟨rfl, hbB⟩)
              | (go_at_call 22; refine (HO2.out _).mono ?_; rintro e wB ⟨rfl, hbB⟩))
          have wBP := Lib.hid (P2.out.call (keep2_bel (by assumption)))
          clear ws
          have P3 := Lib.hid ((wBP).out.swap.call ((Below.refl _ _).alloc (Nat.le_refl _) (.cells #[.int .u64 R] 22)))
          go_wp2_with (at_builtin; refine wpList_append_word rfl _ _ rfl (w.heap.size + 1) _ (repsC u v k) k (repsC_len u v k) wB.heap.size (R) rfl P3.out.oa rfl ?c11 ?c21 ?c31 ?_)
          case c11 => go_simp
          case c21 => omega
          case c31 => exact P3.out.sz
          intro g2 cap2 w5 ho hg hat
          have P4 := (P3.out.put ho hg (by rcases hat with h | h; exact .inl h; exact .inr (by rw [World.size_alloc]; exact h))).swap
          rw [show repsC u v k ++ [R] = repsC u v (k + 1) by rw [repsC_succ, HLO.out, HR.out]] at P4
          have P5 := Lib.hid P4
          clear P4 ho hg hat P3
          go_wp2_with fail
          go_roundw
          case rel => exact ⟨k + 1, by omega, by rw [HU.out, HE.out] <;> rfl, fun j hj => by
            by_cases e : j = k
            · subst e; have := HLO.out; omega
            · exact HL.out j (by omega), P5.out⟩
          case measure => simp [intOf]; omega
        · have c1 : (R == 9223372036854775808) = false := by simp; omega
          have c2 : decide (q < 9223372036854775808) = false := decide_eq_false (by omega)
          have ws := WS.out
          clear HWY
          go_wp2_with fail
          have BB2 : Below wA.heap.size wA wA.drew := (Below.refl _ _).drew
          go_region_held3 (fun w' => w'.cell? ⟨w.heap.size, 0, none⟩ = some (.int .u64 u) ∧ w'.cell? ⟨w.heap.size, 1, none⟩ = some (.int .u64 v) ∧ Below wA.heap.size wA w')
            ((first | exact ⟨d2, d3, BB2⟩ | exact keep2 (by assumption) hbB | assumption))
            (first
              | (go_at_call 19; refine (HT2.out _).mono ?_; rintro e wB ⟨rfl, hbB⟩)
              | (go_at_call 22; refine (HO2.out _).mono ?_; rintro e wB ⟨rfl, hbB⟩))
          have wBP := Lib.hid (P2.out.call (keep2_bel (by assumption)))
          clear ws
          have P3 := Lib.hid ((wBP).out.swap.call ((Below.refl _ _).alloc (Nat.le_refl _) (.cells #[.int .u64 R] 22)))
          go_wp2_with (at_builtin; refine wpList_append_word rfl _ _ rfl (w.heap.size + 1) _ (repsC u v k) k (repsC_len u v k) wB.heap.size (R) rfl P3.out.oa rfl ?c12 ?c22 ?c32 ?_)
          case c12 => go_simp
          case c22 => omega
          case c32 => exact P3.out.sz
          intro g2 cap2 w5 ho hg hat
          have P4 := (P3.out.put ho hg (by rcases hat with h | h; exact .inl h; exact .inr (by rw [World.size_alloc]; exact h))).swap
          rw [show repsC u v k ++ [R] = repsC u v (k + 1) by rw [repsC_succ, HLO.out, HR.out]] at P4
          have P5 := Lib.hid P4
          clear P4 ho hg hat P3
          go_wp2_with fail
          go_roundw
          case rel => exact ⟨k + 1, by omega, by rw [HU.out, HE.out] <;> rfl, fun j hj => by
            by_cases e : j = k
            · subst e; have := HLO.out; omega
            · exact HL.out j (by omega), P5.out⟩
          case measure => simp [intOf]; omega
        · have c1 : (R == 9223372036854775808) = false := by simp; omega
          have ws := WS.out
          clear HWY
          go_wp2_with fail
          have BB2 : Below wA.heap.size wA wA.drew := (Below.refl _ _).drew
          go_region_held3 (fun w' => w'.cell? ⟨w.heap.size, 0, none⟩ = some (.int .u64 u) ∧ w'.cell? ⟨w.heap.size, 1, none⟩ = some (.int .u64 v) ∧ Below wA.heap.size wA w')
            ((first | exact ⟨d2, d3, BB2⟩ | exact keep2 (by assumption) hbB | assumption))
            (first
              | (go_at_call 19; refine (HT2.out _).mono ?_; rintro e wB ⟨rfl, hbB⟩)
              | (go_at_call 22; refine (HO2.out _).mono ?_; rintro e wB ⟨rfl, hbB⟩))
          have wBP := Lib.hid (P2.out.call (keep2_bel (by assumption)))
          clear ws
          have P3 := Lib.hid ((wBP).out.swap.call ((Below.refl _ _).alloc (Nat.le_refl _) (.cells #[.int .u64 R] 22)))
          go_wp2_with (at_builtin; refine wpList_append_word rfl _ _ rfl (w.heap.size + 1) _ (repsC u v k) k (repsC_len u v k) wB.heap.size (R) rfl P3.out.oa rfl ?c13 ?c23 ?c33 ?_)
          case c13 => go_simp
          case c23 => omega
          case c33 => exact P3.out.sz
          intro g2 cap2 w5 ho hg hat
          have P4 := (P3.out.put ho hg (by rcases hat with h | h; exact .inl h; exact .inr (by rw [World.size_alloc]; exact h))).swap
          rw [show repsC u v k ++ [R] = repsC u v (k + 1) by rw [repsC_succ, HLO.out, HR.out]] at P4
          have P5 := Lib.hid P4
          clear P4 ho hg hat P3
          go_wp2_with fail
          go_roundw
          case rel => exact ⟨k + 1, by omega, by rw [HU.out, HE.out] <;> rfl, fun j hj => by
            by_cases e : j = k
            · subst e; have := HLO.out; omega
            · exact HL.out j (by omega), P5.out⟩
          case measure => simp [intOf]; omega
        · have c2 : decide (q < 9223372036854775808) = false := decide_eq_false (by omega)
          have ws := WS.out
          clear HWY
          go_wp2_with fail
          have BB2 : Below wA.heap.size wA wA.drew := (Below.refl _ _).drew
          go_region_held3 (fun w' => w'.cell? ⟨w.heap.size, 0, none⟩ = some (.int .u64 u) ∧ w'.cell? ⟨w.heap.size, 1, none⟩ = some (.int .u64 v) ∧ Below wA.heap.size wA w')
            ((first | exact ⟨d2, d3, BB2⟩ | exact keep2 (by assumption) hbB | assumption))
            (first
              | (go_at_call 19; refine (HT2.out _).mono ?_; rintro e wB ⟨rfl, hbB⟩)
              | (go_at_call 22; refine (HO2.out _).mono ?_; rintro e wB ⟨rfl, hbB⟩))
          have wBP := Lib.hid (P2.out.call (keep2_bel (by assumption)))
          clear ws
          have P3 := Lib.hid ((wBP).out.swap.call ((Below.refl _ _).alloc (Nat.le_refl _) (.cells #[.int .u64 9223372036854775807] 22)))
          go_wp2_with (at_builtin; refine wpList_append_word rfl _ _ rfl (w.heap.size + 1) _ (repsC u v k) k (repsC_len u v k) wB.heap.size (9223372036854775807) rfl P3.out.oa rfl ?c14 ?c24 ?c34 ?_)
          case c14 => go_simp
          case c24 => omega
          case c34 => exact P3.out.sz
          intro g2 cap2 w5 ho hg hat
          have P4 := (P3.out.put ho hg (by rcases hat with h | h; exact .inl h; exact .inr (by rw [World.size_alloc]; exact h))).swap
          rw [show repsC u v k ++ [9223372036854775807] = repsC u v (k + 1) by rw [repsC_succ, HLO.out, HR.out]] at P4
          have P5 := Lib.hid P4
          clear P4 ho hg hat P3
          go_wp2_with fail
          go_roundw
          case rel => exact ⟨k + 1, by omega, by rw [HU.out, HE.out] <;> rfl, fun j hj => by
            by_cases e : j = k
            · subst e; have := HLO.out; omega
            · exact HL.out j (by omega), P5.out⟩
          case measure => simp [intOf]; omega
        · skip
          have ws := WS.out
          clear HWY
          go_wp2_with fail
          have BB2 : Below wA.heap.size wA wA.drew := (Below.refl _ _).drew
          go_region_held3 (fun w' => w'.cell? ⟨w.heap.size, 0, none⟩ = some (.int .u64 u) ∧ w'.cell? ⟨w.heap.size, 1, none⟩ = some (.int .u64 v) ∧ Below wA.heap.size wA w')
            ((first | exact ⟨d2, d3, BB2⟩ | exact keep2 (by assumption) hbB | assumption))
            (first
              | (go_at_call 19; refine (HT2.out _).mono ?_; rintro e wB ⟨rfl, hbB⟩)
              | (go_at_call 22; refine (HO2.out _).mono ?_; rintro e wB ⟨rfl, hbB⟩))
          have wBP := Lib.hid (P2.out.call (keep2_bel (by assumption)))
          clear ws
          have P3 := Lib.hid ((wBP).out.swap.call ((Below.refl _ _).alloc (Nat.le_refl _) (.cells #[.int .u64 9223372036854775807] 22)))
          go_wp2_with (at_builtin; refine wpList_append_word rfl _ _ rfl (w.heap.size + 1) _ (repsC u v k) k (repsC_len u v k) wB.heap.size (9223372036854775807) rfl P3.out.oa rfl ?c15 ?c25 ?c35 ?_)
          case c15 => go_simp
          case c25 => omega
          case c35 => exact P3.out.sz
          intro g2 cap2 w5 ho hg hat
          have P4 := (P3.out.put ho hg (by rcases hat with h | h; exact .inl h; exact .inr (by rw [World.size_alloc]; exact h))).swap
          rw [show repsC u v k ++ [9223372036854775807] = repsC u v (k + 1) by rw [repsC_succ, HLO.out, HR.out]] at P4
          have P5 := Lib.hid P4
          clear P4 ho hg hat P3
          go_wp2_with fail
          go_roundw
          case rel => exact ⟨k + 1, by omega, by rw [HU.out, HE.out] <;> rfl, fun j hj => by
            by_cases e : j = k
            · subst e; have := HLO.out; omega
            · exact HL.out j (by omega), P5.out⟩
          case measure => simp [intOf]; omega
    · go_wp2_with fail
      exact bodyPost_ret (v := .tuple #[u5, u6, .bool true]) (by simp [results, Try.results12, go_sem]) rfl (HK.out hle)
end Go.Proofs.Ytbkiekogphfabaa
