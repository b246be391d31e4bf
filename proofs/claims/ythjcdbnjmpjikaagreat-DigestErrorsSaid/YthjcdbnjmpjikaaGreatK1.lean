/-
  Texts joined, in build order: DigR, DigT, DigU, TreeA, TreeR, TreeS, ShareM, ShareA, Shelf, Carry, WideA, DivMath, DivA, Over, WideB, WideD, ROver, WideE, Less.
-/
import Derived.Test.YthjcdbnjmpjikaaGreatK0
import Derived.Deep.RegionHeld3
import Derived.Deep.QuietTactic
import Derived.BigQuiet
import Derived.Deep.LoopGhost
import Derived.Deep.RegionWith
import Derived.Deep.RegionLaw
import Derived.Deep.DeepCutAuto
import Derived.Test.YthjcdbnjmpjikaaGreatRows
import Derived.WalkKit
import Derived.WalkSpells
import Derived.WalkLawsBesides
import Derived.WalkMore
import Derived.LoopTactic
import Derived.OwnWalk
import Derived.OneCell
import Derived.Outline
import Derived.Lib.Strings
import Derived.Deep.Slices
import Derived.Deep.Fields
import Derived.SizedLaws
import Derived.Carry
import Derived.Laws.AppendOwnNone
import Derived.StillTailTactics
import Derived.Lib.IndexLaws
import Derived.Lib.IndexMore
import Derived.ScopeJumps
import Derived.Scope
import Derived.Shelf.Small.Bits
import Derived.Shelf.Small.Wraps
import Derived.Shelf.Strconv.Itoa0
import Derived.Shelf.Bits.Mul64
import Derived.Ground.SlgmProg
import Derived.Shelf.SortM.Plain
import Derived.Shelf.SortM.SortNone
import Derived.Test.YthjcdbnjmpjikaaGreatProg
import Derived.Shelf.Spec.BitsCarry
import Derived.Lib.ItoaNum
import Derived.Laws.Bits64b
import Derived.Deep.CutBlock
import Derived.WalkSmall
/-
  The reference of layer 17 in memory; its lift.
-/
namespace Go.Proofs.YthjcdbnjmpjikaaGreat
set_option linter.unusedVariables false
set_option linter.unusedSimpArgs false
open Go.RowKit

/-- The reference's digest at block M: its depth, its factor, its row v. -/
structure RefDg (w : World) (M : Nat) (b k : Nat) (v : Value) (L : List PairV) : Prop where
  c0 : w.cell? ⟨M, 0, none⟩ = some (.int .i64 b)
  c1 : w.cell? ⟨M, 1, none⟩ = some (.int .i64 k)
  c2 : w.cell? ⟨M, 2, none⟩ = some v
  f2 : w.frozen? ⟨M, 2, none⟩ = false
  own : OwnP w (M + 1) v L
theorem RefDg.lt {w : World} {M b k : Nat} {v : Value} {L : List PairV} (h : RefDg w M b k v L) : M < w.heap.size := World.block_lt_of_cell? (a := ⟨M, 0, none⟩) w h.c0
theorem RefDg.call {w w' : World} {M b k : Nat} {v : Value} {L : List PairV} (h : RefDg w M b k v L) (hb : Below w.heap.size w w') : RefDg w' M b k v L :=
  ⟨cell_later hb h.c0, cell_later hb h.c1, cell_later hb h.c2, ((bcell hb).2 _ _ h.lt).trans h.f2, h.own.call hb⟩
theorem RefDg.past {w w' : World} {M b k : Nat} {v : Value} {L : List PairV} {S : Nat → Prop} (h : RefDg w M b k v L) (hk : Keeps S w w') (h1 : ¬ S M) (h2 : ∀ g, v.ownBlock = some g → ¬ S g) : RefDg w' M b k v L := by
  have e := hk.block M h.lt h1
  exact ⟨(World.cell?_of_block (a := ⟨M, 0, none⟩) e).trans h.c0, (World.cell?_of_block (a := ⟨M, 1, none⟩) e).trans h.c1, (World.cell?_of_block (a := ⟨M, 2, none⟩) e).trans h.c2, (World.frozen?_of_block (a := ⟨M, 2, none⟩) e).trans h.f2, hk.own h.own h2⟩
theorem RefDg.put {w : World} {M b k : Nat} {v v' : Value} {L L' : List PairV} (h : RefDg w M b k v L) (ho : OwnP w (M + 1) v' L') : RefDg (w.setCell ⟨M, 2, none⟩ v') M b k v' L' := by
  refine ⟨?_, ?_, World.cell?_setCell_same _ _ _ h.c2, ?_, ?_⟩
  · rw [World.cell?_setCell_other _ _ _ _ (two_off (by omega))]; exact h.c0
  · rw [World.cell?_setCell_other _ _ _ _ (two_off (by omega))]; exact h.c1
  · rw [World.frozen?_setCell]; exact h.f2
  · exact OwnP.other ho (grown_setCell w M 2 v') (by
      cases hb : v'.ownBlock with
      | none => exact Or.inl rfl
      | some g => exact Or.inr fun e => by have h1 := (ho.lt g hb).1; have h2 := Option.some.inj e; omega)
theorem RefDg.row {w : World} {M b k : Nat} {v : Value} {L : List PairV} (h : RefDg w M b k v L) (ho : ∀ p, p ∈ L → okP p) : ∃ g cap, v = .slice g L.length cap ∧ Pairs w g L := h.own.pairs ho
theorem pow_bdD {b : Nat} (h : b ≤ 24) : 1 ≤ 2 ^ b ∧ 2 ^ b ≤ 16777216 := by
  have h1 := Nat.pow_le_pow_right (show 0 < 2 by omega) h
  have h2 := Nat.two_pow_pos b
  exact ⟨h2, by omega⟩
theorem grown_ofG {w w' : World} {r : Option Nat} (h : Below w.heap.size w w') : w.grownBy w' r := ⟨h.os, h.tape, h.output, h.size, fun k hk _ => h.block k hk⟩
/-- What has become of the reference's digest. -/
def DoneDg (w : World) (M b k : Nat) (v : Value) (L' : List PairV) (w' : World) : Prop :=
  (∃ v', RefDg w' M b k v' L' ∧ (v' = v ∨ ∀ g, v'.ownBlock = some g → w.heap.size ≤ g)) ∧ w.grownBy w' (some M)
theorem DoneDg.same {w w' : World} {M b k : Nat} {v : Value} {L : List PairV} (h : RefDg w M b k v L) (hb : Below w.heap.size w w') : DoneDg w M b k v L w' := ⟨⟨v, h.call hb, Or.inl rfl⟩, grown_ofG hb⟩
theorem DoneDg.put {w w1 : World} {M b k : Nat} {v v' : Value} {L L' : List PairV} (h : RefDg w M b k v L) (hb : Below w.heap.size w w1) (ho : OwnP w1 w.heap.size v' L') : DoneDg w M b k v L' (w1.setCell ⟨M, 2, none⟩ v') :=
  ⟨⟨v', (h.call hb).put (World.ownsRow.mono ho (by have := h.lt; omega)), Or.inr fun g hg => (ho.lt g hg).1⟩, grown_trans (grown_ofG hb) (grown_setCell _ _ _ _)⟩
theorem DoneDg.trans {w w1 w2 : World} {M b k : Nat} {v v1 : Value} {L' : List PairV} (hg : w.grownBy w1 (some M)) (hv : v1 = v ∨ ∀ g, v1.ownBlock = some g → w.heap.size ≤ g) (h : DoneDg w1 M b k v1 L' w2) : DoneDg w M b k v L' w2 := by
  obtain ⟨⟨v2, h2, e⟩, g2⟩ := h
  refine ⟨⟨v2, h2, ?_⟩, grown_trans hg g2⟩
  rcases e with rfl | e
  · exact hv
  · exact Or.inr fun g hh => Nat.le_trans hg.size (e g hh)
theorem rest_step {L : List PairV} {k : Nat} {p : PairV} (h : L[k]? = some p) (a b c : Int) : restD (L.take (k + 1)) a b c = restD (L.take k) a b c ++ (if p.1 ≠ a ∧ p.1 ≠ b ∧ p.1 ≠ c then [p] else []) := by
  rw [take_snocP h]; unfold restD; rw [List.filter_append]
  congr 1
  by_cases hc : p.1 ≠ a ∧ p.1 ≠ b ∧ p.1 ≠ c
  · rw [if_pos hc, List.filter_cons_of_pos (by simp [hc])]; rfl
  · rw [if_neg hc, List.filter_cons_of_neg (by simp; omega)]; rfl
theorem rest_len (L : List PairV) (a b c : Int) (k : Nat) : (restD (L.take k) a b c).length ≤ L.length := Nat.le_trans (List.length_filter_le _ _) (List.length_take_le' _ _)
theorem tri_le {L : List PairV} (hg : GoodP L) (hn : NodesP L) {v : Int} (hv : 1 ≤ v) : triD L v ≤ sumP L := by
  have hp : ∀ p, p ∈ L → 0 ≤ p.2 := fun p hp => by have := hg.1 p hp; omega
  by_cases h1 : v = 1
  · subst h1
    have z : ∀ i : Int, i < 1 → countP L i = 0 := fun i hi => by
      unfold countP
      rw [List.filter_eq_nil_iff.2, sumP_nil]
      intro p hp; have := hn p hp; simp; omega
    unfold triD
    rw [z (sibD 1) (by decide), z (1 / 2) (by decide)]
    have := count_leD hp 1
    omega
  · obtain ⟨a, b, c, _, _⟩ := sib_apart (show 2 ≤ v by omega)
    have hw := where_rest (fun _ => true) a b c L
    rw [where_all, where_all] at hw
    have := sumP_pos (L := restD L v (sibD v) (v / 2)) fun p hq => hp p (List.mem_filter.1 hq).1
    simp at hw
    unfold triD; omega
theorem lift_len (q : Int) (L : List PairV) (v : Int) : (liftD q L v).length ≤ L.length + 1 := by
  unfold liftD
  split
  · have := add_len (restD L v (sibD v) (v / 2)) (v / 2) (triD L v)
    have := List.length_filter_le (fun p : PairV => !(p.1 == v) && !(p.1 == sibD v) && !(p.1 == v / 2)) L
    unfold restD at *
    omega
  · omega
/-- A row that a reference's digest can have. -/
structure RowG (b : Nat) (L : List PairV) : Prop where
  good : GoodP L
  node : ∀ p, p ∈ L → nodeD b p.1
  sum : sumP L ≤ 9223372036854775807
theorem RowG.nodes {b : Nat} {L : List PairV} (h : RowG b L) : NodesP L := fun p hp => (h.node p hp).1
theorem RowG.ok {b : Nat} {L : List PairV} (h : RowG b L) (hb : b ≤ 24) : ∀ p, p ∈ L → okP p := fun p hp => by
  have h1 := h.good.1 p hp
  obtain ⟨h2, h3⟩ := h.node p hp
  have h4 := Nat.pow_le_pow_right (show 0 < 2 by omega) (show b + 1 ≤ 25 by omega)
  have h5 : (2 : Nat) ^ 25 = 33554432 := by decide
  exact ⟨⟨by omega, by omega⟩, by omega, by omega⟩
theorem node_bd {b : Nat} (hb : b ≤ 24) {x : Int} (h : nodeD b x) : 1 ≤ x ∧ x < 33554432 := by
  obtain ⟨h2, h3⟩ := h
  have h4 := Nat.pow_le_pow_right (show 0 < 2 by omega) (show b + 1 ≤ 25 by omega)
  have h5 : (2 : Nat) ^ 25 = 33554432 := by decide
  omega
theorem RowG.lift {b : Nat} {L : List PairV} (h : RowG b L) {q x : Int} (hx : nodeD b x) : RowG b (liftD q L x) ∧ sumP (liftD q L x) = sumP L := by
  have hs := lift_sum (q := q) h.good hx.1
  refine ⟨⟨lift_good h.good h.sum hx.1, fun p hp => ?_, by rw [hs]; exact h.sum⟩, hs⟩
  rcases lift_mem hp with h1 | ⟨h1, _, h2⟩
  · exact h.node p h1
  · have h3 := (liftB_is h2).1
    have h4 := hx.1
    obtain ⟨_, _, h5, _⟩ := up_range hx (by omega)
    rw [h1]; exact h5

set_option maxRecDepth 100000 in
set_option maxHeartbeats 4000000 in
theorem rlift_any (w : World) (M b k : Nat) (v : Value) (L : List PairV) (x q : Int) (h : RefDg w M b k v L) (hb : b ≤ 24) (hL : RowG b L) (hl : L.length ≤ 900) (k1 : 1 ≤ k) (k2 : k ≤ 64) (hx : nodeD b x) (hq : sumP L / k = q) :
    Calls Tryz.prog 76 #[.pointer (some ⟨M, 0, none⟩), .int .i64 x] w fun e w' => e = .returned (.bool (liftB q L x)) ∧ DoneDg w M b k v (liftD q L x) w' := by
  have HR := Lib.hid h
  have hlt := h.lt
  have hok := hL.ok hb
  obtain ⟨x0, x1⟩ := node_bd hb hx
  obtain ⟨A, cap, rfl, hP⟩ := h.row hok
  have c1 := h.c1
  have c2 := h.c2
  have f2 := h.f2
  have HP := Lib.hid hP
  have hp0 : ∀ p, p ∈ L → 0 ≤ p.2 := fun p hp => by have := hL.good.1 p hp; omega
  obtain ⟨T, hT⟩ : ∃ T, sumP L = T := ⟨_, rfl⟩
  obtain ⟨na, hna⟩ : ∃ n, countP L x = n := ⟨_, rfl⟩
  obtain ⟨nb, hnb⟩ : ∃ n, countP L (sibD x) = n := ⟨_, rfl⟩
  obtain ⟨nc, hnc⟩ : ∃ n, countP L (x / 2) = n := ⟨_, rfl⟩
  have hs := hL.sum
  have htl := tri_le hL.good hL.nodes x0
  have ha0 := count_posD hL.good x
  have hb0 := count_posD hL.good (sibD x)
  have hc0 := count_posD hL.good (x / 2)
  have htr : triD L x = na + nb + nc := by unfold triD; rw [hna, hnb, hnc]
  rw [hT] at hs htl hq
  rw [htr] at htl
  rw [hna] at ha0
  rw [hnb] at hb0
  rw [hnc] at hc0
  obtain ⟨sb, hsb⟩ : ∃ s, sibD x = s := ⟨_, rfl⟩
  rw [hsb] at hnb
  have hsbd : 0 ≤ sb ∧ sb ≤ 33554432 := by rw [← hsb]; unfold sibD; split <;> omega
  obtain ⟨sb0, sb1⟩ := hsbd
  have CA := Lib.hid (fun W hW => rcount_any W A cap L x na hW (by omega) ⟨by omega, by omega⟩ hna (by omega))
  have CB := Lib.hid (fun W hW => rcount_any W A cap L sb nb hW (by omega) ⟨by omega, by omega⟩ hnb (by omega))
  have CC := Lib.hid (fun W hW => rcount_any W A cap L (x / 2) nc hW (by omega) ⟨by omega, by omega⟩ hnc (by omega))
  have CT := Lib.hid (fun W hW => rtotal_any W A cap L T hW (by omega) hT (by omega))
  obtain ⟨s1, hs1⟩ : ∃ s, na + nb = s := ⟨_, rfl⟩
  obtain ⟨s2, hs2⟩ : ∃ s, s1 + nc = s := ⟨_, rfl⟩
  rw [hs1, hs2] at htr htl
  have u1 : IntKind.u64.wrap (na + nb) = s1 := by rw [IntKind.wrap_u64]; omega
  have u2 : IntKind.u64.wrap (s1 + nc) = s2 := by rw [IntKind.wrap_u64]; omega
  have hlB : liftB q L x = (!(x == 1) && !(na == 0) && decide (s2 ≤ q)) := by unfold liftB; rw [hna, htr]
  have HLN : Hid (liftB q L x = false → liftD q L x = L) := Lib.hid fun e => lift_no e
  have HLY : Hid (liftB q L x = true → liftD q L x = addP (restD L x sb (x / 2)) (x / 2) s2 ∧ countP (restD L x sb (x / 2)) (x / 2) = 0) := Lib.hid fun e => ⟨by unfold liftD; rw [if_pos e, hsb, htr], count_rest L⟩
  have HPAR : Hid ((x % 2 = 1 ∧ sb = x - 1) ∨ (x % 2 = 0 ∧ sb = x + 1)) := Lib.hid (by rw [← hsb]; unfold sibD; split <;> omega)
  have HCS : Hid (((x == 1) = true ∧ liftB q L x = false) ∨ ((x == 1) = false ∧ (na == 0) = true ∧ liftB q L x = false) ∨ ((x == 1) = false ∧ (na == 0) = false ∧ decide (q < s2) = true ∧ liftB q L x = false) ∨ ((x == 1) = false ∧ (na == 0) = false ∧ decide (q < s2) = false ∧ liftB q L x = true)) := Lib.hid (by
    rw [hlB]
    cases f1 : x == 1 with
    | true => exact Or.inl ⟨rfl, rfl⟩
    | false =>
      cases f2 : na == 0 with
      | true => exact Or.inr (Or.inl ⟨rfl, rfl, rfl⟩)
      | false =>
        by_cases e3 : s2 ≤ q
        · exact Or.inr (Or.inr (Or.inr ⟨rfl, rfl, decide_eq_false (by omega), by rw [decide_eq_true e3]; rfl⟩))
        · exact Or.inr (Or.inr (Or.inl ⟨rfl, rfl, decide_eq_true (by omega), by rw [decide_eq_false e3]; rfl⟩)))
  have u4 : x.tdiv 2 = x / 2 := Int.tdiv_eq_ediv_of_nonneg (by omega)
  have u3 : IntKind.i64.wrap (x / 2) = x / 2 := by rw [IntKind.wrap_i64]; omega
  have hdv : (T : Int) / (k : Int) = q := hq
  have hdt : T.tdiv (k : Int) = q := by rw [Int.tdiv_eq_ediv_of_nonneg (by omega)]; exact hq
  have hq0 : 0 ≤ q ∧ q ≤ T := by rw [← hdv]; exact ⟨Int.ediv_nonneg (by omega) (by omega), Int.ediv_le_self _ (by omega)⟩
  have hdw : IntKind.u64.wrap q = q := by rw [IntKind.wrap_u64]; omega
  have kz : ((k : Int) == 0) = false := by simp; omega
  have kz2 : ¬ (k : Int) = 0 := by omega
  have kz3 : ¬ k = 0 := by omega
  have kw : IntKind.u64.wrap (k : Int) = (k : Int) := by rw [IntKind.wrap_u64]; omega
  have HC1 := Lib.hid c1
  have HC2 := Lib.hid c2
  have HF2 := Lib.hid f2
  have HLT := Lib.hid hlt
  have HLL := Lib.hid hl
  have HOK := Lib.hid hok
  have hs20 : 0 ≤ s2 ∧ s2 ≤ 9223372036854775807 := by omega
  have HS2 := Lib.hid hs20
  have HST := Lib.hid (fun (W W' : World) (h : W.cell? ⟨M, 1, none⟩ = some (.int .i64 k) ∧ W.cell? ⟨M, 2, none⟩ = some (.slice A L.length cap) ∧ Below w.heap.size w W) (hb : Below W.heap.size W W') => (⟨cell_later hb h.1, cell_later hb h.2.1, h.2.2.trans (hb.mono h.2.2.size)⟩ : W'.cell? ⟨M, 1, none⟩ = some (.int .i64 k) ∧ W'.cell? ⟨M, 2, none⟩ = some (.slice A L.length cap) ∧ Below w.heap.size w W'))
  clear h hL hok hP hp0 hT hna hnb hnc hs htl ha0 hb0 hc0 htr hsb hlB hq hx hs1 hs2 f2 hlt hs20 hb hq0
  have HCS2 := HCS.out
  have HPAR2 := HPAR.out
  clear HCS HPAR
  rcases HPAR2 with ⟨par, rfl⟩ | ⟨par, rfl⟩ <;> rcases HCS2 with ⟨g1, hf⟩ | ⟨g1, g2, hf⟩ | ⟨g1, g2, g3, hf⟩ | ⟨g1, g2, g3, hf⟩
  case inl.inl =>
    have HF := Lib.hid hf
    clear hf
    go_enter Tryz.func76, Tryz.ntmps76
    go_wp2_with fail
    refine (CA.out _ HP.out).mono ?_
    rintro e w1 ⟨rfl, b1⟩
    have d1 := cell_later b1 HC1.out
    have d2 := cell_later b1 HC2.out
    have HS0 : Hid (w1.drew.cell? ⟨M, 1, none⟩ = some (.int .i64 k) ∧ w1.drew.cell? ⟨M, 2, none⟩ = some (.slice A L.length cap) ∧ Below w.heap.size w w1.drew) := Lib.hid ⟨d1, d2, b1.drew⟩
    have HB1 := Lib.hid b1
    clear b1
    go_wp2_with fail
    go_region_held3 (fun w' => w'.cell? ⟨M, 1, none⟩ = some (.int .i64 k) ∧ w'.cell? ⟨M, 2, none⟩ = some (.slice A L.length cap) ∧ Below w.heap.size w w')
      (first | exact HS0.out | exact HST.out _ _ (by assumption) hbA | assumption)
      ((first
        | (go_at_call 75; with_reducible refine (CB.out _ (HP.out.call (And.right (And.right (by assumption))))).mono ?_; rintro e wA ⟨rfl, hbA⟩)
        | (go_at_call 75; with_reducible refine (CC.out _ (HP.out.call (And.right (And.right (by assumption))))).mono ?_; rintro e wA ⟨rfl, hbA⟩)))
    all_goals
      rename_i hHeld
      clear HS0 HB1 d1 d2
      have HS1 := Lib.hid hHeld
      obtain ⟨d1, d2, b2⟩ := hHeld
      go_wp2_with fail
      go_quiet (fail)
      go_wp2_with fail
      go_ret
      exact ⟨by rw [HF.out]; rfl, by rw [HLN.out HF.out]; exact DoneDg.same HR.out (below_drewN b2 _)⟩
  case inl.inr.inl =>
    have HF := Lib.hid hf
    clear hf
    go_enter Tryz.func76, Tryz.ntmps76
    go_wp2_with fail
    refine (CA.out _ HP.out).mono ?_
    rintro e w1 ⟨rfl, b1⟩
    have d1 := cell_later b1 HC1.out
    have d2 := cell_later b1 HC2.out
    have HS0 : Hid (w1.drew.cell? ⟨M, 1, none⟩ = some (.int .i64 k) ∧ w1.drew.cell? ⟨M, 2, none⟩ = some (.slice A L.length cap) ∧ Below w.heap.size w w1.drew) := Lib.hid ⟨d1, d2, b1.drew⟩
    have HB1 := Lib.hid b1
    clear b1
    go_wp2_with fail
    go_region_held3 (fun w' => w'.cell? ⟨M, 1, none⟩ = some (.int .i64 k) ∧ w'.cell? ⟨M, 2, none⟩ = some (.slice A L.length cap) ∧ Below w.heap.size w w')
      (first | exact HS0.out | exact HST.out _ _ (by assumption) hbA | assumption)
      ((first
        | (go_at_call 75; with_reducible refine (CB.out _ (HP.out.call (And.right (And.right (by assumption))))).mono ?_; rintro e wA ⟨rfl, hbA⟩)
        | (go_at_call 75; with_reducible refine (CC.out _ (HP.out.call (And.right (And.right (by assumption))))).mono ?_; rintro e wA ⟨rfl, hbA⟩)))
    all_goals
      rename_i hHeld
      clear HS0 HB1 d1 d2
      have HS1 := Lib.hid hHeld
      obtain ⟨d1, d2, b2⟩ := hHeld
      go_wp2_with fail
      go_quiet (fail)
      go_wp2_with fail
      go_ret
      exact ⟨by rw [HF.out]; rfl, by rw [HLN.out HF.out]; exact DoneDg.same HR.out (below_drewN b2 _)⟩
  case inl.inr.inr.inl =>
    have HF := Lib.hid hf
    clear hf
    go_enter Tryz.func76, Tryz.ntmps76
    go_wp2_with fail
    refine (CA.out _ HP.out).mono ?_
    rintro e w1 ⟨rfl, b1⟩
    have d1 := cell_later b1 HC1.out
    have d2 := cell_later b1 HC2.out
    have HS0 : Hid (w1.drew.cell? ⟨M, 1, none⟩ = some (.int .i64 k) ∧ w1.drew.cell? ⟨M, 2, none⟩ = some (.slice A L.length cap) ∧ Below w.heap.size w w1.drew) := Lib.hid ⟨d1, d2, b1.drew⟩
    have HB1 := Lib.hid b1
    clear b1
    go_wp2_with fail
    go_region_held3 (fun w' => w'.cell? ⟨M, 1, none⟩ = some (.int .i64 k) ∧ w'.cell? ⟨M, 2, none⟩ = some (.slice A L.length cap) ∧ Below w.heap.size w w')
      (first | exact HS0.out | exact HST.out _ _ (by assumption) hbA | assumption)
      ((first
        | (go_at_call 75; with_reducible refine (CB.out _ (HP.out.call (And.right (And.right (by assumption))))).mono ?_; rintro e wA ⟨rfl, hbA⟩)
        | (go_at_call 75; with_reducible refine (CC.out _ (HP.out.call (And.right (And.right (by assumption))))).mono ?_; rintro e wA ⟨rfl, hbA⟩)))
    all_goals
      rename_i hHeld
      clear HS0 HB1 d1 d2
      have HS1 := Lib.hid hHeld
      obtain ⟨d1, d2, b2⟩ := hHeld
      go_wp2_with fail
      go_region_held3 (fun w' => w'.cell? ⟨M, 1, none⟩ = some (.int .i64 k) ∧ w'.cell? ⟨M, 2, none⟩ = some (.slice A L.length cap) ∧ Below w.heap.size w w')
        (first | exact ⟨HS1.out.1, HS1.out.2.1, HS1.out.2.2.drew⟩ | exact HST.out _ _ (by assumption) hbA | assumption)
        ((go_at_call 26; with_reducible refine (CT.out _ (HP.out.call (And.right (And.right (by assumption))))).mono ?_; rintro e wA ⟨rfl, hbA⟩))
      rename_i hHeld
      clear HS1 d1 d2 b2
      obtain ⟨d1, d2, b2⟩ := hHeld
      go_wp2_with fail
      go_ret
      exact ⟨by rw [HF.out]; rfl, by rw [HLN.out HF.out]; exact DoneDg.same HR.out b2⟩
  case inl.inr.inr.inr =>
    have HF := Lib.hid hf
    clear hf
    go_enter Tryz.func76, Tryz.ntmps76
    go_wp2_with fail
    refine (CA.out _ HP.out).mono ?_
    rintro e w1 ⟨rfl, b1⟩
    have d1 := cell_later b1 HC1.out
    have d2 := cell_later b1 HC2.out
    have HS0 : Hid (w1.drew.cell? ⟨M, 1, none⟩ = some (.int .i64 k) ∧ w1.drew.cell? ⟨M, 2, none⟩ = some (.slice A L.length cap) ∧ Below w.heap.size w w1.drew) := Lib.hid ⟨d1, d2, b1.drew⟩
    have HB1 := Lib.hid b1
    clear b1
    go_wp2_with fail
    go_region_held3 (fun w' => w'.cell? ⟨M, 1, none⟩ = some (.int .i64 k) ∧ w'.cell? ⟨M, 2, none⟩ = some (.slice A L.length cap) ∧ Below w.heap.size w w')
      (first | exact HS0.out | exact HST.out _ _ (by assumption) hbA | assumption)
      ((first
        | (go_at_call 75; with_reducible refine (CB.out _ (HP.out.call (And.right (And.right (by assumption))))).mono ?_; rintro e wA ⟨rfl, hbA⟩)
        | (go_at_call 75; with_reducible refine (CC.out _ (HP.out.call (And.right (And.right (by assumption))))).mono ?_; rintro e wA ⟨rfl, hbA⟩)))
    all_goals
      rename_i hHeld
      clear HS0 HB1 d1 d2
      have HS1 := Lib.hid hHeld
      obtain ⟨d1, d2, b2⟩ := hHeld
      go_wp2_with fail
      go_region_held3 (fun w' => w'.cell? ⟨M, 1, none⟩ = some (.int .i64 k) ∧ w'.cell? ⟨M, 2, none⟩ = some (.slice A L.length cap) ∧ Below w.heap.size w w')
        (first | exact ⟨HS1.out.1, HS1.out.2.1, HS1.out.2.2.drew⟩ | exact HST.out _ _ (by assumption) hbA | assumption)
        ((go_at_call 26; with_reducible refine (CT.out _ (HP.out.call (And.right (And.right (by assumption))))).mono ?_; rintro e wA ⟨rfl, hbA⟩))
      rename_i hHeld
      clear HS1 d1 d2 b2
      obtain ⟨d1, d2, b2⟩ := hHeld
      have hw66 := HLL.out
      go_wp2_with fail
      go_loopw [8, 66] (fun s j wr => ∃ (i : Nat), i ≤ L.length ∧ j = .int .i64 i ∧ OwnP wr w.heap.size s (restD (L.take i) x (x - 1) (x / 2)) ∧ Below w.heap.size w wr) (fun _ j _ => L.length - (intOf j).toNat)
      case atStart => exact ⟨0, Nat.zero_le _, rfl, OwnP.nil _ _, b2⟩
      case round =>
        clear d1 d2 b2
        obtain ⟨i, hi, rfl, hown, hb2⟩ := hrel
        have hbs := hb2.size
        by_cases hlt : i < L.length
        · have kk : (i : Int) < L.length := by omega
          have hxk : L[i]? = some L[i] := List.getElem?_eq_getElem hlt
          generalize hit : L[i] = p at *
          obtain ⟨px, pc⟩ := p
          obtain ⟨b0, off, rfl, hbl, c0', c1'⟩ := (HP.out.call hb2).at_ i _ hxk
          simp only at c0' c1'
          have HS := Lib.hid (rest_step hxk x (x - 1) (x / 2))
          have HRL := Lib.hid (rest_len L x (x - 1) (x / 2) i)
          have hok := HOK.out _ (List.mem_of_getElem? hxk)
          obtain ⟨⟨o1, o2⟩, o3, o4⟩ := hok
          simp only at HS
          have HOI := Lib.hid hown
          clear hxk hit hown
          by_cases q1 : px = x
          · have r1 : (!px == x) = false := by simp [q1]
            have r1n : (px != x) = false := by simp [q1]
            have r2 : (px == x) = true := by simp [q1]
            rw [if_neg (fun h => h.1 q1), List.append_nil] at HS
            clear q1
            go_wp2_with fail
            go_roundw
            case rel => exact ⟨i + 1, by omega, by go_num, by rw [HS.out]; exact HOI.out.alloc _, hb2.alloc hbs _⟩
            case measure => simp [intOf]; omega
          by_cases q2 : px = (x - 1)
          · rw [if_neg (fun h => h.2.1 q2), List.append_nil] at HS
            subst q2
            have r1 : (!(x - 1) == x) = true := by simp [q1]
            have r1n : ((x - 1) != x) = true := by simp [q1]
            have r2 : ((x - 1) == x) = false := by simp [q1]
            clear q1
            go_wp2_with fail
            go_roundw
            case rel => exact ⟨i + 1, by omega, by go_num, by rw [HS.out]; exact HOI.out.alloc _, hb2.alloc hbs _⟩
            case measure => simp [intOf]; omega
          by_cases q3 : px = x / 2
          · rw [if_neg (fun h => h.2.2 q3), List.append_nil] at HS
            subst q3
            have r1 : (!x / 2 == x) = true := by simp [q1]
            have r1n : (x / 2 != x) = true := by simp [q1]
            have r2 : (x / 2 == x) = false := by simp [q1]
            have r3 : (!x / 2 == (x - 1)) = true := by simp [q2]
            have r3n : (x / 2 != (x - 1)) = true := by simp [q2]
            have r4 : (x / 2 == (x - 1)) = false := by simp [q2]
            clear q1 q2
            go_wp2_with fail
            go_roundw
            case rel => exact ⟨i + 1, by omega, by go_num, by rw [HS.out]; exact HOI.out.alloc _, hb2.alloc hbs _⟩
            case measure => simp [intOf]; omega
          rw [if_pos ⟨q1, q2, q3⟩] at HS
          have r1 : (!px == x) = true := by simp [q1]
          have r1n : (px != x) = true := by simp [q1]
          have r2 : (px == x) = false := by simp [q1]
          have r3 : (!px == (x - 1)) = true := by simp [q2]
          have r3n : (px != (x - 1)) = true := by simp [q2]
          have r4 : (px == (x - 1)) = false := by simp [q2]
          have r5 : (!px == x / 2) = true := by simp [q3]
          have r5n : (px != x / 2) = true := by simp [q3]
          have r6 : (px == x / 2) = false := by simp [q3]
          clear q1 q2 q3
          obtain ⟨vA, vk, rfl⟩ := HOI.out.form
          go_wp2_with (at_builtin; refine wpList_append_pair rfl _ _ rfl w.heap.size _ _ (wr.heap.size + 1) (px, pc) rfl ((HOI.out.alloc _).alloc _) rfl ?c1 ?c2 ?c3 ?c4 ?_)
          case c3 => have := HRL.out; have := HLL.out; omega
          case c4 => first | omega | (simp; omega)
          intro v' w1 hown' hgrow
          have hb3 := OwnP.below ((HOI.out.alloc _).alloc _) ((hb2.alloc hbs _).alloc (by simp; omega) _) hgrow (by simp; omega)
          rw [← HS.out] at hown'
          clear hgrow
          go_wp2_with fail
          go_roundw
          case rel => exact ⟨i + 1, by omega, by go_num, hown', hb3⟩
          case measure => simp [intOf]; omega
        · obtain rfl : i = L.length := by omega
          rw [List.take_length] at hown
          have kk : ¬ (L.length : Int) < L.length := by omega
          have HRL := Lib.hid (rest_len L x (x - 1) (x / 2) L.length)
          rw [List.take_length] at HRL
          have hokr : ∀ p, p ∈ restD L x (x - 1) (x / 2) → okP p := fun p hp => HOK.out p (List.mem_filter.1 hp).1
          obtain ⟨A', cap', rfl, hP'⟩ := hown.pairs hokr
          have HP' := Lib.hid hP'
          have HADD := Lib.hid (fun W hW => radd_any W A' cap' (restD L x (x - 1) (x / 2)) (x / 2) s2 s2 hW (by have := HRL.out; have := HLL.out; omega) ⟨by omega, by omega⟩ ⟨by have := HS2.out; omega, by have := HS2.out; omega⟩ (by rw [(HLY.out HF.out).2, Int.zero_add]) (by have := HS2.out; omega))
          clear hP' hown hokr
          go_wp2_with fail
          refine (HADD.out _ HP'.out).mono ?_
          rintro e w5 ⟨v5, rfl, ho5, hb5⟩
          obtain ⟨A5, k5, rfl⟩ := ho5.form
          have hb6 := hb2.trans (hb5.mono hbs)
          have e2 := cell_later hb6 HC2.out
          have e3 : w5.frozen? ⟨M, 2, none⟩ = false := ((bcell hb6).2 _ _ HLT.out).trans HF2.out
          have HO5 := Lib.hid (World.ownsRow.mono ho5 (by omega) : OwnP w5 w.heap.size (.slice A5 (addP (restD L x (x - 1) (x / 2)) (x / 2) s2).length k5) (addP (restD L x (x - 1) (x / 2)) (x / 2) s2))
          have HB6 := Lib.hid hb6
          clear ho5 hb5 hb6 hb2 hbs HADD
          go_wp2_with fail
          go_ret
          exact ⟨by rw [HF.out]; rfl, by rw [(HLY.out HF.out).1]; exact DoneDg.put HR.out HB6.out HO5.out⟩
  case inr.inl =>
    have HF := Lib.hid hf
    clear hf
    go_enter Tryz.func76, Tryz.ntmps76
    go_wp2_with fail
    refine (CA.out _ HP.out).mono ?_
    rintro e w1 ⟨rfl, b1⟩
    have d1 := cell_later b1 HC1.out
    have d2 := cell_later b1 HC2.out
    have HS0 : Hid (w1.drew.cell? ⟨M, 1, none⟩ = some (.int .i64 k) ∧ w1.drew.cell? ⟨M, 2, none⟩ = some (.slice A L.length cap) ∧ Below w.heap.size w w1.drew) := Lib.hid ⟨d1, d2, b1.drew⟩
    have HB1 := Lib.hid b1
    clear b1
    go_wp2_with fail
    go_region_held3 (fun w' => w'.cell? ⟨M, 1, none⟩ = some (.int .i64 k) ∧ w'.cell? ⟨M, 2, none⟩ = some (.slice A L.length cap) ∧ Below w.heap.size w w')
      (first | exact HS0.out | exact HST.out _ _ (by assumption) hbA | assumption)
      ((first
        | (go_at_call 75; with_reducible refine (CB.out _ (HP.out.call (And.right (And.right (by assumption))))).mono ?_; rintro e wA ⟨rfl, hbA⟩)
        | (go_at_call 75; with_reducible refine (CC.out _ (HP.out.call (And.right (And.right (by assumption))))).mono ?_; rintro e wA ⟨rfl, hbA⟩)))
    all_goals
      rename_i hHeld
      clear HS0 HB1 d1 d2
      have HS1 := Lib.hid hHeld
      obtain ⟨d1, d2, b2⟩ := hHeld
      go_wp2_with fail
      go_quiet (fail)
      go_wp2_with fail
      go_ret
      exact ⟨by rw [HF.out]; rfl, by rw [HLN.out HF.out]; exact DoneDg.same HR.out (below_drewN b2 _)⟩
  case inr.inr.inl =>
    have HF := Lib.hid hf
    clear hf
    go_enter Tryz.func76, Tryz.ntmps76
    go_wp2_with fail
    refine (CA.out _ HP.out).mono ?_
    rintro e w1 ⟨rfl, b1⟩
    have d1 := cell_later b1 HC1.out
    have d2 := cell_later b1 HC2.out
    have HS0 : Hid (w1.drew.cell? ⟨M, 1, none⟩ = some (.int .i64 k) ∧ w1.drew.cell? ⟨M, 2, none⟩ = some (.slice A L.length cap) ∧ Below w.heap.size w w1.drew) := Lib.hid ⟨d1, d2, b1.drew⟩
    have HB1 := Lib.hid b1
    clear b1
    go_wp2_with fail
    go_region_held3 (fun w' => w'.cell? ⟨M, 1, none⟩ = some (.int .i64 k) ∧ w'.cell? ⟨M, 2, none⟩ = some (.slice A L.length cap) ∧ Below w.heap.size w w')
      (first | exact HS0.out | exact HST.out _ _ (by assumption) hbA | assumption)
      ((first
        | (go_at_call 75; with_reducible refine (CB.out _ (HP.out.call (And.right (And.right (by assumption))))).mono ?_; rintro e wA ⟨rfl, hbA⟩)
        | (go_at_call 75; with_reducible refine (CC.out _ (HP.out.call (And.right (And.right (by assumption))))).mono ?_; rintro e wA ⟨rfl, hbA⟩)))
    all_goals
      rename_i hHeld
      clear HS0 HB1 d1 d2
      have HS1 := Lib.hid hHeld
      obtain ⟨d1, d2, b2⟩ := hHeld
      go_wp2_with fail
      go_quiet (fail)
      go_wp2_with fail
      go_ret
      exact ⟨by rw [HF.out]; rfl, by rw [HLN.out HF.out]; exact DoneDg.same HR.out (below_drewN b2 _)⟩
  case inr.inr.inr.inl =>
    have HF := Lib.hid hf
    clear hf
    go_enter Tryz.func76, Tryz.ntmps76
    go_wp2_with fail
    refine (CA.out _ HP.out).mono ?_
    rintro e w1 ⟨rfl, b1⟩
    have d1 := cell_later b1 HC1.out
    have d2 := cell_later b1 HC2.out
    have HS0 : Hid (w1.drew.cell? ⟨M, 1, none⟩ = some (.int .i64 k) ∧ w1.drew.cell? ⟨M, 2, none⟩ = some (.slice A L.length cap) ∧ Below w.heap.size w w1.drew) := Lib.hid ⟨d1, d2, b1.drew⟩
    have HB1 := Lib.hid b1
    clear b1
    go_wp2_with fail
    go_region_held3 (fun w' => w'.cell? ⟨M, 1, none⟩ = some (.int .i64 k) ∧ w'.cell? ⟨M, 2, none⟩ = some (.slice A L.length cap) ∧ Below w.heap.size w w')
      (first | exact HS0.out | exact HST.out _ _ (by assumption) hbA | assumption)
      ((first
        | (go_at_call 75; with_reducible refine (CB.out _ (HP.out.call (And.right (And.right (by assumption))))).mono ?_; rintro e wA ⟨rfl, hbA⟩)
        | (go_at_call 75; with_reducible refine (CC.out _ (HP.out.call (And.right (And.right (by assumption))))).mono ?_; rintro e wA ⟨rfl, hbA⟩)))
    all_goals
      rename_i hHeld
      clear HS0 HB1 d1 d2
      have HS1 := Lib.hid hHeld
      obtain ⟨d1, d2, b2⟩ := hHeld
      go_wp2_with fail
      go_region_held3 (fun w' => w'.cell? ⟨M, 1, none⟩ = some (.int .i64 k) ∧ w'.cell? ⟨M, 2, none⟩ = some (.slice A L.length cap) ∧ Below w.heap.size w w')
        (first | exact ⟨HS1.out.1, HS1.out.2.1, HS1.out.2.2.drew⟩ | exact HST.out _ _ (by assumption) hbA | assumption)
        ((go_at_call 26; with_reducible refine (CT.out _ (HP.out.call (And.right (And.right (by assumption))))).mono ?_; rintro e wA ⟨rfl, hbA⟩))
      rename_i hHeld
      clear HS1 d1 d2 b2
      obtain ⟨d1, d2, b2⟩ := hHeld
      go_wp2_with fail
      go_ret
      exact ⟨by rw [HF.out]; rfl, by rw [HLN.out HF.out]; exact DoneDg.same HR.out b2⟩
  case inr.inr.inr.inr =>
    have HF := Lib.hid hf
    clear hf
    go_enter Tryz.func76, Tryz.ntmps76
    go_wp2_with fail
    refine (CA.out _ HP.out).mono ?_
    rintro e w1 ⟨rfl, b1⟩
    have d1 := cell_later b1 HC1.out
    have d2 := cell_later b1 HC2.out
    have HS0 : Hid (w1.drew.cell? ⟨M, 1, none⟩ = some (.int .i64 k) ∧ w1.drew.cell? ⟨M, 2, none⟩ = some (.slice A L.length cap) ∧ Below w.heap.size w w1.drew) := Lib.hid ⟨d1, d2, b1.drew⟩
    have HB1 := Lib.hid b1
    clear b1
    go_wp2_with fail
    go_region_held3 (fun w' => w'.cell? ⟨M, 1, none⟩ = some (.int .i64 k) ∧ w'.cell? ⟨M, 2, none⟩ = some (.slice A L.length cap) ∧ Below w.heap.size w w')
      (first | exact HS0.out | exact HST.out _ _ (by assumption) hbA | assumption)
      ((first
        | (go_at_call 75; with_reducible refine (CB.out _ (HP.out.call (And.right (And.right (by assumption))))).mono ?_; rintro e wA ⟨rfl, hbA⟩)
        | (go_at_call 75; with_reducible refine (CC.out _ (HP.out.call (And.right (And.right (by assumption))))).mono ?_; rintro e wA ⟨rfl, hbA⟩)))
    all_goals
      rename_i hHeld
      clear HS0 HB1 d1 d2
      have HS1 := Lib.hid hHeld
      obtain ⟨d1, d2, b2⟩ := hHeld
      go_wp2_with fail
      go_region_held3 (fun w' => w'.cell? ⟨M, 1, none⟩ = some (.int .i64 k) ∧ w'.cell? ⟨M, 2, none⟩ = some (.slice A L.length cap) ∧ Below w.heap.size w w')
        (first | exact ⟨HS1.out.1, HS1.out.2.1, HS1.out.2.2.drew⟩ | exact HST.out _ _ (by assumption) hbA | assumption)
        ((go_at_call 26; with_reducible refine (CT.out _ (HP.out.call (And.right (And.right (by assumption))))).mono ?_; rintro e wA ⟨rfl, hbA⟩))
      rename_i hHeld
      clear HS1 d1 d2 b2
      obtain ⟨d1, d2, b2⟩ := hHeld
      have hw66 := HLL.out
      go_wp2_with fail
      go_loopw [8, 66] (fun s j wr => ∃ (i : Nat), i ≤ L.length ∧ j = .int .i64 i ∧ OwnP wr w.heap.size s (restD (L.take i) x (x + 1) (x / 2)) ∧ Below w.heap.size w wr) (fun _ j _ => L.length - (intOf j).toNat)
      case atStart => exact ⟨0, Nat.zero_le _, rfl, OwnP.nil _ _, b2⟩
      case round =>
        clear d1 d2 b2
        obtain ⟨i, hi, rfl, hown, hb2⟩ := hrel
        have hbs := hb2.size
        by_cases hlt : i < L.length
        · have kk : (i : Int) < L.length := by omega
          have hxk : L[i]? = some L[i] := List.getElem?_eq_getElem hlt
          generalize hit : L[i] = p at *
          obtain ⟨px, pc⟩ := p
          obtain ⟨b0, off, rfl, hbl, c0', c1'⟩ := (HP.out.call hb2).at_ i _ hxk
          simp only at c0' c1'
          have HS := Lib.hid (rest_step hxk x (x + 1) (x / 2))
          have HRL := Lib.hid (rest_len L x (x + 1) (x / 2) i)
          have hok := HOK.out _ (List.mem_of_getElem? hxk)
          obtain ⟨⟨o1, o2⟩, o3, o4⟩ := hok
          simp only at HS
          have HOI := Lib.hid hown
          clear hxk hit hown
          by_cases q1 : px = x
          · have r1 : (!px == x) = false := by simp [q1]
            have r1n : (px != x) = false := by simp [q1]
            have r2 : (px == x) = true := by simp [q1]
            rw [if_neg (fun h => h.1 q1), List.append_nil] at HS
            clear q1
            go_wp2_with fail
            go_roundw
            case rel => exact ⟨i + 1, by omega, by go_num, by rw [HS.out]; exact HOI.out.alloc _, hb2.alloc hbs _⟩
            case measure => simp [intOf]; omega
          by_cases q2 : px = (x + 1)
          · rw [if_neg (fun h => h.2.1 q2), List.append_nil] at HS
            subst q2
            have r1 : (!(x + 1) == x) = true := by simp [q1]
            have r1n : ((x + 1) != x) = true := by simp [q1]
            have r2 : ((x + 1) == x) = false := by simp [q1]
            clear q1
            go_wp2_with fail
            go_roundw
            case rel => exact ⟨i + 1, by omega, by go_num, by rw [HS.out]; exact HOI.out.alloc _, hb2.alloc hbs _⟩
            case measure => simp [intOf]; omega
          by_cases q3 : px = x / 2
          · rw [if_neg (fun h => h.2.2 q3), List.append_nil] at HS
            subst q3
            have r1 : (!x / 2 == x) = true := by simp [q1]
            have r1n : (x / 2 != x) = true := by simp [q1]
            have r2 : (x / 2 == x) = false := by simp [q1]
            have r3 : (!x / 2 == (x + 1)) = true := by simp [q2]
            have r3n : (x / 2 != (x + 1)) = true := by simp [q2]
            have r4 : (x / 2 == (x + 1)) = false := by simp [q2]
            clear q1 q2
            go_wp2_with fail
            go_roundw
            case rel => exact ⟨i + 1, by omega, by go_num, by rw [HS.out]; exact HOI.out.alloc _, hb2.alloc hbs _⟩
            case measure => simp [intOf]; omega
          rw [if_pos ⟨q1, q2, q3⟩] at HS
          have r1 : (!px == x) = true := by simp [q1]
          have r1n : (px != x) = true := by simp [q1]
          have r2 : (px == x) = false := by simp [q1]
          have r3 : (!px == (x + 1)) = true := by simp [q2]
          have r3n : (px != (x + 1)) = true := by simp [q2]
          have r4 : (px == (x + 1)) = false := by simp [q2]
          have r5 : (!px == x / 2) = true := by simp [q3]
          have r5n : (px != x / 2) = true := by simp [q3]
          have r6 : (px == x / 2) = false := by simp [q3]
          clear q1 q2 q3
          obtain ⟨vA, vk, rfl⟩ := HOI.out.form
          go_wp2_with (at_builtin; refine wpList_append_pair rfl _ _ rfl w.heap.size _ _ (wr.heap.size + 1) (px, pc) rfl ((HOI.out.alloc _).alloc _) rfl ?f1 ?f2 ?f3 ?f4 ?_)
          case f3 => have := HRL.out; have := HLL.out; omega
          case f4 => first | omega | (simp; omega)
          intro v' w1 hown' hgrow
          have hb3 := OwnP.below ((HOI.out.alloc _).alloc _) ((hb2.alloc hbs _).alloc (by simp; omega) _) hgrow (by simp; omega)
          rw [← HS.out] at hown'
          clear hgrow
          go_wp2_with fail
          go_roundw
          case rel => exact ⟨i + 1, by omega, by go_num, hown', hb3⟩
          case measure => simp [intOf]; omega
        · obtain rfl : i = L.length := by omega
          rw [List.take_length] at hown
          have kk : ¬ (L.length : Int) < L.length := by omega
          have HRL := Lib.hid (rest_len L x (x + 1) (x / 2) L.length)
          rw [List.take_length] at HRL
          have hokr : ∀ p, p ∈ restD L x (x + 1) (x / 2) → okP p := fun p hp => HOK.out p (List.mem_filter.1 hp).1
          obtain ⟨A', cap', rfl, hP'⟩ := hown.pairs hokr
          have HP' := Lib.hid hP'
          have HADD := Lib.hid (fun W hW => radd_any W A' cap' (restD L x (x + 1) (x / 2)) (x / 2) s2 s2 hW (by have := HRL.out; have := HLL.out; omega) ⟨by omega, by omega⟩ ⟨by have := HS2.out; omega, by have := HS2.out; omega⟩ (by rw [(HLY.out HF.out).2, Int.zero_add]) (by have := HS2.out; omega))
          clear hP' hown hokr
          go_wp2_with fail
          refine (HADD.out _ HP'.out).mono ?_
          rintro e w5 ⟨v5, rfl, ho5, hb5⟩
          obtain ⟨A5, k5, rfl⟩ := ho5.form
          have hb6 := hb2.trans (hb5.mono hbs)
          have e2 := cell_later hb6 HC2.out
          have e3 : w5.frozen? ⟨M, 2, none⟩ = false := ((bcell hb6).2 _ _ HLT.out).trans HF2.out
          have HO5 := Lib.hid (World.ownsRow.mono ho5 (by omega) : OwnP w5 w.heap.size (.slice A5 (addP (restD L x (x + 1) (x / 2)) (x / 2) s2).length k5) (addP (restD L x (x + 1) (x / 2)) (x / 2) s2))
          have HB6 := Lib.hid hb6
          clear ho5 hb5 hb6 hb2 hbs HADD
          go_wp2_with fail
          go_ret
          exact ⟨by rw [HF.out]; rfl, by rw [(HLY.out HF.out).1]; exact DoneDg.put HR.out HB6.out HO5.out⟩
end Go.Proofs.YthjcdbnjmpjikaaGreat

/-
  The reference of layer 17: Tidy, Put, Join.
-/
namespace Go.Proofs.YthjcdbnjmpjikaaGreat
set_option linter.unusedVariables false
set_option linter.unusedSimpArgs false
open Go.RowKit

theorem lift_short {q : Int} {L : List PairV} {v : Int} (hg : GoodP L) : (liftD q L v).length ≤ L.length := by
  cases h : liftB q L v with
  | false => rw [lift_no h]; exact Nat.le_refl _
  | true =>
    obtain ⟨_, h2, _⟩ := liftB_is h
    obtain ⟨p, hp, e⟩ := count_memD h2
    have hlt : (restD L v (sibD v) (v / 2)).length < L.length := by
      unfold restD
      rw [List.length_filter_lt_length_iff_exists]
      exact ⟨p, hp, by simp [e]⟩
    unfold liftD
    rw [if_pos h]
    have := add_len (restD L v (sibD v) (v / 2)) (v / 2) (triD L v)
    omega
/-- What a sweep keeps of a row. -/
structure KeptG (b : Nat) (T : Int) (n : Nat) (L : List PairV) : Prop where
  row : RowG b L
  sum : sumP L = T
  len : L.length ≤ n
theorem KeptG.lift {b : Nat} {T : Int} {n : Nat} {L : List PairV} (h : KeptG b T n L) {q x : Int} (hx : 1 ≤ x) : KeptG b T n (liftD q L x) := by
  cases hl : liftB q L x with
  | false => rw [lift_no hl]; exact h
  | true =>
    obtain ⟨_, h2, _⟩ := liftB_is hl
    obtain ⟨p, hp, rfl⟩ := count_memD h2
    obtain ⟨r1, r2⟩ := h.row.lift (q := q) (h.row.node p hp)
    exact ⟨r1, r2.trans h.sum, Nat.le_trans (lift_short h.row.good) h.len⟩
theorem KeptG.sweep {b : Nat} {T : Int} {n : Nat} {R : List PairV} (h : KeptG b T n R) {q : Int} {J : List Int} (hJ : ∀ v, v ∈ J → 1 ≤ v) : KeptG b T n (sweepD q J R).2 :=
  sweep_keeps (P := KeptG b T n) (fun R v h hv => h.lift hv) J (false, R) hJ h
theorem KeptG.squeeze {b : Nat} {T : Int} {n : Nat} {R : List PairV} (h : KeptG b T n R) {q : Int} (most : Nat) : KeptG b T n (squeezeD most q R) :=
  squeeze_keeps (P := KeptG b T n) (fun R v h hv => h.lift hv) h.row.nodes h
theorem idxD_len (R : List PairV) : (idxD R).length = R.length := by unfold idxD; rw [List.length_reverse, List.length_map]
theorem idxD_at {R : List PairV} {j : Nat} {p : PairV} (hj : j < R.length) (h : R[R.length - 1 - j]? = some p) : (idxD R)[j]? = some p.1 := by
  unfold idxD
  rw [List.getElem?_reverse (by rw [List.length_map]; exact hj), List.length_map, List.getElem?_map, h]; rfl
theorem idx_nodes {R : List PairV} (h : NodesP R) (j : Nat) : ∀ v, v ∈ (idxD R).take j → 1 ≤ v := fun v hv => idxD_pos h v (List.mem_of_mem_take hv)
theorem pairs_pastG {w w' : World} {M : Nat} {A : Option Addr} {cap : Nat} {L : List PairV} (ho : OwnP w (M + 1) (.slice A L.length cap) L) (hok : ∀ p, p ∈ L → okP p) (hg : w.grownBy w' (some M)) : Pairs w' A L := by
  have h2 := OwnP.other ho hg (by
    cases hb : (Value.slice A L.length cap).ownBlock with
    | none => exact Or.inl rfl
    | some g => exact Or.inr fun e => by have h1 := (ho.lt g hb).1; have h2 := Option.some.inj e; omega)
  obtain ⟨A2, cap2, e, hp⟩ := h2.pairs hok
  cases e
  exact hp
theorem step_true (q : Int) (s : Bool × List PairV) (v : Int) (h : liftB q s.2 v = true) : (stepD q s v).1 = true := by unfold stepD; rw [h]; simp
theorem step_false (q : Int) (s : Bool × List PairV) (v : Int) (h : liftB q s.2 v = false) : (stepD q s v).1 = s.1 := by unfold stepD; rw [h]; simp
theorem tidy_next {q : Int} {n : Nat} {R : List PairV} (hn : NodesP R) (h : (idxSum R).toNat < n) : ((sweepD q (idxD R) R).1 = true → 1 ≤ n ∧ (idxSum (sweepD q (idxD R) R).2).toNat < n - 1 ∧ tidyD q n R = tidyD q (n - 1) (sweepD q (idxD R) R).2) ∧ ((sweepD q (idxD R) R).1 = false → tidyD q n R = (sweepD q (idxD R) R).2) := by
  obtain ⟨m, rfl⟩ : ∃ m, n = m + 1 := ⟨n - 1, by omega⟩
  have hv := idxD_pos hn
  constructor
  · intro hs
    have h1 := (sweep_idx (q := q) (idxD R) (false, R) hn hv).2 rfl hs
    have h2 : idxSum (sweepD q (idxD R) R).2 < idxSum R := h1
    have h3 := idx_pos (L := (sweepD q (idxD R) R).2) (fun p hp => by have := sweep_nodes hn hv p hp; omega)
    refine ⟨by omega, by omega, ?_⟩
    rw [Nat.add_sub_cancel]
    conv => lhs; unfold tidyD
    rw [if_pos hs]
  · intro hs
    conv => lhs; unfold tidyD
    rw [if_neg (by rw [hs]; simp)]
    exact (sweep_still (q := q) (idxD R) (false, R) hs).2.1.symm

set_option maxRecDepth 100000 in
set_option maxHeartbeats 4000000 in
theorem rtidy_any (w : World) (M b k : Nat) (v : Value) (L : List PairV) (q : Int) (h : RefDg w M b k v L) (hb : b ≤ 24) (hL : RowG b L) (hl : L.length ≤ 900) (k1 : 1 ≤ k) (k2 : k ≤ 64) (hq : sumP L / k = q) :
    Calls Tryz.prog 49 #[.pointer (some ⟨M, 0, none⟩)] w fun e w' => e = .returned (.tuple #[]) ∧ DoneDg w M b k v (squeezeD (4 * k) q L) w' := by
  have HR := Lib.hid h
  have hok := hL.ok hb
  obtain ⟨A, cap, rfl, hP⟩ := h.row hok
  have c1 := h.c1
  have c2 := h.c2
  have kw : IntKind.i64.wrap (4 * (k : Int)) = 4 * (k : Int) := by rw [IntKind.wrap_i64]; omega
  by_cases hle : L.length ≤ 4 * k
  · have HSQ : Hid (squeezeD (4 * k) q L = L) := Lib.hid (by unfold squeezeD; rw [if_pos hle])
    have d1 : decide ((L.length : Int) ≤ 4 * (k : Int)) = true := decide_eq_true (by omega)
    have d2 : (L.length : Int) ≤ 4 * (k : Int) := by omega
    clear h hP hL hok hq hle
    go_enter Tryz.func49, Tryz.ntmps49
    go_wp2_with fail
    go_quiet (fail)
    go_wp2_with fail
    refine bodyPost_ret (results_none rfl _ _ _) rfl ?_
    exact ⟨rfl, by rw [HSQ.out]; exact DoneDg.same HR.out (below_drewN (Below.refl _ _) _)⟩
  · have HSQ : Hid (squeezeD (4 * k) q L = tidyD q (fuelD L) L) := Lib.hid (by unfold squeezeD; rw [if_neg hle])
    have d1 : decide ((L.length : Int) ≤ 4 * (k : Int)) = false := decide_eq_false (by omega)
    have d2 : ¬ (L.length : Int) ≤ 4 * (k : Int) := by omega
    have HKP : Hid (KeptG b (sumP L) L.length L) := Lib.hid ⟨hL, rfl, Nat.le_refl _⟩
    have HQ := Lib.hid hq
    have HL9 := Lib.hid hl
    clear h hP hL hok hq hle
    go_enter Tryz.func49, Tryz.ntmps49
    go_wp2_with fail
    go_quiet (fail)
    rename_i nq
    have HR0 := Lib.hid (HR.out.call (below_drewN (Below.refl _ _) nq))
    go_wp2_with fail
    go_loopg [2] (fuelD L) (fun g mv wr => ∃ (mb : Bool) (v' : Value) (R : List PairV), mv = .bool mb ∧ KeptG b (sumP L) L.length R ∧ RefDg wr M b k v' R ∧ (v' = .slice A L.length cap ∨ ∀ i, v'.ownBlock = some i → w.heap.size ≤ i) ∧ w.grownBy wr (some M) ∧
      ((mb = true ∧ (∃ n, n = g ∧ (idxSum R).toNat < n ∧ tidyD q (fuelD L) L = tidyD q n R)) ∨ (mb = false ∧ g = 0 ∧ tidyD q (fuelD L) L = R)))
    case atStart => exact ⟨true, _, L, rfl, HKP.out, HR0.out, Or.inl rfl, grown_ofG (below_drewN (Below.refl _ _) nq), Or.inl ⟨rfl, fuelD L, rfl, by unfold fuelD; omega, rfl⟩⟩
    case round =>
      obtain ⟨mb, v', R, rfl, hkp, hrg, hv', hgr, hcs⟩ := hrel
      rcases hcs with ⟨rfl, n, rfl, hfu, hti⟩ | ⟨rfl, rfl, hti⟩
      case inr =>
        have HF : Hid (DoneDg w M b k (.slice A L.length cap) (squeezeD (4 * k) q L) wr) := Lib.hid (by rw [HSQ.out, hti]; exact ⟨⟨v', hrg, hv'⟩, hgr⟩)
        clear hkp hrg hv' hgr hti
        go_wp2_with fail
        go_end0
        exact ⟨rfl, HF.out⟩
      case inl =>
        obtain ⟨w5, hw5⟩ : ∃ w5, w5 = wr := ⟨_, rfl⟩
        subst hw5
        have HK := Lib.hid hkp
        have HRG := Lib.hid hrg
        have HV := Lib.hid hv'
        have HGR := Lib.hid hgr
        have HFU := Lib.hid hfu
        have HTI := Lib.hid hti
        have hokr := hkp.row.ok hb
        have HOK := Lib.hid hokr
        obtain ⟨A', cap', rfl, hP'⟩ := hrg.row hokr
        have HP' := Lib.hid hP'
        have e2 := hrg.c2
        have hlr : R.length ≤ 900 := by have := hkp.len; have := HL9.out; omega
        have HLR := Lib.hid hlr
        have HQR : Hid (∀ j, sumP (sweepD q ((idxD R).take j) R).2 / k = q) := Lib.hid fun j => by
          have := (HK.out.sweep (q := q) (idx_nodes HK.out.row.nodes j)).sum
          rw [this]; exact HQ.out
        obtain ⟨ln, hln⟩ : ∃ ln : Nat, R.length = ln := ⟨_, rfl⟩
        have HLN := Lib.hid hln
        rw [hln] at hlr e2
        clear hkp hrg hv' hgr hfu hti hokr hP' hln
        go_wp2_with fail
        go_loopg [2, 4] ln (fun g mv iv wx => ∃ (j : Nat) (vx : Value), j ≤ ln ∧ g = ln - j ∧ mv = .bool (sweepD q ((idxD R).take j) R).1 ∧ iv = .int .i64 ((ln : Int) - 1 - j) ∧ RefDg wx M b k vx (sweepD q ((idxD R).take j) R).2 ∧ (vx = .slice A' ln cap' ∨ ∀ i, vx.ownBlock = some i → w5.heap.size ≤ i) ∧ w5.grownBy wx (some M))
        case atStart => exact ⟨0, _, Nat.zero_le _, rfl, rfl, by first | rfl | go_num | (congr 1; omega), by rw [← HLN.out]; exact HRG.out, Or.inl rfl, grown_ofG (Below.refl _ _)⟩
        case round =>
          obtain ⟨j, vx, hj, rfl, rfl, rfl, hrg, hvx, hgr⟩ := hrel
          have HKJ := Lib.hid (HK.out.sweep (q := q) (idx_nodes HK.out.row.nodes j))
          have hpw := pairs_pastG HRG.out.own HOK.out hgr
          have HRJ := Lib.hid hrg
          have HVX := Lib.hid hvx
          have HGX := Lib.hid hgr
          by_cases hlt : j < ln
          · have hx : R[ln - 1 - j]? = some (R[ln - 1 - j]'(by rw [HLN.out]; omega)) := List.getElem?_eq_getElem _
            generalize hit : R[ln - 1 - j]'(by rw [HLN.out]; omega) = p at *
            obtain ⟨px, pc⟩ := p
            obtain ⟨b0, off, rfl, hbl, c0', c1'⟩ := hpw.at_ _ _ hx
            have hmem := List.mem_of_getElem? hx
            have hnd := HK.out.row.node _ hmem
            have hie : (idxD R)[j]? = some px := idxD_at (p := (px, pc)) (by rw [HLN.out]; exact hlt) (by rw [HLN.out]; exact hx)
            have HST := Lib.hid (sweep_take q (idxD R) R hie)
            have HLF := Lib.hid (rlift_any wr M b k vx _ px q hrg hb HKJ.out.row (by have := HKJ.out.len; have := HL9.out; omega) k1 k2 hnd (HQR.out j))
            have HQ1 := Lib.hid (step_true q (sweepD q ((idxD R).take j) R) px)
            have HQ2 := Lib.hid (step_false q (sweepD q ((idxD R).take j) R) px)
            have hnb := node_bd hb hnd
            have i0 : (0 : Int) ≤ (ln : Int) - 1 - j := by omega
            have i1 : (ln : Int) - 1 - j < ln := by omega
            have i2 : ((ln : Int) - 1 - (j : Int)).toNat = ln - 1 - j := by omega
            have i3 : ((ln - 1 - j : Nat) : Int) = (ln : Int) - 1 - j := by omega
            obtain ⟨ii, hii⟩ : ∃ ii : Nat, ln - 1 - j = ii := ⟨_, rfl⟩
            have i4 : (ln : Int) - 1 - j = (ii : Int) := by omega
            have i5 : ii < ln := by omega
            rw [hii] at c0' c1'
            simp only at c0' c1'
            obtain ⟨n0, n1⟩ := hnb
            obtain ⟨mj, hmj⟩ : ∃ mj, (sweepD q ((idxD R).take j) R).1 = mj := ⟨_, rfl⟩
            have HMJ := Lib.hid hmj
            rw [i4, hmj]
            have HI4 := Lib.hid i4
            clear hx hit hmem hnd hie hrg hvx hgr hpw i0 i1 i2 i3 i4 hii hmj
            cases hB : liftB q (sweepD q ((idxD R).take j) R).2 px with
            | true =>
              have HB := Lib.hid hB
              rw [hB] at HLF
              clear hB
              go_wp2_with fail
              refine HLF.out.mono ?_
              rintro e w8 ⟨rfl, ⟨v8, hr8, hv8⟩, hg8⟩
              have HR8 := Lib.hid hr8
              have HV8 := Lib.hid hv8
              have HG8 := Lib.hid hg8
              clear hr8 hv8 hg8 HLF
              go_wp2_with fail
              go_roundg (ln - (j + 1))
              case measure => omega
              case rel =>
                refine ⟨j + 1, v8, by omega, rfl, ?_, ?_, ?_, ?_, grown_trans HGX.out HG8.out⟩
                · rw [HST.out, HQ1.out HB.out]
                · first | (congr 1; omega) | (have := HI4.out; congr 1; omega) | go_num
                · rw [HST.out]; exact HR8.out
                · rcases HV8.out with rfl | hv
                  · exact HVX.out
                  · exact Or.inr fun i hi => Nat.le_trans HGX.out.size (hv i hi)
            | false =>
              have HB := Lib.hid hB
              rw [hB] at HLF
              clear hB
              go_wp2_with fail
              refine HLF.out.mono ?_
              rintro e w8 ⟨rfl, ⟨v8, hr8, hv8⟩, hg8⟩
              have HR8 := Lib.hid hr8
              have HV8 := Lib.hid hv8
              have HG8 := Lib.hid hg8
              clear hr8 hv8 hg8 HLF
              go_wp2_with fail
              go_roundg (ln - (j + 1))
              case measure => omega
              case rel =>
                refine ⟨j + 1, v8, by omega, rfl, ?_, ?_, ?_, ?_, grown_trans HGX.out HG8.out⟩
                · rw [HST.out, HQ2.out HB.out, HMJ.out]
                · first | (congr 1; omega) | (have := HI4.out; congr 1; omega) | go_num
                · rw [HST.out]; exact HR8.out
                · rcases HV8.out with rfl | hv
                  · exact HVX.out
                  · exact Or.inr fun i hi => Nat.le_trans HGX.out.size (hv i hi)
          · obtain rfl : j = ln := by omega
            have etk : (idxD R).take j = idxD R := List.take_of_length_le (by rw [idxD_len, HLN.out]; exact Nat.le_refl _)
            rw [etk] at HKJ HRJ ⊢
            obtain ⟨t1, t2⟩ := tidy_next (q := q) HK.out.row.nodes HFU.out
            have HT1 := Lib.hid t1
            have HT2 := Lib.hid t2
            have HVJ : Hid (vx = .slice A L.length cap ∨ ∀ i, vx.ownBlock = some i → w.heap.size ≤ i) := Lib.hid (by
              rcases HVX.out with rfl | hv
              · rw [← HLN.out] at *
                exact HV.out
              · exact Or.inr fun i hi => Nat.le_trans HGR.out.size (hv i hi))
            obtain ⟨mj, hmj⟩ : ∃ mj, (sweepD q (idxD R) R).1 = mj := ⟨_, rfl⟩
            rw [hmj] at HT1 HT2 ⊢
            have i0 : ¬ (0 : Int) ≤ (j : Int) - 1 - j := by omega
            have i1 : (j : Int) - 1 - j = -1 := by omega
            rw [i1]
            clear hrg hvx hgr hpw t1 t2 hmj etk i0 i1
            go_wp2_with fail
            go_roundg (if mj = true then n - 1 else 0)
            case measure => have := HFU.out; split <;> omega
            case rel =>
              refine ⟨mj, vx, _, rfl, HKJ.out, HRJ.out, HVJ.out, grown_trans HGR.out HGX.out, ?_⟩
              cases mj with
              | true =>
                obtain ⟨n1, n2, n3⟩ := HT1.out rfl
                exact Or.inl ⟨rfl, n - 1, by rw [if_pos rfl], n2, HTI.out.trans n3⟩
              | false => exact Or.inr ⟨rfl, by simp, HTI.out.trans (HT2.out rfl)⟩
end Go.Proofs.YthjcdbnjmpjikaaGreat

/-
  The reference of layer 17: Put, Join.
-/
namespace Go.Proofs.YthjcdbnjmpjikaaGreat
set_option linter.unusedVariables false
set_option linter.unusedSimpArgs false
open Go.RowKit

theorem RowG.add {b : Nat} {L : List PairV} (h : RowG b L) {i c : Int} (hi : nodeD b i) (hc : 0 ≤ c) (hs : sumP L + c ≤ 9223372036854775807) : RowG b (addP L i c) ∧ sumP (addP L i c) = sumP L + c := by
  have hp : ∀ p, p ∈ L → 0 ≤ p.2 := fun p hp => by have := h.good.1 p hp; omega
  have h1 := count_leD hp i
  have h2 := add_sumD (i := i) h.good hc
  refine ⟨⟨add_good h.good (by omega), fun p hp => ?_, by omega⟩, h2⟩
  rcases add_memD hp with k | ⟨k, _⟩
  · exact h.node p k
  · rw [k]; exact hi
theorem RowG.nil (b : Nat) : RowG b [] := ⟨good_nil, fun p h => (by cases h), by decide⟩
theorem joinD_snoc (R S : List PairV) (p : PairV) : joinD R (S ++ [p]) = addP (joinD R S) p.1 p.2 := by unfold joinD; rw [List.foldl_append]; rfl
theorem RowG.join {b : Nat} {L S : List PairV} (h : RowG b L) (g : RowG b S) (hs : sumP L + sumP S ≤ 9223372036854775807) : ∀ i, RowG b (joinD L (S.take i)) ∧ sumP (joinD L (S.take i)) = sumP L + sumP (S.take i) ∧ (joinD L (S.take i)).length ≤ L.length + i := by
  have hp : ∀ p, p ∈ S → 0 ≤ p.2 := fun p hp => by have := g.good.1 p hp; omega
  intro i
  induction i with
  | zero => rw [List.take_zero]; exact ⟨h, by rw [sumP_nil, Int.add_zero]; rfl, Nat.le_refl _⟩
  | succ i ih =>
    obtain ⟨i1, i2, i3⟩ := ih
    by_cases hi : i < S.length
    · have e := take_snocP (List.getElem?_eq_getElem hi)
      have hm := List.getElem_mem hi
      have hst := (sumP_take (L := S) (i + 1) hp).2
      rw [e, sumP_app, sumP_one] at hst
      rw [e, joinD_snoc, sumP_app, sumP_one]
      obtain ⟨a1, a2⟩ := i1.add (g.node _ hm) (hp _ hm) (by omega)
      have := add_len (joinD L (S.take i)) (S[i]).1 (S[i]).2
      exact ⟨a1, by omega, by omega⟩
    · rw [List.take_of_length_le (by omega)] at i1 i2 i3 ⊢
      exact ⟨i1, i2, by omega⟩

set_option maxRecDepth 100000 in
set_option maxHeartbeats 2000000 in
theorem rput17_any (w : World) (M b k : Nat) (v : Value) (L : List PairV) (x c q : Int) (h : RefDg w M b k v L) (hb : b ≤ 24) (hL : RowG b L) (hl : L.length ≤ 800) (k1 : 1 ≤ k) (k2 : k ≤ 64)
    (x0 : 0 ≤ x) (x1 : x < ((2 ^ b : Nat) : Int)) (hc : 0 < c) (hs : sumP L + c ≤ 9223372036854775807) (hq : (sumP L + c) / k = q) :
    Calls Tryz.prog 33 #[.pointer (some ⟨M, 0, none⟩), .int .i64 x, .int .u64 c] w fun e w' => e = .returned (.tuple #[]) ∧ DoneDg w M b k v (squeezeD (4 * k) q (addP L (((2 ^ b : Nat) : Int) + x) c)) w' := by
  have HR := Lib.hid h
  have hok := hL.ok hb
  obtain ⟨A, cap, rfl, hP⟩ := h.row hok
  have HP := Lib.hid hP
  have c0 := h.c0
  have c2 := h.c2
  have f2 := h.f2
  have hlt := h.lt
  have hpb := pow_bdD hb
  obtain ⟨ln, hln⟩ : ∃ ln : Nat, 2 ^ b = ln := ⟨_, rfl⟩
  obtain ⟨hnd, _, _⟩ := leaf_node (b := b) x0 x1
  have hp : ∀ p, p ∈ L → 0 ≤ p.2 := fun p hp => by have := hL.good.1 p hp; omega
  have hcl := count_leD hp (((2 ^ b : Nat) : Int) + x)
  have hs0 := sumP_pos hp
  have hct := count_posD hL.good (((2 ^ b : Nat) : Int) + x)
  obtain ⟨a1, a2⟩ := hL.add hnd (by omega) hs
  have hal := add_len L (((2 ^ b : Nat) : Int) + x) c
  rw [hln] at hpb hnd hcl hct a1 a2 hal x1 ⊢
  have HLN := Lib.hid hln
  have HA := Lib.hid a1
  have HTD := Lib.hid (fun W v' hW => rtidy_any W M b k v' (addP L ((ln : Int) + x) c) q hW hb a1 (by omega) k1 k2 (by rw [a2]; exact hq))
  have HAD := Lib.hid (fun W hW => radd_any W A cap L ((ln : Int) + x) c _ hW (by omega) ⟨by omega, by omega⟩ ⟨by omega, by omega⟩ rfl (by omega))
  have hw : IntKind.i64.wrap ((ln : Int) + x) = (ln : Int) + x := by rw [IntKind.wrap_i64]; omega
  have HLT := Lib.hid hlt
  have HF2 := Lib.hid f2
  clear h hP hL hok hs hq hnd hp hcl hs0 hct a1 a2 hal hln hlt f2
  go_enter Tryz.func33, Tryz.ntmps33
  go_wp2_with fail
  go_loopg [6, 7] b (fun g m j wr => ∃ (i p : Nat), i ≤ b ∧ g = b - i ∧ p = 2 ^ i ∧ m = .int .i64 p ∧ j = .int .i64 i ∧ wr = w)
  case atStart => exact ⟨0, 1, Nat.zero_le _, rfl, rfl, rfl, rfl, rfl⟩
  case round =>
    obtain ⟨i, p, hi, rfl, hp, rfl, rfl, rfl⟩ := hrel
    have HPW := Lib.hid hp
    have p0 : p ≤ 16777216 := by rw [hp]; exact (pow_bdD (show i ≤ 24 by omega)).2
    clear hp
    by_cases hlt : i < b
    · have kl : (i : Int) < b := by omega
      go_wp2_with fail
      go_roundg (b - (i + 1))
      case measure => omega
      case rel => exact ⟨i + 1, 2 * p, by omega, rfl, by rw [HPW.out, Nat.pow_succ 2 i]; omega, congrArg (Value.int .i64) (show (2 : Int) * (p : Int) = ((2 * p : Nat) : Int) by omega), by first | rfl | go_num, rfl⟩
    · obtain rfl : i = b := by omega
      obtain rfl : p = ln := by rw [HPW.out, HLN.out]
      have kl : ¬ (i : Int) < i := by omega
      go_wp2_with fail
      refine (HAD.out _ HP.out).mono ?_
      rintro e w1 ⟨v1, rfl, ho1, b1⟩
      obtain ⟨A1, cap1, rfl⟩ := ho1.form
      have d2 := cell_later b1 c2
      have d3 : w1.frozen? ⟨M, 2, none⟩ = false := ((bcell b1).2 _ _ HLT.out).trans HF2.out
      have HO1 := Lib.hid ho1
      have HR1 := Lib.hid ((HR.out.call b1).put (World.ownsRow.mono ho1 (by have := HLT.out; omega)))
      have HG1 := Lib.hid (grown_trans (grown_ofG (r := some M) b1) (grown_setCell w1 M 2 (.slice A1 (addP L ((p : Int) + x) c).length cap1)))
      clear ho1 b1
      go_wp2_with fail
      refine (HTD.out _ _ HR1.out).mono ?_
      rintro e w2 ⟨rfl, hd⟩
      have HD := Lib.hid (DoneDg.trans HG1.out (v := .slice A L.length cap) (Or.inr fun g hg => (HO1.out.lt g hg).1) hd)
      clear hd
      go_wp2_with fail
      go_end0
      exact ⟨rfl, HD.out⟩

set_option maxRecDepth 100000 in
set_option maxHeartbeats 4000000 in
theorem rjoin17_any (w : World) (M N b k : Nat) (v : Value) (L S : List PairV) (q : Int) (Ao : Option Addr) (ko : Nat) (h : RefDg w M b k v L) (hb : b ≤ 24) (hL : RowG b L) (hS : RowG b S) (hl : L.length ≤ 300) (hl2 : S.length ≤ 300) (k1 : 1 ≤ k) (k2 : k ≤ 64)
    (ho : w.cell? ⟨N, 2, none⟩ = some (.slice Ao S.length ko)) (hso : ∀ W, w.grownBy W (some M) → Pairs W Ao S) (hs : sumP L + sumP S ≤ 9223372036854775807) (hq : (sumP L + sumP S) / k = q) :
    Calls Tryz.prog 28 #[.pointer (some ⟨M, 0, none⟩), .pointer (some ⟨N, 0, none⟩)] w fun e w' => e = .returned (.tuple #[]) ∧ DoneDg w M b k v (squeezeD (4 * k) q (joinD L S)) w' := by
  have HR := Lib.hid h
  have HSO := Lib.hid hso
  have HJ := Lib.hid (hL.join hS hs)
  have HTD : Hid (∀ W v', RefDg W M b k v' (joinD L S) → Calls Tryz.prog 49 #[.pointer (some ⟨M, 0, none⟩)] W fun e w' => e = .returned (.tuple #[]) ∧ DoneDg W M b k v' (squeezeD (4 * k) q (joinD L S)) w') := Lib.hid fun W v' hW => by
    obtain ⟨a1, a2, a3⟩ := HJ.out S.length
    rw [List.take_length] at a1 a2 a3
    exact rtidy_any W M b k v' (joinD L S) q hW hb a1 (by omega) k1 k2 (by rw [a2]; exact hq)
  have HSP := Lib.hid (fun i => (sumP_take (L := S) i (fun p hp => by have := hS.good.1 p hp; omega)).2)
  have HSN := Lib.hid hS
  have HSS := Lib.hid hs
  have HB := Lib.hid hb
  have HL3 := Lib.hid hl
  obtain ⟨ln, hln⟩ : ∃ ln : Nat, S.length = ln := ⟨_, rfl⟩
  have HLN := Lib.hid hln
  rw [hln] at ho hl2
  clear h hso hS hL hs hq hln hb
  go_enter Tryz.func28, Tryz.ntmps28
  go_wp2_with fail
  go_loopg [11] ln (fun g j wr => ∃ (i : Nat) (v' : Value), i ≤ ln ∧ g = ln - i ∧ j = .int .i64 i ∧ RefDg wr M b k v' (joinD L (S.take i)) ∧ (v' = v ∨ ∀ g, v'.ownBlock = some g → w.heap.size ≤ g) ∧ w.grownBy wr (some M))
  case atStart => exact ⟨0, v, Nat.zero_le _, rfl, rfl, HR.out, Or.inl rfl, grown_ofG (Below.refl _ _)⟩
  case round =>
    obtain ⟨i, v', hi, rfl, rfl, hrg, hv', hgr⟩ := hrel
    have HRG := Lib.hid hrg
    have HV := Lib.hid hv'
    have HGR := Lib.hid hgr
    have hpw := HSO.out _ hgr
    by_cases hlt : i < ln
    · have kk : (i : Int) < ln := by omega
      have hx : S[i]? = some (S[i]'(by rw [HLN.out]; exact hlt)) := List.getElem?_eq_getElem _
      generalize hit : S[i]'(by rw [HLN.out]; exact hlt) = p at *
      obtain ⟨px, pc⟩ := p
      obtain ⟨b0, off, rfl, hbl, c0', c1'⟩ := hpw.at_ _ _ hx
      simp only at c0' c1'
      have hmem := List.mem_of_getElem? hx
      have HJS : Hid (joinD L (S.take (i + 1)) = addP (joinD L (S.take i)) px pc) := Lib.hid (by rw [take_snocP hx, joinD_snoc])
      obtain ⟨a1, a2, a3⟩ := HJ.out i
      have hnd := HSN.out.node _ hmem
      have hpc := HSN.out.good.1 _ hmem
      have hnb := node_bd HB.out hnd
      have hst := HSP.out (i + 1)
      rw [take_snocP hx, sumP_app, sumP_one] at hst
      have hss := HSS.out
      have hokr := a1.ok HB.out
      have hcl := count_leD (L := joinD L (S.take i)) (fun p hp => by have := a1.good.1 p hp; omega) px
      have hct := count_posD a1.good px
      simp only at hnb hpc hst
      obtain ⟨n0, n1⟩ := hnb
      obtain ⟨n2, n3⟩ := hpc
      have h3 := HL3.out
      obtain ⟨A', cap', rfl, hP'⟩ := hrg.row hokr
      have c2 := hrg.c2
      have HAD := Lib.hid (fun W hW => radd_any W A' cap' (joinD L (S.take i)) px pc _ hW (by omega) ⟨by omega, by omega⟩ ⟨by omega, by omega⟩ rfl (by omega))
      have HW0 := Lib.hid ((Below.refl wr.heap.size wr).alloc (Nat.le_refl _) (.cells #[.int .i64 px, .int .u64 pc] 61))
      have HPD := Lib.hid (hP'.call HW0.out.drew)
      have HRQ := Lib.hid (hrg.call HW0.out.drew)
      have HF2 : Hid ((wr.alloc (.cells #[.int .i64 px, .int .u64 pc] 61)).drew.frozen? ⟨M, 2, none⟩ = false) := Lib.hid HRQ.out.f2
      clear hx hit hmem hnd hst hss hokr hcl hct a1 a2 a3 hP' hpw
      have HLTM := Lib.hid hrg.lt
      have HSZ := Lib.hid hgr.size
      have d2 := HRQ.out.c2
      have d3 : (wr.alloc (.cells #[.int .i64 px, .int .u64 pc] 61)).drew.cell? ⟨wr.heap.size, 0, none⟩ = some (.int .i64 px) := by go_simp
      have d4 : (wr.alloc (.cells #[.int .i64 px, .int .u64 pc] 61)).drew.cell? ⟨wr.heap.size, 1, none⟩ = some (.int .u64 pc) := by go_simp
      clear hrg hv' hgr
      go_upto_region 3 with fail
      go_region_with (go_at_call 48; refine (HAD.out _ HPD.out).mono ?_; rintro e wC ⟨vC, rfl, hoC, hbC⟩; obtain ⟨aC, kC, rfl⟩ := hoC.form; have hc2 := cell_later hbC HRQ.out.c2; have hf2 := ((bcell hbC).2 _ _ HRQ.out.lt).trans HF2.out)
      all_goals
        have HOC := Lib.hid hoC
        have HBC := Lib.hid hbC
        clear hoC hbC
        go_wp2_with fail
        go_roundg (ln - (i + 1))
        case measure => omega
        case rel =>
          have hz := HLTM.out
          have hz2 := HSZ.out
          have hz3 := HW0.out.drew.size
          refine ⟨i + 1, _, by omega, rfl, by first | rfl | go_num, by rw [HJS.out]; exact (HRQ.out.call HBC.out).put (World.ownsRow.mono HOC.out (by omega)), Or.inr fun g hg => by have := (HOC.out.lt g hg).1; omega, ?_⟩
          exact grown_trans HGR.out (grown_trans (grown_ofG HW0.out.drew) (grown_trans (grown_ofG HBC.out) (grown_setCell _ _ _ _)))
    · obtain rfl : i = ln := by omega
      have kk : ¬ (i : Int) < i := by omega
      rw [List.take_of_length_le (by rw [HLN.out]; exact Nat.le_refl _)] at HRG
      clear hrg hv' hgr hpw
      go_wp2_with fail
      refine (HTD.out _ _ HRG.out).mono ?_
      rintro e w2 ⟨rfl, hd⟩
      have HD := Lib.hid (DoneDg.trans HGR.out HV.out hd)
      clear hd
      go_wp2_with fail
      go_end0
      exact ⟨rfl, HD.out⟩
end Go.Proofs.YthjcdbnjmpjikaaGreat

/-
  Rows of whole numbers of the call's own; the reference's Path.
-/
namespace Go.Proofs.YthjcdbnjmpjikaaGreat
set_option linter.unusedVariables false
set_option linter.unusedSimpArgs false
open Go.RowKit

theorem addI (b j : Nat) : (⟨b, 0, none⟩ : Addr).add j = ⟨b, j, none⟩ := by unfold Addr.add; split <;> simp_all
def cellsIT (L : List Int) : List Value := L.map (Value.int .i64 ·)
theorem cellsI_len (L : List Int) : (cellsIT L).length = L.length * 1 := by unfold cellsIT; simp
theorem cellsI_at (L : List Int) (i : Nat) (x : Int) (h : L[i]? = some x) : (cellsIT L)[i]? = some (.int .i64 x) := by unfold cellsIT; simp [h]
def OwnI (w : World) (base : Nat) (v : Value) (L : List Int) : Prop := w.ownsRow base 3 1 v L.length (cellsIT L)
theorem OwnI.nil (w : World) (base : Nat) : OwnI w base (.slice none 0 0) [] := World.ownsRow_nil _ _ _ _
theorem OwnI.call {w w' : World} {base : Nat} {v : Value} {L : List Int} (h : OwnI w base v L) (hb : Below w.heap.size w w') : OwnI w' base v L :=
  World.ownsRow.kept (row := none) h ⟨hb.os, hb.tape, hb.output, hb.size, fun i hi _ => hb.block i hi⟩ (by cases v.ownBlock <;> simp)
theorem OwnI.lt {w : World} {base : Nat} {v : Value} {L : List Int} (h : OwnI w base v L) : ∀ k, v.ownBlock = some k → base ≤ k ∧ k < w.heap.size := World.ownsRow.lt h
theorem OwnI.form {w : World} {base : Nat} {v : Value} {L : List Int} (h : OwnI w base v L) : ∃ A cap, v = .slice A L.length cap := by
  have h' : w.ownsRow base 3 1 v L.length (cellsIT L) := h
  rcases h'.2 with ⟨rfl, h0⟩ | ⟨g, cap, cur, rfl, _⟩
  · exact ⟨none, 0, by rw [h0]⟩
  · exact ⟨some ⟨g, 0, none⟩, cap, rfl⟩
/-- One of its numbers, where it lies. -/
theorem OwnI.at_ {w : World} {base : Nat} {v : Value} {L : List Int} (h : OwnI w base v L) : ∃ A cap, v = .slice A L.length cap ∧ ∀ (i : Nat) (x : Int), L[i]? = some x → ∃ g, A = some ⟨g, 0, none⟩ ∧ w.cell? ⟨g, i, none⟩ = some (.int .i64 x) := by
  have hh : w.ownsRow base 3 1 v L.length (cellsIT L) := h
  rcases hh.2 with ⟨rfl, h0⟩ | ⟨g, cap, cur, rfl, _, hg, _⟩
  · refine ⟨none, 0, by rw [h0], fun i x hi => ?_⟩
    have : L = [] := List.eq_nil_of_length_eq_zero h0
    subst this; simp at hi
  · refine ⟨some ⟨g, 0, none⟩, cap, rfl, fun i x hi => ⟨g, rfl, ?_⟩⟩
    have hc := hh.cells (g := g) rfl
    have := hc _ _ (cellsI_at L i x hi)
    rwa [addI] at this
theorem Tryz.infoInt : (Tryz.prog.info? 3).map (fun i => (i.zero, i.size, i.bytes)) = some (some (.int .i64 0), 1, 8) := by kernel_rfl
/-- A row of one, made by the call. -/
theorem own_one (w : World) (x : Int) : OwnI (w.alloc (.cells #[.int .i64 x] 3)) w.heap.size (.slice (some ⟨w.heap.size, 0, none⟩) 1 1) [x] :=
  ⟨by simp [cellsIT], .inr ⟨w.heap.size, 1, #[.int .i64 x], rfl, Nat.le_refl _, heap_alloc_new w _, Nat.le_refl _, by decide, rfl, rfl⟩⟩
/-- Appending a row of the call's own to another one. -/
theorem wpList_append_ints {w : World} {ops : Array Oper} {rest : List Oper} {o : Oper} {a : Act} {Q : Exit → Act → World → Prop} (hgd : o.guard = none) (s x : Operand)
    (ho : o.op = .call { callee := .builtin .append, args := #[s, x], argTypes := #[105, 105] })
    (base : Nat) (v : Value) (M : List Int) (b2 : Nat) (v2 : Value) (L : List Int) (hs : a.eval s = v) (hown : OwnI w base v M)
    (hx : a.eval x = v2) (hsrc : OwnI w b2 v2 L) (hn : M.length + L.length ≤ 100000) (hbase : base ≤ w.heap.size)
    (h : ∀ v' w', OwnI w' base v' (M ++ L) → w.grownBy w' v.ownBlock → wpList Tryz.prog ops Q rest (a.put o.dst v') w') : wpList Tryz.prog ops Q (o :: rest) a w := by
  obtain ⟨i0, hi, hz0, hz1, hz2⟩ := info_parts Tryz.infoInt
  obtain ⟨A, cap, rfl, hat⟩ := hsrc.at_
  by_cases hL : L = []
  · subst hL
    have hx' : a.eval x = .slice A 0 cap := hx
    have hrun : (Builtin.append_ #[105, 105] o.type #[v, .slice A 0 cap]).run Tryz.prog w = .ok v w := by
      have hl : ∀ (b : Option Addr) (n c : Nat), (Builtin.firstCells 1 0 (.slice A 0 cap)).run Tryz.prog w = .ok #[] w := by
        intro b n c
        cases A with
        | none => exact run_firstCells_none w 1 0 0 cap
        | some ad => exact run_firstCells_some w 1 0 ad 0 cap [] rfl (fun j v hj => by simp at hj)
      rcases hown.2 with ⟨rfl, h0⟩ | ⟨g, c2, cur, rfl, _, _, hnc, _⟩
      · rw [show (0 : Nat) = 0 from rfl] at *
        simp [Builtin.append_, run_underlying Tryz.underlying105, sizeOf, typeInfo, hi, hz1, Builtin.lenOf, hl none 0 0]
      · simp [Builtin.append_, run_underlying Tryz.underlying105, sizeOf, typeInfo, hi, hz1, Builtin.lenOf, hnc, storeCells, hl none 0 0]
    refine wpList_plain hgd fun K hK => ?_
    unfold Oper.wp
    simp [execOp, ho, resolve, invoke, builtin, hs, hx', hrun, Result.andThen]
    exact hK _ _ (h v w (by rw [List.append_nil]; exact hown) (World.grownBy.refl _ _))
  · obtain ⟨p, hp⟩ : ∃ p, L[0]? = some p := by
      cases L with
      | nil => exact absurd rfl hL
      | cons p r => exact ⟨p, rfl⟩
    obtain ⟨b, rfl, _⟩ := hat 0 p hp
    refine wpList_append_own w hgd s x _ ho base _ i0 _ 1 8 Tryz.underlying105 hi hz0 hz1 hz2 rfl (by decide) v M.length (cellsIT M) hs hown ⟨b, 0, none⟩ L.length cap (cellsIT L) hx (cellsI_len L) ?_ (fun u hu => ?_)
      (by unfold maxLen; omega) (by omega) hbase (fun v' w' h1 h2 _ => h v' w' ?_ h2)
    · intro j u hu
      have hj : j < L.length := by
        rcases Nat.lt_or_ge j L.length with h1 | h1
        · exact h1
        · rw [List.getElem?_eq_none (by rw [cellsI_len, Nat.mul_one]; exact h1)] at hu; cases hu
      have hq := List.getElem?_eq_getElem (l := L) (i := j) hj
      obtain ⟨b', e, c0⟩ := hat j _ hq
      obtain rfl : b = b' := (Addr.mk.inj (Option.some.inj e)).1
      rw [cellsI_at L j _ hq] at hu
      rw [← Option.some.inj hu]
      rw [addI]; exact c0
    · unfold cellsIT at hu
      obtain ⟨y, _, rfl⟩ := List.mem_map.1 hu
      rfl
    · unfold OwnI
      have : cellsIT (M ++ L) = cellsIT M ++ cellsIT L := by unfold cellsIT; simp
      rw [this, List.length_append]
      exact h1

/-- The nodes from the first one down to one. -/
def pathI (v : Int) : List Int := if 1 ≤ v then (pathT v.toNat (lvlT v.toNat + 1)).map Int.ofNat else []
def pathK (n k : Nat) : List Int := (pathT n k).map Int.ofNat
theorem pathK_len (n k : Nat) : (pathK n k).length = k := by unfold pathK; rw [List.length_map, path_len]
theorem pathK_succ (n k : Nat) : pathK n (k + 1) = [((n / 2 ^ k : Nat) : Int)] ++ pathK n k := by unfold pathK; rw [path_succ, List.map_cons]; rfl

set_option maxRecDepth 100000 in
set_option maxHeartbeats 2000000 in
theorem rpath_any (w : World) (v : Int) (hv : I64 v) :
    Calls Tryz.prog 63 #[.int .i64 v] w fun e w' => ∃ r, e = .returned r ∧ OwnI w' w.heap.size r (pathI v) ∧ Below w.heap.size w w' := by
  obtain ⟨v0, v1⟩ := hv
  by_cases h1 : 1 ≤ v
  case neg =>
    have e : pathI v = [] := by unfold pathI; rw [if_neg h1]
    rw [e]
    clear e
    go_enter Tryz.func63, Tryz.ntmps63
    go_wp2_with fail
    go_loopg [0, 3] 0 (fun g j r wr => j = .int .i64 v ∧ r = .slice none 0 0 ∧ wr = w)
    case atStart => exact ⟨rfl, rfl, rfl⟩
    case round =>
      obtain ⟨rfl, rfl, rfl⟩ := hrel
      go_wp2_with fail
      go_ret
      exact ⟨_, rfl, OwnI.nil _ _, Below.refl _ _⟩
  case pos =>
    obtain ⟨n, rfl⟩ : ∃ n : Nat, v = n := ⟨v.toNat, by omega⟩
    have hn1 : 1 ≤ n := by omega
    have e : pathI (n : Int) = pathK n (lvlT n + 1) := by unfold pathI pathK; rw [if_pos h1]; rfl
    rw [e]
    have hl : lvlT n ≤ 62 := lvl_le hn1 (by omega)
    have HE := Lib.hid (fun k => path_ends hn1 (k := k))
    clear e v0
    go_enter Tryz.func63, Tryz.ntmps63
    go_wp2_with fail
    go_loopg [0, 3] (lvlT n + 1) (fun g j r wr => ∃ (k q : Nat), k ≤ lvlT n + 1 ∧ g = lvlT n + 1 - k ∧ q = n / 2 ^ k ∧ j = .int .i64 q ∧ OwnI wr w.heap.size r (pathK n k) ∧ Below w.heap.size w wr)
    case atStart => exact ⟨0, n, Nat.zero_le _, rfl, by rw [Nat.pow_zero, Nat.div_one], rfl, OwnI.nil _ _, Below.refl _ _⟩
    case round =>
      obtain ⟨k, q, hk, rfl, hq, rfl, ho, hb⟩ := hrel
      have HQ := Lib.hid hq
      have HO := Lib.hid ho
      have HB := Lib.hid hb
      clear hq ho hb
      have hq63 : q ≤ n := by have := HQ.out; rw [this]; exact Nat.div_le_self _ _
      by_cases hlt : k ≤ lvlT n
      · have kq : (1 : Int) ≤ (q : Int) := by have := (HE.out k).2 hlt; have := HQ.out; omega
        have HO1 := Lib.hid (own_one wr q)
        have HB1 : Hid (Below wr.heap.size wr (wr.alloc (.cells #[.int .i64 q] 3))) := Lib.hid ((Below.refl _ _).alloc (Nat.le_refl _) _)
        have q0 : 0 ≤ (q : Int) := by omega
        have q1 : (q : Int) ≤ 9223372036854775807 := by omega
        have HO2 := Lib.hid (HO.out.call HB1.out)
        go_wp2_with (at_builtin; refine wpList_append_ints rfl _ _ rfl wr.heap.size _ [(q : Int)] w.heap.size _ (pathK n k) rfl HO1.out rfl HO2.out ?c1 ?c2 ?_)
        case c1 => rw [pathK_len]; simp; omega
        case c2 => exact HB1.out.size
        intro r' w3 hown hg
        have hb3 : Below wr.heap.size wr w3 := HB1.out.grown hg HB1.out.size (fun g hg => (HO1.out.lt g hg).1)
        have HO3 : Hid (OwnI w3 w.heap.size r' (pathK n (k + 1))) := Lib.hid (by
          rw [pathK_succ, ← HQ.out]
          obtain ⟨a, b⟩ := hown
          refine ⟨a, b.imp id ?_⟩
          rintro ⟨g, cap, cur, h1, h2, h3⟩
          exact ⟨g, cap, cur, h1, Nat.le_trans HB.out.size h2, h3⟩)
        have HB3 := Lib.hid (HB.out.trans (hb3.mono HB.out.size))
        clear hown hg hb3
        go_wp2_with fail
        go_roundg (lvlT n + 1 - (k + 1))
        case measure => omega
        case rel => exact ⟨k + 1, q / 2, by omega, rfl, by rw [HQ.out, Nat.pow_succ, Nat.div_div_eq_div_mul], congrArg (Value.int .i64) (show (q : Int) / 2 = ((q / 2 : Nat) : Int) by omega), HO3.out, HB3.out⟩
      · obtain rfl : k = lvlT n + 1 := by omega
        have kq : ¬ (1 : Int) ≤ (q : Int) := by have := (HE.out (lvlT n + 1)).1; have := HQ.out; omega
        go_wp2_with fail
        go_ret
        exact ⟨_, rfl, HO.out, HB.out⟩
end Go.Proofs.YthjcdbnjmpjikaaGreat

/-
  The reference of layer 16: Good, Range, Above, Before.
-/
namespace Go.Proofs.YthjcdbnjmpjikaaGreat
set_option linter.unusedVariables false
set_option linter.unusedSimpArgs false
open Go.RowKit

def goodT (b : Nat) (v : Int) : Bool := decide (1 ≤ v) && decide (v < 2 ^ (b + 1))
theorem good_nat {b : Nat} {v : Int} (h : goodT b v = true) : ∃ n : Nat, v = n ∧ 1 ≤ n ∧ n < 2 ^ (b + 1) := by
  unfold goodT at h
  rw [Bool.and_eq_true, decide_eq_true_eq, decide_eq_true_eq] at h
  refine ⟨v.toNat, by omega, by omega, ?_⟩
  have e : ((2 ^ (b + 1) : Nat) : Int) = 2 ^ (b + 1) := by rw [Int.natCast_pow]; rfl
  have := h.2
  rw [← e] at this
  omega
theorem nat_good {b n : Nat} (h1 : 1 ≤ n) (h2 : n < 2 ^ (b + 1)) : goodT b (n : Int) = true := by
  unfold goodT
  have e : ((2 ^ (b + 1) : Nat) : Int) = 2 ^ (b + 1) := by rw [Int.natCast_pow]; rfl
  rw [← e, decide_eq_true (by omega : (1 : Int) ≤ n), decide_eq_true (by omega : (n : Int) < ((2 ^ (b + 1) : Nat) : Int))]; rfl
def loI (b n : Nat) : Int := (loT b n : Int) - 2 ^ b
def hiI (b n : Nat) : Int := (upT b n : Int) - 2 ^ b - 1
theorem pow_bd {b : Nat} (h : b ≤ 24) : 1 ≤ 2 ^ b ∧ 2 ^ b ≤ 16777216 := by
  have h1 := Nat.pow_le_pow_right (show 0 < 2 by omega) h
  have h2 := Nat.two_pow_pos b
  exact ⟨h2, by omega⟩

set_option maxRecDepth 100000 in
theorem rgood16_any (w : World) (b : Nat) (hb : b ≤ 24) (v : Int) (hv : I64 v) (B : Bool) (hB : goodT b v = B) :
    Calls Tryz.prog 27 #[.int .i64 b, .int .i64 v] w fun e w' => e = .returned (.bool B) ∧ Below w.heap.size w w' := by
  have HB := Lib.hid hB
  obtain ⟨v0, v1⟩ := hv
  clear hB
  go_enter Tryz.func27, Tryz.ntmps27
  go_wp2_with fail
  go_loopg [5, 6] b (fun g m j wr => ∃ (k p : Nat), k ≤ b ∧ g = b - k ∧ p = 2 ^ (k + 1) ∧ m = .int .i64 p ∧ j = .int .i64 k ∧ wr = w)
  case atStart => exact ⟨0, 2, Nat.zero_le _, rfl, rfl, rfl, rfl, rfl⟩
  case round =>
    obtain ⟨k, p, hk, rfl, hp, rfl, rfl, rfl⟩ := hrel
    have HP := Lib.hid hp
    have p0 : p ≤ 33554432 := by
      have := (pow_bd (show k ≤ 24 by omega)).2
      rw [hp, Nat.pow_succ]; omega
    clear hp
    by_cases hlt : k < b
    · have kl : (k : Int) < b := by omega
      go_wp2_with fail
      go_roundg (b - (k + 1))
      case measure => omega
      case rel => exact ⟨k + 1, 2 * p, by omega, rfl, by rw [HP.out, Nat.pow_succ 2 (k + 1)]; omega, congrArg (Value.int .i64) (show (2 : Int) * (p : Int) = ((2 * p : Nat) : Int) by omega), by first | rfl | go_num, rfl⟩
    · obtain rfl : k = b := by omega
      have kl : ¬ (k : Int) < k := by omega
      have e : ((2 ^ (k + 1) : Nat) : Int) = 2 ^ (k + 1) := by rw [Int.natCast_pow]; rfl
      have hgt : goodT k v = (decide (1 ≤ v) && decide (v < (p : Int))) := by unfold goodT; rw [HP.out, e]
      have HG := Lib.hid (hgt.symm.trans HB.out)
      clear hgt e
      by_cases h1 : 1 ≤ v
      · have HF : Hid (decide (v < (p : Int)) = B) := Lib.hid (by have := HG.out; rw [decide_eq_true h1, Bool.true_and] at this; exact this)
        go_wp2_with fail
        go_ret
        exact ⟨by rw [HF.out]; rfl, Below.refl _ _⟩
      · have HF : Hid (B = false) := Lib.hid (by have := HG.out; rw [decide_eq_false h1, Bool.false_and] at this; exact this.symm)
        go_wp2_with fail
        go_ret
        exact ⟨by rw [HF.out]; rfl, Below.refl _ _⟩

set_option maxRecDepth 100000 in
set_option maxHeartbeats 2000000 in
theorem rrange_any (w : World) (b n : Nat) (hb : b ≤ 24) (h1 : 1 ≤ n) (h2 : n < 2 ^ (b + 1)) (lo hi : Int) (hlo : loI b n = lo) (hhi : hiI b n = hi) :
    Calls Tryz.prog 38 #[.int .i64 b, .int .i64 n] w fun e w' => e = .returned (.tuple #[.int .i64 lo, .int .i64 hi]) ∧ Below w.heap.size w w' := by
  have hll := lvl_le h1 h2
  have hpb := (pow_bd hb).2
  have hn : n < 33554432 := by rw [Nat.pow_succ] at h2; omega
  have HLO := Lib.hid hlo
  have HHI := Lib.hid hhi
  have H1 := Lib.hid h1
  have HPA := Lib.hid (fun W => rpath_any W (n : Int) ⟨by omega, by omega⟩)
  obtain ⟨ln, hln⟩ : ∃ ln, ln = lvlT n + 1 := ⟨_, rfl⟩
  have hpi : pathI (n : Int) = pathK n ln := by unfold pathI pathK; rw [if_pos (by omega), hln]; rfl
  rw [hpi] at HPA
  have HLN := Lib.hid hln
  have lb : ln ≤ b + 1 := by omega
  have l1 : 1 ≤ ln := by omega
  clear hlo hhi h2 hpi hpb
  go_enter Tryz.func38, Tryz.ntmps38
  go_wp2_with fail
  go_loopg [7, 8] b (fun g m j wr => ∃ (k p : Nat), k ≤ b ∧ g = b - k ∧ p = 2 ^ k ∧ m = .int .i64 p ∧ j = .int .i64 k ∧ wr = w)
  case atStart => exact ⟨0, 1, Nat.zero_le _, rfl, rfl, rfl, rfl, rfl⟩
  case round =>
    obtain ⟨k, p, hk, rfl, hp, rfl, rfl, rfl⟩ := hrel
    have HP := Lib.hid hp
    have p0 : p ≤ 16777216 := by rw [hp]; exact (pow_bd (show k ≤ 24 by omega)).2
    clear hp
    by_cases hlt : k < b
    · have kl : (k : Int) < b := by omega
      go_wp2_with fail
      go_roundg (b - (k + 1))
      case measure => omega
      case rel => exact ⟨k + 1, 2 * p, by omega, rfl, by rw [HP.out, Nat.pow_succ 2 k]; omega, congrArg (Value.int .i64) (show (2 : Int) * (p : Int) = ((2 * p : Nat) : Int) by omega), by first | rfl | go_num, rfl⟩
    · obtain rfl : k = b := by omega
      have kl : ¬ (k : Int) < k := by omega
      go_wp2_with fail
      refine (HPA.out _).mono ?_
      rintro e w1 ⟨r, rfl, ho, b1⟩
      obtain ⟨A, cap, rfl, hat⟩ := ho.at_
      rw [pathK_len]
      have HAT : Hid (∀ W, Below w1.heap.size w1 W → ∀ i, i < ln → ∃ g, A = some ⟨g, 0, none⟩ ∧ W.cell? ⟨g, i, none⟩ = some (.int .i64 ((n / 2 ^ (ln - 1 - i) : Nat) : Int))) := Lib.hid fun W hW i hi => by
        obtain ⟨g, e, hc⟩ := hat i ((n / 2 ^ (ln - 1 - i) : Nat) : Int) (by unfold pathK; rw [List.getElem?_map, path_at n ln i hi]; rfl)
        exact ⟨g, e, cell_later hW hc⟩
      have HB1 := Lib.hid b1
      clear ho hat b1 HPA
      go_wp2_with fail
      go_loopg [6, 7, 10] (ln - 1) (fun g l m j wr => ∃ (i sz : Nat) (x : Int), 1 ≤ i ∧ i ≤ ln ∧ g = ln - i ∧ sz = 2 ^ (k - (i - 1)) ∧ x = ((n / 2 ^ (ln - i) * 2 ^ (k - (i - 1)) : Nat) : Int) - 2 ^ k ∧ 0 ≤ x ∧ x + sz ≤ 16777216 ∧ l = .int .i64 x ∧ m = .int .i64 sz ∧ j = .int .i64 i ∧ Below w1.heap.size w1 wr)
      case atStart =>
        have hd : n / 2 ^ (ln - 1) = 1 := by
          have hb := lvl_bd H1.out
          have e : ln - 1 = lvlT n := by have := HLN.out; omega
          rw [e]
          refine Nat.div_eq_of_lt_le (by omega) ?_
          rw [Nat.pow_succ] at hb; omega
        have e : ((2 ^ k : Nat) : Int) = 2 ^ k := by rw [Int.natCast_pow]; rfl
        exact ⟨1, p, 0, Nat.le_refl _, l1, rfl, HP.out, by rw [hd, Nat.one_mul, Nat.sub_self, Nat.sub_zero, e]; omega, by omega, by omega, rfl, rfl, rfl, Below.refl _ _⟩
      case round =>
        obtain ⟨i, sz, x, i1, i2, rfl, hsz, hx, x0, xs, rfl, rfl, rfl, hb2⟩ := hrel
        have HSZ := Lib.hid hsz
        have HX := Lib.hid hx
        have HB2 := Lib.hid hb2
        have z0 : sz ≤ 16777216 := by omega
        clear hsz hx
        by_cases hlt : i < ln
        · have kl2 : (i : Int) < ln := by omega
          obtain ⟨g, rfl, hc⟩ := HAT.out _ hb2 i hlt
          obtain ⟨y, hy⟩ : ∃ y, n / 2 ^ (ln - 1 - i) = y := ⟨_, rfl⟩
          rw [hy] at hc
          have y0 : y ≤ n := by rw [← hy]; exact Nat.div_le_self _ _
          have hbi : k - (i - 1) = k - i + 1 := by omega
          have hs2 : sz = 2 * 2 ^ (k - i) := by rw [HSZ.out, hbi, Nat.pow_succ]; omega
          have hds := div_step n (ln - 1 - i)
          rw [hy, show ln - 1 - i + 1 = ln - i by omega] at hds
          have hst := range_step (b := k) (i := i - 1) (u := n / 2 ^ (ln - i)) (t := y % 2) (by omega)
          rw [← hds, show i - 1 + 1 = i by omega] at hst
          have HS2 : Hid (sz / 2 = 2 ^ (k - i)) := Lib.hid (by omega)
          have HST : Hid (((y * 2 ^ (k - i) : Nat) : Int) - 2 ^ k = x + ((y % 2 * 2 ^ (k - i) : Nat) : Int)) := Lib.hid (by rw [hst, HX.out]; omega)
          have HY := Lib.hid hy
          have HQ : Hid ((sz : Int) / 2 = ((sz / 2 : Nat) : Int)) := Lib.hid (by omega)
          obtain ⟨s2, hs2'⟩ : ∃ s2, sz / 2 = s2 := ⟨_, rfl⟩
          have HE2 : Hid ((sz : Int) / 2 = (s2 : Int)) := Lib.hid (by omega)
          have hh2 : s2 + s2 = sz := by omega
          clear hy hs2 hds hst hb2
          by_cases hr : y % 2 = 1
          · have HR := Lib.hid hr
            have r1 : ((y : Int) % 2 == 1) = true := by simp; omega
            clear hr hs2'
            go_wp2_with fail
            go_roundg (ln - (i + 1))
            case measure => omega
            case rel =>
              have hs3 : s2 = 2 ^ (k - i) := by rw [← HS2.out]; omega
              exact ⟨i + 1, s2, x + s2, by omega, by omega, rfl, hs3, by rw [show i + 1 - 1 = i by omega, show ln - (i + 1) = ln - 1 - i by omega, HY.out, HST.out, HR.out, Nat.one_mul, ← hs3], by omega, by omega, by rw [HE2.out], by rw [HE2.out], by first | rfl | go_num, HB2.out⟩
          · have HR : Hid (y % 2 = 0) := Lib.hid (by omega)
            have r1 : ((y : Int) % 2 == 1) = false := by simp; omega
            clear hr hs2'
            go_wp2_with fail
            go_roundg (ln - (i + 1))
            case measure => omega
            case rel =>
              have hs3 : s2 = 2 ^ (k - i) := by rw [← HS2.out]; omega
              exact ⟨i + 1, s2, x, by omega, by omega, rfl, hs3, by rw [show i + 1 - 1 = i by omega, show ln - (i + 1) = ln - 1 - i by omega, HY.out, HST.out, HR.out, Nat.zero_mul]; simp, by omega, by omega, rfl, by rw [HE2.out], by first | rfl | go_num, HB2.out⟩
        · obtain rfl : i = ln := by omega
          have kl2 : ¬ (i : Int) < i := by omega
          have hl : i - 1 = lvlT n := by have := HLN.out; omega
          have e1 : x = lo := by rw [HX.out, ← HLO.out, hl, Nat.sub_self, Nat.pow_zero, Nat.div_one]; rfl
          have e2 : x + sz - 1 = hi := by
            rw [e1, ← HLO.out, ← HHI.out, HSZ.out, hl]
            unfold loI hiI loT upT
            rw [Nat.add_mul, Nat.one_mul]; omega
          have HE1 := Lib.hid e1
          have HE2 := Lib.hid e2
          have HRB := Lib.hid (HB1.out.trans (HB2.out.mono HB1.out.size))
          clear e1 e2 hb2
          go_wp2_with fail
          go_ret2
          exact ⟨by rw [HE2.out, HE1.out]; rfl, HRB.out⟩
end Go.Proofs.YthjcdbnjmpjikaaGreat

/-
  The reference of layer 16: Above, Before, and how long a path is.
-/
namespace Go.Proofs.YthjcdbnjmpjikaaGreat
set_option linter.unusedVariables false
set_option linter.unusedSimpArgs false
open Go.RowKit

/-- A path, as a slice. -/
theorem rpath_nat (w : World) (n : Nat) (h1 : 1 ≤ n) (hn : n < 33554432) :
    Calls Tryz.prog 63 #[.int .i64 n] w fun e w' => ∃ A cap, e = .returned (.slice A (lvlT n + 1) cap) ∧ Below w.heap.size w w' ∧
      ∀ i, i < lvlT n + 1 → ∃ g, A = some ⟨g, 0, none⟩ ∧ w'.cell? ⟨g, i, none⟩ = some (.int .i64 ((n / 2 ^ (lvlT n - i) : Nat) : Int)) := by
  refine (rpath_any w n ⟨by omega, by omega⟩).mono ?_
  rintro e w' ⟨r, rfl, ho, hb⟩
  have hpi : pathI (n : Int) = pathK n (lvlT n + 1) := by unfold pathI pathK; rw [if_pos (by omega)]; rfl
  rw [hpi] at ho
  obtain ⟨A, cap, rfl, hat⟩ := ho.at_
  rw [pathK_len]
  refine ⟨A, cap, rfl, hb, fun i hi => hat i _ ?_⟩
  unfold pathK
  rw [List.getElem?_map, path_at n _ i hi, Nat.add_sub_cancel]; rfl

set_option maxRecDepth 100000 in
set_option maxHeartbeats 1000000 in
theorem rbefore_any (w : World) (b v n : Nat) (hb : b ≤ 24) (hv1 : 1 ≤ v) (hv2 : v < 2 ^ (b + 1)) (h1 : 1 ≤ n) (h2 : n < 2 ^ (b + 1)) (B : Bool) (hB : beforeT b v n = B) :
    Calls Tryz.prog 37 #[.int .i64 b, .int .i64 v, .int .i64 n] w fun e w' => e = .returned (.bool B) ∧ Below w.heap.size w w' := by
  have hpb := (pow_bd hb).2
  have hv : v < 33554432 := by rw [Nat.pow_succ] at hv2; omega
  have hn : n < 33554432 := by rw [Nat.pow_succ] at h2; omega
  have HV := Lib.hid (fun W => rrange_any W b v hb hv1 hv2 _ _ rfl rfl)
  have HN := Lib.hid (fun W => rrange_any W b n hb h1 h2 _ _ rfl rfl)
  have HPV := Lib.hid (fun W => rpath_nat W v hv1 hv)
  have HPN := Lib.hid (fun W => rpath_nat W n h1 hn)
  have hlv : lvlT v ≤ 62 := lvl_le hv1 (by omega)
  have hln : lvlT n ≤ 62 := lvl_le h1 (by omega)
  have HB : Hid ((if hiI b v = hiI b n then decide (lvlT n < lvlT v) else decide (hiI b v < hiI b n)) = B) := Lib.hid (by
    rw [← hB]
    unfold hiI beforeT
    by_cases e : upT b v = upT b n
    · rw [if_pos (by rw [e]), e]; simp
    · rw [if_neg (by omega)]
      by_cases e2 : upT b v < upT b n
      · rw [decide_eq_true e2, decide_eq_true (by omega)]; rfl
      · rw [decide_eq_false e2, decide_eq_false (by omega), decide_eq_false e]; rfl)
  obtain ⟨lv, hlve⟩ : ∃ l, lvlT v = l := ⟨_, rfl⟩
  obtain ⟨l, hle⟩ : ∃ l, lvlT n = l := ⟨_, rfl⟩
  obtain ⟨a0, ha0⟩ : ∃ x, loI b v = x := ⟨_, rfl⟩
  obtain ⟨a1, ha1⟩ : ∃ x, hiI b v = x := ⟨_, rfl⟩
  obtain ⟨c0, hc0⟩ : ∃ x, loI b n = x := ⟨_, rfl⟩
  obtain ⟨c1, hc1⟩ : ∃ x, hiI b n = x := ⟨_, rfl⟩
  rw [hlve] at HPV hlv
  rw [hle] at HPN hln
  rw [ha0, ha1] at HV
  rw [hc0, hc1] at HN
  rw [hlve, hle, ha1, hc1] at HB
  clear hB hv2 h2 hpb hlve hle ha0 ha1 hc0 hc1
  go_enter Tryz.func37, Tryz.ntmps37
  go_wp2_with fail
  refine (HV.out _).mono ?_
  rintro e w1 ⟨rfl, b1⟩
  go_wp2_with fail
  refine (HN.out _).mono ?_
  rintro e w2 ⟨rfl, b2'⟩
  have b2 := b1.trans (b2'.mono b1.size)
  by_cases he : a1 = c1
  · have HF : Hid (decide (l < lv) = B) := Lib.hid (by have := HB.out; rw [if_pos he] at this; exact this)
    have r1 : (a1 != c1) = false := by simp [he]
    clear b1 b2' HB he
    go_wp2_with fail
    refine (HPV.out _).mono ?_
    rintro e w3 ⟨A, cap, rfl, b3', _⟩
    have b3 := b2.trans (b3'.mono b2.size)
    clear b3'
    go_wp2_with fail
    refine (HPN.out _).mono ?_
    rintro e w4 ⟨A4, cap4, rfl, b4', _⟩
    have b4 := b3.trans (b4'.mono b3.size)
    clear b4'
    go_wp2_with fail
    go_ret
    exact ⟨by rw [← HF.out]; rfl, b4⟩
  · have HF : Hid (decide (a1 < c1) = B) := Lib.hid (by have := HB.out; rw [if_neg he] at this; exact this)
    have r1 : (a1 != c1) = true := by simp [he]
    clear b1 b2' HB he
    go_wp2_with fail
    go_ret
    exact ⟨by rw [HF.out]; rfl, b2⟩
end Go.Proofs.YthjcdbnjmpjikaaGreat

/-
  Plain mathematics of parts: greatest divisors, places, digits, texts: no program in sight.
-/
namespace Go.Proofs.YthjcdbnjmpjikaaGreat
set_option linter.unusedVariables false
set_option linter.unusedSimpArgs false

/-- The greatest common divisor. -/
def gcdI (a b : Int) : Int := (Nat.gcd a.toNat b.toNat : Nat)
theorem gcd_zero {a : Int} (h : 0 ≤ a) : gcdI a 0 = a := by
  unfold gcdI; simp; omega
theorem gcd_step {a b : Int} (ha : 0 ≤ a) (hb : 0 ≤ b) (h : ¬ b = 0) : gcdI b (a % b) = gcdI a b := by
  obtain ⟨m, rfl⟩ := Int.eq_ofNat_of_zero_le ha
  obtain ⟨n, rfl⟩ := Int.eq_ofNat_of_zero_le hb
  unfold gcdI
  rw [← Int.natCast_emod]
  simp only [Int.toNat_natCast]
  rw [Nat.gcd_comm n, ← Nat.gcd_rec, Nat.gcd_comm]
theorem gcd_word {a b : Int} (wa : Word a) (wb : Word b) : Word (gcdI a b) := by
  obtain ⟨a0, a1⟩ := wa; obtain ⟨b0, b1⟩ := wb
  obtain ⟨m, rfl⟩ := Int.eq_ofNat_of_zero_le a0
  obtain ⟨n, rfl⟩ := Int.eq_ofNat_of_zero_le b0
  unfold gcdI Word
  simp only [Int.toNat_natCast]
  refine ⟨by omega, ?_⟩
  rcases Nat.eq_zero_or_pos n with h | h
  · subst h; simp; omega
  · have := Nat.gcd_le_right m h; omega
theorem gcd_none {a b : Int} (ha : 0 ≤ a) (hb : 0 ≤ b) : gcdI a b = 0 ↔ a = 0 ∧ b = 0 := by
  unfold gcdI
  rw [Int.natCast_eq_zero, Nat.gcd_eq_zero_iff]; omega
theorem gcd_fst {a b : Int} (ha : 0 ≤ a) : ∃ q, 0 ≤ q ∧ a = q * gcdI a b := by
  obtain ⟨m, rfl⟩ := Int.eq_ofNat_of_zero_le ha
  obtain ⟨q, h⟩ := Nat.gcd_dvd_left m b.toNat
  refine ⟨q, by omega, ?_⟩
  unfold gcdI
  simp only [Int.toNat_natCast]
  rw [Int.mul_comm, ← Int.natCast_mul, ← h]
theorem gcd_snd {a b : Int} (hb : 0 ≤ b) : ∃ q, 0 ≤ q ∧ b = q * gcdI a b := by
  obtain ⟨m, rfl⟩ := Int.eq_ofNat_of_zero_le hb
  obtain ⟨q, h⟩ := Nat.gcd_dvd_right a.toNat m
  refine ⟨q, by omega, ?_⟩
  unfold gcdI
  simp only [Int.toNat_natCast]
  rw [Int.mul_comm, ← Int.natCast_mul, ← h]
/-- Whatever divides both divides it. -/
theorem gcd_all {a b k : Int} (ha : 0 ≤ a) (hb : 0 ≤ b) (hk : 0 ≤ k) (h1 : a % k = 0) (h2 : b % k = 0) : gcdI a b % k = 0 := by
  obtain ⟨m, rfl⟩ := Int.eq_ofNat_of_zero_le ha
  obtain ⟨n, rfl⟩ := Int.eq_ofNat_of_zero_le hb
  obtain ⟨j, rfl⟩ := Int.eq_ofNat_of_zero_le hk
  unfold gcdI
  simp only [Int.toNat_natCast]
  rw [← Int.natCast_emod, Int.natCast_eq_zero] at h1 h2 ⊢
  exact Nat.mod_eq_zero_of_dvd (Nat.dvd_gcd (Nat.dvd_of_mod_eq_zero h1) (Nat.dvd_of_mod_eq_zero h2))
/-- The numbers that are left have no divisor in common. -/
theorem gcd_left {a b : Int} (ha : 0 ≤ a) (hb : 0 ≤ b) (h : ¬ gcdI a b = 0) : gcdI (a / gcdI a b) (b / gcdI a b) = 1 := by
  obtain ⟨m, rfl⟩ := Int.eq_ofNat_of_zero_le ha
  obtain ⟨n, rfl⟩ := Int.eq_ofNat_of_zero_le hb
  unfold gcdI at *
  simp only [Int.toNat_natCast] at *
  rw [← Int.natCast_ediv, ← Int.natCast_ediv]
  simp only [Int.toNat_natCast]
  have hp : 0 < Nat.gcd m n := by omega
  rw [Nat.gcd_div (Nat.gcd_dvd_left m n) (Nat.gcd_dvd_right m n), Nat.div_self hp]
  rfl
theorem div_exact {a b : Int} {g : Int} (hg : g = gcdI a b) (ha : 0 ≤ a) (h : ¬ g = 0) : a / g * g = a ∧ a % g = 0 := by
  subst hg
  obtain ⟨q, q0, e⟩ := gcd_fst (b := b) ha
  generalize gcdI a b = g at *
  subst e
  exact ⟨by rw [Int.mul_ediv_cancel _ h], by simp⟩
theorem div_exact2 {a b : Int} {g : Int} (hg : g = gcdI a b) (hb : 0 ≤ b) (h : ¬ g = 0) : b / g * g = b ∧ b % g = 0 := by
  subst hg
  obtain ⟨q, q0, e⟩ := gcd_snd (a := a) hb
  generalize gcdI a b = g at *
  subst e
  exact ⟨by rw [Int.mul_ediv_cancel _ h], by simp⟩

/-- Whether a part can be. -/
def gdB (a b : Int) : Bool := (b != 0) && decide (a ≤ b)
theorem gd_iff {a b : Int} : gdB a b = true ↔ ¬ b = 0 ∧ a ≤ b := by
  unfold gdB; simp

/-- A digit. -/
def digB (b : UInt8) : Bool := decide (48 ≤ b.toNat) && decide (b.toNat ≤ 57)
/-- The number that digits tell. -/
def valN : List UInt8 → Int → Int
  | [], n => n
  | b :: l, n => valN l (10 * n + ((b.toNat : Int) - 48))
theorem valN_app (l m : List UInt8) (n : Int) : valN (l ++ m) n = valN m (valN l n) := by
  induction l generalizing n with
  | nil => rfl
  | cons b l ih => simp only [List.cons_append, valN, ih]
theorem valN_take {l : List UInt8} {k : Nat} {x : UInt8} (h : l[k]? = some x) : valN (l.take (k + 1)) 0 = 10 * valN (l.take k) 0 + ((x.toNat : Int) - 48) := by
  have hk : k < l.length := by
    rcases Nat.lt_or_ge k l.length with h' | h'
    · exact h'
    · rw [List.getElem?_eq_none h'] at h; cases h
  rw [List.take_succ_eq_append_getElem hk, valN_app]
  have : l[k] = x := by rw [List.getElem?_eq_getElem hk] at h; exact Option.some.inj h
  rw [this]; simp [valN]
theorem all_take {l : List UInt8} {k : Nat} {x : UInt8} (h : l[k]? = some x) : (l.take (k + 1)).all digB = ((l.take k).all digB && digB x) := by
  have hk : k < l.length := by
    rcases Nat.lt_or_ge k l.length with h' | h'
    · exact h'
    · rw [List.getElem?_eq_none h'] at h; cases h
  rw [List.take_succ_eq_append_getElem hk, List.all_append]
  have : l[k] = x := by rw [List.getElem?_eq_getElem hk] at h; exact Option.some.inj h
  rw [this]; simp
theorem all_not {l : List UInt8} {k : Nat} {x : UInt8} (h : l[k]? = some x) (hx : digB x = false) : l.all digB = false := by
  rw [List.all_eq_false]
  exact ⟨x, List.mem_of_getElem? h, by simp [hx]⟩
/-- So many digits tell no more than so much. -/
theorem valN_bd {l : List UInt8} (h : l.all digB = true) : 0 ≤ valN l 0 ∧ valN l 0 < (10 : Int) ^ l.length := by
  have key : ∀ (l : List UInt8) (n : Int), l.all digB = true → 0 ≤ n → n * 10 ^ l.length ≤ valN l n ∧ valN l n < (n + 1) * (10 : Int) ^ l.length := by
    intro l
    induction l with
    | nil => intro n _ h0; simp [valN]; omega
    | cons b l ih =>
      intro n h h0
      simp only [List.all_cons, Bool.and_eq_true] at h
      obtain ⟨hb, hl⟩ := h
      unfold digB at hb
      simp only [Bool.and_eq_true, decide_eq_true_eq] at hb
      have h1 := ih (10 * n + ((b.toNat : Int) - 48)) hl (by omega)
      simp only [valN, List.length_cons]
      have p : (0 : Int) < 10 ^ l.length := Int.pow_pos (by omega)
      have e : (10 : Int) ^ (l.length + 1) = 10 * 10 ^ l.length := by rw [Int.pow_succ, Int.mul_comm]
      rw [e]
      generalize (10 : Int) ^ l.length = P at *
      have e1 : n * (10 * P) ≤ (10 * n + ((b.toNat : Int) - 48)) * P := by
        have : n * (10 * P) = (10 * n) * P := by rw [← Int.mul_assoc, Int.mul_comm n 10]
        rw [this]
        exact Int.mul_le_mul_of_nonneg_right (by omega) (by omega)
      have e2 : (10 * n + ((b.toNat : Int) - 48) + 1) * P ≤ (n + 1) * (10 * P) := by
        have : (n + 1) * (10 * P) = (10 * n + 10) * P := by
          rw [← Int.mul_assoc]; congr 1; omega
        rw [this]
        exact Int.mul_le_mul_of_nonneg_right (by omega) (by omega)
      omega
  have h2 := key l 0 h (by omega)
  simp at h2
  omega
theorem valN_small {l : List UInt8} {k : Nat} (h : (l.take k).all digB = true) (hk : k ≤ 18) : 0 ≤ valN (l.take k) 0 ∧ valN (l.take k) 0 < 1000000000000000000 := by
  have h1 := valN_bd h
  refine ⟨h1.1, Int.lt_of_lt_of_le h1.2 ?_⟩
  have h2 : (l.take k).length ≤ 18 := by rw [List.length_take]; omega
  have h3 : (10 : Int) ^ (l.take k).length ≤ 10 ^ 18 := by
    have := Nat.pow_le_pow_right (show 0 < 10 by omega) h2
    exact_mod_cast this
  simpa using h3

/-- Whether a text is a number's; the number. -/
def numH (l : List UInt8) : Bool := (l.length == 0) || decide (18 < l.length) || (decide (1 < l.length) && (l.getD 0 0 == 48))
def numO (l : List UInt8) : Bool := !numH l && l.all digB
def numV (l : List UInt8) : Int := if numO l = true then valN l 0 else 0
theorem num_head {l : List UInt8} (h : numH l = true) : numO l = false ∧ numV l = 0 := by
  have e : numO l = false := by unfold numO; rw [h]; rfl
  exact ⟨e, by unfold numV; rw [e]; rfl⟩
theorem num_not {l : List UInt8} (h : l.all digB = false) : numO l = false ∧ numV l = 0 := by
  have e : numO l = false := by unfold numO; rw [h]; simp
  exact ⟨e, by unfold numV; rw [e]; rfl⟩
theorem num_all {l : List UInt8} (h : numH l = false) (h' : l.all digB = true) : numO l = true ∧ numV l = valN l 0 := by
  have e : numO l = true := by unfold numO; rw [h, h']; rfl
  exact ⟨e, by unfold numV; rw [if_pos e]⟩
theorem num_len {l : List UInt8} (h : numH l = false) : 1 ≤ l.length ∧ l.length ≤ 18 := by
  unfold numH at h
  simp only [Bool.or_eq_false_iff, beq_eq_false_iff_ne, decide_eq_false_iff_not] at h
  omega
theorem num_word (l : List UInt8) : Word (numV l) := by
  unfold numV
  split
  · rename_i h
    unfold numO at h
    simp only [Bool.and_eq_true, Bool.not_eq_true'] at h
    have h1 := valN_small (l := l) (k := l.length) (by rw [List.take_length]; exact h.2) (num_len h.1).2
    rw [List.take_length] at h1
    exact ⟨h1.1, by omega⟩
  · exact ⟨by omega, by omega⟩
end Go.Proofs.YthjcdbnjmpjikaaGreat

/-
  Walks: share.Good and its reference, share.Divisor, share.Least.
-/
namespace Go.Proofs.YthjcdbnjmpjikaaGreat
set_option linter.unusedVariables false
set_option linter.unusedSimpArgs false
open Go.RowKit

theorem ret_pair3 {k : IntKind} {a b : Int} {c d : Bool} (h : a = b) (h' : c = d) : Ending.returned (.tuple #[.int k a, .bool c]) = .returned (.tuple #[.int k b, .bool d]) := by rw [h, h']

set_option maxHeartbeats 400000 in
theorem good_any (a b : Int) (wa : Word a) (wb : Word b) (w : World) :
    Calls Tryz.prog 55 #[.agg #[.int .u64 a, .int .u64 b]] w fun e w' =>
      e = .returned (.bool (gdB a b)) ∧ Below w.heap.size w w' := by
  by_cases h : b = 0
  · subst h
    have E : Hid (false = gdB a 0) := Lib.hid rfl
    go_enter Tryz.func55, Tryz.ntmps55
    go_wp2_with fail
    go_ret
    exact ⟨ret_bool E.out, (Below.refl _ _).alloc (Nat.le_refl _) _⟩
  · have hb0 : (b != 0) = true := by simp [h]
    have hb1 : (!b == 0) = true := by simp [h]
    have E : Hid (decide (a ≤ b) = gdB a b) := Lib.hid (by unfold gdB; simp [h])
    go_enter Tryz.func55, Tryz.ntmps55
    go_wp2_with fail
    go_ret
    exact ⟨ret_bool E.out, (Below.refl _ _).alloc (Nat.le_refl _) _⟩

set_option maxHeartbeats 400000 in
theorem rgood_any (a b : Int) (wa : Word a) (wb : Word b) (w : World) :
    Calls Tryz.prog 21 #[.agg #[.int .u64 a, .int .u64 b]] w fun e w' =>
      e = .returned (.bool (gdB a b)) ∧ Below w.heap.size w w' := by
  by_cases h : b = 0
  · subst h
    have E : Hid (false = gdB a 0) := Lib.hid rfl
    go_enter Tryz.func21, Tryz.ntmps21
    go_wp2_with fail
    go_ret
    exact ⟨ret_bool E.out, (Below.refl _ _).alloc (Nat.le_refl _) _⟩
  · have hb0 : (b != 0) = true := by simp [h]
    have hb1 : (!b == 0) = true := by simp [h]
    have E : Hid ((!decide (b < a)) = gdB a b) := Lib.hid (by unfold gdB; rw [hb0, Bool.true_and, Bool.eq_iff_iff]; simp)
    go_enter Tryz.func21, Tryz.ntmps21
    go_wp2_with fail
    go_ret
    exact ⟨ret_bool E.out, (Below.refl _ _).alloc (Nat.le_refl _) _⟩

theorem mod_word {a b : Int} (wa : Word a) (wb : Word b) (h : ¬ b = 0) : Word (a % b) ∧ a % b < b := by
  obtain ⟨a0, a1⟩ := wa; obtain ⟨b0, b1⟩ := wb
  have h1 := Int.emod_nonneg a h
  have h2 := Int.emod_lt_of_pos a (show 0 < b by omega)
  exact ⟨⟨h1, by omega⟩, h2⟩
theorem div_u64 {a g : Int} (wa : Word a) (wg : Word g) : IntKind.u64.wrap (a.tdiv g) = a / g := by
  rw [Int.tdiv_eq_ediv_of_nonneg wa.1, IntKind.wrap_u64]
  have h1 := Int.ediv_nonneg wa.1 wg.1
  have h2 := Int.ediv_le_self g wa.1
  have := wa.2
  exact Int.emod_eq_of_lt h1 (by omega)
def intU : Value → Nat | .int _ q => q.toNat | _ => 0

end Go.Proofs.YthjcdbnjmpjikaaGreat
/-
  The library contracts that the proofs lean on, laid at this translation by program.
-/
namespace Go.Proofs
open Go.Shelf
def Tryz.lays128_ren : Go.Shelf.Ren := ⟨fun | 128 => 103 | n => n, fun | 51 => 147 | 3 => 3 | 4 => 4 | 46 => 132 | 5 => 5 | 9 => 9 | n => n, fun | n => n⟩
theorem Tryz.lays128 : Go.Proofs.Lays.n128 Tryz.prog Tryz.lays128_ren := {
  mixed := by kernel_rfl
  f128 := Tryz.func103.trans (congrArg some (by kernel_rfl))
  t3 := Tryz.underlying3
  a3 := Tryz.isAgg3
  z3 := Tryz.sizeOf3
  v3 := Tryz.zeroValue3
  t4 := Tryz.underlying4
  a4 := Tryz.isAgg4
  z4 := Tryz.sizeOf4
  v4 := Tryz.zeroValue4
  t5 := Tryz.underlying5
  a5 := Tryz.isAgg5
  z5 := Tryz.sizeOf5
  v5 := Tryz.zeroValue5
  t9 := Tryz.underlying9
  a9 := Tryz.isAgg9
  z9 := Tryz.sizeOf9
  v9 := Tryz.zeroValue9
  t46 := Tryz.underlying132
  a46 := Tryz.isAgg132
  z46 := Tryz.sizeOf132
  v46 := Tryz.zeroValue132
  t51 := Tryz.underlying147
  a51 := Tryz.isAgg147
  z51 := Tryz.sizeOf147
  v51 := Tryz.zeroValue147 }
theorem Tryz.bits_Len32 (x : Int) (w : World) (h0 : 0 ≤ x) (h1 : x ≤ 4294967295) :
    Calls Tryz.prog 103 #[.int .u32 x] w fun e w' => e = .returned (.int .i64 (Lib.bitLen x.toNat)) ∧ w' = w := Any.bits_Len32 Tryz.lays128 x w h0 h1
def Tryz.lays125_ren : Go.Shelf.Ren := ⟨fun | 125 => 84 | 128 => 103 | 129 => 104 | n => n, fun | 46 => 132 | 3 => 3 | 51 => 147 | 53 => 25 | 4 => 4 | 5 => 5 | 9 => 9 | n => n, fun | n => n⟩
theorem Tryz.lays125 : Go.Proofs.Lays.n125 Tryz.prog Tryz.lays125_ren := {
  mixed := by kernel_rfl
  f125 := Tryz.func84.trans (congrArg some (by kernel_rfl))
  f128 := Tryz.func103.trans (congrArg some (by kernel_rfl))
  f129 := Tryz.func104.trans (congrArg some (by kernel_rfl))
  t3 := Tryz.underlying3
  a3 := Tryz.isAgg3
  z3 := Tryz.sizeOf3
  v3 := Tryz.zeroValue3
  t4 := Tryz.underlying4
  a4 := Tryz.isAgg4
  z4 := Tryz.sizeOf4
  v4 := Tryz.zeroValue4
  t5 := Tryz.underlying5
  a5 := Tryz.isAgg5
  z5 := Tryz.sizeOf5
  v5 := Tryz.zeroValue5
  t9 := Tryz.underlying9
  a9 := Tryz.isAgg9
  z9 := Tryz.sizeOf9
  v9 := Tryz.zeroValue9
  t46 := Tryz.underlying132
  a46 := Tryz.isAgg132
  z46 := Tryz.sizeOf132
  v46 := Tryz.zeroValue132
  t51 := Tryz.underlying147
  a51 := Tryz.isAgg147
  z51 := Tryz.sizeOf147
  v51 := Tryz.zeroValue147
  t53 := Tryz.underlying25
  a53 := Tryz.isAgg25
  z53 := Tryz.sizeOf25
  v53 := Tryz.zeroValue25 }
theorem Tryz.bits_Len (x : Int) (w : World) (h0 : 0 ≤ x) (h1 : x ≤ 18446744073709551615) :
    Calls Tryz.prog 84 #[.int .u64 x] w fun e w' => e = .returned (.int .i64 (Lib.bitLen x.toNat)) ∧ w' = w := Any.bits_Len Tryz.lays125 x w h0 h1
def Tryz.lays134_ren : Go.Shelf.Ren := ⟨fun | 134 => 119 | 129 => 104 | n => n, fun | 53 => 25 | 3 => 3 | 4 => 4 | 46 => 132 | 5 => 5 | 9 => 9 | n => n, fun | n => n⟩
theorem Tryz.lays134 : Go.Proofs.Lays.n134 Tryz.prog Tryz.lays134_ren := {
  mixed := by kernel_rfl
  f129 := Tryz.func104.trans (congrArg some (by kernel_rfl))
  f134 := Tryz.func119.trans (congrArg some (by kernel_rfl))
  t3 := Tryz.underlying3
  a3 := Tryz.isAgg3
  z3 := Tryz.sizeOf3
  v3 := Tryz.zeroValue3
  t4 := Tryz.underlying4
  a4 := Tryz.isAgg4
  z4 := Tryz.sizeOf4
  v4 := Tryz.zeroValue4
  t5 := Tryz.underlying5
  a5 := Tryz.isAgg5
  z5 := Tryz.sizeOf5
  v5 := Tryz.zeroValue5
  t9 := Tryz.underlying9
  a9 := Tryz.isAgg9
  z9 := Tryz.sizeOf9
  v9 := Tryz.zeroValue9
  t46 := Tryz.underlying132
  a46 := Tryz.isAgg132
  z46 := Tryz.sizeOf132
  v46 := Tryz.zeroValue132
  t53 := Tryz.underlying25
  a53 := Tryz.isAgg25
  z53 := Tryz.sizeOf25
  v53 := Tryz.zeroValue25 }
theorem Tryz.bits_LeadingZeros64 (x : Int) (w : World) (h0 : 0 ≤ x) (h1 : x ≤ 18446744073709551615) :
    Calls Tryz.prog 119 #[.int .u64 x] w fun e w' => e = .returned (.int .i64 (64 - (Lib.bitLen x.toNat : Int))) ∧ w' = w := Any.bits_LeadingZeros64 Tryz.lays134 x w h0 h1
def Tryz.lays215_ren : Go.Shelf.Ren := ⟨fun | 215 => 117 | n => n, fun | 3 => 3 | 4 => 4 | n => n, fun | n => n⟩
theorem Tryz.lays215 : Go.Proofs.Lays.n215 Tryz.prog Tryz.lays215_ren := {
  mixed := by kernel_rfl
  f215 := Tryz.func117.trans (congrArg some (by kernel_rfl))
  t3 := Tryz.underlying3
  a3 := Tryz.isAgg3
  z3 := Tryz.sizeOf3
  v3 := Tryz.zeroValue3
  t4 := Tryz.underlying4
  a4 := Tryz.isAgg4
  z4 := Tryz.sizeOf4
  v4 := Tryz.zeroValue4 }
open Go.RowKit in
theorem Tryz.cmp_isNaN_int (x : Int) (w : World) :
    Calls Tryz.prog 117 #[.int .i64 x] w fun e w' => e = .returned (.bool false) ∧ w' = w := Any.cmp_isNaN_int Tryz.lays215 x w
def Tryz.lays122_ren : Go.Shelf.Ren := ⟨fun | 122 => 98 | 215 => 117 | n => n, fun | 3 => 3 | 4 => 4 | n => n, fun | n => n⟩
theorem Tryz.lays122 : Go.Proofs.Lays.n122 Tryz.prog Tryz.lays122_ren := {
  mixed := by kernel_rfl
  f122 := Tryz.func98.trans (congrArg some (by kernel_rfl))
  f215 := Tryz.func117.trans (congrArg some (by kernel_rfl))
  t3 := Tryz.underlying3
  a3 := Tryz.isAgg3
  z3 := Tryz.sizeOf3
  v3 := Tryz.zeroValue3
  t4 := Tryz.underlying4
  a4 := Tryz.isAgg4
  z4 := Tryz.sizeOf4
  v4 := Tryz.zeroValue4 }
open Go.RowKit in
theorem Tryz.cmp_Compare_int (x y : Int) (w : World) :
    Calls Tryz.prog 98 #[.int .i64 x, .int .i64 y] w fun e w' => e = .returned (.int .i64 (Lib.compareInt x y)) ∧ w' = w := Any.cmp_Compare_int Tryz.lays122 x y w
def Tryz.lays129_ren : Go.Shelf.Ren := ⟨fun | 129 => 104 | n => n, fun | 53 => 25 | 3 => 3 | 4 => 4 | 46 => 132 | 5 => 5 | 9 => 9 | n => n, fun | n => n⟩
theorem Tryz.lays129 : Go.Proofs.Lays.n129 Tryz.prog Tryz.lays129_ren := {
  mixed := by kernel_rfl
  f129 := Tryz.func104.trans (congrArg some (by kernel_rfl))
  t3 := Tryz.underlying3
  a3 := Tryz.isAgg3
  z3 := Tryz.sizeOf3
  v3 := Tryz.zeroValue3
  t4 := Tryz.underlying4
  a4 := Tryz.isAgg4
  z4 := Tryz.sizeOf4
  v4 := Tryz.zeroValue4
  t5 := Tryz.underlying5
  a5 := Tryz.isAgg5
  z5 := Tryz.sizeOf5
  v5 := Tryz.zeroValue5
  t9 := Tryz.underlying9
  a9 := Tryz.isAgg9
  z9 := Tryz.sizeOf9
  v9 := Tryz.zeroValue9
  t46 := Tryz.underlying132
  a46 := Tryz.isAgg132
  z46 := Tryz.sizeOf132
  v46 := Tryz.zeroValue132
  t53 := Tryz.underlying25
  a53 := Tryz.isAgg25
  z53 := Tryz.sizeOf25
  v53 := Tryz.zeroValue25 }
theorem Tryz.bits_Len64 (x : Int) (w : World) (h0 : 0 ≤ x) (h1 : x ≤ 18446744073709551615) :
    Calls Tryz.prog 104 #[.int .u64 x] w fun e w' => e = .returned (.int .i64 (Lib.bitLen x.toNat)) ∧ w' = w := Any.bits_Len64 Tryz.lays129 x w h0 h1
def Tryz.lays264_ren : Go.Shelf.Ren := ⟨fun | 264 => 102 | n => n, fun | 53 => 25 | 46 => 132 | n => n, fun | n => n⟩
theorem Tryz.lays264 : Go.Proofs.Lays.n264 Tryz.prog Tryz.lays264_ren := {
  mixed := by kernel_rfl
  f264 := Tryz.func102.trans (congrArg some (by kernel_rfl))
  t46 := Tryz.underlying132
  a46 := Tryz.isAgg132
  z46 := Tryz.sizeOf132
  v46 := Tryz.zeroValue132
  t53 := Tryz.underlying25
  a53 := Tryz.isAgg25
  z53 := Tryz.sizeOf25
  v53 := Tryz.zeroValue25 }
open Go.RowKit Go.Lib in
theorem Tryz.bits_Mul64 (x y : Nat) (hx : x < 18446744073709551616) (hy : y < 18446744073709551616) (w : World) :
    Calls Tryz.prog 102 #[.int .u64 x, .int .u64 y] w fun e w' => e = .returned (.tuple #[.int .u64 ((x * y / 18446744073709551616 : Nat) : Int), .int .u64 ((x * y % 18446744073709551616 : Nat) : Int)]) ∧ w' = w := Any.bits_Mul64 Tryz.lays264 x y hx hy w
def Tryz.laysSlM5_f94_ren : Go.Shelf.Ren := ⟨fun | 5 => 94 | 8 => 84 | 7 => 116 | 19 => 103 | 20 => 104 | 10 => 125 | 11 => 126 | 12 => 127 | 13 => 128 | 14 => 129 | 15 => 130 | 16 => 131 | 17 => 132 | 18 => 133 | 30 => 136 | 31 => 121 | 32 => 122 | 33 => 137 | 34 => 138 | 35 => 117 | 40 => 139 | n => n, fun | 23 => 105 | 25 => 3 | 3 => 3 | 32 => 132 | 22 => 105 | 0 => 0 | 44 => 147 | 46 => 25 | 4 => 4 | 36 => 150 | 35 => 149 | 41 => 92 | 5 => 5 | 9 => 9 | 53 => 159 | 57 => 162 | 63 => 170 | 64 => 171 | n => n, fun | n => n⟩
theorem Tryz.laysSlM5_f94 : Go.Proofs.SlLaysM.n5 Tryz.prog Tryz.laysSlM5_f94_ren := {
  mixed := by kernel_rfl
  f5 := ⟨Tryz.f94.name, by decide, Tryz.func94.trans (congrArg some (by kernel_rfl))⟩
  f7 := ⟨Tryz.f116.name, by decide, Tryz.func116.trans (congrArg some (by kernel_rfl))⟩
  f8 := Tryz.func84.trans (congrArg some (by kernel_rfl))
  f10 := ⟨Tryz.f125.name, by decide, Tryz.func125.trans (congrArg some (by kernel_rfl))⟩
  f11 := ⟨Tryz.f126.name, by decide, Tryz.func126.trans (congrArg some (by kernel_rfl))⟩
  f12 := ⟨Tryz.f127.name, by decide, Tryz.func127.trans (congrArg some (by kernel_rfl))⟩
  f13 := ⟨Tryz.f128.name, by decide, Tryz.func128.trans (congrArg some (by kernel_rfl))⟩
  f14 := ⟨Tryz.f129.name, by decide, Tryz.func129.trans (congrArg some (by kernel_rfl))⟩
  f15 := ⟨Tryz.f130.name, by decide, Tryz.func130.trans (congrArg some (by kernel_rfl))⟩
  f16 := ⟨Tryz.f131.name, by decide, Tryz.func131.trans (congrArg some (by kernel_rfl))⟩
  f17 := ⟨Tryz.f132.name, by decide, Tryz.func132.trans (congrArg some (by kernel_rfl))⟩
  f18 := ⟨Tryz.f133.name, by decide, Tryz.func133.trans (congrArg some (by kernel_rfl))⟩
  f19 := Tryz.func103.trans (congrArg some (by kernel_rfl))
  f20 := Tryz.func104.trans (congrArg some (by kernel_rfl))
  f30 := ⟨Tryz.f136.name, by decide, Tryz.func136.trans (congrArg some (by kernel_rfl))⟩
  f31 := Tryz.func121.trans (congrArg some (by kernel_rfl))
  f32 := Tryz.func122.trans (congrArg some (by kernel_rfl))
  f33 := ⟨Tryz.f137.name, by decide, Tryz.func137.trans (congrArg some (by kernel_rfl))⟩
  f34 := ⟨Tryz.f138.name, by decide, Tryz.func138.trans (congrArg some (by kernel_rfl))⟩
  f35 := ⟨Tryz.f117.name, by decide, Tryz.func117.trans (congrArg some (by kernel_rfl))⟩
  f40 := ⟨Tryz.f139.name, by decide, Tryz.func139.trans (congrArg some (by kernel_rfl))⟩
  t0 := Tryz.underlying0
  a0 := Tryz.isAgg0
  z0 := Tryz.sizeOf0
  v0 := Tryz.zeroValue0
  t3 := Tryz.underlying3
  a3 := Tryz.isAgg3
  z3 := Tryz.sizeOf3
  v3 := Tryz.zeroValue3
  t4 := Tryz.underlying4
  a4 := Tryz.isAgg4
  z4 := Tryz.sizeOf4
  v4 := Tryz.zeroValue4
  t5 := Tryz.underlying5
  a5 := Tryz.isAgg5
  z5 := Tryz.sizeOf5
  v5 := Tryz.zeroValue5
  t9 := Tryz.underlying9
  a9 := Tryz.isAgg9
  z9 := Tryz.sizeOf9
  v9 := Tryz.zeroValue9
  t22 := Tryz.underlying105
  a22 := Tryz.isAgg105
  z22 := Tryz.sizeOf105
  v22 := Tryz.zeroValue105
  t23 := Tryz.underlying105
  a23 := Tryz.isAgg105
  z23 := Tryz.sizeOf105
  v23 := Tryz.zeroValue105
  t25 := Tryz.underlying3
  a25 := Tryz.isAgg3
  z25 := Tryz.sizeOf3
  v25 := Tryz.zeroValue3
  t32 := Tryz.underlying132
  a32 := Tryz.isAgg132
  z32 := Tryz.sizeOf132
  v32 := Tryz.zeroValue132
  t35 := Tryz.underlying149
  a35 := Tryz.isAgg149
  z35 := Tryz.sizeOf149
  v35 := Tryz.zeroValue149
  t36 := Tryz.underlying150
  a36 := Tryz.isAgg150
  z36 := Tryz.sizeOf150
  v36 := Tryz.zeroValue150
  t41 := Tryz.underlying92
  a41 := Tryz.isAgg92
  z41 := Tryz.sizeOf92
  v41 := Tryz.zeroValue92
  t44 := Tryz.underlying147
  a44 := Tryz.isAgg147
  z44 := Tryz.sizeOf147
  v44 := Tryz.zeroValue147
  t46 := Tryz.underlying25
  a46 := Tryz.isAgg25
  z46 := Tryz.sizeOf25
  v46 := Tryz.zeroValue25
  t53 := Tryz.underlying159
  a53 := Tryz.isAgg159
  z53 := Tryz.sizeOf159
  v53 := Tryz.zeroValue159
  t57 := Tryz.underlying162
  a57 := Tryz.isAgg162
  z57 := Tryz.sizeOf162
  v57 := Tryz.zeroValue162
  t63 := Tryz.underlying170
  a63 := Tryz.isAgg170
  z63 := Tryz.sizeOf170
  v63 := Tryz.zeroValue170
  t64 := Tryz.underlying171
  a64 := Tryz.isAgg171
  z64 := Tryz.sizeOf171
  v64 := Tryz.zeroValue171 }
open Go.Sort Go.RowKit in
theorem Tryz.slices_Sort_int (blk off cap : Nat) (zs : List Int) (w : World) (hH : Holds (Value.int .i64) w blk off zs.toArray) (hblk : blk < w.heap.size) (hsz : zs.length < 4611686018427387904) :
    Calls Tryz.prog 94 #[.slice (some ⟨blk, off, none⟩) zs.length cap] w fun e w' =>
      e = .returned (.tuple #[]) ∧ ∃ n os, w' = grow (putRow (Value.int .i64) (Sort.ahead w n) blk off (zs.mergeSort fun x y => decide (x ≤ y)).toArray) os := AnyM.slices_Sort_int Tryz.laysSlM5_f94 blk off cap zs w hH hblk hsz
open Go.RowKit Go.Sort in
theorem Tryz.slices_Sort_int_none (p : Option Addr) (cap : Nat) (w : World) :
    Calls Tryz.prog 94 #[.slice p 0 cap] w fun e w' => e = .returned (.tuple #[]) ∧ w' = w := AnyM.slices_Sort_int_none Tryz.laysSlM5_f94 p cap w
end Go.Proofs

/-
  math/bits.Add64 and Sub64 at this translation: equations on a call, over whole numbers; Mul64 and Len64 likewise as contracts over whole numbers.
-/
namespace Go.Proofs.YthjcdbnjmpjikaaGreat
set_option linter.unusedVariables false
open Go.RowKit Go.Shelf

theorem add64 (x y c : Int) (hx : 0 ≤ x) (hy : 0 ≤ y) (hc0 : 0 ≤ c) (hc : c ≤ 1) (w : World) : (callFunc 83 #[.int .u64 x, .int .u64 y, .int .u64 c]).run Tryz.prog w =
    .ok (.value (.tuple #[.int .u64 ((x + y + c) % 18446744073709551616), .int .u64 ((x + y + c) / 18446744073709551616)])) w := by
  rw [run_callFunc_extern Tryz.func83 (by kernel_rfl) (by kernel_rfl) (by kernel_rfl) (e := add64Entry) (by kernel_rfl), run_add64 x y c hx hy hc0 hc]
  rfl
theorem add64_0 (x y : Int) (hx : 0 ≤ x) (hy : 0 ≤ y) (w : World) : (callFunc 83 #[.int .u64 x, .int .u64 y, .int .u64 0]).run Tryz.prog w =
    .ok (.value (.tuple #[.int .u64 ((x + y) % 18446744073709551616), .int .u64 ((x + y) / 18446744073709551616)])) w := by
  simpa using add64 x y 0 hx hy (Int.le_refl 0) (by decide) w
theorem mul64_any (x y : Int) (wx : Word x) (wy : Word y) (w : World) :
    Calls Tryz.prog 102 #[.int .u64 x, .int .u64 y] w fun e w' => e = .returned (.tuple #[.int .u64 (hiW (x * y)), .int .u64 (loW (x * y))]) ∧ w' = w := by
  obtain ⟨hx, hx'⟩ := wx; obtain ⟨hy, hy'⟩ := wy
  obtain ⟨x, rfl⟩ := Int.eq_ofNat_of_zero_le hx
  obtain ⟨y, rfl⟩ := Int.eq_ofNat_of_zero_le hy
  have hb : x * y < 18446744073709551616 * 18446744073709551616 := Nat.mul_lt_mul'' (by omega) (by omega)
  refine (Tryz.bits_Mul64 x y (by omega) (by omega) w).mono fun e w' h => ?_
  rw [h.1]
  refine ⟨?_, h.2⟩
  have e1 : hiW ((x : Int) * y) = ((x * y / 18446744073709551616 : Nat) : Int) := by
    unfold hiW; rw [← Int.natCast_mul]; generalize x * y = n at *; omega
  have e2 : loW ((x : Int) * y) = ((x * y % 18446744073709551616 : Nat) : Int) := by
    unfold loW; rw [← Int.natCast_mul]; generalize x * y = n at *; omega
  rw [e1, e2]
end Go.Proofs.YthjcdbnjmpjikaaGreat

/-
  Walks: wide.Times, Compare, Sub; the reference's Less and Add.
-/
namespace Go.Proofs.YthjcdbnjmpjikaaGreat
set_option linter.unusedVariables false
open Go.RowKit Go.Shelf

set_option maxHeartbeats 400000 in
theorem times_any (a b : Int) (wa : Word a) (wb : Word b) (w : World) :
    Calls Tryz.prog 82 #[.int .u64 a, .int .u64 b] w fun e w' =>
      e = .returned (.agg #[.int .u64 (hiW (a * b)), .int .u64 (loW (a * b))]) ∧ Below w.heap.size w w' := by
  go_enter Tryz.func82, Tryz.ntmps82
  go_wp2_with (go_at_call 102; refine (mul64_any _ _ wa wb _).mono ?_; rintro e w' ⟨rfl, rfl⟩)
  refine bodyPost_ret (v := .agg #[.int .u64 (hiW (a * b)), .int .u64 (loW (a * b))]) (by simp [results, Tryz.results82, go_sem]) rfl ⟨rfl, ?_⟩
  exact (Below.refl _ _).alloc (Nat.le_refl _) _

set_option maxHeartbeats 400000 in
theorem less_any (ah al bh bl : Int) (w1 : Word ah) (w2 : Word al) (w3 : Word bh) (w4 : Word bl) (w : World) :
    Calls Tryz.prog 88 #[.agg #[.int .u64 ah, .int .u64 al], .agg #[.int .u64 bh, .int .u64 bl]] w fun e w' =>
      e = .returned (.bool (belowB (wval ah al - wval bh bl))) ∧ Below w.heap.size w w' := by
  by_cases h : ah = bh
  · subst h
    have e1 := less_lo ah al bl
    have hb : (!(ah == ah)) = false := by simp
    go_enter Tryz.func88, Tryz.ntmps88
    go_wp2
    refine bodyPost_ret (v := .bool (decide (al < bl))) (by simp [results, Tryz.results88, go_sem]) rfl ⟨by rw [e1], ?_⟩
    exact ((Below.refl _ _).alloc (Nat.le_refl _) _).alloc (by simp) _
  · have e1 := less_hi ah al bh bl w2 w4 h
    have hb' : (ah != bh) = true := by simp [h]
    clear h
    go_enter Tryz.func88, Tryz.ntmps88
    go_wp2
    refine bodyPost_ret (v := .bool (decide (ah < bh))) (by simp [results, Tryz.results88, go_sem]) rfl ⟨by rw [e1], ?_⟩
    exact ((Below.refl _ _).alloc (Nat.le_refl _) _).alloc (by simp) _

set_option maxHeartbeats 400000 in
theorem rwadd_any (ah al bh bl : Int) (w1 : Word ah) (w2 : Word al) (w3 : Word bh) (w4 : Word bl) (w : World) :
    Calls Tryz.prog 90 #[.agg #[.int .u64 ah, .int .u64 al], .agg #[.int .u64 bh, .int .u64 bl]] w fun e w' =>
      e = .returned (.tuple #[.agg #[.int .u64 (hiW (wval ah al + wval bh bl)), .int .u64 (loW (wval ah al + wval bh bl))], .bool (carryB (wval ah al + wval bh bl))]) ∧ Below w.heap.size w w' := by
  have EL := Lib.hid (radd_lo ah al bh bl)
  by_cases h : IntKind.u64.wrap (al + bl) < al
  · have EH := Lib.hid (radd_hiB (ah := ah) (bh := bh) w2 w4 h)
    by_cases h2 : IntKind.u64.wrap (ah + bh) < ah
    · have EC := Lib.hid (radd_cB1 w1 w2 w3 w4 h h2)
      clear w1 w2 w3 w4
      go_enter Tryz.func90, Tryz.ntmps90
      go_wp2
      refine bodyPost_ret (v := .tuple #[.agg #[.int .u64 (IntKind.u64.wrap (IntKind.u64.wrap (ah + bh) + 1)), .int .u64 (IntKind.u64.wrap (al + bl))], .bool true]) (by simp [results, Tryz.results90, go_sem]) rfl ⟨by rw [EL.out, EH.out, EC.out], ?_⟩
      exact (((Below.refl _ _).alloc (Nat.le_refl _) _).alloc (by simp) _).alloc (by simp; omega) _
    · have EC := Lib.hid (radd_cB2 w1 w2 w3 w4 h h2)
      clear w1 w2 w3 w4
      go_enter Tryz.func90, Tryz.ntmps90
      go_wp2
      refine bodyPost_ret (v := .tuple #[.agg #[.int .u64 (IntKind.u64.wrap (IntKind.u64.wrap (ah + bh) + 1)), .int .u64 (IntKind.u64.wrap (al + bl))], .bool (IntKind.u64.wrap (IntKind.u64.wrap (ah + bh) + 1) == 0)]) (by simp [results, Tryz.results90, go_sem]) rfl ⟨by rw [EC.out, EL.out, EH.out], ?_⟩
      exact (((Below.refl _ _).alloc (Nat.le_refl _) _).alloc (by simp) _).alloc (by simp; omega) _
  · have EH := Lib.hid (radd_hiA (ah := ah) (bh := bh) w2 w4 h)
    have EC := Lib.hid (radd_cA w1 w2 w3 w4 h)
    clear w1 w2 w3 w4
    go_enter Tryz.func90, Tryz.ntmps90
    go_wp2
    refine bodyPost_ret (v := .tuple #[.agg #[.int .u64 (IntKind.u64.wrap (ah + bh)), .int .u64 (IntKind.u64.wrap (al + bl))], .bool (decide (IntKind.u64.wrap (ah + bh) < ah))]) (by simp [results, Tryz.results90, go_sem]) rfl ⟨by rw [EC.out, EL.out, EH.out], ?_⟩
    exact (((Below.refl _ _).alloc (Nat.le_refl _) _).alloc (by simp) _).alloc (by simp; omega) _
end Go.Proofs.YthjcdbnjmpjikaaGreat

/-
  Plain mathematics of a long division by two digits of 32 bits (Knuth's, of a divisor that fills 64 bits).
-/
namespace Go.Proofs.YthjcdbnjmpjikaaGreat
set_option linter.unusedVariables false
open Go.RowKit

/-- The divisor's parts. -/
theorem digit_le_iff {u v1 v0 d q r : Int} (hr : r = u - q * v1) (hv : 0 < v1 * 4294967296 + v0) :
    q ≤ (u * 4294967296 + d) / (v1 * 4294967296 + v0) ↔ q * v0 ≤ 4294967296 * r + d := by
  rw [Int.le_ediv_iff_mul_le hv, Int.mul_add, ← Int.mul_assoc]
  subst hr
  generalize q * v1 = a
  generalize q * v0 = b
  omega
theorem digit_lt {u v d : Int} (hu : u < v) (h0 : 0 ≤ u) (hd : d < 4294967296) : (u * 4294967296 + d) / v < 4294967296 := by
  refine Int.ediv_lt_of_lt_mul (by omega) ?_
  omega
theorem digit_nonneg {u v d : Int} (hu : 0 ≤ u) (hv : 0 < v) (hd : 0 ≤ d) : 0 ≤ (u * 4294967296 + d) / v := Int.ediv_nonneg (by omega) (by omega)

/-- The first guess. -/
theorem digit_start {u v1 v0 d : Int} (hu : 0 ≤ u) (hv1 : 0 < v1) (hv0 : 0 ≤ v0) (hd : d < 4294967296) (hd0 : 0 ≤ d) :
    (u * 4294967296 + d) / (v1 * 4294967296 + v0) ≤ u / v1 := by
  rw [Int.le_ediv_iff_mul_le hv1]
  have hv : 0 < v1 * 4294967296 + v0 := by omega
  have h1 := Int.ediv_mul_le (u * 4294967296 + d) (b := v1 * 4294967296 + v0) (by omega)
  have hq := digit_nonneg (u := u) (v := v1 * 4294967296 + v0) (d := d) hu hv hd0
  generalize (u * 4294967296 + d) / (v1 * 4294967296 + v0) = q at *
  rw [Int.mul_add, ← Int.mul_assoc] at h1
  have h2 := Int.mul_nonneg hq hv0
  generalize q * v1 = a at *
  generalize q * v0 = b at *
  omega
theorem digit_most {u v1 v0 : Int} (hu : u < v1 * 4294967296 + v0) (hv1 : 2147483648 ≤ v1) (hv0 : v0 < 4294967296) : u / v1 ≤ 4294967297 := by
  have h := Int.ediv_lt_of_lt_mul (a := u) (b := 4294967298) (c := v1) (by omega) (by omega)
  omega
/-- The guess is too great: one less will do. -/
theorem digit_down {u v1 v0 d q r : Int} (hr : r = u - q * v1) (hv : 0 < v1 * 4294967296 + v0) (hlt : (u * 4294967296 + d) / (v1 * 4294967296 + v0) < 4294967296)
    (h : 4294967296 ≤ q ∨ 4294967296 * r + d < q * v0) : (u * 4294967296 + d) / (v1 * 4294967296 + v0) ≤ q - 1 := by
  rcases h with h | h
  · omega
  · have := (not_congr (digit_le_iff (d := d) hr hv)).2 (by omega)
    omega
/-- The guess is right: what is left is great enough. -/
theorem digit_done {u v1 v0 d q r : Int} (hr : r = u - q * v1) (hv : 0 < v1 * 4294967296 + v0) (hq : (u * 4294967296 + d) / (v1 * 4294967296 + v0) ≤ q)
    (h : q * v0 ≤ 4294967296 * r + d) : q = (u * 4294967296 + d) / (v1 * 4294967296 + v0) := by
  have := (digit_le_iff (d := d) hr hv).2 h
  omega
theorem digit_break {u v1 v0 d q r : Int} (hr : r = u - q * v1) (hv : 0 < v1 * 4294967296 + v0) (hv0 : 0 ≤ v0) (hv0' : v0 < 4294967296) (hd : 0 ≤ d) (hq : (u * 4294967296 + d) / (v1 * 4294967296 + v0) ≤ q)
    (h0 : 0 ≤ q) (h1 : q ≤ 4294967296) (h2 : 4294967296 ≤ r) : q = (u * 4294967296 + d) / (v1 * 4294967296 + v0) := by
  refine digit_done hr hv hq ?_
  have := Int.mul_le_mul h1 (show v0 ≤ 4294967295 by omega) hv0 (by omega)
  omega
theorem step_left {u v1 q r : Int} (hr : r = u - q * v1) : r + v1 = u - (q - 1) * v1 := by
  rw [Int.sub_mul]; omega

/-- What is left behind a digit, by numbers that go round. -/
theorem left_over {u d v : Int} (hv : 0 < v) (hv' : v < 18446744073709551616) :
    (u * 4294967296 + d - (u * 4294967296 + d) / v * v) % 18446744073709551616 = (u * 4294967296 + d) % v := by
  have h1 := Int.ediv_mul_add_emod (u * 4294967296 + d) v
  have h2 := Int.emod_nonneg (u * 4294967296 + d) (show v ≠ 0 by omega)
  have h3 := Int.emod_lt_of_pos (u * 4294967296 + d) hv
  generalize (u * 4294967296 + d) / v * v = a at *
  omega

/-- Two digits are the whole quotient. -/
theorem two_digits {u d1 d0 v : Int} (hv : 0 < v) :
    (u * 4294967296 + d1) / v * 4294967296 + ((u * 4294967296 + d1) % v * 4294967296 + d0) / v = (u * 18446744073709551616 + d1 * 4294967296 + d0) / v ∧
    ((u * 4294967296 + d1) % v * 4294967296 + d0) % v = (u * 18446744073709551616 + d1 * 4294967296 + d0) % v := by
  have h1 := Int.ediv_mul_add_emod (u * 4294967296 + d1) v
  generalize (u * 4294967296 + d1) / v = q1 at *
  generalize (u * 4294967296 + d1) % v = r1 at *
  have h4 := Int.ediv_mul_add_emod (r1 * 4294967296 + d0) v
  have h5 := Int.emod_nonneg (r1 * 4294967296 + d0) (show v ≠ 0 by omega)
  have h6 := Int.emod_lt_of_pos (r1 * 4294967296 + d0) hv
  generalize (r1 * 4294967296 + d0) / v = q0 at *
  generalize (r1 * 4294967296 + d0) % v = r0 at *
  have h := (Int.ediv_emod_unique (a := u * 18446744073709551616 + d1 * 4294967296 + d0) (r := r0) (q := q1 * 4294967296 + q0) hv).2 ⟨by
    rw [Int.mul_add, ← Int.mul_assoc, Int.mul_comm v q1, Int.mul_comm v q0]
    generalize q1 * v = a at *
    generalize q0 * v = b at *
    omega, h5, h6⟩
  exact ⟨h.1.symm, h.2.symm⟩

/-- The divisor is moved up till it fills 64 bits. -/
theorem div_norm {y : Int} (h0 : 0 < y) (h1 : y < 18446744073709551616) :
    ∃ s : Nat, s < 64 ∧ 64 - (Lib.bitLen y.toNat : Int) = s ∧ 9223372036854775808 ≤ y * 2 ^ s ∧ y * 2 ^ s < 18446744073709551616 := by
  obtain ⟨Y, rfl⟩ := Int.eq_ofNat_of_zero_le (show 0 ≤ y by omega)
  obtain ⟨a, b, c⟩ := Lib.bitLenAux_bounds 64 Y (by omega) (by omega)
  have hL : Lib.bitLenAux 64 Y ≤ 64 := Lib.bitLen_le Y 64 (Nat.le_refl _) (by omega)
  simp only [Int.toNat_natCast]
  unfold Lib.bitLen
  generalize Lib.bitLenAux 64 Y = L at a b c hL ⊢
  refine ⟨64 - L, by omega, by omega, ?_, ?_⟩
  · have h := Nat.mul_le_mul_right (2 ^ (64 - L)) b
    rw [← Nat.pow_add, show L - 1 + (64 - L) = 63 by omega] at h
    have e : ((Y : Int) * 2 ^ (64 - L)) = ((Y * 2 ^ (64 - L) : Nat) : Int) := by simp
    rw [e]; omega
  · have h := Nat.mul_lt_mul_of_pos_right c (Nat.pow_pos (n := 64 - L) (show 0 < 2 by omega))
    rw [← Nat.pow_add, show L + (64 - L) = 64 by omega] at h
    have e : ((Y : Int) * 2 ^ (64 - L)) = ((Y * 2 ^ (64 - L) : Nat) : Int) := by simp
    rw [e]; omega

theorem pow_parts {s : Nat} (h : s < 64) : ((2 : Int) ^ s) * 2 ^ (64 - s) = 18446744073709551616 ∧ 1 ≤ (2 : Int) ^ s ∧ 1 ≤ (2 : Int) ^ (64 - s) := by
  refine ⟨?_, ?_, ?_⟩
  · rw [← Int.pow_add, show s + (64 - s) = 64 by omega]; rfl
  · have : 0 < (2 : Int) ^ s := Int.pow_pos (by omega); omega
  · have : 0 < (2 : Int) ^ (64 - s) := Int.pow_pos (by omega); omega
/-- The lower half of a word. -/
theorem mask32 {a : Int} (h0 : 0 ≤ a) (h1 : a < 18446744073709551616) : bits .and .u64 a 4294967295 = a % 4294967296 := by
  obtain ⟨n, rfl⟩ := Int.eq_ofNat_of_zero_le h0
  have h := bits_and_u64_nat n 4294967295 (by omega) (by omega)
  have e : n &&& 4294967295 = n % 4294967296 := Nat.and_two_pow_sub_one_eq_mod n 32
  rw [e] at h
  exact h
/-- Two parts that don't meet. -/
theorem or_parts {a b : Int} {s : Nat} (ha : 0 ≤ a) (hb : 0 ≤ b) (hb' : b < 2 ^ s) (h1 : a * 2 ^ s + b < 18446744073709551616) :
    bits .or .u64 (a * 2 ^ s) b = a * 2 ^ s + b := by
  obtain ⟨a, rfl⟩ := Int.eq_ofNat_of_zero_le ha
  obtain ⟨b, rfl⟩ := Int.eq_ofNat_of_zero_le hb
  have e1 : (a : Int) * 2 ^ s = ((a * 2 ^ s : Nat) : Int) := by simp
  have e2 : b < 2 ^ s := by
    have e : ((2 : Int) ^ s) = ((2 ^ s : Nat) : Int) := by simp
    rw [e] at hb'; omega
  rw [e1] at h1 ⊢
  rw [bits_or_u64_nat _ _ (by omega) (by omega), Nat.mul_comm a, ← Nat.two_pow_add_eq_or_of_lt e2 a]
  simp
/-- A number moved up by so many bits, in words. -/
theorem norm_parts {hi lo y : Int} {s : Nat} (hs : s < 64) (h0 : 0 ≤ hi) (hy : hi < y) (l0 : 0 ≤ lo) (l1 : lo < 18446744073709551616) (hv : y * 2 ^ s < 18446744073709551616) :
    IntKind.u64.wrap (y * 2 ^ s) = y * 2 ^ s ∧ IntKind.u64.wrap (hi * 2 ^ s) = hi * 2 ^ s ∧ bits .or .u64 (hi * 2 ^ s) (lo / 2 ^ (64 - s)) = hi * 2 ^ s + lo / 2 ^ (64 - s) ∧
    0 ≤ hi * 2 ^ s + lo / 2 ^ (64 - s) ∧ hi * 2 ^ s + lo / 2 ^ (64 - s) < y * 2 ^ s ∧
    (hi * 2 ^ s + lo / 2 ^ (64 - s)) * 18446744073709551616 + IntKind.u64.wrap (lo * 2 ^ s) = wval hi lo * 2 ^ s := by
  obtain ⟨p1, p2, p3⟩ := pow_parts hs
  have q1 : lo / 2 ^ (64 - s) < 2 ^ s := Int.ediv_lt_of_lt_mul (by omega) (by rw [p1]; exact l1)
  have q0 : 0 ≤ lo / 2 ^ (64 - s) := Int.ediv_nonneg l0 (by omega)
  have g0 : 0 ≤ hi * 2 ^ s := Int.mul_nonneg h0 (by omega)
  have g1 : hi * 2 ^ s + 2 ^ s ≤ y * 2 ^ s := by
    have := Int.mul_le_mul_of_nonneg_right (show hi + 1 ≤ y by omega) (show (0 : Int) ≤ 2 ^ s by omega)
    rw [Int.add_mul] at this; omega
  have e6 : (hi * 2 ^ s + lo / 2 ^ (64 - s)) * 18446744073709551616 + IntKind.u64.wrap (lo * 2 ^ s) = wval hi lo * 2 ^ s := by
    have d1 : lo * 2 ^ s / 18446744073709551616 = lo / 2 ^ (64 - s) := by
      rw [← p1, Int.mul_comm ((2 : Int) ^ s), Int.mul_ediv_mul_of_pos_left _ _ (by omega)]
    rw [IntKind.wrap_u64, ← d1]
    unfold wval
    rw [Int.add_mul (hi * 18446744073709551616), Int.mul_assoc hi, Int.mul_comm 18446744073709551616, ← Int.mul_assoc hi]
    generalize hi * 2 ^ s = a
    generalize lo * 2 ^ s = b
    omega
  refine ⟨?_, ?_, or_parts h0 q0 q1 (by omega), by omega, by omega, e6⟩
  · rw [IntKind.wrap_u64]; omega
  · rw [IntKind.wrap_u64]; omega
/-- The quotient, and what is left, of numbers that were both moved up. -/
theorem moved_back {n y : Int} {s : Nat} (hs : s < 64) : n * 2 ^ s / (y * 2 ^ s) = n / y ∧ n * 2 ^ s % (y * 2 ^ s) / 2 ^ s = n % y := by
  obtain ⟨p1, p2, p3⟩ := pow_parts hs
  refine ⟨Int.mul_ediv_mul_of_pos_left _ _ (by omega), ?_⟩
  have e : n * 2 ^ s % (y * 2 ^ s) = n % y * 2 ^ s := by
    rw [Int.mul_comm n, Int.mul_comm y, Int.mul_emod_mul_of_pos _ _ (by omega), Int.mul_comm]
  rw [e, Int.mul_ediv_cancel _ (by omega)]
/-- The first loop's and the second loop's relation: the guess, and what is left by it. -/
structure DigRel (u v v1 v0 d a b : Int) : Prop where
  low : (u * 4294967296 + d) / v ≤ a
  high : a ≤ 4294967297
  left : b = u - a * v1
  b0 : 0 ≤ b
  b1 : b < 4294967296
/-- What the loop is over: a divisor of two halves, an upper part that is less, one more half. -/
structure DigOver (u v v1 v0 d : Int) : Prop where
  u0 : 0 ≤ u
  uv : u < v
  parts : v = v1 * 4294967296 + v0
  v1lo : 2147483648 ≤ v1
  v1hi : v1 < 4294967296
  v0lo : 0 ≤ v0
  v0hi : v0 < 4294967296
  d0 : 0 ≤ d
  d1 : d < 4294967296
theorem DigOver.start {u v v1 v0 d : Int} (o : DigOver u v v1 v0 d) : DigRel u v v1 v0 d (u / v1) (u - u / v1 * v1) := by
  obtain ⟨u0, uv, rfl, v1lo, v1hi, v0lo, v0hi, d0, d1⟩ := o
  have h1 := Int.ediv_mul_le u (b := v1) (by omega)
  have h2 := Int.ediv_mul_add_emod u v1
  have h3 := Int.emod_lt_of_pos u (show 0 < v1 by omega)
  exact ⟨digit_start u0 (by omega) v0lo d1 d0, digit_most uv v1lo v0hi, rfl, by omega, by omega⟩
theorem DigOver.pos {u v v1 v0 d : Int} (o : DigOver u v v1 v0 d) : 0 ≤ (u * 4294967296 + d) / v ∧ (u * 4294967296 + d) / v < 4294967296 := by
  have hp := o.parts; have h1 := o.v1lo; have h2 := o.v0lo
  exact ⟨digit_nonneg o.u0 (by omega) o.d0, digit_lt o.uv o.u0 o.d1⟩
theorem DigOver.prod {u v v1 v0 d a b : Int} (o : DigOver u v v1 v0 d) (r : DigRel u v v1 v0 d a b) : 0 ≤ a * v0 ∧ a * v0 ≤ 18446744073709551615 := by
  have h0 := o.pos.1; have h1 := r.low; have h2 := o.v0lo; have h3 := o.v0hi
  refine ⟨Int.mul_nonneg (by omega) h2, ?_⟩
  have := Int.mul_le_mul r.high (show v0 ≤ 4294967295 by omega) h2 (by omega)
  omega
theorem DigOver.next {u v v1 v0 d a b : Int} (o : DigOver u v v1 v0 d) (r : DigRel u v v1 v0 d a b) (h : 4294967296 ≤ a ∨ 4294967296 * b + d < a * v0) (g : ¬ 4294967296 ≤ b + v1) : DigRel u v v1 v0 d (a - 1) (b + v1) := by
  obtain ⟨u0, uv, rfl, v1lo, v1hi, v0lo, v0hi, d0, d1⟩ := o
  obtain ⟨low, high, left, b0, b1⟩ := r
  exact ⟨digit_down left (by omega) (digit_lt uv u0 d1) h, by omega, step_left left, by omega, by omega⟩
theorem DigOver.brk {u v v1 v0 d a b : Int} (o : DigOver u v v1 v0 d) (r : DigRel u v v1 v0 d a b) (h : 4294967296 ≤ a ∨ 4294967296 * b + d < a * v0) (g : 4294967296 ≤ b + v1) : a - 1 = (u * 4294967296 + d) / v := by
  have hp := o.pos.1
  obtain ⟨u0, uv, rfl, v1lo, v1hi, v0lo, v0hi, d0, d1⟩ := o
  obtain ⟨low, high, left, b0, b1⟩ := r
  have := digit_down left (by omega) (digit_lt uv u0 d1) h
  exact digit_break (step_left left) (by omega) v0lo v0hi d0 this (by omega) (by omega) g
theorem DigOver.done {u v v1 v0 d a b : Int} (o : DigOver u v v1 v0 d) (r : DigRel u v v1 v0 d a b) (h : ¬ 4294967296 * b + d < a * v0) : a = (u * 4294967296 + d) / v := by
  obtain ⟨u0, uv, rfl, v1lo, v1hi, v0lo, v0hi, d0, d1⟩ := o
  obtain ⟨low, high, left, b0, b1⟩ := r
  exact digit_done left (by omega) low (by omega)
theorem DigOver.one {u v v1 v0 d a b : Int} (o : DigOver u v v1 v0 d) (r : DigRel u v v1 v0 d a b) (h : 4294967296 ≤ a ∨ 4294967296 * b + d < a * v0) : 1 ≤ a := by
  have hp := o.pos.1
  obtain ⟨u0, uv, rfl, v1lo, v1hi, v0lo, v0hi, d0, d1⟩ := o
  have := digit_down r.left (by omega) (digit_lt uv u0 d1) h
  omega
theorem DigOver.guess {u v v1 v0 d : Int} (o : DigOver u v v1 v0 d) : 0 ≤ u / v1 ∧ u / v1 ≤ 4294967297 ∧ u / v1 * v1 ≤ u ∧ 0 ≤ u / v1 * v1 ∧ u - u / v1 * v1 < v1 := by
  obtain ⟨u0, uv, rfl, v1lo, v1hi, v0lo, v0hi, d0, d1⟩ := o
  have k0 : 0 ≤ u / v1 := Int.ediv_nonneg u0 (by omega)
  have h2 := Int.ediv_mul_add_emod u v1
  have h3 := Int.emod_lt_of_pos u (show 0 < v1 by omega)
  exact ⟨k0, digit_most uv v1lo v0hi, Int.ediv_mul_le u (by omega), Int.mul_nonneg k0 (by omega), by omega⟩
/-- What is left behind a digit, as the program reckons it. -/
theorem DigOver.wraps {u v v1 v0 d : Int} (o : DigOver u v v1 v0 d) (hv : v < 18446744073709551616) :
    IntKind.u64.wrap (IntKind.u64.wrap (IntKind.u64.wrap (u * 4294967296) + d) - IntKind.u64.wrap ((u * 4294967296 + d) / v * v)) = (u * 4294967296 + d) % v := by
  have hp := o.parts; have h1 := o.v1lo; have h2 := o.v0lo
  have h := left_over (u := u) (d := d) (v := v) (by omega) hv
  rw [← h]
  simp only [IntKind.wrap_u64]
  generalize (u * 4294967296 + d) / v * v = a
  omega
theorem DigOver.left {u v v1 v0 d : Int} (o : DigOver u v v1 v0 d) : 0 ≤ (u * 4294967296 + d) % v ∧ (u * 4294967296 + d) % v < v := by
  have hp := o.parts; have h1 := o.v1lo; have h2 := o.v0lo
  exact ⟨Int.emod_nonneg _ (by omega), Int.emod_lt_of_pos _ (by omega)⟩

end Go.Proofs.YthjcdbnjmpjikaaGreat

/-
  Walks: bits.Div64.
-/
namespace Go.Proofs.YthjcdbnjmpjikaaGreat
set_option linter.unusedVariables false
open Go.RowKit Go.Shelf

theorem lz_any (y : Int) (s : Nat) (h0 : 0 ≤ y) (h1 : y ≤ 18446744073709551615) (hs : 64 - (Lib.bitLen y.toNat : Int) = s) (w : World) :
    Calls Tryz.prog 119 #[.int .u64 y] w fun e w' => e = .returned (.int .i64 s) ∧ w = w' := by
  rw [← hs]; exact (Tryz.bits_LeadingZeros64 y w h0 h1).mono fun e w' h => ⟨h.1, h.2.symm⟩

set_option maxHeartbeats 400000 in
theorem div64_zero (lo y : Int) (wl : Word lo) (wy : Word y) (hy : 0 < y) (w : World) :
    Calls Tryz.prog 101 #[.int .u64 0, .int .u64 lo, .int .u64 y] w fun e w' =>
      e = .returned (.tuple #[.int .u64 (lo / y), .int .u64 (lo % y)]) ∧ Below w.heap.size w w' := by
  obtain ⟨l1, l2⟩ := wl
  obtain ⟨y1, y2⟩ := wy
  have hy0 : (y == 0) = false := by simp; omega
  have hy0' : ¬ y = 0 := by omega
  go_enter Tryz.func101, Tryz.ntmps101
  go_wp2_with fail
  go_quiet (fail)
  go_wp2
  refine bodyPost_ret (v := .tuple #[.int .u64 (lo / y), .int .u64 (lo % y)]) (by simp [results, Tryz.results101, go_sem]) rfl ⟨rfl, ?_⟩
  exact below_drewN (Below.refl _ _) _

set_option maxHeartbeats 400000 in
theorem div64_more (hi lo y : Int) (wh : Word hi) (wl : Word lo) (wy : Word y) (hh : 0 < hi) (hy : hi < y) (w : World) :
    Calls Tryz.prog 101 #[.int .u64 hi, .int .u64 lo, .int .u64 y] w fun e w' =>
      e = .returned (.tuple #[.int .u64 (wval hi lo / y), .int .u64 (wval hi lo % y)]) ∧ Below w.heap.size w w' := by
  obtain ⟨l1, l2⟩ := wl
  obtain ⟨y1, y2⟩ := wy
  obtain ⟨h1, h2⟩ := wh
  have hy0 : (y == 0) = false := by simp; omega
  have hh0 : (hi == 0) = false := by simp; omega
  obtain ⟨s, hs, hz, n1, n2⟩ := div_norm (show 0 < y by omega) y2
  obtain ⟨R1, R4, R5, u0, uv, HN⟩ := norm_parts (lo := lo) hs h1 hy l1 l2 n2
  have RES := Lib.hid (moved_back (n := wval hi lo) (y := y) hs)
  rw [← HN] at RES
  have HZ := Lib.hid hz
  clear hz HN
  have ll0 : 0 ≤ IntKind.u64.wrap (lo * 2 ^ s) ∧ IntKind.u64.wrap (lo * 2 ^ s) < 18446744073709551616 := by rw [IntKind.wrap_u64]; omega
  generalize hl : IntKind.u64.wrap (lo * 2 ^ s) = l at *
  generalize hu : hi * 2 ^ s + lo / 2 ^ (64 - s) = u at *
  generalize hv : y * 2 ^ s = v at *
  generalize hh' : hi * 2 ^ s = h' at *
  have hu' : bits .or .u64 h' (lo / 2 ^ (64 - s)) = u := by rw [R5]
  go_enter Tryz.func101, Tryz.ntmps101
  go_wp2_with fail
  refine (lz_any y s y1 (by omega) HZ.out _).mono ?_
  rintro e w' ⟨rfl, rfl⟩
  clear hu R5 HZ hh
  obtain ⟨ll1, ll2⟩ := ll0
  have M1 := mask32 (a := v) (by omega) n2
  have M2 := mask32 ll1 ll2
  have S1 := Lib.hid (Int.ediv_mul_add_emod v 4294967296)
  have S2 := Lib.hid (Int.ediv_mul_add_emod l 4294967296)
  have b1 : v / 4294967296 < 4294967296 := by omega
  have b2 : 2147483648 ≤ v / 4294967296 := by omega
  have b3 : 0 ≤ v % 4294967296 := by omega
  have b4 : v % 4294967296 < 4294967296 := by omega
  have c1 : l / 4294967296 < 4294967296 := by omega
  have c2 : 0 ≤ l / 4294967296 := by omega
  have c3 : 0 ≤ l % 4294967296 := by omega
  have c4 : l % 4294967296 < 4294967296 := by omega
  generalize v % 4294967296 = v0 at *
  generalize l % 4294967296 = d0 at *
  generalize hv1 : v / 4294967296 = v1 at *
  generalize hd1 : l / 4294967296 = d1 at *
  have o1 : DigOver u v v1 v0 d1 := ⟨u0, uv, S1.out.symm, b2, b1, b3, b4, c2, c1⟩
  have st_o1 := DigOver.start o1
  obtain ⟨k0, k1, k2, k3, k4⟩ := DigOver.guess o1
  go_upto_block 0 with fail
  go_cut [15, 16] (fun q r wx => ∃ z : Int, q = .int .u64 ((u * 4294967296 + d1) / v) ∧ r = .int .u64 z ∧ w = wx)
  case first =>
    go_wp2_with fail
    go_loop [15, 16] (fun q r => ∃ a b : Int, DigRel u v v1 v0 d1 a b ∧ q = .int .u64 a ∧ r = .int .u64 b) (fun q _ => (intOf q).toNat)
    case atStart => exact ⟨_, _, st_o1, rfl, rfl⟩
    case round =>
      obtain ⟨a, b, hr, rfl, rfl⟩ := hrel
      have a0 := hr.low; have a1 := hr.high; have bb0 := hr.b0; have bb1 := hr.b1
      obtain ⟨p0, p1⟩ := DigOver.prod o1 hr
      obtain ⟨z0, z1⟩ := DigOver.pos o1
      clear k0 k1 k2 k3 k4 st_o1
      generalize hQ : (u * 4294967296 + d1) / v = Q at a0 z0 z1
      have HQ := Lib.hid hQ
      clear hQ
      by_cases g1 : 4294967296 ≤ a
      · have a2 := DigOver.one o1 hr (.inl g1)
        by_cases g3 : 4294967296 ≤ b + v1
        · have HE := Lib.hid (DigOver.brk o1 hr (.inl g1) g3)
          go_wp2_with fail
          go_meet
          exact ⟨_, by rw [HE.out], rfl, rfl⟩
        · have HN := DigOver.next o1 hr (.inl g1) g3
          go_wp2_with fail
          go_round
          case rel => exact ⟨_, _, HN, rfl, rfl⟩
          case measure => simp [intOf]; omega
      · by_cases g2 : 4294967296 * b + d1 < a * v0
        · have a2 := DigOver.one o1 hr (.inr g2)
          by_cases g3 : 4294967296 ≤ b + v1
          · have HE := Lib.hid (DigOver.brk o1 hr (.inr g2) g3)
            go_wp2_with fail
            go_meet
            exact ⟨_, by rw [HE.out], rfl, rfl⟩
          · have HN := DigOver.next o1 hr (.inr g2) g3
            go_wp2_with fail
            go_round
            case rel => exact ⟨_, _, HN, rfl, rfl⟩
            case measure => simp [intOf]; omega
        · have HE := Lib.hid (DigOver.done o1 hr g2)
          go_wp2_with fail
          go_meet
          exact ⟨_, by rw [HE.out], rfl, rfl⟩
  case rest =>
    obtain ⟨z, rfl, rfl, rfl⟩ := hcut
    clear st_o1 k0 k1 k2 k3 k4
    have WR := DigOver.wraps o1 n2
    obtain ⟨e0, e1⟩ := DigOver.left o1
    obtain ⟨z0, z1⟩ := DigOver.pos o1
    have T := Lib.hid (two_digits (u := u) (d1 := d1) (d0 := d0) (v := v) (by omega))
    generalize (u * 4294967296 + d1) % v = u2 at *
    generalize (u * 4294967296 + d1) / v = Q1 at *
    have o2 : DigOver u2 v v1 v0 d0 := ⟨e0, e1, S1.out.symm, b2, b1, b3, b4, c3, c4⟩
    have st_o2 := DigOver.start o2
    obtain ⟨k0, k1, k2, k3, k4⟩ := DigOver.guess o2
    go_upto_block 2 with fail
    go_cut [18, 16] (fun q r wx => ∃ z : Int, q = .int .u64 ((u2 * 4294967296 + d0) / v) ∧ r = .int .u64 z ∧ w = wx)
    case first =>
      go_wp2_with fail
      go_loop [18, 16] (fun q r => ∃ a b : Int, DigRel u2 v v1 v0 d0 a b ∧ q = .int .u64 a ∧ r = .int .u64 b) (fun q _ => (intOf q).toNat)
      case atStart => exact ⟨_, _, st_o2, rfl, rfl⟩
      case round =>
        obtain ⟨a, b, hr, rfl, rfl⟩ := hrel
        have a0 := hr.low; have a1 := hr.high; have bb0 := hr.b0; have bb1 := hr.b1
        obtain ⟨p0, p1⟩ := DigOver.prod o2 hr
        obtain ⟨z0, z1⟩ := DigOver.pos o2
        clear k0 k1 k2 k3 k4 st_o2
        generalize hQ : (u2 * 4294967296 + d0) / v = Q at a0 z0 z1
        have HQ := Lib.hid hQ
        clear hQ
        by_cases g1 : 4294967296 ≤ a
        · have a2 := DigOver.one o2 hr (.inl g1)
          by_cases g3 : 4294967296 ≤ b + v1
          · have HE := Lib.hid (DigOver.brk o2 hr (.inl g1) g3)
            go_wp2_with fail
            go_meet
            exact ⟨_, by rw [HE.out], rfl, rfl⟩
          · have HN := DigOver.next o2 hr (.inl g1) g3
            go_wp2_with fail
            go_round
            case rel => exact ⟨_, _, HN, rfl, rfl⟩
            case measure => simp [intOf]; omega
        · by_cases g2 : 4294967296 * b + d0 < a * v0
          · have a2 := DigOver.one o2 hr (.inr g2)
            by_cases g3 : 4294967296 ≤ b + v1
            · have HE := Lib.hid (DigOver.brk o2 hr (.inr g2) g3)
              go_wp2_with fail
              go_meet
              exact ⟨_, by rw [HE.out], rfl, rfl⟩
            · have HN := DigOver.next o2 hr (.inr g2) g3
              go_wp2_with fail
              go_round
              case rel => exact ⟨_, _, HN, rfl, rfl⟩
              case measure => simp [intOf]; omega
          · have HE := Lib.hid (DigOver.done o2 hr g2)
            go_wp2_with fail
            go_meet
            exact ⟨_, by rw [HE.out], rfl, rfl⟩
    case rest =>
      obtain ⟨z, rfl, rfl, rfl⟩ := hcut
      clear st_o2 k0 k1 k2 k3 k4
      have WR2 := DigOver.wraps o2 n2
      obtain ⟨f0, f1⟩ := DigOver.left o2
      obtain ⟨y0, y1⟩ := DigOver.pos o2
      generalize (u2 * 4294967296 + d0) % v = r2 at *
      generalize (u2 * 4294967296 + d0) / v = Q2 at *
      go_wp2_with fail
      have e : u * 18446744073709551616 + d1 * 4294967296 + d0 = u * 18446744073709551616 + l := by have := S2.out; omega
      obtain ⟨t1, t2⟩ := T.out
      obtain ⟨r1, r3⟩ := RES.out
      rw [e] at t1 t2
      rw [← t1] at r1
      rw [← t2] at r3
      refine bodyPost_ret (v := .tuple #[.int .u64 (Q1 * 4294967296 + Q2), .int .u64 (r2 / 2 ^ s)]) (by simp [results, Tryz.results101, go_sem]) rfl ⟨by rw [r1, r3], ?_⟩
      exact Below.refl _ _

/-- math/bits.Div64, wherever it doesn't panic. -/
theorem div64_any (hi lo y : Int) (wh : Word hi) (wl : Word lo) (wy : Word y) (hy : hi < y) (w : World) :
    Calls Tryz.prog 101 #[.int .u64 hi, .int .u64 lo, .int .u64 y] w fun e w' =>
      e = .returned (.tuple #[.int .u64 (wval hi lo / y), .int .u64 (wval hi lo % y)]) ∧ Below w.heap.size w w' := by
  by_cases h : hi = 0
  · subst h
    have e : wval 0 lo = lo := by unfold wval; omega
    rw [e]
    exact div64_zero lo y wl wy hy w
  · exact div64_more hi lo y wh wl wy (by have := wh.1; omega) hy w
end Go.Proofs.YthjcdbnjmpjikaaGreat

/-
  Walks: wide.Over, Floor and Ceil.
-/
namespace Go.Proofs.YthjcdbnjmpjikaaGreat
set_option linter.unusedVariables false
open Go.RowKit Go.Shelf

/-- A number divided, where the quotient has room; noughts, where it hasn't. -/
def ovB (n by' : Int) : Bool := decide (0 < by' ∧ n / by' < 18446744073709551616)
def ovQ (n by' : Int) : Int := if ovB n by' = true then n / by' else 0
def ovR (n by' : Int) : Int := if ovB n by' = true then n % by' else 0
theorem ov_iff {h l y : Int} (wh : Word h) (wl : Word l) (wy : Word y) : ovB (wval h l) y = true ↔ h < y := by
  unfold ovB Word at *
  rw [decide_eq_true_iff]
  constructor
  · rintro ⟨a, b⟩
    rw [Int.ediv_lt_iff_lt_mul a] at b
    unfold wval at b; omega
  · intro a
    refine ⟨by omega, ?_⟩
    rw [Int.ediv_lt_iff_lt_mul (by omega)]
    unfold wval; omega
theorem ov_yes {h l y : Int} (wh : Word h) (wl : Word l) (wy : Word y) (hy : h < y) : ovB (wval h l) y = true ∧ ovQ (wval h l) y = wval h l / y ∧ ovR (wval h l) y = wval h l % y := by
  have e := (ov_iff (l := l) wh wl wy).2 hy
  refine ⟨e, ?_, ?_⟩
  · unfold ovQ; rw [if_pos e]
  · unfold ovR; rw [if_pos e]
theorem ov_no {h l y : Int} (wh : Word h) (wl : Word l) (wy : Word y) (hy : ¬ h < y) : ovB (wval h l) y = false ∧ ovQ (wval h l) y = 0 ∧ ovR (wval h l) y = 0 := by
  have e : ovB (wval h l) y = false := by
    cases hb : ovB (wval h l) y with
    | false => rfl
    | true => exact absurd ((ov_iff wh wl wy).1 hb) hy
  refine ⟨e, ?_, ?_⟩
  · unfold ovQ; rw [e]; rfl
  · unfold ovR; rw [e]; rfl
theorem ov_word {n y : Int} (h0 : 0 ≤ n) (wy : Word y) : Word (ovQ n y) ∧ Word (ovR n y) := by
  unfold ovQ ovR Word at *
  split
  · rename_i h
    unfold ovB at h
    rw [decide_eq_true_iff] at h
    obtain ⟨a, b⟩ := h
    have h1 := Int.ediv_nonneg h0 (show 0 ≤ y by omega)
    have h2 := Int.emod_nonneg n (show y ≠ 0 by omega)
    have h3 := Int.emod_lt_of_pos n a
    omega
  · omega

set_option maxHeartbeats 400000 in
theorem over_any (h l y : Int) (wh : Word h) (wl : Word l) (wy : Word y) (w : World) :
    Calls Tryz.prog 81 #[.agg #[.int .u64 h, .int .u64 l], .int .u64 y] w fun e w' =>
      e = .returned (.tuple #[.int .u64 (ovQ (wval h l) y), .int .u64 (ovR (wval h l) y), .bool (ovB (wval h l) y)]) ∧ Below w.heap.size w w' := by
  by_cases hy : h < y
  · obtain ⟨e1, e2, e3⟩ := ov_yes wh wl wy hy
    have E1 := Lib.hid e1; have E2 := Lib.hid e2; have E3 := Lib.hid e3
    clear e1 e2 e3
    go_enter Tryz.func81, Tryz.ntmps81
    go_wp2_with fail
    refine (div64_any h l y wh wl wy hy _).mono ?_
    rintro e wA ⟨rfl, hbA⟩
    go_wp2_with fail
    refine bodyPost_ret (v := .tuple #[.int .u64 (wval h l / y), .int .u64 (wval h l % y), .bool true]) (by simp [results, Tryz.results81, go_sem]) rfl ⟨by rw [E1.out, E2.out, E3.out], ?_⟩
    exact ((Below.refl _ _).alloc (Nat.le_refl _) _).trans (hbA.mono (by simp))
  · obtain ⟨e1, e2, e3⟩ := ov_no (l := l) wh wl wy hy
    have E1 := Lib.hid e1; have E2 := Lib.hid e2; have E3 := Lib.hid e3
    clear e1 e2 e3
    go_enter Tryz.func81, Tryz.ntmps81
    go_wp2_with fail
    refine bodyPost_ret (v := .tuple #[.int .u64 0, .int .u64 0, .bool false]) (by simp [results, Tryz.results81, go_sem]) rfl ⟨by rw [E1.out, E2.out, E3.out], ?_⟩
    exact (Below.refl _ _).alloc (Nat.le_refl _) _

/-- The same, of a number that two words tell. -/
theorem over_num (n y : Int) (h0 : 0 ≤ n) (h1 : n < 340282366920938463463374607431768211456) (wy : Word y) (w : World) :
    Calls Tryz.prog 81 #[.agg #[.int .u64 (hiW n), .int .u64 (loW n)], .int .u64 y] w fun e w' =>
      e = .returned (.tuple #[.int .u64 (ovQ n y), .int .u64 (ovR n y), .bool (ovB n y)]) ∧ Below w.heap.size w w' := by
  have h := over_any (hiW n) (loW n) y (word_hi n) (word_lo n) wy w
  rw [wval_split h0 h1] at h
  exact h

/-- A product divided, rounded up. -/
def clB (n y : Int) : Bool := ovB n y && !(decide (0 < ovR n y) && ovQ n y == 18446744073709551615)
def clQ (n y : Int) : Int := if clB n y = true then (if 0 < ovR n y then ovQ n y + 1 else ovQ n y) else 0
theorem cl_zero {n y : Int} (h : ovR n y = 0) : clB n y = ovB n y ∧ clQ n y = ovQ n y := by
  have e : clB n y = ovB n y := by unfold clB; rw [h]; simp
  refine ⟨e, ?_⟩
  unfold clQ; rw [e, h]; simp only [Int.lt_irrefl, if_false]
  split
  · rfl
  · rename_i hn; unfold ovQ; rw [if_neg hn]
theorem ovR_pos {n y : Int} (h0 : 0 ≤ n) (wy : Word y) (h : ¬ ovR n y = 0) : 0 < ovR n y ∧ ovB n y = true := by
  have := (ov_word h0 wy).2.1
  refine ⟨by omega, ?_⟩
  cases hb : ovB n y with
  | true => rfl
  | false => exfalso; apply h; unfold ovR; rw [hb]; rfl
theorem cl_more {n y : Int} (h0 : 0 ≤ n) (wy : Word y) (h : ¬ ovR n y = 0) : ((ovQ n y + 1) / 18446744073709551616 == 0) = clB n y ∧ (ovQ n y + 1) % 18446744073709551616 = clQ n y := by
  obtain ⟨hp, hb⟩ := ovR_pos h0 wy h
  obtain ⟨q0, q1⟩ := (ov_word h0 wy).1
  have e : clB n y = ((ovQ n y + 1) / 18446744073709551616 == 0) := by
    unfold clB; rw [hb, decide_eq_true hp, Bool.true_and, Bool.true_and, Bool.eq_iff_iff]
    simp only [Bool.not_eq_true', beq_eq_false_iff_ne, beq_iff_eq, ne_eq]; omega
  refine ⟨e.symm, ?_⟩
  unfold clQ; rw [if_pos hp, e]
  split <;> simp_all <;> omega

set_option maxHeartbeats 400000 in
theorem ceil_any (a b y : Int) (wa : Word a) (wb : Word b) (wy : Word y) (w : World) :
    Calls Tryz.prog 56 #[.int .u64 a, .int .u64 b, .int .u64 y] w fun e w' =>
      e = .returned (.tuple #[.int .u64 (clQ (a * b) y), .bool (clB (a * b) y)]) ∧ Below w.heap.size w w' := by
  obtain ⟨n0, n1⟩ := mul_bd wa wb
  by_cases hr : ovR (a * b) y = 0
  · obtain ⟨e1, e2⟩ := cl_zero hr
    have E1 := Lib.hid e1; have E2 := Lib.hid e2
    have hr0 : (ovR (a * b) y == 0) = true := by simp [hr]
    clear e1 e2 hr
    go_enter Tryz.func56, Tryz.ntmps56
    go_wp2_with fail
    refine (times_any a b wa wb _).mono ?_
    rintro e wA ⟨rfl, hbA⟩
    go_wp2_with fail
    refine (over_num (a * b) y n0 n1 wy _).mono ?_
    rintro e wB ⟨rfl, hbB⟩
    go_wp2_with fail
    refine bodyPost_ret (v := .tuple #[.int .u64 (ovQ (a * b) y), .bool (ovB (a * b) y)]) (by simp [results, Tryz.results56, go_sem]) rfl ⟨by rw [E1.out, E2.out], ?_⟩
    exact hbA.trans (hbB.mono hbA.size)
  · obtain ⟨e1, e2⟩ := cl_more n0 wy hr
    obtain ⟨q0, q1⟩ := (ov_word (n := a * b) n0 wy).1
    have E1 := Lib.hid e1; have E2 := Lib.hid e2
    have hr0 : (ovR (a * b) y == 0) = false := by simp [hr]
    clear e1 e2 hr
    go_enter Tryz.func56, Tryz.ntmps56
    go_wp2_with fail
    refine (times_any a b wa wb _).mono ?_
    rintro e wA ⟨rfl, hbA⟩
    go_wp2_with fail
    refine (over_num (a * b) y n0 n1 wy _).mono ?_
    rintro e wB ⟨rfl, hbB⟩
    go_wp2_with (simp only [add64_0 (ovQ (a * b) y) 1 q0 (by decide)])
    refine bodyPost_ret (v := .tuple #[.int .u64 ((ovQ (a * b) y + 1) % 18446744073709551616), .bool ((ovQ (a * b) y + 1) / 18446744073709551616 == 0)]) (by simp [results, Tryz.results56, go_sem]) rfl ⟨by rw [E1.out, E2.out], ?_⟩
    exact hbA.trans (hbB.mono hbA.size)
end Go.Proofs.YthjcdbnjmpjikaaGreat

/-
  Walks: the reference's Sub.
-/
namespace Go.Proofs.YthjcdbnjmpjikaaGreat
set_option linter.unusedVariables false
open Go.RowKit Go.Shelf

set_option maxHeartbeats 400000 in
theorem rsub_any (ah al bh bl : Int) (w1 : Word ah) (w2 : Word al) (w3 : Word bh) (w4 : Word bl) (w : World) :
    Calls Tryz.prog 89 #[.agg #[.int .u64 ah, .int .u64 al], .agg #[.int .u64 bh, .int .u64 bl]] w fun e w' =>
      e = .returned (.tuple #[.agg #[.int .u64 (hiW (wval ah al - wval bh bl)), .int .u64 (loW (wval ah al - wval bh bl))], .bool (belowB (wval ah al - wval bh bl))]) ∧ Below w.heap.size w w' := by
  have n3 := word_comp w3; have n4 := word_comp w4
  have hq := w3.1; have hq' := w3.2; have hr := w4.1; have hr' := w4.2
  go_enter Tryz.func89, Tryz.ntmps89
  go_wp2_with fail
  refine (rwadd_any ah al _ _ w1 w2 n3 n4 _).mono ?_
  rintro e wA ⟨rfl, hbA⟩
  obtain ⟨hcA, hfA⟩ := bcell hbA
  have hzA : w.heap.size + 1 + 1 + 1 + 1 ≤ wA.heap.size := by have := hbA.size; simp at this; omega
  have g0 : w.heap.size < wA.heap.size := by omega
  have g1 : w.heap.size + 1 < wA.heap.size := by omega
  have g2 : w.heap.size + 1 + 1 < wA.heap.size := by omega
  have g0' : w.heap.size ≤ wA.heap.size := by omega
  have g1' : w.heap.size + 1 ≤ wA.heap.size := by omega
  have g2' : w.heap.size + 1 + 1 ≤ wA.heap.size := by omega
  go_wp2_with fail
  refine (rwadd_any _ _ 0 1 (word_hi _) (word_lo _) (by unfold Word; omega) (by unfold Word; omega) _).mono ?_
  rintro e wB ⟨rfl, hbB⟩
  obtain ⟨hcB, hfB⟩ := bcell hbB
  have hzB : wA.heap.size + 1 ≤ wB.heap.size := by have := hbB.size; simp at this; omega
  go_wp2_with fail
  simp only [comp_wval, rsub_hi, rsub_lo]
  generalize hx : hiW (wval ah al - wval bh bl) = x
  generalize hy : loW (wval ah al - wval bh bl) = y
  have HX := Lib.hid hx; have HY := Lib.hid hy
  clear hx hy
  have ne1 : wA.heap.size ≠ w.heap.size := by omega
  have ne2 : wA.heap.size ≠ w.heap.size + 1 := by omega
  have ne3 : wA.heap.size ≠ w.heap.size + 1 + 1 := by omega
  have ne3' : w.heap.size + 1 + 1 ≠ wA.heap.size := by omega
  obtain ⟨W, hW⟩ : ∃ W : World, W = (wB.setCell ⟨wA.heap.size, 0, none⟩ (.int .u64 x)).setCell ⟨wA.heap.size, 1, none⟩ (.int .u64 y) := ⟨_, rfl⟩
  have s1 : W.cell? ⟨wA.heap.size, 0, none⟩ = some (.int .u64 x) := by subst hW; go_simp
  have s2 : W.cell? ⟨wA.heap.size, 1, none⟩ = some (.int .u64 y) := by subst hW; go_simp
  have s3 : W.cell? ⟨w.heap.size, 0, none⟩ = some (.int .u64 ah) := by subst hW; go_simp
  have s4 : W.cell? ⟨w.heap.size, 1, none⟩ = some (.int .u64 al) := by subst hW; go_simp
  have s5 : W.cell? ⟨w.heap.size + 1, 0, none⟩ = some (.int .u64 bh) := by subst hW; go_simp
  have s6 : W.cell? ⟨w.heap.size + 1, 1, none⟩ = some (.int .u64 bl) := by subst hW; go_simp
  have s7 : (W.cell? ⟨w.heap.size + 1 + 1, 0, none⟩) = some (.int .u64 0) := by subst hW; go_simp
  have s8 : (W.cell? ⟨w.heap.size + 1 + 1, 1, none⟩) = some (.int .u64 0) := by subst hW; go_simp
  have f7 : (W.frozen? ⟨w.heap.size + 1 + 1, 0, none⟩) = false := by subst hW; go_simp
  have f8 : (W.frozen? ⟨w.heap.size + 1 + 1, 1, none⟩) = false := by subst hW; go_simp
  have hz : wA.heap.size < W.heap.size := by subst hW; simp; omega
  have hBel : Below w.heap.size w W := by
    subst hW
    refine Below.setCell (Below.setCell ?_ (by simp; omega) _) (by simp; omega) _
    refine Below.trans ?_ (hbB.mono (by simp; omega))
    refine Below.alloc ?_ (by omega) _
    refine Below.trans ?_ (hbA.mono (by simp; omega))
    refine Below.alloc ?_ (by simp; omega) _
    refine Below.alloc ?_ (by simp; omega) _
    refine Below.alloc ?_ (by simp) _
    exact Below.alloc (Below.refl _ _) (Nat.le_refl _) _
  rw [← hW]
  clear hW hcA hfA hcB hfB hbA hbB
  go_region_held3 (fun w' => w'.cell? ⟨wA.heap.size, 0, none⟩ = some (.int .u64 x) ∧ w'.cell? ⟨wA.heap.size, 1, none⟩ = some (.int .u64 y) ∧ w'.cell? ⟨w.heap.size, 0, none⟩ = some (.int .u64 ah) ∧ w'.cell? ⟨w.heap.size, 1, none⟩ = some (.int .u64 al) ∧ w'.cell? ⟨w.heap.size + 1, 0, none⟩ = some (.int .u64 bh) ∧ w'.cell? ⟨w.heap.size + 1, 1, none⟩ = some (.int .u64 bl)) (go_simp)
    (first
      | (go_at_call 88; refine (less_any ah al bh bl w1 w2 w3 w4 _).mono ?_; rintro e wC ⟨rfl, hbC⟩; have t1 := cell_later hbC s1; have t2 := cell_later hbC s2; have t3 := cell_later hbC s3; have t4 := cell_later hbC s4; have t5 := cell_later hbC s5; have t6 := cell_later hbC s6; have t7 := cell_later hbC s7; have t8 := cell_later hbC s8; have u7 := (bcell hbC).2 (w.heap.size + 1 + 1) 0 (by simp; omega); have u8 := (bcell hbC).2 (w.heap.size + 1 + 1) 1 (by simp; omega)))
  go_wp2
  refine bodyPost_ret (v := .tuple #[.agg #[.int .u64 x, .int .u64 y], .bool (belowB (wval ah al - wval bh bl))]) (by simp [results, Tryz.results89, go_sem, t7, t8]) rfl ⟨by rw [HX.out, HY.out], ?_⟩
  exact Below.setCell (Below.setCell ((Below.drew hBel).trans (hbC.mono (by simp; omega))) (by simp; omega) _) (by simp; omega) _
end Go.Proofs.YthjcdbnjmpjikaaGreat

/-
  Walks: the reference's Times.
-/
namespace Go.Proofs.YthjcdbnjmpjikaaGreat
set_option linter.unusedVariables false
open Go.RowKit Go.Shelf

/-- What the reference's product has come to, behind so many of its two middle parts. -/
def tmsTo (a b : Int) (k : Nat) : Int :=
  if k = 0 then wval (a / 4294967296 * (b / 4294967296)) (a % 4294967296 * (b % 4294967296))
  else if k = 1 then wval (a / 4294967296 * (b / 4294967296)) (a % 4294967296 * (b % 4294967296)) + (a / 4294967296 * (b % 4294967296)) * 4294967296
  else a * b
theorem tms0 (a b : Int) : tmsTo a b 0 = wval (a / 4294967296 * (b / 4294967296)) (a % 4294967296 * (b % 4294967296)) := rfl
theorem tms1 (a b : Int) : tmsTo a b 0 + (a / 4294967296 * (b % 4294967296)) * 4294967296 = tmsTo a b 1 := rfl
theorem tms2 (a b : Int) : tmsTo a b 1 + (a % 4294967296 * (b / 4294967296)) * 4294967296 = tmsTo a b 2 := times_parts a b
theorem tmsE (a b : Int) : tmsTo a b 2 = a * b := rfl

set_option maxHeartbeats 400000 in
theorem rtimes_any (a b : Int) (wa : Word a) (wb : Word b) (w : World) :
    Calls Tryz.prog 67 #[.int .u64 a, .int .u64 b] w fun e w' =>
      e = .returned (.agg #[.int .u64 (hiW (a * b)), .int .u64 (loW (a * b))]) ∧ Below w.heap.size w w' := by
  obtain ⟨a1, a2⟩ := wa
  obtain ⟨b1, b2⟩ := wb
  obtain ⟨p1, p2⟩ := half_mul (x := a / 4294967296) (y := b / 4294967296) (by omega) (by omega) (by omega) (by omega)
  obtain ⟨q1, q2⟩ := half_mul (x := a % 4294967296) (y := b % 4294967296) (by omega) (by omega) (by omega) (by omega)
  obtain ⟨r1, r2⟩ := half_mul (x := a / 4294967296) (y := b % 4294967296) (by omega) (by omega) (by omega) (by omega)
  obtain ⟨s1, s2⟩ := half_mul (x := a % 4294967296) (y := b / 4294967296) (by omega) (by omega) (by omega) (by omega)
  have E0 := Lib.hid (tms0 a b); have E1 := Lib.hid (tms1 a b); have E2 := Lib.hid (tms2 a b)
  go_enter Tryz.func67, Tryz.ntmps67
  go_wp2_with fail
  generalize a / 4294967296 * (b % 4294967296) = m0 at *
  generalize a % 4294967296 * (b / 4294967296) = m1 at *
  generalize a / 4294967296 * (b / 4294967296) = x0 at *
  generalize a % 4294967296 * (b % 4294967296) = y0 at *
  have X0 : hiW (tmsTo a b 0) = x0 := by rw [E0.out]; exact hi_wval ⟨by omega, by omega⟩ ⟨by omega, by omega⟩
  have Y0 : loW (tmsTo a b 0) = y0 := by rw [E0.out]; exact lo_wval ⟨by omega, by omega⟩
  have HX0 := Lib.hid X0; have HY0 := Lib.hid Y0
  clear X0 Y0 E0
  go_loopw [35] (fun i wr => ∃ k : Nat, k ≤ 2 ∧ i = .int .i64 k ∧
      wr.cell? ⟨w.heap.size + 1, 0, none⟩ = some (.int .u64 (hiW (tmsTo a b k))) ∧ wr.cell? ⟨w.heap.size + 1, 1, none⟩ = some (.int .u64 (loW (tmsTo a b k))) ∧
      wr.cell? ⟨w.heap.size, 0, none⟩ = some (.int .u64 0) ∧ wr.cell? ⟨w.heap.size, 1, none⟩ = some (.int .u64 0) ∧
      wr.cell? ⟨w.heap.size + 1 + 1, 0, none⟩ = some (.int .u64 m0) ∧ wr.cell? ⟨w.heap.size + 1 + 1, 1, none⟩ = some (.int .u64 m1) ∧
      wr.frozen? ⟨w.heap.size + 1, 0, none⟩ = false ∧ wr.frozen? ⟨w.heap.size + 1, 1, none⟩ = false ∧ wr.frozen? ⟨w.heap.size, 0, none⟩ = false ∧ wr.frozen? ⟨w.heap.size, 1, none⟩ = false ∧
      w.heap.size + 1 + 1 < wr.heap.size ∧ Below w.heap.size w wr) (fun i _ => 2 - (intOf i).toNat)
  case atStart => exact ⟨0, Nat.zero_le _, rfl, by go_simp; rw [HX0.out], by go_simp; rw [HY0.out], by go_simp, by go_simp, by go_simp, by go_simp, by go_simp, by go_simp, by go_simp, by go_simp, by simp, (((Below.refl _ _).alloc (Nat.le_refl _) _).alloc (by simp) _).alloc (by simp; omega) _⟩
  case round =>
    obtain ⟨k, hk, rfl, c1, c2, c3, c4, c5, c6, f1, f2, f3, f4, hz, hb⟩ := hrel
    have hz0 : w.heap.size < wr.heap.size := by omega
    have hz1 : w.heap.size + 1 < wr.heap.size := by omega
    have k3 : k = 0 ∨ k = 1 ∨ k = 2 := by omega
    rcases k3 with rfl | rfl | rfl
    · clear E2
      go_wp2_with fail
      refine (rwadd_any (hiW (tmsTo a b 0)) (loW (tmsTo a b 0)) _ _ (word_hi _) (word_lo _) ⟨by omega, by omega⟩ ⟨by omega, by omega⟩ _).mono ?_
      rintro e wA ⟨rfl, hbA⟩
      have d1 := cell_later hbA c1; have d2 := cell_later hbA c2; have d3 := cell_later hbA c3; have d4 := cell_later hbA c4; have d5 := cell_later hbA c5; have d6 := cell_later hbA c6
      have g1 := ((bcell hbA).2 (w.heap.size + 1) 0 (by omega)).trans f1; have g2 := ((bcell hbA).2 (w.heap.size + 1) 1 (by omega)).trans f2; have g3 := ((bcell hbA).2 w.heap.size 0 (by omega)).trans f3; have g4 := ((bcell hbA).2 w.heap.size 1 (by omega)).trans f4
      have hbS := hbA.size
      clear c1 c2 c3 c4 c5 c6 f1 f2 f3 f4
      go_wp2_with fail
      go_roundw
      case rel =>
        refine ⟨1, by omega, rfl, by go_simp; rw [shift_wval, hi_add, E1.out], by go_simp; rw [shift_wval, lo_add, E1.out], by go_simp, by go_simp, by go_simp, by go_simp, by go_simp, by go_simp, by go_simp, by go_simp, by simp; omega, ?_⟩
        exact (((hb.trans (hbA.mono (by omega))).setCell (p := ⟨w.heap.size + 1, 0, none⟩) (Nat.le_succ _) _).setCell (p := ⟨w.heap.size + 1, 1, none⟩) (Nat.le_succ _) _)
      case measure => simp [intOf]
    · clear E1
      go_wp2_with fail
      refine (rwadd_any (hiW (tmsTo a b 1)) (loW (tmsTo a b 1)) _ _ (word_hi _) (word_lo _) ⟨by omega, by omega⟩ ⟨by omega, by omega⟩ _).mono ?_
      rintro e wA ⟨rfl, hbA⟩
      have d1 := cell_later hbA c1; have d2 := cell_later hbA c2; have d3 := cell_later hbA c3; have d4 := cell_later hbA c4; have d5 := cell_later hbA c5; have d6 := cell_later hbA c6
      have g1 := ((bcell hbA).2 (w.heap.size + 1) 0 (by omega)).trans f1; have g2 := ((bcell hbA).2 (w.heap.size + 1) 1 (by omega)).trans f2; have g3 := ((bcell hbA).2 w.heap.size 0 (by omega)).trans f3; have g4 := ((bcell hbA).2 w.heap.size 1 (by omega)).trans f4
      have hbS := hbA.size
      clear c1 c2 c3 c4 c5 c6 f1 f2 f3 f4
      go_wp2_with fail
      go_roundw
      case rel =>
        refine ⟨2, by omega, rfl, by go_simp; rw [shift_wval, hi_add, E2.out], by go_simp; rw [shift_wval, lo_add, E2.out], by go_simp, by go_simp, by go_simp, by go_simp, by go_simp, by go_simp, by go_simp, by go_simp, by simp; omega, ?_⟩
        exact (((hb.trans (hbA.mono (by omega))).setCell (p := ⟨w.heap.size + 1, 0, none⟩) (Nat.le_succ _) _).setCell (p := ⟨w.heap.size + 1, 1, none⟩) (Nat.le_succ _) _)
      case measure => simp [intOf]
    · go_wp2_with fail
      refine bodyPost_ret (v := .agg #[.int .u64 (hiW (tmsTo a b 2)), .int .u64 (loW (tmsTo a b 2))]) (by simp [results, Tryz.results67, go_sem, c3, c4]) rfl ⟨by rw [tmsE], ?_⟩
      exact (hb.setCell (p := ⟨w.heap.size, 0, none⟩) (Nat.le_refl _) _).setCell (p := ⟨w.heap.size, 1, none⟩) (Nat.le_refl _) _
end Go.Proofs.YthjcdbnjmpjikaaGreat

/-
  Walks: the reference's Double, Bit, Over, Ceil.
-/
namespace Go.Proofs.YthjcdbnjmpjikaaGreat
set_option linter.unusedVariables false
open Go.RowKit Go.Shelf

set_option maxHeartbeats 400000 in
theorem double_any (h l : Int) (wh : Word h) (wl : Word l) (w : World) :
    Calls Tryz.prog 86 #[.agg #[.int .u64 h, .int .u64 l]] w fun e w' =>
      e = .returned (.tuple #[.agg #[.int .u64 (hiW (wval h l + wval h l)), .int .u64 (loW (wval h l + wval h l))], .bool (carryB (wval h l + wval h l))]) ∧ Below w.heap.size w w' := by
  go_enter Tryz.func86, Tryz.ntmps86
  go_wp2_with fail
  refine (rwadd_any h l h l wh wl wh wl _).mono ?_
  rintro e wA ⟨rfl, hbA⟩
  have d1 := (bcell hbA).1 (w.heap.size + 1) 0 (by simp)
  have d2 := (bcell hbA).1 (w.heap.size + 1) 1 (by simp)
  have f1 := (bcell hbA).2 (w.heap.size + 1) 0 (by simp)
  have f2 := (bcell hbA).2 (w.heap.size + 1) 1 (by simp)
  have hz : w.heap.size + 1 + 1 ≤ wA.heap.size := by have := hbA.size; simp at this; omega
  go_wp2_with fail
  refine bodyPost_ret (v := .tuple #[.agg #[.int .u64 (hiW (wval h l + wval h l)), .int .u64 (loW (wval h l + wval h l))], .bool (carryB (wval h l + wval h l))]) (by simp [results, Tryz.results86, go_sem, d1, d2]) rfl ⟨rfl, ?_⟩
  have k := ((((Below.refl w.heap.size w).alloc (Nat.le_refl _) (.cells #[.int .u64 h, .int .u64 l] 113)).alloc (by simp) (.cells #[.int .u64 0, .int .u64 0] 113)).trans (hbA.mono (by simp; omega)))
  exact (k.setCell (p := ⟨w.heap.size + 1, 0, none⟩) (Nat.le_succ _) _).setCell (p := ⟨w.heap.size + 1, 1, none⟩) (Nat.le_succ _) _

/-- The same, of a number that two words tell. -/
theorem double_num (n : Int) (h0 : 0 ≤ n) (h1 : n < 340282366920938463463374607431768211456) (w : World) :
    Calls Tryz.prog 86 #[.agg #[.int .u64 (hiW n), .int .u64 (loW n)]] w fun e w' =>
      e = .returned (.tuple #[.agg #[.int .u64 (hiW (n + n)), .int .u64 (loW (n + n))], .bool (carryB (n + n))]) ∧ Below w.heap.size w w' := by
  have h := double_any (hiW n) (loW n) (word_hi n) (word_lo n) w
  rw [wval_split h0 h1] at h
  exact h
theorem less_num (n y : Int) (h0 : 0 ≤ n) (h1 : n < 340282366920938463463374607431768211456) (wy : Word y) (w : World) :
    Calls Tryz.prog 88 #[.agg #[.int .u64 (hiW n), .int .u64 (loW n)], .agg #[.int .u64 0, .int .u64 y]] w fun e w' =>
      e = .returned (.bool (decide (n < y))) ∧ Below w.heap.size w w' := by
  have h := less_any (hiW n) (loW n) 0 y (word_hi n) (word_lo n) (by unfold Word; omega) wy w
  have e : belowB (wval (hiW n) (loW n) - wval 0 y) = decide (n < y) := by
    rw [wval_split h0 h1]; unfold belowB wval; apply decide_eq_decide.2; omega
  rw [e] at h
  exact h
theorem rsub_num (n y : Int) (h0 : 0 ≤ n) (h1 : n < 340282366920938463463374607431768211456) (wy : Word y) (w : World) :
    Calls Tryz.prog 89 #[.agg #[.int .u64 (hiW n), .int .u64 (loW n)], .agg #[.int .u64 0, .int .u64 y]] w fun e w' =>
      e = .returned (.tuple #[.agg #[.int .u64 (hiW (n - y)), .int .u64 (loW (n - y))], .bool (belowB (n - y))]) ∧ Below w.heap.size w w' := by
  have h := rsub_any (hiW n) (loW n) 0 y (word_hi n) (word_lo n) (by unfold Word; omega) wy w
  have e : wval (hiW n) (loW n) - wval 0 y = n - y := by
    rw [wval_split h0 h1]; unfold wval; omega
  rw [e] at h
  exact h
/-- A step of the long division, bit by bit. -/
theorem ov_step {M y : Int} (hy : 0 < y) :
    (M / 2 % y + M / 2 % y + M % 2 < y → M % y = M / 2 % y + M / 2 % y + M % 2 ∧ M / y = M / 2 / y + M / 2 / y) ∧
    (¬ M / 2 % y + M / 2 % y + M % 2 < y → M % y = M / 2 % y + M / 2 % y + M % 2 - y ∧ M / y = M / 2 / y + M / 2 / y + 1) := by
  have h1 := Int.ediv_mul_add_emod (M / 2) y
  have h2 := Int.emod_nonneg (M / 2) (show y ≠ 0 by omega)
  have h3 := Int.emod_lt_of_pos (M / 2) hy
  generalize M / 2 % y = R at *
  generalize M / 2 / y = Q at *
  constructor
  · intro h
    have := (Int.ediv_emod_unique (a := M) (r := R + R + M % 2) (q := Q + Q) hy).2 ⟨by
      rw [Int.mul_add, Int.mul_comm y Q]; generalize Q * y = a at *; omega, by omega, h⟩
    exact ⟨this.2, this.1⟩
  · intro h
    have := (Int.ediv_emod_unique (a := M) (r := R + R + M % 2 - y) (q := Q + Q + 1) hy).2 ⟨by
      rw [Int.mul_add, Int.mul_add, Int.mul_comm y Q]; generalize Q * y = a at *; omega, by omega, by omega⟩
    exact ⟨this.2, this.1⟩
theorem ov_big {n y : Int} (h0 : 0 ≤ n) (h1 : n < 340282366920938463463374607431768211456) (hy : 0 < y) (h : 0 < hiW (n / y)) : ovQ n y = 0 ∧ ovR n y = 0 ∧ ovB n y = false := by
  have a := Int.ediv_nonneg h0 (show 0 ≤ y by omega)
  have b := Int.ediv_le_self y h0
  have e : ovB n y = false := by
    unfold ovB; apply decide_eq_false; unfold hiW at h; omega
  refine ⟨?_, ?_, e⟩
  · unfold ovQ; rw [e]; rfl
  · unfold ovR; rw [e]; rfl
theorem ov_small {n y : Int} (h0 : 0 ≤ n) (h1 : n < 340282366920938463463374607431768211456) (hy : 0 < y) (hy1 : y < 18446744073709551616) (h : ¬ 0 < hiW (n / y)) : ovQ n y = loW (n / y) ∧ ovR n y = loW (n % y) ∧ ovB n y = true := by
  have a := Int.ediv_nonneg h0 (show 0 ≤ y by omega)
  have b := Int.ediv_le_self y h0
  have c := Int.emod_nonneg n (show y ≠ 0 by omega)
  have d := Int.emod_lt_of_pos n hy
  have e : ovB n y = true := by
    unfold ovB; apply decide_eq_true; unfold hiW at h; omega
  refine ⟨?_, ?_, e⟩
  · unfold ovQ; rw [if_pos e]; unfold hiW at h; unfold loW; omega
  · unfold ovR; rw [if_pos e]; unfold loW; omega
theorem hi_bit {n b : Int} (hb : 0 ≤ b) (hb' : b ≤ 1) : hiW (n + n) = hiW (n + n + b) := by unfold hiW; omega
theorem lo_bit {n b : Int} (hb : 0 ≤ b) (hb' : b ≤ 1) : loW (n + n) + b = loW (n + n + b) := by unfold loW; omega
theorem lo_even (n : Int) : loW (n + n) ≤ 18446744073709551614 := by unfold loW; omega

theorem bit_lo {h l : Int} {k : Nat} (hk : k < 64) (wh : Word h) : l / 2 ^ k % 2 = wval h l / 2 ^ k % 2 := by
  unfold wval
  have e : (18446744073709551616 : Int) = 2 * 2 ^ (63 - k) * 2 ^ k := by
    rw [Int.mul_assoc, ← Int.pow_add, show 63 - k + k = 63 by omega]; rfl
  have hp : (0 : Int) < 2 ^ k := Int.pow_pos (by omega)
  rw [e, ← Int.mul_assoc, Int.add_comm, Int.add_mul_ediv_right _ _ (by omega), ← Int.mul_assoc, Int.mul_comm h 2, Int.mul_assoc]
  omega
theorem bit_hi {h l : Int} {k : Nat} (hk : ¬ k < 64) (wl : Word l) : h / 2 ^ (k - 64) % 2 = wval h l / 2 ^ k % 2 := by
  have e : (2 : Int) ^ k = 18446744073709551616 * 2 ^ (k - 64) := by
    have : (2 : Int) ^ (64 + (k - 64)) = 2 ^ 64 * 2 ^ (k - 64) := Int.pow_add ..
    rw [show 64 + (k - 64) = k by omega, show (2 : Int) ^ 64 = 18446744073709551616 by rfl] at this
    exact this
  have e2 : wval h l / 18446744073709551616 = h := by unfold wval; unfold Word at wl; omega
  rw [e, ← Int.ediv_ediv_of_nonneg (by omega), e2]

set_option maxHeartbeats 400000 in
theorem bit_any (h l : Int) (k : Nat) (wh : Word h) (wl : Word l) (hk : k < 128) (w : World) :
    Calls Tryz.prog 87 #[.agg #[.int .u64 h, .int .u64 l], .int .i64 (k : Int)] w fun e w' =>
      e = .returned (.int .u64 (wval h l / 2 ^ k % 2)) ∧ Below w.heap.size w w' := by
  by_cases h64 : k < 64
  · have E := Lib.hid (bit_lo (l := l) h64 wh)
    obtain ⟨l0, l1⟩ := wl
    have hp : (0 : Int) < 2 ^ k := Int.pow_pos (by omega)
    have g0 : 0 ≤ l / 2 ^ k := Int.ediv_nonneg l0 (by omega)
    go_enter Tryz.func87, Tryz.ntmps87
    go_wp2_with fail
    refine bodyPost_ret (v := .int .u64 (l / 2 ^ k % 2)) (by simp [results, Tryz.results87, go_sem]) rfl ⟨by rw [E.out], ?_⟩
    exact (Below.refl _ _).alloc (Nat.le_refl _) _
  · have E := Lib.hid (bit_hi (h := h) h64 wl)
    obtain ⟨h0, h1⟩ := wh
    have hp : (0 : Int) < 2 ^ (k - 64) := Int.pow_pos (by omega)
    have g0 : 0 ≤ h / 2 ^ (k - 64) := Int.ediv_nonneg h0 (by omega)
    go_enter Tryz.func87, Tryz.ntmps87
    go_wp2_with fail
    refine bodyPost_ret (v := .int .u64 (h / 2 ^ (k - 64) % 2)) (by simp [results, Tryz.results87, go_sem]) rfl ⟨by rw [E.out], ?_⟩
    exact (Below.refl _ _).alloc (Nat.le_refl _) _

/-- The memory of the reference's Over: the number, the divisor, what rests, the quotient. -/
structure OvW (B : Nat) (W w : World) (h l y rh rl qh ql : Int) : Prop where
  a0 : w.cell? ⟨B, 0, none⟩ = some (.int .u64 h)
  a1 : w.cell? ⟨B, 1, none⟩ = some (.int .u64 l)
  d0 : w.cell? ⟨B + 1, 0, none⟩ = some (.int .u64 0)
  d1 : w.cell? ⟨B + 1, 1, none⟩ = some (.int .u64 y)
  r0 : w.cell? ⟨B + 1 + 1, 0, none⟩ = some (.int .u64 rh)
  r1 : w.cell? ⟨B + 1 + 1, 1, none⟩ = some (.int .u64 rl)
  q0 : w.cell? ⟨B + 1 + 1 + 1, 0, none⟩ = some (.int .u64 qh)
  q1 : w.cell? ⟨B + 1 + 1 + 1, 1, none⟩ = some (.int .u64 ql)
  fr0 : w.frozen? ⟨B + 1 + 1, 0, none⟩ = false
  fr1 : w.frozen? ⟨B + 1 + 1, 1, none⟩ = false
  fq0 : w.frozen? ⟨B + 1 + 1 + 1, 0, none⟩ = false
  fq1 : w.frozen? ⟨B + 1 + 1 + 1, 1, none⟩ = false
  sz : B + 1 + 1 + 1 < w.heap.size
  bel : Below B W w
theorem OvW.call {B : Nat} {W w w' : World} {h l y rh rl qh ql : Int} (s : OvW B W w h l y rh rl qh ql) (hb : Below w.heap.size w w') : OvW B W w' h l y rh rl qh ql := by
  have hz := s.sz
  have hs := hb.size
  exact ⟨cell_later hb s.a0, cell_later hb s.a1, cell_later hb s.d0, cell_later hb s.d1, cell_later hb s.r0, cell_later hb s.r1, cell_later hb s.q0, cell_later hb s.q1,
    ((bcell hb).2 _ _ (by omega)).trans s.fr0, ((bcell hb).2 _ _ (by omega)).trans s.fr1, ((bcell hb).2 _ _ (by omega)).trans s.fq0, ((bcell hb).2 _ _ (by omega)).trans s.fq1, by omega, s.bel.trans (hb.mono (by omega))⟩
theorem addr_far {b o b' o' : Nat} (h : b ≠ b') : (⟨b, o, none⟩ : Addr) ≠ ⟨b', o', none⟩ := fun e => h (Addr.mk.inj e).1
theorem addr_off {b o o' : Nat} (h : o ≠ o') : (⟨b, o, none⟩ : Addr) ≠ ⟨b, o', none⟩ := fun e => h (Addr.mk.inj e).2.1
theorem OvW.restLo {B : Nat} {W w : World} {h l y rh rl qh ql : Int} (s : OvW B W w h l y rh rl qh ql) (x : Int) : OvW B W (w.setCell ⟨B + 1 + 1, 1, none⟩ (.int .u64 x)) h l y rh x qh ql := by
  have hz := s.sz
  refine ⟨?_, ?_, ?_, ?_, ?_, ?_, ?_, ?_, ?_, ?_, ?_, ?_, ?_, ?_⟩
  · rw [World.cell?_setCell_other _ _ _ _ (addr_far (by omega))]; exact s.a0
  · rw [World.cell?_setCell_other _ _ _ _ (addr_far (by omega))]; exact s.a1
  · rw [World.cell?_setCell_other _ _ _ _ (addr_far (by omega))]; exact s.d0
  · rw [World.cell?_setCell_other _ _ _ _ (addr_far (by omega))]; exact s.d1
  · rw [World.cell?_setCell_other _ _ _ _ (addr_off (by omega))]; exact s.r0
  · exact World.cell?_setCell_same _ _ _ s.r1
  · rw [World.cell?_setCell_other _ _ _ _ (addr_far (by omega))]; exact s.q0
  · rw [World.cell?_setCell_other _ _ _ _ (addr_far (by omega))]; exact s.q1
  · rw [World.frozen?_setCell]; exact s.fr0
  · rw [World.frozen?_setCell]; exact s.fr1
  · rw [World.frozen?_setCell]; exact s.fq0
  · rw [World.frozen?_setCell]; exact s.fq1
  · simp [World.setCell]; omega
  · exact s.bel.setCell (p := ⟨B + 1 + 1, 1, none⟩) (by show B ≤ B + 1 + 1; omega) _
theorem OvW.restHi {B : Nat} {W w : World} {h l y rh rl qh ql : Int} (s : OvW B W w h l y rh rl qh ql) (x : Int) : OvW B W (w.setCell ⟨B + 1 + 1, 0, none⟩ (.int .u64 x)) h l y x rl qh ql := by
  have hz := s.sz
  refine ⟨?_, ?_, ?_, ?_, ?_, ?_, ?_, ?_, ?_, ?_, ?_, ?_, ?_, ?_⟩
  · rw [World.cell?_setCell_other _ _ _ _ (addr_far (by omega))]; exact s.a0
  · rw [World.cell?_setCell_other _ _ _ _ (addr_far (by omega))]; exact s.a1
  · rw [World.cell?_setCell_other _ _ _ _ (addr_far (by omega))]; exact s.d0
  · rw [World.cell?_setCell_other _ _ _ _ (addr_far (by omega))]; exact s.d1
  · exact World.cell?_setCell_same _ _ _ s.r0
  · rw [World.cell?_setCell_other _ _ _ _ (addr_off (by omega))]; exact s.r1
  · rw [World.cell?_setCell_other _ _ _ _ (addr_far (by omega))]; exact s.q0
  · rw [World.cell?_setCell_other _ _ _ _ (addr_far (by omega))]; exact s.q1
  · rw [World.frozen?_setCell]; exact s.fr0
  · rw [World.frozen?_setCell]; exact s.fr1
  · rw [World.frozen?_setCell]; exact s.fq0
  · rw [World.frozen?_setCell]; exact s.fq1
  · simp [World.setCell]; omega
  · exact s.bel.setCell (p := ⟨B + 1 + 1, 0, none⟩) (by show B ≤ B + 1 + 1; omega) _
theorem OvW.quoLo {B : Nat} {W w : World} {h l y rh rl qh ql : Int} (s : OvW B W w h l y rh rl qh ql) (x : Int) : OvW B W (w.setCell ⟨B + 1 + 1 + 1, 1, none⟩ (.int .u64 x)) h l y rh rl qh x := by
  have hz := s.sz
  refine ⟨?_, ?_, ?_, ?_, ?_, ?_, ?_, ?_, ?_, ?_, ?_, ?_, ?_, ?_⟩
  · rw [World.cell?_setCell_other _ _ _ _ (addr_far (by omega))]; exact s.a0
  · rw [World.cell?_setCell_other _ _ _ _ (addr_far (by omega))]; exact s.a1
  · rw [World.cell?_setCell_other _ _ _ _ (addr_far (by omega))]; exact s.d0
  · rw [World.cell?_setCell_other _ _ _ _ (addr_far (by omega))]; exact s.d1
  · rw [World.cell?_setCell_other _ _ _ _ (addr_far (by omega))]; exact s.r0
  · rw [World.cell?_setCell_other _ _ _ _ (addr_far (by omega))]; exact s.r1
  · rw [World.cell?_setCell_other _ _ _ _ (addr_off (by omega))]; exact s.q0
  · exact World.cell?_setCell_same _ _ _ s.q1
  · rw [World.frozen?_setCell]; exact s.fr0
  · rw [World.frozen?_setCell]; exact s.fr1
  · rw [World.frozen?_setCell]; exact s.fq0
  · rw [World.frozen?_setCell]; exact s.fq1
  · simp [World.setCell]; omega
  · exact s.bel.setCell (p := ⟨B + 1 + 1 + 1, 1, none⟩) (by show B ≤ B + 1 + 1 + 1; omega) _
theorem OvW.quoHi {B : Nat} {W w : World} {h l y rh rl qh ql : Int} (s : OvW B W w h l y rh rl qh ql) (x : Int) : OvW B W (w.setCell ⟨B + 1 + 1 + 1, 0, none⟩ (.int .u64 x)) h l y rh rl x ql := by
  have hz := s.sz
  refine ⟨?_, ?_, ?_, ?_, ?_, ?_, ?_, ?_, ?_, ?_, ?_, ?_, ?_, ?_⟩
  · rw [World.cell?_setCell_other _ _ _ _ (addr_far (by omega))]; exact s.a0
  · rw [World.cell?_setCell_other _ _ _ _ (addr_far (by omega))]; exact s.a1
  · rw [World.cell?_setCell_other _ _ _ _ (addr_far (by omega))]; exact s.d0
  · rw [World.cell?_setCell_other _ _ _ _ (addr_far (by omega))]; exact s.d1
  · rw [World.cell?_setCell_other _ _ _ _ (addr_far (by omega))]; exact s.r0
  · rw [World.cell?_setCell_other _ _ _ _ (addr_far (by omega))]; exact s.r1
  · exact World.cell?_setCell_same _ _ _ s.q0
  · rw [World.cell?_setCell_other _ _ _ _ (addr_off (by omega))]; exact s.q1
  · rw [World.frozen?_setCell]; exact s.fr0
  · rw [World.frozen?_setCell]; exact s.fr1
  · rw [World.frozen?_setCell]; exact s.fq0
  · rw [World.frozen?_setCell]; exact s.fq1
  · simp [World.setCell]; omega
  · exact s.bel.setCell (p := ⟨B + 1 + 1 + 1, 0, none⟩) (by show B ≤ B + 1 + 1 + 1; omega) _
theorem OvW.drew {B : Nat} {W w : World} {h l y rh rl qh ql : Int} (s : OvW B W w h l y rh rl qh ql) : OvW B W w.drew h l y rh rl qh ql :=
  ⟨s.a0, s.a1, s.d0, s.d1, s.r0, s.r1, s.q0, s.q1, s.fr0, s.fr1, s.fq0, s.fq1, s.sz, s.bel.drew⟩

set_option maxHeartbeats 400000 in
theorem rover_zero (h l : Int) (w : World) :
    Calls Tryz.prog 66 #[.agg #[.int .u64 h, .int .u64 l], .int .u64 0] w fun e w' =>
      e = .returned (.tuple #[.int .u64 0, .int .u64 0, .bool false]) ∧ Below w.heap.size w w' := by
  go_enter Tryz.func66, Tryz.ntmps66
  go_wp2_with fail
  refine bodyPost_ret (v := .tuple #[.int .u64 0, .int .u64 0, .bool false]) (by simp [results, Tryz.results66, go_sem]) rfl ⟨rfl, ?_⟩
  exact (Below.refl _ _).alloc (Nat.le_refl _) _

set_option maxHeartbeats 400000 in
theorem rover_more (h l y : Int) (wh : Word h) (wl : Word l) (wy : Word y) (hy : 0 < y) (w : World) :
    Calls Tryz.prog 66 #[.agg #[.int .u64 h, .int .u64 l], .int .u64 y] w fun e w' =>
      e = .returned (.tuple #[.int .u64 (ovQ (wval h l) y), .int .u64 (ovR (wval h l) y), .bool (ovB (wval h l) y)]) ∧ Below w.heap.size w w' := by
  have hy0 : (y == 0) = false := by simp; omega
  have hy1 := wy.2
  go_enter Tryz.func66, Tryz.ntmps66
  go_wp2_with fail
  go_loopw [10] (fun i wr => ∃ k : Nat, k ≤ 128 ∧ i = .int .i64 ((k : Int) - 1) ∧ OvW w.heap.size w wr h l y (hiW (wval h l / 2 ^ k % y)) (loW (wval h l / 2 ^ k % y)) (hiW (wval h l / 2 ^ k / y)) (loW (wval h l / 2 ^ k / y))) (fun i _ => (intOf i + 1).toNat)
  case atStart =>
    have hn := wval_bd wh wl
    have e : wval h l / 2 ^ 128 = 0 := by
      rw [show (2 : Int) ^ 128 = 340282366920938463463374607431768211456 by rfl]; omega
    have e1 : (0 : Int) % y = 0 := Int.zero_emod y
    have e2 : (0 : Int) / y = 0 := Int.zero_ediv y
    refine ⟨128, Nat.le_refl _, rfl, ?_⟩
    rw [e, e1, e2]
    exact ⟨by go_simp, by go_simp, by go_simp, by go_simp, by go_simp; decide, by go_simp; decide, by go_simp; decide, by go_simp; decide, by go_simp, by go_simp, by go_simp, by go_simp, by simp, ((((Below.refl _ _).alloc (Nat.le_refl _) _).alloc (by simp) _).alloc (by simp; omega) _).alloc (by simp; omega) _⟩
  case round =>
    obtain ⟨k, hk, rfl, S⟩ := hrel
    cases k with
    | zero =>
      obtain ⟨a0, a1, d0, d1, r0, r1, q0, q1, fr0, fr1, fq0, fq1, sz, bel⟩ := id S
      have e : wval h l / 2 ^ 0 = wval h l := by rw [Int.pow_zero, Int.ediv_one]
      rw [e] at *
      have hn := wval_bd wh wl
      have sz1 : w.heap.size + 1 < wr.heap.size := by omega
      have sz2 : w.heap.size + 1 + 1 < wr.heap.size := by omega
      clear S e
      by_cases hq : 0 < hiW (wval h l / y)
      · have E := Lib.hid (ov_big (n := wval h l) hn.1 hn.2 hy hq)
        go_wp2_with fail
        refine bodyPost_ret (v := .tuple #[.int .u64 0, .int .u64 0, .bool false]) (by simp [results, Tryz.results66, go_sem]) rfl ⟨by rw [E.out.1, E.out.2.1, E.out.2.2], ?_⟩
        exact bel
      · have E := Lib.hid (ov_small (n := wval h l) hn.1 hn.2 hy hy1 hq)
        go_wp2_with fail
        go_quiet (fail)
        go_wp2
        refine bodyPost_ret (v := .tuple #[.int .u64 (loW (wval h l / y)), .int .u64 (loW (wval h l % y)), .bool true]) (by simp [results, Tryz.results66, go_sem]) rfl ⟨by rw [E.out.1, E.out.2.1, E.out.2.2], ?_⟩
        exact below_drewN bel _
    | succ j =>
      have ej : ((j + 1 : Nat) : Int) - 1 = j := by omega
      rw [ej]
      have hn := wval_bd wh wl
      have hp : (0 : Int) < 2 ^ j := Int.pow_pos (by omega)
      have M0 : 0 ≤ wval h l / 2 ^ j := Int.ediv_nonneg hn.1 (by omega)
      have M1 : wval h l / 2 ^ j ≤ wval h l := Int.ediv_le_self _ hn.1
      have M2 : wval h l / 2 ^ j < 340282366920938463463374607431768211456 := by omega
      have hm : wval h l / 2 ^ (j + 1) = wval h l / 2 ^ j / 2 := by rw [Int.pow_succ, Int.ediv_ediv_of_nonneg (by omega)]
      rw [hm] at S
      clear hm M1 hn hp
      obtain ⟨t1, t2⟩ := ov_step (M := wval h l / 2 ^ j) hy
      have T1 := Lib.hid t1; have T2 := Lib.hid t2
      clear t1 t2
      have bit := bit_any h l j wh wl (by omega)
      generalize hM : wval h l / 2 ^ j = M at *
      have HM := Lib.hid hM
      clear hM
      have R0 := Int.emod_nonneg (M / 2) (show y ≠ 0 by omega)
      have R1 := Int.emod_lt_of_pos (M / 2) hy
      have Q0 := Int.ediv_nonneg (show 0 ≤ M / 2 by omega) (show 0 ≤ y by omega)
      have Q1 := Int.ediv_le_self y (show 0 ≤ M / 2 by omega)
      have b0 : 0 ≤ M % 2 := by omega
      have b1 : M % 2 ≤ 1 := by omega
      have Q2 : M / 2 / y < 170141183460469231731687303715884105728 := by omega
      clear M0 M2 Q1
      generalize M / 2 % y = R at *
      generalize M / 2 / y = Q at *
      generalize M % 2 = b at *
      have ev := lo_even R
      have ev0 := (word_lo (R + R)).1
      obtain ⟨a0, a1, d0, d1, r0, r1, q0, q1, fr0, fr1, fq0, fq1, sz, bel⟩ := id S
      have sz1 : w.heap.size + 1 < wr.heap.size := by omega
      have sz2 : w.heap.size + 1 + 1 < wr.heap.size := by omega
      have Bit := Lib.hid bit
      have hwr : IntKind.u64.wrap (loW (R + R) + b) = loW (R + R) + b := by rw [IntKind.wrap_u64]; omega
      have HW := Lib.hid hwr
      clear hwr
      clear bit
      go_wp2_with fail
      refine (double_num R R0 (by omega) _).mono ?_
      rintro e wA ⟨rfl, hbA⟩
      have SA := S.call hbA
      clear a0 a1 d0 d1 r0 r1 q0 q1 fr0 fr1 fq0 fq1 sz bel S hbA
      obtain ⟨a0, a1, d0, d1, r0, r1, q0, q1, fr0, fr1, fq0, fq1, sz, bel⟩ := id SA
      go_upto_region 10 with fail
      have SB := (SA.restHi (hiW (R + R))).restLo (loW (R + R))
      generalize (wA.setCell ⟨w.heap.size + 1 + 1, 0, none⟩ (.int .u64 (hiW (R + R)))).setCell ⟨w.heap.size + 1 + 1, 1, none⟩ (.int .u64 (loW (R + R))) = wB at *
      clear a0 a1 d0 d1 r0 r1 q0 q1 fr0 fr1 fq0 fq1 sz bel SA
      obtain ⟨a0, a1, d0, d1, r0, r1, q0, q1, fr0, fr1, fq0, fq1, sz, bel⟩ := id SB
      go_cut [31] (fun s wx => OvW w.heap.size w wx h l y (hiW (R + R)) (loW (R + R) + b) (hiW Q) (loW Q))
      case first =>
        go_region_with (go_at_call 87; refine (Bit.out _).mono ?_; rintro e wC ⟨rfl, hbC⟩; have SC := OvW.call SB.drew hbC; obtain ⟨a0, a1, d0, d1, r0, r1, q0, q1, fr0, fr1, fq0, fq1, sz, bel⟩ := id SC)
        all_goals (go_wp2_with fail; go_meet; rw [HW.out]; exact SC.restLo _)
      case rest =>
        clear a0 a1 d0 d1 r0 r1 q0 q1 fr0 fr1 fq0 fq1 sz bel SB Bit
        rename_i wC _
        have SC := hcut
        rw [lo_bit b0 b1, hi_bit b0 b1] at SC
        clear hcut ev ev0
        obtain ⟨a0, a1, d0, d1, r0, r1, q0, q1, fr0, fr1, fq0, fq1, sz, bel⟩ := id SC
        go_wp2_with fail
        refine (double_num Q Q0 (by omega) _).mono ?_
        rintro e wD ⟨rfl, hbD⟩
        have SD := SC.call hbD
        clear a0 a1 d0 d1 r0 r1 q0 q1 fr0 fr1 fq0 fq1 sz bel SC hbD
        obtain ⟨a0, a1, d0, d1, r0, r1, q0, q1, fr0, fr1, fq0, fq1, sz, bel⟩ := id SD
        go_upto_region 12 with fail
        have SE := (SD.quoHi (hiW (Q + Q))).quoLo (loW (Q + Q))
        generalize (wD.setCell ⟨w.heap.size + 1 + 1 + 1, 0, none⟩ (.int .u64 (hiW (Q + Q)))).setCell ⟨w.heap.size + 1 + 1 + 1, 1, none⟩ (.int .u64 (loW (Q + Q))) = wE at *
        clear a0 a1 d0 d1 r0 r1 q0 q1 fr0 fr1 fq0 fq1 sz bel SD
        obtain ⟨a0, a1, d0, d1, r0, r1, q0, q1, fr0, fr1, fq0, fq1, sz, bel⟩ := id SE
        go_wp2_with fail
        refine (less_num (R + R + b) y (by omega) (by omega) wy _).mono ?_
        rintro e wF ⟨rfl, hbF⟩
        have SF := SE.call hbF
        clear a0 a1 d0 d1 r0 r1 q0 q1 fr0 fr1 fq0 fq1 sz bel SE hbF
        obtain ⟨a0, a1, d0, d1, r0, r1, q0, q1, fr0, fr1, fq0, fq1, sz, bel⟩ := id SF
        by_cases hX : R + R + b < y
        · obtain ⟨g1, g2⟩ := T1.out (by omega)
          have G1 := Lib.hid g1; have G2 := Lib.hid g2
          clear g1 g2
          go_wp2_with fail
          go_roundw
          case rel => 
            refine ⟨j, by omega, rfl, ?_⟩
            rw [HM.out, G1.out, G2.out]
            exact SF
          case measure => simp [intOf]
        · obtain ⟨g1, g2⟩ := T2.out (by omega)
          have G1 := Lib.hid g1; have G2 := Lib.hid g2
          clear g1 g2
          have hXf : decide (R + R + b < y) = false := decide_eq_false hX
          go_wp2_with fail
          refine (rsub_num (R + R + b) y (by omega) (by omega) wy _).mono ?_
          rintro e wG ⟨rfl, hbG⟩
          have SG := SF.call hbG
          clear a0 a1 d0 d1 r0 r1 q0 q1 fr0 fr1 fq0 fq1 sz bel SF hbG
          obtain ⟨a0, a1, d0, d1, r0, r1, q0, q1, fr0, fr1, fq0, fq1, sz, bel⟩ := id SG
          have ev := lo_even Q
          have ev0 := (word_lo (Q + Q)).1
          have SH := ((SG.restHi (hiW (R + R + b - y))).restLo (loW (R + R + b - y))).quoLo (loW (Q + Q) + 1)
          rw [lo_bit (n := Q) (b := 1) (by omega) (by omega), hi_bit (n := Q) (b := 1) (by omega) (by omega)] at SH
          have HL := Lib.hid (lo_bit (n := Q) (b := 1) (by omega) (by omega))
          go_wp2_with fail
          go_roundw
          case rel =>
            refine ⟨j, by omega, rfl, ?_⟩
            rw [HM.out, G1.out, G2.out]
            rw [HL.out]
            exact SH
          case measure => simp [intOf]

/-- The reference's Over, of all numbers. -/
theorem rover_any (h l y : Int) (wh : Word h) (wl : Word l) (wy : Word y) (w : World) :
    Calls Tryz.prog 66 #[.agg #[.int .u64 h, .int .u64 l], .int .u64 y] w fun e w' =>
      e = .returned (.tuple #[.int .u64 (ovQ (wval h l) y), .int .u64 (ovR (wval h l) y), .bool (ovB (wval h l) y)]) ∧ Below w.heap.size w w' := by
  by_cases hy : y = 0
  · subst hy
    have e : ovB (wval h l) 0 = false := by unfold ovB; apply decide_eq_false; omega
    have e1 : ovQ (wval h l) 0 = 0 := by unfold ovQ; rw [e]; rfl
    have e2 : ovR (wval h l) 0 = 0 := by unfold ovR; rw [e]; rfl
    rw [e, e1, e2]
    exact rover_zero h l w
  · exact rover_more h l y wh wl wy (by have := wy.1; omega) w
theorem rover_num (n y : Int) (h0 : 0 ≤ n) (h1 : n < 340282366920938463463374607431768211456) (wy : Word y) (w : World) :
    Calls Tryz.prog 66 #[.agg #[.int .u64 (hiW n), .int .u64 (loW n)], .int .u64 y] w fun e w' =>
      e = .returned (.tuple #[.int .u64 (ovQ n y), .int .u64 (ovR n y), .bool (ovB n y)]) ∧ Below w.heap.size w w' := by
  have h := rover_any (hiW n) (loW n) y (word_hi n) (word_lo n) wy w
  rw [wval_split h0 h1] at h
  exact h

end Go.Proofs.YthjcdbnjmpjikaaGreat

/-
  wide.Compare and the reference's Less, of numbers below 2^128; what a held region keeps.
-/
namespace Go.Proofs.YthjcdbnjmpjikaaGreat
set_option linter.unusedVariables false
open Go.RowKit Go.Shelf

theorem less_two (x y : Int) (x0 : 0 ≤ x) (x1 : x < 340282366920938463463374607431768211456) (y0 : 0 ≤ y) (y1 : y < 340282366920938463463374607431768211456) (w : World) :
    Calls Tryz.prog 88 #[.agg #[.int .u64 (hiW x), .int .u64 (loW x)], .agg #[.int .u64 (hiW y), .int .u64 (loW y)]] w fun e w' =>
      e = .returned (.bool (decide (x < y))) ∧ Below w.heap.size w w' := by
  have h := less_any (hiW x) (loW x) (hiW y) (loW y) (word_hi x) (word_lo x) (word_hi y) (word_lo y) w
  rw [wval_split x0 x1, wval_split y0 y1] at h
  have e : belowB (x - y) = decide (x < y) := by unfold belowB; apply decide_eq_decide.2; omega
  rw [e] at h
  exact h

theorem cmp_neg (x y : Int) : decide (cmpW x y < 0) = decide (x < y) := by
  unfold cmpW; apply decide_eq_decide.2; split <;> (try split) <;> omega

/-- Two cells of one block, and the world below, behind a callee that makes memory. -/
theorem keep2 {B : Nat} {W w w' : World} {x y : Value} (h : w.cell? ⟨B, 0, none⟩ = some x ∧ w.cell? ⟨B, 1, none⟩ = some y ∧ Below W.heap.size W w) (hb : Below w.heap.size w w') :
    w'.cell? ⟨B, 0, none⟩ = some x ∧ w'.cell? ⟨B, 1, none⟩ = some y ∧ Below W.heap.size W w' :=
  ⟨cell_later hb h.1, cell_later hb h.2.1, h.2.2.trans (hb.mono h.2.2.size)⟩
theorem keep2_bel {B : Nat} {W w : World} {x y : Value} (h : w.cell? ⟨B, 0, none⟩ = some x ∧ w.cell? ⟨B, 1, none⟩ = some y ∧ Below W.heap.size W w) : Below W.heap.size W w := h.2.2
end Go.Proofs.YthjcdbnjmpjikaaGreat

/-
  Walks: wide.Less, the reference's Fewer.
-/
namespace Go.Proofs.YthjcdbnjmpjikaaGreat
set_option linter.unusedVariables false
open Go.RowKit Go.Shelf

/-- Whether a fraction is less than another one. -/
def fewB (an ad bn bd : Int) : Bool := if ad = 0 then false else if bd = 0 then true else decide (an * bd < bn * ad)
theorem few_a {an bn bd : Int} : fewB an 0 bn bd = false := by unfold fewB; rw [if_pos rfl]
theorem few_b {an ad bn : Int} (h : ¬ ad = 0) : fewB an ad bn 0 = true := by unfold fewB; rw [if_neg h, if_pos rfl]
theorem few_c {an ad bn bd : Int} (h : ¬ ad = 0) (h' : ¬ bd = 0) : fewB an ad bn bd = decide (an * bd < bn * ad) := by unfold fewB; rw [if_neg h, if_neg h']

theorem held_keep {B : Nat} {W w w' : World} {an ad bn bd : Int} (h : w.cell? ⟨B, 0, none⟩ = some (.int .u64 an) ∧ w.cell? ⟨B, 1, none⟩ = some (.int .u64 ad) ∧ w.cell? ⟨B + 1, 0, none⟩ = some (.int .u64 bn) ∧ w.cell? ⟨B + 1, 1, none⟩ = some (.int .u64 bd) ∧ Below W.heap.size W w) (hb : Below w.heap.size w w') :
    w'.cell? ⟨B, 0, none⟩ = some (.int .u64 an) ∧ w'.cell? ⟨B, 1, none⟩ = some (.int .u64 ad) ∧ w'.cell? ⟨B + 1, 0, none⟩ = some (.int .u64 bn) ∧ w'.cell? ⟨B + 1, 1, none⟩ = some (.int .u64 bd) ∧ Below W.heap.size W w' :=
  ⟨cell_later hb h.1, cell_later hb h.2.1, cell_later hb h.2.2.1, cell_later hb h.2.2.2.1, h.2.2.2.2.trans (hb.mono h.2.2.2.2.size)⟩

theorem held_bel {B : Nat} {W w : World} {an ad bn bd : Int} (h : w.cell? ⟨B, 0, none⟩ = some (.int .u64 an) ∧ w.cell? ⟨B, 1, none⟩ = some (.int .u64 ad) ∧ w.cell? ⟨B + 1, 0, none⟩ = some (.int .u64 bn) ∧ w.cell? ⟨B + 1, 1, none⟩ = some (.int .u64 bd) ∧ Below W.heap.size W w) : Below W.heap.size W w := h.2.2.2.2

/-! What the law says of the order. -/
theorem few_self (an ad : Int) : fewB an ad an ad = false := by
  unfold fewB
  split
  · rfl
  · simp
theorem few_anti {an ad bn bd : Int} (wad : Word ad) (wbd : Word bd) (h : fewB an ad bn bd = true) : fewB bn bd an ad = false := by
  unfold fewB at *
  by_cases h1 : ad = 0
  · rw [if_pos h1] at h; cases h
  · rw [if_neg h1] at h
    by_cases h2 : bd = 0
    · rw [if_pos h2]
    · rw [if_neg h2] at h ⊢
      rw [if_neg h1]
      rw [decide_eq_true_iff] at h
      apply decide_eq_false
      omega
theorem few_trans {an ad bn bd cn cd : Int} (wa : Word an) (wad : Word ad) (wb : Word bn) (wbd : Word bd) (wc : Word cn) (wcd : Word cd) (h : fewB an ad bn bd = true) (k : fewB bn bd cn cd = true) : fewB an ad cn cd = true := by
  unfold fewB at *
  by_cases h1 : ad = 0
  · rw [if_pos h1] at h; cases h
  · rw [if_neg h1] at h ⊢
    by_cases h3 : cd = 0
    · rw [if_pos h3]
    · rw [if_neg h3] at k ⊢
      by_cases h2 : bd = 0
      · rw [if_pos h2] at k; cases k
      · rw [if_neg h2] at h k
        rw [decide_eq_true_iff] at *
        have pa : 0 < ad := by have := wad.1; omega
        have pb : 0 < bd := by have := wbd.1; omega
        have pc : 0 < cd := by have := wcd.1; omega
        have e1 := Int.mul_lt_mul_of_pos_right h pc
        have e2 := Int.mul_lt_mul_of_pos_right k pa
        have e3 : an * cd * bd < cn * ad * bd := by
          have x1 : an * bd * cd = an * cd * bd := by rw [Int.mul_assoc, Int.mul_comm bd, ← Int.mul_assoc]
          have x2 : bn * ad * cd = bn * cd * ad := by rw [Int.mul_assoc, Int.mul_comm ad, ← Int.mul_assoc]
          have x3 : cn * bd * ad = cn * ad * bd := by rw [Int.mul_assoc, Int.mul_comm bd, ← Int.mul_assoc]
          rw [x1, x2] at e1; rw [x3] at e2; omega
        exact Int.lt_of_mul_lt_mul_right e3 (by omega)
end Go.Proofs.YthjcdbnjmpjikaaGreat
