/-
  Texts joined, in build order: DgcP, DgcE, DgcJ, DgcL, ShelfP, DgcS, DgcH, DgcI, DgcQ, DgcC, RunsK, RunsI, PairW, Ref8, StripR.
-/
import Derived.Test.YthjcdbnjmpjikaaGreatK2
import Derived.Lib.OwnBridge
import Derived.Deep.RegionHeld3
import Derived.Deep.RegionWith
import Derived.Sort.Grow
import Derived.Shelf.Spec.SlicesGrow
import Derived.Shelf.SlSortCmp.WholeK
import Derived.Test.YthjcdbnjmpjikaaGreatProg
import Derived.Shelf.SlSortCmp.NoneTotal
import Derived.Lib.AppendZerosOnto
import Derived.Lib.SliceRun
import Derived.Lib.Walk
import Derived.Laws.OwnMore
import Derived.Deep.CutRange
import Derived.Deep.AppendLies
/-
  Walks: package digest: rise and pass: one sweep over a map of counts.
-/
namespace Go.Proofs.YthjcdbnjmpjikaaGreat
set_option linter.unusedVariables false
set_option linter.unusedSimpArgs false
open Go.RowKit Go.Maps Go.Sort Go.Lib

/-- A row of whole numbers in memory, in a block not older than lo. -/
def IntsD (w : World) (lo : Nat) (A : Option Addr) (J : List Int) : Prop :=
  ∀ j x, J[j]? = some x → ∃ g, A = some ⟨g, 0, none⟩ ∧ lo ≤ g ∧ g < w.heap.size ∧ w.cell? ⟨g, j, none⟩ = some (.int .i64 x)
theorem IntsD.grown {w w' : World} {lo m : Nat} {A : Option Addr} {J : List Int} (h : IntsD w lo A J) (hg : w.grownBy w' (some m)) (hm : m < lo) : IntsD w' lo A J := fun j x hx => by
  obtain ⟨g, e, h1, h2, h3⟩ := h j x hx
  have hb := hg.block g h2 (fun e => by have := Option.some.inj e; omega)
  exact ⟨g, e, h1, Nat.lt_of_lt_of_le h2 hg.size, (World.cell?_of_block (a := ⟨g, j, none⟩) hb).trans h3⟩
theorem IntsD.below {w w' : World} {lo : Nat} {A : Option Addr} {J : List Int} (h : IntsD w lo A J) (hb : Below w.heap.size w w') : IntsD w' lo A J := fun j x hx => by
  obtain ⟨g, e, h1, h2, h3⟩ := h j x hx
  exact ⟨g, e, h1, Nat.lt_of_lt_of_le h2 hb.size, cell_later hb h3⟩
/-- A row of one's own. -/
theorem ints_own {w : World} {lo : Nat} {v : Value} {J : List Int} (h : w.ownsRow lo 3 1 v J.length (J.map encZ)) : ∃ A cap, v = .slice A J.length cap ∧ IntsD w lo A J := by
  rcases h.2 with ⟨rfl, h0⟩ | ⟨g, cap, cur, rfl, hlo, hg, r1, r2, r3, r4⟩
  · have : J = [] := List.eq_nil_of_length_eq_zero h0
    subst this
    exact ⟨none, 0, rfl, fun j x hx => by simp at hx⟩
  · refine ⟨_, cap, rfl, fun j x hx => ⟨g, rfl, hlo, (Array.getElem?_eq_some_iff.1 hg).1, ?_⟩⟩
    have hj : j < J.length := (List.getElem?_eq_some_iff.1 hx).1
    have := h.cellAt j (by simpa using hj)
    rw [this, List.getElem?_map, hx]; rfl
/-- .. and turned round. -/
theorem rev_any {w w1 : World} {lo : Nat} {v : Value} {J : List Int} (h : w1.ownsRow lo 3 1 v J.length (J.map encZ)) (hb : Below lo w w1) (hlo : lo ≤ w1.heap.size) (hl : J.length ≤ 100000) :
    Calls Tryz.prog 91 #[v] w1 fun e w' => e = .returned (.tuple #[]) ∧ ∃ A cap, v = .slice A J.reverse.length cap ∧ IntsD w' lo A J.reverse ∧ Below lo w w' ∧ lo ≤ w'.heap.size := by
  rcases h.2 with ⟨rfl, h0⟩ | ⟨g, cap, cur, rfl, hlo', hg, r1, r2, r3, r4⟩
  · have : J = [] := List.eq_nil_of_length_eq_zero h0
    subst this
    refine (Tryz.slices_Reverse_int_empty none 0 w1).mono ?_
    rintro e w' ⟨rfl, rfl⟩
    exact ⟨rfl, none, 0, rfl, fun j x hx => by simp at hx, hb, hlo⟩
  · have hglt := (Array.getElem?_eq_some_iff.1 hg).1
    have hsz : J.toArray.size = J.length := by simp
    have hH : Holds (Value.int .i64) w1 g 0 J.toArray := by
      intro j hj
      rw [hsz] at hj
      rw [Nat.zero_add]
      refine ⟨?_, h.frozenAt j⟩
      rw [h.cellAt j (by simpa using hj), List.getElem?_map, List.getElem?_eq_getElem hj, getElem!_pos J.toArray j (by rw [hsz]; exact hj)]
      simp [encZ]
    refine (Tryz.slices_Reverse_int g 0 cap J w1 hH (by omega)).mono ?_
    rintro e w' ⟨rfl, n, rfl⟩
    have hbw : Below lo w (putRow (Value.int .i64) (Sort.ahead w1 n) g 0 J.reverse.toArray) := Lib.below_putRow hb hlo'
    have hws : (putRow (Value.int .i64) (Sort.ahead w1 n) g 0 J.reverse.toArray).heap.size = w1.heap.size := by rw [size_putRow]; rfl
    refine ⟨rfl, _, cap, by rw [List.length_reverse], fun j x hx => ⟨g, rfl, hlo', by rw [hws]; exact hglt, ?_⟩, hbw, by rw [hws]; exact hlo⟩
    have hj : j < J.reverse.length := (List.getElem?_eq_some_iff.1 hx).1
    have h6 := cell?_putRow (Value.int .i64) (Sort.ahead w1 n) g 0 J.toArray J.reverse.toArray hH (by simp) j (by simpa using hj)
    rw [Nat.zero_add] at h6
    rw [h6, getElem!_pos J.reverse.toArray j (by simpa using hj)]
    rw [List.getElem?_eq_getElem hj] at hx
    have := Option.some.inj hx
    rw [← this]; simp

theorem node_good {b : Nat} {v : Int} (h : nodeD b v) : goodT b v = true := by
  obtain ⟨n, rfl, h1, h2⟩ := node_nat h
  exact nat_good h1 h2
theorem tri_bd {b : Nat} {L : List PairV} (h : RowG b L) {v : Int} (hv : 2 ≤ v) : 0 ≤ countP L v ∧ 0 ≤ countP L (sibD v) ∧ 0 ≤ countP L (v / 2) ∧ countP L v + countP L (sibD v) + countP L (v / 2) ≤ 9223372036854775807 := by
  have h1 := tri_le h.good h.nodes (v := v) (by omega)
  have h2 := h.sum
  have h3 := count_posD h.good v
  have h4 := count_posD h.good (sibD v)
  have h5 := count_posD h.good (v / 2)
  unfold triD at h1
  exact ⟨h3, h4, h5, by omega⟩

set_option maxRecDepth 100000 in
set_option maxHeartbeats 2000000 in
theorem dg_rise (T : TreeDoes) {w : World} {B m b : Nat} {R : List PairV} {v q : Int} (b1 : 1 ≤ b) (b2 : b ≤ 24) (hc : w.cell? ⟨B, 2, none⟩ = some (.int .i64 b)) (h : MapX w m R) (hR : RowG b R) (hl : R.length ≤ 1000) (hv : nodeD b v) (wq : Word q) (X : Bool) (hX : liftB q R v = X) :
    Calls Tryz.prog 92 #[.pointer (some ⟨B, 0, none⟩), .map (some m), .int .i64 v, .int .u64 q] w fun e w' => e = .returned (.bool X) ∧ MapX w' m (liftD q R v) ∧ w.grownBy w' (some m) := by
  have hvb := node_bd b2 hv
  have iv : I64 v := by unfold I64; omega
  have hgd := node_good hv
  have HUP := Lib.hid (fun W => T.up W b v b1 b2 iv)
  have HBE := Lib.hid (fun W => T.beside W b v b1 b2 iv)
  have HLK := Lib.hid (fun W (hb : Below w.heap.size w W) x (hx : I64 x) => mapx_look (h.below hb) hR.good hx)
  have HM := Lib.hid h
  have HG := Lib.hid hR.good
  have HS0 : Hid (w.drew.cell? ⟨B, 2, none⟩ = some (.int .i64 b) ∧ Below w.heap.size w w.drew) := Lib.hid ⟨hc, (Below.refl _ _).drew⟩
  have HST := Lib.hid (fun (W W' : World) (h : W.cell? ⟨B, 2, none⟩ = some (.int .i64 b) ∧ Below w.heap.size w W) (hb : Below W.heap.size W W') => (⟨cell_later hb h.1, h.2.trans (hb.mono h.2.size)⟩ : W'.cell? ⟨B, 2, none⟩ = some (.int .i64 b) ∧ Below w.heap.size w W'))
  obtain ⟨q0, q1⟩ := wq
  by_cases v1 : v = 1
  · subst v1
    obtain rfl : false = X := by rw [← hX]; rfl
    have HN : Hid (liftD q R 1 = R) := Lib.hid (lift_no hX)
    have eu : upI b 1 = 0 := by unfold upI; rw [if_pos hgd]; rfl
    have eb : besI b 1 = 0 := by unfold besI; rw [if_neg (by simp)]
    rw [eu] at HUP
    rw [eb] at HBE
    have L1 := Lib.hid (fun W hb => HLK.out W hb 1 ⟨by decide, by decide⟩)
    have L0 := Lib.hid (fun W hb => HLK.out W hb 0 ⟨by decide, by decide⟩)
    generalize countP R 1 = c1 at *
    generalize countP R 0 = c0 at *
    clear eu eb hX hgd hv hvb iv hR h hc HLK
    go_enter Tryz.func92, Tryz.ntmps92
    go_wp2_with fail
    go_region_held3 (fun w' => w'.cell? ⟨B, 2, none⟩ = some (.int .i64 b) ∧ Below w.heap.size w w')
      (first | exact HS0.out | exact HST.out _ _ (by assumption) hbA | exact HST.out _ _ (by assumption) hbB | assumption)
      ((first
        | (go_at_call 113; with_reducible refine (HUP.out _).mono ?_; rintro e wA ⟨rfl, hbA⟩)
        | (go_at_call 114; with_reducible refine (HBE.out _).mono ?_; rintro e wB ⟨rfl, hbB⟩)))
    all_goals
      rename_i hHeld
      have hb := hHeld.2
      have l1 := L1.out _ hb
      have l0 := L0.out _ hb
      have HB := Lib.hid hb
      clear hHeld hb
      go_wp2_with fail
      go_ret
      exact ⟨rfl, by rw [HN.out]; exact HM.out.below HB.out, grown_ofG HB.out⟩
  · obtain ⟨v0, v2⟩ := hvb
    have hv2 : 2 ≤ v := by omega
    obtain ⟨t1, t2, t3, t4⟩ := tri_bd hR hv2
    have eu : upI b v = v / 2 := by unfold upI; rw [if_pos hgd]
    have eb : besI b v = sibD v := by
      unfold besI sibD
      rw [if_pos ⟨hgd, v1⟩]
      by_cases o : v % 2 = 1
      · rw [if_pos o, if_neg (by omega)]
      · rw [if_neg o, if_pos (by omega)]
    have hsb : 0 ≤ sibD v ∧ sibD v ≤ v + 1 := by unfold sibD; split <;> omega
    rw [eu] at HUP
    rw [eb] at HBE
    have hlift : liftB q R v = (!(countP R v == 0) && decide (countP R v + countP R (sibD v) + countP R (v / 2) ≤ q)) := by
      unfold liftB triD
      rw [show (v == 1) = false from beq_eq_false_iff_ne.2 v1]; rfl
    have HPUT := Lib.hid (fun (hl : liftB q R v = true) => mapD_lift hR.good (by omega) hl)
    have htri : triD R v = countP R v + countP R (sibD v) + countP R (v / 2) := rfl
    rw [htri] at HPUT
    have HD1 : Hid ((mapD R).del (.int .i64 v) = mapD (dropD R v)) := Lib.hid (mapD_del R v)
    have HD2 : Hid ((mapD (dropD R v)).del (.int .i64 (sibD v)) = mapD (dropD (dropD R v) (sibD v))) := Lib.hid (mapD_del _ _)
    have hu0 : 1 ≤ v / 2 ∧ v / 2 ≤ v := by omega
    have HKV := Lib.hid (keyD iv)
    have LV := Lib.hid (fun W hb => HLK.out W hb v iv)
    have LS := Lib.hid (fun W hb => HLK.out W hb (sibD v) (by unfold I64; omega))
    have LU := Lib.hid (fun W hb => HLK.out W hb (v / 2) (by unfold I64; omega))
    have HKS := Lib.hid (keyD (x := sibD v) (by unfold I64; omega))
    have HKU := Lib.hid (keyD (x := v / 2) (by unfold I64; omega))
    have HLN : Hid (R.length < maxLen) := Lib.hid (by unfold maxLen; omega)
    generalize sibD v = s at *
    generalize v / 2 = u at *
    generalize countP R v = cv at *
    generalize countP R s = cs at *
    generalize countP R u = cu at *
    rw [hX] at hlift
    have HLF := Lib.hid hlift
    have HX := Lib.hid hX
    have hu1 : (u == 0) = false := by simp; omega
    have p1 : IntKind.u64.wrap (cv + cs) = cv + cs := by rw [IntKind.wrap_u64]; omega
    have p2 : IntKind.u64.wrap (cv + cs + cu) = cv + cs + cu := by rw [IntKind.wrap_u64]; omega
    have HNO := Lib.hid (fun (h : X = false) => (lift_no (hX.trans h) : liftD q R v = R))
    have HEL := Lib.hid (elD (x := cv + cs + cu) ⟨by omega, by omega⟩)
    clear eu eb hX hgd hv iv hR h hc HLK hlift htri hsb hu0 v1
    go_enter Tryz.func92, Tryz.ntmps92
    go_wp2_with fail
    go_region_held3 (fun w' => w'.cell? ⟨B, 2, none⟩ = some (.int .i64 b) ∧ Below w.heap.size w w')
      (first | exact HS0.out | exact HST.out _ _ (by assumption) hbA | exact HST.out _ _ (by assumption) hbB | assumption)
      ((first
        | (go_at_call 113; with_reducible refine (HUP.out _).mono ?_; rintro e wA ⟨rfl, hbA⟩)
        | (go_at_call 114; with_reducible refine (HBE.out _).mono ?_; rintro e wB ⟨rfl, hbB⟩)))
    all_goals
      rename_i hHeld
      have hb := hHeld.2
      have lv := LV.out _ hb
      have ls := LS.out _ hb
      have lu := LU.out _ hb
      have HB := Lib.hid hb
      have HMB := Lib.hid (HM.out.below hb)
      clear hHeld hb
      by_cases z : cv = 0
      · subst z
        have hxf : X = false := by rw [HLF.out]; rfl
        subst hxf
        go_wp2_with fail
        go_ret
        exact ⟨rfl, by rw [HNO.out (by simp)]; exact HMB.out, grown_ofG HB.out⟩
      · have z1 : (cv == 0) = false := by simp [z]
        by_cases hq : cv + cs + cu ≤ q
        · have hxt : X = true := by rw [HLF.out, z1, decide_eq_true hq]; rfl
          subst hxt
          have hq1 : ¬ q < cv + cs + cu := by omega
          have HP := Lib.hid (HPUT.out HX.out)
          clear HPUT
          go_wp2_with (first
            | (at_delete; refine wpList_delete_own _ rfl _ _ 116 3 rfl 25 lawIntD Tryz.underlying116 (plainElem (H := Unit) Tryz.prog 25) m R.length (mapD R) rfl HMB.out _ _ rfl HKV.out ?_; intro w1 hown1 ht1; rw [HD1.out] at hown1; have HO1 := Lib.hid hown1; have HT1 := Lib.hid ht1; clear hown1 ht1 lv ls lu)
            | (at_delete; refine wpList_delete_own _ rfl _ _ 116 3 rfl 25 lawIntD Tryz.underlying116 (plainElem (H := Unit) Tryz.prog 25) m R.length (mapD (dropD R v)) rfl HO1.out _ _ rfl HKS.out ?_; intro w2 hown2 ht2; rw [HD2.out] at hown2; have HO2 := Lib.hid hown2; have HT2 := Lib.hid ht2; clear hown2 ht2)
            | (at_mapUpdate; refine wpList_mapUpdate_own _ rfl _ _ _ 116 rfl 3 25 lawIntD Tryz.underlying116 _ m R.length (mapD (dropD (dropD R v) s)) rfl HO2.out HLN.out _ _ _ rfl rfl HKU.out _ [] HEL.out ?_; intro w3 hown3 hg3; rw [HP.out] at hown3; have HO3 := Lib.hid hown3; have HG3 := Lib.hid hg3; clear hown3 hg3))
          go_ret
          exact ⟨rfl, mapx_of HO3.out, grown_trans (grown_ofG HB.out) (grown_trans HT1.out.grown (grown_trans HT2.out.grown HG3.out))⟩
        · have hxf : X = false := by rw [HLF.out, decide_eq_false hq]; simp
          subst hxf
          have hq1 : q < cv + cs + cu := by omega
          go_wp2_with fail
          go_ret
          exact ⟨rfl, by rw [HNO.out (by simp)]; exact HMB.out, grown_ofG HB.out⟩
end Go.Proofs.YthjcdbnjmpjikaaGreat

/-
  Walks: package digest: takes, between.
-/
namespace Go.Proofs.YthjcdbnjmpjikaaGreat
set_option linter.unusedVariables false
set_option linter.unusedSimpArgs false
open Go.RowKit

/-- A pair that a digest of so many values may have. -/
def pairB (b k : Nat) (T : Int) (p : PairV) : Bool := (decide (1 ≤ p.1) && decide (p.1 < ((2 ^ (b + 1) : Nat) : Int))) && (decide (((2 ^ b : Nat) : Int) ≤ p.1) || decide (p.2 ≤ T / k))
def takesB (b k : Nat) (L : List PairV) : Bool := goodB L && decide (L.length ≤ 4 * k) && decide (sumP L ≤ 9223372036854775807) && L.all (pairB b k (sumP L))
theorem load_takes (b k : Nat) (L : List PairV) (lo hi : Int) : loadG b k L lo hi = (takesB b k L && (decide (0 ≤ lo) && decide (lo ≤ hi) && decide (hi < ((2 ^ b : Nat) : Int))) && (!L.isEmpty || hi == 0)) := by
  unfold loadG takesB
  have e : L.all (pairB b k (sumP L)) = ((L.all fun p => decide (1 ≤ p.1) && decide (p.1 < ((2 ^ (b + 1) : Nat) : Int))) && L.all fun p => decide (((2 ^ b : Nat) : Int) ≤ p.1) || decide (p.2 ≤ sumP L / k)) := by
    generalize sumP L = T
    induction L with
    | nil => rfl
    | cons p r ih =>
      rw [List.all_cons, List.all_cons, List.all_cons, ih]
      unfold pairB
      generalize (decide (1 ≤ p.1) && decide (p.1 < ((2 ^ (b + 1) : Nat) : Int))) = x1
      generalize (decide (((2 ^ b : Nat) : Int) ≤ p.1) || decide (p.2 ≤ T / k)) = x2
      generalize (r.all fun p => decide (1 ≤ p.1) && decide (p.1 < ((2 ^ (b + 1) : Nat) : Int))) = x3
      generalize (r.all fun p => decide (((2 ^ b : Nat) : Int) ≤ p.1) || decide (p.2 ≤ T / k)) = x4
      cases x1 <;> cases x2 <;> cases x3 <;> cases x4 <;> rfl
  rw [e]
  generalize goodB L = c1
  generalize decide (L.length ≤ 4 * k) = c2
  generalize (L.all fun p => decide (1 ≤ p.1) && decide (p.1 < ((2 ^ (b + 1) : Nat) : Int))) = c3
  generalize decide (sumP L ≤ 9223372036854775807) = c4
  generalize (L.all fun p => decide (((2 ^ b : Nat) : Int) ≤ p.1) || decide (p.2 ≤ sumP L / k)) = c5
  generalize decide (0 ≤ lo) = c6
  generalize decide (lo ≤ hi) = c7
  generalize decide (hi < ((2 ^ b : Nat) : Int)) = c8
  generalize (!L.isEmpty || hi == 0) = c9
  cases c1 <;> cases c2 <;> cases c3 <;> cases c4 <;> cases c5 <;> cases c6 <;> cases c7 <;> cases c8 <;> cases c9 <;> rfl
theorem good_dec {b : Nat} (v : Int) : (decide (1 ≤ v) && decide (v < ((2 ^ (b + 1) : Nat) : Int))) = goodT b v := by
  unfold goodT
  have e : ((2 ^ (b + 1) : Nat) : Int) = 2 ^ (b + 1) := by rw [Int.natCast_pow]; rfl
  rw [e]
/-- A node's level is the depth just where it is a value's. -/
theorem lvl_leaf {b : Nat} {v : Int} (h : goodT b v = true) : (lvI b v == (b : Int)) = decide (((2 ^ b : Nat) : Int) ≤ v) := by
  unfold lvI
  rw [if_pos h]
  obtain ⟨n, rfl, n1, n2⟩ := good_nat h
  rw [Int.toNat_natCast]
  by_cases c : 2 ^ b ≤ n
  · rw [decide_eq_true (by omega), lvl_is c n2]; simp
  · rw [decide_eq_false (by omega)]
    have := lvl_lt n1 (by omega : n < 2 ^ b)
    simp; omega
theorem lvl_none {b : Nat} {v : Int} (h : goodT b v = false) : (lvI b v == (b : Int)) = false := by
  unfold lvI
  rw [if_neg (by simp [h])]
  simp <;> omega
theorem takes_no {b k : Nat} {L : List PairV} {p : PairV} (hp : p ∈ L) (h : pairB b k (sumP L) p = false) : takesB b k L = false := by
  unfold takesB
  have : L.all (pairB b k (sumP L)) = false := by
    rw [List.all_eq_false]
    exact ⟨p, hp, by simp [h]⟩
  rw [this, Bool.and_false]

set_option maxRecDepth 100000 in
set_option maxHeartbeats 4000000 in
theorem dg_takes (N : TreeDoes) (w : World) (b k : Nat) (d : Int) (A : Option Addr) (cap : Nat) (L : List PairV) (b1 : 1 ≤ b) (b2 : b ≤ 24) (k1 : 1 ≤ k) (k2 : k ≤ 64) (hP : Pairs w A L) (hl : L.length ≤ 900) (X : Bool) (hX : takesB b k L = X) :
    Calls Tryz.prog 52 #[.agg #[.int .i64 d, .int .i64 k], .agg #[.int .i64 b], .slice A L.length cap] w fun e w' => e = .returned (.bool X) ∧ Below w.heap.size w w' := by
  have hb0 : Below w.heap.size w ((w.alloc (.cells #[.int .i64 d, .int .i64 k] 23)).alloc (.cells #[.int .i64 b] 79)) := ((Below.refl _ _).alloc (Nat.le_refl _) _).alloc (by simp) _
  have hz1 : (w.alloc (.cells #[.int .i64 d, .int .i64 k] 23)).heap.size = w.heap.size + 1 := by simp
  have hbn : Below (w.alloc (.cells #[.int .i64 d, .int .i64 k] 23)).heap.size (w.alloc (.cells #[.int .i64 d, .int .i64 k] 23)) ((w.alloc (.cells #[.int .i64 d, .int .i64 k] 23)).alloc (.cells #[.int .i64 b] 79)) := (Below.refl _ _).alloc (Nat.le_refl _) _
  have e0 := cell_later hbn (dg_two w (.int .i64 d) (.int .i64 k) 23).1
  have e1 := cell_later hbn (dg_two w (.int .i64 d) (.int .i64 k) 23).2
  have e2 := tree_cell (w.alloc (.cells #[.int .i64 d, .int .i64 k] 23)) (.int .i64 b)
  rw [hz1] at e2
  have HB0 := Lib.hid hb0
  have HE := Lib.hid (fun (W : World) (hb : Below ((w.alloc (.cells #[.int .i64 d, .int .i64 k] 23)).alloc (.cells #[.int .i64 b] 79)).heap.size ((w.alloc (.cells #[.int .i64 d, .int .i64 k] 23)).alloc (.cells #[.int .i64 b] 79)) W) => (⟨cell_later hb e0, cell_later hb e1, cell_later hb e2⟩ : W.cell? ⟨w.heap.size, 0, none⟩ = some (.int .i64 d) ∧ W.cell? ⟨w.heap.size, 1, none⟩ = some (.int .i64 k) ∧ W.cell? ⟨w.heap.size + 1, 0, none⟩ = some (.int .i64 b)))
  clear e0 e1 e2 hbn hz1
  have HP := Lib.hid hP
  have HX := Lib.hid hX
  have HTO := Lib.hid (fun W (hb : Below w.heap.size w W) n z hn hz => total_does W A cap L n z (hP.call hb) (by omega) hn hz)
  have HGO := Lib.hid (fun W (hb : Below w.heap.size w W) g hg => good_big W A cap L (4 * (k : Int)) g (hP.call hb) (by omega) (by unfold I64; omega) hg)
  have HMO := Lib.hid (fun W => dg_cmost W d k (by omega) (by omega))
  obtain ⟨n, hn⟩ : ∃ n : Nat, L.length = n := ⟨_, rfl⟩
  have hpos := sumP_pos (ok_pos hP.ok)
  have hdec : decide ((L.length : Int) ≤ 4 * (k : Int)) = decide (L.length ≤ 4 * k) := by
    by_cases c : L.length ≤ 4 * k
    · rw [decide_eq_true c, decide_eq_true (by omega)]
    · rw [decide_eq_false c, decide_eq_false (by omega)]
  cases hf : fitsB L with
  | false =>
    have hxf : X = false := by
      rw [← hX]; unfold takesB
      have : decide (sumP L ≤ 9223372036854775807) = false := hf
      rw [this, Bool.and_false, Bool.false_and]
    subst hxf
    have hT := HTO.out
    obtain ⟨t, ht⟩ : ∃ t, totalP L = t := ⟨_, rfl⟩
    have HT := Lib.hid (fun W hb => HTO.out W hb t false ht hf)
    rw [hn] at HT ⊢
    clear hT HTO HGO HMO hf ht hX hP hb0 hn hpos hdec HE HX HP
    go_enter Tryz.func52, Tryz.ntmps52
    go_wp2_with fail
    refine (HT.out _ HB0.out).mono ?_
    rintro e w1 ⟨rfl, h1⟩
    have HB1 := Lib.hid (HB0.out.trans (h1.mono HB0.out.size))
    clear h1
    go_wp2_with fail
    go_ret
    exact ⟨rfl, HB1.out⟩
  | true =>
    have hs1 : sumP L ≤ 9223372036854775807 := of_decide_eq_true hf
    have HT := Lib.hid (fun W hb => HTO.out W hb (sumP L) true (by unfold totalP; rw [hf]; rfl) hf)
    cases hg : (goodB L && decide ((L.length : Int) ≤ 4 * (k : Int))) with
    | false =>
      have hxf : X = false := by
        rw [hdec] at hg
        rw [← hX]; unfold takesB
        rw [hg, Bool.false_and, Bool.false_and]
      subst hxf
      have HG := Lib.hid (fun W hb => HGO.out W hb false hg)
      obtain ⟨t, ht⟩ : ∃ t, sumP L = t := ⟨_, rfl⟩
      rw [ht] at HT
      rw [hn] at HT HG ⊢
      have HE0 := Lib.hid HE.out
      clear HTO HGO hf ht hX hP hb0 hn hpos hdec hg hs1 HX HP HE
      go_enter Tryz.func52, Tryz.ntmps52
      go_wp2_with fail
      refine (HT.out _ HB0.out).mono ?_
      rintro e w1 ⟨rfl, h1⟩
      obtain ⟨f0, f1, f2⟩ := HE0.out w1 h1
      have HB1 := Lib.hid (HB0.out.trans (h1.mono HB0.out.size))
      clear h1 HE0 HT
      go_wp2_with fail
      refine (HMO.out _).mono ?_
      rintro e w2 ⟨rfl, h2⟩
      have HB2 := Lib.hid (HB1.out.trans (h2.mono HB1.out.size))
      clear h2
      go_wp2_with fail
      refine (HG.out _ HB2.out).mono ?_
      rintro e w3 ⟨rfl, h3⟩
      have HB3 := Lib.hid (HB2.out.trans (h3.mono HB2.out.size))
      clear h3
      go_wp2_with fail
      go_ret
      exact ⟨rfl, HB3.out⟩
    | true =>
      have HG := Lib.hid (fun W hb => HGO.out W hb true hg)
      have HXB : Hid (takesB b k L = L.all (pairB b k (sumP L))) := Lib.hid (by
        rw [hdec] at hg
        unfold takesB
        rw [hg, decide_eq_true hs1, Bool.true_and, Bool.true_and])
      obtain ⟨t, ht⟩ : ∃ t, sumP L = t := ⟨_, rfl⟩
      have HTN := Lib.hid (fun p hp => takes_no (b := b) (k := k) (L := L) (p := p) hp)
      rw [ht] at HT HXB HTN hs1 hpos
      have HLI := Lib.hid (fun W => dg_limit W d k t (t / k) k1 (by omega) hpos (by omega) rfl)
      have hq0 : 0 ≤ t / (k : Int) := Int.ediv_nonneg hpos (by omega)
      obtain ⟨q, hq⟩ : ∃ q, t / (k : Int) = q := ⟨_, rfl⟩
      have HQ := Lib.hid hq
      rw [hq] at HLI
      have HGD := Lib.hid (fun W v (hv : I64 v) => N.good W b v b1 b2 hv)
      have HLV := Lib.hid (fun W v (hv : I64 v) => N.level W b v b1 b2 hv)
      have HDE := Lib.hid (fun W => N.depth W b b1 b2)
      rw [hn] at HT HG ⊢
      have HN := Lib.hid hn
      have hn9 : n ≤ 900 := by omega
      have HE0 := Lib.hid HE.out
      clear HTO HGO hf ht hX hP hb0 hn hdec hg HE N hl hq hq0
      go_enter Tryz.func52, Tryz.ntmps52
      go_wp2_with fail
      refine (HT.out _ HB0.out).mono ?_
      rintro e w1 ⟨rfl, h1⟩
      have HE1 := Lib.hid (HE0.out w1 h1)
      obtain ⟨f0, f1, f2⟩ := HE1.out
      have HB1 := Lib.hid (HB0.out.trans (h1.mono HB0.out.size))
      clear h1 HE0 HT
      go_wp2_with fail
      refine (HMO.out _).mono ?_
      rintro e w2 ⟨rfl, h2⟩
      have HB2 := Lib.hid (HB1.out.trans (h2.mono HB1.out.size))
      have HE2 := Lib.hid (⟨cell_later h2 f0, cell_later h2 f1, cell_later h2 f2⟩ : w2.cell? ⟨w.heap.size, 0, none⟩ = some (.int .i64 d) ∧ w2.cell? ⟨w.heap.size, 1, none⟩ = some (.int .i64 k) ∧ w2.cell? ⟨w.heap.size + 1, 0, none⟩ = some (.int .i64 b))
      clear h2 f0 f1 f2 HE1
      go_wp2_with fail
      refine (HG.out _ HB2.out).mono ?_
      rintro e w3 ⟨rfl, h3⟩
      have HB3 := Lib.hid (HB2.out.trans (h3.mono HB2.out.size))
      have HE3 := Lib.hid (⟨cell_later h3 HE2.out.1, cell_later h3 HE2.out.2.1, cell_later h3 HE2.out.2.2⟩ : w3.cell? ⟨w.heap.size, 0, none⟩ = some (.int .i64 d) ∧ w3.cell? ⟨w.heap.size, 1, none⟩ = some (.int .i64 k) ∧ w3.cell? ⟨w.heap.size + 1, 0, none⟩ = some (.int .i64 b))
      clear h3 HE2 HG HMO
      go_wp2_with fail
      go_loopw [28] (fun iv wr => ∃ i : Nat, i ≤ n ∧ iv = .int .i64 i ∧ (L.take i).all (pairB b k t) = true ∧ Below w3.heap.size w3 wr) (fun iv _ => n - (intOf iv).toNat)
      case atStart => exact ⟨0, Nat.zero_le _, rfl, rfl, Below.refl _ _⟩
      case round =>
        obtain ⟨i, hi, rfl, hall, hbi⟩ := hrel
        have HALL := Lib.hid hall
        have HBI := Lib.hid hbi
        have hzi := hbi.size
        clear hall hbi
        by_cases hlt : i < n
        · have kl : (i : Int) < n := by omega
          have hx : L[i]? = some (L[i]'(by rw [HN.out]; exact hlt)) := List.getElem?_eq_getElem _
          generalize hit : L[i]'(by rw [HN.out]; exact hlt) = p at *
          obtain ⟨px, pc⟩ := p
          obtain ⟨bb, off, rfl, hbl, e0, e1⟩ := (HP.out.call (HB3.out.trans (HBI.out.mono HB3.out.size))).at_ i _ hx
          have hmem := List.mem_of_getElem? hx
          have hok := HP.out.ok _ hmem
          have HGP := Lib.hid (fun W => HGD.out W px hok.1)
          have HLP := Lib.hid (fun W => HLV.out W px hok.1)
          have HSN : Hid ((L.take (i + 1)).all (pairB b k t) = pairB b k t (px, pc)) := Lib.hid (by
            rw [take_snocP hx, List.all_append, HALL.out, Bool.true_and]; simp)
          have HBAD := Lib.hid (HTN.out (px, pc) hmem)
          have HPB : Hid (pairB b k t (px, pc) = (goodT b px && (decide (((2 ^ b : Nat) : Int) ≤ px) || decide (pc ≤ q)))) := Lib.hid (by
            unfold pairB; rw [good_dec, HQ.out])
          have hlg := fun h => lvl_leaf (b := b) (v := px) h
          have hln := fun h => lvl_none (b := b) (v := px) h
          obtain ⟨⟨o1, o2⟩, o3, o4⟩ := hok
          simp only at e0 e1 o1 o2 o3 o4 HGP HLP
          have HBN : Hid (Below w3.heap.size w3 (wr.alloc (.cells #[.int .i64 px, .int .u64 pc] 61))) := Lib.hid (HBI.out.alloc (by omega) _)
          have HS0 : Hid ((wr.alloc (.cells #[.int .i64 px, .int .u64 pc] 61)).drew.cell? ⟨w.heap.size, 0, none⟩ = some (.int .i64 d) ∧ (wr.alloc (.cells #[.int .i64 px, .int .u64 pc] 61)).drew.cell? ⟨w.heap.size, 1, none⟩ = some (.int .i64 k) ∧ (wr.alloc (.cells #[.int .i64 px, .int .u64 pc] 61)).drew.cell? ⟨w.heap.size + 1, 0, none⟩ = some (.int .i64 b) ∧ (wr.alloc (.cells #[.int .i64 px, .int .u64 pc] 61)).drew.cell? ⟨wr.heap.size, 0, none⟩ = some (.int .i64 px) ∧ (wr.alloc (.cells #[.int .i64 px, .int .u64 pc] 61)).drew.cell? ⟨wr.heap.size, 1, none⟩ = some (.int .u64 pc) ∧ Below w3.heap.size w3 (wr.alloc (.cells #[.int .i64 px, .int .u64 pc] 61)).drew) := Lib.hid ⟨cell_later HBN.out.drew HE3.out.1, cell_later HBN.out.drew HE3.out.2.1, cell_later HBN.out.drew HE3.out.2.2, (dg_two wr _ _ _).1, (dg_two wr _ _ _).2, HBN.out.drew⟩
          have HST := Lib.hid (fun (W W' : World) (h : W.cell? ⟨w.heap.size, 0, none⟩ = some (.int .i64 d) ∧ W.cell? ⟨w.heap.size, 1, none⟩ = some (.int .i64 k) ∧ W.cell? ⟨w.heap.size + 1, 0, none⟩ = some (.int .i64 b) ∧ W.cell? ⟨wr.heap.size, 0, none⟩ = some (.int .i64 px) ∧ W.cell? ⟨wr.heap.size, 1, none⟩ = some (.int .u64 pc) ∧ Below w3.heap.size w3 W) (hb : Below W.heap.size W W') => (⟨cell_later hb h.1, cell_later hb h.2.1, cell_later hb h.2.2.1, cell_later hb h.2.2.2.1, cell_later hb h.2.2.2.2.1, h.2.2.2.2.2.trans (hb.mono h.2.2.2.2.2.size)⟩ : W'.cell? ⟨w.heap.size, 0, none⟩ = some (.int .i64 d) ∧ W'.cell? ⟨w.heap.size, 1, none⟩ = some (.int .i64 k) ∧ W'.cell? ⟨w.heap.size + 1, 0, none⟩ = some (.int .i64 b) ∧ W'.cell? ⟨wr.heap.size, 0, none⟩ = some (.int .i64 px) ∧ W'.cell? ⟨wr.heap.size, 1, none⟩ = some (.int .u64 pc) ∧ Below w3.heap.size w3 W'))
          have HDR := Lib.hid (fun (W : World) (h : W.cell? ⟨w.heap.size, 0, none⟩ = some (.int .i64 d) ∧ W.cell? ⟨w.heap.size, 1, none⟩ = some (.int .i64 k) ∧ W.cell? ⟨w.heap.size + 1, 0, none⟩ = some (.int .i64 b) ∧ W.cell? ⟨wr.heap.size, 0, none⟩ = some (.int .i64 px) ∧ W.cell? ⟨wr.heap.size, 1, none⟩ = some (.int .u64 pc) ∧ Below w3.heap.size w3 W) => (⟨h.1, h.2.1, h.2.2.1, h.2.2.2.1, h.2.2.2.2.1, h.2.2.2.2.2.drew⟩ : W.drew.cell? ⟨w.heap.size, 0, none⟩ = some (.int .i64 d) ∧ W.drew.cell? ⟨w.heap.size, 1, none⟩ = some (.int .i64 k) ∧ W.drew.cell? ⟨w.heap.size + 1, 0, none⟩ = some (.int .i64 b) ∧ W.drew.cell? ⟨wr.heap.size, 0, none⟩ = some (.int .i64 px) ∧ W.drew.cell? ⟨wr.heap.size, 1, none⟩ = some (.int .u64 pc) ∧ Below w3.heap.size w3 W.drew))
          obtain ⟨lv, hlv⟩ : ∃ lv, lvI b px = lv := ⟨_, rfl⟩
          rw [hlv] at HLP hlg hln
          obtain ⟨lf, hlf⟩ : ∃ lf, (lv == (b : Int)) = lf := ⟨_, rfl⟩
          rw [hlf] at hlg hln
          generalize hgg : goodT b px = gd at *
          generalize hle2 : decide (((2 ^ b : Nat) : Int) ≤ px) = le2 at *
          have HLG := Lib.hid hlg
          have HLN := Lib.hid hln
          clear hx hit hmem hlv hgg hle2 hlg hln
          go_wp2_with fail
          go_region_held3 (fun w' => w'.cell? ⟨w.heap.size, 0, none⟩ = some (.int .i64 d) ∧ w'.cell? ⟨w.heap.size, 1, none⟩ = some (.int .i64 k) ∧ w'.cell? ⟨w.heap.size + 1, 0, none⟩ = some (.int .i64 b) ∧ w'.cell? ⟨wr.heap.size, 0, none⟩ = some (.int .i64 px) ∧ w'.cell? ⟨wr.heap.size, 1, none⟩ = some (.int .u64 pc) ∧ Below w3.heap.size w3 w')
            (first | exact HS0.out | exact HST.out _ _ (by assumption) hbA | exact HST.out _ _ (by assumption) hbB | assumption)
            ((first
              | (go_at_call 58; with_reducible refine (HLP.out _).mono ?_; rintro e wA ⟨rfl, hbA⟩)
              | (go_at_call 79; with_reducible refine (HDE.out _).mono ?_; rintro e wB ⟨rfl, hbB⟩)))
          all_goals
            rename_i hHeld
            have HS1 := Lib.hid hHeld
            clear hHeld HS0
            cases gd with
            | false =>
              obtain rfl : lf = false := HLN.out (by simp)
              have hxf : X = false := by rw [← HX.out]; exact HBAD.out (by rw [HPB.out]; rfl)
              subst hxf
              clear HLN HLG
              go_wp2_with fail
              refine wp_region_noPanic ?_
              refine wp_region_held_drew (S := (fun w' => w'.cell? ⟨w.heap.size, 0, none⟩ = some (.int .i64 d) ∧ w'.cell? ⟨w.heap.size, 1, none⟩ = some (.int .i64 k) ∧ w'.cell? ⟨w.heap.size + 1, 0, none⟩ = some (.int .i64 b) ∧ w'.cell? ⟨wr.heap.size, 0, none⟩ = some (.int .i64 px) ∧ w'.cell? ⟨wr.heap.size, 1, none⟩ = some (.int .u64 pc) ∧ Below w3.heap.size w3 w')) (by kernel_rfl) (HDR.out _ HS1.out) (fun hHeld => ?_)
              refine wpAnyH_take (i := 0) (oi := _) (v := ?va0) (by simp only [List.getElem?_toArray, List.getElem?_cons_succ, List.getElem?_cons_zero]; rfl) (by kernel_rfl) (by kernel_rfl) (by kernel_rfl) (fun _ _ _ h => h) (Or.inl ⟨by rfl, ?ya0⟩) hHeld ?ra0
              case ya0 => (intro w hSw; (try dsimp only at hSw); go_simp; try with_reducible rfl)
              try simp only [Act.put, List.setIfInBounds_toArray, List.set_cons_zero, List.set_cons_succ]
              refine wpAnyH_take (i := 1) (oi := _) (v := ?va1) (by simp only [List.getElem?_toArray, List.getElem?_cons_succ, List.getElem?_cons_zero]; rfl) (by kernel_rfl) (by kernel_rfl) (by kernel_rfl) (fun _ _ _ h => h) (Or.inl ⟨by rfl, ?ya1⟩) hHeld ?ra1
              case ya1 => (intro w hSw; (try dsimp only at hSw); go_simp; try with_reducible rfl)
              try simp only [Act.put, List.setIfInBounds_toArray, List.set_cons_zero, List.set_cons_succ]
              refine wpAnyH_take (i := 2) (oi := _) (v := ?va2) (by simp only [List.getElem?_toArray, List.getElem?_cons_succ, List.getElem?_cons_zero]; rfl) (by kernel_rfl) (by kernel_rfl) (by kernel_rfl) (fun _ _ _ h => h) (Or.inl ⟨by rfl, ?ya2⟩) hHeld ?ra2
              case ya2 => (intro w hSw; (try dsimp only at hSw); go_simp; try with_reducible rfl)
              try simp only [Act.put, List.setIfInBounds_toArray, List.set_cons_zero, List.set_cons_succ]
              refine wpAnyH_ready (rs := [3]) (by kernel_rfl) (by simp) ?_
              refine AllReadyH.cons (o := _) (by simp only [List.getElem?_toArray, List.getElem?_cons_succ, List.getElem?_cons_zero]; rfl) (fun K hK => ?_) AllReadyH.nil
              go_simp
              with_reducible refine (HGP.out _).mono ?_; rintro e wC ⟨rfl, hbC⟩
              try (go_wp2_with fail)
              refine hK.out _ _ (HST.out _ _ hHeld hbC) (fun hHeld => ?_)
              clear hK K
              try simp only [Act.put, List.setIfInBounds_toArray, List.set_cons_zero, List.set_cons_succ]
              refine wpAnyH_take (i := 4) (oi := _) (v := ?va4) (by simp only [List.getElem?_toArray, List.getElem?_cons_succ, List.getElem?_cons_zero]; rfl) (by kernel_rfl) (by kernel_rfl) (by kernel_rfl) (fun _ _ _ h => h) (Or.inl ⟨by rfl, ?ya4⟩) hHeld ?ra4
              case ya4 => (intro w hSw; (try dsimp only at hSw); go_simp; try with_reducible rfl)
              try simp only [Act.put, List.setIfInBounds_toArray, List.set_cons_zero, List.set_cons_succ]
              refine wpAnyH_take (i := 5) (oi := _) (v := ?va5) (by simp only [List.getElem?_toArray, List.getElem?_cons_succ, List.getElem?_cons_zero]; rfl) (by kernel_rfl) (by kernel_rfl) (by kernel_rfl) (fun _ _ _ h => h) (Or.inl ⟨by rfl, ?ya5⟩) hHeld ?ra5
              case ya5 => (intro w hSw; (try dsimp only at hSw); go_simp; try with_reducible rfl)
              try simp only [Act.put, List.setIfInBounds_toArray, List.set_cons_zero, List.set_cons_succ]
              refine wpAnyH_take (i := 6) (oi := _) (v := _) (by simp only [List.getElem?_toArray, List.getElem?_cons_succ, List.getElem?_cons_zero]; rfl) (by kernel_rfl) (by kernel_rfl) (by kernel_rfl) (fun _ _ _ h => h) (Or.inr ⟨by rfl, rfl⟩) hHeld ?_
              try simp only [Act.put, List.setIfInBounds_toArray, List.set_cons_zero, List.set_cons_succ]
              refine wpAnyH_take (i := 7) (oi := _) (v := _) (by simp only [List.getElem?_toArray, List.getElem?_cons_succ, List.getElem?_cons_zero]; rfl) (by kernel_rfl) (by kernel_rfl) (by kernel_rfl) (fun _ _ _ h => h) (Or.inr ⟨by rfl, rfl⟩) hHeld ?_
              try simp only [Act.put, List.setIfInBounds_toArray, List.set_cons_zero, List.set_cons_succ]
              refine wpAnyH_take (i := 8) (oi := _) (v := _) (by simp only [List.getElem?_toArray, List.getElem?_cons_succ, List.getElem?_cons_zero]; rfl) (by kernel_rfl) (by kernel_rfl) (by kernel_rfl) (fun _ _ _ h => h) (Or.inr ⟨by rfl, rfl⟩) hHeld ?_
              try simp only [Act.put, List.setIfInBounds_toArray, List.set_cons_zero, List.set_cons_succ]
              refine wpAnyH_take (i := 9) (oi := _) (v := _) (by simp only [List.getElem?_toArray, List.getElem?_cons_succ, List.getElem?_cons_zero]; rfl) (by kernel_rfl) (by kernel_rfl) (by kernel_rfl) (fun _ _ _ h => h) (Or.inr ⟨by rfl, rfl⟩) hHeld ?_
              try simp only [Act.put, List.setIfInBounds_toArray, List.set_cons_zero, List.set_cons_succ]
              refine wpAnyH_take (i := 10) (oi := _) (v := _) (by simp only [List.getElem?_toArray, List.getElem?_cons_succ, List.getElem?_cons_zero]; rfl) (by kernel_rfl) (by kernel_rfl) (by kernel_rfl) (fun _ _ _ h => h) (Or.inr ⟨by rfl, rfl⟩) hHeld ?_
              try simp only [Act.put, List.setIfInBounds_toArray, List.set_cons_zero, List.set_cons_succ]
              refine wpAnyH_take (i := 11) (oi := _) (v := _) (by simp only [List.getElem?_toArray, List.getElem?_cons_succ, List.getElem?_cons_zero]; rfl) (by kernel_rfl) (by kernel_rfl) (by kernel_rfl) (fun _ _ _ h => h) (Or.inr ⟨by rfl, rfl⟩) hHeld ?_
              try simp only [Act.put, List.setIfInBounds_toArray, List.set_cons_zero, List.set_cons_succ]
              refine wpAnyH_take (i := 12) (oi := _) (v := _) (by simp only [List.getElem?_toArray, List.getElem?_cons_succ, List.getElem?_cons_zero]; rfl) (by kernel_rfl) (by kernel_rfl) (by kernel_rfl) (fun _ _ _ h => h) (Or.inr ⟨by rfl, rfl⟩) hHeld ?_
              try simp only [Act.put, List.setIfInBounds_toArray, List.set_cons_zero, List.set_cons_succ]
              refine wpAnyH_take (i := 13) (oi := _) (v := _) (by simp only [List.getElem?_toArray, List.getElem?_cons_succ, List.getElem?_cons_zero]; rfl) (by kernel_rfl) (by kernel_rfl) (by kernel_rfl) (fun _ _ _ h => h) (Or.inr ⟨by rfl, rfl⟩) hHeld ?_
              try simp only [Act.put, List.setIfInBounds_toArray, List.set_cons_zero, List.set_cons_succ]
              refine wpAnyH_take (i := 14) (oi := _) (v := _) (by simp only [List.getElem?_toArray, List.getElem?_cons_succ, List.getElem?_cons_zero]; rfl) (by kernel_rfl) (by kernel_rfl) (by kernel_rfl) (fun _ _ _ h => h) (Or.inr ⟨by rfl, rfl⟩) hHeld ?_
              try simp only [Act.put, List.setIfInBounds_toArray, List.set_cons_zero, List.set_cons_succ]
              refine wpAnyH_take (i := 15) (oi := _) (v := _) (by simp only [List.getElem?_toArray, List.getElem?_cons_succ, List.getElem?_cons_zero]; rfl) (by kernel_rfl) (by kernel_rfl) (by kernel_rfl) (fun _ _ _ h => h) (Or.inr ⟨by rfl, rfl⟩) hHeld ?_
              try simp only [Act.put, List.setIfInBounds_toArray, List.set_cons_zero, List.set_cons_succ]
              refine wpAnyH_take (i := 16) (oi := _) (v := ?va16) (by simp only [List.getElem?_toArray, List.getElem?_cons_succ, List.getElem?_cons_zero]; rfl) (by kernel_rfl) (by kernel_rfl) (by kernel_rfl) (fun _ _ _ h => h) (Or.inl ⟨by rfl, ?ya16⟩) hHeld ?ra16
              case ya16 => (intro w hSw; (try dsimp only at hSw); go_simp; try with_reducible rfl)
              try simp only [Act.put, List.setIfInBounds_toArray, List.set_cons_zero, List.set_cons_succ]
              refine wpAnyH_done (by kernel_rfl) ?_ _
              refine NoPanic.normal ?_
              all_goals
                have HF := Lib.hid (HB3.out.trans (hHeld.2.2.2.2.2.mono HB3.out.size))
                clear hHeld
                go_wp2_with fail
                go_ret
                exact ⟨rfl, HF.out⟩
            | true =>
              have hlf2 : lf = le2 := HLG.out (by simp)
              cases lf with
              | true =>
                have HOKK : Hid ((L.take (i + 1)).all (pairB b k t) = true) := Lib.hid (by rw [HSN.out, HPB.out, ← hlf2]; rfl)
                clear HLN HLG hlf2
                go_wp2_with fail
                refine wp_region_noPanic ?_
                refine wp_region_held_drew (S := (fun w' => w'.cell? ⟨w.heap.size, 0, none⟩ = some (.int .i64 d) ∧ w'.cell? ⟨w.heap.size, 1, none⟩ = some (.int .i64 k) ∧ w'.cell? ⟨w.heap.size + 1, 0, none⟩ = some (.int .i64 b) ∧ w'.cell? ⟨wr.heap.size, 0, none⟩ = some (.int .i64 px) ∧ w'.cell? ⟨wr.heap.size, 1, none⟩ = some (.int .u64 pc) ∧ Below w3.heap.size w3 w')) (by kernel_rfl) (HDR.out _ HS1.out) (fun hHeld => ?_)
                refine wpAnyH_take (i := 0) (oi := _) (v := ?vb0) (by simp only [List.getElem?_toArray, List.getElem?_cons_succ, List.getElem?_cons_zero]; rfl) (by kernel_rfl) (by kernel_rfl) (by kernel_rfl) (fun _ _ _ h => h) (Or.inl ⟨by rfl, ?yb0⟩) hHeld ?rb0
                case yb0 => (intro w hSw; (try dsimp only at hSw); go_simp; try with_reducible rfl)
                try simp only [Act.put, List.setIfInBounds_toArray, List.set_cons_zero, List.set_cons_succ]
                refine wpAnyH_take (i := 1) (oi := _) (v := ?vb1) (by simp only [List.getElem?_toArray, List.getElem?_cons_succ, List.getElem?_cons_zero]; rfl) (by kernel_rfl) (by kernel_rfl) (by kernel_rfl) (fun _ _ _ h => h) (Or.inl ⟨by rfl, ?yb1⟩) hHeld ?rb1
                case yb1 => (intro w hSw; (try dsimp only at hSw); go_simp; try with_reducible rfl)
                try simp only [Act.put, List.setIfInBounds_toArray, List.set_cons_zero, List.set_cons_succ]
                refine wpAnyH_take (i := 2) (oi := _) (v := ?vb2) (by simp only [List.getElem?_toArray, List.getElem?_cons_succ, List.getElem?_cons_zero]; rfl) (by kernel_rfl) (by kernel_rfl) (by kernel_rfl) (fun _ _ _ h => h) (Or.inl ⟨by rfl, ?yb2⟩) hHeld ?rb2
                case yb2 => (intro w hSw; (try dsimp only at hSw); go_simp; try with_reducible rfl)
                try simp only [Act.put, List.setIfInBounds_toArray, List.set_cons_zero, List.set_cons_succ]
                refine wpAnyH_ready (rs := [3]) (by kernel_rfl) (by simp) ?_
                refine AllReadyH.cons (o := _) (by simp only [List.getElem?_toArray, List.getElem?_cons_succ, List.getElem?_cons_zero]; rfl) (fun K hK => ?_) AllReadyH.nil
                go_simp
                with_reducible refine (HGP.out _).mono ?_; rintro e wC ⟨rfl, hbC⟩
                try (go_wp2_with fail)
                refine hK.out _ _ (HST.out _ _ hHeld hbC) (fun hHeld => ?_)
                clear hK K
                try simp only [Act.put, List.setIfInBounds_toArray, List.set_cons_zero, List.set_cons_succ]
                refine wpAnyH_take (i := 4) (oi := _) (v := ?vb4) (by simp only [List.getElem?_toArray, List.getElem?_cons_succ, List.getElem?_cons_zero]; rfl) (by kernel_rfl) (by kernel_rfl) (by kernel_rfl) (fun _ _ _ h => h) (Or.inl ⟨by rfl, ?yb4⟩) hHeld ?rb4
                case yb4 => (intro w hSw; (try dsimp only at hSw); go_simp; try with_reducible rfl)
                try simp only [Act.put, List.setIfInBounds_toArray, List.set_cons_zero, List.set_cons_succ]
                refine wpAnyH_take (i := 5) (oi := _) (v := ?vb5) (by simp only [List.getElem?_toArray, List.getElem?_cons_succ, List.getElem?_cons_zero]; rfl) (by kernel_rfl) (by kernel_rfl) (by kernel_rfl) (fun _ _ _ h => h) (Or.inl ⟨by rfl, ?yb5⟩) hHeld ?rb5
                case yb5 => (intro w hSw; (try dsimp only at hSw); go_simp; try with_reducible rfl)
                try simp only [Act.put, List.setIfInBounds_toArray, List.set_cons_zero, List.set_cons_succ]
                refine wpAnyH_take (i := 6) (oi := _) (v := ?vb6) (by simp only [List.getElem?_toArray, List.getElem?_cons_succ, List.getElem?_cons_zero]; rfl) (by kernel_rfl) (by kernel_rfl) (by kernel_rfl) (fun _ _ _ h => h) (Or.inl ⟨by rfl, ?yb6⟩) hHeld ?rb6
                case yb6 => (intro w hSw; (try dsimp only at hSw); go_simp; try with_reducible rfl)
                try simp only [Act.put, List.setIfInBounds_toArray, List.set_cons_zero, List.set_cons_succ]
                refine wpAnyH_take (i := 7) (oi := _) (v := ?vb7) (by simp only [List.getElem?_toArray, List.getElem?_cons_succ, List.getElem?_cons_zero]; rfl) (by kernel_rfl) (by kernel_rfl) (by kernel_rfl) (fun _ _ _ h => h) (Or.inl ⟨by rfl, ?yb7⟩) hHeld ?rb7
                case yb7 => (intro w hSw; (try dsimp only at hSw); go_simp; try with_reducible rfl)
                try simp only [Act.put, List.setIfInBounds_toArray, List.set_cons_zero, List.set_cons_succ]
                refine wpAnyH_take (i := 8) (oi := _) (v := ?vb8) (by simp only [List.getElem?_toArray, List.getElem?_cons_succ, List.getElem?_cons_zero]; rfl) (by kernel_rfl) (by kernel_rfl) (by kernel_rfl) (fun _ _ _ h => h) (Or.inl ⟨by rfl, ?yb8⟩) hHeld ?rb8
                case yb8 => (intro w hSw; (try dsimp only at hSw); go_simp; try with_reducible rfl)
                try simp only [Act.put, List.setIfInBounds_toArray, List.set_cons_zero, List.set_cons_succ]
                refine wpAnyH_take (i := 9) (oi := _) (v := _) (by simp only [List.getElem?_toArray, List.getElem?_cons_succ, List.getElem?_cons_zero]; rfl) (by kernel_rfl) (by kernel_rfl) (by kernel_rfl) (fun _ _ _ h => h) (Or.inr ⟨by rfl, rfl⟩) hHeld ?_
                try simp only [Act.put, List.setIfInBounds_toArray, List.set_cons_zero, List.set_cons_succ]
                refine wpAnyH_take (i := 10) (oi := _) (v := _) (by simp only [List.getElem?_toArray, List.getElem?_cons_succ, List.getElem?_cons_zero]; rfl) (by kernel_rfl) (by kernel_rfl) (by kernel_rfl) (fun _ _ _ h => h) (Or.inr ⟨by rfl, rfl⟩) hHeld ?_
                try simp only [Act.put, List.setIfInBounds_toArray, List.set_cons_zero, List.set_cons_succ]
                refine wpAnyH_take (i := 11) (oi := _) (v := _) (by simp only [List.getElem?_toArray, List.getElem?_cons_succ, List.getElem?_cons_zero]; rfl) (by kernel_rfl) (by kernel_rfl) (by kernel_rfl) (fun _ _ _ h => h) (Or.inr ⟨by rfl, rfl⟩) hHeld ?_
                try simp only [Act.put, List.setIfInBounds_toArray, List.set_cons_zero, List.set_cons_succ]
                refine wpAnyH_take (i := 12) (oi := _) (v := _) (by simp only [List.getElem?_toArray, List.getElem?_cons_succ, List.getElem?_cons_zero]; rfl) (by kernel_rfl) (by kernel_rfl) (by kernel_rfl) (fun _ _ _ h => h) (Or.inr ⟨by rfl, rfl⟩) hHeld ?_
                try simp only [Act.put, List.setIfInBounds_toArray, List.set_cons_zero, List.set_cons_succ]
                refine wpAnyH_take (i := 13) (oi := _) (v := _) (by simp only [List.getElem?_toArray, List.getElem?_cons_succ, List.getElem?_cons_zero]; rfl) (by kernel_rfl) (by kernel_rfl) (by kernel_rfl) (fun _ _ _ h => h) (Or.inr ⟨by rfl, rfl⟩) hHeld ?_
                try simp only [Act.put, List.setIfInBounds_toArray, List.set_cons_zero, List.set_cons_succ]
                refine wpAnyH_take (i := 14) (oi := _) (v := _) (by simp only [List.getElem?_toArray, List.getElem?_cons_succ, List.getElem?_cons_zero]; rfl) (by kernel_rfl) (by kernel_rfl) (by kernel_rfl) (fun _ _ _ h => h) (Or.inr ⟨by rfl, rfl⟩) hHeld ?_
                try simp only [Act.put, List.setIfInBounds_toArray, List.set_cons_zero, List.set_cons_succ]
                refine wpAnyH_take (i := 15) (oi := _) (v := ?vb15) (by simp only [List.getElem?_toArray, List.getElem?_cons_succ, List.getElem?_cons_zero]; rfl) (by kernel_rfl) (by kernel_rfl) (by kernel_rfl) (fun _ _ _ h => h) (Or.inl ⟨by rfl, ?yb15⟩) hHeld ?rb15
                case yb15 => (intro w hSw; (try dsimp only at hSw); go_simp; try with_reducible rfl)
                try simp only [Act.put, List.setIfInBounds_toArray, List.set_cons_zero, List.set_cons_succ]
                refine wpAnyH_take (i := 16) (oi := _) (v := ?vb16) (by simp only [List.getElem?_toArray, List.getElem?_cons_succ, List.getElem?_cons_zero]; rfl) (by kernel_rfl) (by kernel_rfl) (by kernel_rfl) (fun _ _ _ h => h) (Or.inl ⟨by rfl, ?yb16⟩) hHeld ?rb16
                case yb16 => (intro w hSw; (try dsimp only at hSw); go_simp; try with_reducible rfl)
                try simp only [Act.put, List.setIfInBounds_toArray, List.set_cons_zero, List.set_cons_succ]
                refine wpAnyH_done (by kernel_rfl) ?_ _
                refine NoPanic.normal ?_
                all_goals
                  have HF := Lib.hid hHeld.2.2.2.2.2
                  clear hHeld
                  go_wp2_with fail
                  go_roundw
                  case rel => exact ⟨i + 1, by omega, by go_num, HOKK.out, HF.out⟩
                  case measure => simp [intOf]; omega
              | false =>
                by_cases hpq : pc ≤ q
                · have hpq2 : ¬ q < pc := by omega
                  have hpq3 : decide (q < pc) = false := decide_eq_false hpq2
                  have HOKK : Hid ((L.take (i + 1)).all (pairB b k t) = true) := Lib.hid (by rw [HSN.out, HPB.out, ← hlf2, decide_eq_true hpq]; rfl)
                  clear HLN HLG hlf2
                  go_wp2_with fail
                  go_region_held3 (fun w' => w'.cell? ⟨w.heap.size, 0, none⟩ = some (.int .i64 d) ∧ w'.cell? ⟨w.heap.size, 1, none⟩ = some (.int .i64 k) ∧ w'.cell? ⟨w.heap.size + 1, 0, none⟩ = some (.int .i64 b) ∧ w'.cell? ⟨wr.heap.size, 0, none⟩ = some (.int .i64 px) ∧ w'.cell? ⟨wr.heap.size, 1, none⟩ = some (.int .u64 pc) ∧ Below w3.heap.size w3 w')
                    (first | exact HDR.out _ HS1.out | exact HST.out _ _ (by assumption) hbC | exact HST.out _ _ (by assumption) hbD | assumption)
                    ((first
                      | (go_at_call 57; with_reducible refine (HGP.out _).mono ?_; rintro e wC ⟨rfl, hbC⟩)
                      | (go_at_call 69; with_reducible refine (HLI.out _).mono ?_; rintro e wD ⟨rfl, hbD⟩)))
                  all_goals
                    rename_i hHeld
                    have HF := Lib.hid hHeld.2.2.2.2.2
                    clear hHeld
                    go_wp2_with fail
                    go_roundw
                    case rel => exact ⟨i + 1, by omega, by go_num, HOKK.out, HF.out⟩
                    case measure => simp [intOf]; omega
                · have hpq2 : q < pc := by omega
                  have hpq3 : decide (q < pc) = true := decide_eq_true hpq2
                  have hxf : X = false := by rw [← HX.out]; exact HBAD.out (by rw [HPB.out, ← hlf2, decide_eq_false hpq]; rfl)
                  subst hxf
                  clear HLN HLG hlf2
                  go_wp2_with fail
                  go_region_held3 (fun w' => w'.cell? ⟨w.heap.size, 0, none⟩ = some (.int .i64 d) ∧ w'.cell? ⟨w.heap.size, 1, none⟩ = some (.int .i64 k) ∧ w'.cell? ⟨w.heap.size + 1, 0, none⟩ = some (.int .i64 b) ∧ w'.cell? ⟨wr.heap.size, 0, none⟩ = some (.int .i64 px) ∧ w'.cell? ⟨wr.heap.size, 1, none⟩ = some (.int .u64 pc) ∧ Below w3.heap.size w3 w')
                    (first | exact HDR.out _ HS1.out | exact HST.out _ _ (by assumption) hbC | exact HST.out _ _ (by assumption) hbD | assumption)
                    ((first
                      | (go_at_call 57; with_reducible refine (HGP.out _).mono ?_; rintro e wC ⟨rfl, hbC⟩)
                      | (go_at_call 69; with_reducible refine (HLI.out _).mono ?_; rintro e wD ⟨rfl, hbD⟩)))
                  all_goals
                    rename_i hHeld
                    have HF := Lib.hid (HB3.out.trans (hHeld.2.2.2.2.2.mono HB3.out.size))
                    clear hHeld
                    go_wp2_with fail
                    go_ret
                    exact ⟨rfl, HF.out⟩
        · obtain rfl : i = n := by omega
          have kl : ¬ (i : Int) < i := by omega
          have hxt : X = true := by
            have h1 := HALL.out
            rw [List.take_of_length_le (by rw [HN.out]; exact Nat.le_refl i)] at h1
            rw [← HX.out, HXB.out]; exact h1
          subst hxt
          have HF := Lib.hid (HB3.out.trans (HBI.out.mono HB3.out.size))
          go_wp2_with fail
          go_ret
          exact ⟨rfl, HF.out⟩
end Go.Proofs.YthjcdbnjmpjikaaGreat

/-
  Walks: package digest: between, Load, New.
-/
namespace Go.Proofs.YthjcdbnjmpjikaaGreat
set_option linter.unusedVariables false
set_option linter.unusedSimpArgs false
open Go.RowKit

def inB (b : Nat) (x : Int) : Bool := decide (0 ≤ x) && decide (x < ((2 ^ b : Nat) : Int))
theorem leaf_any (N : TreeDoes) (W : World) (b : Nat) (x : Int) (b1 : 1 ≤ b) (b2 : b ≤ 24) (hx : I64 x) (X : Bool) (hX : inB b x = X) :
    Calls Tryz.prog 46 #[.agg #[.int .i64 b], .int .i64 x] W fun e w' => ∃ v : Int, e = .returned (.tuple #[.int .i64 v, .bool X]) ∧ Below W.heap.size W w' := by
  unfold inB at hX
  by_cases h : 0 ≤ x ∧ x < ((2 ^ b : Nat) : Int)
  · rw [decide_eq_true h.1, decide_eq_true h.2] at hX
    subst hX
    refine (N.leaf_in W b x b1 b2 h.1 h.2).mono ?_
    rintro e w' ⟨rfl, hb⟩
    exact ⟨_, rfl, hb⟩
  · have : X = false := by
      rw [← hX]
      by_cases h0 : 0 ≤ x
      · rw [decide_eq_false (show ¬ x < ((2 ^ b : Nat) : Int) from fun c => h ⟨h0, c⟩), Bool.and_false]
      · rw [decide_eq_false h0, Bool.false_and]
    subst this
    refine (N.leaf_out W b x b1 b2 hx h).mono ?_
    rintro e w' ⟨rfl, hb⟩
    exact ⟨_, rfl, hb⟩
def betB (b : Nat) (lo hi : Int) : Bool := decide (0 ≤ lo) && decide (lo ≤ hi) && decide (hi < ((2 ^ b : Nat) : Int))
theorem bet_is (b : Nat) (lo hi : Int) : betB b lo hi = (inB b lo && inB b hi && decide (lo ≤ hi)) := by
  unfold betB inB
  by_cases h1 : 0 ≤ lo
  · by_cases h2 : lo ≤ hi
    · by_cases h3 : hi < ((2 ^ b : Nat) : Int)
      · rw [decide_eq_true h1, decide_eq_true h2, decide_eq_true h3, decide_eq_true (show 0 ≤ hi by omega), decide_eq_true (show lo < ((2 ^ b : Nat) : Int) by omega)]; rfl
      · rw [decide_eq_true h1, decide_eq_true h2, decide_eq_false h3]; simp
    · rw [decide_eq_false h2]; simp
  · rw [decide_eq_false h1]; simp

set_option maxHeartbeats 1000000 in
theorem dg_between (N : TreeDoes) (w : World) (b : Nat) (lo hi : Int) (b1 : 1 ≤ b) (b2 : b ≤ 24) (hlo : I64 lo) (hhi : I64 hi) (X : Bool) (hX : betB b lo hi = X) :
    Calls Tryz.prog 53 #[.agg #[.int .i64 b], .int .i64 lo, .int .i64 hi] w fun e w' => e = .returned (.bool X) ∧ Below w.heap.size w w' := by
  obtain ⟨p, hp⟩ : ∃ p, inB b lo = p := ⟨_, rfl⟩
  obtain ⟨q, hq⟩ : ∃ q, inB b hi = q := ⟨_, rfl⟩
  have HP := Lib.hid (fun W => leaf_any N W b lo b1 b2 hlo p hp)
  have HQ := Lib.hid (fun W => leaf_any N W b hi b1 b2 hhi q hq)
  rw [bet_is, hp, hq] at hX
  have hB : Below w.heap.size w (w.alloc (.cells #[.int .i64 b] 79)) := (Below.refl _ _).alloc (Nat.le_refl _) _
  have c0 := tree_cell w (.int .i64 b)
  have HX := Lib.hid hX
  clear hp hq hX N hlo hhi
  cases p with
  | false =>
    have hxf : X = false := by rw [← HX.out]; rfl
    subst hxf
    go_enter Tryz.func53, Tryz.ntmps53
    go_wp2_with fail
    refine (HP.out _).mono ?_
    rintro e w1 ⟨v1, rfl, h1⟩
    have c1 := cell_later h1 c0
    have h1 := hB.trans (h1.mono hB.size)
    clear hB c0
    go_wp2_with fail
    refine (HQ.out _).mono ?_
    rintro e w2 ⟨v2, rfl, h2⟩
    have h2 := h1.trans (h2.mono h1.size)
    go_wp2_with fail
    go_ret
    exact ⟨rfl, h2⟩
  | true =>
    cases q with
    | false =>
      have hxf : X = false := by rw [← HX.out]; rfl
      subst hxf
      go_enter Tryz.func53, Tryz.ntmps53
      go_wp2_with fail
      refine (HP.out _).mono ?_
      rintro e w1 ⟨v1, rfl, h1⟩
      have c1 := cell_later h1 c0
      have h1 := hB.trans (h1.mono hB.size)
      clear hB c0
      go_wp2_with fail
      refine (HQ.out _).mono ?_
      rintro e w2 ⟨v2, rfl, h2⟩
      have h2 := h1.trans (h2.mono h1.size)
      go_wp2_with fail
      go_ret
      exact ⟨rfl, h2⟩
    | true =>
      have hxd : decide (lo ≤ hi) = X := HX.out
      have HD := Lib.hid hxd
      clear hxd
      go_enter Tryz.func53, Tryz.ntmps53
      go_wp2_with fail
      refine (HP.out _).mono ?_
      rintro e w1 ⟨v1, rfl, h1⟩
      have c1 := cell_later h1 c0
      have h1 := hB.trans (h1.mono hB.size)
      clear hB c0
      go_wp2_with fail
      refine (HQ.out _).mono ?_
      rintro e w2 ⟨v2, rfl, h2⟩
      have h2 := h1.trans (h2.mono h1.size)
      go_wp2_with fail
      go_ret
      exact ⟨by rw [← HD.out]; rfl, h2⟩

theorem confD_cases {d f : Int} (h : confB d f = false) : ¬ (1 ≤ d ∧ d ≤ 24) ∨ ((1 ≤ d ∧ d ≤ 24) ∧ (f < 1 ∨ (1 ≤ f ∧ 64 < f))) := by
  unfold confB at h
  simp only [Bool.and_eq_false_iff, decide_eq_false_iff_not] at h
  omega

set_option maxHeartbeats 1000000 in
theorem dg_load_bad (N : TreeDoes) (w : World) (d f : Int) (v : Value) (lo hi : Int) (hd : I64 d) (hf : I64 f) (h : confB d f = false) :
    Calls Tryz.prog 32 #[.agg #[.int .i64 d, .int .i64 f], v, .int .i64 lo, .int .i64 hi] w fun e w' => e = .returned (.tuple #[.pointer none, .int .i64 1]) ∧ Below w.heap.size w w' := by
  have hB : Below w.heap.size w (w.alloc (.cells #[.int .i64 d, .int .i64 f] 23)) := (Below.refl _ _).alloc (Nat.le_refl _) _
  obtain ⟨c0, c1⟩ := dg_two w (.int .i64 d) (.int .i64 f) 23
  obtain ⟨f0, f1⟩ := hf
  rcases confD_cases h with h1 | ⟨⟨h1, h2⟩, h3⟩
  · have HN := Lib.hid (fun W => N.new_no W d hd h1)
    clear h h1 hd
    go_enter Tryz.func32, Tryz.ntmps32
    go_wp2_with fail
    refine (HN.out _).mono ?_
    rintro e w1 ⟨x, rfl, b1⟩
    have b2 := hB.trans (b1.mono hB.size)
    have b3 := b2.alloc b2.size (.cells #[.int .i64 x] 79)
    clear b1 b2 hB
    go_wp2_with fail
    go_ret2
    exact ⟨rfl, b3⟩
  · obtain ⟨n, rfl⟩ : ∃ n : Nat, d = n := ⟨d.toNat, by omega⟩
    have HN := Lib.hid (fun W => N.new_ok W n (by omega) (by omega))
    rcases h3 with h3 | ⟨h3, h4⟩
    · clear h
      go_enter Tryz.func32, Tryz.ntmps32
      go_wp2_with fail
      refine (HN.out _).mono ?_
      rintro e w1 ⟨rfl, b1⟩
      have q1 := cell_later b1 c1
      have b2 := hB.trans (b1.mono hB.size)
      have b3 := b2.alloc b2.size (.cells #[.int .i64 n] 79)
      have hlt := World.block_lt_of_cell? (a := ⟨w.heap.size, 1, none⟩) w1 q1
      simp only at hlt
      have q2 : (w1.alloc (.cells #[.int .i64 n] 79)).cell? ⟨w.heap.size, 1, none⟩ = some (.int .i64 f) := cell_later ((Below.refl _ _).alloc (Nat.le_refl _) _) q1
      clear b1 b2 hB c0 c1 q1
      go_wp2_with fail
      go_ret2
      exact ⟨rfl, b3⟩
    · have h5 : ¬ f < 1 := by omega
      clear h
      go_enter Tryz.func32, Tryz.ntmps32
      go_wp2_with fail
      refine (HN.out _).mono ?_
      rintro e w1 ⟨rfl, b1⟩
      have q1 := cell_later b1 c1
      have b2 := hB.trans (b1.mono hB.size)
      have b3 := b2.alloc b2.size (.cells #[.int .i64 n] 79)
      have hlt := World.block_lt_of_cell? (a := ⟨w.heap.size, 1, none⟩) w1 q1
      simp only at hlt
      have q2 : (w1.alloc (.cells #[.int .i64 n] 79)).cell? ⟨w.heap.size, 1, none⟩ = some (.int .i64 f) := cell_later ((Below.refl _ _).alloc (Nat.le_refl _) _) q1
      clear b1 b2 hB c0 c1 q1
      go_wp2_with fail
      go_ret2
      exact ⟨rfl, b3⟩

/-- What Load asks behind the config. -/
def endB (L : List PairV) (lo hi : Int) : Bool := L.isEmpty && (!(lo == 0) || !(hi == 0))
theorem load_ends (b k : Nat) (L : List PairV) (lo hi : Int) : loadG b k L lo hi = (takesB b k L && betB b lo hi && !endB L lo hi) := by
  rw [load_takes]
  unfold betB endB
  by_cases h1 : 0 ≤ lo
  · by_cases h2 : lo ≤ hi
    · rw [decide_eq_true h1, decide_eq_true h2]
      by_cases h3 : hi = 0
      · have h4 : lo = 0 := by omega
        subst h3 h4
        simp
      · have e1 : (hi == 0) = false := by simp [h3]
        rw [e1]
        cases L.isEmpty <;> simp
    · rw [decide_eq_false h2]; simp
  · rw [decide_eq_false h1]; simp
/-- What loading a config that can be comes to. -/
def LoadTo17 (St : StT) (w : World) (b k : Nat) (L : List PairV) (lo hi : Int) (X : Bool) (e : Ending) (w' : World) : Prop :=
  (X = true → ∃ B S, e = .returned (.tuple #[.pointer (some ⟨B, 0, none⟩), .int .i64 0]) ∧ DgX St w' B S b k L (if L = [] then (0, 0, false) else (lo, hi, true)) ∧ (∀ i, S i → w.heap.size ≤ i) ∧ Below w.heap.size w w') ∧
  (X = false → e = .returned (.tuple #[.pointer none, .int .i64 1]) ∧ Below w.heap.size w w')
theorem takes_ok {b k : Nat} {L : List PairV} (b1 : 1 ≤ b) (b2 : b ≤ 24) (k1 : 1 ≤ k) (k2 : k ≤ 64) (h : takesB b k L = true) : DigOk b k L := by
  unfold takesB at h
  simp only [Bool.and_eq_true, decide_eq_true_eq, List.all_eq_true] at h
  obtain ⟨⟨⟨h1, h2⟩, h3⟩, h4⟩ := h
  refine ⟨b1, b2, k1, k2, ⟨goodB_true.1 h1, fun p hp => ?_, h3⟩, h2⟩
  have := h4 p hp
  unfold pairB at this
  simp only [Bool.and_eq_true, decide_eq_true_eq] at this
  exact this.1

set_option maxRecDepth 100000 in
set_option maxHeartbeats 4000000 in
theorem dg_load {St : StT} (D : StripDoes St) (N : TreeDoes) (w : World) (b k : Nat) (A : Option Addr) (cap : Nat) (L : List PairV) (lo hi : Int) (b1 : 1 ≤ b) (b2 : b ≤ 24) (k1 : 1 ≤ k) (k2 : k ≤ 64) (hP : Pairs w A L) (hl : L.length ≤ 300) (hlo : I64 lo) (hhi : I64 hi) (X : Bool) (hX : loadG b k L lo hi = X) :
    Calls Tryz.prog 32 #[.agg #[.int .i64 b, .int .i64 k], .slice A L.length cap, .int .i64 lo, .int .i64 hi] w (LoadTo17 St w b k L lo hi X) := by
  have HD := Lib.hid D
  have HB : Hid (Below w.heap.size w (w.alloc (.cells #[.int .i64 b, .int .i64 k] 23))) := Lib.hid ((Below.refl _ _).alloc (Nat.le_refl _) _)
  obtain ⟨c0, c1⟩ := dg_two w (.int .i64 b) (.int .i64 k) 23
  have HN := Lib.hid (fun W => N.new_ok W b b1 b2)
  have k3 : ¬ (k : Int) < 1 := by omega
  have k4 : ¬ (64 : Int) < (k : Int) := by omega
  have HLE := Lib.hid (load_ends b k L lo hi)
  obtain ⟨p, hp⟩ : ∃ p, takesB b k L = p := ⟨_, rfl⟩
  obtain ⟨q, hq⟩ : ∃ q, betB b lo hi = q := ⟨_, rfl⟩
  have HTA := Lib.hid (fun W (hb : Below w.heap.size w W) => dg_takes N W b k b A cap L b1 b2 k1 k2 (hP.call hb) (by omega) p hp)
  have HBE := Lib.hid (fun W => dg_between N W b lo hi b1 b2 hlo hhi q hq)
  rw [hX, hp, hq] at HLE
  have HOK := Lib.hid (fun (h : p = true) => takes_ok b1 b2 k1 k2 (hp.trans h))
  have HFI := Lib.hid (fun (h : p = true) W (hb : Below w.heap.size w W) => dg_filled D W A cap L (hP.call hb) (takes_ok b1 b2 k1 k2 (hp.trans h)).row.good (by omega) (takes_ok b1 b2 k1 k2 (hp.trans h)).row.sum)
  have HLO := Lib.hid hlo
  have HHI := Lib.hid hhi
  obtain ⟨n, hn⟩ : ∃ n : Nat, L.length = n := ⟨_, rfl⟩
  have hie : L.isEmpty = ((n : Int) == 0) := by
    rw [← hn]
    cases L with
    | nil => rfl
    | cons a r => simp <;> omega
  have HEN : Hid (endB L lo hi = (((n : Int) == 0) && (!(lo == 0) || !(hi == 0)))) := Lib.hid (by unfold endB; rw [hie])
  rw [hn] at HTA HFI ⊢
  clear hp hq hX hP hl hn hie D N hlo hhi
  go_enter Tryz.func32, Tryz.ntmps32
  go_wp2_with fail
  refine (HN.out _).mono ?_
  rintro e w1 ⟨rfl, h1⟩
  have h2 := HB.out.trans (h1.mono HB.out.size)
  have HB2 := Lib.hid (h2.alloc h2.size (.cells #[.int .i64 b] 79))
  have q0 := cell_later h1 c0
  have q1 := cell_later h1 c1
  have hbn : Below w1.heap.size w1 (w1.alloc (.cells #[.int .i64 b] 79)) := (Below.refl _ _).alloc (Nat.le_refl _) _
  have HE := Lib.hid (⟨cell_later hbn q0, cell_later hbn q1, tree_cell w1 (.int .i64 b)⟩ : (w1.alloc (.cells #[.int .i64 b] 79)).cell? ⟨w.heap.size, 0, none⟩ = some (.int .i64 b) ∧ (w1.alloc (.cells #[.int .i64 b] 79)).cell? ⟨w.heap.size, 1, none⟩ = some (.int .i64 k) ∧ (w1.alloc (.cells #[.int .i64 b] 79)).cell? ⟨w1.heap.size, 0, none⟩ = some (.int .i64 b))
  have hlt := World.block_lt_of_cell? (a := ⟨w.heap.size, 1, none⟩) w1 q1
  simp only at hlt
  obtain ⟨e0, e1, e2⟩ := HE.out
  clear h1 h2 q0 q1 hbn c0 c1 HN
  cases p with
  | false =>
    have hxf : X = false := by rw [HLE.out]; rfl
    subst hxf
    clear HOK HFI
    go_wp2_with fail
    refine (HTA.out _ HB2.out).mono ?_
    rintro e w2 ⟨rfl, h2⟩
    have HB3 := Lib.hid (HB2.out.trans (h2.mono HB2.out.size))
    clear h2
    go_wp2_with fail
    go_ret2
    exact ⟨fun h => by simp at h, fun _ => ⟨rfl, HB3.out⟩⟩
  | true =>
    have fin : ∀ (W : World) (C : Nat) (S : Nat → Prop), Below w.heap.size w W → St W C S 4096 L → (∀ i, S i → w.heap.size ≤ i) → LoadTo17 St w b k L lo hi true (.returned (.tuple #[.pointer (some ⟨W.heap.size, 0, none⟩), .int .i64 0])) (W.alloc (.cells #[.int .i64 b, .int .i64 k, .int .i64 b, .pointer (some ⟨C, 0, none⟩), .int .i64 lo, .int .i64 hi] 82)) := fun W C S hb hst hS => by
      have hlt := HD.out.lt _ _ _ _ _ hst
      have hbn : Below W.heap.size W (W.alloc (.cells #[.int .i64 b, .int .i64 k, .int .i64 b, .pointer (some ⟨C, 0, none⟩), .int .i64 lo, .int .i64 hi] 82)) := (Below.refl _ _).alloc (Nat.le_refl _) _
      refine ⟨fun _ => ⟨W.heap.size, dgS W.heap.size S, rfl, ⟨HOK.out rfl, C, S, lo, hi, ⟨dg_newcells _ _, HD.out.keep _ _ _ _ _ _ hst fun i hi => hbn.block i (hlt i hi), fun h => by have := hlt _ h; omega⟩, HLO.out, HHI.out, rfl, fun i => Iff.rfl⟩, fun i hi => ?_, hb.alloc hb.size _⟩, fun h => by cases h⟩
      rcases hi with rfl | hi
      · exact hb.size
      · exact hS i hi
    have FIN := Lib.hid fin
    clear fin
    go_wp2_with fail
    refine (HTA.out _ HB2.out).mono ?_
    rintro e w2 ⟨rfl, h2⟩
    have f0 := cell_later h2 e0
    have f1 := cell_later h2 e1
    have f2 := cell_later h2 e2
    have HBB := Lib.hid (HB2.out.trans (h2.mono HB2.out.size))
    clear h2 e0 e1 e2
    cases q with
    | false =>
      have hxf : X = false := by rw [HLE.out]; rfl
      subst hxf
      go_wp2_with fail
      refine (HBE.out _).mono ?_
      rintro e w3 ⟨rfl, h3⟩
      have HB3 := Lib.hid (HBB.out.trans (h3.mono HBB.out.size))
      clear h3
      go_wp2_with fail
      go_ret2
      exact ⟨fun h => by simp at h, fun _ => ⟨rfl, HB3.out⟩⟩
    | true =>
      go_wp2_with fail
      refine (HBE.out _).mono ?_
      rintro e w3 ⟨rfl, h3⟩
      have HB3 := Lib.hid (HBB.out.trans (h3.mono HBB.out.size))
      have g0 : w3.drew.cell? ⟨w.heap.size, 0, none⟩ = some (.int .i64 b) := cell_later h3.drew f0
      have g1 : w3.drew.cell? ⟨w.heap.size, 1, none⟩ = some (.int .i64 k) := cell_later h3.drew f1
      have g2 : w3.drew.cell? ⟨w1.heap.size, 0, none⟩ = some (.int .i64 b) := cell_later h3.drew f2
      clear h3 f0 f1 f2
      by_cases hn0 : n = 0
      · subst hn0
        by_cases hl0 : lo = 0
        · subst hl0
          by_cases hh0 : hi = 0
          · subst hh0
            have hxt : X = true := by rw [HLE.out, HEN.out]; rfl
            subst hxt
            have HF2 := Lib.hid (HFI.out (by simp) _ HB3.out.drew)
            go_wp2_with fail
            go_region_with (go_at_call 54; refine HF2.out.mono ?_; rintro e wC ⟨C, S, rfl, hst, hS, hbC⟩; have t0 := cell_later hbC g0; have t1 := cell_later hbC g1; have t2 := cell_later hbC g2)
            all_goals
              have hbw := HB3.out.drew.trans (hbC.mono HB3.out.drew.size)
              have HFF := Lib.hid (FIN.out wC C S hbw hst (fun i hi => by have h1 := hS i hi; have h2 := HB3.out.size; exact Nat.le_trans h2 h1))
              clear hst hS hbw
              go_wp2_with fail
              go_ret2
              exact HFF.out
          · have hh1 : (hi == 0) = false := by simp [hh0]
            have hh2 : (hi != 0) = true := by simp [hh0]
            have hxf : X = false := by rw [HLE.out, HEN.out, hh1]; rfl
            subst hxf
            go_wp2_with fail
            go_ret2
            exact ⟨fun h => by simp at h, fun _ => ⟨rfl, HB3.out⟩⟩
        · have hl1 : (lo == 0) = false := by simp [hl0]
          have hl2 : (lo != 0) = true := by simp [hl0]
          have hxf : X = false := by rw [HLE.out, HEN.out, hl1]; rfl
          subst hxf
          go_wp2_with fail
          go_ret2
          exact ⟨fun h => by simp at h, fun _ => ⟨rfl, HB3.out⟩⟩
      · have hn1 : ((n : Int) == 0) = false := by simp <;> omega
        have hn2 : ¬ n = 0 := hn0
        have hxt : X = true := by rw [HLE.out, HEN.out, hn1]; rfl
        subst hxt
        have HF2 := Lib.hid (HFI.out (by simp) _ HB3.out.drew)
        go_wp2_with fail
        go_region_with (go_at_call 54; refine HF2.out.mono ?_; rintro e wC ⟨C, S, rfl, hst, hS, hbC⟩; have t0 := cell_later hbC g0; have t1 := cell_later hbC g1; have t2 := cell_later hbC g2)
        all_goals
          have hbw := HB3.out.drew.trans (hbC.mono HB3.out.drew.size)
          have HFF := Lib.hid (FIN.out wC C S hbw hst (fun i hi => by have h1 := hS i hi; have h2 := HB3.out.size; exact Nat.le_trans h2 h1))
          clear hst hS hbw
          go_wp2_with fail
          go_ret2
          exact HFF.out
end Go.Proofs.YthjcdbnjmpjikaaGreat

/-
  Leaves, Good, Level, Range and Before of a tree once more: what they leave is the very world, with more draws and more blocks alone.
-/
namespace Go.Proofs.YthjcdbnjmpjikaaGreat
set_option linter.unusedVariables false
set_option linter.unusedSimpArgs false
open Go.RowKit Go.Joins

/-- As Below, and no draw is undone. -/
structure LaidB (n : Nat) (w w' : World) : Prop where
  below : Below n w w'
  more : w.drawn ≤ w'.drawn
theorem LaidB.refl (n : Nat) (w : World) : LaidB n w w := ⟨Below.refl n w, Nat.le_refl _⟩
theorem LaidB.size {n : Nat} {w w' : World} (h : LaidB n w w') : w.heap.size ≤ w'.heap.size := h.below.size
theorem LaidB.trans {n : Nat} {a b c : World} (h : LaidB n a b) (k : LaidB n b c) : LaidB n a c := ⟨h.below.trans k.below, Nat.le_trans h.more k.more⟩
theorem LaidB.mono {n m : Nat} {w w' : World} (h : LaidB n w w') (hm : m ≤ n) : LaidB m w w' := ⟨h.below.mono hm, h.more⟩
theorem LaidB.drew {n : Nat} {w w' : World} (h : LaidB n w w') : LaidB n w w'.drew := ⟨h.below.drew, Nat.le_trans h.more (Nat.le_succ _)⟩
theorem LaidB.alloc {n : Nat} {w w' : World} (h : LaidB n w w') (hn : n ≤ w'.heap.size) (o : Obj) : LaidB n w (w'.alloc o) := ⟨h.below.alloc hn o, h.more⟩
theorem lcell_later {w w' : World} {a : Addr} {v : Value} (h : LaidB w.heap.size w w') (hc : w.cell? a = some v) : w'.cell? a = some v := cell_later h.below hc
theorem lbox_below (w : World) (x : Value) : LaidB w.heap.size w (w.alloc (.cells #[x] 79)) := (LaidB.refl _ _).alloc (Nat.le_refl _) _
/-- So the world is the one ahead, with draws and blocks. -/
theorem LaidB.grow {w w' : World} (h : LaidB w.heap.size w w') : ∃ q os, w' = Sort.grow (w.drewN q) os := by
  obtain ⟨⟨h1, h2, h3, h4, h5⟩, h6⟩ := h
  refine ⟨w'.drawn - w.drawn, w'.heap.extract w.heap.size w'.heap.size, ?_⟩
  obtain ⟨hp, tp, dr, os, ou⟩ := w'
  obtain ⟨hp0, tp0, dr0, os0, ou0⟩ := w
  simp only at h1 h2 h3 h4 h5 h6
  subst h1 h2 h3
  unfold Sort.grow World.drewN
  simp only [World.mk.injEq, and_true, true_and]
  refine ⟨?_, by omega⟩
  apply Array.ext_getElem?
  intro i
  rw [Array.getElem?_append]
  by_cases hi : i < hp0.size
  · rw [if_pos hi]; exact h5 i hi
  · rw [if_neg hi, Array.getElem?_extract]
    by_cases hj : i < hp.size
    · rw [if_pos (by omega), show hp0.size + (i - hp0.size) = i by omega]
    · rw [if_neg (by omega), Array.getElem?_eq_none (by omega)]

theorem ltleaves_any (w : World) (b : Nat) (hb1 : 1 ≤ b) (hb2 : b ≤ 24) : Calls Tryz.prog 59 #[.agg #[.int .i64 b]] w fun e w' => e = .returned (.int .i64 ((2 ^ b : Nat) : Int)) ∧ LaidB w.heap.size w w' := by
  obtain ⟨lv, hlv⟩ : ∃ lv : Nat, 2 ^ b = lv := ⟨_, rfl⟩
  have hlv1 : lv ≤ 16777216 := by rw [← hlv]; exact (pow_bd hb2).2
  have HW := Lib.hid (pow64 hb2 hlv)
  rw [hlv]
  have hz : ((b : Int) == 0) = false := by simp; omega
  have c0 := tree_cell w (.int .i64 b)
  have hB := lbox_below w (.int .i64 b)
  clear hlv
  go_enter Tryz.func59, Tryz.ntmps59
  go_wp2_with fail
  go_ret
  exact ⟨by show Ending.returned (Value.int .i64 (wrap64 (2 ^ b))) = _; rw [HW.out], by first | exact LaidB.refl _ _ | assumption⟩

theorem ltgood_any (w : World) (b : Nat) (v : Int) (hb1 : 1 ≤ b) (hb2 : b ≤ 24) (hv : I64 v) : Calls Tryz.prog 57 #[.agg #[.int .i64 b], .int .i64 v] w fun e w' => e = .returned (.bool (goodT b v)) ∧ LaidB w.heap.size w w' := by
  have HLV := Lib.hid (fun W => ltleaves_any W b hb1 hb2)
  obtain ⟨lv, hlv⟩ : ∃ lv : Nat, 2 ^ b = lv := ⟨_, rfl⟩
  have hlv1 : lv ≤ 16777216 := by rw [← hlv]; exact (pow_bd hb2).2
  have e3 : (2 : Int) ^ (b + 1) = 2 * (lv : Int) := by
    have e : ((2 ^ (b + 1) : Nat) : Int) = 2 ^ (b + 1) := by rw [Int.natCast_pow]; rfl
    rw [← e, Nat.pow_succ, hlv]; omega
  rw [hlv] at HLV
  have HG : Hid (goodT b v = (decide (1 ≤ v) && decide (v < 2 * (lv : Int)))) := Lib.hid (by unfold goodT; rw [e3])
  have c0 := tree_cell w (.int .i64 b)
  have hB := lbox_below w (.int .i64 b)
  obtain ⟨v0, v1⟩ := hv
  clear hlv e3
  by_cases h1 : 0 < v
  · have HF : Hid (goodT b v = decide (v < 2 * (lv : Int))) := Lib.hid (by rw [HG.out, decide_eq_true (by omega : (1 : Int) ≤ v), Bool.true_and])
    go_enter Tryz.func57, Tryz.ntmps57
    go_wp2_with fail
    refine (HLV.out _).mono ?_
    rintro e w1 ⟨rfl, b1⟩
    have hb := hB.trans (b1.mono hB.size)
    go_wp2_with fail
    go_ret
    exact ⟨by rw [HF.out]; rfl, hb⟩
  · have HF : Hid (goodT b v = false) := Lib.hid (by rw [HG.out, decide_eq_false (by omega : ¬ (1 : Int) ≤ v), Bool.false_and])
    go_enter Tryz.func57, Tryz.ntmps57
    go_wp2_with fail
    go_ret
    exact ⟨by rw [HF.out]; rfl, hB⟩

theorem ltlevel_any (w : World) (b : Nat) (v : Int) (hb1 : 1 ≤ b) (hb2 : b ≤ 24) (hv : I64 v) : Calls Tryz.prog 58 #[.agg #[.int .i64 b], .int .i64 v] w fun e w' => e = .returned (.int .i64 (lvI b v)) ∧ LaidB w.heap.size w w' := by
  have HG := Lib.hid (fun W => ltgood_any W b v hb1 hb2 hv)
  have c0 := tree_cell w (.int .i64 b)
  have hB := lbox_below w (.int .i64 b)
  cases hg : goodT b v with
  | false =>
    have HU : Hid (lvI b v = -1) := Lib.hid (by unfold lvI; rw [hg]; rfl)
    rw [hg] at HG
    clear hg hv
    go_enter Tryz.func58, Tryz.ntmps58
    go_wp2_with fail
    refine (HG.out _).mono ?_
    rintro e w1 ⟨rfl, b1⟩
    have hb := hB.trans (b1.mono hB.size)
    go_wp2_with fail
    go_ret
    exact ⟨by rw [HU.out]; rfl, hb⟩
  | true =>
    have HU : Hid (lvI b v = lvlT v.toNat) := Lib.hid (by unfold lvI; rw [if_pos hg])
    obtain ⟨n, rfl, n1, n2⟩ := good_nat hg
    have n3 : n < 33554432 := by have := (pow_bd hb2).2; rw [Nat.pow_succ] at n2; omega
    have hl := lvl_le n1 n2
    have HL : Hid (∀ W, Calls Tryz.prog 84 #[.int .u64 (n : Int)] W fun e w' => e = .returned (.int .i64 ((lvlT n : Int) + 1)) ∧ w' = W) := Lib.hid fun W => by
      have := Tryz.bits_Len (n : Int) W (by omega) (by omega)
      rw [Int.toNat_natCast, bit_len n1 (by omega)] at this
      exact this
    rw [Int.toNat_natCast] at HU
    obtain ⟨l, hl2⟩ : ∃ l, lvlT n = l := ⟨_, rfl⟩
    rw [hl2] at HU HL hl
    rw [hg] at HG
    clear hg n1 n2 hv hl2
    go_enter Tryz.func58, Tryz.ntmps58
    go_wp2_with fail
    refine (HG.out _).mono ?_
    rintro e w1 ⟨rfl, b1⟩
    have hb := hB.trans (b1.mono hB.size)
    go_wp2_with fail
    refine (HL.out _).mono ?_
    rintro e w2 ⟨rfl, rfl⟩
    go_wp2_with fail
    go_ret
    exact ⟨by rw [HU.out]; rfl, hb⟩

set_option maxRecDepth 100000 in
set_option maxHeartbeats 2000000 in
theorem ltreerange_any (w : World) (b : Nat) (v : Int) (hb1 : 1 ≤ b) (hb2 : b ≤ 24) (hv : I64 v) : Calls Tryz.prog 35 #[.agg #[.int .i64 b], .int .i64 v] w fun e w' => e = .returned (.tuple #[.int .i64 (rloI b v), .int .i64 (rhiI b v)]) ∧ LaidB w.heap.size w w' := by
  have HG := Lib.hid (fun W => ltgood_any W b v hb1 hb2 hv)
  have HLV := Lib.hid (fun W => ltlevel_any W b v hb1 hb2 hv)
  have HLE := Lib.hid (fun W => ltleaves_any W b hb1 hb2)
  have c0 := tree_cell w (.int .i64 b)
  have hB := lbox_below w (.int .i64 b)
  cases hg : goodT b v with
  | false =>
    have HU : Hid (rloI b v = 0 ∧ rhiI b v = 0) := Lib.hid (by unfold rloI rhiI; rw [hg]; exact ⟨rfl, rfl⟩)
    rw [hg] at HG
    clear hg hv
    go_enter Tryz.func35, Tryz.ntmps35
    go_wp2_with fail
    refine (HG.out _).mono ?_
    rintro e w1 ⟨rfl, b1⟩
    have hb := hB.trans (b1.mono hB.size)
    go_wp2_with fail
    go_ret2
    exact ⟨by rw [HU.out.1, HU.out.2]; rfl, hb⟩
  | true =>
    have HU : Hid (rloI b v = loI b v.toNat ∧ rhiI b v = hiI b v.toNat) := Lib.hid (by unfold rloI rhiI; rw [if_pos hg, if_pos hg]; exact ⟨rfl, rfl⟩)
    have hlv : lvI b v = lvlT v.toNat := by unfold lvI; rw [if_pos hg]
    obtain ⟨n, rfl, n1, n2⟩ := good_nat hg
    have hpb := (pow_bd hb2).2
    have n3 : n < 33554432 := by rw [Nat.pow_succ] at n2; omega
    have hl := lvl_le n1 n2
    have hri := range_in n1 n2
    rw [hlv] at HLV
    rw [Int.toNat_natCast] at HU HLV
    obtain ⟨lv, hlve⟩ : ∃ lv : Nat, 2 ^ b = lv := ⟨_, rfl⟩
    have e3 : (2 : Int) ^ b = (lv : Int) := by rw [← hlve, Int.natCast_pow]; rfl
    rw [hlve] at HLE hri hpb
    rw [Nat.pow_succ, hlve] at hri
    have hlo : n * 2 ^ (b - lvlT n) = loT b n := rfl
    have hup : loT b n + 2 ^ (b - lvlT n) = upT b n := by unfold loT upT; rw [Nat.add_mul, Nat.one_mul]
    unfold loI hiI at HU
    rw [e3] at HU
    obtain ⟨l, hl2⟩ : ∃ l, lvlT n = l := ⟨_, rfl⟩
    obtain ⟨L, hL⟩ : ∃ L, loT b n = L := ⟨_, rfl⟩
    obtain ⟨U, hU⟩ : ∃ U, upT b n = U := ⟨_, rfl⟩
    obtain ⟨k, hk⟩ : ∃ k, b - l = k := ⟨_, rfl⟩
    rw [hl2] at HLV hl hlo hup
    rw [hL] at hlo hup hri HU
    rw [hU] at hup hri HU
    rw [hk] at hlo hup
    obtain ⟨p, hp⟩ : ∃ p : Nat, 2 ^ k = p := ⟨_, rfl⟩
    rw [hp] at hlo hup
    have hd : (b : Int) - (l : Int) = (k : Int) := by omega
    have k0 : (0 : Int) ≤ (k : Int) := by omega
    have ep : (2 : Int) ^ k = (p : Int) := by rw [← hp, Int.natCast_pow]; rfl
    have HY : Hid (IntKind.i64.wrap ((n : Int) * 2 ^ k) = L ∧ IntKind.i64.wrap ((2 : Int) ^ k) = p ∧ (L : Int) - (lv : Int) = rloI b n ∧ IntKind.i64.wrap ((L : Int) - (lv : Int)) = rloI b n ∧ IntKind.i64.wrap (rloI b n + p) = rhiI b n + 1 ∧ IntKind.i64.wrap (rhiI b n + 1 - 1) = rhiI b n) := Lib.hid (by
      rw [HU.out.1, HU.out.2, ep, ← Int.natCast_mul, hlo]
      refine ⟨(wrap_64 ⟨by omega, by omega⟩).2, (wrap_64 ⟨by omega, by omega⟩).2, rfl, (wrap_64 ⟨by omega, by omega⟩).2, ?_, ?_⟩
      · rw [(wrap_64 ⟨by omega, by omega⟩).2]; omega
      · rw [(wrap_64 ⟨by omega, by omega⟩).2]; omega)
    have x1 : IntKind.i64.wrap (k : Int) = (k : Int) := (wrap_64 ⟨by omega, by omega⟩).2
    rw [hg] at HG
    clear hg n1 n2 n3 hpb hl hri hlv hlve e3 hlo hup hl2 hL hU hk hp ep hv HU
    go_enter Tryz.func35, Tryz.ntmps35
    go_wp2_with fail
    refine (HG.out _).mono ?_
    rintro e w1 ⟨rfl, b1⟩
    have hb := hB.trans (b1.mono hB.size)
    have c1 := lcell_later b1 c0
    clear hB b1 c0
    have HS0 : Hid (w1.drew.cell? ⟨w.heap.size, 0, none⟩ = some (.int .i64 b) ∧ LaidB w.heap.size w w1.drew) := Lib.hid ⟨c1, hb.drew⟩
    have HST := Lib.hid (fun (W W' : World) (h : W.cell? ⟨w.heap.size, 0, none⟩ = some (.int .i64 b) ∧ LaidB w.heap.size w W) (hb : LaidB W.heap.size W W') => (⟨lcell_later hb h.1, h.2.trans (hb.mono h.2.size)⟩ : W'.cell? ⟨w.heap.size, 0, none⟩ = some (.int .i64 b) ∧ LaidB w.heap.size w W'))
    clear hb c1
    go_wp2_with fail
    go_region_held3 (fun w' => w'.cell? ⟨w.heap.size, 0, none⟩ = some (.int .i64 b) ∧ LaidB w.heap.size w w')
      (first | exact HS0.out | exact HST.out _ _ (by assumption) hbA | assumption)
      ((go_at_call 58; with_reducible refine (HLV.out _).mono ?_; rintro e wA ⟨rfl, hbA⟩))
    rename_i hHeld
    clear HS0
    have HS1 := Lib.hid hHeld
    clear hHeld
    go_wp2_with fail
    go_region_held3 (fun w' => w'.cell? ⟨w.heap.size, 0, none⟩ = some (.int .i64 b) ∧ LaidB w.heap.size w w')
      (first | exact ⟨HS1.out.1, HS1.out.2.drew⟩ | exact HST.out _ _ (by assumption) hbA | assumption)
      ((go_at_call 59; with_reducible refine (HLE.out _).mono ?_; rintro e wA ⟨rfl, hbA⟩))
    rename_i hHeld
    clear HS1
    have HS1 := Lib.hid hHeld
    clear hHeld
    go_wp2_with fail
    go_region_held3 (fun w' => w'.cell? ⟨w.heap.size, 0, none⟩ = some (.int .i64 b) ∧ LaidB w.heap.size w w')
      (first | exact ⟨HS1.out.1, HS1.out.2.drew⟩ | assumption)
      (fail)
    rename_i hHeld
    have hb := hHeld.2
    clear hHeld HS1
    go_wp2_with fail
    go_ret2
    obtain ⟨y1, y2, _, y3, y4, y5⟩ := HY.out
    exact ⟨by
      show Ending.returned (.tuple #[.int .i64 (IntKind.i64.wrap (IntKind.i64.wrap ((n : Int) * 2 ^ k) - (lv : Int))), .int .i64 (IntKind.i64.wrap (IntKind.i64.wrap (IntKind.i64.wrap (IntKind.i64.wrap ((n : Int) * 2 ^ k) - (lv : Int)) + IntKind.i64.wrap ((2 : Int) ^ k)) - 1))]) = _
      rw [y1, y2, y3, y4, y5], hb⟩

set_option maxRecDepth 100000 in
set_option maxHeartbeats 2000000 in
theorem ltbefore_any (w : World) (b : Nat) (v u : Int) (hb1 : 1 ≤ b) (hb2 : b ≤ 24) (gv : goodT b v = true) (gu : goodT b u = true) : Calls Tryz.prog 62 #[.agg #[.int .i64 b], .int .i64 v, .int .i64 u] w fun e w' => e = .returned (.bool (beforeT b v.toNat u.toNat)) ∧ LaidB w.heap.size w w' := by
  have hlv : lvI b v = lvlT v.toNat := by unfold lvI; rw [if_pos gv]
  have hlu : lvI b u = lvlT u.toNat := by unfold lvI; rw [if_pos gu]
  have hrv : rhiI b v = hiI b v.toNat := by unfold rhiI; rw [if_pos gv]
  have hru : rhiI b u = hiI b u.toNat := by unfold rhiI; rw [if_pos gu]
  have hv : I64 v := by
    obtain ⟨n, rfl, n1, n2⟩ := good_nat gv
    have hpb := (pow_bd hb2).2
    rw [Nat.pow_succ] at n2
    exact ⟨by omega, by omega⟩
  have hu : I64 u := by
    obtain ⟨n, rfl, n1, n2⟩ := good_nat gu
    have hpb := (pow_bd hb2).2
    rw [Nat.pow_succ] at n2
    exact ⟨by omega, by omega⟩
  have GV := Lib.hid (fun W => ltgood_any W b v hb1 hb2 hv)
  have GU := Lib.hid (fun W => ltgood_any W b u hb1 hb2 hu)
  have LV := Lib.hid (fun W => ltlevel_any W b v hb1 hb2 hv)
  have LU := Lib.hid (fun W => ltlevel_any W b u hb1 hb2 hu)
  have RV := Lib.hid (fun W => ltreerange_any W b v hb1 hb2 hv)
  have RU := Lib.hid (fun W => ltreerange_any W b u hb1 hb2 hu)
  have c0 := tree_cell w (.int .i64 b)
  have hB := lbox_below w (.int .i64 b)
  have hab : (if rhiI b v = rhiI b u then decide (lvlT u.toNat < lvlT v.toNat) else decide (rhiI b v < rhiI b u)) = beforeT b v.toNat u.toNat := by
    rw [hrv, hru]
    unfold hiI beforeT
    by_cases e : upT b v.toNat = upT b u.toNat
    · rw [if_pos (by rw [e]), e]; simp
    · rw [if_neg (by omega)]
      by_cases e2 : upT b v.toNat < upT b u.toNat
      · rw [decide_eq_true e2, decide_eq_true (by omega)]; rfl
      · rw [decide_eq_false e2, decide_eq_false (by omega), decide_eq_false e]; rfl
  rw [gv] at GV
  rw [gu] at GU
  rw [hlv] at LV
  rw [hlu] at LU
  obtain ⟨l, hl⟩ : ∃ l, lvlT v.toNat = l := ⟨_, rfl⟩
  obtain ⟨k, hk⟩ : ∃ k, lvlT u.toNat = k := ⟨_, rfl⟩
  obtain ⟨r0, hr0⟩ : ∃ r, rloI b v = r := ⟨_, rfl⟩
  obtain ⟨r1, hr1⟩ : ∃ r, rhiI b v = r := ⟨_, rfl⟩
  obtain ⟨s0, hs0⟩ : ∃ r, rloI b u = r := ⟨_, rfl⟩
  obtain ⟨s1, hs1⟩ : ∃ r, rhiI b u = r := ⟨_, rfl⟩
  rw [hl] at LV hab
  rw [hk] at LU hab
  rw [hr0, hr1] at RV
  rw [hs0, hs1] at RU
  rw [hr1, hs1] at hab
  have HAB := Lib.hid hab.symm
  clear gv gu hlv hlu hrv hru hv hu hl hk hr0 hr1 hs0 hs1 hab
  go_enter Tryz.func62, Tryz.ntmps62
  go_wp2_with fail
  refine (GV.out _).mono ?_
  rintro e w1 ⟨rfl, b1⟩
  have hb := hB.trans (b1.mono hB.size)
  have c1 := lcell_later b1 c0
  clear hB b1 c0
  go_wp2_with fail
  refine (GU.out _).mono ?_
  rintro e w2 ⟨rfl, b2⟩
  have hbb := hb.trans (b2.mono hb.size)
  have c2 := lcell_later b2 c1
  clear hb b2 c1
  go_wp2_with fail
  refine (RV.out _).mono ?_
  rintro e w3 ⟨rfl, b3⟩
  have hb3 := hbb.trans (b3.mono hbb.size)
  have c3 := lcell_later b3 c2
  clear hbb b3 c2
  go_wp2_with fail
  refine (RU.out _).mono ?_
  rintro e w4 ⟨rfl, b4⟩
  have hb4 := hb3.trans (b4.mono hb3.size)
  have c4 := lcell_later b4 c3
  clear hb3 b4 c3
  by_cases he : r1 = s1
  · have HF : Hid (beforeT b v.toNat u.toNat = decide (k < l)) := Lib.hid (by rw [HAB.out, if_pos he])
    have q1 : (!r1 == s1) = false := by simp [he]
    have q2 : (r1 != s1) = false := by simp [he]
    have HS0 : Hid (w4.drew.cell? ⟨w.heap.size, 0, none⟩ = some (.int .i64 b) ∧ LaidB w.heap.size w w4.drew) := Lib.hid ⟨c4, hb4.drew⟩
    have HST := Lib.hid (fun (W W' : World) (h : W.cell? ⟨w.heap.size, 0, none⟩ = some (.int .i64 b) ∧ LaidB w.heap.size w W) (hb : LaidB W.heap.size W W') => (⟨lcell_later hb h.1, h.2.trans (hb.mono h.2.size)⟩ : W'.cell? ⟨w.heap.size, 0, none⟩ = some (.int .i64 b) ∧ LaidB w.heap.size w W'))
    clear he c4 hb4
    go_wp2_with fail
    go_region_held3 (fun w' => w'.cell? ⟨w.heap.size, 0, none⟩ = some (.int .i64 b) ∧ LaidB w.heap.size w w')
      (first | exact HS0.out | exact HST.out _ _ (by assumption) hbA | exact HST.out _ _ (by assumption) hbB | assumption)
      ((first
        | (go_at_call 58; with_reducible refine (LV.out _).mono ?_; rintro e wA ⟨rfl, hbA⟩)
        | (go_at_call 58; with_reducible refine (LU.out _).mono ?_; rintro e wB ⟨rfl, hbB⟩)))
    all_goals
      rename_i hHeld
      have hb := hHeld.2
      clear hHeld HS0 HST
      go_wp2_with fail
      go_ret
      exact ⟨by rw [HF.out]; first | rfl | (show Ending.returned (.bool (decide ((k : Int) < (l : Int)))) = _; congr 2; simp), hb⟩
  · have HF : Hid (beforeT b v.toNat u.toNat = decide (r1 < s1)) := Lib.hid (by rw [HAB.out, if_neg he])
    have q1 : (!r1 == s1) = true := by simp [he]
    have q2 : (r1 != s1) = true := by simp [he]
    clear he
    go_wp2_with fail
    go_ret
    exact ⟨by rw [HF.out]; rfl, hb4⟩
end Go.Proofs.YthjcdbnjmpjikaaGreat

/-
  The library contracts that the proofs lean on, laid at this translation by program.
-/
namespace Go.Proofs
open Go.Shelf
def Tryz.sortP_ren : Go.Shelf.Ren := ⟨fun | 6 => 60 | 15 => 84 | 14 => 85 | 28 => 103 | 29 => 104 | 20 => 105 | 21 => 106 | 22 => 107 | 23 => 108 | 24 => 109 | 25 => 110 | 26 => 111 | 27 => 112 | 46 => 120 | 47 => 121 | 48 => 122 | 49 => 123 | 50 => 124 | 57 => 135 | n => n, fun | 22 => 46 | 24 => 61 | 25 => 104 | 3 => 3 | 39 => 132 | 0 => 0 | 53 => 147 | 55 => 25 | 4 => 4 | 46 => 150 | 45 => 149 | 50 => 92 | 5 => 5 | 9 => 9 | 66 => 159 | 70 => 162 | 76 => 170 | 77 => 171 | n => n, fun | n => n⟩
theorem Tryz.sortP : Go.Proofs.SlLaysF0.n6 Tryz.prog Tryz.sortP_ren := {
  mixed := by kernel_rfl
  f6 := ⟨Tryz.f60.name, by decide, Tryz.func60.trans (congrArg some (by kernel_rfl))⟩
  f14 := ⟨Tryz.f85.name, by decide, Tryz.func85.trans (congrArg some (by kernel_rfl))⟩
  f15 := Tryz.func84.trans (congrArg some (by kernel_rfl))
  f20 := ⟨Tryz.f105.name, by decide, Tryz.func105.trans (congrArg some (by kernel_rfl))⟩
  f21 := ⟨Tryz.f106.name, by decide, Tryz.func106.trans (congrArg some (by kernel_rfl))⟩
  f22 := ⟨Tryz.f107.name, by decide, Tryz.func107.trans (congrArg some (by kernel_rfl))⟩
  f23 := ⟨Tryz.f108.name, by decide, Tryz.func108.trans (congrArg some (by kernel_rfl))⟩
  f24 := ⟨Tryz.f109.name, by decide, Tryz.func109.trans (congrArg some (by kernel_rfl))⟩
  f25 := ⟨Tryz.f110.name, by decide, Tryz.func110.trans (congrArg some (by kernel_rfl))⟩
  f26 := ⟨Tryz.f111.name, by decide, Tryz.func111.trans (congrArg some (by kernel_rfl))⟩
  f27 := ⟨Tryz.f112.name, by decide, Tryz.func112.trans (congrArg some (by kernel_rfl))⟩
  f28 := Tryz.func103.trans (congrArg some (by kernel_rfl))
  f29 := Tryz.func104.trans (congrArg some (by kernel_rfl))
  f46 := ⟨Tryz.f120.name, by decide, Tryz.func120.trans (congrArg some (by kernel_rfl))⟩
  f47 := Tryz.func121.trans (congrArg some (by kernel_rfl))
  f48 := Tryz.func122.trans (congrArg some (by kernel_rfl))
  f49 := ⟨Tryz.f123.name, by decide, Tryz.func123.trans (congrArg some (by kernel_rfl))⟩
  f50 := ⟨Tryz.f124.name, by decide, Tryz.func124.trans (congrArg some (by kernel_rfl))⟩
  f57 := ⟨Tryz.f135.name, by decide, Tryz.func135.trans (congrArg some (by kernel_rfl))⟩
  t0 := Tryz.underlying0
  a0 := Tryz.isAgg0
  z0 := Tryz.sizeOf0
  v0 := Tryz.zeroValue0
  t3 := Tryz.underlying3
  a3 := Tryz.isAgg3
  z3 := Tryz.sizeOf3
  v3 := Tryz.zeroValue3
  t4 := Tryz.underlying4
  a4 := Tryz.isAgg4
  z4 := Tryz.sizeOf4
  v4 := Tryz.zeroValue4
  t5 := Tryz.underlying5
  a5 := Tryz.isAgg5
  z5 := Tryz.sizeOf5
  v5 := Tryz.zeroValue5
  t9 := Tryz.underlying9
  a9 := Tryz.isAgg9
  z9 := Tryz.sizeOf9
  v9 := Tryz.zeroValue9
  t22 := Tryz.underlying46
  a22 := Tryz.isAgg46
  z22 := Tryz.sizeOf46
  v22 := Tryz.zeroValue46
  t25 := Tryz.underlying104
  a25 := Tryz.isAgg104
  z25 := Tryz.sizeOf104
  v25 := Tryz.zeroValue104
  t39 := Tryz.underlying132
  a39 := Tryz.isAgg132
  z39 := Tryz.sizeOf132
  v39 := Tryz.zeroValue132
  t45 := Tryz.underlying149
  a45 := Tryz.isAgg149
  z45 := Tryz.sizeOf149
  v45 := Tryz.zeroValue149
  t46 := Tryz.underlying150
  a46 := Tryz.isAgg150
  z46 := Tryz.sizeOf150
  v46 := Tryz.zeroValue150
  t50 := Tryz.underlying92
  a50 := Tryz.isAgg92
  z50 := Tryz.sizeOf92
  v50 := Tryz.zeroValue92
  t53 := Tryz.underlying147
  a53 := Tryz.isAgg147
  z53 := Tryz.sizeOf147
  v53 := Tryz.zeroValue147
  t55 := Tryz.underlying25
  a55 := Tryz.isAgg25
  z55 := Tryz.sizeOf25
  v55 := Tryz.zeroValue25
  t66 := Tryz.underlying159
  a66 := Tryz.isAgg159
  z66 := Tryz.sizeOf159
  v66 := Tryz.zeroValue159
  t70 := Tryz.underlying162
  a70 := Tryz.isAgg162
  z70 := Tryz.sizeOf162
  v70 := Tryz.zeroValue162
  t76 := Tryz.underlying170
  a76 := Tryz.isAgg170
  z76 := Tryz.sizeOf170
  v76 := Tryz.zeroValue170
  t77 := Tryz.underlying171
  a77 := Tryz.isAgg171
  z77 := Tryz.sizeOf171
  v77 := Tryz.zeroValue171 }
end Go.Proofs

/-
  Rows of nodes, sorted in the order in which they are told: the closure of at; the library's slices.SortFunc.
-/
namespace Go.Proofs.YthjcdbnjmpjikaaGreat
set_option linter.unusedVariables false
set_option linter.unusedSimpArgs false
open Go.RowKit Go.Sort Go.Lib

/-- A pair whose index is a node. -/
abbrev NodeV (b : Nat) := { p : PairV // goodT b p.1 = true }
theorem node1_good (b : Nat) : goodT b 1 = true := nat_good (n := 1) (Nat.le_refl _) (by have := Nat.one_lt_two_pow (n := b + 1) (by omega); omega)
instance (b : Nat) : Inhabited (NodeV b) := ⟨⟨(1, 0), node1_good b⟩⟩
def befN {b : Nat} (x y : NodeV b) : Bool := beforeT b x.1.1.toNat y.1.1.toNat
def cfN {b : Nat} (x y : NodeV b) : Int := if befN x y = true then -1 else if befN y x = true then 1 else 0
theorem lt_cfN {b : Nat} (x y : NodeV b) : ltOf cfN x y = befN x y := by
  unfold ltOf cfN
  cases h : befN x y with
  | true => rfl
  | false =>
    rw [if_neg (by simp)]
    split <;> rfl
theorem swo_cfN (b : Nat) : SWO (ltOf (cfN (b := b))) where
  irrefl x := by rw [lt_cfN]; unfold befN beforeT; simp
  trans x y z h1 h2 := by rw [lt_cfN] at *; exact before_trans h1 h2
  ntrans x y z h1 h2 := by
    rw [lt_cfN] at *
    unfold befN beforeT at *
    simp only [Bool.or_eq_false_iff, Bool.and_eq_false_imp, decide_eq_false_iff_not, decide_eq_true_eq] at *
    refine ⟨by omega, fun e => ?_⟩
    have a1 := h1.2
    have a2 := h2.2
    by_cases e1 : upT b x.1.1.toNat = upT b y.1.1.toNat
    · have := a1 e1
      have := a2 (by omega)
      omega
    · exfalso; omega

set_option maxRecDepth 100000 in
set_option maxHeartbeats 2000000 in
theorem at_cmp {b : Nat} (b1 : 1 ≤ b) (b2 : b ≤ 24) (x y : NodeV b) {w : World} {X B : Nat} (hX : w.cell? ⟨X, 0, none⟩ = some (.pointer (some ⟨B, 0, none⟩))) (hc : w.cell? ⟨B, 2, none⟩ = some (.int .i64 b)) :
    Calls Tryz.prog 61 #[.agg #[.int .i64 x.1.1, .int .u64 x.1.2], .agg #[.int .i64 y.1.1, .int .u64 y.1.2], .pointer (some ⟨X, 0, none⟩)] w fun e w' => e = .returned (.int .i64 (cfN x y)) ∧ LaidB w.heap.size w w' := by
  obtain ⟨⟨x1, x2⟩, gx⟩ := x
  obtain ⟨⟨y1, y2⟩, gy⟩ := y
  have HXY := Lib.hid (fun W => ltbefore_any W b x1 y1 b1 b2 gx gy)
  have HYX := Lib.hid (fun W => ltbefore_any W b y1 x1 b1 b2 gy gx)
  have HCF : Hid (cfN ⟨(x1, x2), gx⟩ ⟨(y1, y2), gy⟩ = if beforeT b x1.toNat y1.toNat = true then -1 else if beforeT b y1.toNat x1.toNat = true then 1 else 0) := Lib.hid rfl
  generalize beforeT b x1.toNat y1.toNat = p at *
  generalize beforeT b y1.toNat x1.toNat = q at *
  have h1 : LaidB w.heap.size w (w.alloc (.cells #[.int .i64 x1, .int .u64 x2] 61)) := (LaidB.refl _ _).alloc (Nat.le_refl _) _
  have hz1 : (w.alloc (.cells #[.int .i64 x1, .int .u64 x2] 61)).heap.size = w.heap.size + 1 := by simp
  have h2 := h1.alloc (by rw [hz1]; omega) (.cells #[.int .i64 y1, .int .u64 y2] 61)
  have e0 : ((w.alloc (.cells #[.int .i64 x1, .int .u64 x2] 61)).alloc (.cells #[.int .i64 y1, .int .u64 y2] 61)).cell? ⟨w.heap.size, 0, none⟩ = some (.int .i64 x1) := cell_later ((Below.refl _ _).alloc (Nat.le_refl _) _) (dg_two w _ _ _).1
  have e1 := (dg_two (w.alloc (.cells #[.int .i64 x1, .int .u64 x2] 61)) (.int .i64 y1) (.int .u64 y2) 61).1
  rw [hz1] at e1
  have e2 := lcell_later h2 hX
  have e3 := lcell_later h2 hc
  have HS0 : Hid (((w.alloc (.cells #[.int .i64 x1, .int .u64 x2] 61)).alloc (.cells #[.int .i64 y1, .int .u64 y2] 61)).drew.cell? ⟨w.heap.size, 0, none⟩ = some (.int .i64 x1) ∧ ((w.alloc (.cells #[.int .i64 x1, .int .u64 x2] 61)).alloc (.cells #[.int .i64 y1, .int .u64 y2] 61)).drew.cell? ⟨w.heap.size + 1, 0, none⟩ = some (.int .i64 y1) ∧ ((w.alloc (.cells #[.int .i64 x1, .int .u64 x2] 61)).alloc (.cells #[.int .i64 y1, .int .u64 y2] 61)).drew.cell? ⟨X, 0, none⟩ = some (.pointer (some ⟨B, 0, none⟩)) ∧ ((w.alloc (.cells #[.int .i64 x1, .int .u64 x2] 61)).alloc (.cells #[.int .i64 y1, .int .u64 y2] 61)).drew.cell? ⟨B, 2, none⟩ = some (.int .i64 b) ∧ LaidB w.heap.size w ((w.alloc (.cells #[.int .i64 x1, .int .u64 x2] 61)).alloc (.cells #[.int .i64 y1, .int .u64 y2] 61)).drew) := Lib.hid ⟨e0, e1, e2, e3, h2.drew⟩
  have HST := Lib.hid (fun (W W' : World) (h : W.cell? ⟨w.heap.size, 0, none⟩ = some (.int .i64 x1) ∧ W.cell? ⟨w.heap.size + 1, 0, none⟩ = some (.int .i64 y1) ∧ W.cell? ⟨X, 0, none⟩ = some (.pointer (some ⟨B, 0, none⟩)) ∧ W.cell? ⟨B, 2, none⟩ = some (.int .i64 b) ∧ LaidB w.heap.size w W) (hb : LaidB W.heap.size W W') => (⟨lcell_later hb h.1, lcell_later hb h.2.1, lcell_later hb h.2.2.1, lcell_later hb h.2.2.2.1, h.2.2.2.2.trans (hb.mono h.2.2.2.2.size)⟩ : W'.cell? ⟨w.heap.size, 0, none⟩ = some (.int .i64 x1) ∧ W'.cell? ⟨w.heap.size + 1, 0, none⟩ = some (.int .i64 y1) ∧ W'.cell? ⟨X, 0, none⟩ = some (.pointer (some ⟨B, 0, none⟩)) ∧ W'.cell? ⟨B, 2, none⟩ = some (.int .i64 b) ∧ LaidB w.heap.size w W'))
  clear e0 e1 e2 e3 h1 h2 hz1 hX hc
  show Calls Tryz.prog 61 #[.agg #[.int .i64 x1, .int .u64 x2], .agg #[.int .i64 y1, .int .u64 y2], .pointer (some ⟨X, 0, none⟩)] w fun e w' => e = .returned (.int .i64 (cfN ⟨(x1, x2), gx⟩ ⟨(y1, y2), gy⟩)) ∧ LaidB w.heap.size w w'
  generalize cfN ⟨(x1, x2), gx⟩ ⟨(y1, y2), gy⟩ = r at *
  clear gx gy
  go_enter Tryz.func61, Tryz.ntmps61
  go_wp2_with fail
  go_region_held3 (fun w' => w'.cell? ⟨w.heap.size, 0, none⟩ = some (.int .i64 x1) ∧ w'.cell? ⟨w.heap.size + 1, 0, none⟩ = some (.int .i64 y1) ∧ w'.cell? ⟨X, 0, none⟩ = some (.pointer (some ⟨B, 0, none⟩)) ∧ w'.cell? ⟨B, 2, none⟩ = some (.int .i64 b) ∧ LaidB w.heap.size w w')
    (first | exact HS0.out | exact HST.out _ _ (by assumption) hbA | assumption)
    ((go_at_call 62; with_reducible refine (HXY.out _).mono ?_; rintro e wA ⟨rfl, hbA⟩))
  all_goals
    rename_i hHeld
    clear HS0
    have HS1 := Lib.hid hHeld
    clear hHeld
    cases p with
    | true =>
      go_wp2_with fail
      go_ret
      exact ⟨by rw [HCF.out]; rfl, HS1.out.2.2.2.2⟩
    | false =>
      go_wp2_with fail
      go_region_held3 (fun w' => w'.cell? ⟨w.heap.size, 0, none⟩ = some (.int .i64 x1) ∧ w'.cell? ⟨w.heap.size + 1, 0, none⟩ = some (.int .i64 y1) ∧ w'.cell? ⟨X, 0, none⟩ = some (.pointer (some ⟨B, 0, none⟩)) ∧ w'.cell? ⟨B, 2, none⟩ = some (.int .i64 b) ∧ LaidB w.heap.size w w')
        (first | exact ⟨HS1.out.1, HS1.out.2.1, HS1.out.2.2.1, HS1.out.2.2.2.1, HS1.out.2.2.2.2.drew⟩ | exact HST.out _ _ (by assumption) hbB | assumption)
        ((go_at_call 62; with_reducible refine (HYX.out _).mono ?_; rintro e wB ⟨rfl, hbB⟩))
      all_goals
        rename_i hHeld
        have HS2 := Lib.hid hHeld
        clear hHeld HS1
        cases q with
        | true =>
          go_wp2_with fail
          go_ret
          exact ⟨by rw [HCF.out]; rfl, HS2.out.2.2.2.2⟩
        | false =>
          go_wp2_with fail
          go_ret
          exact ⟨by rw [HCF.out]; rfl, HS2.out.2.2.2.2⟩

theorem flatN_at {b : Nat} (d : Array (NodeV b)) (j : Nat) (hj : j < d.size) : (flatK (fun x : NodeV b => cellsP x.1) 2 d)[j * 2]! = .int .i64 d[j]!.1.1 ∧ (flatK (fun x : NodeV b => cellsP x.1) 2 d)[j * 2 + 1]! = .int .u64 d[j]!.1.2 := by
  rw [get_flatK _ _ _ _ (by omega), get_flatK _ _ _ _ (by omega), show j * 2 / 2 = j by omega, show j * 2 % 2 = 0 by omega, show (j * 2 + 1) / 2 = j by omega, show (j * 2 + 1) % 2 = 1 by omega]
  exact ⟨rfl, rfl⟩
theorem cellsN_flat {b : Nat} (L : List (NodeV b)) (j : Nat) (hj : j < L.length * 2) : (cellsQ (L.map Subtype.val))[j]? = some (flatK (fun x : NodeV b => cellsP x.1) 2 L.toArray)[j]! := by
  have hq : (L.map Subtype.val)[j / 2]? = some (L[j / 2]'(by omega)).1 := by
    rw [List.getElem?_map, List.getElem?_eq_getElem (by omega)]; rfl
  have hg : L.toArray[j / 2]! = L[j / 2]'(by omega) := by rw [getElem!_pos L.toArray (j / 2) (by simp; omega)]; simp
  obtain ⟨q0, q1⟩ := cellsQ_at (L.map Subtype.val) (j / 2) _ hq
  obtain ⟨f0, f1⟩ := flatN_at L.toArray (j / 2) (by simp; omega)
  rw [hg] at f0 f1
  rcases Nat.mod_two_eq_zero_or_one j with h2 | h2
  · have e1 : j / 2 * 2 = j := by omega
    rw [e1] at q0 f0; rw [q0, f0]
  · have e1 : j / 2 * 2 + 1 = j := by omega
    rw [e1] at q1 f1; rw [q1, f1]

/-- A row of the call's own, sorted in the order of telling. -/
theorem sort_nodes {b : Nat} (b1 : 1 ≤ b) (b2 : b ≤ 24) (w1 : World) (base X B : Nat) (v : Value) (L : List PairV) (h : OwnP w1 base v L) (ok : ∀ p, p ∈ L → okP p) (hn : ∀ p, p ∈ L → goodT b p.1 = true) (hX : w1.cell? ⟨X, 0, none⟩ = some (.pointer (some ⟨B, 0, none⟩))) (hc : w1.cell? ⟨B, 2, none⟩ = some (.int .i64 b)) (hXb : X < base) (hBb : B < base) (hbs : base ≤ w1.heap.size) (hl : L.length ≤ 100000) :
    Calls Tryz.prog 60 #[v, .func (.func 61) #[] #[.pointer (some ⟨X, 0, none⟩)]] w1 fun e w' => e = .returned (.tuple #[]) ∧ ∃ A cap D, v = .slice A (List.length D) cap ∧ Pairs w' A D ∧ D.Perm L ∧ D.Pairwise (fun p q => beforeT b q.1.toNat p.1.toNat = false) ∧ Below base w1 w' := by
  obtain ⟨A, cap, rfl, hP⟩ := h.pairs ok
  by_cases hL : L = []
  · subst hL
    have hC := AnyF.slices_SortFunc_none Tryz.sortP A cap (.func (.func 61) #[] #[.pointer (some ⟨X, 0, none⟩)]) w1
    change Calls Tryz.prog 60 _ _ _ at hC
    refine hC.mono ?_
    rintro e w' ⟨rfl, rfl⟩
    exact ⟨rfl, A, cap, [], rfl, hP, List.Perm.refl _, List.Pairwise.nil, ⟨rfl, rfl, rfl, Nat.le_refl _, fun _ _ => rfl⟩⟩
  · have h' : w1.ownsRow base 61 2 (.slice A L.length cap) L.length (cellsQ L) := h
    obtain ⟨g, rfl⟩ : ∃ g, A = some ⟨g, 0, none⟩ := by
      rcases h'.2 with ⟨e, e0⟩ | ⟨g, cap', cur, e, _⟩
      · exact absurd (List.eq_nil_of_length_eq_zero e0) hL
      · injection e with e1 _ _; exact ⟨g, e1⟩
    obtain ⟨hg1, hg2⟩ := h.lt g rfl
    obtain ⟨N, hN⟩ : ∃ N : List (NodeV b), N.map Subtype.val = L := ⟨L.attachWith _ hn, by first | exact List.attachWith_map_subtype_val _ _ | exact List.attachWith_map_val _ _ | (simp; exact List.attach_map_subtype_val L) | (simp; exact List.attach_map_val L)⟩
    have hNl : N.length = L.length := by rw [← hN, List.length_map]
    have hsz : N.toArray.size = L.length := by simp [hNl]
    have hH : HoldsK (fun x : NodeV b => cellsP x.1) 2 w1 g 0 N.toArray := by
      intro j hj
      rw [size_flatK, hsz] at hj
      rw [Nat.zero_add]
      refine ⟨?_, h'.frozenAt j⟩
      rw [h'.cellAt j hj, ← hN, cellsN_flat N j (by rw [hNl]; exact hj)]; rfl
    have hcmp : CmpLays Tryz.prog 61 #[.pointer (some ⟨X, 0, none⟩)] (fun x : NodeV b => cellsP x.1) 2 cfN g 0 N.toArray.size w1 := fun m os dk hdk x y => by
      have hold : ∀ (a : Addr), a.block < base → a.block ≠ g → (sortWorldK (fun x : NodeV b => cellsP x.1) 2 w1 g 0 m dk os).cell? a = w1.cell? a := fun a ha hne => by
        show (grow (putRowK (fun x : NodeV b => cellsP x.1) 2 (Sort.ahead w1 m) g 0 dk) os).cell? a = _
        rw [cell?_grow _ _ _ (by show a.block < (putRow id (Sort.ahead w1 m) g 0 _).heap.size; rw [size_putRow]; show a.block < w1.heap.size; omega)]
        exact cell?_putRow_other id (Sort.ahead w1 m) g 0 _ a (Or.inl hne)
      refine (at_cmp b1 b2 x y (w := sortWorldK (fun x : NodeV b => cellsP x.1) 2 w1 g 0 m dk os) (X := X) (B := B) ((hold ⟨X, 0, none⟩ hXb (by show X ≠ g; omega)).trans hX) ((hold ⟨B, 2, none⟩ hBb (by show B ≠ g; omega)).trans hc)).mono ?_
      rintro e w' ⟨rfl, hl⟩
      exact ⟨rfl, hl.grow⟩
    have hC := AnyQ.slices_SortFunc Tryz.sortP 2 Tryz.isAgg61 Tryz.sizeOf61 (fun x : NodeV b => cellsP x.1) (fun _ => rfl) (fun x v hv => by simp [cellsP] at hv; rcases hv with rfl | rfl <;> rfl) cfN (swo_cfN b) 61 #[.pointer (some ⟨X, 0, none⟩)] g 0 cap N.toArray w1
      (enters_of Tryz.func61 (by kernel_rfl) rfl) hcmp hH hg2 (by rw [hsz]; omega)
    change Calls Tryz.prog 60 _ _ _ at hC
    rw [hsz] at hC
    refine hC.mono ?_
    rintro e w' ⟨rfl, d', n, os, hp, hs, rfl⟩
    have hd : d'.size = L.length := by rw [hp.1, hsz]
    have hperm : d'.toList.Perm N := by
      have h3 := hp.2.2
      rw [Array.extract_eq_self_of_le (by omega), Array.extract_eq_self_of_le (by rw [hsz]; exact Nat.le_refl _)] at h3
      exact h3
    have hperm2 : (d'.toList.map Subtype.val).Perm L := by rw [← hN]; exact hperm.map _
    have hpw : (d'.toList.map Subtype.val).Pairwise (fun p q => beforeT b q.1.toNat p.1.toNat = false) := by
      rw [List.pairwise_map, List.pairwise_iff_getElem]
      intro i j hi hj hij
      rw [Array.length_toList] at hi hj
      have h4 := hs i j (Nat.zero_le _) hij (by omega)
      rw [lt_cfN, getElem!_pos d' j hj, getElem!_pos d' i hi] at h4
      simpa [befN] using h4
    have hlen : (d'.toList.map Subtype.val).length = L.length := by simpa using hd
    have hbw : Below base w1 (putRowK (fun x : NodeV b => cellsP x.1) 2 (Sort.ahead w1 n) g 0 d') := Lib.below_putRow (⟨rfl, rfl, rfl, Nat.le_refl _, fun _ _ => rfl⟩ : Below base w1 w1) hg1
    have hbg : Below base w1 (sortWorldK (fun x : NodeV b => cellsP x.1) 2 w1 g 0 n d' os) := ⟨hbw.os, hbw.tape, hbw.output, by show _ ≤ (grow _ os).heap.size; rw [size_grow]; have := hbw.size; omega, fun k hk => by
      have h5 := hbw.block k hk
      rw [← h5]
      exact heap_grow_old _ _ (by show k < (putRow id (Sort.ahead w1 n) g 0 _).heap.size; rw [size_putRow]; show k < w1.heap.size; omega)⟩
    refine ⟨rfl, some ⟨g, 0, none⟩, cap, d'.toList.map Subtype.val, by rw [hlen], ⟨fun p hp => ok p (hperm2.mem_iff.1 hp), fun j p hj => ?_⟩, hperm2, hpw, hbg⟩
    have hjl : j < d'.size := by
      rcases Nat.lt_or_ge j d'.size with h1 | h1
      · exact h1
      · rw [List.getElem?_eq_none (by simpa using h1)] at hj; cases hj
    have hjp : d'[j]!.1 = p := by
      rw [getElem!_pos d' j hjl]
      rw [List.getElem?_map, List.getElem?_eq_getElem (by simpa using hjl)] at hj
      simpa using hj
    have hcell : ∀ t, t < d'.size * 2 → (sortWorldK (fun x : NodeV b => cellsP x.1) 2 w1 g 0 n d' os).cell? ⟨g, t, none⟩ = some (flatK (fun x : NodeV b => cellsP x.1) 2 d')[t]! := fun t ht => by
      have h6 := cell?_putRow id (Sort.ahead w1 n) g 0 (flatK (fun x : NodeV b => cellsP x.1) 2 N.toArray) (flatK (fun x : NodeV b => cellsP x.1) 2 d') hH (by rw [size_flatK, size_flatK, hd, hsz]) t (by rw [size_flatK]; exact ht)
      rw [Nat.zero_add] at h6
      exact (cell?_grow _ os _ (by show g < (putRow id (Sort.ahead w1 n) g 0 _).heap.size; rw [size_putRow]; exact hg2)).trans h6
    obtain ⟨f0, f1⟩ := flatN_at d' j hjl
    rw [hjp] at f0 f1
    refine ⟨g, 0, rfl, by show g < (grow _ os).heap.size; rw [size_grow]; show g < (putRow id (Sort.ahead w1 n) g 0 _).heap.size + os.size; rw [size_putRow]; show g < w1.heap.size + os.size; omega, ?_, ?_⟩
    · rw [Nat.zero_add, hcell _ (by omega), f0]
    · rw [Nat.zero_add, hcell _ (by omega), f1]
end Go.Proofs.YthjcdbnjmpjikaaGreat

/-
  Walks: package digest: at, Quantile, Rank; nil ones.
-/
namespace Go.Proofs.YthjcdbnjmpjikaaGreat
set_option linter.unusedVariables false
set_option linter.unusedSimpArgs false
open Go.RowKit

theorem sumD_perm {A B : List PairV} (h : A.Perm B) : sumP A = sumP B := by
  induction h with
  | nil => rfl
  | cons p _ ih => rw [sumP_cons, sumP_cons, ih]
  | swap p q r => rw [sumP_cons, sumP_cons, sumP_cons, sumP_cons]; omega
  | trans _ _ h1 h2 => exact h1.trans h2
theorem goodD_ne {R : List PairV} (hg : GoodP R) : R.Pairwise fun p q => p.1 ≠ q.1 := hg.2.imp fun {a b} h => by omega
/-- In the order of telling those ahead of a node are just those that were told. -/
theorem ahead_told {b : Nat} {R D : List PairV} (hg : GoodP R) (hn : ∀ p, p ∈ R → nodeD b p.1) (hp : D.Perm R) (hs : D.Pairwise fun p q => beforeT b q.1.toNat p.1.toNat = false) {i : Nat} {p : PairV} (hi : D[i]? = some p) : aheadD b R p.1 = sumP (D.take i) := by
  have hne : D.Pairwise fun p q => p.1 ≠ q.1 := (hp.pairwise_iff (fun {a b} (h : a.1 ≠ b.1) => h.symm)).2 (goodD_ne hg)
  have hil : i < D.length := (List.getElem?_eq_some_iff.1 hi).1
  have hsplit : D = D.take i ++ p :: D.drop (i + 1) := by
    have h1 := (List.take_append_drop i D).symm
    rw [List.drop_eq_getElem_cons hil] at h1
    rw [List.getElem?_eq_getElem hil] at hi
    rw [Option.some.inj hi] at h1
    exact h1
  have e1 : aheadD b R p.1 = sumP (D.filter fun q => befD b q.1 p.1) := by
    unfold aheadD whereP
    exact (sumD_perm (hp.filter _)).symm
  rw [e1]
  congr 1
  rw [hsplit] at hs hne
  obtain ⟨_, s2, s3⟩ := List.pairwise_append.1 hs
  obtain ⟨_, n2, n3⟩ := List.pairwise_append.1 hne
  have hpR : p ∈ R := hp.mem_iff.1 (List.mem_of_getElem? hi)
  conv => lhs; rw [hsplit]
  rw [List.filter_append, List.filter_cons_of_neg (by simp [bef_self])]
  rw [List.filter_eq_self.2 fun q hq => ?_, List.filter_eq_nil_iff.2 fun q hq => ?_, List.append_nil]
  · have h1 := (List.pairwise_cons.1 s2).1 q hq
    show ¬ befD b q.1 p.1 = true
    unfold befD; rw [h1]; simp
  · have hqR : q ∈ R := hp.mem_iff.1 (List.mem_of_mem_take hq)
    have h1 := s3 q hq p List.mem_cons_self
    have h2 := n3 q hq p List.mem_cons_self
    rcases bef_or (hn q hqR) (hn p hpR) h2 with ⟨h3, _⟩ | ⟨h3, _⟩
    · exact h3
    · unfold befD at h3; rw [h1] at h3; cases h3
/-- So the one that is found is the one that is asked for. -/
theorem find_told {b : Nat} {R : List PairV} (hg : GoodP R) (hn : ∀ p, p ∈ R → nodeD b p.1) {t : Int} {p : PairV} (hp : p ∈ R) (ha : asksD b R t p = true) : findD b R t = hiD b p.1 := by
  have dec : ∀ q : PairV, asksD b R t q = true → aheadD b R q.1 < t ∧ t ≤ aheadD b R q.1 + q.2 := fun q h => by
    unfold asksD at h; simpa using h
  unfold findD
  cases hf : R.find? (asksD b R t) with
  | none =>
    have := List.find?_eq_none.1 hf p hp
    rw [ha] at this; exact absurd rfl this
  | some q =>
    have h1 := dec q (List.find?_some hf)
    have h2 := dec p ha
    have := ahead_one hg hn hp (List.mem_of_find?_eq_some hf) h2.1 h2.2 h1.1 h1.2
    subst this
    rfl

/-- What at answers: the node that is asked for. -/
def AtTo (w : World) (b : Nat) (R : List PairV) (t : Int) (e : Ending) (w' : World) : Prop := ∃ p : PairV, p ∈ R ∧ asksD b R t p = true ∧ e = .returned (.int .i64 p.1) ∧ Below w.heap.size w w'

set_option maxRecDepth 100000 in
set_option maxHeartbeats 4000000 in
theorem dg_at {St : StT} (D : StripDoes St) {w : World} {B C : Nat} {S1 : Nat → Prop} {b k : Nat} {R : List PairV} {lo hi : Int} (x : DgRaw St w B C S1 b k R lo hi) (b1 : 1 ≤ b) (b2 : b ≤ 24) (hR : RowG b R) (hl : R.length ≤ 900) (t : Int) (t1 : 1 ≤ t) (t2 : t ≤ sumP R) :
    Calls Tryz.prog 36 #[.pointer (some ⟨B, 0, none⟩), .int .u64 t] w (AtTo w b R t) := by
  have hBl := dg_ltb x.blk
  have hbx : Below w.heap.size w (w.alloc (.cells #[.pointer (some ⟨B, 0, none⟩)] 29)) := (Below.refl _ _).alloc (Nat.le_refl _) _
  have HNO := Lib.hid (dg_nodes D (x.call D hbx) hl)
  have hzx : (w.alloc (.cells #[.pointer (some ⟨B, 0, none⟩)] 29)).heap.size = w.heap.size + 1 := by simp
  have hX : (w.alloc (.cells #[.pointer (some ⟨B, 0, none⟩)] 29)).cell? ⟨w.heap.size, 0, none⟩ = some (.pointer (some ⟨B, 0, none⟩)) := by
    rw [Joins.cell_of_block (dg_newcells w _)]; rfl
  have hc := (x.cells.call hbx).c2
  have HBX := Lib.hid hbx
  have HC := Lib.hid hc
  have HXX := Lib.hid hX
  have HOK := Lib.hid (hR.ok b2)
  have HND := Lib.hid (fun p (hp : p ∈ R) => node_good (hR.node p hp))
  have HSO := Lib.hid (fun (W : World) (v : Value) (ho : OwnP W (w.heap.size + 1) v R) (hX : W.cell? ⟨w.heap.size, 0, none⟩ = some (.pointer (some ⟨B, 0, none⟩))) (hc : W.cell? ⟨B, 2, none⟩ = some (.int .i64 b)) (hz : w.heap.size + 1 ≤ W.heap.size) => sort_nodes b1 b2 W (w.heap.size + 1) w.heap.size B v R ho (hR.ok b2) (fun p hp => node_good (hR.node p hp)) hX hc (by omega) (by omega) hz (by omega))
  have HG := Lib.hid hR
  have hsm := hR.sum
  rw [hzx] at HNO
  obtain ⟨n, hn⟩ : ∃ n : Nat, R.length = n := ⟨_, rfl⟩
  have HN := Lib.hid hn
  have HT2 := Lib.hid t2
  have hn9 : n ≤ 900 := by omega
  clear x hbx D hX hc hR hn hl t2
  go_enter Tryz.func36, Tryz.ntmps36
  go_wp2_with fail
  refine HNO.out.mono ?_
  rintro e w2 ⟨v, rfl, ho, h2⟩
  have h2' : Below (w.alloc (.cells #[.pointer (some ⟨B, 0, none⟩)] 29)).heap.size (w.alloc (.cells #[.pointer (some ⟨B, 0, none⟩)] 29)) w2 := by rw [hzx]; exact h2
  have hz2 := h2.size
  rw [hzx] at hz2
  have HB2 := Lib.hid (HBX.out.trans (h2'.mono HBX.out.size))
  have HS2 := Lib.hid (HSO.out w2 v ho (cell_later h2' HXX.out) (cell_later h2' HC.out) hz2)
  clear h2 h2' ho HNO HSO
  go_wp2_with fail
  refine HS2.out.mono ?_
  rintro e w3 ⟨rfl, A, cap, E, rfl, hP, hpm, hpw, h3⟩
  have HB3 := Lib.hid (HB2.out.trans (h3.mono (Nat.le_succ _)))
  have hel : E.length = n := by rw [hpm.length_eq, HN.out]
  have HEL := Lib.hid hel
  have HP3 := Lib.hid hP
  have HPM := Lib.hid hpm
  have HAH := Lib.hid (fun (i : Nat) (p : PairV) (hi : E[i]? = some p) => ahead_told HG.out.good HG.out.node hpm hpw hi)
  have hsE : sumP E = sumP R := sumD_perm hpm
  have HSE := Lib.hid hsE
  have HTK := Lib.hid (fun i => sumP_take (L := E) i (fun p hp => HG.out.pos p (hpm.mem_iff.1 hp)))
  rw [hel]
  clear hP hpm hpw h3 hel hsE HS2
  go_wp2_with fail
  go_loopw [15, 1] (fun iv tv wr => ∃ i : Nat, i ≤ n ∧ iv = .int .i64 i ∧ tv = .int .u64 (t - sumP (E.take i)) ∧ sumP (E.take i) < t ∧ Below w3.heap.size w3 wr) (fun iv _ _ => n - (intOf iv).toNat)
  case atStart => exact ⟨0, Nat.zero_le _, rfl, by rw [List.take_zero, sumP_nil, Int.sub_zero], by rw [List.take_zero, sumP_nil]; omega, Below.refl _ _⟩
  case round =>
    obtain ⟨i, hi, rfl, rfl, hlt', hbi⟩ := hrel
    have HBI := Lib.hid hbi
    have hzi := hbi.size
    obtain ⟨s0, s1⟩ := HTK.out i
    have hHSE := HSE.out
    have hT2 := HT2.out
    clear hbi
    by_cases hlt : i < n
    · have kl : (i : Int) < n := by omega
      have hx : E[i]? = some (E[i]'(by rw [HEL.out]; exact hlt)) := List.getElem?_eq_getElem _
      generalize hit : E[i]'(by rw [HEL.out]; exact hlt) = p at *
      obtain ⟨px, pc⟩ := p
      obtain ⟨bb, off, rfl, hbl, e0, e1⟩ := (HP3.out.call HBI.out).at_ i _ hx
      have hmem : (px, pc) ∈ R := HPM.out.mem_iff.1 (List.mem_of_getElem? hx)
      have hok := HOK.out _ hmem
      have HMEM := Lib.hid hmem
      have HAS := Lib.hid (HAH.out i _ hx)
      have HST := Lib.hid (sumD_step hx)
      have hnx := HTK.out (i + 1)
      rw [HST.out] at hnx
      obtain ⟨⟨o1, o2⟩, o3, o4⟩ := hok
      simp only at e0 e1 o1 o2 o3 o4 HAS HST hnx
      obtain ⟨s, hs⟩ : ∃ s, sumP (E.take i) = s := ⟨_, rfl⟩
      rw [hs] at HAS HST hlt' s0 s1 hnx
      rw [hs]
      have HBN : Hid (Below w3.heap.size w3 (wr.alloc (.cells #[.int .i64 px, .int .u64 pc] 61))) := Lib.hid (HBI.out.alloc (by omega) _)
      have y0 : (wr.alloc (.cells #[.int .i64 px, .int .u64 pc] 61)).cell? ⟨wr.heap.size, 0, none⟩ = some (.int .i64 px) := (dg_two wr _ _ _).1
      have y1 : (wr.alloc (.cells #[.int .i64 px, .int .u64 pc] 61)).cell? ⟨wr.heap.size, 1, none⟩ = some (.int .u64 pc) := (dg_two wr _ _ _).2
      clear hx hit hmem hs
      by_cases hle : t - s ≤ pc
      · have HA : Hid (asksD b R t (px, pc) = true) := Lib.hid (by
          unfold asksD
          simp only
          rw [HAS.out, decide_eq_true (by omega), decide_eq_true (by omega)]; rfl)
        go_wp2_with fail
        go_ret
        exact ⟨(px, pc), HMEM.out, HA.out, rfl, HB3.out.trans (HBN.out.mono HB3.out.size)⟩
      · have u0 : 0 ≤ t - s - pc := by omega
        have HU : Hid (t - s - pc = t - sumP (E.take (i + 1))) := Lib.hid (by rw [HST.out]; omega)
        have u2 : IntKind.u64.wrap (t - s - pc) = t - s - pc := by rw [IntKind.wrap_u64]; omega
        go_wp2_with fail
        go_roundw
        case rel => exact ⟨i + 1, by omega, by go_num, by rw [← HU.out], by have := HU.out; omega, HBN.out⟩
        case measure => simp [intOf]; omega
    · exfalso
      obtain rfl : i = n := by omega
      rw [List.take_of_length_le (by rw [HEL.out]; exact Nat.le_refl i)] at hlt'
      omega

theorem rhi_node {b : Nat} {v : Int} (h : nodeD b v) : rhiI b v = hiD b v ∧ rloI b v = loD b v := by
  unfold rhiI rloI
  rw [if_pos (node_good h), if_pos (node_good h)]
  exact ⟨rfl, rfl⟩
theorem ret_twoD {a c x y : Int} (h : a = x) (h' : c = y) : Ending.returned (.tuple #[.int .i64 a, .int .i64 c]) = .returned (.tuple #[.int .i64 x, .int .i64 y]) := by rw [h, h']

set_option maxRecDepth 100000 in
set_option maxHeartbeats 2000000 in
theorem dg_quan {St : StT} (D : StripDoes St) (N : TreeDoes) {w : World} {B C : Nat} {S1 : Nat → Prop} {b k : Nat} {R : List PairV} {lo hi : Int} (x : DgRaw St w B C S1 b k R lo hi) (b1 : 1 ≤ b) (b2 : b ≤ 24) (hR : RowG b R) (hl : R.length ≤ 900) (pa pb r c : Int) (wa : Word pa) (wb : Word pb) (he : quanG b R pa pb = (r, c)) :
    Calls Tryz.prog 11 #[.pointer (some ⟨B, 0, none⟩), .agg #[.int .u64 pa, .int .u64 pb]] w fun e w' => e = .returned (.tuple #[.int .i64 r, .int .i64 c]) ∧ Below w.heap.size w w' := by
  have hs0 := (rowg_sum0 hR).1
  have hs1 := hR.sum
  obtain ⟨n, hn⟩ : ∃ n, sumP R = n := ⟨_, rfl⟩
  rw [hn] at hs0 hs1
  have wn : Word n := ⟨hs0, by omega⟩
  have HTO := Lib.hid (fun W (hb : Below w.heap.size w W) => dg_total D (x.call D hb) hl n hn)
  have HPL := Lib.hid (fun W => place_any pa pb n wa wb wn W)
  have HAT := Lib.hid (fun W (hb : Below w.heap.size w W) t (t1 : 1 ≤ t) (t2 : t ≤ n) => dg_at D (x.call D hb) b1 b2 hR hl t t1 (by rw [hn]; exact t2))
  have HRG := Lib.hid (fun W v (hv : nodeD b v) => N.range W b v b1 b2 (by have := node_bd b2 hv; unfold I64; omega))
  have HRR := Lib.hid hR
  unfold quanG at he
  rw [hn] at he
  have HSP : Hid (plE pa pb n = 0 → 1 ≤ plV pa pb n ∧ plV pa pb n ≤ n) := Lib.hid fun h0 => by
    have h1 := h0
    unfold plE at h1
    cases hg : gdB pa pb with
    | false => rw [hg] at h1; simp at h1
    | true =>
      rw [hg, if_pos rfl] at h1
      by_cases h2 : n = 0
      · rw [if_pos h2] at h1; omega
      · obtain ⟨a1, a2, _⟩ := pl_spec wa wb wn hg h2
        exact ⟨a1, a2⟩
  generalize plV pa pb n = t at *
  generalize plE pa pb n = c' at *
  have HHE := Lib.hid he
  have HC := Lib.hid x.cells
  have HS0 : Hid ((w.alloc (.cells #[.int .u64 pa, .int .u64 pb] 27)).drew.cell? ⟨w.heap.size, 0, none⟩ = some (.int .u64 pa) ∧ (w.alloc (.cells #[.int .u64 pa, .int .u64 pb] 27)).drew.cell? ⟨w.heap.size, 1, none⟩ = some (.int .u64 pb) ∧ Below w.heap.size w (w.alloc (.cells #[.int .u64 pa, .int .u64 pb] 27)).drew) := Lib.hid ⟨by go_simp, by go_simp, ((Below.refl _ _).alloc (Nat.le_refl _) _).drew⟩
  have HST := Lib.hid (fun (W W' : World) (h : W.cell? ⟨w.heap.size, 0, none⟩ = some (.int .u64 pa) ∧ W.cell? ⟨w.heap.size, 1, none⟩ = some (.int .u64 pb) ∧ Below w.heap.size w W) (hb : Below W.heap.size W W') => (⟨cell_later hb h.1, cell_later hb h.2.1, h.2.2.trans (hb.mono h.2.2.size)⟩ : W'.cell? ⟨w.heap.size, 0, none⟩ = some (.int .u64 pa) ∧ W'.cell? ⟨w.heap.size, 1, none⟩ = some (.int .u64 pb) ∧ Below w.heap.size w W'))
  clear he x hR hl wn hn D N
  by_cases z : c' = 0
  · subst z
    have he := HHE.out
    rw [if_pos rfl] at he
    obtain ⟨t1, t2⟩ := HSP.out rfl
    have HA := Lib.hid (fun W hb => HAT.out W hb t t1 t2)
    obtain ⟨h2, rfl⟩ : findD b R t = r ∧ 0 = c := by simpa using he
    have HE2 := Lib.hid h2
    have HS1 := Lib.hid (fun (W W' : World) (h : W.cell? ⟨B, 2, none⟩ = some (.int .i64 b) ∧ Below w.heap.size w W) (hb : Below W.heap.size W W') => (⟨cell_later hb h.1, h.2.trans (hb.mono h.2.size)⟩ : W'.cell? ⟨B, 2, none⟩ = some (.int .i64 b) ∧ Below w.heap.size w W'))
    have HS2 := Lib.hid (fun (W : World) (hb : Below w.heap.size w W) => (⟨(HC.out.call hb.drew).c2, hb.drew⟩ : W.drew.cell? ⟨B, 2, none⟩ = some (.int .i64 b) ∧ Below w.heap.size w W.drew))
    clear he HHE h2 HAT HSP
    go_enter Tryz.func11, Tryz.ntmps11
    go_wp2_with fail
    go_region_held3 (fun w' => w'.cell? ⟨w.heap.size, 0, none⟩ = some (.int .u64 pa) ∧ w'.cell? ⟨w.heap.size, 1, none⟩ = some (.int .u64 pb) ∧ Below w.heap.size w w')
      (first | exact HS0.out | exact HST.out _ _ (by assumption) hbA | assumption)
      ((first
        | (go_at_call 19; with_reducible refine (HTO.out _ (And.right (And.right (by assumption)))).mono ?_; rintro e wA ⟨rfl, hbA⟩)
        | (go_at_call 34; with_reducible refine (HPL.out _).mono ?_; rintro e wA ⟨rfl, hbA⟩)))
    all_goals
      rename_i hHeld
      obtain ⟨_, _, b3⟩ := hHeld
      have HB3 := Lib.hid b3
      clear b3
      go_wp2_with fail
      go_region_held3 (fun w' => w'.cell? ⟨B, 2, none⟩ = some (.int .i64 b) ∧ Below w.heap.size w w')
        (first | exact HS2.out _ HB3.out | exact HS1.out _ _ (by assumption) hbP | exact HS1.out _ _ (by assumption) hbQ | assumption)
        ((first
          | (go_at_call 36; (with_reducible refine (HA.out _ (And.right (by assumption))).mono ?_); rintro e wP ⟨⟨px, pc⟩, hpm, hpa, rfl, hbP⟩)
          | (go_at_call 35; with_reducible refine (HRG.out _ px (HRR.out.node _ hpm)).mono ?_; rintro e wQ ⟨rfl, hbQ⟩)))
      all_goals
        rename_i hHeld2
        obtain ⟨_, b4⟩ := hHeld2
        have HF : Hid (rhiI b px = r) := Lib.hid (by rw [(rhi_node (HRR.out.node _ hpm)).1, ← HE2.out]; exact (find_told HRR.out.good HRR.out.node hpm hpa).symm)
        clear hpm hpa
        go_wp2_with fail
        go_ret2
        exact ⟨ret_twoD HF.out rfl, b4⟩
  · have he := HHE.out
    rw [if_neg z] at he
    have z1 : (c' == 0) = false := by simp [z]
    obtain ⟨rfl, rfl⟩ : 0 = r ∧ c' = c := by simpa using he
    clear he HHE HAT HSP
    go_enter Tryz.func11, Tryz.ntmps11
    go_wp2_with fail
    go_region_held3 (fun w' => w'.cell? ⟨w.heap.size, 0, none⟩ = some (.int .u64 pa) ∧ w'.cell? ⟨w.heap.size, 1, none⟩ = some (.int .u64 pb) ∧ Below w.heap.size w w')
      (first | exact HS0.out | exact HST.out _ _ (by assumption) hbA | assumption)
      ((first
        | (go_at_call 19; with_reducible refine (HTO.out _ (And.right (And.right (by assumption)))).mono ?_; rintro e wA ⟨rfl, hbA⟩)
        | (go_at_call 34; with_reducible refine (HPL.out _).mono ?_; rintro e wA ⟨rfl, hbA⟩)))
    all_goals
      rename_i hHeld
      obtain ⟨_, _, b3⟩ := hHeld
      have HB3 := Lib.hid b3
      clear b3
      go_wp2_with fail
      go_ret2
      exact ⟨rfl, HB3.out⟩

set_option maxHeartbeats 1000000 in
theorem dg_quan_nil (w : World) (pa pb : Int) : Calls Tryz.prog 11 #[.pointer none, .agg #[.int .u64 pa, .int .u64 pb]] w fun e w' => e = .returned (.tuple #[.int .i64 0, .int .i64 2]) ∧ Below w.heap.size w w' := by
  go_enter Tryz.func11, Tryz.ntmps11
  go_wp2_with fail
  go_ret2
  exact ⟨rfl, (Below.refl _ _).alloc (Nat.le_refl _) _⟩
end Go.Proofs.YthjcdbnjmpjikaaGreat

/-
  Walks: package digest: Rank; a nil one.
-/
namespace Go.Proofs.YthjcdbnjmpjikaaGreat
set_option linter.unusedVariables false
set_option linter.unusedSimpArgs false
open Go.RowKit

set_option maxRecDepth 100000 in
set_option maxHeartbeats 4000000 in
theorem dg_rank {St : StT} (D : StripDoes St) (N : TreeDoes) {w : World} {B C : Nat} {S1 : Nat → Prop} {b k : Nat} {R : List PairV} {lo hi : Int} (x : DgRaw St w B C S1 b k R lo hi) (b1 : 1 ≤ b) (b2 : b ≤ 24) (hR : RowG b R) (hl : R.length ≤ 900) (y n1 n2 : Int) (hy : I64 y)
    (hn1 : whereP (fun v => decide (hiD b v ≤ y)) R = n1) (hn2 : whereP (fun v => decide (loD b v ≤ y)) R = n2) :
    Calls Tryz.prog 13 #[.pointer (some ⟨B, 0, none⟩), .int .i64 y] w fun e w' => e = .returned (.tuple #[.int .u64 n1, .int .u64 n2]) ∧ Below w.heap.size w w' := by
  have HNO := Lib.hid (dg_nodes D x hl)
  have HC := Lib.hid x.cells
  have HOK := Lib.hid (hR.ok b2)
  have HND := Lib.hid hR.node
  have HRG := Lib.hid (fun W v (hv : nodeD b v) => N.range W b v b1 b2 (by have := node_bd b2 hv; unfold I64; omega))
  have HW1 := Lib.hid (fun i => where_part (fun v => decide (hiD b v ≤ y)) hR.pos i)
  have HW2 := Lib.hid (fun i => where_part (fun v => decide (loD b v ≤ y)) hR.pos i)
  have HE1 := Lib.hid hn1
  have HE2 := Lib.hid hn2
  have hsm := hR.sum
  obtain ⟨n, hn⟩ : ∃ n : Nat, R.length = n := ⟨_, rfl⟩
  have HN := Lib.hid hn
  have hn9 : n ≤ 900 := by omega
  obtain ⟨y0, y1⟩ := hy
  clear x hR hl hn1 hn2 hn D N
  go_enter Tryz.func13, Tryz.ntmps13
  go_wp2_with fail
  refine HNO.out.mono ?_
  rintro e w1 ⟨v, rfl, ho, h1⟩
  obtain ⟨A, cap, rfl, hP⟩ := ho.pairs HOK.out
  have HP1 := Lib.hid hP
  have HB1 := Lib.hid h1
  rw [HN.out]
  clear hP ho h1 HNO
  go_wp2_with fail
  go_loopw [15, 6, 7] (fun iv av cv wr => ∃ i : Nat, i ≤ n ∧ iv = .int .i64 i ∧ av = .int .u64 (whereP (fun v => decide (hiD b v ≤ y)) (R.take i)) ∧ cv = .int .u64 (whereP (fun v => decide (loD b v ≤ y)) (R.take i)) ∧ Below w1.heap.size w1 wr) (fun iv _ _ _ => n - (intOf iv).toNat)
  case atStart => exact ⟨0, Nat.zero_le _, rfl, rfl, rfl, Below.refl _ _⟩
  case round =>
    obtain ⟨i, hi, rfl, rfl, rfl, hbi⟩ := hrel
    have HBI := Lib.hid hbi
    have hzi := hbi.size
    have hw1 := HW1.out i
    have hw2 := HW2.out i
    clear hbi
    by_cases hlt : i < n
    · have kl : (i : Int) < n := by omega
      have hx : R[i]? = some (R[i]'(by rw [HN.out]; exact hlt)) := List.getElem?_eq_getElem _
      generalize hit : R[i]'(by rw [HN.out]; exact hlt) = p at *
      obtain ⟨px, pc⟩ := p
      obtain ⟨bb, off, rfl, hbl, e0, e1⟩ := (HP1.out.call HBI.out).at_ i _ hx
      have hmem := List.mem_of_getElem? hx
      have hok := HOK.out _ hmem
      have hnd := HND.out _ hmem
      have HR0 := Lib.hid (fun W => HRG.out W px hnd)
      have hrh := rhi_node hnd
      have HS1 := Lib.hid (where_snoc (fun v => decide (hiD b v ≤ y)) hx)
      have HS2 := Lib.hid (where_snoc (fun v => decide (loD b v ≤ y)) hx)
      have hq1 := HW1.out (i + 1)
      have hq2 := HW2.out (i + 1)
      rw [HS1.out] at hq1
      rw [HS2.out] at hq2
      obtain ⟨⟨o1, o2⟩, o3, o4⟩ := hok
      simp only at e0 e1 o1 o2 o3 o4 hnd hrh HR0 HS1 HS2 hq1 hq2
      rw [hrh.1, hrh.2] at HR0
      obtain ⟨s1, hs1⟩ : ∃ s, whereP (fun v => decide (hiD b v ≤ y)) (R.take i) = s := ⟨_, rfl⟩
      obtain ⟨s2, hs2⟩ : ∃ s, whereP (fun v => decide (loD b v ≤ y)) (R.take i) = s := ⟨_, rfl⟩
      rw [hs1] at HS1 hq1 hw1
      rw [hs2] at HS2 hq2 hw2
      rw [hs1, hs2]
      obtain ⟨hh, hhe⟩ : ∃ s, hiD b px = s := ⟨_, rfl⟩
      obtain ⟨ll, hle⟩ : ∃ s, loD b px = s := ⟨_, rfl⟩
      rw [hhe] at HR0 HS1 hq1
      rw [hle] at HR0 HS2 hq2
      have HBN : Hid (Below w1.heap.size w1 (wr.alloc (.cells #[.int .i64 px, .int .u64 pc] 61))) := Lib.hid (HBI.out.alloc (by omega) _)
      have HS0 : Hid ((wr.alloc (.cells #[.int .i64 px, .int .u64 pc] 61)).drew.cell? ⟨B, 2, none⟩ = some (.int .i64 b) ∧ (wr.alloc (.cells #[.int .i64 px, .int .u64 pc] 61)).drew.cell? ⟨wr.heap.size, 0, none⟩ = some (.int .i64 px) ∧ (wr.alloc (.cells #[.int .i64 px, .int .u64 pc] 61)).drew.cell? ⟨wr.heap.size, 1, none⟩ = some (.int .u64 pc) ∧ Below w1.heap.size w1 (wr.alloc (.cells #[.int .i64 px, .int .u64 pc] 61)).drew) := Lib.hid ⟨((HC.out.call HB1.out).call HBN.out).c2, (dg_two wr _ _ _).1, (dg_two wr _ _ _).2, HBN.out.drew⟩
      have HST := Lib.hid (fun (W W' : World) (h : W.cell? ⟨B, 2, none⟩ = some (.int .i64 b) ∧ W.cell? ⟨wr.heap.size, 0, none⟩ = some (.int .i64 px) ∧ W.cell? ⟨wr.heap.size, 1, none⟩ = some (.int .u64 pc) ∧ Below w1.heap.size w1 W) (hb : Below W.heap.size W W') => (⟨cell_later hb h.1, cell_later hb h.2.1, cell_later hb h.2.2.1, h.2.2.2.trans (hb.mono h.2.2.2.size)⟩ : W'.cell? ⟨B, 2, none⟩ = some (.int .i64 b) ∧ W'.cell? ⟨wr.heap.size, 0, none⟩ = some (.int .i64 px) ∧ W'.cell? ⟨wr.heap.size, 1, none⟩ = some (.int .u64 pc) ∧ Below w1.heap.size w1 W'))
      have u1 : IntKind.u64.wrap (s1 + pc) = s1 + pc ∨ ¬ hh ≤ y := by
        by_cases c : hh ≤ y
        · rw [decide_eq_true c, if_pos rfl] at hq1
          exact Or.inl (by rw [IntKind.wrap_u64]; omega)
        · exact Or.inr c
      clear hx hit hmem hnd hrh hs1 hs2 hhe hle u1
      go_wp2_with fail
      go_region_held3 (fun w' => w'.cell? ⟨B, 2, none⟩ = some (.int .i64 b) ∧ w'.cell? ⟨wr.heap.size, 0, none⟩ = some (.int .i64 px) ∧ w'.cell? ⟨wr.heap.size, 1, none⟩ = some (.int .u64 pc) ∧ Below w1.heap.size w1 w')
        (first | exact HS0.out | exact HST.out _ _ (by assumption) hbA | assumption)
        ((go_at_call 35; with_reducible refine (HR0.out _).mono ?_; rintro e wA ⟨rfl, hbA⟩))
      all_goals
        rename_i hHeld
        obtain ⟨_, _, f1, h2⟩ := hHeld
        have HB2 := Lib.hid h2
        clear h2 HS0 HST
        by_cases ch : hh ≤ y
        · rw [decide_eq_true ch, if_pos rfl] at HS1 hq1
          by_cases cl : ll ≤ y
          · rw [decide_eq_true cl, if_pos rfl] at HS2 hq2
            go_wp2_with fail
            go_roundw
            case rel => exact ⟨i + 1, by omega, by go_num, by rw [HS1.out], by rw [HS2.out], HB2.out⟩
            case measure => simp [intOf]; omega
          · rw [decide_eq_false cl, if_neg (by simp), Int.add_zero] at HS2 hq2
            go_wp2_with fail
            go_roundw
            case rel => exact ⟨i + 1, by omega, by go_num, by rw [HS1.out], by rw [HS2.out], HB2.out⟩
            case measure => simp [intOf]; omega
        · rw [decide_eq_false ch, if_neg (by simp), Int.add_zero] at HS1 hq1
          by_cases cl : ll ≤ y
          · rw [decide_eq_true cl, if_pos rfl] at HS2 hq2
            go_wp2_with fail
            go_roundw
            case rel => exact ⟨i + 1, by omega, by go_num, by rw [HS1.out], by rw [HS2.out], HB2.out⟩
            case measure => simp [intOf]; omega
          · rw [decide_eq_false cl, if_neg (by simp), Int.add_zero] at HS2 hq2
            go_wp2_with fail
            go_roundw
            case rel => exact ⟨i + 1, by omega, by go_num, by rw [HS1.out], by rw [HS2.out], HB2.out⟩
            case measure => simp [intOf]; omega
    · obtain rfl : i = n := by omega
      have kl : ¬ (i : Int) < i := by omega
      rw [List.take_of_length_le (by rw [HN.out]; exact Nat.le_refl i), HE1.out, HE2.out]
      have HF := Lib.hid (HB1.out.trans (HBI.out.mono HB1.out.size))
      go_wp2_with fail
      go_ret2
      exact ⟨rfl, HF.out⟩

set_option maxHeartbeats 1000000 in
theorem dg_rank_nil (w : World) (y : Int) : Calls Tryz.prog 13 #[.pointer none, .int .i64 y] w fun e w' => e = .returned (.tuple #[.int .u64 0, .int .u64 0]) ∧ Below w.heap.size w w' := by
  have HNO := Lib.hid (dg_nodes_nil w)
  go_enter Tryz.func13, Tryz.ntmps13
  go_wp2_with fail
  refine HNO.out.mono ?_
  rintro e w1 ⟨rfl, h1⟩
  have HB1 := Lib.hid h1
  clear h1 HNO
  go_wp2_with fail
  go_loopw [15, 6, 7] (fun iv av cv wr => iv = .int .i64 0 ∧ av = .int .u64 0 ∧ cv = .int .u64 0 ∧ Below w.heap.size w wr) (fun _ _ _ _ => 0)
  case atStart => exact ⟨rfl, rfl, rfl, HB1.out⟩
  case round =>
    obtain ⟨rfl, rfl, rfl, hbi⟩ := hrel
    go_wp2_with fail
    go_ret2
    exact ⟨rfl, hbi⟩
end Go.Proofs.YthjcdbnjmpjikaaGreat

/-
  Walks: package digest: pass: one sweep over all nodes that have a count, the greatest number first.
-/
namespace Go.Proofs.YthjcdbnjmpjikaaGreat
set_option linter.unusedVariables false
set_option linter.unusedSimpArgs false
open Go.RowKit Go.Maps Go.Sort Go.Lib

theorem cellD_grown {w w' : World} {m B o : Nat} {v : Value} (h : w.grownBy w' (some m)) (hn : B ≠ m) (hl : B < w.heap.size) (hc : w.cell? ⟨B, o, none⟩ = some v) : w'.cell? ⟨B, o, none⟩ = some v :=
  (World.cell?_of_block (a := ⟨B, o, none⟩) (h.block B hl (fun e => hn (Option.some.inj e)))).trans hc

set_option maxRecDepth 100000 in
set_option maxHeartbeats 2000000 in
theorem dg_pass (T : TreeDoes) {w : World} {B m b : Nat} {R : List PairV} {q : Int} (b1 : 1 ≤ b) (b2 : b ≤ 24) (hc : w.cell? ⟨B, 2, none⟩ = some (.int .i64 b)) (h : MapX w m R) (hR : RowG b R) (hl : R.length ≤ 900) (wq : Word q) (X : Bool) (hX : (sweepD q (idxD R) R).1 = X) :
    Calls Tryz.prog 70 #[.pointer (some ⟨B, 0, none⟩), .map (some m), .int .u64 q] w fun e w' => e = .returned (.bool X) ∧ MapX w' m (sweepD q (idxD R) R).2 ∧ w.grownBy w' (some m) := by
  have hBm : B ≠ m := fun e => by
    obtain ⟨es, clock, hm, _⟩ := h
    unfold World.cell? at hc
    simp only at hc
    rw [e, hm] at hc
    cases hc
  have HKP : Hid (KeptG b (sumP R) R.length R) := Lib.hid ⟨hR, rfl, Nat.le_refl _⟩
  have HRI := Lib.hid (fun (W : World) (S : List PairV) v (hc : W.cell? ⟨B, 2, none⟩ = some (.int .i64 b)) (hm : MapX W m S) (hS : RowG b S) (hl : S.length ≤ 1000) (hv : nodeD b v) X hX => dg_rise T (w := W) b1 b2 hc hm hS hl hv wq X hX)
  have HK := Lib.hid (keys_any m w)
  have HSO := Lib.hid (sorted_any h hR.good (by omega))
  have HC := Lib.hid hc
  have HM := Lib.hid h
  have hml := h.lt
  have hBl := World.block_lt_of_cell? (a := ⟨B, 2, none⟩) w hc
  simp only at hBl
  have hkl : (R.map fun p => p.1).length = R.length := by rw [List.length_map]
  have HRV := Lib.hid (fun (w1 : World) (v : Value) (h1 : w1.ownsRow (w.heap.size + 1) 3 1 v R.length ((R.map fun p => p.1).map encZ)) (hb : Below w.heap.size w w1) (hz : w.heap.size + 1 ≤ w1.heap.size) => rev_any (w := w1) (lo := w.heap.size + 1) (by rw [hkl]; exact h1) (hb := (⟨rfl, rfl, rfl, Nat.le_refl _, fun _ _ => rfl⟩ : Below (w.heap.size + 1) w1 w1)) hz (by rw [hkl]; omega))
  have hJ : (R.map fun p => p.1).reverse = idxD R := rfl
  rw [hJ] at HRV
  have hJl := idxD_len R
  obtain ⟨n, hn⟩ : ∃ n : Nat, R.length = n := ⟨_, rfl⟩
  rw [hJl, hn] at HRV
  rw [hn] at HSO hl
  have HN := Lib.hid hn
  have HJN := Lib.hid (show ∀ v, v ∈ idxD R → nodeD b v from fun v hv => by
    unfold idxD at hv
    obtain ⟨p, hp, rfl⟩ := List.mem_map.1 (List.mem_reverse.1 hv)
    exact hR.node p hp)
  have HJP := Lib.hid (fun j => idx_nodes hR.nodes j)
  have HX := Lib.hid hX
  have hJln : (idxD R).length = n := by rw [hJl, hn]
  have HJL := Lib.hid hJln
  generalize hJJ : idxD R = J at *
  clear h hR hc hX hJ hJl hJln hn hkl wq hJJ
  go_enter Tryz.func70, Tryz.ntmps70
  go_wp2_with fail
  refine HK.out.mono ?_
  rintro e w1 ⟨rfl, rfl⟩
  go_wp2_with fail
  refine HSO.out.mono ?_
  rintro e w2 ⟨v, rfl, hrow, hz2, hb2⟩
  have HB2 := Lib.hid hb2
  have HR2 := Lib.hid (HRV.out w2 v hrow hb2 hz2)
  clear hrow hb2 HRV
  go_wp2_with fail
  refine HR2.out.mono ?_
  rintro e w3 ⟨rfl, A, cap, rfl, hI, hb3, hz3⟩
  have HB3 := Lib.hid (HB2.out.trans (hb3.mono (Nat.le_succ _)))
  have HM3 := Lib.hid (((HM.out.below HB2.out).at_ (hb3.block m (by omega)) : MapX w3 m R))
  have HC3 := Lib.hid (cell_later HB3.out HC.out)
  have HI3 := Lib.hid hI
  have hz3' := HB3.out.size
  clear hI hb3 HR2
  go_wp2_with fail
  go_loopw [8, 18] (fun rv iv wr => ∃ j : Nat, j ≤ n ∧ iv = .int .i64 j ∧ rv = .bool (sweepD q (J.take j) R).1 ∧ MapX wr m (sweepD q (J.take j) R).2 ∧ w3.grownBy wr (some m)) (fun _ iv _ => n - (intOf iv).toNat)
  case atStart => exact ⟨0, Nat.zero_le _, rfl, rfl, HM3.out, grown_ofG (Below.refl _ _)⟩
  case round =>
    obtain ⟨j, hj, rfl, rfl, hmj, hgj⟩ := hrel
    have HMJ := Lib.hid hmj
    have HGJ := Lib.hid hgj
    have HKJ := Lib.hid (HKP.out.sweep (q := q) (HJP.out j))
    have HCJ := Lib.hid (cellD_grown hgj hBm (by omega) HC3.out)
    clear hmj hgj
    by_cases hlt : j < n
    · have kl : (j : Int) < n := by omega
      have hx : J[j]? = some (J[j]'(by rw [HJL.out]; exact hlt)) := List.getElem?_eq_getElem _
      generalize hit : J[j]'(by rw [HJL.out]; exact hlt) = x at *
      obtain ⟨g, rfl, hg1, hg2, hgc⟩ := (HI3.out.grown HGJ.out (by omega)) j x hx
      have hnd := HJN.out x (List.mem_of_getElem? hx)
      have HST := Lib.hid (sweep_take q J R hx)
      have HSTT := Lib.hid (step_true q (sweepD q (J.take j) R) x)
      have HSTF := Lib.hid (step_false q (sweepD q (J.take j) R) x)
      have HRJ := Lib.hid (fun Y hY => HRI.out wr _ x HCJ.out HMJ.out HKJ.out.row (by have := HKJ.out.len; have := HN.out; omega) hnd Y hY)
      obtain ⟨x0, x1⟩ := node_bd b2 hnd
      obtain ⟨rj, hrj⟩ : ∃ rj, (sweepD q (J.take j) R).1 = rj := ⟨_, rfl⟩
      have HRJ1 := Lib.hid hrj
      rw [hrj]
      clear hx hit hnd hrj
      cases hB : liftB q (sweepD q (J.take j) R).2 x with
      | true =>
        have HB := Lib.hid hB
        have HR1 := Lib.hid (HRJ.out true hB)
        clear hB HRJ
        go_wp2_with fail
        refine HR1.out.mono ?_
        rintro e w5 ⟨rfl, hm5, hg5⟩
        have HM5 := Lib.hid hm5
        have HG5 := Lib.hid hg5
        clear hm5 hg5 HR1
        go_wp2_with fail
        go_roundw
        case rel => exact ⟨j + 1, by omega, by go_num, by rw [HST.out, HSTT.out HB.out], by rw [HST.out]; exact HM5.out, grown_trans HGJ.out HG5.out⟩
        case measure => simp [intOf]; omega
      | false =>
        have HB := Lib.hid hB
        have HR1 := Lib.hid (HRJ.out false hB)
        clear hB HRJ
        go_wp2_with fail
        refine HR1.out.mono ?_
        rintro e w5 ⟨rfl, hm5, hg5⟩
        have HM5 := Lib.hid hm5
        have HG5 := Lib.hid hg5
        clear hm5 hg5 HR1
        go_wp2_with fail
        go_roundw
        case rel => exact ⟨j + 1, by omega, by go_num, by rw [HST.out, HSTF.out HB.out, HRJ1.out], by rw [HST.out]; exact HM5.out, grown_trans HGJ.out HG5.out⟩
        case measure => simp [intOf]; omega
    · obtain rfl : j = n := by omega
      have kl : ¬ (j : Int) < j := by omega
      have etk : J.take j = J := List.take_of_length_le (by rw [HJL.out]; exact Nat.le_refl _)
      rw [etk, HX.out]
      rw [etk] at HMJ
      have HF := Lib.hid (grown_trans (grown_ofG HB3.out) HGJ.out)
      go_wp2_with fail
      go_ret
      exact ⟨rfl, HMJ.out, HF.out⟩
end Go.Proofs.YthjcdbnjmpjikaaGreat

/-
  Walks: package digest: squeeze.
-/
namespace Go.Proofs.YthjcdbnjmpjikaaGreat
set_option linter.unusedVariables false
set_option linter.unusedSimpArgs false
open Go.RowKit

/-- What a squeeze leaves. -/
def SqzTo (St : StT) (w : World) (B : Nat) (S1 : Nat → Prop) (b k : Nat) (T : List PairV) (lo hi : Int) (w' : World) : Prop :=
  ∃ C' S', DgRaw St w' B C' S' b k T lo hi ∧ Keeps (dgS B S1) w w' ∧ ∀ i, S' i → S1 i ∨ w.heap.size ≤ i
theorem key_at {T : List PairV} {j : Nat} {p : PairV} (h : T[j]? = some p) : (T.map fun p => p.1)[j]? = some p.1 := by rw [List.getElem?_map, h]; rfl

set_option maxRecDepth 100000 in
set_option maxHeartbeats 8000000 in
theorem dg_squeeze {St : StT} (D : StripDoes St) (N : TreeDoes) {w : World} {B C : Nat} {S1 : Nat → Prop} {b k : Nat} {R : List PairV} {lo hi : Int} (x : DgRaw St w B C S1 b k R lo hi) (b1 : 1 ≤ b) (b2 : b ≤ 24) (k1 : 1 ≤ k) (k2 : k ≤ 64) (hR : RowG b R) (hl : R.length ≤ 600) (q : Int) (hq : sumP R / k = q) :
    Calls Tryz.prog 45 #[.pointer (some ⟨B, 0, none⟩)] w fun e w' => e = .returned (.tuple #[]) ∧ SqzTo St w B S1 b k (squeezeD (4 * k) q R) lo hi w' := by
  have HD := Lib.hid D
  have HX := Lib.hid x
  have hBl := dg_ltb x.blk
  have HLN := Lib.hid (D.len w C S1 4096 R x.st (by omega))
  have HC := Lib.hid x.cells
  have HMO := Lib.hid (fun W (hb : Below w.heap.size w W) => dg_most (x.cells.call hb).c0 (x.cells.call hb).c1 (by omega))
  have c3 := x.cells.c3
  by_cases hle : R.length ≤ 4 * k
  · have HSQ : Hid (squeezeD (4 * k) q R = R) := Lib.hid (by unfold squeezeD; rw [if_pos hle])
    have d2 : (R.length : Int) ≤ 4 * (k : Int) := by omega
    obtain ⟨n, hn⟩ : ∃ n : Nat, R.length = n := ⟨_, rfl⟩
    rw [hn] at HLN d2
    clear x hR hl hq hle D hn
    go_enter Tryz.func45, Tryz.ntmps45
    go_wp2_with fail
    refine HLN.out.mono ?_
    rintro e w1 ⟨rfl, h1⟩
    go_wp2_with fail
    refine (HMO.out _ h1).mono ?_
    rintro e w2 ⟨rfl, h2⟩
    have HB2 := Lib.hid (h1.trans (h2.mono h1.size))
    clear h1 h2
    go_wp2_with fail
    have fin : SqzTo St w B S1 b k (squeezeD (4 * k) q R) lo hi w2 := by
      rw [HSQ.out]
      exact ⟨C, S1, HX.out.call HD.out HB2.out, Keeps.of_below HB2.out, fun i hi => Or.inl hi⟩
    first
    | exact bodyPost_ret (results_none rfl _ _ _) rfl ⟨rfl, fin⟩
    | (go_end0; exact ⟨rfl, fin⟩)
  · have HSQ : Hid (squeezeD (4 * k) q R = tidyD q (fuelD R) R) := Lib.hid (by unfold squeezeD; rw [if_neg hle])
    have d2 : ¬ (R.length : Int) ≤ 4 * (k : Int) := by omega
    have hs0 := (rowg_sum0 hR).1
    have hs1 := hR.sum
    obtain ⟨ss, hss⟩ : ∃ ss, sumP R = ss := ⟨_, rfl⟩
    have hq0 : 0 ≤ q ∧ q ≤ ss := by
      rw [← hq, hss]
      rw [hss] at hs0
      exact ⟨Int.ediv_nonneg hs0 (by omega), Int.ediv_le_self _ hs0⟩
    have wq : Word q := ⟨hq0.1, by omega⟩
    have HRG := Lib.hid hR
    have HKP : Hid (KeptG b (sumP R) R.length R) := Lib.hid ⟨hR, rfl, Nat.le_refl _⟩
    have HOK := Lib.hid (hR.ok b2)
    have HNO := Lib.hid (fun W (hb : Below w.heap.size w W) => dg_nodes D (x.call D hb) (by omega))
    have HTO := Lib.hid (fun W (hb : Below w.heap.size w W) => dg_total D (x.call D hb) (by omega) ss hss)
    have HLI := Lib.hid (fun W => dg_limit W b k ss q k1 (by omega) (by omega) (by omega) (by rw [← hss]; exact hq))
    have HPA := Lib.hid (fun (W : World) (m : Nat) (R' : List PairV) (hc : W.cell? ⟨B, 2, none⟩ = some (.int .i64 b)) (hm : MapX W m R') (hR' : RowG b R') (hl' : R'.length ≤ 900) X hX => dg_pass N (w := W) (R := R') b1 b2 hc hm hR' hl' wq X hX)
    have HFI := Lib.hid (fun (W : World) A cap (T : List PairV) (hP : Pairs W A T) (hT : RowG b T) (hl' : T.length ≤ 700) => dg_filled D W A cap T hP hT.good hl' hT.sum)
    obtain ⟨n, hn⟩ : ∃ n : Nat, R.length = n := ⟨_, rfl⟩
    rw [hn] at HLN d2 hl
    have HN := Lib.hid hn
    have hmm := @run_makeMap Tryz.prog
    clear x hR hq hle D hn hs0 hs1 hss wq
    go_enter Tryz.func45, Tryz.ntmps45
    go_wp2_with fail
    refine HLN.out.mono ?_
    rintro e w1 ⟨rfl, h1⟩
    go_wp2_with fail
    refine (HMO.out _ h1).mono ?_
    rintro e w2 ⟨rfl, h2⟩
    have h2 := h1.trans (h2.mono h1.size)
    have HM3 := Lib.hid (mapx_made w2)
    have hz2 := h2.size
    have HB3 := Lib.hid (h2.alloc hz2 (.map #[] 0))
    have HN3 := Lib.hid (HNO.out _ HB3.out)
    clear h1 h2 HLN HMO HNO
    go_wp2_with fail
    refine HN3.out.mono ?_
    rintro e w4 ⟨v, rfl, ho4, h4⟩
    obtain ⟨A, cap, rfl, hP4⟩ := ho4.pairs HOK.out
    have HB4 := Lib.hid (HB3.out.trans (h4.mono HB3.out.size))
    have HM4 := Lib.hid (HM3.out.below h4)
    have HO4 := Lib.hid ho4
    have hz3 : (w2.alloc (.map #[] 0)).heap.size = w2.heap.size + 1 := by simp
    rw [hz3] at HO4
    obtain ⟨m, hm⟩ : ∃ m, w2.heap.size = m := ⟨_, rfl⟩
    rw [hm] at HM4 HO4 hz2
    have hz4 : m < w4.heap.size := HM4.out.lt
    rw [HN.out]
    have HPP := Lib.hid (fun W (hg : w4.grownBy W (some m)) => show Pairs W A R from by
      have h2 := OwnP.other HO4.out hg (by
        cases hb : (Value.slice A R.length cap).ownBlock with
        | none => exact Or.inl rfl
        | some g => exact Or.inr fun e => by have h1 := (HO4.out.lt g hb).1; have h2 := Option.some.inj e; omega)
      obtain ⟨A2, cap2, e, hp⟩ := h2.pairs HOK.out
      cases e
      exact hp)
    clear hP4 h4 hz3 ho4 HB3 HM3 HN3
    go_wp2_with fail
    go_loopw [21] (fun iv wr => ∃ j : Nat, j ≤ n ∧ iv = .int .i64 j ∧ MapX wr m (R.take j) ∧ w4.grownBy wr (some m)) (fun iv _ => n - (intOf iv).toNat)
    case atStart => exact ⟨0, Nat.zero_le _, rfl, HM4.out, grown_ofG (Below.refl _ _)⟩
    case round =>
      obtain ⟨j, hj, rfl, hmj, hgj⟩ := hrel
      have HMJ := Lib.hid hmj
      have HGJ := Lib.hid hgj
      have hzj := hgj.size
      clear hmj hgj
      by_cases hlt : j < n
      · have kl : (j : Int) < n := by omega
        have hx : R[j]? = some (R[j]'(by rw [HN.out]; exact hlt)) := List.getElem?_eq_getElem _
        generalize hit : R[j]'(by rw [HN.out]; exact hlt) = p at *
        obtain ⟨px, pc⟩ := p
        obtain ⟨bb, off, rfl, hbl, e0, e1⟩ := (HPP.out wr HGJ.out).at_ j _ hx
        have hok := HOK.out _ (List.mem_of_getElem? hx)
        have HKY := Lib.hid (keyD hok.1)
        have HEL := Lib.hid (elD hok.2)
        have HNX := Lib.hid (mapD_next HRG.out.good hx)
        obtain ⟨⟨o1, o2⟩, o3, o4⟩ := hok
        simp only at e0 e1 o1 o2 o3 o4 HKY HEL HNX
        have HTL : Hid ((R.take j).length < maxLen) := Lib.hid (by have := List.length_take_le j R; unfold maxLen; omega)
        have HAL : Hid (wr.grownBy (wr.alloc (.cells #[.int .i64 px, .int .u64 pc] 61)) (some m)) := Lib.hid (grown_ofG ((Below.refl _ _).alloc (Nat.le_refl _) _))
        have HMA := Lib.hid (HMJ.out.below (w' := wr.alloc (.cells #[.int .i64 px, .int .u64 pc] 61)) ((Below.refl _ _).alloc (Nat.le_refl _) _))
        have y0 : (wr.alloc (.cells #[.int .i64 px, .int .u64 pc] 61)).cell? ⟨wr.heap.size, 0, none⟩ = some (.int .i64 px) := (dg_two wr _ _ _).1
        have y1 : (wr.alloc (.cells #[.int .i64 px, .int .u64 pc] 61)).cell? ⟨wr.heap.size, 1, none⟩ = some (.int .u64 pc) := (dg_two wr _ _ _).2
        clear hx hit
        go_wp2_with (at_mapUpdate; refine wpList_mapUpdate_own _ rfl _ _ _ 116 rfl 3 25 lawIntD Tryz.underlying116 _ m (R.take j).length (mapD (R.take j)) rfl HMA.out HTL.out _ _ _ rfl rfl HKY.out _ [] HEL.out ?_; intro w9 hown9 hg9; rw [HNX.out] at hown9; have HO9 := Lib.hid hown9; have HG9 := Lib.hid hg9; clear hown9 hg9)
        go_roundw
        case rel => exact ⟨j + 1, by omega, by go_num, mapx_of HO9.out, grown_trans HGJ.out (grown_trans HAL.out HG9.out)⟩
        case measure => simp [intOf]; omega
      · obtain rfl : j = n := by omega
        have kl : ¬ (j : Int) < j := by omega
        rw [List.take_of_length_le (by rw [HN.out]; exact Nat.le_refl j)] at HMJ
        obtain ⟨w5, hw5⟩ : ∃ w5, w5 = wr := ⟨_, rfl⟩
        subst hw5
        have HB5 := Lib.hid (HB4.out.grown HGJ.out HB4.out.size (fun i hi => by have := Option.some.inj hi; omega))
        have HC5 := Lib.hid (HC.out.call HB5.out)
        have HS0 : Hid (w5.drew.cell? ⟨B, 0, none⟩ = some (.int .i64 b) ∧ w5.drew.cell? ⟨B, 1, none⟩ = some (.int .i64 k) ∧ Below w5.heap.size w5 w5.drew) := Lib.hid ⟨HC5.out.c0, HC5.out.c1, (Below.refl _ _).drew⟩
        have HST := Lib.hid (fun (W W' : World) (h : W.cell? ⟨B, 0, none⟩ = some (.int .i64 b) ∧ W.cell? ⟨B, 1, none⟩ = some (.int .i64 k) ∧ Below w5.heap.size w5 W) (hb : Below W.heap.size W W') => (⟨cell_later hb h.1, cell_later hb h.2.1, h.2.2.trans (hb.mono h.2.2.size)⟩ : W'.cell? ⟨B, 0, none⟩ = some (.int .i64 b) ∧ W'.cell? ⟨B, 1, none⟩ = some (.int .i64 k) ∧ Below w5.heap.size w5 W'))
        have HT5 := Lib.hid (fun W (hb : Below w5.heap.size w5 W) => HTO.out W (HB5.out.trans (hb.mono HB5.out.size)))
        clear HTO
        go_wp2_with fail
        go_region_held3 (fun w' => w'.cell? ⟨B, 0, none⟩ = some (.int .i64 b) ∧ w'.cell? ⟨B, 1, none⟩ = some (.int .i64 k) ∧ Below w5.heap.size w5 w')
          (first | exact HS0.out | exact HST.out _ _ (by assumption) hbA | exact HST.out _ _ (by assumption) hbB | assumption)
          ((first
            | (go_at_call 19; with_reducible refine (HT5.out _ (And.right (And.right (by assumption)))).mono ?_; rintro e wA ⟨rfl, hbA⟩)
            | (go_at_call 69; with_reducible refine (HLI.out _).mono ?_; rintro e wB ⟨rfl, hbB⟩)))
        all_goals
          rename_i hHeld
          have h6 := hHeld.2.2
          obtain ⟨w6, hw6⟩ : ∃ w6, w6 = wB := ⟨_, rfl⟩
          subst hw6
          have HB6 := Lib.hid (HB5.out.trans (h6.mono HB5.out.size))
          have HM6 := Lib.hid (HMJ.out.below h6)
          have HC6 := Lib.hid (HC.out.call HB6.out)
          have hz6 := HB6.out.size
          clear hHeld h6 HT5 HS0 HST HMJ HGJ HC5
          go_wp2_with fail
          go_loopg [] (fuelD R) (fun g wr => ∃ (R' : List PairV) (g' : Nat), g' = g ∧ KeptG b (sumP R) R.length R' ∧ MapX wr m R' ∧ w6.grownBy wr (some m) ∧ (idxSum R').toNat < g' ∧ tidyD q (fuelD R) R = tidyD q g' R')
          case atStart => exact ⟨R, _, rfl, HKP.out, HM6.out, grown_ofG (Below.refl _ _), by unfold fuelD; omega, rfl⟩
          case round =>
            obtain ⟨R', g', hg', hkp, hmr, hgr, hfu, hti⟩ := hrel
            obtain ⟨w7, hw7⟩ : ∃ w7, w7 = wr := ⟨_, rfl⟩
            subst hw7
            have HK' := Lib.hid hkp
            have HGR := Lib.hid hgr
            have HTI := Lib.hid hti
            have HGG := Lib.hid hg'
            have hl9 : R'.length ≤ 900 := by have := hkp.len; have := HN.out; omega
            obtain ⟨t1, t2⟩ := tidy_next (q := q) hkp.row.nodes hfu
            have HT1 := Lib.hid t1
            have HT2 := Lib.hid t2
            have HFU := Lib.hid hfu
            have hc2 := cellD_grown (B := B) (o := 2) hgr (by omega) (by omega) HC6.out.c2
            have HPS := Lib.hid (fun X hX => HPA.out w7 m R' hc2 hmr hkp.row hl9 X hX)
            have HKS := Lib.hid (hkp.sweep (q := q) (idxD_pos hkp.row.nodes))
            clear hkp hmr hgr hti hfu t1 t2 hc2 hg' hl9
            cases hX : (sweepD q (idxD R') R').1 with
            | true =>
              have HP1 := Lib.hid (HPS.out true hX)
              obtain ⟨n1, n2, n3⟩ := HT1.out hX
              have HN1 := Lib.hid n1
              have HN2 := Lib.hid n2
              have HN3 := Lib.hid n3
              clear HPS hX n1 n2 n3 HT1 HT2
              go_wp2_with fail
              refine HP1.out.mono ?_
              rintro e w8 ⟨rfl, hm8, hg8⟩
              have HM8 := Lib.hid hm8
              have HG8 := Lib.hid hg8
              clear hm8 hg8 HP1
              go_wp2_with fail
              go_roundg (g' - 1)
              case measure => have := HGG.out; have := HN1.out; omega
              case rel => exact ⟨_, g' - 1, rfl, HKS.out, HM8.out, grown_trans HGR.out HG8.out, HN2.out, HTI.out.trans HN3.out⟩
            | false =>
              have HP1 := Lib.hid (HPS.out false hX)
              have HTD : Hid (tidyD q (fuelD R) R = (sweepD q (idxD R') R').2) := Lib.hid (HTI.out.trans (HT2.out hX))
              clear HPS hX HT1 HT2
              go_wp2_with fail
              refine HP1.out.mono ?_
              rintro e w8 ⟨rfl, hm8, hg8⟩
              rw [HTD.out] at HSQ
              have HSQ2 : Hid (squeezeD (4 * k) q R = (sweepD q (idxD R') R').2) := Lib.hid HSQ.out
              generalize (sweepD q (idxD R') R').2 = T at *
              have HM8 := Lib.hid hm8
              have HB8 := Lib.hid (HB6.out.grown (grown_trans HGR.out hg8) HB6.out.size (fun i hi => by have := Option.some.inj hi; omega))
              have hml8 := HM8.out.lt
              have HKY := Lib.hid (keys_any m w8)
              have HSO := Lib.hid (sorted_any HM8.out HKS.out.row.good (by have := HKS.out.len; have := HN.out; omega))
              have hz8 := HB8.out.size
              have hkl : (T.map fun p => p.1).length = T.length := by rw [List.length_map]
              have hTl : T.length ≤ 600 := by have := HKS.out.len; have := HN.out; omega
              have HTL := Lib.hid hTl
              have HIO := Lib.hid (fun (W : World) (lo : Nat) (v : Value) (h : W.ownsRow lo 3 1 v T.length ((T.map fun p => p.1).map encZ)) => ints_own (w := W) (lo := lo) (v := v) (J := T.map fun p => p.1) (by rw [hkl]; exact h))
              obtain ⟨nt, hnt⟩ : ∃ nt : Nat, T.length = nt := ⟨_, rfl⟩
              rw [hkl] at HIO
              rw [hnt] at HIO HSO hTl
              have HNT := Lib.hid hnt
              have HCN := Lib.hid (fun p (hp : p ∈ T) => count_ofD HKS.out.row.good hp)
              have HTK := Lib.hid (HKS.out.row.ok b2)
              clear hm8 hg8 HP1 HTD HSQ HTI hkl hnt HFU HGG HK'
              go_wp2_with fail
              refine HKY.out.mono ?_
              rintro e w9 ⟨rfl, rfl⟩
              go_wp2_with fail
              refine HSO.out.mono ?_
              rintro e w10 ⟨v10, rfl, hrow, hz10, h10⟩
              obtain ⟨A10, cap10, rfl, hI⟩ := HIO.out _ _ _ hrow
              have HI10 := Lib.hid hI
              have HB10 := Lib.hid (HB8.out.trans (h10.mono HB8.out.size))
              have HM10 := Lib.hid (HM8.out.below h10)
              clear hrow h10 hI HSO HKY
              go_wp2_with fail
              go_loopw [46, 6] (fun iv rv wr => ∃ j : Nat, j ≤ nt ∧ iv = .int .i64 j ∧ OwnP wr w10.heap.size rv (T.take j) ∧ Below w10.heap.size w10 wr) (fun iv _ _ => nt - (intOf iv).toNat)
              case atStart => exact ⟨0, Nat.zero_le _, rfl, OwnP.nil _ _, Below.refl _ _⟩
              case round =>
                obtain ⟨j, hj, rfl, hown, hbj⟩ := hrel
                have HOJ := Lib.hid hown
                have HBJ := Lib.hid hbj
                have hzj := hbj.size
                clear hown hbj
                by_cases hlt : j < nt
                · have kl : (j : Int) < nt := by omega
                  have hx : T[j]? = some (T[j]'(by rw [HNT.out]; exact hlt)) := List.getElem?_eq_getElem _
                  generalize hit : T[j]'(by rw [HNT.out]; exact hlt) = p at *
                  obtain ⟨px, pc⟩ := p
                  obtain ⟨g, rfl, hg1, hg2, hgc⟩ := (HI10.out.below HBJ.out) j px (key_at hx)
                  have hmem := List.mem_of_getElem? hx
                  have hok := HTK.out _ hmem
                  have hlk := mapx_look (HM10.out.below HBJ.out) HKS.out.row.good hok.1
                  rw [HCN.out _ hmem] at hlk
                  have HSN : Hid (T.take (j + 1) = T.take j ++ [(px, pc)]) := Lib.hid (take_snocP hx)
                  have HLJ : Hid ((T.take j).length ≤ 100000) := Lib.hid (by have := List.length_take_le j T; omega)
                  obtain ⟨⟨o1, o2⟩, o3, o4⟩ := hok
                  simp only at hlk o1 o2 o3 o4
                  clear hx hit hmem
                  go_wp2_with (at_builtin; refine wpList_append_pair rfl _ _ rfl w10.heap.size _ _ wr.heap.size (px, pc) rfl (HOJ.out.alloc _) rfl ?c1 ?c2 ?c3 ?c4 ?_)
                  case c3 => exact HLJ.out
                  case c4 => first | omega | (simp; omega)
                  intro v' w11 hown' hgrow
                  have HB11 := Lib.hid (OwnP.below (HOJ.out.alloc _) (HBJ.out.alloc hzj _) hgrow (by simp; omega))
                  rw [← HSN.out] at hown'
                  have HO11 := Lib.hid hown'
                  clear hown' hgrow
                  go_wp2_with fail
                  go_roundw
                  case rel => exact ⟨j + 1, by omega, by go_num, HO11.out, HB11.out⟩
                  case measure => simp [intOf]; omega
                · obtain rfl : j = nt := by omega
                  have kl : ¬ (j : Int) < j := by omega
                  rw [List.take_of_length_le (by rw [HNT.out]; exact Nat.le_refl j)] at HOJ
                  obtain ⟨A11, cap11, rfl, hP11⟩ := HOJ.out.pairs HTK.out
                  have HB11 := Lib.hid (HB10.out.trans (HBJ.out.mono HB10.out.size))
                  have HF11 := Lib.hid (HFI.out wr A11 cap11 T hP11 HKS.out.row (by have := HTL.out; omega))
                  clear hP11
                  go_wp2_with fail
                  refine HF11.out.mono ?_
                  rintro e w12 ⟨C', S', rfl, hst, hS', h12⟩
                  have HB12 := Lib.hid (HB11.out.trans (h12.mono HB11.out.size))
                  have HX12 := Lib.hid (HX.out.call HD.out HB12.out)
                  have c3' := HX12.out.cells.c3
                  have f3 : w12.frozen? ⟨B, 3, none⟩ = false := Joins.unfrozen_of_block HX12.out.blk 3
                  have hnB : ¬ S' B := fun h => by have := hS' B h; have := HB11.out.size; omega
                  have HFIN : Hid (SqzTo St w B S1 b k (squeezeD (4 * k) q R) lo hi (w12.setCell ⟨B, 3, none⟩ (.pointer (some ⟨C', 0, none⟩)))) := Lib.hid (by
                    rw [HSQ2.out]
                    refine ⟨C', S', ⟨?_, ?_, hnB⟩, keepsD_then (Keeps.of_below HB12.out) (keepsD_put (S := dgS B S1) (Or.inl rfl)) (fun i _ h => h), fun i hi' => Or.inr (by have := hS' i hi'; have := HB11.out.size; omega)⟩
                    · rw [Joins.block_setCell HX12.out.blk]; rfl
                    · exact HD.out.keep _ _ _ _ _ _ hst fun i hi' => Below.heap_setCell _ _ _ i (fun e => hnB (by have e' : i = B := e; rw [← e']; exact hi')))
                  clear hst hS' h12 hnB HF11
                  go_wp2_with fail
                  first
                  | (go_end0; exact ⟨rfl, HFIN.out⟩)
                  | exact bodyPost_ret (results_none rfl _ _ _) rfl ⟨rfl, HFIN.out⟩
end Go.Proofs.YthjcdbnjmpjikaaGreat

/-
  Walks: the library's slices.Grow of nothing, and slices.Concat, at rows of pairs.
-/
namespace Go.Proofs.YthjcdbnjmpjikaaGreat
set_option linter.unusedVariables false
set_option linter.unusedSimpArgs false
open Go.RowKit

/-- Appending a whole row of pairs, a nil one too, to one of the call's own. -/
theorem wpList_append_pairs {w : World} {ops : Array Oper} {rest : List Oper} {o : Oper} {a : Act} {Q : Exit → Act → World → Prop} (hgd : o.guard = none) (s x : Operand)
    (ho : o.op = .call { callee := .builtin .append, args := #[s, x], argTypes := #[46, 46] })
    (base : Nat) (v : Value) (M : List PairV) (A : Option Addr) (cap : Nat) (L : List PairV) (hs : a.eval s = v) (hown : OwnP w base v M)
    (hx : a.eval x = .slice A L.length cap) (hsrc : Pairs w A L) (hn : M.length + L.length ≤ 100000) (hbase : base ≤ w.heap.size)
    (h : ∀ v' w', OwnP w' base v' (M ++ L) → w.grownBy w' v.ownBlock → wpList Tryz.prog ops Q rest (a.put o.dst v') w') : wpList Tryz.prog ops Q (o :: rest) a w := by
  obtain ⟨i0, hi, hz0, hz1, hz2⟩ := info_parts Tryz.infoPair
  by_cases hL : L = []
  · subst hL
    have hx' : a.eval x = .slice A 0 cap := hx
    have hrun : (Builtin.append_ #[46, 46] o.type #[v, .slice A 0 cap]).run Tryz.prog w = .ok v w := by
      have hl : ∀ (b : Option Addr) (n c : Nat), (Builtin.firstCells 2 0 (.slice A 0 cap)).run Tryz.prog w = .ok #[] w := by
        intro b n c
        cases A with
        | none => exact run_firstCells_none w 2 0 0 cap
        | some ad => exact run_firstCells_some w 2 0 ad 0 cap [] rfl (fun j v hj => by simp at hj)
      rcases hown.2 with ⟨rfl, h0⟩ | ⟨g, c2, cur, rfl, _, _, hnc, _⟩
      · rw [show (0 : Nat) = 0 from rfl] at *
        simp [Builtin.append_, run_underlying Tryz.underlying46, sizeOf, typeInfo, hi, hz1, Builtin.lenOf, hl none 0 0]
      · simp [Builtin.append_, run_underlying Tryz.underlying46, sizeOf, typeInfo, hi, hz1, Builtin.lenOf, hnc, storeCells, hl none 0 0]
    refine wpList_plain hgd fun K hK => ?_
    unfold Oper.wp
    simp [execOp, ho, resolve, invoke, builtin, hs, hx', hrun, Result.andThen]
    exact hK _ _ (h v w (by rw [List.append_nil]; exact hown) (World.grownBy.refl _ _))
  · obtain ⟨p, hp⟩ : ∃ p, L[0]? = some p := by
      cases L with
      | nil => exact absurd rfl hL
      | cons p r => exact ⟨p, rfl⟩
    obtain ⟨b, off, rfl, _, _, _⟩ := hsrc.at_ 0 p hp
    refine wpList_append_own w hgd s x _ ho base _ i0 _ 2 16 Tryz.underlying46 hi hz0 hz1 hz2 rfl (by decide) v M.length (cellsQ M) hs hown ⟨b, off, none⟩ L.length cap (cellsQ L) hx (cellsQ_len L) ?_ (cellsQ_one L)
      (by unfold maxLen; omega) (by omega) hbase (fun v' w' h1 h2 _ => h v' w' ?_ h2)
    · intro j u hu
      rw [add_flat]
      have hj : j < L.length * 2 := by
        rcases Nat.lt_or_ge j (L.length * 2) with h1 | h1
        · exact h1
        · rw [List.getElem?_eq_none (by rw [cellsQ_len]; exact h1)] at hu; cases hu
      have hq := List.getElem?_eq_getElem (l := L) (i := j / 2) (by omega)
      obtain ⟨b', off', e, _, c0, c1⟩ := hsrc.at_ (j / 2) _ hq
      obtain ⟨rfl, rfl⟩ : b = b' ∧ off = off' := by
        have := Option.some.inj e
        exact ⟨(Addr.mk.inj this).1, (Addr.mk.inj this).2.1⟩
      obtain ⟨q0, q1⟩ := cellsQ_at L (j / 2) _ hq
      rcases Nat.mod_two_eq_zero_or_one j with h2 | h2
      · have e1 : j / 2 * 2 = j := by omega
        rw [e1] at q0 c0; rw [q0] at hu; rw [c0, ← Option.some.inj hu]
      · have e1 : j / 2 * 2 + 1 = j := by omega
        rw [Nat.add_assoc, e1] at c1; rw [e1] at q1; rw [q1] at hu; rw [c1, ← Option.some.inj hu]
    · unfold OwnP
      rw [cellsQ_app, List.length_append]
      exact h1

end Go.Proofs.YthjcdbnjmpjikaaGreat
/-
  Walk: the landed code of runs: Find; the library's cmp.Compare and slices.BinarySearchFunc at rows of pairs.
  Walk: the landed code of runs: the pair behind a row.
  Walk: the landed code of runs: Add.
-/
namespace Go.Proofs.YthjcdbnjmpjikaaGreat
set_option linter.unusedVariables false
set_option linter.unusedSimpArgs false
open Go.RowKit

def cmpI (x y : Int) : Int := if x < y then -1 else if y < x then 1 else 0
theorem cmpI_neg {x y : Int} : cmpI x y < 0 ↔ x < y := by unfold cmpI; split <;> (try split) <;> omega
theorem cmpI_zero {x y : Int} : cmpI x y = 0 ↔ x = y := by unfold cmpI; split <;> (try split) <;> omega

set_option maxHeartbeats 400000 in
theorem nan_any (x : Int) (w : World) : Calls Tryz.prog 117 #[.int .i64 x] w fun e w' => e = .returned (.bool false) ∧ w = w' := by
  have e1 : (!(x == x)) = false := by simp
  go_enter Tryz.func117, Tryz.ntmps117
  go_wp2_with fail
  go_ret
  exact ⟨by simp, rfl⟩

set_option maxHeartbeats 400000 in
theorem compare_int (x y : Int) (w : World) : Calls Tryz.prog 98 #[.int .i64 x, .int .i64 y] w fun e w' => e = .returned (.int .i64 (cmpI x y)) ∧ w = w' := by
  have HN := Lib.hid nan_any
  obtain ⟨r, hr⟩ : ∃ r, cmpI x y = r := ⟨_, rfl⟩
  have HR := Lib.hid hr
  rw [hr]
  clear hr
  by_cases h1 : x < y
  · have HE : Hid (-1 = r) := Lib.hid (by rw [← HR.out]; unfold cmpI; rw [if_pos h1])
    go_enter Tryz.func98, Tryz.ntmps98
    go_wp2_with (go_at_call 117; refine (HN.out _ _).mono ?_; rintro e w' ⟨rfl, rfl⟩)
    go_ret
    exact ⟨ret_int HE.out, rfl⟩
  · by_cases h2 : y < x
    · have HE : Hid (1 = r) := Lib.hid (by rw [← HR.out]; unfold cmpI; rw [if_neg h1, if_pos h2])
      go_enter Tryz.func98, Tryz.ntmps98
      go_wp2_with (go_at_call 117; refine (HN.out _ _).mono ?_; rintro e w' ⟨rfl, rfl⟩)
      go_ret
      exact ⟨ret_int HE.out, rfl⟩
    · have HE : Hid (0 = r) := Lib.hid (by rw [← HR.out]; unfold cmpI; rw [if_neg h1, if_neg h2])
      go_enter Tryz.func98, Tryz.ntmps98
      go_wp2_with (go_at_call 117; refine (HN.out _ _).mono ?_; rintro e w' ⟨rfl, rfl⟩)
      go_ret
      exact ⟨ret_int HE.out, rfl⟩

set_option maxHeartbeats 400000 in
theorem find_cmp (px pc i r : Int) (hr : cmpI px i = r) (w : World) : Calls Tryz.prog 97 #[.agg #[.int .i64 px, .int .u64 pc], .int .i64 i] w fun e w' => e = .returned (.int .i64 r) ∧ Below w.heap.size w w' := by
  subst hr
  obtain ⟨r, hr⟩ : ∃ r, cmpI px i = r := ⟨_, rfl⟩
  have HC := Lib.hid (fun W => hr ▸ compare_int px i W)
  rw [hr]
  clear hr
  go_enter Tryz.func97, Tryz.ntmps97
  go_wp2_with fail
  refine (HC.out _).mono ?_
  rintro e w' ⟨rfl, rfl⟩
  go_wp2_with fail
  go_ret
  exact ⟨rfl, (Below.refl _ _).alloc (Nat.le_refl _) _⟩

/-- The place of an index: those ahead are less, those from there on aren't. -/
theorem low_at {L : List PairV} {i : Int} {lo : Nat} (hlo : lo ≤ L.length) (h1 : ∀ t p, t < lo → L[t]? = some p → p.1 < i) (h2 : ∀ t p, lo ≤ t → L[t]? = some p → i ≤ p.1) : lowP L i = L.take lo := by
  have e : lowP L i = lowP (L.take lo) i ++ lowP (L.drop lo) i := by unfold lowP; rw [← List.filter_append, List.take_append_drop]
  rw [e]
  have e1 : lowP (L.take lo) i = L.take lo := by
    unfold lowP; rw [List.filter_eq_self]
    intro p hp
    obtain ⟨t, ht, rfl⟩ := List.getElem_of_mem hp
    rw [List.length_take] at ht
    exact decide_eq_true (h1 t (L.take lo)[t] (by omega) (by rw [List.getElem_take]; exact List.getElem?_eq_getElem (by omega)))
  have e2 : lowP (L.drop lo) i = [] := by
    unfold lowP; rw [List.filter_eq_nil_iff]
    intro p hp
    obtain ⟨t, ht, rfl⟩ := List.getElem_of_mem hp
    rw [List.length_drop] at ht
    have := h2 (lo + t) (L.drop lo)[t] (by omega) (by rw [List.getElem_drop]; exact List.getElem?_eq_getElem (by omega))
    simp only [decide_eq_true_eq]; omega
  rw [e1, e2, List.append_nil]
theorem is_at {L : List PairV} {i : Int} {lo : Nat} (hg : GoodP L) (h1 : ∀ t p, t < lo → L[t]? = some p → p.1 < i) (h2 : ∀ t p, lo ≤ t → L[t]? = some p → i ≤ p.1) : isP L i = ((L[lo]?).map fun p => p.1 == i).getD false := by
  cases hx : L[lo]? with
  | none =>
    have hl : L.length ≤ lo := List.getElem?_eq_none_iff.1 hx
    show isP L i = false
    unfold isP; rw [List.any_eq_false]
    intro p hp
    obtain ⟨t, ht, rfl⟩ := List.getElem_of_mem hp
    have := h1 t _ (by omega) (List.getElem?_eq_getElem ht)
    simp; omega
  | some q =>
    show isP L i = (q.1 == i)
    by_cases hq : q.1 = i
    · rw [hq]
      have : isP L i = true := by unfold isP; rw [List.any_eq_true]; exact ⟨q, List.mem_of_getElem? hx, by simpa using hq⟩
      rw [this]; simp
    · have e : (q.1 == i) = false := by simpa using hq
      rw [e]; unfold isP; rw [List.any_eq_false]
      intro p hp
      obtain ⟨t, ht, rfl⟩ := List.getElem_of_mem hp
      have hqi := h2 lo q (Nat.le_refl _) hx
      rcases Nat.lt_trichotomy t lo with h | h | h
      · have := h1 t _ h (List.getElem?_eq_getElem ht); simp; omega
      · subst h; rw [List.getElem?_eq_getElem ht] at hx; rw [Option.some.inj hx]; simpa using hq
      · have hlo : lo < L.length := by omega
        have e2 := (List.pairwise_iff_getElem.1 hg.2) lo t hlo ht h
        rw [List.getElem?_eq_getElem hlo] at hx
        rw [Option.some.inj hx] at e2
        simp; omega

set_option maxRecDepth 100000 in
set_option maxHeartbeats 1000000 in
theorem search_any (w : World) (A : Option Addr) (cap : Nat) (L : List PairV) (i : Int) (n : Nat) (b : Bool) (h : Pairs w A L) (hl : L.length ≤ 100000) (hg : GoodP L) (hi : I64 i) (hn : (lowP L i).length = n) (hb : isP L i = b) :
    Calls Tryz.prog 96 #[.slice A L.length cap, .int .i64 i, .func (.func 97) #[] #[]] w fun e w' => e = .returned (.tuple #[.int .i64 n, .bool b]) ∧ Below w.heap.size w w' := by
  have HI := Lib.hid h
  have HN := Lib.hid hn
  have HB := Lib.hid hb
  have HG := Lib.hid hg
  have HS : Hid (∀ (a b : Nat) (p q : PairV), a ≤ b → L[a]? = some p → L[b]? = some q → p.1 ≤ q.1) := Lib.hid (by
    intro a b p q hab ha hb
    rcases Nat.lt_or_eq_of_le hab with h1 | h1
    · have hbl : b < L.length := by
        rcases Nat.lt_or_ge b L.length with h2 | h2
        · exact h2
        · rw [List.getElem?_eq_none h2] at hb; cases hb
      have e2 := (List.pairwise_iff_getElem.1 hg.2) a b (by omega) hbl h1
      rw [List.getElem?_eq_getElem (by omega)] at ha
      rw [List.getElem?_eq_getElem hbl] at hb
      rw [Option.some.inj ha, Option.some.inj hb] at e2
      omega
    · subst h1; rw [ha] at hb; rw [Option.some.inj hb]; exact Int.le_refl _)
  clear h hg hn hb
  have HF := Lib.hid find_cmp
  go_enter Tryz.func96, Tryz.ntmps96
  go_wp2_with fail
  go_loopw [9, 10] (fun a c wr => ∃ lo hi : Nat, a = .int .i64 lo ∧ c = .int .i64 hi ∧ lo ≤ hi ∧ hi ≤ L.length ∧ (∀ t p, t < lo → L[t]? = some p → p.1 < i) ∧ (∀ t p, hi ≤ t → L[t]? = some p → i ≤ p.1) ∧ Below w.heap.size w wr) (fun a c _ => (intOf c).toNat - (intOf a).toNat)
  case atStart => exact ⟨0, L.length, rfl, rfl, Nat.zero_le _, Nat.le_refl _, fun t p ht => absurd ht (Nat.not_lt_zero _), fun t p ht hp => (by rw [List.getElem?_eq_none ht] at hp; cases hp), Below.refl _ _⟩
  case round =>
    obtain ⟨lo, hi', rfl, rfl, hlh, hhi, h1, h2, hb2⟩ := hrel
    have H1 := Lib.hid h1
    have H2 := Lib.hid h2
    have hbs := hb2.size
    clear h1 h2
    by_cases hlt : (lo : Int) < (hi' : Int)
    · obtain ⟨m, hm⟩ : ∃ m : Nat, m = (lo + hi') / 2 := ⟨_, rfl⟩
      have hm1 : lo ≤ m := by omega
      have hm2 : m < hi' := by omega
      have hmi : ((lo : Int) + (hi' : Int)) / 2 = (m : Int) := by omega
      have mm : (m : Int) < L.length := by omega
      have mm' : m < L.length := by omega
      have hxm : L[m]? = some L[m] := List.getElem?_eq_getElem mm'
      generalize hit : L[m] = p at *
      obtain ⟨px, pc⟩ := p
      obtain ⟨b0, off, rfl, hbl, c0, c1⟩ := (HI.out.call hb2).at_ m _ hxm
      simp only at c0 c1
      have HXM := Lib.hid hxm
      clear hm hxm hit
      obtain ⟨r, hr⟩ : ∃ r, cmpI px i = r := ⟨_, rfl⟩
      have HR := Lib.hid hr
      by_cases hc : px < i
      · have hr0 : r < 0 := by rw [← hr]; exact cmpI_neg.2 hc
        clear hr
        go_wp2_with fail
        refine (HF.out px pc i r HR.out _).mono ?_
        rintro e w1 ⟨rfl, hb3⟩
        have hb4 := hb2.trans (hb3.mono hbs)
        clear hb3 c0 c1
        go_wp2_with fail
        go_roundw
        case rel => exact ⟨m + 1, hi', by go_num, rfl, by omega, hhi, fun t p ht hp => (by have h5 := HS.out t m p _ (by omega) hp HXM.out; simp only at h5; omega), H2.out, hb4⟩
        case measure => simp [intOf]; omega
      · have hr0 : ¬ r < 0 := by rw [← hr]; exact fun h => hc (cmpI_neg.1 h)
        clear hr
        go_wp2_with fail
        refine (HF.out px pc i r HR.out _).mono ?_
        rintro e w1 ⟨rfl, hb3⟩
        have hb4 := hb2.trans (hb3.mono hbs)
        clear hb3 c0 c1
        go_wp2_with fail
        go_roundw
        case rel => exact ⟨lo, m, rfl, by go_num, by omega, by omega, H1.out, fun t p ht hp => (by have h5 := HS.out m t _ p ht HXM.out hp; simp only at h5; omega), hb4⟩
        case measure => simp [intOf]; omega
    · obtain rfl : hi' = lo := by omega
      have HLO : Hid (hi' = n) := Lib.hid (by
        rw [← HN.out, low_at hhi H1.out H2.out, List.length_take]; omega)
      have HIS := Lib.hid (is_at HG.out H1.out H2.out)
      by_cases hl2 : hi' < L.length
      · have kk : (hi' : Int) < L.length := by omega
        have hxm : L[hi']? = some L[hi'] := List.getElem?_eq_getElem hl2
        generalize hit : L[hi'] = p at *
        obtain ⟨px, pc⟩ := p
        obtain ⟨b0, off, rfl, hbl, c0, c1⟩ := (HI.out.call hb2).at_ hi' _ hxm
        simp only at c0 c1
        have HE : Hid ((px == i) = b) := Lib.hid (by rw [← HB.out, HIS.out, hxm]; rfl)
        clear hxm hit
        obtain ⟨r, hr⟩ : ∃ r, cmpI px i = r := ⟨_, rfl⟩
        have HR := Lib.hid hr
        by_cases hc : px = i
        · have hr0 : r = 0 := by rw [← hr]; exact cmpI_zero.2 hc
          have HB1 : Hid (true = b) := Lib.hid (by rw [← HE.out]; simp [hc])
          have HC := Lib.hid hc
          subst hr0
          clear hr hc
          go_wp2_with fail
          refine (HF.out px pc i 0 HR.out _).mono ?_
          rintro e w1 ⟨rfl, hb3⟩
          have hb4 := hb2.trans (hb3.mono hbs)
          go_wp2_with fail
          go_ret2
          exact ⟨ret_pair (by rw [HLO.out]) HB1.out, hb4⟩
        · have hr0 : (r == 0) = false := by
            have : r ≠ 0 := by rw [← hr]; exact fun h => hc (cmpI_zero.1 h)
            simpa using this
          have HB1 : Hid (false = b) := Lib.hid (by rw [← HE.out]; simp [hc])
          clear hr hc
          go_wp2_with fail
          refine (HF.out px pc i r HR.out _).mono ?_
          rintro e w1 ⟨rfl, hb3⟩
          have hb4 := hb2.trans (hb3.mono hbs)
          go_wp2_with fail
          go_ret2
          exact ⟨ret_pair (by rw [HLO.out]) HB1.out, hb4⟩
      · have kk : ¬ (hi' : Int) < L.length := by omega
        have HB1 : Hid (false = b) := Lib.hid (by rw [← HB.out, HIS.out, List.getElem?_eq_none (by omega)]; rfl)
        go_wp2_with fail
        go_ret2
        exact ⟨ret_pair (by rw [HLO.out]) HB1.out, hb2⟩

set_option maxHeartbeats 400000 in
theorem find_big (w : World) (A : Option Addr) (cap : Nat) (L : List PairV) (i : Int) (n : Nat) (b : Bool) (h : Pairs w A L) (hl : L.length ≤ 100000) (hg : GoodP L) (hi : I64 i) (hn : (lowP L i).length = n) (hb : isP L i = b) :
    Calls Tryz.prog 73 #[.slice A L.length cap, .int .i64 i] w fun e w' => e = .returned (.tuple #[.int .i64 n, .bool b]) ∧ Below w.heap.size w w' := by
  have H := Lib.hid (search_any w A cap L i n b h hl hg hi hn hb)
  clear h hg hn hb
  go_enter Tryz.func73, Tryz.ntmps73
  go_wp2_with fail
  refine H.out.mono ?_
  rintro e w' ⟨rfl, hb⟩
  go_wp2_with fail
  go_ret2
  exact ⟨rfl, hb⟩
theorem find_does : FindDoes := fun w A cap L i n b h hl hg hi hn hb => find_big w A cap L i n b h (by omega) hg hi hn hb
end Go.Proofs.YthjcdbnjmpjikaaGreat

namespace Go.Proofs.YthjcdbnjmpjikaaGreat
set_option linter.unusedVariables false
set_option linter.unusedSimpArgs false
open Go.RowKit

theorem grown_alloc {a b : World} {r : Option Nat} (h : a.grownBy b r) (o : Obj) : a.grownBy (b.alloc o) r :=
  ⟨h.os, h.tape, h.output, Nat.le_trans h.size (by simp), fun i hi hr => (heap_alloc_old _ _ (Nat.lt_of_lt_of_le hi h.size)).trans (h.block i hi hr)⟩
theorem grown_own {a b c : World} {r r' : Option Nat} (h : a.grownBy b r) (k : b.grownBy c r') (hr : ∀ g, r' = some g → a.heap.size ≤ g) : a.grownBy c r :=
  ⟨k.os.trans h.os, k.tape.trans h.tape, k.output.trans h.output, Nat.le_trans h.size k.size, fun i hi hne => (k.block i (Nat.lt_of_lt_of_le hi h.size) (fun e => by have := hr i e.symm; omega)).trans (h.block i hi hne)⟩
theorem grown_call {a b c : World} {r : Option Nat} (h : a.grownBy b r) (k : Below b.heap.size b c) : a.grownBy c r :=
  ⟨k.os.trans h.os, k.tape.trans h.tape, k.output.trans h.output, Nat.le_trans h.size k.size, fun i hi hne => (k.block i (Nat.lt_of_lt_of_le hi h.size)).trans (h.block i hi hne)⟩
theorem grown_cell {a b : World} {B g o : Nat} {v : Value} (h : a.grownBy b (some B)) (hne : g ≠ B) (hc : a.cell? ⟨g, o, none⟩ = some v) : b.cell? ⟨g, o, none⟩ = some v := by
  have hlt := World.block_lt_of_cell? (a := ⟨g, o, none⟩) a hc
  exact (World.cell?_of_block (a := ⟨g, o, none⟩) (h.block g hlt (fun e => hne (Option.some.inj e)))).trans hc
theorem Eye.grown {w w' : World} {B : Nat} {s : ByteArray} {bad : Bool} {r : Option Nat} (h : Eye w B s bad) (hg : w.grownBy w' r) (hne : r ≠ some B) : Eye w' B s bad := by
  have hlt := h.two.lt
  have hb := hg.block B hlt (fun e => hne e.symm)
  exact ⟨⟨(World.cell?_of_block (a := ⟨B, 0, none⟩) hb).trans h.two.c0, (World.cell?_of_block (a := ⟨B, 1, none⟩) hb).trans h.two.c1, (World.frozen?_of_block (a := ⟨B, 0, none⟩) hb).trans h.two.f0, (World.frozen?_of_block (a := ⟨B, 1, none⟩) hb).trans h.two.f1⟩, h.non⟩
theorem Eye.lt {w : World} {B : Nat} {s : ByteArray} {bad : Bool} (h : Eye w B s bad) : B < w.heap.size := h.two.lt
theorem Eye.alloc {w : World} {B : Nat} {s : ByteArray} {bad : Bool} (h : Eye w B s bad) (o : Obj) : Eye (w.alloc o) B s bad := h.call ((Below.refl _ _).alloc (Nat.le_refl _) _)
theorem nS_le (s : ByteArray) (bad : Bool) (m : Nat) (n : Nat) (h : s.size ≤ n) : (nS s bad m).size ≤ n := Nat.le_trans (nS_size s bad m) h

/-- A result that lies in a cell of two. -/
theorem ret_agg {a b c d : Int} (h : a = c) (h' : b = d) : Ending.returned (.agg #[.int .i64 a, .int .u64 b]) = .returned (.agg #[.int .i64 c, .int .u64 d]) := by rw [h, h']

/-- The index so far behind one. -/
def nextI (q v : Int) : Int := (q + 1 + v + 9223372036854775808) % 18446744073709551616 - 9223372036854775808

end Go.Proofs.YthjcdbnjmpjikaaGreat

namespace Go.Proofs.YthjcdbnjmpjikaaGreat
set_option linter.unusedVariables false
set_option linter.unusedSimpArgs false
open Go.RowKit

theorem isP_app (A B : List PairV) (i : Int) : isP (A ++ B) i = (isP A i || isP B i) := by unfold isP; rw [List.any_append]
theorem isP_no {L : List PairV} {i : Int} (h : ∀ p, p ∈ L → p.1 ≠ i) : isP L i = false := by
  unfold isP; rw [List.any_eq_false]; intro p hp; simpa using h p hp
theorem is_part {L : List PairV} {i : Int} (h : isP (lowP L i) i = false ∧ isP (highP L i) i = false := ⟨isP_no fun p hp => by have := (lowP_mem hp).2; omega, isP_no fun p hp => by have := (highP_mem hp).2; omega⟩) : isP (lowP L i ++ highP L i) i = false ∧ ∀ m, isP (lowP L i ++ ((i, m) :: highP L i)) i = true := by
  refine ⟨by rw [isP_app, h.1, h.2]; rfl, fun m => ?_⟩
  rw [isP_app]; unfold isP; simp
theorem cellsQ_set (A B : List PairV) (i m m' : Int) : (cellsQ (A ++ (i, m) :: B)).set (A.length * 2 + 1) (.int .u64 m') = cellsQ (A ++ (i, m') :: B) := by
  rw [cellsQ_app, cellsQ_app, cellsQ_cons, cellsQ_cons, List.set_append_right _ _ (by rw [cellsQ_len]; omega), cellsQ_len]
  rw [show A.length * 2 + 1 - A.length * 2 = 1 by omega]
  rfl

theorem pairs_low {w : World} {A : Option Addr} {lo hi : List PairV} (h : Pairs w A (lo ++ hi)) : Pairs w A lo :=
  ⟨fun p hp => h.ok p (List.mem_append_left _ hp), fun j p hj => h.at_ j p (by
    have hl : j < lo.length := by
      rcases Nat.lt_or_ge j lo.length with h1 | h1
      · exact h1
      · rw [List.getElem?_eq_none h1] at hj; cases hj
    rw [List.getElem?_append_left hl]; exact hj)⟩
theorem pairs_high {w : World} {g : Nat} {lo hi : List PairV} (h : Pairs w (some ⟨g, 0, none⟩) (lo ++ hi)) (n : Nat) (hn : lo.length = n) : Pairs w (some ⟨g, n * 2, none⟩) hi :=
  ⟨fun p hp => h.ok p (List.mem_append_right _ hp), fun j p hj => by
    obtain ⟨b, off, e, hb, c0, c1⟩ := h.at_ (n + j) p (by rw [List.getElem?_append_right (by omega), hn, Nat.add_sub_cancel_left]; exact hj)
    obtain ⟨rfl, rfl⟩ : g = b ∧ 0 = off := by
      have := Option.some.inj e
      exact ⟨(Addr.mk.inj this).1, (Addr.mk.inj this).2.1⟩
    refine ⟨g, n * 2, rfl, hb, ?_, ?_⟩
    · rw [← c0]; congr 2; omega
    · rw [← c1]; congr 2; omega⟩

end Go.Proofs.YthjcdbnjmpjikaaGreat

/-
  Walks: the reference's Add of rows of pairs, of any count (sums wrap around).
-/
namespace Go.Proofs.YthjcdbnjmpjikaaGreat
set_option linter.unusedVariables false
set_option linter.unusedSimpArgs false
open Go.RowKit

set_option maxRecDepth 100000 in
set_option maxHeartbeats 2000000 in
theorem radd_wrap (w : World) (A : Option Addr) (cap : Nat) (L : List PairV) (i c n : Int) (h : Pairs w A L) (hl : L.length ≤ 1000) (hi : I64 i) (hc : Word c) (hn : IntKind.u64.wrap (countP L i + c) = n) (hcl : countP L i < 18446744073709551616) :
    Calls Tryz.prog 48 #[.slice A L.length cap, .int .i64 i, .int .u64 c] w fun e w' => ∃ v, e = .returned v ∧ OwnP w' w.heap.size v (lowP L i ++ (midP i n ++ highP L i)) ∧ Below w.heap.size w w' := by
  have HI := Lib.hid h
  have HIX := Lib.hid hi
  obtain ⟨i0, i1⟩ := hi
  obtain ⟨c0', c1'⟩ := hc
  obtain ⟨m, hm⟩ : ∃ m, countP L i = m := ⟨_, rfl⟩
  have hm0 := (countP_take (L := L) L.length i (ok_pos h.ok)).1
  rw [List.take_length, hm] at hm0
  rw [hm] at hn
  have HM := Lib.hid hm
  have HN := Lib.hid hn
  have hmt : m < 18446744073709551616 := hm ▸ hcl
  have hnr : 0 ≤ n ∧ n < 18446744073709551616 := by rw [← hn, IntKind.wrap_u64]; omega
  obtain ⟨n0, n1⟩ := hnr
  clear h hm
  go_enter Tryz.func48, Tryz.ntmps48
  go_wp2_with fail
  go_loopw [7, 15] (fun s j wr => ∃ (k : Nat), k ≤ L.length ∧ j = .int .i64 k ∧ OwnP wr w.heap.size s (lowP (L.take k) i) ∧ Below w.heap.size w wr) (fun _ j _ => L.length - (intOf j).toNat)
  case atStart => exact ⟨0, Nat.zero_le _, rfl, OwnP.nil _ _, Below.refl _ _⟩
  case round =>
    obtain ⟨k, hk, rfl, hown, hb2⟩ := hrel
    have hbs := hb2.size
    by_cases hlt : k < L.length
    · have kk : (k : Int) < L.length := by omega
      have hxk : L[k]? = some L[k] := List.getElem?_eq_getElem hlt
      generalize hit : L[k] = p at *
      obtain ⟨px, pc⟩ := p
      obtain ⟨b0, off, rfl, hbl, c0, c1⟩ := (HI.out.call hb2).at_ k _ hxk
      simp only at c0 c1
      have HS := Lib.hid (low_step hxk i)
      have HLL := Lib.hid (low_len L i k)
      have hok := HI.out.ok _ (List.mem_of_getElem? hxk)
      obtain ⟨⟨o1, o2⟩, o3, o4⟩ := hok
      simp only at HS
      clear hxk hit
      by_cases hc : px < i
      · rw [if_pos hc] at HS
        obtain ⟨vA, vk, rfl⟩ := hown.form
        have HO := Lib.hid hown
        clear hown
        go_wp2_with (at_builtin; refine wpList_append_pair rfl _ _ rfl w.heap.size _ _ (wr.heap.size + 1) (px, pc) rfl ((HO.out.alloc _).alloc _) rfl ?c1 ?c2 ?c3 ?c4 ?_)
        case c3 => have := HLL.out; omega
        case c4 => first | omega | (simp; omega)
        intro v' w1 hown' hgrow
        have hb3 := OwnP.below ((HO.out.alloc _).alloc _) ((hb2.alloc hbs _).alloc (by simp; omega) _) hgrow (by simp; omega)
        rw [← HS.out] at hown'
        clear hgrow
        go_wp2_with fail
        go_roundw
        case rel => exact ⟨k + 1, by omega, by go_num, hown', hb3⟩
        case measure => simp [intOf]; omega
      · rw [if_neg hc, List.append_nil] at HS
        rw [← HS.out] at hown
        go_wp2_with fail
        go_roundw
        case rel => exact ⟨k + 1, by omega, by go_num, hown.alloc _, hb2.alloc hbs _⟩
        case measure => simp [intOf]; omega
    · obtain rfl : k = L.length := by omega
      rw [List.take_length] at hown
      have kk : ¬ (L.length : Int) < L.length := by omega
      have HLL := Lib.hid (low_len L i L.length)
      rw [List.take_length] at HLL
      have HO := Lib.hid hown
      clear hown
      go_wp2_with fail
      refine (rcount_any _ A cap L i m (HI.out.call hb2) hl HIX.out HM.out (by omega)).mono ?_
      rintro e w3 ⟨rfl, hb3'⟩
      have hb3 := hb2.trans (hb3'.mono hbs)
      have hbs3 := hb3.size
      have HO3 := Lib.hid (HO.out.call hb3')
      have HML : Hid ((lowP L i ++ midP i n).length ≤ 1001) := Lib.hid (by
        rw [List.length_append]; have := HLL.out
        have : (midP i n).length ≤ 1 := by unfold midP; split <;> simp
        omega)
      clear hb3' hb2 hbs HO
      by_cases h0 : 0 < n
      · have HMID : Hid (lowP L i ++ [(i, n)] = lowP L i ++ midP i n) := Lib.hid (by unfold midP; rw [if_pos h0])
        obtain ⟨vA, vk, rfl⟩ := HO3.out.form
        go_wp2_with (at_builtin; refine wpList_append_pair rfl _ _ rfl w.heap.size _ _ w3.heap.size (i, n) rfl (HO3.out.alloc _) rfl ?d1 ?d2 ?d3 ?d4 ?_)
        case d3 => have := HLL.out; omega
        case d4 => first | omega | (simp; omega)
        intro v5 w5 hown5 hgrow
        have hb5 := OwnP.below (HO3.out.alloc _) (hb3.alloc hbs3 _) hgrow (by simp; omega)
        rw [HMID.out] at hown5
        have hbs5 := hb5.size
        clear hgrow hb3 hbs3 HO3 HLL
        go_wp2_with fail
        go_loopw [7, 43] (fun s j wr => ∃ (k : Nat), k ≤ L.length ∧ j = .int .i64 k ∧ OwnP wr w.heap.size s (lowP L i ++ midP i n ++ highP (L.take k) i) ∧ Below w.heap.size w wr) (fun _ j _ => L.length - (intOf j).toNat)
        case atStart => exact ⟨0, Nat.zero_le _, rfl, by rw [List.take_zero, show highP [] i = [] from rfl, List.append_nil]; exact hown5, hb5⟩
        case round =>
          clear hown5 hb5 hbs5
          obtain ⟨k, hk, rfl, hown, hb2⟩ := hrel
          have hbs := hb2.size
          by_cases hlt : k < L.length
          · have kk : (k : Int) < L.length := by omega
            have hxk : L[k]? = some L[k] := List.getElem?_eq_getElem hlt
            generalize hit : L[k] = p at *
            obtain ⟨px, pc⟩ := p
            obtain ⟨b0, off, rfl, hbl, c0, c1⟩ := (HI.out.call hb2).at_ k _ hxk
            simp only at c0 c1
            have HS := Lib.hid (high_step hxk i)
            have HHL := Lib.hid (high_len L i k)
            have hok := HI.out.ok _ (List.mem_of_getElem? hxk)
            obtain ⟨⟨o1, o2⟩, o3, o4⟩ := hok
            simp only at HS
            clear hxk hit
            by_cases hc : i < px
            · rw [if_pos hc] at HS
              obtain ⟨R, hR⟩ : ∃ R, lowP L i ++ midP i n ++ highP (L.take k) i = R := ⟨_, rfl⟩
              have HRL : Hid (R.length ≤ 3000) := Lib.hid (by rw [← hR, List.length_append]; have := HML.out; have := HHL.out; omega)
              have HSR : Hid (R ++ [(px, pc)] = lowP L i ++ midP i n ++ highP (L.take (k + 1)) i) := Lib.hid (by rw [HS.out, ← List.append_assoc, hR])
              rw [hR] at hown
              clear hR
              obtain ⟨vA, vk, rfl⟩ := hown.form
              have HO := Lib.hid hown
              clear hown
              go_wp2_with (at_builtin; refine wpList_append_pair rfl _ _ rfl w.heap.size _ _ (wr.heap.size + 1) (px, pc) rfl ((HO.out.alloc _).alloc _) rfl ?e1 ?e2 ?e3 ?e4 ?_)
              case e3 => have := HRL.out; omega
              case e4 => first | omega | (simp; omega)
              intro v' w1 hown' hgrow
              have hb3 := OwnP.below ((HO.out.alloc _).alloc _) ((hb2.alloc hbs _).alloc (by simp; omega) _) hgrow (by simp; omega)
              rw [HSR.out] at hown'
              clear hgrow
              go_wp2_with fail
              go_roundw
              case rel => exact ⟨k + 1, by omega, by go_num, hown', hb3⟩
              case measure => simp [intOf]; omega
            · rw [if_neg hc, List.append_nil] at HS
              rw [← HS.out] at hown
              go_wp2_with fail
              go_roundw
              case rel => exact ⟨k + 1, by omega, by go_num, hown.alloc _, hb2.alloc hbs _⟩
              case measure => simp [intOf]; omega
          · obtain rfl : k = L.length := by omega
            rw [List.take_length, List.append_assoc] at hown
            have kk : ¬ (L.length : Int) < L.length := by omega
            have HO := Lib.hid hown
            clear hown
            go_wp2_with fail
            go_ret
            exact ⟨_, rfl, HO.out, hb2⟩
      · have HMID : Hid (lowP L i = lowP L i ++ midP i n) := Lib.hid (by unfold midP; rw [if_neg h0, List.append_nil])
        have hown5 := HO3.out
        rw [HMID.out] at hown5
        have hb5 := hb3
        have hbs5 := hbs3
        clear hb3 hbs3 HO3 HLL
        go_wp2_with fail
        go_loopw [7, 43] (fun s j wr => ∃ (k : Nat), k ≤ L.length ∧ j = .int .i64 k ∧ OwnP wr w.heap.size s (lowP L i ++ midP i n ++ highP (L.take k) i) ∧ Below w.heap.size w wr) (fun _ j _ => L.length - (intOf j).toNat)
        case atStart => exact ⟨0, Nat.zero_le _, rfl, by rw [List.take_zero, show highP [] i = [] from rfl, List.append_nil]; exact hown5, hb5⟩
        case round =>
          clear hown5 hb5 hbs5
          obtain ⟨k, hk, rfl, hown, hb2⟩ := hrel
          have hbs := hb2.size
          by_cases hlt : k < L.length
          · have kk : (k : Int) < L.length := by omega
            have hxk : L[k]? = some L[k] := List.getElem?_eq_getElem hlt
            generalize hit : L[k] = p at *
            obtain ⟨px, pc⟩ := p
            obtain ⟨b0, off, rfl, hbl, c0, c1⟩ := (HI.out.call hb2).at_ k _ hxk
            simp only at c0 c1
            have HS := Lib.hid (high_step hxk i)
            have HHL := Lib.hid (high_len L i k)
            have hok := HI.out.ok _ (List.mem_of_getElem? hxk)
            obtain ⟨⟨o1, o2⟩, o3, o4⟩ := hok
            simp only at HS
            clear hxk hit
            by_cases hc : i < px
            · rw [if_pos hc] at HS
              obtain ⟨R, hR⟩ : ∃ R, lowP L i ++ midP i n ++ highP (L.take k) i = R := ⟨_, rfl⟩
              have HRL : Hid (R.length ≤ 3000) := Lib.hid (by rw [← hR, List.length_append]; have := HML.out; have := HHL.out; omega)
              have HSR : Hid (R ++ [(px, pc)] = lowP L i ++ midP i n ++ highP (L.take (k + 1)) i) := Lib.hid (by rw [HS.out, ← List.append_assoc, hR])
              rw [hR] at hown
              clear hR
              obtain ⟨vA, vk, rfl⟩ := hown.form
              have HO := Lib.hid hown
              clear hown
              go_wp2_with (at_builtin; refine wpList_append_pair rfl _ _ rfl w.heap.size _ _ (wr.heap.size + 1) (px, pc) rfl ((HO.out.alloc _).alloc _) rfl ?f1 ?f2 ?f3 ?f4 ?_)
              case f3 => have := HRL.out; omega
              case f4 => first | omega | (simp; omega)
              intro v' w1 hown' hgrow
              have hb3 := OwnP.below ((HO.out.alloc _).alloc _) ((hb2.alloc hbs _).alloc (by simp; omega) _) hgrow (by simp; omega)
              rw [HSR.out] at hown'
              clear hgrow
              go_wp2_with fail
              go_roundw
              case rel => exact ⟨k + 1, by omega, by go_num, hown', hb3⟩
              case measure => simp [intOf]; omega
            · rw [if_neg hc, List.append_nil] at HS
              rw [← HS.out] at hown
              go_wp2_with fail
              go_roundw
              case rel => exact ⟨k + 1, by omega, by go_num, hown.alloc _, hb2.alloc hbs _⟩
              case measure => simp [intOf]; omega
          · obtain rfl : k = L.length := by omega
            rw [List.take_length, List.append_assoc] at hown
            have kk : ¬ (L.length : Int) < L.length := by omega
            have HO := Lib.hid hown
            clear hown
            go_wp2_with fail
            go_ret
            exact ⟨_, rfl, HO.out, hb2⟩
end Go.Proofs.YthjcdbnjmpjikaaGreat

/-
  Walks: layer 8's reference: a strip's Add, First, Last.
-/
namespace Go.Proofs.YthjcdbnjmpjikaaGreat
set_option linter.unusedVariables false
set_option linter.unusedSimpArgs false
open Go.RowKit

theorem Two.block {w w' : World} {B : Nat} {x y : Value} (h : Two w B x y) (hb : w'.heap[B]? = w.heap[B]?) : Two w' B x y :=
  ⟨(World.cell?_of_block (a := ⟨B, 0, none⟩) hb).trans h.c0, (World.cell?_of_block (a := ⟨B, 1, none⟩) hb).trans h.c1, (World.frozen?_of_block (a := ⟨B, 0, none⟩) hb).trans h.f0, (World.frozen?_of_block (a := ⟨B, 1, none⟩) hb).trans h.f1⟩
theorem Two.put1 {w : World} {B : Nat} {x y : Value} (h : Two w B x y) (y' : Value) : Two (w.setCell ⟨B, 1, none⟩ y') B x y' := by
  refine ⟨?_, World.cell?_setCell_same _ _ _ h.c1, ?_, ?_⟩
  · rw [World.cell?_setCell_other _ _ _ _ (two_off (by omega))]; exact h.c0
  · rw [World.frozen?_setCell]; exact h.f0
  · rw [World.frozen?_setCell]; exact h.f1
/-- The reference's strip at block M, its row v. -/
def RefS (w : World) (M : Nat) (m : Int) (v : Value) (L : List PairV) : Prop := Two w M (.int .i64 m) v ∧ OwnP w (M + 1) v L
theorem RefS.lt {w : World} {M : Nat} {m : Int} {v : Value} {L : List PairV} (h : RefS w M m v L) : M < w.heap.size := h.1.lt
theorem RefS.call {w w' : World} {M : Nat} {m : Int} {v : Value} {L : List PairV} (h : RefS w M m v L) (hb : Below w.heap.size w w') : RefS w' M m v L := ⟨h.1.call hb, h.2.call hb⟩
theorem RefS.past {w w' : World} {M : Nat} {m : Int} {v : Value} {L : List PairV} {S : Nat → Prop} (h : RefS w M m v L) (hk : Keeps S w w') (h1 : ¬ S M) (h2 : ∀ g, v.ownBlock = some g → ¬ S g) : RefS w' M m v L :=
  ⟨h.1.block (hk.block M h.lt h1), hk.own h.2 h2⟩
theorem RefS.mk_new (w : World) (m : Int) (t : TypeId) : RefS (w.alloc (.cells #[.int .i64 m, .slice none 0 0] t)) w.heap.size m (.slice none 0 0) [] := ⟨Two.new _ _ _ _, OwnP.nil _ _⟩
theorem two_new9 (w : World) (x y : Value) (t : TypeId) : (w.alloc (.cells #[x, y] t)).cell? ⟨w.heap.size, 0, none⟩ = some x ∧ (w.alloc (.cells #[x, y] t)).cell? ⟨w.heap.size, 1, none⟩ = some y := ⟨(Two.new w x y t).c0, (Two.new w x y t).c1⟩
theorem RefS.row {w : World} {M : Nat} {m : Int} {v : Value} {A : List PairV} (h : RefS w M m v A) (ho : ∀ p, p ∈ A → okP p) : ∃ g cap, v = .slice g A.length cap ∧ Pairs w g A ∧ w.cell? ⟨M, 0, none⟩ = some (.int .i64 m) ∧ w.cell? ⟨M, 1, none⟩ = some (.slice g A.length cap) := by
  obtain ⟨g, cap, rfl, hp⟩ := h.2.pairs ho
  exact ⟨g, cap, rfl, hp, h.1.c0, h.1.c1⟩
theorem own_mono8 {w : World} {base base' : Nat} {v : Value} {L : List PairV} (h : OwnP w base v L) (hb : base' ≤ base) : OwnP w base' v L := World.ownsRow.mono h hb
theorem own_set8 {w : World} {base : Nat} {v : Value} {L : List PairV} (h : OwnP w base v L) {M o : Nat} (hM : M < base) (u : Value) : OwnP (w.setCell ⟨M, o, none⟩ u) base v L :=
  OwnP.other h (grown_setCell w M o u) (by
    cases hb : v.ownBlock with
    | none => exact Or.inl rfl
    | some g => exact Or.inr fun e => by have h1 := (h.lt g hb).1; have h2 := Option.some.inj e; omega)
theorem grown_of_below8 {w w' : World} {r : Option Nat} (h : Below w.heap.size w w') : w.grownBy w' r := ⟨h.os, h.tape, h.output, h.size, fun k hk _ => h.block k hk⟩
/-- What has become of the reference's strip. -/
def Done8 (w : World) (M : Nat) (m : Int) (v : Value) (L' : List PairV) (w' : World) : Prop :=
  (∃ v', RefS w' M m v' L' ∧ (v' = v ∨ ∀ g, v'.ownBlock = some g → w.heap.size ≤ g)) ∧ w.grownBy w' (some M)
theorem Done8.same {w w' : World} {M : Nat} {m : Int} {v : Value} {L : List PairV} (h : RefS w M m v L) (hb : Below w.heap.size w w') : Done8 w M m v L w' := ⟨⟨v, h.call hb, Or.inl rfl⟩, grown_of_below8 hb⟩
theorem Done8.put {w w1 : World} {M : Nat} {m : Int} {v v' : Value} {L' : List PairV} {L : List PairV} (h : RefS w M m v L) (hb : Below w.heap.size w w1) (ho : OwnP w1 w.heap.size v' L') : Done8 w M m v L' (w1.setCell ⟨M, 1, none⟩ v') :=
  ⟨⟨v', ⟨(h.1.call hb).put1 v', own_set8 (own_mono8 ho (by have := h.lt; omega)) (by omega) _⟩, Or.inr fun g hg => (ho.lt g hg).1⟩, grown_trans (grown_of_below8 hb) (grown_setCell _ _ _ _)⟩
theorem grown_own8 {a b c : World} {r r' : Option Nat} (h : a.grownBy b r) (k : b.grownBy c r') (hr : ∀ g, r' = some g → a.heap.size ≤ g) : a.grownBy c r :=
  ⟨k.os.trans h.os, k.tape.trans h.tape, k.output.trans h.output, Nat.le_trans h.size k.size, fun i hi hne => (k.block i (Nat.lt_of_lt_of_le hi h.size) (fun e => by have := hr i e.symm; omega)).trans (h.block i hi hne)⟩
theorem Done8.put2 {w w1 : World} {M : Nat} {m : Int} {v v' : Value} {L' : List PairV} {L : List PairV} (h : RefS w M m v L) (hb : Below w.heap.size w w1) (ho : OwnP w1 (w.heap.size + 1) v' L') (x y : Value) :
    Done8 w M m v L' (((w1.setCell ⟨M, 1, none⟩ v').setCell ⟨w.heap.size, 0, none⟩ x).setCell ⟨w.heap.size, 1, none⟩ y) := by
  have hM := h.lt
  refine ⟨⟨v', ⟨((h.1.call hb).put1 v').past (by omega) x y, own_mono8 (own_set8 (own_set8 (own_set8 ho (by omega) _) (by omega) _) (by omega) _) (by omega)⟩, Or.inr fun g hg => by have := (ho.lt g hg).1; omega⟩, ?_⟩
  exact grown_own8 (grown_own8 (grown_trans (grown_of_below8 hb) (grown_setCell _ _ _ _)) (grown_setCell _ w.heap.size 0 _) (fun g e => by have := Option.some.inj e; omega)) (grown_setCell _ w.heap.size 1 _) (fun g e => by have := Option.some.inj e; omega)

theorem Pairs.shift {w : World} {b off : Nat} {L : List PairV} (h : Pairs w (some ⟨b, off, none⟩) L) (k : Nat) : Pairs w (some ⟨b, off + k * 2, none⟩) (L.drop k) :=
  ⟨fun p hp => h.ok p (List.mem_of_mem_drop hp), fun i p hi => by
    rw [List.getElem?_drop] at hi
    obtain ⟨b', off', e, hlt, c0, c1⟩ := h.at_ (k + i) p hi
    have := Addr.mk.inj (Option.some.inj e)
    obtain ⟨rfl, rfl, _⟩ := this
    refine ⟨b, off + k * 2, rfl, hlt, ?_, ?_⟩
    · rw [show off + k * 2 + i * 2 = off + (k + i) * 2 by omega]; exact c0
    · rw [show off + k * 2 + i * 2 + 1 = off + (k + i) * 2 + 1 by omega]; exact c1⟩

end Go.Proofs.YthjcdbnjmpjikaaGreat
/-
  How package strip's row lies in memory (anywhere in its block); walk: runs.Add of such a row.
-/
namespace Go.Proofs.YthjcdbnjmpjikaaGreat
set_option linter.unusedVariables false
set_option linter.unusedSimpArgs false
open Go.RowKit

theorem set_cells8 {w : World} {b : Nat} {cs : Array Value} {t : TypeId} (h : w.heap[b]? = some (.cells cs t (0, 0))) (o : Nat) (u : Value) : (w.setCell ⟨b, o, none⟩ u).heap[b]? = some (.cells (cs.setIfInBounds o u) t (0, 0)) := by
  have hlt := lt_of_block h
  have h' : w.heap[b] = .cells cs t (0, 0) := by simpa [Array.getElem?_eq_getElem hlt] using h
  show (w.heap.modify b _)[b]? = _
  rw [Array.getElem?_eq_getElem (by simpa using hlt), Array.getElem_modify_self, h']
  rfl
theorem free8 {w : World} {b : Nat} {cs : Array Value} {t : TypeId} (h : w.heap[b]? = some (.cells cs t (0, 0))) (o : Nat) : w.frozen? ⟨b, o, none⟩ = false := by simp [World.frozen?, h]

/-- A row of pairs that may be written; its first pair may lie anywhere in its block. -/
structure Slab (w : World) (A : Option Addr) (cap : Nat) (L : List PairV) : Prop where
  pairs : Pairs w A L
  fit : L.length ≤ cap
  blk : (A = none ∧ cap = 0) ∨ ∃ g off cs, A = some ⟨g, off, none⟩ ∧ w.heap[g]? = some (.cells cs 61 (0, 0))
  room : ∀ g off cs, A = some ⟨g, off, none⟩ → w.heap[g]? = some (.cells cs 61 (0, 0)) → off + cap * 2 ≤ cs.size
  capm : cap ≤ 9223372036854775807
/-- The block of such a row. -/
def blkA (A : Option Addr) : Option Nat := A.map fun a => a.block
theorem blk_slice (A : Option Addr) (n cap : Nat) : (Value.slice A n cap).ownBlock = blkA A := by cases A <;> rfl
theorem Slab.nil (w : World) : Slab w none 0 [] := ⟨Pairs.nil w, by simp, Or.inl ⟨rfl, rfl⟩, fun g off cs e => (by cases e), by omega⟩
theorem Slab.form {w : World} {A : Option Addr} {cap : Nat} {L : List PairV} (h : Slab w A cap L) : (A = none ∧ L = [] ∧ cap = 0) ∨ ∃ g off, A = some ⟨g, off, none⟩ := by
  rcases h.blk with ⟨rfl, rfl⟩ | ⟨g, off, cs, rfl, _⟩
  · exact Or.inl ⟨rfl, List.eq_nil_of_length_eq_zero (by have := h.fit; omega), rfl⟩
  · exact Or.inr ⟨g, off, rfl⟩
theorem Slab.lt {w : World} {A : Option Addr} {cap : Nat} {L : List PairV} (h : Slab w A cap L) {k : Nat} (hk : blkA A = some k) : k < w.heap.size := by
  rcases h.blk with ⟨rfl, _⟩ | ⟨g, off, cs, rfl, hb⟩
  · cases hk
  · cases hk; exact lt_of_block hb
theorem Slab.keep {w w' : World} {A : Option Addr} {cap : Nat} {L : List PairV} (h : Slab w A cap L) (hk : ∀ k, blkA A = some k → w'.heap[k]? = w.heap[k]?) : Slab w' A cap L := by
  refine ⟨⟨h.pairs.ok, fun i p hi => ?_⟩, h.fit, ?_, fun g off cs e hb => h.room g off cs e (by rw [← hk g (by rw [e]; rfl)]; exact hb), h.capm⟩
  · obtain ⟨b, off, rfl, hlt, c0, c1⟩ := h.pairs.at_ i p hi
    have hb := hk b rfl
    refine ⟨b, off, rfl, ?_, (World.cell?_of_block (a := ⟨b, off + i * 2, none⟩) hb).trans c0, (World.cell?_of_block (a := ⟨b, off + i * 2 + 1, none⟩) hb).trans c1⟩
    exact World.block_lt_of_cell? (a := ⟨b, off + i * 2, none⟩) _ ((World.cell?_of_block (a := ⟨b, off + i * 2, none⟩) hb).trans c0)
  · rcases h.blk with h0 | ⟨g, off, cs, rfl, hb⟩
    · exact Or.inl h0
    · exact Or.inr ⟨g, off, cs, rfl, (hk g rfl).trans hb⟩
theorem Slab.call {w w' : World} {A : Option Addr} {cap : Nat} {L : List PairV} (h : Slab w A cap L) (hb : Below w.heap.size w w') : Slab w' A cap L := h.keep fun k hk => hb.block k (h.lt hk)
theorem Slab.of_own {w : World} {base : Nat} {v : Value} {L : List PairV} (h : OwnP w base v L) (ok : ∀ p, p ∈ L → okP p) : ∃ A cap, v = .slice A L.length cap ∧ Slab w A cap L ∧ ∀ k, blkA A = some k → base ≤ k := by
  obtain ⟨A, cap, rfl, hP⟩ := h.pairs ok
  refine ⟨A, cap, rfl, ?_, fun k hk => (h.lt k (by rw [blk_slice]; exact hk)).1⟩
  rcases h.2 with ⟨e, e0⟩ | ⟨g, cap', cur, e, _, hg, hnc, hcm, hcz, _⟩
  · injection e with e1 e2 e3
    exact ⟨hP, by omega, Or.inl ⟨e1, e3⟩, fun g off cs e => (by rw [e1] at e; cases e), by omega⟩
  · injection e with e1 _ e3
    subst e1
    exact ⟨hP, by omega, Or.inr ⟨g, 0, cur, rfl, hg⟩, (fun g' off' cs' e hg' => by
      obtain ⟨rfl, rfl, _⟩ := Addr.mk.inj (Option.some.inj e)
      rw [hg] at hg'
      obtain ⟨rfl, _⟩ := Obj.cells.inj (Option.some.inj hg')
      omega), by unfold maxLen at hcm; omega⟩
/-- A count is written. -/
theorem Slab.put {w : World} {g off cap n : Nat} {L lo hi : List PairV} {i m m' : Int} (h : Slab w (some ⟨g, off, none⟩) cap L) (hp : lo ++ ((i, m) :: hi) = L) (hn : lo.length = n) (hi' : I64 i) (hm : Word m') :
    Slab (w.setCell ⟨g, off + n * 2 + 1, none⟩ (.int .u64 m')) (some ⟨g, off, none⟩) cap (lo ++ ((i, m') :: hi)) := by
  subst hn hp
  have hsz : (lo ++ ((i, m') :: hi)).length = (lo ++ ((i, m) :: hi)).length := by simp
  refine ⟨⟨fun p hp' => ?_, fun j p hj => ?_⟩, by rw [hsz]; exact h.fit, ?_, ?_, h.capm⟩
  · rcases List.mem_append.1 hp' with h1 | h1
    · exact h.pairs.ok p (List.mem_append_left _ h1)
    · rcases List.mem_cons.1 h1 with rfl | h2
      · exact ⟨hi', hm⟩
      · exact h.pairs.ok p (List.mem_append_right _ (List.mem_cons_of_mem _ h2))
  · obtain ⟨b0, o0, e0, hlt, x0, x1⟩ := h.pairs.at_ lo.length (i, m) (by rw [List.getElem?_append_right (Nat.le_refl _), Nat.sub_self]; rfl)
    obtain ⟨rfl, rfl, _⟩ := Addr.mk.inj (Option.some.inj e0)
    by_cases hjn : j = lo.length
    · subst hjn
      rw [List.getElem?_append_right (Nat.le_refl _), Nat.sub_self] at hj
      obtain rfl := Option.some.inj hj
      refine ⟨g, off, rfl, by simpa [World.setCell] using hlt, ?_, World.cell?_setCell_same _ _ _ x1⟩
      rw [World.cell?_setCell_other _ _ _ _ (two_off (by omega))]; exact x0
    · have hj' : (lo ++ ((i, m) :: hi))[j]? = some p := by
        rcases Nat.lt_or_ge j lo.length with h1 | h1
        · rw [List.getElem?_append_left h1] at hj ⊢; exact hj
        · rw [List.getElem?_append_right h1] at hj ⊢
          obtain ⟨t, ht⟩ : ∃ t, j - lo.length = t + 1 := ⟨j - lo.length - 1, by omega⟩
          rw [ht] at hj ⊢
          exact hj
      obtain ⟨b0, o0, e0, hlt', c0, c1⟩ := h.pairs.at_ j p hj'
      obtain ⟨rfl, rfl, _⟩ := Addr.mk.inj (Option.some.inj e0)
      refine ⟨g, off, rfl, by simpa [World.setCell] using hlt, ?_, ?_⟩
      · rw [World.cell?_setCell_other _ _ _ _ (two_off (by omega))]; exact c0
      · rw [World.cell?_setCell_other _ _ _ _ (two_off (by omega))]; exact c1
  · rcases h.blk with ⟨e, _⟩ | ⟨g', off', cs, e, hb⟩
    · cases e
    · obtain ⟨rfl, rfl, _⟩ := Addr.mk.inj (Option.some.inj e)
      exact Or.inr ⟨g, off, _, rfl, set_cells8 hb _ _⟩
  · intro g2 off2 cs2 e2 hb2
    obtain ⟨rfl, rfl, _⟩ := Addr.mk.inj (Option.some.inj e2)
    rcases h.blk with ⟨e, _⟩ | ⟨g', off', cs, e, hb⟩
    · cases e
    · obtain ⟨rfl, rfl, _⟩ := Addr.mk.inj (Option.some.inj e)
      have hr := h.room _ _ cs rfl hb
      rw [set_cells8 hb] at hb2
      obtain ⟨rfl, _⟩ := Obj.cells.inj (Option.some.inj hb2)
      simpa using hr

/-- What has become of a row. -/
def AddedV (w : World) (A : Option Addr) (L : List PairV) (e : Ending) (w' : World) : Prop :=
  ∃ A' cap', e = .returned (.slice A' L.length cap') ∧ Slab w' A' cap' L ∧ w.grownBy w' (blkA A) ∧ (A' = A ∨ ∀ k, blkA A' = some k → w.heap.size ≤ k)

theorem pairs_from {w : World} {g off : Nat} {lo hi : List PairV} (h : Pairs w (some ⟨g, off, none⟩) (lo ++ hi)) (n : Nat) (hn : lo.length = n) : Pairs w (some ⟨g, off + n * 2, none⟩) hi := by
  have h1 := h.shift n
  rw [List.drop_append_of_le_length (by omega), List.drop_of_length_le (by omega), List.nil_append] at h1
  exact h1

end Go.Proofs.YthjcdbnjmpjikaaGreat