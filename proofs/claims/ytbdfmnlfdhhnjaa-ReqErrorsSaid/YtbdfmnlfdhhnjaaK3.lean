/-
  Texts joined, in build order: EndE, ReqC, CoinC, ReqcA, ReqcM, ReqcC, ReqcD, ReqcB, ShelfG, RowN, Plus, ReqcE, ReqcF, ReqcG.
-/
import Derived.Test.YtbdfmnlfdhhnjaaK2
import Derived.Lib.SmallJoins
import Derived.Lib.JoinLaws
import Derived.ArgAppend
import Derived.Deep.RegionLaw
import Derived.BigRegion
import Derived.Deep.RegionHeld3
import Derived.Deep.QuietTactic
import Derived.BigQuiet
import Derived.Laws.Shifts
import Derived.Shelf.SortM.Plain
import Derived.Shelf.SortM.SortNone
import Derived.Shelf.SlicesG.Turned
import Derived.Shelf.SlicesE.Clone
import Derived.Shelf.SlicesQ.IndexFunc
import Derived.Test.YtbdfmnlfdhhnjaaProg
import Derived.Sort.OwnSortedInts
import Derived.Test.YtbdfmnlfdhhnjaaRows
import Derived.WalkKit
import Derived.WalkSpells
import Derived.WalkLawsBesides
import Derived.LoopTactic
import Derived.Laws.MakeOwn
import Derived.Deep.RegionWith
import Derived.Shelf.Abstract
/-
  The ends of values, and how many lie up to one: mathematics, and the references' Ends and Up.
-/
namespace Go.Proofs.Ytbdfmnlfdhhnjaa
set_option linter.unusedVariables false
set_option linter.unusedSimpArgs false
open Go.RowKit

/-- Ends, behind a value more; joined. (as stage 17's addE, joinE) -/
def addW (e : Int × Int × Bool) (x : Int) : Int × Int × Bool := if e.2.2 = true then (min e.1 x, max e.2.1 x, true) else (x, x, true)
def joinW (e f : Int × Int × Bool) : Int × Int × Bool := if f.2.2 = true then (if e.2.2 = true then (min e.1 f.1, max e.2.1 f.2.1, true) else f) else e

theorem where_snocW {L : List PairV} {i : Nat} {p : PairV} (f : Int → Bool) (h : L[i]? = some p) : whereP f (L.take (i + 1)) = whereP f (L.take i) + if f p.1 = true then p.2 else 0 := by
  rw [take_snocP h, where_app, where_cons, where_nil, Int.add_zero]
theorem where_partW {L : List PairV} (f : Int → Bool) (h : ∀ p, p ∈ L → 0 ≤ p.2) (i : Nat) : 0 ≤ whereP f (L.take i) ∧ whereP f (L.take i) ≤ sumP L := by
  have h' : ∀ p, p ∈ L.take i → 0 ≤ p.2 := fun p hp => h p (List.mem_of_mem_take hp)
  exact ⟨where_pos h', Int.le_trans (where_sum h') (sumP_take i h).2⟩
/-- How many values lie up to one, and below it: of all of them. -/
theorem where_up {A : List PairV} (h : ∀ p, p ∈ A → 0 ≤ p.2) (x : Int) : whereP (fun y => decide (y ≤ x)) A = upV (allG A) x ∧ whereP (fun y => decide (y < x)) A = unV (allG A) x ∧ sumP A = (allG A).length := by
  induction A with
  | nil => exact ⟨rfl, rfl, rfl⟩
  | cons p r ih =>
    obtain ⟨i1, i2, i3⟩ := ih fun q hq => h q (List.mem_cons_of_mem _ hq)
    have h0 := h p List.mem_cons_self
    have e : allG (p :: r) = List.replicate p.2.toNat p.1 ++ allG r := by unfold allG; rw [List.flatMap_cons]
    have t : ((p.2.toNat : Nat) : Int) = p.2 := Int.toNat_of_nonneg h0
    rw [e, where_cons, where_cons, upV_app, unV_app, up_rep, un_rep, i1, i2, sumP_cons, i3, List.length_append, List.length_replicate, t, Int.natCast_add, t]
    simp only [decide_eq_true_eq]
    exact ⟨trivial, trivial, trivial⟩
/-- The least and the greatest of values, from one on. -/
def loFD (x : Int) (A : List PairV) : Int := A.foldl (fun a v => min a v.1) x
def hiFD (x : Int) (A : List PairV) : Int := A.foldl (fun a v => max a v.1) x
theorem lof_snocD (x : Int) (A : List PairV) (v : PairV) : loFD x (A ++ [v]) = min (loFD x A) v.1 := by unfold loFD; rw [List.foldl_append]; rfl
theorem hif_snocD (x : Int) (A : List PairV) (v : PairV) : hiFD x (A ++ [v]) = max (hiFD x A) v.1 := by unfold hiFD; rw [List.foldl_append]; rfl
theorem lof_appD (x : Int) (A B : List PairV) : loFD x (A ++ B) = loFD (loFD x A) B := by unfold loFD; rw [List.foldl_append]
theorem hif_appD (x : Int) (A B : List PairV) : hiFD x (A ++ B) = hiFD (hiFD x A) B := by unfold hiFD; rw [List.foldl_append]
theorem lof_leD : ∀ (A : List PairV) (x : Int), loFD x A ≤ x ∧ ∀ v, v ∈ A → loFD x A ≤ v.1 := by
  intro A
  induction A with
  | nil => intro x; exact ⟨Int.le_refl _, fun v h => (by cases h)⟩
  | cons a r ih =>
    intro x
    obtain ⟨h1, h2⟩ := ih (min x a.1)
    have e : loFD x (a :: r) = loFD (min x a.1) r := rfl
    rw [e]
    refine ⟨by omega, fun v hv => ?_⟩
    rcases List.mem_cons.1 hv with rfl | hv
    · omega
    · exact h2 v hv
theorem hif_geD : ∀ (A : List PairV) (x : Int), x ≤ hiFD x A ∧ ∀ v, v ∈ A → v.1 ≤ hiFD x A := by
  intro A
  induction A with
  | nil => intro x; exact ⟨Int.le_refl _, fun v h => (by cases h)⟩
  | cons a r ih =>
    intro x
    obtain ⟨h1, h2⟩ := ih (max x a.1)
    have e : hiFD x (a :: r) = hiFD (max x a.1) r := rfl
    rw [e]
    refine ⟨by omega, fun v hv => ?_⟩
    rcases List.mem_cons.1 hv with rfl | hv
    · omega
    · exact h2 v hv
theorem lof_memD : ∀ (A : List PairV) (x : Int), loFD x A = x ∨ ∃ v, v ∈ A ∧ v.1 = loFD x A := by
  intro A
  induction A with
  | nil => intro x; exact Or.inl rfl
  | cons a r ih =>
    intro x
    have e : loFD x (a :: r) = loFD (min x a.1) r := rfl
    rw [e]
    rcases ih (min x a.1) with h | ⟨v, hv, h⟩
    · by_cases c : x ≤ a.1
      · exact Or.inl (by omega)
      · exact Or.inr ⟨a, by simp, by omega⟩
    · exact Or.inr ⟨v, by simp [hv], h⟩
theorem hif_memD : ∀ (A : List PairV) (x : Int), hiFD x A = x ∨ ∃ v, v ∈ A ∧ v.1 = hiFD x A := by
  intro A
  induction A with
  | nil => intro x; exact Or.inl rfl
  | cons a r ih =>
    intro x
    have e : hiFD x (a :: r) = hiFD (max x a.1) r := rfl
    rw [e]
    rcases ih (max x a.1) with h | ⟨v, hv, h⟩
    · by_cases c : a.1 ≤ x
      · exact Or.inl (by omega)
      · exact Or.inr ⟨a, by simp, by omega⟩
    · exact Or.inr ⟨v, by simp [hv], h⟩
/-- The ends of all values: noughts, if there are none. -/
def loVD (A : List PairV) : Int := match A with | [] => 0 | v :: r => loFD v.1 (v :: r)
def hiVD (A : List PairV) : Int := match A with | [] => 0 | v :: r => hiFD v.1 (v :: r)
theorem lov_ofD {A : List PairV} {x : Int} (h : ∃ v, v ∈ A ∧ v.1 = x) (hx : ∀ v, v ∈ A → x ≤ v.1) : loVD A = x := by
  obtain ⟨v, hv, e⟩ := h
  cases A with
  | nil => cases hv
  | cons a r =>
    show loFD a.1 (a :: r) = x
    have h1 := (lof_leD (a :: r) a.1).2 v hv
    rcases lof_memD (a :: r) a.1 with h | ⟨u, hu, h⟩
    · have := hx a (by simp); omega
    · have := hx u hu; omega
theorem hiv_ofD {A : List PairV} {x : Int} (h : ∃ v, v ∈ A ∧ v.1 = x) (hx : ∀ v, v ∈ A → v.1 ≤ x) : hiVD A = x := by
  obtain ⟨v, hv, e⟩ := h
  cases A with
  | nil => cases hv
  | cons a r =>
    show hiFD a.1 (a :: r) = x
    have h1 := (hif_geD (a :: r) a.1).2 v hv
    rcases hif_memD (a :: r) a.1 with h | ⟨u, hu, h⟩
    · have := hx a (by simp); omega
    · have := hx u hu; omega
theorem lov_factsD {A : List PairV} (h : A ≠ []) : (∃ v, v ∈ A ∧ v.1 = loVD A) ∧ ∀ v, v ∈ A → loVD A ≤ v.1 := by
  cases A with
  | nil => exact absurd rfl h
  | cons a r =>
    refine ⟨?_, (lof_leD (a :: r) a.1).2⟩
    rcases lof_memD (a :: r) a.1 with h | ⟨u, hu, h⟩
    · exact ⟨a, by simp, h.symm⟩
    · exact ⟨u, hu, h⟩
theorem hiv_factsD {A : List PairV} (h : A ≠ []) : (∃ v, v ∈ A ∧ v.1 = hiVD A) ∧ ∀ v, v ∈ A → v.1 ≤ hiVD A := by
  cases A with
  | nil => exact absurd rfl h
  | cons a r =>
    refine ⟨?_, (hif_geD (a :: r) a.1).2⟩
    rcases hif_memD (a :: r) a.1 with h | ⟨u, hu, h⟩
    · exact ⟨a, by simp, h.symm⟩
    · exact ⟨u, hu, h⟩
theorem ends_appD {A B : List PairV} (hA : A ≠ []) (hB : B ≠ []) : loVD (A ++ B) = min (loVD A) (loVD B) ∧ hiVD (A ++ B) = max (hiVD A) (hiVD B) := by
  obtain ⟨⟨a, ha, ea⟩, la⟩ := lov_factsD hA
  obtain ⟨⟨b, hb, eb⟩, lb⟩ := lov_factsD hB
  obtain ⟨⟨c, hc, ec⟩, hc'⟩ := hiv_factsD hA
  obtain ⟨⟨d, hd, ed⟩, hd'⟩ := hiv_factsD hB
  constructor
  · refine lov_ofD ?_ fun v hv => ?_
    · by_cases h : loVD A ≤ loVD B
      · exact ⟨a, by simp [ha], by omega⟩
      · exact ⟨b, by simp [hb], by omega⟩
    · rcases List.mem_append.1 hv with h | h
      · have := la v h; omega
      · have := lb v h; omega
  · refine hiv_ofD ?_ fun v hv => ?_
    · by_cases h : hiVD B ≤ hiVD A
      · exact ⟨c, by simp [hc], by omega⟩
      · exact ⟨d, by simp [hd], by omega⟩
    · rcases List.mem_append.1 hv with h | h
      · have := hc' v h; omega
      · have := hd' v h; omega
theorem ends_oneD (v : PairV) : loVD [v] = v.1 ∧ hiVD [v] = v.1 := by
  constructor
  · show min v.1 v.1 = v.1; omega
  · show max v.1 v.1 = v.1; omega
theorem ends_snocD {A : List PairV} (hA : A ≠ []) (v : PairV) : loVD (A ++ [v]) = min (loVD A) v.1 ∧ hiVD (A ++ [v]) = max (hiVD A) v.1 := by
  have h := ends_appD hA (B := [v]) (by simp)
  rw [(ends_oneD v).1, (ends_oneD v).2] at h
  exact h
/-- What Ends tells of values. -/
def endAD (A : List PairV) : Int × Int × Bool := if A = [] then (0, 0, false) else (loVD A, hiVD A, true)
theorem ret_endsD {a b x y : Int} {c : Bool} (h : a = x) (h' : b = y) : Ending.returned (.tuple #[.int .i64 a, .int .i64 b, .bool c]) = .returned (.tuple #[.int .i64 x, .int .i64 y, .bool c]) := by rw [h, h']
theorem lof_bdD {A : List PairV} (h : ∀ p, p ∈ A → okP p) {x : Int} (hx : I64 x) : I64 (loFD x A) := by
  rcases lof_memD A x with e | ⟨v, hv, e⟩
  · rw [e]; exact hx
  · rw [← e]; exact (h v hv).1
theorem hif_bdD {A : List PairV} (h : ∀ p, p ∈ A → okP p) {x : Int} (hx : I64 x) : I64 (hiFD x A) := by
  rcases hif_memD A x with e | ⟨v, hv, e⟩
  · rw [e]; exact hx
  · rw [← e]; exact (h v hv).1

set_option maxRecDepth 100000 in
set_option maxHeartbeats 1000000 in
theorem rends19_any (w : World) (a : Option Addr) (cap : Nat) (A : List PairV) (x y : Int) (b : Bool) (h : Pairs w a A) (hl : A.length ≤ 1000) (he : endAD A = (x, y, b)) :
    Calls Try.prog 16 #[.slice a A.length cap] w fun e w' => e = .returned (.tuple #[.int .i64 x, .int .i64 y, .bool b]) ∧ Below w.heap.size w w' := by
  have HI := Lib.hid h
  cases A with
  | nil =>
    have e : endAD [] = (0, 0, false) := rfl
    rw [e] at he
    obtain ⟨rfl, rfl, rfl⟩ : 0 = x ∧ 0 = y ∧ false = b := by simpa using he
    clear h he e
    go_enter Try.func16, Try.ntmps16
    go_wp2_with fail
    go_ret3
    exact ⟨rfl, Below.refl _ _⟩
  | cons p0 r =>
    have e : endAD (p0 :: r) = (loFD p0.1 (p0 :: r), hiFD p0.1 (p0 :: r), true) := by unfold endAD; rw [if_neg (by simp)]; rfl
    rw [e] at he
    obtain ⟨h1, h2, rfl⟩ : loFD p0.1 (p0 :: r) = x ∧ hiFD p0.1 (p0 :: r) = y ∧ true = b := by simpa using he
    have HX := Lib.hid h1
    have HY := Lib.hid h2
    have h0 : (p0 :: r)[0]? = some p0 := rfl
    have n0 : 0 < (p0 :: r).length := by simp
    have HLB := Lib.hid (fun k => lof_bdD (A := (p0 :: r).take k) (fun p hp => h.ok p (List.mem_of_mem_take hp)) (h.ok _ (List.mem_of_getElem? h0)).1)
    have HHB := Lib.hid (fun k => hif_bdD (A := (p0 :: r).take k) (fun p hp => h.ok p (List.mem_of_mem_take hp)) (h.ok _ (List.mem_of_getElem? h0)).1)
    generalize p0 :: r = A at *
    obtain ⟨x0, n0'⟩ := p0
    obtain ⟨b0, off0, rfl, hbl0, d0, d1⟩ := HI.out.at_ 0 _ h0
    have hk0 := HI.out.ok _ (List.mem_of_getElem? h0)
    obtain ⟨⟨z1, z2⟩, z3, z4⟩ := hk0
    simp only [Nat.zero_mul, Nat.mul_zero, Nat.add_zero] at d0 d1 z1 z2 z3 z4 HX HY HLB HHB
    have nz : ((A.length : Int) == 0) = false := by rw [beq_eq_false_iff_ne]; omega
    clear h he e h1 h2 h0
    go_enter Try.func16, Try.ntmps16
    go_wp2_with fail
    go_loopw [5, 6, 22] (fun l g j wr => ∃ k : Nat, k ≤ A.length ∧ j = .int .i64 k ∧ l = .int .i64 (loFD x0 (A.take k)) ∧ g = .int .i64 (hiFD x0 (A.take k)) ∧ Below w.heap.size w wr) (fun _ _ j _ => A.length - (intOf j).toNat)
    case atStart => exact ⟨0, Nat.zero_le _, rfl, rfl, rfl, Below.refl _ _⟩
    case round =>
      obtain ⟨k, hk, rfl, rfl, rfl, hb2⟩ := hrel
      have hlb := HLB.out k
      have hhb := HHB.out k
      obtain ⟨LO, hLO⟩ : ∃ LO, loFD x0 (A.take k) = LO := ⟨_, rfl⟩
      obtain ⟨HI2, hHI2⟩ : ∃ HI2, hiFD x0 (A.take k) = HI2 := ⟨_, rfl⟩
      rw [hLO] at hlb
      rw [hHI2] at hhb
      rw [hLO, hHI2]
      obtain ⟨y0, y1⟩ := hlb
      obtain ⟨y2, y3⟩ := hhb
      have HLO := Lib.hid hLO
      have HHI := Lib.hid hHI2
      clear hLO hHI2
      by_cases hlt : k < A.length
      · have kk : (k : Int) < A.length := by omega
        have hxk : A[k]? = some A[k] := List.getElem?_eq_getElem hlt
        generalize hit : A[k] = p at *
        obtain ⟨px, pc⟩ := p
        obtain ⟨b, off, e2, hbl, c0, c1⟩ := (HI.out.call hb2).at_ k _ hxk
        obtain ⟨rfl, rfl⟩ : b0 = b ∧ off0 = off := by simpa using e2
        have HS1 : Hid (loFD x0 (A.take (k + 1)) = min LO px) := Lib.hid (by rw [take_snocP hxk, lof_snocD, HLO.out])
        have HS2 : Hid (hiFD x0 (A.take (k + 1)) = max HI2 px) := Lib.hid (by rw [take_snocP hxk, hif_snocD, HHI.out])
        have hok := HI.out.ok _ (List.mem_of_getElem? hxk)
        obtain ⟨⟨o1, o2⟩, o3, o4⟩ := hok
        have hbs := hb2.size
        simp only at c0 c1 o1 o2 o3 o4 HS1 HS2
        clear hxk hit e2
        go_wp2_with fail
        all_goals
          go_roundw
          case rel => exact ⟨k + 1, by omega, by go_num, by rw [HS1.out]; try (congr 1; (first | omega | (split <;> omega))), by rw [HS2.out]; try (congr 1; (first | omega | (split <;> omega))), hb2.alloc hbs _⟩
          case measure => simp [intOf]; omega
      · obtain rfl : k = A.length := by omega
        rw [List.take_length] at HLO HHI
        have kk : ¬ (A.length : Int) < A.length := by omega
        have E : Hid (LO = x ∧ HI2 = y) := Lib.hid ⟨by rw [← HLO.out]; exact HX.out, by rw [← HHI.out]; exact HY.out⟩
        go_wp2_with fail
        go_ret3
        exact ⟨ret_endsD E.out.1 E.out.2, hb2⟩

set_option maxRecDepth 100000 in
set_option maxHeartbeats 1000000 in
theorem rup19_any (w : World) (a : Option Addr) (cap : Nat) (A : List PairV) (x n : Int) (h : Pairs w a A) (hx : I64 x) (hl : A.length ≤ 1000) (hb : sumP A < 18446744073709551616) (hn : whereP (fun y => decide (y ≤ x)) A = n) :
    Calls Try.prog 17 #[.slice a A.length cap, .int .i64 x] w fun e w' => e = .returned (.int .u64 n) ∧ Below w.heap.size w w' := by
  have HI := Lib.hid h
  have HN := Lib.hid hn
  have HP := Lib.hid (fun k => where_partW (L := A) (fun y => decide (y ≤ x)) (ok_pos h.ok) k)
  obtain ⟨x0, x1⟩ := hx
  clear h hn
  go_enter Try.func17, Try.ntmps17
  go_wp2_with fail
  go_loopw [5, 10] (fun s j wr => ∃ (k : Nat) (m : Int), k ≤ A.length ∧ j = .int .i64 k ∧ s = .int .u64 m ∧ m = whereP (fun y => decide (y ≤ x)) (A.take k) ∧ Below w.heap.size w wr) (fun _ j _ => A.length - (intOf j).toNat)
  case atStart => exact ⟨0, 0, Nat.zero_le _, rfl, rfl, rfl, Below.refl _ _⟩
  case round =>
    obtain ⟨k, m, hk, rfl, rfl, hm, hb2⟩ := hrel
    have HM := Lib.hid hm
    by_cases hlt : k < A.length
    · have kk : (k : Int) < A.length := by omega
      have hxk : A[k]? = some A[k] := List.getElem?_eq_getElem hlt
      generalize hit : A[k] = p at *
      obtain ⟨px, pc⟩ := p
      obtain ⟨b, off, rfl, hbl, c0, c1⟩ := (HI.out.call hb2).at_ k _ hxk
      have HS := Lib.hid (where_snocW (fun y => decide (y ≤ x)) hxk)
      have hok := HI.out.ok _ (List.mem_of_getElem? hxk)
      have p1 := HP.out (k + 1)
      have p0 := HP.out k
      rw [HS.out] at p1
      rw [← hm] at p0 p1
      have hbs := hb2.size
      obtain ⟨⟨o1, o2⟩, o3, o4⟩ := hok
      simp only [decide_eq_true_eq] at c0 c1 o1 o2 o3 o4 p1 HS
      clear hxk hit hm
      by_cases he : px ≤ x
      · rw [if_pos he] at p1 HS
        obtain ⟨p2, p3⟩ := p1
        obtain ⟨p4, _⟩ := p0
        go_wp2_with fail
        go_roundw
        case rel => exact ⟨k + 1, m + pc, by omega, by go_num, rfl, by rw [HS.out, HM.out], hb2.alloc hbs _⟩
        case measure => simp [intOf]; omega
      · rw [if_neg he] at p1 HS
        clear p0 p1
        go_wp2_with fail
        go_roundw
        case rel => exact ⟨k + 1, m, by omega, by go_num, rfl, by rw [HS.out, HM.out, Int.add_zero], hb2.alloc hbs _⟩
        case measure => simp [intOf]; omega
    · obtain rfl : k = A.length := by omega
      rw [List.take_length] at HM
      have E : Hid (m = n) := Lib.hid (by rw [HM.out]; exact HN.out)
      have kk : ¬ (A.length : Int) < A.length := by omega
      clear hm
      go_wp2_with fail
      go_ret
      exact ⟨ret_int E.out, hb2⟩

theorem endA_snoc (A : List PairV) (v : PairV) : endAD (A ++ [v]) = addW (endAD A) v.1 := by
  unfold endAD addW
  rw [if_neg (by simp)]
  by_cases h : A = []
  · subst h
    rw [if_pos rfl]
    simp only [List.nil_append, Bool.false_eq_true, if_false]
    rw [(ends_oneD v).1, (ends_oneD v).2]
  · rw [if_neg h]
    simp only [if_true]
    rw [(ends_snocD h v).1, (ends_snocD h v).2]
theorem endA_app (A B : List PairV) : endAD (A ++ B) = joinW (endAD A) (endAD B) := by
  unfold joinW
  by_cases hB : B = []
  · subst hB
    have : endAD [] = (0, 0, false) := rfl
    rw [this, List.append_nil]; rfl
  · have eB : endAD B = (loVD B, hiVD B, true) := by unfold endAD; rw [if_neg hB]
    rw [eB]
    simp only [if_true]
    by_cases hA : A = []
    · subst hA
      have : endAD [] = (0, 0, false) := rfl
      rw [this, List.nil_append, eB]; rfl
    · have eA : endAD A = (loVD A, hiVD A, true) := by unfold endAD; rw [if_neg hA]
      rw [eA]
      simp only [if_true]
      unfold endAD
      rw [if_neg (by simp [hA]), (ends_appD hA hB).1, (ends_appD hA hB).2]
end Go.Proofs.Ytbdfmnlfdhhnjaa

/-
  What package req is to do, told as properties of its calls.
-/
namespace Go.Proofs.Ytbdfmnlfdhhnjaa
set_option linter.unusedVariables false
set_option linter.unusedSimpArgs false
open Go.RowKit

/-- Can a width be? -/
def goodQ (B : Int) : Bool := decide (4 ≤ B) && decide (B ≤ 64) && decide (B % 4 = 0)
theorem goodQ_iff {B : Int} : goodQ B = true ↔ (4 ≤ B ∧ B ≤ 64 ∧ B % 4 = 0) := by
  unfold goodQ
  simp only [Bool.and_eq_true, decide_eq_true_eq]
  constructor
  · rintro ⟨⟨h1, h2⟩, h3⟩; exact ⟨h1, h2, h3⟩
  · rintro ⟨h1, h2, h3⟩; exact ⟨⟨h1, h2⟩, h3⟩
/-- What can be loaded. -/
structure LoadQ (B : Int) (R : List (List Int)) (used low high : Int) : Prop where
  some_ : 1 ≤ R.length
  few : R.length ≤ 16
  short : ∀ r, r ∈ R → (r.length : Int) < B
  top : 1 < R.length → ∀ r, R[R.length - 1]? = some r → r ≠ []
  room : wtR R ≤ B * 1024
  use : 0 ≤ used
  ends : low ≤ high
  none_ : wtR R = 0 → low = 0 ∧ high = 0
/-- What is joined. -/
def jointT (B : Int) (c : Nat → Bool) (t o : Tow) : Tow := if wtR o.1 = 0 then t else joinT B c t o

/-- Rq w P S B word t e: at block P lies a tower of width B and of a tape of that word, whose rows and whose number of used coins are t, and whose ends are e; S are its blocks. -/
abbrev RqT := World → Nat → (Nat → Prop) → Int → Int → Tow → (Int × Int × Bool) → Prop
structure RqDoes (Rq : RqT) : Prop where
  keep : ∀ (w w' : World) (P : Nat) (S : Nat → Prop) (B word : Int) (t : Tow) (e : Int × Int × Bool), Rq w P S B word t e → (∀ i, S i → w'.heap[i]? = w.heap[i]?) → Rq w' P S B word t e
  lt : ∀ (w : World) (P : Nat) (S : Nat → Prop) (B word : Int) (t : Tow) (e : Int × Int × Bool), Rq w P S B word t e → ∀ i, S i → i < w.heap.size
  new : ∀ (w : World) (B word : Int), goodQ B = true → Word word → Calls Try.prog 29 #[.agg #[.int .i64 B, .int .u64 word]] w fun r w' => ∃ P S, r = .returned (.tuple #[.pointer (some ⟨P, 0, none⟩), .int .i64 0]) ∧ Rq w' P S B word newT (0, 0, false) ∧ (∀ i, S i → w.heap.size ≤ i) ∧ Below w.heap.size w w'
  bad : ∀ (w : World) (B word : Int), I64 B → Word word → goodQ B = false → Calls Try.prog 29 #[.agg #[.int .i64 B, .int .u64 word]] w fun r w' => r = .returned (.tuple #[.pointer none, .int .i64 1]) ∧ Below w.heap.size w w'
  total : ∀ (w : World) (P : Nat) (S : Nat → Prop) (B word : Int) (t : Tow) (e : Int × Int × Bool), Rq w P S B word t e → Calls Try.prog 21 #[.pointer (some ⟨P, 0, none⟩)] w fun r w' => r = .returned (.int .u64 (wtR t.1)) ∧ Below w.heap.size w w'
  most : ∀ (w : World) (P : Nat) (S : Nat → Prop) (B word : Int) (t : Tow) (e : Int × Int × Bool), Rq w P S B word t e → Calls Try.prog 23 #[.pointer (some ⟨P, 0, none⟩)] w fun r w' => r = .returned (.int .u64 (B * 1024)) ∧ Below w.heap.size w w'
  config : ∀ (w : World) (P : Nat) (S : Nat → Prop) (B word : Int) (t : Tow) (e : Int × Int × Bool), Rq w P S B word t e → Calls Try.prog 22 #[.pointer (some ⟨P, 0, none⟩)] w fun r w' => r = .returned (.agg #[.int .i64 B, .int .u64 word]) ∧ Below w.heap.size w w'
  used : ∀ (w : World) (P : Nat) (S : Nat → Prop) (B word : Int) (t : Tow) (e : Int × Int × Bool), Rq w P S B word t e → Calls Try.prog 26 #[.pointer (some ⟨P, 0, none⟩)] w fun r w' => r = .returned (.int .i64 t.2) ∧ Below w.heap.size w w'
  ends : ∀ (w : World) (P : Nat) (S : Nat → Prop) (B word : Int) (t : Tow) (x y : Int) (z : Bool), Rq w P S B word t (x, y, z) → Calls Try.prog 15 #[.pointer (some ⟨P, 0, none⟩)] w fun r w' => r = .returned (.tuple #[.int .i64 x, .int .i64 y, .bool z]) ∧ Below w.heap.size w w'
  rank : ∀ (w : World) (P : Nat) (S : Nat → Prop) (B word : Int) (t : Tow) (e : Int × Int × Bool) (x : Int), Rq w P S B word t e → I64 x → Calls Try.prog 19 #[.pointer (some ⟨P, 0, none⟩), .int .i64 x] w fun r w' => r = .returned (.int .u64 (rankR x t.1)) ∧ Below w.heap.size w w'
  quantile : ∀ (w : World) (P : Nat) (S : Nat → Prop) (B word : Int) (t : Tow) (e : Int × Int × Bool) (pa pb : Int), Rq w P S B word t e → Word pa → Word pb → Calls Try.prog 13 #[.pointer (some ⟨P, 0, none⟩), .agg #[.int .u64 pa, .int .u64 pb]] w fun r w' => r = .returned (.tuple #[.int .i64 (quanT pa pb t.1).1, .int .i64 (quanT pa pb t.1).2]) ∧ Below w.heap.size w w'
  rows : ∀ (w : World) (P : Nat) (S : Nat → Prop) (B word : Int) (t : Tow) (e : Int × Int × Bool), Rq w P S B word t e → Calls Try.prog 25 #[.pointer (some ⟨P, 0, none⟩)] w fun r w' => ∃ A c R, r = .returned (.slice A (List.length R) c) ∧ RowsN w' A R ∧ lsI R = t.1 ∧ Below w.heap.size w w'
  put : ∀ (w : World) (P : Nat) (S : Nat → Prop) (B word : Int) (t : Tow) (e : Int × Int × Bool) (x : Int) (c : Nat), Rq w P S B word t e → I64 x → 0 < c → c ≤ 1024 → wtR t.1 + c ≤ B * 1024 → t.2 ≤ 1000000000 → Calls Try.prog 28 #[.pointer (some ⟨P, 0, none⟩), .int .i64 x, .int .u64 c] w fun r w' => ∃ S', r = .returned (.int .i64 0) ∧ Rq w' P S' B word (playT B (coinB word) t (List.replicate c x)) (addW e x) ∧ Keeps S w w' ∧ (∀ i, S' i → S i ∨ w.heap.size ≤ i)
  zero : ∀ (w : World) (P : Nat) (S : Nat → Prop) (B word : Int) (t : Tow) (e : Int × Int × Bool) (x : Int), Rq w P S B word t e → I64 x → Calls Try.prog 28 #[.pointer (some ⟨P, 0, none⟩), .int .i64 x, .int .u64 0] w fun r w' => r = .returned (.int .i64 1) ∧ Below w.heap.size w w'
  long : ∀ (w : World) (P : Nat) (S : Nat → Prop) (B word : Int) (t : Tow) (e : Int × Int × Bool) (x c : Int), Rq w P S B word t e → I64 x → Word c → 1024 < c → Calls Try.prog 28 #[.pointer (some ⟨P, 0, none⟩), .int .i64 x, .int .u64 c] w fun r w' => r = .returned (.int .i64 3) ∧ Below w.heap.size w w'
  full : ∀ (w : World) (P : Nat) (S : Nat → Prop) (B word : Int) (t : Tow) (e : Int × Int × Bool) (x c : Int), Rq w P S B word t e → I64 x → 0 < c → c ≤ 1024 → B * 1024 < wtR t.1 + c → Calls Try.prog 28 #[.pointer (some ⟨P, 0, none⟩), .int .i64 x, .int .u64 c] w fun r w' => r = .returned (.int .i64 6) ∧ Below w.heap.size w w'
  join : ∀ (w : World) (P : Nat) (S : Nat → Prop) (B word : Int) (t : Tow) (e : Int × Int × Bool) (P' : Nat) (S' : Nat → Prop) (word' : Int) (t' : Tow) (e' : Int × Int × Bool), Rq w P S B word t e → Rq w P' S' B word' t' e' → (∀ i, S i → ¬ S' i) → wtR t.1 + wtR t'.1 ≤ B * 1024 → t.2 ≤ 1000000000 → Calls Try.prog 24 #[.pointer (some ⟨P, 0, none⟩), .pointer (some ⟨P', 0, none⟩)] w fun r w' => ∃ S2, r = .returned (.int .i64 0) ∧ Rq w' P S2 B word (jointT B (coinB word) t t') (joinW e e') ∧ Keeps S w w' ∧ (∀ i, S2 i → S i ∨ w.heap.size ≤ i)
  match_ : ∀ (w : World) (P : Nat) (S : Nat → Prop) (B word : Int) (t : Tow) (e : Int × Int × Bool) (P' : Nat) (S' : Nat → Prop) (B' word' : Int) (t' : Tow) (e' : Int × Int × Bool), Rq w P S B word t e → Rq w P' S' B' word' t' e' → B ≠ B' → Calls Try.prog 24 #[.pointer (some ⟨P, 0, none⟩), .pointer (some ⟨P', 0, none⟩)] w fun r w' => r = .returned (.int .i64 8) ∧ Below w.heap.size w w'
  join_nil : ∀ (w : World) (P : Nat) (S : Nat → Prop) (B word : Int) (t : Tow) (e : Int × Int × Bool), Rq w P S B word t e → Calls Try.prog 24 #[.pointer (some ⟨P, 0, none⟩), .pointer none] w fun r w' => r = .returned (.int .i64 2) ∧ Below w.heap.size w w'
  load : ∀ (w : World) (B word : Int) (A : Option Addr) (n c : Nat) (R : List RowI) (used : Nat) (low high : Int), goodQ B = true → Word word → RowsN w A R → R.length = n → I64 used → I64 low → I64 high → (∀ r, r ∈ R → r.l.length ≤ 70) → LoadQ B (lsI R) used low high → Calls Try.prog 32 #[.agg #[.int .i64 B, .int .u64 word], .slice A n c, .int .i64 used, .int .i64 low, .int .i64 high] w fun r w' => ∃ P S, r = .returned (.tuple #[.pointer (some ⟨P, 0, none⟩), .int .i64 0]) ∧ Rq w' P S B word (lsI R, used) (if wtR (lsI R) = 0 then (0, 0, false) else (low, high, true)) ∧ (∀ i, S i → w.heap.size ≤ i) ∧ Below w.heap.size w w'
  unfit : ∀ (w : World) (B word : Int) (A : Option Addr) (n c : Nat) (R : List RowI) (used low high : Int), goodQ B = true → Word word → RowsN w A R → R.length = n → n ≤ 20 → I64 used → I64 low → I64 high → (∀ r, r ∈ R → r.l.length ≤ 70) → ¬ LoadQ B (lsI R) used low high → Calls Try.prog 32 #[.agg #[.int .i64 B, .int .u64 word], .slice A n c, .int .i64 used, .int .i64 low, .int .i64 high] w fun r w' => r = .returned (.tuple #[.pointer none, .int .i64 1]) ∧ Below w.heap.size w w'
theorem RqDoes.call {Rq : RqT} (D : RqDoes Rq) {w w' : World} {P : Nat} {S : Nat → Prop} {B word : Int} {t : Tow} {e : Int × Int × Bool} (h : Rq w P S B word t e) (hb : Below w.heap.size w w') : Rq w' P S B word t e :=
  D.keep w w' P S B word t e h fun i hi => hb.block i (D.lt _ _ _ _ _ _ _ h i hi)
theorem RqDoes.past {Rq : RqT} (D : RqDoes Rq) {w w' : World} {P : Nat} {S S0 : Nat → Prop} {B word : Int} {t : Tow} {e : Int × Int × Bool} (h : Rq w P S B word t e) (hk : Keeps S0 w w') (hS : ∀ i, S i → ¬ S0 i) : Rq w' P S B word t e :=
  D.keep w w' P S B word t e h fun i hi => hk.block i (D.lt _ _ _ _ _ _ _ h i hi) (hS i hi)

/-- A nil tower. -/
structure RqNil : Prop where
  ends : ∀ (w : World), Calls Try.prog 15 #[.pointer none] w fun r w' => r = .returned (.tuple #[.int .i64 0, .int .i64 0, .bool false]) ∧ Below w.heap.size w w'
  quantile : ∀ (w : World) (pa pb : Int), Word pa → Word pb → Calls Try.prog 13 #[.pointer none, .agg #[.int .u64 pa, .int .u64 pb]] w fun r w' => r = .returned (.tuple #[.int .i64 0, .int .i64 2]) ∧ Below w.heap.size w w'
  put : ∀ (w : World) (x c : Int), I64 x → Word c → Calls Try.prog 28 #[.pointer none, .int .i64 x, .int .u64 c] w fun r w' => r = .returned (.int .i64 2) ∧ Below w.heap.size w w'
  join : ∀ (w : World), Calls Try.prog 24 #[.pointer none, .pointer none] w fun r w' => r = .returned (.int .i64 2) ∧ Below w.heap.size w w'
  total : ∀ (w : World), Calls Try.prog 21 #[.pointer none] w fun r w' => r = .returned (.int .u64 0) ∧ Below w.heap.size w w'
  most : ∀ (w : World), Calls Try.prog 23 #[.pointer none] w fun r w' => r = .returned (.int .u64 0) ∧ Below w.heap.size w w'
  rank : ∀ (w : World) (x : Int), I64 x → Calls Try.prog 19 #[.pointer none, .int .i64 x] w fun r w' => r = .returned (.int .u64 0) ∧ Below w.heap.size w w'
  rows : ∀ (w : World), Calls Try.prog 25 #[.pointer none] w fun r w' => ∃ A c, r = .returned (.slice A 0 c) ∧ Below w.heap.size w w'
  used : ∀ (w : World), Calls Try.prog 26 #[.pointer none] w fun r w' => r = .returned (.int .i64 0) ∧ Below w.heap.size w w'
  config : ∀ (w : World), Calls Try.prog 22 #[.pointer none] w fun r w' => r = .returned (.agg #[.int .i64 0, .int .u64 0]) ∧ Below w.heap.size w w'

/-! ### How many coins, how much room -/
theorem cnt_fuel {B : Int} : ∀ (f : Nat) (N : List Nat), cntR B f N ≤ f
  | 0, N => Nat.le_refl _
  | f + 1, [] => Nat.zero_le _
  | f + 1, n :: N => by
    by_cases c : (n : Int) < B
    · rw [cnt_lt c]; have := cnt_fuel (B := B) f N; omega
    · rw [cnt_ge c]; have := cnt_fuel (B := B) f (addH ((n - keepN (B / 2) n) / 2) N); omega
theorem tow_used {B : Int} (c : Nat → Bool) (t : Tow) : (towS B c t).2 ≤ t.2 + fuelR t.1 := by
  unfold towS
  rw [setF_is (fuelR t.1) t.1 t.2 (cntR B (fuelR t.1) (lenR t.1)) (Nat.le_refl _)]
  show t.2 + cntR B (fuelR t.1) (lenR t.1) ≤ _
  have := cnt_fuel (B := B) (fuelR t.1) (lenR t.1)
  omega
theorem siz_short {K : Nat} : ∀ {R : List (List Int)}, (∀ r, r ∈ R → r.length ≤ K) → sizR R ≤ K * R.length
  | [], _ => Nat.zero_le _
  | r :: R, h => by
    have i := siz_short (K := K) (R := R) fun q hq => h q (List.mem_cons_of_mem _ hq)
    have h0 := h r List.mem_cons_self
    rw [sizR_cons, List.length_cons, Nat.mul_add]
    omega
theorem TowP.fuel {B : Int} {V : List Int} {R : List (List Int)} (h : TowP B V R) (h0 : 4 ≤ B) (h64 : B ≤ 64) (hn : (V.length : Int) ≤ B * 1024) : R.length ≤ 13 ∧ fuelR R ≤ 832 ∧ ∀ r, r ∈ R → r.length ≤ 63 := by
  have hf := h.few h0 hn
  have hs : ∀ r, r ∈ R → r.length ≤ 63 := fun r hr => by have := h.short r hr; omega
  have hz := siz_short (K := 63) hs
  refine ⟨hf, ?_, hs⟩
  unfold fuelR
  omega
theorem put_used {B : Int} {V : List Int} {t : Tow} (h : TowP B V t.1) (h0 : 4 ≤ B) (h64 : B ≤ 64) (hn : (V.length : Int) ≤ B * 1024) (c : Nat → Bool) (x : Int) : (putT B c t x).2 ≤ t.2 + 834 := by
  have hu := tow_used (B := B) c (behR [x] t.1, t.2)
  have hf := (h.fuel h0 h64 hn).2.1
  obtain ⟨b1, b2⟩ := behR_siz [x] t.1
  have e : fuelR (behR [x] t.1) ≤ fuelR t.1 + 2 := by
    unfold fuelR
    rw [b1, b2]
    have : [x].length = 1 := rfl
    omega
  show (towS B c (behR [x] t.1, t.2)).2 ≤ _
  have h2 : (towS B c (behR [x] t.1, t.2)).2 ≤ t.2 + fuelR (behR [x] t.1) := hu
  omega
theorem play_less {B : Int} (h4 : B % 4 = 0) (h0 : 4 ≤ B) (h64 : B ≤ 64) (c : Nat → Bool) : ∀ (W : List Int) {V : List Int} {t : Tow}, TowP B V t.1 → ((V ++ W).length : Int) ≤ B * 1024 → (playT B c t W).2 ≤ t.2 + 834 * W.length
  | [], V, t, h, hn => Nat.le_refl _
  | x :: W, V, t, h, hn => by
    rw [List.length_append, List.length_cons] at hn
    have h1 := put_used h h0 h64 (by omega) c x
    have h2 := play_less h4 h0 h64 c W (h.put h4 h0 c x) (by rw [List.length_append, List.length_append]; have : [x].length = 1 := rfl; omega)
    show (playT B c (putT B c t x) W).2 ≤ _
    rw [List.length_cons]
    omega
end Go.Proofs.Ytbdfmnlfdhhnjaa

/-
  What package coins is to do, told as properties of its calls; alive.
-/
namespace Go.Proofs.Ytbdfmnlfdhhnjaa
set_option linter.unusedVariables false
set_option linter.unusedSimpArgs false
open Go.RowKit

/-- Cells that may be written. -/
structure Slots (w : World) (g o q : Nat) : Prop where
  c : ∀ i, i < q → ∃ v, w.cell? ⟨g, o + i, none⟩ = some v
  f : ∀ j, w.frozen? ⟨g, j, none⟩ = false
theorem Slots.put {w : World} {g o q j : Nat} {v : Value} (h : Slots w g o q) : Slots (w.setCell ⟨g, o + j, none⟩ v) g o q :=
  ⟨fun i hi => by
    obtain ⟨u, hu⟩ := h.c i hi
    by_cases e : i = j
    · subst e
      exact ⟨v, World.cell?_setCell_same _ _ _ hu⟩
    · exact ⟨u, by rw [World.cell?_setCell_other _ _ _ _ (fun e2 => absurd (Addr.mk.inj e2).2.1 (by omega))]; exact hu⟩, fun o => by rw [World.frozen?_setCell]; exact h.f o⟩
theorem Slots.call {w w' : World} {g o q : Nat} (h : Slots w g o q) (hb : w'.heap[g]? = w.heap[g]?) : Slots w' g o q :=
  ⟨fun i hi => by
    obtain ⟨u, hu⟩ := h.c i hi
    exact ⟨u, by rw [World.cell?_of_block (w := w) (a := ⟨g, o + i, none⟩) hb]; exact hu⟩, fun j => by rw [World.frozen?_of_block (w := w) (a := ⟨g, j, none⟩) hb]; exact h.f j⟩
/-- .. of a row, if there is one. -/
def SlotsV (w : World) (A : Option Addr) (q : Nat) : Prop := q = 0 ∨ ∃ g o, A = some ⟨g, o, none⟩ ∧ g < w.heap.size ∧ Slots w g o q
theorem SlotsV.call {w w' : World} {A : Option Addr} {q : Nat} (h : SlotsV w A q) (hb : Below w.heap.size w w') : SlotsV w' A q := by
  rcases h with h | ⟨g, o, e, hg, hs⟩
  · exact Or.inl h
  · exact Or.inr ⟨g, o, e, Nat.lt_of_lt_of_le hg hb.size, hs.call (hb.block g hg)⟩
/-- A row in new memory that has no spare room: what is appended to it comes into another block. -/
def FullN (w : World) (base : Nat) (v : Value) (L : List Int) : Prop :=
  ∃ A, v = .slice A L.length L.length ∧ (∀ i p, L[i]? = some p → ∃ b off, A = some ⟨b, off, none⟩ ∧ b < w.heap.size ∧ w.cell? ⟨b, off + i, none⟩ = some (.int .i64 p)) ∧ (A = none → L.length = 0) ∧ ∀ a, A = some a → base ≤ a.block ∧ a.block < w.heap.size
/-- A row in new memory that may be written, in its own cells. -/
def PartN (w : World) (base : Nat) (v : Value) (L : List Int) : Prop :=
  ∃ A cap, v = .slice A L.length cap ∧ L.length ≤ cap ∧ (∀ i p, L[i]? = some p → ∃ b off, A = some ⟨b, off, none⟩ ∧ b < w.heap.size ∧ w.cell? ⟨b, off + i, none⟩ = some (.int .i64 p)) ∧ SlotsV w A L.length ∧ ∀ a, A = some a → base ≤ a.block ∧ a.block < w.heap.size
/-- .. and both lie apart. -/
def SplitN (u v : Value) : Prop := ∀ b o n c b' o' n' c', u = .slice (some ⟨b, o, none⟩) n c → v = .slice (some ⟨b', o', none⟩) n' c' → ∀ i j, i < n → j < n' → (⟨b, o + i, none⟩ : Addr) ≠ ⟨b', o' + j, none⟩
theorem FullN.rows {w : World} {base : Nat} {v : Value} {L : List Int} (h : FullN w base v L) (hok : ∀ p, p ∈ L → I64 p) : ∃ A cap, v = .slice A L.length cap ∧ Nums w A L := by
  obtain ⟨A, rfl, h1, _⟩ := h
  exact ⟨A, _, rfl, hok, h1⟩
theorem PartN.rows {w : World} {base : Nat} {v : Value} {L : List Int} (h : PartN w base v L) (hok : ∀ p, p ∈ L → I64 p) : ∃ A cap, v = .slice A L.length cap ∧ Nums w A L := by
  obtain ⟨A, cap, rfl, _, h1, _⟩ := h
  exact ⟨A, _, rfl, hok, h1⟩
theorem PartN.slots {w : World} {base n cap : Nat} {A : Option Addr} {L : List Int} (h : PartN w base (.slice A n cap) L) (hn : L.length = n) : SlotsV w A n := by
  subst hn
  obtain ⟨A', cap', e, _, _, h2, _⟩ := h
  obtain ⟨rfl, _, _⟩ := Value.slice.inj e
  exact h2
theorem PartN.lt {w : World} {base : Nat} {v : Value} {L : List Int} (h : PartN w base v L) : ∀ k, v.ownBlock = some k → base ≤ k ∧ k < w.heap.size := by
  obtain ⟨A, cap, rfl, _, _, _, h3⟩ := h
  intro k hk
  cases A with
  | none => cases hk
  | some a => cases hk; exact h3 a rfl
theorem FullN.lt {w : World} {base : Nat} {v : Value} {L : List Int} (h : FullN w base v L) : ∀ k, v.ownBlock = some k → base ≤ k ∧ k < w.heap.size := by
  obtain ⟨A, rfl, _, _, h3⟩ := h
  intro k hk
  cases A with
  | none => cases hk
  | some a => cases hk; exact h3 a rfl
theorem FullN.call {w w' : World} {base : Nat} {v : Value} {L : List Int} (h : FullN w base v L) (hb : Below w.heap.size w w') : FullN w' base v L := by
  obtain ⟨A, rfl, h1, h2, h3⟩ := h
  refine ⟨A, rfl, fun i p hi => ?_, h2, fun a e => ⟨(h3 a e).1, Nat.lt_of_lt_of_le (h3 a e).2 hb.size⟩⟩
  obtain ⟨b, off, e, hlt, c0⟩ := h1 i p hi
  exact ⟨b, off, e, Nat.lt_of_lt_of_le hlt hb.size, cell_later hb c0⟩
theorem PartN.call {w w' : World} {base : Nat} {v : Value} {L : List Int} (h : PartN w base v L) (hb : Below w.heap.size w w') : PartN w' base v L := by
  obtain ⟨A, cap, rfl, h0, h1, h2, h3⟩ := h
  refine ⟨A, cap, rfl, h0, fun i p hi => ?_, h2.call hb, fun a e => ⟨(h3 a e).1, Nat.lt_of_lt_of_le (h3 a e).2 hb.size⟩⟩
  obtain ⟨b, off, e, hlt, c0⟩ := h1 i p hi
  exact ⟨b, off, e, Nat.lt_of_lt_of_le hlt hb.size, cell_later hb c0⟩
/-- Appending to a row that has no spare room: a new row. -/
theorem wpList_append_full {w : World} {ops : Array Oper} {rest : List Oper} {o : Oper} {a : Act} {Q : Exit → Act → World → Prop} (hgd : o.guard = none) (s x : Operand)
    (ho : o.op = .call { callee := .builtin .append, args := #[s, x], argTypes := #[62, 62] })
    (base : Nat) (v : Value) (L : List Int) (n : Nat) (hln : L.length = n) (ad : Addr) (m cx : Nat) (X : List Int) (hs : a.eval s = v) (hown : FullN w base v L)
    (hx : a.eval x = .slice (some ad) m cx) (hX : X.length = m) (h0 : ∀ i p, X[i]? = some p → w.cell? (ad.add i) = some (.int .i64 p)) (hm : 0 < m) (hn : n + m ≤ 100000)
    (h : ∀ v' w', OwnN w' w.heap.size v' (L ++ X) → w.grownBy w' none → wpList Try.prog ops Q rest (a.put o.dst v') w') : wpList Try.prog ops Q (o :: rest) a w := by
  subst hln hX
  obtain ⟨i0, hi, hz0, hz1, hz2⟩ := info_parts Try.infoInt18
  obtain ⟨A, rfl, h1, h2, h3⟩ := hown
  have hint : ∀ M : List Int, (intsL M).length = M.length * 1 := fun M => by unfold intsL; rw [List.length_map]; omega
  refine wpList_append_grows w hgd s x _ ho _ i0 _ 1 8 Try.underlying62 hi hz0 hz1 hz2 rfl (by decide) A L.length L.length (intsL L) hs (fun e => ⟨h2 e, h2 e⟩) (hint L) ?_ ad X.length cx (intsL X) hx (hint X) ?_ ?_ (by omega) (by unfold maxLen; omega) (by omega) (fun v' w' r1 r2 => h v' w' ?_ r2)
  · intro b e j u hu
    unfold intsL at hu
    rw [List.getElem?_map] at hu
    cases hj : L[j]? with
    | none => rw [hj] at hu; cases hu
    | some p =>
      rw [hj] at hu
      cases hu
      obtain ⟨b', off, e', _, c0⟩ := h1 j p hj
      rw [e] at e'
      cases e'
      rw [Addr.add_lit]
      exact c0
  · intro j u hu
    unfold intsL at hu
    rw [List.getElem?_map] at hu
    cases hj : X[j]? with
    | none => rw [hj] at hu; cases hu
    | some p =>
      rw [hj] at hu
      cases hu
      exact h0 j p hj
  · intro u hu
    unfold intsL at hu
    obtain ⟨p, _, rfl⟩ := List.mem_map.1 hu
    rfl
  · unfold OwnN
    rw [show intsL (L ++ X) = intsL L ++ intsL X by unfold intsL; rw [List.map_append], List.length_append]
    exact r1

/-- Tp w B x k: at block B lies a tape of word x of which k coins were used. -/
abbrev TapT := World → Nat → Int → Nat → Prop
structure TapDoes (Tp : TapT) : Prop where
  keep : ∀ (w w' : World) (B : Nat) (x : Int) (k : Nat), Tp w B x k → w'.heap[B]? = w.heap[B]? → Tp w' B x k
  lt : ∀ (w : World) (B : Nat) (x : Int) (k : Nat), Tp w B x k → B < w.heap.size
  new : ∀ (w : World) (x : Int), Word x → Calls Try.prog 52 #[.int .u64 x] w fun e w' => ∃ B, e = .returned (.pointer (some ⟨B, 0, none⟩)) ∧ Tp w' B x 0 ∧ w.heap.size ≤ B ∧ Below w.heap.size w w'
  next : ∀ (w : World) (B : Nat) (x : Int) (k : Nat), Tp w B x k → Word x → (k : Int) < 4611686018427387904 → Calls Try.prog 66 #[.pointer (some ⟨B, 0, none⟩)] w fun e w' => e = .returned (.bool (coinB x k)) ∧ Tp w' B x (k + 1) ∧ w.grownBy w' (some B)
  used : ∀ (w : World) (B : Nat) (x : Int) (k : Nat), Tp w B x k → Calls Try.prog 48 #[.pointer (some ⟨B, 0, none⟩)] w fun e w' => e = .returned (.int .i64 k) ∧ Below w.heap.size w w'
  skip : ∀ (w : World) (B : Nat) (x : Int) (k u : Nat), Tp w B x k → (u : Int) < 9223372036854775808 → Calls Try.prog 55 #[.pointer (some ⟨B, 0, none⟩), .int .i64 u] w fun e w' => e = .returned (.bool true) ∧ Tp w' B x u ∧ w.grownBy w' (some B)
  back : ∀ (w : World) (B : Nat) (x : Int) (k : Nat) (u : Int), Tp w B x k → I64 u → u < 0 → Calls Try.prog 55 #[.pointer (some ⟨B, 0, none⟩), .int .i64 u] w fun e w' => e = .returned (.bool false) ∧ Below w.heap.size w w'
theorem TapDoes.call {Tp : TapT} (D : TapDoes Tp) {w w' : World} {B : Nat} {x : Int} {k : Nat} (h : Tp w B x k) (hb : Below w.heap.size w w') : Tp w' B x k :=
  D.keep w w' B x k h (hb.block B (D.lt _ _ _ _ h))
theorem TapDoes.other {Tp : TapT} (D : TapDoes Tp) {w w' : World} {B C : Nat} {x : Int} {k : Nat} (h : Tp w B x k) (hb : w.grownBy w' (some C)) (hne : B ≠ C) : Tp w' B x k :=
  D.keep w w' B x k h (hb.block B (D.lt _ _ _ _ h) (fun e => hne (Option.some.inj e)))
/-- A nil tape. -/
structure TapNil : Prop where
  next : ∀ (w : World), Calls Try.prog 66 #[.pointer none] w fun e w' => e = .returned (.bool false) ∧ Below w.heap.size w w'
  used : ∀ (w : World), Calls Try.prog 48 #[.pointer none] w fun e w' => e = .returned (.int .i64 0) ∧ Below w.heap.size w w'
  skip : ∀ (w : World) (u : Int), I64 u → Calls Try.prog 55 #[.pointer none, .int .i64 u] w fun e w' => e = .returned (.bool false) ∧ Below w.heap.size w w'
/-- Rows that are halved and split. -/
structure RowDoes : Prop where
  halve : ∀ (w : World) (A : Option Addr) (n cap : Nat) (L : List Int) (b : Bool), Nums w A L → L.length = n → n ≤ 50000 → Calls Try.prog 65 #[.slice A n cap, .bool b] w fun e w' => ∃ v, e = .returned v ∧ OwnN w' w.heap.size v (halvB b L) ∧ Below w.heap.size w w'
  split : ∀ (w : World) (A : Option Addr) (n cap : Nat) (L : List Int) (keep : Int), Nums w A L → L.length = n → n ≤ cap → n ≤ 50000 → I64 keep → Calls Try.prog 64 #[.slice A n cap, .int .i64 keep] w fun e w' => ∃ u v, e = .returned (.tuple #[u, v]) ∧ FullN w' w.heap.size u (stayL keep L) ∧ PartN w' w.heap.size v (restL keep L) ∧ SplitN u v ∧ Below w.heap.size w w'

theorem nums_new {W : World} {cs : Array Value} {L : List Int} (ok : ∀ p, p ∈ L → I64 p) (hL : ∀ (i : Nat) (p : Int), L[i]? = some p → cs[i]? = some (.int .i64 p)) : Nums (W.alloc (.cells cs 2)) (some ⟨W.heap.size, 0, none⟩) L :=
  ⟨ok, fun i p hi => ⟨W.heap.size, 0, rfl, by simp, by
    have := Joins.cell_of_block (i := 0 + i) (new_cells20 W (.cells cs 2))
    rw [this, Nat.zero_add]
    exact hL i p hi⟩⟩
theorem al20_nums (W : World) : Nums (W.alloc (.cells #[.int .i64 1, .int .i64 2, .int .i64 3, .int .i64 4] 2)) (some ⟨W.heap.size, 0, none⟩) [1, 2, 3, 4] :=
  nums_new (fun p hp => by
    have : p = 1 ∨ p = 2 ∨ p = 3 ∨ p = 4 := by simpa using hp
    exact ⟨by omega, by omega⟩) fun i p hi => by
    match i, hi with
    | 0, hi => cases hi; rfl
    | 1, hi => cases hi; rfl
    | 2, hi => cases hi; rfl
    | 3, hi => cases hi; rfl
    | i + 4, hi => simp at hi
theorem al20_a : coinB 2 0 = false := by decide
theorem al20_b : coinB 2 (0 + 1) = true := by decide

end Go.Proofs.Ytbdfmnlfdhhnjaa
/-
  The landed package req: a tower in memory.
-/
namespace Go.Proofs.Ytbdfmnlfdhhnjaa
set_option linter.unusedVariables false
set_option linter.unusedSimpArgs false
open Go.RowKit

theorem keepsQ_then {S T : Nat → Prop} {w w1 w2 : World} (h : Keeps S w w1) (h' : Keeps T w1 w2) (hS : ∀ k, k < w.heap.size → T k → S k) : Keeps S w w2 :=
  ⟨h'.os.trans h.os, h'.tape.trans h.tape, h'.output.trans h.output, Nat.le_trans h.size h'.size, fun i hi hn => (h'.block i (Nat.lt_of_lt_of_le hi h.size) (fun c => hn (hS i hi c))).trans (h.block i hi hn)⟩
/-! ### A row that may grow -/
/-- A row in memory that may grow: of the tower's own, or a piece without spare room. -/
def RowG (w : World) (r : RowI) : Prop := (OwnN w 0 r.v r.l ∨ FullN w 0 r.v r.l) ∧ ∀ p, p ∈ r.l → I64 p
theorem RowG.nums {w : World} {r : RowI} (h : RowG w r) : Nums w r.a r.l := by
  obtain ⟨a, l, k⟩ := r
  rcases h with ⟨h | h, ok⟩
  · obtain ⟨A, cap, e, hN⟩ := h.rows ok
    obtain ⟨rfl, _, _⟩ := Value.slice.inj e
    exact hN
  · obtain ⟨A, cap, e, hN⟩ := h.rows ok
    obtain ⟨rfl, _, _⟩ := Value.slice.inj e
    exact hN
theorem RowG.cap {w : World} {r : RowI} (h : RowG w r) : r.l.length ≤ r.cap := by
  obtain ⟨a, l, k⟩ := r
  rcases h with ⟨h | h, ok⟩
  · rcases h.2 with ⟨e, h0⟩ | ⟨g, cap', cur, e, hb, hg, hle, _⟩
    · show l.length ≤ k
      rw [h0]; exact Nat.zero_le _
    · obtain ⟨_, _, rfl⟩ := Value.slice.inj e
      exact hle
  · obtain ⟨A, e, _⟩ := h
    obtain ⟨_, _, e3⟩ := Value.slice.inj e
    have e3' : k = l.length := e3
    show l.length ≤ k
    omega
theorem RowG.lt {w : World} {r : RowI} (h : RowG w r) : ∀ a, r.a = some a → a.block < w.heap.size := by
  intro a ha
  have e : r.v.ownBlock = some a.block := by unfold RowI.v; rw [ha]; rfl
  rcases h with ⟨h | h, ok⟩
  · exact (h.lt _ e).2
  · exact (h.lt _ e).2
theorem RowG.at_ {w w' : World} {r : RowI} (h : RowG w r) (hk : ∀ a, r.a = some a → w'.heap[a.block]? = w.heap[a.block]?) : RowG w' r := by
  obtain ⟨A, l, k⟩ := r
  have hlt : ∀ a, A = some a → a.block < w'.heap.size := fun a ha => by
    have h1 := h.lt a ha
    have h2 := hk a ha
    rw [Array.getElem?_eq_getElem h1] at h2
    by_cases c : a.block < w'.heap.size
    · exact c
    · rw [Array.getElem?_eq_none (by omega)] at h2; cases h2
  rcases h with ⟨h | h, ok⟩
  · refine ⟨Or.inl ⟨h.1, ?_⟩, ok⟩
    rcases h.2 with hn | ⟨g, cap, cur, e, hb, hgg, rest⟩
    · exact .inl hn
    · obtain ⟨ea, _, _⟩ := Value.slice.inj e
      exact .inr ⟨g, cap, cur, e, hb, (hk _ ea).trans hgg, rest⟩
  · obtain ⟨A', e, h1, h2, h3⟩ := h
    obtain ⟨rfl, _, _⟩ := Value.slice.inj e
    refine ⟨Or.inr ⟨A, e, fun i p hi => ?_, h2, fun a ha => ⟨Nat.zero_le _, hlt a ha⟩⟩, ok⟩
    obtain ⟨b, off, ea, hb, c0⟩ := h1 i p hi
    exact ⟨b, off, ea, hlt _ ea, (World.cell?_of_block (a := ⟨b, off + i, none⟩) (hk ⟨b, off, none⟩ ea)).trans c0⟩
theorem RowG.none_ (w : World) : RowG w ⟨none, [], 0⟩ := ⟨Or.inl (OwnN.nil w 0), fun p h => by cases h⟩
theorem RowG.call {w w' : World} {r : RowI} (h : RowG w r) (hb : Below w.heap.size w w') : RowG w' r := h.at_ fun a ha => hb.block _ (h.lt a ha)

/-- What is appended to a row that may grow comes where the row is, or into new memory. -/
theorem run_append_grow {w : World} (ty : TypeId) {r : RowI} (hown : RowG w r) {A : Option Addr} {n cap : Nat} {L : List Int} (hl : L.length = n) (hsrc : Nums w A L) (hn : r.l.length + n ≤ 100000) :
    ∃ A' c' w', (Builtin.append_ #[62, 62] ty #[.slice r.a r.l.length r.cap, .slice A n cap]).run Try.prog w = .ok (.slice A' (r.l.length + n) c') w' ∧ RowG w' ⟨A', r.l ++ L, c'⟩ ∧ w.grownBy w' (r.a.map (·.block)) ∧ (∀ b, A' = some b → r.a.map (·.block) = some b.block ∨ w.heap.size ≤ b.block) := by
  subst hl
  obtain ⟨i0, hi, hz0, hz1, hz2⟩ := info_parts Try.infoInt18
  obtain ⟨a, l, k⟩ := r
  have hok := hown.2
  have hkc : l.length ≤ k := hown.cap
  replace hn : l.length + L.length ≤ 100000 := hn
  have okx : ∀ p, p ∈ l ++ L → I64 p := fun p hp => by
    rcases List.mem_append.1 hp with hp | hp
    · exact hok p hp
    · exact hsrc.ok p hp
  have hv : (Value.slice a l.length k).ownBlock = a.map (·.block) := by
    cases a with
    | none => rfl
    | some a => rfl
  by_cases hL : L = []
  · subst hL
    have hrun : (Builtin.append_ #[62, 62] ty #[.slice a l.length k, .slice A 0 cap]).run Try.prog w = .ok (.slice a l.length k) w := by
      have hf : (Builtin.firstCells 1 0 (.slice A 0 cap)).run Try.prog w = .ok #[] w := by
        cases A with
        | none => exact run_firstCells_none w 1 0 0 cap
        | some ad => exact run_firstCells_some w 1 0 ad 0 cap [] rfl (fun j v hj => by simp at hj)
      cases a with
      | none =>
        have hn0 : l = [] ∧ k = 0 := by
          rcases hown.1 with h | h
          · rcases h.2 with ⟨e, h0⟩ | ⟨g, c2, cur, e, _⟩
            · obtain ⟨_, h1, h2⟩ := Value.slice.inj e
              exact ⟨List.eq_nil_of_length_eq_zero h1, h2⟩
            · obtain ⟨e', _, _⟩ := Value.slice.inj e
              cases e'
          · obtain ⟨A', e, _, h2, _⟩ := h
            obtain ⟨e', _, e3⟩ := Value.slice.inj e
            have hl0 : l = [] := List.eq_nil_of_length_eq_zero (h2 e'.symm)
            exact ⟨hl0, by have e3' : k = l.length := e3; rw [e3', hl0]; rfl⟩
        obtain ⟨rfl, rfl⟩ := hn0
        simp [Builtin.append_, run_underlying Try.underlying62, sizeOf, typeInfo, hi, hz1, Builtin.lenOf, hf]
      | some ad =>
        simp [Builtin.append_, run_underlying Try.underlying62, sizeOf, typeInfo, hi, hz1, Builtin.lenOf, show l.length ≤ k from hkc, storeCells, hf]
    refine ⟨a, k, w, hrun, ?_, World.grownBy.refl _ _, fun b hb => Or.inl (by rw [hb]; rfl)⟩
    rw [List.append_nil]
    exact hown
  · obtain ⟨p, hp⟩ : ∃ p, L[0]? = some p := by
      cases L with
      | nil => exact absurd rfl hL
      | cons p r => exact ⟨p, rfl⟩
    have hL1 : 0 < L.length := List.length_pos_iff.2 hL
    obtain ⟨b, off, rfl, _, _⟩ := hsrc.at_ 0 p hp
    have hint : ∀ M : List Int, (intsL M).length = M.length * 1 := fun M => by unfold intsL; rw [List.length_map]; omega
    have hone : ∀ u ∈ intsL L, u.oneCell' = true := fun u hu => by
      unfold intsL at hu
      obtain ⟨z, _, rfl⟩ := List.mem_map.1 hu
      rfl
    have hnews : ∀ j u, (intsL L)[j]? = some u → w.cell? ((⟨b, off, none⟩ : Addr).add j) = some u := fun j u hu => by
      rw [flat3]
      unfold intsL at hu
      rw [List.getElem?_map] at hu
      cases hL2 : L[j]? with
      | none => rw [hL2] at hu; cases hu
      | some z =>
        rw [hL2] at hu
        obtain ⟨b', off', e, _, c0⟩ := hsrc.at_ j z hL2
        obtain ⟨rfl, rfl⟩ : b = b' ∧ off = off' := by
          have := Option.some.inj e
          exact ⟨(Addr.mk.inj this).1, (Addr.mk.inj this).2.1⟩
        rw [c0]; exact hu
    have happ : intsL (l ++ L) = intsL l ++ intsL L := by unfold intsL; rw [List.map_append]
    have owncase : OwnN w 0 (.slice a l.length k) l → ∃ A' c' w', (Builtin.append_ #[62, 62] ty #[.slice a l.length k, .slice (some ⟨b, off, none⟩) L.length cap]).run Try.prog w = .ok (.slice A' (l.length + L.length) c') w' ∧ RowG w' ⟨A', l ++ L, c'⟩ ∧ w.grownBy w' (a.map (·.block)) ∧ (∀ b, A' = some b → a.map (·.block) = some b.block ∨ w.heap.size ≤ b.block) := fun hO => by
      obtain ⟨g, c', w', hr, h2, h3, h4, h5⟩ := run_append_lies (P := Try.prog) w 62 ty 0 _ i0 _ 1 8 Try.underlying62 hi hz0 hz1 hz2 rfl (by decide) _ l.length (intsL l) hO ⟨b, off, none⟩ L.length cap (intsL L) (hint L) hnews hone hL1 (by unfold maxLen; omega) (by omega) (Nat.zero_le _) _ rfl
      rw [hv] at h3 h4
      refine ⟨_, c', w', hr, ⟨Or.inl ?_, okx⟩, h3, fun b' hb' => ?_⟩
      · show OwnN w' 0 (.slice (some ⟨g, 0, none⟩) (l ++ L).length c') (l ++ L)
        unfold OwnN
        rw [happ, List.length_append]
        exact h2
      · cases hb'
        rcases h4 with h4 | h4
        · exact Or.inl h4
        · exact Or.inr (by show w.heap.size ≤ g; omega)
    rcases hown.1 with hO | hF
    · exact owncase hO
    · cases a with
      | none =>
        refine owncase ?_
        obtain ⟨A', e, _, h2, _⟩ := hF
        obtain ⟨e', _, e3⟩ := Value.slice.inj e
        have hl0 : l = [] := List.eq_nil_of_length_eq_zero (h2 e'.symm)
        subst hl0
        obtain rfl : k = 0 := e3
        exact OwnN.nil _ _
      | some ad =>
        obtain ⟨A', e, h1, h2, h3⟩ := hF
        obtain ⟨rfl, _, e3⟩ := Value.slice.inj e
        obtain rfl : k = l.length := e3
        have holds : ∀ j u, (intsL l)[j]? = some u → w.cell? (ad.add j) = some u := fun j u hu => by
          unfold intsL at hu
          rw [List.getElem?_map] at hu
          cases hj : l[j]? with
          | none => rw [hj] at hu; cases hu
          | some z =>
            rw [hj] at hu
            cases hu
            obtain ⟨b', off', e', _, c0⟩ := h1 j z hj
            have e2 := Option.some.inj e'
            subst e2
            rw [Addr.add_lit]
            exact c0
        obtain ⟨v', w', hrun, r1, r2⟩ := run_append_arg_grows (P := Try.prog) w 62 ty _ i0 _ 1 8 Try.underlying62 hi hz0 hz1 hz2 rfl (by decide) ad l.length l.length (intsL l) (hint l) holds ⟨b, off, none⟩ L.length cap (intsL L) (hint L) hnews (by omega) (by unfold maxLen; omega) (by omega)
        obtain ⟨g, c', rfl, hg, _⟩ := r1.form (by omega)
        refine ⟨_, c', w', hrun, ⟨Or.inl ?_, okx⟩, ⟨r2.os, r2.tape, r2.output, r2.size, fun j hj _ => r2.block j hj (by simp)⟩, fun b' hb' => by cases hb'; exact Or.inr hg⟩
        show OwnN w' 0 (.slice (some ⟨g, 0, none⟩) (l ++ L).length c') (l ++ L)
        unfold OwnN
        rw [happ, List.length_append]
        exact World.ownsRow.mono r1 (Nat.zero_le _)
/-- .. as one step of a region that draws. -/
theorem step_append_grow {w : World} {ops : Array Oper} {o : Oper} {a : Act} {K : Act → World → Prop} {Q : Exit → Act → World → Prop} {E : Prop} (hgd : o.guard = none) (s x : Operand)
    (ho : o.op = .call { callee := .builtin .append, args := #[s, x], argTypes := #[62, 62] })
    (r : RowI) (m : Nat) (hm : r.l.length = m) (A : Option Addr) (n cap : Nat) (L : List Int) (hs : a.eval s = .slice r.a m r.cap) (hown : RowG w r)
    (hx : a.eval x = .slice A n cap) (hl : L.length = n) (hsrc : Nums w A L) (hn : m + n ≤ 100000)
    (h : ∀ A' c' w', RowG w' ⟨A', r.l ++ L, c'⟩ → w.grownBy w' (r.a.map (·.block)) → (∀ b, A' = some b → r.a.map (·.block) = some b.block ∨ w.heap.size ≤ b.block) → K (a.put o.dst (.slice A' (m + n) c')) w') : if Region.wanted o (yielded ops a.tmps) = true then Oper.wp Try.prog o a w K Q else E := by
  have hw : Region.wanted o (yielded ops a.tmps) = true := by simp [Region.wanted, hgd]
  rw [if_pos hw]
  subst hm
  obtain ⟨A', c', w', hr, h1, h2, h3⟩ := run_append_grow (cap := cap) o.type hown hl hsrc hn
  unfold Oper.wp execOp
  simp only [ho, resolve, invoke, builtin, Sem.run_bind, Sem.run_pure, Result.andThen_ok, List.map_toArray, List.map_cons, List.map_nil, hs, hx, hr]
  exact h A' c' w' h1 h2 h3
/-- .. and of one that doesn't. -/
theorem wpList_append_grow {w : World} {ops : Array Oper} {rest : List Oper} {o : Oper} {a : Act} {Q : Exit → Act → World → Prop} (hgd : o.guard = none) (s x : Operand)
    (ho : o.op = .call { callee := .builtin .append, args := #[s, x], argTypes := #[62, 62] })
    (r : RowI) (m : Nat) (hm : r.l.length = m) (A : Option Addr) (n cap : Nat) (L : List Int) (hs : a.eval s = .slice r.a m r.cap) (hown : RowG w r)
    (hx : a.eval x = .slice A n cap) (hl : L.length = n) (hsrc : Nums w A L) (hn : m + n ≤ 100000)
    (h : ∀ A' c' w', RowG w' ⟨A', r.l ++ L, c'⟩ → w.grownBy w' (r.a.map (·.block)) → (∀ b, A' = some b → r.a.map (·.block) = some b.block ∨ w.heap.size ≤ b.block) → wpList Try.prog ops Q rest (a.put o.dst (.slice A' (m + n) c')) w') : wpList Try.prog ops Q (o :: rest) a w := by
  refine wpList_plain hgd fun K hK => ?_
  subst hm
  obtain ⟨A', c', w', hr, h1, h2, h3⟩ := run_append_grow (cap := cap) o.type hown hl hsrc hn
  unfold Oper.wp execOp
  simp only [ho, resolve, invoke, builtin, Sem.run_bind, Sem.run_pure, Result.andThen_ok, List.map_toArray, List.map_cons, List.map_nil, hs, hx, hr]
  exact hK _ _ (h A' c' w' h1 h2 h3)

/-! ### A tower -/
/-- The blocks of a tower. -/
def rgQ (P T : Nat) (hv : Value) (R : List RowI) (k : Nat) : Prop := k = P ∨ k = T ∨ hv.ownBlock = some k ∨ ∃ r, r ∈ R ∧ ∃ a, r.a = some a ∧ a.block = k
/-- A landed tower: its block of six cells, its rows' heads, its tape, its rows; all of them lie apart. -/
structure RqRaw (Tp : TapT) (w : World) (P T : Nat) (B word low high : Int) (u : Nat) (hv : Value) (R : List RowI) : Prop where
  c0 : w.cell? ⟨P, 0, none⟩ = some (.int .i64 B)
  c1 : w.cell? ⟨P, 1, none⟩ = some (.int .u64 word)
  c2 : w.cell? ⟨P, 2, none⟩ = some hv
  c3 : w.cell? ⟨P, 3, none⟩ = some (.pointer (some ⟨T, 0, none⟩))
  c4 : w.cell? ⟨P, 4, none⟩ = some (.int .i64 low)
  c5 : w.cell? ⟨P, 5, none⟩ = some (.int .i64 high)
  f0 : ∀ o, w.frozen? ⟨P, o, none⟩ = false
  tape : Tp w T word u
  head : OwnI w 0 hv R
  nT : T ≠ P
  hP : hv.ownBlock ≠ some P
  hT : hv.ownBlock ≠ some T
  row : ∀ r, r ∈ R → RowG w r
  far : ∀ r, r ∈ R → ∀ a, r.a = some a → a.block ≠ P ∧ a.block ≠ T ∧ hv.ownBlock ≠ some a.block
  apart : ∀ (i j : Nat) (r s : RowI), R[i]? = some r → R[j]? = some s → i ≠ j → ∀ (a b : Addr), r.a = some a → s.a = some b → a.block ≠ b.block
theorem RqRaw.lt {Tp : TapT} {w : World} {P T : Nat} {B word low high : Int} {u : Nat} {hv : Value} {R : List RowI} (h : RqRaw Tp w P T B word low high u hv R) : P < w.heap.size := World.block_lt_of_cell? (a := ⟨P, 0, none⟩) w h.c0
theorem RqRaw.blocks {Tp : TapT} (D : TapDoes Tp) {w : World} {P T : Nat} {B word low high : Int} {u : Nat} {hv : Value} {R : List RowI} (h : RqRaw Tp w P T B word low high u hv R) : ∀ k, rgQ P T hv R k → k < w.heap.size := by
  rintro k (rfl | rfl | e | ⟨r, hr, a, ha, rfl⟩)
  · exact h.lt
  · exact D.lt _ _ _ _ h.tape
  · exact (h.head.lt k e).2
  · exact (h.row r hr).lt a ha
theorem RqRaw.at_ {Tp : TapT} (D : TapDoes Tp) {w w' : World} {P T : Nat} {B word low high : Int} {u : Nat} {hv : Value} {R : List RowI} (h : RqRaw Tp w P T B word low high u hv R) (hk : ∀ k, rgQ P T hv R k → w'.heap[k]? = w.heap[k]?) : RqRaw Tp w' P T B word low high u hv R := by
  have hb := hk P (Or.inl rfl)
  have hc : ∀ o x, w.cell? ⟨P, o, none⟩ = some x → w'.cell? ⟨P, o, none⟩ = some x := fun o x hx => (World.cell?_of_block (a := ⟨P, o, none⟩) hb).trans hx
  refine {
    c0 := hc _ _ h.c0, c1 := hc _ _ h.c1, c2 := hc _ _ h.c2, c3 := hc _ _ h.c3, c4 := hc _ _ h.c4, c5 := hc _ _ h.c5, f0 := fun o => (World.frozen?_of_block (a := ⟨P, o, none⟩) hb).trans (h.f0 o),
    tape := D.keep _ _ _ _ _ h.tape (hk T (Or.inr (Or.inl rfl))), head := ⟨h.head.1, ?_⟩, nT := h.nT, hP := h.hP, hT := h.hT, row := fun r hr => (h.row r hr).at_ fun a ha => hk _ (Or.inr (Or.inr (Or.inr ⟨r, hr, a, ha, rfl⟩))), far := h.far, apart := h.apart }
  rcases h.head.2 with hn | ⟨g, cap, cur, rfl, hb, hgg, rest⟩
  · exact .inl hn
  · exact .inr ⟨g, cap, cur, rfl, hb, (hk g (Or.inr (Or.inr (Or.inl rfl)))).trans hgg, rest⟩
theorem RqRaw.call {Tp : TapT} (D : TapDoes Tp) {w w' : World} {P T : Nat} {B word low high : Int} {u : Nat} {hv : Value} {R : List RowI} (h : RqRaw Tp w P T B word low high u hv R) (hb : Below w.heap.size w w') : RqRaw Tp w' P T B word low high u hv R :=
  h.at_ D fun k hk => hb.block k (h.blocks D k hk)
/-- What an operation leaves. -/
def LeftQ (Tp : TapT) (w : World) (P T : Nat) (B word : Int) (hv : Value) (R : List RowI) (low' high' : Int) (u' : Nat) (L' : List (List Int)) (w' : World) : Prop :=
  ∃ hv' R', RqRaw Tp w' P T B word low' high' u' hv' R' ∧ lsI R' = L' ∧ Keeps (rgQ P T hv R) w w' ∧ ∀ k, rgQ P T hv' R' k → rgQ P T hv R k ∨ w.heap.size ≤ k
theorem LeftQ.after {Tp : TapT} {w w1 w2 : World} {P T : Nat} {B word : Int} {hv hv1 : Value} {R R1 : List RowI} {low' high' : Int} {u' : Nat} {L' : List (List Int)} (h : LeftQ Tp w1 P T B word hv1 R1 low' high' u' L' w2)
    (hk : Keeps (rgQ P T hv R) w w1) (hS : ∀ k, rgQ P T hv1 R1 k → rgQ P T hv R k ∨ w.heap.size ≤ k) : LeftQ Tp w P T B word hv R low' high' u' L' w2 := by
  obtain ⟨hv', R', h1, h2, h3, h4⟩ := h
  refine ⟨hv', R', h1, h2, keepsQ_then hk h3 fun k hl hk => ?_, fun k hk' => ?_⟩
  · rcases hS k hk with h | h
    · exact h
    · omega
  · rcases h4 k hk' with h | h
    · exact hS k h
    · exact Or.inr (Nat.le_trans hk.size h)
/-! ### Steps -/
theorem RqRaw.coin {Tp : TapT} (D : TapDoes Tp) {w w' : World} {P T : Nat} {B word low high : Int} {u u' : Nat} {hv : Value} {R : List RowI} (h : RqRaw Tp w P T B word low high u hv R) (hg : w.grownBy w' (some T)) (ht : Tp w' T word u') : RqRaw Tp w' P T B word low high u' hv R := by
  have hP : (some T : Option Nat) ≠ some P := fun e => h.nT (Option.some.inj e)
  refine {
    c0 := hg.cell h.c0 hP.symm, c1 := hg.cell h.c1 hP.symm, c2 := hg.cell h.c2 hP.symm, c3 := hg.cell h.c3 hP.symm, c4 := hg.cell h.c4 hP.symm, c5 := hg.cell h.c5 hP.symm, f0 := fun o => (World.frozen?_of_block (a := ⟨P, o, none⟩) (hg.block P h.lt hP.symm)).trans (h.f0 o),
    tape := ht, head := h.head.other hg (Or.inr h.hT), nT := h.nT, hP := h.hP, hT := h.hT, row := fun r hr => (h.row r hr).at_ fun a ha => hg.block _ ((h.row r hr).lt a ha) (fun e => (h.far r hr a ha).2.1 (Option.some.inj e)), far := h.far, apart := h.apart }
/-- Ends are stored. -/
theorem RqRaw.ends {Tp : TapT} (D : TapDoes Tp) {w : World} {P T : Nat} {B word low high : Int} {u : Nat} {hv : Value} {R : List RowI} (h : RqRaw Tp w P T B word low high u hv R) (x y : Int) :
    RqRaw Tp ((w.setCell ⟨P, 4, none⟩ (.int .i64 x)).setCell ⟨P, 5, none⟩ (.int .i64 y)) P T B word x y u hv R := by
  have g1 := grown21_put w P 4 (.int .i64 x)
  have g2 := grown21_put (w.setCell ⟨P, 4, none⟩ (.int .i64 x)) P 5 (.int .i64 y)
  have hb : ∀ k, k < w.heap.size → k ≠ P → ((w.setCell ⟨P, 4, none⟩ (.int .i64 x)).setCell ⟨P, 5, none⟩ (.int .i64 y)).heap[k]? = w.heap[k]? := fun k hk hn =>
    (g2.block k (Nat.lt_of_lt_of_le hk g1.size) (fun e => hn (Option.some.inj e))).trans (g1.block k hk (fun e => hn (Option.some.inj e)))
  have o4 : ∀ (o : Nat) (v : Value), o ≠ 4 → o ≠ 5 → w.cell? ⟨P, o, none⟩ = some v → ((w.setCell ⟨P, 4, none⟩ (.int .i64 x)).setCell ⟨P, 5, none⟩ (.int .i64 y)).cell? ⟨P, o, none⟩ = some v := fun o v h4 h5 hv => by
    rw [World.cell?_setCell_other _ _ _ _ (two_off (Ne.symm h5)), World.cell?_setCell_other _ _ _ _ (two_off (Ne.symm h4))]; exact hv
  refine {
    c0 := o4 _ _ (by omega) (by omega) h.c0, c1 := o4 _ _ (by omega) (by omega) h.c1, c2 := o4 _ _ (by omega) (by omega) h.c2, c3 := o4 _ _ (by omega) (by omega) h.c3, c4 := ?_, c5 := ?_, f0 := fun o => by rw [World.frozen?_setCell, World.frozen?_setCell]; exact h.f0 o,
    tape := D.keep _ _ _ _ _ h.tape (hb T (D.lt _ _ _ _ h.tape) h.nT), head := (h.head.other g1 (Or.inr h.hP)).other g2 (Or.inr h.hP), nT := h.nT, hP := h.hP, hT := h.hT, row := fun r hr => (h.row r hr).at_ fun a ha => hb _ ((h.row r hr).lt a ha) (h.far r hr a ha).1, far := h.far, apart := h.apart }
  · rw [World.cell?_setCell_other _ _ _ _ (two_off (by omega))]; exact World.cell?_setCell_same _ _ _ h.c4
  · exact World.cell?_setCell_same _ _ _ (by rw [World.cell?_setCell_other _ _ _ _ (two_off (by omega))]; exact h.c5)
/-- Another row stands in a row's place: it has grown where it was, or lies in new memory. -/
theorem RqRaw.put {Tp : TapT} (D : TapDoes Tp) {w w' : World} {P T g n cap i p k : Nat} {B word low high : Int} {u : Nat} {R : List RowI} {r : RowI} {a : Option Addr} {l : List Int} (h : RqRaw Tp w P T B word low high u (.slice (some ⟨g, 0, none⟩) n cap) R) (hn : R.length = n) (hr : R[i]? = some r)
    (hg : w.grownBy w' (r.a.map (·.block))) (hl : l.length = p) (hr' : RowG w' ⟨a, l, k⟩) (hp : ∀ b, a = some b → r.a.map (·.block) = some b.block ∨ w.heap.size ≤ b.block) :
    RqRaw Tp (w'.setCell ⟨g, i, none⟩ (.slice a p k)) P T B word low high u (.slice (some ⟨g, 0, none⟩) n cap) (R.set i ⟨a, l, k⟩) := by
  subst hl
  have hi : i < R.length := by
    by_cases c : i < R.length
    · exact c
    · rw [List.getElem?_eq_none (by omega)] at hr; cases hr
  have hrm : r ∈ R := List.mem_of_getElem? hr
  have hrn : ∀ b, r.a.map (·.block) = some b → b ≠ P ∧ b ≠ T ∧ b ≠ g := fun b hb => by
    cases ha : r.a with
    | none => rw [ha] at hb; cases hb
    | some x =>
      rw [ha] at hb
      cases hb
      obtain ⟨f1, f2, f3⟩ := h.far r hrm x ha
      exact ⟨f1, f2, fun e => f3 (show some g = some x.block by rw [show x.block = g from e])⟩
  have hP : some P ≠ r.a.map (·.block) := fun e => (hrn P e.symm).1 rfl
  have hT : some T ≠ r.a.map (·.block) := fun e => (hrn T e.symm).2.1 rfl
  have hG : (Value.slice (some ⟨g, 0, none⟩) n cap).ownBlock ≠ r.a.map (·.block) := fun e => (hrn g e.symm).2.2 rfl
  have g2 := grown21_put w' g i (.slice a l.length k)
  have gP : (some g : Option Nat) ≠ some P := h.hP
  have gT : (some g : Option Nat) ≠ some T := h.hT
  have hlg := (h.head.lt g rfl).2
  have o2 := h.head.other hg (Or.inr hG)
  have hnew : ∀ b, a = some b → b.block ≠ P ∧ b.block ≠ T ∧ b.block ≠ g := fun b hb => by
    rcases hp b hb with e | e
    · exact hrn _ e
    · have h1 := h.lt
      have h2 := D.lt _ _ _ _ h.tape
      exact ⟨by omega, by omega, by omega⟩
  have htp : Tp w' T word u := D.keep _ _ _ _ _ h.tape (hg.block T (D.lt _ _ _ _ h.tape) hT)
  have hq : ∀ (q : RowI) (j : Nat), R[j]? = some q → j ≠ i → ∀ x, q.a = some x → (w'.setCell ⟨g, i, none⟩ (.slice a l.length k)).heap[x.block]? = w.heap[x.block]? := fun q j hj hji x hx => by
    have hqm : q ∈ R := List.mem_of_getElem? hj
    have hlt := (h.row q hqm).lt x hx
    obtain ⟨f1, f2, f3⟩ := h.far q hqm x hx
    refine (g2.block _ (Nat.lt_of_lt_of_le hlt hg.size) (fun e => f3 e.symm)).trans (hg.block _ hlt fun e => ?_)
    cases ha : r.a with
    | none => rw [ha] at e; cases e
    | some y =>
      rw [ha] at e
      exact h.apart j i q r hj hr hji x y hx ha (Option.some.inj e)
  have hset : ∀ (q : RowI), q ∈ R.set i ⟨a, l, k⟩ → q = ⟨a, l, k⟩ ∨ ∃ j, R[j]? = some q ∧ j ≠ i := fun q hq => by
    obtain ⟨j, hj, e⟩ := List.mem_iff_getElem.1 hq
    have e' : (R.set i ⟨a, l, k⟩)[j]? = some q := by rw [List.getElem?_eq_getElem hj, e]
    by_cases c : i = j
    · subst c
      rw [List.getElem?_set_self hi] at e'
      exact Or.inl (Option.some.inj e').symm
    · rw [List.getElem?_set_ne c] at e'
      exact Or.inr ⟨j, e', fun e => c e.symm⟩
  refine {
    c0 := g2.cell (hg.cell h.c0 hP) gP.symm, c1 := g2.cell (hg.cell h.c1 hP) gP.symm, c2 := g2.cell (hg.cell h.c2 hP) gP.symm, c3 := g2.cell (hg.cell h.c3 hP) gP.symm, c4 := g2.cell (hg.cell h.c4 hP) gP.symm, c5 := g2.cell (hg.cell h.c5 hP) gP.symm,
    f0 := fun o => by rw [World.frozen?_setCell]; exact (World.frozen?_of_block (a := ⟨P, o, none⟩) (hg.block P h.lt hP)).trans (h.f0 o),
    tape := D.keep _ _ _ _ _ htp (g2.block T (D.lt _ _ _ _ htp) gT.symm), head := o2.put ⟨a, l, k⟩ hn (by omega), nT := h.nT, hP := h.hP, hT := h.hT, row := fun q hqm => ?_, far := fun q hqm x hx => ?_, apart := fun j1 j2 r1 r2 e1 e2 hne x y hx hy => ?_ }
  · rcases hset q hqm with rfl | ⟨j, hj, hji⟩
    · exact hr'.at_ fun x hx => g2.block _ (hr'.lt x hx) fun e => (hnew x hx).2.2 (Option.some.inj e)
    · exact (h.row q (List.mem_of_getElem? hj)).at_ (hq q j hj hji)
  · rcases hset q hqm with rfl | ⟨j, hj, hji⟩
    · obtain ⟨n1, n2, n3⟩ := hnew x hx
      exact ⟨n1, n2, fun e => n3 (Option.some.inj e).symm⟩
    · exact h.far q (List.mem_of_getElem? hj) x hx
  · have hx2 : ∀ (j : Nat) (q : RowI) (y : Addr), j ≠ i → R[j]? = some q → q.a = some y → ∀ b, a = some b → b.block ≠ y.block := fun j q y hji hj hy b hb e => by
      rcases hp b hb with e2 | e2
      · cases ha : r.a with
        | none => rw [ha] at e2; cases e2
        | some z =>
          rw [ha] at e2
          exact h.apart j i q r hj hr hji y z hy ha (by rw [← e]; exact (Option.some.inj e2).symm)
      · have := (h.row q (List.mem_of_getElem? hj)).lt y hy
        omega
    by_cases c1 : i = j1
    · subst c1
      rw [List.getElem?_set_self hi] at e1
      rw [List.getElem?_set_ne hne] at e2
      have e1' := Option.some.inj e1
      subst e1'
      exact hx2 j2 r2 y (fun e => hne e.symm) e2 hy x hx
    · rw [List.getElem?_set_ne c1] at e1
      by_cases c2 : i = j2
      · subst c2
        rw [List.getElem?_set_self hi] at e2
        have e2' := Option.some.inj e2
        subst e2'
        exact fun e => hx2 j1 r1 x (fun e => c1 e.symm) e1 hx y hy e.symm
      · rw [List.getElem?_set_ne c2] at e2
        exact h.apart j1 j2 r1 r2 e1 e2 hne x y hx hy
/-- A new, empty row. -/
theorem RqRaw.more {Tp : TapT} (D : TapDoes Tp) {w w' : World} {P T g' n' cap' : Nat} {B word low high : Int} {u : Nat} {hv : Value} {R : List RowI} (h : RqRaw Tp w P T B word low high u hv R) (hg : w.grownBy w' hv.ownBlock) (ho : OwnI w' 0 (.slice (some ⟨g', 0, none⟩) n' cap') (R ++ [⟨none, [], 0⟩])) (hn : hv.ownBlock = some g' ∨ g' = w.heap.size) :
    RqRaw Tp (w'.setCell ⟨P, 2, none⟩ (.slice (some ⟨g', 0, none⟩) n' cap')) P T B word low high u (.slice (some ⟨g', 0, none⟩) n' cap') (R ++ [⟨none, [], 0⟩]) := by
  have g2 := grown21_put w' P 2 (.slice (some ⟨g', 0, none⟩) n' cap')
  have hP : some P ≠ hv.ownBlock := h.hP.symm
  have hT : some T ≠ hv.ownBlock := h.hT.symm
  have hlt := h.lt
  have hltT := D.lt _ _ _ _ h.tape
  have h' : g' ≠ P ∧ g' ≠ T := by
    rcases hn with e | e
    · exact ⟨fun c => hP (by rw [e, c]), fun c => hT (by rw [e, c])⟩
    · exact ⟨by omega, by omega⟩
  have nP : (Value.slice (some ⟨g', 0, none⟩) n' cap').ownBlock ≠ some P := fun e => h'.1 (Option.some.inj e)
  have hb : ∀ k, k < w.heap.size → k ≠ P → some k ≠ hv.ownBlock → (w'.setCell ⟨P, 2, none⟩ (.slice (some ⟨g', 0, none⟩) n' cap')).heap[k]? = w.heap[k]? := fun k hk h1 h2 => (g2.block k (Nat.lt_of_lt_of_le hk hg.size) (fun e => h1 (Option.some.inj e))).trans (hg.block k hk h2)
  have o4 : ∀ (o : Nat) (v : Value), o ≠ 2 → w.cell? ⟨P, o, none⟩ = some v → (w'.setCell ⟨P, 2, none⟩ (.slice (some ⟨g', 0, none⟩) n' cap')).cell? ⟨P, o, none⟩ = some v := fun o v h5 hv => by
    rw [World.cell?_setCell_other _ _ _ _ (two_off (Ne.symm h5))]; exact hg.cell hv hP
  have hfar : ∀ r, r ∈ R → ∀ a, r.a = some a → g' ≠ a.block := fun r hr a ha => by
    rcases hn with e | e
    · exact fun c => (h.far r hr a ha).2.2 (by rw [e, c])
    · have := (h.row r hr).lt a ha; omega
  refine {
    c0 := o4 _ _ (by omega) h.c0, c1 := o4 _ _ (by omega) h.c1, c2 := World.cell?_setCell_same _ _ _ (hg.cell h.c2 hP), c3 := o4 _ _ (by omega) h.c3, c4 := o4 _ _ (by omega) h.c4, c5 := o4 _ _ (by omega) h.c5,
    f0 := fun o => by rw [World.frozen?_setCell]; exact (World.frozen?_of_block (a := ⟨P, o, none⟩) (hg.block P hlt hP)).trans (h.f0 o),
    tape := D.keep _ _ _ _ _ h.tape (hb T hltT h.nT hT), head := ho.other g2 (Or.inr nP), nT := h.nT, hP := nP, hT := fun e => h'.2 (Option.some.inj e), row := fun r hr => ?_, far := fun r hr a ha => ?_, apart := fun i j r s hr hs hne a b ha hb => ?_ }
  · rcases List.mem_append.1 hr with hr | hr
    · exact (h.row r hr).at_ fun a ha => hb _ ((h.row r hr).lt a ha) (h.far r hr a ha).1 (fun e => (h.far r hr a ha).2.2 e.symm)
    · rw [List.mem_singleton.1 hr]; exact RowG.none_ _
  · rcases List.mem_append.1 hr with hr | hr
    · obtain ⟨f1, f2, _⟩ := h.far r hr a ha
      exact ⟨f1, f2, fun e => hfar r hr a ha (Option.some.inj e)⟩
    · rw [List.mem_singleton.1 hr] at ha; cases ha
  · have key : ∀ (i : Nat) (r : RowI) (a : Addr), (R ++ [(⟨none, [], 0⟩ : RowI)])[i]? = some r → r.a = some a → R[i]? = some r := fun i r a hr ha => by
      by_cases c : i < R.length
      · rwa [List.getElem?_append_left c] at hr
      · rw [List.getElem?_append_right (by omega)] at hr
        match i - R.length, hr with
        | 0, hr =>
          have e := Option.some.inj hr
          subst e
          cases ha
        | k + 1, hr => simp at hr
    exact h.apart i j r s (key i r a hr ha) (key j s b hs hb) hne a b ha hb
theorem RqRaw.put_left {Tp : TapT} (D : TapDoes Tp) {w w' : World} {P T g n cap i p k : Nat} {B word low high : Int} {u : Nat} {R : List RowI} {r : RowI} {a : Option Addr} {l : List Int} (h : RqRaw Tp w P T B word low high u (.slice (some ⟨g, 0, none⟩) n cap) R) (hn : R.length = n) (hr : R[i]? = some r)
    (hg : w.grownBy w' (r.a.map (·.block))) (hl : l.length = p) (hr' : RowG w' ⟨a, l, k⟩) (hp : ∀ b, a = some b → r.a.map (·.block) = some b.block ∨ w.heap.size ≤ b.block) :
    Keeps (rgQ P T (.slice (some ⟨g, 0, none⟩) n cap) R) w (w'.setCell ⟨g, i, none⟩ (.slice a p k)) ∧ ∀ j, rgQ P T (.slice (some ⟨g, 0, none⟩) n cap) (R.set i ⟨a, l, k⟩) j → rgQ P T (.slice (some ⟨g, 0, none⟩) n cap) R j ∨ w.heap.size ≤ j := by
  have hrm : r ∈ R := List.mem_of_getElem? hr
  have hS : ∀ j, r.a.map (·.block) = some j → rgQ P T (.slice (some ⟨g, 0, none⟩) n cap) R j := fun j hj => by
    cases ha : r.a with
    | none => rw [ha] at hj; cases hj
    | some x =>
      rw [ha] at hj
      exact Or.inr (Or.inr (Or.inr ⟨r, hrm, x, ha, Option.some.inj hj⟩))
  refine ⟨((Keeps.refl _ w).grown hg fun j hj => Or.inl (hS j hj)).grown (grown21_put w' g i _) fun j hj => Or.inl (Or.inr (Or.inr (Or.inl hj))), fun j hj => ?_⟩
  rcases hj with e | e | e | ⟨q, hq, x, hx, rfl⟩
  · exact Or.inl (Or.inl e)
  · exact Or.inl (Or.inr (Or.inl e))
  · exact Or.inl (Or.inr (Or.inr (Or.inl e)))
  · rcases List.mem_or_eq_of_mem_set hq with hq | rfl
    · exact Or.inl (Or.inr (Or.inr (Or.inr ⟨q, hq, x, hx, rfl⟩)))
    · rcases hp x hx with e | e
      · exact Or.inl (hS _ e)
      · exact Or.inr e
theorem RqRaw.more_left {Tp : TapT} (D : TapDoes Tp) {w w' : World} {P T g' n' cap' : Nat} {B word low high : Int} {u : Nat} {hv : Value} {R : List RowI} (h : RqRaw Tp w P T B word low high u hv R) (hg : w.grownBy w' hv.ownBlock) (hn : hv.ownBlock = some g' ∨ g' = w.heap.size) :
    Keeps (rgQ P T hv R) w (w'.setCell ⟨P, 2, none⟩ (.slice (some ⟨g', 0, none⟩) n' cap')) ∧ ∀ j, rgQ P T (.slice (some ⟨g', 0, none⟩) n' cap') (R ++ [⟨none, [], 0⟩]) j → rgQ P T hv R j ∨ w.heap.size ≤ j := by
  refine ⟨((Keeps.refl _ w).grown hg fun j hj => Or.inl (Or.inr (Or.inr (Or.inl hj)))).grown (grown21_put w' P 2 _) fun j hj => Or.inl (Or.inl (Option.some.inj hj).symm), fun j hj => ?_⟩
  rcases hj with e | e | e | ⟨q, hq, x, hx, rfl⟩
  · exact Or.inl (Or.inl e)
  · exact Or.inl (Or.inr (Or.inl e))
  · have e' : g' = j := Option.some.inj e
    subst e'
    rcases hn with e2 | e2
    · exact Or.inl (Or.inr (Or.inr (Or.inl e2)))
    · exact Or.inr (by omega)
  · rcases List.mem_append.1 hq with hq | hq
    · exact Or.inl (Or.inr (Or.inr (Or.inr ⟨q, hq, x, hx, rfl⟩)))
    · rw [List.mem_singleton.1 hq] at hx; cases hx
theorem LeftQ.after2 {Tp : TapT} {w w1 w2 : World} {P T : Nat} {B word : Int} {hv hv1 hv2 : Value} {R R1 R2 : List RowI} {low' high' : Int} {u' : Nat} (h : RqRaw Tp w2 P T B word low' high' u' hv2 R2) (h1 : Keeps (rgQ P T hv1 R1) w1 w2) (h2 : ∀ k, rgQ P T hv2 R2 k → rgQ P T hv1 R1 k ∨ w1.heap.size ≤ k)
    (hk : Keeps (rgQ P T hv R) w w1) (hS : ∀ k, rgQ P T hv1 R1 k → rgQ P T hv R k ∨ w.heap.size ≤ k) : LeftQ Tp w P T B word hv R low' high' u' (lsI R2) w2 :=
  LeftQ.after ⟨hv2, R2, h, rfl, h1, h2⟩ hk hS

/-! ### Rows that are laid behind one another, plain -/
/-- Values stand behind the h-th row; it may be a new one, above all others. -/
def layR : Nat → List Int → List (List Int) → List (List Int)
  | 0, V, R => behR V R
  | _ + 1, _, [] => []
  | h + 1, V, r :: R => r :: layR h V R
theorem lay_last : ∀ {R : List (List Int)} {V : List Int}, layR R.length V R = (R ++ [[]]).set R.length ([] ++ V)
  | [], V => rfl
  | r :: R, V => by
    show r :: layR R.length V R = _
    rw [lay_last]; rfl
theorem lay_mid : ∀ {R : List (List Int)} {h : Nat} {V r : List Int}, R[h]? = some r → layR h V R = R.set h (r ++ V)
  | [], h, V, r, hr => by simp at hr
  | q :: R, 0, V, r, hr => by
    have e : q = r := by simpa using hr
    subst e; rfl
  | q :: R, h + 1, V, r, hr => by
    show q :: layR h V R = _
    rw [lay_mid (R := R) (h := h) (r := r) (by simpa using hr)]; rfl
theorem lay_split {B : Int} {b : Bool} : ∀ {R : List (List Int)} {h : Nat} {r : List Int}, R[h]? = some r → layR (h + 1) (goR B b r) (R.set h (stayL (B / 2) r)) = splitAt B b h r R
  | [], h, r, hr => by simp at hr
  | q :: R, 0, r, hr => rfl
  | q :: R, h + 1, r, hr => by
    show q :: layR (h + 1) (goR B b r) (R.set h (stayL (B / 2) r)) = _
    rw [lay_split (R := R) (h := h) (r := r) (by simpa using hr)]; rfl
end Go.Proofs.Ytbdfmnlfdhhnjaa

/-
  Plain mathematics of the landed req: what towers that are reached keep.
-/
namespace Go.Proofs.Ytbdfmnlfdhhnjaa
set_option linter.unusedVariables false
set_option linter.unusedSimpArgs false

theorem set_top4 {B : Int} (h4 : B % 4 = 0) (h0 : 4 ≤ B) : ∀ (f : Nat) (R : List (List Int)) (cs : List Bool), okTop 4 R → okTop 4 (setR B f R cs).1
  | 0, R, cs, h => h
  | f + 1, [], cs, h => h
  | f + 1, r :: R, cs, h => by
    by_cases c : (r.length : Int) < B
    · rw [set_lt c]
      by_cases hR : R = []
      · subst hR
        show okTop 4 (r :: (setR B f [] cs).1)
        rw [set_nil]; exact h
      · exact (okTop_cons (set_ne f R cs hR)).2 (set_top4 h4 h0 f R cs ((okTop_cons hR).1 h))
    · rw [set_ge c]
      obtain ⟨g1, g2, g3⟩ := goR_len (r := r) (cs.headD false) h4 h0 (by omega)
      refine (okTop_cons (set_ne f _ cs.tail (beh_ne _ _))).2 (set_top4 h4 h0 f _ cs.tail (beh_top ?_ fun _ => by omega))
      by_cases hR : R = []
      · subst hR; exact trivial
      · exact (okTop_cons hR).1 h
theorem set_tail_top4 {B : Int} (h4 : B % 4 = 0) (h0 : 4 ≤ B) (f : Nat) (R : List (List Int)) (cs : List Bool) (h : okTop 4 R.tail) : okTop 4 (setR B f R cs).1.tail := by
  cases f with
  | zero => exact h
  | succ f =>
    cases R with
    | nil => exact h
    | cons r R =>
      by_cases c : (r.length : Int) < B
      · rw [set_lt c]
        exact set_top4 h4 h0 f R cs h
      · rw [set_ge c]
        obtain ⟨g1, g2, g3⟩ := goR_len (r := r) (cs.headD false) h4 h0 (by omega)
        exact set_top4 h4 h0 f _ cs.tail (beh_top h fun _ => by omega)
/-- What a tower's rows can be. -/
structure TowI (B : Int) (R : List (List Int)) : Prop where
  ne : R ≠ []
  short : ∀ r, r ∈ R → (r.length : Int) < B
  top : okTop 4 R.tail
  room : wtR R ≤ B * 1024
theorem towI_few {B : Int} {R : List (List Int)} (h64 : B ≤ 64) (ht : okTop 4 R.tail) (hw : wtR R ≤ B * 1024) : R.length ≤ 17 := by
  cases R with
  | nil => exact Nat.zero_le _
  | cons r R =>
    by_cases hR : R = []
    · subst hR; show 1 ≤ 17; decide
    have h1 : (4 : Int) * ((2 ^ (R.length - 1) : Nat) : Int) ≤ 4 * wtR R := top_wt (by omega) hR ht
    have hw' : (r.length : Int) + 2 * wtR R ≤ B * 1024 := hw
    have h4 : 2 ^ (R.length - 1) ≤ 2 ^ 15 := by omega
    have h5 : R.length - 1 ≤ 15 := (Nat.pow_le_pow_iff_right (by decide)).1 h4
    show R.length + 1 ≤ 17
    omega
theorem TowI.few {B : Int} {R : List (List Int)} (h : TowI B R) (h64 : B ≤ 64) : R.length ≤ 17 := towI_few h64 h.top h.room
theorem TowI.fuel {B : Int} {R : List (List Int)} (h : TowI B R) (h64 : B ≤ 64) : fuelR R ≤ 1088 ∧ ∀ r, r ∈ R → r.length ≤ 63 := by
  have hf := h.few h64
  have hs : ∀ r, r ∈ R → r.length ≤ 63 := fun r hr => by have := h.short r hr; omega
  have hz := siz_short (K := 63) hs
  refine ⟨?_, hs⟩
  unfold fuelR
  omega
theorem TowI.wt0 {B : Int} {R : List (List Int)} (h : TowI B R) : 0 ≤ wtR R := wt_nonneg R
theorem towI_settle {B : Int} {R : List (List Int)} (h4 : B % 4 = 0) (h0 : 4 ≤ B) (hne : R ≠ []) (ht : okTop 4 R.tail) (hw : wtR R ≤ B * 1024) (c : Nat → Bool) (u : Nat) : TowI B (towS B c (R, u)).1 ∧ wtR (towS B c (R, u)).1 = wtR R ∧ (towS B c (R, u)).2 ≤ u + fuelR R := by
  refine ⟨?_, ?_, tow_used c (R, u)⟩
  · unfold towS
    rw [setF_is (fuelR R) R u (cntR B (fuelR R) (lenR R)) (Nat.le_refl _)]
    exact ⟨set_ne _ _ _ hne, set_short h4 h0 _ _ _ (Nat.le_refl _), set_tail_top4 h4 h0 _ _ _ ht, by
      show wtR (setR B (fuelR R) R _).1 ≤ _
      rw [set_wt h4 h0]; exact hw⟩
  · unfold towS
    rw [setF_is (fuelR R) R u (cntR B (fuelR R) (lenR R)) (Nat.le_refl _)]
    show wtR (setR B (fuelR R) R _).1 = _
    rw [set_wt h4 h0]
theorem TowI.put {B : Int} {t : Tow} (h : TowI B t.1) (h4 : B % 4 = 0) (h0 : 4 ≤ B) (h64 : B ≤ 64) (c : Nat → Bool) (x : Int) (hw : wtR t.1 + 1 ≤ B * 1024) : TowI B (putT B c t x).1 ∧ wtR (putT B c t x).1 = wtR t.1 + 1 ∧ (putT B c t x).2 ≤ t.2 + 1100 ∧ fuelR (behR [x] t.1) ≤ 1100 := by
  have hwb : wtR (behR [x] t.1) = wtR t.1 + 1 := by rw [wt_beh]; show ((1 : Nat) : Int) + _ = _; omega
  have hf := (h.fuel h64).1
  obtain ⟨b1, b2⟩ := behR_siz [x] t.1
  have hfb : fuelR (behR [x] t.1) ≤ 1100 := by
    unfold fuelR at hf ⊢
    rw [b1, b2]
    have : [x].length = 1 := rfl
    omega
  have htop : okTop 4 (behR [x] t.1).tail := by
    have hne := h.ne
    have htt := h.top
    cases hR : t.1 with
    | nil => exact absurd hR hne
    | cons q s =>
      rw [hR] at htt
      exact htt
  obtain ⟨r1, r2, r3⟩ := towI_settle h4 h0 (beh_ne [x] t.1) htop (by omega) c t.2
  refine ⟨r1, ?_, ?_, hfb⟩
  · show wtR (towS B c (behR [x] t.1, t.2)).1 = _
    rw [r2, hwb]
  · show (towS B c (behR [x] t.1, t.2)).2 ≤ _
    omega
theorem play_one {B : Int} {c : Nat → Bool} {t : Tow} {x : Int} (j : Nat) : playT B c t (List.replicate (j + 1) x) = putT B c (playT B c t (List.replicate j x)) x := by
  unfold playT
  rw [List.replicate_succ', List.foldl_append]
  rfl
theorem TowI.play {B : Int} {t : Tow} (h : TowI B t.1) (h4 : B % 4 = 0) (h0 : 4 ≤ B) (h64 : B ≤ 64) (c : Nat → Bool) (x : Int) : ∀ (j : Nat), wtR t.1 + j ≤ B * 1024 → TowI B (playT B c t (List.replicate j x)).1 ∧ wtR (playT B c t (List.replicate j x)).1 = wtR t.1 + j ∧ (playT B c t (List.replicate j x)).2 ≤ t.2 + 1100 * j
  | 0, _ => ⟨h, by show wtR t.1 = _; omega, Nat.le_refl _⟩
  | j + 1, hw => by
    obtain ⟨i1, i2, i3⟩ := TowI.play h h4 h0 h64 c x j (by omega)
    rw [play_one]
    obtain ⟨r1, r2, r3, _⟩ := i1.put h4 h0 h64 c x (by omega)
    refine ⟨r1, r2.trans ?_, Nat.le_trans r3 (Nat.le_trans (Nat.add_le_add_right i3 1100) ?_)⟩
    · rw [i2, Int.add_assoc]; rfl
    · rw [Nat.mul_add, Nat.add_assoc]; exact Nat.le_refl _
theorem towI_new {B : Int} (h0 : 4 ≤ B) : TowI B newT.1 := ⟨List.cons_ne_nil _ _, fun r hr => by rw [List.mem_singleton.1 hr]; show (0 : Int) < B; omega, trivial, by show (0 : Int) + 2 * 0 ≤ _; omega⟩
theorem TowI.add {B : Int} {R S : List (List Int)} (h : TowI B R) (k : TowI B S) : addR R S ≠ [] ∧ okTop 4 (addR R S).tail ∧ wtR (addR R S) = wtR R + wtR S := by
  refine ⟨?_, ?_, wt_addR R S⟩
  · have hne := h.ne
    cases R with
    | nil => exact absurd rfl hne
    | cons q t => cases S <;> exact List.cons_ne_nil _ _
  · have hne := h.ne
    have kne := k.ne
    have ht := h.top
    have kt := k.top
    cases R with
    | nil => exact absurd rfl hne
    | cons q t =>
      cases S with
      | nil => exact absurd rfl kne
      | cons q' t' => exact addR_top ht kt
theorem add_take_lay {R S : List (List Int)} {j : Nat} {s : List Int} (h : S[j]? = some s) (hne : R ≠ []) : layR j s (addR R (S.take j)) = addR R (S.take (j + 1)) := by
  have hj : j < S.length := by
    by_cases c : j < S.length
    · exact c
    · rw [List.getElem?_eq_none (by omega)] at h; cases h
  have hl := add21_len R (S.take j)
  rw [List.length_take, Nat.min_eq_left (by omega)] at hl
  by_cases c : (addR R (S.take j)).length = j
  · have e := lay_last (R := addR R (S.take j)) (V := s)
    rw [c] at e
    rw [e, add21_last c h]
  · obtain ⟨q, hq⟩ : ∃ q, (addR R (S.take j))[j]? = some q := ⟨_, List.getElem?_eq_getElem (by omega)⟩
    rw [lay_mid hq, add21_mid hq h]
theorem take_fuel (S : List (List Int)) (j : Nat) : fuelR (S.take j) ≤ fuelR S := by
  have e : fuelR S = fuelR (S.take j) + fuelR (S.drop j) := by
    have h : S = S.take j ++ S.drop j := (List.take_append_drop j S).symm
    have app : ∀ (A C : List (List Int)), fuelR (A ++ C) = fuelR A + fuelR C := fun A C => by
      unfold fuelR sizR
      rw [List.length_append, List.map_append, List.sum_append]
      omega
    conv => lhs; rw [h]
    rw [app]
  omega
theorem add_take_small {B : Int} {R S : List (List Int)} (h : TowI B R) (k : TowI B S) (h64 : B ≤ 64) (j : Nat) : fuelR (addR R (S.take j)) ≤ 2176 := by
  have h1 := add21_fuel R (S.take j)
  have h2 := take_fuel S j
  have h3 := (h.fuel h64).1
  have h4 := (k.fuel h64).1
  omega
theorem mem_fuel {R : List (List Int)} {r : List Int} (h : r ∈ R) : r.length ≤ fuelR R := by
  obtain ⟨i, hi, e⟩ := List.mem_iff_getElem.1 h
  exact fuel_at (i := i) (by rw [List.getElem?_eq_getElem hi, e])
end Go.Proofs.Ytbdfmnlfdhhnjaa

/-
  The landed package req: a row laid.
-/
namespace Go.Proofs.Ytbdfmnlfdhhnjaa
set_option linter.unusedVariables false
set_option linter.unusedSimpArgs false
open Go.RowKit

set_option maxRecDepth 100000 in
set_option maxHeartbeats 8000000 in
theorem rq_lay_mid {Tp : TapT} (D : TapDoes Tp) {w : World} {P T g n hc : Nat} {B word low high : Int} {u : Nat} {R : List RowI} {h : Nat} {r : RowI} {AV : Option Addr} {nv cv : Nat} {V : List Int} (ht : RqRaw Tp w P T B word low high u (.slice (some ⟨g, 0, none⟩) n hc) R) (hn : R.length = n) (hn2 : n ≤ 50000) (hr : R[h]? = some r) (hV : Nums w AV V) (hl : V.length = nv) (hb : r.l.length + nv ≤ 100000) :
    Calls Try.prog 45 #[.pointer (some ⟨P, 0, none⟩), .int .i64 h, .slice AV nv cv] w fun e w' => e = .returned (.tuple #[]) ∧ LeftQ Tp w P T B word (.slice (some ⟨g, 0, none⟩) n hc) R low high u (layR h V (lsI R)) w' := by
  have hh : h < n := by
    rw [← hn]
    by_cases c : h < R.length
    · exact c
    · rw [List.getElem?_eq_none (by omega)] at hr; cases hr
  have hrow := ht.row _ (List.mem_of_getElem? hr)
  have HL := Lib.hid (lay_mid (V := V) (ls_at hr))
  rw [HL.out]
  obtain ⟨A0, L0, k0⟩ := r
  obtain ⟨m, hm⟩ : ∃ m, L0.length = m := ⟨_, rfl⟩
  replace hb : m + nv ≤ 100000 := by rw [← hm]; exact hb
  have g0 := ht.head.at_ hn hr
  rw [show (⟨A0, L0, k0⟩ : RowI).v = .slice A0 m k0 by unfold RowI.v; rw [hm]] at g0
  have c2 := ht.c2
  have HT := Lib.hid ht
  have HN := Lib.hid hn
  have HR := Lib.hid hr
  have HM := Lib.hid hm
  have HVL := Lib.hid hl
  have HRG : Hid (RowG w.drew ⟨A0, L0, k0⟩) := Lib.hid (hrow.call (Below.refl _ _).drew)
  have HVN : Hid (Nums w.drew AV V) := Lib.hid (hV.call (Below.refl _ _).drew)
  have HFZ := Lib.hid (fun o => ht.f0 o)
  have HP := Lib.hid ht.lt
  have hg1 := (ht.head.lt g rfl).2
  have hgr : (A0.map (·.block)) ≠ some P ∧ (A0.map (·.block)) ≠ some g := by
    cases A0 with
    | none => exact ⟨by simp, by simp⟩
    | some x =>
      obtain ⟨f1, f2, f3⟩ := ht.far _ (List.mem_of_getElem? hr) x rfl
      exact ⟨fun e => f1 (Option.some.inj e), fun e => f3 (by rw [show x.block = g from Option.some.inj e]; rfl)⟩
  have HC2 : Hid (∀ w', w.drew.grownBy w' (A0.map (·.block)) → w'.cell? ⟨P, 2, none⟩ = some (.slice (some ⟨g, 0, none⟩) n hc)) := Lib.hid fun w' hg => hg.cell (show w.drew.cell? _ = _ from c2) hgr.1.symm
  have HG0 : Hid (∀ w', w.drew.grownBy w' (A0.map (·.block)) → w'.cell? ⟨g, h, none⟩ = some (.slice A0 m k0)) := Lib.hid fun w' hg => hg.cell (show w.drew.cell? _ = _ from g0) hgr.2.symm
  have HF0 : Hid (∀ w', w.drew.grownBy w' (A0.map (·.block)) → w'.frozen? ⟨g, h, none⟩ = false) := Lib.hid fun w' hg => (World.frozen?_of_block (a := ⟨g, h, none⟩) (hg.block g hg1 hgr.2.symm)).trans (show w.drew.frozen? _ = false from ht.head.free hn h)
  have e1 : ((h : Int) == (n : Int)) = false := by rw [beq_eq_false_iff_ne]; omega
  have kk : (h : Int) < n := by omega
  clear ht hn hr hV hl hrow hm hgr hg1
  go_enter Try.func45, Try.ntmps45
  go_wp2_with fail
  go_region_law (refine step_append_grow rfl (.tmp 33) (.tmp 34) rfl ⟨A0, L0, k0⟩ m HM.out AV nv cv V rfl HRG.out rfl HVL.out HVN.out hb ?_; intro A7 k7 w7 hG7 hg7 hp7; have HG7 := Lib.hid hG7; have HB7 := Lib.hid hg7; have HP7 := Lib.hid hp7; have b7 := HC2.out w7 hg7; have e7 := HG0.out w7 hg7; have f7 := HF0.out w7 hg7; clear hG7 hg7 hp7)
  all_goals
    have hp := HT.out.put D HN.out HR.out (⟨HB7.out.os, HB7.out.tape, HB7.out.output, HB7.out.size, HB7.out.block⟩ : w.grownBy w7 (A0.map (·.block))) (p := m + nv) (by rw [List.length_append, HM.out, HVL.out]) HG7.out HP7.out
    have hq := HT.out.put_left D HN.out HR.out (⟨HB7.out.os, HB7.out.tape, HB7.out.output, HB7.out.size, HB7.out.block⟩ : w.grownBy w7 (A0.map (·.block))) (p := m + nv) (by rw [List.length_append, HM.out, HVL.out]) HG7.out HP7.out
    have HFN : Hid (LeftQ Tp w P T B word (.slice (some ⟨g, 0, none⟩) n hc) R low high u ((lsI R).set h (L0 ++ V)) (w7.setCell ⟨g, h, none⟩ (.slice A7 (m + nv) k7))) := Lib.hid ⟨_, _, hp, by rw [ls_set], hq.1, hq.2⟩
    clear hp hq b7 e7 f7
    go_wp2_with fail
    first
    | (go_end0; exact ⟨rfl, HFN.out⟩)
    | exact bodyPost_ret (results_none rfl _ _ _) rfl ⟨rfl, HFN.out⟩

set_option maxRecDepth 100000 in
set_option maxHeartbeats 8000000 in
theorem rq_lay_last {Tp : TapT} (D : TapDoes Tp) {w : World} {P T g n hc : Nat} {B word low high : Int} {u : Nat} {R : List RowI} {AV : Option Addr} {nv cv : Nat} {V : List Int} (ht : RqRaw Tp w P T B word low high u (.slice (some ⟨g, 0, none⟩) n hc) R) (hn : R.length = n) (hn2 : n ≤ 50000) (hV : Nums w AV V) (hl : V.length = nv) (hb : nv ≤ 100000) (hd : ∀ a, AV = some a → a.block < w.heap.size ∧ ¬ rgQ P T (.slice (some ⟨g, 0, none⟩) n hc) R a.block) :
    Calls Try.prog 45 #[.pointer (some ⟨P, 0, none⟩), .int .i64 n, .slice AV nv cv] w fun e w' => e = .returned (.tuple #[]) ∧ LeftQ Tp w P T B word (.slice (some ⟨g, 0, none⟩) n hc) R low high u (layR n V (lsI R)) w' := by
  have HL : Hid (layR n V (lsI R) = (lsI R ++ [[]]).set n ([] ++ V)) := Lib.hid (by rw [← hn, ← ls_len R]; exact lay_last)
  rw [HL.out]
  have c2 := ht.c2
  have HT := Lib.hid ht
  have HN := Lib.hid hn
  have HVL := Lib.hid hl
  have HV := Lib.hid hV
  have HD := Lib.hid hd
  have HFZ := Lib.hid (ht.f0 2)
  have e1 : ((n : Int) == (n : Int)) = true := by rw [beq_iff_eq]
  have HAL : Hid (Below w.heap.size w (w.alloc (.cells #[.slice none 0 0] 62))) := Lib.hid ((Below.refl _ _).alloc (Nat.le_refl _) _)
  have HO := Lib.hid (ht.head.call HAL.out)
  clear ht hn hV hl hd
  go_enter Try.func45, Try.ntmps45
  go_wp2_with (at_builtin; refine wpList_append_rowI rfl (.tmp 17) (.tmp 18) rfl 0 _ R n HN.out w.heap.size ⟨none, [], 0⟩ rfl HO.out rfl ?f1 ?f2 ?f3 ?_)
  case f1 => go_simp; rfl
  case f2 => omega
  case f3 => exact Nat.zero_le _
  intro gX cX w6 hoX6 hg6 hgX
  have z : (w.alloc (.cells #[.slice none 0 0] 62)).heap.size = w.heap.size + 1 := by simp
  have hT1 := HT.out.call D HAL.out
  have hgX' : (Value.slice (some ⟨g, 0, none⟩) n hc).ownBlock = some gX ∨ gX = (w.alloc (.cells #[.slice none 0 0] 62)).heap.size := by rw [z]; exact hgX
  have htX := hT1.more D (n' := n + 1) (cap' := cX) hg6 hoX6 hgX'
  have hkX := hT1.more_left D (n' := n + 1) (cap' := cX) hg6 hgX'
  have hP6 : some P ≠ (Value.slice (some ⟨g, 0, none⟩) n hc).ownBlock := hT1.hP.symm
  have c26 := hg6.cell hT1.c2 hP6
  have f26 : w6.frozen? ⟨P, 2, none⟩ = false := (World.frozen?_of_block (a := ⟨P, 2, none⟩) (hg6.block P hT1.lt hP6)).trans (hT1.f0 2)
  have hV6 : Nums (w6.setCell ⟨P, 2, none⟩ (.slice (some ⟨gX, 0, none⟩) (n + 1) cX)) AV V := ((HV.out.call HAL.out).grown hg6 fun a ha e => (HD.out a ha).2 (Or.inr (Or.inr (Or.inl e.symm)))).grown (grown21_put w6 P 2 _) fun a ha e => (HD.out a ha).2 (Or.inl (Option.some.inj e))
  have hk0 : Keeps (rgQ P T (.slice (some ⟨g, 0, none⟩) n hc) R) w (w6.setCell ⟨P, 2, none⟩ (.slice (some ⟨gX, 0, none⟩) (n + 1) cX)) := keepsQ_then (Keeps.of_below HAL.out) hkX.1 fun k _ hk => hk
  have hb0 : ∀ j, rgQ P T (.slice (some ⟨gX, 0, none⟩) (n + 1) cX) (R ++ [⟨none, [], 0⟩]) j → rgQ P T (.slice (some ⟨g, 0, none⟩) n hc) R j ∨ w.heap.size ≤ j := fun j hj => by
    rcases hkX.2 j hj with h | h
    · exact Or.inl h
    · exact Or.inr (by omega)
  have hlX : (R ++ [(⟨none, [], 0⟩ : RowI)]).length = n + 1 := by rw [List.length_append, HN.out]; rfl
  have hrX : (R ++ [(⟨none, [], 0⟩ : RowI)])[n]? = some ⟨none, [], 0⟩ := by rw [List.getElem?_append_right (by rw [HN.out]; exact Nat.le_refl _), HN.out, Nat.sub_self]; rfl
  generalize hnX : n + 1 = nX at *
  obtain ⟨wX, hwX⟩ : ∃ wX, w6.setCell ⟨P, 2, none⟩ (.slice (some ⟨gX, 0, none⟩) nX cX) = wX := ⟨_, rfl⟩
  rw [hwX] at htX hV6 hk0
  have cX2 := htX.c2
  have gX0 : wX.cell? ⟨gX, n, none⟩ = some (.slice none 0 0) := htX.head.at_ hlX hrX
  have fX0 : wX.frozen? ⟨gX, n, none⟩ = false := htX.head.free hlX n
  have HTX := Lib.hid htX
  have HLX := Lib.hid hlX
  have HRX := Lib.hid hrX
  have HK0 := Lib.hid hk0
  have HB0 := Lib.hid hb0
  have HRG : Hid (RowG wX.drew ⟨none, [], 0⟩) := Lib.hid (RowG.none_ _)
  have HVN : Hid (Nums wX.drew AV V) := Lib.hid (hV6.call (Below.refl _ _).drew)
  have hgXP : (some gX : Option Nat) ≠ some P := htX.hP
  have hgl := (htX.head.lt gX rfl).2
  have HC2 : Hid (∀ w', wX.drew.grownBy w' none → w'.cell? ⟨P, 2, none⟩ = some (.slice (some ⟨gX, 0, none⟩) nX cX)) := Lib.hid fun w' hg => hg.cell (show wX.drew.cell? _ = _ from cX2) (by simp)
  have HG0 : Hid (∀ w', wX.drew.grownBy w' none → w'.cell? ⟨gX, n, none⟩ = some (.slice none 0 0)) := Lib.hid fun w' hg => hg.cell (show wX.drew.cell? _ = _ from gX0) (by simp)
  have HF0 : Hid (∀ w', wX.drew.grownBy w' none → w'.frozen? ⟨gX, n, none⟩ = false) := Lib.hid fun w' hg => (World.frozen?_of_block (a := ⟨gX, n, none⟩) (hg.block gX hgl (by simp))).trans (show wX.drew.frozen? _ = false from fX0)
  have kk : (n : Int) < ((nX : Nat) : Int) := by omega
  have kk2 : n < nX := by omega
  clear hoX6 hg6 hgX z hT1 hgX' htX hkX hP6 hV6 hk0 hb0 hlX hrX hgXP hgl fX0
  clear hnX
  go_wp2_with fail
  go_region_law (refine step_append_grow rfl (.tmp 33) (.tmp 34) rfl ⟨none, [], 0⟩ 0 rfl AV nv cv V rfl HRG.out rfl HVL.out HVN.out (by omega) ?_; intro A7 k7 w7 hG7 hg7 hp7; have HG7 := Lib.hid hG7; have HB7 := Lib.hid hg7; have HP7 := Lib.hid hp7; have b7 := HC2.out w7 hg7; have e7 := HG0.out w7 hg7; have f7 := HF0.out w7 hg7; clear hG7 hg7 hp7)
  all_goals
    have hp := HTX.out.put D HLX.out HRX.out (⟨HB7.out.os, HB7.out.tape, HB7.out.output, HB7.out.size, HB7.out.block⟩ : wX.grownBy w7 none) (p := 0 + nv) (by rw [List.length_append, HVL.out]; rfl) HG7.out HP7.out
    have hq := HTX.out.put_left D HLX.out HRX.out (⟨HB7.out.os, HB7.out.tape, HB7.out.output, HB7.out.size, HB7.out.block⟩ : wX.grownBy w7 none) (p := 0 + nv) (by rw [List.length_append, HVL.out]; rfl) HG7.out HP7.out
    have hF := LeftQ.after2 hp hq.1 hq.2 HK0.out HB0.out
    rw [ls_set, ls_app, Nat.zero_add] at hF
    have HFN : Hid (LeftQ Tp w P T B word (.slice (some ⟨g, 0, none⟩) n hc) R low high u ((lsI R ++ [[]]).set n ([] ++ V)) (w7.setCell ⟨gX, n, none⟩ (.slice A7 nv k7))) := Lib.hid hF
    clear hp hq b7 e7 f7 hF
    go_wp2_with fail
    first
    | (go_end0; exact ⟨rfl, HFN.out⟩)
    | exact bodyPost_ret (results_none rfl _ _ _) rfl ⟨rfl, HFN.out⟩
end Go.Proofs.Ytbdfmnlfdhhnjaa

/-
  The landed package req: a tower settled.
-/
namespace Go.Proofs.Ytbdfmnlfdhhnjaa
set_option linter.unusedVariables false
set_option linter.unusedSimpArgs false
open Go.RowKit

theorem rq_lay {Tp : TapT} (D : TapDoes Tp) {w : World} {P T : Nat} {B word low high : Int} {u : Nat} {hv : Value} {R : List RowI} {h : Nat} {AV : Option Addr} {nv cv : Nat} {V : List Int} (ht : RqRaw Tp w P T B word low high u hv R) (hne : R ≠ []) (hn2 : R.length ≤ 50000) (hh : h ≤ R.length) (hV : Nums w AV V) (hl : V.length = nv) (hb : nv ≤ 50000) (hb2 : ∀ r, r ∈ R → r.l.length ≤ 50000) (hd : ∀ a, AV = some a → a.block < w.heap.size ∧ ¬ rgQ P T hv R a.block) :
    Calls Try.prog 45 #[.pointer (some ⟨P, 0, none⟩), .int .i64 h, .slice AV nv cv] w fun e w' => e = .returned (.tuple #[]) ∧ LeftQ Tp w P T B word hv R low high u (layR h V (lsI R)) w' := by
  obtain ⟨g, cap, rfl, _, _, _⟩ := ht.head.some_ (List.length_pos_iff.2 hne)
  by_cases c : h < R.length
  · obtain ⟨r, hr⟩ : ∃ r, R[h]? = some r := ⟨_, List.getElem?_eq_getElem c⟩
    exact rq_lay_mid D ht rfl hn2 hr hV hl (by have := hb2 r (List.mem_of_getElem? hr); omega)
  · obtain rfl : h = R.length := by omega
    exact rq_lay_last D ht rfl hn2 hV hl (by omega) hd
theorem FullN.mono {w : World} {base base' : Nat} {v : Value} {L : List Int} (h : FullN w base v L) (hb : base' ≤ base) : FullN w base' v L := by
  obtain ⟨A, rfl, h1, h2, h3⟩ := h
  exact ⟨A, rfl, h1, h2, fun a e => ⟨Nat.le_trans hb (h3 a e).1, (h3 a e).2⟩⟩
theorem PartN.mono {w : World} {base base' : Nat} {v : Value} {L : List Int} (h : PartN w base v L) (hb : base' ≤ base) : PartN w base' v L := by
  obtain ⟨A, cap, rfl, h0, h1, h2, h3⟩ := h
  exact ⟨A, cap, rfl, h0, h1, h2, fun a e => ⟨Nat.le_trans hb (h3 a e).1, (h3 a e).2⟩⟩

/-- A tower on its way to be settled. -/
structure OnSetQ (Tp : TapT) (w : World) (P T : Nat) (B word low high : Int) (U N : Nat) (hv0 : Value) (R0 : List RowI) (F : Tow) (h : Nat) (wr : World) (u : Nat) (hv : Value) (R : List RowI) : Prop where
  t : RqRaw Tp wr P T B word low high u hv R
  way : OnWay B (coinB word) F h (lsI R) u
  ne : R ≠ []
  fuel : h + fuelR ((lsI R).drop h) ≤ N
  use : u ≤ U + h
  keeps : Keeps (rgQ P T hv0 R0) w wr
  blk : ∀ k, rgQ P T hv R k → rgQ P T hv0 R0 k ∨ w.heap.size ≤ k
theorem OnSetQ.start {Tp : TapT} {w : World} {P T : Nat} {B word low high : Int} {U N : Nat} {hv0 : Value} {R0 : List RowI} (ht : RqRaw Tp w P T B word low high U hv0 R0) (hne : R0 ≠ []) (hN : fuelR (lsI R0) ≤ N) : OnSetQ Tp w P T B word low high U N hv0 R0 (towS B (coinB word) (lsI R0, U)) 0 w U hv0 R0 :=
  ⟨ht, onWay_start, hne, by rw [List.drop_zero]; omega, Nat.le_refl _, Keeps.refl _ _, fun k hk => Or.inl hk⟩
theorem OnSetQ.few {Tp : TapT} {w wr : World} {P T U N h u : Nat} {B word low high : Int} {hv0 hv : Value} {R0 R : List RowI} {F : Tow} (s : OnSetQ Tp w P T B word low high U N hv0 R0 F h wr u hv R) : R.length ≤ N ∧ h ≤ R.length := by
  have h1 := s.way.1
  have h2 := fuel_drop_len (lsI R) h h1
  have h3 := s.fuel
  rw [ls_len] at h1 h2
  omega
theorem OnSetQ.short {Tp : TapT} {w wr : World} {P T U N h u i : Nat} {B word low high : Int} {hv0 hv : Value} {R0 R : List RowI} {F : Tow} {r : RowI} (s : OnSetQ Tp w P T B word low high U N hv0 R0 F h wr u hv R) (hr : R[h + i]? = some r) : r.l.length ≤ N := by
  have h1 := fuel_drop_at (ls_at hr)
  have h3 := s.fuel
  omega
theorem OnSetQ.next_lt {Tp : TapT} {w wr w' : World} {P T U N h u : Nat} {B word low high : Int} {hv0 hv : Value} {R0 R : List RowI} {F : Tow} {r : RowI} (s : OnSetQ Tp w P T B word low high U N hv0 R0 F h wr u hv R) (D : TapDoes Tp) (h4 : B % 4 = 0) (h0 : 4 ≤ B) (hr : R[h]? = some r) (k : (r.l.length : Int) < B) (hb : Below wr.heap.size wr w') : OnSetQ Tp w P T B word low high U N hv0 R0 F (h + 1) w' u hv R := by
  obtain ⟨w1, w2⟩ := onWay_lt h4 h0 s.way (ls_at hr) k
  exact ⟨s.t.call D hb, w1, s.ne, by have := s.fuel; omega, by have := s.use; omega, keepsQ_then s.keeps (Keeps.of_below (S := fun _ => False) hb) fun k _ hk => hk.elim, s.blk⟩
theorem OnSetQ.next_ge {Tp : TapT} {w wr w5 w6 : World} {P T U N h u : Nat} {B word low high : Int} {hv0 hv hv5 : Value} {R0 R R5 : List RowI} {F : Tow} {r : RowI} (s : OnSetQ Tp w P T B word low high U N hv0 R0 F h wr u hv R) (h4 : B % 4 = 0) (h0 : 4 ≤ B) (hr : R[h]? = some r) (k : ¬ (r.l.length : Int) < B)
    (hk5 : Keeps (rgQ P T hv R) wr w5) (hb5 : ∀ k, rgQ P T hv5 R5 k → rgQ P T hv R k ∨ wr.heap.size ≤ k) (hl5 : lsI R5 = (lsI R).set h (stayL (B / 2) r.l)) (hL : LeftQ Tp w5 P T B word hv5 R5 low high (u + 1) (layR (h + 1) (goR B (coinB word u) r.l) (lsI R5)) w6) : ∃ hv' R', OnSetQ Tp w P T B word low high U N hv0 R0 F (h + 1) w6 (u + 1) hv' R' := by
  obtain ⟨w1, w2⟩ := onWay_ge h4 h0 s.way (ls_at hr) k
  have hL2 := (hL.after hk5 hb5).after s.keeps s.blk
  rw [hl5, lay_split (ls_at hr)] at hL2
  obtain ⟨hv', R', t', l', k', b'⟩ := hL2
  rw [← l'] at w1 w2
  refine ⟨hv', R', t', w1, ?_, by have := s.fuel; omega, by have := s.use; omega, k', b'⟩
  intro e
  subst e
  have := w1.1
  simp [lsI] at this
theorem OnSetQ.all {Tp : TapT} {w wr : World} {P T U N h u : Nat} {B word low high : Int} {hv0 hv : Value} {R0 R : List RowI} {F : Tow} (s : OnSetQ Tp w P T B word low high U N hv0 R0 F h wr u hv R) (hh : h = R.length) : LeftQ Tp w P T B word hv0 R0 low high F.2 F.1 wr := by
  have hw := s.way
  rw [hh, ← ls_len R] at hw
  have e := onWay_end hw
  rw [e]
  exact ⟨hv, R, s.t, rfl, s.keeps, s.blk⟩
/-- All rows on the way are no longer than what is left to do. -/
theorem OnSetQ.short_all {Tp : TapT} {w wr : World} {P T U N h u : Nat} {B word low high : Int} {hv0 hv : Value} {R0 R : List RowI} {F : Tow} (s : OnSetQ Tp w P T B word low high U N hv0 R0 F h wr u hv R) (hF : ∀ r, r ∈ F.1 → (r.length : Int) ≤ N) : ∀ r, r ∈ R → r.l.length ≤ N := by
  intro r hr
  obtain ⟨i, hi, e⟩ := List.mem_iff_getElem.1 hr
  have hri : R[i]? = some r := by rw [List.getElem?_eq_getElem hi, e]
  by_cases c : h ≤ i
  · obtain ⟨j, rfl⟩ : ∃ j, i = h + j := ⟨i - h, by omega⟩
    exact s.short hri
  · have hw := s.way.2.1
    have hm : r.l ∈ F.1 := by
      rw [← hw]
      refine List.mem_append_left _ (List.mem_of_getElem? (i := i) ?_)
      rw [List.getElem?_take_of_lt (by omega)]
      exact ls_at hri
    have := hF _ hm
    omega

set_option maxRecDepth 100000 in
set_option maxHeartbeats 16000000 in
theorem rq_settle {Tp : TapT} (D : TapDoes Tp) (H : RowDoes) {w : World} {P T : Nat} {B word low high : Int} {U : Nat} {hv0 : Value} {R0 : List RowI} (ht : RqRaw Tp w P T B word low high U hv0 R0) (hne : R0 ≠ []) (h4 : B % 4 = 0) (h0 : 4 ≤ B) (h64 : B ≤ 64) (hw : Word word) (hU : U ≤ 2000000000) (hN : fuelR (lsI R0) ≤ 40000) :
    Calls Try.prog 46 #[.pointer (some ⟨P, 0, none⟩)] w fun e w' => e = .returned (.tuple #[]) ∧ LeftQ Tp w P T B word hv0 R0 low high (towS B (coinB word) (lsI R0, U)).2 (towS B (coinB word) (lsI R0, U)).1 w' := by
  obtain ⟨F, hF⟩ : ∃ F, towS B (coinB word) (lsI R0, U) = F := ⟨_, rfl⟩
  obtain ⟨N, hNe⟩ : ∃ N, max (fuelR (lsI R0)) 64 = N := ⟨_, rfl⟩
  have HST := Lib.hid (OnSetQ.start ht hne (show fuelR (lsI R0) ≤ N by omega))
  have HFS : Hid (∀ r, r ∈ F.1 → (r.length : Int) ≤ N) := Lib.hid fun r hr => by
    rw [← hF] at hr
    unfold towS at hr
    rw [setF_is (fuelR (lsI R0)) (lsI R0) U (cntR B (fuelR (lsI R0)) (lenR (lsI R0))) (Nat.le_refl _)] at hr
    have := set_short h4 h0 _ _ _ (Nat.le_refl _) r hr
    omega
  rw [hF] at HST ⊢
  have N4 : N ≤ 40000 := by omega
  have HW := Lib.hid hw
  have HH := Lib.hid H
  have HDD := Lib.hid D
  obtain ⟨b2, hb2⟩ : ∃ b2, B / 2 = b2 := ⟨_, rfl⟩
  have t1 : B.tdiv 2 = b2 := by rw [Int.tdiv_eq_ediv_of_nonneg (by omega)]; exact hb2
  have t2 : wrap64 b2 = b2 := by unfold wrap64; omega
  have t3 : IntKind.i64.wrap b2 = b2 := by rw [IntKind.wrap_i64]; omega
  have HB2 := Lib.hid hb2
  have HBI : Hid (I64 b2) := Lib.hid ⟨by omega, by omega⟩
  clear hF hNe hN ht hne hw hb2 D H
  go_enter Try.func46, Try.ntmps46
  go_wp2_with fail
  go_loopg [2] N (fun g sv wr => ∃ (h u : Nat) (hv : Value) (R : List RowI), g = N - h ∧ sv = .int .i64 h ∧ OnSetQ Tp w P T B word low high U N hv0 R0 F h wr u hv R)
  case atStart => exact ⟨0, U, hv0, R0, rfl, rfl, HST.out⟩
  case round =>
    obtain ⟨h, u, hv, R, hgk, rfl, hs⟩ := hrel
    have HS := Lib.hid hs
    obtain ⟨n, hn⟩ : ∃ n, R.length = n := ⟨_, rfl⟩
    have hfew := hs.few
    rw [hn] at hfew
    have hn1 : 1 ≤ n := by
      cases R with
      | nil => exact absurd rfl hs.ne
      | cons a b => rw [← hn]; simp
    obtain ⟨G, cap, rfl, _, hG1, hcap⟩ := hs.t.head.some_ (by rw [hn]; exact hn1)
    rw [hn] at HS hcap
    have ht := HS.out.t
    have hu : u ≤ 2000040000 := by have := hs.use; omega
    have c0 := ht.c0
    have c2 := ht.c2
    have c3 := ht.c3
    have HT := Lib.hid ht
    have HN := Lib.hid hn
    have HG1 := Lib.hid hG1
    clear hs
    by_cases hlt : h < n
    · have kk : (h : Int) < n := by omega
      obtain ⟨r, hr⟩ : ∃ r, R[h]? = some r := ⟨_, List.getElem?_eq_getElem (by rw [hn]; exact hlt)⟩
      obtain ⟨A, L, k⟩ := r
      obtain ⟨l, hl⟩ : ∃ l, L.length = l := ⟨_, rfl⟩
      have hl4 : l ≤ 40000 := by have := HS.out.short (i := 0) hr; simp only at this; omega
      have hrm : (⟨A, L, k⟩ : RowI) ∈ R := List.mem_of_getElem? hr
      have g0 : wr.cell? ⟨G, h, none⟩ = some (.slice A l k) := by
        have := ht.head.at_ hn hr
        rw [show (⟨A, L, k⟩ : RowI).v = .slice A l k by unfold RowI.v; rw [hl]] at this
        exact this
      have HROW := Lib.hid (ht.row _ hrm)
      have hlk : l ≤ k := by have := HROW.out.cap; simp only at this; omega
      have HR := Lib.hid hr
      have HL := Lib.hid hl
      by_cases hsh : (l : Int) < B
      · have HNX := Lib.hid (fun W (hb : Below wr.heap.size wr W) => HS.out.next_lt HDD.out h4 h0 hr (by show ((⟨A, L, k⟩ : RowI).l.length : Int) < B; simp only; rw [hl]; exact hsh) hb)
        clear hr hl hrm hn ht hcap
        go_wp2_with fail
        go_quiet (fail)
        rename_i nq
        go_wp2_with fail
        go_roundg (N - (h + 1))
        case measure => omega
        case rel => exact ⟨h + 1, u, _, R, rfl, by first | rfl | go_num, HNX.out _ (below_drewN (Below.refl _ _) nq)⟩
      · have HGE : Hid (¬ ((⟨A, L, k⟩ : RowI).l.length : Int) < B) := Lib.hid (by show ¬ ((L.length : Nat) : Int) < B; rw [hl]; exact hsh)
        obtain ⟨S, hS⟩ : ∃ S, stayL b2 L = S := ⟨_, rfl⟩
        obtain ⟨Q, hQ⟩ : ∃ Q, restL b2 L = Q := ⟨_, rfl⟩
        obtain ⟨cb, hcb⟩ : ∃ cb, coinB word u = cb := ⟨_, rfl⟩
        obtain ⟨GL, hGL⟩ : ∃ GL, halvB cb Q = GL := ⟨_, rfl⟩
        obtain ⟨m, hm⟩ : ∃ m, GL.length = m := ⟨_, rfl⟩
        obtain ⟨p, hp⟩ : ∃ p, S.length = p := ⟨_, rfl⟩
        obtain ⟨q, hq⟩ : ∃ q, Q.length = q := ⟨_, rfl⟩
        have HGL := Lib.hid hm
        have HPL := Lib.hid hp
        have HQL := Lib.hid hq
        have hGo : goR B cb L = GL := by unfold goR; rw [HB2.out, hQ, hGL]
        have HGO := Lib.hid hGo
        have HSS : Hid (S = stayL (B / 2) L) := Lib.hid (by rw [HB2.out, hS])
        have hql : q ≤ l := by rw [← hq, ← hQ, (stay_len b2 L).2, hl]; omega
        have hpl : p ≤ l := by rw [← hp, ← hS, (stay_len b2 L).1, hl]; exact (keepN_le b2 l).1
        have hml : m ≤ 40000 := by rw [← hm, ← hGL, halv_len, hq]; split <;> omega
        have hLok := HROW.out.2
        have HSO : Hid (∀ x, x ∈ S → I64 x) := Lib.hid fun x hx => hLok x (by rw [← hS] at hx; exact stay_mem hx)
        have HQO : Hid (∀ x, x ∈ Q → I64 x) := Lib.hid fun x hx => hLok x (by
          rw [← hQ] at hx
          exact (stay_rest b2 L).mem_iff.1 (List.mem_append_right _ hx))
        have HGM : Hid (∀ x, x ∈ GL → I64 x) := Lib.hid fun x hx => hLok x (goR_mem (by rw [hGo]; exact hx))
        have CS := Lib.hid (fun W hW => HH.out.split W A l k L b2 hW hl hlk (by omega) HBI.out)
        rw [hS, hQ] at CS
        have CN := Lib.hid (fun (W : World) (hW : Tp W T word u) => HDD.out.next W T word u hW HW.out (by omega))
        rw [hcb] at CN
        have CH := Lib.hid (fun W AQ cQ (hW : Nums W AQ Q) => HH.out.halve W AQ q cQ Q cb hW hq (by omega))
        rw [hGL] at CH
        have HCB := Lib.hid hcb
        have hrall : ∀ r, r ∈ R → r.l.length ≤ 50000 := fun r hr => by have := HS.out.short_all HFS.out r hr; omega
        have HRA := Lib.hid hrall
        obtain ⟨h1, hh1⟩ : ∃ h1 : Nat, h + 1 = h1 := ⟨_, rfl⟩
        have HH1 := Lib.hid hh1
        have hE : (h : Int) + 1 = (h1 : Int) := by omega
        have hE2 : IntKind.i64.wrap (h1 : Int) = (h1 : Int) := by rw [IntKind.wrap_i64]; omega
        clear hr hrm hn ht hcap hS hQ hcb hGL hGo hm hp hq hLok hrall hh1 hlk hl
        go_wp2_with fail
        go_quiet (fail)
        rename_i nq
        have b1 : Below wr.heap.size wr (wr.drewN nq) := below_drewN (Below.refl _ _) nq
        have HT1 := Lib.hid (HT.out.call HDD.out b1)
        have HZ1 : Hid ((wr.drewN nq).heap.size = wr.heap.size) := Lib.hid (by simp)
        have HK1 : Hid (Keeps (rgQ P T (.slice (some ⟨G, 0, none⟩) n cap) R) wr (wr.drewN nq)) := Lib.hid (Keeps.of_below b1)
        generalize wr.drewN nq = w1 at *
        have c01 := HT1.out.c0
        have c21 := HT1.out.c2
        have g01 : w1.cell? ⟨G, h, none⟩ = some (.slice A l k) := by
          have := HT1.out.head.at_ HN.out HR.out
          rw [show (⟨A, L, k⟩ : RowI).v = .slice A l k by unfold RowI.v; rw [HL.out]] at this
          exact this
        have HROW1 := Lib.hid ((HT1.out.row _ (List.mem_of_getElem? HR.out)).nums)
        clear c0 c2 c3 g0 b1 HT
        go_wp2_with fail
        have HS0 : Hid (w1.drew.cell? ⟨P, 0, none⟩ = some (.int .i64 B) ∧ w1.drew.cell? ⟨P, 2, none⟩ = some (.slice (some ⟨G, 0, none⟩) n cap) ∧ w1.drew.cell? ⟨G, h, none⟩ = some (.slice A l k) ∧ Below w1.heap.size w1 w1.drew) := Lib.hid ⟨c01, c21, g01, (Below.refl _ _).drew⟩
        have HSTP := Lib.hid (fun (W W' : World) (x : W.cell? ⟨P, 0, none⟩ = some (.int .i64 B) ∧ W.cell? ⟨P, 2, none⟩ = some (.slice (some ⟨G, 0, none⟩) n cap) ∧ W.cell? ⟨G, h, none⟩ = some (.slice A l k) ∧ Below w1.heap.size w1 W) (hb : Below W.heap.size W W') => (⟨cell_later hb x.1, cell_later hb x.2.1, cell_later hb x.2.2.1, x.2.2.2.trans (hb.mono x.2.2.2.size)⟩ : W'.cell? ⟨P, 0, none⟩ = some (.int .i64 B) ∧ W'.cell? ⟨P, 2, none⟩ = some (.slice (some ⟨G, 0, none⟩) n cap) ∧ W'.cell? ⟨G, h, none⟩ = some (.slice A l k) ∧ Below w1.heap.size w1 W'))
        have CS2 := Lib.hid (fun (W : World) (x : W.cell? ⟨P, 0, none⟩ = some (.int .i64 B) ∧ W.cell? ⟨P, 2, none⟩ = some (.slice (some ⟨G, 0, none⟩) n cap) ∧ W.cell? ⟨G, h, none⟩ = some (.slice A l k) ∧ Below w1.heap.size w1 W) => (CS.out W (HROW1.out.call x.2.2.2)).mono fun e w' hx => (by
          obtain ⟨v1, v2, he, hf, hp, _, hb⟩ := hx
          obtain ⟨A1, e1, _⟩ := id hf
          obtain ⟨A2, cR, e2, _⟩ := id hp
          rw [HPL.out] at e1
          rw [HQL.out] at e2
          subst e1 e2
          exact ⟨A1, A2, cR, he, hf.mono x.2.2.2.size, hp.mono x.2.2.2.size, hb⟩ : ∃ A1 A2 cR, e = Ending.returned (.tuple #[.slice A1 p p, .slice A2 q cR]) ∧ FullN w' w1.heap.size (.slice A1 p p) S ∧ PartN w' w1.heap.size (.slice A2 q cR) Q ∧ Below W.heap.size W w'))
        clear c01 c21 g01
        go_region_held3 (fun w' => w'.cell? ⟨P, 0, none⟩ = some (.int .i64 B) ∧ w'.cell? ⟨P, 2, none⟩ = some (.slice (some ⟨G, 0, none⟩) n cap) ∧ w'.cell? ⟨G, h, none⟩ = some (.slice A l k) ∧ Below w1.heap.size w1 w')
          (first | exact HS0.out | exact HSTP.out _ _ (by assumption) hb2' | assumption)
          ((go_at_call 64; (with_reducible (refine (CS2.out _ (by assumption)).mono ?_)); rintro e w2 ⟨A1, A2, cR, rfl, hF2, hP2, hb2'⟩))
        rename_i hHeld
        clear HS0 HSTP CS2
        have hb2 : Below w1.heap.size w1 w2 := hHeld.2.2.2
        have hG1' := (HT1.out.head.lt G rfl).2
        have hT1l := HDD.out.lt _ _ _ _ HT1.out.tape
        have hP1l := HT1.out.lt
        have hgr : w1.grownBy w2 (A.map (·.block)) := ⟨hb2.os, hb2.tape, hb2.output, hb2.size, fun j hj _ => hb2.block j hj⟩
        have hA1 : ∀ b, A1 = some b → A.map (·.block) = some b.block ∨ w1.heap.size ≤ b.block := fun b hb => Or.inr (hF2.lt b.block (by rw [hb]; rfl)).1
        have hRG : RowG w2 ⟨A1, S, p⟩ := ⟨Or.inr (by
          rw [show (⟨A1, S, p⟩ : RowI).v = .slice A1 p p by unfold RowI.v; rw [HPL.out]]
          exact hF2.mono (Nat.zero_le _)), HSO.out⟩
        have hp3 := HT1.out.put HDD.out HN.out HR.out hgr HPL.out hRG hA1
        have hq3 := HT1.out.put_left HDD.out HN.out HR.out hgr HPL.out hRG hA1
        have hA2 : ∀ a, A2 = some a → w1.heap.size ≤ a.block ∧ a.block < w2.heap.size := fun a ha => hP2.lt a.block (by rw [ha]; rfl)
        obtain ⟨A2', cR', eR, hQN⟩ := hP2.rows HQO.out
        obtain ⟨rfl, hjunk, rfl⟩ := Value.slice.inj eR
        clear hjunk
        have g3 := grown21_put w2 G h (.slice A1 p p)
        have hQ3 := hQN.grown g3 fun a ha e => by have := (hA2 a ha).1; have e' := Option.some.inj e; omega
        have hgl2 := HT1.out.head.call hb2
        have d2 : w2.cell? ⟨P, 2, none⟩ = some (.slice (some ⟨G, 0, none⟩) n cap) := hHeld.2.1
        have d3 : w2.cell? ⟨G, h, none⟩ = some (.slice A l k) := hHeld.2.2.1
        have d4 : w2.frozen? ⟨G, h, none⟩ = false := hgl2.free HN.out h
        have HZ3 : Hid (w1.heap.size ≤ (w2.setCell ⟨G, h, none⟩ (.slice A1 p p)).heap.size ∧ w2.heap.size ≤ (w2.setCell ⟨G, h, none⟩ (.slice A1 p p)).heap.size) := Lib.hid ⟨Nat.le_trans hb2.size g3.size, g3.size⟩
        obtain ⟨w3, hw3⟩ : ∃ w3, w2.setCell ⟨G, h, none⟩ (.slice A1 p p) = w3 := ⟨_, rfl⟩
        rw [hw3] at hp3 hq3 hQ3 HZ3
        have HP3 := Lib.hid hp3
        have HK3 := Lib.hid hq3.1
        have HB3 := Lib.hid hq3.2
        have HQ3 := Lib.hid hQ3
        have HA2 := Lib.hid hA2
        have HL1 := Lib.hid hP1l
        have HTL := Lib.hid hT1l
        have r3 := hp3.c3
        have CN3 := Lib.hid (CN.out w3 hp3.tape)
        clear hp3 hq3 hQ3 hA2 hgl2 g3 hQN eR hRG hA1 hgr hT1l hP1l hG1' hb2 hb2' hHeld hF2 hP2 CN CS HROW1
        go_wp2_with fail
        with_reducible (refine CN3.out.mono ?_)
        rintro e w4 ⟨rfl, ht4, hg4⟩
        have hp4 := HP3.out.coin HDD.out hg4 ht4
        have hQ4 := HQ3.out.grown hg4 fun a ha e => by have := (HA2.out a ha).1; have := HTL.out; have e' := Option.some.inj e; omega
        have HP4 := Lib.hid hp4
        have HK4 : Hid (Keeps (rgQ P T (.slice (some ⟨G, 0, none⟩) n cap) R) w1 w4) := Lib.hid (HK3.out.grown hg4 fun j hj => Or.inl (Or.inr (Or.inl (Option.some.inj hj).symm)))
        have CH4 := Lib.hid (CH.out w4 A2 cR hQ4)
        have HZ4 := Lib.hid hg4.size
        clear ht4 hg4 hp4 hQ4 CN3
        go_wp2_with fail
        with_reducible (refine CH4.out.mono ?_)
        rintro e w5 ⟨vH, rfl, hoH, hb5⟩
        obtain ⟨AH, kH, hvH⟩ := hoH.form
        rw [HGL.out] at hvH
        subst hvH
        have hp5 := HP4.out.call HDD.out hb5
        have hNH : Nums w5 AH GL := by
          obtain ⟨A', c', e', hN'⟩ := hoH.rows HGM.out
          obtain ⟨rfl, hj1, hj2⟩ := Value.slice.inj e'
          exact hN'
        have hbl4 := HP4.out.blocks HDD.out
        have hlen5 : ∀ r, r ∈ R.set h ⟨A1, S, p⟩ → r.l.length ≤ 50000 := fun r hr => by
          rcases List.mem_or_eq_of_mem_set hr with hr | rfl
          · exact HRA.out r hr
          · show S.length ≤ 50000
            rw [HPL.out]; omega
        have hne5 : R.set h ⟨A1, S, p⟩ ≠ [] := fun e => by
          have e2 := congrArg List.length e
          rw [List.length_set, HN.out] at e2
          simp at e2
          omega
        have CL := Lib.hid (rq_lay HDD.out (h := h1) (cv := kH) hp5 hne5 (by rw [List.length_set, HN.out]; omega) (by rw [List.length_set, HN.out]; have := HH1.out; omega) hNH HGL.out (by omega) hlen5 fun a ha => by
          have h9 := hoH.lt a.block (by rw [ha]; rfl)
          exact ⟨h9.2, fun c => by have := hbl4 _ c; omega⟩)
        have HK5 : Hid (Keeps (rgQ P T (.slice (some ⟨G, 0, none⟩) n cap) R) w1 w5) := Lib.hid (keepsQ_then HK4.out (Keeps.of_below (S := fun _ => False) hb5) fun _ _ hk => hk.elim)
        clear hoH hb5 hp5 hNH hbl4 hlen5 hne5 CH4
        go_wp2_with fail
        with_reducible (refine CL.out.mono ?_)
        rintro e w6 ⟨rfl, hL6⟩
        have hgo : ¬ ((⟨A, L, k⟩ : RowI).l.length : Int) < B := by show ¬ ((L.length : Nat) : Int) < B; rw [HL.out]; omega
        obtain ⟨hv', R', hN6⟩ := HS.out.next_ge h4 h0 HR.out hgo (keepsQ_then HK1.out HK5.out fun _ _ hk => hk) (fun k hk => (HB3.out k hk).imp id fun e => by have := HZ1.out; omega) (by rw [ls_set, HSS.out]) (by
          rw [← HH1.out] at hL6
          rw [HCB.out]
          show LeftQ Tp w5 P T B word _ _ low high (u + 1) (layR (h + 1) (goR B cb L) _) w6
          rw [HGO.out]
          exact hL6)
        have HN6 := Lib.hid hN6
        clear hL6 hgo hN6
        go_wp2_with fail
        go_roundg (N - (h + 1))
        case measure => omega
        case rel => exact ⟨h + 1, u + 1, _, R', rfl, by first | rfl | (rw [HH1.out]; rfl) | go_num, HN6.out⟩
    · have kk : ¬ (h : Int) < n := by omega
      have HF := Lib.hid (HS.out.all (by rw [HN.out]; omega))
      clear ht hn c0 c3 hcap
      go_wp2_with fail
      first
      | (go_end0; exact ⟨rfl, HF.out⟩)
      | exact bodyPost_ret (results_none rfl _ _ _) rfl ⟨rfl, HF.out⟩
end Go.Proofs.Ytbdfmnlfdhhnjaa

/-
  The landed package req: weights, totals, configurations, what is told of a tower.
-/
namespace Go.Proofs.Ytbdfmnlfdhhnjaa
set_option linter.unusedVariables false
set_option linter.unusedSimpArgs false
open Go.RowKit

/-! ### Plain -/
theorem wt_takeq : ∀ {R : List (List Int)} {j : Nat} {r : List Int}, R[j]? = some r → wtR (R.take (j + 1)) = wtR (R.take j) + ((2 ^ j : Nat) : Int) * r.length
  | [], j, r, h => by simp at h
  | q :: R, 0, r, h => by
    have e : q = r := by simpa using h
    subst e
    show (q.length : Int) + 2 * 0 = 0 + ((1 : Nat) : Int) * q.length
    omega
  | q :: R, j + 1, r, h => by
    have ih := wt_takeq (R := R) (j := j) (r := r) (by simpa using h)
    show (q.length : Int) + 2 * wtR (R.take (j + 1)) = (q.length : Int) + 2 * wtR (R.take j) + _
    rw [ih, Nat.pow_succ, Int.natCast_mul, Int.mul_add, ← Int.mul_assoc, Int.mul_comm ((2 ^ j : Nat) : Int) ((2 : Nat) : Int)]
    show _ + (_ + (2 : Int) * _ * _) = _ + _ + (2 : Int) * _ * _
    omega
theorem wt_bdq (K : Int) : ∀ {R : List (List Int)}, (∀ r, r ∈ R → (r.length : Int) ≤ K) → 0 ≤ wtR R ∧ wtR R ≤ K * ((2 ^ R.length - 1 : Nat) : Int)
  | [], _ => ⟨Int.le_refl _, by show (0 : Int) ≤ K * 0; omega⟩
  | q :: R, h => by
    obtain ⟨i1, i2⟩ := wt_bdq K (R := R) fun r hr => h r (List.mem_cons_of_mem _ hr)
    have hq := h q List.mem_cons_self
    have hp : 1 ≤ 2 ^ R.length := Nat.one_le_two_pow
    have e : ((2 ^ (R.length + 1) - 1 : Nat) : Int) = 2 * ((2 ^ R.length - 1 : Nat) : Int) + 1 := by rw [Nat.pow_succ]; omega
    have eb : K * ((2 ^ (R.length + 1) - 1 : Nat) : Int) = 2 * (K * ((2 ^ R.length - 1 : Nat) : Int)) + K := by rw [e, Int.mul_add, Int.mul_left_comm, Int.mul_one]
    refine ⟨by show 0 ≤ (q.length : Int) + 2 * wtR R; omega, ?_⟩
    show (q.length : Int) + 2 * wtR R ≤ K * ((2 ^ (R.length + 1) - 1 : Nat) : Int)
    rw [eb]
    omega
theorem shl_oneq (h : Nat) (hh : h ≤ 62) (p : Int) (hp : ((2 ^ h : Nat) : Int) = p) : Op.shift .shl .u64 1 .i64 (h : Int) = pure (.int .u64 p) := by
  rw [shift_shl_any _ _ _ _ (by omega)]
  have e : min (h : Int).toNat IntKind.u64.bits = h := by
    have : IntKind.u64.bits = 64 := rfl
    rw [this]; omega
  have hb : 2 ^ h ≤ 2 ^ 62 := Nat.pow_le_pow_right (by decide) hh
  have e2 : (2 : Int) ^ h = p := by rw [← hp, Int.natCast_pow]; rfl
  have hp0 : 0 ≤ p := by rw [← hp]; exact Int.natCast_nonneg _
  have hp1 : p ≤ 4611686018427387904 := by rw [← hp]; exact Int.ofNat_le.2 hb
  rw [e, e2, Int.one_mul, IntKind.wrap_u64]
  congr 2
  omega

set_option maxHeartbeats 1000000 in
theorem rq_weight (w : World) (h : Nat) (p : Int) (hh : h ≤ 62) (hp : ((2 ^ h : Nat) : Int) = p) : Calls Try.prog 39 #[.int .i64 h] w fun e w' => e = .returned (.int .u64 p) ∧ w = w' := by
  have hs := shl_oneq h hh p hp
  clear hp hh
  go_enter Try.func39, Try.ntmps39
  go_wp2_with fail
  go_ret
  exact ⟨rfl, rfl⟩

set_option maxRecDepth 100000 in
set_option maxHeartbeats 2000000 in
theorem rq_total (w : World) (A : Option Addr) (n cap : Nat) (R : List RowI) (q : Int) (h : RowsN w A R) (hn : R.length = n) (hR : n ≤ 20) (hl : ∀ r, r ∈ R → r.l.length ≤ 20000) (hq : wtR (lsI R) = q) :
    Calls Try.prog 41 #[.slice A n cap] w fun e w' => e = .returned (.int .u64 q) ∧ w = w' := by
  have HT := Lib.hid h
  have HN := Lib.hid hn
  have HL := Lib.hid hl
  have HQ := Lib.hid hq
  have HTB : Hid (∀ j, j ≤ n → 0 ≤ wtR ((lsI R).take j) ∧ wtR ((lsI R).take j) ≤ 20000 * ((2 ^ j - 1 : Nat) : Int)) := Lib.hid fun j hj => by
    have h := wt_bdq 20000 (R := (lsI R).take j) fun r hr => by
      obtain ⟨q, hq, rfl⟩ := List.mem_map.1 (List.mem_of_mem_take hr)
      have := hl q hq
      omega
    rw [List.length_take, ls_len, hn, Nat.min_eq_left hj] at h
    exact h
  have HFIN : Hid ((lsI R).take n = lsI R) := Lib.hid (List.take_of_length_le (by rw [ls_len, hn]; exact Nat.le_refl _))
  clear h hn hl hq
  go_enter Try.func41, Try.ntmps41
  go_wp2_with fail
  go_loopw [3, 8] (fun sv iv wr => ∃ (j : Nat) (a : Int), j ≤ n ∧ iv = .int .i64 j ∧ sv = .int .u64 a ∧ a = wtR ((lsI R).take j) ∧ w = wr) (fun _ iv _ => n - (intOf iv).toNat)
  case atStart => exact ⟨0, 0, Nat.zero_le _, rfl, rfl, rfl, rfl⟩
  case round =>
    obtain ⟨j, a, hj, rfl, rfl, ha, rfl⟩ := hrel
    have HA := Lib.hid ha
    have hbd := HTB.out j hj
    have hp20 : 2 ^ j ≤ 2 ^ 20 := Nat.pow_le_pow_right (by decide) (by omega)
    rw [← ha] at hbd
    have ha0 : 0 ≤ a ∧ a ≤ 20971520000 := by
      refine ⟨hbd.1, ?_⟩
      have h2 := hbd.2
      omega
    obtain ⟨a0, a1⟩ := ha0
    clear ha hbd
    by_cases hlt : j < n
    · have kk : (j : Int) < n := by omega
      obtain ⟨r, hr⟩ : ∃ r, R[j]? = some r := ⟨_, List.getElem?_eq_getElem (by rw [HN.out]; exact hlt)⟩
      obtain ⟨b, hb⟩ : ∃ b : Int, ((2 ^ j : Nat) : Int) = b := ⟨_, rfl⟩
      have b0 : 1 ≤ b ∧ b ≤ 1048576 := by
        have : 1 ≤ 2 ^ j := Nat.one_le_two_pow
        omega
      have CW := Lib.hid (fun W => rq_weight W j b (by omega) hb)
      have hrm := List.mem_of_getElem? hr
      have hll := HL.out _ hrm
      have HS := wt_takeq (ls_at hr)
      obtain ⟨A', L, k⟩ := r
      obtain ⟨b', off, rfl, _, c0⟩ := HT.out.at_ j _ hr
      simp only at c0 hll HS
      obtain ⟨l, hle⟩ : ∃ l, L.length = l := ⟨_, rfl⟩
      rw [hle] at c0 hll HS
      obtain ⟨p, hp⟩ : ∃ p, b * (l : Int) = p := ⟨_, rfl⟩
      have hp0 : 0 ≤ p ∧ p ≤ 20971520000 := by
        rw [← hp]
        refine ⟨Int.mul_nonneg (by omega) (by omega), ?_⟩
        have h1 := Int.mul_le_mul b0.2 (show (l : Int) ≤ 20000 by omega) (by omega) (by decide)
        omega
      rw [hb, hp, ← HA.out] at HS
      have HS2 := Lib.hid HS
      obtain ⟨p0, p1⟩ := hp0
      have wl : IntKind.u64.wrap (l : Int) = l := by rw [IntKind.wrap_u64]; omega
      have wp : IntKind.u64.wrap (b * (l : Int)) = p := by rw [hp, IntKind.wrap_u64]; omega
      have wp2 : IntKind.u64.wrap p = p := by rw [IntKind.wrap_u64]; omega
      clear hr hle hrm HS hb hp20
      go_wp2_with fail
      with_reducible (refine (CW.out _).mono ?_)
      rintro e w2 ⟨rfl, rfl⟩
      go_wp2_with fail
      go_roundw
      case rel => exact ⟨j + 1, a + p, by omega, by go_num, by first | rfl | go_num, HS2.out.symm, by first | rfl | trivial⟩
      case measure => simp [intOf]; omega
    · have kk : ¬ (j : Int) < n := by omega
      obtain rfl : j = n := by omega
      have HF : Hid (q = a) := Lib.hid (by rw [HA.out, HFIN.out, HQ.out])
      go_wp2_with fail
      go_ret
      exact ⟨by rw [HF.out]; rfl, rfl⟩

theorem RqRaw.rowsN {Tp : TapT} {w : World} {P T : Nat} {B word low high : Int} {u : Nat} {hv : Value} {R : List RowI} (h : RqRaw Tp w P T B word low high u hv R) (hne : R ≠ []) : ∃ g cap, hv = .slice (some ⟨g, 0, none⟩) R.length cap ∧ g < w.heap.size ∧ R.length ≤ cap ∧ RowsN w (some ⟨g, 0, none⟩) R := by
  obtain ⟨g, cap, rfl, _, hg, hc⟩ := h.head.some_ (List.length_pos_iff.2 hne)
  exact ⟨g, cap, rfl, hg, hc, fun i r hi => ⟨g, 0, rfl, hg, by rw [Nat.zero_add]; exact h.head.at_ rfl hi⟩, fun r hr => (h.row r hr).nums⟩

/-! ### What is told of a tower -/
set_option maxHeartbeats 1000000 in
theorem rq_tot {Tp : TapT} {w : World} {P T : Nat} {B word low high : Int} {u : Nat} {hv : Value} {R : List RowI} {q : Int} (h : RqRaw Tp w P T B word low high u hv R) (hne : R ≠ []) (hR : R.length ≤ 20) (hl : ∀ r, r ∈ R → r.l.length ≤ 20000) (hq : wtR (lsI R) = q) :
    Calls Try.prog 21 #[.pointer (some ⟨P, 0, none⟩)] w fun e w' => e = .returned (.int .u64 q) ∧ w = w' := by
  obtain ⟨g, cap, rfl, hg, hc, hN⟩ := h.rowsN hne
  have C := Lib.hid (rq_total w (some ⟨g, 0, none⟩) R.length cap R q hN rfl hR hl hq)
  have c2 := h.c2
  obtain ⟨n, hn⟩ : ∃ n, R.length = n := ⟨_, rfl⟩
  rw [hn] at C c2
  clear h hne hR hl hq hN hc hn
  go_enter Try.func21, Try.ntmps21
  go_wp2_with fail
  with_reducible (refine C.out.mono ?_)
  rintro e w2 ⟨rfl, rfl⟩
  go_wp2_with fail
  go_ret
  exact ⟨rfl, rfl⟩

theorem rq_tot_nil (w : World) : Calls Try.prog 21 #[.pointer none] w fun e w' => e = .returned (.int .u64 0) ∧ Below w.heap.size w w' := by
  go_enter Try.func21, Try.ntmps21
  go_wp2_with fail
  go_ret
  exact ⟨rfl, Below.refl _ _⟩

set_option maxHeartbeats 1000000 in
theorem rq_cmost (w : World) (B word : Int) (h0 : 0 ≤ B) (h64 : B ≤ 64) : Calls Try.prog 42 #[.agg #[.int .i64 B, .int .u64 word]] w fun e w' => e = .returned (.int .u64 (B * 1024)) ∧ Below w.heap.size w w' := by
  have HB : Hid (Below w.heap.size w (w.alloc (.cells #[.int .i64 B, .int .u64 word] 24))) := Lib.hid ((Below.refl _ _).alloc (Nat.le_refl _) _)
  have e1 : IntKind.u64.wrap B = B := by rw [IntKind.wrap_u64]; omega
  have e2 : IntKind.u64.wrap (B * 1024) = B * 1024 := by rw [IntKind.wrap_u64]; omega
  go_enter Try.func42, Try.ntmps42
  go_wp2_with fail
  go_ret
  exact ⟨by first | rfl | exact ret_int (by go_num), HB.out⟩

set_option maxHeartbeats 1000000 in
theorem rq_config {w : World} {P : Nat} {B word : Int} (c0 : w.cell? ⟨P, 0, none⟩ = some (.int .i64 B)) (c1 : w.cell? ⟨P, 1, none⟩ = some (.int .u64 word)) : Calls Try.prog 22 #[.pointer (some ⟨P, 0, none⟩)] w fun e w' => e = .returned (.agg #[.int .i64 B, .int .u64 word]) ∧ Below w.heap.size w w' := by
  have hP := World.block_lt_of_cell? (a := ⟨P, 0, none⟩) w c0
  simp only at hP
  have hb : Below w.heap.size w (w.alloc (.cells #[.int .i64 B, .int .u64 word] 24)) := (Below.refl _ _).alloc (Nat.le_refl _) _
  go_enter Try.func22, Try.ntmps22
  go_wp2_with fail
  refine bodyPost_ret (v := .agg #[.int .i64 B, .int .u64 word]) (by simp [results, Try.results22, go_sem]) rfl ⟨rfl, ?_⟩
  first | exact hb | exact (Below.refl _ _).alloc (Nat.le_refl _) _ | exact (((Below.refl _ _).alloc (Nat.le_refl _) _).setCell (by simp) _).setCell (by simp) _

set_option maxHeartbeats 1000000 in
theorem rq_config_nil (w : World) : Calls Try.prog 22 #[.pointer none] w fun e w' => e = .returned (.agg #[.int .i64 0, .int .u64 0]) ∧ Below w.heap.size w w' := by
  go_enter Try.func22, Try.ntmps22
  go_wp2_with fail
  refine bodyPost_ret (v := .agg #[.int .i64 0, .int .u64 0]) (by simp [results, Try.results22, go_sem]) rfl ⟨rfl, ?_⟩
  first | exact (Below.refl _ _).alloc (Nat.le_refl _) _ | exact (((Below.refl _ _).alloc (Nat.le_refl _) _).setCell (by simp) _).setCell (by simp) _

set_option maxHeartbeats 1000000 in
theorem rq_most {w : World} {P : Nat} {B word : Int} (h0 : 0 ≤ B) (h64 : B ≤ 64) (c0 : w.cell? ⟨P, 0, none⟩ = some (.int .i64 B)) (c1 : w.cell? ⟨P, 1, none⟩ = some (.int .u64 word)) : Calls Try.prog 23 #[.pointer (some ⟨P, 0, none⟩)] w fun e w' => e = .returned (.int .u64 (B * 1024)) ∧ Below w.heap.size w w' := by
  have C := Lib.hid (rq_config c0 c1)
  have CM := Lib.hid (fun W => rq_cmost W B word h0 h64)
  go_enter Try.func23, Try.ntmps23
  go_wp2_with fail
  with_reducible (refine C.out.mono ?_)
  rintro e w2 ⟨rfl, hb2⟩
  have HB2 := Lib.hid hb2
  clear hb2
  go_wp2_with fail
  with_reducible (refine (CM.out _).mono ?_)
  rintro e w3 ⟨rfl, hb3⟩
  have HB3 := Lib.hid (HB2.out.trans (hb3.mono HB2.out.size))
  clear hb3
  go_wp2_with fail
  go_ret
  exact ⟨rfl, HB3.out⟩

set_option maxHeartbeats 1000000 in
theorem rq_most_nil (w : World) : Calls Try.prog 23 #[.pointer none] w fun e w' => e = .returned (.int .u64 0) ∧ Below w.heap.size w w' := by
  have C := Lib.hid (rq_config_nil w)
  have CM := Lib.hid (fun W => rq_cmost W 0 0 (by decide) (by decide))
  go_enter Try.func23, Try.ntmps23
  go_wp2_with fail
  with_reducible (refine C.out.mono ?_)
  rintro e w2 ⟨rfl, hb2⟩
  have HB2 := Lib.hid hb2
  clear hb2
  go_wp2_with fail
  with_reducible (refine (CM.out _).mono ?_)
  rintro e w3 ⟨rfl, hb3⟩
  have HB3 := Lib.hid (HB2.out.trans (hb3.mono HB2.out.size))
  clear hb3
  go_wp2_with fail
  go_ret
  exact ⟨rfl, HB3.out⟩

set_option maxHeartbeats 1000000 in
theorem rq_used {Tp : TapT} (D : TapDoes Tp) {w : World} {P T : Nat} {B word low high : Int} {u : Nat} {hv : Value} {R : List RowI} (h : RqRaw Tp w P T B word low high u hv R) : Calls Try.prog 26 #[.pointer (some ⟨P, 0, none⟩)] w fun e w' => e = .returned (.int .i64 u) ∧ Below w.heap.size w w' := by
  have C := Lib.hid (D.used w T word u h.tape)
  have c3 := h.c3
  clear h D
  go_enter Try.func26, Try.ntmps26
  go_wp2_with fail
  with_reducible (refine C.out.mono ?_)
  rintro e w2 ⟨rfl, hb2⟩
  have HB2 := Lib.hid hb2
  clear hb2
  go_wp2_with fail
  go_ret
  exact ⟨rfl, HB2.out⟩

theorem rq_used_nil (w : World) : Calls Try.prog 26 #[.pointer none] w fun e w' => e = .returned (.int .i64 0) ∧ Below w.heap.size w w' := by
  go_enter Try.func26, Try.ntmps26
  go_wp2_with fail
  go_ret
  exact ⟨rfl, Below.refl _ _⟩

/-- The ends that are told. -/
def endsQ (q low high : Int) : Int × Int × Bool := if q = 0 then (0, 0, false) else (low, high, true)

set_option maxHeartbeats 1000000 in
theorem rq_ends {Tp : TapT} {w : World} {P T : Nat} {B word low high : Int} {u : Nat} {hv : Value} {R : List RowI} {q x y : Int} {z : Bool} (h : RqRaw Tp w P T B word low high u hv R) (hne : R ≠ []) (hR : R.length ≤ 20) (hl : ∀ r, r ∈ R → r.l.length ≤ 20000) (hq : wtR (lsI R) = q) (hz : endsQ q low high = (x, y, z)) :
    Calls Try.prog 15 #[.pointer (some ⟨P, 0, none⟩)] w fun e w' => e = .returned (.tuple #[.int .i64 x, .int .i64 y, .bool z]) ∧ Below w.heap.size w w' := by
  have C := Lib.hid (rq_tot h hne hR hl hq)
  have c4 := h.c4
  have c5 := h.c5
  clear h hne hR hl hq
  by_cases h0 : q = 0
  · subst h0
    obtain ⟨rfl, rfl, rfl⟩ : x = 0 ∧ y = 0 ∧ z = false := by
      have e := hz
      unfold endsQ at e
      rw [if_pos rfl] at e
      exact ⟨(Prod.mk.inj e).1.symm, (Prod.mk.inj (Prod.mk.inj e).2).1.symm, (Prod.mk.inj (Prod.mk.inj e).2).2.symm⟩
    clear hz
    go_enter Try.func15, Try.ntmps15
    go_wp2_with fail
    with_reducible (refine C.out.mono ?_)
    rintro e w2 ⟨rfl, rfl⟩
    go_wp2_with fail
    exact bodyPost_ret (v := .tuple #[.int .i64 0, .int .i64 0, .bool false]) (by simp [results, Try.results15, go_sem]) rfl ⟨rfl, Below.refl _ _⟩
  · obtain ⟨rfl, rfl, rfl⟩ : x = low ∧ y = high ∧ z = true := by
      have e := hz
      unfold endsQ at e
      rw [if_neg h0] at e
      exact ⟨(Prod.mk.inj e).1.symm, (Prod.mk.inj (Prod.mk.inj e).2).1.symm, (Prod.mk.inj (Prod.mk.inj e).2).2.symm⟩
    have n0 : (q == 0) = false := by rw [beq_eq_false_iff_ne]; exact h0
    clear hz
    go_enter Try.func15, Try.ntmps15
    go_wp2_with fail
    with_reducible (refine C.out.mono ?_)
    rintro e w2 ⟨rfl, rfl⟩
    go_wp2_with fail
    go_quiet (fail)
    rename_i nq
    go_wp2_with fail
    exact bodyPost_ret (v := .tuple #[.int .i64 x, .int .i64 y, .bool true]) (by simp [results, Try.results15, go_sem]) rfl ⟨rfl, below_drewN (Below.refl _ _) nq⟩

theorem rq_ends_nil (w : World) : Calls Try.prog 15 #[.pointer none] w fun e w' => e = .returned (.tuple #[.int .i64 0, .int .i64 0, .bool false]) ∧ Below w.heap.size w w' := by
  have C := Lib.hid (rq_tot_nil w)
  go_enter Try.func15, Try.ntmps15
  go_wp2_with fail
  with_reducible (refine C.out.mono ?_)
  rintro e w2 ⟨rfl, hb2⟩
  have HB2 := Lib.hid hb2
  clear hb2
  go_wp2_with fail
  exact bodyPost_ret (v := .tuple #[.int .i64 0, .int .i64 0, .bool false]) (by simp [results, Try.results15, go_sem]) rfl ⟨rfl, HB2.out⟩
end Go.Proofs.Ytbdfmnlfdhhnjaa

/-
  The library contracts that the proofs lean on, laid at this translation by program.
-/
namespace Go.Proofs
open Go.Shelf
def Try.sortG_ren : Go.Shelf.Ren := ⟨fun | 5 => 60 | 8 => 80 | 7 => 79 | 19 => 99 | 20 => 100 | 10 => 90 | 11 => 91 | 12 => 92 | 13 => 93 | 14 => 94 | 15 => 95 | 16 => 96 | 17 => 97 | 18 => 98 | 30 => 102 | 31 => 103 | 32 => 104 | 33 => 105 | 34 => 106 | 35 => 107 | 40 => 108 | n => n, fun | 23 => 62 | 25 => 2 | 3 => 3 | 32 => 66 | 22 => 62 | 0 => 0 | 44 => 134 | 46 => 22 | 4 => 4 | 36 => 126 | 35 => 125 | 41 => 131 | 5 => 5 | 9 => 9 | 53 => 138 | 57 => 141 | 63 => 144 | 64 => 145 | n => n, fun | n => n⟩
theorem Try.sortG : Go.Proofs.SlLaysM.n5 Try.prog Try.sortG_ren := {
  mixed := by kernel_rfl
  f5 := ⟨Try.f60.name, by decide, Try.func60.trans (congrArg some (by kernel_rfl))⟩
  f7 := ⟨Try.f79.name, by decide, Try.func79.trans (congrArg some (by kernel_rfl))⟩
  f8 := Try.func80.trans (congrArg some (by kernel_rfl))
  f10 := ⟨Try.f90.name, by decide, Try.func90.trans (congrArg some (by kernel_rfl))⟩
  f11 := ⟨Try.f91.name, by decide, Try.func91.trans (congrArg some (by kernel_rfl))⟩
  f12 := ⟨Try.f92.name, by decide, Try.func92.trans (congrArg some (by kernel_rfl))⟩
  f13 := ⟨Try.f93.name, by decide, Try.func93.trans (congrArg some (by kernel_rfl))⟩
  f14 := ⟨Try.f94.name, by decide, Try.func94.trans (congrArg some (by kernel_rfl))⟩
  f15 := ⟨Try.f95.name, by decide, Try.func95.trans (congrArg some (by kernel_rfl))⟩
  f16 := ⟨Try.f96.name, by decide, Try.func96.trans (congrArg some (by kernel_rfl))⟩
  f17 := ⟨Try.f97.name, by decide, Try.func97.trans (congrArg some (by kernel_rfl))⟩
  f18 := ⟨Try.f98.name, by decide, Try.func98.trans (congrArg some (by kernel_rfl))⟩
  f19 := Try.func99.trans (congrArg some (by kernel_rfl))
  f20 := Try.func100.trans (congrArg some (by kernel_rfl))
  f30 := ⟨Try.f102.name, by decide, Try.func102.trans (congrArg some (by kernel_rfl))⟩
  f31 := Try.func103.trans (congrArg some (by kernel_rfl))
  f32 := Try.func104.trans (congrArg some (by kernel_rfl))
  f33 := ⟨Try.f105.name, by decide, Try.func105.trans (congrArg some (by kernel_rfl))⟩
  f34 := ⟨Try.f106.name, by decide, Try.func106.trans (congrArg some (by kernel_rfl))⟩
  f35 := ⟨Try.f107.name, by decide, Try.func107.trans (congrArg some (by kernel_rfl))⟩
  f40 := ⟨Try.f108.name, by decide, Try.func108.trans (congrArg some (by kernel_rfl))⟩
  t0 := Try.underlying0
  a0 := Try.isAgg0
  z0 := Try.sizeOf0
  v0 := Try.zeroValue0
  t3 := Try.underlying3
  a3 := Try.isAgg3
  z3 := Try.sizeOf3
  v3 := Try.zeroValue3
  t4 := Try.underlying4
  a4 := Try.isAgg4
  z4 := Try.sizeOf4
  v4 := Try.zeroValue4
  t5 := Try.underlying5
  a5 := Try.isAgg5
  z5 := Try.sizeOf5
  v5 := Try.zeroValue5
  t9 := Try.underlying9
  a9 := Try.isAgg9
  z9 := Try.sizeOf9
  v9 := Try.zeroValue9
  t22 := Try.underlying62
  a22 := Try.isAgg62
  z22 := Try.sizeOf62
  v22 := Try.zeroValue62
  t23 := Try.underlying62
  a23 := Try.isAgg62
  z23 := Try.sizeOf62
  v23 := Try.zeroValue62
  t25 := Try.underlying2
  a25 := Try.isAgg2
  z25 := Try.sizeOf2
  v25 := Try.zeroValue2
  t32 := Try.underlying66
  a32 := Try.isAgg66
  z32 := Try.sizeOf66
  v32 := Try.zeroValue66
  t35 := Try.underlying125
  a35 := Try.isAgg125
  z35 := Try.sizeOf125
  v35 := Try.zeroValue125
  t36 := Try.underlying126
  a36 := Try.isAgg126
  z36 := Try.sizeOf126
  v36 := Try.zeroValue126
  t41 := Try.underlying131
  a41 := Try.isAgg131
  z41 := Try.sizeOf131
  v41 := Try.zeroValue131
  t44 := Try.underlying134
  a44 := Try.isAgg134
  z44 := Try.sizeOf134
  v44 := Try.zeroValue134
  t46 := Try.underlying22
  a46 := Try.isAgg22
  z46 := Try.sizeOf22
  v46 := Try.zeroValue22
  t53 := Try.underlying138
  a53 := Try.isAgg138
  z53 := Try.sizeOf138
  v53 := Try.zeroValue138
  t57 := Try.underlying141
  a57 := Try.isAgg141
  z57 := Try.sizeOf141
  v57 := Try.zeroValue141
  t63 := Try.underlying144
  a63 := Try.isAgg144
  z63 := Try.sizeOf144
  v63 := Try.zeroValue144
  t64 := Try.underlying145
  a64 := Try.isAgg145
  z64 := Try.sizeOf145
  v64 := Try.zeroValue145 }
def Try.cloneN_ren : Go.Shelf.Ren := ⟨fun | 41 => 67 | n => n, fun | 22 => 62 | 23 => 2 | 4 => 4 | n => n, fun | n => n⟩
theorem Try.cloneN : Go.Proofs.SlLaysE0.n41 Try.prog Try.cloneN_ren := {
  mixed := by kernel_rfl
  f41 := ⟨Try.f67.name, by decide, Try.func67.trans (congrArg some (by kernel_rfl))⟩
  t4 := Try.underlying4
  a4 := Try.isAgg4
  z4 := Try.sizeOf4
  v4 := Try.zeroValue4
  t22 := Try.underlying62
  a22 := Try.isAgg62
  z22 := Try.sizeOf62
  v22 := Try.zeroValue62 }
end Go.Proofs

/-
  Rows of whole numbers of the call's own: the library's sort, and its copy.
-/
namespace Go.Proofs.Ytbdfmnlfdhhnjaa
set_option linter.unusedVariables false
set_option linter.unusedSimpArgs false
open Go.RowKit Go.Sort

theorem merge_sortI (W : List Int) : W.mergeSort (fun x y => decide (x ≤ y)) = sortI W := by
  have hm := List.mergeSort_perm W (fun x y => decide (x ≤ y))
  have hs : (W.mergeSort (fun x y => decide (x ≤ y))).Pairwise fun a b => a ≤ b := by
    have := List.pairwise_mergeSort (le := fun x y : Int => decide (x ≤ y)) (fun a b c h1 h2 => by simp at *; omega) (fun a b => by simp; omega) W
    exact this.imp fun h => by simpa using h
  exact (hm.trans (sortI_perm W).symm).eq_of_pairwise (fun a b _ _ h1 h2 => Int.le_antisymm h1 h2) hs (sortI_sorted W)

set_option maxHeartbeats 1000000 in
/-- A row of the call's own, sorted. -/
theorem sort_nums (w : World) (base : Nat) (v : Value) (W : List Int) (h : OwnN w base v W) (hl : W.length ≤ 100000) :
    Calls Try.prog 60 #[v] w fun e w' => e = .returned (.tuple #[]) ∧ OwnN w' base v (sortI W) ∧ w.grownBy w' v.ownBlock := by
  rcases h.2 with ⟨rfl, h0⟩ | ⟨g, cap, cur, rfl, hb, hg, hnc, hcm, hcz, ht⟩
  · obtain rfl : W = [] := List.eq_nil_of_length_eq_zero h0
    have hC := AnyM.slices_Sort_int_none Try.sortG none 0 w
    change Calls Try.prog 60 _ _ _ at hC
    refine hC.mono ?_
    rintro e w' ⟨rfl, rfl⟩
    exact ⟨rfl, OwnN.nil _ _, World.grownBy.refl _ _⟩
  · have hH := holds_of_blockI hg (by rw [Nat.mul_one] at ht; exact ht)
    have hC := AnyM.slices_Sort_int Try.sortG g 0 cap W w hH (lt_of_block hg) (by omega)
    change Calls Try.prog 60 _ _ _ at hC
    refine hC.mono ?_
    rintro e w' ⟨rfl, n, os, rfl⟩
    rw [merge_sortI]
    refine ⟨rfl, ?_, grownBy_sortedI _⟩
    have := ownsRow_sortedI (n := n) (os := os) (sortI_len W) hb hg hnc hcm hcz
    unfold OwnN
    rw [sortI_len]
    exact this

theorem Nums.none_ {w : World} {L : List Int} (h : Nums w none L) : L = [] := by
  cases L with
  | nil => rfl
  | cons p r => obtain ⟨b, off, e, _⟩ := h.at_ 0 p rfl; cases e

set_option maxRecDepth 100000 in
set_option maxHeartbeats 1000000 in
theorem clone_nums (w : World) (A : Option Addr) (n cap : Nat) (L : List Int) (h : Nums w A L) (hn : L.length = n) (hl : n ≤ 100000) :
    Calls Try.prog 67 #[.slice A n cap] w fun e w' => ∃ v, e = .returned v ∧ OwnN w' w.heap.size v L ∧ Below w.heap.size w w' := by
  subst hn
  cases A with
  | none =>
    have e := h.none_
    subst e
    have he : ∀ w : World, (binOp .eql 62 (.slice none 0 cap) (.slice none 0 0)).run Try.prog w = .ok (.bool true) w := fun _ => rfl
    clear h
    show Calls Try.prog 67 #[.slice none 0 cap] w _
    go_enter Try.func67, Try.ntmps67
    go_wp2_with fail
    go_ret
    exact ⟨_, rfl, OwnN.nil _ _, Below.refl _ _⟩
  | some ad =>
    have hE : (w.alloc (.cells #[] 2)).heap[w.heap.size]? = some (.cells #[] 2 (0, 0)) := heap_alloc_new w _
    have HO := Lib.hid (own_emptyN (base := w.heap.size) hE (Nat.le_refl _))
    have HB : Hid (Below w.heap.size w (w.alloc (.cells #[] 2))) := Lib.hid ((Below.refl _ _).alloc (Nat.le_refl _) _)
    have HP := Lib.hid (h.call HB.out)
    have he : ∀ w : World, (binOp .eql 62 (.slice (some ad) L.length cap) (.slice none 0 0)).run Try.prog w = .ok (.bool false) w := fun _ => rfl
    clear h hE
    go_enter Try.func67, Try.ntmps67
    go_wp2_with (at_builtin; refine wpList_append_nums rfl (.tmp 5) (.tmp 6) rfl w.heap.size _ [] (some ad) cap L rfl HO.out rfl HP.out ?c1 ?c2 ?_)
    case c1 => simp; omega
    case c2 => simp
    intro v5 w5 hown5 hg5
    have hb5 : Below w.heap.size w w5 := HB.out.grown hg5 HB.out.size (fun k hk => by cases hk; exact Nat.le_refl _)
    obtain ⟨A5, k5, rfl⟩ := hown5.form
    have HO5 := Lib.hid hown5
    have HB5 := Lib.hid hb5
    clear hown5 hg5 hb5
    go_wp2_with fail
    go_ret
    exact ⟨_, rfl, HO5.out, HB5.out⟩

end Go.Proofs.Ytbdfmnlfdhhnjaa

/-
  Walk: wide.Plus of two numbers, that lie in a block of their own.
-/
namespace Go.Proofs.Ytbdfmnlfdhhnjaa
set_option linter.unusedVariables false
set_option linter.unusedSimpArgs false
open Go.RowKit

def plus2B (a b : Int) : Bool := decide (a + b ≤ 9223372036854775807)
def plus2Q (a b : Int) : Int := if plus2B a b then a + b else 0

set_option maxRecDepth 100000 in
set_option maxHeartbeats 1000000 in
theorem plus_two (x y q : Int) (ok : Bool) (g cap : Nat) (w : World) (hx : Word x) (hy : Word y) (h0 : w.cell? ⟨g, 0, none⟩ = some (.int .u64 x)) (h1 : w.cell? ⟨g, 1, none⟩ = some (.int .u64 y)) (hq : plus2Q x y = q) (hb : plus2B x y = ok) :
    Calls Try.prog 63 #[.slice (some ⟨g, 0, none⟩) 2 cap] w fun e w' =>
      e = .returned (.tuple #[.int .u64 q, .bool ok]) ∧ w = w' := by
  obtain ⟨x0, x1⟩ := hx
  obtain ⟨y0, y1⟩ := hy
  have HQ := Lib.hid hq
  have HB := Lib.hid hb
  clear hq hb
  by_cases a1 : 9223372036854775807 < x
  · have E1 : Hid (ok = false) := Lib.hid (by rw [← HB.out]; unfold plus2B; apply decide_eq_false; omega)
    have E2 : Hid (q = 0) := Lib.hid (by rw [← HQ.out]; unfold plus2Q; rw [HB.out, E1.out]; rfl)
    go_enter Try.func63, Try.ntmps63
    go_wp2_with fail
    go_loop [4, 9] (fun s i => s = .int .u64 0 ∧ i = .int .i64 0) (fun _ _ => 0)
    case atStart => exact ⟨rfl, rfl⟩
    case round =>
      obtain ⟨rfl, rfl⟩ := hrel
      have a2 : 9223372036854775807 - 0 < x := by omega
      go_wp2_with fail
      exact bodyPost_ret (v := .tuple #[.int .u64 0, .bool false]) (by simp [results, Try.results63, go_sem]) rfl ⟨by rw [E1.out, E2.out], rfl⟩
  · by_cases a2 : 9223372036854775807 - x < y
    · have E1 : Hid (ok = false) := Lib.hid (by rw [← HB.out]; unfold plus2B; apply decide_eq_false; omega)
      have E2 : Hid (q = 0) := Lib.hid (by rw [← HQ.out]; unfold plus2Q; rw [HB.out, E1.out]; rfl)
      go_enter Try.func63, Try.ntmps63
      go_wp2_with fail
      go_loop [4, 9] (fun s i => (s = .int .u64 0 ∧ i = .int .i64 0) ∨ (s = .int .u64 x ∧ i = .int .i64 1)) (fun _ i => 2 - (intOf i).toNat)
      case atStart => exact Or.inl ⟨rfl, rfl⟩
      case round =>
        rcases hrel with ⟨rfl, rfl⟩ | ⟨rfl, rfl⟩
        · go_wp2_with fail
          go_round
          case rel => exact Or.inr ⟨by go_num, by go_num⟩
          case measure => simp [intOf]
        · go_wp2_with fail
          exact bodyPost_ret (v := .tuple #[.int .u64 0, .bool false]) (by simp [results, Try.results63, go_sem]) rfl ⟨by rw [E1.out, E2.out], rfl⟩
    · have E1 : Hid (ok = true) := Lib.hid (by rw [← HB.out]; unfold plus2B; apply decide_eq_true; omega)
      have E2 : Hid (q = x + y) := Lib.hid (by rw [← HQ.out]; unfold plus2Q; rw [HB.out, E1.out]; rfl)
      go_enter Try.func63, Try.ntmps63
      go_wp2_with fail
      go_loop [4, 9] (fun s i => (s = .int .u64 0 ∧ i = .int .i64 0) ∨ (s = .int .u64 x ∧ i = .int .i64 1) ∨ (s = .int .u64 (x + y) ∧ i = .int .i64 2)) (fun _ i => 2 - (intOf i).toNat)
      case atStart => exact Or.inl ⟨rfl, rfl⟩
      case round =>
        rcases hrel with ⟨rfl, rfl⟩ | ⟨rfl, rfl⟩ | ⟨rfl, rfl⟩
        · go_wp2_with fail
          go_round
          case rel => exact Or.inr (Or.inl ⟨by go_num, by go_num⟩)
          case measure => simp [intOf]
        · go_wp2_with fail
          go_round
          case rel => exact Or.inr (Or.inr ⟨by go_num, by go_num⟩)
          case measure => simp [intOf]
        · go_wp2_with fail
          exact bodyPost_ret (v := .tuple #[.int .u64 (x + y), .bool true]) (by simp [results, Try.results63, go_sem]) rfl ⟨by rw [E1.out, E2.out], rfl⟩
end Go.Proofs.Ytbdfmnlfdhhnjaa

/-
  The landed package req: rows copied; configurations that can be; room, ends.
-/
namespace Go.Proofs.Ytbdfmnlfdhhnjaa
set_option linter.unusedVariables false
set_option linter.unusedSimpArgs false
open Go.RowKit

/-- Rows of rows in new memory: heads, rows, that lie apart. -/
structure LaidQ (w : World) (base : Nat) (v : Value) (C : List RowI) : Prop where
  head : OwnI w base v C
  row : ∀ r, r ∈ C → RowG w r
  far : ∀ r, r ∈ C → ∀ a, r.a = some a → base ≤ a.block ∧ v.ownBlock ≠ some a.block
  apart : ∀ (i j : Nat) (r s : RowI), C[i]? = some r → C[j]? = some s → i ≠ j → ∀ (a b : Addr), r.a = some a → s.a = some b → a.block ≠ b.block
theorem LaidQ.call {w w' : World} {base : Nat} {v : Value} {C : List RowI} (h : LaidQ w base v C) (hb : Below w.heap.size w w') : LaidQ w' base v C :=
  ⟨h.head.call hb, fun r hr => (h.row r hr).call hb, h.far, h.apart⟩
theorem LaidQ.rowsN {w : World} {base : Nat} {v : Value} {C : List RowI} (h : LaidQ w base v C) : ∃ A cap, v = .slice A C.length cap ∧ RowsN w A C := by
  rcases h.head.2 with ⟨rfl, h0⟩ | ⟨g, cap, cur, rfl, hb, hg, hle, _⟩
  · exact ⟨none, 0, by rw [h0], fun i r hi => (by rw [List.eq_nil_of_length_eq_zero h0] at hi; simp at hi), fun r hr => (h.row r hr).nums⟩
  · refine ⟨_, cap, rfl, fun i r hi => ⟨g, 0, rfl, lt_of_block hg, ?_⟩, fun r hr => (h.row r hr).nums⟩
    rw [Nat.zero_add]
    exact h.head.at_ rfl hi
theorem LaidQ.put {w w' : World} {base g n cap i p k : Nat} {C : List RowI} {a : Option Addr} {l : List Int} (h : LaidQ w base (.slice (some ⟨g, 0, none⟩) n cap) C) (hn : C.length = n) (hi : i < n) (hz : base ≤ w.heap.size)
    (hb : Below w.heap.size w w') (hl : l.length = p) (hr' : RowG w' ⟨a, l, k⟩) (hp : ∀ b, a = some b → w.heap.size ≤ b.block) :
    LaidQ (w'.setCell ⟨g, i, none⟩ (.slice a p k)) base (.slice (some ⟨g, 0, none⟩) n cap) (C.set i ⟨a, l, k⟩) := by
  subst hl
  have g2 := grown21_put w' g i (.slice a l.length k)
  have hlg := (h.head.lt g rfl).2
  have hset : ∀ (q : RowI), q ∈ C.set i ⟨a, l, k⟩ → q = ⟨a, l, k⟩ ∨ ∃ j, C[j]? = some q ∧ j ≠ i := fun q hq => by
    obtain ⟨j, hj, e⟩ := List.mem_iff_getElem.1 hq
    have e' : (C.set i ⟨a, l, k⟩)[j]? = some q := by rw [List.getElem?_eq_getElem hj, e]
    by_cases c : i = j
    · subst c
      rw [List.getElem?_set_self (by omega)] at e'
      exact Or.inl (Option.some.inj e').symm
    · rw [List.getElem?_set_ne c] at e'
      exact Or.inr ⟨j, e', fun e => c e.symm⟩
  refine ⟨(h.head.call hb).put ⟨a, l, k⟩ hn hi, fun q hqm => ?_, fun q hqm x hx => ?_, fun j1 j2 r1 r2 e1 e2 hne x y hx hy => ?_⟩
  · rcases hset q hqm with rfl | ⟨j, hj, hji⟩
    · exact hr'.at_ fun x hx => g2.block _ (hr'.lt x hx) fun e => by have e' : x.block = g := Option.some.inj e; have := hp x hx; omega
    · have hqm' := List.mem_of_getElem? hj
      have hr2 := (h.row q hqm').call hb
      exact hr2.at_ fun x hx => g2.block _ (hr2.lt x hx) fun e => (h.far q hqm' x hx).2 e.symm
  · rcases hset q hqm with rfl | ⟨j, hj, hji⟩
    · have := hp x hx
      exact ⟨by omega, fun e => by have e' : g = x.block := Option.some.inj e; omega⟩
    · exact h.far q (List.mem_of_getElem? hj) x hx
  · have hx2 : ∀ (j : Nat) (q : RowI) (y : Addr), j ≠ i → C[j]? = some q → q.a = some y → ∀ b, a = some b → b.block ≠ y.block := fun j q y hji hj hy b hb e => by
      have h1 := hp b hb
      have h2 := (h.row q (List.mem_of_getElem? hj)).lt y hy
      omega
    by_cases c1 : i = j1
    · subst c1
      rw [List.getElem?_set_self (by omega)] at e1
      rw [List.getElem?_set_ne hne] at e2
      have e1' := Option.some.inj e1
      subst e1'
      exact hx2 j2 r2 y (fun e => hne e.symm) e2 hy x hx
    · rw [List.getElem?_set_ne c1] at e1
      by_cases c2 : i = j2
      · subst c2
        rw [List.getElem?_set_self (by omega)] at e2
        have e2' := Option.some.inj e2
        subst e2'
        exact fun e => hx2 j1 r1 x (fun e => c1 e.symm) e1 hx y hy e.symm
      · rw [List.getElem?_set_ne c2] at e2
        exact h.apart j1 j2 r1 r2 e1 e2 hne x y hx hy

theorem make_rows (n : Nat) (hn : n ≤ 100000) (w W : World) (hW : w.alloc (.cells (madeCells #[.slice none 0 0] n) 62) = W) :
    (Instr.makeSlice 49 (.int .i64 (n : Int)) (.int .i64 (n : Int))).run Try.prog w = .ok (.slice (some ⟨w.heap.size, 0, none⟩) n n) W := by
  obtain ⟨i0, hi, hz0, hz1, hz2⟩ := info_parts Try.infoRowI
  have hr := run_make (P := Try.prog) w 49 62 i0 _ Try.underlying49 hi hz0 .i64 .i64 (n : Int) (n : Int) (by omega) (Int.le_refl _) (by rw [hz2]; omega) (by omega)
  rw [hz1, Int.toNat_natCast, Nat.mul_one] at hr
  rw [← hW]
  exact hr
theorem made_rows (n : Nat) : (madeCells #[.slice none 0 0] n).toList = cellsI (List.replicate n ⟨none, [], 0⟩) := by
  apply List.ext_getElem?
  intro j
  unfold cellsI
  rw [List.map_replicate, List.getElem?_replicate]
  unfold madeCells
  rw [Array.getElem?_toList, Array.getElem?_map]
  by_cases hj : j < n
  · rw [Array.getElem?_range, if_pos hj, if_pos hj]
    simp [Nat.mod_one]
    rfl
  · rw [Array.getElem?_range, if_neg hj, if_neg hj]; rfl
theorem laid_made (n : Nat) (hn : n ≤ 100000) (w : World) : LaidQ (w.alloc (.cells (madeCells #[.slice none 0 0] n) 62)) w.heap.size (.slice (some ⟨w.heap.size, 0, none⟩) n n) (List.replicate n ⟨none, [], 0⟩) := by
  refine ⟨?_, fun r hr => ?_, fun r hr a ha => ?_, fun i j r s hr hs hne a b ha hb => ?_⟩
  · refine ⟨by rw [List.length_replicate]; unfold cellsI; rw [List.length_map, List.length_replicate, Nat.mul_one], Or.inr ⟨w.heap.size, n, madeCells #[.slice none 0 0] n, by rw [List.length_replicate], Nat.le_refl _, heap_alloc_new w _, by rw [List.length_replicate]; exact Nat.le_refl _, by unfold maxLen; omega, by rw [size_madeCells, Nat.mul_one], ?_⟩⟩
    rw [made_rows]
    exact List.take_of_length_le (by unfold cellsI; rw [List.length_map, List.length_replicate]; omega)
  · rw [(List.mem_replicate.1 hr).2]; exact RowG.none_ _
  · rw [(List.mem_replicate.1 hr).2] at ha; cases ha
  · have hm := List.mem_of_getElem? hr
    rw [(List.mem_replicate.1 hm).2] at ha; cases ha

/-- What copying answers. -/
def CopiedQ (w : World) (R : List RowI) (n : Nat) (e : Ending) (w' : World) : Prop :=
  ∃ g C, e = .returned (.slice (some ⟨g, 0, none⟩) n n) ∧ LaidQ w' w.heap.size (.slice (some ⟨g, 0, none⟩) n n) C ∧ lsI C = lsI R ∧ C.length = n ∧ Below w.heap.size w w'

set_option maxRecDepth 100000 in
set_option maxHeartbeats 4000000 in
/-- Rows copied. -/
theorem rq_copied (w : World) (A : Option Addr) (n cap : Nat) (R : List RowI) (h : RowsN w A R) (hn : R.length = n) (hR : n ≤ 1000) (hl : ∀ r, r ∈ R → r.l.length ≤ 20000) :
    Calls Try.prog 47 #[.slice A n cap] w fun e w' => CopiedQ w R n e w' := by
  have HT := Lib.hid h
  have HN := Lib.hid hn
  have HL := Lib.hid hl
  obtain ⟨W1, hW1⟩ : ∃ W1, w.alloc (.cells (madeCells #[.slice none 0 0] n) 62) = W1 := ⟨_, rfl⟩
  have hmk := make_rows n (by omega) w W1 hW1
  have HM := Lib.hid (laid_made n (by omega) w)
  have HB1 : Hid (Below w.heap.size w W1) := Lib.hid (by rw [← hW1]; exact (Below.refl _ _).alloc (Nat.le_refl _) _)
  rw [hW1] at HM
  have HZ : Hid (lsI (List.replicate n (⟨none, [], 0⟩ : RowI)) = List.replicate n []) := Lib.hid (by unfold lsI; rw [List.map_replicate])
  have n0 : (0 : Int) ≤ n := by omega
  clear h hn hl hW1
  go_enter Try.func47, Try.ntmps47
  go_wp2_with fail
  go_loopw [11] (fun iv wr => ∃ (j : Nat) (C : List RowI), j ≤ n ∧ iv = .int .i64 j ∧ C.length = n ∧ (∀ i, i < j → (lsI C)[i]? = (lsI R)[i]?) ∧ LaidQ wr w.heap.size (.slice (some ⟨w.heap.size, 0, none⟩) n n) C ∧ Below w.heap.size w wr) (fun iv _ => n - (intOf iv).toNat)
  case atStart => exact ⟨0, _, Nat.zero_le _, rfl, List.length_replicate, fun i hi => absurd hi (Nat.not_lt_zero _), HM.out, HB1.out⟩
  case round =>
    obtain ⟨j, C, hj, rfl, hC, hE, hL, hb⟩ := hrel
    have HC := Lib.hid hC
    have HE := Lib.hid hE
    have HLD := Lib.hid hL
    have HB := Lib.hid hb
    have hbs := hb.size
    clear hC hE hL hb
    by_cases hlt : j < n
    · have kk : (j : Int) < n := by omega
      obtain ⟨r, hr⟩ : ∃ r, R[j]? = some r := ⟨_, List.getElem?_eq_getElem (by rw [HN.out]; exact hlt)⟩
      have hrm := List.mem_of_getElem? hr
      have hll := HL.out _ hrm
      have hlr := ls_at hr
      have hnr := (HT.out.call HB.out).each _ hrm
      obtain ⟨A', L, k⟩ := r
      obtain ⟨b', off, rfl, _, c0⟩ := (HT.out.call HB.out).at_ j _ hr
      simp only at c0 hll hlr hnr
      obtain ⟨l, hle⟩ : ∃ l, L.length = l := ⟨_, rfl⟩
      rw [hle] at c0 hll
      have CC := Lib.hid (clone_nums wr A' l k L hnr hle (by omega))
      have HLR := Lib.hid hlr
      have HLE := Lib.hid hle
      have HNO := Lib.hid hnr.ok
      clear hr hrm hlr hnr hle
      go_wp2_with fail
      with_reducible (refine CC.out.mono ?_)
      rintro e w2 ⟨v2, rfl, ho2, hb2⟩
      obtain ⟨A2, c2, hv2⟩ := ho2.form
      rw [HLE.out] at hv2
      subst hv2
      have hRG : RowG w2 ⟨A2, L, c2⟩ := ⟨Or.inl (by
        rw [show (⟨A2, L, c2⟩ : RowI).v = .slice A2 l c2 by unfold RowI.v; rw [HLE.out]]
        exact ho2.mono (Nat.zero_le _)), HNO.out⟩
      have hp2 := HLD.out.put (i := j) HC.out hlt hbs hb2 HLE.out hRG fun b hb => (ho2.lt b.block (by rw [hb]; rfl)).1
      have hh2 := HLD.out.head.call hb2
      have d3 : w2.cell? ⟨w.heap.size, j, none⟩ = some _ := hh2.at_ HC.out (List.getElem?_eq_getElem (by rw [HC.out]; exact hlt))
      have d4 : w2.frozen? ⟨w.heap.size, j, none⟩ = false := hh2.free HC.out j
      generalize (C[j]'(by rw [HC.out]; exact hlt)).v = vold at d3
      have HP2 := Lib.hid hp2
      have HB2 : Hid (Below w.heap.size w (w2.setCell ⟨w.heap.size, j, none⟩ (.slice A2 l c2))) := Lib.hid ((HB.out.trans (hb2.mono hbs)).setCell (Nat.le_refl _) _)
      have HE2 : Hid (∀ i, i < j + 1 → (lsI (C.set j ⟨A2, L, c2⟩))[i]? = (lsI R)[i]?) := Lib.hid fun i hi => by
        rw [ls_set]
        by_cases e : j = i
        · subst e
          rw [List.getElem?_set_self (by rw [ls_len, HC.out]; exact hlt), HLR.out]
        · rw [List.getElem?_set_ne e]
          exact HE.out i (by omega)
      clear hp2 hh2 hRG ho2 hb2 CC
      go_wp2_with fail
      go_roundw
      case rel => exact ⟨j + 1, _, by omega, by go_num, by rw [List.length_set]; exact HC.out, HE2.out, HP2.out, HB2.out⟩
      case measure => simp [intOf]; omega
    · have kk : ¬ (j : Int) < n := by omega
      obtain rfl : j = n := by omega
      have HF : Hid (lsI C = lsI R) := Lib.hid (List.ext_getElem? fun i => by
        by_cases c : i < j
        · exact HE.out i c
        · rw [List.getElem?_eq_none (by rw [ls_len, HC.out]; omega), List.getElem?_eq_none (by rw [ls_len, HN.out]; omega)])
      go_wp2_with fail
      go_ret
      exact ⟨_, C, rfl, HLD.out, HF.out, HC.out, HB.out⟩

set_option maxHeartbeats 1000000 in
theorem rq_rows {Tp : TapT} {w : World} {P T : Nat} {B word low high : Int} {u : Nat} {hv : Value} {R : List RowI} (h : RqRaw Tp w P T B word low high u hv R) (hne : R ≠ []) (hR : R.length ≤ 1000) (hl : ∀ r, r ∈ R → r.l.length ≤ 20000) :
    Calls Try.prog 25 #[.pointer (some ⟨P, 0, none⟩)] w fun e w' => CopiedQ w R R.length e w' := by
  obtain ⟨g, cap, rfl, hg, hc, hN⟩ := h.rowsN hne
  have C := Lib.hid (rq_copied w (some ⟨g, 0, none⟩) R.length cap R hN rfl hR hl)
  have c2 := h.c2
  obtain ⟨n, hn⟩ : ∃ n, R.length = n := ⟨_, rfl⟩
  rw [hn] at C c2 ⊢
  clear h hne hR hl hN hc hn
  go_enter Try.func25, Try.ntmps25
  go_wp2_with fail
  with_reducible (refine C.out.mono ?_)
  rintro e w2 ⟨g2, C2, rfl, hL2, hls, hC2, hb2⟩
  have HL2 := Lib.hid hL2
  have HLS := Lib.hid hls
  have HC2 := Lib.hid hC2
  have HB2 := Lib.hid hb2
  clear hL2 hls hC2 hb2
  go_wp2_with fail
  go_ret
  exact ⟨g2, C2, rfl, HL2.out, HLS.out, HC2.out, HB2.out⟩

theorem rq_rows_nil (w : World) : Calls Try.prog 25 #[.pointer none] w fun e w' => ∃ A c, e = .returned (.slice A 0 c) ∧ Below w.heap.size w w' := by
  go_enter Try.func25, Try.ntmps25
  go_wp2_with fail
  go_ret
  exact ⟨none, 0, rfl, Below.refl _ _⟩
end Go.Proofs.Ytbdfmnlfdhhnjaa

/-
  The landed package req: room, ends; configurations and rows that can be.
-/
namespace Go.Proofs.Ytbdfmnlfdhhnjaa
set_option linter.unusedVariables false
set_option linter.unusedSimpArgs false
open Go.RowKit

theorem plusq_yes {x y : Int} (h : x + y ≤ 9223372036854775807) : plus2B x y = true ∧ plus2Q x y = x + y := by
  have : plus2B x y = true := by unfold plus2B; apply decide_eq_true; exact h
  exact ⟨this, by unfold plus2Q; rw [this]; rfl⟩
theorem plusq_no {x y : Int} (h : 9223372036854775807 < x + y) : plus2B x y = false ∧ plus2Q x y = 0 := by
  have : plus2B x y = false := by unfold plus2B; apply decide_eq_false; omega
  exact ⟨this, by unfold plus2Q; rw [this]; rfl⟩
theorem twoq_words (w : World) (x y : Value) (t : TypeId) : (w.alloc (.cells #[x, y] t)).cell? ⟨w.heap.size, 0, none⟩ = some x ∧ (w.alloc (.cells #[x, y] t)).cell? ⟨w.heap.size, 1, none⟩ = some y := ⟨(Two.new w x y t).c0, (Two.new w x y t).c1⟩

set_option maxRecDepth 100000 in
set_option maxHeartbeats 2000000 in
theorem rq_room {Tp : TapT} (D : TapDoes Tp) {w : World} {P T : Nat} {B word low high : Int} {u : Nat} {hv : Value} {R : List RowI} {q c : Int} {b : Bool} (h : RqRaw Tp w P T B word low high u hv R) (hne : R ≠ []) (hR : R.length ≤ 20) (hl : ∀ r, r ∈ R → r.l.length ≤ 20000) (hq : wtR (lsI R) = q) (h0 : 0 ≤ B) (h64 : B ≤ 64) (hq0 : Word q) (hc : Word c) (hb : decide (q + c ≤ B * 1024) = b) :
    Calls Try.prog 43 #[.pointer (some ⟨P, 0, none⟩), .int .u64 c] w fun e w' => e = .returned (.bool b) ∧ Below w.heap.size w w' := by
  have C := Lib.hid (rq_tot h hne hR hl hq)
  have CM := Lib.hid (fun W (hb : Below w.heap.size w W) => rq_most (w := W) (P := P) (word := word) h0 h64 (cell_later hb h.c0) (cell_later hb h.c1))
  have HQ0 := Lib.hid hq0
  have HC := Lib.hid hc
  have HBD := Lib.hid hb
  have HAL : Hid (Below w.heap.size w (w.alloc (.cells #[.int .u64 q, .int .u64 c] 22))) := Lib.hid ((Below.refl _ _).alloc (Nat.le_refl _) _)
  obtain ⟨W0, W1⟩ := twoq_words w (.int .u64 q) (.int .u64 c) 22
  clear h hne hR hl hq hb
  by_cases hsum : q + c ≤ 9223372036854775807
  · obtain ⟨p1, p2⟩ := plusq_yes hsum
    have CP := Lib.hid (fun cap => plus_two q c (q + c) true w.heap.size cap _ hq0 hc W0 W1 p2 p1)
    clear p1 p2 hq0 hc W0 W1
    go_enter Try.func43, Try.ntmps43
    go_wp2_with fail
    with_reducible (refine C.out.mono ?_)
    rintro e w2 ⟨rfl, rfl⟩
    clear C
    go_wp2_with fail
    with_reducible (refine (CP.out _).mono ?_)
    rintro e w3 ⟨rfl, rfl⟩
    clear CP
    go_wp2_with fail
    with_reducible (refine (CM.out _ HAL.out).mono ?_)
    rintro e w4 ⟨rfl, hb4⟩
    have HB4 := Lib.hid (HAL.out.trans (hb4.mono HAL.out.size))
    clear hb4 CM
    go_wp2_with fail
    go_ret
    exact ⟨by rw [← HBD.out]; rfl, HB4.out⟩
  · obtain ⟨p1, p2⟩ := plusq_no (show 9223372036854775807 < q + c by omega)
    have CP := Lib.hid (fun cap => plus_two q c 0 false w.heap.size cap _ hq0 hc W0 W1 p2 p1)
    have HF : Hid (b = false) := Lib.hid (by rw [← HBD.out]; apply decide_eq_false; omega)
    clear p1 p2 hq0 hc W0 W1
    go_enter Try.func43, Try.ntmps43
    go_wp2_with fail
    with_reducible (refine C.out.mono ?_)
    rintro e w2 ⟨rfl, rfl⟩
    clear C
    go_wp2_with fail
    with_reducible (refine (CP.out _).mono ?_)
    rintro e w3 ⟨rfl, rfl⟩
    clear CP
    go_wp2_with fail
    go_ret
    exact ⟨by rw [HF.out]; rfl, HAL.out⟩

/-- The ends behind what comes. -/
def reachV (q low high x y : Int) : Int × Int := if q = 0 then (x, y) else (min x low, max y high)

set_option maxRecDepth 100000 in
set_option maxHeartbeats 2000000 in
theorem rq_reach {Tp : TapT} (D : TapDoes Tp) {w : World} {P T : Nat} {B word low high : Int} {u : Nat} {hv : Value} {R : List RowI} {q x y a b : Int} (h : RqRaw Tp w P T B word low high u hv R) (hne : R ≠ []) (hR : R.length ≤ 20) (hl : ∀ r, r ∈ R → r.l.length ≤ 20000) (hq : wtR (lsI R) = q) (hab : reachV q low high x y = (a, b)) :
    Calls Try.prog 44 #[.pointer (some ⟨P, 0, none⟩), .int .i64 x, .int .i64 y] w fun e w' => e = .returned (.tuple #[]) ∧ RqRaw Tp w' P T B word a b u hv R ∧ Keeps (rgQ P T hv R) w w' := by
  have HR := Lib.hid h
  have HDD := Lib.hid D
  have key : ∀ W, Below w.heap.size w W → RqRaw Tp ((W.setCell ⟨P, 4, none⟩ (.int .i64 a)).setCell ⟨P, 5, none⟩ (.int .i64 b)) P T B word a b u hv R ∧ Keeps (rgQ P T hv R) w ((W.setCell ⟨P, 4, none⟩ (.int .i64 a)).setCell ⟨P, 5, none⟩ (.int .i64 b)) := fun W hb =>
    ⟨(h.call D hb).ends D a b, ((Keeps.of_below hb).grown (grown21_put W P 4 _) fun j hj => Or.inl (Or.inl (Option.some.inj hj).symm)).grown (grown21_put _ P 5 _) fun j hj => Or.inl (Or.inl (Option.some.inj hj).symm)⟩
  have HKEY := Lib.hid key
  by_cases h0 : q = 0
  · subst h0
    obtain ⟨rfl, rfl⟩ : x = a ∧ y = b := by
      have e := hab
      unfold reachV at e
      rw [if_pos rfl] at e
      exact ⟨(Prod.mk.inj e).1, (Prod.mk.inj e).2⟩
    have C := Lib.hid (rq_ends h hne hR hl hq (show endsQ 0 low high = (0, 0, false) by unfold endsQ; rw [if_pos rfl]))
    clear h hne hR hl hq hab key D
    go_enter Try.func44, Try.ntmps44
    go_wp2_with fail
    with_reducible (refine C.out.mono ?_)
    rintro e w2 ⟨rfl, hb2⟩
    have hR2 := HR.out.call HDD.out hb2
    have d4 := hR2.c4
    have d5 := hR2.c5
    have f4 := hR2.f0 4
    have f5 := hR2.f0 5
    have HF := Lib.hid (HKEY.out _ hb2)
    clear hR2 hb2
    go_wp2_with fail
    first
    | (go_end0; exact ⟨rfl, HF.out⟩)
    | exact bodyPost_ret (results_none rfl _ _ _) rfl ⟨rfl, HF.out⟩
  · obtain ⟨rfl, rfl⟩ : min x low = a ∧ max y high = b := by
      have e := hab
      unfold reachV at e
      rw [if_neg h0] at e
      exact ⟨(Prod.mk.inj e).1, (Prod.mk.inj e).2⟩
    have C := Lib.hid (rq_ends h hne hR hl hq (show endsQ q low high = (low, high, true) by unfold endsQ; rw [if_neg h0]))
    clear h hne hR hl hq hab key D
    go_enter Try.func44, Try.ntmps44
    go_wp2_with fail
    with_reducible (refine C.out.mono ?_)
    rintro e w2 ⟨rfl, hb2⟩
    have hR2 := HR.out.call HDD.out hb2
    have d4 := hR2.c4
    have d5 := hR2.c5
    have f4 := hR2.f0 4
    have f5 := hR2.f0 5
    have HF := Lib.hid (HKEY.out _ hb2)
    clear hR2 hb2
    go_wp2_with fail
    first
    | (go_end0; exact ⟨rfl, HF.out⟩)
    | exact bodyPost_ret (results_none rfl _ _ _) rfl ⟨rfl, HF.out⟩

set_option maxRecDepth 100000 in
set_option maxHeartbeats 2000000 in
theorem rq_good (w : World) (B word : Int) (hB : I64 B) : Calls Try.prog 53 #[.agg #[.int .i64 B, .int .u64 word]] w fun e w' => e = .returned (.bool (goodQ B)) ∧ Below w.heap.size w w' := by
  obtain ⟨B0, B1⟩ := hB
  have HB : Hid (Below w.heap.size w (w.alloc (.cells #[.int .i64 B, .int .u64 word] 24))) := Lib.hid ((Below.refl _ _).alloc (Nat.le_refl _) _)
  have HG : Hid (goodQ B = (decide (4 ≤ B) && decide (B ≤ 64) && decide (B % 4 = 0))) := Lib.hid rfl
  by_cases c1 : 4 ≤ B
  · by_cases c2 : B ≤ 64
    · obtain ⟨m, hm⟩ : ∃ m, B % 4 = m := ⟨_, rfl⟩
      have t1 : B.tmod 4 = m := by rw [Int.tmod_eq_emod_of_nonneg (by omega)]; exact hm
      have HGG : Hid (goodQ B = (m == 0)) := Lib.hid (by rw [HG.out, decide_eq_true c1, decide_eq_true c2, hm]; simp [beq_iff_eq]; rfl)
      have hm0 : 0 ≤ m ∧ m < 4 := by omega
      have t2 : IntKind.i64.wrap m = m := by rw [IntKind.wrap_i64]; omega
      have t3 : wrap64 m = m := by unfold wrap64; omega
      clear hm
      go_enter Try.func53, Try.ntmps53
      go_wp2_with fail
      go_ret
      exact ⟨by rw [HGG.out]; rfl, HB.out⟩
    · have HGG : Hid (goodQ B = false) := Lib.hid (by rw [HG.out, decide_eq_true c1, decide_eq_false c2]; rfl)
      go_enter Try.func53, Try.ntmps53
      go_wp2_with fail
      go_ret
      exact ⟨by rw [HGG.out]; rfl, HB.out⟩
  · have HGG : Hid (goodQ B = false) := Lib.hid (by rw [HG.out, decide_eq_false c1]; rfl)
    go_enter Try.func53, Try.ntmps53
    go_wp2_with fail
    go_ret
    exact ⟨by rw [HGG.out]; rfl, HB.out⟩
end Go.Proofs.Ytbdfmnlfdhhnjaa

/-
  The landed package req: rows that can be.
-/
namespace Go.Proofs.Ytbdfmnlfdhhnjaa
set_option linter.unusedVariables false
set_option linter.unusedSimpArgs false
open Go.RowKit

set_option maxHeartbeats 1000000 in
/-- One row asked. -/
theorem takes_ask (w : World) (X : Nat) (A : Option Addr) (l cap : Nat) (B : Int) (hX : w.cell? ⟨X, 0, none⟩ = some (.int .i64 B)) :
    Calls Try.prog 73 #[.slice A l cap, .pointer (some ⟨X, 0, none⟩)] w fun e w' => e = .returned (.bool (decide (B ≤ (l : Int)))) ∧ w = w' := by
  go_enter Try.func73, Try.ntmps73
  go_wp2_with fail
  go_ret
  exact ⟨rfl, rfl⟩

/-- Is no row so long? -/
def shortB (B : Int) (L : List (List Int)) : Prop := ∀ r, r ∈ L → (r.length : Int) < B
/-- Some index, or none. -/
def FoundQ (w : World) (B : Int) (L : List (List Int)) (e : Ending) (w' : World) : Prop :=
  ∃ i : Int, e = .returned (.int .i64 i) ∧ -1 ≤ i ∧ i ≤ 100000 ∧ (shortB B L ↔ i < 0) ∧ w = w'

set_option maxRecDepth 100000 in
set_option maxHeartbeats 2000000 in
theorem takes_index (w : World) (X : Nat) (A : Option Addr) (n cap : Nat) (R : List RowI) (B : Int) (hX : w.cell? ⟨X, 0, none⟩ = some (.int .i64 B)) (h : RowsN w A R) (hn : R.length = n) (hR : n ≤ 1000) (hl : ∀ r, r ∈ R → r.l.length ≤ 20000) :
    Calls Try.prog 87 #[.slice A n cap, .func (.func 73) #[] #[.pointer (some ⟨X, 0, none⟩)]] w fun e w' => FoundQ w B (lsI R) e w' := by
  have eg : ∀ args w, (callFunc 73 args).run Try.prog w = .ok (.enter 73 args) w := enters_of Try.func73 (by kernel_rfl) rfl
  have HT := Lib.hid h
  have HN := Lib.hid hn
  have HL := Lib.hid hl
  have CA := Lib.hid (fun A l cap => takes_ask w X A l cap B hX)
  clear h hn hl hX
  go_enter Try.func87, Try.ntmps87
  go_wp2_with fail
  go_loopw [8] (fun iv wr => ∃ (j : Nat), j ≤ n ∧ iv = .int .i64 j ∧ shortB B ((lsI R).take j) ∧ w = wr) (fun iv _ => n - (intOf iv).toNat)
  case atStart => exact ⟨0, Nat.zero_le _, rfl, fun r hr => by simp at hr, rfl⟩
  case round =>
    obtain ⟨j, hj, rfl, hS, rfl⟩ := hrel
    have HS := Lib.hid hS
    clear hS
    by_cases hlt : j < n
    · have kk : (j : Int) < n := by omega
      obtain ⟨r, hr⟩ : ∃ r, R[j]? = some r := ⟨_, List.getElem?_eq_getElem (by rw [HN.out]; exact hlt)⟩
      have hll := HL.out _ (List.mem_of_getElem? hr)
      have hlr := ls_at hr
      obtain ⟨A', L, k⟩ := r
      obtain ⟨b', off, rfl, _, c0⟩ := HT.out.at_ j _ hr
      simp only at c0 hll hlr
      obtain ⟨l, hle⟩ : ∃ l, L.length = l := ⟨_, rfl⟩
      rw [hle] at c0 hll
      have HLR := Lib.hid hlr
      have HLE := Lib.hid hle
      clear hr hlr hle
      by_cases hf : B ≤ (l : Int)
      · have HF : Hid (FoundQ w B (lsI R) (.returned (.int .i64 j)) w) := Lib.hid ⟨j, rfl, by omega, by omega, ⟨fun hs => by
          have h1 := hs L (List.mem_of_getElem? HLR.out)
          rw [HLE.out] at h1
          omega, fun c => by omega⟩, rfl⟩
        have CB := Lib.hid (CA.out A' l k)
        rw [decide_eq_true hf] at CB
        go_wp2_with fail
        with_reducible (refine CB.out.mono ?_)
        rintro e w2 ⟨rfl, rfl⟩
        go_wp2_with fail
        go_ret
        exact HF.out
      · have HS2 : Hid (shortB B ((lsI R).take (j + 1))) := Lib.hid fun r hr => by
          rw [List.take_add_one, HLR.out] at hr
          rcases List.mem_append.1 hr with hr | hr
          · exact HS.out r hr
          · have e : r = L := by simpa using hr
            rw [e, HLE.out]; omega
        have CB := Lib.hid (CA.out A' l k)
        rw [decide_eq_false hf] at CB
        go_wp2_with fail
        with_reducible (refine CB.out.mono ?_)
        rintro e w2 ⟨rfl, rfl⟩
        go_wp2_with fail
        go_roundw
        case rel => exact ⟨j + 1, by omega, by go_num, HS2.out, by first | rfl | trivial⟩
        case measure => simp [intOf]; omega
    · have kk : ¬ (j : Int) < n := by omega
      obtain rfl : j = n := by omega
      have HF : Hid (FoundQ w B (lsI R) (.returned (.int .i64 (-1))) w) := Lib.hid ⟨-1, rfl, by omega, by omega, ⟨fun _ => by omega, fun _ => by
        have h := HS.out
        rw [List.take_of_length_le (by rw [ls_len, HN.out]; exact Nat.le_refl _)] at h
        exact h⟩, rfl⟩
      go_wp2_with fail
      go_ret
      exact HF.out

set_option maxHeartbeats 1000000 in
theorem takes_has (w : World) (X : Nat) (A : Option Addr) (n cap : Nat) (R : List RowI) (B : Int) (b : Bool) (hX : w.cell? ⟨X, 0, none⟩ = some (.int .i64 B)) (h : RowsN w A R) (hn : R.length = n) (hR : n ≤ 1000) (hl : ∀ r, r ∈ R → r.l.length ≤ 20000) (hb : b = true ↔ ¬ shortB B (lsI R)) :
    Calls Try.prog 74 #[.slice A n cap, .func (.func 73) #[] #[.pointer (some ⟨X, 0, none⟩)]] w fun e w' => e = .returned (.bool b) ∧ w = w' := by
  have C := Lib.hid (takes_index w X A n cap R B hX h hn hR hl)
  have HB := Lib.hid hb
  clear h hn hR hl hb hX
  go_enter Try.func74, Try.ntmps74
  go_wp2_with fail
  with_reducible (refine C.out.mono ?_)
  rintro e w2 ⟨i, rfl, hi1, hi2, hi3, rfl⟩
  have HF : Hid (decide (0 ≤ i) = b) := Lib.hid (by
    by_cases c : 0 ≤ i
    · rw [decide_eq_true c]
      exact (HB.out.2 fun hs => by have := hi3.1 hs; omega).symm
    · rw [decide_eq_false c]
      cases hb : b with
      | false => rfl
      | true => exact absurd (hi3.2 (by omega)) (HB.out.1 hb))
  clear hi3
  go_wp2_with fail
  go_ret
  exact ⟨by rw [← HF.out]; rfl, rfl⟩

/-- What rows can be. -/
structure TakesP (B : Int) (L : List (List Int)) : Prop where
  some_ : 1 ≤ L.length
  few : L.length ≤ 16
  top : 1 < L.length → ∀ r, L[L.length - 1]? = some r → r ≠ []
  short : shortB B L
  room : wtR L ≤ B * 1024

set_option maxRecDepth 100000 in
set_option maxHeartbeats 4000000 in
theorem rq_takes (w : World) (B word : Int) (A : Option Addr) (n cap : Nat) (R : List RowI) (b : Bool) (h0 : 0 ≤ B) (h64 : B ≤ 64) (h : RowsN w A R) (hn : R.length = n) (hR : n ≤ 20) (hl : ∀ r, r ∈ R → r.l.length ≤ 20000) (hb : b = true ↔ TakesP B (lsI R)) :
    Calls Try.prog 54 #[.agg #[.int .i64 B, .int .u64 word], .slice A n cap] w fun e w' => e = .returned (.bool b) ∧ Below w.heap.size w w' := by
  have HT := Lib.hid h
  have HN := Lib.hid hn
  have HL := Lib.hid hl
  have HBD := Lib.hid hb
  have HNO : Hid (¬ TakesP B (lsI R) → b = false) := Lib.hid fun c => by
    cases hbb : b with
    | false => rfl
    | true => exact absurd (hb.1 hbb) c
  have HAL : Hid (Below w.heap.size w (w.alloc (.cells #[.int .i64 B, .int .u64 word] 24))) := Lib.hid ((Below.refl _ _).alloc (Nat.le_refl _) _)
  obtain ⟨W0, W1⟩ := twoq_words w (.int .i64 B) (.int .u64 word) 24
  have HW0 := Lib.hid W0
  have hll : (lsI R).length = n := by rw [ls_len, hn]
  clear h hl hb W1
  by_cases c1 : n = 0
  · have HF : Hid (b = false) := Lib.hid (HNO.out fun t => by have := t.some_; omega)
    have e1 : ((n : Int) == 0) = true := by rw [beq_iff_eq]; omega
    clear hn hll
    subst c1
    go_enter Try.func54, Try.ntmps54
    go_wp2_with fail
    go_ret
    exact ⟨by rw [HF.out]; rfl, HAL.out⟩
  · have e1 : ((n : Int) == 0) = false := by rw [beq_eq_false_iff_ne]; omega
    by_cases c2 : 16 < n
    · have HF : Hid (b = false) := Lib.hid (HNO.out fun t => by have := t.few; omega)
      have c2' : (16 : Int) < (n : Int) := by omega
      clear hn hll
      go_enter Try.func54, Try.ntmps54
      go_wp2_with fail
      go_ret
      exact ⟨by rw [HF.out]; rfl, HAL.out⟩
    · have c2' : ¬ (16 : Int) < (n : Int) := by omega
      obtain ⟨m, hm⟩ : ∃ m : Nat, n = m + 1 := ⟨n - 1, by omega⟩
      obtain ⟨r, hr⟩ : ∃ r, R[m]? = some r := ⟨_, List.getElem?_eq_getElem (by rw [hn]; omega)⟩
      have hlr := ls_at hr
      obtain ⟨A', L, k⟩ := r
      obtain ⟨b', off, rfl, hbl, c0⟩ := (HT.out.call HAL.out).at_ m _ hr
      simp only at c0 hlr
      obtain ⟨l, hle⟩ : ∃ l, L.length = l := ⟨_, rfl⟩
      rw [hle] at c0
      have hs1 : (n : Int) - 1 = (m : Int) := by omega
      have hs2 : IntKind.i64.wrap (m : Int) = (m : Int) := by rw [IntKind.wrap_i64]; omega
      have hmn : m < n := by omega
      have hmn2 : (m : Int) < (n : Int) := by omega
      by_cases c3 : 1 < n ∧ l = 0
      · have HF : Hid (b = false) := Lib.hid (HNO.out fun t => t.top (by omega) L (by rw [hll, show n - 1 = m by omega]; exact hlr) (List.eq_nil_of_length_eq_zero (by omega)))
        have c4 : (1 : Int) < (n : Int) := by omega
        have c5 : ((l : Int) == 0) = true := by rw [beq_iff_eq]; omega
        clear hn hll hm hr hlr hle
        go_enter Try.func54, Try.ntmps54
        go_wp2_with fail
        go_ret
        exact ⟨by rw [HF.out]; rfl, HAL.out⟩
      · by_cases c8 : 1 < n
        · have c4 : (1 : Int) < (n : Int) := by omega
          have c5 : ((l : Int) == 0) = false := by rw [beq_eq_false_iff_ne]; omega
          have hRX := HT.out.call HAL.out
          have HRX := Lib.hid hRX
          have HWX := Lib.hid (twoq_words w (.int .i64 B) (.int .u64 word) 24)
          by_cases c6 : shortB B (lsI R)
          · have HBQ : Hid (decide (wtR (lsI R) ≤ B * 1024) = b) := Lib.hid (by
              by_cases c7 : wtR (lsI R) ≤ B * 1024
              · rw [decide_eq_true c7]
                exact (HBD.out.2 ⟨by omega, by omega, fun h1 q hq => by
                  rw [hll, show n - 1 = m by omega, hlr] at hq
                  have e := Option.some.inj hq
                  subst e
                  intro e2
                  rw [e2] at hle
                  have : l = 0 := by rw [← hle]; rfl
                  omega, c6, c7⟩).symm
              · rw [decide_eq_false c7]
                exact (HNO.out fun t => c7 t.room).symm)
            obtain ⟨q, hq⟩ : ∃ q, wtR (lsI R) = q := ⟨_, rfl⟩
            rw [hq] at HBQ
            have CH := Lib.hid (fun W (x : W.cell? ⟨w.heap.size, 0, none⟩ = some (.int .i64 B) ∧ W.cell? ⟨w.heap.size, 1, none⟩ = some (.int .u64 word) ∧ Below (w.alloc (.cells #[.int .i64 B, .int .u64 word] 24)).heap.size (w.alloc (.cells #[.int .i64 B, .int .u64 word] 24)) W) => takes_has W w.heap.size (some ⟨b', off, none⟩) n cap R B false x.1 (HRX.out.call x.2.2) HN.out (by omega) HL.out ⟨fun h => (by cases h), fun h => absurd c6 h⟩)
            have CT := Lib.hid (fun W (x : W.cell? ⟨w.heap.size, 0, none⟩ = some (.int .i64 B) ∧ W.cell? ⟨w.heap.size, 1, none⟩ = some (.int .u64 word) ∧ Below (w.alloc (.cells #[.int .i64 B, .int .u64 word] 24)).heap.size (w.alloc (.cells #[.int .i64 B, .int .u64 word] 24)) W) => rq_total W (some ⟨b', off, none⟩) n cap R q (HRX.out.call x.2.2) HN.out hR HL.out hq)
            have CM := Lib.hid (fun W => rq_cmost W B word h0 h64)
            clear hn hll hm hr hlr hle hRX hq c6
            go_enter Try.func54, Try.ntmps54
            go_wp2_with fail
            have HS0 : Hid ((w.alloc (.cells #[.int .i64 B, .int .u64 word] 24)).drew.cell? ⟨w.heap.size, 0, none⟩ = some (.int .i64 B) ∧ (w.alloc (.cells #[.int .i64 B, .int .u64 word] 24)).drew.cell? ⟨w.heap.size, 1, none⟩ = some (.int .u64 word) ∧ Below (w.alloc (.cells #[.int .i64 B, .int .u64 word] 24)).heap.size (w.alloc (.cells #[.int .i64 B, .int .u64 word] 24)) (w.alloc (.cells #[.int .i64 B, .int .u64 word] 24)).drew) := Lib.hid ⟨HWX.out.1, HWX.out.2, (Below.refl _ _).drew⟩
            have HST := Lib.hid (fun (W W' : World) (x : W.cell? ⟨w.heap.size, 0, none⟩ = some (.int .i64 B) ∧ W.cell? ⟨w.heap.size, 1, none⟩ = some (.int .u64 word) ∧ Below (w.alloc (.cells #[.int .i64 B, .int .u64 word] 24)).heap.size (w.alloc (.cells #[.int .i64 B, .int .u64 word] 24)) W) (hb : Below W.heap.size W W') => (⟨cell_later hb x.1, cell_later hb x.2.1, x.2.2.trans (hb.mono x.2.2.size)⟩ : W'.cell? ⟨w.heap.size, 0, none⟩ = some (.int .i64 B) ∧ W'.cell? ⟨w.heap.size, 1, none⟩ = some (.int .u64 word) ∧ Below (w.alloc (.cells #[.int .i64 B, .int .u64 word] 24)).heap.size (w.alloc (.cells #[.int .i64 B, .int .u64 word] 24)) W'))
            go_region_held3 (fun w' => w'.cell? ⟨w.heap.size, 0, none⟩ = some (.int .i64 B) ∧ w'.cell? ⟨w.heap.size, 1, none⟩ = some (.int .u64 word) ∧ Below (w.alloc (.cells #[.int .i64 B, .int .u64 word] 24)).heap.size (w.alloc (.cells #[.int .i64 B, .int .u64 word] 24)) w')
              (first | exact HS0.out | exact HST.out _ _ (by assumption) hbM | assumption)
              (first
                | (go_at_call 74; (with_reducible (refine (CH.out _ (by assumption)).mono ?_)); rintro e w2 ⟨rfl, rfl⟩)
                | (go_at_call 41; (with_reducible (refine (CT.out _ (by assumption)).mono ?_)); rintro e w3 ⟨rfl, rfl⟩)
                | (go_at_call 42; (with_reducible (refine (CM.out _).mono ?_)); rintro e w4 ⟨rfl, hbM⟩))
            rename_i hHeld
            have HBF := Lib.hid (HAL.out.trans (hHeld.2.2.mono HAL.out.size))
            clear hHeld hbM
            go_wp2_with fail
            go_ret
            exact ⟨by rw [← HBQ.out]; rfl, HBF.out⟩
          · have HF : Hid (b = false) := Lib.hid (HNO.out fun t => c6 t.short)
            have CH := Lib.hid (fun W (hb : Below (w.alloc (.cells #[.int .i64 B, .int .u64 word] 24)).heap.size (w.alloc (.cells #[.int .i64 B, .int .u64 word] 24)) W) => takes_has W w.heap.size (some ⟨b', off, none⟩) n cap R B true (cell_later hb HWX.out.1) (HRX.out.call hb) HN.out (by omega) HL.out ⟨fun _ => c6, fun _ => rfl⟩)
            clear hn hll hm hr hlr hle hRX c6
            go_enter Try.func54, Try.ntmps54
            go_wp2_with fail
            refine wp_region_noPanic ?_
            refine wp_region_held_drew (S := fun w' => Below (w.alloc (.cells #[.int .i64 B, .int .u64 word] 24)).heap.size (w.alloc (.cells #[.int .i64 B, .int .u64 word] 24)) w') (by kernel_rfl) ((Below.refl _ _).drew) (fun hHeld => ?_)
            refine wpAnyH_take (i := 0) (oi := _) (v := ?v1) (by simp only [List.getElem?_toArray, List.getElem?_cons_succ, List.getElem?_cons_zero]; rfl) (by kernel_rfl) (by kernel_rfl) (by kernel_rfl) (fun _ _ _ h => h) (Or.inl ⟨by rfl, ?y1⟩) hHeld ?r1
            case y1 => (intro w hSw; (try dsimp only at hSw); go_simp; try with_reducible rfl)
            try simp only [Act.put, List.setIfInBounds_toArray, List.set_cons_zero, List.set_cons_succ]
            refine wpAnyH_take (i := 1) (oi := _) (v := ?v2) (by simp only [List.getElem?_toArray, List.getElem?_cons_succ, List.getElem?_cons_zero]; rfl) (by kernel_rfl) (by kernel_rfl) (by kernel_rfl) (fun _ _ _ h => h) (Or.inl ⟨by rfl, ?y2⟩) hHeld ?r2
            case y2 => (intro w hSw; (try dsimp only at hSw); go_simp; try with_reducible rfl)
            try simp only [Act.put, List.setIfInBounds_toArray, List.set_cons_zero, List.set_cons_succ]
            refine wpAnyH_ready (rs := [2]) (by kernel_rfl) (by simp) ?_
            refine AllReadyH.cons (o := _) (by simp only [List.getElem?_toArray, List.getElem?_cons_succ, List.getElem?_cons_zero]; rfl) (fun K hK => ?_) AllReadyH.nil
            go_simp
            with_reducible (refine (CH.out _ hHeld).mono ?_)
            rintro e w2 ⟨rfl, rfl⟩
            try (go_wp2_with fail)
            refine hK.out _ _ (hHeld) (fun hHeld => ?_)
            clear hK K
            try simp only [Act.put, List.setIfInBounds_toArray, List.set_cons_zero, List.set_cons_succ]
            refine wpAnyH_take (i := 3) (oi := _) (v := ?v3) (by simp only [List.getElem?_toArray, List.getElem?_cons_succ, List.getElem?_cons_zero]; rfl) (by kernel_rfl) (by kernel_rfl) (by kernel_rfl) (fun _ _ _ h => h) (Or.inl ⟨by rfl, ?y3⟩) hHeld ?r3
            case y3 => (intro w hSw; (try dsimp only at hSw); go_simp; try with_reducible rfl)
            try simp only [Act.put, List.setIfInBounds_toArray, List.set_cons_zero, List.set_cons_succ]
            refine wpAnyH_take (i := 4) (oi := _) (v := ?v4) (by simp only [List.getElem?_toArray, List.getElem?_cons_succ, List.getElem?_cons_zero]; rfl) (by kernel_rfl) (by kernel_rfl) (by kernel_rfl) (fun _ _ _ h => h) (Or.inl ⟨by rfl, ?y4⟩) hHeld ?r4
            case y4 => (intro w hSw; (try dsimp only at hSw); go_simp; try with_reducible rfl)
            try simp only [Act.put, List.setIfInBounds_toArray, List.set_cons_zero, List.set_cons_succ]
            refine wpAnyH_take (i := 5) (oi := _) (v := _) (by simp only [List.getElem?_toArray, List.getElem?_cons_succ, List.getElem?_cons_zero]; rfl) (by kernel_rfl) (by kernel_rfl) (by kernel_rfl) (fun _ _ _ h => h) (Or.inr ⟨by rfl, rfl⟩) hHeld ?_
            try simp only [Act.put, List.setIfInBounds_toArray, List.set_cons_zero, List.set_cons_succ]
            refine wpAnyH_take (i := 6) (oi := _) (v := _) (by simp only [List.getElem?_toArray, List.getElem?_cons_succ, List.getElem?_cons_zero]; rfl) (by kernel_rfl) (by kernel_rfl) (by kernel_rfl) (fun _ _ _ h => h) (Or.inr ⟨by rfl, rfl⟩) hHeld ?_
            try simp only [Act.put, List.setIfInBounds_toArray, List.set_cons_zero, List.set_cons_succ]
            refine wpAnyH_take (i := 7) (oi := _) (v := _) (by simp only [List.getElem?_toArray, List.getElem?_cons_succ, List.getElem?_cons_zero]; rfl) (by kernel_rfl) (by kernel_rfl) (by kernel_rfl) (fun _ _ _ h => h) (Or.inr ⟨by rfl, rfl⟩) hHeld ?_
            try simp only [Act.put, List.setIfInBounds_toArray, List.set_cons_zero, List.set_cons_succ]
            refine wpAnyH_take (i := 8) (oi := _) (v := _) (by simp only [List.getElem?_toArray, List.getElem?_cons_succ, List.getElem?_cons_zero]; rfl) (by kernel_rfl) (by kernel_rfl) (by kernel_rfl) (fun _ _ _ h => h) (Or.inr ⟨by rfl, rfl⟩) hHeld ?_
            try simp only [Act.put, List.setIfInBounds_toArray, List.set_cons_zero, List.set_cons_succ]
            refine wpAnyH_take (i := 9) (oi := _) (v := _) (by simp only [List.getElem?_toArray, List.getElem?_cons_succ, List.getElem?_cons_zero]; rfl) (by kernel_rfl) (by kernel_rfl) (by kernel_rfl) (fun _ _ _ h => h) (Or.inr ⟨by rfl, rfl⟩) hHeld ?_
            try simp only [Act.put, List.setIfInBounds_toArray, List.set_cons_zero, List.set_cons_succ]
            refine wpAnyH_take (i := 10) (oi := _) (v := ?v5) (by simp only [List.getElem?_toArray, List.getElem?_cons_succ, List.getElem?_cons_zero]; rfl) (by kernel_rfl) (by kernel_rfl) (by kernel_rfl) (fun _ _ _ h => h) (Or.inl ⟨by rfl, ?y5⟩) hHeld ?r5
            case y5 => (intro w hSw; (try dsimp only at hSw); go_simp; try with_reducible rfl)
            try simp only [Act.put, List.setIfInBounds_toArray, List.set_cons_zero, List.set_cons_succ]
            refine wpAnyH_take (i := 11) (oi := _) (v := ?v6) (by simp only [List.getElem?_toArray, List.getElem?_cons_succ, List.getElem?_cons_zero]; rfl) (by kernel_rfl) (by kernel_rfl) (by kernel_rfl) (fun _ _ _ h => h) (Or.inl ⟨by rfl, ?y6⟩) hHeld ?r6
            case y6 => (intro w hSw; (try dsimp only at hSw); go_simp; try with_reducible rfl)
            try simp only [Act.put, List.setIfInBounds_toArray, List.set_cons_zero, List.set_cons_succ]
            refine wpAnyH_done (by kernel_rfl) ?_ _
            refine NoPanic.normal ?_
            have HBF := Lib.hid (HAL.out.trans (hHeld.mono HAL.out.size))
            go_wp2_with fail
            go_ret
            exact ⟨by rw [HF.out]; rfl, HBF.out⟩
        · have c4 : ¬ (1 : Int) < (n : Int) := by omega
          have hRX := HT.out.call HAL.out
          have HRX := Lib.hid hRX
          have HWX := Lib.hid (twoq_words w (.int .i64 B) (.int .u64 word) 24)
          by_cases c6 : shortB B (lsI R)
          · have HBQ : Hid (decide (wtR (lsI R) ≤ B * 1024) = b) := Lib.hid (by
              by_cases c7 : wtR (lsI R) ≤ B * 1024
              · rw [decide_eq_true c7]
                exact (HBD.out.2 ⟨by omega, by omega, fun h1 q hq => by
                  rw [hll, show n - 1 = m by omega, hlr] at hq
                  have e := Option.some.inj hq
                  subst e
                  intro e2
                  rw [e2] at hle
                  have : l = 0 := by rw [← hle]; rfl
                  omega, c6, c7⟩).symm
              · rw [decide_eq_false c7]
                exact (HNO.out fun t => c7 t.room).symm)
            obtain ⟨q, hq⟩ : ∃ q, wtR (lsI R) = q := ⟨_, rfl⟩
            rw [hq] at HBQ
            have CH := Lib.hid (fun W (x : W.cell? ⟨w.heap.size, 0, none⟩ = some (.int .i64 B) ∧ W.cell? ⟨w.heap.size, 1, none⟩ = some (.int .u64 word) ∧ Below (w.alloc (.cells #[.int .i64 B, .int .u64 word] 24)).heap.size (w.alloc (.cells #[.int .i64 B, .int .u64 word] 24)) W) => takes_has W w.heap.size (some ⟨b', off, none⟩) n cap R B false x.1 (HRX.out.call x.2.2) HN.out (by omega) HL.out ⟨fun h => (by cases h), fun h => absurd c6 h⟩)
            have CT := Lib.hid (fun W (x : W.cell? ⟨w.heap.size, 0, none⟩ = some (.int .i64 B) ∧ W.cell? ⟨w.heap.size, 1, none⟩ = some (.int .u64 word) ∧ Below (w.alloc (.cells #[.int .i64 B, .int .u64 word] 24)).heap.size (w.alloc (.cells #[.int .i64 B, .int .u64 word] 24)) W) => rq_total W (some ⟨b', off, none⟩) n cap R q (HRX.out.call x.2.2) HN.out hR HL.out hq)
            have CM := Lib.hid (fun W => rq_cmost W B word h0 h64)
            clear hn hll hm hr hlr hle hRX hq c6
            go_enter Try.func54, Try.ntmps54
            go_wp2_with fail
            have HS0 : Hid ((w.alloc (.cells #[.int .i64 B, .int .u64 word] 24)).drew.cell? ⟨w.heap.size, 0, none⟩ = some (.int .i64 B) ∧ (w.alloc (.cells #[.int .i64 B, .int .u64 word] 24)).drew.cell? ⟨w.heap.size, 1, none⟩ = some (.int .u64 word) ∧ Below (w.alloc (.cells #[.int .i64 B, .int .u64 word] 24)).heap.size (w.alloc (.cells #[.int .i64 B, .int .u64 word] 24)) (w.alloc (.cells #[.int .i64 B, .int .u64 word] 24)).drew) := Lib.hid ⟨HWX.out.1, HWX.out.2, (Below.refl _ _).drew⟩
            have HST := Lib.hid (fun (W W' : World) (x : W.cell? ⟨w.heap.size, 0, none⟩ = some (.int .i64 B) ∧ W.cell? ⟨w.heap.size, 1, none⟩ = some (.int .u64 word) ∧ Below (w.alloc (.cells #[.int .i64 B, .int .u64 word] 24)).heap.size (w.alloc (.cells #[.int .i64 B, .int .u64 word] 24)) W) (hb : Below W.heap.size W W') => (⟨cell_later hb x.1, cell_later hb x.2.1, x.2.2.trans (hb.mono x.2.2.size)⟩ : W'.cell? ⟨w.heap.size, 0, none⟩ = some (.int .i64 B) ∧ W'.cell? ⟨w.heap.size, 1, none⟩ = some (.int .u64 word) ∧ Below (w.alloc (.cells #[.int .i64 B, .int .u64 word] 24)).heap.size (w.alloc (.cells #[.int .i64 B, .int .u64 word] 24)) W'))
            go_region_held3 (fun w' => w'.cell? ⟨w.heap.size, 0, none⟩ = some (.int .i64 B) ∧ w'.cell? ⟨w.heap.size, 1, none⟩ = some (.int .u64 word) ∧ Below (w.alloc (.cells #[.int .i64 B, .int .u64 word] 24)).heap.size (w.alloc (.cells #[.int .i64 B, .int .u64 word] 24)) w')
              (first | exact HS0.out | exact HST.out _ _ (by assumption) hbM | assumption)
              (first
                | (go_at_call 74; (with_reducible (refine (CH.out _ (by assumption)).mono ?_)); rintro e w2 ⟨rfl, rfl⟩)
                | (go_at_call 41; (with_reducible (refine (CT.out _ (by assumption)).mono ?_)); rintro e w3 ⟨rfl, rfl⟩)
                | (go_at_call 42; (with_reducible (refine (CM.out _).mono ?_)); rintro e w4 ⟨rfl, hbM⟩))
            rename_i hHeld
            have HBF := Lib.hid (HAL.out.trans (hHeld.2.2.mono HAL.out.size))
            clear hHeld hbM
            go_wp2_with fail
            go_ret
            exact ⟨by rw [← HBQ.out]; rfl, HBF.out⟩
          · have HF : Hid (b = false) := Lib.hid (HNO.out fun t => c6 t.short)
            have CH := Lib.hid (fun W (hb : Below (w.alloc (.cells #[.int .i64 B, .int .u64 word] 24)).heap.size (w.alloc (.cells #[.int .i64 B, .int .u64 word] 24)) W) => takes_has W w.heap.size (some ⟨b', off, none⟩) n cap R B true (cell_later hb HWX.out.1) (HRX.out.call hb) HN.out (by omega) HL.out ⟨fun _ => c6, fun _ => rfl⟩)
            clear hn hll hm hr hlr hle hRX c6
            go_enter Try.func54, Try.ntmps54
            go_wp2_with fail
            refine wp_region_noPanic ?_
            refine wp_region_held_drew (S := fun w' => Below (w.alloc (.cells #[.int .i64 B, .int .u64 word] 24)).heap.size (w.alloc (.cells #[.int .i64 B, .int .u64 word] 24)) w') (by kernel_rfl) ((Below.refl _ _).drew) (fun hHeld => ?_)
            refine wpAnyH_take (i := 0) (oi := _) (v := ?v7) (by simp only [List.getElem?_toArray, List.getElem?_cons_succ, List.getElem?_cons_zero]; rfl) (by kernel_rfl) (by kernel_rfl) (by kernel_rfl) (fun _ _ _ h => h) (Or.inl ⟨by rfl, ?y7⟩) hHeld ?r7
            case y7 => (intro w hSw; (try dsimp only at hSw); go_simp; try with_reducible rfl)
            try simp only [Act.put, List.setIfInBounds_toArray, List.set_cons_zero, List.set_cons_succ]
            refine wpAnyH_take (i := 1) (oi := _) (v := ?v8) (by simp only [List.getElem?_toArray, List.getElem?_cons_succ, List.getElem?_cons_zero]; rfl) (by kernel_rfl) (by kernel_rfl) (by kernel_rfl) (fun _ _ _ h => h) (Or.inl ⟨by rfl, ?y8⟩) hHeld ?r8
            case y8 => (intro w hSw; (try dsimp only at hSw); go_simp; try with_reducible rfl)
            try simp only [Act.put, List.setIfInBounds_toArray, List.set_cons_zero, List.set_cons_succ]
            refine wpAnyH_ready (rs := [2]) (by kernel_rfl) (by simp) ?_
            refine AllReadyH.cons (o := _) (by simp only [List.getElem?_toArray, List.getElem?_cons_succ, List.getElem?_cons_zero]; rfl) (fun K hK => ?_) AllReadyH.nil
            go_simp
            with_reducible (refine (CH.out _ hHeld).mono ?_)
            rintro e w2 ⟨rfl, rfl⟩
            try (go_wp2_with fail)
            refine hK.out _ _ (hHeld) (fun hHeld => ?_)
            clear hK K
            try simp only [Act.put, List.setIfInBounds_toArray, List.set_cons_zero, List.set_cons_succ]
            refine wpAnyH_take (i := 3) (oi := _) (v := ?v9) (by simp only [List.getElem?_toArray, List.getElem?_cons_succ, List.getElem?_cons_zero]; rfl) (by kernel_rfl) (by kernel_rfl) (by kernel_rfl) (fun _ _ _ h => h) (Or.inl ⟨by rfl, ?y9⟩) hHeld ?r9
            case y9 => (intro w hSw; (try dsimp only at hSw); go_simp; try with_reducible rfl)
            try simp only [Act.put, List.setIfInBounds_toArray, List.set_cons_zero, List.set_cons_succ]
            refine wpAnyH_take (i := 4) (oi := _) (v := ?v10) (by simp only [List.getElem?_toArray, List.getElem?_cons_succ, List.getElem?_cons_zero]; rfl) (by kernel_rfl) (by kernel_rfl) (by kernel_rfl) (fun _ _ _ h => h) (Or.inl ⟨by rfl, ?y10⟩) hHeld ?r10
            case y10 => (intro w hSw; (try dsimp only at hSw); go_simp; try with_reducible rfl)
            try simp only [Act.put, List.setIfInBounds_toArray, List.set_cons_zero, List.set_cons_succ]
            refine wpAnyH_take (i := 5) (oi := _) (v := _) (by simp only [List.getElem?_toArray, List.getElem?_cons_succ, List.getElem?_cons_zero]; rfl) (by kernel_rfl) (by kernel_rfl) (by kernel_rfl) (fun _ _ _ h => h) (Or.inr ⟨by rfl, rfl⟩) hHeld ?_
            try simp only [Act.put, List.setIfInBounds_toArray, List.set_cons_zero, List.set_cons_succ]
            refine wpAnyH_take (i := 6) (oi := _) (v := _) (by simp only [List.getElem?_toArray, List.getElem?_cons_succ, List.getElem?_cons_zero]; rfl) (by kernel_rfl) (by kernel_rfl) (by kernel_rfl) (fun _ _ _ h => h) (Or.inr ⟨by rfl, rfl⟩) hHeld ?_
            try simp only [Act.put, List.setIfInBounds_toArray, List.set_cons_zero, List.set_cons_succ]
            refine wpAnyH_take (i := 7) (oi := _) (v := _) (by simp only [List.getElem?_toArray, List.getElem?_cons_succ, List.getElem?_cons_zero]; rfl) (by kernel_rfl) (by kernel_rfl) (by kernel_rfl) (fun _ _ _ h => h) (Or.inr ⟨by rfl, rfl⟩) hHeld ?_
            try simp only [Act.put, List.setIfInBounds_toArray, List.set_cons_zero, List.set_cons_succ]
            refine wpAnyH_take (i := 8) (oi := _) (v := _) (by simp only [List.getElem?_toArray, List.getElem?_cons_succ, List.getElem?_cons_zero]; rfl) (by kernel_rfl) (by kernel_rfl) (by kernel_rfl) (fun _ _ _ h => h) (Or.inr ⟨by rfl, rfl⟩) hHeld ?_
            try simp only [Act.put, List.setIfInBounds_toArray, List.set_cons_zero, List.set_cons_succ]
            refine wpAnyH_take (i := 9) (oi := _) (v := _) (by simp only [List.getElem?_toArray, List.getElem?_cons_succ, List.getElem?_cons_zero]; rfl) (by kernel_rfl) (by kernel_rfl) (by kernel_rfl) (fun _ _ _ h => h) (Or.inr ⟨by rfl, rfl⟩) hHeld ?_
            try simp only [Act.put, List.setIfInBounds_toArray, List.set_cons_zero, List.set_cons_succ]
            refine wpAnyH_take (i := 10) (oi := _) (v := ?v11) (by simp only [List.getElem?_toArray, List.getElem?_cons_succ, List.getElem?_cons_zero]; rfl) (by kernel_rfl) (by kernel_rfl) (by kernel_rfl) (fun _ _ _ h => h) (Or.inl ⟨by rfl, ?y11⟩) hHeld ?r11
            case y11 => (intro w hSw; (try dsimp only at hSw); go_simp; try with_reducible rfl)
            try simp only [Act.put, List.setIfInBounds_toArray, List.set_cons_zero, List.set_cons_succ]
            refine wpAnyH_take (i := 11) (oi := _) (v := ?v12) (by simp only [List.getElem?_toArray, List.getElem?_cons_succ, List.getElem?_cons_zero]; rfl) (by kernel_rfl) (by kernel_rfl) (by kernel_rfl) (fun _ _ _ h => h) (Or.inl ⟨by rfl, ?y12⟩) hHeld ?r12
            case y12 => (intro w hSw; (try dsimp only at hSw); go_simp; try with_reducible rfl)
            try simp only [Act.put, List.setIfInBounds_toArray, List.set_cons_zero, List.set_cons_succ]
            refine wpAnyH_done (by kernel_rfl) ?_ _
            refine NoPanic.normal ?_
            have HBF := Lib.hid (HAL.out.trans (hHeld.mono HAL.out.size))
            go_wp2_with fail
            go_ret
            exact ⟨by rw [HF.out]; rfl, HBF.out⟩
end Go.Proofs.Ytbdfmnlfdhhnjaa
