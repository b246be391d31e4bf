/-
  Texts joined, in build order: CoinM, ReqM, ReqN, CoinR, ReqF, ReqG, CoinS, Keep, ReqT, ReqV, ReqW, ReqU.
-/
import Derived.Test.YtbdfmnlfdhhnjaaK0
import Derived.Deep.QuietTactic
import Derived.BigQuiet
import Derived.Deep.LoopGhost
import Derived.Lib.JoinLaws
import Derived.Lib.SmallJoins
import Derived.WalkKit
import Derived.WalkSpells
import Derived.WalkLawsBesides
import Derived.OneCell
import Derived.OwnWalk
import Derived.RowKit3
import Derived.Deep.RegionLaw
import Derived.Deep.RegionWith
import Derived.Deep.RegionHeld3
import Derived.Deep.DeepCutAuto
import Derived.Deep.CutRange
import Derived.BigRegion
/-
  Plain mathematics of stages 20 and 21: rows halved and split; towers settled: their weight, their ranks, all ways in which the coins fall: no program in sight.
-/
namespace Go.Proofs.Ytbdfmnlfdhhnjaa
set_option linter.unusedVariables false
set_option linter.unusedSimpArgs false

/-! ### Every other value -/
def halvB : Bool → List Int → List Int
  | _, [] => []
  | false, x :: r => x :: halvB true r
  | true, _ :: r => halvB false r
theorem halv_len : ∀ (L : List Int) (b : Bool), (halvB b L).length = if b = true then L.length / 2 else (L.length + 1) / 2
  | [], b => by cases b <;> rfl
  | x :: r, false => by
    have ih := halv_len r true
    rw [if_pos rfl] at ih
    rw [halvB, List.length_cons, ih, if_neg (by decide), List.length_cons]
    omega
  | x :: r, true => by
    have ih := halv_len r false
    rw [if_neg (by decide)] at ih
    rw [halvB, ih, if_pos rfl, List.length_cons]
theorem halv_both (x : Int) : ∀ (L : List Int), upV (halvB false L) x + upV (halvB true L) x = upV L x
  | [] => rfl
  | y :: r => by
    have ih := halv_both x r
    rw [halvB, halvB, upV_cons, upV_cons]
    omega
theorem halv_mem : ∀ {L : List Int} {b : Bool} {x : Int}, x ∈ halvB b L → x ∈ L
  | [], b, x, h => by cases b <;> cases h
  | y :: r, false, x, h => by
    rcases List.mem_cons.1 (show x ∈ y :: halvB true r from h) with e | e
    · rw [e]; exact List.mem_cons_self
    · exact List.mem_cons_of_mem _ (halv_mem e)
  | y :: r, true, x, h => List.mem_cons_of_mem _ (halv_mem (show x ∈ halvB false r from h))
/-- Those up to a value, of a row in order: each half has half of them. -/
theorem halv_up (x : Int) : ∀ {L : List Int}, L.Pairwise (fun a b => a ≤ b) → (2 * upV (halvB false L) x = upV L x ∨ 2 * upV (halvB false L) x = upV L x + 1) ∧ (2 * upV (halvB true L) x = upV L x ∨ 2 * upV (halvB true L) x = upV L x - 1)
  | [], _ => ⟨Or.inl rfl, Or.inl rfl⟩
  | y :: r, h => by
    obtain ⟨h1, h2⟩ := List.pairwise_cons.1 h
    obtain ⟨ih1, ih2⟩ := halv_up x h2
    have hb := halv_both x r
    rw [halvB, halvB, upV_cons, upV_cons]
    by_cases c : y ≤ x
    · rw [if_pos c]
      omega
    · rw [if_neg c]
      have hz : upV r x = 0 := by
        unfold upV
        rw [List.filter_eq_nil_iff.2 fun z hz => by have := h1 z hz; simp; omega]
        rfl
      have p1 := upV_bd (halvB true r) x
      have p2 := upV_bd (halvB false r) x
      omega
theorem insI_cons20 (x y : Int) (r : List Int) : insI x (y :: r) = if y ≤ x then y :: insI x r else x :: y :: r := by
  unfold insI
  by_cases c : y ≤ x
  · rw [if_pos c, List.takeWhile_cons_of_pos (by simpa using c), List.dropWhile_cons_of_pos (by simpa using c)]; rfl
  · rw [if_neg c, List.takeWhile_cons_of_neg (by simpa using c), List.dropWhile_cons_of_neg (by simpa using c)]; rfl
theorem insI_sorted20 {x : Int} : ∀ {L : List Int}, L.Pairwise (fun a b => a ≤ b) → (insI x L).Pairwise fun a b => a ≤ b
  | [], _ => List.pairwise_singleton _ _
  | y :: r, h => by
    obtain ⟨h1, h2⟩ := List.pairwise_cons.1 h
    rw [insI_cons20]
    by_cases c : y ≤ x
    · rw [if_pos c]
      refine List.pairwise_cons.2 ⟨fun z hz => ?_, insI_sorted20 h2⟩
      rcases List.mem_cons.1 ((insI_perm x r).mem_iff.1 hz) with e | e
      · omega
      · exact h1 z e
    · rw [if_neg c]
      refine List.pairwise_cons.2 ⟨fun z hz => ?_, h⟩
      rcases List.mem_cons.1 hz with e | e
      · omega
      · have := h1 z e; omega
theorem sortI_sorted20 (W : List Int) : (sortI W).Pairwise fun a b => a ≤ b := by
  have : ∀ (W L : List Int), L.Pairwise (fun a b => a ≤ b) → (W.foldl (fun L x => insI x L) L).Pairwise fun a b => a ≤ b := by
    intro W
    induction W with
    | nil => intro L h; exact h
    | cons x r ih => intro L h; exact ih _ (insI_sorted20 h)
  exact this W [] List.Pairwise.nil

/-! ### Split -/
/-- How many stay, of n, if keep are asked for. -/
def keepN (keep : Int) (n : Nat) : Nat := if (n - min keep.toNat n) % 2 = 0 then min keep.toNat n else min keep.toNat n + 1
theorem keepN_le (keep : Int) (n : Nat) : keepN keep n ≤ n ∧ (n - keepN keep n) % 2 = 0 ∧ min keep.toNat n ≤ keepN keep n ∧ keepN keep n ≤ min keep.toNat n + 1 := by
  unfold keepN
  split <;> omega
def stayL (keep : Int) (L : List Int) : List Int := (sortI L).take (keepN keep L.length)
def restL (keep : Int) (L : List Int) : List Int := (sortI L).drop (keepN keep L.length)
theorem stay_rest (keep : Int) (L : List Int) : (stayL keep L ++ restL keep L).Perm L := by
  unfold stayL restL
  rw [List.take_append_drop]
  exact sortI_perm L
theorem stay_len (keep : Int) (L : List Int) : (stayL keep L).length = keepN keep L.length ∧ (restL keep L).length = L.length - keepN keep L.length := by
  have := (keepN_le keep L.length).1
  unfold stayL restL
  rw [List.length_take, List.length_drop, sortI_len]
  omega
theorem stay_le {keep : Int} {L : List Int} : ∀ a, a ∈ stayL keep L → ∀ b, b ∈ restL keep L → a ≤ b := by
  have h := sortI_sorted20 L
  rw [← List.take_append_drop (keepN keep L.length) (sortI L)] at h
  exact (List.pairwise_append.1 h).2.2
theorem rest_sorted (keep : Int) (L : List Int) : (restL keep L).Pairwise fun a b => a ≤ b := by
  have h := sortI_sorted20 L
  rw [← List.take_append_drop (keepN keep L.length) (sortI L)] at h
  exact (List.pairwise_append.1 h).2.1
theorem split_up (keep : Int) (L : List Int) (x : Int) : upV (stayL keep L) x + upV (restL keep L) x = upV L x := by
  rw [← upV_app]
  exact upV_perm (stay_rest keep L) x
/-! ### Towers -/
/-- Values stand behind the lowest of some rows. -/
def behR (V : List Int) : List (List Int) → List (List Int)
  | [] => [V]
  | r :: t => (r ++ V) :: t
def sizR (R : List (List Int)) : Nat := (R.map List.length).sum
theorem sizR_cons (r : List Int) (R : List (List Int)) : sizR (r :: R) = r.length + sizR R := by unfold sizR; rw [List.map_cons, List.sum_cons]
theorem behR_siz (V : List Int) (R : List (List Int)) : sizR (behR V R) = V.length + sizR R ∧ (behR V R).length = max R.length 1 := by
  cases R with
  | nil => exact ⟨by show sizR [V] = V.length + sizR []; rw [sizR_cons], rfl⟩
  | cons r t =>
    refine ⟨?_, ?_⟩
    · show sizR ((r ++ V) :: t) = _
      rw [sizR_cons, sizR_cons, List.length_append]; omega
    · show t.length + 1 = max (t.length + 1) 1
      omega
/-- Half of what is left of a row that is split. -/
def goR (B : Int) (c : Bool) (r : List Int) : List Int := halvB c (restL (B / 2) r)
theorem keepB {B : Int} {n : Nat} (h4 : B % 4 = 0) (h0 : 4 ≤ B) (hn : B ≤ n) : B / 2 ≤ keepN (B / 2) n ∧ B / 2 ≤ ((n - keepN (B / 2) n : Nat) : Int) ∧ keepN (B / 2) n ≤ n ∧ (n - keepN (B / 2) n) % 2 = 0 := by
  obtain ⟨k1, k2, k3, k4⟩ := keepN_le (B / 2) n
  refine ⟨by omega, by omega, k1, k2⟩
theorem goR_len {B : Int} {r : List Int} (c : Bool) (h4 : B % 4 = 0) (h0 : 4 ≤ B) (hn : B ≤ r.length) : B ≤ 4 * ((goR B c r).length : Int) ∧ 2 * (goR B c r).length = r.length - keepN (B / 2) r.length ∧ (goR B c r).length < r.length := by
  obtain ⟨k1, k2, k3, k4⟩ := keepB h4 h0 hn
  have hl := halv_len (restL (B / 2) r) c
  rw [(stay_len (B / 2) r).2] at hl
  unfold goR
  rw [hl]
  cases c <;> simp <;> omega
/-- A tower settled: its rows, the coins that are left. -/
def setR (B : Int) : Nat → List (List Int) → List Bool → List (List Int) × List Bool
  | 0, R, cs => (R, cs)
  | _ + 1, [], cs => ([], cs)
  | f + 1, r :: R, cs =>
    if (r.length : Int) < B then (r :: (setR B f R cs).1, (setR B f R cs).2)
    else (stayL (B / 2) r :: (setR B f (behR (goR B (cs.headD false) r) R) cs.tail).1, (setR B f (behR (goR B (cs.headD false) r) R) cs.tail).2)
/-- So many more stand in the lowest row. -/
def addH (v : Nat) : List Nat → List Nat
  | [] => [v]
  | k :: K => (k + v) :: K
/-- How many coins that takes: by the rows' lengths alone. -/
def cntR (B : Int) : Nat → List Nat → Nat
  | 0, _ => 0
  | _ + 1, [] => 0
  | f + 1, n :: N =>
    if (n : Int) < B then cntR B f N
    else 1 + cntR B f (addH ((n - keepN (B / 2) n) / 2) N)
def lenR (R : List (List Int)) : List Nat := R.map List.length
/-- The lengths behind: by the lengths alone. -/
def shpR (B : Int) : Nat → List Nat → List Nat
  | 0, N => N
  | _ + 1, [] => []
  | f + 1, n :: N =>
    if (n : Int) < B then n :: shpR B f N
    else keepN (B / 2) n :: shpR B f (addH ((n - keepN (B / 2) n) / 2) N)
def rankR (x : Int) : List (List Int) → Int
  | [] => 0
  | r :: R => upV r x + 2 * rankR x R
theorem rank_beh (x : Int) (V : List Int) (R : List (List Int)) : rankR x (behR V R) = upV V x + rankR x R := by
  cases R with
  | nil => show upV V x + 2 * 0 = upV V x + 0; omega
  | cons r t => show upV (r ++ V) x + 2 * rankR x t = upV V x + (upV r x + 2 * rankR x t); rw [upV_app]; omega
def wtR : List (List Int) → Int
  | [] => 0
  | r :: R => r.length + 2 * wtR R
theorem wt_beh (V : List Int) (R : List (List Int)) : wtR (behR V R) = V.length + wtR R := by
  cases R with
  | nil => show ((V.length : Nat) : Int) + 2 * 0 = V.length + 0; omega
  | cons r t => show (((r ++ V).length : Nat) : Int) + 2 * wtR t = V.length + (r.length + 2 * wtR t); rw [List.length_append]; omega
/-- How far off ranks may be. -/
def potR : List (List Int) → Int
  | [] => 0
  | _ :: R => 2 * wtR R + 2 * potR R
theorem pot_beh (V : List Int) (R : List (List Int)) : potR (behR V R) = potR R := by
  cases R with
  | nil => show 2 * 0 + 2 * 0 = (0 : Int); omega
  | cons r t => rfl
/-- Settled: the same weight. -/
theorem set_wt {B : Int} (h4 : B % 4 = 0) (h0 : 4 ≤ B) : ∀ (f : Nat) (R : List (List Int)) (cs : List Bool), wtR (setR B f R cs).1 = wtR R
  | 0, R, cs => rfl
  | f + 1, [], cs => rfl
  | f + 1, r :: R, cs => by
    unfold setR
    by_cases c : (r.length : Int) < B
    · rw [if_pos c]
      show (r.length : Int) + 2 * wtR (setR B f R cs).1 = _
      rw [set_wt h4 h0 f R cs]; rfl
    · rw [if_neg c]
      obtain ⟨g1, g2, g3⟩ := goR_len (r := r) (cs.headD false) h4 h0 (by omega)
      obtain ⟨k1, k2, k3, k4⟩ := keepB (n := r.length) h4 h0 (by omega)
      show ((stayL (B / 2) r).length : Int) + 2 * wtR (setR B f (behR (goR B (cs.headD false) r) R) cs.tail).1 = r.length + 2 * wtR R
      rw [set_wt h4 h0 f _ _, wt_beh, (stay_len (B / 2) r).1]
      omega
/-- Settled: no rank moves further than the weight that goes up. -/
theorem set_pot {B : Int} (h4 : B % 4 = 0) (h0 : 4 ≤ B) (x : Int) : ∀ (f : Nat) (R : List (List Int)) (cs : List Bool), (rankR x (setR B f R cs).1 - rankR x R) * B ≤ 2 * potR (setR B f R cs).1 - 2 * potR R ∧ (rankR x R - rankR x (setR B f R cs).1) * B ≤ 2 * potR (setR B f R cs).1 - 2 * potR R
  | 0, R, cs => by show (rankR x R - rankR x R) * B ≤ _ ∧ _; rw [Int.sub_self, Int.zero_mul]; exact ⟨by show 0 ≤ 2 * potR R - 2 * potR R; omega, by show (rankR x R - rankR x R) * B ≤ 2 * potR R - 2 * potR R; rw [Int.sub_self, Int.zero_mul]; omega⟩
  | f + 1, [], cs => by show ((0 : Int) - 0) * B ≤ 2 * 0 - 2 * 0 ∧ ((0 : Int) - 0) * B ≤ 2 * 0 - 2 * 0; simp
  | f + 1, r :: R, cs => by
    unfold setR
    by_cases c : (r.length : Int) < B
    · rw [if_pos c]
      obtain ⟨i1, i2⟩ := set_pot h4 h0 x f R cs
      have hw := set_wt h4 h0 f R cs
      show (upV r x + 2 * rankR x (setR B f R cs).1 - (upV r x + 2 * rankR x R)) * B ≤ 2 * (2 * wtR (setR B f R cs).1 + 2 * potR (setR B f R cs).1) - 2 * (2 * wtR R + 2 * potR R) ∧ (upV r x + 2 * rankR x R - (upV r x + 2 * rankR x (setR B f R cs).1)) * B ≤ 2 * (2 * wtR (setR B f R cs).1 + 2 * potR (setR B f R cs).1) - 2 * (2 * wtR R + 2 * potR R)
      rw [hw]
      generalize rankR x (setR B f R cs).1 = a at *
      generalize rankR x R = b at *
      have e1 : (upV r x + 2 * a - (upV r x + 2 * b)) * B = 2 * ((a - b) * B) := by rw [← Int.mul_assoc]; congr 1; omega
      have e2 : (upV r x + 2 * b - (upV r x + 2 * a)) * B = 2 * ((b - a) * B) := by rw [← Int.mul_assoc]; congr 1; omega
      rw [e1, e2]
      omega
    · rw [if_neg c]
      obtain ⟨g1, g2, g3⟩ := goR_len (r := r) (cs.headD false) h4 h0 (by omega)
      obtain ⟨i1, i2⟩ := set_pot h4 h0 x f (behR (goR B (cs.headD false) r) R) cs.tail
      have hw := set_wt h4 h0 f (behR (goR B (cs.headD false) r) R) cs.tail
      rw [pot_beh, rank_beh] at i1 i2
      rw [wt_beh] at hw
      have hs := split_up (B / 2) r x
      obtain ⟨u1, u2⟩ := halv_up x (rest_sorted (B / 2) r)
      have hu : 2 * upV (goR B (cs.headD false) r) x - upV (restL (B / 2) r) x ≤ 1 ∧ -1 ≤ 2 * upV (goR B (cs.headD false) r) x - upV (restL (B / 2) r) x := by
        unfold goR
        cases cs.headD false <;> omega
      generalize goR B (cs.headD false) r = G at *
      show (upV (stayL (B / 2) r) x + 2 * rankR x (setR B f (behR G R) cs.tail).1 - (upV r x + 2 * rankR x R)) * B ≤ 2 * (2 * wtR (setR B f (behR G R) cs.tail).1 + 2 * potR (setR B f (behR G R) cs.tail).1) - 2 * (2 * wtR R + 2 * potR R) ∧ (upV r x + 2 * rankR x R - (upV (stayL (B / 2) r) x + 2 * rankR x (setR B f (behR G R) cs.tail).1)) * B ≤ 2 * (2 * wtR (setR B f (behR G R) cs.tail).1 + 2 * potR (setR B f (behR G R) cs.tail).1) - 2 * (2 * wtR R + 2 * potR R)
      rw [hw]
      generalize rankR x (setR B f (behR G R) cs.tail).1 = a at *
      generalize rankR x R = b at *
      generalize upV (stayL (B / 2) r) x = s at *
      generalize upV (restL (B / 2) r) x = t at *
      generalize upV G x = g at *
      have hB : 0 ≤ B := by omega
      have m1 : (2 * g - t) * B ≤ B := by have := Int.mul_le_mul_of_nonneg_right hu.1 hB; omega
      have m2 : (t - 2 * g) * B ≤ B := by have := Int.mul_le_mul_of_nonneg_right (show t - 2 * g ≤ 1 by omega) hB; omega
      have e1 : (s + 2 * a - (upV r x + 2 * b)) * B = 2 * ((a - (g + b)) * B) + (2 * g - t) * B := by rw [← Int.mul_assoc, ← Int.add_mul]; congr 1; omega
      have e2 : (upV r x + 2 * b - (s + 2 * a)) * B = 2 * ((g + b - a) * B) + (t - 2 * g) * B := by rw [← Int.mul_assoc, ← Int.add_mul]; congr 1; omega
      rw [e1, e2]
      omega
end Go.Proofs.Ytbdfmnlfdhhnjaa

/-
  Plain mathematics of stage 21: towers settled: short rows, coins counted by lengths, fair, exact below, never far off: no program in sight.
-/
namespace Go.Proofs.Ytbdfmnlfdhhnjaa
set_option linter.unusedVariables false
set_option linter.unusedSimpArgs false

theorem goR_mem {B : Int} {c : Bool} {r : List Int} {x : Int} (h : x ∈ goR B c r) : x ∈ r := by
  unfold goR restL at h
  have h1 := List.mem_of_mem_drop (halv_mem h)
  exact (sortI_perm r).mem_iff.1 h1
theorem stay_mem {keep : Int} {r : List Int} {x : Int} (h : x ∈ stayL keep r) : x ∈ r := by
  unfold stayL at h
  exact (sortI_perm r).mem_iff.1 (List.mem_of_mem_take h)
theorem set_lt {B : Int} {f : Nat} {r : List Int} {R : List (List Int)} {cs : List Bool} (c : (r.length : Int) < B) : setR B (f + 1) (r :: R) cs = (r :: (setR B f R cs).1, (setR B f R cs).2) := if_pos c
theorem set_ge {B : Int} {f : Nat} {r : List Int} {R : List (List Int)} {cs : List Bool} (c : ¬ (r.length : Int) < B) : setR B (f + 1) (r :: R) cs = (stayL (B / 2) r :: (setR B f (behR (goR B (cs.headD false) r) R) cs.tail).1, (setR B f (behR (goR B (cs.headD false) r) R) cs.tail).2) := if_neg c
theorem cnt_lt {B : Int} {f n : Nat} {N : List Nat} (c : (n : Int) < B) : cntR B (f + 1) (n :: N) = cntR B f N := if_pos c
theorem cnt_ge {B : Int} {f n : Nat} {N : List Nat} (c : ¬ (n : Int) < B) : cntR B (f + 1) (n :: N) = 1 + cntR B f (addH ((n - keepN (B / 2) n) / 2) N) := if_neg c
/-! ### Lengths -/
theorem goR_half {B : Int} {r : List Int} (c : Bool) : (goR B c r).length = (r.length - keepN (B / 2) r.length) / 2 := by
  unfold goR
  rw [halv_len, (stay_len (B / 2) r).2]
  have := (keepN_le (B / 2) r.length).2.1
  cases c <;> simp <;> omega
theorem beh_len (V : List Int) (R : List (List Int)) : lenR (behR V R) = addH V.length (lenR R) := by
  cases R with
  | nil => rfl
  | cons r t => show (r ++ V).length :: lenR t = (r.length + V.length) :: lenR t; rw [List.length_append]
/-- The lengths behind don't hang on the coins. -/
theorem set_shape {B : Int} : ∀ (f : Nat) (R : List (List Int)) (cs : List Bool), lenR (setR B f R cs).1 = shpR B f (lenR R)
  | 0, R, cs => rfl
  | f + 1, [], cs => rfl
  | f + 1, r :: R, cs => by
    unfold setR
    show _ = shpR B (f + 1) (r.length :: lenR R)
    unfold shpR
    by_cases c : (r.length : Int) < B
    · rw [if_pos c, if_pos c]
      show r.length :: lenR (setR B f R cs).1 = _
      rw [set_shape f R cs]
    · rw [if_neg c, if_neg c]
      show (stayL (B / 2) r).length :: lenR (setR B f (behR (goR B (cs.headD false) r) R) cs.tail).1 = _
      rw [set_shape f _ cs.tail, beh_len, goR_half, (stay_len (B / 2) r).1]
/-- All coins but the first few are left. -/
theorem set_left {B : Int} : ∀ (f : Nat) (R : List (List Int)) (cs : List Bool), (setR B f R cs).2 = cs.drop (cntR B f (lenR R))
  | 0, R, cs => rfl
  | f + 1, [], cs => rfl
  | f + 1, r :: R, cs => by
    unfold setR
    show _ = cs.drop (cntR B (f + 1) (r.length :: lenR R))
    unfold cntR
    by_cases c : (r.length : Int) < B
    · rw [if_pos c, if_pos c]
      exact set_left f R cs
    · rw [if_neg c, if_neg c]
      show (setR B f (behR (goR B (cs.headD false) r) R) cs.tail).2 = _
      rw [set_left f _ cs.tail, beh_len, goR_half, Nat.add_comm 1]
      cases cs with
      | nil => rw [List.tail_nil, List.drop_nil, List.drop_nil]
      | cons b cs => rfl
/-- Only these coins tell. -/
theorem set_app {B : Int} : ∀ (f : Nat) (R : List (List Int)) (cs ds : List Bool), cs.length = cntR B f (lenR R) → setR B f R (cs ++ ds) = ((setR B f R cs).1, ds)
  | 0, R, cs, ds, h => by
    have : cs = [] := List.eq_nil_of_length_eq_zero h
    subst this; rfl
  | f + 1, [], cs, ds, h => by
    have : cs = [] := List.eq_nil_of_length_eq_zero h
    subst this; rfl
  | f + 1, r :: R, cs, ds, h => by
    replace h : cs.length = cntR B (f + 1) (r.length :: lenR R) := h
    unfold cntR at h
    unfold setR
    by_cases c : (r.length : Int) < B
    · rw [if_pos c] at h
      rw [if_pos c, if_pos c, set_app f R cs ds h]
    · rw [if_neg c] at h
      rw [if_neg c, if_neg c]
      cases cs with
      | nil => exact absurd h (by rw [List.length_nil]; omega)
      | cons b cs =>
        have h' : cs.length = cntR B f (lenR (behR (goR B b r) R)) := by
          rw [beh_len, goR_half]
          simp only [List.length_cons] at h
          omega
        show (stayL (B / 2) r :: (setR B f (behR (goR B b r) R) (cs ++ ds)).1, (setR B f (behR (goR B b r) R) (cs ++ ds)).2) = (stayL (B / 2) r :: (setR B f (behR (goR B b r) R) cs).1, ds)
        rw [set_app f _ cs ds h']
/-- Settled: short rows, when there is fuel enough. -/
theorem set_short {B : Int} (h4 : B % 4 = 0) (h0 : 4 ≤ B) : ∀ (f : Nat) (R : List (List Int)) (cs : List Bool), R.length + sizR R ≤ f → (∀ r, r ∈ (setR B f R cs).1 → (r.length : Int) < B)
  | 0, R, cs, h => by
    have : R = [] := List.eq_nil_of_length_eq_zero (by omega)
    subst this
    intro r hr; cases hr
  | f + 1, [], cs, h => by intro r hr; cases hr
  | f + 1, r :: R, cs, h => by
    rw [List.length_cons, sizR_cons] at h
    unfold setR
    by_cases c : (r.length : Int) < B
    · rw [if_pos c]
      intro q hq
      rcases List.mem_cons.1 hq with rfl | hq
      · exact c
      · exact set_short h4 h0 f R cs (by omega) q hq
    · rw [if_neg c]
      obtain ⟨g1, g2, g3⟩ := goR_len (r := r) (cs.headD false) h4 h0 (by omega)
      obtain ⟨b1, b2⟩ := behR_siz (goR B (cs.headD false) r) R
      intro q hq
      rcases List.mem_cons.1 hq with rfl | hq
      · have hk := (keepN_le (B / 2) r.length).2.2.2
        rw [(stay_len (B / 2) r).1]
        have : min (B / 2).toNat r.length ≤ (B / 2).toNat := Nat.min_le_left _ _
        omega
      · refine set_short h4 h0 f _ cs.tail ?_ q hq
        rw [b1, b2]
        by_cases e : R.length = 0 <;> omega
/-- More fuel: the same. -/
theorem set_fuel {B : Int} (h4 : B % 4 = 0) (h0 : 4 ≤ B) : ∀ (f g : Nat) (R : List (List Int)) (cs : List Bool), R.length + sizR R ≤ f → f ≤ g → setR B g R cs = setR B f R cs
  | 0, g, R, cs, h, _ => by
    have : R = [] := List.eq_nil_of_length_eq_zero (by omega)
    subst this
    cases g <;> rfl
  | f + 1, 0, R, cs, h, h2 => by omega
  | f + 1, g + 1, [], cs, h, h2 => rfl
  | f + 1, g + 1, r :: R, cs, h, h2 => by
    rw [List.length_cons, sizR_cons] at h
    unfold setR
    by_cases c : (r.length : Int) < B
    · rw [if_pos c, if_pos c, set_fuel h4 h0 f g R cs (by omega) (by omega)]
    · rw [if_neg c, if_neg c]
      obtain ⟨g1, g2, g3⟩ := goR_len (r := r) (cs.headD false) h4 h0 (by omega)
      obtain ⟨b1, b2⟩ := behR_siz (goR B (cs.headD false) r) R
      rw [set_fuel h4 h0 f g _ cs.tail (by rw [b1, b2]; by_cases e : R.length = 0 <;> omega) (by omega)]
/-! ### All ways in which the coins fall -/
def waysB : Nat → List (List Bool)
  | 0 => [[]]
  | n + 1 => (waysB n).map (false :: ·) ++ (waysB n).map (true :: ·)
def sumZ (L : List Int) : Int := L.foldr (· + ·) 0
theorem sumZ_cons (a : Int) (L : List Int) : sumZ (a :: L) = a + sumZ L := rfl
theorem sumZ_app (L M : List Int) : sumZ (L ++ M) = sumZ L + sumZ M := by
  induction L with
  | nil => show sumZ M = 0 + sumZ M; omega
  | cons a r ih => rw [List.cons_append, sumZ_cons, sumZ_cons, ih]; omega
theorem sumZ_add {α : Type} (f g : α → Int) : ∀ (L : List α), sumZ (L.map fun a => f a + g a) = sumZ (L.map f) + sumZ (L.map g)
  | [] => rfl
  | a :: r => by rw [List.map_cons, List.map_cons, List.map_cons, sumZ_cons, sumZ_cons, sumZ_cons, sumZ_add f g r]; omega
theorem sumZ_mul {α : Type} (k : Int) (f : α → Int) : ∀ (L : List α), sumZ (L.map fun a => k * f a) = k * sumZ (L.map f)
  | [] => by show (0 : Int) = k * 0; rw [Int.mul_zero]
  | a :: r => by rw [List.map_cons, List.map_cons, sumZ_cons, sumZ_cons, sumZ_mul k f r, Int.mul_add]
theorem sumZ_const {α : Type} (k : Int) : ∀ (L : List α), sumZ (L.map fun _ => k) = L.length * k
  | [] => by show (0 : Int) = 0 * k; rw [Int.zero_mul]
  | a :: r => by rw [List.map_cons, sumZ_cons, sumZ_const k r, List.length_cons, Int.natCast_add, Int.add_mul]; show k + _ = _ + 1 * k; omega
theorem ways_len : ∀ n, (waysB n).length = 2 ^ n
  | 0 => rfl
  | n + 1 => by unfold waysB; rw [List.length_append, List.length_map, List.length_map, ways_len n, Nat.pow_succ]; omega
theorem ways_mem : ∀ {n : Nat} {cs : List Bool}, cs ∈ waysB n → cs.length = n
  | 0, cs, h => by rw [List.mem_singleton.1 h]; rfl
  | n + 1, cs, h => by
    unfold waysB at h
    rcases List.mem_append.1 h with h | h <;> obtain ⟨d, hd, rfl⟩ := List.mem_map.1 h <;> rw [List.length_cons, ways_mem hd]
/-- A sum over all ways of some coins and then some more. -/
theorem ways_add (F : List Bool → Int) : ∀ (m n : Nat), sumZ ((waysB (m + n)).map F) = sumZ ((waysB m).map fun cs => sumZ ((waysB n).map fun ds => F (cs ++ ds)))
  | 0, n => by
    rw [Nat.zero_add]
    show _ = sumZ ((waysB n).map fun ds => F ([] ++ ds)) + 0
    rw [Int.add_zero]
    rfl
  | m + 1, n => by
    have hw : ∀ k, waysB (k + 1) = (waysB k).map (false :: ·) ++ (waysB k).map (true :: ·) := fun k => rfl
    rw [show m + 1 + n = (m + n) + 1 by omega, hw, hw, List.map_append, List.map_append, sumZ_app, sumZ_app, List.map_map, List.map_map, List.map_map, List.map_map]
    have e1 := ways_add (fun cs => F (false :: cs)) m n
    have e2 := ways_add (fun cs => F (true :: cs)) m n
    show sumZ ((waysB (m + n)).map fun cs => F (false :: cs)) + sumZ ((waysB (m + n)).map fun cs => F (true :: cs)) = _
    rw [e1, e2]
    rfl
theorem sumZ_congr {α : Type} {f g : α → Int} : ∀ {L : List α}, (∀ a, a ∈ L → f a = g a) → sumZ (L.map f) = sumZ (L.map g)
  | [], _ => rfl
  | a :: r, h => by
    rw [List.map_cons, List.map_cons, sumZ_cons, sumZ_cons, h a List.mem_cons_self, sumZ_congr (L := r) fun b hb => h b (List.mem_cons_of_mem _ hb)]
theorem two_out (K a s : Int) : K * a + 2 * (K * s) = K * (a + 2 * s) := by rw [Int.mul_add, Int.mul_left_comm]
/-- Over all ways, a rank of what is settled is nothing too much and nothing too little. -/
theorem set_fair {B : Int} (x : Int) : ∀ (f : Nat) (R : List (List Int)), sumZ ((waysB (cntR B f (lenR R))).map fun cs => rankR x (setR B f R cs).1) = ((2 ^ cntR B f (lenR R) : Nat) : Int) * rankR x R
  | 0, R => by
    show rankR x R + 0 = ((1 : Nat) : Int) * rankR x R
    rw [Int.add_zero]; exact (Int.one_mul _).symm
  | f + 1, [] => by
    show rankR x [] + 0 = ((1 : Nat) : Int) * rankR x []
    rw [Int.add_zero]; exact (Int.one_mul _).symm
  | f + 1, r :: R => by
    show sumZ ((waysB (cntR B (f + 1) (r.length :: lenR R))).map fun cs => rankR x (setR B (f + 1) (r :: R) cs).1) = ((2 ^ cntR B (f + 1) (r.length :: lenR R) : Nat) : Int) * rankR x (r :: R)
    by_cases c : (r.length : Int) < B
    · have e1 : cntR B (f + 1) (r.length :: lenR R) = cntR B f (lenR R) := cnt_lt c
      rw [e1]
      have e2 : ∀ cs, rankR x (setR B (f + 1) (r :: R) cs).1 = upV r x + 2 * rankR x (setR B f R cs).1 := fun cs => by rw [set_lt c]; rfl
      simp only [e2]
      rw [sumZ_add, sumZ_const, sumZ_mul, set_fair x f R, ways_len]
      exact two_out _ _ _
    · have hn : ∀ b, cntR B f (lenR (behR (goR B b r) R)) = cntR B f (lenR (behR (goR B false r) R)) := fun b => by rw [beh_len, beh_len, goR_half, goR_half]
      obtain ⟨n, hnn⟩ : ∃ n, cntR B f (lenR (behR (goR B false r) R)) = n := ⟨_, rfl⟩
      have e1 : cntR B (f + 1) (r.length :: lenR R) = n + 1 := by
        rw [cnt_ge c, ← hnn, beh_len, goR_half, Nat.add_comm]
      rw [e1]
      have e2 : ∀ b cs, rankR x (setR B (f + 1) (r :: R) (b :: cs)).1 = upV (stayL (B / 2) r) x + 2 * rankR x (setR B f (behR (goR B b r) R) cs).1 := fun b cs => by rw [set_ge c]; rfl
      have e3 : ∀ b, sumZ ((waysB n).map fun cs => rankR x (setR B (f + 1) (r :: R) (b :: cs)).1) = ((2 ^ n : Nat) : Int) * (upV (stayL (B / 2) r) x + 2 * (upV (goR B b r) x + rankR x R)) := fun b => by
        simp only [e2]
        rw [sumZ_add, sumZ_const, sumZ_mul, ways_len]
        have ih := set_fair (B := B) x f (behR (goR B b r) R)
        rw [hn b, hnn, rank_beh] at ih
        rw [ih]
        exact two_out _ _ _
      unfold waysB
      rw [List.map_append, sumZ_app, List.map_map, List.map_map]
      show sumZ ((waysB n).map fun cs => rankR x (setR B (f + 1) (r :: R) (false :: cs)).1) + sumZ ((waysB n).map fun cs => rankR x (setR B (f + 1) (r :: R) (true :: cs)).1) = _
      rw [e3, e3, ← Int.mul_add]
      have hb := halv_both x (restL (B / 2) r)
      have hs := split_up (B / 2) r x
      show ((2 ^ n : Nat) : Int) * (upV (stayL (B / 2) r) x + 2 * (upV (halvB false (restL (B / 2) r)) x + rankR x R) + (upV (stayL (B / 2) r) x + 2 * (upV (halvB true (restL (B / 2) r)) x + rankR x R))) = ((2 ^ (n + 1) : Nat) : Int) * (upV r x + 2 * rankR x R)
      have e4 : upV (stayL (B / 2) r) x + 2 * (upV (halvB false (restL (B / 2) r)) x + rankR x R) + (upV (stayL (B / 2) r) x + 2 * (upV (halvB true (restL (B / 2) r)) x + rankR x R)) = 2 * (upV r x + 2 * rankR x R) := by omega
      rw [e4, Nat.pow_succ, Int.natCast_mul, Int.mul_assoc]
      rfl
/-! ### Exact below -/
/-- No value up to x in any row. -/
def noneR (x : Int) (R : List (List Int)) : Prop := ∀ r, r ∈ R → upV r x = 0
theorem up0_sub {x : Int} {L M : List Int} (h : upV L x = 0) (hs : ∀ y, y ∈ M → y ∈ L) : upV M x = 0 := by
  have hL : ∀ y, y ∈ L → ¬ y ≤ x := by
    intro y hy c
    unfold upV at h
    have h' : (L.filter fun y => decide (y ≤ x)).length = 0 := by omega
    have := List.eq_nil_of_length_eq_zero h'
    have hm : y ∈ L.filter fun y => decide (y ≤ x) := List.mem_filter.2 ⟨hy, decide_eq_true c⟩
    rw [this] at hm
    cases hm
  unfold upV
  rw [List.filter_eq_nil_iff.2 fun y hy => by have := hL y (hs y hy); simpa using this]
  rfl
theorem none_beh {x : Int} {V : List Int} {R : List (List Int)} (h : noneR x R) (hV : upV V x = 0) : noneR x (behR V R) := by
  cases R with
  | nil => intro r hr; rw [List.mem_singleton.1 hr]; exact hV
  | cons q t =>
    intro r hr
    rcases List.mem_cons.1 hr with rfl | hr
    · rw [upV_app, h q List.mem_cons_self, hV]; rfl
    · exact h r (List.mem_cons_of_mem _ hr)
theorem set_none {B x : Int} : ∀ (f : Nat) (R : List (List Int)) (cs : List Bool), noneR x R → noneR x (setR B f R cs).1
  | 0, R, cs, h => h
  | f + 1, [], cs, h => h
  | f + 1, r :: R, cs, h => by
    have hr := h r List.mem_cons_self
    have hR : noneR x R := fun q hq => h q (List.mem_cons_of_mem _ hq)
    unfold setR
    by_cases c : (r.length : Int) < B
    · rw [if_pos c]
      intro q hq
      rcases List.mem_cons.1 hq with rfl | hq
      · exact hr
      · exact set_none f R cs hR q hq
    · rw [if_neg c]
      intro q hq
      rcases List.mem_cons.1 hq with rfl | hq
      · exact up0_sub hr fun y hy => stay_mem hy
      · exact set_none f _ cs.tail (none_beh hR (up0_sub hr fun y hy => goR_mem hy)) q hq
theorem rank_none {x : Int} : ∀ {R : List (List Int)}, noneR x R → rankR x R = 0
  | [], _ => rfl
  | r :: R, h => by
    show upV r x + 2 * rankR x R = 0
    rw [h r List.mem_cons_self, rank_none (R := R) fun q hq => h q (List.mem_cons_of_mem _ hq)]
    rfl
/-- What goes holds no value up to x, if few do. -/
theorem rest_none {B x : Int} {r : List Int} (h4 : B % 4 = 0) (h0 : 4 ≤ B) (hn : B ≤ r.length) (hu : upV r x ≤ B / 2) : upV (restL (B / 2) r) x = 0 := by
  obtain ⟨k1, k2, k3, k4⟩ := keepB h4 h0 hn
  have hs := split_up (B / 2) r x
  have hb := upV_bd (restL (B / 2) r) x
  by_cases e : upV (restL (B / 2) r) x = 0
  · exact e
  exfalso
  -- one of the rest isn't greater: none that stays is
  have : ∃ y, y ∈ restL (B / 2) r ∧ y ≤ x := by
    by_cases c : ∃ y, y ∈ restL (B / 2) r ∧ y ≤ x
    · exact c
    · exfalso
      apply e
      unfold upV
      rw [List.filter_eq_nil_iff.2 fun y hy => by
        have : ¬ y ≤ x := fun h => c ⟨y, hy, h⟩
        simpa using this]
      rfl
  obtain ⟨y, hy, hyx⟩ := this
  have hall : upV (stayL (B / 2) r) x = (stayL (B / 2) r).length := by
    unfold upV
    rw [List.filter_eq_self.2 fun z hz => by
      have := stay_le (keep := B / 2) (L := r) z hz y hy
      exact decide_eq_true (by omega)]
  rw [(stay_len (B / 2) r).1] at hall
  omega
/-- The lowest row tells all that isn't above x, and it goes on to. -/
def lowR (B x n : Int) : List (List Int) → Prop
  | [] => False
  | r :: R => upV r x = n ∧ noneR x R
theorem set_low {B x n : Int} (h4 : B % 4 = 0) (h0 : 4 ≤ B) (hn : n ≤ B / 2) : ∀ (f : Nat) (R : List (List Int)) (cs : List Bool), lowR B x n R → lowR B x n (setR B f R cs).1
  | 0, R, cs, h => h
  | f + 1, [], cs, h => h.elim
  | f + 1, r :: R, cs, h => by
    obtain ⟨h1, h2⟩ := h
    unfold setR
    by_cases c : (r.length : Int) < B
    · rw [if_pos c]
      exact ⟨h1, set_none f R cs h2⟩
    · rw [if_neg c]
      have hr := rest_none (x := x) h4 h0 (show B ≤ r.length by omega) (by omega)
      refine ⟨?_, set_none f _ cs.tail (none_beh h2 (up0_sub hr fun y hy => halv_mem hy))⟩
      have hs := split_up (B / 2) r x
      omega
theorem low_rank {B x n : Int} : ∀ {R : List (List Int)}, lowR B x n R → rankR x R = n
  | [], h => h.elim
  | r :: R, h => by
    show upV r x + 2 * rankR x R = n
    rw [h.1, rank_none h.2]; omega
/-! ### Never far off -/
theorem wt_nonneg : ∀ (R : List (List Int)), 0 ≤ wtR R
  | [] => Int.le_refl _
  | r :: R => by have := wt_nonneg R; show 0 ≤ (r.length : Int) + 2 * wtR R; omega
theorem pot_le : ∀ (R : List (List Int)), 0 ≤ potR R ∧ potR R ≤ wtR R * R.length
  | [] => ⟨Int.le_refl _, by show (0 : Int) ≤ 0 * 0; omega⟩
  | r :: R => by
    obtain ⟨i1, i2⟩ := pot_le R
    have hw := wt_nonneg R
    refine ⟨by show 0 ≤ 2 * wtR R + 2 * potR R; omega, ?_⟩
    show 2 * wtR R + 2 * potR R ≤ ((r.length : Int) + 2 * wtR R) * ((R.length + 1 : Nat) : Int)
    have e1 : ((R.length + 1 : Nat) : Int) = (R.length : Int) + 1 := by omega
    rw [e1, Int.add_mul, Int.mul_add, Int.mul_add, Int.mul_assoc]
    have p1 : 0 ≤ (r.length : Int) * R.length := Int.mul_nonneg (by omega) (by omega)
    omega
end Go.Proofs.Ytbdfmnlfdhhnjaa

/-
  Plain mathematics of stage 21: towers that values are put into and that are joined: no program in sight.
-/
namespace Go.Proofs.Ytbdfmnlfdhhnjaa
set_option linter.unusedVariables false
set_option linter.unusedSimpArgs false

/-! ### Coins told by a function -/
def strB (c : Nat → Bool) : Nat → Nat → List Bool
  | _, 0 => []
  | u, n + 1 => c u :: strB c (u + 1) n
theorem strB_len (c : Nat → Bool) : ∀ (n u : Nat), (strB c u n).length = n
  | 0, u => rfl
  | n + 1, u => by show (strB c (u + 1) n).length + 1 = n + 1; rw [strB_len c n]
theorem strB_app (c : Nat → Bool) : ∀ (m u n : Nat), strB c u (m + n) = strB c u m ++ strB c (u + m) n
  | 0, u, n => by rw [Nat.zero_add, Nat.add_zero]; rfl
  | m + 1, u, n => by
    rw [show m + 1 + n = (m + n) + 1 by omega]
    show c u :: strB c (u + 1) (m + n) = c u :: (strB c (u + 1) m ++ strB c (u + (m + 1)) n)
    rw [strB_app c m (u + 1) n, show u + 1 + m = u + (m + 1) by omega]
/-- Settled, with the coins from the u-th one on; how many were used then. -/
def setF (B : Int) (c : Nat → Bool) : Nat → List (List Int) → Nat → List (List Int) × Nat
  | 0, R, u => (R, u)
  | _ + 1, [], u => ([], u)
  | f + 1, r :: R, u =>
    if (r.length : Int) < B then (r :: (setF B c f R u).1, (setF B c f R u).2)
    else (stayL (B / 2) r :: (setF B c f (behR (goR B (c u) r) R) (u + 1)).1, (setF B c f (behR (goR B (c u) r) R) (u + 1)).2)
theorem setF_is {B : Int} {c : Nat → Bool} : ∀ (f : Nat) (R : List (List Int)) (u n : Nat), cntR B f (lenR R) ≤ n → setF B c f R u = ((setR B f R (strB c u n)).1, u + cntR B f (lenR R))
  | 0, R, u, n, h => rfl
  | f + 1, [], u, n, h => rfl
  | f + 1, r :: R, u, n, h => by
    replace h : cntR B (f + 1) (r.length :: lenR R) ≤ n := h
    show _ = (_, u + cntR B (f + 1) (r.length :: lenR R))
    by_cases k : (r.length : Int) < B
    · rw [cnt_lt k] at h ⊢
      rw [set_lt k]
      show (if (r.length : Int) < B then _ else _) = _
      rw [if_pos k, setF_is f R u n h]
    · rw [cnt_ge k] at h ⊢
      cases n with
      | zero => omega
      | succ n =>
        have hb : cntR B f (lenR (behR (goR B (c u) r) R)) = cntR B f (addH ((r.length - keepN (B / 2) r.length) / 2) (lenR R)) := by rw [beh_len, goR_half]
        rw [set_ge k]
        show (if (r.length : Int) < B then _ else _) = _
        rw [if_neg k, setF_is f (behR (goR B (c u) r) R) (u + 1) n (by omega), hb]
        show (_, u + 1 + _) = (_, u + (1 + _))
        rw [Nat.add_assoc]
        rfl
def fuelR (R : List (List Int)) : Nat := R.length + sizR R
/-- A tower: rows, and how many coins were used. -/
abbrev Tow := List (List Int) × Nat
def towS (B : Int) (c : Nat → Bool) (t : Tow) : Tow := setF B c (fuelR t.1) t.1 t.2
def putT (B : Int) (c : Nat → Bool) (t : Tow) (x : Int) : Tow := towS B c (behR [x] t.1, t.2)
def addR : List (List Int) → List (List Int) → List (List Int)
  | [], S => S
  | r :: R, [] => r :: R
  | r :: R, s :: S => (r ++ s) :: addR R S
def joinT (B : Int) (c : Nat → Bool) (t o : Tow) : Tow := towS B c (addR t.1 o.1, t.2)
def playT (B : Int) (c : Nat → Bool) (t : Tow) (V : List Int) : Tow := V.foldl (putT B c) t
def newT : Tow := ([[]], 0)

/-! ### Joined rows -/
theorem rank_addR (x : Int) : ∀ (R S : List (List Int)), rankR x (addR R S) = rankR x R + rankR x S
  | [], S => by show rankR x S = 0 + rankR x S; omega
  | r :: R, [] => by show rankR x (r :: R) = rankR x (r :: R) + 0; omega
  | r :: R, s :: S => by
    show upV (r ++ s) x + 2 * rankR x (addR R S) = upV r x + 2 * rankR x R + (upV s x + 2 * rankR x S)
    rw [rank_addR x R S, upV_app]; omega
theorem wt_addR : ∀ (R S : List (List Int)), wtR (addR R S) = wtR R + wtR S
  | [], S => by show wtR S = 0 + wtR S; omega
  | r :: R, [] => by show wtR (r :: R) = wtR (r :: R) + 0; omega
  | r :: R, s :: S => by
    show ((r ++ s).length : Int) + 2 * wtR (addR R S) = (r.length : Int) + 2 * wtR R + (s.length + 2 * wtR S)
    rw [wt_addR R S, List.length_append]; omega
theorem pot_addR : ∀ (R S : List (List Int)), potR (addR R S) = potR R + potR S
  | [], S => by show potR S = 0 + potR S; omega
  | r :: R, [] => by show potR (r :: R) = potR (r :: R) + 0; omega
  | r :: R, s :: S => by
    show 2 * wtR (addR R S) + 2 * potR (addR R S) = 2 * wtR R + 2 * potR R + (2 * wtR S + 2 * potR S)
    rw [pot_addR R S, wt_addR]; omega
theorem none_addR {x : Int} : ∀ {R S : List (List Int)}, noneR x R → noneR x S → noneR x (addR R S)
  | [], S, h, k => k
  | r :: R, [], h, k => h
  | r :: R, s :: S, h, k => by
    intro q hq
    rcases List.mem_cons.1 hq with rfl | hq
    · rw [upV_app, h r List.mem_cons_self, k s List.mem_cons_self]; rfl
    · exact none_addR (R := R) (S := S) (fun q hq => h q (List.mem_cons_of_mem _ hq)) (fun q hq => k q (List.mem_cons_of_mem _ hq)) q hq
theorem low_addR {B x n m : Int} : ∀ {R S : List (List Int)}, lowR B x n R → lowR B x m S → lowR B x (n + m) (addR R S)
  | [], S, h, k => h.elim
  | r :: R, [], h, k => k.elim
  | r :: R, s :: S, h, k => ⟨by rw [upV_app, h.1, k.1], none_addR h.2 k.2⟩
theorem mem_addR {x : Int} : ∀ {R S : List (List Int)} {q : List Int}, q ∈ addR R S → x ∈ q → (∃ r, r ∈ R ∧ x ∈ r) ∨ ∃ s, s ∈ S ∧ x ∈ s
  | [], S, q, h, hx => Or.inr ⟨q, h, hx⟩
  | r :: R, [], q, h, hx => Or.inl ⟨q, h, hx⟩
  | r :: R, s :: S, q, h, hx => by
    rcases List.mem_cons.1 h with rfl | h
    · rcases List.mem_append.1 hx with h | h
      · exact Or.inl ⟨r, List.mem_cons_self, h⟩
      · exact Or.inr ⟨s, List.mem_cons_self, h⟩
    · rcases mem_addR h hx with ⟨a, ha, hb⟩ | ⟨a, ha, hb⟩
      · exact Or.inl ⟨a, List.mem_cons_of_mem _ ha, hb⟩
      · exact Or.inr ⟨a, List.mem_cons_of_mem _ ha, hb⟩

/-! ### The highest row -/
def okTop (B : Int) : List (List Int) → Prop
  | [] => True
  | [r] => B ≤ 4 * (r.length : Int)
  | _ :: r :: R => okTop B (r :: R)
theorem okTop_cons {B : Int} {r : List Int} {R : List (List Int)} (hR : R ≠ []) : okTop B (r :: R) ↔ okTop B R := by
  cases R with
  | nil => exact absurd rfl hR
  | cons q t => exact Iff.rfl
theorem beh_top {B : Int} {V : List Int} : ∀ {R : List (List Int)}, okTop B R → (R = [] → B ≤ 4 * (V.length : Int)) → okTop B (behR V R)
  | [], _, h => h rfl
  | [r], k, _ => by show B ≤ 4 * ((r ++ V).length : Int); have : B ≤ 4 * (r.length : Int) := k; rw [List.length_append]; omega
  | r :: q :: t, k, _ => k
theorem set_ne {B : Int} : ∀ (f : Nat) (R : List (List Int)) (cs : List Bool), R ≠ [] → (setR B f R cs).1 ≠ []
  | 0, R, cs, h => h
  | f + 1, [], cs, h => absurd rfl h
  | f + 1, r :: R, cs, _ => by
    unfold setR
    split <;> exact List.cons_ne_nil _ _
theorem beh_ne (V : List Int) (R : List (List Int)) : behR V R ≠ [] := by cases R <;> exact List.cons_ne_nil _ _
theorem set_nil {B : Int} : ∀ (f : Nat) (cs : List Bool), (setR B f [] cs).1 = []
  | 0, _ => rfl
  | _ + 1, _ => rfl
theorem set_top {B : Int} (h4 : B % 4 = 0) (h0 : 4 ≤ B) : ∀ (f : Nat) (R : List (List Int)) (cs : List Bool), okTop B R → okTop B (setR B f R cs).1
  | 0, R, cs, h => h
  | f + 1, [], cs, h => h
  | f + 1, r :: R, cs, h => by
    by_cases c : (r.length : Int) < B
    · rw [set_lt c]
      by_cases hR : R = []
      · subst hR
        show okTop B (r :: (setR B f [] cs).1)
        rw [set_nil]; exact h
      · exact (okTop_cons (set_ne f R cs hR)).2 (set_top h4 h0 f R cs ((okTop_cons hR).1 h))
    · rw [set_ge c]
      obtain ⟨g1, g2, g3⟩ := goR_len (r := r) (cs.headD false) h4 h0 (by omega)
      refine (okTop_cons (set_ne f _ cs.tail (beh_ne _ _))).2 (set_top h4 h0 f _ cs.tail (beh_top ?_ fun _ => g1))
      by_cases hR : R = []
      · subst hR; exact trivial
      · exact (okTop_cons hR).1 h
theorem addR_top {B : Int} : ∀ {R S : List (List Int)}, okTop B R → okTop B S → okTop B (addR R S)
  | [], S, h, k => k
  | r :: R, [], h, k => h
  | r :: R, s :: S, h, k => by
    by_cases hR : R = []
    · subst hR
      by_cases hS : S = []
      · subst hS
        have h' : B ≤ 4 * (r.length : Int) := h
        show B ≤ 4 * ((r ++ s).length : Int)
        rw [List.length_append]; omega
      · exact (okTop_cons (by exact hS)).2 ((okTop_cons hS).1 k)
    · have hne : addR R S ≠ [] := by
        cases R with
        | nil => exact absurd rfl hR
        | cons a b => cases S <;> exact List.cons_ne_nil _ _
      refine (okTop_cons hne).2 (addR_top ((okTop_cons hR).1 h) ?_)
      by_cases hS : S = []
      · subst hS; exact trivial
      · exact (okTop_cons hS).1 k
theorem top_wt {B : Int} (h0 : 0 ≤ B) : ∀ {R : List (List Int)}, R ≠ [] → okTop B R → B * ((2 ^ (R.length - 1) : Nat) : Int) ≤ 4 * wtR R
  | [], h, _ => absurd rfl h
  | [r], _, k => by
    have k' : B ≤ 4 * (r.length : Int) := k
    show B * ((1 : Nat) : Int) ≤ 4 * ((r.length : Int) + 2 * 0)
    omega
  | r :: q :: t, _, k => by
    have ih := top_wt h0 (R := q :: t) (List.cons_ne_nil _ _) k
    show B * ((2 ^ (t.length + 1 + 1 - 1) : Nat) : Int) ≤ 4 * ((r.length : Int) + 2 * wtR (q :: t))
    have ih' : B * ((2 ^ (t.length + 1 - 1) : Nat) : Int) ≤ 4 * wtR (q :: t) := ih
    rw [show t.length + 1 + 1 - 1 = (t.length + 1 - 1) + 1 by omega, Nat.pow_succ, Int.natCast_mul, ← Int.mul_assoc]
    omega

/-! ### What a tower keeps -/
structure PreP (B : Int) (V : List Int) (R : List (List Int)) : Prop where
  ne : R ≠ []
  wt : wtR R = V.length
  low : ∀ x, upV V x ≤ B / 2 → lowR B x (upV V x) R
  hi : ∀ x, (rankR x R - upV V x) * B ≤ 2 * potR R
  lo : ∀ x, (upV V x - rankR x R) * B ≤ 2 * potR R
  mem : ∀ r, r ∈ R → ∀ x, x ∈ r → x ∈ V
  top : okTop B R.tail
structure TowP (B : Int) (V : List Int) (R : List (List Int)) : Prop extends PreP B V R where
  short : ∀ r, r ∈ R → (r.length : Int) < B
theorem set_mem {B : Int} : ∀ (f : Nat) (R : List (List Int)) (cs : List Bool) (r : List Int) (x : Int), r ∈ (setR B f R cs).1 → x ∈ r → ∃ q, q ∈ R ∧ x ∈ q
  | 0, R, cs, r, x, h, hx => ⟨r, h, hx⟩
  | f + 1, [], cs, r, x, h, hx => by cases h
  | f + 1, q :: R, cs, r, x, h, hx => by
    by_cases c : (q.length : Int) < B
    · rw [set_lt c] at h
      rcases List.mem_cons.1 h with rfl | h
      · exact ⟨_, List.mem_cons_self, hx⟩
      · obtain ⟨a, ha, hb⟩ := set_mem f R cs r x h hx
        exact ⟨a, List.mem_cons_of_mem _ ha, hb⟩
    · rw [set_ge c] at h
      rcases List.mem_cons.1 h with rfl | h
      · exact ⟨q, List.mem_cons_self, stay_mem hx⟩
      · obtain ⟨a, ha, hb⟩ := set_mem f _ cs.tail r x h hx
        cases R with
        | nil =>
          rw [List.mem_singleton.1 ha] at hb
          exact ⟨q, List.mem_cons_self, goR_mem hb⟩
        | cons s t =>
          rcases List.mem_cons.1 ha with rfl | ha
          · rcases List.mem_append.1 hb with hb | hb
            · exact ⟨s, List.mem_cons_of_mem _ List.mem_cons_self, hb⟩
            · exact ⟨q, List.mem_cons_self, goR_mem hb⟩
          · exact ⟨a, List.mem_cons_of_mem _ (List.mem_cons_of_mem _ ha), hb⟩
theorem set_tail_top {B : Int} (h4 : B % 4 = 0) (h0 : 4 ≤ B) (f : Nat) (R : List (List Int)) (cs : List Bool) (h : okTop B R.tail) : okTop B (setR B f R cs).1.tail := by
  cases f with
  | zero => exact h
  | succ f =>
    cases R with
    | nil => exact h
    | cons r R =>
      by_cases c : (r.length : Int) < B
      · rw [set_lt c]
        exact set_top h4 h0 f R cs h
      · rw [set_ge c]
        obtain ⟨g1, g2, g3⟩ := goR_len (r := r) (cs.headD false) h4 h0 (by omega)
        exact set_top h4 h0 f _ cs.tail (beh_top h fun _ => g1)
theorem PreP.settle {B : Int} {V : List Int} {R : List (List Int)} (h : PreP B V R) (h4 : B % 4 = 0) (h0 : 4 ≤ B) (c : Nat → Bool) (u : Nat) : TowP B V (towS B c (R, u)).1 := by
  unfold towS
  rw [setF_is (fuelR R) R u (cntR B (fuelR R) (lenR R)) (Nat.le_refl _)]
  show TowP B V (setR B (fuelR R) R (strB c u (cntR B (fuelR R) (lenR R)))).1
  generalize strB c u (cntR B (fuelR R) (lenR R)) = cs
  have hp := fun x => set_pot h4 h0 x (fuelR R) R cs
  refine { ne := set_ne _ _ _ h.ne, wt := by rw [set_wt h4 h0]; exact h.wt, low := fun x hx => set_low h4 h0 hx _ _ _ (h.low x hx), hi := fun x => ?_, lo := fun x => ?_, mem := fun r hr x hx => ?_, top := set_tail_top h4 h0 _ _ _ h.top, short := set_short h4 h0 _ _ _ (Nat.le_refl _) }
  · have h1 := (hp x).1
    have h2 := h.hi x
    rw [show rankR x (setR B (fuelR R) R cs).1 - upV V x = (rankR x (setR B (fuelR R) R cs).1 - rankR x R) + (rankR x R - upV V x) by omega, Int.add_mul]
    omega
  · have h1 := (hp x).2
    have h2 := h.lo x
    rw [show upV V x - rankR x (setR B (fuelR R) R cs).1 = (rankR x R - rankR x (setR B (fuelR R) R cs).1) + (upV V x - rankR x R) by omega, Int.add_mul]
    omega
  · obtain ⟨q, hq, hx2⟩ := set_mem _ _ _ r x hr hx
    exact h.mem q hq x hx2
theorem TowP.behind {B : Int} {V : List Int} {R : List (List Int)} (h : TowP B V R) (x : Int) : PreP B (V ++ [x]) (behR [x] R) := by
  refine { ne := beh_ne _ _, wt := by rw [wt_beh, h.wt, List.length_append]; show (1 : Int) + _ = _; simp; omega, low := fun y hy => ?_, hi := fun y => ?_, lo := fun y => ?_, mem := fun r hr y hy => ?_, top := ?_ }
  · rw [upV_app] at hy ⊢
    have hb := upV_bd [x] y
    have hl := h.low y (by omega)
    have ha : lowR B y (upV [x] y) [[x]] := ⟨rfl, fun r hr => by cases hr⟩
    cases R with
    | nil => exact absurd rfl h.ne
    | cons r t => exact ⟨by rw [upV_app, hl.1], hl.2⟩
  · rw [upV_app, rank_beh, pot_beh, show upV [x] y + rankR y R - (upV V y + upV [x] y) = rankR y R - upV V y by omega]
    exact h.hi y
  · rw [upV_app, rank_beh, pot_beh, show upV V y + upV [x] y - (upV [x] y + rankR y R) = upV V y - rankR y R by omega]
    exact h.lo y
  · cases R with
    | nil => exact absurd rfl h.ne
    | cons q t =>
      rcases List.mem_cons.1 hr with rfl | hr
      · rcases List.mem_append.1 hy with hy | hy
        · exact List.mem_append_left _ (h.mem q List.mem_cons_self y hy)
        · exact List.mem_append_right _ hy
      · exact List.mem_append_left _ (h.mem r (List.mem_cons_of_mem _ hr) y hy)
  · cases R with
    | nil => exact absurd rfl h.ne
    | cons q t => exact h.top
theorem TowP.add {B : Int} {V V' : List Int} {R R' : List (List Int)} (h : TowP B V R) (k : TowP B V' R') : PreP B (V ++ V') (addR R R') := by
  refine { ne := ?_, wt := by rw [wt_addR, h.wt, k.wt, List.length_append]; omega, low := fun y hy => ?_, hi := fun y => ?_, lo := fun y => ?_, mem := fun r hr y hy => ?_, top := ?_ }
  · cases R with
    | nil => exact absurd rfl h.ne
    | cons q t => cases R' <;> exact List.cons_ne_nil _ _
  · rw [upV_app] at hy ⊢
    have b1 := upV_bd V y
    have b2 := upV_bd V' y
    exact low_addR (h.low y (by omega)) (k.low y (by omega))
  · rw [upV_app, rank_addR, pot_addR, show rankR y R + rankR y R' - (upV V y + upV V' y) = (rankR y R - upV V y) + (rankR y R' - upV V' y) by omega, Int.add_mul]
    have h1 := h.hi y
    have h2 := k.hi y
    omega
  · rw [upV_app, rank_addR, pot_addR, show upV V y + upV V' y - (rankR y R + rankR y R') = (upV V y - rankR y R) + (upV V' y - rankR y R') by omega, Int.add_mul]
    have h1 := h.lo y
    have h2 := k.lo y
    omega
  · rcases mem_addR hr hy with ⟨a, ha, hb⟩ | ⟨a, ha, hb⟩
    · exact List.mem_append_left _ (h.mem a ha y hb)
    · exact List.mem_append_right _ (k.mem a ha y hb)
  · cases R with
    | nil => exact absurd rfl h.ne
    | cons q t =>
      cases R' with
      | nil => exact absurd rfl k.ne
      | cons q' t' => exact addR_top h.top k.top
theorem tow_new {B : Int} (h0 : 4 ≤ B) : TowP B [] newT.1 :=
  { ne := List.cons_ne_nil _ _, wt := rfl, low := fun x _ => ⟨rfl, fun r hr => by cases hr⟩,
    hi := fun x => by show ((0 : Int) + 2 * 0 - 0) * B ≤ 2 * (2 * 0 + 2 * 0); simp, lo := fun x => by show ((0 : Int) - (0 + 2 * 0)) * B ≤ 2 * (2 * 0 + 2 * 0); simp,
    mem := fun r hr x hx => (by rw [List.mem_singleton.1 hr] at hx; cases hx), top := trivial, short := fun r hr => by rw [List.mem_singleton.1 hr]; show (0 : Int) < B; omega }
theorem TowP.put {B : Int} {V : List Int} {t : Tow} (h : TowP B V t.1) (h4 : B % 4 = 0) (h0 : 4 ≤ B) (c : Nat → Bool) (x : Int) : TowP B (V ++ [x]) (putT B c t x).1 :=
  (h.behind x).settle h4 h0 c t.2
theorem TowP.join {B : Int} {V V' : List Int} {t o : Tow} (h : TowP B V t.1) (k : TowP B V' o.1) (h4 : B % 4 = 0) (h0 : 4 ≤ B) (c : Nat → Bool) : TowP B (V ++ V') (joinT B c t o).1 :=
  (h.add k).settle h4 h0 c t.2
theorem TowP.play {B : Int} (h4 : B % 4 = 0) (h0 : 4 ≤ B) (c : Nat → Bool) : ∀ (W : List Int) {V : List Int} {t : Tow}, TowP B V t.1 → TowP B (V ++ W) (playT B c t W).1
  | [], V, t, h => by rw [List.append_nil]; exact h
  | x :: W, V, t, h => by
    have := TowP.play h4 h0 c W (h.put h4 h0 c x)
    rw [List.append_assoc] at this
    exact this
/-- Ranks are never far off. -/
theorem TowP.near {B : Int} {V : List Int} {R : List (List Int)} (h : TowP B V R) (x : Int) : (rankR x R - upV V x) * B ≤ 2 * V.length * R.length ∧ (upV V x - rankR x R) * B ≤ 2 * V.length * R.length := by
  have h1 := h.hi x
  have h2 := h.lo x
  have h3 := (pot_le R).2
  rw [h.wt] at h3
  rw [Int.mul_assoc]
  omega
/-- .. and exact below. -/
theorem TowP.exact {B : Int} {V : List Int} {R : List (List Int)} (h : TowP B V R) (x : Int) (hx : upV V x ≤ B / 2) : rankR x R = upV V x := low_rank (h.low x hx)
/-- A tower's rows are few. -/
theorem TowP.few {B : Int} {V : List Int} {R : List (List Int)} (h : TowP B V R) (h0 : 4 ≤ B) (hn : (V.length : Int) ≤ B * 1024) : R.length ≤ 13 := by
  have hw := h.wt
  cases R with
  | nil => exact absurd rfl h.ne
  | cons r R =>
    by_cases hR : R = []
    · subst hR; show 1 ≤ 13; decide
    have ht : B * ((2 ^ (R.length - 1) : Nat) : Int) ≤ 4 * wtR R := top_wt (by omega) hR h.top
    have hw' : (r.length : Int) + 2 * wtR R = V.length := hw
    have h2 : B * ((2 ^ (R.length - 1) : Nat) : Int) ≤ B * 2048 := by omega
    have h3 : ((2 ^ (R.length - 1) : Nat) : Int) ≤ 2048 := Int.le_of_mul_le_mul_left h2 (by omega)
    have h4 : 2 ^ (R.length - 1) ≤ 2 ^ 11 := by omega
    have h5 : R.length - 1 ≤ 11 := (Nat.pow_le_pow_iff_right (by decide)).1 h4
    show R.length + 1 ≤ 13
    omega
end Go.Proofs.Ytbdfmnlfdhhnjaa

/-
  The reference of layer 20: Coin, Halve, Up, Same.
-/
namespace Go.Proofs.Ytbdfmnlfdhhnjaa
set_option linter.unusedVariables false
set_option linter.unusedSimpArgs false
open Go.RowKit

/-- The k-th coin of a word. -/
def coinB (w : Int) (k : Nat) : Bool := w / ((2 ^ (k % 64) : Nat) : Int) % 2 == 1
theorem half_step (w : Int) (i : Nat) : w / ((2 ^ i : Nat) : Int) / 2 = w / ((2 ^ (i + 1) : Nat) : Int) := by
  have hp := Nat.two_pow_pos i
  rw [Int.ediv_ediv_of_nonneg (by omega)]
  exact congrArg (w / ·) (by rw [Nat.pow_succ, Int.natCast_mul]; rfl)

set_option maxRecDepth 100000 in
set_option maxHeartbeats 1000000 in
theorem rcoin20_any (W : World) (w : Int) (k : Nat) (hw : Word w) (hk : (k : Int) ≤ 9223372036854775807) :
    Calls Try.prog 70 #[.int .u64 w, .int .i64 k] W fun e W' => e = .returned (.bool (coinB w k)) ∧ W = W' := by
  obtain ⟨r, hr⟩ : ∃ r : Nat, k % 64 = r := ⟨_, rfl⟩
  have hr64 : r < 64 := by omega
  have ht : ((k : Int)).tmod 64 = r := by rw [Int.tmod_eq_emod_of_nonneg (by omega)]; omega
  have HC : Hid (coinB w k = (w / ((2 ^ r : Nat) : Int) % 2 == 1)) := Lib.hid (by unfold coinB; rw [hr])
  obtain ⟨w0, w1⟩ := hw
  have HB : Hid (∀ i : Nat, 0 ≤ w / ((2 ^ i : Nat) : Int) ∧ w / ((2 ^ i : Nat) : Int) < 18446744073709551616) := Lib.hid fun i => by
    have hp := Nat.two_pow_pos i
    exact ⟨Int.ediv_nonneg w0 (by omega), Int.lt_of_le_of_lt (Int.ediv_le_self _ w0) w1⟩
  have HW0 : Hid (w / ((2 ^ 0 : Nat) : Int) = w) := Lib.hid (by simp)
  have HST := Lib.hid (half_step w)
  have km : (k : Int) % 64 = r := by omega
  clear hr
  go_enter Try.func70, Try.ntmps70
  go_wp2_with fail
  go_loopw [0, 5] (fun xv iv wr => ∃ (i : Nat) (x : Int), i ≤ r ∧ iv = .int .i64 i ∧ xv = .int .u64 x ∧ x = w / ((2 ^ i : Nat) : Int) ∧ W = wr) (fun _ iv _ => r - (intOf iv).toNat)
  case atStart => exact ⟨0, w, Nat.zero_le _, rfl, rfl, HW0.out.symm, rfl⟩
  case round =>
    obtain ⟨i, x, hi, rfl, rfl, hx, rfl⟩ := hrel
    have HX := Lib.hid hx
    have hb := HB.out i
    rw [← hx] at hb
    obtain ⟨b0, b1⟩ := hb
    clear hx
    by_cases hlt : i < r
    · have kk : (i : Int) < r := by omega
      have hst := HST.out i
      rw [← HX.out] at hst
      obtain ⟨y, hy⟩ : ∃ y, x / 2 = y := ⟨_, rfl⟩
      have HY : Hid (y = w / ((2 ^ (i + 1) : Nat) : Int)) := Lib.hid (by rw [← hy, hst])
      clear hst
      go_wp2_with fail
      go_roundw
      case rel => exact ⟨i + 1, y, by omega, by go_num, by first | rfl | rw [hy], HY.out, by first | rfl | trivial⟩
      case measure => simp [intOf]; omega
    · obtain rfl : i = r := by omega
      have kk : ¬ (i : Int) < i := by omega
      obtain ⟨z, hz⟩ : ∃ z, (x % 2 == 1) = z := ⟨_, rfl⟩
      have HZ : Hid (coinB w k = z) := Lib.hid (by rw [HC.out, ← HX.out, hz])
      go_wp2_with fail
      go_ret
      exact ⟨by rw [HZ.out, ← hz]; rfl, rfl⟩

/-- Two further on: one value more. -/
theorem halv_step : ∀ (b : Bool) (L : List Int) (i : Nat) (x : Int), L[i]? = some x → i % 2 = (if b = true then 1 else 0) → halvB b (L.take (i + 2)) = halvB b (L.take i) ++ [x]
  | false, y :: r, 0, x, h, _ => by
    have e : y = x := Option.some.inj h
    subst e
    cases r with
    | nil => rfl
    | cons z t => rfl
  | true, y :: z :: r, 1, x, h, _ => by
    have e : z = x := Option.some.inj h
    subst e
    cases r with
    | nil => rfl
    | cons z t => rfl
  | b, [], i, x, h, _ => by simp at h
  | true, [y], 1, x, h, _ => by simp at h
  | true, y :: r, 0, x, h, hi => by simp at hi
  | false, y :: r, 1, x, h, hi => by simp at hi
  | false, [y], i + 2, x, h, hi => by simp at h
  | true, [y], i + 2, x, h, hi => by simp at h
  | false, y :: z :: r, i + 2, x, h, hi => by
    have ih := halv_step false r i x (by simpa using h) (by simp at hi ⊢; omega)
    show y :: halvB false (r.take (i + 2)) = y :: (halvB false (r.take i) ++ [x])
    rw [ih]
  | true, y :: z :: r, i + 2, x, h, hi => by
    have ih := halv_step true r i x (by simpa using h) (by simp at hi ⊢; omega)
    show z :: halvB true (r.take (i + 2)) = z :: (halvB true (r.take i) ++ [x])
    rw [ih]

set_option maxRecDepth 100000 in
set_option maxHeartbeats 2000000 in
theorem rhalve20_any (w : World) (A : Option Addr) (n cap : Nat) (L : List Int) (b : Bool) (h : Nums w A L) (hn : L.length = n) (hl : n ≤ 50000) :
    Calls Try.prog 69 #[.slice A n cap, .bool b] w fun e w' => ∃ v, e = .returned v ∧ OwnN w' w.heap.size v (halvB b L) ∧ Below w.heap.size w w' := by
  have HI := Lib.hid h
  have HL := Lib.hid hn
  obtain ⟨s, hs⟩ : ∃ s : Nat, (if b = true then 1 else 0) = s := ⟨_, rfl⟩
  have HS := Lib.hid hs
  have hs1 : s ≤ 1 := by cases b <;> simp at hs <;> omega
  have H0 : Hid (halvB b (L.take s) = []) := Lib.hid (by
    rw [← hs]
    cases b with
    | false => rfl
    | true => cases L <;> rfl)
  have HLE : Hid (∀ i, (halvB b (L.take i)).length ≤ 50000) := Lib.hid fun i => by
    rw [halv_len]
    have : (L.take i).length ≤ n := by rw [List.length_take]; omega
    split <;> omega
  clear h hn
  have key : ∀ (w2 : World), w2 = w → True := fun _ _ => trivial
  clear key
  cases b with
  | false =>
    obtain rfl : s = 0 := by simpa using hs.symm
    clear hs
    go_enter Try.func69, Try.ntmps69
    go_wp2_with fail
    go_loopw [5, 6] (fun ov iv wr => ∃ (i : Nat), i ≤ n + 1 ∧ i % 2 = 0 ∧ iv = .int .i64 i ∧ OwnN wr w.heap.size ov (halvB false (L.take i)) ∧ Below w.heap.size w wr) (fun _ iv _ => n + 2 - (intOf iv).toNat)
    case atStart => exact ⟨0, Nat.zero_le _, rfl, rfl, OwnN.nil _ _, Below.refl _ _⟩
    case round =>
      obtain ⟨i, hi, hp, rfl, ho, hb⟩ := hrel
      have HO := Lib.hid ho
      have HB := Lib.hid hb
      have hbs := hb.size
      obtain ⟨vA, vk, hv⟩ := ho.form
      obtain ⟨m, hm⟩ : ∃ m, (halvB false (L.take i)).length = m := ⟨_, rfl⟩
      rw [hm] at hv
      subst hv
      have hm2 : m ≤ 50000 := by rw [← hm]; exact HLE.out i
      have HM := Lib.hid hm
      clear ho hb hm
      by_cases hlt : i < n
      · have kk : (i : Int) < n := by omega
        have hxk := List.getElem?_eq_getElem (l := L) (i := i) (by rw [HL.out]; exact hlt)
        generalize L[i]'(by rw [HL.out]; exact hlt) = x at hxk
        obtain ⟨ba, oa, rfl, _, c0⟩ := (HI.out.call HB.out).at_ i x hxk
        have HST := Lib.hid (halv_step false L i x hxk (by simpa using hp))
        have HAL : Hid (Below wr.heap.size wr (wr.alloc (.cells #[.int .i64 x] 2))) := Lib.hid ((Below.refl _ _).alloc (Nat.le_refl _) _)
        clear hxk
        go_wp2_with (at_builtin; refine wpList_append_num rfl _ _ rfl w.heap.size _ _ m HM.out wr.heap.size x rfl (HO.out.call HAL.out) rfl ?c1 ?c4 ?c5 ?_)
        case c1 => go_simp
        case c4 => omega
        case c5 => exact Nat.le_trans hbs HAL.out.size
        intro g' cp w1 hown' hgrow _
        have hb4 := (HO.out.call HAL.out).below (HB.out.trans (HAL.out.mono hbs)) hgrow (Nat.le_trans hbs HAL.out.size)
        rw [← HST.out] at hown'
        clear hgrow
        go_wp2_with fail
        go_roundw
        case rel => exact ⟨i + 2, by omega, by omega, by go_num, hown', hb4⟩
        case measure => simp [intOf]; omega
      · have kk : ¬ (i : Int) < n := by omega
        have HT : Hid (L.take i = L) := Lib.hid (List.take_of_length_le (by rw [HL.out]; omega))
        rw [HT.out] at HO
        go_wp2_with fail
        go_ret
        exact ⟨_, rfl, HO.out, HB.out⟩
  | true =>
    obtain rfl : s = 1 := by simpa using hs.symm
    clear hs
    go_enter Try.func69, Try.ntmps69
    go_wp2_with fail
    go_loopw [5, 6] (fun ov iv wr => ∃ (i : Nat), i ≤ n + 1 ∧ i % 2 = 1 ∧ iv = .int .i64 i ∧ OwnN wr w.heap.size ov (halvB true (L.take i)) ∧ Below w.heap.size w wr) (fun _ iv _ => n + 2 - (intOf iv).toNat)
    case atStart => exact ⟨1, by omega, rfl, rfl, by rw [H0.out]; exact OwnN.nil _ _, Below.refl _ _⟩
    case round =>
      obtain ⟨i, hi, hp, rfl, ho, hb⟩ := hrel
      have HO := Lib.hid ho
      have HB := Lib.hid hb
      have hbs := hb.size
      obtain ⟨vA, vk, hv⟩ := ho.form
      obtain ⟨m, hm⟩ : ∃ m, (halvB true (L.take i)).length = m := ⟨_, rfl⟩
      rw [hm] at hv
      subst hv
      have hm2 : m ≤ 50000 := by rw [← hm]; exact HLE.out i
      have HM := Lib.hid hm
      clear ho hb hm
      by_cases hlt : i < n
      · have kk : (i : Int) < n := by omega
        have hxk := List.getElem?_eq_getElem (l := L) (i := i) (by rw [HL.out]; exact hlt)
        generalize L[i]'(by rw [HL.out]; exact hlt) = x at hxk
        obtain ⟨ba, oa, rfl, _, c0⟩ := (HI.out.call HB.out).at_ i x hxk
        have HST := Lib.hid (halv_step true L i x hxk (by simpa using hp))
        have HAL : Hid (Below wr.heap.size wr (wr.alloc (.cells #[.int .i64 x] 2))) := Lib.hid ((Below.refl _ _).alloc (Nat.le_refl _) _)
        clear hxk
        go_wp2_with (at_builtin; refine wpList_append_num rfl _ _ rfl w.heap.size _ _ m HM.out wr.heap.size x rfl (HO.out.call HAL.out) rfl ?c1 ?c4 ?c5 ?_)
        case c1 => go_simp
        case c4 => omega
        case c5 => exact Nat.le_trans hbs HAL.out.size
        intro g' cp w1 hown' hgrow _
        have hb4 := (HO.out.call HAL.out).below (HB.out.trans (HAL.out.mono hbs)) hgrow (Nat.le_trans hbs HAL.out.size)
        rw [← HST.out] at hown'
        clear hgrow
        go_wp2_with fail
        go_roundw
        case rel => exact ⟨i + 2, by omega, by omega, by go_num, hown', hb4⟩
        case measure => simp [intOf]; omega
      · have kk : ¬ (i : Int) < n := by omega
        have HT : Hid (L.take i = L) := Lib.hid (List.take_of_length_le (by rw [HL.out]; omega))
        rw [HT.out] at HO
        go_wp2_with fail
        go_ret
        exact ⟨_, rfl, HO.out, HB.out⟩

set_option maxRecDepth 100000 in
set_option maxHeartbeats 1000000 in
theorem rup20_any (w : World) (A : Option Addr) (c cap : Nat) (L : List Int) (x n : Int) (h : Nums w A L) (hc : L.length = c) (hl : c ≤ 100000) (hx : I64 x) (hn : upV L x = n) :
    Calls Try.prog 40 #[.slice A c cap, .int .i64 x] w fun e w' => e = .returned (.int .i64 n) ∧ w = w' := by
  subst hc
  have HI := Lib.hid h
  have HN := Lib.hid hn
  have HBD := Lib.hid (fun k => upV_bd (L.take k) x)
  obtain ⟨x0, x1⟩ := hx
  clear h hn
  go_enter Try.func40, Try.ntmps40
  go_wp2_with fail
  go_loopw [5, 10] (fun s j wr => ∃ (k : Nat) (m : Int), k ≤ L.length ∧ j = .int .i64 k ∧ s = .int .i64 m ∧ m = upV (L.take k) x ∧ w = wr) (fun _ j _ => L.length - (intOf j).toNat)
  case atStart => exact ⟨0, 0, Nat.zero_le _, rfl, rfl, rfl, rfl⟩
  case round =>
    obtain ⟨k, m, hk, rfl, rfl, hm, rfl⟩ := hrel
    have HM := Lib.hid hm
    by_cases hlt : k < L.length
    · have kk : (k : Int) < L.length := by omega
      have hxk : L[k]? = some L[k] := List.getElem?_eq_getElem hlt
      generalize hit : L[k] = y at *
      obtain ⟨b, off, rfl, hbl, c0⟩ := HI.out.at_ k _ hxk
      have HS := Lib.hid (upV_step hxk x)
      have hok := HI.out.ok _ (List.mem_of_getElem? hxk)
      have hmb := HBD.out k
      rw [← hm, List.length_take] at hmb
      have hm9 : 0 ≤ m ∧ m ≤ 100000 := by omega
      obtain ⟨m0, m1⟩ := hm9
      obtain ⟨o1, o2⟩ := hok
      clear hxk hit hm hmb
      by_cases hc : y ≤ x
      · rw [if_pos hc] at HS
        go_wp2_with fail
        go_roundw
        case rel => exact ⟨k + 1, m + 1, by omega, by go_num, by first | rfl | go_num, by rw [HS.out, HM.out], by first | rfl | trivial⟩
        case measure => simp [intOf]; omega
      · rw [if_neg hc] at HS
        go_wp2_with fail
        go_roundw
        case rel => exact ⟨k + 1, m, by omega, by go_num, rfl, by rw [HS.out, HM.out, Int.add_zero], by first | rfl | trivial⟩
        case measure => simp [intOf]; omega
    · obtain rfl : k = L.length := by omega
      rw [List.take_length, HN.out] at HM
      have kk : ¬ (L.length : Int) < L.length := by omega
      clear hm
      go_wp2_with fail
      go_ret
      exact ⟨ret_int HM.out, rfl⟩

set_option maxRecDepth 100000 in
set_option maxHeartbeats 1000000 in
theorem rsame20_any (w : World) (A B : Option Addr) (n n' cap cap' : Nat) (L : List Int) (h : Nums w A L) (k : Nums w B L) (hn : L.length = n) (hn' : L.length = n') (hl : n ≤ 100000) :
    Calls Try.prog 56 #[.slice A n cap, .slice B n' cap'] w fun e w' => e = .returned (.bool true) ∧ Below w.heap.size w w' := by
  obtain rfl : n = n' := by omega
  have HA := Lib.hid h
  have HB := Lib.hid k
  have HN := Lib.hid hn
  clear h k hn hn'
  go_enter Try.func56, Try.ntmps56
  go_wp2_with fail
  go_loopw [13] (fun iv wr => ∃ (i : Nat), i ≤ n ∧ iv = .int .i64 i ∧ Below w.heap.size w wr) (fun iv _ => n - (intOf iv).toNat)
  case atStart => exact ⟨0, Nat.zero_le _, rfl, Below.refl _ _⟩
  case round =>
    obtain ⟨i, hi, rfl, hb⟩ := hrel
    have HW := Lib.hid hb
    by_cases hlt : i < n
    · have kk : (i : Int) < n := by omega
      have hxk := List.getElem?_eq_getElem (l := L) (i := i) (by rw [HN.out]; exact hlt)
      generalize L[i]'(by rw [HN.out]; exact hlt) = x at hxk
      obtain ⟨ba, oa, rfl, _, c0⟩ := (HA.out.call hb).at_ i x hxk
      obtain ⟨bb, ob, rfl, _, d0⟩ := (HB.out.call hb).at_ i x hxk
      clear hxk hb
      go_wp2_with fail
      go_quiet (fail)
      rename_i nq
      go_wp2_with fail
      go_roundw
      case rel => exact ⟨i + 1, by omega, by go_num, below_drewN HW.out _⟩
      case measure => simp [intOf]; omega
    · obtain rfl : i = n := by omega
      have kk : ¬ (i : Int) < i := by omega
      go_wp2_with fail
      go_ret
      exact ⟨rfl, HW.out⟩
end Go.Proofs.Ytbdfmnlfdhhnjaa

/-
  Plain mathematics of stage 21: over all ways in which the coins fall, ranks are fair; all words tell all ways: no program in sight.
-/
namespace Go.Proofs.Ytbdfmnlfdhhnjaa
set_option linter.unusedVariables false
set_option linter.unusedSimpArgs false

def fuelN (N : List Nat) : Nat := N.length + N.sum
theorem fuel_len (R : List (List Int)) : fuelN (lenR R) = fuelR R := by
  unfold fuelN fuelR lenR sizR
  rw [List.length_map]
/-- How many coins so many values take, one behind the other. -/
def cntP (B : Int) : Nat → List Nat → Nat
  | 0, _ => 0
  | k + 1, N => cntR B (fuelN (addH 1 N)) (addH 1 N) + cntP B k (shpR B (fuelN (addH 1 N)) (addH 1 N))
/-- Values put, with a list of coins. -/
def putL (B : Int) (t : List (List Int) × List Bool) (x : Int) : List (List Int) × List Bool := setR B (fuelR (behR [x] t.1)) (behR [x] t.1) t.2
def playL (B : Int) (V : List Int) (t : List (List Int) × List Bool) : List (List Int) × List Bool := V.foldl (putL B) t
theorem strB_drop (c : Nat → Bool) (u m n : Nat) (h : m ≤ n) : (strB c u n).drop m = strB c (u + m) (n - m) := by
  rw [show n = m + (n - m) by omega, strB_app, List.drop_left' (strB_len c m u), show m + (n - m) - m = n - m by omega]
theorem play_is {B : Int} {c : Nat → Bool} : ∀ (V : List Int) (R : List (List Int)) (u n : Nat), cntP B V.length (lenR R) ≤ n → playT B c (R, u) V = ((playL B V (R, strB c u n)).1, u + cntP B V.length (lenR R))
  | [], R, u, n, h => rfl
  | x :: V, R, u, n, h => by
    have e1 : lenR (behR [x] R) = addH 1 (lenR R) := beh_len [x] R
    replace h : cntR B (fuelN (addH 1 (lenR R))) (addH 1 (lenR R)) + cntP B V.length (shpR B (fuelN (addH 1 (lenR R))) (addH 1 (lenR R))) ≤ n := h
    have ec : cntP B (x :: V).length (lenR R) = cntR B (fuelN (addH 1 (lenR R))) (addH 1 (lenR R)) + cntP B V.length (shpR B (fuelN (addH 1 (lenR R))) (addH 1 (lenR R))) := rfl
    rw [ec]
    show playT B c (setF B c (fuelR (behR [x] R)) (behR [x] R) u) V = ((playL B V (setR B (fuelR (behR [x] R)) (behR [x] R) (strB c u n))).1, _)
    rw [← e1, fuel_len] at h ⊢
    have hs := set_shape (B := B) (fuelR (behR [x] R)) (behR [x] R) (strB c u n)
    have hl := set_left (B := B) (fuelR (behR [x] R)) (behR [x] R) (strB c u n)
    rw [setF_is (fuelR (behR [x] R)) (behR [x] R) u n (by omega)]
    generalize hS : setR B (fuelR (behR [x] R)) (behR [x] R) (strB c u n) = S at *
    obtain ⟨S1, S2⟩ := S
    simp only at hs hl ⊢
    rw [← hs] at h ⊢
    rw [hl, strB_drop c u _ n (by omega)]
    rw [play_is V S1 (u + cntR B (fuelR (behR [x] R)) (lenR (behR [x] R))) (n - cntR B (fuelR (behR [x] R)) (lenR (behR [x] R))) (by omega), Nat.add_assoc]
theorem play_fair {B : Int} (x : Int) : ∀ (V : List Int) (R : List (List Int)), sumZ ((waysB (cntP B V.length (lenR R))).map fun cs => rankR x (playL B V (R, cs)).1) = ((2 ^ cntP B V.length (lenR R) : Nat) : Int) * (rankR x R + upV V x)
  | [], R => by
    show rankR x R + 0 = ((1 : Nat) : Int) * (rankR x R + 0)
    rw [Int.add_zero]; exact (Int.one_mul _).symm
  | y :: V, R => by
    have e1 : lenR (behR [y] R) = addH 1 (lenR R) := beh_len [y] R
    have ec : cntP B (y :: V).length (lenR R) = cntR B (fuelN (addH 1 (lenR R))) (addH 1 (lenR R)) + cntP B V.length (shpR B (fuelN (addH 1 (lenR R))) (addH 1 (lenR R))) := rfl
    rw [ec, ← e1, fuel_len]
    obtain ⟨Q, hQ⟩ : ∃ Q, behR [y] R = Q := ⟨_, rfl⟩
    rw [hQ]
    obtain ⟨a, ha⟩ : ∃ a, cntR B (fuelR Q) (lenR Q) = a := ⟨_, rfl⟩
    obtain ⟨b, hb⟩ : ∃ b, cntP B V.length (shpR B (fuelR Q) (lenR Q)) = b := ⟨_, rfl⟩
    rw [ha, hb, ways_add]
    have inner : ∀ cs, cs ∈ waysB a → sumZ ((waysB b).map fun ds => rankR x (playL B (y :: V) (R, cs ++ ds)).1) = ((2 ^ b : Nat) : Int) * (rankR x (setR B (fuelR Q) Q cs).1 + upV V x) := fun cs hcs => by
      have hlen := ways_mem hcs
      have hs := set_shape (B := B) (fuelR Q) Q cs
      have ih := play_fair (B := B) x V (setR B (fuelR Q) Q cs).1
      rw [hs, hb] at ih
      rw [← ih]
      refine sumZ_congr fun ds _ => ?_
      show rankR x (playL B V (setR B (fuelR (behR [y] R)) (behR [y] R) (cs ++ ds))).1 = _
      rw [hQ, set_app (fuelR Q) Q cs ds (by rw [hlen, ha])]
    rw [sumZ_congr inner, sumZ_mul, sumZ_add, sumZ_const, ways_len]
    have hf := set_fair (B := B) x (fuelR Q) Q
    rw [ha] at hf
    rw [hf, ← Int.mul_add, ← Int.mul_assoc, ← Int.natCast_mul, ← Nat.pow_add, Nat.add_comm b a, ← hQ, rank_beh, show upV (y :: V) x = upV [y] x + upV V x from upV_app [y] V x]
    congr 1
    omega
/-! ### All words -/
def bitsN : Nat → Nat → List Bool
  | _, 0 => []
  | w, k + 1 => (w % 2 == 1) :: bitsN (w / 2) k
theorem coin_nat (w k : Nat) (hk : k < 64) : coinB (w : Int) k = (w / 2 ^ k % 2 == 1) := by
  unfold coinB
  rw [Nat.mod_eq_of_lt hk]
  have e : (w : Int) / ((2 ^ k : Nat) : Int) % 2 = ((w / 2 ^ k % 2 : Nat) : Int) := by
    rw [Int.natCast_emod, Int.natCast_ediv]; rfl
  rw [e]
  have h2 : w / 2 ^ k % 2 < 2 := Nat.mod_lt _ (by decide)
  generalize w / 2 ^ k % 2 = r at *
  match r, h2 with
  | 0, _ => rfl
  | 1, _ => rfl
theorem bits_is (w : Nat) : ∀ (k u : Nat), u + k ≤ 64 → strB (coinB (w : Int)) u k = bitsN (w / 2 ^ u) k
  | 0, u, h => rfl
  | k + 1, u, h => by
    show coinB (w : Int) u :: strB (coinB (w : Int)) (u + 1) k = (w / 2 ^ u % 2 == 1) :: bitsN (w / 2 ^ u / 2) k
    rw [coin_nat w u (by omega), bits_is w k (u + 1) (by omega), Nat.div_div_eq_div_mul, ← Nat.pow_succ]
theorem sum_two (g : Nat → Int) : ∀ n, sumZ ((List.range (2 * n)).map g) = sumZ ((List.range n).map fun w => g (2 * w)) + sumZ ((List.range n).map fun w => g (2 * w + 1))
  | 0 => rfl
  | n + 1 => by
    rw [show 2 * (n + 1) = 2 * n + 1 + 1 by omega, List.range_succ, List.range_succ, List.map_append, List.map_append, sumZ_app, sumZ_app, sum_two g n, List.range_succ, List.map_append, List.map_append, sumZ_app, sumZ_app]
    show _ + (g (2 * n) + 0) + (g (2 * n + 1) + 0) = _ + (g (2 * n) + 0) + (_ + (g (2 * n + 1) + 0))
    omega
theorem words_ways (F : List Bool → Int) : ∀ k, sumZ ((List.range (2 ^ k)).map fun w => F (bitsN w k)) = sumZ ((waysB k).map F)
  | 0 => rfl
  | k + 1 => by
    rw [Nat.pow_succ, Nat.mul_comm, sum_two]
    have hw : waysB (k + 1) = (waysB k).map (false :: ·) ++ (waysB k).map (true :: ·) := rfl
    rw [hw, List.map_append, List.map_map, List.map_map, sumZ_app]
    have e0 : ∀ w, bitsN (2 * w) (k + 1) = false :: bitsN w k := fun w => by
      show (2 * w % 2 == 1) :: bitsN (2 * w / 2) k = _
      rw [show 2 * w % 2 = 0 by omega, show 2 * w / 2 = w by omega]; rfl
    have e1 : ∀ w, bitsN (2 * w + 1) (k + 1) = true :: bitsN w k := fun w => by
      show ((2 * w + 1) % 2 == 1) :: bitsN ((2 * w + 1) / 2) k = _
      rw [show (2 * w + 1) % 2 = 1 by omega, show (2 * w + 1) / 2 = w by omega]; rfl
    simp only [e0, e1]
    rw [words_ways (fun cs => F (false :: cs)) k, words_ways (fun cs => F (true :: cs)) k]
    rfl
/-- Over all words of as many coins as are used, ranks are fair. -/
theorem words_fair {B : Int} (x : Int) (V : List Int) (k : Nat) (hk : cntP B V.length [0] = k) (h8 : k ≤ 64) : sumZ ((List.range (2 ^ k)).map fun (w : Nat) => rankR x (playT B (coinB (w : Int)) newT V).1) = ((2 ^ k : Nat) : Int) * upV V x := by
  have hp := play_fair (B := B) x V [[]]
  rw [show lenR [[]] = [0] from rfl, hk, show rankR x [[]] = 0 from rfl, Int.zero_add] at hp
  rw [← hp, ← words_ways (fun cs => rankR x (playL B V ([[]], cs)).1) k]
  refine sumZ_congr fun w _ => ?_
  have h := play_is (B := B) (c := coinB (w : Int)) V [[]] 0 k (by rw [show lenR [[]] = [0] from rfl, hk]; exact Nat.le_refl _)
  show rankR x (playT B (coinB (w : Int)) ([[]], 0) V).1 = _
  rw [h, bits_is w k 0 (by omega), Nat.pow_zero, Nat.div_one]
/-- How many coins are used doesn't hang on how they fall. -/
theorem play_used {B : Int} (c : Nat → Bool) (V : List Int) : (playT B c newT V).2 = cntP B V.length [0] := by
  have h := play_is (B := B) (c := c) V [[]] 0 _ (Nat.le_refl _)
  show (playT B c ([[]], 0) V).2 = _
  rw [h]
  show 0 + cntP B V.length (lenR [[]]) = _
  rw [Nat.zero_add]; rfl
end Go.Proofs.Ytbdfmnlfdhhnjaa

/-
  Plain mathematics of stage 21: settling, step by step: no program in sight.
-/
namespace Go.Proofs.Ytbdfmnlfdhhnjaa
set_option linter.unusedVariables false
set_option linter.unusedSimpArgs false

theorem fuel_cons (r : List Int) (R : List (List Int)) : fuelR (r :: R) = fuelR R + r.length + 1 := by
  unfold fuelR
  rw [sizR_cons, List.length_cons]
  omega
theorem fuel_beh {B : Int} {b : Bool} {r : List Int} {R : List (List Int)} (h4 : B % 4 = 0) (h0 : 4 ≤ B) (c : ¬ (r.length : Int) < B) : fuelR (behR (goR B b r) R) < fuelR (r :: R) := by
  obtain ⟨g1, g2, g3⟩ := goR_len (r := r) b h4 h0 (by omega)
  obtain ⟨b1, b2⟩ := behR_siz (goR B b r) R
  rw [fuel_cons]
  unfold fuelR
  rw [b1, b2]
  by_cases e : R.length = 0 <;> omega
theorem setF_fuel {B : Int} {c : Nat → Bool} (h4 : B % 4 = 0) (h0 : 4 ≤ B) : ∀ (f g : Nat) (R : List (List Int)) (u : Nat), fuelR R ≤ f → f ≤ g → setF B c g R u = setF B c f R u
  | 0, g, [], u, h, _ => by cases g <;> rfl
  | 0, g, r :: R, u, h, _ => by rw [fuel_cons] at h; omega
  | f + 1, 0, R, u, h, h2 => by omega
  | f + 1, g + 1, [], u, h, h2 => rfl
  | f + 1, g + 1, r :: R, u, h, h2 => by
    have hc := fuel_cons r R
    by_cases k : (r.length : Int) < B
    · show (if (r.length : Int) < B then _ else _) = (if (r.length : Int) < B then _ else _)
      rw [if_pos k, if_pos k, setF_fuel h4 h0 f g R u (by omega) (by omega)]
    · have hb := fuel_beh (b := c u) (R := R) h4 h0 k
      show (if (r.length : Int) < B then _ else _) = (if (r.length : Int) < B then _ else _)
      rw [if_neg k, if_neg k, setF_fuel h4 h0 f g (behR (goR B (c u) r) R) (u + 1) (by omega) (by omega)]
/-- Settled, with just fuel enough. -/
def setG (B : Int) (c : Nat → Bool) (R : List (List Int)) (u : Nat) : Tow := setF B c (fuelR R) R u
theorem setG_nil {B : Int} {c : Nat → Bool} {u : Nat} : setG B c [] u = ([], u) := rfl
theorem setG_lt {B : Int} {c : Nat → Bool} {r : List Int} {R : List (List Int)} {u : Nat} (h4 : B % 4 = 0) (h0 : 4 ≤ B) (k : (r.length : Int) < B) : setG B c (r :: R) u = (r :: (setG B c R u).1, (setG B c R u).2) := by
  unfold setG
  have hc := fuel_cons r R
  rw [hc]
  show (if (r.length : Int) < B then _ else _) = _
  rw [if_pos k, setF_fuel h4 h0 (fuelR R) _ R u (Nat.le_refl _) (by omega)]
theorem setG_ge {B : Int} {c : Nat → Bool} {r : List Int} {R : List (List Int)} {u : Nat} (h4 : B % 4 = 0) (h0 : 4 ≤ B) (k : ¬ (r.length : Int) < B) :
    setG B c (r :: R) u = (stayL (B / 2) r :: (setG B c (behR (goR B (c u) r) R) (u + 1)).1, (setG B c (behR (goR B (c u) r) R) (u + 1)).2) := by
  unfold setG
  have hc := fuel_cons r R
  have hb := fuel_beh (b := c u) (R := R) h4 h0 k
  rw [hc] at hb ⊢
  show (if (r.length : Int) < B then _ else _) = _
  rw [if_neg k, setF_fuel h4 h0 (fuelR (behR (goR B (c u) r) R)) _ _ (u + 1) (Nat.le_refl _) (by omega)]
/-- A tower on its way: h rows are settled, what the rest gives is told. -/
def OnWay (B : Int) (c : Nat → Bool) (F : Tow) (h : Nat) (R : List (List Int)) (u : Nat) : Prop :=
  h ≤ R.length ∧ R.take h ++ (setG B c (R.drop h) u).1 = F.1 ∧ (setG B c (R.drop h) u).2 = F.2
theorem onWay_start {B : Int} {c : Nat → Bool} {R : List (List Int)} {u : Nat} : OnWay B c (towS B c (R, u)) 0 R u := ⟨Nat.zero_le _, rfl, rfl⟩
theorem onWay_end {B : Int} {c : Nat → Bool} {F : Tow} {R : List (List Int)} {u : Nat} (h : OnWay B c F R.length R u) : F = (R, u) := by
  obtain ⟨_, h1, h2⟩ := h
  rw [List.drop_length, setG_nil] at h1 h2
  rw [List.take_length, List.append_nil] at h1
  exact Prod.ext h1.symm h2.symm
theorem onWay_lt {B : Int} {c : Nat → Bool} {F : Tow} {h : Nat} {R : List (List Int)} {u : Nat} {r : List Int} (h4 : B % 4 = 0) (h0 : 4 ≤ B) (hw : OnWay B c F h R u) (hr : R[h]? = some r) (k : (r.length : Int) < B) : OnWay B c F (h + 1) R u ∧ fuelR (R.drop (h + 1)) < fuelR (R.drop h) := by
  obtain ⟨_, h1, h2⟩ := hw
  have hlt : h < R.length := by
    by_cases c : h < R.length
    · exact c
    · rw [List.getElem?_eq_none (by omega)] at hr; cases hr
  have e : R.drop h = r :: R.drop (h + 1) := by
    rw [List.drop_eq_getElem_cons hlt]
    congr 1
    rw [List.getElem?_eq_getElem hlt] at hr
    exact Option.some.inj hr
  have et : R.take (h + 1) = R.take h ++ [r] := by rw [List.take_add_one, hr]; rfl
  rw [e, setG_lt h4 h0 k] at h1 h2
  refine ⟨⟨hlt, ?_, h2⟩, by rw [e, fuel_cons]; omega⟩
  rw [et, List.append_assoc]
  exact h1
/-- The row is split: what stays, and what goes to the row above (a new one, if need be). -/
def splitAt (B : Int) (b : Bool) (h : Nat) (r : List Int) (R : List (List Int)) : List (List Int) := R.take h ++ stayL (B / 2) r :: behR (goR B b r) (R.drop (h + 1))
theorem onWay_ge {B : Int} {c : Nat → Bool} {F : Tow} {h : Nat} {R : List (List Int)} {u : Nat} {r : List Int} (h4 : B % 4 = 0) (h0 : 4 ≤ B) (hw : OnWay B c F h R u) (hr : R[h]? = some r) (k : ¬ (r.length : Int) < B) :
    OnWay B c F (h + 1) (splitAt B (c u) h r R) (u + 1) ∧ fuelR ((splitAt B (c u) h r R).drop (h + 1)) < fuelR (R.drop h) := by
  obtain ⟨_, h1, h2⟩ := hw
  have hlt : h < R.length := by
    by_cases c : h < R.length
    · exact c
    · rw [List.getElem?_eq_none (by omega)] at hr; cases hr
  have e : R.drop h = r :: R.drop (h + 1) := by
    rw [List.drop_eq_getElem_cons hlt]
    congr 1
    rw [List.getElem?_eq_getElem hlt] at hr
    exact Option.some.inj hr
  rw [e, setG_ge h4 h0 k] at h1 h2
  have hl : (R.take h).length = h := by rw [List.length_take]; omega
  have es : splitAt B (c u) h r R = (R.take h ++ [stayL (B / 2) r]) ++ behR (goR B (c u) r) (R.drop (h + 1)) := by unfold splitAt; rw [List.append_assoc]; rfl
  have hl1 : (R.take h ++ [stayL (B / 2) r]).length = h + 1 := by rw [List.length_append, hl]; rfl
  have ed : (splitAt B (c u) h r R).drop (h + 1) = behR (goR B (c u) r) (R.drop (h + 1)) := by rw [es, List.drop_left' hl1]
  have et : (splitAt B (c u) h r R).take (h + 1) = R.take h ++ [stayL (B / 2) r] := by rw [es, List.take_left' hl1]
  refine ⟨⟨by rw [es, List.length_append, hl1]; omega, ?_, by rw [ed]; exact h2⟩, by rw [ed, e]; exact fuel_beh h4 h0 k⟩
  rw [ed, et, List.append_assoc]
  exact h1
end Go.Proofs.Ytbdfmnlfdhhnjaa

/-
  The reference of layer 20: Sorted, Split.
-/
namespace Go.Proofs.Ytbdfmnlfdhhnjaa
set_option linter.unusedVariables false
set_option linter.unusedSimpArgs false
open Go.RowKit

theorem ins_at20 {x : Int} {L : List Int} {q : Nat} (h : ∀ y, y ∈ L.take q → y ≤ x) (hq : q = L.length ∨ ∃ y, L[q]? = some y ∧ x < y) : insI x L = L.take q ++ x :: L.drop q := by
  have e1 : L.takeWhile (fun y => decide (y ≤ x)) = L.take q ∧ L.dropWhile (fun y => decide (y ≤ x)) = L.drop q := by
    induction L generalizing q with
    | nil => simp
    | cons z r ih =>
      cases q with
      | zero =>
        rcases hq with e | ⟨y, hy, hlt⟩
        · cases e
        · have ez : z = y := Option.some.inj hy
          subst ez
          have hn : decide (z ≤ x) = false := decide_eq_false (by omega)
          constructor
          · rw [List.takeWhile_cons_of_neg (by simp; omega)]; rfl
          · rw [List.dropWhile_cons_of_neg (by simp; omega)]; rfl
      | succ q =>
        have hz : z ≤ x := h z (by rw [List.take_succ_cons]; exact List.mem_cons_self)
        have ih' := ih (q := q) (fun y hy => h y (by rw [List.take_succ_cons]; exact List.mem_cons_of_mem _ hy)) (by
          rcases hq with e | ⟨y, hy, hlt⟩
          · exact Or.inl (by simpa using e)
          · exact Or.inr ⟨y, hy, hlt⟩)
        constructor
        · rw [List.takeWhile_cons_of_pos (by simpa using hz), List.take_succ_cons, ih'.1]
        · rw [List.dropWhile_cons_of_pos (by simpa using hz), List.drop_succ_cons, ih'.2]
  unfold insI
  rw [e1.1, e1.2]
theorem sort_step20 {W : List Int} {i : Nat} {x : Int} (h : W[i]? = some x) : sortI (W.take (i + 1)) = insI x (sortI (W.take i)) := by
  rw [snocS h]
  unfold sortI
  rw [List.foldl_append]
  rfl
theorem new_cells20 (W : World) (o : Obj) : (W.alloc o).heap[W.heap.size]? = some o := heap_alloc_new W o

set_option maxRecDepth 100000 in
set_option maxHeartbeats 16000000 in
theorem rsorted20_any (w : World) (A : Option Addr) (n cw : Nat) (W : List Int) (h : Nums w A W) (hn : W.length = n) (hl : n ≤ 50000) :
    Calls Try.prog 81 #[.slice A n cw] w fun e w' => ∃ v, e = .returned v ∧ OwnN w' w.heap.size v (sortI W) ∧ Below w.heap.size w w' := by
  have HWN := Lib.hid h
  have HN := Lib.hid hn
  clear h hn
  go_enter Try.func81, Try.ntmps81
  go_wp2_with fail
  go_loopg [3, 9] n (fun g rv jv wr => ∃ (i : Nat), i ≤ n ∧ g = n - i ∧ jv = .int .i64 i ∧ (i = 0 → rv = .slice none 0 0) ∧ OwnN wr w.heap.size rv (sortI (W.take i)) ∧ Below w.heap.size w wr)
  case atStart => exact ⟨0, Nat.zero_le _, rfl, rfl, fun _ => rfl, OwnN.nil _ _, Below.refl _ _⟩
  case round =>
      obtain ⟨i, hi, rfl, rfl, hr0, hown, hb2⟩ := hrel
      obtain ⟨w5, hw5⟩ : ∃ w5, w5 = wr := ⟨_, rfl⟩
      subst hw5
      have HR0 := Lib.hid hr0
      have HO := Lib.hid hown
      have HB := Lib.hid hb2
      have hbs := hb2.size
      obtain ⟨rA, rk, hrv⟩ := hown.form
      clear hr0 hown hb2
      by_cases hlt : i < n
      · have kk : (i : Int) < n := by omega
        clear hrv
        have hxk := List.getElem?_eq_getElem (l := W) (i := i) (by rw [HN.out]; exact hlt)
        generalize W[i]'(by rw [HN.out]; exact hlt) = x at hxk
        obtain ⟨ba, oa, rfl, hbl, c0⟩ := (HWN.out.call HB.out).at_ i x hxk
        have HIX : Hid (I64 x) := Lib.hid (HWN.out.ok _ (List.mem_of_getElem? hxk))
        obtain ⟨x0, x1⟩ := HIX.out
        have HST := Lib.hid (sort_step20 hxk)
        obtain ⟨L, hL⟩ : ∃ L, sortI (W.take i) = L := ⟨_, rfl⟩
        have hLl : L.length = i := by rw [← hL, sortI_len, List.length_take]; have := HN.out; omega
        have hLo : ∀ y, y ∈ L → I64 y := fun y hy => by
          rw [← hL] at hy
          exact HWN.out.ok _ (List.mem_of_mem_take (sortI_mem.1 hy))
        rw [hL] at HO HST
        have HLL := Lib.hid hLl
        have HLO := Lib.hid hLo
        have bD : Below w5.heap.size w5 w5.drew := (Below.refl _ _).drew
        have BA := Lib.hid (bD.alloc (Nat.le_refl _) (.cells #[] 2))
        have BX := Lib.hid (bD.alloc (Nat.le_refl _) (.cells #[.int .i64 x] 2))
        have BAX := Lib.hid (BA.out.alloc BA.out.size (.cells #[.int .i64 x] 2))
        have BXA := Lib.hid (BX.out.alloc BX.out.size (.cells #[] 2))
        have z1 : (w5.drew.alloc (.cells #[] 2)).heap.size = w5.heap.size + 1 := by simp
        have z2 : (w5.drew.alloc (.cells #[.int .i64 x] 2)).heap.size = w5.heap.size + 1 := by simp
        have hEa : (w5.drew.alloc (.cells #[] 2)).heap[w5.heap.size]? = some (.cells #[] 2 (0, 0)) := new_cells20 w5.drew _
        have HEa := Lib.hid (own_emptyN (base := w5.heap.size) hEa (Nat.le_refl _))
        have HEb := Lib.hid (HEa.out.call ((Below.refl _ _).alloc (Nat.le_refl _) (.cells #[.int .i64 x] 2)))
        have hEc := new_cells20 (w5.drew.alloc (.cells #[.int .i64 x] 2)) (.cells #[] 2)
        rw [z2] at hEc
        have HEc := Lib.hid (own_emptyN (base := w5.heap.size) hEc (Nat.le_succ _))
        have hXb : ((w5.drew.alloc (.cells #[] 2)).alloc (.cells #[.int .i64 x] 2)).cell? ⟨w5.heap.size + 1, 0, none⟩ = some (.int .i64 x) := by
          have := Joins.cell_of_block (i := 0) (new_cells20 (w5.drew.alloc (.cells #[] 2)) (.cells #[.int .i64 x] 2))
          rw [z1] at this
          rw [this]; rfl
        have hXc : ((w5.drew.alloc (.cells #[.int .i64 x] 2)).alloc (.cells #[] 2)).cell? ⟨w5.heap.size, 0, none⟩ = some (.int .i64 x) := by
          have := Joins.cell_of_block (i := 0) (new_cells20 w5.drew (.cells #[.int .i64 x] 2))
          exact cell_later ((Below.refl _ _).alloc (Nat.le_refl _) _) (show (w5.drew.alloc (.cells #[.int .i64 x] 2)).cell? ⟨w5.heap.size, 0, none⟩ = some (.int .i64 x) by rw [show (⟨w5.heap.size, 0, none⟩ : Addr) = ⟨w5.drew.heap.size, 0, none⟩ from rfl, this]; rfl)
        have HXb := Lib.hid (fun w' (hg : ((w5.drew.alloc (.cells #[] 2)).alloc (.cells #[.int .i64 x] 2)).grownBy w' (Value.slice (some ⟨w5.heap.size, 0, none⟩) 0 0).ownBlock) => hg.cell hXb (fun e => absurd (Option.some.inj e) (by show ¬ (w5.heap.size + 1 = w5.heap.size); omega)))
        have HXc := Lib.hid (fun w' (hg : ((w5.drew.alloc (.cells #[.int .i64 x] 2)).alloc (.cells #[] 2)).grownBy w' (Value.slice (some ⟨w5.heap.size + 1, 0, none⟩) 0 0).ownBlock) => hg.cell hXc (fun e => absurd (Option.some.inj e) (by show ¬ (w5.heap.size = w5.heap.size + 1); omega)))
        clear hL hLl hLo bD z1 z2 hEa hEc hXb hXc hxk
        by_cases i0 : i = 0
        · obtain rfl := HR0.out i0
          have hLn : L = [] := List.eq_nil_of_length_eq_zero (by rw [HLL.out]; exact i0)
          have HINS : Hid (insI x L = ([] ++ [x]) ++ []) := Lib.hid (by rw [hLn]; rfl)
          have HL1 : Hid (([] : List Int).length = 0) := Lib.hid rfl
          have HL2 : Hid (([] : List Int).length = 0) := Lib.hid rfl
          have HN1 : Hid (([] : List Int).length + 0 ≤ 100000) := Lib.hid (by decide)
          have HN2 : Hid (([] : List Int).length + 1 ≤ 100000) := Lib.hid (by decide)
          have HN3 : Hid (([] ++ [x] : List Int).length + 0 ≤ 100000) := Lib.hid (by simp)
          have HI0 := Lib.hid i0
          clear hLn HR0 i0
          go_wp2_with fail
          go_loopg [6] 0 (fun g kv wr => kv = .int .i64 0 ∧ g = 0 ∧ w5 = wr)
          case atStart => exact ⟨rfl, rfl, rfl⟩
          case round =>
            obtain ⟨rfl, rfl, rfl⟩ := hrel
            go_wp2_with fail
            go_region_law (first
              | (refine step_append_nums rfl (.tmp 27) (.tmp 30) rfl w5.heap.size _ [] none 0 0 ([]) rfl (by first | exact HEa.out | exact HEb.out | exact HEc.out) rfl HL1.out (Nums.nil _ _) HN1.out (by first | exact BA.out.size | exact BAX.out.size | exact BXA.out.size) ?_; intro v6 w6 hown6 hg6; have HO6 := Lib.hid hown6; have HB6 : Hid (Below w5.heap.size w5 w6) := Lib.hid (by first | exact HEa.out.below BA.out hg6 BA.out.size | exact HEb.out.below BAX.out hg6 BAX.out.size | exact HEc.out.below BXA.out hg6 BXA.out.size); first | (have HX6 := Lib.hid (HXb.out _ hg6)) | (have HX6 := Lib.hid (HXc.out _ hg6)) | skip; clear hown6 hg6)
              | (refine step_append_nums rfl (.tmp 31) (.tmp 33) rfl w5.heap.size _ ([]) _ 1 1 [x] rfl (by first | exact HO6.out | exact HO6.out.call ((Below.refl _ _).alloc (Nat.le_refl _) _)) rfl rfl (by first | exact one_num HIX.out HX6.out | exact one_num HIX.out (by go_simp)) HN2.out (by first | exact HB6.out.size | exact (HB6.out.alloc HB6.out.size _).size) ?_; intro v7 w7 hown7 hg7; have HO7 := Lib.hid hown7; have HB7 : Hid (Below w5.heap.size w5 w7) := Lib.hid (by first | exact HO6.out.below HB6.out hg7 HB6.out.size | exact (HO6.out.call ((Below.refl _ _).alloc (Nat.le_refl _) _)).below (HB6.out.alloc HB6.out.size _) hg7 (HB6.out.alloc HB6.out.size _).size); clear hown7 hg7)
              | (refine step_append_nums rfl (.tmp 34) (.tmp 37) rfl w5.heap.size _ ([] ++ [x]) none 0 0 ([]) rfl HO7.out rfl HL2.out (Nums.nil _ _) HN3.out HB7.out.size ?_; intro v8 w8 hown8 hg8; have HO8 := Lib.hid hown8; have HB8 : Hid (Below w5.heap.size w5 w8) := Lib.hid (HO7.out.below HB7.out hg8 HB7.out.size); clear hown8 hg8))
            all_goals
              go_wp2_with fail
              go_roundg (n - (i + 1))
              case measure => omega
              case rel => exact ⟨i + 1, by omega, rfl, by go_num, fun e => absurd e (Nat.succ_ne_zero _), by rw [HST.out, HINS.out]; have := (HO8.out.mono hbs); simpa using this, HB.out.trans (HB8.out.mono hbs)⟩
        · obtain ⟨g0, off, cap, rfl, hrow, hg0, hg1, hck⟩ := HO.out.some_ HLO.out (by have := HLL.out; omega)
          rw [HLL.out] at hck
          rw [HLL.out]
          have HROW := Lib.hid hrow
          clear hrow i0 HR0
          go_wp2_with fail
          go_loopg [6] i (fun g kv wr => ∃ (q : Nat), q ≤ i ∧ g = i - q ∧ kv = .int .i64 q ∧ (∀ y, y ∈ L.take q → y ≤ x) ∧ w5 = wr)
          case atStart => exact ⟨0, Nat.zero_le _, rfl, rfl, fun y hy => by simp at hy, rfl⟩
          case round =>
            obtain ⟨q, hq, rfl, rfl, hle, rfl⟩ := hrel
            have HLE := Lib.hid hle
            clear hle
            have HL1 : Hid ((L.take q).length = q) := Lib.hid (by rw [List.length_take]; have := HLL.out; omega)
            have HL2 : Hid ((L.drop q).length = i - q) := Lib.hid (by rw [List.length_drop]; have := HLL.out; omega)
            have HN1 : Hid (([] : List Int).length + q ≤ 100000) := Lib.hid (by simp; omega)
            have HN2 : Hid ((L.take q).length + 1 ≤ 100000) := Lib.hid (by rw [HL1.out]; omega)
            have HN3 : Hid ((L.take q ++ [x]).length + (i - q) ≤ 100000) := Lib.hid (by rw [List.length_append, HL1.out]; simp; omega)
            have p1 : (q : Int) ≤ i := by omega
            have p2 : (q : Int) ≤ cap := by omega
            have p3 : q ≤ cap := by omega
            have p4 : (i : Int) ≤ cap := by omega
            by_cases hqi : q < i
            · have q1 : (q : Int) < i := by omega
              have p5 : ¬ cap = q := by omega
              have hyk := List.getElem?_eq_getElem (l := L) (i := q) (by rw [HLL.out]; exact hqi)
              generalize L[q]'(by rw [HLL.out]; exact hqi) = y at hyk
              obtain ⟨bb, ob, e, _, y0⟩ := HROW.out.at_ q y hyk
              obtain ⟨rfl, rfl, _⟩ := Addr.mk.inj (Option.some.inj e)
              have HYK := Lib.hid hyk
              clear hyk e
              by_cases hyx : y ≤ x
              · have f1 : decide (y ≤ x) = true := decide_eq_true hyx
                have HLN : Hid (∀ z, z ∈ L.take (q + 1) → z ≤ x) := Lib.hid fun z hz => by
                  rw [snocS HYK.out] at hz
                  rcases List.mem_append.1 hz with h | h
                  · exact HLE.out z h
                  · rw [List.mem_singleton.1 h]; exact hyx
                go_wp2_with fail
                go_roundg (i - (q + 1))
                case measure => omega
                case rel => exact ⟨q + 1, by omega, rfl, by go_num, HLN.out, rfl⟩
              · have f1 : decide (y ≤ x) = false := decide_eq_false hyx
                have HINS : Hid (insI x L = (L.take q ++ [x]) ++ L.drop q) := Lib.hid (by rw [ins_at20 HLE.out (Or.inr ⟨y, HYK.out, by omega⟩)]; simp)
                clear HYK
                go_wp2_with fail
                go_region_law (first
                  | (refine step_append_nums rfl (.tmp 27) (.tmp 30) rfl w5.heap.size _ [] (some ⟨g0, off, none⟩) q cap (L.take q) rfl (by first | exact HEa.out | exact HEb.out | exact HEc.out) rfl HL1.out (by first | exact (HROW.out.call BA.out).take q | exact (HROW.out.call BAX.out).take q | exact (HROW.out.call BXA.out).take q) HN1.out (by first | exact BA.out.size | exact BAX.out.size | exact BXA.out.size) ?_; intro v6 w6 hown6 hg6; have HO6 := Lib.hid hown6; have HB6 : Hid (Below w5.heap.size w5 w6) := Lib.hid (by first | exact HEa.out.below BA.out hg6 BA.out.size | exact HEb.out.below BAX.out hg6 BAX.out.size | exact HEc.out.below BXA.out hg6 BXA.out.size); first | (have HX6 := Lib.hid (HXb.out _ hg6)) | (have HX6 := Lib.hid (HXc.out _ hg6)) | skip; clear hown6 hg6)
                  | (refine step_append_nums rfl (.tmp 31) (.tmp 33) rfl w5.heap.size _ (L.take q) _ 1 1 [x] rfl (by first | exact HO6.out | exact HO6.out.call ((Below.refl _ _).alloc (Nat.le_refl _) _)) rfl rfl (by first | exact one_num HIX.out HX6.out | exact one_num HIX.out (by go_simp)) HN2.out (by first | exact HB6.out.size | exact (HB6.out.alloc HB6.out.size _).size) ?_; intro v7 w7 hown7 hg7; have HO7 := Lib.hid hown7; have HB7 : Hid (Below w5.heap.size w5 w7) := Lib.hid (by first | exact HO6.out.below HB6.out hg7 HB6.out.size | exact (HO6.out.call ((Below.refl _ _).alloc (Nat.le_refl _) _)).below (HB6.out.alloc HB6.out.size _) hg7 (HB6.out.alloc HB6.out.size _).size); clear hown7 hg7)
                  | (refine step_append_nums rfl (.tmp 34) (.tmp 37) rfl w5.heap.size _ (L.take q ++ [x]) (some ⟨g0, off + q, none⟩) (i - q) (cap - q) (L.drop q) rfl HO7.out rfl HL2.out ((HROW.out.call HB7.out).drop q) HN3.out HB7.out.size ?_; intro v8 w8 hown8 hg8; have HO8 := Lib.hid hown8; have HB8 : Hid (Below w5.heap.size w5 w8) := Lib.hid (HO7.out.below HB7.out hg8 HB7.out.size); clear hown8 hg8))
                all_goals
                  go_wp2_with fail
                  go_roundg (n - (i + 1))
                  case measure => omega
                  case rel => exact ⟨i + 1, by omega, rfl, by go_num, fun e => absurd e (Nat.succ_ne_zero _), by rw [HST.out, HINS.out]; have := (HO8.out.mono hbs); simpa using this, HB.out.trans (HB8.out.mono hbs)⟩
            · obtain rfl : i = q := by omega
              have q1 : ¬ (i : Int) < i := by omega
              have HINS : Hid (insI x L = (L.take i ++ [x]) ++ L.drop i) := Lib.hid (by rw [ins_at20 HLE.out (Or.inl HLL.out.symm)]; simp)
              have HDR : Hid (L.drop i = []) := Lib.hid (List.drop_of_length_le (by rw [HLL.out]; exact Nat.le_refl _))
              have p6 : i - i = 0 := Nat.sub_self _
              rw [p6] at HL2 HN3
              clear p6
              by_cases p5 : cap = i
              · subst p5
                go_wp2_with fail
                go_region_law (first
                  | (refine step_append_nums rfl (.tmp 27) (.tmp 30) rfl w5.heap.size _ [] (some ⟨g0, off, none⟩) cap cap (L.take cap) rfl (by first | exact HEa.out | exact HEb.out | exact HEc.out) rfl HL1.out (by first | exact (HROW.out.call BA.out).take cap | exact (HROW.out.call BAX.out).take cap | exact (HROW.out.call BXA.out).take cap) HN1.out (by first | exact BA.out.size | exact BAX.out.size | exact BXA.out.size) ?_; intro v6 w6 hown6 hg6; have HO6 := Lib.hid hown6; have HB6 : Hid (Below w5.heap.size w5 w6) := Lib.hid (by first | exact HEa.out.below BA.out hg6 BA.out.size | exact HEb.out.below BAX.out hg6 BAX.out.size | exact HEc.out.below BXA.out hg6 BXA.out.size); first | (have HX6 := Lib.hid (HXb.out _ hg6)) | (have HX6 := Lib.hid (HXc.out _ hg6)) | skip; clear hown6 hg6)
                  | (refine step_append_nums rfl (.tmp 31) (.tmp 33) rfl w5.heap.size _ (L.take cap) _ 1 1 [x] rfl (by first | exact HO6.out | exact HO6.out.call ((Below.refl _ _).alloc (Nat.le_refl _) _)) rfl rfl (by first | exact one_num HIX.out HX6.out | exact one_num HIX.out (by go_simp)) HN2.out (by first | exact HB6.out.size | exact (HB6.out.alloc HB6.out.size _).size) ?_; intro v7 w7 hown7 hg7; have HO7 := Lib.hid hown7; have HB7 : Hid (Below w5.heap.size w5 w7) := Lib.hid (by first | exact HO6.out.below HB6.out hg7 HB6.out.size | exact (HO6.out.call ((Below.refl _ _).alloc (Nat.le_refl _) _)).below (HB6.out.alloc HB6.out.size _) hg7 (HB6.out.alloc HB6.out.size _).size); clear hown7 hg7)
                  | (refine step_append_nums rfl (.tmp 34) (.tmp 37) rfl w5.heap.size _ (L.take cap ++ [x]) (some ⟨g0, off, none⟩) 0 0 (L.drop cap) rfl HO7.out rfl HL2.out (by rw [HDR.out]; exact Nums.nil _ _) HN3.out HB7.out.size ?_; intro v8 w8 hown8 hg8; have HO8 := Lib.hid hown8; have HB8 : Hid (Below w5.heap.size w5 w8) := Lib.hid (HO7.out.below HB7.out hg8 HB7.out.size); clear hown8 hg8))
                all_goals
                  go_wp2_with fail
                  go_roundg (n - (cap + 1))
                  case measure => omega
                  case rel => exact ⟨cap + 1, by omega, rfl, by go_num, fun e => absurd e (Nat.succ_ne_zero _), by rw [HST.out, HINS.out]; have := (HO8.out.mono hbs); simpa using this, HB.out.trans (HB8.out.mono hbs)⟩
              · go_wp2_with fail
                go_region_law (first
                  | (refine step_append_nums rfl (.tmp 27) (.tmp 30) rfl w5.heap.size _ [] (some ⟨g0, off, none⟩) i cap (L.take i) rfl (by first | exact HEa.out | exact HEb.out | exact HEc.out) rfl HL1.out (by first | exact (HROW.out.call BA.out).take i | exact (HROW.out.call BAX.out).take i | exact (HROW.out.call BXA.out).take i) HN1.out (by first | exact BA.out.size | exact BAX.out.size | exact BXA.out.size) ?_; intro v6 w6 hown6 hg6; have HO6 := Lib.hid hown6; have HB6 : Hid (Below w5.heap.size w5 w6) := Lib.hid (by first | exact HEa.out.below BA.out hg6 BA.out.size | exact HEb.out.below BAX.out hg6 BAX.out.size | exact HEc.out.below BXA.out hg6 BXA.out.size); first | (have HX6 := Lib.hid (HXb.out _ hg6)) | (have HX6 := Lib.hid (HXc.out _ hg6)) | skip; clear hown6 hg6)
                  | (refine step_append_nums rfl (.tmp 31) (.tmp 33) rfl w5.heap.size _ (L.take i) _ 1 1 [x] rfl (by first | exact HO6.out | exact HO6.out.call ((Below.refl _ _).alloc (Nat.le_refl _) _)) rfl rfl (by first | exact one_num HIX.out HX6.out | exact one_num HIX.out (by go_simp)) HN2.out (by first | exact HB6.out.size | exact (HB6.out.alloc HB6.out.size _).size) ?_; intro v7 w7 hown7 hg7; have HO7 := Lib.hid hown7; have HB7 : Hid (Below w5.heap.size w5 w7) := Lib.hid (by first | exact HO6.out.below HB6.out hg7 HB6.out.size | exact (HO6.out.call ((Below.refl _ _).alloc (Nat.le_refl _) _)).below (HB6.out.alloc HB6.out.size _) hg7 (HB6.out.alloc HB6.out.size _).size); clear hown7 hg7)
                  | (refine step_append_nums rfl (.tmp 34) (.tmp 37) rfl w5.heap.size _ (L.take i ++ [x]) (some ⟨g0, off + i, none⟩) 0 (cap - i) (L.drop i) rfl HO7.out rfl HL2.out (by rw [HDR.out]; exact Nums.nil _ _) HN3.out HB7.out.size ?_; intro v8 w8 hown8 hg8; have HO8 := Lib.hid hown8; have HB8 : Hid (Below w5.heap.size w5 w8) := Lib.hid (HO7.out.below HB7.out hg8 HB7.out.size); clear hown8 hg8))
                all_goals
                  go_wp2_with fail
                  go_roundg (n - (i + 1))
                  case measure => omega
                  case rel => exact ⟨i + 1, by omega, rfl, by go_num, fun e => absurd e (Nat.succ_ne_zero _), by rw [HST.out, HINS.out]; have := (HO8.out.mono hbs); simpa using this, HB.out.trans (HB8.out.mono hbs)⟩
      · obtain rfl : i = n := by omega
        have kk : ¬ (i : Int) < i := by omega
        have hall : W.take i = W := List.take_of_length_le (by rw [HN.out]; exact Nat.le_refl _)
        rw [hall] at HO
        clear hall hlt HR0
        subst hrv
        go_wp2_with fail
        go_ret
        exact ⟨_, rfl, HO.out, HB.out⟩

theorem OwnN.either {w : World} {base : Nat} {v : Value} {L : List Int} (h : OwnN w base v L) (hok : ∀ p, p ∈ L → I64 p) : (v = .slice none 0 0 ∧ L = []) ∨ ∃ g off cap, v = .slice (some ⟨g, off, none⟩) L.length cap ∧ Nums w (some ⟨g, off, none⟩) L ∧ base ≤ g ∧ g < w.heap.size ∧ L.length ≤ cap := by
  obtain ⟨A, cap, rfl, hN⟩ := h.rows hok
  have h' : w.ownsRow base 2 1 (.slice A L.length cap) L.length (intsL L) := h
  rcases h'.2 with ⟨e, h0⟩ | ⟨g, cap', cur, e, hb, hg, hle, _⟩
  · exact Or.inl ⟨e, List.eq_nil_of_length_eq_zero h0⟩
  · injection e with e1 e2 e3
    subst e1 e3
    exact Or.inr ⟨g, 0, cap, rfl, hN, hb, lt_of_block hg, hle⟩
/-- What Split answers: two rows (the first may have the rest behind it). -/
def RefSplit (w' : World) (base : Nat) (A B : Option Addr) (p q c d : Nat) (keep : Int) (L : List Int) : Prop :=
  Nums w' A (stayL keep L) ∧ (stayL keep L).length = p ∧ Nums w' B (restL keep L) ∧ (restL keep L).length = q ∧ (∀ a, A = some a → base ≤ a.block) ∧ (∀ a, B = some a → base ≤ a.block)
theorem RefSplit.call {w w' : World} {base p q c d : Nat} {A B : Option Addr} {keep : Int} {L : List Int} (h : RefSplit w base A B p q c d keep L) (hb : Below w.heap.size w w') : RefSplit w' base A B p q c d keep L :=
  ⟨h.1.call hb, h.2.1, h.2.2.1.call hb, h.2.2.2.1, h.2.2.2.2⟩
theorem refsplit_of {w' : World} {base g off n k : Nat} {keep : Int} {L : List Int} {B : Option Addr} (hn : L.length = n) (hk : keepN keep n = k) (h : Nums w' (some ⟨g, off, none⟩) (sortI L)) (hg : base ≤ g) (hB : B = some ⟨g, off + k, none⟩ ∨ (n = k ∧ B = some ⟨g, off, none⟩)) (c d : Nat) : RefSplit w' base (some ⟨g, off, none⟩) B k (n - k) c d keep L := by
  obtain ⟨l1, l2⟩ := stay_len keep L
  rw [hn, hk] at l1 l2
  refine ⟨?_, l1, ?_, l2, fun a e => (by cases e; exact hg), fun a e => ?_⟩
  · unfold stayL; exact h.take _
  · unfold restL
    rcases hB with rfl | ⟨e, rfl⟩
    · rw [hn, hk]; exact h.drop _
    · have : (sortI L).drop (keepN keep L.length) = [] := by
        have := l2
        unfold restL at this
        exact List.eq_nil_of_length_eq_zero (by omega)
      rw [this]
      exact Nums.nil _ _
  · rcases hB with rfl | ⟨_, rfl⟩ <;> cases e <;> exact hg

/-- .. and how. -/
def RefSplitR (w : World) (keep : Int) (L : List Int) (e : Ending) (w' : World) : Prop :=
  ∃ A B p q c d, e = .returned (.tuple #[.slice A p c, .slice B q d]) ∧ RefSplit w' w.heap.size A B p q c d keep L ∧ Below w.heap.size w w'

set_option maxRecDepth 100000 in
set_option maxHeartbeats 4000000 in
theorem rsplit20_any (w : World) (A : Option Addr) (n cw : Nat) (L : List Int) (keep : Int) (h : Nums w A L) (hn : L.length = n) (hl : n ≤ 50000) (hk : I64 keep) :
    Calls Try.prog 68 #[.slice A n cw, .int .i64 keep] w fun e w' => RefSplitR w keep L e w' := by
  have HC := Lib.hid (rsorted20_any w A n cw L h hn hl)
  have HN := Lib.hid hn
  have HIL := Lib.hid h.ok
  obtain ⟨k0, k1⟩ := hk
  obtain ⟨k, hk⟩ : ∃ k, keepN keep n = k := ⟨_, rfl⟩
  have HK := Lib.hid hk
  have hkn : k ≤ n := by rw [← hk]; exact (keepN_le keep n).1
  have hmn : (if (n - min keep.toNat n) % 2 = 0 then min keep.toNat n else min keep.toNat n + 1) = k := hk
  clear h hn hk
  go_enter Try.func68, Try.ntmps68
  go_wp2_with fail
  refine HC.out.mono ?_
  rintro e w1 ⟨v, rfl, hown, hb⟩
  have HB := Lib.hid hb
  clear hb
  rcases hown.either (fun p hp => HIL.out p (sortI_mem.1 hp)) with ⟨rfl, hnil⟩ | ⟨g, off, cap, rfl, hnums, hg0, hg1, hcap⟩
  · have hn0 : n = 0 := by rw [← HN.out, ← sortI_len L, hnil]; rfl
    subst hn0
    have hk0 : k = 0 := by omega
    subst hk0
    have HF : Hid (RefSplit w1 w.heap.size none none 0 0 0 0 keep L) := Lib.hid (by
      obtain ⟨l1, l2⟩ := stay_len keep L
      rw [HN.out, HK.out] at l1 l2
      refine ⟨?_, l1, ?_, l2, fun a e => (by cases e), fun a e => (by cases e)⟩
      · rw [List.eq_nil_of_length_eq_zero l1]; exact Nums.nil _ _
      · rw [List.eq_nil_of_length_eq_zero l2]; exact Nums.nil _ _)
    clear hown hnil
    by_cases hm0 : keep < 0
    · have m0 : max keep 0 = 0 := by omega
      clear hmn
      go_wp2_with fail
      go_quiet (fail)
      rename_i nq
      go_wp2_with fail
      go_ret2
      exact ⟨_, _, _, _, _, _, rfl, HF.out.call (below_drewN (Below.refl _ _) nq), below_drewN HB.out nq⟩
    · by_cases hm1 : keep = 0
      · subst hm1
        clear hmn
        go_wp2_with fail
        go_quiet (fail)
        rename_i nq
        go_wp2_with fail
        go_ret2
        exact ⟨_, _, _, _, _, _, rfl, HF.out.call (below_drewN (Below.refl _ _) nq), below_drewN HB.out nq⟩
      · have f1 : (0 : Int) < keep := by omega
        clear hmn
        go_wp2_with fail
        go_quiet (fail)
        rename_i nq
        go_wp2_with fail
        go_ret2
        exact ⟨_, _, _, _, _, _, rfl, HF.out.call (below_drewN (Below.refl _ _) nq), below_drewN HB.out nq⟩
  · rw [sortI_len, HN.out] at hcap ⊢
    have HNU := Lib.hid hnums
    clear hown hnums
    by_cases hm0 : keep < 0
    · have m0 : max keep 0 = 0 := by omega
      rw [show keep.toNat = 0 by omega, Nat.zero_min, Nat.sub_zero] at hmn
      by_cases hpar : n % 2 = 0
      · rw [if_pos hpar] at hmn
        subst hmn
        have t1 : (n : Int).tmod 2 = 0 := by rw [Int.tmod_eq_emod_of_nonneg (by omega)]; omega
        have t2 : (n : Int) % 2 = 0 := by omega
        have p2 : (0 : Int) ≤ cap := by omega
        have p3 : 0 ≤ cap := by omega
        have p4 : (n : Int) ≤ cap := by omega
        have p5 : (0 : Int) ≤ n := by omega
        by_cases hck : cap = 0
        · obtain hnk : n = 0 := by omega
          have HF := Lib.hid (refsplit_of (c := cap) (d := 0) HN.out HK.out HNU.out hg0 (Or.inr ⟨hnk, rfl⟩))
          have z0 : n - 0 = 0 := by omega
          rw [z0] at HF
          go_wp2_with fail
          go_quiet (fail)
          rename_i nq
          go_wp2_with fail
          go_ret2
          first | exact ⟨_, _, _, _, _, _, rfl, HF.out.call (below_drewN (Below.refl _ _) nq), below_drewN HB.out nq⟩ | (simp only [hck, hnk, Nat.sub_self] at HF ⊢; exact ⟨_, _, _, _, _, _, rfl, HF.out.call (below_drewN (Below.refl _ _) nq), below_drewN HB.out nq⟩)
        · have HF := Lib.hid (refsplit_of (c := cap) (d := cap - 0) HN.out HK.out HNU.out hg0 (Or.inl rfl))
          go_wp2_with fail
          go_quiet (fail)
          rename_i nq
          go_wp2_with fail
          go_ret2
          first | exact ⟨_, _, _, _, _, _, rfl, HF.out.call (below_drewN (Below.refl _ _) nq), below_drewN HB.out nq⟩ | (simp only [Nat.sub_self, Nat.sub_zero] at HF ⊢; exact ⟨_, _, _, _, _, _, rfl, HF.out.call (below_drewN (Below.refl _ _) nq), below_drewN HB.out nq⟩)
      · rw [if_neg hpar] at hmn
        obtain rfl : 1 = k := by omega
        have t1 : (n : Int).tmod 2 = 1 := by rw [Int.tmod_eq_emod_of_nonneg (by omega)]; omega
        have t2 : (n : Int) % 2 = 1 := by omega
        have p2 : (1 : Int) ≤ cap := by omega
        have p3 : 1 ≤ cap := by omega
        have p4 : (n : Int) ≤ cap := by omega
        have p5 : (1 : Int) ≤ n := by omega
        by_cases hck : cap = 1
        · obtain hnk : n = 1 := by omega
          have HF := Lib.hid (refsplit_of (c := cap) (d := 0) HN.out HK.out HNU.out hg0 (Or.inr ⟨hnk, rfl⟩))
          have z0 : n - 1 = 0 := by omega
          rw [z0] at HF
          go_wp2_with fail
          go_quiet (fail)
          rename_i nq
          go_wp2_with fail
          go_ret2
          first | exact ⟨_, _, _, _, _, _, rfl, HF.out.call (below_drewN (Below.refl _ _) nq), below_drewN HB.out nq⟩ | (simp only [hck, hnk, Nat.sub_self] at HF ⊢; exact ⟨_, _, _, _, _, _, rfl, HF.out.call (below_drewN (Below.refl _ _) nq), below_drewN HB.out nq⟩)
        · have HF := Lib.hid (refsplit_of (c := cap) (d := cap - 1) HN.out HK.out HNU.out hg0 (Or.inl rfl))
          go_wp2_with fail
          go_quiet (fail)
          rename_i nq
          go_wp2_with fail
          go_ret2
          first | exact ⟨_, _, _, _, _, _, rfl, HF.out.call (below_drewN (Below.refl _ _) nq), below_drewN HB.out nq⟩ | (simp only [Nat.sub_self, Nat.sub_zero] at HF ⊢; exact ⟨_, _, _, _, _, _, rfl, HF.out.call (below_drewN (Below.refl _ _) nq), below_drewN HB.out nq⟩)
    · obtain ⟨m, rfl⟩ : ∃ m : Nat, keep = m := ⟨keep.toNat, by omega⟩
      rw [show ((m : Int)).toNat = m by omega] at hmn
      have m0 : max (m : Int) 0 = m := by omega
      by_cases hmn1 : n < m
      · have f1 : (n : Int) < m := by omega
        obtain rfl : n = k := by
          rw [Nat.min_eq_right (by omega), Nat.sub_self] at hmn
          simpa using hmn
        clear hmn
        have p2 : (n : Int) ≤ cap := by omega
        have p3 : n ≤ cap := by omega
        have p4 : (n : Int) ≤ cap := by omega
        have p5 : (n : Int) ≤ n := by omega
        by_cases hck : cap = n
        · obtain hnk : n = n := by omega
          have HF := Lib.hid (refsplit_of (c := cap) (d := 0) HN.out HK.out HNU.out hg0 (Or.inr ⟨hnk, rfl⟩))
          have z0 : n - n = 0 := by omega
          rw [z0] at HF
          go_wp2_with fail
          go_quiet (fail)
          rename_i nq
          go_wp2_with fail
          go_ret2
          first | exact ⟨_, _, _, _, _, _, rfl, HF.out.call (below_drewN (Below.refl _ _) nq), below_drewN HB.out nq⟩ | (simp only [hck, hnk, Nat.sub_self] at HF ⊢; exact ⟨_, _, _, _, _, _, rfl, HF.out.call (below_drewN (Below.refl _ _) nq), below_drewN HB.out nq⟩)
        · have HF := Lib.hid (refsplit_of (c := cap) (d := cap - n) HN.out HK.out HNU.out hg0 (Or.inl rfl))
          go_wp2_with fail
          go_quiet (fail)
          rename_i nq
          go_wp2_with fail
          go_ret2
          first | exact ⟨_, _, _, _, _, _, rfl, HF.out.call (below_drewN (Below.refl _ _) nq), below_drewN HB.out nq⟩ | (simp only [Nat.sub_self, Nat.sub_zero] at HF ⊢; exact ⟨_, _, _, _, _, _, rfl, HF.out.call (below_drewN (Below.refl _ _) nq), below_drewN HB.out nq⟩)
      · have f1 : ¬ (n : Int) < m := by omega
        rw [Nat.min_eq_left (by omega)] at hmn
        by_cases hpar : (n - m) % 2 = 0
        · rw [if_pos hpar] at hmn
          subst hmn
          have t1 : ((n : Int) - (m : Int)).tmod 2 = 0 := by rw [Int.tmod_eq_emod_of_nonneg (by omega)]; omega
          have t2 : ((n : Int) - (m : Int)) % 2 = 0 := by omega
          have p2 : (m : Int) ≤ cap := by omega
          have p3 : m ≤ cap := by omega
          have p4 : (n : Int) ≤ cap := by omega
          have p5 : (m : Int) ≤ n := by omega
          by_cases hck : cap = m
          · obtain hnk : n = m := by omega
            have HF := Lib.hid (refsplit_of (c := cap) (d := 0) HN.out HK.out HNU.out hg0 (Or.inr ⟨hnk, rfl⟩))
            have z0 : n - m = 0 := by omega
            rw [z0] at HF
            go_wp2_with fail
            go_quiet (fail)
            rename_i nq
            go_wp2_with fail
            go_ret2
            first | exact ⟨_, _, _, _, _, _, rfl, HF.out.call (below_drewN (Below.refl _ _) nq), below_drewN HB.out nq⟩ | (simp only [hck, hnk, Nat.sub_self] at HF ⊢; exact ⟨_, _, _, _, _, _, rfl, HF.out.call (below_drewN (Below.refl _ _) nq), below_drewN HB.out nq⟩)
          · have HF := Lib.hid (refsplit_of (c := cap) (d := cap - m) HN.out HK.out HNU.out hg0 (Or.inl rfl))
            go_wp2_with fail
            go_quiet (fail)
            rename_i nq
            go_wp2_with fail
            go_ret2
            first | exact ⟨_, _, _, _, _, _, rfl, HF.out.call (below_drewN (Below.refl _ _) nq), below_drewN HB.out nq⟩ | (simp only [Nat.sub_self, Nat.sub_zero] at HF ⊢; exact ⟨_, _, _, _, _, _, rfl, HF.out.call (below_drewN (Below.refl _ _) nq), below_drewN HB.out nq⟩)
        · rw [if_neg hpar] at hmn
          have t1 : ((n : Int) - (m : Int)).tmod 2 = 1 := by rw [Int.tmod_eq_emod_of_nonneg (by omega)]; omega
          have t2 : ((n : Int) - (m : Int)) % 2 = 1 := by omega
          have t3 : (m : Int) + 1 = k := by omega
          have p2 : (k : Int) ≤ cap := by omega
          have p3 : k ≤ cap := by omega
          have p4 : (n : Int) ≤ cap := by omega
          have p5 : (k : Int) ≤ n := by omega
          by_cases hck : cap = k
          · obtain hnk : n = k := by omega
            have HF := Lib.hid (refsplit_of (c := cap) (d := 0) HN.out HK.out HNU.out hg0 (Or.inr ⟨hnk, rfl⟩))
            have z0 : n - k = 0 := by omega
            rw [z0] at HF
            go_wp2_with fail
            go_quiet (fail)
            rename_i nq
            go_wp2_with fail
            go_ret2
            first | exact ⟨_, _, _, _, _, _, rfl, HF.out.call (below_drewN (Below.refl _ _) nq), below_drewN HB.out nq⟩ | (simp only [hck, hnk, Nat.sub_self] at HF ⊢; exact ⟨_, _, _, _, _, _, rfl, HF.out.call (below_drewN (Below.refl _ _) nq), below_drewN HB.out nq⟩)
          · have HF := Lib.hid (refsplit_of (c := cap) (d := cap - k) HN.out HK.out HNU.out hg0 (Or.inl rfl))
            go_wp2_with fail
            go_quiet (fail)
            rename_i nq
            go_wp2_with fail
            go_ret2
            first | exact ⟨_, _, _, _, _, _, rfl, HF.out.call (below_drewN (Below.refl _ _) nq), below_drewN HB.out nq⟩ | (simp only [Nat.sub_self, Nat.sub_zero] at HF ⊢; exact ⟨_, _, _, _, _, _, rfl, HF.out.call (below_drewN (Below.refl _ _) nq), below_drewN HB.out nq⟩)
end Go.Proofs.Ytbdfmnlfdhhnjaa

/-
  Things that keep blocks of their own: what a call on one leaves alone.
-/
namespace Go.Proofs.Ytbdfmnlfdhhnjaa
set_option linter.unusedVariables false
set_option linter.unusedSimpArgs false
open Go.RowKit

/-- All blocks but those of S are as they were. -/
structure Keeps (S : Nat → Prop) (w w' : World) : Prop where
  os : w'.os = w.os
  tape : w'.tape = w.tape
  output : w'.output = w.output
  size : w.heap.size ≤ w'.heap.size
  block : ∀ k, k < w.heap.size → ¬ S k → w'.heap[k]? = w.heap[k]?
theorem Keeps.refl (S : Nat → Prop) (w : World) : Keeps S w w := ⟨rfl, rfl, rfl, Nat.le_refl _, fun _ _ _ => rfl⟩
theorem Keeps.of_below {S : Nat → Prop} {w w' : World} (h : Below w.heap.size w w') : Keeps S w w' := ⟨h.os, h.tape, h.output, h.size, fun k hk _ => h.block k hk⟩
/-- Behind a call on a thing whose blocks are all new since a: all that a had is as it was. -/
theorem Keeps.below {S : Nat → Prop} {n : Nat} {a w w' : World} (h : Below n a w) (k : Keeps S w w') (hn : n ≤ w.heap.size) (hS : ∀ i, S i → n ≤ i) : Below n a w' :=
  ⟨k.os.trans h.os, k.tape.trans h.tape, k.output.trans h.output, Nat.le_trans h.size k.size, fun i hi => (k.block i (by omega) (fun hs => by have := hS i hs; omega)).trans (h.block i hi)⟩
theorem Keeps.cell {S : Nat → Prop} {w w' : World} (k : Keeps S w w') {b o : Nat} {v : Value} (hb : ¬ S b) (h : w.cell? ⟨b, o, none⟩ = some v) : w'.cell? ⟨b, o, none⟩ = some v := by
  have hlt := World.block_lt_of_cell? (a := ⟨b, o, none⟩) w h
  exact (World.cell?_of_block (a := ⟨b, o, none⟩) (k.block b hlt hb)).trans h
end Go.Proofs.Ytbdfmnlfdhhnjaa

/-
  The reference's tower in memory (layer 21).
-/
namespace Go.Proofs.Ytbdfmnlfdhhnjaa
set_option linter.unusedVariables false
set_option linter.unusedSimpArgs false
open Go.RowKit

theorem grown21_put (w : World) (g o : Nat) (v : Value) : w.grownBy (w.setCell ⟨g, o, none⟩ v) (some g) :=
  ⟨rfl, rfl, rfl, by simp [World.setCell], fun k _ hr => Below.heap_setCell w _ _ k (fun e => hr (by rw [e]))⟩
def lsI (R : List RowI) : List (List Int) := R.map RowI.l
/-- A row of a tower: read, and lying apart from the tower's block and from the heads'. -/
def RowAp (w : World) (M : Nat) (hv : Value) (r : RowI) : Prop := Nums w r.a r.l ∧ ∀ a, r.a = some a → a.block < w.heap.size ∧ a.block ≠ M ∧ hv.ownBlock ≠ some a.block
theorem RowAp.call {w w' : World} {M : Nat} {hv : Value} {r : RowI} (h : RowAp w M hv r) (hb : Below w.heap.size w w') : RowAp w' M hv r :=
  ⟨h.1.call hb, fun a ha => ⟨Nat.lt_of_lt_of_le (h.2 a ha).1 hb.size, (h.2 a ha).2⟩⟩
theorem RowAp.grown {w w' : World} {M : Nat} {hv : Value} {r : RowI} {q : Option Nat} (h : RowAp w M hv r) (hg : w.grownBy w' q) (hq : q = some M ∨ q = hv.ownBlock) : RowAp w' M hv r :=
  ⟨h.1.grown hg (fun a ha e => by
    rcases hq with hq | hq
    · rw [hq] at e; exact (h.2 a ha).2.1 (Option.some.inj e)
    · rw [hq] at e; exact (h.2 a ha).2.2 e.symm), fun a ha => ⟨Nat.lt_of_lt_of_le (h.2 a ha).1 hg.size, (h.2 a ha).2⟩⟩
/-- The tower's own cells. -/
structure HeadT (w : World) (M : Nat) (B word : Int) (u : Nat) (hv : Value) : Prop where
  c0 : w.cell? ⟨M, 0, none⟩ = some (.int .i64 B)
  c1 : w.cell? ⟨M, 1, none⟩ = some (.int .u64 word)
  c2 : w.cell? ⟨M, 2, none⟩ = some (.int .i64 u)
  c3 : w.cell? ⟨M, 3, none⟩ = some hv
  f0 : ∀ o, w.frozen? ⟨M, o, none⟩ = false
theorem HeadT.lt {w : World} {M : Nat} {B word : Int} {u : Nat} {hv : Value} (h : HeadT w M B word u hv) : M < w.heap.size := World.block_lt_of_cell? (a := ⟨M, 0, none⟩) w h.c0
theorem HeadT.grown {w w' : World} {M : Nat} {B word : Int} {u : Nat} {hv : Value} {r : Option Nat} (h : HeadT w M B word u hv) (hg : w.grownBy w' r) (hr : r ≠ some M) : HeadT w' M B word u hv :=
  ⟨hg.cell h.c0 hr.symm, hg.cell h.c1 hr.symm, hg.cell h.c2 hr.symm, hg.cell h.c3 hr.symm, fun o => (World.frozen?_of_block (a := ⟨M, o, none⟩) (hg.block M h.lt hr.symm)).trans (h.f0 o)⟩
theorem HeadT.call {w w' : World} {M : Nat} {B word : Int} {u : Nat} {hv : Value} (h : HeadT w M B word u hv) (hb : Below w.heap.size w w') : HeadT w' M B word u hv :=
  ⟨cell_later hb h.c0, cell_later hb h.c1, cell_later hb h.c2, cell_later hb h.c3, fun o => (World.frozen?_of_block (a := ⟨M, o, none⟩) (hb.block M h.lt)).trans (h.f0 o)⟩
theorem HeadT.used {w : World} {M : Nat} {B word : Int} {u : Nat} {hv : Value} (h : HeadT w M B word u hv) (u' : Nat) : HeadT (w.setCell ⟨M, 2, none⟩ (.int .i64 u')) M B word u' hv :=
  ⟨by rw [World.cell?_setCell_other _ _ _ _ (two_off (by omega))]; exact h.c0, by rw [World.cell?_setCell_other _ _ _ _ (two_off (by omega))]; exact h.c1, World.cell?_setCell_same _ _ _ h.c2, by rw [World.cell?_setCell_other _ _ _ _ (two_off (by omega))]; exact h.c3, fun o => by rw [World.frozen?_setCell]; exact h.f0 o⟩
theorem HeadT.heads {w : World} {M : Nat} {B word : Int} {u : Nat} {hv : Value} (h : HeadT w M B word u hv) (hv' : Value) : HeadT (w.setCell ⟨M, 3, none⟩ hv') M B word u hv' :=
  ⟨by rw [World.cell?_setCell_other _ _ _ _ (two_off (by omega))]; exact h.c0, by rw [World.cell?_setCell_other _ _ _ _ (two_off (by omega))]; exact h.c1, by rw [World.cell?_setCell_other _ _ _ _ (two_off (by omega))]; exact h.c2, World.cell?_setCell_same _ _ _ h.c3, fun o => by rw [World.frozen?_setCell]; exact h.f0 o⟩
/-- The reference's tower: a block of four cells (width, word, coins used, rows), the block of its rows' heads, and where the rows lie. -/
structure RefT (w : World) (M : Nat) (B word : Int) (u : Nat) (hv : Value) (R : List RowI) : Prop extends HeadT w M B word u hv where
  head : OwnI w 0 hv R
  nM : hv.ownBlock ≠ some M
  row : ∀ r, r ∈ R → RowAp w M hv r
theorem RefT.lt {w : World} {M : Nat} {B word : Int} {u : Nat} {hv : Value} {R : List RowI} (h : RefT w M B word u hv R) : M < w.heap.size := h.toHeadT.lt
theorem RefT.call {w w' : World} {M : Nat} {B word : Int} {u : Nat} {hv : Value} {R : List RowI} (h : RefT w M B word u hv R) (hb : Below w.heap.size w w') : RefT w' M B word u hv R :=
  { h.toHeadT.call hb with head := h.head.call hb, nM := h.nM, row := fun r hr => (h.row r hr).call hb }
/-- One coin more was used. -/
theorem RefT.used {w : World} {M : Nat} {B word : Int} {u : Nat} {hv : Value} {R : List RowI} (h : RefT w M B word u hv R) (u' : Nat) : RefT (w.setCell ⟨M, 2, none⟩ (.int .i64 u')) M B word u' hv R :=
  have hg := grown21_put w M 2 (.int .i64 u')
  { h.toHeadT.used u' with head := h.head.other hg (Or.inr h.nM), nM := h.nM, row := fun r hr => (h.row r hr).grown hg (Or.inl rfl) }
/-- Other heads. -/
theorem HeadT.rows {w : World} {M : Nat} {B word : Int} {u : Nat} {hv hv' : Value} {R' : List RowI} (h : HeadT w M B word u hv) (ho : OwnI w 0 hv' R') (hn : hv'.ownBlock ≠ some M)
    (hr' : ∀ r, r ∈ R' → RowAp w M hv' r) : RefT (w.setCell ⟨M, 3, none⟩ hv') M B word u hv' R' :=
  have hg := grown21_put w M 3 hv'
  { h.heads hv' with head := ho.other hg (Or.inr hn), nM := hn, row := fun r hr => (hr' r hr).grown hg (Or.inl rfl) }
/-- Another row. -/
theorem RefT.put {w : World} {M g n cap i p k : Nat} {B word : Int} {u : Nat} {R : List RowI} {a : Option Addr} {l : List Int} (h : RefT w M B word u (.slice (some ⟨g, 0, none⟩) n cap) R) (hl : R.length = n) (hi : i < n) (hp : l.length = p)
    (hr' : RowAp w M (.slice (some ⟨g, 0, none⟩) n cap) ⟨a, l, k⟩) : RefT (w.setCell ⟨g, i, none⟩ (.slice a p k)) M B word u (.slice (some ⟨g, 0, none⟩) n cap) (R.set i ⟨a, l, k⟩) := by
  subst hp
  have hg := grown21_put w g i (.slice a l.length k)
  refine { h.toHeadT.grown hg (fun e => h.nM e) with head := h.head.put ⟨a, l, k⟩ hl hi, nM := h.nM, row := fun q hq => ?_ }
  rcases List.mem_or_eq_of_mem_set hq with hq | rfl
  · exact (h.row q hq).grown hg (Or.inr rfl)
  · exact hr'.grown hg (Or.inr rfl)

set_option maxRecDepth 100000 in
set_option maxHeartbeats 1000000 in
theorem rnew21_any (w : World) (B word : Int) (hB : I64 B) (hw : Word word) :
    Calls Try.prog 35 #[.int .i64 B, .int .u64 word] w fun e w' => ∃ M hv, e = .returned (.pointer (some ⟨M, 0, none⟩)) ∧ RefT w' M B word 0 hv [⟨none, [], 0⟩] ∧ w.heap.size ≤ M ∧ (∀ g, hv.ownBlock = some g → w.heap.size ≤ g) ∧ Below w.heap.size w w' := by
  have z1 : (w.alloc (.cells #[.slice none 0 0] 62)).heap.size = w.heap.size + 1 := by simp
  have HB : Hid (Below w.heap.size w ((w.alloc (.cells #[.slice none 0 0] 62)).alloc (.cells #[.int .i64 B, .int .u64 word, .int .i64 0, .slice (some ⟨w.heap.size, 0, none⟩) 1 1] 76))) := Lib.hid (((Below.refl _ _).alloc (Nat.le_refl _) _).alloc (by rw [z1]; omega) _)
  have hO : OwnI (w.alloc (.cells #[.slice none 0 0] 62)) 0 (.slice (some ⟨w.heap.size, 0, none⟩) 1 1) [⟨none, [], 0⟩] :=
    ⟨rfl, Or.inr ⟨w.heap.size, 1, #[.slice none 0 0], rfl, Nat.zero_le _, new_cells20 w _, Nat.le_refl _, by unfold maxLen; omega, rfl, rfl⟩⟩
  have hblk := new_cells20 (w.alloc (.cells #[.slice none 0 0] 62)) (.cells #[.int .i64 B, .int .u64 word, .int .i64 0, .slice (some ⟨w.heap.size, 0, none⟩) 1 1] 76)
  rw [z1] at hblk
  have HT : Hid (RefT ((w.alloc (.cells #[.slice none 0 0] 62)).alloc (.cells #[.int .i64 B, .int .u64 word, .int .i64 0, .slice (some ⟨w.heap.size, 0, none⟩) 1 1] 76)) (w.heap.size + 1) B word 0 (.slice (some ⟨w.heap.size, 0, none⟩) 1 1) [⟨none, [], 0⟩]) := Lib.hid {
    c0 := by rw [Joins.cell_of_block (i := 0) hblk]; rfl
    c1 := by rw [Joins.cell_of_block (i := 1) hblk]; rfl
    c2 := by rw [Joins.cell_of_block (i := 2) hblk]; rfl
    c3 := by rw [Joins.cell_of_block (i := 3) hblk]; rfl
    f0 := fun o => frozen_of_row _ _ _ _ _ hblk
    head := hO.call ((Below.refl _ _).alloc (Nat.le_refl _) _)
    nM := fun e => by have := Option.some.inj e; have e2 : w.heap.size = w.heap.size + 1 := this; omega
    row := fun r hr => by
      rw [List.mem_singleton.1 hr]
      exact ⟨Nums.nil _ _, fun a ha => by cases ha⟩ }
  clear z1 hO hblk
  go_enter Try.func35, Try.ntmps35
  go_wp2_with fail
  go_ret
  exact ⟨_, _, rfl, HT.out, by omega, fun g hg => by have := Option.some.inj hg; have e2 : w.heap.size = g := this; omega, HB.out⟩
end Go.Proofs.Ytbdfmnlfdhhnjaa

/-
  The reference's tower of layer 21 settled: plain, and what is kept on the way.
-/
namespace Go.Proofs.Ytbdfmnlfdhhnjaa
set_option linter.unusedVariables false
set_option linter.unusedSimpArgs false
open Go.RowKit

theorem splitAt_succ (B : Int) (b : Bool) (h : Nat) (r x : List Int) (R : List (List Int)) : splitAt B b (h + 1) r (x :: R) = x :: splitAt B b h r R := rfl
theorem split_last {B : Int} {b : Bool} : ∀ {R : List (List Int)} {h : Nat} {r : List Int}, R[h]? = some r → h + 1 = R.length → splitAt B b h r R = ((R ++ [[]]).set h (stayL (B / 2) r)).set (h + 1) ([] ++ goR B b r)
  | [], h, r, hr, _ => by simp at hr
  | [x], 0, r, hr, _ => rfl
  | x :: y :: R, 0, r, hr, hl => by simp at hl
  | x :: R, h + 1, r, hr, hl => by
    rw [splitAt_succ, split_last (R := R) (h := h) (r := r) (by simpa using hr) (by simpa using hl)]
    rfl
theorem split_mid {B : Int} {b : Bool} : ∀ {R : List (List Int)} {h : Nat} {r q : List Int}, R[h]? = some r → R[h + 1]? = some q → splitAt B b h r R = (R.set h (stayL (B / 2) r)).set (h + 1) (q ++ goR B b r)
  | [], h, r, q, hr, _ => by simp at hr
  | [x], 0, r, q, hr, hq => by simp at hq
  | x :: y :: R, 0, r, q, hr, hq => by
    have e : y = q := by simpa using hq
    subst e; rfl
  | x :: R, h + 1, r, q, hr, hq => by
    rw [splitAt_succ, split_mid (R := R) (h := h) (r := r) (q := q) (by simpa using hr) (by simpa using hq)]
    rfl
theorem ls_set (R : List RowI) (i : Nat) (r : RowI) : lsI (R.set i r) = (lsI R).set i r.l := by unfold lsI; rw [List.map_set]
theorem ls_app (R S : List RowI) : lsI (R ++ S) = lsI R ++ lsI S := by unfold lsI; rw [List.map_append]
theorem ls_at {R : List RowI} {i : Nat} {r : RowI} (h : R[i]? = some r) : (lsI R)[i]? = some r.l := by unfold lsI; rw [List.getElem?_map, h]; rfl
theorem ls_len (R : List RowI) : (lsI R).length = R.length := by unfold lsI; rw [List.length_map]
theorem fuel_le (R : List (List Int)) : R.length ≤ fuelR R := by unfold fuelR; omega
theorem fuel_at : ∀ {R : List (List Int)} {i : Nat} {r : List Int}, R[i]? = some r → r.length ≤ fuelR R
  | [], i, r, h => by simp at h
  | x :: R, 0, r, h => by
    have e : x = r := by simpa using h
    subst e; rw [fuel_cons]; omega
  | x :: R, i + 1, r, h => by
    have := fuel_at (R := R) (i := i) (r := r) (by simpa using h)
    rw [fuel_cons]; omega
theorem fuel_drop_at {R : List (List Int)} {h i : Nat} {r : List Int} (hr : R[h + i]? = some r) : r.length ≤ fuelR (R.drop h) := fuel_at (i := i) (by rw [List.getElem?_drop]; exact hr)
theorem fuel_drop_len (R : List (List Int)) (h : Nat) (hh : h ≤ R.length) : R.length ≤ h + fuelR (R.drop h) := by
  have := fuel_le (R.drop h)
  rw [List.length_drop] at this
  omega

/-- What lies where, on the way. -/
structure Along (w : World) (M : Nat) (hv0 : Value) (R0 : List RowI) (wr : World) (hv : Value) (R : List RowI) : Prop where
  heads : hv.ownBlock = hv0.ownBlock ∨ ∀ g, hv.ownBlock = some g → w.heap.size ≤ g
  rows : ∀ r, r ∈ R → r ∈ R0 ∨ ∀ a, r.a = some a → w.heap.size ≤ a.block
  keeps : Keeps (fun k => k = M ∨ hv0.ownBlock = some k) w wr
theorem Along.refl (w : World) (M : Nat) (hv : Value) (R : List RowI) : Along w M hv R w hv R := ⟨Or.inl rfl, fun r hr => Or.inl hr, Keeps.refl _ _⟩
theorem Keeps.grown {S : Nat → Prop} {w w1 w2 : World} {r : Option Nat} (k : Keeps S w w1) (g : w1.grownBy w2 r) (hr : ∀ j, r = some j → S j ∨ w.heap.size ≤ j) : Keeps S w w2 :=
  ⟨g.os.trans k.os, g.tape.trans k.tape, g.output.trans k.output, Nat.le_trans k.size g.size, fun i hi hn => (g.block i (Nat.lt_of_lt_of_le hi k.size) (fun e => by
    rcases hr i e.symm with h | h
    · exact hn h
    · omega)).trans (k.block i hi hn)⟩
theorem Along.below {w wr w' : World} {M : Nat} {hv0 hv : Value} {R0 R : List RowI} (h : Along w M hv0 R0 wr hv R) (hb : Below wr.heap.size wr w') : Along w M hv0 R0 w' hv R :=
  ⟨h.heads, h.rows, ⟨hb.os.trans h.keeps.os, hb.tape.trans h.keeps.tape, hb.output.trans h.keeps.output, Nat.le_trans h.keeps.size hb.size, fun i hi hn => (hb.block i (Nat.lt_of_lt_of_le hi h.keeps.size)).trans (h.keeps.block i hi hn)⟩⟩
theorem Along.used {w wr : World} {M o : Nat} {hv0 hv : Value} {R0 R : List RowI} (h : Along w M hv0 R0 wr hv R) (v : Value) : Along w M hv0 R0 (wr.setCell ⟨M, o, none⟩ v) hv R :=
  ⟨h.heads, h.rows, h.keeps.grown (grown21_put wr M o v) (fun j e => Or.inl (Or.inl (Option.some.inj e).symm))⟩
theorem Along.put {w wr : World} {M g n cap i : Nat} {hv0 : Value} {R0 R : List RowI} {r : RowI} (h : Along w M hv0 R0 wr (.slice (some ⟨g, 0, none⟩) n cap) R) (hr : ∀ a, r.a = some a → w.heap.size ≤ a.block) (v : Value) : Along w M hv0 R0 (wr.setCell ⟨g, i, none⟩ v) (.slice (some ⟨g, 0, none⟩) n cap) (R.set i r) :=
  ⟨h.heads, fun q hq => by
    rcases List.mem_or_eq_of_mem_set hq with hq | rfl
    · exact h.rows q hq
    · exact Or.inr hr, h.keeps.grown (grown21_put wr g i v) (fun j e => by
    have e' : g = j := Option.some.inj e
    subst e'
    rcases h.heads with h1 | h1
    · exact Or.inl (Or.inr h1.symm)
    · exact Or.inr (h1 g rfl))⟩
/-- A new, empty row. -/
theorem Along.more {w wr w' : World} {M g g' n n' cap cap' : Nat} {hv0 : Value} {R0 R : List RowI} (h : Along w M hv0 R0 wr (.slice (some ⟨g, 0, none⟩) n cap) R) (hg : wr.grownBy w' (some g)) (hn : g' = g ∨ w.heap.size ≤ g') (v : Value) :
    Along w M hv0 R0 (w'.setCell ⟨M, 3, none⟩ v) (.slice (some ⟨g', 0, none⟩) n' cap') (R ++ [⟨none, [], 0⟩]) :=
  have hk : Keeps (fun k => k = M ∨ hv0.ownBlock = some k) w w' := h.keeps.grown hg (fun j e => by
    have e' : g = j := Option.some.inj e
    subst e'
    rcases h.heads with h1 | h1
    · exact Or.inl (Or.inr h1.symm)
    · exact Or.inr (h1 g rfl))
  ⟨by
    rcases hn with rfl | hn
    · rcases h.heads with h1 | h1
      · exact Or.inl h1
      · exact Or.inr h1
    · exact Or.inr fun j e => by cases e; exact hn, fun r hr => by
    rcases List.mem_append.1 hr with hr | hr
    · exact h.rows r hr
    · rw [List.mem_singleton.1 hr]; exact Or.inr fun a ha => (by cases ha), hk.grown (grown21_put w' M 3 v) (fun j e => Or.inl (Or.inl (Option.some.inj e).symm))⟩

/-- One way behind another. -/
theorem Along.after {w w1 w2 : World} {M : Nat} {hv0 hv1 hv2 : Value} {R0 R1 R2 : List RowI} (h1 : Along w M hv0 R0 w1 hv1 R1) (h2 : Along w1 M hv1 R1 w2 hv2 R2) : Along w M hv0 R0 w2 hv2 R2 := by
  have hz := h1.keeps.size
  refine ⟨?_, fun r hr => ?_, ⟨h2.keeps.os.trans h1.keeps.os, h2.keeps.tape.trans h1.keeps.tape, h2.keeps.output.trans h1.keeps.output, Nat.le_trans hz h2.keeps.size, fun i hi hn => ?_⟩⟩
  · rcases h2.heads with e | e
    · rcases h1.heads with f | f
      · exact Or.inl (e.trans f)
      · exact Or.inr fun g hg => f g (by rw [← e]; exact hg)
    · exact Or.inr fun g hg => Nat.le_trans hz (e g hg)
  · rcases h2.rows r hr with e | e
    · exact h1.rows r e
    · exact Or.inr fun a ha => Nat.le_trans hz (e a ha)
  · refine (h2.keeps.block i (Nat.lt_of_lt_of_le hi hz) (fun c => ?_)).trans (h1.keeps.block i hi hn)
    rcases c with c | c
    · exact hn (Or.inl c)
    · rcases h1.heads with f | f
      · exact hn (Or.inr (f.symm.trans c))
      · have := f i c; omega

/-- A tower on its way to be settled. -/
structure OnSet (w : World) (M : Nat) (B word : Int) (U N : Nat) (hv0 : Value) (R0 : List RowI) (F : Tow) (h : Nat) (wr : World) (u : Nat) (hv : Value) (R : List RowI) : Prop where
  t : RefT wr M B word u hv R
  way : OnWay B (coinB word) F h (lsI R) u
  ne : R ≠ []
  fuel : h + fuelR ((lsI R).drop h) ≤ N
  use : u ≤ U + h
  along : Along w M hv0 R0 wr hv R
theorem OnSet.start {w : World} {M : Nat} {B word : Int} {U N : Nat} {hv0 : Value} {R0 : List RowI} (ht : RefT w M B word U hv0 R0) (hne : R0 ≠ []) (hN : fuelR (lsI R0) ≤ N) : OnSet w M B word U N hv0 R0 (towS B (coinB word) (lsI R0, U)) 0 w U hv0 R0 :=
  ⟨ht, onWay_start, hne, by rw [List.drop_zero]; omega, Nat.le_refl _, Along.refl _ _ _ _⟩
theorem OnSet.few {w wr : World} {M U N h u : Nat} {B word : Int} {hv0 hv : Value} {R0 R : List RowI} {F : Tow} (s : OnSet w M B word U N hv0 R0 F h wr u hv R) : R.length ≤ N ∧ h ≤ R.length := by
  have h1 := s.way.1
  have h2 := fuel_drop_len (lsI R) h h1
  have h3 := s.fuel
  rw [ls_len] at h1 h2
  omega
theorem OnSet.short {w wr : World} {M U N h u i : Nat} {B word : Int} {hv0 hv : Value} {R0 R : List RowI} {F : Tow} {r : RowI} (s : OnSet w M B word U N hv0 R0 F h wr u hv R) (hr : R[h + i]? = some r) : r.l.length ≤ N := by
  have h1 := fuel_drop_at (ls_at hr)
  have h3 := s.fuel
  omega
theorem OnSet.next_lt {w wr : World} {M U N h u : Nat} {B word : Int} {hv0 hv : Value} {R0 R : List RowI} {F : Tow} {r : RowI} (s : OnSet w M B word U N hv0 R0 F h wr u hv R) (h4 : B % 4 = 0) (h0 : 4 ≤ B) (hr : R[h]? = some r) (k : (r.l.length : Int) < B) : OnSet w M B word U N hv0 R0 F (h + 1) wr u hv R := by
  obtain ⟨w1, w2⟩ := onWay_lt h4 h0 s.way (ls_at hr) k
  exact ⟨s.t, w1, s.ne, by have := s.fuel; omega, by have := s.use; omega, s.along⟩
theorem OnSet.next_ge {w wr w' : World} {M U N h u : Nat} {B word : Int} {hv0 hv hv' : Value} {R0 R R' : List RowI} {F : Tow} {r : RowI} (s : OnSet w M B word U N hv0 R0 F h wr u hv R) (h4 : B % 4 = 0) (h0 : 4 ≤ B) (hr : R[h]? = some r) (k : ¬ (r.l.length : Int) < B)
    (ht : RefT w' M B word (u + 1) hv' R') (ha : Along w M hv0 R0 w' hv' R') (hl : lsI R' = splitAt B (coinB word u) h r.l (lsI R)) : OnSet w M B word U N hv0 R0 F (h + 1) w' (u + 1) hv' R' := by
  obtain ⟨w1, w2⟩ := onWay_ge h4 h0 s.way (ls_at hr) k
  rw [← hl] at w1 w2
  refine ⟨ht, w1, ?_, by have := s.fuel; omega, by have := s.use; omega, ha⟩
  intro e
  subst e
  have := w1.1
  simp [lsI] at this
/-- The rows behind: one more, or not. -/
theorem rows_last {B : Int} {b : Bool} {h : Nat} {R : List RowI} {r x y : RowI} {G : List Int} (hr : R[h]? = some r) (hl : h + 1 = R.length) (hx : x.l = stayL (B / 2) r.l) (hy : y.l = [] ++ G) (hG : goR B b r.l = G) : lsI (((R ++ [(⟨none, [], 0⟩ : RowI)]).set h x).set (h + 1) y) = splitAt B b h r.l (lsI R) := by
  rw [split_last (ls_at hr) (by rw [ls_len]; exact hl), ls_set, ls_set, ls_app, hx, hy, hG]; rfl
theorem rows_mid {B : Int} {b : Bool} {h : Nat} {R : List RowI} {r q x y : RowI} {G : List Int} (hr : R[h]? = some r) (hq : R[h + 1]? = some q) (hx : x.l = stayL (B / 2) r.l) (hy : y.l = q.l ++ G) (hG : goR B b r.l = G) : lsI ((R.set h x).set (h + 1) y) = splitAt B b h r.l (lsI R) := by
  rw [split_mid (ls_at hr) (ls_at hq), ls_set, ls_set, hx, hy, hG]
theorem RowAp.last {w w' : World} {M g g' n n' cap cap' : Nat} {r : RowI} (h : RowAp w M (.slice (some ⟨g, 0, none⟩) n cap) r) (hg : w.grownBy w' (some g)) (hn : g' = g ∨ w.heap.size ≤ g') (v : Value) : RowAp (w'.setCell ⟨M, 3, none⟩ v) M (.slice (some ⟨g', 0, none⟩) n' cap') r := by
  have k := h.grown hg (Or.inr rfl)
  have k2 := k.grown (grown21_put w' M 3 v) (Or.inl rfl)
  refine ⟨k2.1, fun a ha => ⟨(k2.2 a ha).1, (k2.2 a ha).2.1, ?_⟩⟩
  rcases hn with rfl | hn
  · exact (k2.2 a ha).2.2
  · show (some g' : Option Nat) ≠ some a.block
    intro e
    have e' := Option.some.inj e
    have := (h.2 a ha).1
    omega
theorem RefT.last {w w' : World} {M g g' n n' cap cap' u : Nat} {B word : Int} {R : List RowI} (h : RefT w M B word u (.slice (some ⟨g, 0, none⟩) n cap) R) (hg : w.grownBy w' (some g)) (ho : OwnI w' 0 (.slice (some ⟨g', 0, none⟩) n' cap') (R ++ [⟨none, [], 0⟩])) (hn : g' = g ∨ w.heap.size ≤ g') :
    RefT (w'.setCell ⟨M, 3, none⟩ (.slice (some ⟨g', 0, none⟩) n' cap')) M B word u (.slice (some ⟨g', 0, none⟩) n' cap') (R ++ [⟨none, [], 0⟩]) := by
  have hM : (some g : Option Nat) ≠ some M := h.nM
  refine (h.toHeadT.grown hg hM).rows ho ?_ fun r hr => ?_
  · show (some g' : Option Nat) ≠ some M
    intro e
    have e' := Option.some.inj e
    rcases hn with rfl | hn
    · exact hM e
    · have := h.lt; omega
  · rcases List.mem_append.1 hr with hr | hr
    · have k := (h.row r hr).grown hg (Or.inr rfl)
      refine ⟨k.1, fun a ha => ⟨(k.2 a ha).1, (k.2 a ha).2.1, ?_⟩⟩
      rcases hn with rfl | hn
      · exact (k.2 a ha).2.2
      · show (some g' : Option Nat) ≠ some a.block
        intro e
        have e' := Option.some.inj e
        have := ((h.row r hr).2 a ha).1
        omega
    · rw [List.mem_singleton.1 hr]
      exact ⟨Nums.nil _ _, fun a ha => by cases ha⟩
/-- What settling leaves. -/
def SettledR (w : World) (M : Nat) (B word : Int) (hv : Value) (R : List RowI) (F : Tow) (w' : World) : Prop :=
  ∃ hv' R', RefT w' M B word F.2 hv' R' ∧ lsI R' = F.1 ∧ Along w M hv R w' hv' R'
theorem SettledR.after {w w1 w2 : World} {M : Nat} {B word : Int} {hv0 hv1 : Value} {R0 R1 : List RowI} {F : Tow} (h : SettledR w1 M B word hv1 R1 F w2) (ha : Along w M hv0 R0 w1 hv1 R1) : SettledR w M B word hv0 R0 F w2 := by
  obtain ⟨hv', R', h1, h2, h3⟩ := h
  exact ⟨hv', R', h1, h2, ha.after h3⟩
end Go.Proofs.Ytbdfmnlfdhhnjaa

/-
  The reference's Settle of layer 21. (Written by tools/gen_req_w.py.)
-/
namespace Go.Proofs.Ytbdfmnlfdhhnjaa
set_option linter.unusedVariables false
set_option linter.unusedSimpArgs false
open Go.RowKit

set_option maxRecDepth 100000 in
set_option maxHeartbeats 16000000 in
theorem rsettle21_any (w : World) (M : Nat) (B word : Int) (U : Nat) (hv0 : Value) (R0 : List RowI) (ht : RefT w M B word U hv0 R0) (hne : R0 ≠ []) (h4 : B % 4 = 0) (h0 : 4 ≤ B) (h64 : B ≤ 64) (hw : Word word) (hU : U ≤ 1000000) (hN : fuelR (lsI R0) ≤ 40000) :
    Calls Try.prog 49 #[.pointer (some ⟨M, 0, none⟩)] w fun e w' => e = .returned (.tuple #[]) ∧ SettledR w M B word hv0 R0 (towS B (coinB word) (lsI R0, U)) w' := by
  obtain ⟨F, hF⟩ : ∃ F, towS B (coinB word) (lsI R0, U) = F := ⟨_, rfl⟩
  obtain ⟨N, hNe⟩ : ∃ N, fuelR (lsI R0) = N := ⟨_, rfl⟩
  have HST := Lib.hid (OnSet.start ht hne (Nat.le_of_eq hNe))
  rw [hF] at HST ⊢
  have N4 : N ≤ 40000 := by omega
  have HW := Lib.hid hw
  have HSB : Hid (Keeps (fun k => k = M ∨ hv0.ownBlock = some k) w w) := Lib.hid (Keeps.refl _ _)
  obtain ⟨b2, hb2⟩ : ∃ b2, B / 2 = b2 := ⟨_, rfl⟩
  have t1 : B.tdiv 2 = b2 := by rw [Int.tdiv_eq_ediv_of_nonneg (by omega)]; exact hb2
  have t2 : wrap64 b2 = b2 := by unfold wrap64; omega
  have t3 : IntKind.i64.wrap b2 = b2 := by rw [IntKind.wrap_i64]; omega
  have HB2 := Lib.hid hb2
  have hb2i : I64 b2 := ⟨by omega, by omega⟩
  have HBI := Lib.hid hb2i
  clear hF hNe hN ht hne hw hb2 hb2i
  go_enter Try.func49, Try.ntmps49
  go_wp2_with fail
  go_loopg [2] N (fun g sv wr => ∃ (h u : Nat) (hv : Value) (R : List RowI), g = N - h ∧ sv = .int .i64 h ∧ OnSet w M B word U N hv0 R0 F h wr u hv R)
  case atStart => exact ⟨0, U, hv0, R0, rfl, rfl, HST.out⟩
  case round =>
    obtain ⟨h, u, hv, R, hgk, rfl, hs⟩ := hrel
    have HS := Lib.hid hs
    obtain ⟨n, hn⟩ : ∃ n, R.length = n := ⟨_, rfl⟩
    have hfew := hs.few
    rw [hn] at hfew
    have hn1 : 1 ≤ n := by
      cases R with
      | nil => exact absurd rfl hs.ne
      | cons a b => rw [← hn]; simp
    obtain ⟨G, cap, rfl, _, hG1, hcap⟩ := hs.t.head.some_ (by rw [hn]; exact hn1)
    rw [hn] at HS hcap
    have ht := HS.out.t
    have hu : u ≤ 1040000 := by have := hs.use; omega
    have c0 := ht.c0
    have c1 := ht.c1
    have c2 := ht.c2
    have c3 := ht.c3
    have HT := Lib.hid ht
    have HN := Lib.hid hn
    have HG1 := Lib.hid hG1
    clear hs
    by_cases hlt : h < n
    · have kk : (h : Int) < n := by omega
      obtain ⟨r, hr⟩ : ∃ r, R[h]? = some r := ⟨_, List.getElem?_eq_getElem (by rw [hn]; exact hlt)⟩
      obtain ⟨A, L, k⟩ := r
      obtain ⟨l, hl⟩ : ∃ l, L.length = l := ⟨_, rfl⟩
      have hl4 : l ≤ 40000 := by have := HS.out.short (i := 0) hr; simp only at this; omega
      have hrm : (⟨A, L, k⟩ : RowI) ∈ R := List.mem_of_getElem? hr
      have g0 : wr.cell? ⟨G, h, none⟩ = some (.slice A l k) := by
        have := ht.head.at_ hn hr
        rw [show (⟨A, L, k⟩ : RowI).v = .slice A l k by unfold RowI.v; rw [hl]] at this
        exact this
      have hap := ht.row _ hrm
      have HAP := Lib.hid hap
      have HR := Lib.hid hr
      have HL := Lib.hid hl
      by_cases hsh : (l : Int) < B
      · have HNX := Lib.hid (HS.out.next_lt h4 h0 hr (by show ((⟨A, L, k⟩ : RowI).l.length : Int) < B; simp only; rw [hl]; exact hsh))
        clear hr hl hrm hap hn ht hcap
        go_wp2_with fail
        go_quiet (fail)
        rename_i nq
        go_wp2_with fail
        go_roundg (N - (h + 1))
        case measure => omega
        case rel => exact ⟨h + 1, u, _, R, rfl, by first | rfl | go_num, ⟨HNX.out.t.call (below_drewN (Below.refl _ _) nq), HNX.out.way, HNX.out.ne, HNX.out.fuel, HNX.out.use, HNX.out.along.below (below_drewN (Below.refl _ _) nq)⟩⟩
      · have HGE : Hid (¬ ((⟨A, L, k⟩ : RowI).l.length : Int) < B) := Lib.hid (by show ¬ ((L.length : Nat) : Int) < B; rw [hl]; exact hsh)
        obtain ⟨S, hS⟩ : ∃ S, stayL b2 L = S := ⟨_, rfl⟩
        obtain ⟨T, hT⟩ : ∃ T, restL b2 L = T := ⟨_, rfl⟩
        obtain ⟨cb, hcb⟩ : ∃ cb, coinB word u = cb := ⟨_, rfl⟩
        obtain ⟨GL, hGL⟩ : ∃ GL, halvB cb T = GL := ⟨_, rfl⟩
        obtain ⟨m, hm⟩ : ∃ m, GL.length = m := ⟨_, rfl⟩
        have HGL := Lib.hid hm
        have hGo : goR B cb L = GL := by unfold goR; rw [HB2.out, hT, hGL]
        have HGO := Lib.hid hGo
        have HSS : Hid (S = stayL (B / 2) L) := Lib.hid (by rw [HB2.out, hS])
        have hTl : T.length ≤ l := by rw [← hT, (stay_len b2 L).2, hl]; omega
        have hml : m ≤ 40000 := by rw [← hm, ← hGL, halv_len]; split <;> omega
        have CS := Lib.hid (fun W hW => rsplit20_any W A l k L b2 hW hl (by omega) HBI.out)
        have HRS : Hid (∀ W base A1 A2 p q c1 c2, RefSplit W base A1 A2 p q c1 c2 b2 L → Nums W A1 S ∧ S.length = p ∧ Nums W A2 T ∧ T.length = q ∧ (∀ a, A1 = some a → base ≤ a.block) ∧ (∀ a, A1 = some a → a.block < W.heap.size ∨ S.length = 0)) := Lib.hid (by
          intro W base A1 A2 p q c1 c2 ⟨r1, r2, r3, r4, r5, _⟩
          rw [hS] at r1 r2
          rw [hT] at r3 r4
          refine ⟨r1, r2, r3, r4, r5, fun a ha => ?_⟩
          cases S with
          | nil => exact Or.inr rfl
          | cons y S =>
            obtain ⟨b, off, e, hlt, _⟩ := r1.at_ 0 y rfl
            rw [ha] at e
            cases e
            exact Or.inl hlt)
        have hSp : 0 < S.length := by
          obtain ⟨k1, k2, k3, k4⟩ := keepB (n := l) h4 h0 (by omega)
          rw [← hS, (stay_len b2 L).1, hl, ← HB2.out]
          omega
        have HSP := Lib.hid hSp
        have CC := Lib.hid (fun W => rcoin20_any W word u HW.out (by omega))
        rw [hcb] at CC
        have CH := Lib.hid (fun W A2 q c2 (hW : Nums W A2 T) (hq : T.length = q) => rhalve20_any W A2 q c2 T cb hW hq (by omega))
        rw [hGL] at CH
        have HUC : Hid (((u + 1 : Nat) : Int) = (u : Int) + 1) := Lib.hid rfl
        have HCB := Lib.hid hcb
        have hgm : ∀ x, x ∈ GL → I64 x := fun x hx => by
          have := HAP.out.1.ok x (goR_mem (by rw [hGo]; exact hx))
          exact this
        have HGM := Lib.hid hgm
        clear hr hrm hap hn ht hcap hS hT hcb hGL hGo hm hSp hgm
        go_wp2_with fail
        go_quiet (fail)
        rename_i nq
        have b1 : Below wr.heap.size wr (wr.drewN nq) := below_drewN (Below.refl _ _) nq
        have HT1 := Lib.hid (HT.out.call b1)
        have HAL1 := Lib.hid (HS.out.along.below b1)
        have HA1 := Lib.hid (HAP.out.call b1)
        have hsz1 : (wr.drewN nq).heap.size = wr.heap.size := by simp
        generalize wr.drewN nq = w1 at *
        have c01 := HT1.out.c0
        have c31 := HT1.out.c3
        have g01 : w1.cell? ⟨G, h, none⟩ = some (.slice A l k) := by
          have := HT1.out.head.at_ HN.out HR.out
          rw [show (⟨A, L, k⟩ : RowI).v = .slice A l k by unfold RowI.v; rw [HL.out]] at this
          exact this
        clear c0 c1 c2 c3 g0 b1 hsz1
        go_wp2_with fail
        have HS0 : Hid (w1.drew.cell? ⟨M, 0, none⟩ = some (.int .i64 B) ∧ w1.drew.cell? ⟨M, 3, none⟩ = some (.slice (some ⟨G, 0, none⟩) n cap) ∧ w1.drew.cell? ⟨G, h, none⟩ = some (.slice A l k) ∧ Below w1.heap.size w1 w1.drew) := Lib.hid ⟨c01, c31, g01, (Below.refl _ _).drew⟩
        have HST := Lib.hid (fun (W W' : World) (x : W.cell? ⟨M, 0, none⟩ = some (.int .i64 B) ∧ W.cell? ⟨M, 3, none⟩ = some (.slice (some ⟨G, 0, none⟩) n cap) ∧ W.cell? ⟨G, h, none⟩ = some (.slice A l k) ∧ Below w1.heap.size w1 W) (hb : Below W.heap.size W W') => (⟨cell_later hb x.1, cell_later hb x.2.1, cell_later hb x.2.2.1, x.2.2.2.trans (hb.mono x.2.2.2.size)⟩ : W'.cell? ⟨M, 0, none⟩ = some (.int .i64 B) ∧ W'.cell? ⟨M, 3, none⟩ = some (.slice (some ⟨G, 0, none⟩) n cap) ∧ W'.cell? ⟨G, h, none⟩ = some (.slice A l k) ∧ Below w1.heap.size w1 W'))
        have CS2 := Lib.hid (fun (W : World) (x : W.cell? ⟨M, 0, none⟩ = some (.int .i64 B) ∧ W.cell? ⟨M, 3, none⟩ = some (.slice (some ⟨G, 0, none⟩) n cap) ∧ W.cell? ⟨G, h, none⟩ = some (.slice A l k) ∧ Below w1.heap.size w1 W) => (CS.out W (HA1.out.1.call x.2.2.2)).mono fun e w' hx => (by
          obtain ⟨A1, A2, p, q, c1, c2, he, hs, hb⟩ := hx
          exact ⟨A1, A2, p, q, c1, c2, he, ⟨hs.1, hs.2.1, hs.2.2.1, hs.2.2.2.1, fun a ha => Nat.le_trans x.2.2.2.size (hs.2.2.2.2.1 a ha), fun a ha => Nat.le_trans x.2.2.2.size (hs.2.2.2.2.2 a ha)⟩, hb⟩ : ∃ A1 A2 p q c1 c2, e = Ending.returned (.tuple #[.slice A1 p c1, .slice A2 q c2]) ∧ RefSplit w' w1.heap.size A1 A2 p q c1 c2 b2 L ∧ Below W.heap.size W w'))
        clear c01 c31 g01
        go_region_held3 (fun w' => w'.cell? ⟨M, 0, none⟩ = some (.int .i64 B) ∧ w'.cell? ⟨M, 3, none⟩ = some (.slice (some ⟨G, 0, none⟩) n cap) ∧ w'.cell? ⟨G, h, none⟩ = some (.slice A l k) ∧ Below w1.heap.size w1 w')
          (first | exact HS0.out | exact HST.out _ _ (by assumption) hb2' | assumption)
          ((go_at_call 68; (with_reducible (refine (CS2.out _ (by assumption)).mono ?_)); rintro e w2 ⟨A1, A2, p, q, cS, cR, rfl, hs2, hb2'⟩))
        rename_i hHeld
        clear HS0 HST CS2
        all_goals
          have hb2 : Below w1.heap.size w1 w2 := hHeld.2.2.2
          obtain ⟨n1, hSL, n2, hTL, r1, r2⟩ := HRS.out _ _ _ _ _ _ _ _ hs2
          have HN1 := Lib.hid n1
          have HN2' := Lib.hid n2
          have HSL := Lib.hid hSL
          have HTL := Lib.hid hTL
          have hr1 : ∀ a, A1 = some a → w1.heap.size ≤ a.block ∧ a.block < w2.heap.size := fun a ha => ⟨r1 a ha, by
            rcases r2 a ha with h | h
            · exact h
            · have := HSP.out; omega⟩
          have HR1 := Lib.hid hr1
          have HT2 := Lib.hid (HT1.out.call hb2)
          have HAL2 := Lib.hid (HAL1.out.below hb2)
          have c12 := HT2.out.c1
          have c22 := HT2.out.c2
          have HZ2 := Lib.hid hb2.size
          clear hb2 hb2' n1 hSL n2 hTL r1 r2 hs2 hr1 hHeld
          go_wp2_with fail
          have HS0 : Hid (w2.drew.cell? ⟨M, 1, none⟩ = some (.int .u64 word) ∧ w2.drew.cell? ⟨M, 2, none⟩ = some (.int .i64 u) ∧ Below w2.heap.size w2 w2.drew) := Lib.hid ⟨c12, c22, (Below.refl _ _).drew⟩
          have HST := Lib.hid (fun (W W' : World) (h : W.cell? ⟨M, 1, none⟩ = some (.int .u64 word) ∧ W.cell? ⟨M, 2, none⟩ = some (.int .i64 u) ∧ Below w2.heap.size w2 W) (hb : Below W.heap.size W W') => (⟨cell_later hb h.1, cell_later hb h.2.1, h.2.2.trans (hb.mono h.2.2.size)⟩ : W'.cell? ⟨M, 1, none⟩ = some (.int .u64 word) ∧ W'.cell? ⟨M, 2, none⟩ = some (.int .i64 u) ∧ Below w2.heap.size w2 W'))
          have CH2 := Lib.hid (fun (W : World) (h : W.cell? ⟨M, 1, none⟩ = some (.int .u64 word) ∧ W.cell? ⟨M, 2, none⟩ = some (.int .i64 u) ∧ Below w2.heap.size w2 W) => (CH.out W A2 q cR (HN2'.out.call h.2.2) HTL.out).mono fun e w' ⟨v, he, ho, hb⟩ => (by
            obtain ⟨a, b, e2⟩ := ho.form
            rw [HGL.out] at e2
            subst e2
            exact ⟨a, b, he, ho.mono h.2.2.size, hb⟩ : ∃ a b, e = Ending.returned (.slice a m b) ∧ OwnN w' w2.heap.size (.slice a m b) GL ∧ Below W.heap.size W w'))
          clear c12 c22
          go_region_held3 (fun w' => w'.cell? ⟨M, 1, none⟩ = some (.int .u64 word) ∧ w'.cell? ⟨M, 2, none⟩ = some (.int .i64 u) ∧ Below w2.heap.size w2 w')
            (first | exact HS0.out | exact HST.out _ _ (by assumption) bH | assumption)
            ((first
              | (go_at_call 70; (with_reducible (refine (CC.out _).mono ?_)); rintro e w3 ⟨rfl, rfl⟩)
              | (go_at_call 69; (with_reducible (refine (CH2.out _ (by assumption)).mono ?_)); rintro e w4 ⟨AH, kH, rfl, hoH, bH⟩)))
          rename_i hHeld
          have hb3 : Below w2.heap.size w2 w4 := hHeld.2.2
          have hAHb : ∀ a, AH = some a → w2.heap.size ≤ a.block ∧ a.block < w4.heap.size := fun a ha => hoH.lt a.block (by rw [ha]; rfl)
          obtain ⟨AH', kH', eH, hNH⟩ := hoH.rows HGM.out
          obtain ⟨rfl, _, rfl⟩ : AH = AH' ∧ True ∧ kH = kH' := by injection eH with a b c; exact ⟨a, trivial, c⟩
          have ht4 := HT2.out.call hb3
          have hM2 := HT2.out.lt
          have hG2 := (HT2.out.head.lt G rfl).2
          have hM1 := HT1.out.lt
          have hG1' := (HT1.out.head.lt G rfl).2
          have haS2 : RowAp w2 M (.slice (some ⟨G, 0, none⟩) n cap) ⟨A1, S, cS⟩ := ⟨HN1.out, fun a ha => by
            have := HR1.out a ha
            exact ⟨this.2, by omega, fun e => by have e' : G = a.block := Option.some.inj e; omega⟩⟩
          have haH4 : RowAp w4 M (.slice (some ⟨G, 0, none⟩) n cap) ⟨AH, GL, kH⟩ := ⟨hNH, fun a ha => by
            have := hAHb a ha
            exact ⟨this.2, by omega, fun e => by have e' : G = a.block := Option.some.inj e; omega⟩⟩
          have HS1 : Hid (∀ a, A1 = some a → w.heap.size ≤ a.block) := Lib.hid fun a ha => by have := (HR1.out a ha).1; have := HAL1.out.keeps.size; omega
          have g4 := grown21_put w4 M 2 (.int .i64 ((u : Int) + 1))
          have ht5 := ht4.used (u + 1)
          rw [HUC.out] at ht5
          have hal5 := (HAL2.out.below hb3).used (o := 2) (.int .i64 ((u : Int) + 1))
          have haS5 := (haS2.call hb3).grown g4 (Or.inl rfl)
          have haH5 := haH4.grown g4 (Or.inl rfl)
          obtain ⟨w5, hw5⟩ : ∃ w5, w4.setCell ⟨M, 2, none⟩ (.int .i64 ((u : Int) + 1)) = w5 := ⟨_, rfl⟩
          rw [hw5] at ht5 hal5 haS5 haH5
          have c24 := ht4.c2
          have f24 := ht4.f0 2
          have c35 := ht5.c3
          have f35 := ht5.f0 3
          have HT5 := Lib.hid ht5
          have HAL5 := Lib.hid hal5
          have HAS5 := Lib.hid haS5
          have HAH5 := Lib.hid haH5
          clear hb3 bH hHeld HS0 HST CH2 hAHb hNH eH ht4 hM2 hG2 hM1 hG1' haS2 haH4 g4 ht5 hal5 haS5 haH5 hoH
          by_cases hlast : h + 1 = n
          · have e1 : ((h : Int) == (n : Int) - 1) = true := by rw [beq_iff_eq]; omega
            have HLST := Lib.hid hlast
            clear hlast
            have hO := HT5.out.head
            have HAL : Hid (Below w5.heap.size w5 (w5.alloc (.cells #[.slice none 0 0] 62))) := Lib.hid ((Below.refl _ _).alloc (Nat.le_refl _) _)
            have HO := Lib.hid (hO.call HAL.out)
            have n2 : n ≤ 40000 := by omega
            clear hO
            go_wp2_with (at_builtin; refine wpList_append_rowI rfl (.tmp 74) (.tmp 75) rfl 0 _ R n HN.out w5.heap.size ⟨none, [], 0⟩ rfl HO.out rfl ?f1 ?f2 ?f3 ?_)
            case f1 => go_simp; rfl
            case f2 => omega
            case f3 => exact Nat.zero_le _
            intro gX cX w6 hoX6 hg6 hgX
            have hlenX : (R ++ [(⟨none, [], 0⟩ : RowI)]).length = n + 1 := by rw [List.length_append, HN.out]; rfl
            generalize hnXe : n + 1 = nX at *
            have HNXE := Lib.hid hnXe
            have n3 : nX ≤ 40001 := by omega
            clear hnXe
            have hnX : gX = G ∨ w5.heap.size + 1 ≤ gX := by
              rcases hgX with e | e
              · exact Or.inl (Option.some.inj e).symm
              · refine Or.inr ?_
                have z : (w5.alloc (.cells #[.slice none 0 0] 62)).heap.size = w5.heap.size + 1 := by simp
                omega
            have z : (w5.alloc (.cells #[.slice none 0 0] 62)).heap.size = w5.heap.size + 1 := by simp
            have hnX' : gX = G ∨ (w5.alloc (.cells #[.slice none 0 0] 62)).heap.size ≤ gX := by rw [z]; exact hnX
            have hsz := HAL5.out.keeps.size
            have htX := (HT5.out.call HAL.out).last hg6 hoX6 hnX'
            have hasX := (HAS5.out.call HAL.out).last (n' := nX) (cap' := cX) hg6 hnX' (.slice (some ⟨gX, 0, none⟩) nX cX)
            have hahX := (HAH5.out.call HAL.out).last (n' := nX) (cap' := cX) hg6 hnX' (.slice (some ⟨gX, 0, none⟩) nX cX)
            have halX := (HAL5.out.below HAL.out).more (n' := nX) (cap' := cX) hg6 (by rcases hnX with e | e; exact Or.inl e; exact Or.inr (by omega)) (.slice (some ⟨gX, 0, none⟩) nX cX)
            have c36 := ((HT5.out.call HAL.out).toHeadT.grown hg6 (HT5.out.nM)).c3
            have f36 := ((HT5.out.call HAL.out).toHeadT.grown hg6 (HT5.out.nM)).f0 3
            obtain ⟨wX, hwX⟩ : ∃ wX, w6.setCell ⟨M, 3, none⟩ (.slice (some ⟨gX, 0, none⟩) nX cX) = wX := ⟨_, rfl⟩
            rw [hwX] at htX hasX hahX halX
            have HTX := Lib.hid htX
            have HASX := Lib.hid hasX
            have HAHX := Lib.hid hahX
            have HALX := Lib.hid halX
            have HLX := Lib.hid hlenX
            clear hoX6 hg6 hgX hnX z hnX' htX hasX hahX halX hlenX hsz
            obtain ⟨q, hq⟩ : ∃ q, (R ++ [(⟨none, [], 0⟩ : RowI)])[h + 1]? = some q := ⟨_, List.getElem?_eq_getElem (by rw [HLX.out]; have := HLST.out; have := HNXE.out; omega)⟩
            obtain ⟨A2, L2, k2⟩ := q
            have hl2 : L2.length ≤ 40000 := (by have e := hq; rw [List.getElem?_append_right (by rw [HN.out]; have := HLST.out; omega), HN.out, show h + 1 - n = 0 by have := HLST.out; omega] at e; have e2 := (RowI.mk.inj (Option.some.inj e)).2.1; rw [← e2]; simp)
            obtain ⟨l2, hl2e⟩ : ∃ l, L2.length = l := ⟨_, rfl⟩
            have HL2 := Lib.hid hl2e
            have l2le : l2 ≤ 40000 := by rw [← hl2e]; exact hl2
            have hn2 : h + 1 < nX := by have := HLST.out; have := HNXE.out; omega
            obtain ⟨h1, hh1⟩ : ∃ h1, h + 1 = h1 := ⟨_, rfl⟩
            have HH1 := Lib.hid hh1
            have hE : (h : Int) + 1 = (h1 : Int) := by omega
            have hw1 : IntKind.i64.wrap (h1 : Int) = (h1 : Int) := by rw [IntKind.wrap_i64]; omega
            have hk1 : (h1 : Int) < ((nX : Nat) : Int) := by omega
            have hh2 : h1 < nX := by omega
            rw [hh1] at hq
            have hh3 : h < nX := by have := HLST.out; have := HNXE.out; omega
            have hh4 : (h : Int) < ((nX : Nat) : Int) := by have := HLST.out; have := HNXE.out; omega
            have htS := HTX.out.put (i := h) HLX.out hh3 HSL.out HASX.out
            have haS := HALX.out.put (i := h) (r := ⟨A1, S, cS⟩) HS1.out (.slice A1 p cS)
            obtain ⟨wS, hwS⟩ : ∃ wS, wX.setCell ⟨gX, h, none⟩ (.slice A1 p cS) = wS := ⟨_, rfl⟩
            have hahS := HAHX.out.grown (grown21_put wX gX h (.slice A1 p cS)) (Or.inr rfl)
            rw [hwS] at htS haS hahS
            have hqS : ((R ++ [(⟨none, [], 0⟩ : RowI)]).set h ⟨A1, S, cS⟩)[h1]? = some ⟨A2, L2, k2⟩ := (List.getElem?_set_ne (by omega)).trans hq
            have hA2S : Nums wS A2 L2 := (htS.row ⟨A2, L2, k2⟩ (List.mem_of_getElem? hqS)).1
            have eS : wS.cell? ⟨gX, h1, none⟩ = some (.slice A2 l2 k2) := by
              have := htS.head.at_ (i := h1) (by rw [List.length_set]; exact HLX.out) hqS
              rw [show (⟨A2, L2, k2⟩ : RowI).v = .slice A2 l2 k2 by unfold RowI.v; rw [hl2e]] at this
              exact this
            have fS : wS.frozen? ⟨gX, h1, none⟩ = false := htS.head.free (by rw [List.length_set]; exact HLX.out) _
            have c3S := htS.c3
            have hGS : gX < wS.heap.size := (htS.head.lt gX rfl).2
            have hoX := HTX.out.head.free HLX.out h
            have q3 := HTX.out.c3
            obtain ⟨y, hy⟩ : ∃ y, (R ++ [(⟨none, [], 0⟩ : RowI)])[h]? = some y := ⟨_, List.getElem?_eq_getElem (by rw [HLX.out]; exact hh3)⟩
            have q5 := HTX.out.head.at_ (i := h) HLX.out hy
            obtain ⟨yv, hyv⟩ : ∃ yv, y.v = yv := ⟨_, rfl⟩
            rw [hyv] at q5
            have HTS := Lib.hid htS
            have HAS' := Lib.hid haS
            have HQ := Lib.hid hq
            have HAHS := Lib.hid hahS.1
            have HA2 := Lib.hid hA2S
            have HC3S := Lib.hid c3S
            have HES := Lib.hid eS
            have HFR := Lib.hid fS
            have HGS := Lib.hid hGS
            have HOK : Hid (∀ p, p ∈ L2 ++ GL → I64 p) := Lib.hid fun p hp => by
              rcases List.mem_append.1 hp with h | h
              · exact HA2.out.ok p h
              · exact HAHS.out.ok p h
            have BA := Lib.hid ((Below.refl wS.heap.size wS).drew.alloc (Nat.le_refl _) (.cells #[] 2))
            have hEa : (wS.drew.alloc (.cells #[] 2)).heap[wS.heap.size]? = some (.cells #[] 2 (0, 0)) := new_cells20 wS.drew _
            have HEa := Lib.hid (own_emptyN (base := wS.heap.size) hEa (Nat.le_refl _))
            have a1 : (wS.alloc (.cells #[] 2)).cell? ⟨M, 3, none⟩ = some (.slice (some ⟨gX, 0, none⟩) nX cX) := by have t := cell_later BA.out c3S; exact t
            have d1 : (wS.alloc (.cells #[] 2)).cell? ⟨gX, h1, none⟩ = some (.slice A2 l2 k2) := by have t := cell_later BA.out eS; exact t
            have HNa : Hid (([] : List Int).length + l2 ≤ 100000) := Lib.hid (by simp; omega)
            have HNb : Hid (L2.length + m ≤ 100000) := Lib.hid (by rw [hl2e]; omega)
            clear hn2 hh1 hq hl2 hl2e htS haS hahS hqS hA2S fS hEa hGS hy hyv
            have HFIN : Hid (∀ w7 A7 k7, OwnN w7 wS.heap.size (.slice A7 (L2 ++ GL).length k7) (L2 ++ GL) → Below wS.heap.size wS w7 → ∃ hv R', OnSet w M B word U N hv0 R0 F h1 (w7.setCell ⟨gX, h1, none⟩ (.slice A7 (L2.length + GL.length) k7)) (u + 1) hv R') := Lib.hid (by
              intro w7 A7 k7 ho7 hb7
              obtain ⟨A7', k7', e7', hN7⟩ := ho7.rows HOK.out
              obtain ⟨rfl, _, rfl⟩ : A7 = A7' ∧ True ∧ k7 = k7' := by injection e7' with a b c; exact ⟨a, trivial, c⟩
              have hnew : ∀ a, A7 = some a → wS.heap.size ≤ a.block ∧ a.block < w7.heap.size := fun a ha => ho7.lt a.block (by rw [ha]; rfl)
              have ht7 := HTS.out.call hb7
              have hap7 : RowAp w7 M (.slice (some ⟨gX, 0, none⟩) nX cX) ⟨A7, L2 ++ GL, k7⟩ := ⟨hN7, fun a ha => by
                have h1 := hnew a ha
                have h2 := HTS.out.lt
                have h3 := HGS.out
                exact ⟨h1.2, by omega, fun e => by have e' : gX = a.block := Option.some.inj e; omega⟩⟩
              have ht8 := ht7.put (i := h1) (by rw [List.length_set]; exact HLX.out) hh2 (p := L2.length + GL.length) List.length_append hap7
              have ha8 := (HAS'.out.below hb7).put (i := h1) (r := ⟨A7, L2 ++ GL, k7⟩) (fun a ha => by have := (hnew a ha).1; have := HAS'.out.keeps.size; omega) (.slice A7 (L2.length + GL.length) k7)
              have hls := rows_last (y := ⟨A7, L2 ++ GL, k7⟩) (x := ⟨A1, S, cS⟩) HR.out (by rw [HN.out]; exact HLST.out) HSS.out (by have e := HQ.out; rw [List.getElem?_append_right (by rw [HN.out]; have := HLST.out; have := HH1.out; omega), HN.out, show h1 - n = 0 by have := HLST.out; have := HH1.out; omega] at e; have e2 := (RowI.mk.inj (Option.some.inj e)).2.1; show L2 ++ GL = [] ++ GL; rw [← e2]) (b := coinB word u) (by rw [HCB.out]; exact HGO.out)
              rw [HH1.out] at hls
              have hnx := HS.out.next_ge h4 h0 HR.out (by show ¬ ((L.length : Nat) : Int) < B; have := HGE.out; omega) ht8 ha8 hls
              rw [HH1.out] at hnx
              exact ⟨_, _, hnx⟩)
            go_wp2_with fail
            go_region_law (first
              | (refine step_append_nums rfl (.tmp 92) (.tmp 100) rfl wS.heap.size _ [] A2 l2 k2 L2 rfl HEa.out rfl HL2.out (HA2.out.call BA.out) HNa.out BA.out.size ?_; intro v6 w6 hown6 hg6; have HO6 := Lib.hid (show OwnN w6 wS.heap.size v6 L2 from hown6); have HB6 : Hid (Below wS.heap.size wS w6) := Lib.hid (HEa.out.below BA.out hg6 BA.out.size); have a6 := cell_later HB6.out HC3S.out; clear hown6 hg6)
              | (refine step_append_nums rfl (.tmp 101) (.tmp 102) rfl wS.heap.size _ L2 AH m kH GL rfl HO6.out rfl HGL.out (HAHS.out.call HB6.out) HNb.out HB6.out.size ?_; intro v7 w7 hown7 hg7; obtain ⟨A7, k7, rfl⟩ := hown7.form; have HO7 := Lib.hid hown7; have HB7 : Hid (Below wS.heap.size wS w7) := Lib.hid (HO6.out.below HB6.out hg7 HB6.out.size); have b7 := cell_later HB7.out HC3S.out; have e7 := cell_later HB7.out HES.out; have f7 : w7.frozen? ⟨gX, h1, none⟩ = false := (World.frozen?_of_block (a := ⟨gX, h1, none⟩) (HB7.out.block gX HGS.out)).trans HFR.out; clear hown7 hg7))
            all_goals
              clear b7 e7 f7
              obtain ⟨hvF, RF, hfin⟩ := HFIN.out _ _ _ HO7.out HB7.out
              have HNX := Lib.hid hfin
              clear hfin
              go_wp2_with fail
              go_roundg (N - h1)
              case measure => have := HH1.out; omega
              case rel => exact ⟨h1, _, _, _, rfl, by first | rfl | go_num, HNX.out⟩
          · have e1 : ((h : Int) == (n : Int) - 1) = false := by rw [beq_eq_false_iff_ne]; omega
            have HTX := HT5
            have HASX := HAS5
            have HAHX := HAH5
            have HALX := HAL5
            obtain ⟨q, hq⟩ : ∃ q, R[h + 1]? = some q := ⟨_, List.getElem?_eq_getElem (by rw [HN.out]; skip; omega)⟩
            obtain ⟨A2, L2, k2⟩ := q
            have hl2 : L2.length ≤ 40000 := (by have := HS.out.short (i := 1) hq; simp only at this; omega)
            obtain ⟨l2, hl2e⟩ : ∃ l, L2.length = l := ⟨_, rfl⟩
            have HL2 := Lib.hid hl2e
            have l2le : l2 ≤ 40000 := by rw [← hl2e]; exact hl2
            have hn2 : h + 1 < n := by skip; omega
            obtain ⟨h1, hh1⟩ : ∃ h1, h + 1 = h1 := ⟨_, rfl⟩
            have HH1 := Lib.hid hh1
            have hE : (h : Int) + 1 = (h1 : Int) := by omega
            have hw1 : IntKind.i64.wrap (h1 : Int) = (h1 : Int) := by rw [IntKind.wrap_i64]; omega
            have hk1 : (h1 : Int) < ((n : Nat) : Int) := by omega
            have hh2 : h1 < n := by omega
            rw [hh1] at hq
            have hh3 : h < n := by skip; omega
            have hh4 : (h : Int) < ((n : Nat) : Int) := by skip; omega
            have htS := HTX.out.put (i := h) HN.out hh3 HSL.out HASX.out
            have haS := HALX.out.put (i := h) (r := ⟨A1, S, cS⟩) HS1.out (.slice A1 p cS)
            obtain ⟨wS, hwS⟩ : ∃ wS, w5.setCell ⟨G, h, none⟩ (.slice A1 p cS) = wS := ⟨_, rfl⟩
            have hahS := HAHX.out.grown (grown21_put w5 G h (.slice A1 p cS)) (Or.inr rfl)
            rw [hwS] at htS haS hahS
            have hqS : (R.set h ⟨A1, S, cS⟩)[h1]? = some ⟨A2, L2, k2⟩ := (List.getElem?_set_ne (by omega)).trans hq
            have hA2S : Nums wS A2 L2 := (htS.row ⟨A2, L2, k2⟩ (List.mem_of_getElem? hqS)).1
            have eS : wS.cell? ⟨G, h1, none⟩ = some (.slice A2 l2 k2) := by
              have := htS.head.at_ (i := h1) (by rw [List.length_set]; exact HN.out) hqS
              rw [show (⟨A2, L2, k2⟩ : RowI).v = .slice A2 l2 k2 by unfold RowI.v; rw [hl2e]] at this
              exact this
            have fS : wS.frozen? ⟨G, h1, none⟩ = false := htS.head.free (by rw [List.length_set]; exact HN.out) _
            have c3S := htS.c3
            have hGS : G < wS.heap.size := (htS.head.lt G rfl).2
            have hoX := HTX.out.head.free HN.out h
            have q3 := HTX.out.c3
            obtain ⟨y, hy⟩ : ∃ y, R[h]? = some y := ⟨_, List.getElem?_eq_getElem (by rw [HN.out]; exact hh3)⟩
            have q5 := HTX.out.head.at_ (i := h) HN.out hy
            obtain ⟨yv, hyv⟩ : ∃ yv, y.v = yv := ⟨_, rfl⟩
            rw [hyv] at q5
            have HTS := Lib.hid htS
            have HAS' := Lib.hid haS
            have HQ := Lib.hid hq
            have HAHS := Lib.hid hahS.1
            have HA2 := Lib.hid hA2S
            have HC3S := Lib.hid c3S
            have HES := Lib.hid eS
            have HFR := Lib.hid fS
            have HGS := Lib.hid hGS
            have HOK : Hid (∀ p, p ∈ L2 ++ GL → I64 p) := Lib.hid fun p hp => by
              rcases List.mem_append.1 hp with h | h
              · exact HA2.out.ok p h
              · exact HAHS.out.ok p h
            have BA := Lib.hid ((Below.refl wS.heap.size wS).drew.alloc (Nat.le_refl _) (.cells #[] 2))
            have hEa : (wS.drew.alloc (.cells #[] 2)).heap[wS.heap.size]? = some (.cells #[] 2 (0, 0)) := new_cells20 wS.drew _
            have HEa := Lib.hid (own_emptyN (base := wS.heap.size) hEa (Nat.le_refl _))
            have a1 : (wS.alloc (.cells #[] 2)).cell? ⟨M, 3, none⟩ = some (.slice (some ⟨G, 0, none⟩) n cap) := by have t := cell_later BA.out c3S; exact t
            have d1 : (wS.alloc (.cells #[] 2)).cell? ⟨G, h1, none⟩ = some (.slice A2 l2 k2) := by have t := cell_later BA.out eS; exact t
            have HNa : Hid (([] : List Int).length + l2 ≤ 100000) := Lib.hid (by simp; omega)
            have HNb : Hid (L2.length + m ≤ 100000) := Lib.hid (by rw [hl2e]; omega)
            clear hn2 hh1 hq hl2 hl2e htS haS hahS hqS hA2S fS hEa hGS hy hyv
            have HFIN : Hid (∀ w7 A7 k7, OwnN w7 wS.heap.size (.slice A7 (L2 ++ GL).length k7) (L2 ++ GL) → Below wS.heap.size wS w7 → ∃ hv R', OnSet w M B word U N hv0 R0 F h1 (w7.setCell ⟨G, h1, none⟩ (.slice A7 (L2.length + GL.length) k7)) (u + 1) hv R') := Lib.hid (by
              intro w7 A7 k7 ho7 hb7
              obtain ⟨A7', k7', e7', hN7⟩ := ho7.rows HOK.out
              obtain ⟨rfl, _, rfl⟩ : A7 = A7' ∧ True ∧ k7 = k7' := by injection e7' with a b c; exact ⟨a, trivial, c⟩
              have hnew : ∀ a, A7 = some a → wS.heap.size ≤ a.block ∧ a.block < w7.heap.size := fun a ha => ho7.lt a.block (by rw [ha]; rfl)
              have ht7 := HTS.out.call hb7
              have hap7 : RowAp w7 M (.slice (some ⟨G, 0, none⟩) n cap) ⟨A7, L2 ++ GL, k7⟩ := ⟨hN7, fun a ha => by
                have h1 := hnew a ha
                have h2 := HTS.out.lt
                have h3 := HGS.out
                exact ⟨h1.2, by omega, fun e => by have e' : G = a.block := Option.some.inj e; omega⟩⟩
              have ht8 := ht7.put (i := h1) (by rw [List.length_set]; exact HN.out) hh2 (p := L2.length + GL.length) List.length_append hap7
              have ha8 := (HAS'.out.below hb7).put (i := h1) (r := ⟨A7, L2 ++ GL, k7⟩) (fun a ha => by have := (hnew a ha).1; have := HAS'.out.keeps.size; omega) (.slice A7 (L2.length + GL.length) k7)
              have hls := rows_mid (q := ⟨A2, L2, k2⟩) (y := ⟨A7, L2 ++ GL, k7⟩) (x := ⟨A1, S, cS⟩) HR.out (by rw [HH1.out]; exact HQ.out) HSS.out rfl (b := coinB word u) (by rw [HCB.out]; exact HGO.out)
              rw [HH1.out] at hls
              have hnx := HS.out.next_ge h4 h0 HR.out (by show ¬ ((L.length : Nat) : Int) < B; have := HGE.out; omega) ht8 ha8 hls
              rw [HH1.out] at hnx
              exact ⟨_, _, hnx⟩)
            go_wp2_with fail
            go_region_law (first
              | (refine step_append_nums rfl (.tmp 92) (.tmp 100) rfl wS.heap.size _ [] A2 l2 k2 L2 rfl HEa.out rfl HL2.out (HA2.out.call BA.out) HNa.out BA.out.size ?_; intro v6 w6 hown6 hg6; have HO6 := Lib.hid (show OwnN w6 wS.heap.size v6 L2 from hown6); have HB6 : Hid (Below wS.heap.size wS w6) := Lib.hid (HEa.out.below BA.out hg6 BA.out.size); have a6 := cell_later HB6.out HC3S.out; clear hown6 hg6)
              | (refine step_append_nums rfl (.tmp 101) (.tmp 102) rfl wS.heap.size _ L2 AH m kH GL rfl HO6.out rfl HGL.out (HAHS.out.call HB6.out) HNb.out HB6.out.size ?_; intro v7 w7 hown7 hg7; obtain ⟨A7, k7, rfl⟩ := hown7.form; have HO7 := Lib.hid hown7; have HB7 : Hid (Below wS.heap.size wS w7) := Lib.hid (HO6.out.below HB6.out hg7 HB6.out.size); have b7 := cell_later HB7.out HC3S.out; have e7 := cell_later HB7.out HES.out; have f7 : w7.frozen? ⟨G, h1, none⟩ = false := (World.frozen?_of_block (a := ⟨G, h1, none⟩) (HB7.out.block G HGS.out)).trans HFR.out; clear hown7 hg7))
            all_goals
              clear b7 e7 f7
              obtain ⟨hvF, RF, hfin⟩ := HFIN.out _ _ _ HO7.out HB7.out
              have HNX := Lib.hid hfin
              clear hfin
              go_wp2_with fail
              go_roundg (N - h1)
              case measure => have := HH1.out; omega
              case rel => exact ⟨h1, _, _, _, rfl, by first | rfl | go_num, HNX.out⟩

    · have kk : ¬ (h : Int) < n := by omega
      have hh : h = n := by omega
      subst hh
      have hw := HS.out.way
      rw [show h = (lsI R).length by rw [ls_len]; exact hn.symm] at hw
      have hFe := onWay_end hw
      have HF : Hid (SettledR w M B word hv0 R0 F wr) := Lib.hid ⟨_, R, by rw [hFe]; exact HS.out.t, by rw [hFe], HS.out.along⟩
      clear hw hFe ht hn hcap hgk
      go_wp2_with fail
      first
      | (go_end0; exact ⟨rfl, HF.out⟩)
      | exact bodyPost_ret (results_none rfl _ _ _) rfl ⟨rfl, HF.out⟩
end Go.Proofs.Ytbdfmnlfdhhnjaa

/-
  The reference's Put of layer 21, ahead of Settle.
-/
namespace Go.Proofs.Ytbdfmnlfdhhnjaa
set_option linter.unusedVariables false
set_option linter.unusedSimpArgs false
open Go.RowKit

set_option maxRecDepth 100000 in
set_option maxHeartbeats 8000000 in
theorem rput21_any (w : World) (M : Nat) (B word : Int) (u G hc : Nat) (r0 : RowI) (R : List RowI) (x : Int) (h : RefT w M B word u (.slice (some ⟨G, 0, none⟩) (R.length + 1) hc) (r0 :: R)) (hx : I64 x) (h4 : B % 4 = 0) (h0 : 4 ≤ B) (h64 : B ≤ 64) (hw : Word word) (hu : u ≤ 1000000) (hfu : fuelR (lsI (r0 :: R)) ≤ 30000) :
    Calls Try.prog 33 #[.pointer (some ⟨M, 0, none⟩), .int .i64 x] w fun e w' => e = .returned (.tuple #[]) ∧ SettledR w M B word (.slice (some ⟨G, 0, none⟩) (R.length + 1) hc) (r0 :: R) (putT B (coinB word) (lsI (r0 :: R), u) x) w' := by
  have HT := Lib.hid h
  have hG1 : G < w.heap.size := (h.head.lt G rfl).2
  obtain ⟨n, hn⟩ : ∃ n, r0.l.length = n := ⟨_, rfl⟩
  have hn2 : n ≤ 30000 := by
    have := fuel_at (R := lsI (r0 :: R)) (i := 0) (r := r0.l) rfl
    omega
  obtain ⟨hrow, hblk⟩ := h.row r0 List.mem_cons_self
  have HROW := Lib.hid hrow
  have c3 := h.c3
  have g0 := h.head.at_ (i := 0) rfl rfl
  obtain ⟨A0, L0, k0⟩ := r0
  simp only at hn hrow hblk HROW
  have g0' : w.cell? ⟨G, 0, none⟩ = some (.slice A0 n k0) := by rw [← hn]; exact g0
  have HN := Lib.hid hn
  have HM := Lib.hid h.lt
  have HG := Lib.hid hG1
  have HX := Lib.hid hx
  have HMG : Hid (M ≠ G) := Lib.hid fun e => h.nM (by rw [e]; rfl)
  clear g0 hrow h hn
  have bD : Below w.heap.size w w.drew := (Below.refl _ _).drew
  have BA := Lib.hid (bD.alloc (Nat.le_refl _) (.cells #[] 2))
  have BX := Lib.hid (bD.alloc (Nat.le_refl _) (.cells #[.int .i64 x] 2))
  have BAX := Lib.hid (BA.out.alloc BA.out.size (.cells #[.int .i64 x] 2))
  have BXA := Lib.hid (BX.out.alloc BX.out.size (.cells #[] 2))
  have z1 : (w.drew.alloc (.cells #[] 2)).heap.size = w.heap.size + 1 := by simp
  have z2 : (w.drew.alloc (.cells #[.int .i64 x] 2)).heap.size = w.heap.size + 1 := by simp
  have hEa : (w.drew.alloc (.cells #[] 2)).heap[w.heap.size]? = some (.cells #[] 2 (0, 0)) := new_cells20 w.drew _
  have HEa := Lib.hid (own_emptyN (base := w.heap.size) hEa (Nat.le_refl _))
  have HEb := Lib.hid (HEa.out.call ((Below.refl _ _).alloc (Nat.le_refl _) (.cells #[.int .i64 x] 2)))
  have hEc := new_cells20 (w.drew.alloc (.cells #[.int .i64 x] 2)) (.cells #[] 2)
  rw [z2] at hEc
  have HEc := Lib.hid (own_emptyN (base := w.heap.size) hEc (Nat.le_succ _))
  have hXb : ((w.drew.alloc (.cells #[] 2)).alloc (.cells #[.int .i64 x] 2)).cell? ⟨w.heap.size + 1, 0, none⟩ = some (.int .i64 x) := by
    have := Joins.cell_of_block (i := 0) (new_cells20 (w.drew.alloc (.cells #[] 2)) (.cells #[.int .i64 x] 2))
    rw [z1] at this
    rw [this]; rfl
  have hXc : ((w.drew.alloc (.cells #[.int .i64 x] 2)).alloc (.cells #[] 2)).cell? ⟨w.heap.size, 0, none⟩ = some (.int .i64 x) := by
    have := Joins.cell_of_block (i := 0) (new_cells20 w.drew (.cells #[.int .i64 x] 2))
    exact cell_later ((Below.refl _ _).alloc (Nat.le_refl _) _) (show (w.drew.alloc (.cells #[.int .i64 x] 2)).cell? ⟨w.heap.size, 0, none⟩ = some (.int .i64 x) by rw [show (⟨w.heap.size, 0, none⟩ : Addr) = ⟨w.drew.heap.size, 0, none⟩ from rfl, this]; rfl)
  have HXb := Lib.hid (fun w' (hg : ((w.drew.alloc (.cells #[] 2)).alloc (.cells #[.int .i64 x] 2)).grownBy w' (Value.slice (some ⟨w.heap.size, 0, none⟩) 0 0).ownBlock) => hg.cell hXb (fun e => absurd (Option.some.inj e) (by show ¬ (w.heap.size + 1 = w.heap.size); omega)))
  have HXc := Lib.hid (fun w' (hg : ((w.drew.alloc (.cells #[.int .i64 x] 2)).alloc (.cells #[] 2)).grownBy w' (Value.slice (some ⟨w.heap.size + 1, 0, none⟩) 0 0).ownBlock) => hg.cell hXc (fun e => absurd (Option.some.inj e) (by show ¬ (w.heap.size = w.heap.size + 1); omega)))
  have HOK : Hid (∀ p, p ∈ L0 ++ [x] → I64 p) := Lib.hid fun p hp => by
    rcases List.mem_append.1 hp with h | h
    · exact HROW.out.ok p h
    · rw [List.mem_singleton.1 h]; exact HX.out
  have HF := Lib.hid (HT.out.head.free (rfl : ((⟨A0, L0, k0⟩ : RowI) :: R).length = _) 0)
  have a1 : (w.alloc (.cells #[] 2)).cell? ⟨M, 3, none⟩ = some (.slice (some ⟨G, 0, none⟩) (R.length + 1) hc) := by have t := cell_later BA.out c3; exact t
  have d1 : (w.alloc (.cells #[] 2)).cell? ⟨G, 0, none⟩ = some (.slice A0 n k0) := by have t := cell_later BA.out g0'; exact t
  have a2 : (w.alloc (.cells #[.int .i64 x] 2)).cell? ⟨M, 3, none⟩ = some (.slice (some ⟨G, 0, none⟩) (R.length + 1) hc) := by have t := cell_later BX.out c3; exact t
  have d2 : (w.alloc (.cells #[.int .i64 x] 2)).cell? ⟨G, 0, none⟩ = some (.slice A0 n k0) := by have t := cell_later BX.out g0'; exact t
  have a3 : ((w.alloc (.cells #[] 2)).alloc (.cells #[.int .i64 x] 2)).cell? ⟨M, 3, none⟩ = some (.slice (some ⟨G, 0, none⟩) (R.length + 1) hc) := by have t := cell_later BAX.out c3; exact t
  have d3 : ((w.alloc (.cells #[] 2)).alloc (.cells #[.int .i64 x] 2)).cell? ⟨G, 0, none⟩ = some (.slice A0 n k0) := by have t := cell_later BAX.out g0'; exact t
  have a4 : ((w.alloc (.cells #[.int .i64 x] 2)).alloc (.cells #[] 2)).cell? ⟨M, 3, none⟩ = some (.slice (some ⟨G, 0, none⟩) (R.length + 1) hc) := by have t := cell_later BXA.out c3; exact t
  have d4 : ((w.alloc (.cells #[.int .i64 x] 2)).alloc (.cells #[] 2)).cell? ⟨G, 0, none⟩ = some (.slice A0 n k0) := by have t := cell_later BXA.out g0'; exact t
  have HC3 := Lib.hid c3
  have HG0 := Lib.hid g0'
  clear hEa hEc hXb hXc bD hG1 hblk
  go_enter Try.func33, Try.ntmps33
  go_wp2_with fail
  have HN1 : Hid (([] : List Int).length + n ≤ 100000) := Lib.hid (by simp; omega)
  have HN2 : Hid (L0.length + 1 ≤ 100000) := Lib.hid (by rw [HN.out]; omega)
  go_region_law (first
    | (refine step_append_nums rfl (.tmp 8) (.tmp 14) rfl w.heap.size _ [] A0 n k0 L0 rfl (by first | exact HEa.out | exact HEb.out | exact HEc.out) rfl HN.out (by first | exact HROW.out.call BA.out | exact HROW.out.call BAX.out | exact HROW.out.call BXA.out) HN1.out (by first | exact BA.out.size | exact BAX.out.size | exact BXA.out.size) ?_; intro v6 w6 hown6 hg6; have HO6 := Lib.hid (show OwnN w6 w.heap.size v6 L0 from hown6); have HB6 : Hid (Below w.heap.size w w6) := Lib.hid (by first | exact HEa.out.below BA.out hg6 BA.out.size | exact HEb.out.below BAX.out hg6 BAX.out.size | exact HEc.out.below BXA.out hg6 BXA.out.size); have a6 := cell_later HB6.out HC3.out; have a7 := cell_later (HB6.out.alloc HB6.out.size (.cells #[.int .i64 x] 2)) HC3.out; first | (have HX6 := Lib.hid (HXb.out _ hg6)) | (have HX6 := Lib.hid (HXc.out _ hg6)) | skip; clear hown6 hg6)
    | (refine step_append_nums rfl (.tmp 15) (.tmp 17) rfl w.heap.size _ L0 _ 1 1 [x] rfl (by first | exact HO6.out | exact HO6.out.call ((Below.refl _ _).alloc (Nat.le_refl _) _)) rfl rfl (by first | exact one_num HX.out HX6.out | exact one_num HX.out (by go_simp)) HN2.out (by first | exact HB6.out.size | exact (HB6.out.alloc HB6.out.size _).size) ?_; intro v7 w7 hown7 hg7; obtain ⟨A7, k7, rfl⟩ := hown7.form; have HO7 := Lib.hid hown7; have HB7 : Hid (Below w.heap.size w w7) := Lib.hid (by first | exact HO6.out.below HB6.out hg7 HB6.out.size | exact (HO6.out.call ((Below.refl _ _).alloc (Nat.le_refl _) _)).below (HB6.out.alloc HB6.out.size _) hg7 (HB6.out.alloc HB6.out.size _).size); have b7 := cell_later HB7.out HC3.out; have e7 := cell_later HB7.out HG0.out; have f7 : w7.frozen? ⟨G, 0, none⟩ = false := (World.frozen?_of_block (a := ⟨G, 0, none⟩) (HB7.out.block G HG.out)).trans HF.out; clear hown7 hg7))
  all_goals
    have hr7 := HT.out.call HB7.out
    obtain ⟨A7', k7', e7', hN7⟩ := HO7.out.rows HOK.out
    obtain ⟨rfl, _, rfl⟩ : A7 = A7' ∧ True ∧ k7 = k7' := by injection e7' with a b c; exact ⟨a, trivial, c⟩
    have hnew : ∀ a, A7 = some a → w.heap.size ≤ a.block := fun a ha => (HO7.out.lt a.block (by rw [ha]; rfl)).1
    have hp := hr7.put (i := 0) (p := L0.length + 1) (k := k7) (a := A7) (l := L0 ++ [x]) rfl (Nat.succ_pos _) (by rw [List.length_append]; rfl) ⟨hN7, fun a ha => by
      have h1 := hnew a ha
      have h2 := HM.out
      have h3 := HG.out
      exact ⟨(HO7.out.lt a.block (by have e : A7 = some a := ha; rw [e]; rfl)).2, by omega, fun e => by have e' : G = a.block := Option.some.inj e; omega⟩⟩
    have hal := (Along.refl w M (.slice (some ⟨G, 0, none⟩) (R.length + 1) hc) (⟨A0, L0, k0⟩ :: R)).below HB7.out
    have hal8 := hal.put (i := 0) (r := ⟨A7, L0 ++ [x], k7⟩) hnew (.slice A7 (L0.length + 1) k7)
    have HAL := Lib.hid hal8
    have CS := Lib.hid (rsettle21_any _ M B word u _ _ hp (List.cons_ne_nil _ _) h4 h0 h64 hw hu (by
      show fuelR ((L0 ++ [x]) :: lsI R) ≤ 40000
      have e : fuelR (lsI (⟨A0, L0, k0⟩ :: R)) = fuelR (lsI R) + L0.length + 1 := fuel_cons _ _
      rw [fuel_cons, List.length_append]
      have : [x].length = 1 := rfl
      omega))
    clear hr7 e7' hN7 hnew hal hal8 hp b7 e7 f7
    go_wp2_with fail
    refine CS.out.mono ?_
    rintro e w9 ⟨rfl, hs9⟩
    have HFN : Hid (SettledR w M B word (.slice (some ⟨G, 0, none⟩) (R.length + 1) hc) (⟨A0, L0, k0⟩ :: R) (putT B (coinB word) (lsI (⟨A0, L0, k0⟩ :: R), u) x) w9) := Lib.hid (hs9.after HAL.out)
    clear hs9
    go_wp2_with fail
    first
    | (go_end0; exact ⟨rfl, HFN.out⟩)
    | exact bodyPost_ret (results_none rfl _ _ _) rfl ⟨rfl, HFN.out⟩
end Go.Proofs.Ytbdfmnlfdhhnjaa
