/-
  Plain mathematics of stages 20 and 21: rows halved and split; towers settled: their weight, their ranks, all ways in which the coins fall: no program in sight.
-/
import Derived.Test.YtecnlpkfcggimaaGwM
namespace Go.Proofs.Ytecnlpkfcggimaa
set_option linter.unusedVariables false
set_option linter.unusedSimpArgs false

/-! ### Every other value -/
def halvB : Bool → List Int → List Int
  | _, [] => []
  | false, x :: r => x :: halvB true r
  | true, _ :: r => halvB false r
theorem halv_len : ∀ (L : List Int) (b : Bool), (halvB b L).length = if b = true then L.length / 2 else (L.length + 1) / 2
  | [], b => by cases b <;> rfl
  | x :: r, false => by
    have ih := halv_len r true
    rw [if_pos rfl] at ih
    rw [halvB, List.length_cons, ih, if_neg (by decide), List.length_cons]
    omega
  | x :: r, true => by
    have ih := halv_len r false
    rw [if_neg (by decide)] at ih
    rw [halvB, ih, if_pos rfl, List.length_cons]
theorem halv_both (x : Int) : ∀ (L : List Int), upV (halvB false L) x + upV (halvB true L) x = upV L x
  | [] => rfl
  | y :: r => by
    have ih := halv_both x r
    rw [halvB, halvB, upV_cons, upV_cons]
    omega
theorem halv_mem : ∀ {L : List Int} {b : Bool} {x : Int}, x ∈ halvB b L → x ∈ L
  | [], b, x, h => by cases b <;> cases h
  | y :: r, false, x, h => by
    rcases List.mem_cons.1 (show x ∈ y :: halvB true r from h) with e | e
    · rw [e]; exact List.mem_cons_self
    · exact List.mem_cons_of_mem _ (halv_mem e)
  | y :: r, true, x, h => List.mem_cons_of_mem _ (halv_mem (show x ∈ halvB false r from h))
/-- Those up to a value, of a row in order: each half has half of them. -/
theorem halv_up (x : Int) : ∀ {L : List Int}, L.Pairwise (fun a b => a ≤ b) → (2 * upV (halvB false L) x = upV L x ∨ 2 * upV (halvB false L) x = upV L x + 1) ∧ (2 * upV (halvB true L) x = upV L x ∨ 2 * upV (halvB true L) x = upV L x - 1)
  | [], _ => ⟨Or.inl rfl, Or.inl rfl⟩
  | y :: r, h => by
    obtain ⟨h1, h2⟩ := List.pairwise_cons.1 h
    obtain ⟨ih1, ih2⟩ := halv_up x h2
    have hb := halv_both x r
    rw [halvB, halvB, upV_cons, upV_cons]
    by_cases c : y ≤ x
    · rw [if_pos c]
      omega
    · rw [if_neg c]
      have hz : upV r x = 0 := by
        unfold upV
        rw [List.filter_eq_nil_iff.2 fun z hz => by have := h1 z hz; simp; omega]
        rfl
      have p1 := upV_bd (halvB true r) x
      have p2 := upV_bd (halvB false r) x
      omega
theorem insI_cons20 (x y : Int) (r : List Int) : insI x (y :: r) = if y ≤ x then y :: insI x r else x :: y :: r := by
  unfold insI
  by_cases c : y ≤ x
  · rw [if_pos c, List.takeWhile_cons_of_pos (by simpa using c), List.dropWhile_cons_of_pos (by simpa using c)]; rfl
  · rw [if_neg c, List.takeWhile_cons_of_neg (by simpa using c), List.dropWhile_cons_of_neg (by simpa using c)]; rfl
theorem insI_sorted20 {x : Int} : ∀ {L : List Int}, L.Pairwise (fun a b => a ≤ b) → (insI x L).Pairwise fun a b => a ≤ b
  | [], _ => List.pairwise_singleton _ _
  | y :: r, h => by
    obtain ⟨h1, h2⟩ := List.pairwise_cons.1 h
    rw [insI_cons20]
    by_cases c : y ≤ x
    · rw [if_pos c]
      refine List.pairwise_cons.2 ⟨fun z hz => ?_, insI_sorted20 h2⟩
      rcases List.mem_cons.1 ((insI_perm x r).mem_iff.1 hz) with e | e
      · omega
      · exact h1 z e
    · rw [if_neg c]
      refine List.pairwise_cons.2 ⟨fun z hz => ?_, h⟩
      rcases List.mem_cons.1 hz with e | e
      · omega
      · have := h1 z e; omega
theorem sortI_sorted20 (W : List Int) : (sortI W).Pairwise fun a b => a ≤ b := by
  have : ∀ (W L : List Int), L.Pairwise (fun a b => a ≤ b) → (W.foldl (fun L x => insI x L) L).Pairwise fun a b => a ≤ b := by
    intro W
    induction W with
    | nil => intro L h; exact h
    | cons x r ih => intro L h; exact ih _ (insI_sorted20 h)
  exact this W [] List.Pairwise.nil

/-! ### Split -/
/-- How many stay, of n, if keep are asked for. -/
def keepN (keep : Int) (n : Nat) : Nat := if (n - min keep.toNat n) % 2 = 0 then min keep.toNat n else min keep.toNat n + 1
theorem keepN_le (keep : Int) (n : Nat) : keepN keep n ≤ n ∧ (n - keepN keep n) % 2 = 0 ∧ min keep.toNat n ≤ keepN keep n ∧ keepN keep n ≤ min keep.toNat n + 1 := by
  unfold keepN
  split <;> omega
def stayL (keep : Int) (L : List Int) : List Int := (sortI L).take (keepN keep L.length)
def restL (keep : Int) (L : List Int) : List Int := (sortI L).drop (keepN keep L.length)
theorem stay_rest (keep : Int) (L : List Int) : (stayL keep L ++ restL keep L).Perm L := by
  unfold stayL restL
  rw [List.take_append_drop]
  exact sortI_perm L
theorem stay_len (keep : Int) (L : List Int) : (stayL keep L).length = keepN keep L.length ∧ (restL keep L).length = L.length - keepN keep L.length := by
  have := (keepN_le keep L.length).1
  unfold stayL restL
  rw [List.length_take, List.length_drop, sortI_len]
  omega
theorem stay_le {keep : Int} {L : List Int} : ∀ a, a ∈ stayL keep L → ∀ b, b ∈ restL keep L → a ≤ b := by
  have h := sortI_sorted20 L
  rw [← List.take_append_drop (keepN keep L.length) (sortI L)] at h
  exact (List.pairwise_append.1 h).2.2
theorem rest_sorted (keep : Int) (L : List Int) : (restL keep L).Pairwise fun a b => a ≤ b := by
  have h := sortI_sorted20 L
  rw [← List.take_append_drop (keepN keep L.length) (sortI L)] at h
  exact (List.pairwise_append.1 h).2.1
theorem split_up (keep : Int) (L : List Int) (x : Int) : upV (stayL keep L) x + upV (restL keep L) x = upV L x := by
  rw [← upV_app]
  exact upV_perm (stay_rest keep L) x
/-! ### Towers -/
/-- Values stand behind the lowest of some rows. -/
def behR (V : List Int) : List (List Int) → List (List Int)
  | [] => [V]
  | r :: t => (r ++ V) :: t
def sizR (R : List (List Int)) : Nat := (R.map List.length).sum
theorem sizR_cons (r : List Int) (R : List (List Int)) : sizR (r :: R) = r.length + sizR R := by unfold sizR; rw [List.map_cons, List.sum_cons]
theorem behR_siz (V : List Int) (R : List (List Int)) : sizR (behR V R) = V.length + sizR R ∧ (behR V R).length = max R.length 1 := by
  cases R with
  | nil => exact ⟨by show sizR [V] = V.length + sizR []; rw [sizR_cons], rfl⟩
  | cons r t =>
    refine ⟨?_, ?_⟩
    · show sizR ((r ++ V) :: t) = _
      rw [sizR_cons, sizR_cons, List.length_append]; omega
    · show t.length + 1 = max (t.length + 1) 1
      omega
/-- Half of what is left of a row that is split. -/
def goR (B : Int) (c : Bool) (r : List Int) : List Int := halvB c (restL (B / 2) r)
theorem keepB {B : Int} {n : Nat} (h4 : B % 4 = 0) (h0 : 4 ≤ B) (hn : B ≤ n) : B / 2 ≤ keepN (B / 2) n ∧ B / 2 ≤ ((n - keepN (B / 2) n : Nat) : Int) ∧ keepN (B / 2) n ≤ n ∧ (n - keepN (B / 2) n) % 2 = 0 := by
  obtain ⟨k1, k2, k3, k4⟩ := keepN_le (B / 2) n
  refine ⟨by omega, by omega, k1, k2⟩
theorem goR_len {B : Int} {r : List Int} (c : Bool) (h4 : B % 4 = 0) (h0 : 4 ≤ B) (hn : B ≤ r.length) : B ≤ 4 * ((goR B c r).length : Int) ∧ 2 * (goR B c r).length = r.length - keepN (B / 2) r.length ∧ (goR B c r).length < r.length := by
  obtain ⟨k1, k2, k3, k4⟩ := keepB h4 h0 hn
  have hl := halv_len (restL (B / 2) r) c
  rw [(stay_len (B / 2) r).2] at hl
  unfold goR
  rw [hl]
  cases c <;> simp <;> omega
/-- A tower settled: its rows, the coins that are left. -/
def setR (B : Int) : Nat → List (List Int) → List Bool → List (List Int) × List Bool
  | 0, R, cs => (R, cs)
  | _ + 1, [], cs => ([], cs)
  | f + 1, r :: R, cs =>
    if (r.length : Int) < B then (r :: (setR B f R cs).1, (setR B f R cs).2)
    else (stayL (B / 2) r :: (setR B f (behR (goR B (cs.headD false) r) R) cs.tail).1, (setR B f (behR (goR B (cs.headD false) r) R) cs.tail).2)
/-- So many more stand in the lowest row. -/
def addH (v : Nat) : List Nat → List Nat
  | [] => [v]
  | k :: K => (k + v) :: K
/-- How many coins that takes: by the rows' lengths alone. -/
def cntR (B : Int) : Nat → List Nat → Nat
  | 0, _ => 0
  | _ + 1, [] => 0
  | f + 1, n :: N =>
    if (n : Int) < B then cntR B f N
    else 1 + cntR B f (addH ((n - keepN (B / 2) n) / 2) N)
def lenR (R : List (List Int)) : List Nat := R.map List.length
/-- The lengths behind: by the lengths alone. -/
def shpR (B : Int) : Nat → List Nat → List Nat
  | 0, N => N
  | _ + 1, [] => []
  | f + 1, n :: N =>
    if (n : Int) < B then n :: shpR B f N
    else keepN (B / 2) n :: shpR B f (addH ((n - keepN (B / 2) n) / 2) N)
def rankR (x : Int) : List (List Int) → Int
  | [] => 0
  | r :: R => upV r x + 2 * rankR x R
theorem rank_beh (x : Int) (V : List Int) (R : List (List Int)) : rankR x (behR V R) = upV V x + rankR x R := by
  cases R with
  | nil => show upV V x + 2 * 0 = upV V x + 0; omega
  | cons r t => show upV (r ++ V) x + 2 * rankR x t = upV V x + (upV r x + 2 * rankR x t); rw [upV_app]; omega
def wtR : List (List Int) → Int
  | [] => 0
  | r :: R => r.length + 2 * wtR R
theorem wt_beh (V : List Int) (R : List (List Int)) : wtR (behR V R) = V.length + wtR R := by
  cases R with
  | nil => show ((V.length : Nat) : Int) + 2 * 0 = V.length + 0; omega
  | cons r t => show (((r ++ V).length : Nat) : Int) + 2 * wtR t = V.length + (r.length + 2 * wtR t); rw [List.length_append]; omega
/-- How far off ranks may be. -/
def potR : List (List Int) → Int
  | [] => 0
  | _ :: R => 2 * wtR R + 2 * potR R
theorem pot_beh (V : List Int) (R : List (List Int)) : potR (behR V R) = potR R := by
  cases R with
  | nil => show 2 * 0 + 2 * 0 = (0 : Int); omega
  | cons r t => rfl
/-- Settled: the same weight. -/
theorem set_wt {B : Int} (h4 : B % 4 = 0) (h0 : 4 ≤ B) : ∀ (f : Nat) (R : List (List Int)) (cs : List Bool), wtR (setR B f R cs).1 = wtR R
  | 0, R, cs => rfl
  | f + 1, [], cs => rfl
  | f + 1, r :: R, cs => by
    unfold setR
    by_cases c : (r.length : Int) < B
    · rw [if_pos c]
      show (r.length : Int) + 2 * wtR (setR B f R cs).1 = _
      rw [set_wt h4 h0 f R cs]; rfl
    · rw [if_neg c]
      obtain ⟨g1, g2, g3⟩ := goR_len (r := r) (cs.headD false) h4 h0 (by omega)
      obtain ⟨k1, k2, k3, k4⟩ := keepB (n := r.length) h4 h0 (by omega)
      show ((stayL (B / 2) r).length : Int) + 2 * wtR (setR B f (behR (goR B (cs.headD false) r) R) cs.tail).1 = r.length + 2 * wtR R
      rw [set_wt h4 h0 f _ _, wt_beh, (stay_len (B / 2) r).1]
      omega
/-- Settled: no rank moves further than the weight that goes up. -/
theorem set_pot {B : Int} (h4 : B % 4 = 0) (h0 : 4 ≤ B) (x : Int) : ∀ (f : Nat) (R : List (List Int)) (cs : List Bool), (rankR x (setR B f R cs).1 - rankR x R) * B ≤ 2 * potR (setR B f R cs).1 - 2 * potR R ∧ (rankR x R - rankR x (setR B f R cs).1) * B ≤ 2 * potR (setR B f R cs).1 - 2 * potR R
  | 0, R, cs => by show (rankR x R - rankR x R) * B ≤ _ ∧ _; rw [Int.sub_self, Int.zero_mul]; exact ⟨by show 0 ≤ 2 * potR R - 2 * potR R; omega, by show (rankR x R - rankR x R) * B ≤ 2 * potR R - 2 * potR R; rw [Int.sub_self, Int.zero_mul]; omega⟩
  | f + 1, [], cs => by show ((0 : Int) - 0) * B ≤ 2 * 0 - 2 * 0 ∧ ((0 : Int) - 0) * B ≤ 2 * 0 - 2 * 0; simp
  | f + 1, r :: R, cs => by
    unfold setR
    by_cases c : (r.length : Int) < B
    · rw [if_pos c]
      obtain ⟨i1, i2⟩ := set_pot h4 h0 x f R cs
      have hw := set_wt h4 h0 f R cs
      show (upV r x + 2 * rankR x (setR B f R cs).1 - (upV r x + 2 * rankR x R)) * B ≤ 2 * (2 * wtR (setR B f R cs).1 + 2 * potR (setR B f R cs).1) - 2 * (2 * wtR R + 2 * potR R) ∧ (upV r x + 2 * rankR x R - (upV r x + 2 * rankR x (setR B f R cs).1)) * B ≤ 2 * (2 * wtR (setR B f R cs).1 + 2 * potR (setR B f R cs).1) - 2 * (2 * wtR R + 2 * potR R)
      rw [hw]
      generalize rankR x (setR B f R cs).1 = a at *
      generalize rankR x R = b at *
      have e1 : (upV r x + 2 * a - (upV r x + 2 * b)) * B = 2 * ((a - b) * B) := by rw [← Int.mul_assoc]; congr 1; omega
      have e2 : (upV r x + 2 * b - (upV r x + 2 * a)) * B = 2 * ((b - a) * B) := by rw [← Int.mul_assoc]; congr 1; omega
      rw [e1, e2]
      omega
    · rw [if_neg c]
      obtain ⟨g1, g2, g3⟩ := goR_len (r := r) (cs.headD false) h4 h0 (by omega)
      obtain ⟨i1, i2⟩ := set_pot h4 h0 x f (behR (goR B (cs.headD false) r) R) cs.tail
      have hw := set_wt h4 h0 f (behR (goR B (cs.headD false) r) R) cs.tail
      rw [pot_beh, rank_beh] at i1 i2
      rw [wt_beh] at hw
      have hs := split_up (B / 2) r x
      obtain ⟨u1, u2⟩ := halv_up x (rest_sorted (B / 2) r)
      have hu : 2 * upV (goR B (cs.headD false) r) x - upV (restL (B / 2) r) x ≤ 1 ∧ -1 ≤ 2 * upV (goR B (cs.headD false) r) x - upV (restL (B / 2) r) x := by
        unfold goR
        cases cs.headD false <;> omega
      generalize goR B (cs.headD false) r = G at *
      show (upV (stayL (B / 2) r) x + 2 * rankR x (setR B f (behR G R) cs.tail).1 - (upV r x + 2 * rankR x R)) * B ≤ 2 * (2 * wtR (setR B f (behR G R) cs.tail).1 + 2 * potR (setR B f (behR G R) cs.tail).1) - 2 * (2 * wtR R + 2 * potR R) ∧ (upV r x + 2 * rankR x R - (upV (stayL (B / 2) r) x + 2 * rankR x (setR B f (behR G R) cs.tail).1)) * B ≤ 2 * (2 * wtR (setR B f (behR G R) cs.tail).1 + 2 * potR (setR B f (behR G R) cs.tail).1) - 2 * (2 * wtR R + 2 * potR R)
      rw [hw]
      generalize rankR x (setR B f (behR G R) cs.tail).1 = a at *
      generalize rankR x R = b at *
      generalize upV (stayL (B / 2) r) x = s at *
      generalize upV (restL (B / 2) r) x = t at *
      generalize upV G x = g at *
      have hB : 0 ≤ B := by omega
      have m1 : (2 * g - t) * B ≤ B := by have := Int.mul_le_mul_of_nonneg_right hu.1 hB; omega
      have m2 : (t - 2 * g) * B ≤ B := by have := Int.mul_le_mul_of_nonneg_right (show t - 2 * g ≤ 1 by omega) hB; omega
      have e1 : (s + 2 * a - (upV r x + 2 * b)) * B = 2 * ((a - (g + b)) * B) + (2 * g - t) * B := by rw [← Int.mul_assoc, ← Int.add_mul]; congr 1; omega
      have e2 : (upV r x + 2 * b - (s + 2 * a)) * B = 2 * ((g + b - a) * B) + (t - 2 * g) * B := by rw [← Int.mul_assoc, ← Int.add_mul]; congr 1; omega
      rw [e1, e2]
      omega
end Go.Proofs.Ytecnlpkfcggimaa
