/-
  Plain mathematics of rows of tuples: tuples and spots; the closest one; ranks: no program in sight.
-/
import Derived.Test.YtecnlpkfcggimaaTupM
namespace Go.Proofs.Ytecnlpkfcggimaa
set_option linter.unusedVariables false
set_option linter.unusedSimpArgs false

/-- A value, its step, its slack. -/
structure TupV where
  x : Int
  st : Int
  sl : Int
deriving DecidableEq, Inhabited
def spotsT : Int → List TupV → List SpotV
  | _, [] => []
  | a, p :: r => ⟨p.x, a + p.st, a + p.st + p.sl⟩ :: spotsT (a + p.st) r
def rowT : Int → List SpotV → List TupV
  | _, [] => []
  | a, s :: r => ⟨s.x, s.lo - a, s.hi - s.lo⟩ :: rowT s.lo r
theorem spots_row : ∀ (S : List SpotV) (a : Int), spotsT a (rowT a S) = S
  | [], a => rfl
  | s :: r, a => by
    unfold rowT spotsT
    have e : a + (s.lo - a) = s.lo := by omega
    simp only [e]
    rw [spots_row r s.lo]
    congr 1
    cases s
    simp only [SpotV.mk.injEq, true_and]
    omega
theorem row_spots : ∀ (L : List TupV) (a : Int), rowT a (spotsT a L) = L
  | [], a => rfl
  | p :: r, a => by
    unfold spotsT rowT
    simp only
    rw [row_spots r (a + p.st)]
    congr 1
    cases p
    simp only [TupV.mk.injEq, true_and]
    omega
theorem spots_len : ∀ (L : List TupV) (a : Int), (spotsT a L).length = L.length
  | [], a => rfl
  | p :: r, a => by unfold spotsT; rw [List.length_cons, List.length_cons, spots_len r]
theorem row_len : ∀ (S : List SpotV) (a : Int), (rowT a S).length = S.length
  | [], a => rfl
  | s :: r, a => by unfold rowT; rw [List.length_cons, List.length_cons, row_len r]
theorem spots_app : ∀ (L M : List TupV) (a : Int), spotsT a (L ++ M) = spotsT a L ++ spotsT (lastLo a (spotsT a L)) M
  | [], M, a => rfl
  | p :: r, M, a => by
    rw [List.cons_append]
    show _ :: spotsT (a + p.st) (r ++ M) = _
    rw [spots_app r M (a + p.st)]
    show _ = (_ :: spotsT (a + p.st) r) ++ spotsT (lastLo a (_ :: spotsT (a + p.st) r)) M
    rw [lastLo_cons]; rfl
theorem row_app : ∀ (S T : List SpotV) (a : Int), rowT a (S ++ T) = rowT a S ++ rowT (lastLo a S) T
  | [], T, a => rfl
  | s :: r, T, a => by
    rw [List.cons_append]
    show _ :: rowT s.lo (r ++ T) = _
    rw [row_app r T s.lo]
    show _ = (_ :: rowT s.lo r) ++ rowT (lastLo a (s :: r)) T
    rw [lastLo_cons]; rfl
/-- Places one further: the same tuples. -/
theorem row_up : ∀ (S : List SpotV) (a : Int), rowT (a + 1) (upS S) = rowT a S
  | [], a => rfl
  | s :: r, a => by
    show (⟨s.x, s.lo + 1 - (a + 1), s.hi + 1 - (s.lo + 1)⟩ : TupV) :: rowT (s.lo + 1) (upS r) = _
    rw [row_up r s.lo]
    show _ = (⟨s.x, s.lo - a, s.hi - s.lo⟩ : TupV) :: rowT s.lo r
    congr 1
    simp only [TupV.mk.injEq, true_and]
    omega

/-! ### The closest one -/
/-- How far a spot's places lie from one. -/
def farS (t : Int) (s : SpotV) : Int := max (t - s.lo) (s.hi - t)
/-- The closest spot, the first of such: behind one that was seen. -/
def closeS (t : Int) : Option SpotV → List SpotV → Option SpotV
  | b, [] => b
  | none, s :: r => closeS t (some s) r
  | some b, s :: r => closeS t (some (if farS t s < farS t b then s else b)) r
theorem close_some (t : Int) : ∀ (S : List SpotV) (b : SpotV), ∃ c, closeS t (some b) S = some c ∧ (c = b ∨ c ∈ S) ∧ farS t c ≤ farS t b ∧ ∀ s, s ∈ S → farS t c ≤ farS t s
  | [], b => ⟨b, rfl, Or.inl rfl, Int.le_refl _, fun s hs => by cases hs⟩
  | s :: r, b => by
    obtain ⟨c, h1, h2, h3, h4⟩ := close_some t r (if farS t s < farS t b then s else b)
    refine ⟨c, by unfold closeS; exact h1, ?_, ?_, fun u hu => ?_⟩
    · rcases h2 with e | e
      · rw [e]
        split
        · exact Or.inr List.mem_cons_self
        · exact Or.inl rfl
      · exact Or.inr (List.mem_cons_of_mem _ e)
    · split at h3 <;> omega
    · rcases List.mem_cons.1 hu with e | e
      · subst e
        split at h3 <;> omega
      · exact h4 u e
theorem close_is (t : Int) {S : List SpotV} (h : S ≠ []) : ∃ c, closeS t none S = some c ∧ c ∈ S ∧ ∀ s, s ∈ S → farS t c ≤ farS t s := by
  cases S with
  | nil => exact absurd rfl h
  | cons s r =>
    obtain ⟨c, h1, h2, h3, h4⟩ := close_some t r s
    refine ⟨c, by unfold closeS; exact h1, ?_, fun u hu => ?_⟩
    · rcases h2 with e | e
      · rw [e]; exact List.mem_cons_self
      · exact List.mem_cons_of_mem _ e
    · rcases List.mem_cons.1 hu with e | e
      · rw [e]; exact h3
      · exact h4 u e
/-- Steps and slacks are no more than g: each spot's greatest place lies no further behind the least one of the spot ahead. -/
def StepsP (g : Int) : Int → List SpotV → Prop
  | _, [] => True
  | a, s :: r => s.hi - a ≤ g ∧ StepsP g s.lo r
/-- One of the spots lies no further than half of g from any place. -/
theorem close_ex {n t g : Int} (htn : t ≤ n) (hg : 0 ≤ g) : ∀ (S : List SpotV) (p : SpotV), SpotsP p.lo n S → StepsP g p.lo S → p.hi ≤ t + g / 2 → ∃ s, (s = p ∨ s ∈ S) ∧ farS t s ≤ g / 2
  | [], p, h, _, hp => ⟨p, Or.inl rfl, by
      have h : p.lo = n := h
      unfold farS
      omega⟩
  | s :: r, p, h, hs, hp => by
    by_cases c : s.hi ≤ t + g / 2
    · obtain ⟨u, hu, hf⟩ := close_ex htn hg r s h.2.2.2.2 hs.2 c
      refine ⟨u, ?_, hf⟩
      rcases hu with e | e
      · rw [e]; exact Or.inr List.mem_cons_self
      · exact Or.inr (List.mem_cons_of_mem _ e)
    · refine ⟨p, Or.inl rfl, ?_⟩
      have h1 : s.hi - p.lo ≤ g := hs.1
      unfold farS
      omega
theorem close_half {n t g : Int} {S : List SpotV} (h : SpotsP 0 n S) (hf : FirstS S) (hs : StepsP g 0 S) (ht1 : 1 ≤ t) (ht : t ≤ n) : ∃ c, closeS t none S = some c ∧ c ∈ S ∧ farS t c ≤ g / 2 := by
  cases S with
  | nil => have h : (0 : Int) = n := h; omega
  | cons s r =>
    obtain ⟨h1, h2⟩ := hf s rfl
    have hg : 1 ≤ g := by have : s.hi - 0 ≤ g := hs.1; omega
    obtain ⟨u, hu, hfu⟩ := close_ex (t := t) ht (show 0 ≤ g by omega) r s h.2.2.2.2 hs.2 (by omega)
    obtain ⟨c, c1, c2, c3⟩ := close_is t (S := s :: r) (by simp)
    refine ⟨c, c1, c2, ?_⟩
    have hm : u ∈ s :: r := by
      rcases hu with e | e
      · rw [e]; exact List.mem_cons_self
      · exact List.mem_cons_of_mem _ e
    have := c3 u hm
    omega

/-! ### Ranks -/
/-- How many there are up to a value: at least, at most. -/
def rankLo (S : List SpotV) (x : Int) : Int := match (ahS S x).getLast? with | none => 0 | some s => s.lo
def rankHi (S : List SpotV) (n x : Int) : Int := match (bhS S x).head? with | none => n | some s => s.hi - 1
theorem rank_between {A : List Int} {S : List SpotV} (h : PlacedS A S) (x : Int) : rankLo S x ≤ upV A x ∧ upV A x ≤ rankHi S A.length x := by
  constructor
  · unfold rankLo
    cases hP : (ahS S x).getLast? with
    | none => exact (upV_bd A x).1
    | some s =>
      obtain ⟨m1, m2⟩ := ah_mem (List.mem_of_getLast? hP)
      have := (h s m1).1
      have := upV_mono A m2
      simp only
      omega
  · unfold rankHi
    cases hP : (bhS S x).head? with
    | none => exact (upV_bd A x).2
    | some s =>
      obtain ⟨m1, m2⟩ := bh_mem (List.mem_of_mem_head? hP)
      have h1 := (h s m1).2
      have h2 : upV A x ≤ unV A s.x := by
        clear h h1 hP m1
        induction A with
        | nil => exact Int.le_refl _
        | cons z r ih => rw [upV_cons, unV_cons]; split <;> split <;> omega
      simp only
      omega
end Go.Proofs.Ytecnlpkfcggimaa
