/-
  Plain mathematics: a row of values in another order, and in other pieces.
-/
import Derived.Test.YtcijflakldggaaaGreatK7
namespace Go.Proofs.YtcijflakldggaaaGreat
set_option linter.unusedVariables false
set_option linter.unusedSimpArgs false

/-- Turned at a place: what lies ahead of it, from behind, then what lies behind it, from behind. -/
def rotV (t : Nat) (A : List PairV) : List PairV := (A.take t).reverse ++ (A.drop t).reverse
theorem rot_len (t : Nat) (A : List PairV) : (rotV t A).length = A.length := by
  unfold rotV
  rw [List.length_append, List.length_reverse, List.length_reverse, List.length_take, List.length_drop]; omega
theorem rot_at {A : List PairV} {t i : Nat} (ht : t ≤ A.length) (hi : i < A.length) : (rotV t A)[i]? = A[(A.length - 1 - i + t) % A.length]? := by
  unfold rotV
  have l1 : (A.take t).length = t := by rw [List.length_take]; omega
  have l2 : (A.drop t).length = A.length - t := List.length_drop
  by_cases h : i < t
  · rw [List.getElem?_append_left (by rw [List.length_reverse, l1]; exact h), List.getElem?_reverse (by rw [l1]; exact h), l1, List.getElem?_take_of_lt (by omega)]
    have e : A.length - 1 - i + t = A.length + (t - 1 - i) := by omega
    rw [e, Nat.add_mod_left, Nat.mod_eq_of_lt (by omega)]
  · rw [List.getElem?_append_right (by rw [List.length_reverse, l1]; omega), List.length_reverse, l1, List.getElem?_reverse (by rw [l2]; omega), l2, List.getElem?_drop]
    rw [Nat.mod_eq_of_lt (by omega)]
    congr 1; omega
theorem cnt_rev (f : Int → Bool) : ∀ A : List PairV, cntV f A.reverse = cntV f A := by
  intro A
  induction A with
  | nil => rfl
  | cons v r ih => rw [List.reverse_cons, cnt_app, ih, cnt_one, cnt_cons]; omega
theorem cnt_rot (f : Int → Bool) (t : Nat) (A : List PairV) : cntV f (rotV t A) = cntV f A := by
  unfold rotV
  rw [cnt_app, cnt_rev, cnt_rev, ← cnt_app, List.take_append_drop]
/-- Each value that comes more than once in two pieces: all but one, and one. -/
def oneV (v : PairV) : List PairV := if 1 < v.2 then [(v.1, v.2 - 1), (v.1, 1)] else [v]
def splitV (A : List PairV) : List PairV := A.flatMap oneV
theorem split_snoc (A : List PairV) (v : PairV) : splitV (A ++ [v]) = splitV A ++ oneV v := by
  unfold splitV; rw [List.flatMap_append]; simp
theorem cnt_onev (f : Int → Bool) (v : PairV) : cntV f (oneV v) = if f v.1 = true then v.2 else 0 := by
  unfold oneV
  split
  · rw [cnt_cons, cnt_one]; dsimp only; split <;> omega
  · exact cnt_one f v
theorem cnt_split (f : Int → Bool) : ∀ A : List PairV, cntV f (splitV A) = cntV f A := by
  intro A
  induction A with
  | nil => rfl
  | cons v r ih =>
    have e : splitV (v :: r) = oneV v ++ splitV r := by unfold splitV; rw [List.flatMap_cons]
    rw [e, cnt_app, ih, cnt_onev, cnt_cons]
theorem onev_len (v : PairV) : (oneV v).length ≤ 2 := by unfold oneV; split <;> simp
theorem split_len : ∀ A : List PairV, (splitV A).length ≤ 2 * A.length := by
  intro A
  induction A with
  | nil => simp [splitV]
  | cons v r ih =>
    have e : splitV (v :: r) = oneV v ++ splitV r := by unfold splitV; rw [List.flatMap_cons]
    rw [e, List.length_append, List.length_cons]
    have := onev_len v
    omega
theorem onev_ok {v : PairV} (h : okP v) : ∀ p, p ∈ oneV v → okP p := by
  intro p hp
  obtain ⟨h1, h2, h3⟩ := h
  unfold oneV at hp
  split at hp
  · rcases List.mem_cons.1 hp with rfl | hp
    · exact ⟨h1, by show 0 ≤ v.2 - 1; omega, by show v.2 - 1 < _; omega⟩
    · obtain rfl : p = (v.1, 1) := by simpa using hp
      exact ⟨h1, by show (0 : Int) ≤ 1; decide, by show (1 : Int) < 18446744073709551616; decide⟩
  · obtain rfl : p = v := by simpa using hp
    exact ⟨h1, h2, h3⟩
theorem split_ok {A : List PairV} (h : ∀ p, p ∈ A → okP p) : ∀ p, p ∈ splitV A → okP p := by
  intro p hp
  unfold splitV at hp
  obtain ⟨v, hv, hq⟩ := List.mem_flatMap.1 hp
  exact onev_ok (h v hv) p hq
theorem rot_ok {A : List PairV} {t : Nat} (h : ∀ p, p ∈ A → okP p) : ∀ p, p ∈ rotV t A → okP p := by
  intro p hp
  unfold rotV at hp
  rcases List.mem_append.1 hp with hp | hp
  · exact h p (List.mem_of_mem_take (List.mem_reverse.1 hp))
  · exact h p (List.mem_of_mem_drop (List.mem_reverse.1 hp))
theorem cnt_order (f : Int → Bool) (t : Nat) (A : List PairV) : cntV f (splitV (rotV t A)) = cntV f A := (cnt_split f _).trans (cnt_rot f t A)
end Go.Proofs.YtcijflakldggaaaGreat
