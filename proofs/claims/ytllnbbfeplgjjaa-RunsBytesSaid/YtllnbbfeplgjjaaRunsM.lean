/-
  Plain mathematics of a row's bytes that are read: what is read is what was written, or there was none.
-/
import Derived.Test.YtllnbbfeplgjjaaPairC
import Derived.Test.YtllnbbfeplgjjaaQuillB
import Derived.Test.YtllnbbfeplgjjaaQuillU
import Derived.Test.YtllnbbfeplgjjaaRunsN
namespace Go.Proofs.Ytllnbbfeplgjjaa
set_option linter.unusedVariables false
set_option linter.unusedSimpArgs false
open Go.RowKit

theorem stop_spec : ∀ {l : List UInt8} {j : Nat}, stopAt l = some j → (l.take j).all hiB = true ∧ ∃ b, l[j]? = some b ∧ hiB b = false := by
  intro l
  induction l with
  | nil => intro j h; cases h
  | cons c r ih =>
    intro j h
    unfold stopAt at h
    by_cases hc : hiB c = true
    · rw [if_pos hc] at h
      cases hs : stopAt r with
      | none => rw [hs] at h; cases h
      | some i =>
        rw [hs] at h
        obtain rfl : i + 1 = j := by simpa using h
        obtain ⟨h1, b, h2, h3⟩ := ih hs
        exact ⟨by rw [List.take_succ_cons, List.all_cons, hc, h1]; rfl, b, by simpa using h2, h3⟩
    · rw [if_neg hc] at h
      obtain rfl : 0 = j := by simpa using h
      exact ⟨rfl, c, rfl, by simpa using hc⟩
theorem first_inv {l : List UInt8} (h : (firstS l).2 ≠ 0) : l = natB (firstS l).1 ++ l.drop (firstS l).2 := by
  cases hs : stopAt l with
  | none => unfold firstS at h; rw [hs] at h; exact absurd rfl h
  | some j =>
    obtain ⟨h1, b, h2, h3⟩ := stop_spec hs
    have e := firstS_at h1 h2 h3
    by_cases hc : j < 10 ∧ valL (l.take (j + 1)) < 18446744073709551616 ∧ (j = 0 ∨ b.toNat ≠ 0)
    · rw [if_pos hc] at e
      rw [e]
      show l = natB (valL (l.take (j + 1))) ++ l.drop (j + 1)
      have hj := lt_of_some h2
      rw [take_some h2, natB_of h1 h3 (by rw [List.length_take]; omega), ← take_some h2, List.take_append_drop]
    · rw [if_neg hc] at e; rw [e] at h; exact absurd rfl h
theorem eye_inv {t : ByteArray} {bd : Bool} {m : Nat} (h : gone t bd m = false) :
    bd = false ∧ (∃ n : Nat, nV t bd m = n ∧ n < 18446744073709551616 ∧ n ≤ m ∧ t.data.toList = natB n ++ (nS t bd m).data.toList) := by
  have hh := h
  unfold gone at h
  rw [Bool.or_eq_false_iff] at h
  obtain ⟨h1, h2⟩ := h
  have h2 := of_decide_eq_false h2
  refine ⟨h1, (takS t.data.toList m).1, by unfold nV; rw [hh]; rfl, takS_lt _ _, takS_most _ _, ?_⟩
  unfold nS; rw [hh]
  show t.data.toList = _ ++ (t.extract (takS t.data.toList m).2 t.size).data.toList
  rw [ext_list]
  have e : takS t.data.toList m = firstS t.data.toList := by
    unfold takS at h2 ⊢
    split
    · rename_i hc; rw [if_pos hc] at h2; exact absurd rfl h2
    · rfl
  rw [e] at h2 ⊢
  exact first_inv h2

abbrev M64 : Nat := 18446744073709551615
abbrev MC : Nat := 9223372036854775807
/-- A pair that is read. -/
theorem step_ok {t : ByteArray} {bd : Bool} (h : cgone (nS t bd 18446744073709551615) (gone t bd 18446744073709551615) = false) :
    bd = false ∧ ∃ x c : Nat, nV t bd 18446744073709551615 = x ∧ x < 18446744073709551616 ∧ nV (nS t bd 18446744073709551615) (gone t bd 18446744073709551615) 9223372036854775807 = c ∧ 1 ≤ c ∧ c ≤ 9223372036854775807 ∧
      t.data.toList = natB x ++ (natB c ++ (cS (nS t bd 18446744073709551615) (gone t bd 18446744073709551615)).data.toList) := by
  have hh := h
  unfold cgone at h
  rw [Bool.or_eq_false_iff] at h
  obtain ⟨h1, h2⟩ := h
  obtain ⟨g1, c, hc1, hc2, hc3, hc4⟩ := eye_inv h1
  obtain ⟨g2, x, hx1, hx2, hx3, hx4⟩ := eye_inv g1
  refine ⟨g2, x, c, hx1, hx2, hc1, ?_, hc3, ?_⟩
  · rw [hc1] at h2; simp at h2; omega
  · have e : cS (nS t bd 18446744073709551615) (gone t bd 18446744073709551615) = nS (nS t bd 18446744073709551615) (gone t bd 18446744073709551615) 9223372036854775807 := by unfold cS; rw [hh]; rfl
    rw [e, ← hc4]; exact hx4
/-- No pair: then none stands there. -/
theorem step_bad {t : ByteArray} (h : cgone (nS t false 18446744073709551615) (gone t false 18446744073709551615) = true) (x c : Nat) (r : List UInt8) (hx : x < 18446744073709551616) (h1 : 1 ≤ c) (h2 : c ≤ 9223372036854775807) :
    t.data.toList ≠ natB x ++ (natB c ++ r) := by
  intro e
  obtain ⟨g1, v1, s1⟩ := eye_got (m := 18446744073709551615) hx (by omega) e
  obtain ⟨g2, v2, s2⟩ := eye_got (m := 9223372036854775807) (t := nS t false 18446744073709551615) (n := c) (r := r) (by omega) h2 s1
  unfold cgone at h
  rw [g1, g2, v2] at h
  simp at h; omega

theorem body_more {L : List PairV} (j : Nat) : ∀ d, j + d ≤ L.length → ∃ R, bodyB (L.take (j + d)) = bodyB (L.take j) ++ R := by
  intro d
  induction d with
  | zero => intro _; exact ⟨[], by simp⟩
  | succ d ih =>
    intro hj
    obtain ⟨R, hR⟩ := ih (by omega)
    have h := body_step (List.getElem?_eq_getElem (l := L) (i := j + d) (by omega))
    exact ⟨_, by rw [← Nat.add_assoc, h, hR, List.append_assoc]⟩
theorem body_take {L : List PairV} (j : Nat) (hj : j ≤ L.length) : ∃ R, bodyB L = bodyB (L.take j) ++ R := by
  obtain ⟨R, hR⟩ := body_more (L := L) j (L.length - j) (by omega)
  rw [show j + (L.length - j) = L.length by omega, List.take_length] at hR
  exact ⟨R, hR⟩
/-- The first of a pair's two numbers, behind the first k. -/
def headN (L : List PairV) (k : Nat) (i : Int) : Nat := if k = 0 then (zig i).toNat else farP (idxAt L (k - 1)) i
theorem head_step {L : List PairV} {k : Nat} {p : PairV} (h : L[k]? = some p) : bodyB (L.take (k + 1)) = bodyB (L.take k) ++ (natB (headN L k p.1) ++ natB p.2.toNat) := by
  rw [body_step h]; unfold headN
  by_cases h0 : k = 0
  · rw [if_pos h0, if_pos h0]
  · rw [if_neg h0, if_neg h0]
theorem head_lt {L : List PairV} {k : Nat} {i : Int} (h : I64 i) : headN L k i < 18446744073709551616 := by
  unfold headN; split
  · have := zig_word h; unfold Word at this; omega
  · exact farP_lt _ _
theorem head_inj {L : List PairV} {k : Nat} {i j : Int} (hi : I64 i) (hj : I64 j) (h : headN L k i = headN L k j) : i = j := by
  unfold headN at h
  by_cases h0 : k = 0
  · rw [if_pos h0, if_pos h0] at h
    have w1 := zig_word hi
    have w2 := zig_word hj
    have e : zig i = zig j := by unfold Word at w1 w2; omega
    rw [← zag_zig (x := i), e, zag_zig]
  · rw [if_neg h0, if_neg h0] at h
    generalize idxAt L (k - 1) = a at h
    unfold farP at h; unfold I64 at hi hj; omega
theorem head_take {L : List PairV} {k : Nat} {i : Int} (M : List PairV) (h : M.take k = L.take k) : headN M k i = headN L k i := by
  unfold headN
  by_cases h0 : k = 0
  · rw [if_pos h0, if_pos h0]
  · rw [if_neg h0, if_neg h0]
    have e : ∀ X : List PairV, X[k - 1]? = (X.take k)[k - 1]? := fun X => by rw [List.getElem?_take_of_lt (by omega)]
    unfold idxAt
    rw [e M, e L, h]
/-- Bytes tell the pairs ahead. -/
theorem body_prefix {L : List PairV} {r : List UInt8} (oL : ∀ p, p ∈ L → okP p) : ∀ (k : Nat) (M : List PairV) (t : List UInt8), (∀ p, p ∈ M → okP p) → k ≤ M.length → k ≤ L.length → bodyB (M.take k) ++ t = bodyB L ++ r → M.take k = L.take k := by
  intro k
  induction k with
  | zero => intro M t _ _ _ _; rw [List.take_zero, List.take_zero]
  | succ k ih =>
    intro M t oM hM hL h
    have hm := List.getElem?_eq_getElem (l := M) (i := k) (by omega)
    have hl := List.getElem?_eq_getElem (l := L) (i := k) (by omega)
    generalize M[k] = p at hm
    generalize L[k] = q at hl
    obtain ⟨R, hR⟩ := body_take (L := L) (k + 1) hL
    rw [head_step hm, List.append_assoc] at h
    have e := ih M _ oM (by omega) (by omega) h
    rw [hR, head_step hl, e] at h
    simp only [List.append_assoc] at h
    have h2 := List.append_cancel_left h
    have op := oM p (List.mem_of_getElem? hm)
    have oq := oL q (List.mem_of_getElem? hl)
    rw [head_take M e] at h2
    obtain ⟨e1, h3⟩ := nat_split (head_lt op.1) (head_lt oq.1) h2
    obtain ⟨e2, _⟩ := nat_split (by have := op.2; unfold Word at this; omega) (by have := oq.2; unfold Word at this; omega) h3
    have e3 := head_inj op.1 oq.1 e1
    have e4 : p.2 = q.2 := by have h1 := op.2; have h2 := oq.2; unfold Word at h1 h2; omega
    rw [take_snocP hm, take_snocP hl, e, Prod.ext e3 e4]

/-- No row that can be, of so many pairs, is at the beginning. -/
def NoRow (s : List UInt8) (n : Nat) : Prop := ∀ L r, GoodP L → (∀ p, p ∈ L → okP p) → L.length = n → s ≠ bodyB L ++ r
/-- Behind k pairs that were read there is no further one: then there is no row. -/
theorem no_row {s t : List UInt8} {n : Nat} {M : List PairV} (oM : ∀ p, p ∈ M → okP p) (hs : s = bodyB M ++ t) (hk : M.length < n) (hbad : ∀ x c r, x < 18446744073709551616 → 1 ≤ c → c ≤ 9223372036854775807 → t ≠ natB x ++ (natB c ++ r)) : NoRow s n := by
  intro L r hg oL hn he
  have h : bodyB (M.take M.length) ++ t = bodyB L ++ r := by rw [List.take_length, ← hs, he]
  have e := body_prefix oL M.length M t oM (Nat.le_refl _) (by omega) h
  have hl := List.getElem?_eq_getElem (l := L) (i := M.length) (by omega)
  generalize L[M.length] = q at hl
  obtain ⟨R, hR⟩ := body_take (L := L) (M.length + 1) (by omega)
  rw [hR, head_step hl, e] at h
  simp only [List.append_assoc] at h
  have h2 := List.append_cancel_left h
  have oq := oL q (List.mem_of_getElem? hl)
  have hq := hg.1 q (List.mem_of_getElem? hl)
  exact hbad _ _ _ (head_lt oq.1) (by omega) (by omega) h2
/-- All pairs were read, and they can't be: then there is no row. -/
theorem no_good {s t : List UInt8} {n : Nat} {M : List PairV} (oM : ∀ p, p ∈ M → okP p) (hs : s = bodyB M ++ t) (hk : M.length = n) (hbad : ¬ GoodP M) : NoRow s n := by
  intro L r hg oL hn he
  have h : bodyB (M.take M.length) ++ t = bodyB L ++ r := by rw [List.take_length, ← hs, he]
  have e := body_prefix oL M.length M t oM (Nat.le_refl _) (by omega) h
  rw [List.take_length, hk, ← hn, List.take_length] at e
  exact hbad (e ▸ hg)
theorem next_i64 (q v : Int) : I64 (nextI q v) := by unfold I64 nextI; omega
theorem far_next {q : Int} {x : Nat} (hx : x < 18446744073709551616) : farP q (nextI q x) = x := by unfold farP nextI; omega
/-- One pair more was read. -/
theorem read_step {s t t2 : List UInt8} {M : List PairV} {i : Int} {x c : Nat} (hs : s = bodyB M ++ t) (ht : t = natB x ++ (natB c ++ t2)) (hx : headN M M.length i = x) : s = bodyB (M ++ [(i, (c : Int))]) ++ t2 := by
  have hm : (M ++ [(i, (c : Int))])[M.length]? = some (i, (c : Int)) := by simp
  have e := head_step hm
  rw [List.take_of_length_le (by simp), List.take_left, head_take (L := M) (M ++ [(i, (c : Int))]) (by rw [List.take_left, List.take_length]), hx] at e
  rw [e, hs, ht]
  simp [List.append_assoc]
end Go.Proofs.Ytllnbbfeplgjjaa
