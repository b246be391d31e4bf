/-
  Plain mathematics of a tree over values, by numbers: no program in sight.
-/
import Derived.Test.YtmfbcbaomfkdiaaRows
namespace Go.Proofs.Ytmfbcbaomfkdiaa
set_option linter.unusedVariables false
set_option linter.unusedSimpArgs false

/-- How many nodes lie above one: v's level; 2 ^ level ≤ v < 2 ^ (level + 1). -/
def lvlT (v : Nat) : Nat := Nat.log2 v
theorem lvl_bd {v : Nat} (h : 1 ≤ v) : 2 ^ lvlT v ≤ v ∧ v < 2 ^ (lvlT v + 1) := ⟨Nat.log2_self_le (by omega), Nat.lt_log2_self⟩
theorem lvl_is {v l : Nat} (h1 : 2 ^ l ≤ v) (h2 : v < 2 ^ (l + 1)) : lvlT v = l := by
  have hv : 1 ≤ v := Nat.le_trans (Nat.pos_of_ne_zero (by have := Nat.pow_pos (n := l) (show 0 < 2 by omega); omega)) h1
  obtain ⟨a, b⟩ := lvl_bd hv
  have c1 : ¬ l < lvlT v := fun h => by
    have := Nat.pow_le_pow_right (show 0 < 2 by omega) (show l + 1 ≤ lvlT v by omega); omega
  have c2 : ¬ lvlT v < l := fun h => by
    have := Nat.pow_le_pow_right (show 0 < 2 by omega) (show lvlT v + 1 ≤ l by omega); omega
  omega
theorem lvl_le {v b : Nat} (h : 1 ≤ v) (h2 : v < 2 ^ (b + 1)) : lvlT v ≤ b := by
  obtain ⟨a, _⟩ := lvl_bd h
  by_cases c : lvlT v ≤ b
  · exact c
  · have := Nat.pow_le_pow_right (show 0 < 2 by omega) (show b + 1 ≤ lvlT v by omega); omega
theorem lvl_one : lvlT 1 = 0 := lvl_is (by decide) (by decide)
theorem lvl_up {v : Nat} (h : 2 ≤ v) : lvlT v = lvlT (v / 2) + 1 := by
  obtain ⟨a, b⟩ := lvl_bd (show 1 ≤ v / 2 by omega)
  refine lvl_is ?_ ?_
  · rw [Nat.pow_succ]; omega
  · rw [Nat.pow_succ]; omega
theorem lvl_down {v : Nat} (h : 1 ≤ v) : lvlT (2 * v) = lvlT v + 1 ∧ lvlT (2 * v + 1) = lvlT v + 1 := by
  have a := lvl_up (v := 2 * v) (by omega)
  have b := lvl_up (v := 2 * v + 1) (by omega)
  rw [show 2 * v / 2 = v by omega] at a
  rw [show (2 * v + 1) / 2 = v by omega] at b
  exact ⟨a, b⟩
theorem lvl_div {v : Nat} (k : Nat) (h : 1 ≤ v) (hk : k ≤ lvlT v) : 1 ≤ v / 2 ^ k ∧ lvlT (v / 2 ^ k) = lvlT v - k := by
  obtain ⟨a, b⟩ := lvl_bd h
  have hp := Nat.pow_pos (n := k) (show 0 < 2 by omega)
  have e1 : 2 ^ (lvlT v - k) * 2 ^ k = 2 ^ lvlT v := by rw [← Nat.pow_add]; congr 1; omega
  have e2 : 2 ^ (lvlT v - k + 1) * 2 ^ k = 2 ^ (lvlT v + 1) := by rw [← Nat.pow_add]; congr 1; omega
  have l1 : 2 ^ (lvlT v - k) ≤ v / 2 ^ k := (Nat.le_div_iff_mul_le hp).2 (by rw [e1]; exact a)
  have l2 : v / 2 ^ k < 2 ^ (lvlT v - k + 1) := (Nat.div_lt_iff_lt_mul hp).2 (by rw [e2]; exact b)
  have p1 := Nat.pow_pos (n := lvlT v - k) (show 0 < 2 by omega)
  exact ⟨by omega, lvl_is l1 l2⟩

/-- The least and the greatest of the values below a node, counted on from 2 ^ b (the values' own nodes). -/
def loT (b v : Nat) : Nat := v * 2 ^ (b - lvlT v)
def upT (b v : Nat) : Nat := (v + 1) * 2 ^ (b - lvlT v)
theorem range_in {b v : Nat} (h : 1 ≤ v) (h2 : v < 2 ^ (b + 1)) : 2 ^ b ≤ loT b v ∧ loT b v < upT b v ∧ upT b v ≤ 2 ^ (b + 1) := by
  have hl := lvl_le h h2
  obtain ⟨a, c⟩ := lvl_bd h
  have hp := Nat.pow_pos (n := b - lvlT v) (show 0 < 2 by omega)
  have e1 : 2 ^ lvlT v * 2 ^ (b - lvlT v) = 2 ^ b := by rw [← Nat.pow_add]; congr 1; omega
  have e2 : 2 ^ (lvlT v + 1) * 2 ^ (b - lvlT v) = 2 ^ (b + 1) := by rw [← Nat.pow_add]; congr 1; omega
  unfold loT upT
  refine ⟨by rw [← e1]; exact Nat.mul_le_mul_right _ a, by rw [Nat.add_mul]; omega, by rw [← e2]; exact Nat.mul_le_mul_right _ (by omega)⟩
/-- A node that lies above another one, or is it. -/
def aboveT (v w : Nat) : Prop := lvlT v ≤ lvlT w ∧ w / 2 ^ (lvlT w - lvlT v) = v
instance (v w : Nat) : Decidable (aboveT v w) := by unfold aboveT; infer_instance
theorem above_self (v : Nat) : aboveT v v := ⟨Nat.le_refl _, by simp⟩
/-- What lies at a level: below it the same values. -/
theorem range_div {b w k : Nat} (h : 1 ≤ w) (h2 : w < 2 ^ (b + 1)) (hk : k ≤ lvlT w) : loT b (w / 2 ^ k) ≤ loT b w ∧ upT b w ≤ upT b (w / 2 ^ k) := by
  obtain ⟨u1, u2⟩ := lvl_div k h hk
  have hl := lvl_le h h2
  have hp := Nat.pow_pos (n := k) (show 0 < 2 by omega)
  have e : 2 ^ (b - lvlT (w / 2 ^ k)) = 2 ^ k * 2 ^ (b - lvlT w) := by rw [u2, ← Nat.pow_add]; congr 1; omega
  have d1 := Nat.div_mul_le_self w (2 ^ k)
  have d2 : w < (w / 2 ^ k + 1) * 2 ^ k := by
    have := Nat.lt_div_mul_add (a := w) hp
    rw [Nat.add_mul]; omega
  unfold loT upT
  rw [e]
  constructor
  · rw [← Nat.mul_assoc]; exact Nat.mul_le_mul_right _ d1
  · rw [← Nat.mul_assoc]; exact Nat.mul_le_mul_right _ d2
theorem above_range {b v w : Nat} (hw : 1 ≤ w) (hw2 : w < 2 ^ (b + 1)) (h : aboveT v w) : loT b v ≤ loT b w ∧ upT b w ≤ upT b v := by
  have := range_div (k := lvlT w - lvlT v) hw hw2 (by omega)
  rwa [h.2] at this
/-- Of one level: apart, or the same. -/
theorem same_level {b v w : Nat} (he : lvlT v = lvlT w) (h : v < w) : upT b v ≤ loT b w := by
  unfold upT loT; rw [he]; exact Nat.mul_le_mul_right _ h
/-- Of two nodes one lies above the other one, or no value lies below both. -/
theorem above_or {b v w : Nat} (hv : 1 ≤ v) (hv2 : v < 2 ^ (b + 1)) (hw : 1 ≤ w) (hw2 : w < 2 ^ (b + 1)) :
    (upT b v ≤ loT b w ∨ upT b w ≤ loT b v) ↔ ¬ (aboveT v w ∨ aboveT w v) := by
  obtain ⟨a1, a2, a3⟩ := range_in hv hv2
  obtain ⟨b1, b2, b3⟩ := range_in hw hw2
  constructor
  · rintro h (k | k)
    · have := above_range hw hw2 k; omega
    · have := above_range hv hv2 k; omega
  · intro h
    have key : ∀ x y : Nat, 1 ≤ x → x < 2 ^ (b + 1) → 1 ≤ y → y < 2 ^ (b + 1) → lvlT x ≤ lvlT y → ¬ aboveT x y → upT b x ≤ loT b y ∨ upT b y ≤ loT b x := by
      intro x y hx hx2 hy hy2 hl hn
      obtain ⟨u1, u2⟩ := lvl_div (lvlT y - lvlT x) hy (by omega)
      have hr := range_div (b := b) (k := lvlT y - lvlT x) hy hy2 (by omega)
      have hne : y / 2 ^ (lvlT y - lvlT x) ≠ x := fun e => hn ⟨hl, e⟩
      have hle : lvlT (y / 2 ^ (lvlT y - lvlT x)) = lvlT x := by omega
      rcases Nat.lt_or_gt_of_ne hne with c | c
      · have := same_level (b := b) hle c; exact Or.inr (by omega)
      · have := same_level (b := b) hle.symm c; exact Or.inl (by omega)
    rcases Nat.le_total (lvlT v) (lvlT w) with c | c
    · exact key v w hv hv2 hw hw2 c (fun k => h (Or.inl k))
    · rcases key w v hw hw2 hv hv2 c (fun k => h (Or.inr k)) with k | k
      · exact Or.inr k
      · exact Or.inl k
/-- Told ahead. -/
def beforeT (b v w : Nat) : Bool := decide (upT b v < upT b w) || (decide (upT b v = upT b w) && decide (lvlT w < lvlT v))
theorem before_or {b v w : Nat} (hv : 1 ≤ v) (hw : 1 ≤ w) : (beforeT b v w || beforeT b w v) = !(v == w) ∧ (beforeT b v w && beforeT b w v) = false := by
  by_cases e : v = w
  · subst e; unfold beforeT; simp
  · have hne : (v == w) = false := by simp [e]
    rw [hne]
    unfold beforeT
    rcases Nat.lt_trichotomy (upT b v) (upT b w) with c | c | c
    · have : ¬ upT b w < upT b v := by omega
      have d : ¬ upT b w = upT b v := by omega
      simp [c, this, d]
    · have hl : lvlT v ≠ lvlT w := fun hl => by
        rcases Nat.lt_or_gt_of_ne e with k | k
        · have := same_level (b := b) hl k
          have hp := Nat.pow_pos (n := b - lvlT w) (show 0 < 2 by omega)
          have : loT b w < upT b w := by unfold loT upT; rw [Nat.add_mul]; omega
          omega
        · have := same_level (b := b) hl.symm k
          have hp := Nat.pow_pos (n := b - lvlT v) (show 0 < 2 by omega)
          have : loT b v < upT b v := by unfold loT upT; rw [Nat.add_mul]; omega
          omega
      rcases Nat.lt_or_gt_of_ne hl with k | k
      · have : ¬ lvlT w < lvlT v := by omega
        simp [c, k, this]
      · have : ¬ lvlT v < lvlT w := by omega
        simp [c, k, this]
    · have : ¬ upT b v < upT b w := by omega
      have d : ¬ upT b v = upT b w := by omega
      simp [c, this, d]
theorem before_trans {b v w x : Nat} (h : beforeT b v w = true) (k : beforeT b w x = true) : beforeT b v x = true := by
  unfold beforeT at *
  simp only [Bool.or_eq_true, Bool.and_eq_true, decide_eq_true_eq] at *
  omega
/-- Both nodes below one. -/
theorem halves {b v : Nat} (h : 1 ≤ v) (hb : lvlT v < b) : loT b (2 * v) = loT b v ∧ upT b (2 * v) = loT b (2 * v + 1) ∧ upT b (2 * v + 1) = upT b v := by
  obtain ⟨d1, d2⟩ := lvl_down h
  have e : 2 ^ (b - lvlT v) = 2 * 2 ^ (b - (lvlT v + 1)) := by rw [← Nat.pow_succ']; congr 1; omega
  unfold loT upT
  rw [d1, d2, e]
  refine ⟨?_, rfl, ?_⟩
  · rw [Nat.mul_comm 2 v, Nat.mul_assoc]
  · rw [show 2 * v + 1 + 1 = (v + 1) * 2 by omega, Nat.mul_assoc]
/-- A value's own node. -/
theorem leaf_is {b x : Nat} (h : x < 2 ^ b) : lvlT (2 ^ b + x) = b ∧ loT b (2 ^ b + x) = 2 ^ b + x ∧ upT b (2 ^ b + x) = 2 ^ b + x + 1 := by
  have hl : lvlT (2 ^ b + x) = b := lvl_is (by omega) (by rw [Nat.pow_succ]; omega)
  unfold loT upT
  rw [hl, Nat.sub_self, Nat.pow_zero, Nat.mul_one, Nat.mul_one]
  exact ⟨rfl, rfl, rfl⟩
/-- The nodes down to one: the last k of them. -/
def pathT (v k : Nat) : List Nat := (List.range k).map fun i => v / 2 ^ (k - 1 - i)
theorem path_len (v k : Nat) : (pathT v k).length = k := by unfold pathT; simp
theorem path_succ (v k : Nat) : pathT v (k + 1) = (v / 2 ^ k) :: pathT v k := by
  unfold pathT
  rw [List.range_succ_eq_map, List.map_cons, List.map_map]
  congr 1
  refine List.map_congr_left fun i hi => ?_
  show v / 2 ^ (k + 1 - 1 - (i + 1)) = v / 2 ^ (k - 1 - i)
  congr 2
  omega
theorem path_at (v k i : Nat) (h : i < k) : (pathT v k)[i]? = some (v / 2 ^ (k - 1 - i)) := by
  unfold pathT
  rw [List.getElem?_map, List.getElem?_range h]; rfl
theorem path_above {v w : Nat} (hw : 1 ≤ w) : v ∈ pathT w (lvlT w + 1) ↔ aboveT v w := by
  unfold pathT
  rw [List.mem_map]
  constructor
  · rintro ⟨i, hi, rfl⟩
    have hi := List.mem_range.1 hi
    obtain ⟨a, b⟩ := lvl_div (lvlT w + 1 - 1 - i) hw (by omega)
    refine ⟨by omega, ?_⟩
    rw [b, show lvlT w - (lvlT w - (lvlT w + 1 - 1 - i)) = lvlT w + 1 - 1 - i by omega]
  · rintro ⟨hl, e⟩
    refine ⟨lvlT v, List.mem_range.2 (by omega), ?_⟩
    rw [show lvlT w + 1 - 1 - lvlT v = lvlT w - lvlT v by omega]; exact e
theorem path_ends {v : Nat} (h : 1 ≤ v) {k : Nat} : 1 ≤ v / 2 ^ k ↔ k ≤ lvlT v := by
  obtain ⟨a, b⟩ := lvl_bd h
  constructor
  · intro hk
    by_cases c : k ≤ lvlT v
    · exact c
    · exfalso
      have := Nat.pow_le_pow_right (show 0 < 2 by omega) (show lvlT v + 1 ≤ k by omega)
      rw [Nat.div_eq_of_lt (by omega)] at hk; omega
  · intro hk; exact (lvl_div k h hk).1
/-- One node further down: the least value below it. -/
theorem range_step {b i u t : Nat} (h : i < b) : (2 * u + t) * 2 ^ (b - (i + 1)) = u * 2 ^ (b - i) + t * 2 ^ (b - (i + 1)) := by
  have e : 2 ^ (b - i) = 2 * 2 ^ (b - (i + 1)) := by rw [← Nat.pow_succ']; congr 1; omega
  rw [e, Nat.add_mul, ← Nat.mul_assoc, Nat.mul_comm u 2]
theorem div_step (v k : Nat) : v / 2 ^ k = 2 * (v / 2 ^ (k + 1)) + v / 2 ^ k % 2 := by
  have : v / 2 ^ (k + 1) = v / 2 ^ k / 2 := by rw [Nat.pow_succ, Nat.div_div_eq_div_mul]
  omega
end Go.Proofs.Ytmfbcbaomfkdiaa
