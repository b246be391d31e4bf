/-
  Plain mathematics of rows of tuples: which rows can be; the rounds of the laws' own loops: no program in sight.
-/
import Derived.Test.YtecnlpkfcggimaaTupO
namespace Go.Proofs.Ytecnlpkfcggimaa
set_option linter.unusedVariables false
set_option linter.unusedSimpArgs false

/-! ### Sums -/
def sumT : List TupV → Int
  | [] => 0
  | p :: r => p.st + sumT r
theorem sumT_app : ∀ (L M : List TupV), sumT (L ++ M) = sumT L + sumT M
  | [], M => by show sumT M = 0 + sumT M; omega
  | p :: r, M => by
    rw [List.cons_append]
    show p.st + sumT (r ++ M) = p.st + sumT r + sumT M
    rw [sumT_app r M]; omega
theorem sumT_pos : ∀ {L : List TupV}, (∀ p, p ∈ L → 0 ≤ p.st) → 0 ≤ sumT L
  | [], h => Int.le_refl _
  | p :: r, h => by
    have h1 := h p List.mem_cons_self
    have h2 := sumT_pos (L := r) fun q hq => h q (List.mem_cons_of_mem _ hq)
    show 0 ≤ p.st + sumT r; omega
theorem sumT_step {L : List TupV} {k : Nat} {p : TupV} (h : L[k]? = some p) : sumT (L.take (k + 1)) = sumT (L.take k) + p.st := by
  rw [snocS h, sumT_app]; show _ + (p.st + 0) = _; omega
theorem sumT_take {L : List TupV} (h : ∀ p, p ∈ L → 0 ≤ p.st) (k : Nat) : 0 ≤ sumT (L.take k) ∧ sumT (L.take k) ≤ sumT L := by
  have h1 := sumT_pos (L := L.take k) fun p hp => h p (List.mem_of_mem_take hp)
  have h2 := sumT_pos (L := L.drop k) fun p hp => h p (List.mem_of_mem_drop hp)
  have h3 : sumT (L.take k ++ L.drop k) = _ := sumT_app _ _
  rw [List.take_append_drop] at h3
  omega
theorem last_sum : ∀ (L : List TupV) (a : Int), lastLo a (spotsT a L) = a + sumT L
  | [], a => by show a = a + 0; omega
  | p :: r, a => by
    show lastLo a (_ :: spotsT (a + p.st) r) = a + (p.st + sumT r)
    rw [lastLo_cons, last_sum r (a + p.st)]; omega

/-! ### Which rows can be -/
/-- Tuples that can be, behind a place a and a value q (none: they are the first ones), of n in all. -/
def CanT (n : Int) : Int → Option Int → List TupV → Prop
  | _, _, [] => True
  | a, q, p :: r => 0 < p.st ∧ p.sl ≤ n - (a + p.st) ∧ (q = none → p.st = 1 ∧ p.sl = 0) ∧ (∀ y, q = some y → y ≤ p.x) ∧ CanT n (a + p.st) (some p.x) r
def lastX (q : Option Int) (L : List TupV) : Option Int := match L.getLast? with | none => q | some p => some p.x
theorem lastX_cons (q : Option Int) (p : TupV) (r : List TupV) : lastX q (p :: r) = lastX (some p.x) r := by
  unfold lastX
  cases r with
  | nil => rfl
  | cons u v =>
    rw [List.getLast?_cons_cons]
    cases h : (u :: v).getLast? with
    | none => rw [List.getLast?_eq_none_iff] at h; cases h
    | some w => rfl
theorem can_app (n : Int) (M : List TupV) : ∀ (L : List TupV) (a : Int) (q : Option Int), CanT n a q (L ++ M) ↔ CanT n a q L ∧ CanT n (a + sumT L) (lastX q L) M
  | [], a, q => by
    show CanT n a q M ↔ True ∧ CanT n (a + 0) q M
    rw [Int.add_zero]; exact ⟨fun h => ⟨trivial, h⟩, fun h => h.2⟩
  | p :: r, a, q => by
    rw [List.cons_append, lastX_cons]
    have ih := can_app n M r (a + p.st) (some p.x)
    have e : a + sumT (p :: r) = a + p.st + sumT r := by show a + (p.st + sumT r) = _; omega
    rw [e]
    constructor
    · rintro ⟨h1, h2, h3, h4, h5⟩
      exact ⟨⟨h1, h2, h3, h4, (ih.1 h5).1⟩, (ih.1 h5).2⟩
    · rintro ⟨⟨h1, h2, h3, h4, h5⟩, h6⟩
      exact ⟨h1, h2, h3, h4, ih.2 ⟨h5, h6⟩⟩
theorem lastX_take {L : List TupV} : ∀ (k : Nat), k ≤ L.length → lastX none (L.take k) = if k = 0 then none else (L[k - 1]?).map TupV.x
  | 0, _ => rfl
  | k + 1, h => by
    have hx := List.getElem?_eq_getElem (l := L) (i := k) (by omega)
    rw [snocS hx, if_neg (by omega), Nat.add_sub_cancel, hx]
    unfold lastX
    rw [List.getLast?_concat]; rfl
/-- A round: one tuple more. -/
theorem can_step {n : Int} {L : List TupV} {k : Nat} {p : TupV} (h : L[k]? = some p) : CanT n 0 none (L.take (k + 1)) ↔ CanT n 0 none (L.take k) ∧ 0 < p.st ∧ p.sl ≤ n - (sumT (L.take k) + p.st) ∧ (k = 0 → p.st = 1 ∧ p.sl = 0) ∧ (∀ y, 0 < k → (L[k - 1]?).map TupV.x = some y → y ≤ p.x) := by
  have hk : k < L.length := by
    rcases Nat.lt_or_ge k L.length with h1 | h1
    · exact h1
    · rw [List.getElem?_eq_none h1] at h; cases h
  rw [snocS h, can_app, Int.zero_add, lastX_take k (by omega)]
  constructor
  · rintro ⟨h0, h1, h2, h3, h4, _⟩
    refine ⟨h0, h1, h2, fun e => h3 (by rw [if_pos e]), fun y hy e => h4 y (by rw [if_neg (by omega)]; exact e)⟩
  · rintro ⟨h0, h1, h2, h3, h4⟩
    refine ⟨h0, h1, h2, fun e => h3 ?_, fun y e => ?_, trivial⟩
    · by_cases hz : k = 0
      · exact hz
      · rw [if_neg hz] at e
        rw [List.getElem?_eq_getElem (by omega)] at e; cases e
    · by_cases hz : k = 0
      · rw [if_pos hz] at e; cases e
      · rw [if_neg hz] at e; exact h4 y (by omega) e
theorem can_take {n : Int} {L : List TupV} (k : Nat) (h : CanT n 0 none L) : CanT n 0 none (L.take k) := by
  have h' := h
  rw [← List.take_append_drop k L, can_app] at h'
  exact h'.1
theorem spots_x (L : List TupV) (a : Int) : ∀ s, s ∈ spotsT a L → ∃ p, p ∈ L ∧ s.x = p.x := by
  induction L generalizing a with
  | nil => intro s h; cases h
  | cons p r ih =>
    intro s h
    unfold spotsT at h
    rcases List.mem_cons.1 h with e | e
    · exact ⟨p, List.mem_cons_self, by rw [e]⟩
    · obtain ⟨q, hq, e⟩ := ih _ s e
      exact ⟨q, List.mem_cons_of_mem _ hq, e⟩
theorem spots_head (L : List TupV) (a : Int) : (spotsT a L).head? = L.head?.map fun p => ⟨p.x, a + p.st, a + p.st + p.sl⟩ := by
  cases L with
  | nil => rfl
  | cons p r => rfl
theorem can_spots {n : Int} : ∀ (L : List TupV) (a : Int) (q : Option Int), (∀ p, p ∈ L → 0 ≤ p.sl) → a + sumT L = n → (CanT n a q L ↔ SpotsP a n (spotsT a L) ∧ (q = none → ∀ p, L.head? = some p → p.st = 1 ∧ p.sl = 0) ∧ (∀ y, q = some y → ∀ p, L.head? = some p → y ≤ p.x))
  | [], a, q, _, hn => by
    have e : a = n := by rw [← hn]; show a = a + 0; omega
    exact ⟨fun _ => ⟨e, fun _ p hp => (by cases hp), fun _ _ p hp => (by cases hp)⟩, fun _ => trivial⟩
  | p :: r, a, q, hp, hn => by
    have e : a + p.st + sumT r = n := by rw [← hn]; show _ = a + (p.st + sumT r); omega
    have ih := can_spots (n := n) r (a + p.st) (some p.x) (fun q hq => hp q (List.mem_cons_of_mem _ hq)) e
    have hs := hp p List.mem_cons_self
    constructor
    · rintro ⟨h1, h2, h3, h4, h5⟩
      obtain ⟨i1, _, i3⟩ := ih.1 h5
      refine ⟨⟨by show a < a + p.st; omega, by show a + p.st ≤ a + p.st + p.sl; omega, by show a + p.st + p.sl ≤ n; omega, fun t ht => ?_, i1⟩, fun e u hu => ?_, fun y e u hu => ?_⟩
      · rw [spots_head] at ht
        cases hh : r.head? with
        | none => rw [hh] at ht; cases ht
        | some u =>
          rw [hh] at ht
          have := i3 p.x rfl u hh
          rw [← Option.some.inj ht]; exact this
      · have : p = u := Option.some.inj hu
        rw [← this]; exact h3 e
      · have : p = u := Option.some.inj hu
        rw [← this]; exact h4 y e
    · rintro ⟨⟨h1, h2, h3, h4, h5⟩, h6, h7⟩
      have h1 : a < a + p.st := h1
      have h3 : a + p.st + p.sl ≤ n := h3
      refine ⟨by omega, by omega, fun e => h6 e p rfl, fun y e => h7 y e p rfl, ih.2 ⟨h5, fun e => (by cases e), fun y e u hu => ?_⟩⟩
      have := h4 ⟨u.x, a + p.st + u.st, a + p.st + u.st + u.sl⟩ (by rw [spots_head, hu]; rfl)
      have ey : p.x = y := Option.some.inj e
      rw [← ey]; exact this
/-- A row that can be. -/
structure GoodT (L : List TupV) : Prop where
  max : sumT L ≤ 9223372036854775807
  can : SpotsP 0 (sumT L) (spotsT 0 L)
  first : FirstS (spotsT 0 L)
theorem good_can {L : List TupV} (hp : ∀ p, p ∈ L → 0 ≤ p.sl) : GoodT L ↔ sumT L ≤ 9223372036854775807 ∧ CanT (sumT L) 0 none L := by
  have h := can_spots (n := sumT L) L 0 none hp (by omega)
  have hf : FirstS (spotsT 0 L) ↔ ∀ p, L.head? = some p → p.st = 1 ∧ p.sl = 0 := by
    unfold FirstS
    rw [spots_head]
    constructor
    · intro hh p e
      have h1 := hh ⟨p.x, 0 + p.st, 0 + p.st + p.sl⟩ (by rw [e]; rfl)
      simp only at h1
      omega
    · intro hh s e
      cases hL : L.head? with
      | none => rw [hL] at e; cases e
      | some p =>
        rw [hL] at e
        have h1 := hh p hL
        rw [← Option.some.inj e]
        simp only
        omega
  constructor
  · rintro ⟨h1, h2, h3⟩
    exact ⟨h1, h.2 ⟨h2, fun _ => hf.1 h3, fun y e => (by cases e)⟩⟩
  · rintro ⟨h1, h2⟩
    obtain ⟨k1, k2, _⟩ := h.1 h2
    exact ⟨h1, k1, hf.2 (k2 rfl)⟩
theorem sum_row {n : Int} {S : List SpotV} (h : SpotsP 0 n S) : sumT (rowT 0 S) = n := by
  have h1 := last_sum (rowT 0 S) 0
  rw [spots_row, ← tot_last] at h1
  cases S with
  | nil => have h : (0 : Int) = n := h; rw [← h]; rfl
  | cons s r => rw [h.tot (by simp)] at h1; omega
theorem ToldS.good {A : List Int} {S : List SpotV} (h : ToldS A S) (hn : (A.length : Int) ≤ 9223372036854775807) : GoodT (rowT 0 S) := by
  have e := sum_row h.can
  exact ⟨by omega, by rw [spots_row, e]; exact h.can, by rw [spots_row]; exact h.first⟩
theorem sum_told {A : List Int} {S : List SpotV} (h : ToldS A S) : sumT (rowT 0 S) = A.length := sum_row h.can
theorem row_mem : ∀ (S : List SpotV) (a : Int) (p : TupV), p ∈ rowT a S → ∃ s, s ∈ S ∧ p.x = s.x
  | [], a, p, h => by cases h
  | s :: r, a, p, h => by
    unfold rowT at h
    rcases List.mem_cons.1 h with e | e
    · exact ⟨s, List.mem_cons_self, by rw [e]⟩
    · obtain ⟨t, ht, e⟩ := row_mem r _ p e
      exact ⟨t, List.mem_cons_of_mem _ ht, e⟩
/-- Bounds of a row's tuples. -/
theorem row_bd {n : Int} : ∀ {S : List SpotV} {a : Int}, SpotsP a n S → 0 ≤ a → ∀ p, p ∈ rowT a S → 0 < p.st ∧ p.st ≤ n ∧ 0 ≤ p.sl ∧ p.sl ≤ n
  | [], a, h, _, p, hp => by cases hp
  | s :: r, a, h, ha, p, hp => by
    have h1 := h.1
    have h2 := h.2.1
    have h3 := h.2.2.1
    unfold rowT at hp
    rcases List.mem_cons.1 hp with e | e
    · subst e; simp only; omega
    · exact row_bd h.2.2.2.2 (by omega) p e
theorem ToldS.x_mem {A : List Int} {S : List SpotV} (h : ToldS A S) : ∀ p, p ∈ rowT 0 S → p.x ∈ A := fun p hp => by
  obtain ⟨s, hs, e⟩ := row_mem S 0 p hp
  rw [e]; exact h.has s hs
/-- A row with a value more; squeezed; two as one. -/
def insT (L : List TupV) (x : Int) : List TupV := rowT 0 (insS (spotsT 0 L) x)
def sqzT (lim : Int) (L : List TupV) : List TupV := rowT 0 (sqzS lim (spotsT 0 L))
def mergeT (L M : List TupV) : List TupV := rowT 0 (mergeS (spotsT 0 L) (spotsT 0 M))
theorem ins_row (S : List SpotV) (x : Int) : insT (rowT 0 S) x = rowT 0 (insS S x) := by unfold insT; rw [spots_row]
theorem sqz_row (S : List SpotV) (lim : Int) : sqzT lim (rowT 0 S) = rowT 0 (sqzS lim S) := by unfold sqzT; rw [spots_row]
theorem merge_row (S T : List SpotV) : mergeT (rowT 0 S) (rowT 0 T) = rowT 0 (mergeS S T) := by unfold mergeT; rw [spots_row, spots_row]

/-! ### The laws' loops -/
def pickS (t : Int) (b : Option SpotV) (s : SpotV) : Option SpotV := match b with | none => some s | some b => some (if farS t s < farS t b then s else b)
theorem close_snoc (t : Int) (s : SpotV) : ∀ (S : List SpotV) (b : Option SpotV), closeS t b (S ++ [s]) = pickS t (closeS t b S) s
  | [], none => rfl
  | [], some b => rfl
  | u :: r, none => by rw [List.cons_append]; unfold closeS; exact close_snoc t s r _
  | u :: r, some b => by rw [List.cons_append]; unfold closeS; exact close_snoc t s r _
theorem close_step {t : Int} {S : List SpotV} {k : Nat} {s : SpotV} (h : S[k]? = some s) : closeS t none (S.take (k + 1)) = pickS t (closeS t none (S.take k)) s := by rw [snocS h, close_snoc]
theorem rankLo_step {x : Int} {S : List SpotV} {k : Nat} {s : SpotV} (h : S[k]? = some s) : rankLo (S.take (k + 1)) x = if s.x ≤ x then s.lo else rankLo (S.take k) x := by
  rw [snocS h]
  unfold rankLo ahS
  rw [List.filter_append]
  by_cases c : s.x ≤ x
  · rw [List.filter_cons_of_pos (by simpa using c), List.filter_nil, List.getLast?_concat, if_pos c]
  · rw [List.filter_cons_of_neg (by simpa using c), List.filter_nil, List.append_nil, if_neg c]
theorem rankHi_step {x n : Int} {S : List SpotV} {k : Nat} {s : SpotV} (h : S[k]? = some s) : rankHi (S.drop k) n x = if x < s.x then s.hi - 1 else rankHi (S.drop (k + 1)) n x := by
  rw [drop_is h]
  unfold rankHi bhS
  by_cases c : x < s.x
  · rw [List.filter_cons_of_pos (by simpa using c), if_pos c]; rfl
  · rw [List.filter_cons_of_neg (by simpa using c), if_neg c]
theorem upV_step {A : List Int} {k : Nat} {y : Int} (h : A[k]? = some y) (x : Int) : upV (A.take (k + 1)) x = upV (A.take k) x + if y ≤ x then 1 else 0 := by rw [snocS h, upV_app, upV_one]
theorem unV_step {A : List Int} {k : Nat} {y : Int} (h : A[k]? = some y) (x : Int) : unV (A.take (k + 1)) x = unV (A.take k) x + if y < x then 1 else 0 := by rw [snocS h, unV_app, unV_one]
/-- The greatest of step and slack. -/
def mostT : List TupV → Int
  | [] => 0
  | p :: r => max (p.st + p.sl) (mostT r)
theorem most_app : ∀ (L M : List TupV), 0 ≤ mostT M → mostT (L ++ M) = max (mostT L) (mostT M)
  | [], M, h => by show mostT M = max 0 (mostT M); omega
  | p :: r, M, h => by
    rw [List.cons_append]
    show max _ (mostT (r ++ M)) = max (max _ (mostT r)) (mostT M)
    rw [most_app r M h]; omega
theorem most_pos : ∀ (L : List TupV), 0 ≤ mostT L
  | [] => Int.le_refl _
  | p :: r => by have := most_pos r; show 0 ≤ max _ (mostT r); omega
theorem most_step {L : List TupV} {k : Nat} {p : TupV} (h : L[k]? = some p) (h0 : 0 ≤ p.st + p.sl) : mostT (L.take (k + 1)) = max (mostT (L.take k)) (p.st + p.sl) := by
  have e : mostT [p] = p.st + p.sl := by show max _ 0 = _; omega
  rw [snocS h, most_app _ _ (by rw [e]; exact h0), e]
theorem most_steps : ∀ (S : List SpotV) (a g : Int), mostT (rowT a S) ≤ g → StepsP g a S
  | [], a, g, h => trivial
  | s :: r, a, g, h => by
    have h' : max (s.lo - a + (s.hi - s.lo)) (mostT (rowT s.lo r)) ≤ g := h
    exact ⟨by omega, most_steps r s.lo g (by omega)⟩
theorem play_mem : ∀ (L : List StepV) (p : List SpotV × List Int) (x : Int), x ∈ (L.foldl stepS p).2 → x ∈ p.2 ∨ ∃ s, s ∈ L ∧ x = s.x
  | [], p, x, h => Or.inl h
  | s :: r, p, x, h => by
    rw [List.foldl_cons] at h
    rcases play_mem r _ x h with k | ⟨t, ht, e⟩
    · unfold stepS at k
      split at k
      · exact Or.inl k
      · rcases List.mem_append.1 k with k | k
        · exact Or.inl k
        · exact Or.inr ⟨s, List.mem_cons_self, List.mem_singleton.1 k⟩
    · exact Or.inr ⟨t, List.mem_cons_of_mem _ ht, e⟩
theorem play_step {L : List StepV} {k : Nat} {s : StepV} (h : L[k]? = some s) : playS (L.take (k + 1)) = stepS (playS (L.take k)) s := by rw [snocS h, play_snoc]
end Go.Proofs.Ytecnlpkfcggimaa
