/-
  Plain mathematics of rows of tuples, told as spots (a value, its least and its greatest place): no program in sight.
-/
import Derived.Test.YtecnlpkfcggimaaPairM
namespace Go.Proofs.Ytecnlpkfcggimaa
set_option linter.unusedVariables false
set_option linter.unusedSimpArgs false

/-- A value, its least, and its greatest place. -/
structure SpotV where
  x : Int
  lo : Int
  hi : Int
deriving DecidableEq, Inhabited
/-- How many values there are up to one; how many are less. -/
def upV (A : List Int) (x : Int) : Int := ((A.filter fun y => decide (y ≤ x)).length : Nat)
def unV (A : List Int) (x : Int) : Int := ((A.filter fun y => decide (y < x)).length : Nat)
theorem upV_nil (x : Int) : upV [] x = 0 := rfl
theorem unV_nil (x : Int) : unV [] x = 0 := rfl
theorem upV_cons (y : Int) (A : List Int) (x : Int) : upV (y :: A) x = (if y ≤ x then 1 else 0) + upV A x := by
  unfold upV
  by_cases h : y ≤ x
  · rw [List.filter_cons_of_pos (by simpa using h), if_pos h, List.length_cons]; omega
  · rw [List.filter_cons_of_neg (by simpa using h), if_neg h]; omega
theorem unV_cons (y : Int) (A : List Int) (x : Int) : unV (y :: A) x = (if y < x then 1 else 0) + unV A x := by
  unfold unV
  by_cases h : y < x
  · rw [List.filter_cons_of_pos (by simpa using h), if_pos h, List.length_cons]; omega
  · rw [List.filter_cons_of_neg (by simpa using h), if_neg h]; omega
theorem upV_app (A B : List Int) (x : Int) : upV (A ++ B) x = upV A x + upV B x := by
  unfold upV; rw [List.filter_append, List.length_append]; omega
theorem unV_app (A B : List Int) (x : Int) : unV (A ++ B) x = unV A x + unV B x := by
  unfold unV; rw [List.filter_append, List.length_append]; omega
theorem upV_one (y x : Int) : upV [y] x = if y ≤ x then 1 else 0 := by rw [upV_cons, upV_nil]; omega
theorem unV_one (y x : Int) : unV [y] x = if y < x then 1 else 0 := by rw [unV_cons, unV_nil]; omega
theorem upV_bd (A : List Int) (x : Int) : 0 ≤ upV A x ∧ upV A x ≤ A.length := by
  unfold upV; have := List.length_filter_le (fun y => decide (y ≤ x)) A; omega
theorem unV_bd (A : List Int) (x : Int) : 0 ≤ unV A x ∧ unV A x ≤ A.length := by
  unfold unV; have := List.length_filter_le (fun y => decide (y < x)) A; omega
theorem upV_mono (A : List Int) {x y : Int} (h : x ≤ y) : upV A x ≤ upV A y := by
  induction A with
  | nil => exact Int.le_refl _
  | cons z r ih => rw [upV_cons, upV_cons]; split <;> split <;> omega
theorem unV_mono (A : List Int) {x y : Int} (h : x ≤ y) : unV A x ≤ unV A y := by
  induction A with
  | nil => exact Int.le_refl _
  | cons z r ih => rw [unV_cons, unV_cons]; split <;> split <;> omega
theorem unV_up (A : List Int) (x : Int) : unV A x ≤ upV A x := by
  induction A with
  | nil => exact Int.le_refl _
  | cons z r ih => rw [unV_cons, upV_cons]; split <;> split <;> omega

/-- Of how many a list of spots tells. -/
def totS (S : List SpotV) : Int := match S.getLast? with | none => 0 | some s => s.lo
theorem totS_nil : totS [] = 0 := rfl
theorem totS_snoc (S : List SpotV) (s : SpotV) : totS (S ++ [s]) = s.lo := by unfold totS; rw [List.getLast?_concat]
/-- Spots that can be, told behind a place a, of n in all. -/
def SpotsP (a n : Int) : List SpotV → Prop
  | [] => a = n
  | s :: r => a < s.lo ∧ s.lo ≤ s.hi ∧ s.hi ≤ n ∧ (∀ t, r.head? = some t → s.x ≤ t.x) ∧ SpotsP s.lo n r
theorem SpotsP.le {n : Int} : ∀ {S : List SpotV} {a : Int}, SpotsP a n S → a ≤ n
  | [], a, h => by have h : a = n := h; omega
  | s :: r, a, h => by have := h.1; have := h.2.1; have := h.2.2.1; omega
theorem SpotsP.mem {n : Int} : ∀ {S : List SpotV} {a : Int}, SpotsP a n S → ∀ s, s ∈ S → a < s.lo ∧ s.lo ≤ s.hi ∧ s.hi ≤ n
  | [], a, h, s, hs => by cases hs
  | t :: r, a, h, s, hs => by
    rcases List.mem_cons.1 hs with e | e
    · subst e; exact ⟨h.1, h.2.1, h.2.2.1⟩
    · have := SpotsP.mem h.2.2.2.2 s e
      have := h.1
      exact ⟨by omega, by omega, by omega⟩
theorem SpotsP.x_le {n : Int} : ∀ {r : List SpotV} {s : SpotV} {a : Int}, SpotsP a n (s :: r) → ∀ t, t ∈ r → s.x ≤ t.x
  | [], s, a, h, t, ht => by cases ht
  | u :: r, s, a, h, t, ht => by
    have h1 := h.2.2.2.1 u rfl
    rcases List.mem_cons.1 ht with e | e
    · subst e; exact h1
    · have := SpotsP.x_le h.2.2.2.2 t e; omega
theorem SpotsP.tot {n : Int} : ∀ {S : List SpotV} {a : Int}, SpotsP a n S → S ≠ [] → totS S = n
  | [], a, h, hn => absurd rfl hn
  | [s], a, h, _ => h.2.2.2.2
  | s :: t :: r, a, h, _ => by
    have := SpotsP.tot h.2.2.2.2 (by simp)
    unfold totS at *
    rw [List.getLast?_cons_cons]; exact this
/-- Each spot's value stands between its least and its greatest place. -/
def PlacedS (A : List Int) (S : List SpotV) : Prop := ∀ s, s ∈ S → s.lo ≤ upV A s.x ∧ unV A s.x + 1 ≤ s.hi
theorem PlacedS.nil (A : List Int) : PlacedS A [] := fun s h => by cases h

/-! ### A value more -/
/-- The spots ahead, and those behind. -/
def ahS (S : List SpotV) (x : Int) : List SpotV := S.filter fun s => decide (s.x ≤ x)
def bhS (S : List SpotV) (x : Int) : List SpotV := S.filter fun s => decide (x < s.x)
theorem part_x {n : Int} (x : Int) : ∀ {S : List SpotV} {a : Int}, SpotsP a n S → S = ahS S x ++ bhS S x
  | [], a, h => rfl
  | s :: r, a, h => by
    have ih := part_x x h.2.2.2.2
    unfold ahS bhS at *
    by_cases c : s.x ≤ x
    · rw [List.filter_cons_of_pos (by simpa using c), List.filter_cons_of_neg (by simp; omega), List.cons_append, ← ih]
    · have hx := SpotsP.x_le h
      have e1 : (r.filter fun s => decide (s.x ≤ x)) = [] := List.filter_eq_nil_iff.2 fun t ht => by have := hx t ht; simp; omega
      have e2 : (r.filter fun s => decide (x < s.x)) = r := List.filter_eq_self.2 fun t ht => by have := hx t ht; simp; omega
      rw [List.filter_cons_of_neg (by simpa using c), List.filter_cons_of_pos (by simp; omega), e1, e2]; rfl
/-- All places one further. -/
def upS (S : List SpotV) : List SpotV := S.map fun s => ⟨s.x, s.lo + 1, s.hi + 1⟩
/-- The spot of a new value, behind P and ahead of Q. -/
def newS (P Q : List SpotV) (x : Int) : SpotV :=
  match P.getLast?, Q with
  | none, _ => ⟨x, 1, 1⟩
  | some p, [] => ⟨x, p.lo + 1, p.lo + 1⟩
  | some p, q :: _ => ⟨x, p.lo + 1, q.hi⟩
def insS (S : List SpotV) (x : Int) : List SpotV := ahS S x ++ newS (ahS S x) (bhS S x) x :: upS (bhS S x)
theorem SpotsP.shift {n : Int} : ∀ {S : List SpotV} {a : Int}, SpotsP a n S → SpotsP (a + 1) (n + 1) (upS S)
  | [], a, h => by show a + 1 = n + 1; have h : a = n := h; omega
  | s :: r, a, h => by
    refine ⟨?_, ?_, ?_, fun t ht => ?_, SpotsP.shift h.2.2.2.2⟩
    · show a + 1 < s.lo + 1; have := h.1; omega
    · show s.lo + 1 ≤ s.hi + 1; have := h.2.1; omega
    · show s.hi + 1 ≤ n + 1; have := h.2.2.1; omega
    · cases r with
      | nil => cases ht
      | cons u v =>
        have : t = ⟨u.x, u.lo + 1, u.hi + 1⟩ := (Option.some.inj ht).symm
        subst this
        exact h.2.2.2.1 u rfl
theorem SpotsP.more {n : Int} : ∀ {S : List SpotV} {a : Int}, SpotsP a n S → ∀ s, s ∈ S → s.hi ≤ n := fun h s hs => (h.mem s hs).2.2

/-- The least place of the last one; a, if there is none. -/
def lastLo (a : Int) (P : List SpotV) : Int := match P.getLast? with | none => a | some p => p.lo
theorem lastLo_nil (a : Int) : lastLo a [] = a := rfl
theorem lastLo_cons (a : Int) (s : SpotV) (r : List SpotV) : lastLo a (s :: r) = lastLo s.lo r := by
  unfold lastLo
  cases r with
  | nil => rfl
  | cons u v =>
    rw [List.getLast?_cons_cons]
    cases h : (u :: v).getLast? with
    | none => rw [List.getLast?_eq_none_iff] at h; cases h
    | some w => rfl
theorem SpotsP.right {n : Int} {Q : List SpotV} : ∀ {P : List SpotV} {a : Int}, SpotsP a n (P ++ Q) → SpotsP (lastLo a P) n Q
  | [], a, h => h
  | s :: r, a, h => by rw [lastLo_cons]; exact SpotsP.right h.2.2.2.2
theorem SpotsP.glue {n n' : Int} {Q R : List SpotV} (hn : n ≤ n') : ∀ {P : List SpotV} {a : Int}, SpotsP a n (P ++ Q) → SpotsP (lastLo a P) n' R → (∀ t, R.head? = some t → ∀ p, p ∈ P → p.x ≤ t.x) → SpotsP a n' (P ++ R)
  | [], a, h, k, _ => k
  | s :: r, a, h, k, hx => by
    rw [lastLo_cons] at k
    have ih := SpotsP.glue hn (P := r) h.2.2.2.2 k fun t ht p hp => hx t ht p (List.mem_cons_of_mem _ hp)
    have h3 : s.hi ≤ n := h.2.2.1
    refine ⟨h.1, h.2.1, by omega, fun t ht => ?_, ih⟩
    cases r with
    | nil => exact hx t ht s List.mem_cons_self
    | cons u v => exact h.2.2.2.1 t ht
theorem bh_mem {S : List SpotV} {x : Int} {s : SpotV} (h : s ∈ bhS S x) : s ∈ S ∧ x < s.x := by
  have := List.mem_filter.1 h; exact ⟨this.1, by simpa using this.2⟩
theorem ah_mem {S : List SpotV} {x : Int} {s : SpotV} (h : s ∈ ahS S x) : s ∈ S ∧ s.x ≤ x := by
  have := List.mem_filter.1 h; exact ⟨this.1, by simpa using this.2⟩
theorem SpotsP.ins {n : Int} {S : List SpotV} (h : SpotsP 0 n S) (x : Int) : SpotsP 0 (n + 1) (insS S x) := by
  have hp := part_x x h
  have h' := h
  rw [hp] at h'
  have hr := h'.right
  have hle := h.le
  refine SpotsP.glue (Q := bhS S x) (by omega) h' ?_ fun t ht p hpm => ?_
  · have hb : ∀ q, q ∈ bhS S x → x < q.x := fun q hq => (bh_mem hq).2
    generalize ahS S x = P at *
    generalize bhS S x = Q at *
    clear h hp h'
    unfold newS
    unfold lastLo at hr ⊢
    have hd : ∀ (Q : List SpotV), (∀ q, q ∈ Q → x < q.x) → ∀ t, (upS Q).head? = some t → x ≤ t.x := fun Q hQ t ht => by
      cases Q with
      | nil => cases ht
      | cons q r =>
        have : t = ⟨q.x, q.lo + 1, q.hi + 1⟩ := (Option.some.inj ht).symm
        have := hQ q List.mem_cons_self
        subst t; show x ≤ q.x; omega
    cases hP : P.getLast? with
    | none =>
      rw [hP] at hr
      simp only at hr ⊢
      refine ⟨by show (0 : Int) < 1; omega, Int.le_refl _, by show (1 : Int) ≤ n + 1; omega, hd Q hb, ?_⟩
      exact hr.shift
    | some p =>
      rw [hP] at hr
      simp only at hr ⊢
      cases Q with
      | nil =>
        have e : p.lo = n := hr
        refine ⟨by show p.lo < p.lo + 1; omega, Int.le_refl _, by show p.lo + 1 ≤ n + 1; omega, ?_, ?_⟩
        · intro t ht; cases ht
        · show p.lo + 1 = n + 1; omega
      | cons q r =>
        have q1 := hr.1
        have q2 := hr.2.1
        have q3 := hr.2.2.1
        refine ⟨by show p.lo < p.lo + 1; omega, by show p.lo + 1 ≤ q.hi; omega, by show q.hi ≤ n + 1; omega, hd _ hb, ?_⟩
        exact hr.shift
  · have : t.x = x := by
      have := Option.some.inj ht
      subst this
      unfold newS
      split <;> rfl
    rw [this]; exact (ah_mem hpm).2
/-- The first one's places are 1. -/
def FirstS (S : List SpotV) : Prop := ∀ s, S.head? = some s → s.lo = 1 ∧ s.hi = 1
theorem FirstS.nil : FirstS [] := fun s h => by cases h
theorem ah_head {n : Int} {S : List SpotV} {a x : Int} (h : SpotsP a n S) (hne : ahS S x ≠ []) : (ahS S x).head? = S.head? := by
  have hp := part_x x h
  cases hA : ahS S x with
  | nil => exact absurd hA hne
  | cons s r => rw [hA] at hp; rw [hp]; rfl
theorem FirstS.ins {n : Int} {S : List SpotV} (h : FirstS S) (hs : SpotsP 0 n S) (x : Int) : FirstS (insS S x) := by
  intro s hhd
  unfold insS at hhd
  cases hA : ahS S x with
  | nil =>
    rw [hA] at hhd
    have : s = ⟨x, 1, 1⟩ := (Option.some.inj hhd).symm
    subst this; exact ⟨rfl, rfl⟩
  | cons u v =>
    have e := ah_head hs (x := x) (by rw [hA]; simp)
    rw [hA] at hhd e
    exact h s (by rw [← e]; exact hhd)
theorem PlacedS.ins {A : List Int} {S : List SpotV} (h : PlacedS A S) (hs : SpotsP 0 A.length S) (hf : FirstS S) (x : Int) : PlacedS (A ++ [x]) (insS S x) := by
  intro s hm
  unfold insS at hm
  rw [upV_app, unV_app, upV_one, unV_one]
  rcases List.mem_append.1 hm with hm | hm
  · obtain ⟨m1, m2⟩ := ah_mem hm
    obtain ⟨p1, p2⟩ := h s m1
    rw [if_neg (show ¬ x < s.x by omega)]
    constructor
    · split <;> omega
    · omega
  · rcases List.mem_cons.1 hm with e | hm
    · subst e
      have hp := part_x x hs
      have hsr := hs
      rw [hp] at hsr
      have hr := hsr.right
      have hxx : (newS (ahS S x) (bhS S x) x).x = x := by unfold newS; split <;> rfl
      rw [hxx, if_pos (Int.le_refl x), if_neg (Int.lt_irrefl x), Int.add_zero]
      have b1 := upV_bd A x
      have b2 := unV_bd A x
      unfold newS
      unfold lastLo at hr
      cases hP : (ahS S x).getLast? with
      | none =>
        simp only
        rw [hP] at hr
        simp only at hr
        have hAn : ahS S x = [] := List.getLast?_eq_none_iff.1 hP
        rw [hAn, List.nil_append] at hp
        refine ⟨by omega, ?_⟩
        cases hQ : bhS S x with
        | nil =>
          rw [hQ] at hr
          have e : (0 : Int) = A.length := hr
          omega
        | cons q r =>
          have hq : q ∈ S := by rw [hp, hQ]; exact List.mem_cons_self
          have h1 := (h q hq).2
          have h2 := hf q (by rw [hp, hQ]; rfl)
          have h3 := (bh_mem (S := S) (x := x) (s := q) (by rw [hQ]; exact List.mem_cons_self)).2
          have h4 := unV_mono A (show x ≤ q.x by omega)
          omega
      | some p =>
        rw [hP] at hr
        simp only at hr
        have hpm := ah_mem (List.mem_of_getLast? hP)
        have g1 := (h p hpm.1).1
        have g2 := upV_mono A hpm.2
        cases hQ : bhS S x with
        | nil =>
          rw [hQ] at hr
          have e : p.lo = A.length := hr
          simp only
          omega
        | cons q r =>
          have hqm := bh_mem (S := S) (x := x) (s := q) (by rw [hQ]; exact List.mem_cons_self)
          have g3 := (h q hqm.1).2
          have g4 := unV_mono A (show x ≤ q.x by omega)
          simp only
          omega
    · unfold upS at hm
      obtain ⟨q, hq, rfl⟩ := List.mem_map.1 hm
      obtain ⟨m1, m2⟩ := bh_mem hq
      obtain ⟨p1, p2⟩ := h q m1
      simp only
      rw [if_pos (show x ≤ q.x by omega), if_pos m2]
      omega

/-! ### Squeezed -/
/-- The greatest place of the first one. -/
def hiS (S : List SpotV) : Int := match S.head? with | none => 0 | some q => q.hi
/-- What is left behind a spot. -/
def sqzR (lim : Int) : SpotV → List SpotV → List SpotV
  | _, [] => []
  | _, [s] => [s]
  | p, s :: t :: r => if hiS (sqzR lim s (t :: r)) - p.lo ≤ lim then sqzR lim s (t :: r) else s :: sqzR lim s (t :: r)
def sqzS (lim : Int) : List SpotV → List SpotV
  | [] => []
  | s :: r => s :: sqzR lim s r
theorem sqzR_sub (lim : Int) : ∀ (r : List SpotV) (p : SpotV), (sqzR lim p r).Sublist r
  | [], p => List.Sublist.refl _
  | [s], p => List.Sublist.refl _
  | s :: t :: r, p => by
    have ih := sqzR_sub lim (t :: r) s
    unfold sqzR
    split
    · exact ih.cons _
    · exact ih.cons_cons _
theorem sqzR_ne (lim : Int) : ∀ (r : List SpotV) (p : SpotV), r ≠ [] → sqzR lim p r ≠ []
  | [], p, h => absurd rfl h
  | [s], p, _ => by unfold sqzR; simp
  | s :: t :: r, p, _ => by
    have ih := sqzR_ne lim (t :: r) s (by simp)
    unfold sqzR
    split
    · exact ih
    · simp
theorem SpotsP.weak {n a b : Int} (hab : a ≤ b) {S : List SpotV} (hne : S ≠ []) (h : SpotsP b n S) : SpotsP a n S := by
  cases S with
  | nil => exact absurd rfl hne
  | cons s r => exact ⟨by have := h.1; omega, h.2.1, h.2.2.1, h.2.2.2.1, h.2.2.2.2⟩
theorem sqzR_spots (lim n : Int) : ∀ (r : List SpotV) (p : SpotV) (a : Int), SpotsP a n r → SpotsP a n (sqzR lim p r)
  | [], p, a, h => h
  | [s], p, a, h => h
  | s :: t :: r, p, a, h => by
    have ih := sqzR_spots lim n (t :: r) s s.lo h.2.2.2.2
    have hsub := sqzR_sub lim (t :: r) s
    have hne := sqzR_ne lim (t :: r) s (by simp)
    unfold sqzR
    split
    · exact SpotsP.weak (by have := h.1; omega) hne ih
    · refine ⟨h.1, h.2.1, h.2.2.1, fun u hu => ?_, ih⟩
      have hum : u ∈ sqzR lim s (t :: r) := List.mem_of_mem_head? hu
      exact SpotsP.x_le h u (hsub.subset hum)
theorem SpotsP.sqz {n lim : Int} {S : List SpotV} {a : Int} (h : SpotsP a n S) : SpotsP a n (sqzS lim S) := by
  cases S with
  | nil => exact h
  | cons s r =>
    refine ⟨h.1, h.2.1, h.2.2.1, fun u hu => ?_, sqzR_spots lim n r s s.lo h.2.2.2.2⟩
    exact SpotsP.x_le h u ((sqzR_sub lim r s).subset (List.mem_of_mem_head? hu))
theorem sqzS_sub (lim : Int) (S : List SpotV) : (sqzS lim S).Sublist S := by
  cases S with
  | nil => exact List.Sublist.refl _
  | cons s r => exact (sqzR_sub lim r s).cons_cons _
theorem PlacedS.sqz {A : List Int} {S : List SpotV} {lim : Int} (h : PlacedS A S) : PlacedS A (sqzS lim S) := fun s hs => h s ((sqzS_sub lim S).subset hs)
theorem FirstS.sqz {S : List SpotV} {lim : Int} (h : FirstS S) : FirstS (sqzS lim S) := by
  cases S with
  | nil => exact h
  | cons s r => exact fun t ht => h t ht

/-! ### Merged -/
/-- The rest of both lists, merged: behind spots whose last least places are la, lb; ta, tb: of how many each tells. -/
def mrgS (ta tb : Int) : Int → Int → List SpotV → List SpotV → List SpotV
  | la, lb, [], [] => []
  | la, lb, s :: r, [] => ⟨s.x, s.lo + lb, s.hi + tb⟩ :: mrgS ta tb s.lo lb r []
  | la, lb, [], t :: q => ⟨t.x, t.lo + la, t.hi + ta⟩ :: mrgS ta tb la t.lo [] q
  | la, lb, s :: r, t :: q =>
    if s.x ≤ t.x then ⟨s.x, s.lo + lb, s.hi + t.hi - 1⟩ :: mrgS ta tb s.lo lb r (t :: q)
    else ⟨t.x, t.lo + la, t.hi + s.hi - 1⟩ :: mrgS ta tb la t.lo (s :: r) q
  termination_by _ _ a b => a.length + b.length
def mergeS (a b : List SpotV) : List SpotV := mrgS (totS a) (totS b) 0 0 a b
/-- Where the heads come from. -/
theorem mrg_head {ta tb la lb : Int} {a b : List SpotV} {u : SpotV} (h : (mrgS ta tb la lb a b).head? = some u) : (∃ s, a.head? = some s ∧ u.x = s.x) ∨ ∃ t, b.head? = some t ∧ u.x = t.x := by
  cases a with
  | nil =>
    cases b with
    | nil => unfold mrgS at h; cases h
    | cons t q => unfold mrgS at h; exact Or.inr ⟨t, rfl, by rw [← Option.some.inj h]⟩
  | cons s r =>
    cases b with
    | nil => unfold mrgS at h; exact Or.inl ⟨s, rfl, by rw [← Option.some.inj h]⟩
    | cons t q =>
      unfold mrgS at h
      split at h
      · exact Or.inl ⟨s, rfl, by rw [← Option.some.inj h]⟩
      · exact Or.inr ⟨t, rfl, by rw [← Option.some.inj h]⟩
theorem mrg_spots {na nb : Int} : ∀ (n : Nat) (la lb : Int) (a b : List SpotV), a.length + b.length ≤ n → SpotsP la na a → SpotsP lb nb b → SpotsP (la + lb) (na + nb) (mrgS na nb la lb a b)
  | n, la, lb, [], [], _, ha, hb => by
    have e1 : la = na := ha
    have e2 : lb = nb := hb
    unfold mrgS
    show la + lb = na + nb; omega
  | 0, la, lb, s :: r, b, hn, ha, hb => by simp at hn
  | 0, la, lb, [], t :: q, hn, ha, hb => by simp at hn
  | n + 1, la, lb, s :: r, [], hn, ha, hb => by
    have ih := mrg_spots n s.lo lb r [] (by simp at hn ⊢; omega) ha.2.2.2.2 hb
    have e2 : lb = nb := hb
    have h1 := ha.1
    have h2 := ha.2.1
    have h3 := ha.2.2.1
    unfold mrgS
    refine ⟨by show la + lb < s.lo + lb; omega, by show s.lo + lb ≤ s.hi + nb; omega, by show s.hi + nb ≤ na + nb; omega, fun u hu => ?_, ih⟩
    rcases mrg_head hu with ⟨v, hv, e⟩ | ⟨v, hv, _⟩
    · show s.x ≤ u.x; rw [e]; exact ha.2.2.2.1 v hv
    · cases hv
  | n + 1, la, lb, [], t :: q, hn, ha, hb => by
    have ih := mrg_spots n la t.lo [] q (by simp at hn ⊢; omega) ha hb.2.2.2.2
    have e1 : la = na := ha
    have h1 := hb.1
    have h2 := hb.2.1
    have h3 := hb.2.2.1
    unfold mrgS
    have e : t.lo + la = la + t.lo := by omega
    refine ⟨by show la + lb < t.lo + la; omega, by show t.lo + la ≤ t.hi + na; omega, by show t.hi + na ≤ na + nb; omega, fun u hu => ?_, by show SpotsP (t.lo + la) _ _; rw [e]; exact ih⟩
    rcases mrg_head hu with ⟨v, hv, _⟩ | ⟨v, hv, e⟩
    · cases hv
    · show t.x ≤ u.x; rw [e]; exact hb.2.2.2.1 v hv
  | n + 1, la, lb, s :: r, t :: q, hn, ha, hb => by
    have h1 := ha.1
    have h2 := ha.2.1
    have h3 := ha.2.2.1
    have k1 := hb.1
    have k2 := hb.2.1
    have k3 := hb.2.2.1
    unfold mrgS
    split
    · rename_i hx
      have ih := mrg_spots n s.lo lb r (t :: q) (by simp at hn ⊢; omega) ha.2.2.2.2 hb
      refine ⟨by show la + lb < s.lo + lb; omega, by show s.lo + lb ≤ s.hi + t.hi - 1; omega, by show s.hi + t.hi - 1 ≤ na + nb; omega, fun u hu => ?_, ih⟩
      rcases mrg_head hu with ⟨v, hv, e⟩ | ⟨v, hv, e⟩
      · show s.x ≤ u.x; rw [e]; exact ha.2.2.2.1 v hv
      · show s.x ≤ u.x; rw [e, ← Option.some.inj hv]; exact hx
    · rename_i hx
      have ih := mrg_spots n la t.lo (s :: r) q (by simp at hn ⊢; omega) ha hb.2.2.2.2
      have e : t.lo + la = la + t.lo := by omega
      refine ⟨by show la + lb < t.lo + la; omega, by show t.lo + la ≤ t.hi + s.hi - 1; omega, by show t.hi + s.hi - 1 ≤ na + nb; omega, fun u hu => ?_, by show SpotsP (t.lo + la) _ _; rw [e]; exact ih⟩
      rcases mrg_head hu with ⟨v, hv, e⟩ | ⟨v, hv, e⟩
      · show t.x ≤ u.x; rw [e, ← Option.some.inj hv]; omega
      · show t.x ≤ u.x; rw [e]; exact hb.2.2.2.1 v hv
theorem SpotsP.merge {na nb : Int} {a b : List SpotV} (ha : SpotsP 0 na a) (hb : SpotsP 0 nb b) : SpotsP 0 (na + nb) (mergeS a b) := by
  have e1 : totS a = na := by
    cases a with
    | nil => have : (0 : Int) = na := ha; rw [totS_nil]; exact this
    | cons s r => exact ha.tot (by simp)
  have e2 : totS b = nb := by
    cases b with
    | nil => have : (0 : Int) = nb := hb; rw [totS_nil]; exact this
    | cons s r => exact hb.tot (by simp)
  unfold mergeS
  rw [e1, e2]
  exact mrg_spots _ 0 0 a b (Nat.le_refl _) ha hb
/-- Merged spots are placed: the ones ahead aren't greater, and the ones behind aren't less. -/
theorem mrg_placed {A B : List Int} : ∀ (n : Nat) (la lb : Int) (a b : List SpotV), a.length + b.length ≤ n → SpotsP la A.length a → SpotsP lb B.length b → PlacedS A a → PlacedS B b →
    (∀ t, t ∈ b → la ≤ upV A t.x) → (∀ s, s ∈ a → lb ≤ upV B s.x) → PlacedS (A ++ B) (mrgS A.length B.length la lb a b)
  | n, la, lb, [], [], _, _, _, _, _, _, _ => by unfold mrgS; exact PlacedS.nil _
  | 0, la, lb, s :: r, b, hn, _, _, _, _, _, _ => by simp at hn
  | 0, la, lb, [], t :: q, hn, _, _, _, _, _, _ => by simp at hn
  | n + 1, la, lb, s :: r, [], hn, ha, hb, pa, pb, fa, fb => by
    have ih := mrg_placed n s.lo lb r [] (by simp at hn ⊢; omega) ha.2.2.2.2 hb (fun u hu => pa u (List.mem_cons_of_mem _ hu)) pb (fun t ht => by cases ht) (fun u hu => fb u (List.mem_cons_of_mem _ hu))
    unfold mrgS
    intro u hu
    rcases List.mem_cons.1 hu with e | e
    · subst e
      obtain ⟨p1, p2⟩ := pa s List.mem_cons_self
      have f := fb s List.mem_cons_self
      have b2 := unV_bd B s.x
      rw [upV_app, unV_app]
      simp only
      omega
    · exact ih u e
  | n + 1, la, lb, [], t :: q, hn, ha, hb, pa, pb, fa, fb => by
    have ih := mrg_placed n la t.lo [] q (by simp at hn ⊢; omega) ha hb.2.2.2.2 pa (fun u hu => pb u (List.mem_cons_of_mem _ hu)) (fun u hu => fa u (List.mem_cons_of_mem _ hu)) (fun t ht => by cases ht)
    unfold mrgS
    intro u hu
    rcases List.mem_cons.1 hu with e | e
    · subst e
      obtain ⟨p1, p2⟩ := pb t List.mem_cons_self
      have f := fa t List.mem_cons_self
      have b2 := unV_bd A t.x
      rw [upV_app, unV_app]
      simp only
      omega
    · exact ih u e
  | n + 1, la, lb, s :: r, t :: q, hn, ha, hb, pa, pb, fa, fb => by
    obtain ⟨p1, p2⟩ := pa s List.mem_cons_self
    obtain ⟨q1, q2⟩ := pb t List.mem_cons_self
    have f1 := fa t List.mem_cons_self
    have f2 := fb s List.mem_cons_self
    unfold mrgS
    split
    · rename_i hx
      have ih := mrg_placed n s.lo lb r (t :: q) (by simp at hn ⊢; omega) ha.2.2.2.2 hb (fun u hu => pa u (List.mem_cons_of_mem _ hu)) pb
        (fun u hu => by
          have h1 : t.x ≤ u.x := by
            rcases List.mem_cons.1 hu with e | e
            · rw [e]; exact Int.le_refl _
            · exact hb.x_le u e
          have := upV_mono A (show s.x ≤ u.x by omega)
          omega)
        (fun u hu => fb u (List.mem_cons_of_mem _ hu))
      intro u hu
      rcases List.mem_cons.1 hu with e | e
      · subst e
        have m := unV_mono B hx
        rw [upV_app, unV_app]
        simp only
        omega
      · exact ih u e
    · rename_i hx
      have ih := mrg_placed n la t.lo (s :: r) q (by simp at hn ⊢; omega) ha hb.2.2.2.2 pa (fun u hu => pb u (List.mem_cons_of_mem _ hu)) (fun u hu => fa u (List.mem_cons_of_mem _ hu))
        (fun u hu => by
          have h1 : s.x ≤ u.x := by
            rcases List.mem_cons.1 hu with e | e
            · rw [e]; exact Int.le_refl _
            · exact ha.x_le u e
          have := upV_mono B (show t.x ≤ u.x by omega)
          omega)
      intro u hu
      rcases List.mem_cons.1 hu with e | e
      · subst e
        have m := unV_mono A (show t.x ≤ s.x by omega)
        rw [upV_app, unV_app]
        simp only
        omega
      · exact ih u e
theorem PlacedS.merge {A B : List Int} {a b : List SpotV} (ha : SpotsP 0 A.length a) (hb : SpotsP 0 B.length b) (pa : PlacedS A a) (pb : PlacedS B b) : PlacedS (A ++ B) (mergeS a b) := by
  have e1 : totS a = A.length := by
    cases a with
    | nil => have : (0 : Int) = A.length := ha; rw [totS_nil]; exact this
    | cons s r => exact ha.tot (by simp)
  have e2 : totS b = B.length := by
    cases b with
    | nil => have : (0 : Int) = B.length := hb; rw [totS_nil]; exact this
    | cons s r => exact hb.tot (by simp)
  unfold mergeS
  rw [e1, e2]
  exact mrg_placed _ 0 0 a b (Nat.le_refl _) ha hb pa pb (fun t _ => (upV_bd A t.x).1) (fun s _ => (upV_bd B s.x).1)
theorem FirstS.merge {a b : List SpotV} (ha : FirstS a) (hb : FirstS b) : FirstS (mergeS a b) := by
  intro u hu
  unfold mergeS at hu
  cases a with
  | nil =>
    cases b with
    | nil => unfold mrgS at hu; cases hu
    | cons t q =>
      unfold mrgS at hu
      obtain ⟨h1, h2⟩ := hb t rfl
      rw [← Option.some.inj hu]
      simp only [totS_nil]
      omega
  | cons s r =>
    obtain ⟨h1, h2⟩ := ha s rfl
    cases b with
    | nil =>
      unfold mrgS at hu
      rw [← Option.some.inj hu]
      simp only [totS_nil]
      omega
    | cons t q =>
      obtain ⟨k1, k2⟩ := hb t rfl
      unfold mrgS at hu
      split at hu
      · rw [← Option.some.inj hu]; simp only; omega
      · rw [← Option.some.inj hu]; simp only; omega
end Go.Proofs.Ytecnlpkfcggimaa
