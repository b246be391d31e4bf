/-
  Plain mathematics of rows of tuples: the rounds of the reference's loops; rows that can be; what is played: no program in sight.
-/
import Derived.Test.YtecnlpkfcggimaaTupN
namespace Go.Proofs.Ytecnlpkfcggimaa
set_option linter.unusedVariables false
set_option linter.unusedSimpArgs false

theorem snocS {α : Type} {L : List α} {k : Nat} {p : α} (h : L[k]? = some p) : L.take (k + 1) = L.take k ++ [p] := by
  rw [List.take_add_one, h]; rfl
theorem lastLo_snoc (a : Int) (S : List SpotV) (s : SpotV) : lastLo a (S ++ [s]) = s.lo := by unfold lastLo; rw [List.getLast?_concat]
/-- One spot more of a row's. -/
theorem spots_step {L : List TupV} {k : Nat} {p : TupV} (h : L[k]? = some p) : spotsT 0 (L.take (k + 1)) = spotsT 0 (L.take k) ++ [⟨p.x, lastLo 0 (spotsT 0 (L.take k)) + p.st, lastLo 0 (spotsT 0 (L.take k)) + p.st + p.sl⟩] ∧ lastLo 0 (spotsT 0 (L.take (k + 1))) = lastLo 0 (spotsT 0 (L.take k)) + p.st := by
  rw [snocS h, spots_app]
  have e : spotsT (lastLo 0 (spotsT 0 (L.take k))) [p] = [⟨p.x, lastLo 0 (spotsT 0 (L.take k)) + p.st, lastLo 0 (spotsT 0 (L.take k)) + p.st + p.sl⟩] := rfl
  rw [e]
  exact ⟨rfl, lastLo_snoc _ _ _⟩
/-- One tuple more of spots' row. -/
theorem row_step {S : List SpotV} {k : Nat} {s : SpotV} (h : S[k]? = some s) : rowT 0 (S.take (k + 1)) = rowT 0 (S.take k) ++ [⟨s.x, s.lo - lastLo 0 (S.take k), s.hi - s.lo⟩] ∧ lastLo 0 (S.take (k + 1)) = s.lo := by
  rw [snocS h, row_app]
  exact ⟨rfl, lastLo_snoc _ _ _⟩

/-! ### Squeezed, a round -/
theorem sqz_end (lim : Int) (p s : SpotV) : sqzR lim p [s] = [s] := by unfold sqzR; rfl
/-- What a round from behind finds and leaves. -/
theorem sqz_at {lim : Int} {S : List SpotV} {i : Nat} {p s : SpotV} (hp : S[i]? = some p) (hs : S[i + 1]? = some s) (hn : i + 2 < S.length) :
    sqzR lim p (S.drop (i + 1)) = if hiS (sqzR lim s (S.drop (i + 2))) - p.lo ≤ lim then sqzR lim s (S.drop (i + 2)) else s :: sqzR lim s (S.drop (i + 2)) := by
  have e : S.drop (i + 1) = s :: S.drop (i + 2) := by
    have hl : i + 1 < S.length := by omega
    rw [List.drop_eq_getElem_cons hl]
    rw [List.getElem?_eq_getElem hl] at hs
    rw [Option.some.inj hs]
  cases hd : S.drop (i + 2) with
  | nil =>
    have := congrArg List.length hd
    rw [List.length_drop, List.length_nil] at this
    omega
  | cons t r =>
    rw [e, hd]
    rw [sqzR]
theorem sqz_head {lim : Int} {r : List SpotV} {p : SpotV} (h : r ≠ []) : ∃ q t, sqzR lim p r = q :: t ∧ hiS (sqzR lim p r) = q.hi ∧ q ∈ r := by
  have h1 := sqzR_ne lim r p h
  cases hq : sqzR lim p r with
  | nil => exact absurd hq h1
  | cons q t =>
    refine ⟨q, t, rfl, rfl, (sqzR_sub lim r p).subset ?_⟩
    rw [hq]; exact List.mem_cons_self
theorem sqz_len (lim : Int) (p : SpotV) (r : List SpotV) : (sqzR lim p r).length ≤ r.length := (sqzR_sub lim r p).length_le
theorem sqzS_is {lim : Int} {S : List SpotV} {p : SpotV} (hp : S[0]? = some p) : sqzS lim S = S.take 1 ++ sqzR lim p (S.drop 1) := by
  cases S with
  | nil => cases hp
  | cons s r =>
    have : s = p := Option.some.inj hp
    subst this
    rfl
theorem sqzS_short {lim : Int} {S : List SpotV} (h : S.length ≤ 1) : sqzS lim S = S := by
  cases S with
  | nil => rfl
  | cons s r =>
    cases r with
    | nil => unfold sqzS sqzR; rfl
    | cons t q => simp at h

/-! ### Merged, a round -/
theorem drop_is {α : Type} {L : List α} {i : Nat} {s : α} (h : L[i]? = some s) : L.drop i = s :: L.drop (i + 1) := by
  have hl : i < L.length := by
    rcases Nat.lt_or_ge i L.length with h1 | h1
    · exact h1
    · rw [List.getElem?_eq_none h1] at h; cases h
  rw [List.drop_eq_getElem_cons hl]
  rw [List.getElem?_eq_getElem hl] at h
  rw [Option.some.inj h]
/-- What is left to merge. -/
def leftS (a b : List SpotV) (i k : Nat) : List SpotV := mrgS (totS a) (totS b) (lastLo 0 (a.take i)) (lastLo 0 (b.take k)) (a.drop i) (b.drop k)
theorem left_all (a b : List SpotV) : leftS a b 0 0 = mergeS a b := rfl
theorem left_none (a b : List SpotV) : leftS a b a.length b.length = [] := by
  unfold leftS; rw [List.drop_length, List.drop_length]; unfold mrgS; rfl
theorem left_a {a b : List SpotV} {i : Nat} {s : SpotV} (hs : a[i]? = some s) : leftS a b i b.length = ⟨s.x, s.lo + lastLo 0 (b.take b.length), s.hi + totS b⟩ :: leftS a b (i + 1) b.length := by
  unfold leftS
  rw [List.drop_length, drop_is hs, snocS hs, lastLo_snoc]
  conv => lhs; unfold mrgS
theorem left_b {a b : List SpotV} {k : Nat} {t : SpotV} (ht : b[k]? = some t) : leftS a b a.length k = ⟨t.x, t.lo + lastLo 0 (a.take a.length), t.hi + totS a⟩ :: leftS a b a.length (k + 1) := by
  unfold leftS
  rw [List.drop_length, drop_is ht, snocS ht, lastLo_snoc]
  conv => lhs; unfold mrgS
theorem left_le {a b : List SpotV} {i k : Nat} {s t : SpotV} (hs : a[i]? = some s) (ht : b[k]? = some t) (h : s.x ≤ t.x) : leftS a b i k = ⟨s.x, s.lo + lastLo 0 (b.take k), s.hi + t.hi - 1⟩ :: leftS a b (i + 1) k := by
  unfold leftS
  rw [snocS hs, lastLo_snoc, drop_is hs, drop_is ht]
  conv => lhs; unfold mrgS
  rw [if_pos h]
theorem left_gt {a b : List SpotV} {i k : Nat} {s t : SpotV} (hs : a[i]? = some s) (ht : b[k]? = some t) (h : ¬ s.x ≤ t.x) : leftS a b i k = ⟨t.x, t.lo + lastLo 0 (a.take i), t.hi + s.hi - 1⟩ :: leftS a b i (k + 1) := by
  unfold leftS
  rw [snocS ht, lastLo_snoc, drop_is hs, drop_is ht]
  conv => lhs; unfold mrgS
  rw [if_neg h]
theorem last_takeS {S : List SpotV} {k : Nat} {p : SpotV} (h : S[k]? = some p) : lastLo 0 (S.take (k + 1)) = p.lo := by rw [snocS h, lastLo_snoc]
theorem last_zero (S : List SpotV) : lastLo 0 (S.take 0) = 0 := rfl
theorem tot_last (S : List SpotV) : totS S = lastLo 0 S := by unfold totS lastLo; rfl
theorem mrg_len (ta tb : Int) : ∀ (n : Nat) (la lb : Int) (a b : List SpotV), a.length + b.length ≤ n → (mrgS ta tb la lb a b).length = a.length + b.length
  | n, la, lb, [], [], _ => by unfold mrgS; rfl
  | 0, la, lb, s :: r, b, hn => by simp at hn
  | 0, la, lb, [], t :: q, hn => by simp at hn
  | n + 1, la, lb, s :: r, [], hn => by
    have ih := mrg_len ta tb n s.lo lb r [] (by simp at hn ⊢; omega)
    unfold mrgS; simp only [List.length_cons, ih]; simp
  | n + 1, la, lb, [], t :: q, hn => by
    have ih := mrg_len ta tb n la t.lo [] q (by simp at hn ⊢; omega)
    unfold mrgS; simp only [List.length_cons, ih]; simp
  | n + 1, la, lb, s :: r, t :: q, hn => by
    have i1 := mrg_len ta tb n s.lo lb r (t :: q) (by simp at hn ⊢; omega)
    have i2 := mrg_len ta tb n la t.lo (s :: r) q (by simp at hn ⊢; omega)
    unfold mrgS
    split
    · simp only [List.length_cons, i1]; omega
    · simp only [List.length_cons, i2]; omega
theorem merge_len (a b : List SpotV) : (mergeS a b).length = a.length + b.length := mrg_len _ _ _ _ _ a b (Nat.le_refl _)

/-! ### Values that are there -/
/-- Each spot's value is one of all. -/
def HasS (A : List Int) (S : List SpotV) : Prop := ∀ s, s ∈ S → s.x ∈ A
theorem HasS.nil (A : List Int) : HasS A [] := fun s h => by cases h
theorem mem_un {A : List Int} {x : Int} (h : x ∈ A) : unV A x + 1 ≤ upV A x := by
  induction A with
  | nil => cases h
  | cons z r ih =>
    have := unV_up r x
    rw [unV_cons, upV_cons]
    rcases List.mem_cons.1 h with e | e
    · subst e
      rw [if_neg (by omega), if_pos (by omega)]; omega
    · have := ih e
      split <;> split <;> omega
theorem newS_x (P Q : List SpotV) (x : Int) : (newS P Q x).x = x := by unfold newS; split <;> rfl
theorem HasS.ins {A : List Int} {S : List SpotV} (h : HasS A S) (x : Int) : HasS (A ++ [x]) (insS S x) := by
  intro s hm
  unfold insS at hm
  rcases List.mem_append.1 hm with hm | hm
  · exact List.mem_append_left _ (h s (ah_mem hm).1)
  · rcases List.mem_cons.1 hm with e | hm
    · rw [e, newS_x]; exact List.mem_append_right _ List.mem_cons_self
    · unfold upS at hm
      obtain ⟨q, hq, rfl⟩ := List.mem_map.1 hm
      exact List.mem_append_left _ (h q (bh_mem hq).1)
theorem HasS.sqz {A : List Int} {S : List SpotV} {lim : Int} (h : HasS A S) : HasS A (sqzS lim S) := fun s hs => h s ((sqzS_sub lim S).subset hs)
theorem mrg_mem {ta tb : Int} : ∀ (n : Nat) (la lb : Int) (a b : List SpotV), a.length + b.length ≤ n → ∀ u, u ∈ mrgS ta tb la lb a b → (∃ s, s ∈ a ∧ u.x = s.x) ∨ ∃ t, t ∈ b ∧ u.x = t.x
  | n, la, lb, [], [], _, u, hu => by unfold mrgS at hu; cases hu
  | 0, la, lb, s :: r, b, hn, u, hu => by simp at hn
  | 0, la, lb, [], t :: q, hn, u, hu => by simp at hn
  | n + 1, la, lb, s :: r, [], hn, u, hu => by
    have ih := mrg_mem (ta := ta) (tb := tb) n s.lo lb r [] (by simp at hn ⊢; omega) u
    unfold mrgS at hu
    rcases List.mem_cons.1 hu with e | e
    · exact Or.inl ⟨s, List.mem_cons_self, by rw [e]⟩
    · rcases ih e with ⟨v, hv, hx⟩ | h
      · exact Or.inl ⟨v, List.mem_cons_of_mem _ hv, hx⟩
      · exact Or.inr h
  | n + 1, la, lb, [], t :: q, hn, u, hu => by
    have ih := mrg_mem (ta := ta) (tb := tb) n la t.lo [] q (by simp at hn ⊢; omega) u
    unfold mrgS at hu
    rcases List.mem_cons.1 hu with e | e
    · exact Or.inr ⟨t, List.mem_cons_self, by rw [e]⟩
    · rcases ih e with h | ⟨v, hv, hx⟩
      · exact Or.inl h
      · exact Or.inr ⟨v, List.mem_cons_of_mem _ hv, hx⟩
  | n + 1, la, lb, s :: r, t :: q, hn, u, hu => by
    have i1 := mrg_mem (ta := ta) (tb := tb) n s.lo lb r (t :: q) (by simp at hn ⊢; omega) u
    have i2 := mrg_mem (ta := ta) (tb := tb) n la t.lo (s :: r) q (by simp at hn ⊢; omega) u
    unfold mrgS at hu
    split at hu
    · rcases List.mem_cons.1 hu with e | e
      · exact Or.inl ⟨s, List.mem_cons_self, by rw [e]⟩
      · rcases i1 e with ⟨v, hv, hx⟩ | h
        · exact Or.inl ⟨v, List.mem_cons_of_mem _ hv, hx⟩
        · exact Or.inr h
    · rcases List.mem_cons.1 hu with e | e
      · exact Or.inr ⟨t, List.mem_cons_self, by rw [e]⟩
      · rcases i2 e with h | ⟨v, hv, hx⟩
        · exact Or.inl h
        · exact Or.inr ⟨v, List.mem_cons_of_mem _ hv, hx⟩
theorem HasS.merge {A B : List Int} {a b : List SpotV} (ha : HasS A a) (hb : HasS B b) : HasS (A ++ B) (mergeS a b) := by
  intro u hu
  rcases mrg_mem _ _ _ a b (Nat.le_refl _) u hu with ⟨s, hs, e⟩ | ⟨s, hs, e⟩
  · rw [e]; exact List.mem_append_left _ (ha s hs)
  · rw [e]; exact List.mem_append_right _ (hb s hs)
theorem merge_x {a b : List SpotV} {P : Int → Prop} (ha : ∀ s, s ∈ a → P s.x) (hb : ∀ s, s ∈ b → P s.x) : ∀ u, u ∈ mergeS a b → P u.x := by
  intro u hu
  rcases mrg_mem _ _ _ a b (Nat.le_refl _) u hu with ⟨s, hs, e⟩ | ⟨s, hs, e⟩
  · rw [e]; exact ha s hs
  · rw [e]; exact hb s hs

/-! ### What is played: the spots, and all values -/
/-- Spots that tell of the values A. -/
structure ToldS (A : List Int) (S : List SpotV) : Prop where
  can : SpotsP 0 A.length S
  first : FirstS S
  placed : PlacedS A S
  has : HasS A S
theorem ToldS.nil : ToldS [] [] := ⟨rfl, FirstS.nil, PlacedS.nil _, HasS.nil _⟩
theorem ToldS.ins {A : List Int} {S : List SpotV} (h : ToldS A S) (x : Int) : ToldS (A ++ [x]) (insS S x) :=
  ⟨by have := h.can.ins x; rw [List.length_append]; exact this, h.first.ins h.can x, h.placed.ins h.can h.first x, h.has.ins x⟩
theorem ToldS.sqz {A : List Int} {S : List SpotV} (h : ToldS A S) (lim : Int) : ToldS A (sqzS lim S) := ⟨h.can.sqz, h.first.sqz, h.placed.sqz, h.has.sqz⟩
theorem ToldS.merge {A B : List Int} {a b : List SpotV} (ha : ToldS A a) (hb : ToldS B b) : ToldS (A ++ B) (mergeS a b) :=
  ⟨by have := SpotsP.merge ha.can hb.can; rw [List.length_append]; exact this, ha.first.merge hb.first, PlacedS.merge ha.can hb.can ha.placed hb.placed, ha.has.merge hb.has⟩
theorem ToldS.none_iff {A : List Int} {S : List SpotV} (h : ToldS A S) : S = [] ↔ A = [] := by
  constructor
  · intro e
    subst e
    have h1 : (0 : Int) = A.length := h.can
    exact List.eq_nil_of_length_eq_zero (by omega)
  · intro e
    subst e
    cases S with
    | nil => rfl
    | cons s r =>
      have h1 := h.can.1
      have h2 := h.can.2.1
      have h3 : s.hi ≤ ((0 : Nat) : Int) := h.can.2.2.1
      omega
theorem insS_len {n a : Int} {S : List SpotV} (h : SpotsP a n S) (x : Int) : (insS S x).length = S.length + 1 := by
  have := congrArg List.length (part_x x h)
  rw [List.length_append] at this
  unfold insS upS
  rw [List.length_append, List.length_cons, List.length_map]; omega
theorem sqzS_len (lim : Int) (S : List SpotV) : (sqzS lim S).length ≤ S.length := (sqzS_sub lim S).length_le
/-- A step: a value, or a limit. -/
structure StepV where
  x : Int
  lim : Int
  sq : Bool
deriving DecidableEq, Inhabited
def stepS (p : List SpotV × List Int) (s : StepV) : List SpotV × List Int := if s.sq then (sqzS s.lim p.1, p.2) else (insS p.1 s.x, p.2 ++ [s.x])
def playS (L : List StepV) : List SpotV × List Int := L.foldl stepS ([], [])
theorem play_snoc (L : List StepV) (s : StepV) : playS (L ++ [s]) = stepS (playS L) s := by unfold playS; rw [List.foldl_append]; rfl
theorem step_told (s : StepV) {p : List SpotV × List Int} (h : ToldS p.2 p.1) : ToldS (stepS p s).2 (stepS p s).1 ∧ (stepS p s).1.length ≤ p.1.length + 1 ∧ (stepS p s).2.length ≤ p.2.length + 1 := by
  unfold stepS
  split
  · exact ⟨h.sqz _, by have := sqzS_len s.lim p.1; show (sqzS s.lim p.1).length ≤ _; omega, by show p.2.length ≤ _; omega⟩
  · exact ⟨h.ins _, by show (insS p.1 s.x).length ≤ _; rw [insS_len h.can]; omega, by show (p.2 ++ [s.x]).length ≤ _; rw [List.length_append]; exact Nat.le_refl _⟩
theorem play_from : ∀ (L : List StepV) (p : List SpotV × List Int), ToldS p.2 p.1 → ToldS (L.foldl stepS p).2 (L.foldl stepS p).1 ∧ (L.foldl stepS p).1.length ≤ p.1.length + L.length ∧ (L.foldl stepS p).2.length ≤ p.2.length + L.length
  | [], p, h => ⟨h, Nat.le_refl _, Nat.le_refl _⟩
  | s :: r, p, h => by
    obtain ⟨h1, h2, h3⟩ := step_told s h
    obtain ⟨k1, k2, k3⟩ := play_from r (stepS p s) h1
    rw [List.foldl_cons, List.length_cons]
    exact ⟨k1, by omega, by omega⟩
theorem play_told (L : List StepV) : ToldS (playS L).2 (playS L).1 ∧ (playS L).1.length ≤ L.length ∧ (playS L).2.length ≤ L.length := by
  have h := play_from L ([], []) ToldS.nil
  exact ⟨h.1, by have := h.2.1; rw [List.length_nil] at this; unfold playS; omega, by have := h.2.2; rw [List.length_nil] at this; unfold playS; omega⟩
end Go.Proofs.Ytecnlpkfcggimaa
