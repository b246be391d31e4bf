/-
  Plain mathematics of the landed package tuples: where those behind a value begin; insert, squeeze and merge told over tuples themselves: no program in sight.
-/
import Derived.Test.YtjmkkglmckiknaaTupP
namespace Go.Proofs.Ytjmkkglmckiknaa
set_option linter.unusedVariables false
set_option linter.unusedSimpArgs false

/-- Does a value stand behind x? same: x itself does so, too. -/
def behB (same : Bool) (x y : Int) : Bool := decide (x < y) || (same && decide (y = x))
/-- How many of a row stand ahead of those behind. -/
def fromT (same : Bool) (x : Int) (L : List TupV) : Nat := L.countP fun p => !behB same x p.x
/-- How many values may stand between the tuple ahead of an index and the one at it. -/
def roomT (L : List TupV) (k : Nat) : Int := match L[k]? with | none => 0 | some p => p.st + p.sl - 1
theorem room_cons (p : TupV) (r : List TupV) (k : Nat) : roomT (p :: r) (k + 1) = roomT r k := by unfold roomT; rw [List.getElem?_cons_succ]
theorem room_none {L : List TupV} : roomT L L.length = 0 := by unfold roomT; rw [List.getElem?_eq_none (Nat.le_refl _)]
theorem room_some {L : List TupV} {k : Nat} {p : TupV} (h : L[k]? = some p) : roomT L k = p.st + p.sl - 1 := by unfold roomT; rw [h]
theorem beh_mono {same : Bool} {x y z : Int} (h : behB same x y = true) (hyz : y ≤ z) : behB same x z = true := by
  unfold behB at *
  cases same <;> simp at * <;> omega
theorem beh_true (x y : Int) : behB true x y = decide (x ≤ y) := by
  unfold behB
  by_cases h : x ≤ y <;> simp [h] <;> omega
theorem beh_false (x y : Int) : behB false x y = decide (x < y) := by unfold behB; simp
/-- In order. -/
def SortT (L : List TupV) : Prop := L.Pairwise fun p q => p.x ≤ q.x
theorem sort_tail {p : TupV} {r : List TupV} (h : SortT (p :: r)) : SortT r := (List.pairwise_cons.1 h).2
theorem sort_head {p : TupV} {r : List TupV} (h : SortT (p :: r)) : ∀ q, q ∈ r → p.x ≤ q.x := (List.pairwise_cons.1 h).1
theorem spots_sort {n : Int} : ∀ (L : List TupV) (a : Int), SpotsP a n (spotsT a L) → SortT L
  | [], a, h => List.Pairwise.nil
  | p :: r, a, h => by
    refine List.pairwise_cons.2 ⟨fun q hq => ?_, spots_sort r (a + p.st) h.2.2.2.2⟩
    have hx := SpotsP.x_le h
    have : ∀ (L : List TupV) (b : Int), q ∈ L → ∃ s, s ∈ spotsT b L ∧ s.x = q.x := by
      intro L
      induction L with
      | nil => intro b hm; cases hm
      | cons u v ih =>
        intro b hm
        rcases List.mem_cons.1 hm with e | e
        · exact ⟨_, List.mem_cons_self, by rw [e]⟩
        · obtain ⟨s, hs, e2⟩ := ih (b + u.st) e
          exact ⟨s, List.mem_cons_of_mem _ hs, e2⟩
    obtain ⟨s, hs, e⟩ := this r (a + p.st) hq
    rw [← e]; exact hx s hs
theorem GoodT.sort {L : List TupV} (h : GoodT L) : SortT L := spots_sort L 0 h.can
theorem from_cons (same : Bool) (x : Int) (p : TupV) (r : List TupV) : fromT same x (p :: r) = fromT same x r + if behB same x p.x then 0 else 1 := by
  unfold fromT
  rw [List.countP_cons]
  cases behB same x p.x <;> rfl
theorem from_le (same : Bool) (x : Int) (L : List TupV) : fromT same x L ≤ L.length := List.countP_le_length
theorem from_zero {same : Bool} {x : Int} {L : List TupV} (h : ∀ p, p ∈ L → behB same x p.x = true) : fromT same x L = 0 := by
  unfold fromT
  rw [List.countP_eq_zero]
  intro p hp
  rw [h p hp]; decide
/-- A row in order: those up to there don't stand behind, the others do. -/
theorem from_split {same : Bool} {x : Int} : ∀ {L : List TupV}, SortT L → (∀ p, p ∈ L.take (fromT same x L) → behB same x p.x = false) ∧ ∀ p, p ∈ L.drop (fromT same x L) → behB same x p.x = true
  | [], h => ⟨fun p hp => (by simp at hp), fun p hp => (by simp at hp)⟩
  | p :: r, h => by
    have ih := from_split (same := same) (x := x) (sort_tail h)
    rw [from_cons]
    cases hb : behB same x p.x with
    | true =>
      have h0 : fromT same x r = 0 := from_zero fun q hq => beh_mono hb (sort_head h q hq)
      rw [h0, if_pos rfl]
      refine ⟨fun q hq => (by simp at hq), fun q hq => ?_⟩
      rcases List.mem_cons.1 hq with e | e
      · rw [e]; exact hb
      · exact beh_mono hb (sort_head h q e)
    | false =>
      rw [if_neg (by decide)]
      refine ⟨fun q hq => ?_, fun q hq => ?_⟩
      · rw [List.take_succ_cons] at hq
        rcases List.mem_cons.1 hq with e | e
        · rw [e]; exact hb
        · exact ih.1 q e
      · rw [List.drop_succ_cons] at hq; exact ih.2 q hq
/-- What a search asks of an index. -/
def askT (same : Bool) (x : Int) (L : List TupV) (i : Nat) : Bool := match L[i]? with | none => true | some p => behB same x p.x
theorem ask_count (same : Bool) (x : Int) : ∀ (L : List TupV), (List.range L.length).countP (fun i => !askT same x L i) = fromT same x L
  | [] => rfl
  | p :: r => by
    have ih := ask_count same x r
    rw [List.length_cons, List.range_succ_eq_map, List.countP_cons, List.countP_map, from_cons, ← ih]
    have e : ((fun i => !askT same x (p :: r) i) ∘ Nat.succ) = fun i => !askT same x r i := by
      funext i
      show (!askT same x (p :: r) (i + 1)) = _
      unfold askT
      rw [List.getElem?_cons_succ]
    rw [e]
    have e2 : askT same x (p :: r) 0 = behB same x p.x := rfl
    rw [e2]
    cases behB same x p.x <;> rfl
theorem ask_mono {same : Bool} {x : Int} {L : List TupV} (h : SortT L) {a b : Nat} (hab : a ≤ b) (hb : b < L.length) (ha : askT same x L a = true) : askT same x L b = true := by
  unfold askT at *
  rw [List.getElem?_eq_getElem hb]
  rw [List.getElem?_eq_getElem (show a < L.length by omega)] at ha
  simp only at ha ⊢
  rcases Nat.lt_or_ge a b with hlt | hge
  · exact beh_mono ha (List.pairwise_iff_getElem.1 h a b (by omega) hb hlt)
  · have : a = b := by omega
    subst this
    exact ha

/-! ### A value more -/
theorem bef_lo (L : List TupV) (k : Nat) : lastLo 0 (spotsT 0 (L.take k)) = sumT (L.take k) := by rw [last_sum]; omega
theorem spots_part (L : List TupV) (k : Nat) : spotsT 0 L = spotsT 0 (L.take k) ++ spotsT (sumT (L.take k)) (L.drop k) := by
  have h := spots_app (L.take k) (L.drop k) 0
  rw [List.take_append_drop, bef_lo] at h
  exact h
theorem ah_part {L : List TupV} (h : SortT L) (x : Int) : ahS (spotsT 0 L) x = spotsT 0 (L.take (fromT false x L)) ∧ bhS (spotsT 0 L) x = spotsT (sumT (L.take (fromT false x L))) (L.drop (fromT false x L)) := by
  obtain ⟨h1, h2⟩ := from_split (same := false) (x := x) h
  generalize fromT false x L = k at *
  have g1 : ∀ s, s ∈ spotsT 0 (L.take k) → s.x ≤ x := fun s hs => by
    obtain ⟨p, hp, e⟩ := spots_x _ _ s hs
    have := h1 p hp
    rw [beh_false] at this
    have := of_decide_eq_false this
    rw [e]; omega
  have g2 : ∀ s, s ∈ spotsT (sumT (L.take k)) (L.drop k) → x < s.x := fun s hs => by
    obtain ⟨p, hp, e⟩ := spots_x _ _ s hs
    have := h2 p hp
    rw [beh_false] at this
    rw [e]; exact of_decide_eq_true this
  unfold ahS bhS
  rw [spots_part L k, List.filter_append, List.filter_append]
  constructor
  · rw [List.filter_eq_self.2 fun s hs => decide_eq_true (g1 s hs), List.filter_eq_nil_iff.2 fun s hs => by have := g2 s hs; simp; omega, List.append_nil]
  · rw [List.filter_eq_nil_iff.2 fun s hs => by have := g1 s hs; simp; omega, List.filter_eq_self.2 fun s hs => decide_eq_true (g2 s hs), List.nil_append]
/-- A row with a value more, told over tuples. -/
theorem ins_is {L : List TupV} (h : SortT L) (x : Int) (k : Nat) (hk : fromT false x L = k) : insT L x = L.take k ++ ⟨x, 1, if k = 0 then 0 else roomT L k⟩ :: L.drop k := by
  have hle : k ≤ L.length := by rw [← hk]; exact from_le _ _ _
  obtain ⟨e1, e2⟩ := ah_part h x
  rw [hk] at e1 e2
  unfold insT insS
  rw [e1, e2, row_app, row_spots, bef_lo]
  congr 1
  have hlast : ∀ p, (spotsT 0 (L.take k)).getLast? = some p → p.lo = sumT (L.take k) := fun p hp => by
    have := bef_lo L k
    unfold lastLo at this
    rw [hp] at this
    exact this
  have key : (newS (spotsT 0 (L.take k)) (spotsT (sumT (L.take k)) (L.drop k)) x).lo = sumT (L.take k) + 1 ∧ (newS (spotsT 0 (L.take k)) (spotsT (sumT (L.take k)) (L.drop k)) x).hi = sumT (L.take k) + 1 + (if k = 0 then 0 else roomT L k) := by
    unfold newS
    cases hP : (spotsT 0 (L.take k)).getLast? with
    | none =>
      have h0 : spotsT 0 (L.take k) = [] := List.getLast?_eq_none_iff.1 hP
      have h1 : L.take k = [] := by
        have := congrArg (rowT 0) h0
        rw [row_spots] at this
        exact this
      have hs : sumT (L.take k) = 0 := by rw [h1]; rfl
      have : (k = 0) ∨ L = [] := by
        rcases Nat.eq_zero_or_pos k with e | e
        · exact Or.inl e
        · right
          have := congrArg List.length h1
          rw [List.length_take, List.length_nil] at this
          exact List.eq_nil_of_length_eq_zero (by omega)
      have hif : (if k = 0 then 0 else roomT L k) = 0 := by
        rcases this with e | e
        · rw [if_pos e]
        · rw [e]; split <;> rfl
      rw [hif]
      simp only
      omega
    | some p =>
      have hp := hlast p hP
      have hk0 : ¬ k = 0 := by
        intro e
        rw [e] at hP
        cases hP
      rw [if_neg hk0]
      cases hd : L.drop k with
      | nil =>
        have : roomT L k = 0 := by
          unfold roomT
          rw [List.getElem?_eq_none (by have := congrArg List.length hd; rw [List.length_drop, List.length_nil] at this; omega)]
        rw [this]
        show p.lo + 1 = _ ∧ p.lo + 1 = _
        omega
      | cons q r =>
        have hq : L[k]? = some q := by
          have : (L.drop k)[0]? = some q := by rw [hd]; rfl
          rw [List.getElem?_drop] at this
          exact this
        rw [room_some hq]
        show p.lo + 1 = _ ∧ sumT (L.take k) + q.st + q.sl = _
        omega
  have hx : (newS (spotsT 0 (L.take k)) (spotsT (sumT (L.take k)) (L.drop k)) x).x = x := newS_x _ _ _
  show (⟨_, _, _⟩ : TupV) :: rowT _ (upS _) = _
  rw [hx, key.1, key.2, row_up, row_spots]
  congr 1
  simp only [TupV.mk.injEq, true_and]
  omega
theorem ins_len {L : List TupV} (h : SortT L) (x : Int) : (insT L x).length = L.length + 1 := by
  rw [ins_is h x _ rfl, List.length_append, List.length_cons]
  have : (L.take (fromT false x L)).length + (L.drop (fromT false x L)).length = L.length := by rw [← List.length_append, List.take_append_drop]
  omega

/-! ### Ranks -/
theorem rank_lo {L : List TupV} (h : SortT L) (x : Int) : rankLo (spotsT 0 L) x = sumT (L.take (fromT false x L)) := by
  unfold rankLo
  rw [(ah_part h x).1, ← bef_lo]
  unfold lastLo
  cases (spotsT 0 (L.take (fromT false x L))).getLast? <;> rfl
theorem rank_hi {L : List TupV} (h : SortT L) (x : Int) : rankHi (spotsT 0 L) (sumT L) x = sumT (L.take (fromT false x L)) + roomT L (fromT false x L) := by
  have hle := from_le false x L
  unfold rankHi
  rw [(ah_part h x).2]
  generalize fromT false x L = k at *
  cases hd : L.drop k with
  | nil =>
    have hl : L.length ≤ k := by have := congrArg List.length hd; rw [List.length_drop, List.length_nil] at this; omega
    have : roomT L k = 0 := by
      unfold roomT
      rw [List.getElem?_eq_none hl]
    rw [this, List.take_of_length_le hl]
    show sumT L = _
    omega
  | cons q r =>
    have hq : L[k]? = some q := by
      have : (L.drop k)[0]? = some q := by rw [hd]; rfl
      rw [List.getElem?_drop] at this
      exact this
    rw [room_some hq]
    show sumT (L.take k) + q.st + q.sl - 1 = _
    omega

/-! ### Squeezed -/
/-- What is left behind the first one. -/
def putL (lim : Int) (p : TupV) : List TupV → List TupV
  | [] => [p]
  | u :: t => if p.st + u.st + u.sl ≤ lim then ⟨u.x, u.st + p.st, u.sl⟩ :: t else p :: u :: t
def sqzL (lim : Int) : List TupV → List TupV
  | [] => []
  | p :: r => putL lim p (sqzL lim r)
theorem sqzR_row (lim : Int) : ∀ (r : List TupV) (s0 : SpotV), rowT s0.lo (sqzR lim s0 (spotsT s0.lo r)) = sqzL lim r
  | [], s0 => rfl
  | [p], s0 => by
    show rowT s0.lo (sqzR lim s0 [⟨p.x, s0.lo + p.st, s0.lo + p.st + p.sl⟩]) = [p]
    unfold sqzR
    have := row_spots [p] s0.lo
    exact this
  | p :: q :: t, s0 => by
    have ih := sqzR_row lim (q :: t) ⟨p.x, s0.lo + p.st, s0.lo + p.st + p.sl⟩
    show rowT s0.lo (sqzR lim s0 (⟨p.x, s0.lo + p.st, s0.lo + p.st + p.sl⟩ :: ⟨q.x, s0.lo + p.st + q.st, s0.lo + p.st + q.st + q.sl⟩ :: spotsT (s0.lo + p.st + q.st) t)) = putL lim p (sqzL lim (q :: t))
    rw [← ih]
    have hsp : spotsT (s0.lo + p.st) (q :: t) = ⟨q.x, s0.lo + p.st + q.st, s0.lo + p.st + q.st + q.sl⟩ :: spotsT (s0.lo + p.st + q.st) t := rfl
    simp only at *
    rw [hsp]
    rw [sqzR]
    have hne := sqzR_ne lim (⟨q.x, s0.lo + p.st + q.st, s0.lo + p.st + q.st + q.sl⟩ :: spotsT (s0.lo + p.st + q.st) t) ⟨p.x, s0.lo + p.st, s0.lo + p.st + p.sl⟩ (by simp)
    generalize sqzR lim ⟨p.x, s0.lo + p.st, s0.lo + p.st + p.sl⟩ (⟨q.x, s0.lo + p.st + q.st, s0.lo + p.st + q.st + q.sl⟩ :: spotsT (s0.lo + p.st + q.st) t) = R at *
    cases R with
    | nil => exact absurd rfl hne
    | cons u R' =>
      show rowT s0.lo (if u.hi - s0.lo ≤ lim then u :: R' else ⟨p.x, s0.lo + p.st, s0.lo + p.st + p.sl⟩ :: u :: R') = putL lim p (⟨u.x, u.lo - (s0.lo + p.st), u.hi - u.lo⟩ :: rowT u.lo R')
      unfold putL
      simp only
      by_cases c : u.hi - s0.lo ≤ lim
      · have c2 : p.st + (u.lo - (s0.lo + p.st)) + (u.hi - u.lo) ≤ lim := by omega
        rw [if_pos c, if_pos c2]
        show (⟨u.x, u.lo - s0.lo, u.hi - u.lo⟩ : TupV) :: rowT u.lo R' = ⟨u.x, u.lo - (s0.lo + p.st) + p.st, u.hi - u.lo⟩ :: rowT u.lo R'
        rw [show u.lo - s0.lo = u.lo - (s0.lo + p.st) + p.st by omega]
      · have c2 : ¬ p.st + (u.lo - (s0.lo + p.st)) + (u.hi - u.lo) ≤ lim := by omega
        rw [if_neg c, if_neg c2]
        show (⟨p.x, s0.lo + p.st - s0.lo, s0.lo + p.st + p.sl - (s0.lo + p.st)⟩ : TupV) :: (⟨u.x, u.lo - (s0.lo + p.st), u.hi - u.lo⟩ : TupV) :: rowT u.lo R' = _
        congr 1
        cases p
        simp only [TupV.mk.injEq, true_and]
        omega
theorem sqz_cons (lim : Int) (p : TupV) (r : List TupV) : sqzT lim (p :: r) = p :: sqzL lim r := by
  have h := sqzR_row lim r ⟨p.x, 0 + p.st, 0 + p.st + p.sl⟩
  show (⟨p.x, 0 + p.st - 0, 0 + p.st + p.sl - (0 + p.st)⟩ : TupV) :: rowT (0 + p.st) (sqzR lim ⟨p.x, 0 + p.st, 0 + p.st + p.sl⟩ (spotsT (0 + p.st) r)) = _
  simp only at h
  rw [h]
  congr 1
  cases p
  simp only [TupV.mk.injEq, true_and]
  omega
theorem sqz_is (lim : Int) (L : List TupV) : sqzT lim L = L.take 1 ++ sqzL lim (L.drop 1) := by
  cases L with
  | nil => rfl
  | cons p r => rw [sqz_cons]; rfl
theorem sqz_two {lim : Int} {L : List TupV} (h : L.length ≤ 2) : sqzT lim L = L := by
  match L, h with
  | [], _ => rfl
  | [p], _ => rw [sqz_cons]; rfl
  | [p, q], _ => rw [sqz_cons]; rfl
theorem putL_len (lim : Int) (p : TupV) (T : List TupV) : (putL lim p T).length ≤ T.length + 1 ∧ 1 ≤ (putL lim p T).length := by
  cases T with
  | nil => unfold putL; simp
  | cons u t =>
    by_cases c : p.st + u.st + u.sl ≤ lim
    · have e : putL lim p (u :: t) = ⟨u.x, u.st + p.st, u.sl⟩ :: t := by show (if _ then _ else _) = _; rw [if_pos c]
      rw [e]; simp
    · have e : putL lim p (u :: t) = p :: u :: t := by show (if _ then _ else _) = _; rw [if_neg c]
      rw [e]; simp
theorem sqzL_len (lim : Int) : ∀ (L : List TupV), (sqzL lim L).length ≤ L.length
  | [] => Nat.le_refl _
  | p :: r => by
    have := sqzL_len lim r
    have := (putL_len lim p (sqzL lim r)).1
    show (putL lim p (sqzL lim r)).length ≤ _
    rw [List.length_cons]; omega
theorem sqzL_ne (lim : Int) {L : List TupV} (h : L ≠ []) : sqzL lim L ≠ [] := by
  cases L with
  | nil => exact absurd rfl h
  | cons p r =>
    intro e
    have := (putL_len lim p (sqzL lim r)).2
    have e' : putL lim p (sqzL lim r) = [] := e
    rw [e'] at this
    simp at this
theorem sqzL_at {lim : Int} {L : List TupV} {i : Nat} {p : TupV} (h : L[i]? = some p) : sqzL lim (L.drop i) = putL lim p (sqzL lim (L.drop (i + 1))) := by rw [drop_is h]; rfl
/-- The first of what is left: nothing goes round. -/
theorem sqzL_head {lim : Int} {L : List TupV} (hg : GoodT L) {i : Nat} {p : TupV} (hp : L[i]? = some p) (hn : i + 1 < L.length) (hst : ∀ q, q ∈ L → 0 ≤ q.st) :
    ∃ u t, sqzL lim (L.drop (i + 1)) = u :: t ∧ 0 < p.st ∧ 0 < u.st ∧ 0 ≤ u.sl ∧ p.st + u.st + u.sl ≤ sumT L := by
  have h0 := hg.can
  rw [spots_part L (i + 1)] at h0
  have h1 := h0.right
  rw [bef_lo] at h1
  have h2 := sqzR_row lim (L.drop (i + 1)) ⟨0, sumT (L.take (i + 1)), 0⟩
  simp only at h2
  have h3 := sqzR_spots lim (sumT L) (spotsT (sumT (L.take (i + 1))) (L.drop (i + 1))) ⟨0, sumT (L.take (i + 1)), 0⟩ _ h1
  have hne : spotsT (sumT (L.take (i + 1))) (L.drop (i + 1)) ≠ [] := by
    intro e
    have := congrArg List.length e
    rw [spots_len, List.length_drop, List.length_nil] at this
    omega
  have h4 := sqzR_ne lim _ ⟨0, sumT (L.take (i + 1)), 0⟩ hne
  rw [← h2]
  generalize sqzR lim ⟨0, sumT (L.take (i + 1)), 0⟩ (spotsT (sumT (L.take (i + 1))) (L.drop (i + 1))) = R at *
  have hs := sumT_step hp
  have ht := (sumT_take hst i).1
  have hpp : 0 < p.st := by
    have hx := List.getElem?_eq_getElem (l := spotsT 0 L) (i := i) (by rw [spots_len]; omega)
    have hc := (good_can (L := L.take 0) (by intro q hq; simp at hq))
    have := hg.can
    have k1 := spots_part L i
    rw [k1] at this
    have k2 := this.right
    rw [bef_lo, drop_is hp] at k2
    have k3 := k2.1
    simp only at k3
    omega
  cases R with
  | nil => exact absurd rfl h4
  | cons u R' =>
    refine ⟨_, _, rfl, hpp, ?_, ?_, ?_⟩
    · have := h3.1; simp only; omega
    · have := h3.2.1; simp only; omega
    · have := h3.2.2.1; simp only; omega

/-! ### Merged -/
def mrgT : List TupV → List TupV → List TupV
  | [], [] => []
  | p :: r, [] => ⟨p.x, p.st, p.sl⟩ :: mrgT r []
  | [], q :: s => ⟨q.x, q.st, q.sl⟩ :: mrgT [] s
  | p :: r, q :: s => if p.x ≤ q.x then ⟨p.x, p.st, p.sl + (q.st + q.sl - 1)⟩ :: mrgT r (q :: s) else ⟨q.x, q.st, q.sl + (p.st + p.sl - 1)⟩ :: mrgT (p :: r) s
  termination_by a b => a.length + b.length
theorem mrg_row : ∀ (n : Nat) (la lb na nb : Int) (L M : List TupV), L.length + M.length ≤ n → la + sumT L = na → lb + sumT M = nb → rowT (la + lb) (mrgS na nb la lb (spotsT la L) (spotsT lb M)) = mrgT L M
  | n, la, lb, na, nb, [], [], _, _, _ => by unfold spotsT mrgS mrgT; rfl
  | 0, la, lb, na, nb, p :: r, M, hn, _, _ => by simp at hn
  | 0, la, lb, na, nb, [], q :: s, hn, _, _ => by simp at hn
  | n + 1, la, lb, na, nb, p :: r, [], hn, ha, hb => by
    have ha' : la + (p.st + sumT r) = na := ha
    have hb' : lb + 0 = nb := hb
    have ih := mrg_row n (la + p.st) lb na nb r [] (by simp at hn ⊢; omega) (by omega) hb
    unfold spotsT mrgS mrgT
    show (⟨p.x, la + p.st + lb - (la + lb), la + p.st + p.sl + nb - (la + p.st + lb)⟩ : TupV) :: rowT (la + p.st + lb) _ = _
    have e : spotsT lb [] = [] := rfl
    rw [e] at ih
    rw [ih]
    congr 1
    simp only [TupV.mk.injEq, true_and]
    omega
  | n + 1, la, lb, na, nb, [], q :: s, hn, ha, hb => by
    have ha' : la + 0 = na := ha
    have hb' : lb + (q.st + sumT s) = nb := hb
    have ih := mrg_row n la (lb + q.st) na nb [] s (by simp at hn ⊢; omega) ha (by omega)
    unfold spotsT mrgS mrgT
    show (⟨q.x, lb + q.st + la - (la + lb), lb + q.st + q.sl + na - (lb + q.st + la)⟩ : TupV) :: rowT (lb + q.st + la) _ = _
    have e : spotsT la [] = [] := rfl
    rw [e] at ih
    rw [show lb + q.st + la = la + (lb + q.st) by omega, ih]
    congr 1
    simp only [TupV.mk.injEq, true_and]
    omega
  | n + 1, la, lb, na, nb, p :: r, q :: s, hn, ha, hb => by
    have ha' : la + (p.st + sumT r) = na := ha
    have hb' : lb + (q.st + sumT s) = nb := hb
    have i1 := mrg_row n (la + p.st) lb na nb r (q :: s) (by simp at hn ⊢; omega) (by omega) hb
    have i2 := mrg_row n la (lb + q.st) na nb (p :: r) s (by simp at hn ⊢; omega) ha (by omega)
    have ea : spotsT la (p :: r) = ⟨p.x, la + p.st, la + p.st + p.sl⟩ :: spotsT (la + p.st) r := rfl
    have eb : spotsT lb (q :: s) = ⟨q.x, lb + q.st, lb + q.st + q.sl⟩ :: spotsT (lb + q.st) s := rfl
    rw [ea] at i2 ⊢
    rw [eb] at i1 ⊢
    unfold mrgS mrgT
    simp only
    by_cases c : p.x ≤ q.x
    · rw [if_pos c, if_pos c]
      show (⟨p.x, la + p.st + lb - (la + lb), la + p.st + p.sl + (lb + q.st + q.sl) - 1 - (la + p.st + lb)⟩ : TupV) :: rowT (la + p.st + lb) _ = _
      rw [i1]
      congr 1
      simp only [TupV.mk.injEq, true_and]
      omega
    · rw [if_neg c, if_neg c]
      show (⟨q.x, lb + q.st + la - (la + lb), lb + q.st + q.sl + (la + p.st + p.sl) - 1 - (lb + q.st + la)⟩ : TupV) :: rowT (lb + q.st + la) _ = _
      rw [show lb + q.st + la = la + (lb + q.st) by omega, i2]
      congr 1
      simp only [TupV.mk.injEq, true_and]
      omega
theorem merge_is (L M : List TupV) : mergeT L M = mrgT L M := by
  have h := mrg_row (L.length + M.length) 0 0 (sumT L) (sumT M) L M (Nat.le_refl _) (by omega) (by omega)
  have e1 : totS (spotsT 0 L) = sumT L := by rw [tot_last, last_sum]; omega
  have e2 : totS (spotsT 0 M) = sumT M := by rw [tot_last, last_sum]; omega
  unfold mergeT mergeS
  rw [e1, e2]
  exact h
theorem mergeT_len (L M : List TupV) : (mergeT L M).length = L.length + M.length := by
  unfold mergeT
  rw [row_len, merge_len, spots_len, spots_len]
theorem mrg_a : ∀ (n : Nat) (L M : List TupV), L.length + M.length ≤ n → SortT L → SortT M → ∀ (i : Nat) (p : TupV), L[i]? = some p → (mrgT L M)[i + fromT true p.x M]? = some ⟨p.x, p.st, p.sl + roomT M (fromT true p.x M)⟩
  | n, [], M, _, _, _, i, p, h => by simp at h
  | 0, p0 :: r, M, hn, _, _, i, p, h => by simp at hn
  | n + 1, p0 :: r, [], hn, hL, hM, i, p, h => by
    have ih := mrg_a n r [] (by simp at hn ⊢; omega) (sort_tail hL) hM
    unfold mrgT
    have e : fromT true p.x [] = 0 := rfl
    have e2 : roomT [] 0 = 0 := rfl
    rw [e, e2]
    cases i with
    | zero =>
      have : p0 = p := Option.some.inj h
      subst this
      show some (⟨p0.x, p0.st, p0.sl⟩ : TupV) = _
      rw [Int.add_zero]
    | succ i =>
      have := ih i p h
      rw [e, e2] at this
      exact this
  | n + 1, p0 :: r, q0 :: s, hn, hL, hM, i, p, h => by
    have i1 := mrg_a n r (q0 :: s) (by simp at hn ⊢; omega) (sort_tail hL) hM
    have i2 := mrg_a n (p0 :: r) s (by simp at hn ⊢; omega) hL (sort_tail hM)
    unfold mrgT
    by_cases c : p0.x ≤ q0.x
    · rw [if_pos c]
      cases i with
      | zero =>
        have : p0 = p := Option.some.inj h
        subst this
        have e : fromT true p0.x (q0 :: s) = 0 := from_zero fun u hu => by
          rw [beh_true]
          rcases List.mem_cons.1 hu with e | e
          · rw [e]; exact decide_eq_true c
          · have := sort_head hM u e; exact decide_eq_true (by omega)
        rw [e]
        rfl
      | succ i =>
        have := i1 i p h
        rw [show i + 1 + fromT true p.x (q0 :: s) = i + fromT true p.x (q0 :: s) + 1 by omega, List.getElem?_cons_succ]
        exact this
    · rw [if_neg c]
      have hpx : p0.x ≤ p.x := by
        have hm := List.mem_of_getElem? h
        rcases List.mem_cons.1 hm with e | e
        · rw [e]; exact Int.le_refl _
        · exact sort_head hL p e
      have hb : behB true p.x q0.x = false := by rw [beh_true]; exact decide_eq_false (by omega)
      rw [from_cons, hb, if_neg (by decide), room_cons, ← Nat.add_assoc, List.getElem?_cons_succ]
      exact i2 i p h
theorem mrg_b : ∀ (n : Nat) (L M : List TupV), L.length + M.length ≤ n → SortT L → SortT M → ∀ (k : Nat) (q : TupV), M[k]? = some q → (mrgT L M)[k + fromT false q.x L]? = some ⟨q.x, q.st, q.sl + roomT L (fromT false q.x L)⟩
  | n, L, [], _, _, _, k, q, h => by simp at h
  | 0, L, q0 :: s, hn, _, _, k, q, h => by simp at hn
  | n + 1, [], q0 :: s, hn, hL, hM, k, q, h => by
    have ih := mrg_b n [] s (by simp at hn ⊢; omega) hL (sort_tail hM)
    unfold mrgT
    have e : fromT false q.x [] = 0 := rfl
    have e2 : roomT [] 0 = 0 := rfl
    rw [e, e2]
    cases k with
    | zero =>
      have : q0 = q := Option.some.inj h
      subst this
      show some (⟨q0.x, q0.st, q0.sl⟩ : TupV) = _
      rw [Int.add_zero]
    | succ k =>
      have := ih k q h
      rw [e, e2] at this
      exact this
  | n + 1, p0 :: r, q0 :: s, hn, hL, hM, k, q, h => by
    have i1 := mrg_b n r (q0 :: s) (by simp at hn ⊢; omega) (sort_tail hL) hM
    have i2 := mrg_b n (p0 :: r) s (by simp at hn ⊢; omega) hL (sort_tail hM)
    unfold mrgT
    have hqx : q0.x ≤ q.x := by
      have hm := List.mem_of_getElem? h
      rcases List.mem_cons.1 hm with e | e
      · rw [e]; exact Int.le_refl _
      · exact sort_head hM q e
    by_cases c : p0.x ≤ q0.x
    · rw [if_pos c]
      have hb : behB false q.x p0.x = false := by rw [beh_false]; exact decide_eq_false (by omega)
      rw [from_cons, hb, if_neg (by decide), room_cons, ← Nat.add_assoc, List.getElem?_cons_succ]
      exact i1 k q h
    · rw [if_neg c]
      cases k with
      | zero =>
        have : q0 = q := Option.some.inj h
        subst this
        have e : fromT false q0.x (p0 :: r) = 0 := from_zero fun u hu => by
          rw [beh_false]
          rcases List.mem_cons.1 hu with e | e
          · rw [e]; exact decide_eq_true (by omega)
          · have := sort_head hL u e; exact decide_eq_true (by omega)
        rw [e]
        rfl
      | succ k =>
        have := i2 k q h
        rw [show k + 1 + fromT false q.x (p0 :: r) = k + fromT false q.x (p0 :: r) + 1 by omega, List.getElem?_cons_succ]
        exact this
/-- Each place is one row's or the other's. -/
theorem mrg_cover : ∀ (n : Nat) (L M : List TupV), L.length + M.length ≤ n → SortT L → SortT M → ∀ m, m < L.length + M.length → (∃ i p, L[i]? = some p ∧ m = i + fromT true p.x M) ∨ ∃ k q, M[k]? = some q ∧ m = k + fromT false q.x L
  | n, [], [], _, _, _, m, h => by simp at h
  | 0, p0 :: r, M, hn, _, _, m, h => by simp at hn
  | 0, [], q0 :: s, hn, _, _, m, h => by simp at hn
  | n + 1, p0 :: r, [], hn, hL, hM, m, h => by
    have hm : m < (p0 :: r).length := by simpa using h
    exact Or.inl ⟨m, _, List.getElem?_eq_getElem hm, rfl⟩
  | n + 1, [], q0 :: s, hn, hL, hM, m, h => by
    have hm : m < (q0 :: s).length := by simpa using h
    exact Or.inr ⟨m, _, List.getElem?_eq_getElem hm, rfl⟩
  | n + 1, p0 :: r, q0 :: s, hn, hL, hM, m, h => by
    by_cases c : p0.x ≤ q0.x
    · cases m with
      | zero =>
        refine Or.inl ⟨0, p0, rfl, ?_⟩
        have e : fromT true p0.x (q0 :: s) = 0 := from_zero fun u hu => by
          rw [beh_true]
          rcases List.mem_cons.1 hu with e | e
          · rw [e]; exact decide_eq_true c
          · have := sort_head hM u e; exact decide_eq_true (by omega)
        rw [e]
      | succ m =>
        rcases mrg_cover n r (q0 :: s) (by simp at hn ⊢; omega) (sort_tail hL) hM m (by simp at h ⊢; omega) with ⟨i, p, hi, e⟩ | ⟨k, q, hk, e⟩
        · exact Or.inl ⟨i + 1, p, hi, by omega⟩
        · refine Or.inr ⟨k, q, hk, ?_⟩
          have hqx : q0.x ≤ q.x := by
            have hm := List.mem_of_getElem? hk
            rcases List.mem_cons.1 hm with e | e
            · rw [e]; exact Int.le_refl _
            · exact sort_head hM q e
          have hb : behB false q.x p0.x = false := by rw [beh_false]; exact decide_eq_false (by omega)
          rw [from_cons, hb, if_neg (by decide)]
          omega
    · cases m with
      | zero =>
        refine Or.inr ⟨0, q0, rfl, ?_⟩
        have e : fromT false q0.x (p0 :: r) = 0 := from_zero fun u hu => by
          rw [beh_false]
          rcases List.mem_cons.1 hu with e | e
          · rw [e]; exact decide_eq_true (by omega)
          · have := sort_head hL u e; exact decide_eq_true (by omega)
        rw [e]
      | succ m =>
        rcases mrg_cover n (p0 :: r) s (by simp at hn ⊢; omega) hL (sort_tail hM) m (by simp at h ⊢; omega) with ⟨i, p, hi, e⟩ | ⟨k, q, hk, e⟩
        · refine Or.inl ⟨i, p, hi, ?_⟩
          have hpx : p0.x ≤ p.x := by
            have hm := List.mem_of_getElem? hi
            rcases List.mem_cons.1 hm with e | e
            · rw [e]; exact Int.le_refl _
            · exact sort_head hL p e
          have hb : behB true p.x q0.x = false := by rw [beh_true]; exact decide_eq_false (by omega)
          rw [from_cons, hb, if_neg (by decide)]
          omega
        · exact Or.inr ⟨k + 1, q, hk, by omega⟩
/-- Where a row's tuples are laid, and what. -/
def layI (same : Bool) (M : List TupV) (i : Nat) (p : TupV) : Nat := i + fromT same p.x M
def layV (same : Bool) (M : List TupV) (p : TupV) : TupV := ⟨p.x, p.st, p.sl + roomT M (fromT same p.x M)⟩
theorem lay_a {L M : List TupV} (hL : SortT L) (hM : SortT M) {i : Nat} {p : TupV} (h : L[i]? = some p) : (mergeT L M)[layI true M i p]? = some (layV true M p) := by rw [merge_is]; exact mrg_a _ L M (Nat.le_refl _) hL hM i p h
theorem lay_b {L M : List TupV} (hL : SortT L) (hM : SortT M) {i : Nat} {p : TupV} (h : M[i]? = some p) : (mergeT L M)[layI false L i p]? = some (layV false L p) := by rw [merge_is]; exact mrg_b _ L M (Nat.le_refl _) hL hM i p h
/-- All that is laid is laid as merged: so all is merged. -/
theorem lay_all {L M C : List TupV} (hL : SortT L) (hM : SortT M) (hc : C.length = L.length + M.length)
    (ha : ∀ i p, L[i]? = some p → C[layI true M i p]? = (mergeT L M)[layI true M i p]?) (hb : ∀ i p, M[i]? = some p → C[layI false L i p]? = (mergeT L M)[layI false L i p]?) : C = mergeT L M := by
  apply List.ext_getElem?
  intro m
  by_cases hm : m < L.length + M.length
  · rcases mrg_cover _ L M (Nat.le_refl _) hL hM m hm with ⟨i, p, hi, e⟩ | ⟨i, p, hi, e⟩
    · rw [e]; exact ha i p hi
    · rw [e]; exact hb i p hi
  · rw [List.getElem?_eq_none (by omega), List.getElem?_eq_none (by rw [mergeT_len]; omega)]
end Go.Proofs.Ytjmkkglmckiknaa
