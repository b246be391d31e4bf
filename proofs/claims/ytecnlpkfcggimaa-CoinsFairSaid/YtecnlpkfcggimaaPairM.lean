/-
  Plain mathematics of rows of pairs (an index, a count): no program in sight.
-/
import Derived.Test.YtecnlpkfcggimaaQuillM
namespace Go.Proofs.Ytecnlpkfcggimaa
set_option linter.unusedVariables false
set_option linter.unusedSimpArgs false

/-- An index, and how many. -/
abbrev PairV := Int × Int
def okP (p : PairV) : Prop := I64 p.1 ∧ Word p.2
def maxC : Int := 9223372036854775807
/-- A row that can be. -/
def GoodP (L : List PairV) : Prop := (∀ p, p ∈ L → 1 ≤ p.2 ∧ p.2 ≤ 9223372036854775807) ∧ L.Pairwise fun p q => p.1 < q.1
instance (L : List PairV) : Decidable (GoodP L) := by unfold GoodP; infer_instance
def goodB (L : List PairV) : Bool := decide (GoodP L)
theorem goodB_true {L : List PairV} : goodB L = true ↔ GoodP L := by unfold goodB; exact decide_eq_true_iff
theorem goodB_false {L : List PairV} : goodB L = false ↔ ¬ GoodP L := by unfold goodB; exact decide_eq_false_iff_not
theorem good_nil : GoodP [] := ⟨fun p h => (by cases h), List.Pairwise.nil⟩
theorem good_app {A B : List PairV} (h : GoodP (A ++ B)) : GoodP A ∧ GoodP B ∧ ∀ p, p ∈ A → ∀ q, q ∈ B → p.1 < q.1 := by
  obtain ⟨h1, h2⟩ := h
  obtain ⟨h3, h4, h5⟩ := List.pairwise_append.1 h2
  exact ⟨⟨fun p hp => h1 p (List.mem_append_left _ hp), h3⟩, ⟨fun p hp => h1 p (List.mem_append_right _ hp), h4⟩, h5⟩
theorem good_mk {A B : List PairV} (h1 : GoodP A) (h2 : GoodP B) (h3 : ∀ p, p ∈ A → ∀ q, q ∈ B → p.1 < q.1) : GoodP (A ++ B) :=
  ⟨fun p hp => (List.mem_append.1 hp).elim (h1.1 p) (h2.1 p), List.pairwise_append.2 ⟨h1.2, h2.2, h3⟩⟩
theorem good_one {p : PairV} (h : 1 ≤ p.2 ∧ p.2 ≤ 9223372036854775807) : GoodP [p] := ⟨fun q hq => (by simp at hq; subst hq; exact h), List.pairwise_singleton _ _⟩
/-- A row's beginning and one more: by the last one of the beginning. -/
theorem good_snoc {A : List PairV} {p : PairV} : GoodP (A ++ [p]) ↔ GoodP A ∧ (1 ≤ p.2 ∧ p.2 ≤ 9223372036854775807) ∧ ∀ q, A.getLast? = some q → q.1 < p.1 := by
  constructor
  · intro h
    obtain ⟨h1, h2, h3⟩ := good_app h
    exact ⟨h1, h2.1 p (by simp), fun q hq => h3 q (List.mem_of_getLast? hq) p (by simp)⟩
  · rintro ⟨h1, h2, h3⟩
    refine good_mk h1 (good_one h2) fun q hq r hr => ?_
    simp at hr; subst hr
    cases hl : A.getLast? with
    | none => rw [List.getLast?_eq_none_iff] at hl; subst hl; cases hq
    | some z =>
      have hz := h3 z hl
      obtain ⟨B, rfl⟩ := List.getLast?_eq_some_iff.1 hl
      rcases List.mem_append.1 hq with h | h
      · have := (List.pairwise_append.1 h1.2).2.2 q h z (by simp); omega
      · simp at h; subst h; exact hz
theorem take_snocP {α : Type} {L : List α} {k : Nat} {p : α} (h : L[k]? = some p) : L.take (k + 1) = L.take k ++ [p] := by
  have hk : k < L.length := by
    rcases Nat.lt_or_ge k L.length with h' | h'
    · exact h'
    · rw [List.getElem?_eq_none h'] at h; cases h
  rw [List.take_succ_eq_append_getElem hk]
  rw [List.getElem?_eq_getElem hk] at h
  rw [Option.some.inj h]
theorem last_take {α : Type} {L : List α} {k : Nat} (hk : k < L.length) : (L.take (k + 1)).getLast? = L[k]? := by
  rw [take_snocP (List.getElem?_eq_getElem hk), List.getLast?_concat, List.getElem?_eq_getElem hk]
theorem good_take {L : List PairV} (k : Nat) (h : GoodP L) : GoodP (L.take k) := (good_app (A := L.take k) (B := L.drop k) (by rw [List.take_append_drop]; exact h)).1
theorem good_drop {L : List PairV} (k : Nat) (h : GoodP L) : GoodP (L.drop k) := (good_app (A := L.take k) (B := L.drop k) (by rw [List.take_append_drop]; exact h)).2.1
/-- Whether the row up to one more is good: by that one and the one ahead. -/
theorem good_step {L : List PairV} {k : Nat} {p : PairV} (h : L[k]? = some p) (hg : GoodP (L.take k)) :
    GoodP (L.take (k + 1)) ↔ (1 ≤ p.2 ∧ p.2 ≤ 9223372036854775807) ∧ (0 < k → ∀ q, L[k - 1]? = some q → q.1 < p.1) := by
  rw [take_snocP h, good_snoc]
  have hk : k < L.length := by
    rcases Nat.lt_or_ge k L.length with h' | h'
    · exact h'
    · rw [List.getElem?_eq_none h'] at h; cases h
  cases k with
  | zero => simp [good_nil]
  | succ j =>
    rw [last_take (by omega)]
    simp [hg]

/-- All counts of a row. -/
def sumP (L : List PairV) : Int := (L.map fun p => p.2).sum
theorem sumP_app (A B : List PairV) : sumP (A ++ B) = sumP A + sumP B := by unfold sumP; rw [List.map_append, List.sum_append]
theorem sumP_one (p : PairV) : sumP [p] = p.2 := by unfold sumP; simp
theorem sumP_cons (p : PairV) (r : List PairV) : sumP (p :: r) = p.2 + sumP r := by unfold sumP; simp
theorem sumP_nil : sumP [] = 0 := rfl
theorem sumP_pos {L : List PairV} (h : ∀ p, p ∈ L → 0 ≤ p.2) : 0 ≤ sumP L := by
  induction L with
  | nil => exact Int.le_refl _
  | cons p r ih =>
    rw [sumP_cons]
    have := h p (by simp); have := ih fun q hq => h q (List.mem_cons_of_mem _ hq)
    omega
theorem sumP_take {L : List PairV} (k : Nat) (h : ∀ p, p ∈ L → 0 ≤ p.2) : 0 ≤ sumP (L.take k) ∧ sumP (L.take k) ≤ sumP L := by
  have e := sumP_app (L.take k) (L.drop k)
  rw [List.take_append_drop] at e
  have h1 := sumP_pos (L := L.take k) fun p hp => h p (List.mem_of_mem_take hp)
  have h2 := sumP_pos (L := L.drop k) fun p hp => h p (List.mem_of_mem_drop hp)
  omega
def fitsB (L : List PairV) : Bool := decide (sumP L ≤ 9223372036854775807)
def totalP (L : List PairV) : Int := if fitsB L then sumP L else 0

/-- How many of an index. -/
def countP (L : List PairV) (i : Int) : Int := sumP (L.filter fun p => p.1 == i)
theorem countP_app (A B : List PairV) (i : Int) : countP (A ++ B) i = countP A i + countP B i := by unfold countP; rw [List.filter_append, sumP_app]
theorem countP_one (p : PairV) (i : Int) : countP [p] i = if p.1 = i then p.2 else 0 := by
  unfold countP
  by_cases h : p.1 = i
  · rw [if_pos h, List.filter_cons_of_pos (by simpa using h)]; simp [sumP_one]
  · rw [if_neg h, List.filter_cons_of_neg (by simpa using h)]; rfl
theorem countP_take {L : List PairV} (k : Nat) (i : Int) (h : ∀ p, p ∈ L → 0 ≤ p.2) : 0 ≤ countP (L.take k) i ∧ countP (L.take k) i ≤ countP L i := by
  have e := countP_app (L.take k) (L.drop k) i
  rw [List.take_append_drop] at e
  have h1 : 0 ≤ countP (L.take k) i := sumP_pos fun p hp => h p (List.mem_of_mem_take (List.mem_filter.1 hp).1)
  have h2 : 0 ≤ countP (L.drop k) i := sumP_pos fun p hp => h p (List.mem_of_mem_drop (List.mem_filter.1 hp).1)
  omega
/-- A row with so many more of an index. -/
def lowP (L : List PairV) (i : Int) : List PairV := L.filter fun p => decide (p.1 < i)
def highP (L : List PairV) (i : Int) : List PairV := L.filter fun p => decide (i < p.1)
def midP (i n : Int) : List PairV := if 0 < n then [(i, n)] else []
def addP (L : List PairV) (i c : Int) : List PairV := lowP L i ++ (midP i (countP L i + c) ++ highP L i)
theorem lowP_mem {L : List PairV} {i : Int} {p : PairV} (h : p ∈ lowP L i) : p ∈ L ∧ p.1 < i := by
  have := List.mem_filter.1 h; exact ⟨this.1, by simpa using this.2⟩
theorem highP_mem {L : List PairV} {i : Int} {p : PairV} (h : p ∈ highP L i) : p ∈ L ∧ i < p.1 := by
  have := List.mem_filter.1 h; exact ⟨this.1, by simpa using this.2⟩
theorem good_filter {L : List PairV} (f : PairV → Bool) (h : GoodP L) : GoodP (L.filter f) :=
  ⟨fun p hp => h.1 p (List.mem_filter.1 hp).1, h.2.filter _⟩
/-- The row stays one that can be. -/
theorem add_good {L : List PairV} {i c : Int} (h : GoodP L) (hn : countP L i + c ≤ 9223372036854775807) : GoodP (addP L i c) := by
  unfold addP
  refine good_mk (good_filter _ h) (good_mk ?_ (good_filter _ h) ?_) ?_
  · unfold midP
    split
    · exact good_one ⟨by simp only; omega, hn⟩
    · exact good_nil
  · intro p hp q hq
    unfold midP at hp
    split at hp
    · simp at hp; subst hp; exact (highP_mem hq).2
    · cases hp
  · intro p hp q hq
    have h1 := (lowP_mem hp).2
    rcases List.mem_append.1 hq with h2 | h2
    · unfold midP at h2
      split at h2
      · simp at h2; subst h2; exact h1
      · cases h2
    · have := (highP_mem h2).2; omega
/-- A good row, parted at an index. -/
theorem good_part : ∀ {L : List PairV} (i : Int), GoodP L → (∃ n, lowP L i ++ ((i, n) :: highP L i) = L ∧ countP L i = n ∧ 1 ≤ n) ∨ (lowP L i ++ highP L i = L ∧ countP L i = 0) := by
  intro L
  induction L with
  | nil => intro i _; exact Or.inr ⟨rfl, rfl⟩
  | cons p r ih =>
    intro i h
    have hr : GoodP r := good_drop 1 h
    have hlt : ∀ q, q ∈ r → p.1 < q.1 := (List.pairwise_cons.1 h.2).1
    have hp := h.1 p (by simp)
    rcases Int.lt_trichotomy p.1 i with h1 | h1 | h1
    · have el : lowP (p :: r) i = p :: lowP r i := by unfold lowP; rw [List.filter_cons_of_pos (by simpa using h1)]
      have eh : highP (p :: r) i = highP r i := by unfold highP; rw [List.filter_cons_of_neg (by simp; omega)]
      have ec : countP (p :: r) i = countP r i := by unfold countP; rw [List.filter_cons_of_neg (by simp; omega)]
      rw [el, eh, ec]
      rcases ih i hr with ⟨n, e1, e2, e3⟩ | ⟨e1, e2⟩
      · exact Or.inl ⟨n, by rw [List.cons_append, e1], e2, e3⟩
      · exact Or.inr ⟨by rw [List.cons_append, e1], e2⟩
    · have hall : ∀ q, q ∈ r → i < q.1 := fun q hq => by have := hlt q hq; omega
      have el : lowP (p :: r) i = [] := by
        unfold lowP; rw [List.filter_eq_nil_iff]; intro q hq
        rcases List.mem_cons.1 hq with rfl | hq
        · simp; omega
        · have := hall q hq; simp; omega
      have eh : highP (p :: r) i = r := by
        unfold highP; rw [List.filter_cons_of_neg (by simp; omega), List.filter_eq_self]
        intro q hq; simpa using hall q hq
      have ec : countP (p :: r) i = p.2 := by
        unfold countP
        rw [List.filter_cons_of_pos (by simpa using h1), List.filter_eq_nil_iff.2 (fun q hq => by have := hall q hq; simp; omega), sumP_one]
      rw [el, eh, ec]
      exact Or.inl ⟨p.2, by rw [← h1]; rfl, rfl, hp.1⟩
    · have hall : ∀ q, q ∈ r → i < q.1 := fun q hq => by have := hlt q hq; omega
      have el : lowP (p :: r) i = [] := by
        unfold lowP; rw [List.filter_eq_nil_iff]; intro q hq
        rcases List.mem_cons.1 hq with rfl | hq
        · simp; omega
        · have := hall q hq; simp; omega
      have eh : highP (p :: r) i = p :: r := by
        unfold highP; rw [List.filter_eq_self]
        intro q hq
        rcases List.mem_cons.1 hq with rfl | hq
        · simpa using h1
        · simpa using hall q hq
      have ec : countP (p :: r) i = 0 := by
        unfold countP
        rw [List.filter_eq_nil_iff.2 (fun q hq => by
          rcases List.mem_cons.1 hq with rfl | hq
          · simp; omega
          · have := hall q hq; simp; omega)]; rfl
      rw [el, eh, ec]
      exact Or.inr ⟨rfl, rfl⟩
theorem add_none {L : List PairV} {i : Int} (h : GoodP L) : addP L i 0 = L := by
  unfold addP
  rcases good_part i h with ⟨n, e1, e2, e3⟩ | ⟨e1, e2⟩
  · rw [e2, Int.add_zero]; unfold midP; rw [if_pos (by omega)]; exact e1
  · rw [e2, Int.add_zero]; unfold midP; rw [if_neg (by omega)]; exact e1

/-- How far an index lies behind another one, less 1, as a number. -/
def farP (a b : Int) : Nat := ((b - a - 1) % 18446744073709551616).toNat
theorem farP_lt (a b : Int) : farP a b < 18446744073709551616 := by unfold farP; omega
theorem farP_of {a b : Int} (ha : I64 a) (hb : I64 b) (h : a < b) : (farP a b : Int) = b - a - 1 := by unfold I64 at ha hb; unfold farP; omega
theorem farP_inj {a b c : Int} (ha : I64 a) (hb : I64 b) (hc : I64 c) (h1 : a < b) (h2 : a < c) (h : farP a b = farP a c) : b = c := by
  have e1 := farP_of ha hb h1
  have e2 := farP_of ha hc h2
  omega
/-- The bytes of a row, behind an index; of a whole row. -/
def tailB : Int → List PairV → List UInt8
  | _, [] => []
  | a, p :: r => natB (farP a p.1) ++ (natB p.2.toNat ++ tailB p.1 r)
def bodyB : List PairV → List UInt8
  | [] => []
  | p :: r => natB (zig p.1).toNat ++ (natB p.2.toNat ++ tailB p.1 r)
def rowB (L : List PairV) : List UInt8 := natB L.length ++ bodyB L
theorem tail_snoc : ∀ (A : List PairV) (a : Int) (p : PairV), tailB a (A ++ [p]) = tailB a A ++ (natB (farP (match A.getLast? with | none => a | some q => q.1) p.1) ++ natB p.2.toNat) := by
  intro A
  induction A with
  | nil => intro a p; simp [tailB]
  | cons q r ih =>
    intro a p
    have e : (match (q :: r).getLast? with | none => a | some z => z.1) = (match r.getLast? with | none => q.1 | some z => z.1) := by
      cases r with
      | nil => rfl
      | cons z t => rw [List.getLast?_cons_cons]; cases h : (z :: t).getLast? with
        | none => simp at h
        | some y => rfl
    rw [e, List.cons_append]
    show natB (farP a q.1) ++ (natB q.2.toNat ++ tailB q.1 (r ++ [p])) = _
    rw [ih]
    show _ = natB (farP a q.1) ++ (natB q.2.toNat ++ tailB q.1 r) ++ _
    simp only [List.append_assoc]
theorem body_first (p : PairV) : bodyB ([] ++ [p]) = bodyB [] ++ (natB (zig p.1).toNat ++ natB p.2.toNat) := by simp [bodyB, tailB]
theorem body_snoc {A : List PairV} {q p : PairV} (h : A.getLast? = some q) : bodyB (A ++ [p]) = bodyB A ++ (natB (farP q.1 p.1) ++ natB p.2.toNat) := by
  cases A with
  | nil => cases h
  | cons z r =>
    rw [List.cons_append]
    show natB (zig z.1).toNat ++ (natB z.2.toNat ++ tailB z.1 (r ++ [p])) = natB (zig z.1).toNat ++ (natB z.2.toNat ++ tailB z.1 r) ++ _
    rw [tail_snoc]
    have e : (match r.getLast? with | none => z.1 | some y => y.1) = q.1 := by
      cases r with
      | nil => simp at h; subst h; rfl
      | cons y t => rw [List.getLast?_cons_cons] at h; rw [h]
    rw [e]
    simp only [List.append_assoc]
/-- The index of a pair that stands there. -/
def idxAt (L : List PairV) (j : Nat) : Int := ((L[j]?).map fun p => p.1).getD 0
/-- Step by step: the bytes of the first k pairs and of one more. -/
theorem body_step {L : List PairV} {k : Nat} {p : PairV} (h : L[k]? = some p) : bodyB (L.take (k + 1)) = bodyB (L.take k) ++ ((if k = 0 then natB (zig p.1).toNat else natB (farP (idxAt L (k - 1)) p.1)) ++ natB p.2.toNat) := by
  have hk : k < L.length := by
    rcases Nat.lt_or_ge k L.length with h' | h'
    · exact h'
    · rw [List.getElem?_eq_none h'] at h; cases h
  rw [take_snocP h]
  cases k with
  | zero => rw [if_pos rfl]; exact body_first p
  | succ j =>
    rw [if_neg (by omega)]
    have hl := last_take (L := L) (k := j) (by omega)
    have hj := List.getElem?_eq_getElem (l := L) (i := j) (by omega)
    rw [hj] at hl
    rw [body_snoc hl, Nat.add_sub_cancel]
    unfold idxAt
    rw [hj]; rfl
theorem tailB_len : ∀ (L : List PairV) (a : Int), (∀ p, p ∈ L → Word p.2) → (tailB a L).length ≤ 20 * L.length := by
  intro L
  induction L with
  | nil => intro a _; exact Nat.zero_le _
  | cons p r ih =>
    intro a h
    have h1 := natB_len10 (farP_lt a p.1)
    have h2 := natB_len10 (n := p.2.toNat) (by have := h p (by simp); unfold Word at this; omega)
    have h3 := ih p.1 fun q hq => h q (List.mem_cons_of_mem _ hq)
    simp only [tailB, List.length_append, List.length_cons]
    omega
theorem bodyB_len {L : List PairV} (h : ∀ p, p ∈ L → okP p) : (bodyB L).length ≤ 20 * L.length := by
  cases L with
  | nil => exact Nat.zero_le _
  | cons p r =>
    have hp := h p (by simp)
    have h1 := natB_len10 (n := (zig p.1).toNat) (by have := zig_word hp.1; unfold Word at this; omega)
    have h2 := natB_len10 (n := p.2.toNat) (by have := hp.2; unfold Word at this; omega)
    have h3 := tailB_len r p.1 fun q hq => (h q (List.mem_cons_of_mem _ hq)).2
    simp only [bodyB, List.length_append, List.length_cons]
    omega
/-- A number ahead of other bytes is read as what it is. -/
theorem nat_split {n m : Nat} {r r' : List UInt8} (hn : n < 18446744073709551616) (hm : m < 18446744073709551616) (h : natB n ++ r = natB m ++ r') : n = m ∧ r = r' := by
  have f := firstS_nat hn r
  rw [h, firstS_nat hm r'] at f
  have e : m = n := congrArg Prod.fst f
  subst e
  exact ⟨rfl, List.append_cancel_left h⟩
theorem tail_inj : ∀ (L L' : List PairV) (a : Int) (r r' : List UInt8), I64 a → (∀ p, p ∈ L → okP p ∧ a < p.1) → (∀ p, p ∈ L' → okP p ∧ a < p.1) → GoodP L → GoodP L' → L.length = L'.length → tailB a L ++ r = tailB a L' ++ r' → L = L' ∧ r = r' := by
  intro L
  induction L with
  | nil =>
    intro L' a r r' _ _ _ _ _ hl h
    cases L' with
    | nil => exact ⟨rfl, h⟩
    | cons _ _ => simp at hl
  | cons p t ih =>
    intro L' a r r' ha h1 h2 g1 g2 hl h
    cases L' with
    | nil => simp at hl
    | cons q u =>
      obtain ⟨⟨p1, p2⟩, p3⟩ := h1 p (by simp)
      obtain ⟨⟨q1, q2⟩, q3⟩ := h2 q (by simp)
      simp only [tailB, List.append_assoc] at h
      obtain ⟨e1, h'⟩ := nat_split (farP_lt _ _) (farP_lt _ _) h
      obtain ⟨e2, h''⟩ := nat_split (by unfold Word at p2; omega) (by unfold Word at q2; omega) h'
      have e3 : p.1 = q.1 := farP_inj ha p1 q1 p3 q3 e1
      have e4 : p.2 = q.2 := by unfold Word at p2 q2; omega
      have hp := (List.pairwise_cons.1 g1.2).1
      have hq := (List.pairwise_cons.1 g2.2).1
      rw [← e3] at h'' hq
      obtain ⟨e5, e6⟩ := ih u p.1 r r' p1 (fun z hz => ⟨(h1 z (List.mem_cons_of_mem _ hz)).1, hp z hz⟩) (fun z hz => ⟨(h2 z (List.mem_cons_of_mem _ hz)).1, hq z hz⟩) (good_drop 1 g1) (good_drop 1 g2) (by simpa using hl) h''
      exact ⟨by rw [e5, Prod.ext e3 e4], e6⟩
/-- Rows' bytes tell the rows. -/
theorem row_inj {L L' : List PairV} {r r' : List UInt8} (o : ∀ p, p ∈ L → okP p) (o' : ∀ p, p ∈ L' → okP p) (g : GoodP L) (g' : GoodP L') (hl : L.length < 18446744073709551616) (hl' : L'.length < 18446744073709551616)
    (h : rowB L ++ r = rowB L' ++ r') : L = L' ∧ r = r' := by
  unfold rowB at h
  simp only [List.append_assoc] at h
  obtain ⟨e1, h1⟩ := nat_split hl hl' h
  cases L with
  | nil => cases L' with
    | nil => exact ⟨rfl, h1⟩
    | cons _ _ => simp at e1
  | cons p t =>
    cases L' with
    | nil => simp at e1
    | cons q u =>
      obtain ⟨p1, p2⟩ := o p (by simp)
      obtain ⟨q1, q2⟩ := o' q (by simp)
      simp only [bodyB, List.append_assoc] at h1
      have w1 := zig_word p1
      have w2 := zig_word q1
      obtain ⟨e2, h2⟩ := nat_split (by unfold Word at w1; omega) (by unfold Word at w2; omega) h1
      obtain ⟨e3, h3⟩ := nat_split (by unfold Word at p2; omega) (by unfold Word at q2; omega) h2
      have e4 : zig p.1 = zig q.1 := by unfold Word at w1 w2; omega
      have e5 : p.1 = q.1 := by rw [← zag_zig (x := p.1), e4, zag_zig]
      have e6 : p.2 = q.2 := by unfold Word at p2 q2; omega
      have hp := (List.pairwise_cons.1 g.2).1
      have hq := (List.pairwise_cons.1 g'.2).1
      rw [← e5] at h3 hq
      obtain ⟨e7, e8⟩ := tail_inj t u p.1 r r' p1 (fun z hz => ⟨o z (List.mem_cons_of_mem _ hz), hp z hz⟩) (fun z hz => ⟨o' z (List.mem_cons_of_mem _ hz), hq z hz⟩) (good_drop 1 g) (good_drop 1 g') (by simpa using e1) h3
      exact ⟨by rw [e7, Prod.ext e5 e6], e8⟩

theorem low_high_len (L : List PairV) (i : Int) : (lowP L i).length + (highP L i).length ≤ L.length := by
  induction L with
  | nil => exact Nat.le_refl _
  | cons p r ih =>
    unfold lowP highP at *
    rw [List.filter_cons, List.filter_cons]
    by_cases h1 : p.1 < i
    · have h2 : ¬ i < p.1 := by omega
      simp only [h1, h2, decide_true, decide_false, if_true, Bool.false_eq_true, if_false, List.length_cons]; omega
    · by_cases h2 : i < p.1
      · simp only [h1, h2, decide_true, decide_false, if_true, Bool.false_eq_true, if_false, List.length_cons]; omega
      · simp only [h1, h2, decide_false, Bool.false_eq_true, if_false, List.length_cons]; omega
theorem add_len (L : List PairV) (i c : Int) : (addP L i c).length ≤ L.length + 1 := by
  unfold addP
  have h := low_high_len L i
  have h2 : (midP i (countP L i + c)).length ≤ 1 := by unfold midP; split <;> simp
  rw [List.length_append, List.length_append]; omega
theorem add_ok {L : List PairV} {i c : Int} (h : ∀ p, p ∈ L → okP p) (hi : I64 i) (hn : countP L i + c < 18446744073709551616) : ∀ p, p ∈ addP L i c → okP p := by
  intro p hp
  unfold addP at hp
  rcases List.mem_append.1 hp with hp | hp
  · exact h p (lowP_mem hp).1
  · rcases List.mem_append.1 hp with hp | hp
    · unfold midP at hp
      split at hp
      · simp at hp; subst hp; exact ⟨hi, by unfold Word; omega⟩
      · cases hp
    · exact h p (highP_mem hp).1
theorem count_low (L : List PairV) (i j : Int) : countP (lowP L i) j = if j < i then countP L j else 0 := by
  unfold countP lowP
  rw [List.filter_filter]
  by_cases h : j < i
  · rw [if_pos h]
    congr 1
    apply List.filter_congr
    intro p _
    by_cases e : p.1 = j
    · subst e; simp [h]
    · simp [e]
  · rw [if_neg h, List.filter_eq_nil_iff.2]; rfl
    intro p _
    simp only [Bool.and_eq_true, decide_eq_true_eq, beq_iff_eq, not_and]
    intro e; omega
theorem count_high (L : List PairV) (i j : Int) : countP (highP L i) j = if i < j then countP L j else 0 := by
  unfold countP highP
  rw [List.filter_filter]
  by_cases h : i < j
  · rw [if_pos h]
    congr 1
    apply List.filter_congr
    intro p _
    by_cases e : p.1 = j
    · subst e; simp [h]
    · simp [e]
  · rw [if_neg h, List.filter_eq_nil_iff.2]; rfl
    intro p _
    simp only [Bool.and_eq_true, decide_eq_true_eq, beq_iff_eq, not_and]
    intro e; omega
/-- How many of each index there are behind an addition. -/
theorem count_add {L : List PairV} {i c : Int} (h0 : 0 ≤ countP L i + c) (j : Int) : countP (addP L i c) j = countP L j + if j = i then c else 0 := by
  unfold addP
  rw [countP_app, countP_app, count_low, count_high]
  have hm : countP (midP i (countP L i + c)) j = if j = i then countP L i + c else 0 := by
    unfold midP
    by_cases hn : 0 < countP L i + c
    · rw [if_pos hn, countP_one]
      by_cases e : j = i
      · rw [if_pos e, if_pos e.symm]
      · rw [if_neg e, if_neg (fun h => e h.symm)]
    · rw [if_neg hn]
      by_cases e : j = i
      · rw [if_pos e, show countP [] j = 0 from rfl]; omega
      · rw [if_neg e]; rfl
  rw [hm]
  by_cases e : j = i
  · subst e
    simp only [Int.lt_irrefl, if_true, if_false]; omega
  · rw [if_neg e, if_neg e]
    by_cases h1 : j < i
    · rw [if_pos h1, if_neg (by omega)]; omega
    · rw [if_neg h1, if_pos (by omega)]; omega
/-- All pairs of a row, added one by one. -/
def foldP (L : List PairV) : List PairV := L.foldl (fun R p => addP R p.1 p.2) []
theorem fold_snoc (L : List PairV) (p : PairV) : foldP (L ++ [p]) = addP (foldP L) p.1 p.2 := by unfold foldP; rw [List.foldl_append]; rfl
/-- What is kept while small counts are added. -/
structure Sums (R : List PairV) (k : Nat) : Prop where
  good : GoodP R
  ok : ∀ p, p ∈ R → okP p
  len : R.length ≤ k
  cnt : ∀ j, 0 ≤ countP R j ∧ countP R j ≤ k * 1099511627776
theorem Sums.nil : Sums [] 0 := ⟨good_nil, fun p h => (by cases h), Nat.le_refl _, fun j => ⟨Int.le_refl _, Int.le_refl _⟩⟩
theorem Sums.add {R : List PairV} {k : Nat} (h : Sums R k) {p : PairV} (hp : okP p) (hc : p.2 ≤ 1099511627776) (hk : k ≤ 1000) : Sums (addP R p.1 p.2) (k + 1) := by
  have h0 := h.cnt p.1
  have hw := hp.2
  unfold Word at hw
  refine ⟨add_good h.good (by omega), add_ok h.ok hp.1 (by omega), Nat.le_trans (add_len _ _ _) (by have := h.len; omega), fun j => ?_⟩
  rw [count_add (by omega)]
  have := h.cnt j
  split <;> omega

/-- A good row hangs on its counts alone. -/
theorem count_cons (p : PairV) (r : List PairV) (j : Int) : countP (p :: r) j = (if p.1 = j then p.2 else 0) + countP r j := by
  have := countP_app [p] r j
  rw [countP_one] at this
  exact this
theorem count_above {L : List PairV} {j : Int} (h : ∀ q, q ∈ L → j < q.1) : countP L j = 0 := by
  unfold countP
  rw [List.filter_eq_nil_iff.2 (fun q hq => by have := h q hq; simp; omega)]; rfl
theorem good_ext : ∀ {L M : List PairV}, GoodP L → GoodP M → (∀ j, countP L j = countP M j) → L = M := by
  intro L
  induction L with
  | nil =>
    intro M _ hM h
    cases M with
    | nil => rfl
    | cons q s =>
      have h1 := h q.1
      rw [count_cons, if_pos rfl, count_above (L := s) (fun z hz => (List.pairwise_cons.1 hM.2).1 z hz)] at h1
      have h2 := hM.1 q (by simp)
      have h3 : countP [] q.1 = 0 := rfl
      omega
  | cons p r ih =>
    intro M hL hM h
    have hp := hL.1 p (by simp)
    have hr := (List.pairwise_cons.1 hL.2).1
    cases M with
    | nil =>
      have h1 := h p.1
      rw [count_cons, if_pos rfl, count_above (L := r) hr] at h1
      have h3 : countP [] p.1 = 0 := rfl
      omega
    | cons q s =>
      have hq := hM.1 q (by simp)
      have hs := (List.pairwise_cons.1 hM.2).1
      have e1 : p.1 = q.1 := by
        rcases Int.lt_trichotomy p.1 q.1 with hc | hc | hc
        · have h1 := h p.1
          rw [count_cons, if_pos rfl, count_above (L := r) hr, count_cons, if_neg (by omega), count_above (L := s) (fun z hz => by have := hs z hz; omega)] at h1
          omega
        · exact hc
        · have h1 := h q.1
          rw [count_cons, if_neg (by omega), count_above (L := r) (fun z hz => by have := hr z hz; omega), count_cons, if_pos rfl, count_above (L := s) hs] at h1
          omega
      have e2 : p.2 = q.2 := by
        have h1 := h p.1
        rw [count_cons, if_pos rfl, count_above (L := r) hr, count_cons, if_pos e1.symm, count_above (L := s) (fun z hz => by have := hs z hz; omega)] at h1
        omega
      have e3 : r = s := ih (good_drop 1 hL) (good_drop 1 hM) fun j => by
        have h1 := h j
        rw [count_cons, count_cons, e1, e2] at h1
        omega
      rw [e3, Prod.ext e1 e2]
theorem fold_app (A B : List PairV) : foldP (A ++ B) = B.foldl (fun R p => addP R p.1 p.2) (foldP A) := by unfold foldP; rw [List.foldl_append]
/-- What all pairs added one by one come to: good, and with all counts. -/
theorem fold_sums : ∀ (L : List PairV), (∀ p, p ∈ L → okP p ∧ p.2 ≤ 1099511627776) → L.length ≤ 1000 → Sums (foldP L) L.length ∧ ∀ j, countP (foldP L) j = countP L j := by
  have key : ∀ (n : Nat) (L : List PairV), L.length = n → (∀ p, p ∈ L → okP p ∧ p.2 ≤ 1099511627776) → L.length ≤ 1000 → Sums (foldP L) L.length ∧ ∀ j, countP (foldP L) j = countP L j := by
    intro n
    induction n with
    | zero =>
      intro L h0 _ _
      have : L = [] := List.eq_nil_of_length_eq_zero h0
      subst this
      exact ⟨Sums.nil, fun j => rfl⟩
    | succ n ih =>
      intro L h0 h hl
      rcases List.eq_nil_or_concat L with rfl | ⟨A, p, rfl⟩
      · cases h0
      rw [List.concat_eq_append] at *
      rw [List.length_append, List.length_singleton] at hl h0
      obtain ⟨h1, h2⟩ := ih A (by omega) (fun q hq => h q (List.mem_append_left _ hq)) (by omega)
      have hp := h p (by simp)
      rw [fold_snoc, List.length_append, List.length_singleton]
      refine ⟨h1.add hp.1 hp.2 (by omega), fun j => ?_⟩
      have h3 := h1.cnt p.1
      have hw := hp.1.2
      unfold Word at hw
      rw [count_add (by omega), h2, countP_app, countP_one]
      by_cases e : j = p.1
      · subst e; rw [if_pos rfl]
      · rw [if_neg e, if_neg (fun h => e h.symm)]
  exact fun L => key L.length L rfl
end Go.Proofs.Ytecnlpkfcggimaa
