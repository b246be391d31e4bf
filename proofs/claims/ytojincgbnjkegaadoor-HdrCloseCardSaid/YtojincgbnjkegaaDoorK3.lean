/-
  Texts joined, in build order: LogM, HdrM, ShareM, ShareA, ShareP, HdrN, HdP, HdA, HdC, HdB, PlusN, HdD, HdE.
-/
import Derived.Test.YtojincgbnjkegaaDoorK2
import Derived.Lib.IndexLaws
import Derived.Lib.IndexMore
import Derived.Lib.Strings
import Derived.Test.YtojincgbnjkegaaDoorRows
import Derived.WalkKit
import Derived.WalkSpells
import Derived.WalkLawsBesides
import Derived.WalkMore
import Derived.ScopeJumps
import Derived.Scope
import Derived.Deep.QuietTactic
import Derived.BigQuiet
import Derived.Deep.RegionHeld3
/-
  Plain mathematics of a sketch over bins by a closeness: ends, what is answered, how close it lies: no program in sight.
-/
namespace Go.Proofs.YtojincgbnjkegaaDoor
set_option linter.unusedVariables false
set_option linter.unusedSimpArgs false

/-- The least and the greatest of values, from one on. -/
def loF (x : Int) (A : List PairV) : Int := A.foldl (fun a v => min a v.1) x
def hiF (x : Int) (A : List PairV) : Int := A.foldl (fun a v => max a v.1) x
theorem lof_snoc (x : Int) (A : List PairV) (v : PairV) : loF x (A ++ [v]) = min (loF x A) v.1 := by unfold loF; rw [List.foldl_append]; rfl
theorem hif_snoc (x : Int) (A : List PairV) (v : PairV) : hiF x (A ++ [v]) = max (hiF x A) v.1 := by unfold hiF; rw [List.foldl_append]; rfl
theorem lof_app (x : Int) (A B : List PairV) : loF x (A ++ B) = loF (loF x A) B := by unfold loF; rw [List.foldl_append]
theorem hif_app (x : Int) (A B : List PairV) : hiF x (A ++ B) = hiF (hiF x A) B := by unfold hiF; rw [List.foldl_append]
theorem lof_le : ∀ (A : List PairV) (x : Int), loF x A ≤ x ∧ ∀ v, v ∈ A → loF x A ≤ v.1 := by
  intro A
  induction A with
  | nil => intro x; exact ⟨Int.le_refl _, fun v h => (by cases h)⟩
  | cons a r ih =>
    intro x
    obtain ⟨h1, h2⟩ := ih (min x a.1)
    have e : loF x (a :: r) = loF (min x a.1) r := rfl
    rw [e]
    refine ⟨by omega, fun v hv => ?_⟩
    rcases List.mem_cons.1 hv with rfl | hv
    · omega
    · exact h2 v hv
theorem hif_ge : ∀ (A : List PairV) (x : Int), x ≤ hiF x A ∧ ∀ v, v ∈ A → v.1 ≤ hiF x A := by
  intro A
  induction A with
  | nil => intro x; exact ⟨Int.le_refl _, fun v h => (by cases h)⟩
  | cons a r ih =>
    intro x
    obtain ⟨h1, h2⟩ := ih (max x a.1)
    have e : hiF x (a :: r) = hiF (max x a.1) r := rfl
    rw [e]
    refine ⟨by omega, fun v hv => ?_⟩
    rcases List.mem_cons.1 hv with rfl | hv
    · omega
    · exact h2 v hv
theorem lof_mem : ∀ (A : List PairV) (x : Int), loF x A = x ∨ ∃ v, v ∈ A ∧ v.1 = loF x A := by
  intro A
  induction A with
  | nil => intro x; exact Or.inl rfl
  | cons a r ih =>
    intro x
    have e : loF x (a :: r) = loF (min x a.1) r := rfl
    rw [e]
    rcases ih (min x a.1) with h | ⟨v, hv, h⟩
    · by_cases c : x ≤ a.1
      · exact Or.inl (by omega)
      · exact Or.inr ⟨a, by simp, by omega⟩
    · exact Or.inr ⟨v, by simp [hv], h⟩
theorem hif_mem : ∀ (A : List PairV) (x : Int), hiF x A = x ∨ ∃ v, v ∈ A ∧ v.1 = hiF x A := by
  intro A
  induction A with
  | nil => intro x; exact Or.inl rfl
  | cons a r ih =>
    intro x
    have e : hiF x (a :: r) = hiF (max x a.1) r := rfl
    rw [e]
    rcases ih (max x a.1) with h | ⟨v, hv, h⟩
    · by_cases c : a.1 ≤ x
      · exact Or.inl (by omega)
      · exact Or.inr ⟨a, by simp, by omega⟩
    · exact Or.inr ⟨v, by simp [hv], h⟩
/-- The ends of all values: noughts, if there are none. -/
def loV (A : List PairV) : Int := match A with | [] => 0 | v :: r => loF v.1 (v :: r)
def hiV (A : List PairV) : Int := match A with | [] => 0 | v :: r => hiF v.1 (v :: r)
theorem lov_of {A : List PairV} {x : Int} (h : ∃ v, v ∈ A ∧ v.1 = x) (hx : ∀ v, v ∈ A → x ≤ v.1) : loV A = x := by
  obtain ⟨v, hv, e⟩ := h
  cases A with
  | nil => cases hv
  | cons a r =>
    show loF a.1 (a :: r) = x
    have h1 := (lof_le (a :: r) a.1).2 v hv
    rcases lof_mem (a :: r) a.1 with h | ⟨u, hu, h⟩
    · have := hx a (by simp); omega
    · have := hx u hu; omega
theorem hiv_of {A : List PairV} {x : Int} (h : ∃ v, v ∈ A ∧ v.1 = x) (hx : ∀ v, v ∈ A → v.1 ≤ x) : hiV A = x := by
  obtain ⟨v, hv, e⟩ := h
  cases A with
  | nil => cases hv
  | cons a r =>
    show hiF a.1 (a :: r) = x
    have h1 := (hif_ge (a :: r) a.1).2 v hv
    rcases hif_mem (a :: r) a.1 with h | ⟨u, hu, h⟩
    · have := hx a (by simp); omega
    · have := hx u hu; omega
theorem lov_facts {A : List PairV} (h : A ≠ []) : (∃ v, v ∈ A ∧ v.1 = loV A) ∧ ∀ v, v ∈ A → loV A ≤ v.1 := by
  cases A with
  | nil => exact absurd rfl h
  | cons a r =>
    refine ⟨?_, (lof_le (a :: r) a.1).2⟩
    rcases lof_mem (a :: r) a.1 with h | ⟨u, hu, h⟩
    · exact ⟨a, by simp, h.symm⟩
    · exact ⟨u, hu, h⟩
theorem hiv_facts {A : List PairV} (h : A ≠ []) : (∃ v, v ∈ A ∧ v.1 = hiV A) ∧ ∀ v, v ∈ A → v.1 ≤ hiV A := by
  cases A with
  | nil => exact absurd rfl h
  | cons a r =>
    refine ⟨?_, (hif_ge (a :: r) a.1).2⟩
    rcases hif_mem (a :: r) a.1 with h | ⟨u, hu, h⟩
    · exact ⟨a, by simp, h.symm⟩
    · exact ⟨u, hu, h⟩
theorem ends_app {A B : List PairV} (hA : A ≠ []) (hB : B ≠ []) : loV (A ++ B) = min (loV A) (loV B) ∧ hiV (A ++ B) = max (hiV A) (hiV B) := by
  obtain ⟨⟨a, ha, ea⟩, la⟩ := lov_facts hA
  obtain ⟨⟨b, hb, eb⟩, lb⟩ := lov_facts hB
  obtain ⟨⟨c, hc, ec⟩, hc'⟩ := hiv_facts hA
  obtain ⟨⟨d, hd, ed⟩, hd'⟩ := hiv_facts hB
  constructor
  · refine lov_of ?_ fun v hv => ?_
    · by_cases h : loV A ≤ loV B
      · exact ⟨a, by simp [ha], by omega⟩
      · exact ⟨b, by simp [hb], by omega⟩
    · rcases List.mem_append.1 hv with h | h
      · have := la v h; omega
      · have := lb v h; omega
  · refine hiv_of ?_ fun v hv => ?_
    · by_cases h : hiV B ≤ hiV A
      · exact ⟨c, by simp [hc], by omega⟩
      · exact ⟨d, by simp [hd], by omega⟩
    · rcases List.mem_append.1 hv with h | h
      · have := hc' v h; omega
      · have := hd' v h; omega
theorem ends_one (v : PairV) : loV [v] = v.1 ∧ hiV [v] = v.1 := by
  constructor
  · show min v.1 v.1 = v.1; omega
  · show max v.1 v.1 = v.1; omega
theorem ends_snoc {A : List PairV} (hA : A ≠ []) (v : PairV) : loV (A ++ [v]) = min (loV A) v.1 ∧ hiV (A ++ [v]) = max (hiV A) v.1 := by
  have h := ends_app hA (B := [v]) (by simp)
  rw [(ends_one v).1, (ends_one v).2] at h
  exact h

/-- Between the ends. -/
def clampV (lo hi x : Int) : Int := min (max x lo) hi
theorem clamp_in {lo hi : Int} (h : lo ≤ hi) (x : Int) : lo ≤ clampV lo hi x ∧ clampV lo hi x ≤ hi := by unfold clampV; omega
theorem clamp_mono {lo hi x y : Int} (h : x ≤ y) : clampV lo hi x ≤ clampV lo hi y := by unfold clampV; omega
theorem clamp_near {lo hi r x n d : Int} (h1 : lo ≤ x) (h2 : x ≤ hi) (hd : 0 ≤ d) (h : nearB r x n d = true) : nearB (clampV lo hi r) x n d = true := by
  unfold nearB at h ⊢
  have h := of_decide_eq_true h
  apply decide_eq_true
  have hg : gap (clampV lo hi r) x ≤ gap r x := by unfold clampV gap; split <;> split <;> omega
  exact Int.le_trans (Int.mul_le_mul_of_nonneg_right hg hd) h

/-- What stands for a value lies close to it. -/
theorem stand_near {u v : Int} {n : Nat} (hP : (Pt.cells u v n).ok) {x : Int} (hx : I64 x) : nearB (standV (.cells u v n) x) x u v = true := by
  unfold nearB
  apply decide_eq_true
  obtain ⟨g, t, hn⟩ := hP
  have v0 : 0 ≤ v := by obtain ⟨a, b, c⟩ := g; omega
  by_cases h0 : x = 0
  · subst h0
    have : standV (.cells u v n) 0 = 0 := by unfold standV; rw [if_pos rfl]
    rw [this]
    show (if (0 : Int) < 0 then (0 : Int) - 0 else 0 - 0) * v ≤ u * (if (0 : Int) < 0 then -0 else 0)
    simp
  · obtain ⟨m1, m2⟩ := mag_in hx h0
    obtain ⟨i, hi, e, a, b⟩ := idx_at g t m1 m2
    have hlo := low_pos g i
    have hrep : (Pt.cells u v n).rep ((Pt.cells u v n).idx (mag x)) = repC u v (lowC u v i) := by
      show (if 0 ≤ ((idxC u v n (mag x) : Nat) : Int) ∧ ((idxC u v n (mag x) : Nat) : Int) < n then repC u v (lowC u v ((idxC u v n (mag x) : Nat) : Int).toNat) else 0) = _
      rw [e, if_pos ⟨by omega, by omega⟩, Int.toNat_natCast]
    have hc := rep_close g hlo a b
    have hw := rep_word g hlo
    have hg : gap (standV (.cells u v n) x) x ≤ gapC (repC u v (lowC u v i)) (mag x) := by
      unfold standV; rw [if_neg h0, hrep]
      obtain ⟨x0, x1⟩ := hx
      unfold gap gapC mag
      by_cases hn : x < 0
      · rw [if_pos hn, if_pos hn]; split <;> omega
      · rw [if_neg hn, if_neg hn]; split <;> omega
    have := Int.mul_le_mul_of_nonneg_right hg v0
    rw [Int.mul_comm u]
    omega
/-- .. and never falls. -/
theorem rep_rise {u v : Int} {n : Nat} (hP : (Pt.cells u v n).ok) {x y : Int} (h1 : 1 ≤ x) (h2 : x ≤ y) (h3 : y ≤ 9223372036854775808) : (Pt.cells u v n).rep ((Pt.cells u v n).idx x) ≤ (Pt.cells u v n).rep ((Pt.cells u v n).idx y) := by
  have hm := pt_mono hP h1 h2 h3
  obtain ⟨g, t, hn⟩ := hP
  obtain ⟨i, hi, e, _, _⟩ := idx_at g t h1 (by omega : x ≤ 9223372036854775808)
  obtain ⟨j, hj, e2, _, _⟩ := idx_at g t (by omega : 1 ≤ y) h3
  have ex : (Pt.cells u v n).idx x = i := by show ((idxC u v n x : Nat) : Int) = i; rw [e]
  have ey : (Pt.cells u v n).idx y = j := by show ((idxC u v n y : Nat) : Int) = j; rw [e2]
  rw [ex, ey] at hm ⊢
  show (if 0 ≤ (i : Int) ∧ (i : Int) < n then repC u v (lowC u v (i : Int).toNat) else 0) ≤ (if 0 ≤ (j : Int) ∧ (j : Int) < n then repC u v (lowC u v (j : Int).toNat) else 0)
  rw [if_pos ⟨by omega, by omega⟩, if_pos ⟨by omega, by omega⟩, Int.toNat_natCast, Int.toNat_natCast]
  have := raw_mono g (Int.le_refl u) (low_pos g i) (low_mono g (show i ≤ j by omega))
  unfold repC; omega
theorem stand_rise {u v : Int} {n : Nat} (hP : (Pt.cells u v n).ok) {x y : Int} (hx : I64 x) (hy : I64 y) (h : x ≤ y) : standV (.cells u v n) x ≤ standV (.cells u v n) y := by
  have pos : ∀ z, I64 z → z ≠ 0 → 1 ≤ (Pt.cells u v n).rep ((Pt.cells u v n).idx (mag z)) := fun z hz h0 => (pt_idx hP (mag_in hz h0).1 (mag_in hz h0).2).2.2.1
  have mono : ∀ a b, I64 a → I64 b → a ≠ 0 → b ≠ 0 → mag a ≤ mag b → (Pt.cells u v n).rep ((Pt.cells u v n).idx (mag a)) ≤ (Pt.cells u v n).rep ((Pt.cells u v n).idx (mag b)) := fun a b ha hb a0 b0 hab => rep_rise hP (mag_in ha a0).1 hab (mag_in hb b0).2
  unfold standV
  by_cases x0 : x = 0
  · rw [if_pos x0]
    by_cases y0 : y = 0
    · rw [if_pos y0]; exact Int.le_refl _
    · have := pos y hy y0
      rw [if_neg y0, if_neg (by omega)]; omega
  · rw [if_neg x0]
    by_cases y0 : y = 0
    · have := pos x hx x0
      rw [if_pos y0, if_pos (by omega)]; omega
    · rw [if_neg y0]
      have px := pos x hx x0
      have py := pos y hy y0
      by_cases xn : x < 0
      · rw [if_pos xn]
        by_cases yn : y < 0
        · rw [if_pos yn]
          have := mono y x hy hx y0 x0 (by unfold mag; rw [if_pos xn, if_pos yn]; omega)
          omega
        · rw [if_neg yn]; omega
      · rw [if_neg xn, if_neg (by omega)]
        have := mono x y hx hy x0 y0 (by unfold mag; rw [if_neg xn, if_neg (by omega)]; omega)
        omega

/-- Values that are the same, however they are told. -/
theorem row_same {P : Pt} (hP : P.ok) (b : Bool) {A D : List PairV} (hA : FineV A) (hD : FineV D) (lA : A.length ≤ 1000) (lD : D.length ≤ 1000) (h : ∀ f, cntV f A = cntV f D) : rowV P b A = rowV P b D :=
  good_ext (row_fold hP b hA lA).sums.good (row_fold hP b hD lD).sums.good fun j => by rw [row_count hP b hA lA, row_count hP b hD lD]; exact h _
theorem stv_same {P : Pt} (hP : P.ok) (s : Bool) (m : Int) {A D : List PairV} (hA : FineV A) (hD : FineV D) (lA : A.length ≤ 1000) (lD : D.length ≤ 1000) (h : ∀ f, cntV f A = cntV f D) : stV P s m A = stV P s m D := by
  unfold stV
  rw [row_same hP true hA hD lA lD h, row_same hP false hA hD lA lD h]
  have : zeroV A = zeroV D := h _
  rw [this]
theorem mem_same {A D : List PairV} (hA : FineV A) (hD : FineV D) (h : ∀ f, cntV f A = cntV f D) {v : PairV} (hv : v ∈ A) : ∃ u, u ∈ D ∧ u.1 = v.1 := by
  by_cases hc : ∃ u, u ∈ D ∧ u.1 = v.1
  · exact hc
  · exfalso
    have e : cntV (fun x => x == v.1) D = 0 := by
      unfold cntV
      rw [List.filter_eq_nil_iff.2 (fun u hu hh => hc ⟨u, hu, by simpa using hh⟩)]; rfl
    have h1 : 0 < cntV (fun x => x == v.1) A := by
      obtain ⟨B, C, rfl⟩ := List.append_of_mem hv
      have hp := fine_pos hA
      have p1 := cnt_bd (f := fun x => x == v.1) (A := B) (fun u hu => hp u (by simp [hu]))
      have p2 := cnt_bd (f := fun x => x == v.1) (A := C) (fun u hu => hp u (by simp [hu]))
      have p3 := hA v (by simp)
      rw [cnt_app, cnt_cons, if_pos (by simp)]; omega
    have := h (fun x => x == v.1)
    omega
theorem ends_same {A D : List PairV} (hA : FineV A) (hD : FineV D) (h : ∀ f, cntV f A = cntV f D) : loV A = loV D ∧ hiV A = hiV D := by
  by_cases hn : A = []
  · have : D = [] := by
      cases D with
      | nil => rfl
      | cons d r =>
        obtain ⟨u, hu, _⟩ := mem_same hD hA (fun f => (h f).symm) (v := d) (by simp)
        rw [hn] at hu; cases hu
    rw [hn, this]; exact ⟨rfl, rfl⟩
  · have hd : D ≠ [] := by
      rintro rfl
      cases A with
      | nil => exact hn rfl
      | cons a r =>
        obtain ⟨u, hu, _⟩ := mem_same hA hD h (v := a) (by simp)
        cases hu
    obtain ⟨⟨a, ha, ea⟩, la⟩ := lov_facts hd
    obtain ⟨⟨c, hc, ec⟩, lc⟩ := hiv_facts hd
    constructor
    · refine lov_of ?_ fun v hv => ?_
      · obtain ⟨u, hu, e⟩ := mem_same hD hA (fun f => (h f).symm) ha
        exact ⟨u, hu, by omega⟩
      · obtain ⟨u, hu, e⟩ := mem_same hA hD h hv
        have := la u hu; omega
    · refine hiv_of ?_ fun v hv => ?_
      · obtain ⟨u, hu, e⟩ := mem_same hD hA (fun f => (h f).symm) hc
        exact ⟨u, hu, by omega⟩
      · obtain ⟨u, hu, e⟩ := mem_same hA hD h hv
        have := lc u hu; omega

/-- A value whose part is lost: there are others, further out. -/
theorem lost_far {P : Pt} (hP : P.ok) (s : Bool) {m : Int} (hm : 0 < m) {A : List PairV} (h : FineV A) (hl : A.length ≤ 1000) {x : Int} (hx : I64 x) (h0 : x ≠ 0) (hin : ∃ v, v ∈ A ∧ v.1 = x)
    (hlost : countP (keepS s m (rowV P (decide (x < 0)) A)) (P.idx (mag x)) = 0) :
    ∃ v, v ∈ A ∧ v.1 ≠ 0 ∧ decide (v.1 < 0) = decide (x < 0) ∧ (if s = true then mag v.1 < mag x else mag x < mag v.1) := by
  obtain ⟨v0, hv0, e0⟩ := hin
  obtain ⟨m1, m2⟩ := mag_in hx h0
  have F := row_fold hP (decide (x < 0)) h hl
  have hg := F.sums.good
  have hcx : 1 ≤ countP (rowV P (decide (x < 0)) A) (P.idx (mag x)) := by
    rw [row_count hP _ h hl]
    obtain ⟨B, C, rfl⟩ := List.append_of_mem hv0
    have hp := fine_pos h
    have p1 := cnt_bd (f := fun y => sideV (decide (x < 0)) y && (P.idx (mag y) == P.idx (mag x))) (A := B) (fun u hu => hp u (by simp [hu]))
    have p2 := cnt_bd (f := fun y => sideV (decide (x < 0)) y && (P.idx (mag y) == P.idx (mag x))) (A := C) (fun u hu => hp u (by simp [hu]))
    have p3 := h v0 (by simp)
    have hs : (sideV (decide (x < 0)) v0.1 && (P.idx (mag v0.1) == P.idx (mag x))) = true := by
      rw [e0]; unfold sideV; simp [h0]
    rw [cnt_app, cnt_cons, if_pos hs]; omega
  have key : ∀ j, 1 ≤ countP (rowV P (decide (x < 0)) A) j → ∃ v, v ∈ A ∧ v.1 ≠ 0 ∧ decide (v.1 < 0) = decide (x < 0) ∧ P.idx (mag v.1) = j := by
    intro j hj
    rw [row_count hP _ h hl] at hj
    by_cases hc : ∃ v, v ∈ A ∧ (sideV (decide (x < 0)) v.1 && (P.idx (mag v.1) == j)) = true
    · obtain ⟨v, hv, hh⟩ := hc
      simp only [Bool.and_eq_true, beq_iff_eq] at hh
      have hside := hh.1
      unfold sideV at hside
      simp only [Bool.and_eq_true, Bool.not_eq_true', beq_eq_false_iff_ne, beq_iff_eq] at hside
      exact ⟨v, hv, hside.1, hside.2, hh.2⟩
    · exfalso
      have e : cntV (fun y => sideV (decide (x < 0)) y && (P.idx (mag y) == j)) A = 0 := by
        unfold cntV
        rw [List.filter_eq_nil_iff.2 (fun v hv hh => hc ⟨v, hv, hh⟩)]; rfl
      omega
  have hne : rowV P (decide (x < 0)) A ≠ [] := ne_of_count hcx
  unfold keepS at hlost
  cases s with
  | false =>
    rw [if_neg (by decide), keep_count] at hlost
    have hend : P.idx (mag x) ≤ endP (rowV P (decide (x < 0)) A) - m := by
      by_cases hc : endP (rowV P (decide (x < 0)) A) - m < P.idx (mag x)
      · rw [if_pos hc] at hlost; omega
      · omega
    obtain ⟨v, hv, v0, vs, vi⟩ := key _ (count_end hg hne)
    refine ⟨v, hv, v0, vs, ?_⟩
    rw [if_neg (by decide)]
    by_cases hc : mag x < mag v.1
    · exact hc
    · have := pt_mono hP (mag_in (h v hv).1 v0).1 (show mag v.1 ≤ mag x by omega) m2
      omega
  | true =>
    rw [if_pos rfl, keeph_count] at hlost
    have hbeg : begP (rowV P (decide (x < 0)) A) + m ≤ P.idx (mag x) := by
      by_cases hc : P.idx (mag x) < begP (rowV P (decide (x < 0)) A) + m
      · rw [if_pos hc] at hlost; omega
      · omega
    obtain ⟨q, hq, eq⟩ := beg_mem hne
    have hcb : 1 ≤ countP (rowV P (decide (x < 0)) A) (begP (rowV P (decide (x < 0)) A)) := by rw [← eq]; exact mem_count hg hq
    obtain ⟨v, hv, v0, vs, vi⟩ := key _ hcb
    refine ⟨v, hv, v0, vs, ?_⟩
    rw [if_pos rfl]
    by_cases hc : mag v.1 < mag x
    · exact hc
    · have := pt_mono hP m1 (show mag x ≤ mag v.1 by omega) (mag_in (h v hv).1 v0).2
      omega

/-- What a sketch answers, of the t-th value; what is asked for rises with t. -/
def quanV (P : Pt) (s : Bool) (m : Int) (A : List PairV) (t : Int) : Option Int := (findSt P s (stV P s m A) t).map fun x => clampV (loV A) (hiV A) x
theorem exact_rise {A : List PairV} (h : FineV A) {t u x y : Int} (hx : exactV A t = some x) (hy : exactV A u = some y) (htu : t ≤ u) : x ≤ y := by
  obtain ⟨v, _, _, h1, h2⟩ := exact_of hx
  obtain ⟨w, _, _, h3, h4⟩ := exact_of hy
  by_cases hc : x ≤ y
  · exact hc
  · exfalso
    have : upV A y ≤ ltV A x := cnt_le (fine_pos h) fun q _ hq => by
      have := of_decide_eq_true hq
      exact decide_eq_true (by omega)
    omega
end Go.Proofs.YtojincgbnjkegaaDoor

/-
  Plain mathematics of a sketch by first digits: how close it lies, what counts as a value does, ranks: no program in sight.
-/
namespace Go.Proofs.YtojincgbnjkegaaDoor
set_option linter.unusedVariables false
set_option linter.unusedSimpArgs false

/-- What stands for a value lies close to it. -/
theorem span_near {d : Int} {L : Nat} {T : Int} (hs : SpanP d L T) {x : Int} (hx : I64 x) : nearB (standV (.spans d L T) x) x 1 T = true := by
  unfold nearB
  apply decide_eq_true
  have hT := (spanp_ten hs).1
  by_cases h0 : x = 0
  · subst h0
    have : standV (.spans d L T) 0 = 0 := by unfold standV; rw [if_pos rfl]
    rw [this]
    show (if (0 : Int) < 0 then (0 : Int) - 0 else 0 - 0) * T ≤ 1 * (if (0 : Int) < 0 then -0 else 0)
    simp
  · obtain ⟨m1, m2⟩ := mag_in hx h0
    have hL := (spanp_log hs).2
    have hrep : (Pt.spans d L T).rep ((Pt.spans d L T).idx (mag x)) = repS L (mag x) := by
      show (if 1 ≤ idxS L (mag x) ∧ idxS L (mag x) ≤ lastS L then midS (lowI L (idxS L (mag x))) (highI L (idxS L (mag x))) else 0) = _
      rw [if_pos ⟨idx_bd L m1 m2 hL, idx_last L m1 m2 hL⟩, low_idx L m1 m2 hL, high_idx L m1 m2 hL]; rfl
    obtain ⟨c1, c2, c3, c4⟩ := span_in L m1 m2 hL
    have hm := mid_in (show loS L (mag x) ≤ hiS L (mag x) by omega)
    have hr : 1 ≤ repS L (mag x) ∧ repS L (mag x) ≤ 9223372036854775808 := by unfold repS; omega
    have hc := span_close hs m1 m2
    have hg : gap (standV (.spans d L T) x) x ≤ max (repS L (mag x)) (mag x) - min (repS L (mag x)) (mag x) := by
      unfold standV; rw [if_neg h0, hrep]
      obtain ⟨x0, x1⟩ := hx
      unfold gap mag
      by_cases hn : x < 0
      · rw [if_pos hn, if_pos hn]; split <;> omega
      · rw [if_neg hn, if_neg hn]; split <;> omega
    have := Int.mul_le_mul_of_nonneg_right hg (show 0 ≤ T by omega)
    omega

/-- The magnitudes of a span. -/
theorem his_top (L : Nat) {m : Int} (h1 : 1 ≤ m) (h2 : m < 9223372036854775808) (hL : L ≤ 14) : hiS L m < 9223372036854775808 := by
  obtain ⟨a0, a1, a2, a3, a4, a5, a6⟩ := cut_facts L h1 (by omega : m ≤ 9223372036854775808) hL
  obtain ⟨b1, b2, b3, b4⟩ := len_bd h1 (by omega : m ≤ 9223372036854775808)
  have bl : Lib.bitLen m.toNat ≤ 63 := by
    by_cases c : Lib.bitLen m.toNat = 64
    · rw [c] at b3
      have e63 : (2 : Int) ^ (64 - 1) = 9223372036854775808 := by decide
      omega
    · omega
  have hk : L + 1 + cutS L m ≤ 63 := by unfold cutS; omega
  have e63 : (2 : Int) ^ 63 = 9223372036854775808 := by decide
  have hp := pow_le hk
  have hj := pow_join (L + 1) (cutS L m)
  have hpk := pow_pos (cutS L m)
  have hm := Int.mul_le_mul_of_nonneg_right (show leftS L m + 1 ≤ 2 ^ (L + 1) by omega) (show (0 : Int) ≤ 2 ^ cutS L m by omega)
  rw [Int.add_mul, Int.one_mul, hj] at hm
  have hlo : loS L m = leftS L m * 2 ^ cutS L m := rfl
  unfold hiS
  omega
theorem idx_hi (L : Nat) {m : Int} (h1 : 1 ≤ m) (h2 : m ≤ 9223372036854775808) (hL : L ≤ 14) : idxS L (hiS L m) = idxS L m := by
  obtain ⟨c1, c2, c3, c4⟩ := span_in L h1 h2 hL
  by_cases ht : m = 9223372036854775808
  · have : hiS L m = m := by omega
    rw [this]
  · have hlt := his_top L h1 (by omega) hL
    obtain ⟨n1, n2⟩ := next_span L h1 h2 hL hlt
    have g1 := idx_mono L h1 c3 (by omega : hiS L m ≤ 9223372036854775808) hL
    have g2 := idx_mono L (show 1 ≤ hiS L m by omega) (show hiS L m ≤ hiS L m + 1 by omega) (by omega) hL
    by_cases e : idxS L (hiS L m) = idxS L m
    · exact e
    · exfalso
      have e2 : idxS L (hiS L m) = idxS L (hiS L m + 1) := by omega
      have l1 := low_idx L (show 1 ≤ hiS L m by omega) c4 hL
      have l2 := low_idx L (show 1 ≤ hiS L m + 1 by omega) (by omega) hL
      have := (span_in L (show 1 ≤ hiS L m by omega) c4 hL).2.1
      rw [e2, l2] at l1
      omega
theorem idx_lo (L : Nat) {m : Int} (h1 : 1 ≤ m) (h2 : m ≤ 9223372036854775808) (hL : L ≤ 14) : idxS L (loS L m) = idxS L m := by
  have := (low_in L (idx_bd L h1 h2 hL) (idx_last L h1 h2 hL) hL).2.2
  rwa [low_idx L h1 h2 hL] at this
theorem span_iff (L : Nat) {m k : Int} (h1 : 1 ≤ m) (h2 : m ≤ 9223372036854775808) (k1 : 1 ≤ k) (k2 : k ≤ 9223372036854775808) (hL : L ≤ 14) : idxS L k = idxS L m ↔ loS L m ≤ k ∧ k ≤ hiS L m := by
  constructor
  · intro e
    have a := low_idx L h1 h2 hL
    have b := high_idx L h1 h2 hL
    have c := low_idx L k1 k2 hL
    have d := high_idx L k1 k2 hL
    obtain ⟨s1, s2, s3, s4⟩ := span_in L k1 k2 hL
    rw [← a, ← b, ← e, c, d]
    exact ⟨s2, s3⟩
  · rintro ⟨a, b⟩
    obtain ⟨s1, s2, s3, s4⟩ := span_in L h1 h2 hL
    have u := idx_mono L s1 a k2 hL
    have v := idx_mono L k1 b s4 hL
    rw [idx_lo L h1 h2 hL] at u
    rw [idx_hi L h1 h2 hL] at v
    omega

/-- The least and the greatest value that count as one does. -/
def likeL (L : Nat) (x : Int) : Int := if x = 0 then 0 else if x < 0 then -(hiS L (mag x)) else loS L (mag x)
def likeH (L : Nat) (x : Int) : Int := if x = 0 then 0 else if x < 0 then -(loS L (mag x)) else min (hiS L (mag x)) 9223372036854775807
theorem like_self {d : Int} {L : Nat} {T : Int} (hs : SpanP d L T) {x : Int} (hx : I64 x) : likeL L x ≤ x ∧ x ≤ likeH L x ∧ I64 (likeL L x) ∧ I64 (likeH L x) := by
  have hL := (spanp_log hs).2
  by_cases h0 : x = 0
  · unfold likeL likeH; rw [if_pos h0, if_pos h0]; subst h0; exact ⟨Int.le_refl _, Int.le_refl _, ⟨by decide, by decide⟩, ⟨by decide, by decide⟩⟩
  · obtain ⟨m1, m2⟩ := mag_in hx h0
    obtain ⟨c1, c2, c3, c4⟩ := span_in L m1 m2 hL
    obtain ⟨x0, x1⟩ := hx
    unfold likeL likeH I64
    rw [if_neg h0, if_neg h0]
    have hmag : mag x = if x < 0 then -x else x := rfl
    by_cases hn : x < 0
    · rw [if_pos hn] at hmag; rw [if_pos hn, if_pos hn]; omega
    · rw [if_neg hn] at hmag; rw [if_neg hn, if_neg hn]; omega
theorem like_iff {d : Int} {L : Nat} {T : Int} (hs : SpanP d L T) {x y : Int} (hx : I64 x) (hy : I64 y) : sameV (.spans d L T) x y = true ↔ likeL L x ≤ y ∧ y ≤ likeH L x := by
  have hL := (spanp_log hs).2
  have hi : ∀ z, (Pt.spans d L T).idx z = idxS L z := fun _ => rfl
  unfold sameV
  simp only [Bool.and_eq_true, Bool.or_eq_true, beq_iff_eq, hi]
  unfold likeL likeH
  by_cases h0 : x = 0
  · subst h0
    simp
    intro h
    constructor <;> intro h2 <;> omega
  · obtain ⟨m1, m2⟩ := mag_in hx h0
    have hx0 : (x == 0) = false := by simp [h0]
    rw [if_neg h0, if_neg h0, hx0]
    obtain ⟨c1, c2, c3, c4⟩ := span_in L m1 m2 hL
    have hmx : mag x = if x < 0 then -x else x := rfl
    have hmy : mag y = if y < 0 then -y else y := rfl
    by_cases y0 : y = 0
    · subst y0
      simp
      split <;> omega
    · obtain ⟨k1, k2⟩ := mag_in hy y0
      have hy0 : (y == 0) = false := by simp [y0]
      have hiff := span_iff L m1 m2 k1 k2 hL
      obtain ⟨y0', y1'⟩ := hy
      rw [hy0]
      by_cases xn : x < 0
      · rw [if_pos xn, if_pos xn]
        by_cases yn : y < 0
        · rw [if_pos yn] at hmy
          simp [xn, yn, h0]
          rw [hiff]; omega
        · simp [xn, yn]; omega
      · rw [if_neg xn, if_neg xn]
        by_cases yn : y < 0
        · simp [xn, yn]; omega
        · rw [if_neg yn] at hmy
          simp [xn, yn, h0]
          rw [hiff]; omega
/-- Ranks by what counts as a value does. -/
theorem like_ranks {d : Int} {L : Nat} {T : Int} (hs : SpanP d L T) {A : List PairV} (h : FineV A) {x : Int} (hx : I64 x) :
    cntV (fun y => decide (y < likeL L x)) A = aheadV (.spans d L T) A x ∧ upV A (likeH L x) = aheadV (.spans d L T) A x + ownV (.spans d L T) A x := by
  obtain ⟨l1, l2, _, _⟩ := like_self hs hx
  constructor
  · refine cnt_eq fun v hv => ?_
    have hi := like_iff hs hx (h v hv).1
    by_cases c : v.1 < likeL L x
    · have hns : sameV (.spans d L T) x v.1 = false := by
        cases e : sameV (.spans d L T) x v.1 with
        | false => rfl
        | true => have := hi.1 e; omega
      rw [hns]; simp [c]; omega
    · by_cases e : sameV (.spans d L T) x v.1 = true
      · rw [e]; simp; omega
      · have hns : sameV (.spans d L T) x v.1 = false := by simpa using e
        have : ¬ v.1 < x := fun hh => e (hi.2 ⟨by omega, by omega⟩)
        rw [hns]; simp [c, this]; try omega
  · refine cnt_two fun v hv => ?_
    have hi := like_iff hs hx (h v hv).1
    by_cases e : sameV (.spans d L T) x v.1 = true
    · have := hi.1 e
      rw [e]; simp; omega
    · have hns : sameV (.spans d L T) x v.1 = false := by simpa using e
      rw [hns]
      by_cases c : v.1 < x
      · simp [c]; omega
      · have : ¬ v.1 ≤ likeH L x := fun hh => e (hi.2 ⟨by omega, hh⟩)
        simp [c]; omega
end Go.Proofs.YtojincgbnjkegaaDoor

/-
  Plain mathematics of parts: greatest divisors, places, digits, texts: no program in sight.
-/
namespace Go.Proofs.YtojincgbnjkegaaDoor
set_option linter.unusedVariables false
set_option linter.unusedSimpArgs false

/-- The greatest common divisor. -/
def gcdI (a b : Int) : Int := (Nat.gcd a.toNat b.toNat : Nat)
theorem gcd_zero {a : Int} (h : 0 ≤ a) : gcdI a 0 = a := by
  unfold gcdI; simp; omega
theorem gcd_step {a b : Int} (ha : 0 ≤ a) (hb : 0 ≤ b) (h : ¬ b = 0) : gcdI b (a % b) = gcdI a b := by
  obtain ⟨m, rfl⟩ := Int.eq_ofNat_of_zero_le ha
  obtain ⟨n, rfl⟩ := Int.eq_ofNat_of_zero_le hb
  unfold gcdI
  rw [← Int.natCast_emod]
  simp only [Int.toNat_natCast]
  rw [Nat.gcd_comm n, ← Nat.gcd_rec, Nat.gcd_comm]
theorem gcd_word {a b : Int} (wa : Word a) (wb : Word b) : Word (gcdI a b) := by
  obtain ⟨a0, a1⟩ := wa; obtain ⟨b0, b1⟩ := wb
  obtain ⟨m, rfl⟩ := Int.eq_ofNat_of_zero_le a0
  obtain ⟨n, rfl⟩ := Int.eq_ofNat_of_zero_le b0
  unfold gcdI Word
  simp only [Int.toNat_natCast]
  refine ⟨by omega, ?_⟩
  rcases Nat.eq_zero_or_pos n with h | h
  · subst h; simp; omega
  · have := Nat.gcd_le_right m h; omega
theorem gcd_none {a b : Int} (ha : 0 ≤ a) (hb : 0 ≤ b) : gcdI a b = 0 ↔ a = 0 ∧ b = 0 := by
  unfold gcdI
  rw [Int.natCast_eq_zero, Nat.gcd_eq_zero_iff]; omega
theorem gcd_fst {a b : Int} (ha : 0 ≤ a) : ∃ q, 0 ≤ q ∧ a = q * gcdI a b := by
  obtain ⟨m, rfl⟩ := Int.eq_ofNat_of_zero_le ha
  obtain ⟨q, h⟩ := Nat.gcd_dvd_left m b.toNat
  refine ⟨q, by omega, ?_⟩
  unfold gcdI
  simp only [Int.toNat_natCast]
  rw [Int.mul_comm, ← Int.natCast_mul, ← h]
theorem gcd_snd {a b : Int} (hb : 0 ≤ b) : ∃ q, 0 ≤ q ∧ b = q * gcdI a b := by
  obtain ⟨m, rfl⟩ := Int.eq_ofNat_of_zero_le hb
  obtain ⟨q, h⟩ := Nat.gcd_dvd_right a.toNat m
  refine ⟨q, by omega, ?_⟩
  unfold gcdI
  simp only [Int.toNat_natCast]
  rw [Int.mul_comm, ← Int.natCast_mul, ← h]
/-- Whatever divides both divides it. -/
theorem gcd_all {a b k : Int} (ha : 0 ≤ a) (hb : 0 ≤ b) (hk : 0 ≤ k) (h1 : a % k = 0) (h2 : b % k = 0) : gcdI a b % k = 0 := by
  obtain ⟨m, rfl⟩ := Int.eq_ofNat_of_zero_le ha
  obtain ⟨n, rfl⟩ := Int.eq_ofNat_of_zero_le hb
  obtain ⟨j, rfl⟩ := Int.eq_ofNat_of_zero_le hk
  unfold gcdI
  simp only [Int.toNat_natCast]
  rw [← Int.natCast_emod, Int.natCast_eq_zero] at h1 h2 ⊢
  exact Nat.mod_eq_zero_of_dvd (Nat.dvd_gcd (Nat.dvd_of_mod_eq_zero h1) (Nat.dvd_of_mod_eq_zero h2))
/-- The numbers that are left have no divisor in common. -/
theorem gcd_left {a b : Int} (ha : 0 ≤ a) (hb : 0 ≤ b) (h : ¬ gcdI a b = 0) : gcdI (a / gcdI a b) (b / gcdI a b) = 1 := by
  obtain ⟨m, rfl⟩ := Int.eq_ofNat_of_zero_le ha
  obtain ⟨n, rfl⟩ := Int.eq_ofNat_of_zero_le hb
  unfold gcdI at *
  simp only [Int.toNat_natCast] at *
  rw [← Int.natCast_ediv, ← Int.natCast_ediv]
  simp only [Int.toNat_natCast]
  have hp : 0 < Nat.gcd m n := by omega
  rw [Nat.gcd_div (Nat.gcd_dvd_left m n) (Nat.gcd_dvd_right m n), Nat.div_self hp]
  rfl
theorem div_exact {a b : Int} {g : Int} (hg : g = gcdI a b) (ha : 0 ≤ a) (h : ¬ g = 0) : a / g * g = a ∧ a % g = 0 := by
  subst hg
  obtain ⟨q, q0, e⟩ := gcd_fst (b := b) ha
  generalize gcdI a b = g at *
  subst e
  exact ⟨by rw [Int.mul_ediv_cancel _ h], by simp⟩
theorem div_exact2 {a b : Int} {g : Int} (hg : g = gcdI a b) (hb : 0 ≤ b) (h : ¬ g = 0) : b / g * g = b ∧ b % g = 0 := by
  subst hg
  obtain ⟨q, q0, e⟩ := gcd_snd (a := a) hb
  generalize gcdI a b = g at *
  subst e
  exact ⟨by rw [Int.mul_ediv_cancel _ h], by simp⟩

/-- Whether a part can be. -/
def gdB (a b : Int) : Bool := (b != 0) && decide (a ≤ b)
theorem gd_iff {a b : Int} : gdB a b = true ↔ ¬ b = 0 ∧ a ≤ b := by
  unfold gdB; simp

/-- A digit. -/
def digB (b : UInt8) : Bool := decide (48 ≤ b.toNat) && decide (b.toNat ≤ 57)
/-- The number that digits tell. -/
def valN : List UInt8 → Int → Int
  | [], n => n
  | b :: l, n => valN l (10 * n + ((b.toNat : Int) - 48))
theorem valN_app (l m : List UInt8) (n : Int) : valN (l ++ m) n = valN m (valN l n) := by
  induction l generalizing n with
  | nil => rfl
  | cons b l ih => simp only [List.cons_append, valN, ih]
theorem valN_take {l : List UInt8} {k : Nat} {x : UInt8} (h : l[k]? = some x) : valN (l.take (k + 1)) 0 = 10 * valN (l.take k) 0 + ((x.toNat : Int) - 48) := by
  have hk : k < l.length := by
    rcases Nat.lt_or_ge k l.length with h' | h'
    · exact h'
    · rw [List.getElem?_eq_none h'] at h; cases h
  rw [List.take_succ_eq_append_getElem hk, valN_app]
  have : l[k] = x := by rw [List.getElem?_eq_getElem hk] at h; exact Option.some.inj h
  rw [this]; simp [valN]
theorem all_take {l : List UInt8} {k : Nat} {x : UInt8} (h : l[k]? = some x) : (l.take (k + 1)).all digB = ((l.take k).all digB && digB x) := by
  have hk : k < l.length := by
    rcases Nat.lt_or_ge k l.length with h' | h'
    · exact h'
    · rw [List.getElem?_eq_none h'] at h; cases h
  rw [List.take_succ_eq_append_getElem hk, List.all_append]
  have : l[k] = x := by rw [List.getElem?_eq_getElem hk] at h; exact Option.some.inj h
  rw [this]; simp
theorem all_not {l : List UInt8} {k : Nat} {x : UInt8} (h : l[k]? = some x) (hx : digB x = false) : l.all digB = false := by
  rw [List.all_eq_false]
  exact ⟨x, List.mem_of_getElem? h, by simp [hx]⟩
/-- So many digits tell no more than so much. -/
theorem valN_bd {l : List UInt8} (h : l.all digB = true) : 0 ≤ valN l 0 ∧ valN l 0 < (10 : Int) ^ l.length := by
  have key : ∀ (l : List UInt8) (n : Int), l.all digB = true → 0 ≤ n → n * 10 ^ l.length ≤ valN l n ∧ valN l n < (n + 1) * (10 : Int) ^ l.length := by
    intro l
    induction l with
    | nil => intro n _ h0; simp [valN]; omega
    | cons b l ih =>
      intro n h h0
      simp only [List.all_cons, Bool.and_eq_true] at h
      obtain ⟨hb, hl⟩ := h
      unfold digB at hb
      simp only [Bool.and_eq_true, decide_eq_true_eq] at hb
      have h1 := ih (10 * n + ((b.toNat : Int) - 48)) hl (by omega)
      simp only [valN, List.length_cons]
      have p : (0 : Int) < 10 ^ l.length := Int.pow_pos (by omega)
      have e : (10 : Int) ^ (l.length + 1) = 10 * 10 ^ l.length := by rw [Int.pow_succ, Int.mul_comm]
      rw [e]
      generalize (10 : Int) ^ l.length = P at *
      have e1 : n * (10 * P) ≤ (10 * n + ((b.toNat : Int) - 48)) * P := by
        have : n * (10 * P) = (10 * n) * P := by rw [← Int.mul_assoc, Int.mul_comm n 10]
        rw [this]
        exact Int.mul_le_mul_of_nonneg_right (by omega) (by omega)
      have e2 : (10 * n + ((b.toNat : Int) - 48) + 1) * P ≤ (n + 1) * (10 * P) := by
        have : (n + 1) * (10 * P) = (10 * n + 10) * P := by
          rw [← Int.mul_assoc]; congr 1; omega
        rw [this]
        exact Int.mul_le_mul_of_nonneg_right (by omega) (by omega)
      omega
  have h2 := key l 0 h (by omega)
  simp at h2
  omega
theorem valN_small {l : List UInt8} {k : Nat} (h : (l.take k).all digB = true) (hk : k ≤ 18) : 0 ≤ valN (l.take k) 0 ∧ valN (l.take k) 0 < 1000000000000000000 := by
  have h1 := valN_bd h
  refine ⟨h1.1, Int.lt_of_lt_of_le h1.2 ?_⟩
  have h2 : (l.take k).length ≤ 18 := by rw [List.length_take]; omega
  have h3 : (10 : Int) ^ (l.take k).length ≤ 10 ^ 18 := by
    have := Nat.pow_le_pow_right (show 0 < 10 by omega) h2
    exact_mod_cast this
  simpa using h3

/-- Whether a text is a number's; the number. -/
def numH (l : List UInt8) : Bool := (l.length == 0) || decide (18 < l.length) || (decide (1 < l.length) && (l.getD 0 0 == 48))
def numO (l : List UInt8) : Bool := !numH l && l.all digB
def numV (l : List UInt8) : Int := if numO l = true then valN l 0 else 0
theorem num_head {l : List UInt8} (h : numH l = true) : numO l = false ∧ numV l = 0 := by
  have e : numO l = false := by unfold numO; rw [h]; rfl
  exact ⟨e, by unfold numV; rw [e]; rfl⟩
theorem num_not {l : List UInt8} (h : l.all digB = false) : numO l = false ∧ numV l = 0 := by
  have e : numO l = false := by unfold numO; rw [h]; simp
  exact ⟨e, by unfold numV; rw [e]; rfl⟩
theorem num_all {l : List UInt8} (h : numH l = false) (h' : l.all digB = true) : numO l = true ∧ numV l = valN l 0 := by
  have e : numO l = true := by unfold numO; rw [h, h']; rfl
  exact ⟨e, by unfold numV; rw [if_pos e]⟩
theorem num_len {l : List UInt8} (h : numH l = false) : 1 ≤ l.length ∧ l.length ≤ 18 := by
  unfold numH at h
  simp only [Bool.or_eq_false_iff, beq_eq_false_iff_ne, decide_eq_false_iff_not] at h
  omega
theorem num_word (l : List UInt8) : Word (numV l) := by
  unfold numV
  split
  · rename_i h
    unfold numO at h
    simp only [Bool.and_eq_true, Bool.not_eq_true'] at h
    have h1 := valN_small (l := l) (k := l.length) (by rw [List.take_length]; exact h.2) (num_len h.1).2
    rw [List.take_length] at h1
    exact ⟨h1.1, by omega⟩
  · exact ⟨by omega, by omega⟩
end Go.Proofs.YtojincgbnjkegaaDoor

/-
  Walks: share.Good and its reference, share.Divisor, share.Least.
-/
namespace Go.Proofs.YtojincgbnjkegaaDoor
set_option linter.unusedVariables false
set_option linter.unusedSimpArgs false
open Go.RowKit

theorem ret_pair3 {k : IntKind} {a b : Int} {c d : Bool} (h : a = b) (h' : c = d) : Ending.returned (.tuple #[.int k a, .bool c]) = .returned (.tuple #[.int k b, .bool d]) := by rw [h, h']

set_option maxHeartbeats 400000 in
theorem good_any (a b : Int) (wa : Word a) (wb : Word b) (w : World) :
    Calls Tryd.prog 61 #[.agg #[.int .u64 a, .int .u64 b]] w fun e w' =>
      e = .returned (.bool (gdB a b)) ∧ Below w.heap.size w w' := by
  by_cases h : b = 0
  · subst h
    have E : Hid (false = gdB a 0) := Lib.hid rfl
    go_enter Tryd.func61, Tryd.ntmps61
    go_wp2_with fail
    go_ret
    exact ⟨ret_bool E.out, (Below.refl _ _).alloc (Nat.le_refl _) _⟩
  · have hb0 : (b != 0) = true := by simp [h]
    have hb1 : (!b == 0) = true := by simp [h]
    have E : Hid (decide (a ≤ b) = gdB a b) := Lib.hid (by unfold gdB; simp [h])
    go_enter Tryd.func61, Tryd.ntmps61
    go_wp2_with fail
    go_ret
    exact ⟨ret_bool E.out, (Below.refl _ _).alloc (Nat.le_refl _) _⟩

set_option maxHeartbeats 400000 in
theorem rgood_any (a b : Int) (wa : Word a) (wb : Word b) (w : World) :
    Calls Tryd.prog 16 #[.agg #[.int .u64 a, .int .u64 b]] w fun e w' =>
      e = .returned (.bool (gdB a b)) ∧ Below w.heap.size w w' := by
  by_cases h : b = 0
  · subst h
    have E : Hid (false = gdB a 0) := Lib.hid rfl
    go_enter Tryd.func16, Tryd.ntmps16
    go_wp2_with fail
    go_ret
    exact ⟨ret_bool E.out, (Below.refl _ _).alloc (Nat.le_refl _) _⟩
  · have hb0 : (b != 0) = true := by simp [h]
    have hb1 : (!b == 0) = true := by simp [h]
    have E : Hid ((!decide (b < a)) = gdB a b) := Lib.hid (by unfold gdB; rw [hb0, Bool.true_and, Bool.eq_iff_iff]; simp)
    go_enter Tryd.func16, Tryd.ntmps16
    go_wp2_with fail
    go_ret
    exact ⟨ret_bool E.out, (Below.refl _ _).alloc (Nat.le_refl _) _⟩

theorem mod_word {a b : Int} (wa : Word a) (wb : Word b) (h : ¬ b = 0) : Word (a % b) ∧ a % b < b := by
  obtain ⟨a0, a1⟩ := wa; obtain ⟨b0, b1⟩ := wb
  have h1 := Int.emod_nonneg a h
  have h2 := Int.emod_lt_of_pos a (show 0 < b by omega)
  exact ⟨⟨h1, by omega⟩, h2⟩
theorem div_u64 {a g : Int} (wa : Word a) (wg : Word g) : IntKind.u64.wrap (a.tdiv g) = a / g := by
  rw [Int.tdiv_eq_ediv_of_nonneg wa.1, IntKind.wrap_u64]
  have h1 := Int.ediv_nonneg wa.1 wg.1
  have h2 := Int.ediv_le_self g wa.1
  have := wa.2
  exact Int.emod_eq_of_lt h1 (by omega)
def intU : Value → Nat | .int _ q => q.toNat | _ => 0

end Go.Proofs.YtojincgbnjkegaaDoor
/-
  Walks: share.Place and the reference's; what places are.
-/
namespace Go.Proofs.YtojincgbnjkegaaDoor
set_option linter.unusedVariables false
set_option linter.unusedSimpArgs false
open Go.RowKit

/-- The place that a part asks for, of so many; the error's number. -/
def plV (a b n : Int) : Int := if gdB a b = true ∧ ¬ n = 0 then (if clQ (a * n) b < 1 then 1 else clQ (a * n) b) else 0
def plE (a b n : Int) : Int := if gdB a b = true then (if n = 0 then 5 else 0) else 1
theorem pl_bad {a b n : Int} (h : gdB a b = false) : plV a b n = 0 ∧ plE a b n = 1 := by
  unfold plV plE; rw [h]; simp
theorem pl_none {a b : Int} (h : gdB a b = true) : plV a b 0 = 0 ∧ plE a b 0 = 5 := by
  unfold plV plE; rw [h]; simp
theorem pl_good {a b n : Int} (h : gdB a b = true) (hn : ¬ n = 0) : plV a b n = (if clQ (a * n) b < 1 then 1 else clQ (a * n) b) ∧ plE a b n = 0 := by
  unfold plV plE; rw [h]; simp [hn]

/-- Rounded up, of a part that can be. -/
theorem cl_spec {a b n : Int} (wa : Word a) (wb : Word b) (wn : Word n) (h : gdB a b = true) :
    a * n ≤ clQ (a * n) b * b ∧ (clQ (a * n) b - 1) * b < a * n ∧ 0 ≤ clQ (a * n) b ∧ clQ (a * n) b ≤ n := by
  obtain ⟨hb, hab⟩ := gd_iff.1 h
  obtain ⟨a0, a1⟩ := wa; obtain ⟨b0, b1⟩ := wb; obtain ⟨n0, n1⟩ := wn
  have bp : 0 < b := by omega
  have N0 : 0 ≤ a * n := Int.mul_nonneg a0 n0
  have hle : a * n ≤ n * b := by rw [Int.mul_comm n b]; exact Int.mul_le_mul_of_nonneg_right hab n0
  have hd := Int.ediv_mul_add_emod (a * n) b
  have hr0 := Int.emod_nonneg (a * n) hb
  have hr1 := Int.emod_lt_of_pos (a * n) bp
  have hq0 := Int.ediv_nonneg N0 (show 0 ≤ b by omega)
  have hqn : a * n / b ≤ n := Int.ediv_le_of_le_mul bp hle
  have hov : ovB (a * n) b = true := by unfold ovB; apply decide_eq_true; exact ⟨bp, by omega⟩
  have eQ : ovQ (a * n) b = a * n / b := by unfold ovQ; rw [if_pos hov]
  have eR : ovR (a * n) b = a * n % b := by unfold ovR; rw [if_pos hov]
  by_cases hz : a * n % b = 0
  · have e : clQ (a * n) b = a * n / b := by rw [(cl_zero (by rw [eR]; exact hz)).2, eQ]
    rw [e]
    generalize a * n / b = q at *
    generalize a * n % b = r at *
    rw [Int.sub_mul]
    omega
  · have hlt : a * n / b < n := by
      rcases Int.lt_or_eq_of_le hqn with h1 | h1
      · exact h1
      · rw [h1] at hd; omega
    have e : clQ (a * n) b = a * n / b + 1 := by
      rw [(cl_up hov (by rw [eR]; omega) (by rw [eQ]; omega)).2, eQ]
    rw [e]
    generalize a * n / b = q at *
    generalize a * n % b = r at *
    rw [Int.sub_mul, Int.add_mul]
    omega

/-- Places are from 1 to n. -/
theorem pl_spec {a b n : Int} (wa : Word a) (wb : Word b) (wn : Word n) (h : gdB a b = true) (hn : ¬ n = 0) :
    1 ≤ plV a b n ∧ plV a b n ≤ n ∧ a * n ≤ plV a b n * b ∧ (plV a b n = 1 ∨ (plV a b n - 1) * b < a * n) := by
  obtain ⟨h1, h2, h3, h4⟩ := cl_spec wa wb wn h
  obtain ⟨hb, hab⟩ := gd_iff.1 h
  rw [(pl_good h hn).1]
  have n0 := wn.1
  have bp : 0 < b := by have := wb.1; omega
  generalize clQ (a * n) b = c at *
  split
  · rename_i hc
    have : c = 0 := by omega
    subst this
    refine ⟨by omega, by omega, by omega, Or.inl rfl⟩
  · exact ⟨by omega, h4, h1, Or.inr h2⟩
theorem pl_word {a b n : Int} (wa : Word a) (wb : Word b) (wn : Word n) : Word (plV a b n) := by
  by_cases h : gdB a b = true ∧ ¬ n = 0
  · have := pl_spec wa wb wn h.1 h.2
    exact ⟨by omega, by have := wn.2; omega⟩
  · unfold plV; rw [if_neg h]; exact ⟨by omega, by omega⟩
/-- The whole asks for the last one. -/
theorem pl_whole {a b n : Int} (wb : Word b) (wn : Word n) (h : gdB a b = true) (hn : ¬ n = 0) : plV b b n = n := by
  obtain ⟨hb, hab⟩ := gd_iff.1 h
  have hg : gdB b b = true := gd_iff.2 ⟨hb, Int.le_refl _⟩
  obtain ⟨h1, h2, h3, h4⟩ := pl_spec wb wb wn hg hn
  have bp : 0 < b := by have := wb.1; omega
  rw [Int.mul_comm b n] at h3
  have := Int.le_of_mul_le_mul_right h3 bp
  omega
/-- They rise with the part. -/
theorem pl_rise {a b c d n : Int} (wa : Word a) (wb : Word b) (wc : Word c) (wd : Word d) (wn : Word n) (h : gdB a b = true) (h' : gdB c d = true) (hn : ¬ n = 0) (hlt : plV a b n < plV c d n) : fewB a b c d = true := by
  obtain ⟨hb, hab⟩ := gd_iff.1 h
  obtain ⟨hd, hcd⟩ := gd_iff.1 h'
  obtain ⟨p1, p2, p3, p4⟩ := pl_spec wa wb wn h hn
  obtain ⟨q1, q2, q3, q4⟩ := pl_spec wc wd wn h' hn
  have bp : 0 < b := by have := wb.1; omega
  have dp : 0 < d := by have := wd.1; omega
  have np : 0 < n := by have := wn.1; omega
  have q5 : (plV c d n - 1) * d < c * n := by
    rcases q4 with q4 | q4
    · omega
    · exact q4
  rw [few_c hb hd]
  apply decide_eq_true
  generalize plV a b n = t at *
  generalize plV c d n = u at *
  have e1 : a * n * d ≤ t * b * d := Int.mul_le_mul_of_nonneg_right p3 (by omega)
  have e2 : t * (b * d) ≤ (u - 1) * (b * d) := Int.mul_le_mul_of_nonneg_right (by omega) (Int.mul_nonneg (by omega) (by omega))
  have e3 : (u - 1) * d * b < c * n * b := Int.mul_lt_mul_of_pos_right q5 bp
  have e4 : a * d * n < c * b * n := by
    have x1 : a * n * d = a * d * n := by rw [Int.mul_assoc, Int.mul_comm n, ← Int.mul_assoc]
    have x2 : t * b * d = t * (b * d) := Int.mul_assoc ..
    have x3 : (u - 1) * d * b = (u - 1) * (b * d) := by rw [Int.mul_assoc, Int.mul_comm d]
    have x4 : c * n * b = c * b * n := by rw [Int.mul_assoc, Int.mul_comm n, ← Int.mul_assoc]
    omega
  exact Int.lt_of_mul_lt_mul_right e4 (by omega)
/-- Fewer than the part of all lie ahead of the place. -/
theorem pl_ahead {a b n : Int} (wa : Word a) (wb : Word b) (wn : Word n) (h : gdB a b = true) (hn : ¬ n = 0) (ht : ¬ plV a b n = 1) : fewB (plV a b n - 1) n a b = true := by
  obtain ⟨hb, hab⟩ := gd_iff.1 h
  obtain ⟨p1, p2, p3, p4⟩ := pl_spec wa wb wn h hn
  rw [few_c hn hb]
  apply decide_eq_true
  rcases p4 with p4 | p4
  · omega
  · exact p4
theorem pl_upto {a b n : Int} (wa : Word a) (wb : Word b) (wn : Word n) (h : gdB a b = true) (hn : ¬ n = 0) : fewB (plV a b n) n a b = false := by
  obtain ⟨hb, hab⟩ := gd_iff.1 h
  obtain ⟨p1, p2, p3, p4⟩ := pl_spec wa wb wn h hn
  rw [few_c hn hb]
  apply decide_eq_false
  omega
/-- The same part in its least numbers asks for the same place. -/
theorem cl_least {a b n g : Int} (wa : Word a) (wb : Word b) (wn : Word n) (hg : g = gcdI a b) (h : gdB a b = true) : gdB (a / g) (b / g) = true ∧ plV (a / g) (b / g) n = plV a b n ∧ plE (a / g) (b / g) n = plE a b n := by
  obtain ⟨hb, hab⟩ := gd_iff.1 h
  have hg0 : ¬ g = 0 := by
    intro e; rw [hg] at e
    exact hb ((gcd_none wa.1 wb.1).1 e).2
  have gw := gcd_word wa wb
  rw [← hg] at gw
  have gp : 0 < g := by have := gw.1; omega
  have e1 := (div_exact hg wa.1 hg0).1
  have e2 := (div_exact2 hg wb.1 hg0).1
  have w1 : Word (a / g) := ⟨Int.ediv_nonneg wa.1 gw.1, by have := Int.ediv_le_self g wa.1; have := wa.2; omega⟩
  have w2 : Word (b / g) := ⟨Int.ediv_nonneg wb.1 gw.1, by have := Int.ediv_le_self g wb.1; have := wb.2; omega⟩
  have hG : gdB (a / g) (b / g) = true := by
    refine gd_iff.2 ⟨?_, Int.ediv_le_ediv gp hab⟩
    intro e; rw [e] at e2; omega
  refine ⟨hG, ?_, ?_⟩
  · by_cases hn : n = 0
    · subst hn; rw [(pl_none hG).1, (pl_none h).1]
    · have c1 := cl_spec wa wb wn h
      have c2 := cl_spec w1 w2 wn hG
      have E : clQ (a / g * n) (b / g) = clQ (a * n) b := by
        obtain ⟨x1, x2, x3, x4⟩ := c1
        obtain ⟨y1, y2, y3, y4⟩ := c2
        generalize clQ (a / g * n) (b / g) = u at *
        generalize clQ (a * n) b = t at *
        have f1 : a / g * n * g = a * n := by rw [Int.mul_assoc, Int.mul_comm n, ← Int.mul_assoc, e1]
        have f2 : u * (b / g) * g = u * b := by rw [Int.mul_assoc, e2]
        have f3 : (u - 1) * (b / g) * g = (u - 1) * b := by rw [Int.mul_assoc, e2]
        have z1 := Int.mul_le_mul_of_nonneg_right y1 (show 0 ≤ g by omega)
        have z2 := Int.mul_lt_mul_of_pos_right y2 gp
        rw [f1, f2] at z1
        rw [f1, f3] at z2
        have bp : 0 < b := by have := wb.1; omega
        have k1 : u - 1 < t := Int.lt_of_mul_lt_mul_right (show (u - 1) * b < t * b by omega) (by omega)
        have k2 : t - 1 < u := Int.lt_of_mul_lt_mul_right (show (t - 1) * b < u * b by omega) (by omega)
        omega
      rw [(pl_good hG hn).1, (pl_good h hn).1, E]
  · unfold plE; rw [hG, h]

theorem ret_place {x y a b : Int} (h : a = x) (h' : b = y) : Ending.returned (.tuple #[.int .u64 a, .int .i64 b]) = .returned (.tuple #[.int .u64 x, .int .i64 y]) := by rw [h, h']

set_option maxHeartbeats 1000000 in
theorem place_any (a b n : Int) (wa : Word a) (wb : Word b) (wn : Word n) (w : World) :
    Calls Tryd.prog 34 #[.agg #[.int .u64 a, .int .u64 b], .int .u64 n] w fun e w' =>
      e = .returned (.tuple #[.int .u64 (plV a b n), .int .i64 (plE a b n)]) ∧ Below w.heap.size w w' := by
  cases hg : gdB a b with
  | false =>
    have E := Lib.hid (pl_bad (n := n) hg)
    have G := Lib.hid hg
    clear hg
    go_enter Tryd.func34, Tryd.ntmps34
    go_wp2_with fail
    refine (good_any a b wa wb _).mono ?_
    rw [G.out]
    rintro e wA ⟨rfl, hbA⟩
    go_wp2_with fail
    go_ret2
    exact ⟨ret_place E.out.1.symm E.out.2.symm, ((Below.refl _ _).alloc (Nat.le_refl _) _).trans (hbA.mono (by simp))⟩
  | true =>
    by_cases hn : n = 0
    · subst hn
      have E := Lib.hid (pl_none hg)
      have G := Lib.hid hg
      clear hg
      go_enter Tryd.func34, Tryd.ntmps34
      go_wp2_with fail
      refine (good_any a b wa wb _).mono ?_
      rw [G.out]
      rintro e wA ⟨rfl, hbA⟩
      go_wp2_with fail
      go_ret2
      exact ⟨ret_place E.out.1.symm E.out.2.symm, ((Below.refl _ _).alloc (Nat.le_refl _) _).trans (hbA.mono (by simp))⟩
    · have E := Lib.hid (pl_good hg hn)
      have hn0 : (n == 0) = false := by simp [hn]
      have G := Lib.hid hg
      have c0 := (cl_spec wa wb wn hg).2.2.1
      clear hg hn
      go_enter Tryd.func34, Tryd.ntmps34
      go_wp2_with fail
      have c1 : (w.alloc (.cells #[.int .u64 a, .int .u64 b] 25)).cell? ⟨w.heap.size, 0, none⟩ = some (.int .u64 a) := by go_simp
      have c2 : (w.alloc (.cells #[.int .u64 a, .int .u64 b] 25)).cell? ⟨w.heap.size, 1, none⟩ = some (.int .u64 b) := by go_simp
      refine (good_any a b wa wb _).mono ?_
      rw [G.out]
      rintro e wA ⟨rfl, hbA⟩
      have d1 := cell_later hbA c1
      have d2 := cell_later hbA c2
      have hBA := ((Below.refl _ _).alloc (Nat.le_refl _) _).trans (hbA.mono (by simp))
      clear c1 c2 hbA
      go_wp2_with fail
      refine (ceil_any a n b wa wn wb _).mono ?_
      rintro e wB ⟨rfl, hbB⟩
      generalize clQ (a * n) b = c at *
      go_wp2_with fail
      go_ret2
      refine ⟨ret_place ?_ E.out.2.symm, hBA.trans (hbB.mono hBA.size)⟩
      rw [E.out.1]
      split <;> omega

set_option maxHeartbeats 1000000 in
theorem rplace_any (a b n : Int) (wa : Word a) (wb : Word b) (wn : Word n) (w : World) :
    Calls Tryd.prog 17 #[.agg #[.int .u64 a, .int .u64 b], .int .u64 n] w fun e w' =>
      e = .returned (.tuple #[.int .u64 (plV a b n), .int .i64 (plE a b n)]) ∧ Below w.heap.size w w' := by
  cases hg : gdB a b with
  | false =>
    have E := Lib.hid (pl_bad (n := n) hg)
    have G := Lib.hid hg
    clear hg
    go_enter Tryd.func17, Tryd.ntmps17
    go_wp2_with fail
    refine (rgood_any a b wa wb _).mono ?_
    rw [G.out]
    rintro e wA ⟨rfl, hbA⟩
    go_wp2_with fail
    go_ret2
    exact ⟨ret_place E.out.1.symm E.out.2.symm, ((Below.refl _ _).alloc (Nat.le_refl _) _).trans (hbA.mono (by simp))⟩
  | true =>
    by_cases hn : n = 0
    · subst hn
      have E := Lib.hid (pl_none hg)
      have G := Lib.hid hg
      clear hg
      go_enter Tryd.func17, Tryd.ntmps17
      go_wp2_with fail
      refine (rgood_any a b wa wb _).mono ?_
      rw [G.out]
      rintro e wA ⟨rfl, hbA⟩
      go_wp2_with fail
      go_ret2
      exact ⟨ret_place E.out.1.symm E.out.2.symm, ((Below.refl _ _).alloc (Nat.le_refl _) _).trans (hbA.mono (by simp))⟩
    · have E := Lib.hid (pl_good hg hn)
      have hn0 : (n == 0) = false := by simp [hn]
      have G := Lib.hid hg
      have c0 := (cl_spec wa wb wn hg).2.2.1
      clear hg hn
      go_enter Tryd.func17, Tryd.ntmps17
      go_wp2_with fail
      have c1 : (w.alloc (.cells #[.int .u64 a, .int .u64 b] 25)).cell? ⟨w.heap.size, 0, none⟩ = some (.int .u64 a) := by go_simp
      have c2 : (w.alloc (.cells #[.int .u64 a, .int .u64 b] 25)).cell? ⟨w.heap.size, 1, none⟩ = some (.int .u64 b) := by go_simp
      refine (rgood_any a b wa wb _).mono ?_
      rw [G.out]
      rintro e wA ⟨rfl, hbA⟩
      have d1 := cell_later hbA c1
      have d2 := cell_later hbA c2
      have hBA := ((Below.refl _ _).alloc (Nat.le_refl _) _).trans (hbA.mono (by simp))
      clear c1 c2 hbA
      go_wp2_with fail
      refine (rceil_any a n b wa wn wb _).mono ?_
      rintro e wB ⟨rfl, hbB⟩
      generalize clQ (a * n) b = c at *
      by_cases hc : c = 0
      · subst hc
        go_wp2_with fail
        go_ret2
        exact ⟨ret_place (by rw [E.out.1]; rfl) E.out.2.symm, hBA.trans (hbB.mono hBA.size)⟩
      · have hc0 : (c == 0) = false := by simp [hc]
        go_wp2_with fail
        go_ret2
        exact ⟨ret_place (by rw [E.out.1, if_neg (by omega)]) E.out.2.symm, hBA.trans (hbB.mono hBA.size)⟩
end Go.Proofs.YtojincgbnjkegaaDoor

/-
  Plain mathematics of a sketch by first digits, where nothing is lost: its rows are all rows, it always answers, close by, and its ranks are those of the document: no program in sight.
-/
namespace Go.Proofs.YtojincgbnjkegaaDoor
set_option linter.unusedVariables false
set_option linter.unusedSimpArgs false

/-- All parts of a row of spans are spans. -/
theorem row_in {d : Int} {L : Nat} {T : Int} (hs : SpanP d L T) (b : Bool) {A : List PairV} (h : FineV A) (hl : A.length ≤ 1000) : ∀ p, p ∈ rowV (.spans d L T) b A → 1 ≤ p.1 ∧ p.1 ≤ lastS L := by
  intro p hp
  have hP : (Pt.spans d L T).ok := hs
  have hL := (spanp_log hs).2
  have S := row_sum50 hP b h hl
  have h1 := mem_count S.good hp
  rw [row_count hP b h hl] at h1
  have : ∃ v, v ∈ A ∧ (sideV b v.1 && ((Pt.spans d L T).idx (mag v.1) == p.1)) = true := by
    by_cases hc : ∃ v, v ∈ A ∧ (sideV b v.1 && ((Pt.spans d L T).idx (mag v.1) == p.1)) = true
    · exact hc
    · exfalso
      have e : cntV (fun x => sideV b x && ((Pt.spans d L T).idx (mag x) == p.1)) A = 0 := by
        unfold cntV
        rw [List.filter_eq_nil_iff.2 (fun v hv hh => hc ⟨v, hv, hh⟩)]; rfl
      omega
  obtain ⟨v, hv, hh⟩ := this
  simp only [Bool.and_eq_true, beq_iff_eq] at hh
  have h0 : v.1 ≠ 0 := by
    intro e
    have := hh.1
    unfold sideV at this; rw [e] at this; simp at this
  obtain ⟨m1, m2⟩ := mag_in (h v hv).1 h0
  have e : idxS L (mag v.1) = p.1 := hh.2
  rw [← e]
  exact ⟨idx_bd L m1 m2 hL, idx_last L m1 m2 hL⟩

/-- A row whose indexes lie in less than so many is kept whole. -/
theorem keeps_whole {s : Bool} {m : Int} {K : List PairV} (h : ∀ p, p ∈ K → 1 ≤ p.1 ∧ p.1 ≤ m) : keepS s m K = K := by
  by_cases hK : K = []
  · subst hK; exact keeps_nil s m
  unfold keepS
  split
  · obtain ⟨q, hq, e⟩ := beg_mem hK
    unfold keepH lowP
    refine List.filter_eq_self.2 fun p hp => ?_
    have := h p hp; have := h q hq
    exact decide_eq_true (by omega)
  · obtain ⟨q, hq, e⟩ := end_mem hK
    unfold keepP highP
    refine List.filter_eq_self.2 fun p hp => ?_
    have := h p hp; have := h q hq
    exact decide_eq_true (by omega)

/-- Bins that lose nothing. -/
theorem stv_whole {d : Int} {L : Nat} {T : Int} (hs : SpanP d L T) (s : Bool) {m : Int} (hm : lastS L ≤ m) {A : List PairV} (h : FineV A) (hl : A.length ≤ 1000) :
    stV (.spans d L T) s m A = ⟨rowV (.spans d L T) true A, sumP (rowV (.spans d L T) true A), rowV (.spans d L T) false A, sumP (rowV (.spans d L T) false A), zeroV A⟩ := by
  unfold stV
  rw [keeps_whole fun p hp => ⟨(row_in hs true h hl p hp).1, Int.le_trans (row_in hs true h hl p hp).2 hm⟩, keeps_whole fun p hp => ⟨(row_in hs false h hl p hp).1, Int.le_trans (row_in hs false h hl p hp).2 hm⟩]

/-- The value that is asked for is never lost. -/
theorem ask_whole {d : Int} {L : Nat} {T : Int} (hs : SpanP d L T) (s : Bool) {m : Int} (hm : lastS L ≤ m) {A : List PairV} (h : FineV A) (hl : A.length ≤ 1000) {t x : Int} (hx : exactV A t = some x) : askV (.spans d L T) s m A t = some (standV (.spans d L T) x) := by
  have hP : (Pt.spans d L T).ok := hs
  unfold askV
  rw [hx]
  refine if_neg ?_
  rintro ⟨h0, hc⟩
  rw [keeps_whole fun p hp => ⟨(row_in hs _ h hl p hp).1, Int.le_trans (row_in hs _ h hl p hp).2 hm⟩, row_count hP _ h hl] at hc
  obtain ⟨v, hv, e, _, _⟩ := exact_of hx
  have h1 : eqV A x ≤ cntV (fun y => sideV (decide (x < 0)) y && ((Pt.spans d L T).idx (mag y) == (Pt.spans d L T).idx (mag x))) A := cnt_le (fine_pos h) fun v hv hh => by
    have e : v.1 = x := by simpa using hh
    rw [e]
    have : sideV (decide (x < 0)) x = true := by unfold sideV; simp [h0]
    rw [this]; simp
  have h2 : 1 ≤ eqV A x := by
    obtain ⟨B, C, rfl⟩ := List.append_of_mem hv
    have hB : FineV B := fun q hq => h q (by simp [hq])
    have hC : FineV C := fun q hq => h q (by simp [hq])
    have p1 := fine_pos hB
    have p2 := fine_pos hC
    have h3 := (h v hv).2.1
    unfold eqV
    rw [cnt_app, cnt_cons, if_pos (by simp [e])]
    have n1 : 0 ≤ cntV (fun y => y == x) B := by unfold cntV; exact sumP_pos fun q hq => by have := hB q (List.mem_filter.1 hq).1; omega
    have n2 : 0 ≤ cntV (fun y => y == x) C := by unfold cntV; exact sumP_pos fun q hq => by have := hC q (List.mem_filter.1 hq).1; omega
    omega
  omega
theorem find_whole {d : Int} {L : Nat} {T : Int} (hs : SpanP d L T) (s : Bool) {m : Int} (hm : lastS L ≤ m) (h0 : 0 < m) {A : List PairV} (h : FineV A) (hl : A.length ≤ 1000) (t : Int) :
    findSt (.spans d L T) s (stV (.spans d L T) s m A) t = (exactV A t).map (standV (.spans d L T)) := by
  rw [find_ask (show (Pt.spans d L T).ok from hs) s h0 h hl t]
  cases hx : exactV A t with
  | none => unfold askV; rw [hx]; rfl
  | some x => rw [ask_whole hs s hm h hl hx]; rfl

/-- What Quantile answers, by the document. -/
def quanH (P : Pt) (A : List PairV) (a b : Int) : Int × Int :=
  if plE a b (sumP A) = 0 then (clampV (loV A) (hiV A) (standV P ((exactV A (plV a b (sumP A))).getD 0)), 0) else (0, plE a b (sumP A))

/-- Where a place can be asked for there is a value. -/
theorem exact_place {A : List PairV} (hf : FineV A) (hl : A.length ≤ 1000) {a b : Int} (wa : Word a) (wb : Word b) (he : plE a b (sumP A) = 0) : ∃ x, exactV A (plV a b (sumP A)) = some x := by
  have h0 := (fine_sum hf).1
  have h1 := (fine_sum hf).2
  have h2 : (A.length : Int) * 1125899906842624 ≤ 1000 * 1125899906842624 := Int.mul_le_mul_of_nonneg_right (by omega) (by omega)
  by_cases hg : gdB a b = true
  · by_cases hn : sumP A = 0
    · rw [hn, (pl_none hg).2] at he; omega
    · have hs := pl_spec wa wb (show Word (sumP A) by unfold Word; omega) hg hn
      exact exact_is hf (by omega) (by omega)
  · rw [(pl_bad (by simpa using hg)).2] at he; omega
/-- A Quantile that finds the place in bins that lose nothing is that of the document. -/
theorem quan_whole {d : Int} {L : Nat} {T : Int} (hs : SpanP d L T) (s : Bool) {m : Int} (hm : lastS L ≤ m) (h0 : 0 < m) {A : List PairV} (h : FineV A) (hl : A.length ≤ 1000) {a b : Int} (wa : Word a) (wb : Word b) :
    (if plE a b (sumP A) = 0 then (clampV (loV A) (hiV A) ((findSt (.spans d L T) s (stV (.spans d L T) s m A) (plV a b (sumP A))).getD 0), (0 : Int)) else (0, plE a b (sumP A))) = quanH (.spans d L T) A a b := by
  unfold quanH
  by_cases he : plE a b (sumP A) = 0
  · obtain ⟨x, hx⟩ := exact_place h hl wa wb he
    rw [if_pos he, if_pos he, find_whole hs s hm h0 h hl, hx]; rfl
  · rw [if_neg he, if_neg he]
/-- It always answers, close by. -/
theorem quan_close {d : Int} {L : Nat} {T : Int} (hs : SpanP d L T) {A : List PairV} (h : FineV A) (hl : A.length ≤ 1000) (hA : A ≠ []) {a b : Int} (wa : Word a) (wb : Word b) (hg : gdB a b = true) :
    ∃ x, exactV A (plV a b (sumP A)) = some x ∧ quanH (.spans d L T) A a b = (clampV (loV A) (hiV A) (standV (.spans d L T) x), 0) := by
  have hn : ¬ sumP A = 0 := fun e => by
    cases A with
    | nil => exact hA rfl
    | cons v r =>
      have h2 := h v (by simp)
      have h3 := (fine_sum (A := r) (fun q hq => h q (by simp [hq]))).1
      have e : sumP (v :: r) = 0 := e
      rw [sumP_cons] at e
      omega
  obtain ⟨x, hx⟩ := exact_place h hl wa wb (pl_good hg hn).2
  refine ⟨x, hx, ?_⟩
  unfold quanH
  rw [if_pos (pl_good hg hn).2, hx]; rfl

/-- What it answers lies close to the very value. -/
theorem near_whole {d : Int} {L : Nat} {T : Int} (hs : SpanP d L T) {A : List PairV} (h : FineV A) {t x : Int} (hx : exactV A t = some x) : nearB (clampV (loV A) (hiV A) (standV (.spans d L T) x)) x 1 T = true := by
  obtain ⟨v, hv, e, _, _⟩ := exact_of hx
  have hne : A ≠ [] := by intro e; rw [e] at hv; cases hv
  have h1 := (lov_facts hne).2 v hv
  have h2 := (hiv_facts hne).2 v hv
  have hT := (spanp_ten hs).1
  rw [e] at h1 h2
  exact clamp_near h1 h2 (by omega) (span_near hs (by rw [← e]; exact (h v hv).1))

/-- Ranks, where nothing is lost. -/
theorem rank_whole {d : Int} {L : Nat} {T : Int} (hs : SpanP d L T) (s : Bool) {m : Int} (hm : lastS L ≤ m) (h0 : 0 < m) {A : List PairV} (h : FineV A) (hl : A.length ≤ 1000) {x : Int} (hx : I64 x) :
    rankSt (.spans d L T) s m (stV (.spans d L T) s m A) x = (if x = 0 then upV A 0 else cntV (fun y => decide (y < likeL L x)) A, upV A (likeH L x)) := by
  obtain ⟨_, _, hr⟩ := rank_in (show (Pt.spans d L T).ok from hs) s h0 h hl hx
  have hz := stv_whole hs s hm h hl
  obtain ⟨ha, hb⟩ := hr (by rw [hz]; show (sumP (rowV (.spans d L T) true A) - sumP (rowV (.spans d L T) true A)) + (sumP (rowV (.spans d L T) false A) - sumP (rowV (.spans d L T) false A)) = (0 : Int); omega)
  obtain ⟨l1, l2⟩ := like_ranks hs h hx
  refine Prod.ext ?_ ?_
  · by_cases c : x = 0
    · show _ = if x = 0 then upV A 0 else _
      rw [if_pos c, (ha c).1, ← l2]
      subst c
      unfold likeH; rw [if_pos rfl]
    · show _ = if x = 0 then upV A 0 else cntV (fun y => decide (y < likeL L x)) A
      rw [if_neg c, (hb c).1, l1]
  · show _ = upV A (likeH L x)
    rw [l2]
    by_cases c : x = 0
    · rw [(ha c).2, (ha c).1]
    · exact (hb c).2
end Go.Proofs.YtojincgbnjkegaaDoor

/-
  Plain mathematics of what package hdr holds: two rows of spans, noughts, ends: no program in sight.
-/
namespace Go.Proofs.YtojincgbnjkegaaDoor
set_option linter.unusedVariables false
set_option linter.unusedSimpArgs false

/-- What a sketch holds: the rows below and above 0, noughts, the least and the greatest value. -/
structure Hd where
  k1 : List PairV
  k2 : List PairV
  z : Int
  lo : Int
  hi : Int
def Hd.all (h : Hd) : Int := sumP h.k1 + h.z + sumP h.k2
/-- .. that can be. -/
structure HdOk (L : Nat) (h : Hd) : Prop where
  i1 : ∀ p, p ∈ h.k1 → 1 ≤ p.1 ∧ p.1 ≤ lastS L
  i2 : ∀ p, p ∈ h.k2 → 1 ≤ p.1 ∧ p.1 ≤ lastS L
  z0 : 0 ≤ h.z
  tot : h.all ≤ 9223372036854775807
  lo : I64 h.lo
  hi : I64 h.hi
/-- What it holds of values. -/
def hdV (P : Pt) (A : List PairV) : Hd := ⟨rowV P true A, rowV P false A, zeroV A, loV A, hiV A⟩
theorem hdv_all {P : Pt} (hP : P.ok) {A : List PairV} (h : FineV A) (hl : A.length ≤ 1000) : (hdV P A).all = sumP A := by
  have := sides_all hP h hl
  show sumP (rowV P true A) + zeroV A + sumP (rowV P false A) = _
  omega
theorem ends_hd {A : List PairV} (h : FineV A) : I64 (loV A) ∧ I64 (hiV A) := by
  by_cases c : A = []
  · subst c; exact ⟨⟨by decide, by decide⟩, ⟨by decide, by decide⟩⟩
  · obtain ⟨⟨v, hv, e⟩, _⟩ := lov_facts c
    obtain ⟨⟨u, hu, e2⟩, _⟩ := hiv_facts c
    exact ⟨e ▸ (h v hv).1, e2 ▸ (h u hu).1⟩
theorem zero_pos {A : List PairV} (h : FineV A) : 0 ≤ zeroV A := by unfold zeroV cntV; exact sumP_pos fun q hq => by have := h q (List.mem_filter.1 hq).1; omega
theorem hdv_ok {d : Int} {L : Nat} {T : Int} (hs : SpanP d L T) {A : List PairV} (h : FineV A) (hl : A.length ≤ 1000) : HdOk L (hdV (.spans d L T) A) := by
  have hsum := fine_sum h
  have h2 : (A.length : Int) * 1125899906842624 ≤ 1000 * 1125899906842624 := Int.mul_le_mul_of_nonneg_right (by omega) (by omega)
  exact ⟨row_in hs true h hl, row_in hs false h hl, zero_pos h, by rw [hdv_all (show (Pt.spans d L T).ok from hs) h hl]; omega, (ends_hd h).1, (ends_hd h).2⟩

/-- What reach leaves as the ends. -/
def reLo (b : Bool) (x lo : Int) : Int := if b = true then min x lo else x
def reHi (b : Bool) (x hi : Int) : Int := if b = true then max x hi else x
theorem re_i64 {b : Bool} {x lo : Int} (h : I64 x) (k : I64 lo) : I64 (reLo b x lo) ∧ I64 (reHi b x lo) := by
  unfold reLo reHi I64 at *; split <;> omega

/-- A value more. -/
def hdAdd (P : Pt) (h : Hd) (x c : Int) : Hd :=
  if x = 0 then { h with z := h.z + c } else if x < 0 then { h with k1 := addP h.k1 (P.idx (mag x)) c } else { h with k2 := addP h.k2 (P.idx (mag x)) c }
def hdPut (P : Pt) (h : Hd) (x c : Int) : Hd := { hdAdd P h x c with lo := reLo (!(h.all == 0)) x h.lo, hi := reHi (!(h.all == 0)) x h.hi }
theorem sum_zero15 {A : List PairV} (h : FineV A) : sumP A = 0 ↔ A = [] := by
  constructor
  · intro e
    cases A with
    | nil => rfl
    | cons v r =>
      have h1 := h v (by simp)
      have h2 := (fine_sum (A := r) (fun q hq => h q (by simp [hq]))).1
      have e : sumP (v :: r) = 0 := e
      rw [sumP_cons] at e
      omega
  · rintro rfl; rfl
theorem hdv_put {P : Pt} (hP : P.ok) {A : List PairV} (h : FineV A) (hl : A.length ≤ 1000) (x c : Int) : hdPut P (hdV P A) x c = hdV P (A ++ [(x, c)]) := by
  have e1 : reLo (!((hdV P A).all == 0)) x (hdV P A).lo = loV (A ++ [(x, c)]) ∧ reHi (!((hdV P A).all == 0)) x (hdV P A).hi = hiV (A ++ [(x, c)]) := by
    rw [hdv_all hP h hl]
    by_cases z : A = []
    · subst z
      exact ⟨(ends_one (x, c)).1.symm, (ends_one (x, c)).2.symm⟩
    · have : (sumP A == 0) = false := beq_eq_false_iff_ne.2 (fun e => z ((sum_zero15 h).1 e))
      rw [this]
      obtain ⟨e3, e4⟩ := ends_snoc z (x, c)
      rw [e3, e4]
      unfold reLo reHi
      exact ⟨by show min x (loV A) = min (loV A) x; omega, by show max x (hiV A) = max (hiV A) x; omega⟩
  unfold hdPut hdV
  unfold hdV at e1
  rw [e1.1, e1.2, row_snoc, row_snoc, zero_snoc, side_true, side_false]
  unfold hdAdd
  by_cases h0 : x = 0
  · subst h0; simp
  · rw [if_neg h0, if_neg h0]
    by_cases hn : x < 0
    · have hp : ¬ 0 < x := by omega
      rw [if_pos hn]; simp [hn, hp]
    · have hp : 0 < x := by omega
      rw [if_neg hn]; simp [hn, hp]

/-- Another one's, too. -/
def hdJoin (h o : Hd) : Hd := ⟨joinP h.k1 o.k1, joinP h.k2 o.k2, h.z + o.z, reLo (!(h.all == 0)) o.lo h.lo, reHi (!(h.all == 0)) o.hi h.hi⟩
theorem hdv_join {P : Pt} (hP : P.ok) {A B : List PairV} (h : FineV A) (k : FineV B) (hB : B ≠ []) (hl : A.length + B.length ≤ 1000) : hdJoin (hdV P A) (hdV P B) = hdV P (A ++ B) := by
  unfold hdJoin
  rw [hdv_all hP h (by omega)]
  unfold hdV
  have hz : zeroV (A ++ B) = zeroV A + zeroV B := cnt_app _ _ _
  rw [row_app hP true h k hl, row_app hP false h k hl, hz]
  by_cases z : A = []
  · subst z
    simp only [List.nil_append]
    rfl
  · have : (sumP A == 0) = false := beq_eq_false_iff_ne.2 (fun e => z ((sum_zero15 h).1 e))
    rw [this]
    obtain ⟨e3, e4⟩ := ends_app z hB
    rw [e3, e4]
    have a : reLo (!false) (loV B) (loV A) = min (loV A) (loV B) := by show min (loV B) (loV A) = _; omega
    have b : reHi (!false) (hiV B) (hiV A) = max (hiV A) (hiV B) := by show max (hiV B) (hiV A) = _; omega
    rw [a, b]

/-- What stands at a place. -/
def atH (P : Pt) (h : Hd) (t : Int) : Int :=
  if t ≤ sumP h.k1 then -(P.rep ((findP h.k1 (sumP h.k1 - t + 1)).getD 0)) else if t ≤ sumP h.k1 + h.z then 0 else min (P.rep ((findP h.k2 (t - (sumP h.k1 + h.z))).getD 0)) 9223372036854775807
theorem at_is {d : Int} {L : Nat} {T : Int} (hs : SpanP d L T) {A : List PairV} (h : FineV A) (hl : A.length ≤ 1000) {t x : Int} (hx : exactV A t = some x) : atH (.spans d L T) (hdV (.spans d L T) A) t = standV (.spans d L T) x := by
  have hw := find_whole hs true (Int.le_refl (lastS L)) (by have := lasts_bd L (spanp_log hs).2; omega) h hl t
  rw [hx, stv_whole hs true (Int.le_refl _) h hl] at hw
  have hw : _ = some (standV (.spans d L T) x) := hw
  unfold findSt findS findH at hw
  simp only [if_true] at hw
  unfold atH hdV
  simp only
  split at hw
  · cases hw
  · by_cases c1 : t ≤ sumP (rowV (.spans d L T) true A)
    · rw [if_pos c1] at hw; rw [if_pos c1]
      cases hf : findP (rowV (.spans d L T) true A) (sumP (rowV (.spans d L T) true A) - t + 1) with
      | none => rw [hf] at hw; cases hw
      | some i => rw [hf] at hw; exact Option.some.inj hw
    · rw [if_neg c1] at hw; rw [if_neg c1]
      by_cases c2 : t ≤ sumP (rowV (.spans d L T) true A) + zeroV A
      · rw [if_pos c2] at hw; rw [if_pos c2]; exact Option.some.inj hw
      · rw [if_neg c2] at hw; rw [if_neg c2]
        split at hw
        · rw [show t - sumP (rowV (.spans d L T) true A) - zeroV A = t - (sumP (rowV (.spans d L T) true A) + zeroV A) by omega] at hw
          cases hf : findP (rowV (.spans d L T) false A) (t - (sumP (rowV (.spans d L T) true A) + zeroV A)) with
          | none => rw [hf] at hw; cases hw
          | some i => rw [hf] at hw; exact Option.some.inj hw
        · cases hw
/-- What Quantile answers. -/
def quanD (P : Pt) (h : Hd) (a b : Int) : Int × Int := if plE a b h.all = 0 then (clampV h.lo h.hi (atH P h (plV a b h.all)), 0) else (0, plE a b h.all)
theorem quan_hd {d : Int} {L : Nat} {T : Int} (hs : SpanP d L T) {A : List PairV} (h : FineV A) (hl : A.length ≤ 1000) {a b : Int} (wa : Word a) (wb : Word b) : quanD (.spans d L T) (hdV (.spans d L T) A) a b = quanH (.spans d L T) A a b := by
  unfold quanD quanH
  rw [hdv_all (show (Pt.spans d L T).ok from hs) h hl]
  by_cases he : plE a b (sumP A) = 0
  · obtain ⟨x, hx⟩ := exact_place h hl wa wb he
    rw [if_pos he, if_pos he, at_is hs h hl hx, hx]; rfl
  · rw [if_neg he, if_neg he]

/-- A value's span; 0 of 0. -/
def idxH (L : Nat) (x : Int) : Int := if x = 0 then 0 else idxS L (mag x)
theorem idxh_bd {d : Int} {L : Nat} {T : Int} (hs : SpanP d L T) {x : Int} (hx : I64 x) : 0 ≤ idxH L x ∧ idxH L x ≤ lastS L ∧ (x ≠ 0 → 1 ≤ idxH L x) := by
  unfold idxH
  have hb := lasts_bd L (spanp_log hs).2
  by_cases h : x = 0
  · rw [if_pos h]; exact ⟨by omega, by omega, fun k => absurd h k⟩
  · obtain ⟨m1, m2⟩ := mag_in hx h
    have := idx_bd L m1 m2 (spanp_log hs).2
    have := idx_last L m1 m2 (spanp_log hs).2
    rw [if_neg h]; exact ⟨by omega, by omega, fun _ => by omega⟩
def rankH (L : Nat) (h : Hd) (x : Int) : Int × Int :=
  if x < 0 then (sumP h.k1 - belowP h.k1 (idxH L x), sumP h.k1 - belowP h.k1 (idxH L x - 1))
  else (sumP h.k1 + h.z + belowP h.k2 (idxH L x - 1), sumP h.k1 + h.z + belowP h.k2 (idxH L x))
theorem below_no {K : List PairV} {j : Int} (h : ∀ p, p ∈ K → j < p.1) : belowP K j = 0 := by
  unfold belowP
  rw [List.filter_eq_nil_iff.2 fun p hp => by have := h p hp; simp; omega]; rfl
theorem rank_hd {d : Int} {L : Nat} {T : Int} (hs : SpanP d L T) {A : List PairV} (h : FineV A) (hl : A.length ≤ 1000) {x : Int} (hx : I64 x) :
    rankH L (hdV (.spans d L T) A) x = (if x = 0 then upV A 0 else cntV (fun y => decide (y < likeL L x)) A, upV A (likeH L x)) := by
  have hm := lasts_bd L (spanp_log hs).2
  have hw := rank_whole hs true (Int.le_refl (lastS L)) (by omega) h hl hx
  rw [stv_whole hs true (Int.le_refl _) h hl] at hw
  rw [← hw]
  have hl0 : ∀ (K : List PairV) (i : Int), lowS true (lastS L) K (sumP K - sumP K) i = belowP K i := fun K i => rfl
  have hh0 : ∀ (K : List PairV) (i : Int), highS true (lastS L) K (sumP K - sumP K) i = belowP K i := fun K i => by
    show highBH (lastS L) K (sumP K - sumP K) i = _
    unfold highBH; split <;> omega
  unfold rankSt rankH hdV
  simp only [hl0, hh0]
  by_cases h0 : x = 0
  · subst h0
    have hn : ¬ (0 : Int) < 0 := by omega
    rw [if_neg hn, if_pos rfl]
    have e : idxH L 0 = 0 := rfl
    have b1 : belowP (rowV (.spans d L T) false A) (0 - 1) = 0 := below_no fun p hp => by have := (row_in hs false h hl p hp).1; omega
    have b2 : belowP (rowV (.spans d L T) false A) 0 = 0 := below_no fun p hp => by have := (row_in hs false h hl p hp).1; omega
    rw [e, b1, b2]
    simp
  · have e : idxH L x = (Pt.spans d L T).idx (mag x) := by unfold idxH; rw [if_neg h0]; rfl
    rw [if_neg h0, e]

/-- Whether a value isn't too great. -/
def takB (lim x : Int) : Bool := decide (lim = 0) || decide (mag x ≤ lim)
/-- Pouring a row into another one, as far as there is room. -/
def pourB (K L : List PairV) : Bool := decide (sumP K + sumP L ≤ 9223372036854775807)
theorem join_take {K L : List PairV} {k : Nat} {p : PairV} (h : L[k]? = some p) : joinP K (L.take (k + 1)) = addP (joinP K (L.take k)) p.1 p.2 := by
  rw [take_snocP h, join_snoc]
theorem join_load {L : List PairV} (hg : GoodP L) (ok : ∀ p, p ∈ L → okP p) (hs : sumP L ≤ 9223372036854775807) : joinP [] L = L := by
  have J := join_facts L [] good_nil (fun p h => by cases h) (good_each hg ok) (by show 0 + sumP L ≤ _; omega)
  exact good_ext J.good hg fun j => by rw [J.cnt]; show 0 + countP L j = _; omega
end Go.Proofs.YtojincgbnjkegaaDoor

/-
  Walks: package hdr, over strips that do what they are to do: a sketch in memory; strips, Zero, Total, Ends, Config, Rows, index, value, Like; nil ones.
-/
namespace Go.Proofs.YtojincgbnjkegaaDoor
set_option linter.unusedVariables false
set_option linter.unusedSimpArgs false
open Go.RowKit

/-- A sketch in memory: its own block, its span, two strips. -/
structure HdRaw (St : World → Nat → (Nat → Prop) → Int → List PairV → Prop) (w : World) (B Sp C1 C2 : Nat) (S1 S2 : Nat → Prop) (d : Int) (L : Nat) (lim : Int) (h : Hd) : Prop where
  blk : w.heap[B]? = some (.cells #[.int .i64 d, .int .u64 lim, .pointer (some ⟨Sp, 0, none⟩), .pointer (some ⟨C1, 0, none⟩), .pointer (some ⟨C2, 0, none⟩), .int .u64 h.z, .int .i64 h.lo, .int .i64 h.hi] 85 (0, 0))
  sp : SpX w Sp d L
  below : St w C1 S1 4096 h.k1
  above : St w C2 S2 4096 h.k2
  n1 : ¬ S1 B ∧ ¬ S2 B ∧ B ≠ Sp
  n2 : ∀ k, S1 k → ¬ S2 k
  n3 : ¬ S1 Sp ∧ ¬ S2 Sp
/-- What is read of its block. -/
structure HdC (w : World) (B Sp C1 C2 : Nat) (d lim z lo hi : Int) : Prop where
  c0 : w.cell? ⟨B, 0, none⟩ = some (.int .i64 d)
  c1 : w.cell? ⟨B, 1, none⟩ = some (.int .u64 lim)
  c2 : w.cell? ⟨B, 2, none⟩ = some (.pointer (some ⟨Sp, 0, none⟩))
  c3 : w.cell? ⟨B, 3, none⟩ = some (.pointer (some ⟨C1, 0, none⟩))
  c4 : w.cell? ⟨B, 4, none⟩ = some (.pointer (some ⟨C2, 0, none⟩))
  c5 : w.cell? ⟨B, 5, none⟩ = some (.int .u64 z)
  c6 : w.cell? ⟨B, 6, none⟩ = some (.int .i64 lo)
  c7 : w.cell? ⟨B, 7, none⟩ = some (.int .i64 hi)
theorem hd_block {w : World} {B Sp C1 C2 : Nat} {d lim z lo hi : Int} (hb : w.heap[B]? = some (.cells #[.int .i64 d, .int .u64 lim, .pointer (some ⟨Sp, 0, none⟩), .pointer (some ⟨C1, 0, none⟩), .pointer (some ⟨C2, 0, none⟩), .int .u64 z, .int .i64 lo, .int .i64 hi] 85 (0, 0))) : HdC w B Sp C1 C2 d lim z lo hi :=
  ⟨by rw [Joins.cell_of_block hb]; rfl, by rw [Joins.cell_of_block hb]; rfl, by rw [Joins.cell_of_block hb]; rfl, by rw [Joins.cell_of_block hb]; rfl, by rw [Joins.cell_of_block hb]; rfl, by rw [Joins.cell_of_block hb]; rfl, by rw [Joins.cell_of_block hb]; rfl, by rw [Joins.cell_of_block hb]; rfl⟩
theorem HdC.call {w w' : World} {B Sp C1 C2 : Nat} {d lim z lo hi : Int} (h : HdC w B Sp C1 C2 d lim z lo hi) (hb : Below w.heap.size w w') : HdC w' B Sp C1 C2 d lim z lo hi :=
  ⟨cell_later hb h.c0, cell_later hb h.c1, cell_later hb h.c2, cell_later hb h.c3, cell_later hb h.c4, cell_later hb h.c5, cell_later hb h.c6, cell_later hb h.c7⟩
theorem HdRaw.cells {St : World → Nat → (Nat → Prop) → Int → List PairV → Prop} {w : World} {B Sp C1 C2 : Nat} {S1 S2 : Nat → Prop} {d : Int} {L : Nat} {lim : Int} {h : Hd} (x : HdRaw St w B Sp C1 C2 S1 S2 d L lim h) : HdC w B Sp C1 C2 d lim h.z h.lo h.hi := hd_block x.blk
/-- Its blocks. -/
def hdS (B Sp : Nat) (S1 S2 : Nat → Prop) : Nat → Prop := fun k => k = B ∨ k = Sp ∨ S1 k ∨ S2 k
theorem HdRaw.keep {St : World → Nat → (Nat → Prop) → Int → List PairV → Prop} (D : StripDoes St) {w w' : World} {B Sp C1 C2 : Nat} {S1 S2 : Nat → Prop} {d : Int} {L : Nat} {lim : Int} {h : Hd} (x : HdRaw St w B Sp C1 C2 S1 S2 d L lim h) (hk : ∀ k, hdS B Sp S1 S2 k → w'.heap[k]? = w.heap[k]?) : HdRaw St w' B Sp C1 C2 S1 S2 d L lim h :=
  ⟨(hk B (Or.inl rfl)).trans x.blk, spx_keep x.sp (hk Sp (Or.inr (Or.inl rfl))), D.keep _ _ _ _ _ _ x.below fun k hk' => hk k (Or.inr (Or.inr (Or.inl hk'))), D.keep _ _ _ _ _ _ x.above fun k hk' => hk k (Or.inr (Or.inr (Or.inr hk'))), x.n1, x.n2, x.n3⟩
theorem HdRaw.lt {St : World → Nat → (Nat → Prop) → Int → List PairV → Prop} (D : StripDoes St) {w : World} {B Sp C1 C2 : Nat} {S1 S2 : Nat → Prop} {d : Int} {L : Nat} {lim : Int} {h : Hd} (x : HdRaw St w B Sp C1 C2 S1 S2 d L lim h) : ∀ k, hdS B Sp S1 S2 k → k < w.heap.size := by
  rintro k (rfl | rfl | hk | hk)
  · exact lt_of_block x.blk
  · exact spx_lt x.sp
  · exact D.lt _ _ _ _ _ x.below k hk
  · exact D.lt _ _ _ _ _ x.above k hk

/-- At block B lies a sketch of d digits and of a limit, that holds h; S are its blocks. -/
def HdX (St : World → Nat → (Nat → Prop) → Int → List PairV → Prop) (w : World) (B : Nat) (S : Nat → Prop) (d : Int) (L : Nat) (lim : Int) (h : Hd) : Prop :=
  HdOk L h ∧ Word lim ∧ ∃ Sp C1 C2 S1 S2, HdRaw St w B Sp C1 C2 S1 S2 d L lim h ∧ ∀ k, S k ↔ hdS B Sp S1 S2 k
theorem HdX.keep {St : World → Nat → (Nat → Prop) → Int → List PairV → Prop} (D : StripDoes St) {w w' : World} {B : Nat} {S : Nat → Prop} {d : Int} {L : Nat} {lim : Int} {h : Hd} (x : HdX St w B S d L lim h) (hk : ∀ k, S k → w'.heap[k]? = w.heap[k]?) : HdX St w' B S d L lim h := by
  obtain ⟨ho, hw, Sp, C1, C2, S1, S2, hr, hS⟩ := x
  exact ⟨ho, hw, Sp, C1, C2, S1, S2, hr.keep D fun k hk' => hk k ((hS k).2 hk'), hS⟩
theorem HdX.lt {St : World → Nat → (Nat → Prop) → Int → List PairV → Prop} (D : StripDoes St) {w : World} {B : Nat} {S : Nat → Prop} {d : Int} {L : Nat} {lim : Int} {h : Hd} (x : HdX St w B S d L lim h) : ∀ k, S k → k < w.heap.size := by
  obtain ⟨ho, hw, Sp, C1, C2, S1, S2, hr, hS⟩ := x
  exact fun k hk => hr.lt D k ((hS k).1 hk)
theorem HdX.call {St : World → Nat → (Nat → Prop) → Int → List PairV → Prop} (D : StripDoes St) {w w' : World} {B : Nat} {S : Nat → Prop} {d : Int} {L : Nat} {lim : Int} {h : Hd} (x : HdX St w B S d L lim h) (hb : Below w.heap.size w w') : HdX St w' B S d L lim h :=
  x.keep D fun k hk => hb.block k (x.lt D k hk)
theorem HdX.past {St : World → Nat → (Nat → Prop) → Int → List PairV → Prop} (D : StripDoes St) {w w' : World} {B : Nat} {S S0 : Nat → Prop} {d : Int} {L : Nat} {lim : Int} {h : Hd} (x : HdX St w B S d L lim h) (hk : Keeps S0 w w') (hS : ∀ k, S k → ¬ S0 k) : HdX St w' B S d L lim h :=
  x.keep D fun k hk' => hk.block k (x.lt D k hk') (hS k hk')

theorem hd_drew {w : World} {P : World → Prop} {n : Nat} (h : ∀ w', Below w.heap.size w w' → P w') : P (w.drewN n) := h _ (below_drewN (Below.refl _ _) n)

set_option maxHeartbeats 400000 in
theorem hd_strips {w : World} {B C1 C2 : Nat} (h3 : w.cell? ⟨B, 3, none⟩ = some (.pointer (some ⟨C1, 0, none⟩))) (h4 : w.cell? ⟨B, 4, none⟩ = some (.pointer (some ⟨C2, 0, none⟩))) :
    Calls Tryd.prog 38 #[.pointer (some ⟨B, 0, none⟩)] w fun e w' => e = .returned (.tuple #[.pointer (some ⟨C1, 0, none⟩), .pointer (some ⟨C2, 0, none⟩)]) ∧ Below w.heap.size w w' := by
  go_enter Tryd.func38, Tryd.ntmps38
  go_wp2_with fail
  go_quiet (fail)
  go_wp2_with fail
  go_ret2
  exact ⟨rfl, below_drewN (Below.refl _ _) _⟩

set_option maxHeartbeats 400000 in
theorem hd_strips_nil (w : World) : Calls Tryd.prog 38 #[.pointer none] w fun e w' => e = .returned (.tuple #[.pointer none, .pointer none]) ∧ Below w.heap.size w w' := by
  go_enter Tryd.func38, Tryd.ntmps38
  go_wp2_with fail
  go_ret2
  exact ⟨rfl, Below.refl _ _⟩

set_option maxHeartbeats 400000 in
theorem hd_zero {w : World} {B : Nat} {z : Int} (h5 : w.cell? ⟨B, 5, none⟩ = some (.int .u64 z)) :
    Calls Tryd.prog 28 #[.pointer (some ⟨B, 0, none⟩)] w fun e w' => e = .returned (.int .u64 z) ∧ Below w.heap.size w w' := by
  go_enter Tryd.func28, Tryd.ntmps28
  go_wp2_with fail
  go_ret
  exact ⟨rfl, Below.refl _ _⟩

set_option maxHeartbeats 400000 in
theorem hd_zero_nil (w : World) : Calls Tryd.prog 28 #[.pointer none] w fun e w' => e = .returned (.int .u64 0) ∧ Below w.heap.size w w' := by
  go_enter Tryd.func28, Tryd.ntmps28
  go_wp2_with fail
  go_ret
  exact ⟨rfl, Below.refl _ _⟩

/-- The sums of both rows. -/
theorem hd_sums {St : World → Nat → (Nat → Prop) → Int → List PairV → Prop} (D : StripDoes St) {w : World} {B Sp C1 C2 : Nat} {S1 S2 : Nat → Prop} {d : Int} {L : Nat} {lim : Int} {h : Hd} (x : HdRaw St w B Sp C1 C2 S1 S2 d L lim h) : 0 ≤ sumP h.k1 ∧ 0 ≤ sumP h.k2 :=
  ⟨sumP_pos (ok_pos (D.stp _ _ _ _ _ x.below).ok), sumP_pos (ok_pos (D.stp _ _ _ _ _ x.above).ok)⟩

set_option maxHeartbeats 1000000 in
theorem hd_total {St : World → Nat → (Nat → Prop) → Int → List PairV → Prop} (D : StripDoes St) {w : World} {B : Nat} {S : Nat → Prop} {d : Int} {L : Nat} {lim : Int} {h : Hd} (x : HdX St w B S d L lim h) (l1 : h.k1.length ≤ 900) (l2 : h.k2.length ≤ 900) (n : Int) (hn : h.all = n) :
    Calls Tryd.prog 27 #[.pointer (some ⟨B, 0, none⟩)] w fun e w' => e = .returned (.int .u64 n) ∧ Below w.heap.size w w' := by
  obtain ⟨ho, hw, Sp, C1, C2, S1, S2, hr, hS⟩ := x
  have hc := hr.cells
  obtain ⟨s1, s2⟩ := hd_sums D hr
  have hz := ho.z0
  have ht := ho.tot
  unfold Hd.all at hn ht
  have HT1 := Lib.hid (fun W (hb : Below w.heap.size w W) => D.total W C1 S1 4096 h.k1 (D.call hr.below hb) l1)
  have HT2 := Lib.hid (fun W (hb : Below w.heap.size w W) => D.total W C2 S2 4096 h.k2 (D.call hr.above hb) l2)
  have HS := Lib.hid (hd_strips hc.c3 hc.c4)
  have HZ := Lib.hid (fun W (hb : Below w.heap.size w W) => hd_zero (cell_later hb hc.c5))
  generalize sumP h.k1 = a at *
  generalize sumP h.k2 = b at *
  generalize h.z = z at *
  have HN := Lib.hid hn
  clear hn hc hr hS ho
  go_enter Tryd.func27, Tryd.ntmps27
  go_wp2_with fail
  refine HS.out.mono ?_
  rintro e w1 ⟨rfl, b1⟩
  go_wp2_with fail
  refine (HT1.out _ b1).mono ?_
  rintro e w2 ⟨rfl, b2⟩
  have b2 := b1.trans (b2.mono b1.size)
  go_wp2_with fail
  refine (HZ.out _ b2).mono ?_
  rintro e w3 ⟨rfl, b3⟩
  have b3 := b2.trans (b3.mono b2.size)
  go_wp2_with fail
  refine (HT2.out _ b3).mono ?_
  rintro e w4 ⟨rfl, b4⟩
  have b4 := b3.trans (b4.mono b3.size)
  go_wp2_with fail
  go_ret
  exact ⟨by rw [← HN.out]; rfl, b4⟩

set_option maxHeartbeats 1000000 in
theorem hd_total_nil (N : StripNil) (w : World) : Calls Tryd.prog 27 #[.pointer none] w fun e w' => e = .returned (.int .u64 0) ∧ Below w.heap.size w w' := by
  have HN := Lib.hid N
  clear N
  go_enter Tryd.func27, Tryd.ntmps27
  go_wp2_with fail
  refine (hd_strips_nil _).mono ?_
  rintro e w1 ⟨rfl, b1⟩
  go_wp2_with fail
  refine (HN.out.total _).mono ?_
  rintro e w2 ⟨rfl, b2⟩
  have b2 := b1.trans (b2.mono b1.size)
  go_wp2_with fail
  refine (hd_zero_nil _).mono ?_
  rintro e w3 ⟨rfl, b3⟩
  have b3 := b2.trans (b3.mono b2.size)
  go_wp2_with fail
  refine (HN.out.total _).mono ?_
  rintro e w4 ⟨rfl, b4⟩
  have b4 := b3.trans (b4.mono b3.size)
  go_wp2_with fail
  go_ret
  exact ⟨rfl, b4⟩

/-- What Ends tells. -/
def endsH (h : Hd) : Int × Int × Bool := if h.all = 0 then (0, 0, false) else (h.lo, h.hi, true)
theorem endsh_some (h : Hd) : ∃ a b, endsH h = (a, b, !(h.all == 0)) ∧ (h.all ≠ 0 → a = h.lo ∧ b = h.hi) := by
  unfold endsH
  by_cases z : h.all = 0
  · rw [if_pos z, z]; exact ⟨0, 0, rfl, fun k => absurd rfl k⟩
  · have : (h.all == 0) = false := by simp [z]
    rw [if_neg z, this]; exact ⟨_, _, rfl, fun _ => ⟨rfl, rfl⟩⟩

set_option maxHeartbeats 1000000 in
theorem hd_ends {St : World → Nat → (Nat → Prop) → Int → List PairV → Prop} (D : StripDoes St) {w : World} {B : Nat} {S : Nat → Prop} {d : Int} {L : Nat} {lim : Int} {h : Hd} (x : HdX St w B S d L lim h) (l1 : h.k1.length ≤ 900) (l2 : h.k2.length ≤ 900) (a b : Int) (c : Bool) (he : endsH h = (a, b, c)) :
    Calls Tryd.prog 25 #[.pointer (some ⟨B, 0, none⟩)] w fun e w' => e = .returned (.tuple #[.int .i64 a, .int .i64 b, .bool c]) ∧ Below w.heap.size w w' := by
  obtain ⟨n, hn⟩ : ∃ n, h.all = n := ⟨_, rfl⟩
  have HT := Lib.hid (hd_total D x l1 l2 n hn)
  obtain ⟨ho, hw, Sp, C1, C2, S1, S2, hr, hS⟩ := x
  have HC := Lib.hid hr.cells
  unfold endsH at he
  rw [hn] at he
  clear hn hr hS ho
  generalize h.lo = lo at *
  generalize h.hi = hi at *
  by_cases z : n = 0
  · subst z
    rw [if_pos rfl] at he
    obtain ⟨rfl, rfl, rfl⟩ : 0 = a ∧ 0 = b ∧ false = c := by simpa using he
    clear he
    go_enter Tryd.func25, Tryd.ntmps25
    go_wp2_with fail
    refine HT.out.mono ?_
    rintro e w3 ⟨rfl, b3⟩
    go_wp2_with fail
    go_ret3
    exact ⟨rfl, b3⟩
  · have z1 : (n == 0) = false := by simp [z]
    rw [if_neg z] at he
    obtain ⟨rfl, rfl, rfl⟩ : lo = a ∧ hi = b ∧ true = c := by simpa using he
    clear he
    go_enter Tryd.func25, Tryd.ntmps25
    go_wp2_with fail
    refine HT.out.mono ?_
    rintro e w3 ⟨rfl, b3⟩
    have hc6 := (HC.out.call b3).c6
    have hc7 := (HC.out.call b3).c7
    go_wp2_with fail
    go_quiet (fail)
    go_wp2_with fail
    go_ret3
    exact ⟨rfl, below_drewN b3 _⟩

set_option maxHeartbeats 400000 in
theorem hd_ends_nil (N : StripNil) (w : World) : Calls Tryd.prog 25 #[.pointer none] w fun e w' => e = .returned (.tuple #[.int .i64 0, .int .i64 0, .bool false]) ∧ Below w.heap.size w w' := by
  have HN := Lib.hid N
  clear N
  go_enter Tryd.func25, Tryd.ntmps25
  go_wp2_with fail
  refine (hd_total_nil HN.out _).mono ?_
  rintro e w2 ⟨rfl, b2⟩
  go_wp2_with fail
  go_ret3
  exact ⟨rfl, b2⟩

set_option maxHeartbeats 400000 in
theorem hd_config {w : World} {B : Nat} {d lim : Int} (h0 : w.cell? ⟨B, 0, none⟩ = some (.int .i64 d)) (h1 : w.cell? ⟨B, 1, none⟩ = some (.int .u64 lim)) :
    Calls Tryd.prog 29 #[.pointer (some ⟨B, 0, none⟩)] w fun e w' => e = .returned (.agg #[.int .i64 d, .int .u64 lim]) ∧ Below w.heap.size w w' := by
  have hb : Below w.heap.size w (w.alloc (.cells #[.int .i64 0, .int .u64 0] 52)) := (Below.refl _ _).alloc (Nat.le_refl _) _
  have c0 := cell_later hb h0
  have c1 := cell_later hb h1
  clear h0 h1 hb
  go_enter Tryd.func29, Tryd.ntmps29
  go_wp2_with fail
  refine bodyPost_ret (v := .agg #[.int .i64 d, .int .u64 lim]) (by simp [results, Tryd.results29, go_sem]) rfl ⟨rfl, ?_⟩
  exact (Below.refl _ _).alloc (Nat.le_refl _) _

set_option maxHeartbeats 400000 in
theorem hd_config_nil (w : World) : Calls Tryd.prog 29 #[.pointer none] w fun e w' => e = .returned (.agg #[.int .i64 0, .int .u64 0]) ∧ Below w.heap.size w w' := by
  go_enter Tryd.func29, Tryd.ntmps29
  go_wp2_with fail
  refine bodyPost_ret (v := .agg #[.int .i64 0, .int .u64 0]) (by simp [results, Tryd.results29, go_sem]) rfl ⟨rfl, ?_⟩
  exact (Below.refl _ _).alloc (Nat.le_refl _) _

set_option maxHeartbeats 1000000 in
theorem hd_rows {St : World → Nat → (Nat → Prop) → Int → List PairV → Prop} (D : StripDoes St) {w : World} {B : Nat} {S : Nat → Prop} {d : Int} {L : Nat} {lim : Int} {h : Hd} (x : HdX St w B S d L lim h) (l1 : h.k1.length ≤ 900) (l2 : h.k2.length ≤ 900) :
    Calls Tryd.prog 31 #[.pointer (some ⟨B, 0, none⟩)] w fun e w' => ∃ v1 v2, e = .returned (.tuple #[v1, v2]) ∧ OwnP w' w.heap.size v1 h.k1 ∧ OwnP w' w.heap.size v2 h.k2 ∧ Below w.heap.size w w' := by
  obtain ⟨ho, hw, Sp, C1, C2, S1, S2, hr, hS⟩ := x
  have hc := hr.cells
  have HT1 := Lib.hid (fun W (hb : Below w.heap.size w W) => D.pairs W C1 S1 4096 h.k1 (D.call hr.below hb) l1)
  have HT2 := Lib.hid (fun W (hb : Below w.heap.size w W) => D.pairs W C2 S2 4096 h.k2 (D.call hr.above hb) l2)
  have HS := Lib.hid (hd_strips hc.c3 hc.c4)
  clear hc hr hS ho l1 l2
  go_enter Tryd.func31, Tryd.ntmps31
  go_wp2_with fail
  refine HS.out.mono ?_
  rintro e w1 ⟨rfl, b1⟩
  go_wp2_with fail
  refine (HT1.out _ b1).mono ?_
  rintro e w2 ⟨v1, rfl, ho1, b2⟩
  obtain ⟨A1, k1, rfl⟩ := ho1.form
  have HO1 := Lib.hid ho1
  have b2' := b1.trans (b2.mono b1.size)
  have z1 := b1.size
  clear ho1
  go_wp2_with fail
  refine (HT2.out _ b2').mono ?_
  rintro e w3 ⟨v2, rfl, ho2, b3⟩
  obtain ⟨A2, k2, rfl⟩ := ho2.form
  have HO2 := Lib.hid ho2
  have HO1' := Lib.hid (HO1.out.call b3)
  have z2 := b2'.size
  have b3' := b2'.trans (b3.mono b2'.size)
  clear ho2 HO1
  go_wp2_with fail
  go_ret2
  exact ⟨_, _, rfl, World.ownsRow.mono HO1'.out z1, World.ownsRow.mono HO2.out z2, b3'⟩

theorem mag_zero : mag 0 = 0 := rfl

set_option maxHeartbeats 1000000 in
theorem hd_index {St : World → Nat → (Nat → Prop) → Int → List PairV → Prop} (D : StripDoes St) {w : World} {B : Nat} {S : Nat → Prop} {d : Int} {L : Nat} {T lim : Int} {h : Hd} (hs : SpanP d L T) (x : HdX St w B S d L lim h) (y i : Int) (n : Bool) (hy : I64 y) (hi : idxH L y = i) (hn : decide (y < 0) = n) :
    Calls Tryd.prog 40 #[.pointer (some ⟨B, 0, none⟩), .int .i64 y] w fun e w' => e = .returned (.tuple #[.int .i64 i, .bool n]) ∧ Below w.heap.size w w' := by
  obtain ⟨ho, hw, Sp, C1, C2, S1, S2, hr, hS⟩ := x
  have hc2 := hr.cells.c2
  have hsp := hr.sp
  have HOF := Lib.hid (fun W => of_any y hy W)
  have key : Calls Tryd.prog 67 #[.pointer (some ⟨Sp, 0, none⟩), .int .u64 (mag y)] w fun e w' => (∃ b, e = .returned (.tuple #[.int .i64 i, .bool b])) ∧ Below w.heap.size w w' := by
    by_cases h0 : y = 0
    · subst h0
      obtain rfl : 0 = i := hi
      refine (sindex_out w Sp 0 ⟨by decide, by decide⟩ (Or.inl rfl)).mono ?_
      rintro e w' ⟨rfl, rfl⟩
      exact ⟨⟨_, rfl⟩, Below.refl _ _⟩
    · obtain ⟨m1, m2⟩ := mag_in hy h0
      refine (sindex_any w Sp d L T (mag y) hs hsp m1 m2).mono ?_
      rintro e w' ⟨rfl, k, rfl⟩
      unfold idxH at hi
      rw [if_neg h0] at hi
      rw [hi]
      exact ⟨⟨_, rfl⟩, below_drewN (Below.refl _ _) _⟩
  have HK := Lib.hid key
  rw [hn] at HOF
  generalize mag y = my at *
  clear key hi hn hr hS ho
  go_enter Tryd.func40, Tryd.ntmps40
  go_wp2_with fail
  refine (HOF.out _).mono ?_
  rintro e w1 ⟨rfl, rfl⟩
  go_wp2_with fail
  refine HK.out.mono ?_
  rintro e w2 ⟨⟨bb, rfl⟩, b2⟩
  go_wp2_with fail
  go_ret2
  exact ⟨rfl, b2⟩

set_option maxHeartbeats 400000 in
theorem hd_index_nil (w : World) (y : Int) : Calls Tryd.prog 40 #[.pointer none, .int .i64 y] w fun e w' => e = .returned (.tuple #[.int .i64 0, .bool false]) ∧ Below w.heap.size w w' := by
  go_enter Tryd.func40, Tryd.ntmps40
  go_wp2_with fail
  go_ret2
  exact ⟨rfl, Below.refl _ _⟩

set_option maxHeartbeats 400000 in
theorem hd_value (w : World) (m : Int) (b : Bool) (h1 : 0 ≤ m) (h2 : m ≤ 9223372036854775808) (r : Int) (hr : (if b = true then -m else min m 9223372036854775807) = r) :
    Calls Tryd.prog 51 #[.int .u64 m, .bool b] w fun e w' => e = .returned (.int .i64 r) ∧ w = w' := by
  cases b with
  | true =>
    have HV := Lib.hid (value_any m true (by unfold Word; omega) w)
    have E : Hid (valI m true = r) := Lib.hid (by
      have hr : -m = r := hr
      have hc : canB m true = true := by unfold canB; simp; omega
      rw [← hr]; unfold valI
      rw [hc]; rfl)
    clear hr
    go_enter Tryd.func51, Tryd.ntmps51
    go_wp2_with fail
    refine HV.out.mono ?_
    rintro e w' ⟨rfl, rfl⟩
    rw [E.out]
    go_wp2_with fail
    go_ret
    exact ⟨rfl, rfl⟩
  | false =>
    have hr : min m 9223372036854775807 = r := hr
    have HV := Lib.hid (fun W => value_any r false (by unfold Word; omega) W)
    have E : Hid (valI r false = r) := Lib.hid (by
      have hc : canB r false = true := by unfold canB; simp; omega
      unfold valI
      rw [hc]; rfl)
    have HR := Lib.hid hr
    clear hr
    go_enter Tryd.func51, Tryd.ntmps51
    go_wp2_with fail
    rw [HR.out]
    refine (HV.out _).mono ?_
    rintro e w' ⟨rfl, rfl⟩
    rw [E.out]
    go_wp2_with fail
    go_ret
    exact ⟨rfl, rfl⟩

set_option maxHeartbeats 1000000 in
theorem hd_like {St : World → Nat → (Nat → Prop) → Int → List PairV → Prop} (D : StripDoes St) {w : World} {B : Nat} {S : Nat → Prop} {d : Int} {L : Nat} {T lim : Int} {h : Hd} (hs : SpanP d L T) (x : HdX St w B S d L lim h) (y a b : Int) (hy : I64 y) (ha : likeL L y = a) (hb : likeH L y = b) :
    Calls Tryd.prog 22 #[.pointer (some ⟨B, 0, none⟩), .int .i64 y] w fun e w' => e = .returned (.tuple #[.int .i64 a, .int .i64 b]) ∧ Below w.heap.size w w' := by
  have hL := (spanp_log hs).2
  have HIX := fun i n hi hn => Lib.hid (hd_index D hs x y i n hy hi hn)
  obtain ⟨ho, hw, Sp, C1, C2, S1, S2, hr, hS⟩ := x
  have HC := Lib.hid hr.cells
  have HSP := Lib.hid hr.sp
  clear hr hS ho
  by_cases h0 : y = 0
  · subst h0
    obtain rfl : 0 = a := by rw [← ha]; unfold likeL; rw [if_pos rfl]
    obtain rfl : 0 = b := by rw [← hb]; unfold likeH; rw [if_pos rfl]
    have HI := HIX 0 false rfl (by decide)
    clear HIX ha hb
    go_enter Tryd.func22, Tryd.ntmps22
    go_wp2_with fail
    refine HI.out.mono ?_
    rintro e w1 ⟨rfl, b1⟩
    go_wp2_with fail
    go_ret2
    exact ⟨rfl, b1⟩
  · obtain ⟨m1, m2⟩ := mag_in hy h0
    obtain ⟨c1, c2, c3, c4⟩ := span_in L m1 m2 hL
    have hib := (idxh_bd hs hy).2.2 h0
    have hie : idxH L y = idxS L (mag y) := by unfold idxH; rw [if_neg h0]
    have HR := Lib.hid (fun W (hb : Below w.heap.size w W) => srange_of W Sp d L T (mag y) hs (spx_call HSP.out hb) m1 m2)
    rw [← hie] at HR
    obtain ⟨i, hi⟩ : ∃ i, idxH L y = i := ⟨_, rfl⟩
    have HI := HIX i (decide (y < 0)) hi rfl
    rw [hi] at HR hib
    unfold likeL at ha
    unfold likeH at hb
    rw [if_neg h0] at ha hb
    have i0 : (i == 0) = false := by simp; omega
    obtain ⟨lo, hlo⟩ : ∃ lo, loS L (mag y) = lo := ⟨_, rfl⟩
    obtain ⟨hi2, hhi⟩ : ∃ hi2, hiS L (mag y) = hi2 := ⟨_, rfl⟩
    rw [hlo] at c1 c2 HR ha hb
    rw [hhi] at c3 c4 HR ha hb
    by_cases hn : y < 0
    · rw [if_pos hn] at ha hb
      have hd : decide (y < 0) = true := decide_eq_true hn
      rw [hd] at HI
      have HV1 := Lib.hid (fun W => hd_value W hi2 true (by omega) (by omega) a ha)
      have HV2 := Lib.hid (fun W => hd_value W lo true (by omega) (by omega) b hb)
      clear HIX ha hb hie hi hlo hhi hd
      go_enter Tryd.func22, Tryd.ntmps22
      go_wp2_with fail
      refine HI.out.mono ?_
      rintro e w1 ⟨rfl, b1⟩
      have q2 := (HC.out.call b1).c2
      go_wp2_with fail
      refine (HR.out _ b1).mono ?_
      rintro e w2 ⟨rfl, k2, rfl⟩
      have b2 := below_drewN b1 k2
      generalize w1.drewN k2 = w2 at *
      go_wp2_with fail
      refine (HV1.out _).mono ?_
      rintro e w3 ⟨rfl, rfl⟩
      go_wp2_with fail
      refine (HV2.out _).mono ?_
      rintro e w4 ⟨rfl, rfl⟩
      go_wp2_with fail
      go_ret2
      exact ⟨rfl, b2⟩
    · rw [if_neg hn] at ha hb
      have hd : decide (y < 0) = false := decide_eq_false hn
      rw [hd] at HI
      have hlo9 : lo ≤ 9223372036854775807 := by
        obtain ⟨y0, y1⟩ := hy
        have hm : mag y = y := by unfold mag; rw [if_neg hn]
        omega
      have HV1 := Lib.hid (fun W => hd_value W lo false (by omega) (by omega) a (by show min lo 9223372036854775807 = a; omega))
      have HV2 := Lib.hid (fun W => hd_value W hi2 false (by omega) (by omega) b hb)
      clear HIX ha hb hie hi hlo hhi hd
      go_enter Tryd.func22, Tryd.ntmps22
      go_wp2_with fail
      refine HI.out.mono ?_
      rintro e w1 ⟨rfl, b1⟩
      have q2 := (HC.out.call b1).c2
      go_wp2_with fail
      refine (HR.out _ b1).mono ?_
      rintro e w2 ⟨rfl, k2, rfl⟩
      have b2 := below_drewN b1 k2
      generalize w1.drewN k2 = w2 at *
      go_wp2_with fail
      refine (HV1.out _).mono ?_
      rintro e w3 ⟨rfl, rfl⟩
      go_wp2_with fail
      refine (HV2.out _).mono ?_
      rintro e w4 ⟨rfl, rfl⟩
      go_wp2_with fail
      go_ret2
      exact ⟨rfl, b2⟩

set_option maxHeartbeats 400000 in
theorem hd_like_nil (w : World) (y : Int) (hy : I64 y) : Calls Tryd.prog 22 #[.pointer none, .int .i64 y] w fun e w' => e = .returned (.tuple #[.int .i64 y, .int .i64 y]) ∧ Below w.heap.size w w' := by
  go_enter Tryd.func22, Tryd.ntmps22
  go_wp2_with fail
  refine (hd_index_nil _ _).mono ?_
  rintro e w1 ⟨rfl, b1⟩
  go_wp2_with fail
  go_ret2
  exact ⟨rfl, b1⟩
end Go.Proofs.YtojincgbnjkegaaDoor

/-
  Walks: package hdr: takes, add, reach, Put; nil ones.
-/
namespace Go.Proofs.YtojincgbnjkegaaDoor
set_option linter.unusedVariables false
set_option linter.unusedSimpArgs false
open Go.RowKit

theorem hd_two (w : World) (x y : Value) (t : TypeId) : (w.alloc (.cells #[x, y] t)).cell? ⟨w.heap.size, 0, none⟩ = some x ∧ (w.alloc (.cells #[x, y] t)).cell? ⟨w.heap.size, 1, none⟩ = some y := by
  have h : (w.alloc (.cells #[x, y] t)).heap[w.heap.size]? = some (.cells #[x, y] t (0, 0)) := heap_new w _
  exact ⟨by rw [Joins.cell_of_block h]; rfl, by rw [Joins.cell_of_block h]; rfl⟩
theorem addp_in {K : List PairV} {i c n : Int} (h : ∀ p, p ∈ K → 1 ≤ p.1 ∧ p.1 ≤ n) (hi : 1 ≤ i ∧ i ≤ n) : ∀ p, p ∈ addP K i c → 1 ≤ p.1 ∧ p.1 ≤ n := by
  intro p hp
  unfold addP at hp
  rcases List.mem_append.1 hp with h1 | h1
  · exact h p (lowP_mem h1).1
  · rcases List.mem_append.1 h1 with h2 | h2
    · unfold midP at h2
      split at h2
      · have : p = (i, countP K i + c) := by simpa using h2
        rw [this]; exact hi
      · cases h2
    · exact h p (highP_mem h2).1
theorem sterr_ok {K : List PairV} {i c : Int} (hc : 0 < c) (hs : sumP K + c ≤ 9223372036854775807) (hl : K.length ≤ 1000) : stErr 4096 K i c = 0 := by
  have := add_len K i c
  unfold stErr
  rw [if_neg (by omega), if_neg (by omega), if_neg (by omega)]
theorem strow_ok {K : List PairV} {i c : Int} (hc : 0 < c) (hs : sumP K + c ≤ 9223372036854775807) (hl : K.length ≤ 1000) : stRow 4096 K i c = addP K i c := by
  unfold stRow; rw [if_pos (sterr_ok hc hs hl)]
theorem keeps_then {S T : Nat → Prop} {w w1 w2 : World} (h : Keeps S w w1) (h' : Keeps T w1 w2) (hS : ∀ k, k < w.heap.size → T k → S k) : Keeps S w w2 :=
  ⟨h'.os.trans h.os, h'.tape.trans h.tape, h'.output.trans h.output, Nat.le_trans h.size h'.size, fun k hk hn => (h'.block k (Nat.lt_of_lt_of_le hk h.size) (fun x => hn (hS k hk x))).trans (h.block k hk hn)⟩
theorem keeps_put {w : World} {B o : Nat} {x : Value} {S : Nat → Prop} (h : S B) : Keeps S w (w.setCell ⟨B, o, none⟩ x) :=
  ⟨rfl, rfl, rfl, by simp [World.setCell], fun k _ hk => Below.heap_setCell w _ _ k (fun e => hk (by show S k; rw [show k = B from e]; exact h))⟩

theorem HdRaw.turn1 {St : World → Nat → (Nat → Prop) → Int → List PairV → Prop} (D : StripDoes St) {w w' : World} {B Sp C1 C2 : Nat} {S1 S2 S' : Nat → Prop} {d : Int} {L : Nat} {lim : Int} {h : Hd} {k' : List PairV} (x : HdRaw St w B Sp C1 C2 S1 S2 d L lim h) (hk : Keeps S1 w w') (hb : St w' C1 S' 4096 k') (hS : ∀ k, S' k → S1 k ∨ w.heap.size ≤ k) : HdRaw St w' B Sp C1 C2 S' S2 d L lim { h with k1 := k' } := by
  have hB := lt_of_block x.blk
  have hp := spx_lt x.sp
  refine ⟨(hk.block B hB x.n1.1).trans x.blk, spx_keep x.sp (hk.block Sp hp x.n3.1), hb, D.keep _ _ _ _ _ _ x.above fun k hk' => hk.block k (D.lt _ _ _ _ _ x.above k hk') (fun e => x.n2 k e hk'), ⟨fun e => ?_, x.n1.2.1, x.n1.2.2⟩, fun k e e2 => ?_, ⟨fun e => ?_, x.n3.2⟩⟩
  · rcases hS B e with a | a
    · exact x.n1.1 a
    · omega
  · rcases hS k e with a | a
    · exact x.n2 k a e2
    · have := D.lt _ _ _ _ _ x.above k e2; omega
  · rcases hS Sp e with a | a
    · exact x.n3.1 a
    · omega
theorem HdRaw.turn2 {St : World → Nat → (Nat → Prop) → Int → List PairV → Prop} (D : StripDoes St) {w w' : World} {B Sp C1 C2 : Nat} {S1 S2 S' : Nat → Prop} {d : Int} {L : Nat} {lim : Int} {h : Hd} {k' : List PairV} (x : HdRaw St w B Sp C1 C2 S1 S2 d L lim h) (hk : Keeps S2 w w') (hb : St w' C2 S' 4096 k') (hS : ∀ k, S' k → S2 k ∨ w.heap.size ≤ k) : HdRaw St w' B Sp C1 C2 S1 S' d L lim { h with k2 := k' } := by
  have hB := lt_of_block x.blk
  have hp := spx_lt x.sp
  refine ⟨(hk.block B hB x.n1.2.1).trans x.blk, spx_keep x.sp (hk.block Sp hp x.n3.2), D.keep _ _ _ _ _ _ x.below fun k hk' => hk.block k (D.lt _ _ _ _ _ x.below k hk') (fun e => x.n2 k hk' e), hb, ⟨x.n1.1, fun e => ?_, x.n1.2.2⟩, fun k e e2 => ?_, ⟨x.n3.1, fun e => ?_⟩⟩
  · rcases hS B e with a | a
    · exact x.n1.2.1 a
    · omega
  · rcases hS k e2 with a | a
    · exact x.n2 k e a
    · have := D.lt _ _ _ _ _ x.below k e; omega
  · rcases hS Sp e with a | a
    · exact x.n3.2 a
    · omega
/-- What a change of a sketch leaves. -/
def HdTo (St : World → Nat → (Nat → Prop) → Int → List PairV → Prop) (w : World) (B : Nat) (S : Nat → Prop) (d : Int) (L : Nat) (lim : Int) (h : Hd) (w' : World) : Prop :=
  ∃ S', HdX St w' B S' d L lim h ∧ Keeps S w w' ∧ ∀ k, S' k → S k ∨ w.heap.size ≤ k
theorem HdTo.after {St : World → Nat → (Nat → Prop) → Int → List PairV → Prop} {w0 w w' : World} {B : Nat} {S : Nat → Prop} {d : Int} {L : Nat} {lim : Int} {h : Hd} (hb : Below w0.heap.size w0 w) (t : HdTo St w B S d L lim h w') : HdTo St w0 B S d L lim h w' := by
  obtain ⟨S', hx, hk, hS⟩ := t
  have hz := hb.size
  exact ⟨S', hx, keeps_then (Keeps.of_below hb) hk (fun k _ h => h), fun k hk' => by rcases hS k hk' with a | a; exact Or.inl a; exact Or.inr (by omega)⟩
theorem HdTo.then {St : World → Nat → (Nat → Prop) → Int → List PairV → Prop} {w w' w2 : World} {B : Nat} {S S' : Nat → Prop} {d : Int} {L : Nat} {lim : Int} {h2 : Hd} (hk : Keeps S w w') (hS : ∀ k, S' k → S k ∨ w.heap.size ≤ k) (t : HdTo St w' B S' d L lim h2 w2) : HdTo St w B S d L lim h2 w2 := by
  obtain ⟨S2, hx, hk2, hS2⟩ := t
  have hz := hk.size
  refine ⟨S2, hx, keeps_then hk hk2 (fun k hlt h => ?_), fun k hk' => ?_⟩
  · rcases hS k h with a | a
    · exact a
    · omega
  · rcases hS2 k hk' with a | a
    · exact hS k a
    · exact Or.inr (by omega)

set_option maxHeartbeats 400000 in
theorem hd_takes {w : World} {B : Nat} {lim : Int} (h1 : w.cell? ⟨B, 1, none⟩ = some (.int .u64 lim)) (x : Int) (hx : I64 x) (b : Bool) (hb : takB lim x = b) :
    Calls Tryd.prog 53 #[.pointer (some ⟨B, 0, none⟩), .int .i64 x] w fun e w' => e = .returned (.bool b) ∧ Below w.heap.size w w' := by
  have HOF := Lib.hid (fun W => of_any x hx W)
  unfold takB at hb
  by_cases z : lim = 0
  · subst z
    obtain rfl : true = b := by rw [← hb]; simp
    generalize mag x = m at *
    clear hb hx
    go_enter Tryd.func53, Tryd.ntmps53
    go_wp2_with fail
    refine (HOF.out _).mono ?_
    rintro e w1 ⟨rfl, rfl⟩
    go_wp2_with fail
    go_ret
    exact ⟨rfl, Below.refl _ _⟩
  · have z1 : (lim == 0) = false := by simp [z]
    have z2 : decide (lim = 0) = false := decide_eq_false z
    rw [z2, Bool.false_or] at hb
    generalize mag x = m at *
    clear hx z2
    cases b with
    | true =>
      have hle : m ≤ lim := of_decide_eq_true hb
      go_enter Tryd.func53, Tryd.ntmps53
      go_wp2_with fail
      refine (HOF.out _).mono ?_
      rintro e w1 ⟨rfl, rfl⟩
      go_wp2_with fail
      go_ret
      exact ⟨rfl, Below.refl _ _⟩
    | false =>
      have hle : ¬ m ≤ lim := of_decide_eq_false hb
      go_enter Tryd.func53, Tryd.ntmps53
      go_wp2_with fail
      refine (HOF.out _).mono ?_
      rintro e w1 ⟨rfl, rfl⟩
      go_wp2_with fail
      go_ret
      exact ⟨rfl, Below.refl _ _⟩

set_option maxRecDepth 100000 in
set_option maxHeartbeats 2000000 in
theorem hd_add_full {St : World → Nat → (Nat → Prop) → Int → List PairV → Prop} (D : StripDoes St) {w : World} {B : Nat} {S : Nat → Prop} {d : Int} {L : Nat} {lim : Int} {h : Hd} (x : HdX St w B S d L lim h) (l1 : h.k1.length ≤ 900) (l2 : h.k2.length ≤ 900) (y c : Int) (hy : I64 y) (wc : Word c) (hf : 9223372036854775807 - h.all < c) :
    Calls Tryd.prog 56 #[.pointer (some ⟨B, 0, none⟩), .int .i64 y, .int .u64 c] w fun e w' => e = .returned (.int .i64 6) ∧ Below w.heap.size w w' := by
  obtain ⟨t, ht⟩ : ∃ t, h.all = t := ⟨_, rfl⟩
  have HT := Lib.hid (hd_total D x l1 l2 t ht)
  obtain ⟨ho, hw, Sp, C1, C2, S1, S2, hr, hS⟩ := x
  obtain ⟨s1, s2⟩ := hd_sums D hr
  have hz := ho.z0
  have htt := ho.tot
  have t0 : 0 ≤ t := by rw [← ht]; unfold Hd.all; omega
  rw [ht] at hf htt
  have P1 : Hid (plus2B t c = false) := Lib.hid (by unfold plus2B; apply decide_eq_false; omega)
  have P2 : Hid (plus2Q t c = 0) := Lib.hid (by unfold plus2Q; rw [P1.out]; rfl)
  obtain ⟨wc0, wc1⟩ := wc
  clear hr hS ho ht
  go_enter Tryd.func56, Tryd.ntmps56
  go_wp2_with fail
  refine HT.out.mono ?_
  rintro e w1 ⟨rfl, b1⟩
  have b2 := b1.alloc b1.size (.cells #[.int .u64 t, .int .u64 c] 23)
  go_wp2_with fail
  refine (plus_two t c 0 false _ _ _ ⟨by omega, by omega⟩ ⟨by omega, by omega⟩ (hd_two w1 _ _ _).1 (hd_two w1 _ _ _).2 P2.out P1.out).mono ?_
  rintro e w3 ⟨rfl, rfl⟩
  go_wp2_with fail
  go_ret
  exact ⟨rfl, b2⟩

set_option maxRecDepth 100000 in
set_option maxHeartbeats 4000000 in
theorem hd_add_ok {St : World → Nat → (Nat → Prop) → Int → List PairV → Prop} (D : StripDoes St) {w : World} {B : Nat} {S : Nat → Prop} {d : Int} {L : Nat} {T lim : Int} {h : Hd} (hs : SpanP d L T) (x : HdX St w B S d L lim h) (l1 : h.k1.length ≤ 800) (l2 : h.k2.length ≤ 800) (y c : Int) (hy : I64 y) (c0 : 0 < c) (hf : h.all + c ≤ 9223372036854775807) :
    Calls Tryd.prog 56 #[.pointer (some ⟨B, 0, none⟩), .int .i64 y, .int .u64 c] w fun e w' => e = .returned (.int .i64 0) ∧ HdTo St w B S d L lim (hdAdd (.spans d L T) h y c) w' := by
  obtain ⟨t, ht⟩ : ∃ t, h.all = t := ⟨_, rfl⟩
  have HD := Lib.hid D
  have HT := Lib.hid (hd_total D x (by omega) (by omega) t ht)
  have HIX := Lib.hid (fun W (hb : Below w.heap.size w W) i n hi hn => hd_index D hs (x.call D hb) y i n hy hi hn)
  have hib := idxh_bd hs hy
  have hlb := lasts_bd L (spanp_log hs).2
  have HX := Lib.hid x
  obtain ⟨ho, hw, Sp, C1, C2, S1, S2, hr, hS⟩ := x
  have HO := Lib.hid ho
  have HR := Lib.hid hr
  have HS := Lib.hid hS
  have HW := Lib.hid hw
  have HC := Lib.hid hr.cells
  obtain ⟨s1, s2⟩ := hd_sums D hr
  have hz := ho.z0
  have htt := ho.tot
  have hsum : sumP h.k1 + h.z + sumP h.k2 = t := ht
  have t0 : 0 ≤ t := by omega
  rw [ht] at hf htt
  have P1 : Hid (plus2B t c = true) := Lib.hid (by unfold plus2B; apply decide_eq_true; omega)
  have P2 : Hid (plus2Q t c = t + c) := Lib.hid (by unfold plus2Q; rw [P1.out]; rfl)
  by_cases h0 : y = 0
  · subst h0
    have HI := Lib.hid (fun W hb => HIX.out W hb 0 false rfl (by decide))
    have hst : hdAdd (.spans d L T) h 0 c = { h with z := h.z + c } := by unfold hdAdd; rw [if_pos rfl]
    have fin : ∀ W, Below w.heap.size w W → W.cell? ⟨B, 5, none⟩ = some (.int .u64 h.z) ∧ W.frozen? ⟨B, 5, none⟩ = false ∧ HdTo St w B S d L lim (hdAdd (.spans d L T) h 0 c) (W.setCell ⟨B, 5, none⟩ (.int .u64 (h.z + c))) := fun W hb => by
      have hrW := HR.out.keep HD.out (w' := W) fun k hk => hb.block k (HR.out.lt HD.out k hk)
      refine ⟨hrW.cells.c5, Joins.unfrozen_of_block hrW.blk 5, S, ?_, keeps_then (Keeps.of_below hb) (keeps_put (S := S) ((HS.out B).2 (Or.inl rfl))) (fun k _ h => h), fun k hk => Or.inl hk⟩
      rw [hst]
      have hne : ∀ k, k ≠ B → (W.setCell ⟨B, 5, none⟩ (.int .u64 (h.z + c))).heap[k]? = W.heap[k]? := fun k hk => Below.heap_setCell _ _ _ k hk
      refine ⟨⟨HO.out.i1, HO.out.i2, by show 0 ≤ h.z + c; omega, ?_, HO.out.lo, HO.out.hi⟩, HW.out, Sp, C1, C2, S1, S2, ⟨?_, ?_, ?_, ?_, hrW.n1, hrW.n2, hrW.n3⟩, HS.out⟩
      · show sumP h.k1 + (h.z + c) + sumP h.k2 ≤ _; omega
      · rw [Joins.block_setCell hrW.blk]; rfl
      · exact spx_keep hrW.sp (hne Sp (fun e => hrW.n1.2.2 e.symm))
      · exact HD.out.keep _ _ _ _ _ _ hrW.below fun k hk => hne k (fun e => hrW.n1.1 (e ▸ hk))
      · exact HD.out.keep _ _ _ _ _ _ hrW.above fun k hk => hne k (fun e => hrW.n1.2.1 (e ▸ hk))
    have FIN := Lib.hid fin
    have uz : IntKind.u64.wrap (h.z + c) = h.z + c := by rw [IntKind.wrap_u64]; omega
    generalize h.z = z at *
    clear fin hst hr hS ho ht hw D HIX hib HO
    go_enter Tryd.func56, Tryd.ntmps56
    go_wp2_with fail
    refine HT.out.mono ?_
    rintro e w1 ⟨rfl, b1⟩
    have b2 := b1.alloc b1.size (.cells #[.int .u64 t, .int .u64 c] 23)
    go_wp2_with fail
    refine (plus_two t c (t + c) true _ _ _ ⟨by omega, by omega⟩ ⟨by omega, by omega⟩ (hd_two w1 _ _ _).1 (hd_two w1 _ _ _).2 P2.out P1.out).mono ?_
    rintro e w3 ⟨rfl, rfl⟩
    go_wp2_with fail
    refine (HI.out _ b2).mono ?_
    rintro e w4 ⟨rfl, b4⟩
    have b4 := b2.trans (b4.mono b2.size)
    obtain ⟨f1, f2, f3⟩ := FIN.out _ b4
    have F3 := Lib.hid f3
    clear f3
    go_wp2_with fail
    go_ret
    exact ⟨rfl, F3.out⟩
  · obtain ⟨i, hi⟩ : ∃ i, idxH L y = i := ⟨_, rfl⟩
    have hib2 := hib.2.2 h0
    have hPi : (Pt.spans d L T).idx (mag y) = i := by rw [← hi]; unfold idxH; rw [if_neg h0]; rfl
    rw [hi] at hib hib2
    have hii : 1 ≤ i ∧ i ≤ lastS L := ⟨hib2, hib.2.1⟩
    have i0 : (i == 0) = false := by simp; omega
    by_cases hn : y < 0
    · have HI := Lib.hid (fun W hb => HIX.out W hb i true hi (decide_eq_true hn))
      have HA := Lib.hid (fun W (hb : Below w.heap.size w W) => D.add W C1 S1 4096 h.k1 i c (D.call hr.below hb) (by omega) (by unfold I64; omega) ⟨by omega, by omega⟩)
      rw [sterr_ok c0 (by omega) (by omega), strow_ok c0 (by omega) (by omega)] at HA
      have hst : hdAdd (.spans d L T) h y c = { h with k1 := addP h.k1 i c } := by unfold hdAdd; rw [if_neg h0, if_pos hn, hPi]
      have hadd : sumP (addP h.k1 i c) = sumP h.k1 + c := add_sum (by have := count_le_sum i (ok_pos (D.stp _ _ _ _ _ hr.below).ok); omega)
      have fin : ∀ W W' S', Below w.heap.size w W → St W' C1 S' 4096 (addP h.k1 i c) → Keeps S1 W W' → (∀ k, S' k → S1 k ∨ W.heap.size ≤ k) → HdTo St w B S d L lim (hdAdd (.spans d L T) h y c) W' := fun W W' S' hb hst' hk hS' => by
        have hrW := HR.out.keep HD.out (w' := W) fun k hk => hb.block k (HR.out.lt HD.out k hk)
        rw [hst]
        refine ⟨hdS B Sp S' S2, ⟨⟨addp_in HO.out.i1 hii, HO.out.i2, HO.out.z0, ?_, HO.out.lo, HO.out.hi⟩, HW.out, Sp, C1, C2, S', S2, hrW.turn1 HD.out hk hst' hS', fun k => Iff.rfl⟩, keeps_then (Keeps.of_below hb) hk (fun k _ h => (HS.out k).2 (Or.inr (Or.inr (Or.inl h)))), fun k hk' => ?_⟩
        · show sumP (addP h.k1 i c) + h.z + sumP h.k2 ≤ _; rw [hadd]; omega
        · have hz' := hb.size
          rcases hk' with e | e | e | e
          · exact Or.inl ((HS.out k).2 (Or.inl e))
          · exact Or.inl ((HS.out k).2 (Or.inr (Or.inl e)))
          · rcases hS' k e with a | a
            · exact Or.inl ((HS.out k).2 (Or.inr (Or.inr (Or.inl a))))
            · exact Or.inr (by omega)
          · exact Or.inl ((HS.out k).2 (Or.inr (Or.inr (Or.inr e))))
      have FIN := Lib.hid fin
      clear fin hst hadd hr hS ho ht hw D HIX hib hib2 HO hi hPi hii
      go_enter Tryd.func56, Tryd.ntmps56
      go_wp2_with fail
      refine HT.out.mono ?_
      rintro e w1 ⟨rfl, b1⟩
      have b2 := b1.alloc b1.size (.cells #[.int .u64 t, .int .u64 c] 23)
      go_wp2_with fail
      refine (plus_two t c (t + c) true _ _ _ ⟨by omega, by omega⟩ ⟨by omega, by omega⟩ (hd_two w1 _ _ _).1 (hd_two w1 _ _ _).2 P2.out P1.out).mono ?_
      rintro e w3 ⟨rfl, rfl⟩
      go_wp2_with fail
      refine (HI.out _ b2).mono ?_
      rintro e w4 ⟨rfl, b4⟩
      have b4 := b2.trans (b4.mono b2.size)
      have q3 := (HC.out.call b4).c3
      have HB4 := Lib.hid b4
      clear b4
      go_wp2_with fail
      refine (HA.out _ HB4.out).mono ?_
      rintro e w5 ⟨S', rfl, hst', hk', hS'⟩
      have F := Lib.hid (FIN.out _ _ _ HB4.out hst' hk' hS')
      clear hst' hk' hS'
      go_wp2_with fail
      go_ret
      exact ⟨rfl, F.out⟩
    · have HI := Lib.hid (fun W hb => HIX.out W hb i false hi (decide_eq_false hn))
      have HA := Lib.hid (fun W (hb : Below w.heap.size w W) => D.add W C2 S2 4096 h.k2 i c (D.call hr.above hb) (by omega) (by unfold I64; omega) ⟨by omega, by omega⟩)
      rw [sterr_ok c0 (by omega) (by omega), strow_ok c0 (by omega) (by omega)] at HA
      have hst : hdAdd (.spans d L T) h y c = { h with k2 := addP h.k2 i c } := by unfold hdAdd; rw [if_neg h0, if_neg hn, hPi]
      have hadd : sumP (addP h.k2 i c) = sumP h.k2 + c := add_sum (by have := count_le_sum i (ok_pos (D.stp _ _ _ _ _ hr.above).ok); omega)
      have fin : ∀ W W' S', Below w.heap.size w W → St W' C2 S' 4096 (addP h.k2 i c) → Keeps S2 W W' → (∀ k, S' k → S2 k ∨ W.heap.size ≤ k) → HdTo St w B S d L lim (hdAdd (.spans d L T) h y c) W' := fun W W' S' hb hst' hk hS' => by
        have hrW := HR.out.keep HD.out (w' := W) fun k hk => hb.block k (HR.out.lt HD.out k hk)
        rw [hst]
        refine ⟨hdS B Sp S1 S', ⟨⟨HO.out.i1, addp_in HO.out.i2 hii, HO.out.z0, ?_, HO.out.lo, HO.out.hi⟩, HW.out, Sp, C1, C2, S1, S', hrW.turn2 HD.out hk hst' hS', fun k => Iff.rfl⟩, keeps_then (Keeps.of_below hb) hk (fun k _ h => (HS.out k).2 (Or.inr (Or.inr (Or.inr h)))), fun k hk' => ?_⟩
        · show sumP h.k1 + h.z + sumP (addP h.k2 i c) ≤ _; rw [hadd]; omega
        · have hz' := hb.size
          rcases hk' with e | e | e | e
          · exact Or.inl ((HS.out k).2 (Or.inl e))
          · exact Or.inl ((HS.out k).2 (Or.inr (Or.inl e)))
          · exact Or.inl ((HS.out k).2 (Or.inr (Or.inr (Or.inl e))))
          · rcases hS' k e with a | a
            · exact Or.inl ((HS.out k).2 (Or.inr (Or.inr (Or.inr a))))
            · exact Or.inr (by omega)
      have FIN := Lib.hid fin
      clear fin hst hadd hr hS ho ht hw D HIX hib hib2 HO hi hPi hii
      go_enter Tryd.func56, Tryd.ntmps56
      go_wp2_with fail
      refine HT.out.mono ?_
      rintro e w1 ⟨rfl, b1⟩
      have b2 := b1.alloc b1.size (.cells #[.int .u64 t, .int .u64 c] 23)
      go_wp2_with fail
      refine (plus_two t c (t + c) true _ _ _ ⟨by omega, by omega⟩ ⟨by omega, by omega⟩ (hd_two w1 _ _ _).1 (hd_two w1 _ _ _).2 P2.out P1.out).mono ?_
      rintro e w3 ⟨rfl, rfl⟩
      go_wp2_with fail
      refine (HI.out _ b2).mono ?_
      rintro e w4 ⟨rfl, b4⟩
      have b4 := b2.trans (b4.mono b2.size)
      have q4 := (HC.out.call b4).c4
      have HB4 := Lib.hid b4
      clear b4
      go_wp2_with fail
      refine (HA.out _ HB4.out).mono ?_
      rintro e w5 ⟨S', rfl, hst', hk', hS'⟩
      have F := Lib.hid (FIN.out _ _ _ HB4.out hst' hk' hS')
      clear hst' hk' hS'
      go_wp2_with fail
      go_ret
      exact ⟨rfl, F.out⟩

set_option maxHeartbeats 1000000 in
theorem hd_reach {St : World → Nat → (Nat → Prop) → Int → List PairV → Prop} (D : StripDoes St) {w : World} {B : Nat} {S : Nat → Prop} {d : Int} {L : Nat} {lim : Int} {h : Hd} (x : HdX St w B S d L lim h) (y z : Int) (b : Bool) (hy : I64 y) (hz : I64 z) :
    Calls Tryd.prog 55 #[.pointer (some ⟨B, 0, none⟩), .int .i64 y, .int .i64 z, .bool b] w fun e w' => e = .returned (.tuple #[]) ∧ HdTo St w B S d L lim { h with lo := reLo b y h.lo, hi := reHi b z h.hi } w' := by
  have HD := Lib.hid D
  obtain ⟨ho, hw, Sp, C1, C2, S1, S2, hr, hS⟩ := x
  obtain ⟨c0, c1, c2, c3, c4, c5, c6, c7⟩ := hr.cells
  have f6 : w.frozen? ⟨B, 6, none⟩ = false := Joins.unfrozen_of_block hr.blk 6
  have f7 : w.frozen? ⟨B, 7, none⟩ = false := Joins.unfrozen_of_block hr.blk 7
  have fin : ∀ (W : World), Below w.heap.size w W → HdTo St w B S d L lim { h with lo := reLo b y h.lo, hi := reHi b z h.hi } ((W.setCell ⟨B, 6, none⟩ (.int .i64 (reLo b y h.lo))).setCell ⟨B, 7, none⟩ (.int .i64 (reHi b z h.hi))) := fun W hb => by
    have hrW := hr.keep HD.out (w' := W) fun k hk => hb.block k (hr.lt HD.out k hk)
    have hne : ∀ k, k ≠ B → ((W.setCell ⟨B, 6, none⟩ (.int .i64 (reLo b y h.lo))).setCell ⟨B, 7, none⟩ (.int .i64 (reHi b z h.hi))).heap[k]? = W.heap[k]? := fun k hk => by
      rw [Below.heap_setCell _ _ _ k hk, Below.heap_setCell _ _ _ k hk]
    refine ⟨S, ⟨⟨ho.i1, ho.i2, ho.z0, ho.tot, (re_i64 hy ho.lo).1, (re_i64 hz ho.hi).2⟩, hw, Sp, C1, C2, S1, S2, ⟨?_, ?_, ?_, ?_, hrW.n1, hrW.n2, hrW.n3⟩, hS⟩, keeps_then (Keeps.of_below hb) (keeps_then (keeps_put (S := S) ((hS B).2 (Or.inl rfl))) (keeps_put (S := S) ((hS B).2 (Or.inl rfl))) (fun k _ h => h)) (fun k _ h => h), fun k hk => Or.inl hk⟩
    · rw [Joins.block_setCell (Joins.block_setCell hrW.blk _)]; rfl
    · exact spx_keep hrW.sp (hne Sp (fun e => hrW.n1.2.2 e.symm))
    · exact HD.out.keep _ _ _ _ _ _ hrW.below fun k hk => hne k (fun e => hrW.n1.1 (e ▸ hk))
    · exact HD.out.keep _ _ _ _ _ _ hrW.above fun k hk => hne k (fun e => hrW.n1.2.1 (e ▸ hk))
  have FIN := Lib.hid fin
  clear fin hr hS ho hw
  obtain ⟨y0, y1⟩ := hy
  obtain ⟨z0, z1⟩ := hz
  cases b with
  | true =>
    have e1 : reLo true y h.lo = min y h.lo := rfl
    have e2 : reHi true z h.hi = max z h.hi := rfl
    rw [e1, e2] at FIN
    rw [e1, e2]
    clear e1 e2
    generalize h.lo = lo at *
    generalize h.hi = hi at *
    go_enter Tryd.func55, Tryd.ntmps55
    go_wp2_with fail
    go_quiet (fail)
    go_wp2_with fail
    have hdr : Below w.heap.size w (w.drewN nq) := below_drewN (Below.refl _ _) nq
    first | exact bodyPost_ret (results_none rfl _ _ _) rfl ⟨rfl, FIN.out _ hdr⟩ | exact bodyPost_end (results_none rfl _ _ _) rfl ⟨rfl, FIN.out _ hdr⟩
  | false =>
    have e1 : reLo false y h.lo = y := rfl
    have e2 : reHi false z h.hi = z := rfl
    rw [e1, e2] at FIN
    rw [e1, e2]
    clear e1 e2
    go_enter Tryd.func55, Tryd.ntmps55
    go_wp2_with fail
    first | exact bodyPost_ret (results_none rfl _ _ _) rfl ⟨rfl, FIN.out _ (Below.refl _ _)⟩ | exact bodyPost_end (results_none rfl _ _ _) rfl ⟨rfl, FIN.out _ (Below.refl _ _)⟩

set_option maxHeartbeats 400000 in
theorem hd_put_nil (w : World) (y c : Int) : Calls Tryd.prog 26 #[.pointer none, .int .i64 y, .int .u64 c] w fun e w' => e = .returned (.int .i64 2) ∧ Below w.heap.size w w' := by
  go_enter Tryd.func26, Tryd.ntmps26
  go_wp2_with fail
  go_ret
  exact ⟨rfl, Below.refl _ _⟩

set_option maxHeartbeats 400000 in
theorem hd_put_arg (w : World) (B : Nat) (y : Int) : Calls Tryd.prog 26 #[.pointer (some ⟨B, 0, none⟩), .int .i64 y, .int .u64 0] w fun e w' => e = .returned (.int .i64 1) ∧ Below w.heap.size w w' := by
  go_enter Tryd.func26, Tryd.ntmps26
  go_wp2_with fail
  go_ret
  exact ⟨rfl, Below.refl _ _⟩

set_option maxHeartbeats 400000 in
theorem hd_put_range {w : World} {B : Nat} {lim : Int} (h1 : w.cell? ⟨B, 1, none⟩ = some (.int .u64 lim)) (y c : Int) (hy : I64 y) (c0 : 0 < c) (hb : takB lim y = false) :
    Calls Tryd.prog 26 #[.pointer (some ⟨B, 0, none⟩), .int .i64 y, .int .u64 c] w fun e w' => e = .returned (.int .i64 7) ∧ Below w.heap.size w w' := by
  have HT := Lib.hid (hd_takes h1 y hy false hb)
  have cz : (c == 0) = false := by simp; omega
  clear h1 hb
  go_enter Tryd.func26, Tryd.ntmps26
  go_wp2_with fail
  refine HT.out.mono ?_
  rintro e w1 ⟨rfl, b1⟩
  go_wp2_with fail
  go_ret
  exact ⟨rfl, b1⟩

set_option maxHeartbeats 1000000 in
theorem hd_put_full {St : World → Nat → (Nat → Prop) → Int → List PairV → Prop} (D : StripDoes St) {w : World} {B : Nat} {S : Nat → Prop} {d : Int} {L : Nat} {lim : Int} {h : Hd} (x : HdX St w B S d L lim h) (l1 : h.k1.length ≤ 900) (l2 : h.k2.length ≤ 900) (y c : Int) (hy : I64 y) (wc : Word c) (c0 : 0 < c) (hb : takB lim y = true) (hf : 9223372036854775807 - h.all < c) :
    Calls Tryd.prog 26 #[.pointer (some ⟨B, 0, none⟩), .int .i64 y, .int .u64 c] w fun e w' => e = .returned (.int .i64 6) ∧ Below w.heap.size w w' := by
  obtain ⟨a, b, hab, _⟩ := endsh_some h
  have HE := Lib.hid (fun W (hb : Below w.heap.size w W) => hd_ends D (x.call D hb) l1 l2 a b _ hab)
  have HA := Lib.hid (fun W (hb : Below w.heap.size w W) => hd_add_full D (x.call D hb) l1 l2 y c hy wc hf)
  obtain ⟨ho, hw, Sp, C1, C2, S1, S2, hr, hS⟩ := x
  have HT := Lib.hid (hd_takes hr.cells.c1 y hy true hb)
  have cz : (c == 0) = false := by simp; omega
  generalize (!(h.all == 0)) = sm at *
  clear hr hS ho hw hb hab hf
  go_enter Tryd.func26, Tryd.ntmps26
  go_wp2_with fail
  refine HT.out.mono ?_
  rintro e w1 ⟨rfl, b1⟩
  go_wp2_with fail
  refine (HE.out _ b1).mono ?_
  rintro e w2 ⟨rfl, b2⟩
  have b2 := b1.trans (b2.mono b1.size)
  go_wp2_with fail
  refine (HA.out _ b2).mono ?_
  rintro e w3 ⟨rfl, b3⟩
  have b3 := b2.trans (b3.mono b2.size)
  go_wp2_with fail
  go_ret
  exact ⟨rfl, b3⟩

theorem hdadd_ends (P : Pt) (h : Hd) (x c : Int) : (hdAdd P h x c).lo = h.lo ∧ (hdAdd P h x c).hi = h.hi := by
  unfold hdAdd; split
  · exact ⟨rfl, rfl⟩
  · split <;> exact ⟨rfl, rfl⟩
set_option maxHeartbeats 1000000 in
theorem hd_put_ok {St : World → Nat → (Nat → Prop) → Int → List PairV → Prop} (D : StripDoes St) {w : World} {B : Nat} {S : Nat → Prop} {d : Int} {L : Nat} {T lim : Int} {h : Hd} (hs : SpanP d L T) (x : HdX St w B S d L lim h) (l1 : h.k1.length ≤ 800) (l2 : h.k2.length ≤ 800) (y c : Int) (hy : I64 y) (c0 : 0 < c) (hb : takB lim y = true) (hf : h.all + c ≤ 9223372036854775807) :
    Calls Tryd.prog 26 #[.pointer (some ⟨B, 0, none⟩), .int .i64 y, .int .u64 c] w fun e w' => e = .returned (.int .i64 0) ∧ HdTo St w B S d L lim (hdPut (.spans d L T) h y c) w' := by
  obtain ⟨a, b, hab, _⟩ := endsh_some h
  have HD := Lib.hid D
  have HY := Lib.hid hy
  have HE := Lib.hid (fun W (hb : Below w.heap.size w W) => hd_ends D (x.call D hb) (by omega) (by omega) a b _ hab)
  have HA := Lib.hid (fun W (hb : Below w.heap.size w W) => hd_add_ok D hs (x.call D hb) l1 l2 y c hy c0 hf)
  obtain ⟨ho, hw, Sp, C1, C2, S1, S2, hr, hS⟩ := x
  have HT := Lib.hid (hd_takes hr.cells.c1 y hy true hb)
  have cz : (c == 0) = false := by simp; omega
  obtain ⟨e1, e2⟩ := hdadd_ends (.spans d L T) h y c
  have HP : Hid (hdPut (.spans d L T) h y c = { hdAdd (.spans d L T) h y c with lo := reLo (!(h.all == 0)) y (hdAdd (.spans d L T) h y c).lo, hi := reHi (!(h.all == 0)) y (hdAdd (.spans d L T) h y c).hi }) := Lib.hid (by rw [e1, e2]; rfl)
  rw [HP.out]
  generalize (!(h.all == 0)) = sm at *
  generalize hdAdd (.spans d L T) h y c = h2 at *
  clear hr hS ho hw hb hab hf e1 e2 D HP
  go_enter Tryd.func26, Tryd.ntmps26
  go_wp2_with fail
  refine HT.out.mono ?_
  rintro e w1 ⟨rfl, b1⟩
  go_wp2_with fail
  refine (HE.out _ b1).mono ?_
  rintro e w2 ⟨rfl, b2⟩
  have b2 := b1.trans (b2.mono b1.size)
  go_wp2_with fail
  refine (HA.out _ b2).mono ?_
  rintro e w3 ⟨rfl, ht⟩
  obtain ⟨S', hx3, hk3, hS3⟩ := ht
  have HX3 := Lib.hid hx3
  have HK3 := Lib.hid hk3
  have HS3 := Lib.hid hS3
  have HB2 := Lib.hid b2
  clear hx3 hk3 hS3 b2
  go_wp2_with fail
  refine (hd_reach HD.out HX3.out y y sm HY.out HY.out).mono ?_
  rintro e w4 ⟨rfl, ht4⟩
  have HT4 := Lib.hid (HdTo.after HB2.out (HdTo.then HK3.out HS3.out ht4))
  clear ht4
  go_wp2_with fail
  go_ret
  exact ⟨rfl, HT4.out⟩
end Go.Proofs.YtojincgbnjkegaaDoor

/-
  Walks: package hdr: at, Quantile, Rank; nil ones.
-/
namespace Go.Proofs.YtojincgbnjkegaaDoor
set_option linter.unusedVariables false
set_option linter.unusedSimpArgs false
open Go.RowKit

theorem ret_one {k : IntKind} {a b : Int} (h : a = b) : Ending.returned (.int k a) = .returned (.int k b) := by rw [h]
theorem ret_two15 {k : IntKind} {a b x y : Int} (h : a = x) (h' : b = y) : Ending.returned (.tuple #[.int k a, .int k b]) = .returned (.tuple #[.int k x, .int k y]) := by rw [h, h']
theorem ret_two16 {a b x y : Int} (h : a = x) (h' : b = y) : Ending.returned (.tuple #[.int .i64 a, .int .i64 b]) = .returned (.tuple #[.int .i64 x, .int .i64 y]) := by rw [h, h']
theorem seek_in (t : Int) : ∀ (L : List PairV) (s x : Int), seekP t s L = some x → ∃ p, p ∈ L ∧ p.1 = x := by
  intro L
  induction L with
  | nil => intro s x h; cases h
  | cons p r ih =>
    intro s x h
    have h : (if t ≤ s + p.2 then some p.1 else seekP t (s + p.2) r) = some x := h
    split at h
    · exact ⟨p, by simp, Option.some.inj h⟩
    · obtain ⟨q, hq, e⟩ := ih _ _ h
      exact ⟨q, List.mem_cons_of_mem _ hq, e⟩
theorem find_idx {K : List PairV} {n : Int} (hn : 0 ≤ n) (h : ∀ p, p ∈ K → 1 ≤ p.1 ∧ p.1 ≤ n) (t : Int) : 0 ≤ (findP K t).getD 0 ∧ (findP K t).getD 0 ≤ n := by
  cases hf : findP K t with
  | none => exact ⟨Int.le_refl _, hn⟩
  | some i =>
    unfold findP at hf
    split at hf
    · obtain ⟨p, hp, e⟩ := seek_in _ _ _ _ hf
      have := h p hp
      show 0 ≤ i ∧ i ≤ n
      omega
    · cases hf
theorem rep_of15 (d : Int) {L : Nat} (T : Int) (hL : L ≤ 14) (i : Int) : 0 ≤ (Pt.spans d L T).rep i ∧ (Pt.spans d L T).rep i ≤ 9223372036854775808 := by
  show 0 ≤ (if 1 ≤ i ∧ i ≤ lastS L then midS (lowI L i) (highI L i) else 0) ∧ (if 1 ≤ i ∧ i ≤ lastS L then midS (lowI L i) (highI L i) else 0) ≤ 9223372036854775808
  by_cases h : 1 ≤ i ∧ i ≤ lastS L
  · obtain ⟨a, b, c⟩ := high_in L h.1 h.2 hL
    have := mid_in b
    rw [if_pos h]; omega
  · rw [if_neg h]; omega
theorem hd_rep {w : World} {Sp : Nat} {d : Int} {L : Nat} {T : Int} (hs : SpanP d L T) (h : SpX w Sp d L) (i : Int) (hi : I64 i) (r : Int) (hr : (Pt.spans d L T).rep i = r) :
    Calls Tryd.prog 64 #[.pointer (some ⟨Sp, 0, none⟩), .int .i64 i] w fun e w' => e = .returned (.int .u64 r) ∧ Below w.heap.size w w' := by
  have hr : (if 1 ≤ i ∧ i ≤ lastS L then midS (lowI L i) (highI L i) else 0) = r := hr
  by_cases hc : 1 ≤ i ∧ i ≤ lastS L
  · rw [if_pos hc] at hr
    refine (srep_any w Sp d L T i hs h hc.1 hc.2).mono ?_
    rintro e w' ⟨rfl, n, rfl⟩
    exact ⟨by rw [hr], below_drewN (Below.refl _ _) _⟩
  · rw [if_neg hc] at hr
    refine (srep_out w Sp d L T i hs h hi hc).mono ?_
    rintro e w' ⟨rfl, n, rfl⟩
    exact ⟨by rw [hr], below_drewN (Below.refl _ _) _⟩

set_option maxRecDepth 100000 in
set_option maxHeartbeats 2000000 in
theorem hd_at {St : World → Nat → (Nat → Prop) → Int → List PairV → Prop} (D : StripDoes St) {w : World} {B : Nat} {S : Nat → Prop} {d : Int} {L : Nat} {T lim : Int} {h : Hd} (hs : SpanP d L T) (x : HdX St w B S d L lim h) (l1 : h.k1.length ≤ 900) (l2 : h.k2.length ≤ 900) (t r : Int) (wt : Word t) (hr' : atH (.spans d L T) h t = r) :
    Calls Tryd.prog 35 #[.pointer (some ⟨B, 0, none⟩), .int .u64 t] w fun e w' => e = .returned (.int .i64 r) ∧ Below w.heap.size w w' := by
  have hL := (spanp_log hs).2
  have hlb := lasts_bd L hL
  obtain ⟨ho, hw, Sp, C1, C2, S1, S2, hr, hS⟩ := x
  have HC := Lib.hid hr.cells
  have HSP := Lib.hid hr.sp
  obtain ⟨s1, s2⟩ := hd_sums D hr
  have hz := ho.z0
  have ht := ho.tot
  unfold Hd.all at ht
  have HT1 := Lib.hid (fun W (hb : Below w.heap.size w W) => D.total W C1 S1 4096 h.k1 (D.call hr.below hb) l1)
  have HF1 := Lib.hid (fun W (hb : Below w.heap.size w W) u (wu : Word u) => D.find W C1 S1 4096 h.k1 u (D.call hr.below hb) l1 wu)
  have HF2 := Lib.hid (fun W (hb : Below w.heap.size w W) u (wu : Word u) => D.find W C2 S2 4096 h.k2 u (D.call hr.above hb) l2 wu)
  have HI1 := Lib.hid (fun u => find_idx (by omega) ho.i1 u)
  have HI2 := Lib.hid (fun u => find_idx (by omega) ho.i2 u)
  unfold atH at hr'
  obtain ⟨w0, w1⟩ := wt
  have hc5 := hr.cells.c5
  have hc3 := hr.cells.c3
  clear hS ho
  generalize sumP h.k1 = a at *
  generalize sumP h.k2 = b at *
  generalize h.z = z at *
  have u1 : IntKind.u64.wrap (a + z) = a + z := by rw [IntKind.wrap_u64]; omega
  by_cases c1 : t ≤ a
  · rw [if_pos c1] at hr'
    obtain ⟨i, hi⟩ : ∃ i, (findP h.k1 (a - t + 1)).getD 0 = i := ⟨_, rfl⟩
    have hib := HI1.out (a - t + 1)
    have HF := Lib.hid (fun W hb => HF1.out W hb (a - t + 1) (by unfold Word; omega))
    rw [hi] at hr' HF hib
    generalize (findP h.k1 (a - t + 1)).isSome = fb at *
    obtain ⟨rp, hrp⟩ : ∃ rp, (Pt.spans d L T).rep i = rp := ⟨_, rfl⟩
    obtain ⟨r0, r1⟩ := rep_of15 d T hL i
    rw [hrp] at hr' r0 r1
    have HR := Lib.hid (fun W (hb : Below w.heap.size w W) => hd_rep hs (spx_call HSP.out hb) i (by unfold I64; omega) rp hrp)
    have HV := Lib.hid (fun W => hd_value W rp true r0 r1 r hr')
    have u2 : IntKind.u64.wrap (a - t) = a - t := by rw [IntKind.wrap_u64]; omega
    have u3 : IntKind.u64.wrap (a - t + 1) = a - t + 1 := by rw [IntKind.wrap_u64]; omega
    have u4 : 0 ≤ a - t := by omega
    clear hi hrp hr' HF1 HF2 HI1 HI2 hr
    go_enter Tryd.func35, Tryd.ntmps35
    go_wp2_with fail
    refine (HT1.out _ (Below.refl _ _)).mono ?_
    rintro e w1' ⟨rfl, b1⟩
    have q5 := cell_later b1 hc5
    have q3 := cell_later b1 hc3
    clear hc5 hc3
    go_wp2_with fail
    refine (HF.out _ b1).mono ?_
    rintro e w2 ⟨rfl, b2⟩
    have b2 := b1.trans (b2.mono b1.size)
    have q2 := (HC.out.call b2).c2
    clear q5 q3
    go_wp2_with fail
    refine (HR.out _ b2).mono ?_
    rintro e w3 ⟨rfl, b3⟩
    have b3 := b2.trans (b3.mono b2.size)
    go_wp2_with fail
    refine (HV.out _).mono ?_
    rintro e w4 ⟨rfl, rfl⟩
    go_wp2_with fail
    go_ret
    exact ⟨rfl, b3⟩
  · rw [if_neg c1] at hr'
    by_cases c2 : t ≤ a + z
    · rw [if_pos c2] at hr'
      subst hr'
      clear HF1 HF2 HI1 HI2 hr
      go_enter Tryd.func35, Tryd.ntmps35
      go_wp2_with fail
      refine (HT1.out _ (Below.refl _ _)).mono ?_
      rintro e w1' ⟨rfl, b1⟩
      have q5 := cell_later b1 hc5
      clear hc5 hc3
      go_wp2_with fail
      go_ret
      exact ⟨rfl, b1⟩
    · rw [if_neg c2] at hr'
      obtain ⟨i, hi⟩ : ∃ i, (findP h.k2 (t - (a + z))).getD 0 = i := ⟨_, rfl⟩
      have hib := HI2.out (t - (a + z))
      have HF := Lib.hid (fun W hb => HF2.out W hb (t - (a + z)) (by unfold Word; omega))
      rw [hi] at hr' HF hib
      generalize (findP h.k2 (t - (a + z))).isSome = fb at *
      obtain ⟨rp, hrp⟩ : ∃ rp, (Pt.spans d L T).rep i = rp := ⟨_, rfl⟩
      obtain ⟨r0, r1⟩ := rep_of15 d T hL i
      rw [hrp] at hr' r0 r1
      have HR := Lib.hid (fun W (hb : Below w.heap.size w W) => hd_rep hs (spx_call HSP.out hb) i (by unfold I64; omega) rp hrp)
      have HV := Lib.hid (fun W => hd_value W rp false r0 r1 r hr')
      have u2 : IntKind.u64.wrap (t - (a + z)) = t - (a + z) := by rw [IntKind.wrap_u64]; omega
      have u4 : 0 ≤ t - (a + z) := by omega
      have hc4 := hr.cells.c4
      clear hi hrp hr' HF1 HF2 HI1 HI2 hr
      go_enter Tryd.func35, Tryd.ntmps35
      go_wp2_with fail
      refine (HT1.out _ (Below.refl _ _)).mono ?_
      rintro e w1' ⟨rfl, b1⟩
      have q5 := cell_later b1 hc5
      have q4 := cell_later b1 hc4
      clear hc5 hc3 hc4
      go_wp2_with fail
      refine (HF.out _ b1).mono ?_
      rintro e w2 ⟨rfl, b2⟩
      have b2 := b1.trans (b2.mono b1.size)
      have q2 := (HC.out.call b2).c2
      clear q5 q4
      go_wp2_with fail
      refine (HR.out _ b2).mono ?_
      rintro e w3 ⟨rfl, b3⟩
      have b3 := b2.trans (b3.mono b2.size)
      go_wp2_with fail
      refine (HV.out _).mono ?_
      rintro e w4 ⟨rfl, rfl⟩
      go_wp2_with fail
      go_ret
      exact ⟨rfl, b3⟩

set_option maxRecDepth 100000 in
set_option maxHeartbeats 2000000 in
theorem hd_quan {St : World → Nat → (Nat → Prop) → Int → List PairV → Prop} (D : StripDoes St) {w : World} {B : Nat} {S : Nat → Prop} {d : Int} {L : Nat} {T lim : Int} {h : Hd} (hs : SpanP d L T) (x : HdX St w B S d L lim h) (l1 : h.k1.length ≤ 900) (l2 : h.k2.length ≤ 900) (pa pb r c : Int) (wa : Word pa) (wb : Word pb) (he : quanD (.spans d L T) h pa pb = (r, c)) :
    Calls Tryd.prog 11 #[.pointer (some ⟨B, 0, none⟩), .agg #[.int .u64 pa, .int .u64 pb]] w fun e w' => e = .returned (.tuple #[.int .i64 r, .int .i64 c]) ∧ Below w.heap.size w w' := by
  have HX := Lib.hid x
  obtain ⟨ho, hw, Sp, C1, C2, S1, S2, hr, hS⟩ := id x
  have HC := Lib.hid hr.cells
  obtain ⟨s1, s2⟩ := hd_sums D hr
  have hz := ho.z0
  have ht := ho.tot
  have wn : Word h.all := by unfold Word Hd.all at *; omega
  have HTO := Lib.hid (fun W (hb : Below w.heap.size w W) => hd_total D (x.call D hb) l1 l2 h.all rfl)
  have HPL := Lib.hid (fun W => place_any pa pb h.all wa wb wn W)
  have HAT := Lib.hid (fun W (hb : Below w.heap.size w W) t (wt : Word t) => hd_at D hs (x.call D hb) l1 l2 t _ wt rfl)
  have hwv := pl_word (n := h.all) wa wb wn
  unfold quanD at he
  generalize h.all = n at *
  generalize plV pa pb n = t at *
  generalize plE pa pb n = c' at *
  have HHE := Lib.hid he
  have HS0 : Hid ((w.alloc (.cells #[.int .u64 pa, .int .u64 pb] 25)).drew.cell? ⟨w.heap.size, 0, none⟩ = some (.int .u64 pa) ∧ (w.alloc (.cells #[.int .u64 pa, .int .u64 pb] 25)).drew.cell? ⟨w.heap.size, 1, none⟩ = some (.int .u64 pb) ∧ Below w.heap.size w (w.alloc (.cells #[.int .u64 pa, .int .u64 pb] 25)).drew) := Lib.hid ⟨by go_simp, by go_simp, ((Below.refl _ _).alloc (Nat.le_refl _) _).drew⟩
  have HST := Lib.hid (fun (W W' : World) (h : W.cell? ⟨w.heap.size, 0, none⟩ = some (.int .u64 pa) ∧ W.cell? ⟨w.heap.size, 1, none⟩ = some (.int .u64 pb) ∧ Below w.heap.size w W) (hb : Below W.heap.size W W') => (⟨cell_later hb h.1, cell_later hb h.2.1, h.2.2.trans (hb.mono h.2.2.size)⟩ : W'.cell? ⟨w.heap.size, 0, none⟩ = some (.int .u64 pa) ∧ W'.cell? ⟨w.heap.size, 1, none⟩ = some (.int .u64 pb) ∧ Below w.heap.size w W'))
  have HLO := Lib.hid ho.lo
  have HHI := Lib.hid ho.hi
  generalize h.lo = lo at *
  generalize h.hi = hi at *
  clear he ht hr hS ho x wn hz
  by_cases z : c' = 0
  · subst z
    have he := HHE.out
    rw [if_pos rfl] at he
    have HA := Lib.hid (fun W hb => HAT.out W hb t hwv)
    generalize atH (.spans d L T) h t = y at *
    have he : (clampV lo hi y, 0) = (r, c) := he
    obtain ⟨h2, rfl⟩ : clampV lo hi y = r ∧ 0 = c := by simpa using he
    have HE2 : Hid (min (max y lo) hi = r) := Lib.hid h2
    have HS1 := Lib.hid (fun (W W' : World) (h : W.cell? ⟨B, 6, none⟩ = some (.int .i64 lo) ∧ W.cell? ⟨B, 7, none⟩ = some (.int .i64 hi) ∧ Below w.heap.size w W) (hb : Below W.heap.size W W') => (⟨cell_later hb h.1, cell_later hb h.2.1, h.2.2.trans (hb.mono h.2.2.size)⟩ : W'.cell? ⟨B, 6, none⟩ = some (.int .i64 lo) ∧ W'.cell? ⟨B, 7, none⟩ = some (.int .i64 hi) ∧ Below w.heap.size w W'))
    have HS2 := Lib.hid (fun (W : World) (hb : Below w.heap.size w W) => (⟨(HC.out.call hb.drew).c6, (HC.out.call hb.drew).c7, hb.drew⟩ : W.drew.cell? ⟨B, 6, none⟩ = some (.int .i64 lo) ∧ W.drew.cell? ⟨B, 7, none⟩ = some (.int .i64 hi) ∧ Below w.heap.size w W.drew))
    clear he HHE h2 HAT
    go_enter Tryd.func11, Tryd.ntmps11
    go_wp2_with fail
    go_region_held3 (fun w' => w'.cell? ⟨w.heap.size, 0, none⟩ = some (.int .u64 pa) ∧ w'.cell? ⟨w.heap.size, 1, none⟩ = some (.int .u64 pb) ∧ Below w.heap.size w w')
      (first | exact HS0.out | exact HST.out _ _ (by assumption) hbA | assumption)
      ((first
        | (go_at_call 27; refine (HTO.out _ (And.right (And.right (by assumption)))).mono ?_; rintro e wA ⟨rfl, hbA⟩)
        | (go_at_call 34; refine (HPL.out _).mono ?_; rintro e wA ⟨rfl, hbA⟩)))
    all_goals
      rename_i hHeld
      obtain ⟨_, _, b3⟩ := hHeld
      have HB3 := Lib.hid b3
      clear b3
      go_wp2_with fail
      go_region_held3 (fun w' => w'.cell? ⟨B, 6, none⟩ = some (.int .i64 lo) ∧ w'.cell? ⟨B, 7, none⟩ = some (.int .i64 hi) ∧ Below w.heap.size w w')
        (first | exact HS2.out _ HB3.out | exact HS1.out _ _ (by assumption) hbA | assumption)
        ((go_at_call 35; refine (HA.out _ (And.right (And.right (by assumption)))).mono ?_; rintro e wA ⟨rfl, hbA⟩))
      all_goals
        rename_i hHeld2
        obtain ⟨_, _, b4⟩ := hHeld2
        go_wp2_with fail
        go_ret2
        exact ⟨ret_two16 HE2.out rfl, b4⟩
  · have he := HHE.out
    rw [if_neg z] at he
    have z1 : (c' == 0) = false := by simp [z]
    obtain ⟨rfl, rfl⟩ : 0 = r ∧ c' = c := by simpa using he
    clear he HHE HAT
    go_enter Tryd.func11, Tryd.ntmps11
    go_wp2_with fail
    go_region_held3 (fun w' => w'.cell? ⟨w.heap.size, 0, none⟩ = some (.int .u64 pa) ∧ w'.cell? ⟨w.heap.size, 1, none⟩ = some (.int .u64 pb) ∧ Below w.heap.size w w')
      (first | exact HS0.out | exact HST.out _ _ (by assumption) hbA | assumption)
      ((first
        | (go_at_call 27; refine (HTO.out _ (And.right (And.right (by assumption)))).mono ?_; rintro e wA ⟨rfl, hbA⟩)
        | (go_at_call 34; refine (HPL.out _).mono ?_; rintro e wA ⟨rfl, hbA⟩)))
    all_goals
      rename_i hHeld
      obtain ⟨_, _, b3⟩ := hHeld
      have HB3 := Lib.hid b3
      clear b3
      go_wp2_with fail
      go_ret2
      exact ⟨rfl, HB3.out⟩

set_option maxHeartbeats 1000000 in
theorem hd_quan_nil (w : World) (pa pb : Int) : Calls Tryd.prog 11 #[.pointer none, .agg #[.int .u64 pa, .int .u64 pb]] w fun e w' => e = .returned (.tuple #[.int .i64 0, .int .i64 2]) ∧ Below w.heap.size w w' := by
  go_enter Tryd.func11, Tryd.ntmps11
  go_wp2_with fail
  go_ret2
  exact ⟨rfl, (Below.refl _ _).alloc (Nat.le_refl _) _⟩

set_option maxRecDepth 100000 in
set_option maxHeartbeats 2000000 in
theorem hd_rank {St : World → Nat → (Nat → Prop) → Int → List PairV → Prop} (D : StripDoes St) {w : World} {B : Nat} {S : Nat → Prop} {d : Int} {L : Nat} {T lim : Int} {h : Hd} (hs : SpanP d L T) (x : HdX St w B S d L lim h) (l1 : h.k1.length ≤ 900) (l2 : h.k2.length ≤ 900) (y n1 n2 : Int) (hy : I64 y) (he : rankH L h y = (n1, n2)) :
    Calls Tryd.prog 13 #[.pointer (some ⟨B, 0, none⟩), .int .i64 y] w fun e w' => e = .returned (.tuple #[.int .u64 n1, .int .u64 n2]) ∧ Below w.heap.size w w' := by
  have hlb := lasts_bd L (spanp_log hs).2
  have hib := idxh_bd hs hy
  have HIX := Lib.hid (fun W (hb : Below w.heap.size w W) i n hi hn => hd_index D hs (x.call D hb) y i n hy hi hn)
  obtain ⟨ho, hw, Sp, C1, C2, S1, S2, hr, hS⟩ := x
  have hc := hr.cells
  obtain ⟨s1, s2⟩ := hd_sums D hr
  have hz := ho.z0
  have ht := ho.tot
  unfold Hd.all at ht
  have o1 := ok_pos (D.stp _ _ _ _ _ hr.below).ok
  have o2 := ok_pos (D.stp _ _ _ _ _ hr.above).ok
  have HT1 := Lib.hid (fun W (hb : Below w.heap.size w W) => D.total W C1 S1 4096 h.k1 (D.call hr.below hb) l1)
  have HB1 := Lib.hid (fun W (hb : Below w.heap.size w W) i (hi : I64 i) => D.below W C1 S1 4096 h.k1 i (D.call hr.below hb) l1 hi)
  have HB2 := Lib.hid (fun W (hb : Below w.heap.size w W) i (hi : I64 i) => D.below W C2 S2 4096 h.k2 i (D.call hr.above hb) l2 hi)
  have HS := Lib.hid (hd_strips hc.c3 hc.c4)
  have HZ := Lib.hid (fun W (hb : Below w.heap.size w W) => hd_zero (cell_later hb hc.c5))
  unfold rankH at he
  obtain ⟨i, hi⟩ : ∃ i, idxH L y = i := ⟨_, rfl⟩
  rw [hi] at he hib
  have p1 := below_le i o1
  have p2 := below_le (i - 1) o1
  have p3 := below_le i o2
  have p4 := below_le (i - 1) o2
  have q1 : 0 ≤ belowP h.k1 i := by unfold belowP; exact sumP_pos fun q hq => o1 q (List.mem_filter.1 hq).1
  have q2 : 0 ≤ belowP h.k1 (i - 1) := by unfold belowP; exact sumP_pos fun q hq => o1 q (List.mem_filter.1 hq).1
  have q3 : 0 ≤ belowP h.k2 i := by unfold belowP; exact sumP_pos fun q hq => o2 q (List.mem_filter.1 hq).1
  have q4 : 0 ≤ belowP h.k2 (i - 1) := by unfold belowP; exact sumP_pos fun q hq => o2 q (List.mem_filter.1 hq).1
  have HB1a := Lib.hid (fun W hb => HB1.out W hb i (by unfold I64; omega))
  have HB1b := Lib.hid (fun W hb => HB1.out W hb (i - 1) (by unfold I64; omega))
  have HB2a := Lib.hid (fun W hb => HB2.out W hb i (by unfold I64; omega))
  have HB2b := Lib.hid (fun W hb => HB2.out W hb (i - 1) (by unfold I64; omega))
  generalize sumP h.k1 = a at *
  generalize sumP h.k2 = b at *
  generalize h.z = z at *
  generalize belowP h.k1 i = e1 at *
  generalize belowP h.k1 (i - 1) = e2 at *
  generalize belowP h.k2 i = e3 at *
  generalize belowP h.k2 (i - 1) = e4 at *
  have v1 : IntKind.i64.wrap (i - 1) = i - 1 := by rw [IntKind.wrap_i64]; omega
  clear o1 o2 hc hr hS ho HB1 HB2
  by_cases hn : y < 0
  · have hd : decide (y < 0) = true := decide_eq_true hn
    have HI := Lib.hid (fun W hb => HIX.out W hb i true hi hd)
    rw [if_pos hn] at he
    have he1 : a - e1 = n1 := congrArg Prod.fst he
    have he2 : a - e2 = n2 := congrArg Prod.snd he
    subst he1 he2
    have k1 : 0 ≤ a - e1 := by omega
    have k2 : 0 ≤ a - e2 := by omega
    clear HIX hi hd he HB2a HB2b
    go_enter Tryd.func13, Tryd.ntmps13
    go_wp2_with fail
    refine HS.out.mono ?_
    rintro e w1 ⟨rfl, b1⟩
    go_wp2_with fail
    refine (HT1.out _ b1).mono ?_
    rintro e w2 ⟨rfl, b2⟩
    have b2 := b1.trans (b2.mono b1.size)
    go_wp2_with fail
    refine (HZ.out _ b2).mono ?_
    rintro e w3 ⟨rfl, b3⟩
    have b3 := b2.trans (b3.mono b2.size)
    go_wp2_with fail
    refine (HI.out _ b3).mono ?_
    rintro e w4 ⟨rfl, b4⟩
    have b4 := b3.trans (b4.mono b3.size)
    go_wp2_with fail
    refine (HT1.out _ b4).mono ?_
    rintro e w5 ⟨rfl, b5⟩
    have b5 := b4.trans (b5.mono b4.size)
    go_wp2_with fail
    refine (HB1a.out _ b5).mono ?_
    rintro e w6 ⟨rfl, b6⟩
    have b6 := b5.trans (b6.mono b5.size)
    go_wp2_with fail
    refine (HT1.out _ b6).mono ?_
    rintro e w7 ⟨rfl, b7⟩
    have b7 := b6.trans (b7.mono b6.size)
    go_wp2_with fail
    refine (HB1b.out _ b7).mono ?_
    rintro e w8 ⟨rfl, b8⟩
    have b8 := b7.trans (b8.mono b7.size)
    go_wp2_with fail
    go_ret2
    exact ⟨rfl, b8⟩
  · have hd : decide (y < 0) = false := decide_eq_false hn
    have HI := Lib.hid (fun W hb => HIX.out W hb i false hi hd)
    rw [if_neg hn] at he
    have he1 : a + z + e4 = n1 := congrArg Prod.fst he
    have he2 : a + z + e3 = n2 := congrArg Prod.snd he
    subst he1 he2
    clear HIX hi hd he HB1a HB1b
    go_enter Tryd.func13, Tryd.ntmps13
    go_wp2_with fail
    refine HS.out.mono ?_
    rintro e w1 ⟨rfl, b1⟩
    go_wp2_with fail
    refine (HT1.out _ b1).mono ?_
    rintro e w2 ⟨rfl, b2⟩
    have b2 := b1.trans (b2.mono b1.size)
    go_wp2_with fail
    refine (HZ.out _ b2).mono ?_
    rintro e w3 ⟨rfl, b3⟩
    have b3 := b2.trans (b3.mono b2.size)
    go_wp2_with fail
    refine (HI.out _ b3).mono ?_
    rintro e w4 ⟨rfl, b4⟩
    have b4 := b3.trans (b4.mono b3.size)
    go_wp2_with fail
    refine (HB2b.out _ b4).mono ?_
    rintro e w5 ⟨rfl, b5⟩
    have b5 := b4.trans (b5.mono b4.size)
    go_wp2_with fail
    refine (HB2a.out _ b5).mono ?_
    rintro e w6 ⟨rfl, b6⟩
    have b6 := b5.trans (b6.mono b5.size)
    go_wp2_with fail
    go_ret2
    exact ⟨rfl, b6⟩

set_option maxHeartbeats 1000000 in
theorem hd_rank_nil (N : StripNil) (w : World) (y : Int) : Calls Tryd.prog 13 #[.pointer none, .int .i64 y] w fun e w' => e = .returned (.tuple #[.int .u64 0, .int .u64 0]) ∧ Below w.heap.size w w' := by
  have HN := Lib.hid N
  have HBm := Lib.hid (fun W => N.below W (-1) (by unfold I64; omega))
  have HB0 := Lib.hid (fun W => N.below W 0 (by unfold I64; omega))
  clear N
  go_enter Tryd.func13, Tryd.ntmps13
  go_wp2_with fail
  refine (hd_strips_nil _).mono ?_
  rintro e w1 ⟨rfl, b1⟩
  go_wp2_with fail
  refine (HN.out.total _).mono ?_
  rintro e w2 ⟨rfl, b2⟩
  have b2 := b1.trans (b2.mono b1.size)
  go_wp2_with fail
  refine (hd_zero_nil _).mono ?_
  rintro e w3 ⟨rfl, b3⟩
  have b3 := b2.trans (b3.mono b2.size)
  go_wp2_with fail
  refine (hd_index_nil _ _).mono ?_
  rintro e w4 ⟨rfl, b4⟩
  have b4 := b3.trans (b4.mono b3.size)
  go_wp2_with fail
  refine (HBm.out _).mono ?_
  rintro e w5 ⟨rfl, b5⟩
  have b5 := b4.trans (b5.mono b4.size)
  go_wp2_with fail
  refine (HB0.out _).mono ?_
  rintro e w6 ⟨rfl, b6⟩
  have b6 := b5.trans (b6.mono b5.size)
  go_wp2_with fail
  go_ret2
  exact ⟨rfl, b6⟩
end Go.Proofs.YtojincgbnjkegaaDoor

/-
  Walk: wide.Plus of a row of numbers; of three.
-/
namespace Go.Proofs.YtojincgbnjkegaaDoor
set_option linter.unusedVariables false
set_option linter.unusedSimpArgs false
open Go.RowKit

set_option maxHeartbeats 400000 in
theorem plusn_any (xs : List Int) (b off cap : Nat) (w : World) (hm : xs.length ≤ maxLen) (hw : ∀ x ∈ xs, Word x)
    (hcell : ∀ i x, xs[i]? = some x → w.cell? ⟨b, off + i, none⟩ = some (.int .u64 x)) :
    Calls Tryd.prog 60 #[.slice (some ⟨b, off, none⟩) xs.length cap] w fun e w' =>
      e = .returned (.tuple #[.int .u64 (plQ xs), .bool (plB xs)]) ∧ w = w' := by
  unfold maxLen at hm
  have hpos : ∀ x ∈ xs, 0 ≤ x := fun x hx => (hw x hx).1
  have Hpos := Lib.hid hpos
  have Hw := Lib.hid hw
  have Hcell := Lib.hid hcell
  clear hpos hw hcell
  go_enter Tryd.func60, Tryd.ntmps60
  go_wp2_with fail
  go_loop [4, 9] (fun s i => ∃ k : Nat, k ≤ xs.length ∧ i = .int .i64 k ∧ s = .int .u64 (sumI (xs.take k)) ∧ sumI (xs.take k) ≤ 9223372036854775807) (fun _ i => xs.length - (intOf i).toNat)
  case atStart => exact ⟨0, Nat.zero_le _, rfl, rfl, by simp [sumI]⟩
  case round =>
    obtain ⟨k, hk, rfl, rfl, hs⟩ := hrel
    have s0 : 0 ≤ sumI (xs.take k) := sumI_nonneg (fun x hx => Hpos.out x (List.mem_of_mem_take hx))
    by_cases hlt : k < xs.length
    · obtain ⟨x, hx⟩ : ∃ x, xs[k]? = some x := ⟨_, List.getElem?_eq_getElem hlt⟩
      have e1 := Hcell.out k x hx
      have HS := Lib.hid (sumI_take hx)
      obtain ⟨x0, x1⟩ := Hw.out x (List.mem_of_getElem? hx)
      have HM := Lib.hid (sumI_mono Hpos.out (k + 1))
      clear hx
      generalize sumI (xs.take k) = s at *
      by_cases hg : 9223372036854775807 - s < x
      · have e : plB xs = false := by
          have a := HS.out; have b := HM.out
          unfold plB; apply decide_eq_false; omega
        have e2 : plQ xs = 0 := by unfold plQ; rw [e]; rfl
        have E := Lib.hid e; have E2 := Lib.hid e2
        clear e e2
        go_wp2_with fail
        exact bodyPost_ret (v := .tuple #[.int .u64 0, .bool false]) (by simp [results, Tryd.results60, go_sem]) rfl ⟨by rw [E.out, E2.out], rfl⟩
      · go_wp2_with fail
        go_round
        case rel => exact ⟨k + 1, by omega, by go_num, by rw [HS.out], by rw [HS.out]; omega⟩
        case measure => simp [intOf]; omega
    · obtain rfl : k = xs.length := by omega
      rw [List.take_length] at *
      have e : plB xs = true := by unfold plB; exact decide_eq_true hs
      have e2 : plQ xs = sumI xs := by unfold plQ; rw [if_pos e]
      have E := Lib.hid e; have E2 := Lib.hid e2
      clear e e2
      go_wp2_with fail
      exact bodyPost_ret (v := .tuple #[.int .u64 (sumI xs), .bool true]) (by simp [results, Tryd.results60, go_sem]) rfl ⟨by rw [E.out, E2.out], rfl⟩

theorem plus_three (a b c q : Int) (ok : Bool) (g cap : Nat) (w : World) (wa : Word a) (wb : Word b) (wc : Word c) (h0 : w.cell? ⟨g, 0, none⟩ = some (.int .u64 a)) (h1 : w.cell? ⟨g, 1, none⟩ = some (.int .u64 b)) (h2 : w.cell? ⟨g, 2, none⟩ = some (.int .u64 c)) (hb : decide (a + b + c ≤ 9223372036854775807) = ok) (hq : (if ok = true then a + b + c else 0) = q) :
    Calls Tryd.prog 60 #[.slice (some ⟨g, 0, none⟩) 3 cap] w fun e w' => e = .returned (.tuple #[.int .u64 q, .bool ok]) ∧ w = w' := by
  have e : sumI [a, b, c] = a + b + c := by simp [sumI]; omega
  have e1 : plB [a, b, c] = ok := by unfold plB; rw [e]; exact hb
  have e2 : plQ [a, b, c] = q := by unfold plQ; rw [e1, e]; exact hq
  have := plusn_any [a, b, c] g 0 cap w (by show 3 ≤ maxLen; decide) (fun x hx => by
    rcases List.mem_cons.1 hx with rfl | hx
    · exact wa
    rcases List.mem_cons.1 hx with rfl | hx
    · exact wb
    rcases List.mem_cons.1 hx with rfl | hx
    · exact wc
    cases hx) (fun i x hi => by
    match i, hi with
    | 0, hi => cases hi; exact h0
    | 1, hi => cases hi; exact h1
    | 2, hi => cases hi; exact h2
    | n + 3, hi => simp at hi)
  rw [e1, e2] at this
  exact this
end Go.Proofs.YtojincgbnjkegaaDoor

/-
  Walks: package hdr: pour, load, Load, New.
-/
namespace Go.Proofs.YtojincgbnjkegaaDoor
set_option linter.unusedVariables false
set_option linter.unusedSimpArgs false
open Go.RowKit

theorem hd_pairs {S : Nat → Prop} {w w' : World} {A : Option Addr} {L : List PairV} (h : Pairs w A L) (k : Keeps S w w') (hA : ∀ b off, A = some ⟨b, off, none⟩ → L ≠ [] → ¬ S b) : Pairs w' A L := by
  refine ⟨h.ok, fun i p hi => ?_⟩
  obtain ⟨b, off, e, hlt, c0, c1⟩ := h.at_ i p hi
  have hne : L ≠ [] := by intro e'; rw [e'] at hi; simp at hi
  have hb := k.block b hlt (hA b off e hne)
  exact ⟨b, off, e, Nat.lt_of_lt_of_le hlt k.size, (World.cell?_of_block (a := ⟨b, off + i * 2, none⟩) hb).trans c0, (World.cell?_of_block (a := ⟨b, off + i * 2 + 1, none⟩) hb).trans c1⟩
theorem sum_take_le {L : List PairV} (h : ∀ p, p ∈ L → 0 ≤ p.2) (k : Nat) : 0 ≤ sumP (L.take k) ∧ sumP (L.take k) ≤ sumP L := sumP_take k h
theorem sum_step {L : List PairV} {k : Nat} {p : PairV} (h : L[k]? = some p) : sumP (L.take (k + 1)) = sumP (L.take k) + p.2 := by
  rw [take_snocP h, sumP_app, sumP_one]

/-- What pouring a row leaves. -/
def PourTo (St : World → Nat → (Nat → Prop) → Int → List PairV → Prop) (w : World) (C : Nat) (S : Nat → Prop) (K L : List PairV) (r : Bool) (w' : World) : Prop :=
  Keeps S w w' ∧ (r = true → ∃ S', St w' C S' 4096 (joinP K L) ∧ ∀ k, S' k → S k ∨ w.heap.size ≤ k)

set_option maxRecDepth 100000 in
set_option maxHeartbeats 4000000 in
theorem hd_pour {St : World → Nat → (Nat → Prop) → Int → List PairV → Prop} (D : StripDoes St) (w : World) (C : Nat) (S : Nat → Prop) (K : List PairV) (A : Option Addr) (cap : Nat) (L : List PairV) (h : St w C S 4096 K) (hP : Pairs w A L) (hpos : ∀ p, p ∈ L → 0 < p.2)
    (hA : ∀ b off, A = some ⟨b, off, none⟩ → L ≠ [] → ¬ S b) (hl : K.length + L.length ≤ 800) (r : Bool) (hr : pourB K L = r) :
    Calls Tryd.prog 79 #[.pointer (some ⟨C, 0, none⟩), .slice A L.length cap] w fun e w' => e = .returned (.bool r) ∧ PourTo St w C S K L r w' := by
  have HD := Lib.hid D
  have HH := Lib.hid h
  have HP := Lib.hid hP
  have HPOS := Lib.hid hpos
  have HA := Lib.hid hA
  have hst := D.stp _ _ _ _ _ h
  have HST := Lib.hid hst
  have hs0 := sumP_pos (ok_pos hst.ok)
  have hs1 := hst.sum
  have hp0 : ∀ p, p ∈ L → 0 ≤ p.2 := fun p hp => by have := hpos p hp; omega
  have HSL := Lib.hid (fun k => sum_take_le hp0 k)
  have HJ : Hid (∀ k, k ≤ L.length → sumP K + sumP (L.take k) ≤ 9223372036854775807 → sumP (joinP K (L.take k)) = sumP K + sumP (L.take k) ∧ (joinP K (L.take k)).length ≤ K.length + k) := Lib.hid fun k hk hsum => by
    have J := join_facts (L.take k) K hst.good hst.ok (fun p hp => ⟨hP.ok p (List.mem_of_mem_take hp), hpos p (List.mem_of_mem_take hp)⟩) hsum
    have := J.len
    have := List.length_take_le k L
    exact ⟨J.sum, by omega⟩
  have HR := Lib.hid hr
  unfold pourB at hr
  have HR2 := Lib.hid hr
  obtain ⟨n, hn⟩ : ∃ n : Nat, L.length = n := ⟨_, rfl⟩
  obtain ⟨nk, hnk⟩ : ∃ nk : Nat, K.length = nk := ⟨_, rfl⟩
  rw [hn, hnk] at hl
  rw [hn, hnk] at HJ
  rw [hn]
  have HN := Lib.hid hn
  generalize sumP K = sk at *
  clear h hP hpos hA hst hr hp0 hn hnk D HR
  go_enter Tryd.func79, Tryd.ntmps79
  go_wp2_with fail
  go_loopw [9] (fun j wr => ∃ (k : Nat) (Sk : Nat → Prop), k ≤ n ∧ j = .int .i64 k ∧ St wr C Sk 4096 (joinP K (L.take k)) ∧ Keeps S w wr ∧ (∀ i, Sk i → S i ∨ w.heap.size ≤ i) ∧ sk + sumP (L.take k) ≤ 9223372036854775807) (fun j _ => n - (intOf j).toNat)
  case atStart => exact ⟨0, S, Nat.zero_le _, rfl, HH.out, Keeps.refl S w, fun i hi => Or.inl hi, by rw [List.take_zero, sumP_nil]; omega⟩
  case round =>
    obtain ⟨k, Sk, hk, rfl, hst, hkp, hsk, hsum⟩ := hrel
    obtain ⟨j1, j2⟩ := HJ.out k hk hsum
    have HSK := Lib.hid hst
    have HKP := Lib.hid hkp
    have HSS := Lib.hid hsk
    have hz := hkp.size
    clear hst hkp hsk
    by_cases hlt : k < n
    · have kl : (k : Int) < n := by omega
      have hxk : L[k]? = some (L[k]'(by rw [HN.out]; exact hlt)) := List.getElem?_eq_getElem _
      generalize hit : L[k]'(by rw [HN.out]; exact hlt) = p at *
      obtain ⟨px, pc⟩ := p
      have hPr := hd_pairs HP.out HKP.out HA.out
      obtain ⟨bb, off, rfl, hbl, c0, c1⟩ := hPr.at_ k _ hxk
      have hok := HP.out.ok _ (List.mem_of_getElem? hxk)
      have hpc := HPOS.out _ (List.mem_of_getElem? hxk)
      have HIX := Lib.hid hok.1
      have HCW := Lib.hid hok.2
      have HXK := Lib.hid hxk
      obtain ⟨⟨o1, o2⟩, o3, o4⟩ := hok
      simp only at c0 c1 o1 o2 o3 o4 hpc HIX HCW
      have hbn : Below wr.heap.size wr (wr.alloc (.cells #[.int .i64 px, .int .u64 pc] 77)) := (Below.refl _ _).alloc (Nat.le_refl _) _
      have hadd := HD.out.add _ C Sk 4096 (joinP K (L.take k)) px pc (HD.out.call HSK.out hbn) (by omega) HIX.out HCW.out
      have HBN := Lib.hid hbn
      have hzn : (wr.alloc (.cells #[.int .i64 px, .int .u64 pc] 77)).heap.size = wr.heap.size + 1 := by simp
      have HZN := Lib.hid hzn
      clear hxk hit hPr hbn hzn
      by_cases hfit : sk + sumP (L.take k) + pc ≤ 9223372036854775807
      · rw [sterr_ok hpc (by omega) (by omega), strow_ok hpc (by omega) (by omega)] at hadd
        have HADD := Lib.hid hadd
        have HJT : Hid (joinP K (L.take (k + 1)) = addP (joinP K (L.take k)) px pc) := Lib.hid (join_take HXK.out)
        have HSUM : Hid (sumP (L.take (k + 1)) = sumP (L.take k) + pc) := Lib.hid (sum_step HXK.out)
        generalize sumP (L.take k) = sl at *
        clear hadd j1 j2
        go_wp2_with fail
        refine HADD.out.mono ?_
        rintro e w6 ⟨S6, rfl, hst6, hk6, hS6⟩
        rw [← HJT.out] at hst6
        have HST6 := Lib.hid hst6
        have hkk : Keeps S w w6 := keeps_then HKP.out (keeps_then (S := Sk) (Keeps.of_below HBN.out) hk6 (fun i _ h => h)) (fun i hi h => by
          rcases HSS.out i h with a | a
          · exact a
          · omega)
        have hss : ∀ i, S6 i → S i ∨ w.heap.size ≤ i := fun i hi => by
          rcases hS6 i hi with a | a
          · exact HSS.out i a
          · rw [HZN.out] at a; exact Or.inr (by omega)
        have HKK := Lib.hid hkk
        have HS6 := Lib.hid hss
        clear hst6 hk6 hS6 hkk hss HADD HSK HKP HBN HZN
        go_wp2_with fail
        go_roundw
        case rel => exact ⟨k + 1, S6, by omega, by go_num, HST6.out, HKK.out, HS6.out, by rw [HSUM.out]; omega⟩
        case measure => simp [intOf]; omega
      · have he : stErr 4096 (joinP K (L.take k)) px pc = 6 := by
          unfold stErr
          rw [if_neg (by omega), if_pos (by omega)]
        rw [he] at hadd
        have HADD := Lib.hid hadd
        have hrf : r = false := by
          have h1 := (HSL.out (k + 1)).2
          rw [sum_step HXK.out] at h1
          rw [← HR2.out]
          apply decide_eq_false
          simp only at h1
          omega
        subst hrf
        clear hadd j1 j2 he hfit
        go_wp2_with fail
        refine HADD.out.mono ?_
        rintro e w6 ⟨S6, rfl, hst6, hk6, hS6⟩
        have hkk : Keeps S w w6 := keeps_then HKP.out (keeps_then (S := Sk) (Keeps.of_below HBN.out) hk6 (fun i _ h => h)) (fun i hi h => by
          rcases HSS.out i h with a | a
          · exact a
          · omega)
        have HKK := Lib.hid hkk
        clear hst6 hk6 hS6 hkk HADD HSK HKP HBN HZN
        go_wp2_with fail
        go_ret
        exact ⟨rfl, HKK.out, fun h => by cases h⟩
    · obtain rfl : k = n := by omega
      have kl : ¬ (k : Int) < k := by omega
      rw [List.take_of_length_le (by rw [HN.out]; exact Nat.le_refl k)] at HSK hsum
      have hrt : r = true := by
        rw [← HR2.out]
        exact decide_eq_true hsum
      subst hrt
      go_wp2_with fail
      go_ret
      exact ⟨rfl, HKP.out, fun _ => ⟨Sk, HSK.out, HSS.out⟩⟩

/-- A row of spans that can be, and fits. -/
def okR (L : Nat) (R : List PairV) : Bool := goodB R && decide (∀ p, p ∈ R → 1 ≤ p.1 ∧ p.1 ≤ lastS L) && decide (sumP R ≤ 9223372036854775807)
/-- What load leaves. -/
def LoadTo (St : World → Nat → (Nat → Prop) → Int → List PairV → Prop) (w : World) (L : Nat) (R : List PairV) (e : Ending) (w' : World) : Prop :=
  (okR L R = true ∧ ∃ C S', e = .returned (.tuple #[.pointer (some ⟨C, 0, none⟩), .bool true]) ∧ St w' C S' 4096 R ∧ (∀ k, S' k → w.heap.size ≤ k) ∧ Below w.heap.size w w') ∨
  (okR L R = false ∧ ∃ p, e = .returned (.tuple #[.pointer p, .bool false]) ∧ Below w.heap.size w w')
theorem rep_zero {d : Int} {L : Nat} {T : Int} (hs : SpanP d L T) (i : Int) : (Pt.spans d L T).rep i = 0 ↔ ¬ (1 ≤ i ∧ i ≤ lastS L) := by
  show (if 1 ≤ i ∧ i ≤ lastS L then midS (lowI L i) (highI L i) else 0) = 0 ↔ _
  by_cases h : 1 ≤ i ∧ i ≤ lastS L
  · obtain ⟨a, b, c⟩ := high_in L h.1 h.2 (spanp_log hs).2
    have := mid_in b
    rw [if_pos h]; constructor
    · intro e; omega
    · intro e; exact absurd h e
  · rw [if_neg h]; exact ⟨fun _ => h, fun _ => rfl⟩
/-- Of the pairs gone over so far each index is a span. -/
def InTo (L : Nat) (R : List PairV) (k : Nat) : Prop := ∀ p, p ∈ R.take k → 1 ≤ p.1 ∧ p.1 ≤ lastS L

set_option maxRecDepth 100000 in
set_option maxHeartbeats 4000000 in
theorem hd_load {St : World → Nat → (Nat → Prop) → Int → List PairV → Prop} (D : StripDoes St) (w : World) (Sp : Nat) (d : Int) (L : Nat) (T : Int) (A : Option Addr) (cap : Nat) (R : List PairV) (hs : SpanP d L T) (hsp : SpX w Sp d L) (hP : Pairs w A R) (hl : R.length ≤ 700) :
    Calls Tryd.prog 59 #[.pointer (some ⟨Sp, 0, none⟩), .slice A R.length cap] w (LoadTo St w L R) := by
  have HD := Lib.hid D
  have HS := Lib.hid hs
  have HSP := Lib.hid hsp
  have HP := Lib.hid hP
  obtain ⟨g, hg⟩ : ∃ g, goodB R = g := ⟨_, rfl⟩
  have HG := Lib.hid (good_big w A cap R 4096 g hP (by omega) (by unfold I64; omega) (by rw [hg]; have : decide ((R.length : Int) ≤ 4096) = true := decide_eq_true (by omega); rw [this, Bool.and_true]))
  have HGG := Lib.hid hg
  have HNW := Lib.hid (fun W => D.new W 4096 (by omega) (by omega))
  have HPO : Hid (g = true → ∀ W C S, Below w.heap.size w W → St W C S 4096 [] → (∀ k, S k → w.heap.size ≤ k) → ∀ r, pourB [] R = r → Calls Tryd.prog 79 #[.pointer (some ⟨C, 0, none⟩), .slice A R.length cap] W fun e w' => e = .returned (.bool r) ∧ PourTo St W C S [] R r w') := Lib.hid fun hgt W C S hb hst hS r hr => by
    have hgood : GoodP R := goodB_true.1 (by rw [hg]; exact hgt)
    refine hd_pour D W C S [] A cap R hst (hP.call hb) (fun p hp => by have := hgood.1 p hp; omega) (fun b off e hne => ?_) (by simp; omega) r hr
    cases R with
    | nil => exact absurd rfl hne
    | cons p q =>
      obtain ⟨b', off', e', hlt, _, _⟩ := hP.at_ 0 p rfl
      rw [e] at e'
      obtain ⟨rfl, _, _⟩ := Addr.mk.inj (Option.some.inj e')
      intro hSb
      have := hS b hSb
      omega
  obtain ⟨n, hn⟩ : ∃ n : Nat, R.length = n := ⟨_, rfl⟩
  rw [hn] at hl HG HPO
  rw [hn]
  have HN := Lib.hid hn
  clear hs hsp hP hg D hn
  cases g with
  | false =>
    have hno : okR L R = false := by unfold okR; rw [HGG.out]; rfl
    have HNO := Lib.hid hno
    clear hno
    go_enter Tryd.func59, Tryd.ntmps59
    go_wp2_with fail
    refine HG.out.mono ?_
    rintro e w1 ⟨rfl, b1⟩
    go_wp2_with fail
    go_ret2
    exact Or.inr ⟨HNO.out, _, rfl, b1⟩
  | true =>
    go_enter Tryd.func59, Tryd.ntmps59
    go_wp2_with fail
    refine HG.out.mono ?_
    rintro e w1 ⟨rfl, b1⟩
    go_wp2_with fail
    go_loopw [15] (fun j wr => ∃ k : Nat, k ≤ n ∧ j = .int .i64 k ∧ InTo L R k ∧ Below w.heap.size w wr) (fun j _ => n - (intOf j).toNat)
    case atStart => exact ⟨0, Nat.zero_le _, rfl, fun p hp => (by cases hp), b1⟩
    case round =>
      clear b1
      obtain ⟨k, hk, rfl, hin, b2⟩ := hrel
      have HIN := Lib.hid hin
      have HB2 := Lib.hid b2
      have hz := b2.size
      clear hin
      by_cases hlt : k < n
      · have kl : (k : Int) < n := by omega
        have hxk : R[k]? = some (R[k]'(by rw [HN.out]; exact hlt)) := List.getElem?_eq_getElem _
        generalize hit : R[k]'(by rw [HN.out]; exact hlt) = p at *
        obtain ⟨px, pc⟩ := p
        obtain ⟨bb, off, rfl, hbl, c0, c1⟩ := (HP.out.call b2).at_ k _ hxk
        have hok := HP.out.ok _ (List.mem_of_getElem? hxk)
        have HIX := Lib.hid hok.1
        have HXK := Lib.hid hxk
        obtain ⟨⟨o1, o2⟩, o3, o4⟩ := hok
        simp only at c0 c1 o1 o2 o3 o4 HIX
        have hbn : Below w.heap.size w (wr.alloc (.cells #[.int .i64 px, .int .u64 pc] 77)) := b2.alloc hz _
        obtain ⟨rp, hrp⟩ : ∃ rp, (Pt.spans d L T).rep px = rp := ⟨_, rfl⟩
        have hrz := rep_zero HS.out px
        rw [hrp] at hrz
        have HRP := Lib.hid (hd_rep HS.out (spx_call HSP.out hbn) px HIX.out rp hrp)
        have HBN := Lib.hid hbn
        have HRZ := Lib.hid hrz
        clear hxk hit hbn hrp hrz b2
        by_cases hz0 : rp = 0
        · subst hz0
          have hno : okR L R = false := by
            have hnin := HRZ.out.1 rfl
            unfold okR
            have : decide (∀ p, p ∈ R → 1 ≤ p.1 ∧ p.1 ≤ lastS L) = false := decide_eq_false fun hall => hnin (hall _ (List.mem_of_getElem? HXK.out))
            rw [this, Bool.and_false, Bool.false_and]
          have HNO := Lib.hid hno
          clear hno
          go_wp2_with fail
          refine HRP.out.mono ?_
          rintro e w4 ⟨rfl, b4⟩
          have b5 := HBN.out.trans (b4.mono HBN.out.size)
          go_wp2_with fail
          go_ret2
          exact Or.inr ⟨HNO.out, _, rfl, b5⟩
        · have hr0 : (rp == 0) = false := by simp [hz0]
          have hin2 : InTo L R (k + 1) := fun p hp => by
            rw [take_snocP HXK.out] at hp
            rcases List.mem_append.1 hp with h1 | h1
            · exact HIN.out p h1
            · have : p = (px, pc) := by simpa using h1
              rw [this]
              exact Classical.byContradiction fun hc => hz0 (HRZ.out.2 hc)
          have HIN2 := Lib.hid hin2
          clear hin2
          go_wp2_with fail
          refine HRP.out.mono ?_
          rintro e w4 ⟨rfl, b4⟩
          have b5 := HBN.out.trans (b4.mono HBN.out.size)
          have HB5 := Lib.hid b5
          clear b4 b5
          go_wp2_with fail
          go_roundw
          case rel => exact ⟨k + 1, by omega, by go_num, HIN2.out, HB5.out⟩
          case measure => simp [intOf]; omega
      · obtain rfl : k = n := by omega
        have kl : ¬ (k : Int) < k := by omega
        have hall : ∀ p, p ∈ R → 1 ≤ p.1 ∧ p.1 ≤ lastS L := by
          have := HIN.out
          unfold InTo at this
          rw [List.take_of_length_le (by rw [HN.out]; exact Nat.le_refl k)] at this
          exact this
        have HALL := Lib.hid hall
        obtain ⟨r, hr⟩ : ∃ r, pourB [] R = r := ⟨_, rfl⟩
        have hokr : okR L R = r := by
          unfold okR
          rw [HGG.out, decide_eq_true hall, ← hr]
          unfold pourB
          rw [sumP_nil]
          simp
        have HOKR := Lib.hid hokr
        have HRR := Lib.hid hr
        have HJL : Hid (r = true → joinP [] R = R) := Lib.hid fun hrt => join_load (goodB_true.1 HGG.out) HP.out.ok (by
          have h1 := hr; rw [hrt] at h1; unfold pourB at h1
          have h2 := of_decide_eq_true h1
          rw [sumP_nil] at h2; omega)
        clear hall hokr hr b2
        go_wp2_with fail
        refine (HNW.out _).mono ?_
        rintro e w3 ⟨C, S, rfl, hst, hS, b3⟩
        have b4 := HB2.out.trans (b3.mono hz)
        have hS2 : ∀ k, S k → w.heap.size ≤ k := fun k hk => by have := hS k hk; omega
        have HPP := Lib.hid (HPO.out (by simp) w3 C S b4 hst hS2 r HRR.out)
        have HB4 := Lib.hid b4
        have HS2 := Lib.hid hS2
        clear hst hS hS2 b3 b4
        go_wp2_with fail
        refine HPP.out.mono ?_
        rintro e w5 ⟨rfl, hkp, hto⟩
        have b5 : Below w.heap.size w w5 := Keeps.below HB4.out hkp HB4.out.size HS2.out
        have HB5 := Lib.hid b5
        have HTO := Lib.hid hto
        clear hkp hto b5
        go_wp2_with fail
        go_ret2
        cases r with
        | true =>
          obtain ⟨S', hst', hS'⟩ := HTO.out (by simp)
          rw [HJL.out (by simp)] at hst'
          refine Or.inl ⟨HOKR.out, C, S', rfl, hst', fun k hk => ?_, HB5.out⟩
          rcases hS' k hk with a | a
          · exact HS2.out k a
          · have := HB4.out.size; omega
        | false => exact Or.inr ⟨HOKR.out, _, rfl, HB5.out⟩
end Go.Proofs.YtojincgbnjkegaaDoor

/-
  Walks: package hdr: Load, New.
-/
namespace Go.Proofs.YtojincgbnjkegaaDoor
set_option linter.unusedVariables false
set_option linter.unusedSimpArgs false
open Go.RowKit

/-- What can be loaded. -/
def hdLoadB (L : Nat) (lim : Int) (R1 R2 : List PairV) (z lo hi : Int) : Bool :=
  decide (lim ≤ 9223372036854775808) && okR L R1 && okR L R2 && decide (sumP R1 + z + sumP R2 ≤ 9223372036854775807) && decide (lo ≤ hi) && decide (sumP R1 + z + sumP R2 = 0 → lo = 0 ∧ hi = 0)
/-- What Load leaves. -/
def LoadH (St : World → Nat → (Nat → Prop) → Int → List PairV → Prop) (w : World) (d : Int) (L : Nat) (lim : Int) (R1 R2 : List PairV) (z lo hi : Int) (e : Ending) (w' : World) : Prop :=
  (hdLoadB L lim R1 R2 z lo hi = true ∧ ∃ B S, e = .returned (.tuple #[.pointer (some ⟨B, 0, none⟩), .int .i64 0]) ∧ HdX St w' B S d L lim ⟨R1, R2, z, lo, hi⟩ ∧ (∀ k, S k → w.heap.size ≤ k) ∧ Below w.heap.size w w') ∨
  (hdLoadB L lim R1 R2 z lo hi = false ∧ e = .returned (.tuple #[.pointer none, .int .i64 1]) ∧ Below w.heap.size w w')
theorem okr_parts {L : Nat} {R : List PairV} (h : okR L R = true) : GoodP R ∧ (∀ p, p ∈ R → 1 ≤ p.1 ∧ p.1 ≤ lastS L) ∧ sumP R ≤ 9223372036854775807 := by
  unfold okR at h
  rw [Bool.and_eq_true, Bool.and_eq_true] at h
  exact ⟨goodB_true.1 h.1.1, of_decide_eq_true h.1.2, of_decide_eq_true h.2⟩
theorem hd_cfg (w : World) (d lim : Int) : (w.alloc (.cells #[.int .i64 d, .int .u64 lim] 52)).cell? ⟨w.heap.size, 0, none⟩ = some (.int .i64 d) ∧ (w.alloc (.cells #[.int .i64 d, .int .u64 lim] 52)).cell? ⟨w.heap.size, 1, none⟩ = some (.int .u64 lim) := hd_two w _ _ _
theorem hd_three (w : World) (x y z : Value) (t : TypeId) : (w.alloc (.cells #[x, y, z] t)).cell? ⟨w.heap.size, 0, none⟩ = some x ∧ (w.alloc (.cells #[x, y, z] t)).cell? ⟨w.heap.size, 1, none⟩ = some y ∧ (w.alloc (.cells #[x, y, z] t)).cell? ⟨w.heap.size, 2, none⟩ = some z := by
  have h : (w.alloc (.cells #[x, y, z] t)).heap[w.heap.size]? = some (.cells #[x, y, z] t (0, 0)) := heap_new w _
  exact ⟨by rw [Joins.cell_of_block h]; rfl, by rw [Joins.cell_of_block h]; rfl, by rw [Joins.cell_of_block h]; rfl⟩

set_option maxRecDepth 100000 in
set_option maxHeartbeats 1000000 in
theorem hd_load_bad (w : World) (d lim : Int) (v1 v2 : Value) (z lo hi : Int) (hd : I64 d) (h : ¬ (1 ≤ d ∧ d ≤ 4)) :
    Calls Tryd.prog 32 #[.agg #[.int .i64 d, .int .u64 lim], v1, v2, .int .u64 z, .int .i64 lo, .int .i64 hi] w fun e w' => e = .returned (.tuple #[.pointer none, .int .i64 1]) ∧ Below w.heap.size w w' := by
  have HN := Lib.hid (fun W => snew_bad d hd h W)
  obtain ⟨p0, p1⟩ := hd_cfg w d lim
  have hb : Below w.heap.size w (w.alloc (.cells #[.int .i64 d, .int .u64 lim] 52)) := (Below.refl _ _).alloc (Nat.le_refl _) _
  clear h hd
  go_enter Tryd.func32, Tryd.ntmps32
  go_wp2_with fail
  refine (HN.out _).mono ?_
  rintro e w1 ⟨rfl, rfl⟩
  go_wp2_with fail
  go_ret2
  exact ⟨rfl, hb⟩

set_option maxRecDepth 100000 in
set_option maxHeartbeats 4000000 in
theorem hd_loads {St : World → Nat → (Nat → Prop) → Int → List PairV → Prop} (D : StripDoes St) (w : World) (d : Int) (L : Nat) (T lim : Int) (A1 A2 : Option Addr) (k1 k2 : Nat) (R1 R2 : List PairV) (z lo hi : Int) (hs : SpanP d L T) (ht : Tens w) (wl : Word lim)
    (hP1 : Pairs w A1 R1) (hP2 : Pairs w A2 R2) (l1 : R1.length ≤ 700) (l2 : R2.length ≤ 700) (wz : Word z) (hlo : I64 lo) (hhi : I64 hi) :
    Calls Tryd.prog 32 #[.agg #[.int .i64 d, .int .u64 lim], .slice A1 R1.length k1, .slice A2 R2.length k2, .int .u64 z, .int .i64 lo, .int .i64 hi] w (LoadH St w d L lim R1 R2 z lo hi) := by
  have HD := Lib.hid D
  have HWL := Lib.hid wl
  have HLO := Lib.hid hlo
  have HHI := Lib.hid hhi
  obtain ⟨p0, p1⟩ := hd_cfg w d lim
  have hb0 : Below w.heap.size w (w.alloc (.cells #[.int .i64 d, .int .u64 lim] 52)) := (Below.refl _ _).alloc (Nat.le_refl _) _
  have HNW := Lib.hid (snew_good d L T hs _ (ht.call hb0))
  have HL1 := Lib.hid (fun W Sp (hb : Below w.heap.size w W) (hsp : SpX W Sp d L) => hd_load D W Sp d L T A1 k1 R1 hs hsp (hP1.call hb) l1)
  have HL2 := Lib.hid (fun W Sp (hb : Below w.heap.size w W) (hsp : SpX W Sp d L) => hd_load D W Sp d L T A2 k2 R2 hs hsp (hP2.call hb) l2)
  have ok1 := hP1.ok
  have ok2 := hP2.ok
  have HOK1 := Lib.hid ok1
  have HOK2 := Lib.hid ok2
  have hl1 : R1.length ≤ 900 := by omega
  have hl2 : R2.length ≤ 900 := by omega
  have HT := Lib.hid (fun W C S R (hst : St W C S 4096 R) (hl : R.length ≤ 900) => D.total W C S 4096 R hst hl)
  have HLL := Lib.hid (And.intro hl1 hl2)
  obtain ⟨n1, hn1⟩ : ∃ n : Nat, R1.length = n := ⟨_, rfl⟩
  obtain ⟨n2, hn2⟩ : ∃ n : Nat, R2.length = n := ⟨_, rfl⟩
  rw [hn1] at HL1
  rw [hn2] at HL2
  rw [hn1, hn2]
  have HB0 := Lib.hid hb0
  have hz0 : (w.alloc (.cells #[.int .i64 d, .int .u64 lim] 52)).heap.size = w.heap.size + 1 := by simp
  have HZ0 := Lib.hid hz0
  obtain ⟨wz0, wz1⟩ := wz
  obtain ⟨wl0, wl1⟩ := wl
  obtain ⟨lo0, lo1⟩ := hlo
  obtain ⟨hi0, hi1⟩ := hhi
  clear hP1 hP2 l1 l2 D hs ht hn1 hn2 hl1 hl2 hb0 hz0 ok1 ok2
  go_enter Tryd.func32, Tryd.ntmps32
  go_wp2_with fail
  generalize w.alloc (.cells #[.int .i64 d, .int .u64 lim] 52) = wc at *
  refine HNW.out.mono ?_
  rintro e w1 ⟨Sp, rfl, hsp, hsz, b1'⟩
  have b1 := HB0.out.trans (b1'.mono HB0.out.size)
  have q0 := cell_later b1' p0
  have q1 := cell_later b1' p1
  have HSP := Lib.hid hsp
  have hspn : w.heap.size ≤ Sp := by have := HB0.out.size; omega
  clear p0 p1 hsp b1' HNW
  by_cases hlim : 9223372036854775808 < lim
  · have hno : hdLoadB L lim R1 R2 z lo hi = false := by unfold hdLoadB; rw [decide_eq_false (show ¬ lim ≤ 9223372036854775808 by omega)]; rfl
    have HNO := Lib.hid hno
    clear hno
    go_wp2_with fail
    go_ret2
    exact Or.inr ⟨HNO.out, rfl, b1⟩
  go_wp2_with fail
  refine (HL1.out w1 Sp b1 HSP.out).mono ?_
  have HB1 := Lib.hid b1
  clear b1
  rintro e w2 h2
  have hh2 : ∃ p o, e = .returned (.tuple #[.pointer p, .bool o]) ∧ okR L R1 = o ∧ Below w1.heap.size w1 w2 ∧ (o = true → ∃ C S', p = some ⟨C, 0, none⟩ ∧ St w2 C S' 4096 R1 ∧ (∀ k, S' k → w1.heap.size ≤ k)) := by
    rcases h2 with ⟨a, C, S', rfl, b, c, dd⟩ | ⟨a, p, rfl, dd⟩
    · exact ⟨_, true, rfl, a, dd, fun _ => ⟨C, S', rfl, b, c⟩⟩
    · exact ⟨p, false, rfl, a, dd, fun h => by cases h⟩
  obtain ⟨pp1, o1, rfl, ho1, b2', hst1⟩ := hh2
  have b2 := HB1.out.trans (b2'.mono HB1.out.size)
  have r0 := cell_later b2' q0
  have r1 := cell_later b2' q1
  have HSP2 := Lib.hid (spx_call HSP.out b2')
  have HST1 := Lib.hid hst1
  have HO1 := Lib.hid ho1
  have hz1 := HB1.out.size
  clear h2 hst1 ho1 q0 q1 b2'
  go_wp2_with fail
  refine (HL2.out w2 Sp b2 HSP2.out).mono ?_
  have HB2 := Lib.hid b2
  clear b2
  rintro e w3 h3
  have hh3 : ∃ p o, e = .returned (.tuple #[.pointer p, .bool o]) ∧ okR L R2 = o ∧ Below w2.heap.size w2 w3 ∧ (o = true → ∃ C S', p = some ⟨C, 0, none⟩ ∧ St w3 C S' 4096 R2 ∧ (∀ k, S' k → w2.heap.size ≤ k)) := by
    rcases h3 with ⟨a, C, S', rfl, b, c, dd⟩ | ⟨a, p, rfl, dd⟩
    · exact ⟨_, true, rfl, a, dd, fun _ => ⟨C, S', rfl, b, c⟩⟩
    · exact ⟨p, false, rfl, a, dd, fun h => by cases h⟩
  obtain ⟨pp2, o2, rfl, ho2, b3', hst2⟩ := hh3
  have b3 := HB2.out.trans (b3'.mono HB2.out.size)
  have r0 := cell_later b3' r0
  have r1 := cell_later b3' r1
  have HB3' := Lib.hid b3'
  have HST2 := Lib.hid hst2
  have HO2 := Lib.hid ho2
  have hz2 := HB2.out.size
  have HB3 := Lib.hid b3
  clear h3 hst2 ho2 b3' b3
  cases o1 with
  | false =>
    have hno : hdLoadB L lim R1 R2 z lo hi = false := by unfold hdLoadB; rw [HO1.out]; simp
    have HNO := Lib.hid hno
    clear hno
    go_wp2_with fail
    go_ret2
    exact Or.inr ⟨HNO.out, rfl, HB3.out⟩
  | true =>
  cases o2 with
  | false =>
    have hno : hdLoadB L lim R1 R2 z lo hi = false := by unfold hdLoadB; rw [HO2.out]; simp
    have HNO := Lib.hid hno
    clear hno
    go_wp2_with fail
    go_ret2
    exact Or.inr ⟨HNO.out, rfl, HB3.out⟩
  | true =>
  obtain ⟨C1, S1, rfl, hs1, hS1⟩ := HST1.out (by simp)
  obtain ⟨C2, S2, rfl, hs2, hS2⟩ := HST2.out (by simp)
  have HSA := Lib.hid (HD.out.call hs1 HB3'.out)
  have HSB := Lib.hid hs2
  have hlt1 := HD.out.lt _ _ _ _ _ hs1
  have HS1 := Lib.hid hS1
  have HS2 := Lib.hid hS2
  have HLT1 := Lib.hid hlt1
  have a0 := sumP_pos (ok_pos HOK1.out)
  have c0 := sumP_pos (ok_pos HOK2.out)
  obtain ⟨g1, i1, m1⟩ := okr_parts HO1.out
  obtain ⟨g2, i2, m2⟩ := okr_parts HO2.out
  have HI1 := Lib.hid i1
  have HI2 := Lib.hid i2
  have HTA := Lib.hid (HT.out _ _ _ _ HSA.out HLL.out.1)
  have HTB := Lib.hid (fun W (hb : Below w3.heap.size w3 W) => HT.out W _ _ _ (HD.out.call HSB.out hb) HLL.out.2)
  obtain ⟨a, ha⟩ : ∃ a, sumP R1 = a := ⟨_, rfl⟩
  obtain ⟨c, hc⟩ : ∃ c, sumP R2 = c := ⟨_, rfl⟩
  have HLB : Hid (hdLoadB L lim R1 R2 z lo hi = (decide (a + z + c ≤ 9223372036854775807) && decide (lo ≤ hi) && decide (a + z + c = 0 → lo = 0 ∧ hi = 0))) := Lib.hid (by
    unfold hdLoadB; rw [HO1.out, HO2.out, decide_eq_true (show lim ≤ 9223372036854775808 by omega), ha, hc]; simp)
  have HACC : Hid (sumP R1 = a ∧ sumP R2 = c) := Lib.hid ⟨ha, hc⟩
  rw [ha] at HTA a0 m1
  rw [hc] at HTB c0 m2
  clear hs1 hs2 hS1 hS2 hlt1 g1 g2 i1 i2 HST1 HST2 HT ha hc
  have hnn : ¬ 9223372036854775808 < lim := by omega
  go_wp2_with fail
  refine HTA.out.mono ?_
  rintro e w4 ⟨rfl, b4⟩
  go_wp2_with fail
  refine (HTB.out _ b4).mono ?_
  rintro e w5 ⟨rfl, b5⟩
  have b5 := b4.trans (b5.mono b4.size)
  have bn := HB3.out.trans (b5.mono HB3.out.size)
  have b6 := b5.alloc b5.size (.cells #[.int .u64 a, .int .u64 z, .int .u64 c] 23)
  have bw := HB3.out.trans (b6.mono HB3.out.size)
  obtain ⟨t0, t1, t2⟩ := hd_three w5 (.int .u64 a) (.int .u64 z) (.int .u64 c) 23
  have u0 := cell_later b6 r0
  have u1 := cell_later b6 r1
  have HBW := Lib.hid bw
  have HB6 := Lib.hid b6
  clear b4 b5 bn b6 bw r0 r1 HTA HTB
  by_cases hfit : a + z + c ≤ 9223372036854775807
  case neg =>
    have PT := Lib.hid (plus_three a z c 0 false w5.heap.size 3 (w5.alloc (.cells #[.int .u64 a, .int .u64 z, .int .u64 c] 23)) ⟨by omega, by omega⟩ ⟨by omega, by omega⟩ ⟨by omega, by omega⟩ t0 t1 t2 (decide_eq_false hfit) rfl)
    have hno : hdLoadB L lim R1 R2 z lo hi = false := by rw [HLB.out, decide_eq_false hfit]; rfl
    have HNO := Lib.hid hno
    clear hno t0 t1 t2
    go_wp2_with fail
    generalize w5.alloc (.cells #[.int .u64 a, .int .u64 z, .int .u64 c] 23) = w6 at *
    refine PT.out.mono ?_
    rintro e w7 ⟨rfl, rfl⟩
    go_wp2_with fail
    go_ret2
    exact Or.inr ⟨HNO.out, rfl, HBW.out⟩
  obtain ⟨t, htt⟩ : ∃ t, a + z + c = t := ⟨_, rfl⟩
  have PT := Lib.hid (plus_three a z c t true w5.heap.size 3 (w5.alloc (.cells #[.int .u64 a, .int .u64 z, .int .u64 c] 23)) ⟨by omega, by omega⟩ ⟨by omega, by omega⟩ ⟨by omega, by omega⟩ t0 t1 t2 (decide_eq_true hfit) htt)
  rw [htt] at HLB hfit
  have HTT := Lib.hid htt
  rw [decide_eq_true hfit, Bool.true_and] at HLB
  have tpos : 0 ≤ t := by omega
  have fin : ∀ W, Below w.heap.size w W → Below w3.heap.size w3 W → decide (lo ≤ hi) = true → decide (t = 0 → lo = 0 ∧ hi = 0) = true → LoadH St w d L lim R1 R2 z lo hi (.returned (.tuple #[.pointer (some ⟨W.heap.size, 0, none⟩), .int .i64 0])) (W.alloc (.cells #[.int .i64 d, .int .u64 lim, .pointer (some ⟨Sp, 0, none⟩), .pointer (some ⟨C1, 0, none⟩), .pointer (some ⟨C2, 0, none⟩), .int .u64 z, .int .i64 lo, .int .i64 hi] 85)) := fun W hb hb3 e1 e2 => by
    refine Or.inl ⟨by rw [HLB.out, e1, e2]; rfl, W.heap.size, hdS W.heap.size Sp S1 S2, rfl, ?_, ?_, hb.alloc hb.size _⟩
    · have hbn : Below W.heap.size W (W.alloc (.cells #[.int .i64 d, .int .u64 lim, .pointer (some ⟨Sp, 0, none⟩), .pointer (some ⟨C1, 0, none⟩), .pointer (some ⟨C2, 0, none⟩), .int .u64 z, .int .i64 lo, .int .i64 hi] 85)) := (Below.refl _ _).alloc (Nat.le_refl _) _
      have h1 := HD.out.call HSA.out hb3
      have h2 := HD.out.call HSB.out hb3
      have l1 := HD.out.lt _ _ _ _ _ h1
      have l2 := HD.out.lt _ _ _ _ _ h2
      have hsp2 := spx_call (spx_call HSP2.out HB3'.out) hb3
      have hsl := spx_lt hsp2
      have hspl := spx_lt HSP.out
      have hspl2 := spx_lt HSP2.out
      refine ⟨⟨HI1.out, HI2.out, by show 0 ≤ z; omega, ?_, HLO.out, HHI.out⟩, HWL.out, Sp, C1, C2, S1, S2, ⟨heap_new _ _, spx_call hsp2 hbn, HD.out.call h1 hbn, HD.out.call h2 hbn, ⟨fun h => ?_, fun h => ?_, ?_⟩, fun k e1 e2 => ?_, ⟨fun h => ?_, fun h => ?_⟩⟩, fun k => Iff.rfl⟩
      · show sumP R1 + z + sumP R2 ≤ _; rw [HACC.out.1, HACC.out.2]; omega
      · have := l1 _ h; omega
      · have := l2 _ h; omega
      · omega
      · have := HLT1.out k e1; have := HS2.out k e2; omega
      · have := HS1.out Sp h; omega
      · have := HS2.out Sp h; omega
    · rintro k (rfl | rfl | h | h)
      · exact hb.size
      · exact hspn
      · have := HS1.out k h; omega
      · have := HS2.out k h; omega
  have FIN := Lib.hid fin
  clear fin t0 t1 t2 htt
  by_cases hle : hi < lo
  · have hno : hdLoadB L lim R1 R2 z lo hi = false := by rw [HLB.out, decide_eq_false (show ¬ lo ≤ hi by omega)]; rfl
    have HNO := Lib.hid hno
    clear hno
    go_wp2_with fail
    generalize w5.alloc (.cells #[.int .u64 a, .int .u64 z, .int .u64 c] 23) = w6 at *
    refine PT.out.mono ?_
    rintro e w7 ⟨rfl, rfl⟩
    go_wp2_with fail
    go_ret2
    exact Or.inr ⟨HNO.out, rfl, HBW.out⟩
  have hle1 : decide (lo ≤ hi) = true := decide_eq_true (by omega)
  have HLE := Lib.hid hle1
  clear hle1
  by_cases ht0 : t = 0
  · subst ht0
    by_cases hl0 : lo = 0
    · subst hl0
      by_cases hh0 : hi = 0
      · subst hh0
        have hc0 : decide ((0 : Int) = 0 → (0 : Int) = 0 ∧ (0 : Int) = 0) = true := by decide
        have HC0 := Lib.hid hc0
        clear hc0
        go_wp2_with fail
        generalize w5.alloc (.cells #[.int .u64 a, .int .u64 z, .int .u64 c] 23) = w6 at *
        refine PT.out.mono ?_
        rintro e w7 ⟨rfl, rfl⟩
        go_wp2_with fail
        go_ret2
        exact FIN.out _ HBW.out HB6.out HLE.out HC0.out
      · have hh1 : (hi == 0) = false := by simp [hh0]
        have hh2 : (hi != 0) = true := by simp [hh0]
        have hno : hdLoadB L lim R1 R2 z 0 hi = false := by rw [HLB.out, decide_eq_false (show ¬ ((0 : Int) = 0 → (0 : Int) = 0 ∧ hi = 0) from fun h => hh0 (h rfl).2), Bool.and_false]
        have HNO := Lib.hid hno
        clear hno
        go_wp2_with fail
        generalize w5.alloc (.cells #[.int .u64 a, .int .u64 z, .int .u64 c] 23) = w6 at *
        refine PT.out.mono ?_
        rintro e w7 ⟨rfl, rfl⟩
        go_wp2_with fail
        go_ret2
        exact Or.inr ⟨HNO.out, rfl, HBW.out⟩
    · have hl1 : (lo == 0) = false := by simp [hl0]
      have hl2 : (lo != 0) = true := by simp [hl0]
      have hno : hdLoadB L lim R1 R2 z lo hi = false := by rw [HLB.out, decide_eq_false (show ¬ ((0 : Int) = 0 → lo = 0 ∧ hi = 0) from fun h => hl0 (h rfl).1), Bool.and_false]
      have HNO := Lib.hid hno
      clear hno
      go_wp2_with fail
      generalize w5.alloc (.cells #[.int .u64 a, .int .u64 z, .int .u64 c] 23) = w6 at *
      refine PT.out.mono ?_
      rintro e w7 ⟨rfl, rfl⟩
      go_wp2_with fail
      go_ret2
      exact Or.inr ⟨HNO.out, rfl, HBW.out⟩
  · have ht1 : (t == 0) = false := by simp [ht0]
    have hc0 : decide (t = 0 → lo = 0 ∧ hi = 0) = true := decide_eq_true fun h => absurd h ht0
    have HC0 := Lib.hid hc0
    clear hc0
    go_wp2_with fail
    generalize w5.alloc (.cells #[.int .u64 a, .int .u64 z, .int .u64 c] 23) = w6 at *
    refine PT.out.mono ?_
    rintro e w7 ⟨rfl, rfl⟩
    go_wp2_with fail
    go_ret2
    exact FIN.out _ HBW.out HB6.out HLE.out HC0.out

/-- What New leaves. -/
def NewH (St : World → Nat → (Nat → Prop) → Int → List PairV → Prop) (w : World) (d lim : Int) (e : Ending) (w' : World) : Prop :=
  (1 ≤ d ∧ d ≤ 4 ∧ lim ≤ 9223372036854775808 ∧ ∃ L T B S, SpanP d L T ∧ e = .returned (.tuple #[.pointer (some ⟨B, 0, none⟩), .int .i64 0]) ∧ HdX St w' B S d L lim ⟨[], [], 0, 0, 0⟩ ∧ (∀ k, S k → w.heap.size ≤ k) ∧ Below w.heap.size w w') ∨
  (¬ (1 ≤ d ∧ d ≤ 4 ∧ lim ≤ 9223372036854775808) ∧ e = .returned (.tuple #[.pointer none, .int .i64 1]) ∧ Below w.heap.size w w')
set_option maxHeartbeats 1000000 in
theorem hd_new {St : World → Nat → (Nat → Prop) → Int → List PairV → Prop} (D : StripDoes St) (w : World) (d lim : Int) (ht : Tens w) (hd : I64 d) (wl : Word lim) :
    Calls Tryd.prog 21 #[.agg #[.int .i64 d, .int .u64 lim]] w (NewH St w d lim) := by
  have hb0 : Below w.heap.size w (w.alloc (.cells #[.int .i64 d, .int .u64 lim] 52)) := (Below.refl _ _).alloc (Nat.le_refl _) _
  have key : Calls Tryd.prog 32 #[.agg #[.int .i64 d, .int .u64 lim], .slice none 0 0, .slice none 0 0, .int .u64 0, .int .i64 0, .int .i64 0] (w.alloc (.cells #[.int .i64 d, .int .u64 lim] 52)) fun e w' => ∃ p c, e = .returned (.tuple #[.pointer p, .int .i64 c]) ∧ NewH St w d lim e w' := by
    by_cases hc : 1 ≤ d ∧ d ≤ 4
    · obtain ⟨L, T, hs⟩ := spanp_of hc.1 hc.2
      refine (hd_loads D _ d L T lim none none 0 0 [] [] 0 0 0 hs (ht.call hb0) wl (Pairs.nil _) (Pairs.nil _) (by simp) (by simp) ⟨by decide, by decide⟩ ⟨by decide, by decide⟩ ⟨by decide, by decide⟩).mono ?_
      rintro e w' (⟨a, B, S, rfl, hx, hS, hb⟩ | ⟨a, rfl, hb⟩)
      · have hl : lim ≤ 9223372036854775808 := by
          unfold hdLoadB at a
          simp only [Bool.and_eq_true] at a
          exact of_decide_eq_true a.1.1.1.1.1
        exact ⟨_, _, rfl, Or.inl ⟨hc.1, hc.2, hl, L, T, B, S, hs, rfl, hx, fun k hk => by have := hS k hk; have := hb0.size; omega, hb0.trans (hb.mono hb0.size)⟩⟩
      · refine ⟨_, _, rfl, Or.inr ⟨fun h => ?_, rfl, hb0.trans (hb.mono hb0.size)⟩⟩
        have ok : okR L [] = true := by
          unfold okR
          rw [goodB_true.2 good_nil, sumP_nil]
          simp
        have : hdLoadB L lim [] [] 0 0 0 = true := by
          unfold hdLoadB
          rw [ok, decide_eq_true h.2.2, sumP_nil]
          simp
        rw [this] at a; cases a
    · refine (hd_load_bad _ d lim _ _ 0 0 0 hd hc).mono ?_
      rintro e w' ⟨rfl, hb⟩
      exact ⟨_, _, rfl, Or.inr ⟨fun h => hc ⟨h.1, h.2.1⟩, rfl, hb0.trans (hb.mono hb0.size)⟩⟩
  have HK := Lib.hid key
  obtain ⟨p0, p1⟩ := hd_cfg w d lim
  clear key hb0 ht hd wl D
  go_enter Tryd.func21, Tryd.ntmps21
  go_wp2_with fail
  refine HK.out.mono ?_
  rintro e w2 ⟨p, c, rfl, hn⟩
  have HN := Lib.hid hn
  clear hn
  go_wp2_with fail
  go_ret2
  exact HN.out
end Go.Proofs.YtojincgbnjkegaaDoor
