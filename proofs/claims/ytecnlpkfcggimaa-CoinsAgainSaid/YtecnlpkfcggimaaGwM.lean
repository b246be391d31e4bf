/-
  Plain mathematics of stage 19: a sketch's spots and the values that wait; flushed, put, joined: placed, and tight: no program in sight.
-/
import Derived.Test.YtecnlpkfcggimaaTupP
namespace Go.Proofs.Ytecnlpkfcggimaa
set_option linter.unusedVariables false
set_option linter.unusedSimpArgs false

/-- The limit of a closeness that can be. -/
def limG (u v n : Int) : Int := max (2 * u * n / v) 1
theorem limG_pos (u v n : Int) : 1 ≤ limG u v n := by unfold limG; omega
theorem quo_le {u v n : Int} (hv : 0 < v) (hu : 2 * u ≤ v) (hn : 0 ≤ n) : 2 * u * n / v ≤ n := by
  have h1 : 2 * u * n ≤ v * n := Int.mul_le_mul_of_nonneg_right hu hn
  have h2 : 2 * u * n / v ≤ v * n / v := Int.ediv_le_ediv hv h1
  rw [Int.mul_ediv_cancel_left _ (by omega)] at h2
  exact h2
theorem quo_nn {u v n : Int} (hu : 0 ≤ u) (hv : 0 < v) (hn : 0 ≤ n) : 0 ≤ 2 * u * n / v := Int.ediv_nonneg (Int.mul_nonneg (by omega) hn) (by omega)
theorem quo_mono {u v n m : Int} (hu : 0 ≤ u) (hv : 0 < v) (h : n ≤ m) : 2 * u * n / v ≤ 2 * u * m / v := Int.ediv_le_ediv hv (Int.mul_le_mul_of_nonneg_left h (by omega))
theorem quo_add {u v n m : Int} (hv : 0 < v) : 2 * u * n / v + 2 * u * m / v ≤ 2 * u * (n + m) / v := by
  rw [Int.mul_add]
  generalize 2 * u * n = a
  generalize 2 * u * m = b
  have h1 := Int.mul_ediv_add_emod a v
  have h2 := Int.mul_ediv_add_emod b v
  have h3 := Int.emod_nonneg a (show v ≠ 0 by omega)
  have h4 := Int.emod_nonneg b (show v ≠ 0 by omega)
  apply Int.le_ediv_of_mul_le hv
  rw [Int.add_mul, Int.mul_comm (a / v), Int.mul_comm (b / v)]
  omega
theorem limG_mono {u v n m : Int} (hu : 0 ≤ u) (hv : 0 < v) (h : n ≤ m) : limG u v n ≤ limG u v m := by
  have := quo_mono hu hv h
  unfold limG; omega
theorem limG_add {u v n m : Int} (hu : 0 ≤ u) (hv : 0 < v) (hn : 0 ≤ n) (hm : 0 ≤ m) : limG u v n + limG u v m - 1 ≤ limG u v (n + m) := by
  have h1 := quo_add (u := u) (n := n) (m := m) hv
  have h2 := quo_nn hu hv hn
  have h3 := quo_nn hu hv hm
  unfold limG; omega
/-- Half of the limit is no further than is told. -/
theorem half_close {u v n g : Int} (hu : 0 ≤ u) (hv : 0 < v) (hn : 0 ≤ n) (h0 : 0 ≤ g) (h : g ≤ limG u v n / 2) : g * v ≤ u * n := by
  have hq := quo_nn hu hv hn
  unfold limG at h
  have h2 : 2 * g ≤ 2 * u * n / v := by omega
  have h3 : 2 * g * v ≤ 2 * u * n / v * v := Int.mul_le_mul_of_nonneg_right h2 (by omega)
  have h4 := Int.ediv_mul_le (2 * u * n) (show v ≠ 0 by omega)
  have h5 : 2 * g * v = 2 * (g * v) := Int.mul_assoc _ _ _
  have h6 : 2 * u * n = 2 * (u * n) := Int.mul_assoc _ _ _
  omega

/-! ### In order -/
def insI (x : Int) (L : List Int) : List Int := L.takeWhile (fun y => decide (y ≤ x)) ++ x :: L.dropWhile (fun y => decide (y ≤ x))
def sortI (W : List Int) : List Int := W.foldl (fun L x => insI x L) []
theorem insI_perm (x : Int) (L : List Int) : (insI x L).Perm (x :: L) := by
  unfold insI
  have h := List.takeWhile_append_dropWhile (p := fun y => decide (y ≤ x)) (l := L)
  have h2 := List.perm_middle (a := x) (l₁ := L.takeWhile fun y => decide (y ≤ x)) (l₂ := L.dropWhile fun y => decide (y ≤ x))
  rw [h] at h2
  exact h2
theorem sort_from : ∀ (W L : List Int), (W.foldl (fun L x => insI x L) L).Perm (L ++ W)
  | [], L => by rw [List.append_nil]; exact List.Perm.refl _
  | x :: r, L => by
    rw [List.foldl_cons]
    refine (sort_from r (insI x L)).trans ?_
    refine ((insI_perm x L).append_right r).trans ?_
    exact (List.perm_middle (a := x) (l₁ := L) (l₂ := r)).symm
theorem sortI_perm (W : List Int) : (sortI W).Perm W := sort_from W []
theorem sortI_len (W : List Int) : (sortI W).length = W.length := (sortI_perm W).length_eq
theorem sortI_mem {W : List Int} {x : Int} : x ∈ sortI W ↔ x ∈ W := (sortI_perm W).mem_iff

/-! ### What is told hangs on the values alone -/
theorem upV_perm {A B : List Int} (h : A.Perm B) (x : Int) : upV A x = upV B x := by unfold upV; rw [(h.filter _).length_eq]
theorem unV_perm {A B : List Int} (h : A.Perm B) (x : Int) : unV A x = unV B x := by unfold unV; rw [(h.filter _).length_eq]
theorem ToldS.perm {A B : List Int} {S : List SpotV} (h : ToldS A S) (hp : A.Perm B) : ToldS B S :=
  ⟨by rw [← hp.length_eq]; exact h.can, h.first, fun s hs => by rw [← upV_perm hp, ← unV_perm hp]; exact h.placed s hs, fun s hs => hp.mem_iff.1 (h.has s hs)⟩
theorem ToldS.insL {A : List Int} : ∀ {L : List Int} {S : List SpotV}, ToldS A S → ToldS (A ++ L) (L.foldl insS S)
  | [], S, h => by rw [List.append_nil]; exact h
  | x :: r, S, h => by
    rw [List.foldl_cons]
    have := ToldS.insL (L := r) (h.ins x)
    rw [List.append_assoc] at this
    exact this

/-! ### Tight rows -/
theorem StepsP.mono {g g' : Int} (hg : g ≤ g') : ∀ {S : List SpotV} {a : Int}, StepsP g a S → StepsP g' a S
  | [], a, h => trivial
  | s :: r, a, h => ⟨by have := h.1; omega, StepsP.mono hg h.2⟩
theorem StepsP.app {g : Int} {T : List SpotV} : ∀ {S : List SpotV} {a : Int}, StepsP g a (S ++ T) ↔ StepsP g a S ∧ StepsP g (lastLo a S) T
  | [], a => ⟨fun h => ⟨trivial, h⟩, fun h => h.2⟩
  | s :: r, a => by
    rw [List.cons_append, lastLo_cons]
    have ih := StepsP.app (g := g) (T := T) (S := r) (a := s.lo)
    exact ⟨fun h => ⟨⟨h.1, (ih.1 h.2).1⟩, (ih.1 h.2).2⟩, fun h => ⟨h.1.1, ih.2 ⟨h.1.2, h.2⟩⟩⟩
theorem StepsP.up {g : Int} : ∀ {S : List SpotV} {a : Int}, StepsP g a S → StepsP g (a + 1) (upS S)
  | [], a, h => trivial
  | s :: r, a, h => ⟨by show s.hi + 1 - (a + 1) ≤ g; have := h.1; omega, StepsP.up (a := s.lo) h.2⟩
theorem StepsP.ins {g n : Int} {S : List SpotV} (h : StepsP g 0 S) (hs : SpotsP 0 n S) (hg : 1 ≤ g) (x : Int) : StepsP g 0 (insS S x) := by
  have hp := part_x x hs
  rw [hp, StepsP.app] at h
  unfold insS
  rw [StepsP.app]
  refine ⟨h.1, ?_⟩
  have h2 := h.2
  generalize ahS S x = P at *
  generalize bhS S x = Q at *
  unfold newS
  cases hP : P.getLast? with
  | none =>
    have e : lastLo 0 P = 0 := by unfold lastLo; rw [hP]
    rw [e] at h2 ⊢
    refine ⟨by show (1 : Int) - 0 ≤ g; omega, ?_⟩
    show StepsP g 1 (upS Q)
    exact h2.up
  | some p =>
    have e : lastLo 0 P = p.lo := by unfold lastLo; rw [hP]
    rw [e] at h2 ⊢
    cases Q with
    | nil => exact ⟨by show p.lo + 1 - p.lo ≤ g; omega, trivial⟩
    | cons q r => exact ⟨by show q.hi - p.lo ≤ g; exact h2.1, h2.up⟩
theorem StepsP.insL {g : Int} (hg : 1 ≤ g) : ∀ {L : List Int} {A : List Int} {S : List SpotV}, StepsP g 0 S → ToldS A S → StepsP g 0 (L.foldl insS S)
  | [], A, S, h, _ => h
  | x :: r, A, S, h, ht => by
    rw [List.foldl_cons]
    exact StepsP.insL hg (h.ins ht.can hg x) (ht.ins x)
theorem sqzR_steps {g lim : Int} (hg : lim ≤ g) : ∀ (r : List SpotV) (p : SpotV), StepsP g p.lo r → StepsP g p.lo (sqzR lim p r)
  | [], p, h => h
  | [s], p, h => h
  | s :: t :: r, p, h => by
    have ih := sqzR_steps hg (t :: r) s h.2
    have hne := sqzR_ne lim (t :: r) s (by simp)
    rw [sqzR]
    generalize sqzR lim s (t :: r) = R at *
    cases R with
    | nil => exact absurd rfl hne
    | cons q R' =>
      by_cases c : hiS (q :: R') - p.lo ≤ lim
      · rw [if_pos c]
        have c' : q.hi - p.lo ≤ lim := c
        exact ⟨by omega, ih.2⟩
      · rw [if_neg c]
        exact ⟨h.1, ih⟩
theorem StepsP.sqz {g lim : Int} (hg : lim ≤ g) {S : List SpotV} (h : StepsP g 0 S) : StepsP g 0 (sqzS lim S) := by
  cases S with
  | nil => trivial
  | cons s r => exact ⟨h.1, sqzR_steps hg r s h.2⟩
theorem mrg_steps {ga gb na nb : Int} (ha0 : 1 ≤ ga) (hb0 : 1 ≤ gb) : ∀ (n : Nat) (la lb : Int) (a b : List SpotV), a.length + b.length ≤ n → SpotsP la na a → SpotsP lb nb b → StepsP ga la a → StepsP gb lb b → StepsP (ga + gb - 1) (la + lb) (mrgS na nb la lb a b)
  | n, la, lb, [], [], _, _, _, _, _ => by unfold mrgS; trivial
  | 0, la, lb, s :: r, b, hn, _, _, _, _ => by simp at hn
  | 0, la, lb, [], t :: q, hn, _, _, _, _ => by simp at hn
  | n + 1, la, lb, s :: r, [], hn, ha, hb, sa, sb => by
    have ih := mrg_steps ha0 hb0 n s.lo lb r [] (by simp at hn ⊢; omega) ha.2.2.2.2 hb sa.2 sb
    have e2 : lb = nb := hb
    have h1 := sa.1
    unfold mrgS
    exact ⟨by show s.hi + nb - (la + lb) ≤ ga + gb - 1; omega, ih⟩
  | n + 1, la, lb, [], t :: q, hn, ha, hb, sa, sb => by
    have ih := mrg_steps ha0 hb0 n la t.lo [] q (by simp at hn ⊢; omega) ha hb.2.2.2.2 sa sb.2
    have e1 : la = na := ha
    have h1 := sb.1
    unfold mrgS
    exact ⟨by show t.hi + na - (la + lb) ≤ ga + gb - 1; omega, by show StepsP _ (t.lo + la) _; rw [show t.lo + la = la + t.lo by omega]; exact ih⟩
  | n + 1, la, lb, s :: r, t :: q, hn, ha, hb, sa, sb => by
    have h1 := sa.1
    have h2 := sb.1
    unfold mrgS
    split
    · have ih := mrg_steps ha0 hb0 n s.lo lb r (t :: q) (by simp at hn ⊢; omega) ha.2.2.2.2 hb sa.2 sb
      exact ⟨by show s.hi + t.hi - 1 - (la + lb) ≤ ga + gb - 1; omega, ih⟩
    · have ih := mrg_steps ha0 hb0 n la t.lo (s :: r) q (by simp at hn ⊢; omega) ha hb.2.2.2.2 sa sb.2
      exact ⟨by show t.hi + s.hi - 1 - (la + lb) ≤ ga + gb - 1; omega, by show StepsP _ (t.lo + la) _; rw [show t.lo + la = la + t.lo by omega]; exact ih⟩
theorem tot_told {A : List Int} {S : List SpotV} (h : ToldS A S) : totS S = A.length := by
  cases S with
  | nil =>
    have : (0 : Int) = A.length := h.can
    rw [totS_nil]; exact this
  | cons s r => exact h.can.tot (by simp)
theorem StepsP.merge {ga gb : Int} {A B : List Int} {a b : List SpotV} (ha0 : 1 ≤ ga) (hb0 : 1 ≤ gb) (ha : ToldS A a) (hb : ToldS B b) (sa : StepsP ga 0 a) (sb : StepsP gb 0 b) : StepsP (ga + gb - 1) 0 (mergeS a b) := by
  have h := mrg_steps ha0 hb0 (a.length + b.length) 0 0 a b (Nat.le_refl _) ha.can hb.can sa sb
  unfold mergeS
  rw [tot_told ha, tot_told hb]
  exact h
/-- The closest one to a place. -/
theorem close_told {S : List SpotV} {V : List Int} {g t : Int} (h : ToldS V S) (hs : StepsP g 0 S) (t1 : 1 ≤ t) (t2 : t ≤ V.length) : ∃ c, closeS t none S = some c ∧ c ∈ S ∧ unV V c.x + 1 ≤ t + g / 2 ∧ t ≤ upV V c.x + g / 2 ∧ unV V c.x + 1 ≤ upV V c.x := by
  obtain ⟨c, c1, c2, c3⟩ := close_half h.can h.first hs t1 t2
  obtain ⟨p1, p2⟩ := h.placed c c2
  unfold farS at c3
  exact ⟨c, c1, c2, by omega, by omega, mem_un (h.has c c2)⟩

/-! ### A sketch -/
abbrev GwV := List SpotV × List Int
def totG (s : GwV) : Int := totS s.1 + s.2.length
def flushG (u v : Int) (s : GwV) : GwV := if s.2 = [] then s else (sqzS (limG u v (totG s)) ((sortI s.2).foldl insS s.1), [])
def put1G (u v : Int) (s : GwV) (x : Int) : GwV := if s.2.length + 1 = 16 then flushG u v (s.1, s.2 ++ [x]) else (s.1, s.2 ++ [x])
def putG (u v : Int) (s : GwV) (x : Int) : Nat → GwV
  | 0 => s
  | n + 1 => put1G u v (putG u v s x n) x
def joinG (u v : Int) (s t : GwV) : GwV := (sqzS (limG u v (totS (flushG u v s).1 + totS (flushG u v t).1)) (mergeS (flushG u v s).1 (flushG u v t).1), [])
def buildG (u v : Int) (A : List PairV) : GwV := A.foldl (fun s p => putG u v s p.1 p.2.toNat) ([], [])
theorem build_snoc (u v : Int) (A : List PairV) (p : PairV) : buildG u v (A ++ [p]) = putG u v (buildG u v A) p.1 p.2.toNat := by unfold buildG; rw [List.foldl_append]; rfl
/-- A sketch that tells of the values V. -/
structure GwOk (u v : Int) (V : List Int) (s : GwV) : Prop where
  told : ∃ F, ToldS F s.1 ∧ (F ++ s.2).Perm V
  few : s.2.length < 16
  tight : StepsP (limG u v (totS s.1)) 0 s.1
theorem GwOk.nil (u v : Int) : GwOk u v [] ([], []) := ⟨⟨[], ToldS.nil, List.Perm.refl _⟩, by decide, trivial⟩
theorem GwOk.tot {u v : Int} {V : List Int} {s : GwV} (h : GwOk u v V s) : totG s = V.length := by
  obtain ⟨F, h1, h2⟩ := h.told
  have := h2.length_eq
  rw [List.length_append] at this
  unfold totG
  rw [tot_told h1]
  omega
theorem GwOk.perm {u v : Int} {V V' : List Int} {s : GwV} (h : GwOk u v V s) (hp : V.Perm V') : GwOk u v V' s := by
  obtain ⟨F, h1, h2⟩ := h.told
  exact ⟨⟨F, h1, h2.trans hp⟩, h.few, h.tight⟩
theorem flush_any {u v : Int} {V : List Int} {s : GwV} (hu : 0 ≤ u) (hv : 0 < v) (htold : ∃ F, ToldS F s.1 ∧ (F ++ s.2).Perm V) (htight : StepsP (limG u v (totS s.1)) 0 s.1) : GwOk u v V (flushG u v s) ∧ (flushG u v s).2 = [] ∧ ToldS V (flushG u v s).1 := by
  obtain ⟨F, h1, h2⟩ := htold
  unfold flushG
  by_cases c : s.2 = []
  · rw [if_pos c]
    rw [c, List.append_nil] at h2
    exact ⟨⟨⟨V, h1.perm h2, by rw [c, List.append_nil]⟩, by rw [c]; decide, htight⟩, c, h1.perm h2⟩
  · rw [if_neg c]
    have t1 := h1.insL (L := sortI s.2)
    have t2 : ToldS V ((sortI s.2).foldl insS s.1) := t1.perm (((sortI_perm s.2).append_left F).trans h2)
    have e1 := tot_told h1
    have e2 : totG s = V.length := by
      have := h2.length_eq
      rw [List.length_append] at this
      unfold totG
      omega
    have t3 := t2.sqz (limG u v (totG s))
    have e3 := tot_told t3
    have hm : limG u v (totS s.1) ≤ limG u v (totG s) := limG_mono hu hv (by unfold totG; omega)
    refine ⟨⟨⟨V, t3, by rw [List.append_nil]⟩, by show ([] : List Int).length < 16; decide, ?_⟩, rfl, t3⟩
    show StepsP (limG u v (totS (sqzS (limG u v (totG s)) _))) 0 (sqzS (limG u v (totG s)) _)
    rw [e3, ← e2]
    exact StepsP.sqz (Int.le_refl _) (StepsP.insL (limG_pos _ _ _) (htight.mono hm) h1)
theorem GwOk.flush {u v : Int} {V : List Int} {s : GwV} (hu : 0 ≤ u) (hv : 0 < v) (h : GwOk u v V s) : GwOk u v V (flushG u v s) ∧ (flushG u v s).2 = [] ∧ ToldS V (flushG u v s).1 := flush_any hu hv h.told h.tight
theorem GwOk.put1 {u v : Int} {V : List Int} {s : GwV} (hu : 0 ≤ u) (hv : 0 < v) (h : GwOk u v V s) (x : Int) : GwOk u v (V ++ [x]) (put1G u v s x) := by
  obtain ⟨F, h1, h2⟩ := h.told
  have hp : (F ++ (s.2 ++ [x])).Perm (V ++ [x]) := by rw [← List.append_assoc]; exact h2.append_right _
  unfold put1G
  by_cases c : s.2.length + 1 = 16
  · rw [if_pos c]
    exact (flush_any (s := (s.1, s.2 ++ [x])) hu hv ⟨F, h1, hp⟩ h.tight).1
  · rw [if_neg c]
    exact ⟨⟨F, h1, hp⟩, by show (s.2 ++ [x]).length < 16; rw [List.length_append]; have := h.few; simp; omega, h.tight⟩
theorem GwOk.put {u v : Int} {V : List Int} {s : GwV} (hu : 0 ≤ u) (hv : 0 < v) (h : GwOk u v V s) (x : Int) : ∀ n, GwOk u v (V ++ List.replicate n x) (putG u v s x n)
  | 0 => by show GwOk u v (V ++ []) s; rw [List.append_nil]; exact h
  | n + 1 => by
    have := (GwOk.put hu hv h x n).put1 hu hv x
    rw [List.append_assoc, ← List.replicate_succ'] at this
    exact this
theorem GwOk.join {u v : Int} {V V' : List Int} {s t : GwV} (hu : 0 ≤ u) (hv : 0 < v) (h : GwOk u v V s) (k : GwOk u v V' t) : GwOk u v (V ++ V') (joinG u v s t) ∧ ToldS (V ++ V') (joinG u v s t).1 := by
  obtain ⟨h1, h2, h3⟩ := h.flush hu hv
  obtain ⟨k1, k2, k3⟩ := k.flush hu hv
  have e1 := tot_told h3
  have e2 := tot_told k3
  have hm := (h3.merge k3).sqz (limG u v (totS (flushG u v s).1 + totS (flushG u v t).1))
  have e3 := tot_told hm
  have hst := StepsP.merge (limG_pos u v _) (limG_pos u v _) h3 k3 h1.tight k1.tight
  have hadd := limG_add (n := totS (flushG u v s).1) (m := totS (flushG u v t).1) hu hv (by omega) (by omega)
  refine ⟨⟨⟨V ++ V', hm, by rw [show (joinG u v s t).2 = [] from rfl, List.append_nil]⟩, by show ([] : List Int).length < 16; decide, ?_⟩, hm⟩
  show StepsP (limG u v (totS (sqzS _ _))) 0 (sqzS _ _)
  rw [e3, List.length_append, Int.natCast_add, ← e1, ← e2]
  exact StepsP.sqz (Int.le_refl _) (hst.mono hadd)
/-- All values, each so often. -/
def allG (A : List PairV) : List Int := A.flatMap fun p => List.replicate p.2.toNat p.1
theorem all_snoc (A : List PairV) (p : PairV) : allG (A ++ [p]) = allG A ++ List.replicate p.2.toNat p.1 := by unfold allG; rw [List.flatMap_append]; simp
theorem build_ok {u v : Int} (hu : 0 ≤ u) (hv : 0 < v) : ∀ (n : Nat) (A : List PairV), A.length = n → GwOk u v (allG A) (buildG u v A)
  | 0, A, hn => by rw [List.eq_nil_of_length_eq_zero hn]; exact GwOk.nil u v
  | n + 1, A, hn => by
    have hne : A ≠ [] := fun e => by rw [e] at hn; cases hn
    have e := List.dropLast_concat_getLast hne
    have ih := build_ok hu hv n A.dropLast (by rw [List.length_dropLast]; omega)
    have := ih.put hu hv (A.getLast hne).1 (A.getLast hne).2.toNat
    rw [← all_snoc, ← build_snoc, e] at this
    exact this
theorem up_rep (n : Nat) (y x : Int) : upV (List.replicate n y) x = if y ≤ x then (n : Int) else 0 := by
  induction n with
  | zero => rw [List.replicate_zero, upV_nil]; split <;> rfl
  | succ n ih => rw [List.replicate_succ, upV_cons, ih]; split <;> omega
theorem un_rep (n : Nat) (y x : Int) : unV (List.replicate n y) x = if y < x then (n : Int) else 0 := by
  induction n with
  | zero => rw [List.replicate_zero, unV_nil]; split <;> rfl
  | succ n ih => rw [List.replicate_succ, unV_cons, ih]; split <;> omega
theorem insI_cons (x y : Int) (r : List Int) : insI x (y :: r) = if y ≤ x then y :: insI x r else x :: y :: r := by
  unfold insI
  by_cases c : y ≤ x
  · rw [if_pos c, List.takeWhile_cons_of_pos (by simpa using c), List.dropWhile_cons_of_pos (by simpa using c)]; rfl
  · rw [if_neg c, List.takeWhile_cons_of_neg (by simpa using c), List.dropWhile_cons_of_neg (by simpa using c)]; rfl
theorem insI_sorted {x : Int} : ∀ {L : List Int}, L.Pairwise (fun a b => a ≤ b) → (insI x L).Pairwise fun a b => a ≤ b
  | [], _ => List.pairwise_singleton _ _
  | y :: r, h => by
    obtain ⟨h1, h2⟩ := List.pairwise_cons.1 h
    rw [insI_cons]
    by_cases c : y ≤ x
    · rw [if_pos c]
      refine List.pairwise_cons.2 ⟨fun z hz => ?_, insI_sorted h2⟩
      rcases List.mem_cons.1 ((insI_perm x r).mem_iff.1 hz) with e | e
      · omega
      · exact h1 z e
    · rw [if_neg c]
      refine List.pairwise_cons.2 ⟨fun z hz => ?_, h⟩
      rcases List.mem_cons.1 hz with e | e
      · omega
      · have := h1 z e; omega
theorem sortI_sorted (W : List Int) : (sortI W).Pairwise fun a b => a ≤ b := by
  have : ∀ (W L : List Int), L.Pairwise (fun a b => a ≤ b) → (W.foldl (fun L x => insI x L) L).Pairwise fun a b => a ≤ b := by
    intro W
    induction W with
    | nil => intro L h; exact h
    | cons x r ih => intro L h; exact ih _ (insI_sorted h)
  exact this W [] List.Pairwise.nil
end Go.Proofs.Ytecnlpkfcggimaa
