/-
  The law TreeAbove, walked from the contract.
-/
import Derived.Test.YtmfbcbaomfkdiaaTreeT
namespace Go.Proofs.Ytmfbcbaomfkdiaa
set_option linter.unusedVariables false
set_option linter.unusedSimpArgs false
open Go.RowKit Go.Joins

/-- A call that leaves a cell, and what lay below, as it was. -/
theorem keep16 {f : Nat} {args : Array Value} {w W : World} {P : Addr} {x : Value} {r : Ending} (h : Calls Try.prog f args W fun e w' => e = r ∧ Below W.heap.size W w') (hc : W.cell? P = some x) (hb : Below w.heap.size w W) : Calls Try.prog f args W fun e w' => e = r ∧ w'.cell? P = some x ∧ Below w.heap.size w w' :=
  h.mono fun e w' ⟨h1, h2⟩ => ⟨h1, cell_later h2 hc, hb.trans (h2.mono hb.size)⟩
theorem range_facts {b : Nat} {v u : Int} (hb : b ≤ 24) (hv : goodT b v = true) (hu : goodT b u = true) :
    (abI b v u = true ∧ ¬ rhiI b v < rloI b u ∧ ¬ rhiI b u < rloI b v) ∨ (abI b v u = false ∧ abI b u v = true ∧ ¬ rhiI b v < rloI b u ∧ ¬ rhiI b u < rloI b v) ∨
    (abI b v u = false ∧ abI b u v = false ∧ rhiI b v < rloI b u) ∨ (abI b v u = false ∧ abI b u v = false ∧ ¬ rhiI b v < rloI b u ∧ rhiI b u < rloI b v) := by
  obtain ⟨n, rfl, n1, n2⟩ := good_nat hv
  obtain ⟨m, rfl, m1, m2⟩ := good_nat hu
  have h := above_or (b := b) n1 n2 m1 m2
  unfold abI rhiI rloI hiI loI
  rw [hv, hu]
  simp only [Int.toNat_natCast, Bool.and_self, Bool.true_and, if_true, decide_eq_true_eq, decide_eq_false_iff_not]
  by_cases c1 : aboveT n m
  · have : ¬ (upT b n ≤ loT b m ∨ upT b m ≤ loT b n) := fun k => h.1 k (Or.inl c1)
    exact Or.inl ⟨c1, by omega, by omega⟩
  · by_cases c2 : aboveT m n
    · have : ¬ (upT b n ≤ loT b m ∨ upT b m ≤ loT b n) := fun k => h.1 k (Or.inr c2)
      exact Or.inr (Or.inl ⟨c1, c2, by omega, by omega⟩)
    · have := h.2 (fun k => k.elim c1 c2)
      by_cases c3 : upT b n ≤ loT b m
      · exact Or.inr (Or.inr (Or.inl ⟨c1, c2, by omega⟩))
      · exact Or.inr (Or.inr (Or.inr ⟨c1, c2, by omega, by omega⟩))
theorem before_facts {b : Nat} {v u : Int} (hv : goodT b v = true) (hu : goodT b u = true) :
    ((v != u) = false ∧ beforeT b v.toNat u.toNat = false ∧ beforeT b u.toNat v.toNat = false) ∨ ((v != u) = true ∧ beforeT b v.toNat u.toNat = true ∧ beforeT b u.toNat v.toNat = false) ∨ ((v != u) = true ∧ beforeT b v.toNat u.toNat = false ∧ beforeT b u.toNat v.toNat = true) := by
  obtain ⟨n, rfl, n1, n2⟩ := good_nat hv
  obtain ⟨m, rfl, m1, m2⟩ := good_nat hu
  obtain ⟨h1, h2⟩ := before_or (b := b) n1 m1
  simp only [Int.toNat_natCast]
  by_cases c : n = m
  · subst c
    have e : (n == n) = true := by simp
    rw [e] at h1
    cases k : beforeT b n n with
    | true => rw [k] at h1; cases h1
    | false => exact Or.inl ⟨by simp, rfl, rfl⟩
  · have e : (n == m) = false := by simpa using c
    have e2 : ((n : Int) != (m : Int)) = true := by simp; omega
    rw [e] at h1
    rw [e2]
    cases k1 : beforeT b n m <;> cases k2 : beforeT b m n <;> rw [k1, k2] at h1 h2 <;> simp at h1 h2 ⊢

set_option maxRecDepth 100000 in
set_option maxHeartbeats 4000000 in
theorem tree_above_walk (D : TreeDoes) (d v u x : Int) (hd : I64 d) (hv : I64 v) (hu : I64 u) (hx : I64 x) (w : World) :
    Calls Try.prog 5 #[.int .i64 d, .int .i64 v, .int .i64 u, .int .i64 x] w fun e w' => e = .returned (.bool true) ∧ Below w.heap.size w w' := by
  have HD := Lib.hid D
  have HAL := Lib.hid (alive16_any D w)
  by_cases hin : 1 ≤ d ∧ d ≤ 24
  case neg =>
    have HN := Lib.hid (fun W => D.new_no W d hd hin)
    clear D hin hx hd hv hu
    go_enter Try.func5, Try.ntmps5
    go_wp2_with fail
    refine HAL.out.mono ?_
    rintro e w1 ⟨rfl, b1⟩
    go_wp2_with fail
    refine (HN.out _).mono ?_
    rintro e w2 ⟨y, rfl, b2'⟩
    have b2 := b1.trans (b2'.mono b1.size)
    have hb3 : Below w2.heap.size w2 (w2.alloc (.cells #[.int .i64 y] 24)) := (Below.refl _ _).alloc (Nat.le_refl _) _
    have b3 := b2.trans (hb3.mono b2.size)
    go_wp2_with fail
    go_ret
    exact ⟨rfl, b3⟩
  case pos =>
    obtain ⟨b, rfl⟩ : ∃ b : Nat, d = b := ⟨d.toNat, by omega⟩
    have hb1 : 1 ≤ b := by omega
    have hb2 : b ≤ 24 := by omega
    have HN := Lib.hid (fun W => D.new_ok W b hb1 hb2)
    have GV := Lib.hid (fun W => rgood16_any W b hb2 v hv _ rfl)
    have GU := Lib.hid (fun W => rgood16_any W b hb2 u hu _ rfl)
    have GX := Lib.hid (fun W => rgood16_any W b hb2 x hx _ rfl)
    obtain ⟨gv, hgv⟩ : ∃ g, goodT b v = g := ⟨_, rfl⟩
    obtain ⟨gu, hgu⟩ : ∃ g, goodT b u = g := ⟨_, rfl⟩
    obtain ⟨gx, hgx⟩ : ∃ g, goodT b x = g := ⟨_, rfl⟩
    rw [hgv] at GV
    rw [hgu] at GU
    rw [hgx] at GX
    have HGV := Lib.hid hgv
    have HGU := Lib.hid hgu
    have HGX := Lib.hid hgx
    have HV := Lib.hid hv
    have HU := Lib.hid hu
    have AB := Lib.hid (fun W => D.above W b v u hb1 hb2 hv hu)
    have BA := Lib.hid (fun W => D.above W b u v hb1 hb2 hu hv)
    have RV := Lib.hid (fun W => D.range W b v hb1 hb2 hv)
    have RU := Lib.hid (fun W => D.range W b u hb1 hb2 hu)
    clear D hin hd hgv hgu hgx hv hu hx
    go_enter Try.func5, Try.ntmps5
    go_wp2_with fail
    refine HAL.out.mono ?_
    rintro e w1 ⟨rfl, b1⟩
    go_wp2_with fail
    refine (HN.out _).mono ?_
    rintro e w2 ⟨rfl, b2'⟩
    have b2 := b1.trans (b2'.mono b1.size)
    have hb3 : Below w2.heap.size w2 (w2.alloc (.cells #[.int .i64 b] 24)) := (Below.refl _ _).alloc (Nat.le_refl _) _
    have c3 := tree_cell w2 (.int .i64 b)
    have b3 := b2.trans (hb3.mono b2.size)
    clear b1 b2' b2 hb3 HN HAL
    have GV := Lib.hid (fun W (h1 : W.cell? ⟨w2.heap.size, 0, none⟩ = some (.int .i64 b)) (h2 : Below w.heap.size w W) => keep16 (GV.out W) h1 h2)
    have GU := Lib.hid (fun W (h1 : W.cell? ⟨w2.heap.size, 0, none⟩ = some (.int .i64 b)) (h2 : Below w.heap.size w W) => keep16 (GU.out W) h1 h2)
    have GX := Lib.hid (fun W (h1 : W.cell? ⟨w2.heap.size, 0, none⟩ = some (.int .i64 b)) (h2 : Below w.heap.size w W) => keep16 (GX.out W) h1 h2)
    have AB := Lib.hid (fun W (h1 : W.cell? ⟨w2.heap.size, 0, none⟩ = some (.int .i64 b)) (h2 : Below w.heap.size w W) => keep16 (AB.out W) h1 h2)
    have BA := Lib.hid (fun W (h1 : W.cell? ⟨w2.heap.size, 0, none⟩ = some (.int .i64 b)) (h2 : Below w.heap.size w W) => keep16 (BA.out W) h1 h2)
    have RV := Lib.hid (fun W (h1 : W.cell? ⟨w2.heap.size, 0, none⟩ = some (.int .i64 b)) (h2 : Below w.heap.size w W) => keep16 (RV.out W) h1 h2)
    have RU := Lib.hid (fun W (h1 : W.cell? ⟨w2.heap.size, 0, none⟩ = some (.int .i64 b)) (h2 : Below w.heap.size w W) => keep16 (RU.out W) h1 h2)
    cases gv with
    | false =>
      have e : abI b v u = false := by unfold abI; rw [HGV.out]; rfl
      rw [e] at AB
      clear e
      go_wp2_with ((first
        | (go_at_call 13; with_reducible refine (GV.out _ (by assumption) (by assumption)).mono ?_; rintro e w' ⟨rfl, hc', hb'⟩)
        | (go_at_call 21; with_reducible refine (AB.out _ (by assumption) (by assumption)).mono ?_; rintro e w' ⟨rfl, hc', hb'⟩)))
      go_ret
      exact ⟨rfl, by assumption⟩
    | true =>
      cases gu with
      | false =>
        have e : abI b v u = false := by unfold abI; rw [HGU.out, Bool.and_false]; rfl
        rw [e] at AB
        clear e
        go_wp2_with ((first
          | (go_at_call 13; with_reducible refine (GV.out _ (by assumption) (by assumption)).mono ?_; rintro e w' ⟨rfl, hc', hb'⟩)
          | (go_at_call 13; with_reducible refine (GU.out _ (by assumption) (by assumption)).mono ?_; rintro e w' ⟨rfl, hc', hb'⟩)
          | (go_at_call 21; with_reducible refine (AB.out _ (by assumption) (by assumption)).mono ?_; rintro e w' ⟨rfl, hc', hb'⟩)))
        go_ret
        exact ⟨rfl, by assumption⟩
      | true =>
        obtain ⟨n, hn, n1, n2⟩ := good_nat HGV.out
        obtain ⟨m, hm, m1, m2⟩ := good_nat HGU.out
        have hp := (pow_bd hb2).2
        have n3 : n < 33554432 := by rw [Nat.pow_succ] at n2; omega
        have m3 : m < 33554432 := by rw [Nat.pow_succ] at m2; omega
        have RA : Hid (∀ W, W.cell? ⟨w2.heap.size, 0, none⟩ = some (.int .i64 b) → Below w.heap.size w W → Calls Try.prog 22 #[.int .i64 v, .int .i64 u] W fun e w' => e = .returned (.bool (abI b v u)) ∧ w'.cell? ⟨w2.heap.size, 0, none⟩ = some (.int .i64 b) ∧ Below w.heap.size w w') := Lib.hid fun W h1 h2 => by
          have := rabove_any W n m n3 m1 m3 (abI b v u) (by unfold abI; rw [HGV.out, HGU.out, hn, hm]; simp)
          rw [← hn, ← hm] at this
          exact keep16 this h1 h2
        have RB : Hid (∀ W, W.cell? ⟨w2.heap.size, 0, none⟩ = some (.int .i64 b) → Below w.heap.size w W → Calls Try.prog 24 #[.int .i64 b, .int .i64 v, .int .i64 u] W fun e w' => e = .returned (.bool (beforeT b v.toNat u.toNat)) ∧ w'.cell? ⟨w2.heap.size, 0, none⟩ = some (.int .i64 b) ∧ Below w.heap.size w w') := Lib.hid fun W h1 h2 => by
          have := rbefore_any W b n m hb2 n1 n2 m1 m2 _ rfl
          rw [← hn, ← hm] at this
          rw [show v.toNat = n by omega, show u.toNat = m by omega]
          exact keep16 this h1 h2
        have VU := Lib.hid (fun W (h1 : W.cell? ⟨w2.heap.size, 0, none⟩ = some (.int .i64 b)) (h2 : Below w.heap.size w W) => keep16 (HD.out.before W b v u hb1 hb2 HGV.out HGU.out) h1 h2)
        have UV := Lib.hid (fun W (h1 : W.cell? ⟨w2.heap.size, 0, none⟩ = some (.int .i64 b)) (h2 : Below w.heap.size w W) => keep16 (HD.out.before W b u v hb1 hb2 HGU.out HGV.out) h1 h2)
        have F1 := range_facts hb2 HGV.out HGU.out
        have F2 := before_facts HGV.out HGU.out
        obtain ⟨r0, hr0⟩ : ∃ r, rloI b v = r := ⟨_, rfl⟩
        obtain ⟨r1, hr1⟩ : ∃ r, rhiI b v = r := ⟨_, rfl⟩
        obtain ⟨s0, hs0⟩ : ∃ r, rloI b u = r := ⟨_, rfl⟩
        obtain ⟨s1, hs1⟩ : ∃ r, rhiI b u = r := ⟨_, rfl⟩
        obtain ⟨ab, hab⟩ : ∃ r, abI b v u = r := ⟨_, rfl⟩
        obtain ⟨ba, hba⟩ : ∃ r, abI b u v = r := ⟨_, rfl⟩
        obtain ⟨vu, hvu⟩ : ∃ r, beforeT b v.toNat u.toNat = r := ⟨_, rfl⟩
        obtain ⟨uv, huv⟩ : ∃ r, beforeT b u.toNat v.toNat = r := ⟨_, rfl⟩
        rw [hr0, hr1] at RV
        rw [hs0, hs1] at RU
        rw [hab] at AB RA
        rw [hba] at BA
        rw [hvu] at VU RB
        rw [huv] at UV
        rw [hr0, hr1, hs0, hs1, hab, hba] at F1
        rw [hvu, huv] at F2
        have HVU := Lib.hid hvu
        clear hr0 hr1 hs0 hs1 hab hba hvu huv hn hm n1 n2 m1 m2 hp n3 m3
        cases gx with
        | false =>
          rcases F1 with ⟨rfl, f1, f2⟩ | ⟨rfl, rfl, f1, f2⟩ | ⟨rfl, rfl, f1⟩ | ⟨rfl, rfl, f1, f2⟩ <;> rcases F2 with ⟨g1, rfl, rfl⟩ | ⟨g1, rfl, rfl⟩ | ⟨g1, rfl, rfl⟩
          all_goals
            go_wp2_with ((first
              | (go_at_call 13; with_reducible refine (GV.out _ (by assumption) (by assumption)).mono ?_; rintro e w' ⟨rfl, hc', hb'⟩)
              | (go_at_call 13; with_reducible refine (GU.out _ (by assumption) (by assumption)).mono ?_; rintro e w' ⟨rfl, hc', hb'⟩)
              | (go_at_call 13; with_reducible refine (GX.out _ (by assumption) (by assumption)).mono ?_; rintro e w' ⟨rfl, hc', hb'⟩)
              | (go_at_call 10; with_reducible refine (RV.out _ (by assumption) (by assumption)).mono ?_; rintro e w' ⟨rfl, hc', hb'⟩)
              | (go_at_call 10; with_reducible refine (RU.out _ (by assumption) (by assumption)).mono ?_; rintro e w' ⟨rfl, hc', hb'⟩)
              | (go_at_call 21; with_reducible refine (AB.out _ (by assumption) (by assumption)).mono ?_; rintro e w' ⟨rfl, hc', hb'⟩)
              | (go_at_call 21; with_reducible refine (BA.out _ (by assumption) (by assumption)).mono ?_; rintro e w' ⟨rfl, hc', hb'⟩)
              | (go_at_call 22; with_reducible refine (RA.out _ (by assumption) (by assumption)).mono ?_; rintro e w' ⟨rfl, hc', hb'⟩)
              | (go_at_call 24; with_reducible refine (RB.out _ (by assumption) (by assumption)).mono ?_; rintro e w' ⟨rfl, hc', hb'⟩)
              | (go_at_call 23; with_reducible refine (VU.out _ (by assumption) (by assumption)).mono ?_; rintro e w' ⟨rfl, hc', hb'⟩)
              | (go_at_call 23; with_reducible refine (UV.out _ (by assumption) (by assumption)).mono ?_; rintro e w' ⟨rfl, hc', hb'⟩)))
            go_ret
            exact ⟨rfl, by assumption⟩
        | true =>
          have VX := Lib.hid (fun W (h1 : W.cell? ⟨w2.heap.size, 0, none⟩ = some (.int .i64 b)) (h2 : Below w.heap.size w W) => keep16 (HD.out.before W b v x hb1 hb2 HGV.out HGX.out) h1 h2)
          have UX := Lib.hid (fun W (h1 : W.cell? ⟨w2.heap.size, 0, none⟩ = some (.int .i64 b)) (h2 : Below w.heap.size w W) => keep16 (HD.out.before W b u x hb1 hb2 HGU.out HGX.out) h1 h2)
          have F3 : vu = true → beforeT b u.toNat x.toNat = true → beforeT b v.toNat x.toNat = true := fun h1 h2 => before_trans (HVU.out.trans h1) h2
          obtain ⟨vx, hvx⟩ : ∃ r, beforeT b v.toNat x.toNat = r := ⟨_, rfl⟩
          obtain ⟨ux, hux⟩ : ∃ r, beforeT b u.toNat x.toNat = r := ⟨_, rfl⟩
          rw [hvx] at VX F3
          rw [hux] at UX F3
          clear hvx hux
          have F4 : (vu = true ∧ ux = true ∧ vx = true) ∨ (vu = true ∧ ux = false) ∨ vu = false := by
            cases vu <;> cases ux <;> cases vx <;> simp at F3 ⊢
          clear F3
          rcases F1 with ⟨rfl, f1, f2⟩ | ⟨rfl, rfl, f1, f2⟩ | ⟨rfl, rfl, f1⟩ | ⟨rfl, rfl, f1, f2⟩ <;> rcases F2 with ⟨g1, rfl, rfl⟩ | ⟨g1, rfl, rfl⟩ | ⟨g1, rfl, rfl⟩ <;> rcases F4 with ⟨k1, rfl, rfl⟩ | ⟨k1, rfl⟩ | k1
          all_goals
            first
            | cases k1; done
            | (clear k1
               go_wp2_with ((first
                | (go_at_call 13; with_reducible refine (GV.out _ (by assumption) (by assumption)).mono ?_; rintro e w' ⟨rfl, hc', hb'⟩)
                | (go_at_call 13; with_reducible refine (GU.out _ (by assumption) (by assumption)).mono ?_; rintro e w' ⟨rfl, hc', hb'⟩)
                | (go_at_call 13; with_reducible refine (GX.out _ (by assumption) (by assumption)).mono ?_; rintro e w' ⟨rfl, hc', hb'⟩)
                | (go_at_call 10; with_reducible refine (RV.out _ (by assumption) (by assumption)).mono ?_; rintro e w' ⟨rfl, hc', hb'⟩)
                | (go_at_call 10; with_reducible refine (RU.out _ (by assumption) (by assumption)).mono ?_; rintro e w' ⟨rfl, hc', hb'⟩)
                | (go_at_call 21; with_reducible refine (AB.out _ (by assumption) (by assumption)).mono ?_; rintro e w' ⟨rfl, hc', hb'⟩)
                | (go_at_call 21; with_reducible refine (BA.out _ (by assumption) (by assumption)).mono ?_; rintro e w' ⟨rfl, hc', hb'⟩)
                | (go_at_call 22; with_reducible refine (RA.out _ (by assumption) (by assumption)).mono ?_; rintro e w' ⟨rfl, hc', hb'⟩)
                | (go_at_call 24; with_reducible refine (RB.out _ (by assumption) (by assumption)).mono ?_; rintro e w' ⟨rfl, hc', hb'⟩)
                | (go_at_call 23; with_reducible refine (VU.out _ (by assumption) (by assumption)).mono ?_; rintro e w' ⟨rfl, hc', hb'⟩)
                | (go_at_call 23; with_reducible refine (UV.out _ (by assumption) (by assumption)).mono ?_; rintro e w' ⟨rfl, hc', hb'⟩)
                | (go_at_call 23; with_reducible refine (UX.out _ (by assumption) (by assumption)).mono ?_; rintro e w' ⟨rfl, hc', hb'⟩)
                | (go_at_call 23; with_reducible refine (VX.out _ (by assumption) (by assumption)).mono ?_; rintro e w' ⟨rfl, hc', hb'⟩)))
               go_ret
               exact ⟨rfl, by assumption⟩)
end Go.Proofs.Ytmfbcbaomfkdiaa
