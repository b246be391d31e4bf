/-
  Walk: the landed code of runs: Join.
-/
import Derived.Test.YtllnbbfeplgjjaaSortP
import Derived.Test.YtllnbbfeplgjjaaRunsI
import Derived.Test.YtllnbbfeplgjjaaRunsN
import Derived.BigQuiet
import Derived.Deep.RegionWith
namespace Go.Proofs.Ytllnbbfeplgjjaa
set_option linter.unusedVariables false
set_option linter.unusedSimpArgs false
open Go.RowKit

theorem sum_perm {A B : List PairV} (h : A.Perm B) : sumP A = sumP B := by
  induction h with
  | nil => rfl
  | cons p _ ih => rw [sumP_cons, sumP_cons, ih]
  | swap p q r => rw [sumP_cons, sumP_cons, sumP_cons, sumP_cons]; omega
  | trans _ _ h1 h2 => exact h1.trans h2
theorem count_perm {A B : List PairV} (h : A.Perm B) (j : Int) : countP A j = countP B j := by
  unfold countP; exact sum_perm (h.filter _)
theorem fold_perm {A B : List PairV} (h : A.Perm B) (ok : ∀ p, p ∈ A → okP p ∧ p.2 ≤ 1099511627776) (hl : A.length ≤ 1000) : foldP A = foldP B := by
  obtain ⟨s1, c1⟩ := fold_sums A ok hl
  obtain ⟨s2, c2⟩ := fold_sums B (fun p hp => ok p (h.mem_iff.2 hp)) (by rw [← h.length_eq]; exact hl)
  exact good_ext s1.good s2.good fun j => by rw [c1, c2, count_perm h]
/-- An index of what is folded is one of those that were. -/
theorem fold_mem {A : List PairV} (ok : ∀ p, p ∈ A → okP p ∧ p.2 ≤ 1099511627776) (hl : A.length ≤ 1000) {q : PairV} (hq : q ∈ foldP A) : ∃ p, p ∈ A ∧ p.1 = q.1 := by
  obtain ⟨s1, c1⟩ := fold_sums A ok hl
  have h1 : 1 ≤ countP (foldP A) q.1 := by
    have hg := s1.good
    rcases good_part q.1 hg with ⟨n, e1, e2, e3⟩ | ⟨e1, e2⟩
    · omega
    · exfalso
      rw [← e1] at hq
      rcases List.mem_append.1 hq with h | h
      · have := (lowP_mem h).2; omega
      · have := (highP_mem h).2; omega
  rw [c1] at h1
  apply Classical.byContradiction
  intro hn
  have : countP A q.1 = 0 := by
    unfold countP
    rw [List.filter_eq_nil_iff.2]; rfl
    intro p hp
    have : p.1 ≠ q.1 := fun e => hn ⟨p, hp, e⟩
    simpa using this
  omega
/-- Adding at the end of a row, or behind it. -/
theorem add_end {M : List PairV} {i c : Int} (hg : GoodP M) (hle : ∀ q, q ∈ M → q.1 ≤ i) (hc : 0 < c) :
    (∃ n, M = lowP M i ++ [(i, n)] ∧ countP M i = n ∧ addP M i c = lowP M i ++ [(i, n + c)]) ∨ ((∀ q, M.getLast? = some q → q.1 ≠ i) ∧ countP M i = 0 ∧ addP M i c = M ++ [(i, c)]) := by
  have hh : highP M i = [] := by
    unfold highP; rw [List.filter_eq_nil_iff]
    intro p hp; have := hle p hp; simp; exact this
  rcases good_part i hg with ⟨n, e1, e2, e3⟩ | ⟨e1, e2⟩
  · rw [hh] at e1
    refine Or.inl ⟨n, e1.symm, e2, ?_⟩
    unfold addP; rw [hh, e2, List.append_nil]; unfold midP; rw [if_pos (by omega)]
  · rw [hh, List.append_nil] at e1
    refine Or.inr ⟨fun q hq e => ?_, e2, ?_⟩
    · have h1 := List.mem_of_getLast? hq
      rw [← e1] at h1
      have := (lowP_mem h1).2; omega
    · unfold addP; rw [hh, e2, e1, List.append_nil, Int.zero_add]; unfold midP; rw [if_pos hc]

set_option maxRecDepth 100000 in
set_option maxHeartbeats 2000000 in
theorem join_does : JoinDoes := by
  intro w A cap R h hl hg hall hlen
  have hpos : ∀ p, p ∈ allP R → 1 ≤ p.2 := fun p hp => by
    obtain ⟨r, hr, hq⟩ := all_mem hp
    exact ((hg r hr).1.1 p hq).1
  have HC := Lib.hid (concat_any w A R.length cap R h rfl (by omega) (by omega))
  obtain ⟨L, hL⟩ : ∃ L, allP R = L := ⟨_, rfl⟩
  rw [hL] at HC hall hlen hpos ⊢
  have HALL := Lib.hid hall
  have HPOS := Lib.hid hpos
  clear h hg hall hpos hL
  go_enter Try.func17, Try.ntmps17
  go_wp2_with fail
  refine HC.out.mono ?_
  rintro e w1 ⟨v1, rfl, ho1, hb1⟩
  have hb1s := hb1.size
  have HS := Lib.hid (sort_own w w1 w.heap.size v1 L ho1 (fun p hp => (HALL.out p hp).1) hb1 hb1s (by omega))
  clear ho1 hb1 hb1s HC
  go_wp2_with fail
  refine HS.out.mono ?_
  rintro e W ⟨rfl, A2, cap2, D, rfl, hPD, hperm, hpw, hbW, hbWs⟩
  have hDl : D.length ≤ 1000 := by rw [hperm.length_eq]; exact hlen
  have hDok : ∀ p, p ∈ D → okP p ∧ p.2 ≤ 1099511627776 := fun p hp => HALL.out p (hperm.mem_iff.1 hp)
  have HDP : Hid (∀ p, p ∈ D → 1 ≤ p.2) := Lib.hid fun p hp => HPOS.out p (hperm.mem_iff.1 hp)
  have HF : Hid (foldP D = foldP L) := Lib.hid (fold_perm hperm hDok hDl)
  have HD := Lib.hid hDok
  have HPW := Lib.hid hpw
  have HPD := Lib.hid hPD
  have HBW := Lib.hid hbW
  clear HS hPD hperm hpw hbW hDok HALL HPOS
  go_wp2_with fail
  go_loopw [4, 14] (fun v j wr => ∃ k : Nat, k ≤ D.length ∧ j = .int .i64 k ∧ OwnP wr W.heap.size v (foldP (D.take k)) ∧ Below W.heap.size W wr) (fun _ j _ => D.length - (intOf j).toNat)
  case atStart => exact ⟨0, Nat.zero_le _, rfl, OwnP.nil _ _, Below.refl _ _⟩
  case round =>
    obtain ⟨k, hk, rfl, hown, hb2⟩ := hrel
    have hbs := hb2.size
    have HO := Lib.hid hown
    clear hown
    by_cases hlt : k < D.length
    · have kk : (k : Int) < D.length := by omega
      have hxk : D[k]? = some D[k] := List.getElem?_eq_getElem hlt
      generalize hit : D[k] = p at *
      have htok : ∀ q, q ∈ D.take k → okP q ∧ q.2 ≤ 1099511627776 := fun q hq => HD.out q (List.mem_of_mem_take hq)
      have htl : (D.take k).length ≤ 1000 := by rw [List.length_take]; omega
      obtain ⟨hs, hcs⟩ := fold_sums _ htok htl
      have hpm := HD.out p (List.mem_of_getElem? hxk)
      have hp1 := HDP.out p (List.mem_of_getElem? hxk)
      have hle : ∀ q, q ∈ foldP (D.take k) → q.1 ≤ p.1 := fun q hq => by
        obtain ⟨z, hz, e⟩ := fold_mem htok htl hq
        obtain ⟨t, ht, rfl⟩ := List.getElem_of_mem hz
        rw [List.length_take] at ht
        have h1 := (List.pairwise_iff_getElem.1 HPW.out) t k (by omega) hlt (by omega)
        rw [hit] at h1
        rw [List.getElem_take] at e
        omega
      have hend := add_end hs.good hle (by omega : 0 < p.2)
      have hfs : foldP (D.take (k + 1)) = addP (foldP (D.take k)) p.1 p.2 := by rw [take_snocP hxk, fold_snoc]
      have hml : (foldP (D.take k)).length ≤ 1000 := by have := hs.len; omega
      have hcnt : countP (foldP (D.take k)) p.1 ≤ 1000 * 1099511627776 := by have := (hs.cnt p.1).2; omega
      have hmok := hs.ok
      obtain ⟨px, pc⟩ := p
      obtain ⟨b0, off, rfl, hbl, c0, c1⟩ := (HPD.out.call hb2).at_ k _ hxk
      obtain ⟨M, hM⟩ : ∃ M, foldP (D.take k) = M := ⟨_, rfl⟩
      rw [hM] at HO hend hfs hml hmok hcnt
      simp only at c0 c1 hpm hp1 hend hfs hcnt
      have HFS := Lib.hid hfs
      have HMOK := Lib.hid hmok
      have HP := Lib.hid hpm
      clear hxk hit hs hcs hle hfs hM hpm htok htl hmok
      have p0 : 0 ≤ pc := by omega
      have p2 : pc ≤ 1099511627776 := HP.out.2
      rcases hend with ⟨n, hM1, hcn, hadd⟩ | ⟨hlast, hc0, hadd⟩
      · obtain ⟨lo, hlo⟩ : ∃ lo, lowP M px = lo := ⟨_, rfl⟩
        rw [hlo] at hM1 hadd
        obtain ⟨u, hu⟩ : ∃ u, lo.length = u := ⟨_, rfl⟩
        have hMl : M.length = u + 1 := by rw [hM1, List.length_append, hu]; rfl
        have hMu : M[u]? = some (px, n) := by rw [hM1, List.getElem?_append_right (by omega), hu, Nat.sub_self]; rfl
        rw [hcn] at hcnt
        have hown' : wr.ownsRow W.heap.size 26 2 u4 M.length (cellsQ M) := HO.out
        obtain ⟨g, cap4, hv4⟩ : ∃ g cap4, u4 = .slice (some ⟨g, 0, none⟩) M.length cap4 := by
          rcases hown'.2 with ⟨e, e0⟩ | ⟨g, cap', cur, e, _⟩
          · omega
          · exact ⟨g, cap', e⟩
        subst hv4
        have d0 : wr.cell? ⟨g, u * 2, none⟩ = some (.int .i64 px) := by rw [hown'.cellAt _ (by omega)]; exact (cellsQ_at M u _ hMu).1
        have d1 : wr.cell? ⟨g, u * 2 + 1, none⟩ = some (.int .u64 n) := by rw [hown'.cellAt _ (by omega)]; exact (cellsQ_at M u _ hMu).2
        have d9 : (wr.alloc (.cells #[.int .i64 px, .int .u64 pc] 26)).cell? ⟨g, u * 2, none⟩ = some (.int .i64 px) := cell_later ((Below.refl _ _).alloc (Nat.le_refl _) _) d0
        have u1 : IntKind.i64.wrap ((M.length : Int) - 1) = (u : Int) := by rw [IntKind.wrap_i64]; omega
        have u2 : (M.length : Int) - 1 = (u : Int) := by omega
        have u6 : IntKind.i64.wrap (u : Int) = (u : Int) := by rw [IntKind.wrap_i64]; omega
        have u7 : wrap64 (u : Int) = (u : Int) := by unfold wrap64; omega
        have u3 : (u : Int) < M.length := by omega
        have u5 : u < M.length := by omega
        have hbx := hb2.alloc hbs (.cells #[.int .i64 px, .int .u64 pc] 26)
        have h1 : (wr.alloc (.cells #[.int .i64 px, .int .u64 pc] 26)).ownsRow W.heap.size 26 2 (.slice (some ⟨g, 0, none⟩) M.length cap4) M.length (cellsQ M) := hown'.alloc _
        have hgl := HO.out.lt g rfl
        have HS : Hid (∀ n1, OwnP (((wr.alloc (.cells #[.int .i64 px, .int .u64 pc] 26)).drewN n1).setCell ⟨g, u * 2 + 1, none⟩ (.int .u64 (n + pc))) W.heap.size (.slice (some ⟨g, 0, none⟩) M.length cap4) (foldP (D.take (k + 1))) ∧ Below W.heap.size W (((wr.alloc (.cells #[.int .i64 px, .int .u64 pc] 26)).drewN n1).setCell ⟨g, u * 2 + 1, none⟩ (.int .u64 (n + pc))) ∧ ((wr.alloc (.cells #[.int .i64 px, .int .u64 pc] 26)).drewN n1).cell? ⟨g, u * 2 + 1, none⟩ = some (.int .u64 n) ∧ ((wr.alloc (.cells #[.int .i64 px, .int .u64 pc] 26)).drewN n1).frozen? ⟨g, u * 2 + 1, none⟩ = false) := Lib.hid fun n1 => by
          obtain ⟨s1, s2⟩ := h1.stored (u * 2 + 1) (.int .u64 (n + pc))
          have e5 := cellsQ_set lo [] px n (n + pc)
          rw [← hM1, hu] at e5
          rw [e5] at s1
          refine ⟨?_, ?_, ?_, ?_⟩
          · rw [HFS.out, hadd]
            unfold OwnP
            have e6 : (lo ++ [(px, n + pc)]).length = M.length := by rw [hMl, List.length_append, hu]; rfl
            rw [e6]
            exact s1
          · have := hbx.grown s2 (by simp; omega) (fun x hx => by have := Option.some.inj hx; omega)
            exact ⟨this.os, this.tape, this.output, this.size, this.block⟩
          · exact (h1.cellAt _ (by omega)).trans (cellsQ_at M u _ hMu).2
          · exact h1.frozenAt _
        have w1 : IntKind.u64.wrap (n + pc) = n + pc := by rw [IntKind.wrap_u64]; have := (HMOK.out _ (List.mem_of_getElem? hMu)).2.1; simp only at this; omega
        have HUM := Lib.hid hMl
        clear hM1 hlo hu hMl hMu hcn hadd hown' hbx h1 hgl hcnt
        go_wp2_with fail
        go_quiet (fail)
        clear d9
        obtain ⟨s1, s2, d2, f2⟩ := HS.out nq
        have x1 : ((wr.alloc (.cells #[.int .i64 px, .int .u64 pc] 26)).drewN nq).cell? ⟨wr.heap.size, 1, none⟩ = some (.int .u64 pc) := by go_simp
        clear HS c0 c1 d0 d1
        generalize (wr.alloc (.cells #[.int .i64 px, .int .u64 pc] 26)).drewN nq = w5 at *
        have HS1 := Lib.hid s1
        have HS2 := Lib.hid s2
        clear s1 s2
        go_wp2_with fail
        go_region_with (fail)
        all_goals
          clear w1 u1 u2 u6 u7 d2 f2 x1
          have hO3 : ∀ W3 : World, W3 = (w5.setCell ⟨g, u * 2 + 1, none⟩ (.int .u64 (n + pc))).drew → OwnP W3 W.heap.size (.slice (some ⟨g, 0, none⟩) M.length cap4) (foldP (D.take (k + 1))) ∧ Below W.heap.size W W3 := fun W3 e => by subst e; exact ⟨HS1.out, HS2.out.drew⟩
          obtain ⟨o3, b3⟩ := hO3 _ rfl
          have HO3 := Lib.hid o3
          have HB3 := Lib.hid b3
          clear o3 b3 hO3
          go_wp2_with fail
          go_roundw
          case rel => exact ⟨k + 1, by omega, by go_num, HO3.out, HB3.out⟩
          case measure => simp [intOf]; omega
      · have HADD := Lib.hid hadd
        have HML : Hid (M.length ≤ 1000) := Lib.hid hml
        by_cases hM0 : M = []
        · subst hM0
          obtain ⟨vA, vc, rfl⟩ := HO.out.form
          clear hadd hlast hc0 hcnt hml
          go_wp2_with fail
          go_quiet (fail)

          have hO1 : OwnP ((wr.alloc (.cells #[.int .i64 px, .int .u64 pc] 26)).drewN nq) W.heap.size (.slice vA 0 vc) [] := HO.out.alloc (.cells #[.int .i64 px, .int .u64 pc] 26)
          have hB1 := below_drewM (hb2.alloc hbs (.cells #[.int .i64 px, .int .u64 pc] 26)) nq
          have x0 : ((wr.alloc (.cells #[.int .i64 px, .int .u64 pc] 26)).drewN nq).cell? ⟨wr.heap.size, 0, none⟩ = some (.int .i64 px) := by go_simp
          have x1 : ((wr.alloc (.cells #[.int .i64 px, .int .u64 pc] 26)).drewN nq).cell? ⟨wr.heap.size, 1, none⟩ = some (.int .u64 pc) := by go_simp
          have hz1 := hB1.size
          have HO1 := Lib.hid hO1
          have HB1 := Lib.hid hB1
          clear hO1 hB1
          generalize (wr.alloc (.cells #[.int .i64 px, .int .u64 pc] 26)).drewN nq = w5 at *
          clear c0 c1
          go_wp2_with (at_builtin; refine wpList_append_pair rfl _ _ rfl W.heap.size _ _ w5.heap.size (px, pc) rfl (HO1.out.alloc _) rfl ?e1 ?e2 ?e3 ?e4 ?_)
          case e3 => have := HML.out; omega
          case e4 => first | omega | (simp; omega)
          intro v' w6 hown' hgrow
          have hb3 := OwnP.below (HO1.out.alloc _) (HB1.out.alloc hz1 _) hgrow (by simp; omega)
          rw [show [(px, pc)] = addP [] px pc from HADD.out.symm, ← HFS.out] at hown'
          clear hgrow
          go_wp2_with fail
          go_roundw
          case rel => exact ⟨k + 1, by omega, by go_num, hown', hb3⟩
          case measure => simp [intOf]; omega
        · obtain ⟨u, hu⟩ : ∃ u, M.length = u + 1 := ⟨M.length - 1, by have := List.length_pos_iff.2 hM0; omega⟩
          have hown' : wr.ownsRow W.heap.size 26 2 u4 M.length (cellsQ M) := HO.out
          obtain ⟨g, cap4, hv4⟩ : ∃ g cap4, u4 = .slice (some ⟨g, 0, none⟩) M.length cap4 := by
            rcases hown'.2 with ⟨e, e0⟩ | ⟨g, cap', cur, e, _⟩
            · omega
            · exact ⟨g, cap', e⟩
          subst hv4
          have hMu := List.getElem?_eq_getElem (l := M) (i := u) (by omega)
          generalize M[u] = q at hMu
          have hql : M.getLast? = some q := by rw [List.getLast?_eq_getElem?, hu, Nat.add_sub_cancel]; exact hMu
          have hqx := hlast q hql
          obtain ⟨qx, qc⟩ := q
          simp only at hqx
          have d0 : wr.cell? ⟨g, u * 2, none⟩ = some (.int .i64 qx) := by rw [hown'.cellAt _ (by omega)]; exact (cellsQ_at M u _ hMu).1
          have d9 : (wr.alloc (.cells #[.int .i64 px, .int .u64 pc] 26)).cell? ⟨g, u * 2, none⟩ = some (.int .i64 qx) := cell_later ((Below.refl _ _).alloc (Nat.le_refl _) _) d0
          have u1 : IntKind.i64.wrap ((M.length : Int) - 1) = (u : Int) := by rw [IntKind.wrap_i64]; omega
          have u2 : (M.length : Int) - 1 = (u : Int) := by omega
          have u6 : IntKind.i64.wrap (u : Int) = (u : Int) := by rw [IntKind.wrap_i64]; omega
          have u7 : wrap64 (u : Int) = (u : Int) := by unfold wrap64; omega
          have u3 : (u : Int) < M.length := by omega
          have u5 : u < M.length := by omega
          have q1 : (qx == px) = false := by simpa using hqx
          clear hadd hlast hc0 hcnt hml hMu hql hqx hown' hu hM0
          go_wp2_with fail
          go_quiet (fail)
          clear d9

          have hO1 : OwnP ((wr.alloc (.cells #[.int .i64 px, .int .u64 pc] 26)).drewN nq) W.heap.size (.slice (some ⟨g, 0, none⟩) M.length cap4) M := HO.out.alloc (.cells #[.int .i64 px, .int .u64 pc] 26)
          have hB1 := below_drewM (hb2.alloc hbs (.cells #[.int .i64 px, .int .u64 pc] 26)) nq
          have x0 : ((wr.alloc (.cells #[.int .i64 px, .int .u64 pc] 26)).drewN nq).cell? ⟨wr.heap.size, 0, none⟩ = some (.int .i64 px) := by go_simp
          have x1 : ((wr.alloc (.cells #[.int .i64 px, .int .u64 pc] 26)).drewN nq).cell? ⟨wr.heap.size, 1, none⟩ = some (.int .u64 pc) := by go_simp
          have hz1 := hB1.size
          have HO1 := Lib.hid hO1
          have HB1 := Lib.hid hB1
          clear hO1 hB1
          generalize (wr.alloc (.cells #[.int .i64 px, .int .u64 pc] 26)).drewN nq = w5 at *
          clear c0 c1 d0 u1 u2 u6 u7
          go_wp2_with (at_builtin; refine wpList_append_pair rfl _ _ rfl W.heap.size _ _ w5.heap.size (px, pc) rfl (HO1.out.alloc _) rfl ?f1 ?f2 ?f3 ?f4 ?_)
          case f3 => have := HML.out; omega
          case f4 => first | omega | (simp; omega)
          intro v' w6 hown' hgrow
          have hb3 := OwnP.below (HO1.out.alloc _) (HB1.out.alloc hz1 _) hgrow (by simp; omega)
          rw [← HADD.out, ← HFS.out] at hown'
          clear hgrow
          go_wp2_with fail
          go_roundw
          case rel => exact ⟨k + 1, by omega, by go_num, hown', hb3⟩
          case measure => simp [intOf]; omega
    · obtain rfl : k = D.length := by omega
      rw [List.take_length, HF.out] at HO
      have kk : ¬ (D.length : Int) < D.length := by omega
      go_wp2_with fail
      go_ret
      exact ⟨_, rfl, World.ownsRow.mono HO.out hbWs, HBW.out.trans (hb2.mono hbWs)⟩
end Go.Proofs.Ytllnbbfeplgjjaa
