/-
  Walk: the library's slices.Delete at a row of tuples that may be written.
-/
import Derived.Test.YtjmkkglmckiknaaTpcI
import Derived.Deep.RegionLaw
namespace Go.Proofs.Ytjmkkglmckiknaa
set_option linter.unusedVariables false
set_option linter.unusedSimpArgs false
open Go.RowKit

theorem zeroTu (w : World) : (zeroValue 52).run Try.prog w = .ok (.agg #[.int .i64 0, .int .u64 0, .int .u64 0]) w := by kernel_rfl
theorem zero_oneT (n : Nat) : ∀ v ∈ (Builtin.zeroCells (Value.agg #[.int .i64 0, .int .u64 0, .int .u64 0]).cells n).toList, v.oneCell' = true := by
  intro v hv
  unfold Builtin.zeroCells at hv
  simp [Value.cells] at hv
  obtain ⟨k, _, rfl⟩ := hv
  have h3 : k % 3 = 0 ∨ k % 3 = 1 ∨ k % 3 = 2 := by omega
  rcases h3 with e | e | e <;> rw [e] <;> rfl
theorem run_clear3 (w : World) (ty : TypeId) (b o n c : Nat) (hn : 0 < n) (hc : ∀ j, j < n * 3 → (w.cell? ⟨b, o + j, none⟩).isSome = true) (hf : ∀ j, j < n * 3 → w.frozen? ⟨b, o + j, none⟩ = false) :
    (Builtin.clear_ #[24] ty #[.slice (some ⟨b, o, none⟩) n c]).run Try.prog w = .ok (.tuple #[]) (w.setCells b o (Builtin.zeroCells (Value.agg #[.int .i64 0, .int .u64 0, .int .u64 0]).cells n).toList) := by
  have hz : (Builtin.zeroCells (Value.agg #[.int .i64 0, .int .u64 0, .int .u64 0]).cells n).toList.length = n * 3 := by
    rw [Array.length_toList, zero_lenT]; rfl
  have hst := run_storeCells_cells (P := Try.prog) b o (Builtin.zeroCells (Value.agg #[.int .i64 0, .int .u64 0, .int .u64 0]).cells n).toList 0 w (by rw [hz]; simpa using hc) (by rw [hz]; simpa using hf) (zero_oneT n)
  simp only [Nat.add_zero] at hst
  generalize hG : (Builtin.zeroCells (Value.agg #[.int .i64 0, .int .u64 0, .int .u64 0]).cells n).toList = zs at *
  obtain ⟨m, rfl⟩ : ∃ m, n = m + 1 := ⟨n - 1, by omega⟩
  simp [Builtin.clear_, run_underlying Try.underlying24, zeroTu, hG, hst]

set_option maxRecDepth 100000 in
set_option maxHeartbeats 4000000 in
theorem tdel_slab (w : World) (g off cap n i j : Nat) (C : List TupV) (h : SlabT w (some ⟨g, off, none⟩) cap C) (hn : C.length = n) (hij : i < j) (hj : j < n) (hl : n ≤ 100000) :
    Calls Try.prog 35 #[.slice (some ⟨g, off, none⟩) n cap, .int .i64 i, .int .i64 j] w (AddedVT w (some ⟨g, off, none⟩) (C.take i ++ C.drop j)) := by
  obtain ⟨i0, hi0, hz0, hz1, hz2⟩ := info_parts Try.infoOwnTu
  obtain ⟨cs, hg⟩ : ∃ cs, w.heap[g]? = some (.cells cs 52 (0, 0)) := by
    rcases h.blk with ⟨e, _⟩ | ⟨g', off', cs, e, hb⟩
    · cases e
    · obtain ⟨rfl, rfl, _⟩ := Addr.mk.inj (Option.some.inj e)
      exact ⟨cs, hb⟩
  have hr := h.room _ _ _ rfl hg
  have hfit := h.fit
  have hcm := h.capm
  have hcx : cap ≤ 9223372036854775807 := by have h9 := h.capm; unfold maxLen at h9; omega
  have hgd : w.drew.heap[g]? = some (.cells cs 52 (0, 0)) := hg
  have hc := pairs_cellsT h.pairs hg (by omega)
  rw [hn] at hc
  have hCt : (C.take i).length = i := by rw [List.length_take]; omega
  have hCd : (C.drop j).length = n - j := by rw [List.length_drop]; omega
  have hP : (cs.toList.take off).length = off := by rw [List.length_take]; simp; omega
  obtain ⟨P, hPe⟩ : ∃ P, cs.toList.take off = P := ⟨_, rfl⟩
  obtain ⟨R, hRe⟩ : ∃ R, cs.toList.drop (off + n * 3) = R := ⟨_, rfl⟩
  have hRl : R.length = cs.size - (off + n * 3) := by rw [← hRe, List.length_drop]; simp
  rw [hPe, hRe] at hc
  rw [hPe] at hP
  obtain ⟨news, hnews⟩ : ∃ news, news = cellsTu (C.drop j) := ⟨_, rfl⟩
  have hlen : news.length = (n - j) * 3 := by rw [hnews, cellsTu_len, hCd]
  have hsrc : Hid (∀ t u, news[t]? = some u → w.drew.cell? ((⟨g, off + j * 3, none⟩ : Addr).add t) = some u) := Lib.hid fun t u hu => by
    rw [Addr.add_lit]
    rw [hnews] at hu
    exact ((h.pairs.drop j).cell t u hu)
  have s1 : Hid (news.length = (n - j) * 3) := hlen
  have s2 : Hid (∀ u ∈ news, u.oneCell' = true) := Lib.hid (by rw [hnews]; exact cellsTu_one _)
  have s3 : Hid (∀ t, t < news.length → (w.drew.cell? ⟨g, off + i * 3 + t, none⟩).isSome = true ∧ w.drew.frozen? ⟨g, off + i * 3 + t, none⟩ = false) := Lib.hid fun t ht => by
    rw [hlen] at ht
    exact ⟨by rw [Joins.cell_of_block hgd, Array.getElem?_eq_getElem (by omega)]; rfl, free8T hgd _⟩
  obtain ⟨W1, hW1⟩ : ∃ W1, W1 = w.drew.setCells g (off + i * 3) news := ⟨_, rfl⟩
  obtain ⟨Y, hY⟩ : ∃ Y : Array Value, (cs.toList.take (off + i * 3) ++ news ++ cs.toList.drop (off + i * 3 + news.length)).toArray = Y := ⟨_, rfl⟩
  have hYs : Y.size = cs.size := by
    have e1 : cs.toList.length = cs.size := by simp
    rw [← hY]; simp; omega
  have hW1r : W1 = w.drew.setRow g Y := by
    rw [hW1, ← hY]
    exact setCells_rowT hgd (by omega) s2.out
  have hg1 : W1.heap[g]? = some (.cells Y 52 (0, 0)) := by rw [hW1r]; exact setRow_heap w.drew g _ _ _ _ hgd
  obtain ⟨zs, hzs⟩ : ∃ zs, (Builtin.zeroCells (Value.agg #[.int .i64 0, .int .u64 0, .int .u64 0]).cells (n - (i + (n - j)))).toList = zs := ⟨_, rfl⟩
  have hzl : zs.length = (n - (i + (n - j))) * 3 := by rw [← hzs, Array.length_toList, zero_lenT]; rfl
  have hz1c : ∀ v ∈ zs, v.oneCell' = true := by rw [← hzs]; exact zero_oneT _
  have hcl : ∀ ty, (Builtin.clear_ #[24] ty #[.slice (some ⟨g, off + (i + (n - j)) * 3, none⟩) (n - (i + (n - j))) (cap - (i + (n - j)))]).run Try.prog W1 = .ok (.tuple #[]) (W1.setCells g (off + (i + (n - j)) * 3) zs) := fun ty => by
    rw [← hzs]
    exact run_clear3 W1 ty g _ _ _ (by omega) (fun t ht => by rw [Joins.cell_of_block hg1, Array.getElem?_eq_getElem (by omega)]; rfl) (fun t ht => free8T hg1 _)
  obtain ⟨Z, hZ⟩ : ∃ Z : Array Value, (Y.toList.take (off + (i + (n - j)) * 3) ++ zs ++ Y.toList.drop (off + (i + (n - j)) * 3 + zs.length)).toArray = Z := ⟨_, rfl⟩
  have hZs : Z.size = Y.size := by
    have e1 : Y.toList.length = Y.size := by simp
    rw [← hZ]; simp; omega
  have hW2r : W1.setCells g (off + (i + (n - j)) * 3) zs = W1.setRow g Z := by
    rw [← hZ]
    exact setCells_rowT hg1 (by omega) hz1c
  have hfin : AddedVT w (some ⟨g, off, none⟩) (C.take i ++ C.drop j) (.returned (.slice (some ⟨g, off, none⟩) (i + (n - j)) cap)) (W1.setCells g (off + (i + (n - j)) * 3) zs) := by
    rw [hW2r]
    have hl3 : (C.take i ++ C.drop j).length = i + (n - j) := by rw [List.length_append]; omega
    have hg2 : (W1.setRow g Z).heap[g]? = some (.cells Z 52 (0, 0)) := setRow_heap W1 g _ _ _ _ hg1
    have hYl : Y.toList = P ++ (cellsTu (C.take i) ++ news) ++ cs.toList.drop (off + i * 3 + news.length) := by
      have e1 : cs.toList.take (off + i * 3) = P ++ cellsTu (C.take i) := by
        have e2 : cellsTu C = cellsTu (C.take i) ++ cellsTu (C.drop i) := by rw [← cellsTu_app, List.take_append_drop]
        have e3 : (P ++ cellsTu (C.take i)).length = off + i * 3 := by rw [List.length_append, cellsTu_len]; omega
        rw [hc, e2, ← List.append_assoc, List.append_assoc _ _ R, List.take_append_of_le_length (by omega), ← e3, List.take_length]
      rw [← hY, e1]
      simp
    have hYt : Y.toList.take (off + (i + (n - j)) * 3) = P ++ cellsTu (C.take i ++ C.drop j) := by
      have e3 : (P ++ (cellsTu (C.take i) ++ news)).length = off + (i + (n - j)) * 3 := by rw [List.length_append, List.length_append, cellsTu_len]; omega
      rw [hYl, ← e3, List.take_left' rfl, cellsTu_app, hnews]
    refine ⟨some ⟨g, off, none⟩, cap, by rw [hl3], slab_of_cellsT (P := P) (R := zs ++ Y.toList.drop (off + (i + (n - j)) * 3 + zs.length)) (fun p hp => ?_) hg2 hP ?_ (by omega) (by omega) hcm, ?_, Or.inl rfl⟩
    · rcases List.mem_append.1 hp with h1 | h1
      · exact h.pairs.ok p (List.mem_of_mem_take h1)
      · exact h.pairs.ok p (List.mem_of_mem_drop h1)
    · rw [← hZ, hYt]
      simp
    · refine grown_transT (w1 := W1) ?_ (grown_setRowT W1 g Z)
      rw [hW1r]
      exact ⟨rfl, rfl, rfl, by show w.heap.size ≤ (w.heap.modify g _).size; simp, fun k hk hr' => setRow_other w.drew g k Y (fun e => hr' (by rw [e]; rfl))⟩
  have HF := Lib.hid hfin
  have HW := Lib.hid hW1
  have HCL := Lib.hid hcl
  obtain ⟨W2, hW2⟩ : ∃ W2, W1.setCells g (off + (i + (n - j)) * 3) zs = W2 := ⟨_, rfl⟩
  rw [hW2] at HF hcl
  have hic : i ≤ cap := by omega
  have hjc : j ≤ cap := by omega
  have hin : i ≤ n := by omega
  have hnc : n ≤ cap := by omega
  have hcj : ¬ cap = j := by omega
  have hci : ¬ cap = i + (n - j) := by omega
  have hei : ((i : Int) == (j : Int)) = false := by rw [beq_eq_false_iff_ne]; omega
  have h1 : (i : Int) ≤ (j : Int) := by omega
  have h2 : (j : Int) ≤ (n : Int) := by omega
  have h3 : (n : Int) ≤ (cap : Int) := by omega
  have h4 : i + (n - j) ≤ n := by omega
  have h5 : ((i + (n - j) : Nat) : Int) ≤ (n : Int) := by omega
  clear hW2 hfin hW1 hW1r hW2r hg1 hzs hzl hz1c hZ hZs hY hYs hlen hnews hPe hRe hRl hc hP hCt hCd hgd hr hfit hcm h HCL hg hn
  go_enter Try.func35, Try.ntmps35
  go_wp2_with fail
  go_region_law (refine step_append_room rfl (.tmp 22) (.tmp 25) 24 rfl 52 i0 3 Try.underlying24 hi0 hz1 g off i cap (by simp [Act.eval, Act.put]) ⟨g, off + j * 3, none⟩ (n - j) (cap - j) news (by simp [Act.eval, Act.put]) s1.out hsrc.out s2.out (by omega) s3.out ?_; rw [← HW.out])
  go_wp2_with fail
  go_ret
  exact HF.out

set_option maxRecDepth 100000 in
set_option maxHeartbeats 1000000 in
theorem tdel_same (w : World) (A : Option Addr) (cap n i : Nat) (hi : i ≤ n) (hn : n ≤ cap) (hc : cap ≤ 9223372036854775807) :
    Calls Try.prog 35 #[.slice A n cap, .int .i64 i, .int .i64 i] w fun e w' => e = .returned (.slice A n cap) ∧ w' = w := by
  have h1 : (i : Int) ≤ (n : Int) := by omega
  have h2 : (n : Int) ≤ (cap : Int) := by omega
  have h3 : i ≤ cap := by omega
  have h4 : ((i : Int) == (i : Int)) = true := by simp
  go_enter Try.func35, Try.ntmps35
  go_wp2_with fail
  all_goals
    go_ret
    exact ⟨rfl, rfl⟩
end Go.Proofs.Ytjmkkglmckiknaa
