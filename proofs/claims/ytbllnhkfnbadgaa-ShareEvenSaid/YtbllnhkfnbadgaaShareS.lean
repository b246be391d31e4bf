/-
  Walks: share.Read.
-/
import Derived.Test.YtbllnhkfnbadgaaShareR
namespace Go.Proofs.Ytbllnhkfnbadgaa
set_option linter.unusedVariables false
set_option linter.unusedSimpArgs false
open Go.RowKit Go.Shelf

/-- What a text tells. -/
def gdO (l : List UInt8) : Bool := ctO l && gdB (ctA l) (ctB l)
def rdO (l : List UInt8) : Bool := nmO l || gdO l
def rdA (l : List UInt8) : Int := if nmO l = true then nmA l else if gdO l = true then ctA l else 0
def rdB (l : List UInt8) : Int := if nmO l = true then nmB l else if gdO l = true then ctB l else 0
theorem rd_name {l : List UInt8} (h : nmO l = true) : rdA l = nmA l ∧ rdB l = nmB l ∧ rdO l = true := by
  unfold rdA rdB rdO; rw [h]; exact ⟨rfl, rfl, rfl⟩
theorem rd_good {l : List UInt8} (h : nmO l = false) (h' : gdO l = true) : rdA l = ctA l ∧ rdB l = ctB l ∧ rdO l = true := by
  unfold rdA rdB rdO; rw [h, h']; exact ⟨rfl, rfl, rfl⟩
theorem rd_bad {l : List UInt8} (h : nmO l = false) (h' : gdO l = false) : rdA l = 0 ∧ rdB l = 0 ∧ rdO l = false := by
  unfold rdA rdB rdO; rw [h, h']; exact ⟨rfl, rfl, rfl⟩
theorem nm_word (l : List UInt8) : Word (nmA l) ∧ Word (nmB l) := by
  unfold nmA nmB Word
  constructor
  · repeat' split
    all_goals omega
  · repeat' split
    all_goals omega
theorem nm_good {l : List UInt8} (h : nmO l = true) : gdB (nmA l) (nmB l) = true := by
  rw [gd_iff]
  unfold nmO at h
  unfold nmA nmB
  repeat' split
  all_goals first | omega | simp_all
theorem rd_word (l : List UInt8) : Word (rdA l) ∧ Word (rdB l) := by
  unfold rdA rdB
  constructor
  · repeat' split
    · exact (nm_word l).1
    · exact (ct_word l).1
    · exact ⟨by omega, by omega⟩
  · repeat' split
    · exact (nm_word l).2
    · exact (ct_word l).2
    · exact ⟨by omega, by omega⟩

set_option maxHeartbeats 1000000 in
theorem read_any (s : ByteArray) (hs : s.size ≤ 9223372036854775807) (w : World) :
    Calls Try.prog 18 #[.string s] w fun e w' =>
      e = .returned (.tuple #[.agg #[.int .u64 (rdA s.data.toList), .int .u64 (rdB s.data.toList)], .bool (rdO s.data.toList)]) ∧ Below w.heap.size w w' := by
  have T := Two.new w (.int .u64 0) (.int .u64 0) 24
  have B := (Below.refl w.heap.size w).alloc (Nat.le_refl _) (.cells #[.int .u64 0, .int .u64 0] 24)
  have hN := named_any s (w.alloc (.cells #[.int .u64 0, .int .u64 0] 24))
  rw [Lib.toList_data] at hN
  have HN := Lib.hid hN
  clear hN
  have ww := ct_word s.data.toList
  have nw := nm_word s.data.toList
  have hz : w.heap.size < (w.alloc (.cells #[.int .u64 0, .int .u64 0] 24)).heap.size := by simp
  cases h1 : nmO s.data.toList with
  | true =>
    have E := Lib.hid (rd_name h1)
    have G := Lib.hid (nm_good h1)
    go_enter Try.func18, Try.ntmps18
    go_wp2_with fail
    refine HN.out.mono ?_
    rw [h1]
    rintro e wA ⟨rfl, hbA⟩
    have TA := T.call hbA
    have BA := B.trans (hbA.mono (by simp))
    have zA : w.heap.size < wA.heap.size := TA.lt
    clear T B hbA HN hz
    have TB := TA.alloc (.cells #[.int .u64 (nmA s.data.toList), .int .u64 (nmB s.data.toList)] 24)
    have PB := Two.new wA (.int .u64 (nmA s.data.toList)) (.int .u64 (nmB s.data.toList)) 24
    have BB := BA.alloc (Nat.le_of_lt zA) (.cells #[.int .u64 (nmA s.data.toList), .int .u64 (nmB s.data.toList)] 24)
    clear TA BA
    go_wp2_with fail
    refine (good_any _ _ nw.1 nw.2 _).mono ?_
    rw [G.out]
    rintro e wC ⟨rfl, hbC⟩
    obtain ⟨c0, c1, f0, f1⟩ := TB.call hbC
    obtain ⟨p0, p1, g0, g1⟩ := PB.call hbC
    have BC := BB.trans (hbC.mono BB.size)
    clear TB PB BB hbC
    go_wp2_with fail
    refine bodyPost_ret (v := .tuple #[.agg #[.int .u64 (nmA s.data.toList), .int .u64 (nmB s.data.toList)], .bool true]) (by simp [results, Try.results18, go_sem, c0, c1]) rfl ⟨ret_read E.out.1.symm E.out.2.1.symm E.out.2.2.symm, below_put BC (Nat.le_refl _) _ _⟩
  | false =>
    go_enter Try.func18, Try.ntmps18
    go_wp2_with fail
    refine HN.out.mono ?_
    rw [h1]
    rintro e wA ⟨rfl, hbA⟩
    have TA := T.call hbA
    have BA := B.trans (hbA.mono (by simp))
    have zA : w.heap.size < wA.heap.size := TA.lt
    clear T B hbA HN hz
    have TB := TA.alloc (.cells #[.int .u64 (nmA s.data.toList), .int .u64 (nmB s.data.toList)] 24)
    have PB := Two.new wA (.int .u64 (nmA s.data.toList)) (.int .u64 (nmB s.data.toList)) 24
    have BB := BA.alloc (Nat.le_of_lt zA) (.cells #[.int .u64 (nmA s.data.toList), .int .u64 (nmB s.data.toList)] 24)
    clear TA BA
    go_wp2_with fail
    refine (counted_any s hs _).mono ?_
    rintro e wC ⟨rfl, hbC⟩
    have TC := TB.call hbC
    have PC := PB.call hbC
    have BC := BB.trans (hbC.mono BB.size)
    clear TB PB BB hbC
    have hne : ¬ wA.heap.size = w.heap.size := by omega
    have hne2 : ¬ w.heap.size = wA.heap.size := by omega
    have TD := TC.past hne (.int .u64 (ctA s.data.toList)) (.int .u64 (ctB s.data.toList))
    have PD := PC.put (.int .u64 (ctA s.data.toList)) (.int .u64 (ctB s.data.toList))
    have BD := below_put BC (Nat.le_of_lt zA) (.int .u64 (ctA s.data.toList)) (.int .u64 (ctB s.data.toList))
    obtain ⟨p0, p1, g0, g1⟩ := PC
    cases h2 : ctO s.data.toList with
    | false =>
      have E := Lib.hid (rd_bad h1 (by unfold gdO; rw [h2]; rfl))
      obtain ⟨c0, c1, f0, f1⟩ := TC
      obtain ⟨d0, d1, e0, e1⟩ := TD
      go_wp2_with fail
      refine bodyPost_ret (v := .tuple #[.agg #[.int .u64 0, .int .u64 0], .bool false]) (by simp [results, Try.results18, go_sem, c0, c1, d0, d1]) rfl ⟨ret_read E.out.1.symm E.out.2.1.symm E.out.2.2.symm, below_put BD (Nat.le_refl _) _ _⟩
    | true =>
      clear TC BC
      cases h3 : gdB (ctA s.data.toList) (ctB s.data.toList) with
      | false =>
        have E := Lib.hid (rd_bad h1 (by unfold gdO; rw [h2, h3]; rfl))
        have G := Lib.hid h3
        go_wp2_with fail
        refine (good_any _ _ ww.1 ww.2 _).mono ?_
        rw [G.out]
        rintro e wE ⟨rfl, hbE⟩
        obtain ⟨c0, c1, f0, f1⟩ := TD.call hbE
        have BE := BD.trans (hbE.mono BD.size)
        clear TD PD BD hbE
        go_wp2_with fail
        refine bodyPost_ret (v := .tuple #[.agg #[.int .u64 0, .int .u64 0], .bool false]) (by simp [results, Try.results18, go_sem, c0, c1]) rfl ⟨ret_read E.out.1.symm E.out.2.1.symm E.out.2.2.symm, below_put BE (Nat.le_refl _) _ _⟩
      | true =>
        have E := Lib.hid (rd_good h1 (by unfold gdO; rw [h2, h3]; rfl))
        have G := Lib.hid h3
        go_wp2_with fail
        refine (good_any _ _ ww.1 ww.2 _).mono ?_
        rw [G.out]
        rintro e wE ⟨rfl, hbE⟩
        obtain ⟨c0, c1, f0, f1⟩ := TD.call hbE
        obtain ⟨q0, q1, k0, k1⟩ := PD.call hbE
        have BE := BD.trans (hbE.mono BD.size)
        clear TD PD BD hbE
        go_wp2_with fail
        refine bodyPost_ret (v := .tuple #[.agg #[.int .u64 (ctA s.data.toList), .int .u64 (ctB s.data.toList)], .bool true]) (by simp [results, Try.results18, go_sem, c0, c1]) rfl ⟨ret_read E.out.1.symm E.out.2.1.symm E.out.2.2.symm, below_put BE (Nat.le_refl _) _ _⟩
end Go.Proofs.Ytbllnhkfnbadgaa
