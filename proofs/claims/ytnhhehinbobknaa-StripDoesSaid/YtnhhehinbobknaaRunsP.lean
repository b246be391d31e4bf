/-
  Walks: the landed code of runs: Good, Total.
-/
import Derived.Test.YtnhhehinbobknaaPairJ
import Derived.Test.YtnhhehinbobknaaPlus
namespace Go.Proofs.Ytnhhehinbobknaa
set_option linter.unusedVariables false
set_option linter.unusedSimpArgs false
open Go.RowKit

theorem psum_step {L : List PairV} {k : Nat} {p : PairV} (h : L[k]? = some p) : sumP (L.take (k + 1)) = sumP (L.take k) + p.2 := by rw [take_snocP h, sumP_app, sumP_one]

set_option maxRecDepth 100000 in
set_option maxHeartbeats 1000000 in
theorem total_does : TotalDoes := by
  intro w A cap L n b h hl hn hb
  have HI := Lib.hid h
  have HN := Lib.hid hn
  have HB := Lib.hid hb
  have HS := Lib.hid (fun k => sumP_take (L := L) k (ok_pos h.ok))
  clear h hn hb
  go_enter Try.func32, Try.ntmps32
  go_wp2_with fail
  go_loopw [4, 11] (fun s j wr => ∃ (k : Nat) (m : Int), k ≤ L.length ∧ j = .int .i64 k ∧ s = .int .u64 m ∧ sumP (L.take k) = m ∧ m ≤ 9223372036854775807 ∧ Below w.heap.size w wr) (fun _ j _ => L.length - (intOf j).toNat)
  case atStart => exact ⟨0, 0, Nat.zero_le _, rfl, rfl, rfl, by decide, Below.refl _ _⟩
  case round =>
    obtain ⟨k, m, hk, rfl, rfl, hm, hm1, hb2⟩ := hrel
    have HM := Lib.hid hm
    have m0 := (HS.out k).1
    rw [hm] at m0
    have hbs := hb2.size
    clear hm
    by_cases hlt : k < L.length
    · have kk : (k : Int) < L.length := by omega
      have hxk : L[k]? = some L[k] := List.getElem?_eq_getElem hlt
      generalize hit : L[k] = p at *
      obtain ⟨px, pc⟩ := p
      obtain ⟨b0, off, rfl, hbl, c0, c1⟩ := (HI.out.call hb2).at_ k _ hxk
      have hok := HI.out.ok _ (List.mem_of_getElem? hxk)
      have hst := psum_step hxk
      simp only at c0 c1 hst
      rw [HM.out] at hst
      have s1 := (HS.out (k + 1))
      rw [hst] at s1
      have HST := Lib.hid hst
      have HPC : Hid (Word pc) := Lib.hid hok.2
      obtain ⟨o3, o4⟩ := HPC.out
      obtain ⟨q, hq⟩ : ∃ q, plus2Q m pc = q := ⟨_, rfl⟩
      obtain ⟨ok, hok2⟩ : ∃ ok, plus2B m pc = ok := ⟨_, rfl⟩
      have HQ := Lib.hid hq
      have HOK := Lib.hid hok2
      have HSM := Lib.hid s1
      clear hxk hit hok hst hq hok2 s1
      go_wp2_with fail
      refine (plus_two m pc q ok _ _ _ ⟨by omega, by omega⟩ HPC.out (by go_simp) (by go_simp) HQ.out HOK.out).mono ?_
      rintro e w' ⟨rfl, rfl⟩
      cases ok with
      | true =>
        have HQ2 : Hid (q = m + pc ∧ m + pc ≤ 9223372036854775807) := Lib.hid (by
          have h1 := HOK.out; unfold plus2B at h1
          have h2 := HQ.out; unfold plus2Q plus2B at h2; rw [h1] at h2
          exact ⟨h2.symm, of_decide_eq_true h1⟩)
        go_wp2_with fail
        go_roundw
        case rel => exact ⟨k + 1, q, by omega, by go_num, rfl, by rw [HST.out, HQ2.out.1], by rw [HQ2.out.1]; exact HQ2.out.2, (hb2.alloc hbs _).alloc (by simp; omega) _⟩
        case measure => simp [intOf]; omega
      | false =>
        have HE : Hid (b = false ∧ n = 0) := Lib.hid (by
          have h1 := HOK.out; unfold plus2B at h1
          have h2 := of_decide_eq_false h1
          have h3 := HSM.out.2
          have e : fitsB L = false := by unfold fitsB; apply decide_eq_false; omega
          exact ⟨by rw [← HB.out, e], by rw [← HN.out]; unfold totalP; rw [e]; rfl⟩)
        go_wp2_with fail
        go_ret2
        exact ⟨ret_pair HE.out.2.symm HE.out.1.symm, (hb2.alloc hbs _).alloc (by simp; omega) _⟩
    · obtain rfl : k = L.length := by omega
      rw [List.take_length] at HM
      have HE : Hid (m = n ∧ true = b) := Lib.hid (by
        have e : fitsB L = true := by unfold fitsB; apply decide_eq_true; rw [HM.out]; exact hm1
        exact ⟨by rw [← HN.out, ← HM.out]; unfold totalP; rw [e]; rfl, by rw [← HB.out, e]⟩)
      have kk : ¬ (L.length : Int) < L.length := by omega
      go_wp2_with fail
      go_ret2
      exact ⟨ret_pair HE.out.1 HE.out.2, hb2⟩
end Go.Proofs.Ytnhhehinbobknaa
