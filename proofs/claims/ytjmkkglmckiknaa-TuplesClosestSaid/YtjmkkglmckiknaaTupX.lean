/-
  The laws' own placed.
-/
import Derived.Test.YtjmkkglmckiknaaTupW
namespace Go.Proofs.Ytjmkkglmckiknaa
set_option linter.unusedVariables false
set_option linter.unusedSimpArgs false
open Go.RowKit

set_option maxRecDepth 100000 in
set_option maxHeartbeats 4000000 in
theorem placed18_any (w : World) (A B : Option Addr) (ca cb : Nat) (S : List SpotV) (L : List Int) (h : Spts w A S) (hL : Nums w B L) (hl : S.length ≤ 200) (hl2 : L.length ≤ 400) (ht : ToldS L S) :
    Calls Try.prog 15 #[.slice A S.length ca, .slice B L.length cb] w fun e w' => e = .returned (.bool true) ∧ Below w.heap.size w w' := by
  have HI := Lib.hid h
  have HJ := Lib.hid hL
  have HT := Lib.hid ht
  have HL2 := Lib.hid hl2
  clear h hL ht
  go_enter Try.func15, Try.ntmps15
  go_wp2_with fail
  go_loopw [11] (fun j wr => ∃ (k : Nat), k ≤ S.length ∧ j = .int .i64 k ∧ Below w.heap.size w wr) (fun j _ => S.length - (intOf j).toNat)
  case atStart => exact ⟨0, Nat.zero_le _, rfl, Below.refl _ _⟩
  case round =>
    obtain ⟨k, hk, rfl, hb2⟩ := hrel
    have hbs := hb2.size
    by_cases hlt : k < S.length
    · have kk : (k : Int) < S.length := by omega
      have hxk : S[k]? = some S[k] := List.getElem?_eq_getElem hlt
      generalize hit : S[k] = p at *
      obtain ⟨px, pl, ph⟩ := p
      obtain ⟨b0, off, rfl, hbl, c0, c1, c2⟩ := (HI.out.call hb2).at_ k _ hxk
      have hm := List.mem_of_getElem? hxk
      obtain ⟨q1, q2⟩ := HT.out.placed _ hm
      have q3 := mem_un (HT.out.has _ hm)
      have q4 := HT.out.can.mem _ hm
      have q5 := HI.out.ok _ hm
      have hbu := unV_bd L px
      have hbv := upV_bd L px
      simp only at c0 c1 c2 q1 q2 q3 q4
      obtain ⟨⟨q6, q7⟩, _, _⟩ := q5
      obtain ⟨u, hu⟩ : ∃ u, unV L px = u := ⟨_, rfl⟩
      obtain ⟨v, hv⟩ : ∃ v, upV L px = v := ⟨_, rfl⟩
      have CU : Hid (∀ W, Below w.heap.size w W → Calls Try.prog 20 #[.slice B L.length cb, .int .i64 px] W fun e w' => e = .returned (.int .u64 u) ∧ ∃ n, w' = W.drewN n) := Lib.hid fun W hW => (un18_any W B cb L px u (HJ.out.call hW) HL2.out ⟨q6, q7⟩ hu).mono fun e w' ⟨e1, e2⟩ => ⟨e1, 0, e2⟩
      have CV : Hid (∀ W, Below w.heap.size w W → Calls Try.prog 21 #[.slice B L.length cb, .int .i64 px] W fun e w' => e = .returned (.int .u64 v) ∧ ∃ n, w' = W.drewN n) := Lib.hid fun W hW => (up18_any W B cb L px v (HJ.out.call hW) HL2.out ⟨q6, q7⟩ hv).mono fun e w' ⟨e1, e2⟩ => ⟨e1, 0, e2⟩
      rw [hu] at hbu q2 q3
      rw [hv] at hbv q1 q3
      have hl9 := HL2.out
      have g1 : IntKind.u64.wrap (u + 1) = u + 1 := by rw [IntKind.wrap_u64]; omega
      have g2 : ¬ v < u + 1 := by omega
      have g3 : ¬ ph < u + 1 := by omega
      have g4 : ¬ v < pl := by omega
      have g5 : ¬ ph < pl := by omega
      have d2 : decide (v < u + 1) = false := decide_eq_false g2
      have d3 : decide (ph < u + 1) = false := decide_eq_false g3
      have d4 : decide (v < pl) = false := decide_eq_false g4
      have d5 : decide (ph < pl) = false := decide_eq_false g5
      have HB3 := Lib.hid (hb2.alloc hbs (.cells #[.int .i64 px, .int .u64 pl, .int .u64 ph] 44))
      have HB4 : Hid (Below w.heap.size w (wr.alloc (.cells #[.int .i64 px, .int .u64 pl, .int .u64 ph] 44)).drew) := Lib.hid HB3.out.drew
      clear hxk hit hm hu hv q1 q2 q3 q4 hbu hbv hl9
      go_wp2_with fail
      go_quiet ((first | (go_at_call 20; exact Calls.quiet_of (CU.out _ (below_drewT HB3.out _))) | (go_at_call 21; exact Calls.quiet_of (CV.out _ (below_drewT HB3.out _)))))
      rename_i nq
      go_wp2_with fail
      go_roundw
      case rel => exact ⟨k + 1, by omega, by go_num, below_drewT HB3.out nq⟩
      case measure => simp [intOf]; omega
    · obtain rfl : k = S.length := by omega
      have kk : ¬ (S.length : Int) < S.length := by omega
      go_wp2_with fail
      go_ret
      exact ⟨rfl, hb2⟩
end Go.Proofs.Ytjmkkglmckiknaa
