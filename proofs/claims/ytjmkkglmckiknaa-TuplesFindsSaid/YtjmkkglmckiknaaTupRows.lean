/-
  The law TuplesRows, from the contracts.
-/
import Derived.Test.YtjmkkglmckiknaaTupZ
namespace Go.Proofs.Ytjmkkglmckiknaa
set_option linter.unusedVariables false
set_option linter.unusedSimpArgs false
open Go.RowKit

set_option maxRecDepth 100000 in
set_option maxHeartbeats 2000000 in
theorem rows18_walk (D : TupDoes) (w : World) (A : Option Addr) (cap : Nat) (L : List StepV) (h : Stps w A L) (hl : L.length ≤ 140737488351232) :
    Calls Try.prog 3 #[.slice A L.length cap] w fun e w' => e = .returned (.bool true) ∧ Below w.heap.size w w' := by
  have CA := Lib.hid (alive18_any D w)
  have HI := Lib.hid h
  have HD := Lib.hid D
  clear D h
  by_cases h80 : L.length ≤ 80
  · have CP := Lib.hid (fun W hW => play18_any HD.out W A cap L hW h80)
    obtain ⟨p1, p2, p3, p4, p5, p6, p7⟩ := play_ok HI.out.ok h80
    have htd := (play_told L).1
    have hsum := sum_told htd
    obtain ⟨S, hS⟩ : ∃ S, (playS L).1 = S := ⟨_, rfl⟩
    obtain ⟨V, hV⟩ : ∃ V, (playS L).2 = V := ⟨_, rfl⟩
    rw [hS, hV] at CP
    rw [hS] at p1 p2 p4 p5 p6
    rw [hV] at p3 p7
    rw [hS, hV] at htd hsum
    have HTD := Lib.hid htd
    obtain ⟨R, hR⟩ : ∃ R, rowT 0 S = R := ⟨_, rfl⟩
    have HRR := Lib.hid hR
    rw [hR] at CP p2 p4 p5 hsum
    have hrl : R.length ≤ 200 := by rw [← hR, row_len]; omega
    have HP1 := Lib.hid p1
    have HP2 := Lib.hid p2
    have HP3 := Lib.hid p3
    have CG := Lib.hid (fun (W : World) B c (hW : Tups W B R) => HD.out.good W B c R true hW hrl ⟨fun _ => p4, fun _ => rfl⟩)
    have CT := Lib.hid (fun (W : World) B c (hW : Tups W B R) => HD.out.total W B c R V.length true hW (by omega) (Or.inl ⟨by omega, hsum.symm, rfl⟩))
    have CL := Lib.hid (fun (W : World) B c (hW : Tups W B R) => plain18_any W B c R hW hrl)
    have CR := Lib.hid (fun (W : World) B c (hW : Spts W B S) => rrow18_any W B c S V.length hW (by omega) htd.can (by omega))
    have CS := Lib.hid (fun (W : World) B B' c c' (hW : Tups W B R) (hW' : Tups W B' R) => same18_any W B B' c c' R R true (decide_eq_true rfl) hW hW' hrl hrl)
    rw [hR] at CR
    have hcv : IntKind.u64.wrap (V.length : Int) = (V.length : Int) := by rw [IntKind.wrap_u64]; omega
    have heq : ((V.length : Int) == (V.length : Int)) = true := by simp
    clear p1 p2 p3 p4 p5 p6 htd hsum hS hV hR hrl h80 hl p7
    go_enter Try.func3, Try.ntmps3
    go_wp2_with fail
    refine CA.out.mono ?_
    rintro e w1 ⟨rfl, b1⟩
    have HB1 := Lib.hid b1
    clear b1
    go_wp2_with fail
    refine (CP.out w1 (HI.out.call HB1.out)).mono ?_
    rintro e w2 ⟨vr, vs, va, rfl, hpl, b2⟩
    have HPL := Lib.hid hpl
    have HB2 := Lib.hid (HB1.out.trans (b2.mono HB1.out.size))
    obtain ⟨A1, k1, rfl, hP1⟩ := hpl.row.rows HP2.out
    obtain ⟨A2, k2, rfl, hP2⟩ := hpl.spots.rows HP1.out
    obtain ⟨A3, k3, rfl, hP3⟩ := hpl.all.rows HP3.out
    have HR := Lib.hid hP1
    have HS := Lib.hid hP2
    clear hpl b2 hP1 hP2 hP3
    go_wp2_with fail
    refine (CT.out w2 A1 k1 HR.out).mono ?_
    rintro e w3 ⟨rfl, b3⟩
    have HB3 := Lib.hid b3
    have HW3 := Lib.hid (HB2.out.trans (b3.mono HB2.out.size))
    clear b3
    go_wp2_with fail
    refine (CL.out w3 A1 k1 (HR.out.call HB3.out)).mono ?_
    rintro e w4 ⟨v4, rfl, ho4, b4⟩
    have HB4 := Lib.hid (HB3.out.trans (b4.mono HB3.out.size))
    have HW4 := Lib.hid (HW3.out.trans (b4.mono HW3.out.size))
    obtain ⟨A4, k4, rfl, hP4⟩ := ho4.rows HP2.out
    have HR4 := Lib.hid hP4
    clear ho4 b4 hP4
    go_wp2_with fail
    refine (CR.out w4 A2 k2 (HS.out.call HB4.out)).mono ?_
    rintro e w5 ⟨v5, rfl, ho5, b5⟩
    have HB5 := Lib.hid (HB4.out.trans (b5.mono HB4.out.size))
    have HW5 := Lib.hid (HW4.out.trans (b5.mono HW4.out.size))
    have HR45 := Lib.hid (HR4.out.call b5)
    obtain ⟨A5, k5, rfl, hP5⟩ := ho5.rows HP2.out
    have HR5 := Lib.hid hP5
    clear ho5 b5 hP5
    go_wp2_with fail
    refine (CS.out w5 A4 A5 k4 k5 HR45.out HR5.out).mono ?_
    rintro e w6 ⟨rfl, b6⟩
    have HB6 := Lib.hid (HB5.out.trans (b6.mono HB5.out.size))
    have HW6 := Lib.hid (HW5.out.trans (b6.mono HW5.out.size))
    clear b6
    go_wp2_with fail
    refine (CG.out w6 A1 k1 (HR.out.call HB6.out)).mono ?_
    rintro e w7 ⟨rfl, b7⟩
    have HW7 := Lib.hid (HW6.out.trans (b7.mono HW6.out.size))
    clear b7
    go_wp2_with fail
    go_ret
    exact ⟨rfl, HW7.out⟩
  · have CP := Lib.hid (fun W => play18_long W A cap L.length (by omega))
    clear hl h80
    go_enter Try.func3, Try.ntmps3
    go_wp2_with fail
    refine CA.out.mono ?_
    rintro e w1 ⟨rfl, b1⟩
    go_wp2_with fail
    refine (CP.out w1).mono ?_
    rintro e w2 ⟨rfl, b2⟩
    have HW2 := Lib.hid (b1.trans (b2.mono b1.size))
    go_wp2_with fail
    go_ret
    exact ⟨rfl, HW2.out⟩
end Go.Proofs.Ytjmkkglmckiknaa
