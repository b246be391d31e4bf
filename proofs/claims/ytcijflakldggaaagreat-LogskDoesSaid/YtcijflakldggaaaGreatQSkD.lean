/-
  Walks: the law LogskDoes.
-/
import Derived.Test.YtcijflakldggaaaGreatK7
namespace Go.Proofs.YtcijflakldggaaaGreat
set_option linter.unusedVariables false
set_option linter.unusedSimpArgs false
open Go.RowKit

set_option maxRecDepth 100000 in
set_option maxHeartbeats 4000000 in
theorem logsk_does_walk {Bn : BnT} (D : BinsDoes Bn) (u v sd m : Int) (A : List PairV) (a : Option Addr) (cap : Nat) (pa pb : Int) (wu : Word u) (wv : Word v) (ws : I64 sd) (wm : I64 m) (hl : A.length ≤ 140737488351232) (wpa : Word pa) (wpb : Word pb) (w : World) (hA : Pairs w a A) :
    Calls Tryz.prog 3 #[.agg #[.int .u64 u, .int .u64 v, .int .i64 sd, .int .i64 m, .slice a A.length cap], .agg #[.int .u64 pa, .int .u64 pb]] w fun e w' => e = .returned (.bool true) ∧ Below w.heap.size w w' := by
  have HD := Lib.hid D
  obtain ⟨ln, hln⟩ : ∃ ln : Nat, A.length = ln := ⟨_, rfl⟩
  have HBD := Lib.hid (fun W hp => build14_any D W u v sd m A a cap wu wv ws wm hp hl)
  rw [hln] at HBD ⊢
  have HLN := Lib.hid hln
  have HA := Lib.hid hA
  have hcs := casek_new w u v sd m (.slice a ln cap) 27
  have BC := grew_one w (.cells #[.int .u64 u, .int .u64 v, .int .i64 sd, .int .i64 m, .slice a ln cap] 27)
  have hcs := hcs.call (grew_one (w.alloc (.cells #[.int .u64 u, .int .u64 v, .int .i64 sd, .int .i64 m, .slice a ln cap] 27)) (.cells #[.int .u64 pa, .int .u64 pb] 24))
  have Tp := Two.new (w.alloc (.cells #[.int .u64 u, .int .u64 v, .int .i64 sd, .int .i64 m, .slice a ln cap] 27)) (.int .u64 pa) (.int .u64 pb) 24
  have BC := below_new BC (.cells #[.int .u64 pa, .int .u64 pb] 24)
  have hsz : ((w.alloc (.cells #[.int .u64 u, .int .u64 v, .int .i64 sd, .int .i64 m, .slice a ln cap] 27)).alloc (.cells #[.int .u64 pa, .int .u64 pb] 24)).heap.size = w.heap.size + 2 := by simp
  have hsp : (w.alloc (.cells #[.int .u64 u, .int .u64 v, .int .i64 sd, .int .i64 m, .slice a ln cap] 27)).heap.size = w.heap.size + 1 := by simp
  rw [hsp] at Tp
  clear hsp
  clear hA hl D hln
  go_enter Tryz.func3, Tryz.ntmps3
  go_wp2_with fail
  generalize ((w.alloc (.cells #[.int .u64 u, .int .u64 v, .int .i64 sd, .int .i64 m, .slice a ln cap] 27)).alloc (.cells #[.int .u64 pa, .int .u64 pb] 24)) = wC at *
  refine (alive14_any HD.out wC).mono ?_
  rintro e w2 ⟨rfl, hb2⟩
  have hcs := hcs.call hb2
  have Tp := Tp.call hb2
  have b2 := BC.trans (hb2.mono BC.size)
  have hz2 : w.heap.size + 2 ≤ w2.heap.size := by have := hb2.size; omega
  clear BC hb2 hsz
  obtain ⟨c0, c1, c2, c3, c4⟩ := id hcs
  obtain ⟨p0, p1, _, _⟩ := id Tp
  go_wp2_with fail
  refine (HBD.out w2 (HA.out.call b2)).mono ?_
  rintro e w3 (⟨B, C, S, R, M, P, s, n, lo, hi, rfl, hsi, hP, hof, m1, m2, hf, hl, hsk, hrk, hsr, hn1, hn2, v100, hb3, hfar, hv5, hM⟩ | ⟨rfl, hb3⟩)
  case inr =>
    have b3 := b2.trans (hb3.mono b2.size)
    go_wp2_with fail
    go_ret
    exact ⟨rfl, b3⟩
  have b3 := b2.trans (hb3.mono b2.size)
  have hcs := hcs.call hb3
  have Tp := Tp.call hb3
  have HCS := Lib.hid hcs
  have hz3 : w2.heap.size ≤ w3.heap.size := hb3.size
  clear c0 c1 c2 c3 c4 p0 p1 hb3 HBD hcs
  have hsl := stv_len hP s m hf (by omega)
  have hall := stv_all hP s m hf (by omega)
  have hsum0 := (fine_sum hf).1
  have hsum1 := fine_fit hf (by omega)
  obtain ⟨r, c, hq⟩ : ∃ r c, quanA P s m A pa pb = (r, c) := ⟨_, _, rfl⟩
  have HQ := Lib.hid (fun W (hb : Below w3.heap.size w3 W) => kquan_any HD.out (hsk.x.call HD.out hb) (by omega) (by omega) pa pb r c wpa wpb (by rw [hall]; unfold Word; omega) ((quan_same hP s (by omega) hf (by omega) hsk.e pa pb).trans hq))
  have HRQ := Lib.hid (fun W (hb : Below w3.heap.size w3 W) => rquan_any W M P s m A pa pb r c wpa wpb (hrk.ref.call hb) hP hf (by omega) m1 m2 hq)
  have HSA := Lib.hid (fun W (hb : Below w3.heap.size w3 W) => same14_any HD.out W B C M S R P u v s m A lo hi (hsk.call HD.out hb) (hrk.ref.call hb) hP hf (by omega) m1 m2)
  have hrr : (r == r) = true := by simp
  have hcc : (c == c) = true := by simp
  have HTP := Lib.hid Tp
  clear hq hsl hall hsum0 hsum1 hsk hrk hsr hfar hv5 hP hof hf hsi
  obtain ⟨p0, p1, _, _⟩ := id Tp
  go_wp2_with fail
  refine (HQ.out _ (Below.refl _ _)).mono ?_
  rintro e w4 ⟨rfl, b4⟩
  obtain ⟨p0, p1, _, _⟩ := id (HTP.out.call b4)
  go_wp2_with fail
  refine (HRQ.out _ b4).mono ?_
  rintro e w5 ⟨rfl, b5⟩
  have b5 := b4.trans (b5.mono b4.size)
  go_wp2_with fail
  refine (HSA.out _ b5).mono ?_
  rintro e w6 ⟨rfl, b6⟩
  have b6 := b5.trans (b6.mono b5.size)
  go_wp2_with fail
  go_ret
  exact ⟨rfl, b3.trans (b6.mono b3.size)⟩
end Go.Proofs.YtcijflakldggaaaGreat
