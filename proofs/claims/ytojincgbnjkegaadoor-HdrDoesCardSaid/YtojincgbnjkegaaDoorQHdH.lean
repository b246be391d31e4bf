/-
  The law HdrDoes, walked.
-/
import Derived.Test.YtojincgbnjkegaaDoorK4
namespace Go.Proofs.YtojincgbnjkegaaDoor
set_option linter.unusedVariables false
set_option linter.unusedSimpArgs false
open Go.RowKit

set_option maxRecDepth 100000 in
set_option maxHeartbeats 4000000 in
theorem hdr_does_walk {St : World → Nat → (Nat → Prop) → Int → List PairV → Prop} (D : StripDoes St) (d : Int) (a : Option Addr) (cap : Nat) (A : List PairV) (pa pb x : Int) (hd : I64 d) (wa : Word pa) (wb : Word pb) (hx : I64 x) (w : World) (hA : Pairs w a A) (hl : A.length ≤ 140737488351232) (ht : Tens w) :
    Calls Tryd.prog 3 #[.int .i64 d, .slice a A.length cap, .agg #[.int .u64 pa, .int .u64 pb], .int .i64 x] w fun e w' => e = .returned (.bool true) ∧ Below w.heap.size w w' := by
  have HD := Lib.hid D
  have HWA := Lib.hid wa
  have HWB := Lib.hid wb
  have HXI := Lib.hid hx
  have hb0 : Below w.heap.size w (w.alloc (.cells #[.int .u64 pa, .int .u64 pb] 25)) := (Below.refl _ _).alloc (Nat.le_refl _) _
  obtain ⟨p0, p1⟩ := hd_two w (.int .u64 pa) (.int .u64 pb) 25
  have HAL := Lib.hid (alive15_any D _ (ht.call hb0))
  have HBU := Lib.hid (fun W (hb : Below w.heap.size w W) => build15_any D W d A a cap hd (ht.call hb) (hA.call hb) hl)
  have HA := Lib.hid hA
  have HB0 := Lib.hid hb0
  clear hA ht D hb0
  obtain ⟨wa0, wa1⟩ := wa
  obtain ⟨wb0, wb1⟩ := wb
  obtain ⟨x0, x1⟩ := hx
  go_enter Tryd.func3, Tryd.ntmps3
  go_wp2_with fail
  generalize w.alloc (.cells #[.int .u64 pa, .int .u64 pb] 25) = wr at *
  refine HAL.out.mono ?_
  rintro e w1 ⟨rfl, b1'⟩
  have b1 := HB0.out.trans (b1'.mono HB0.out.size)
  have p0 := cell_later b1' p0
  have p1 := cell_later b1' p1
  clear b1' HAL
  go_wp2_with fail
  refine (HBU.out _ b1).mono ?_
  rintro e w2 (⟨B, S, L, T, M, rfl, hs, hf, hl60, hX, hbk, hS, hM, hSM, b2'⟩ | ⟨rfl, b2'⟩)
  case inr =>
    have b2 := b1.trans (b2'.mono b1.size)
    go_wp2_with fail
    go_ret
    exact ⟨rfl, b2⟩
  have b2 := b1.trans (b2'.mono b1.size)
  have p0 := cell_later b2' p0
  have p1 := cell_later b2' p1
  have hP : (Pt.spans d L T).ok := hs
  obtain ⟨l1, l2⟩ := hdv_len hP hf (by omega)
  have hbd := fine_bd hf (by omega)
  have hv2 := HA.out.call b2
  have hR : RefN w2 M (.spans d L T) false 4096 A := refn_blk L T hbk hv2
  obtain ⟨r, c, hq⟩ : ∃ r c, quanH (.spans d L T) A pa pb = (r, c) := ⟨_, _, rfl⟩
  obtain ⟨n1, hn1⟩ : ∃ n1, (if x = 0 then upV A 0 else cntV (fun y => decide (y < likeL L x)) A) = n1 := ⟨_, rfl⟩
  obtain ⟨n2, hn2⟩ : ∃ n2, upV A (likeH L x) = n2 := ⟨_, rfl⟩
  have HQ := Lib.hid (fun W (hb : Below w2.heap.size w2 W) => hd_quan HD.out hs (hX.call HD.out hb) (by omega) (by omega) pa pb r c HWA.out HWB.out ((quan_hd hs hf (by omega) HWA.out HWB.out).trans hq))
  have HQR := Lib.hid (fun W (hb : Below w2.heap.size w2 W) => rquan15_any W M (.spans d L T) false 4096 A pa pb r c HWA.out HWB.out (hR.call hb) hP hf (by omega) hq)
  have HRK := Lib.hid (fun W (hb : Below w2.heap.size w2 W) => hd_rank HD.out hs (hX.call HD.out hb) (by omega) (by omega) x n1 n2 HXI.out ((rank_hd hs hf (by omega) HXI.out).trans (by rw [hn1, hn2])))
  have HRR := Lib.hid (fun W (hb : Below w2.heap.size w2 W) => rrank15_any W M d L T false 4096 A x n1 n2 hs HXI.out (hR.call hb) (by omega) (by omega) hn1 hn2)
  have HSA := Lib.hid (fun W (hb : Below w2.heap.size w2 W) => same15_any HD.out W B M S d L T 0 A a cap hs (hX.call HD.out hb) ((hb.block M hR.lt).trans hbk) (hv2.call hb) hf (by omega))
  have HB2 := Lib.hid b2
  have e1 : (r == r) = true := by simp
  have e2 : (c == c) = true := by simp
  have e3 : (n1 == n1) = true := by simp
  have e4 : (n2 == n2) = true := by simp
  clear hs hf hX hbk hS hM hSM hP l1 l2 hbd hv2 hR hq hn1 hn2 b1 b2 b2'
  go_wp2_with fail
  refine (HQ.out _ (Below.refl _ _)).mono ?_
  rintro e w3 ⟨rfl, b3⟩
  have p0 := cell_later b3 p0
  have p1 := cell_later b3 p1
  go_wp2_with fail
  refine (HQR.out _ b3).mono ?_
  rintro e w4 ⟨rfl, b4⟩
  have b4 := b3.trans (b4.mono b3.size)
  clear p0 p1
  go_wp2_with fail
  refine (HRK.out _ b4).mono ?_
  rintro e w5 ⟨rfl, b5⟩
  have b5 := b4.trans (b5.mono b4.size)
  go_wp2_with fail
  refine (HRR.out _ b5).mono ?_
  rintro e w6 ⟨rfl, b6⟩
  have b6 := b5.trans (b6.mono b5.size)
  go_wp2_with fail
  refine (HSA.out _ b6).mono ?_
  rintro e w7 ⟨rfl, b7⟩
  have b7 := b6.trans (b7.mono b6.size)
  go_wp2_with fail
  go_ret
  exact ⟨rfl, HB2.out.trans (b7.mono HB2.out.size)⟩
end Go.Proofs.YtojincgbnjkegaaDoor
