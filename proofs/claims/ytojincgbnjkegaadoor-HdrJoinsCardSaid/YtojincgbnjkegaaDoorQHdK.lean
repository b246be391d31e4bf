/-
  The law HdrJoins, walked.
-/
import Derived.Test.YtojincgbnjkegaaDoorK4
namespace Go.Proofs.YtojincgbnjkegaaDoor
set_option linter.unusedVariables false
set_option linter.unusedSimpArgs false
open Go.RowKit

set_option maxRecDepth 100000 in
set_option maxHeartbeats 4000000 in
theorem hdr_joins_walk {St : World → Nat → (Nat → Prop) → Int → List PairV → Prop} (D : StripDoes St) (d : Int) (a : Option Addr) (cap : Nat) (A : List PairV) (a2 : Option Addr) (cap2 : Nat) (A2 : List PairV) (pa pb : Int) (hd : I64 d) (wa : Word pa) (wb : Word pb) (w : World) (hA : Pairs w a A) (hl : A.length ≤ 140737488351232) (hA2 : Pairs w a2 A2) (hl2 : A2.length ≤ 140737488351232) (ht : Tens w) :
    Calls Tryd.prog 6 #[.int .i64 d, .slice a A.length cap, .slice a2 A2.length cap2, .agg #[.int .u64 pa, .int .u64 pb]] w fun e w' => e = .returned (.bool true) ∧ Below w.heap.size w w' := by
  have HD := Lib.hid D
  have HWA := Lib.hid wa
  have HWB := Lib.hid wb
  have hb0 : Below w.heap.size w (w.alloc (.cells #[.int .u64 pa, .int .u64 pb] 25)) := (Below.refl _ _).alloc (Nat.le_refl _) _
  obtain ⟨p0, p1⟩ := hd_two w (.int .u64 pa) (.int .u64 pb) 25
  have HAL := Lib.hid (alive15_any D _ (ht.call hb0))
  have HBU := Lib.hid (fun W (hb : Below w.heap.size w W) => build15_any D W d A a cap hd (ht.call hb) (hA.call hb) hl)
  have HBU2 := Lib.hid (fun W (hb : Below w.heap.size w W) => build15_any D W d A2 a2 cap2 hd (ht.call hb) (hA2.call hb) hl2)
  have HA := Lib.hid hA
  have HA2 := Lib.hid hA2
  have HB0 := Lib.hid hb0
  clear hA hA2 ht D hb0
  obtain ⟨wa0, wa1⟩ := wa
  obtain ⟨wb0, wb1⟩ := wb
  go_enter Tryd.func6, Tryd.ntmps6
  go_wp2_with fail
  have HZR : Hid ((w.alloc (.cells #[.int .u64 pa, .int .u64 pb] 25)).heap.size = w.heap.size + 1) := Lib.hid (by simp)
  generalize w.alloc (.cells #[.int .u64 pa, .int .u64 pb] 25) = wr at *
  refine HAL.out.mono ?_
  rintro e w1 ⟨rfl, b1'⟩
  have b1 := HB0.out.trans (b1'.mono HB0.out.size)
  have HZ1 : Hid (w.heap.size + 1 ≤ w1.heap.size) := Lib.hid (by have := b1'.size; have := HZR.out; omega)
  have p0 := cell_later b1' p0
  have p1 := cell_later b1' p1
  clear b1' HAL
  go_wp2_with fail
  refine (HBU.out _ b1).mono ?_
  rintro e w2 (⟨B, S, L, T, M, rfl, hs, hf, hl60, hX, hbk, hS, hM, hSM, b2'⟩ | ⟨rfl, b2'⟩)
  case inr =>
    have b2 := b1.trans (b2'.mono b1.size)
    have HB2 := Lib.hid b2
    clear b1 b2' HBU
    go_wp2_with fail
    refine (HBU2.out _ b2).mono ?_
    rintro e w3 (⟨B', S', L', T', M', rfl, hs', hf', hl60', hX', hbk', hS', hM', hSM', b3'⟩ | ⟨rfl, b3'⟩)
    · have b3 := HB2.out.trans (b3'.mono HB2.out.size)
      clear hs' hf' hl60' hX' hbk' hS' hM' hSM' b3' b2
      go_wp2_with fail
      go_ret
      exact ⟨rfl, b3⟩
    · have b3 := HB2.out.trans (b3'.mono HB2.out.size)
      clear b3' b2
      go_wp2_with fail
      go_ret
      exact ⟨rfl, b3⟩
  have b2 := b1.trans (b2'.mono b1.size)
  have p0 := cell_later b2' p0
  have p1 := cell_later b2' p1
  have HB2 := Lib.hid b2
  have HX := Lib.hid hX
  have HSP := Lib.hid hs
  have HF := Lib.hid hf
  have hslt := hX.lt HD.out
  have HSLT := Lib.hid hslt
  have HSNR : Hid (¬ S w.heap.size) := Lib.hid fun h => by have := hS _ h; have := HZ1.out; omega
  have HSW : Hid (∀ k, S k → w.heap.size ≤ k) := Lib.hid fun k h => by have := hS k h; have := b1.size; omega
  clear hX hbk hS hM hSM b1 b2' HBU hs hf hslt
  go_wp2_with fail
  refine (HBU2.out _ b2).mono ?_
  rintro e w3 (⟨B', S', L', T', M', rfl, hs', hf', hl60', hX', hbk', hS', hM', hSM', b3'⟩ | ⟨rfl, b3'⟩)
  case inr =>
    have b3 := HB2.out.trans (b3'.mono HB2.out.size)
    clear b3' b2
    go_wp2_with fail
    go_ret
    exact ⟨rfl, b3⟩
  obtain ⟨rfl, rfl⟩ : L' = L ∧ T' = T := by have h1 := HSP.out; unfold SpanP at h1 hs'; omega
  have b3 := HB2.out.trans (b3'.mono HB2.out.size)
  have p0 := cell_later b3' p0
  have p1 := cell_later b3' p1
  have HX3 := Lib.hid (HX.out.call HD.out b3')
  have HX3' := Lib.hid hX'
  have HF' := Lib.hid hf'
  have HBK' := Lib.hid hbk'
  have HDIS : Hid (∀ k, S k → ¬ S' k) := Lib.hid fun k h h' => by have := HSLT.out k h; have := hS' k h'; omega
  have HMS : Hid (¬ S M') := Lib.hid fun h => by have := HSLT.out M' h; omega
  have HB3 := Lib.hid b3
  have HMW : Hid (M' < w3.heap.size) := Lib.hid (lt_of_block hbk')
  have hl120 : A.length + A2.length ≤ 120 := by omega
  clear hX' hbk' hS' hM' hSM' hf' hs' b2 b3 b3' HX HBU2
  have hO6 := World.ownsRow_made (base := w3.heap.size) (e := 67) (size := 2) w3 #[] 0 (by simp) (by decide) rfl
  have HO6 : Hid (OwnV (w3.alloc (.cells #[] 67)) w3.heap.size (.slice (some ⟨w3.heap.size, 0, none⟩) 0 0) []) := Lib.hid hO6
  have HB7 : Hid (Below w3.heap.size w3 (w3.alloc (.cells #[] 67))) := Lib.hid ((Below.refl _ _).alloc (Nat.le_refl _) _)
  have HP7 : Hid (Pairs (w3.alloc (.cells #[] 67)) a A) := Lib.hid (HA.out.call (HB3.out.trans (HB7.out.mono HB3.out.size)))
  clear hO6
  go_wp2_with (at_builtin; refine wpList_append_vals rfl (.tmp 43) (.tmp 44) rfl w3.heap.size _ [] a cap A rfl HO6.out rfl HP7.out ?c1 ?c2 ?_)
  case c1 => simp; omega
  case c2 => exact HB7.out.size
  intro v7 w7 hown7' hg7
  have hown7 : OwnV w7 w3.heap.size v7 A := hown7'
  clear hown7'
  have hb7 : Below w3.heap.size w3 w7 := HB7.out.grown hg7 HB7.out.size (fun k hk => by cases hk; exact Nat.le_refl _)
  obtain ⟨A7, k7, rfl⟩ := hown7.form
  have HO7 := Lib.hid hown7
  have HB8 := Lib.hid hb7
  have HP8 := Lib.hid (HA2.out.call (HB3.out.trans (hb7.mono HB3.out.size)))
  clear hown7 hg7 hb7 HO6 HP7 HB7
  go_wp2_with (at_builtin; refine wpList_append_vals rfl (.tmp 45) (.tmp 46) rfl w3.heap.size _ A a2 cap2 A2 rfl HO7.out rfl HP8.out ?d1 ?d2 ?_)
  case d1 => omega
  case d2 => exact HB8.out.size
  intro v9 w9 hown9 hg9
  have hb9 : Below w3.heap.size w3 w9 := OwnV.below HO7.out HB8.out hg9 HB8.out.size
  have hokk : ∀ p, p ∈ A ++ A2 → okP p := fun p hp => by
    rcases List.mem_append.1 hp with h | h
    · exact HA.out.ok p h
    · exact HA2.out.ok p h
  obtain ⟨a9, k9, rfl⟩ := hown9.form
  have hlies := hown9.lies
  have hp9 := hown9.row hokk
  obtain ⟨n9, hn9⟩ : ∃ n9 : Nat, (A ++ A2).length = n9 := ⟨_, rfl⟩
  rw [hn9]
  have hbn : Below w9.heap.size w9 (w9.alloc (.cells #[.slice none 0 0, .slice none 0 0, .int .i64 d, .int .i64 0, .int .i64 4096, .slice a9 n9 k9] 59)) := (Below.refl _ _).alloc (Nat.le_refl _) _
  have HBK9 : Hid (BinBlk (w9.alloc (.cells #[.slice none 0 0, .slice none 0 0, .int .i64 d, .int .i64 0, .int .i64 4096, .slice a9 n9 k9] 59)) w9.heap.size d a9 n9 k9) := Lib.hid (heap_new _ _)
  have HP9 := Lib.hid (hp9.call hbn)
  have b10 := hb9.trans (hbn.mono hb9.size)
  have HX10 := Lib.hid (HX3.out.call HD.out b10)
  have HX10' := Lib.hid (HX3'.out.call HD.out b10)
  have HBK10' := Lib.hid ((b10.block M' HMW.out).trans HBK'.out)
  have p0 := cell_later b10 p0
  have p1 := cell_later b10 p1
  have hz9 := hb9.size
  have HMN : Hid (¬ S w9.heap.size) := Lib.hid fun h => by have := HSLT.out _ h; have := HB3.out.size; have := HX3.out.lt HD.out _ h; omega
  have HRN : Hid (∀ k, S k → k < w3.heap.size) := Lib.hid fun k h => HX3.out.lt HD.out k h
  have HLIES := Lib.hid hlies
  have HN9 := Lib.hid hn9
  have HB10 := Lib.hid b10
  have HOKK := Lib.hid hokk
  clear hown9 hg9 hb9 hp9 hbn b10 hlies hn9 HO7 HP8 HB8 hokk
  go_wp2_with fail
  generalize hw10 : w9.alloc (.cells #[.slice none 0 0, .slice none 0 0, .int .i64 d, .int .i64 0, .int .i64 4096, .slice a9 n9 k9] 59) = w10 at *
  clear hw10
  generalize w9.heap.size = M9 at *
  have hP : (Pt.spans d L' T').ok := HSP.out
  have hf12 := fine_app HF.out HF'.out
  have hl12 : (A ++ A2).length ≤ 120 := by rw [List.length_append]; omega
  obtain ⟨q1, q2⟩ := hdv_len hP HF.out (by omega)
  obtain ⟨q3, q4⟩ := hdv_len hP HF'.out (by omega)
  obtain ⟨q5, q6⟩ := hdv_len hP hf12 (by omega)
  have hall1 := hdv_all hP HF.out (by omega)
  have hall2 := hdv_all hP HF'.out (by omega)
  have bd1 := fine_bd HF.out (by omega)
  have bd2 := fine_bd HF'.out (by omega)
  have key : Calls Tryd.prog 24 #[.pointer (some ⟨B, 0, none⟩), .pointer (some ⟨B', 0, none⟩)] w10 fun e w' => e = .returned (.int .i64 0) ∧ HdTo St w10 B S d L' 0 (hdV (.spans d L' T') (A ++ A2)) w' := by
    by_cases h0 : A2 = []
    · subst h0
      rw [List.append_nil]
      refine (hd_join_none HD.out HX10.out HX10'.out (by omega) (by omega) (by rw [hall2]; rfl)).mono ?_
      rintro e w' ⟨rfl, hb⟩
      exact ⟨rfl, S, HX10.out.call HD.out hb, Keeps.of_below hb, fun k h => Or.inl h⟩
    · rw [← hdv_join hP HF.out HF'.out h0 (by omega)]
      exact hd_join_ok HD.out HX10.out HX10'.out rfl HDIS.out (by omega) (by omega) (by omega) (by omega) (by rw [hall1, hall2]; omega) (by rw [hall2]; exact fun e => h0 ((sum_zero15 HF'.out).1 e)) (takb_zero _) (takb_zero _)
  have HJ := Lib.hid key
  have HF12 := Lib.hid hf12
  obtain ⟨r, c, hq⟩ : ∃ r c, quanH (.spans d L' T') (A ++ A2) pa pb = (r, c) := ⟨_, _, rfl⟩
  have HQQ := Lib.hid hq
  have HLL := Lib.hid (And.intro hl12 (And.intro q5 q6))
  have e1 : (r == r) = true := by simp
  have e2 : (c == c) = true := by simp
  clear key hq hP q1 q2 q3 q4 q5 q6 hall1 hall2 bd1 bd2 hf12 hl12
  go_wp2_with fail
  refine HJ.out.mono ?_
  rintro e w11 ⟨rfl, S11, hx11, hk11, hS11⟩
  have hbk11 : BinBlk w11 M9 d a9 n9 k9 := (hk11.block M9 (lt_of_block HBK9.out) HMN.out).trans HBK9.out
  have hbk11' : BinBlk w11 M' d a2 A2.length cap2 := (hk11.block M' (lt_of_block HBK10'.out) HMS.out).trans HBK10'.out
  have hx11' := HX10'.out.past HD.out hk11 (fun k h h' => HDIS.out k h' h)
  have hp11 := hd_pairs HP9.out hk11 (fun b off e hne => fun h => by
    have h1 := HRN.out b h
    cases hAA : A ++ A2 with
    | nil => exact hne hAA
    | cons p q =>
      obtain ⟨b', off', e', hb'⟩ := HLIES.out 0 p (by rw [hAA]; rfl)
      rw [e] at e'
      obtain ⟨rfl, _, _⟩ := Addr.mk.inj (Option.some.inj e')
      omega)
  have hp2 : Pairs w11 a2 A2 := hd_pairs ((HA2.out.call HB3.out).call HB10.out) hk11 (fun b off e hne => fun h => by
    have h1 := HSW.out b h
    cases hAA : A2 with
    | nil => exact hne hAA
    | cons p q =>
      obtain ⟨b', off', e', hb', _⟩ := HA2.out.at_ 0 p (by rw [hAA]; rfl)
      rw [e] at e'
      obtain ⟨rfl, _, _⟩ := Addr.mk.inj (Option.some.inj e')
      omega)
  have b11 : Below w.heap.size w w11 := Keeps.below (HB3.out.trans (HB10.out.mono HB3.out.size)) hk11 (by have := HB3.out.size; have := HB10.out.size; omega) HSW.out
  have p0 : w11.cell? ⟨w.heap.size, 0, none⟩ = some (.int .u64 pa) := hk11.cell (fun h => by have := HSNR.out h; exact this) p0
  have p1 : w11.cell? ⟨w.heap.size, 1, none⟩ = some (.int .u64 pb) := hk11.cell (fun h => by have := HSNR.out h; exact this) p1
  rw [← HN9.out] at hbk11
  have hR9 : RefN w11 M9 (.spans d L' T') false 4096 (A ++ A2) := refn_blk L' T' hbk11 hp11
  have HQ := Lib.hid (fun W (hb : Below w11.heap.size w11 W) => hd_quan HD.out HSP.out (hx11.call HD.out hb) (by have := HLL.out; omega) (by have := HLL.out; omega) pa pb r c HWA.out HWB.out ((quan_hd HSP.out HF12.out (by have := HLL.out.1; omega) HWA.out HWB.out).trans HQQ.out))
  have HQR := Lib.hid (fun W (hb : Below w11.heap.size w11 W) => rquan15_any W M9 (.spans d L' T') false 4096 (A ++ A2) pa pb r c HWA.out HWB.out (hR9.call hb) HSP.out HF12.out (by have := HLL.out.1; omega) HQQ.out)
  have HSA := Lib.hid (fun W (hb : Below w11.heap.size w11 W) => same15_any HD.out W B M9 S11 d L' T' 0 (A ++ A2) a9 k9 HSP.out (hx11.call HD.out hb) ((hb.block M9 (lt_of_block hbk11)).trans hbk11) (hp11.call hb) HF12.out (by have := HLL.out.1; omega))
  have HSA2 := Lib.hid (fun W (hb : Below w11.heap.size w11 W) => same15_any HD.out W B' M' S' d L' T' 0 A2 a2 cap2 HSP.out (hx11'.call HD.out hb) ((hb.block M' (lt_of_block hbk11')).trans hbk11') (hp2.call hb) HF'.out (by omega))
  have HB11 := Lib.hid b11
  clear hx11 hk11 hS11 hbk11 hbk11' hx11' hp11 hp2 b11 hR9 HJ
  go_wp2_with fail
  refine (HQ.out _ (Below.refl _ _)).mono ?_
  rintro e w12 ⟨rfl, b12⟩
  have p0 := cell_later b12 p0
  have p1 := cell_later b12 p1
  go_wp2_with fail
  refine (HQR.out _ b12).mono ?_
  rintro e w13 ⟨rfl, b13⟩
  have b13 := b12.trans (b13.mono b12.size)
  clear p0 p1
  go_wp2_with fail
  refine (HSA.out _ b13).mono ?_
  rintro e w14 ⟨rfl, b14⟩
  have b14 := b13.trans (b14.mono b13.size)
  go_wp2_with fail
  refine (HSA2.out _ b14).mono ?_
  rintro e w15 ⟨rfl, b15⟩
  have b15 := b14.trans (b15.mono b14.size)
  go_wp2_with fail
  go_ret
  exact ⟨rfl, HB11.out.trans (b15.mono HB11.out.size)⟩
end Go.Proofs.YtojincgbnjkegaaDoor
