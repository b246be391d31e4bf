/-
  The law HdrClose, walked.
-/
import Derived.Test.YtojincgbnjkegaaDoorK4
namespace Go.Proofs.YtojincgbnjkegaaDoor
set_option linter.unusedVariables false
set_option linter.unusedSimpArgs false
open Go.RowKit

theorem clamp_end {A : List PairV} (h : FineV A) (hA : A ≠ []) (x : Int) : I64 (clampV (loV A) (hiV A) x) := by
  obtain ⟨e1, e2⟩ := ends_hd h
  obtain ⟨⟨v, hv, hv2⟩, h1⟩ := lov_facts hA
  obtain ⟨_, h2⟩ := hiv_facts hA
  have h3 := h1 v hv
  have h4 := h2 v hv
  obtain ⟨a, b⟩ := clamp_in (show loV A ≤ hiV A by omega) x
  unfold I64 at *; omega

set_option maxRecDepth 100000 in
set_option maxHeartbeats 4000000 in
theorem hdr_close_walk {St : World → Nat → (Nat → Prop) → Int → List PairV → Prop} (D : StripDoes St) (d : Int) (a : Option Addr) (cap : Nat) (A : List PairV) (pa pb : Int) (hd : I64 d) (wa : Word pa) (wb : Word pb) (w : World) (hA : Pairs w a A) (hl : A.length ≤ 140737488351232) (ht : Tens w) :
    Calls Tryd.prog 4 #[.int .i64 d, .slice a A.length cap, .agg #[.int .u64 pa, .int .u64 pb]] w fun e w' => e = .returned (.bool true) ∧ Below w.heap.size w w' := by
  have HD := Lib.hid D
  have HWA := Lib.hid wa
  have HWB := Lib.hid wb
  have hb0 : Below w.heap.size w (w.alloc (.cells #[.int .u64 pa, .int .u64 pb] 25)) := (Below.refl _ _).alloc (Nat.le_refl _) _
  obtain ⟨p0, p1⟩ := hd_two w (.int .u64 pa) (.int .u64 pb) 25
  have HAL := Lib.hid (alive15_any D _ (ht.call hb0))
  have HBU := Lib.hid (fun W (hb : Below w.heap.size w W) => build15_any D W d A a cap hd (ht.call hb) (hA.call hb) hl)
  have HA := Lib.hid hA
  have HB0 := Lib.hid hb0
  clear hA ht D hb0
  obtain ⟨wa0, wa1⟩ := wa
  obtain ⟨wb0, wb1⟩ := wb
  obtain ⟨gd, hgd⟩ : ∃ gd, gdB pa pb = gd := ⟨_, rfl⟩
  have HGD := Lib.hid hgd
  have HGC := Lib.hid (fun W => rgood_any pa pb HWA.out HWB.out W)
  rw [hgd] at HGC
  clear hgd
  go_enter Tryd.func4, Tryd.ntmps4
  go_wp2_with fail
  have HZR : Hid ((w.alloc (.cells #[.int .u64 pa, .int .u64 pb] 25)).heap.size = w.heap.size + 1) := Lib.hid (by simp)
  generalize w.alloc (.cells #[.int .u64 pa, .int .u64 pb] 25) = wr at *
  refine HAL.out.mono ?_
  rintro e w1 ⟨rfl, b1'⟩
  have b1 := HB0.out.trans (b1'.mono HB0.out.size)
  have p0 := cell_later b1' p0
  have p1 := cell_later b1' p1
  clear b1' HAL
  go_wp2_with fail
  refine (HBU.out _ b1).mono ?_
  rintro e w2 (⟨B, S, L, T, M, rfl, hs, hf, hl60, hX, hbk, hS, hM, hSM, b2'⟩ | ⟨rfl, b2'⟩)
  case inr =>
    have b2 := b1.trans (b2'.mono b1.size)
    go_wp2_with fail
    go_ret
    exact ⟨rfl, b2⟩
  have b2 := b1.trans (b2'.mono b1.size)
  have p0 := cell_later b2' p0
  have p1 := cell_later b2' p1
  have HB2 := Lib.hid b2
  cases gd with
  | false =>
    clear hs hf hX hbk hS hM hSM b1 b2 b2'
    go_wp2_with fail
    refine (HGC.out _).mono ?_
    rintro e w3 ⟨rfl, b3⟩
    have b3 := HB2.out.trans (b3.mono HB2.out.size)
    go_wp2_with fail
    go_ret
    exact ⟨rfl, b3⟩
  | true =>
  by_cases hA0 : A = []
  · subst hA0
    have h0 : ([] : List PairV).length = 0 := rfl
    rw [h0] at *
    clear hs hf hX hbk hS hM hSM b1 b2 b2' h0
    go_wp2_with fail
    refine (HGC.out _).mono ?_
    rintro e w3 ⟨rfl, b3⟩
    have b3 := HB2.out.trans (b3.mono HB2.out.size)
    go_wp2_with fail
    go_ret
    exact ⟨rfl, b3⟩
  have hP : (Pt.spans d L T).ok := hs
  obtain ⟨l1, l2⟩ := hdv_len hP hf (by omega)
  have hbd := fine_bd hf (by omega)
  have hv2 := HA.out.call b2
  have hR : RefN w2 M (.spans d L T) false 4096 A := refn_blk L T hbk hv2
  obtain ⟨x, hx, hq⟩ := quan_close hs hf (by omega) hA0 HWA.out HWB.out HGD.out
  have hnear := near_whole hs hf hx
  have hxi : I64 x := by
    obtain ⟨v, hv, e, _⟩ := exact_of hx
    exact e ▸ (hf v hv).1
  have hri := clamp_end hf hA0 (standV (.spans d L T) x)
  obtain ⟨tt, htt⟩ : ∃ tt, sumP A = tt := ⟨_, rfl⟩
  have wt : Word tt := by unfold Word; omega
  have HMT := Lib.hid (fun W (hb : Below w2.heap.size w2 W) => rtotal13_any W M (.spans d L T) false 4096 A tt (hR.call hb) (by omega) htt (by omega))
  have HPL := Lib.hid (fun W => rplace_any pa pb tt HWA.out HWB.out wt W)
  have hwv := pl_word (n := tt) HWA.out HWB.out wt
  have hq' := (quan_hd hs hf (by omega) HWA.out HWB.out).trans hq
  have HQ := Lib.hid (fun W (hb : Below w2.heap.size w2 W) => hd_quan HD.out hs (hX.call HD.out hb) (by omega) (by omega) pa pb _ _ HWA.out HWB.out hq')
  rw [htt] at hx
  have HEX := Lib.hid (fun W (hb : Below w2.heap.size w2 W) => rexact_any W a cap A (plV pa pb tt) x true (hv2.call hb) hwv (by omega) (by omega) (by rw [hx]; rfl) (by rw [hx]; rfl))
  generalize plV pa pb tt = t at *
  generalize plE pa pb tt = te at *
  generalize clampV (loV A) (hiV A) (standV (.spans d L T) x) = r at *
  have wT : Word T := by have := hs; unfold SpanP at this; unfold Word; omega
  have HWI := Lib.hid (fun W => rwithin_any r x 1 T hri hxi ⟨by decide, by decide⟩ wT W)
  rw [hnear] at HWI
  have HSP := Lib.hid hs
  have hdd : 1 ≤ d ∧ d ≤ 4 := by have := hs; unfold SpanP at this; omega
  obtain ⟨hd1, hd4⟩ := hdd
  have hl1 : 1 ≤ A.length := by
    cases A with
    | nil => exact absurd rfl hA0
    | cons v r => simp
  obtain ⟨n, hn⟩ : ∃ n : Nat, A.length = n := ⟨_, rfl⟩
  rw [hn] at HEX hl1
  rw [hn]
  have hn0 : ((n : Int) == 0) = false := by simp; omega
  have hn1 : ¬ n = 0 := by omega
  have HQ0 : Hid (w2.drew.cell? ⟨w.heap.size, 0, none⟩ = some (.int .u64 pa) ∧ w2.drew.cell? ⟨w.heap.size, 1, none⟩ = some (.int .u64 pb) ∧ Below w2.heap.size w2 w2.drew) := Lib.hid ⟨p0, p1, (Below.refl _ _).drew⟩
  have HST := Lib.hid (fun (W W' : World) (h : W.cell? ⟨w.heap.size, 0, none⟩ = some (.int .u64 pa) ∧ W.cell? ⟨w.heap.size, 1, none⟩ = some (.int .u64 pb) ∧ Below w2.heap.size w2 W) (hb : Below W.heap.size W W') => (⟨cell_later hb h.1, cell_later hb h.2.1, h.2.2.trans (hb.mono h.2.2.size)⟩ : W'.cell? ⟨w.heap.size, 0, none⟩ = some (.int .u64 pa) ∧ W'.cell? ⟨w.heap.size, 1, none⟩ = some (.int .u64 pb) ∧ Below w2.heap.size w2 W'))
  have HSD := Lib.hid (fun (W : World) (h : W.cell? ⟨w.heap.size, 0, none⟩ = some (.int .u64 pa) ∧ W.cell? ⟨w.heap.size, 1, none⟩ = some (.int .u64 pb) ∧ Below w2.heap.size w2 W) => (⟨h.1, h.2.1, h.2.2.drew⟩ : W.drew.cell? ⟨w.heap.size, 0, none⟩ = some (.int .u64 pa) ∧ W.drew.cell? ⟨w.heap.size, 1, none⟩ = some (.int .u64 pb) ∧ Below w2.heap.size w2 W.drew))
  clear hs hf hX hbk hS hM hSM hP l1 l2 hbd hv2 hR hq hq' hx hnear hxi hri wt b1 b2 b2' hn htt hA0 wT HA HBU
  go_wp2_with fail
  refine (HGC.out _).mono ?_
  rintro e w3 ⟨rfl, b3⟩
  have hh3 := HST.out _ _ ⟨p0, p1, Below.refl _ _⟩ b3
  have HH3 := Lib.hid (HSD.out _ hh3)
  clear hh3 b3 p0 p1
  go_wp2_with fail
  go_region_held3 (fun w' => w'.cell? ⟨w.heap.size, 0, none⟩ = some (.int .u64 pa) ∧ w'.cell? ⟨w.heap.size, 1, none⟩ = some (.int .u64 pb) ∧ Below w2.heap.size w2 w')
    (first | exact HH3.out | exact HST.out _ _ (by assumption) hbA | assumption)
    ((first
      | (go_at_call 18; refine (HMT.out _ (And.right (And.right (by assumption)))).mono ?_; rintro e wA ⟨rfl, hbA⟩)
      | (go_at_call 17; refine (HPL.out _).mono ?_; rintro e wA ⟨rfl, hbA⟩)))
  all_goals
    rename_i hHeld
    obtain ⟨p0, p1, b4⟩ := hHeld
    go_wp2_with fail
    refine (HEX.out _ b4).mono ?_
    rintro e w5 ⟨rfl, b5'⟩
    have b5 := b4.trans (b5'.mono b4.size)
    have p0 := cell_later b5' p0
    have p1 := cell_later b5' p1
    clear b4 b5'
    go_wp2_with fail
    refine (HQ.out _ b5).mono ?_
    rintro e w6 ⟨rfl, b6'⟩
    have b6 := b5.trans (b6'.mono b5.size)
    have HB6 := Lib.hid b6
    clear b5 b6' p0 p1 b6
    go_wp2_with fail
    go_loop [16, 17] (fun t i => ∃ k : Nat, (k : Int) ≤ d ∧ i = .int .i64 k ∧ t = .int .u64 (tenN k)) (fun _ i => (d - intOf i).toNat)
    case atStart => exact ⟨0, by omega, rfl, rfl⟩
    case round =>
      obtain ⟨k, hk, rfl, rfl⟩ := hrel
      by_cases hlt : (k : Int) < d
      · obtain ⟨t0, t1⟩ := tenN_bd k (by omega)
        have HT := Lib.hid (show tenN (k + 1) = tenN k * 10 from rfl)
        generalize tenN k = tn at *
        go_wp2_with fail
        go_round
        case rel => exact ⟨k + 1, by omega, by go_num, by rw [HT.out, Int.mul_comm]⟩
        case measure => simp [intOf]; omega
      · have HT := Lib.hid (tenN_of HSP.out (k := k) (by omega))
        rw [HT.out]
        go_wp2_with fail
        refine (HWI.out _).mono ?_
        rintro e w7 ⟨rfl, b7⟩
        have b7 := HB6.out.trans (b7.mono HB6.out.size)
        go_wp2_with fail
        go_ret
        exact ⟨rfl, HB2.out.trans (b7.mono HB2.out.size)⟩
end Go.Proofs.YtojincgbnjkegaaDoor
