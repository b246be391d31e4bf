/-
  Walk: the landed package tuples: Insert.
-/
import Derived.Test.YtjmkkglmckiknaaTpcB
import Derived.Test.YtjmkkglmckiknaaTpcI
namespace Go.Proofs.Ytjmkkglmckiknaa
set_option linter.unusedVariables false
set_option linter.unusedSimpArgs false
open Go.RowKit

theorem room_bd {L : List TupV} (hg : GoodT L) {k : Nat} : ∀ p, L[k]? = some p → 0 < p.st ∧ 0 ≤ p.sl ∧ p.st + p.sl ≤ 9223372036854775807 := fun p hp => by
  have := good_at hg hp
  omega
theorem room_range {L : List TupV} (hg : GoodT L) (k : Nat) : 0 ≤ roomT L k ∧ roomT L k < 9223372036854775807 := by
  cases h : L[k]? with
  | none => unfold roomT; rw [h]; exact ⟨Int.le_refl _, by decide⟩
  | some p =>
    have := room_bd hg p h
    rw [room_some h]; omega
/-- From the world of the call on. -/
theorem ins_end {w w6 w' : World} {base n cap : Nat} {A : Option Addr} {L M : List TupV} {e : Ending} (hbase : base ≤ w.heap.size) (h : OwnTu w base (.slice A n cap) L) (hb : Below w.heap.size w w6) (ha : AddedVT w6 A M e w') :
    ∃ v', e = .returned v' ∧ OwnTu w' base v' M ∧ w.grownBy w' (Value.slice A n cap).ownBlock ∧ (v'.ownBlock = (Value.slice A n cap).ownBlock ∨ ∀ g, v'.ownBlock = some g → w.heap.size ≤ g) := by
  obtain ⟨v', h1, h2, h3, h4⟩ := own_of_addedT (Nat.le_trans hbase hb.size) (h.call hb) ha
  refine ⟨v', h1, h2, grown_transT (grown_callT (grown_reflT w _) hb) h3, ?_⟩
  rcases h4 with h4 | h4
  · exact Or.inl h4
  · exact Or.inr fun g hg => Nat.le_trans hb.size (h4 g hg)
theorem one_newT (w : World) (x s l : Int) : OneT (w.alloc (.cells #[.int .i64 x, .int .u64 s, .int .u64 l] 52)) w.heap.size x s l := ⟨heap_alloc_new w _⟩

set_option maxRecDepth 100000 in
set_option maxHeartbeats 2000000 in
theorem tinsert_any (w : World) (base : Nat) (v : Value) (L : List TupV) (x : Int) (hbase : base ≤ w.heap.size) (h : OwnTu w base v L) (ok : ∀ p, p ∈ L → okTu p) (hg : GoodT L) (hs : sumT L < 9223372036854775807) (hl : L.length ≤ 200) (hx : I64 x) :
    Calls Try.prog 28 #[v, .int .i64 x] w fun e w' => ∃ v', e = .returned v' ∧ OwnTu w' base v' (insT L x) ∧ w.grownBy w' v.ownBlock ∧ (v'.ownBlock = v.ownBlock ∨ ∀ g, v'.ownBlock = some g → w.heap.size ≤ g) := by
  obtain ⟨A, cap, rfl, hT⟩ := h.rows ok
  obtain ⟨A', cap', e, hS, _⟩ := SlabT.of_own h ok
  obtain ⟨rfl, _, rfl⟩ := Value.slice.inj e
  obtain ⟨n, hn⟩ : ∃ n, L.length = n := ⟨_, rfl⟩
  obtain ⟨k, hk⟩ : ∃ k, fromT false x L = k := ⟨_, rfl⟩
  have hkn : k ≤ n := by rw [← hk, ← hn]; exact from_le _ _ _
  have hsort := hg.sort
  have hins := ins_is hsort x k hk
  have htd : L.take k ++ L.drop k = L := List.take_append_drop _ _
  have hlt : (L.take k).length = k := by rw [List.length_take]; omega
  rw [hn] at h ⊢
  have heg : ∀ args w, (callFunc 45 args).run Try.prog w = .ok (.enter 45 args) w := enters_of Try.func45 (by kernel_rfl) rfl
  have HBH := Lib.hid (tbehind_any w A n cap false)
  have HFR := Lib.hid (fun (W : World) (hW : Below w.heap.size w W) (hX : BoxT W w.heap.size (w.heap.size + 1) A n cap false) => tfrom_any W w.heap.size (w.heap.size + 1) cap n k A L x false hn (by omega) hx (hT.call hW) hsort hX hk)
  have HRO := Lib.hid (fun (W : World) (hW : Below w.heap.size w W) => troom_any W A cap n k L _ (hT.call hW) hn hkn (by omega) (room_bd hg) rfl)
  have HRR := Lib.hid (room_range hg k)
  have HFIN := Lib.hid (fun (W : World) (hW : Below w.heap.size w W) (vb : Nat) (hvb : w.heap.size ≤ vb) (r : Int) (hr : r = if k = 0 then 0 else roomT L k) (hr0 : Word r) (hv : OneT W vb x 1 r) =>
    (ins_anyT W A cap k n vb (L.take k) (L.drop k) x 1 r (by rw [htd]; exact hS.call hW) hlt (by rw [htd]; exact hn) (by omega) hv (fun e => by have := hS.lt e; omega) hx (by unfold Word; omega) hr0).mono fun e w' ha => by
      rw [hr, ← hins] at ha
      exact ins_end hbase h hW ha)
  clear hT hS h ok hg hs hsort hins htd hlt e hk hn
  obtain ⟨r, hr⟩ : ∃ r, roomT L k = r := ⟨_, rfl⟩
  rw [hr] at HRO HRR
  obtain ⟨r0, r1⟩ := HRR.out
  have HE := Lib.hid heg
  clear heg
  by_cases hk0 : k = 0
  · have e1 : decide ((0 : Int) < (k : Int)) = false := decide_eq_false (by omega)
    have e2 : ¬ (0 : Int) < (k : Int) := by omega
    have HK := Lib.hid hk0
    clear hk0
    go_enter Try.func28, Try.ntmps28
    go_wp2_with fail
    refine HBH.out.mono ?_
    rintro e w1 ⟨rfl, hX, hb1⟩
    have HX := Lib.hid hX
    have HB1 := Lib.hid hb1
    clear hX hb1
    have heg := HE.out
    go_wp2_with fail
    refine (HFR.out w1 HB1.out HX.out).mono ?_
    rintro e w2 ⟨rfl, hb2⟩
    have HB2 : Hid (Below w.heap.size w w2) := Lib.hid (HB1.out.trans (hb2.mono HB1.out.size))
    have hz := HB2.out.size
    have HW : Hid (Below w.heap.size w ((w2.alloc (.cells #[.int .i64 x, .int .u64 1, .int .u64 0] 52)).alloc (.cells #[.int .i64 x, .int .u64 1, .int .u64 0] 52))) := Lib.hid ((HB2.out.alloc hz _).alloc (by simp; omega) _)
    have ho := one_newT (w2.alloc (.cells #[.int .i64 x, .int .u64 1, .int .u64 0] 52)) x 1 0
    rw [show (w2.alloc (.cells #[.int .i64 x, .int .u64 1, .int .u64 0] 52)).heap.size = w2.heap.size + 1 by simp] at ho
    have HO := Lib.hid ho
    clear hb2 heg ho
    go_wp2_with fail
    with_reducible refine (HFIN.out _ HW.out (w2.heap.size + 1) (by omega) 0 (by rw [if_pos HK.out]) (by unfold Word; omega) HO.out).mono ?_
    rintro e w4 ⟨v', rfl, hf⟩
    have HF := Lib.hid hf
    clear hf
    go_wp2_with fail
    go_ret
    exact ⟨v', rfl, HF.out⟩
  · have e1 : decide ((0 : Int) < (k : Int)) = true := decide_eq_true (by omega)
    have e2 : (0 : Int) < (k : Int) := by omega
    have HK := Lib.hid hk0
    have HR := Lib.hid hr
    clear hk0 hr
    go_enter Try.func28, Try.ntmps28
    go_wp2_with fail
    refine HBH.out.mono ?_
    rintro e w1 ⟨rfl, hX, hb1⟩
    have HX := Lib.hid hX
    have HB1 := Lib.hid hb1
    clear hX hb1
    have heg := HE.out
    go_wp2_with fail
    refine (HFR.out w1 HB1.out HX.out).mono ?_
    rintro e w2 ⟨rfl, hb2⟩
    have HB2 : Hid (Below w.heap.size w w2) := Lib.hid (HB1.out.trans (hb2.mono HB1.out.size))
    have hz := HB2.out.size
    have HB3 : Hid (Below w.heap.size w (w2.alloc (.cells #[.int .i64 x, .int .u64 1, .int .u64 0] 52))) := Lib.hid (HB2.out.alloc hz _)
    have HT3 := Lib.hid (Three.new w2 (.int .i64 x) (.int .u64 1) (.int .u64 0) 52)
    clear hb2 heg
    go_wp2_with fail
    refine (HRO.out _ HB3.out).mono ?_
    rintro e w4 ⟨rfl, hb4⟩
    have HB4 : Hid (Below w.heap.size w w4) := Lib.hid (HB3.out.trans (hb4.mono HB3.out.size))
    have HT4 := Lib.hid (HT3.out.call hb4)
    have hz4 := HB4.out.size
    have hz5 := HT4.out.lt
    have g2 := HT4.out.c2
    have f2 := HT4.out.f2
    have HT5 := Lib.hid (HT4.out.put2 (.int .u64 r))
    have HB5 : Hid (Below w.heap.size w (w4.setCell ⟨w2.heap.size, 2, none⟩ (.int .u64 r))) := Lib.hid (HB4.out.setCell (p := ⟨w2.heap.size, 2, none⟩) hz _)
    clear hb4
    obtain ⟨w5, hw5⟩ : ∃ w5, w4.setCell ⟨w2.heap.size, 2, none⟩ (.int .u64 r) = w5 := ⟨_, rfl⟩
    rw [hw5] at HT5 HB5
    have hz6 := HB5.out.size
    go_upto_region 5 with fail
    clear hw5 g2 f2
    have d0 := HT5.out.c0
    have d1 := HT5.out.c1
    have d2 := HT5.out.c2
    have HO := Lib.hid (one_newT w5 x 1 r)
    have HW : Hid (Below w.heap.size w (w5.alloc (.cells #[.int .i64 x, .int .u64 1, .int .u64 r] 52))) := Lib.hid (HB5.out.alloc (by omega) _)
    go_wp2_with fail
    with_reducible refine (HFIN.out _ HW.out w5.heap.size (by omega) r (by rw [if_neg HK.out, HR.out]) (by unfold Word; omega) HO.out).mono ?_
    rintro e w6 ⟨v', rfl, hf⟩
    have HF := Lib.hid hf
    clear hf
    go_wp2_with fail
    go_ret
    exact ⟨v', rfl, HF.out⟩
end Go.Proofs.Ytjmkkglmckiknaa
