/-
  Walks: the laws' build of layer 13 once more: it tells where the reference's block lies, too.
-/
import Derived.Test.YtdnmeninglfhlaaGreatDoorK6
namespace Go.Proofs.YtdnmeninglfhlaaGreatDoor
set_option linter.unusedVariables false
set_option linter.unusedSimpArgs false
open Go.RowKit

def BuildF (Bn : BnT) (w : World) (u v dg sd m : Int) (A : List PairV) (a : Option Addr) (cap : Nat) (e : Ending) (w' : World) : Prop :=
  (∃ B S R M P s n, e = .returned (.tuple #[.pointer (some ⟨B, 0, none⟩), .pointer (some ⟨M, 0, none⟩), .bool true]) ∧ sideI s = sd ∧ P.ok ∧ PtOf dg u v P ∧ 1 ≤ m ∧ m ≤ 4096 ∧ FineV A ∧ A.length ≤ 60 ∧ Bn w' B S R P s m (stV P s m A) ∧ RefK n w' M P s m A ∧ (∀ k, S k ∨ R k → n ≤ k) ∧ w.heap.size ≤ n ∧ n ≤ w'.heap.size ∧ 0 ≤ dg ∧ dg ≤ 4 ∧ Below w.heap.size w w' ∧ Far w.heap.size w' M ∧ w'.cell? ⟨M, 5, none⟩ = some (.slice a A.length cap) ∧ w.heap.size ≤ M) ∨
  (e = .returned (.tuple #[.pointer none, .pointer none, .bool false]) ∧ Below w.heap.size w w')

set_option maxRecDepth 100000 in
set_option maxHeartbeats 4000000 in
theorem build13_far {Bn : BnT} (D : BinsDoes Bn) (w : World) (u v dg sd m : Int) (A : List PairV) (a : Option Addr) (cap : Nat) (ht : Tens w) (wu : Word u) (wv : Word v) (wd : I64 dg) (ws : I64 sd) (wm : I64 m) (hA : Pairs w a A) (hl : A.length ≤ 140737488351232) :
    Calls Tryz.prog 20 #[.agg #[.int .u64 u, .int .u64 v, .int .i64 dg, .int .i64 sd, .int .i64 m, .slice a A.length cap]] w (BuildF Bn w u v dg sd m A a cap) := by
  have HD := Lib.hid D
  have HTN := Lib.hid ht
  have HA := Lib.hid hA
  obtain ⟨u0, u1⟩ := id wu
  obtain ⟨v0, v1⟩ := id wv
  obtain ⟨dg0, dg1⟩ := wd
  obtain ⟨sd0, sd1⟩ := ws
  obtain ⟨m0, m1⟩ := wm
  clear ht hA D
  have BC := ((Below.refl w.heap.size w).alloc (Nat.le_refl _) (.cells #[.int .u64 u, .int .u64 v, .int .i64 dg, .int .i64 sd, .int .i64 m, .slice a A.length cap] 27))
  have hsz : (w.alloc (.cells #[.int .u64 u, .int .u64 v, .int .i64 dg, .int .i64 sd, .int .i64 m, .slice a A.length cap] 27)).heap.size = w.heap.size + 1 := by simp
  by_cases q1 : 60 < A.length
  · have kk : (60 : Int) < A.length := by omega
    go_enter Tryz.func20, Tryz.ntmps20
    go_wp2_with fail
    go_ret3
    exact Or.inr ⟨rfl, BC⟩
  have kk : ¬ (60 : Int) < A.length := by omega
  by_cases q2 : 100 < v
  · go_enter Tryz.func20, Tryz.ntmps20
    go_wp2_with fail
    go_ret3
    exact Or.inr ⟨rfl, BC⟩
  by_cases q3 : dg < 0
  · go_enter Tryz.func20, Tryz.ntmps20
    go_wp2_with fail
    go_ret3
    exact Or.inr ⟨rfl, BC⟩
  by_cases q4 : 4 < dg
  · go_enter Tryz.func20, Tryz.ntmps20
    go_wp2_with fail
    go_ret3
    exact Or.inr ⟨rfl, BC⟩
  by_cases q5 : sd < 0
  · go_enter Tryz.func20, Tryz.ntmps20
    go_wp2_with fail
    go_ret3
    exact Or.inr ⟨rfl, BC⟩
  by_cases q6 : 1 < sd
  · go_enter Tryz.func20, Tryz.ntmps20
    go_wp2_with fail
    go_ret3
    exact Or.inr ⟨rfl, BC⟩
  by_cases q7 : m < 1
  · go_enter Tryz.func20, Tryz.ntmps20
    go_wp2_with fail
    go_ret3
    exact Or.inr ⟨rfl, BC⟩
  by_cases q8 : 4096 < m
  · go_enter Tryz.func20, Tryz.ntmps20
    go_wp2_with fail
    go_ret3
    exact Or.inr ⟨rfl, BC⟩
  obtain ⟨s, hs⟩ : ∃ s, sideI s = sd := by
    by_cases c : sd = 1
    · exact ⟨true, by rw [c]; rfl⟩
    · exact ⟨false, by have : sd = 0 := by omega
                       rw [this]; rfl⟩
  have HSI := Lib.hid hs
  have HNW := Lib.hid (fun W => rnew13_any u v dg s m wu wv (by omega) (by omega) (by unfold I64; omega) W)
  have HEM := Lib.hid (fun W P hW hP hof => empty13_any HD.out W u v dg m s P a A.length cap hW hP hof (by omega) (by omega) (by omega) (by omega))
  rw [hs] at HNW HEM
  clear hs
  have p0 : (w.alloc (.cells #[.int .u64 u, .int .u64 v, .int .i64 dg, .int .i64 sd, .int .i64 m, .slice a A.length cap] 27)).cell? ⟨w.heap.size, 0, none⟩ = some (.int .u64 u) := by go_simp
  have p1 : (w.alloc (.cells #[.int .u64 u, .int .u64 v, .int .i64 dg, .int .i64 sd, .int .i64 m, .slice a A.length cap] 27)).cell? ⟨w.heap.size, 1, none⟩ = some (.int .u64 v) := by go_simp
  have p2 : (w.alloc (.cells #[.int .u64 u, .int .u64 v, .int .i64 dg, .int .i64 sd, .int .i64 m, .slice a A.length cap] 27)).cell? ⟨w.heap.size, 2, none⟩ = some (.int .i64 dg) := by go_simp
  have p3 : (w.alloc (.cells #[.int .u64 u, .int .u64 v, .int .i64 dg, .int .i64 sd, .int .i64 m, .slice a A.length cap] 27)).cell? ⟨w.heap.size, 3, none⟩ = some (.int .i64 sd) := by go_simp
  have p4 : (w.alloc (.cells #[.int .u64 u, .int .u64 v, .int .i64 dg, .int .i64 sd, .int .i64 m, .slice a A.length cap] 27)).cell? ⟨w.heap.size, 4, none⟩ = some (.int .i64 m) := by go_simp
  have p5 : (w.alloc (.cells #[.int .u64 u, .int .u64 v, .int .i64 dg, .int .i64 sd, .int .i64 m, .slice a A.length cap] 27)).cell? ⟨w.heap.size, 5, none⟩ = some (.slice a A.length cap) := by go_simp
  go_enter Tryz.func20, Tryz.ntmps20
  go_wp2_with fail
  have HSZ := Lib.hid hsz
  generalize (w.alloc (.cells #[.int .u64 u, .int .u64 v, .int .i64 dg, .int .i64 sd, .int .i64 m, .slice a A.length cap] 27)) = wC at *
  clear hsz
  refine (HNW.out _).mono ?_
  rintro e w2 (⟨M, P, hP, hof, rfl, hrn, hM, hb2, hfar⟩ | ⟨hno, rfl, hb2⟩)
  · have b2 := BC.trans (hb2.mono (by rw [HSZ.out]; omega))
    have HPP := Lib.hid hP
    have HOF := Lib.hid hof
    have HRN := Lib.hid hrn
    have HFAR := Lib.hid hfar
    clear hfar
    have r0 := cell_later hb2 p0
    have r1 := cell_later hb2 p1
    have r2 := cell_later hb2 p2
    have r3 := cell_later hb2 p3
    have r4 := cell_later hb2 p4
    have r5 := cell_later hb2 p5
    have hz2 : w.heap.size < w2.heap.size := by have := hb2.size; rw [HSZ.out] at this; omega
    have hM1 : w.heap.size + 1 ≤ M := by rw [HSZ.out] at hM; exact hM
    have hMlt := hrn.lt
    clear hP hof hrn p0 p1 p2 p3 p4 p5 hb2 HNW hM
    go_wp2_with fail
    refine (HEM.out w2 P (HTN.out.call b2) HPP.out HOF.out).mono ?_
    rintro e w3 ⟨B, S, R, rfl, hbn, hSR, hb3⟩
    have HBN := Lib.hid hbn
    have HSR := Lib.hid hSR
    have t5 := cell_later hb3 r5
    have hz3 := hb3.size
    clear hbn hSR HEM r0 r1 r2 r3 r4
    go_wp2_with fail
    go_loopw [69] (fun j wr => ∃ (k : Nat) (Sk : Nat → Prop), k ≤ A.length ∧ j = .int .i64 k ∧ FineV (A.take k) ∧ Bn wr B Sk R P s m (stV P s m (A.take k)) ∧ (∀ i, Sk i ∨ R i → w2.heap.size ≤ i) ∧ Below w2.heap.size w2 wr) (fun j _ => A.length - (intOf j).toNat)
    case atStart => exact ⟨0, S, Nat.zero_le _, rfl, fun v hv => (by cases hv), by rw [List.take_zero, stv_nil]; exact HBN.out, HSR.out, hb3⟩
    case round =>
      obtain ⟨k, Sk, hk, rfl, hf, hbn, hsr, hb4⟩ := hrel
      have HBK := Lib.hid hbn
      have HSK := Lib.hid hsr
      have HFK := Lib.hid hf
      have hbs4 := hb4.size
      clear hbn hsr hf
      by_cases hlt : k < A.length
      · have kl : (k : Int) < A.length := by omega
        have hxk : A[k]? = some A[k] := List.getElem?_eq_getElem hlt
        generalize hit : A[k] = p at *
        obtain ⟨px, pc⟩ := p
        have HXK := Lib.hid hxk
        have hA2 := HA.out.call (b2.trans (hb4.mono (by omega)))
        obtain ⟨bb, off, rfl, hbl, c0, c1⟩ := hA2.at_ k _ hxk
        have hok := HA.out.ok _ (List.mem_of_getElem? hxk)
        have HOK := Lib.hid hok.1
        obtain ⟨⟨o1, o2⟩, o3, o4⟩ := hok
        simp only at c0 c1 o1 o2 o3 o4 HOK
        have HB5 := Lib.hid (hb4.alloc hbs4 (.cells #[.int .i64 px, .int .u64 pc] 62))
        have HBK5 := Lib.hid (HD.out.call HBK.out ((Below.refl wr.heap.size wr).alloc (Nat.le_refl _) (.cells #[.int .i64 px, .int .u64 pc] 62)))
        have hz5 : (wr.alloc (.cells #[.int .i64 px, .int .u64 pc] 62)).heap.size = wr.heap.size + 1 := by simp
        clear hxk hit hA2
        by_cases z0 : pc = 0
        · subst z0
          go_wp2_with fail
          go_ret3
          exact Or.inr ⟨rfl, b2.trans (HB5.out.mono (by omega))⟩
        have z1 : (pc == 0) = false := by simp [z0]
        by_cases z2 : 1125899906842624 < pc
        · go_wp2_with fail
          go_ret3
          exact Or.inr ⟨rfl, b2.trans (HB5.out.mono (by omega))⟩
        have hst := bin_step HPP.out s (show 0 < m by omega) HXK.out HFK.out (by omega) ⟨HOK.out, by show 0 < pc; omega, by show pc ≤ 1125899906842624; omega⟩
        have hsl := stv_len HPP.out s m HFK.out (by have := List.length_take_le k A; omega)
        have htl := List.length_take_le k A
        have HST := Lib.hid hst
        have HAD := Lib.hid (HD.out.add _ B Sk R P s m (stV P s m (A.take k)) px pc HBK5.out (by omega) (by omega) HOK.out (by unfold Word; omega))
        rw [hst.2.1, hst.2.2] at HAD
        clear hst hsl htl
        go_wp2_with fail
        refine HAD.out.mono ?_
        rintro e w6 ⟨S6, rfl, hbn6, hk6, hS6⟩
        have HBN6 := Lib.hid hbn6
        have b6 : Below w2.heap.size w2 w6 := Keeps.below HB5.out hk6 (by rw [hz5]; omega) fun i hi => HSK.out i (Or.inl hi)
        have hs6 : ∀ i, S6 i ∨ R i → w2.heap.size ≤ i := fun i hi => by
          rcases hi with h | h
          · rcases hS6 i h with h | h
            · exact HSK.out i (Or.inl h)
            · rw [hz5] at h; omega
          · exact HSK.out i (Or.inr h)
        have HS6 := Lib.hid hs6
        clear hbn6 hs6 hS6 hk6 HAD HBK HBK5
        go_wp2_with fail
        go_roundw
        case rel => exact ⟨k + 1, S6, by omega, by go_num, HST.out.1, HBN6.out, HS6.out, b6⟩
        case measure => simp [intOf]; omega
      · obtain rfl : k = A.length := by omega
        have kl : ¬ (A.length : Int) < A.length := by omega
        rw [List.take_length] at HBK HFK
        have t6 := cell_later hb4 r5
        have hMB := HRN.out.lt
        obtain ⟨lo, re, dgx, a0, cap0, _, _, h3⟩ := HRN.out.ex
        have h3' := (hb4.block M hMB).trans h3
        have hfz : Far w.heap.size (wr.setCell ⟨M, 5, none⟩ (.slice a A.length cap)) M := by
          refine far_block (by rw [Joins.block_setCell h3']; rfl) (fun g l c e => ?_) (fun g l c e => ?_)
          · have := HFAR.out 0 g l c (Or.inl rfl) (by rw [Joins.cell_of_block h3, e]; rfl); rw [HSZ.out] at this; omega
          · have := HFAR.out 1 g l c (Or.inr rfl) (by rw [Joins.cell_of_block h3, e]; rfl); rw [HSZ.out] at this; omega
        have hv5 : (wr.setCell ⟨M, 5, none⟩ (.slice a A.length cap)).cell? ⟨M, 5, none⟩ = some (.slice a A.length cap) := by
          have hbb : (wr.setCell ⟨M, 5, none⟩ (.slice a A.length cap)).heap[M]? = _ := Joins.block_setCell h3' _
          rw [Joins.cell_of_block hbb]; rfl
        have HFZ := Lib.hid hfz
        have HV5 := Lib.hid hv5
        clear hfz hv5
        have y5 : wr.cell? ⟨M, 5, none⟩ = some (.slice a0 ([] : List PairV).length cap0) := by rw [Joins.cell_of_block h3']; rfl
        have f5 : wr.frozen? ⟨M, 5, none⟩ = false := Joins.unfrozen_of_block h3' 5
        have HVL := Lib.hid (refk_vals (cap := cap) HRN.out HA.out b2 (by omega) hb4)
        have HBZ : Hid (Bn (wr.setCell ⟨M, 5, none⟩ (.slice a A.length cap)) B Sk R P s m (stV P s m A)) := Lib.hid (HD.out.keep _ _ B Sk R P s m _ HBK.out fun i hi => Below.heap_setCell wr _ _ i (by have := HSK.out i hi; show i ≠ M; omega))
        have hbz : Below w.heap.size w (wr.setCell ⟨M, 5, none⟩ (.slice a A.length cap)) := (b2.trans (hb4.mono (by omega))).setCell (p := ⟨M, 5, none⟩) (by show w.heap.size ≤ M; omega) _
        have hsz : (wr.setCell ⟨M, 5, none⟩ (.slice a A.length cap)).heap.size = wr.heap.size := by simp [World.setCell]
        clear h3 h3' HBK
        go_wp2_with fail
        go_ret3
        exact Or.inl ⟨B, Sk, R, M, P, s, w2.heap.size, rfl, HSI.out, HPP.out, HOF.out, by omega, by omega, HFK.out, by omega, HBZ.out, HVL.out, HSK.out, by omega, by rw [hsz]; omega, by omega, by omega, hbz, HFZ.out, HV5.out, by omega⟩
  · have b2 := BC.trans (hb2.mono (by rw [HSZ.out]; omega))
    go_wp2_with fail
    go_ret3
    exact Or.inr ⟨rfl, b2⟩
end Go.Proofs.YtdnmeninglfhlaaGreatDoor
