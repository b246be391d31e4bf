/-
  The law GreenwaldTight, walked from the contracts.
-/
import Derived.Test.YtfmlkohijkalbaaK4
namespace Go.Proofs.Ytfmlkohijkalbaa
set_option linter.unusedVariables false
set_option linter.unusedSimpArgs false
open Go.RowKit

theorem steps_row {g : Int} : ∀ {S : List SpotV} {a : Int}, StepsP g a S → ∀ p, p ∈ rowT a S → p.st + p.sl ≤ g
  | [], _, _, p, hp => by cases hp
  | s :: r, a, h, p, hp => by
    rcases List.mem_cons.1 (show p ∈ (⟨s.x, s.lo - a, s.hi - s.lo⟩ : TupV) :: rowT s.lo r from hp) with e | h2
    · rw [e]
      show s.lo - a + (s.hi - s.lo) ≤ g
      have := h.1
      omega
    · exact steps_row h.2 p h2

set_option maxRecDepth 100000 in
set_option maxHeartbeats 8000000 in
theorem gw_tight_walk {Gw : GwT} (D : GwDoes Gw) (TD : TupDoes) (u v : Int) (A : List PairV) (a : Option Addr) (cap : Nat) (hu : Word u) (hv : Word v) (w : World) (hA : Pairs w a A) (hl : A.length ≤ 140737488351232) :
    Calls Try.prog 5 #[.agg #[.int .u64 u, .int .u64 v], .slice a A.length cap] w fun e w' => e = .returned (.bool true) ∧ Below w.heap.size w w' := by
  have HD := Lib.hid D
  have HTD := Lib.hid TD
  have HA := Lib.hid hA
  have HAL := Lib.hid (fun W => alive19_any D W)
  have HBD := Lib.hid (fun W hW => build19_any D W u v A a cap hu hv hW hl)
  obtain ⟨bx0, bx1⟩ := two_boxW w (.int .u64 u) (.int .u64 v) 24
  have HBX := Lib.hid (And.intro bx0 bx1)
  have HB0 : Hid (Below w.heap.size w (w.alloc (.cells #[.int .u64 u, .int .u64 v] 24))) := Lib.hid ((Below.refl _ _).alloc (Nat.le_refl _) _)
  clear hA D TD bx0 bx1
  go_enter Try.func5, Try.ntmps5
  go_wp2_with fail
  refine (HAL.out _).mono ?_
  rintro e w1 ⟨rfl, b1'⟩
  have HX1 := Lib.hid (And.intro (cell_later b1' HBX.out.1) (cell_later b1' HBX.out.2))
  have HB1 := Lib.hid (HB0.out.trans (b1'.mono HB0.out.size))
  obtain ⟨c0, c1⟩ := HX1.out
  clear b1' HBX HAL
  go_wp2_with fail
  refine (HBD.out _ (HA.out.call HB1.out)).mono ?_
  rintro e w2 (⟨B0, S0, M0, vs0, vw0, rfl, hga, hfe, hbt⟩ | ⟨rfl, _, b2'⟩)
  case inr =>
    have HB2 := Lib.hid (HB1.out.trans (b2'.mono HB1.out.size))
    clear b2' c0 c1
    go_wp2_with fail
    go_ret
    exact ⟨rfl, HB2.out⟩
  have HX2 := Lib.hid (And.intro (cell_later hbt.below HX1.out.1) (cell_later hbt.below HX1.out.2))
  have HB2 := Lib.hid (HB1.out.trans (hbt.below.mono HB1.out.size))
  have HGA := Lib.hid hga
  have HFE := Lib.hid hfe
  clear hga hfe hbt c0 c1 HBD
  obtain ⟨c0, c1⟩ := HX2.out
  have HNW := Lib.hid (HD.out.new w2 u v HGA.out)
  go_wp2_with fail
  refine HNW.out.mono ?_
  rintro e w3 ⟨B, S, rfl, hx, hS, b3⟩
  have HX3 := Lib.hid hx
  have HBX3 := Lib.hid (And.intro (cell_later b3 HX2.out.1) (cell_later b3 HX2.out.2))
  have HB3 := Lib.hid (HB2.out.trans (b3.mono HB2.out.size))
  have HZ2 : Hid (w.heap.size + 1 ≤ w2.heap.size) := Lib.hid (World.block_lt_of_cell? (a := ⟨w.heap.size, 0, none⟩) w2 HX2.out.1)
  have HS3 : Hid (∀ k, S k → w.heap.size + 1 ≤ k) := Lib.hid fun k hk => Nat.le_trans HZ2.out (hS k hk)
  clear hx hS b3 HNW c0 c1
  go_wp2_with fail
  go_loopw [41] (fun jv wr => ∃ (i : Nat) (Sk : Nat → Prop), i ≤ A.length ∧ jv = .int .i64 i ∧ Gw wr B Sk u v (buildG u v (A.take i)) (endAD (A.take i)) ∧ (∀ k, Sk k → w.heap.size + 1 ≤ k) ∧ Below w.heap.size w wr ∧ wr.cell? ⟨w.heap.size, 0, none⟩ = some (.int .u64 u) ∧ wr.cell? ⟨w.heap.size, 1, none⟩ = some (.int .u64 v)) (fun jv _ => A.length - (intOf jv).toNat)
  case atStart => exact ⟨0, S, Nat.zero_le _, rfl, HX3.out, HS3.out, HB3.out, HBX3.out.1, HBX3.out.2⟩
  case round =>
    obtain ⟨i, Sk, hi, rfl, hx, hsk, hbr, hc0, hc1⟩ := hrel
    have HX := Lib.hid hx
    have HSK := Lib.hid hsk
    have HBR := Lib.hid hbr
    have HC := Lib.hid (And.intro hc0 hc1)
    by_cases hlt : i < A.length
    · have kl : (i : Int) < A.length := by omega
      have hxk : A[i]? = some A[i] := List.getElem?_eq_getElem hlt
      generalize hit : A[i] = p at *
      obtain ⟨px, pc⟩ := p
      obtain ⟨bb, off, rfl, hbl, d0, d1⟩ := (HA.out.call hbr).at_ i _ hxk
      have hok := HA.out.ok _ (List.mem_of_getElem? hxk)
      have hpc := HFE.out.one _ (List.mem_of_getElem? hxk)
      have HKT := Lib.hid (take_snocP hxk)
      have HOKT : Hid (∀ k, ∀ p, p ∈ A.take k → okP p) := Lib.hid fun k p hp => HA.out.ok p (List.mem_of_mem_take hp)
      have HSUM : Hid (∀ k, 0 ≤ sumP (A.take k) ∧ sumP (A.take k) ≤ 150) := Lib.hid fun k => by have := sumP_take k (ok_pos HA.out.ok); have := HFE.out.sum; omega
      obtain ⟨⟨o1, o2⟩, o3, o4⟩ := hok
      simp only at d0 d1 o1 o2 o3 o4 hpc
      obtain ⟨p1, p2⟩ := hpc
      obtain ⟨c, rfl⟩ : ∃ c : Nat, pc = c := ⟨pc.toNat, by omega⟩
      obtain ⟨f1, f2, f3, f4⟩ := build_facts u v _ (A.take i) rfl (HOKT.out i) (by have := HSUM.out i; omega)
      obtain ⟨g1, g2, g3, g4⟩ := build_facts u v _ (A.take (i + 1)) rfl (HOKT.out (i + 1)) (by have := HSUM.out (i + 1); omega)
      have hgok := build_ok (u := u) (v := v) (by have := HGA.out.u1; omega) HGA.out.v0 _ (A.take (i + 1)) rfl
      have HE1 : Hid (buildG u v (A.take (i + 1)) = putG u v (buildG u v (A.take i)) px c) := Lib.hid (by rw [HKT.out, build_snoc, Int.toNat_natCast])
      have HE2 : Hid (endAD (A.take (i + 1)) = addW (endAD (A.take i)) px) := Lib.hid (by rw [HKT.out, endA_snoc])
      have HAL : Hid (Below wr.heap.size wr (wr.alloc (.cells #[.int .i64 px, .int .u64 c] 54))) := Lib.hid ((Below.refl _ _).alloc (Nat.le_refl _) _)
      have HB4 := Lib.hid (hbr.trans (HAL.out.mono hbr.size))
      have HX4 := Lib.hid (HD.out.call hx HAL.out)
      have HC4 := Lib.hid (And.intro (cell_later HAL.out hc0) (cell_later HAL.out hc1))
      have hs0 := HSUM.out i
      have HPU := Lib.hid (HD.out.put _ B Sk u v _ _ px c HX4.out ⟨o1, o2⟩ (by omega) (by omega) (by omega) (by omega))
      rw [← HE1.out, ← HE2.out] at HPU
      obtain ⟨s, hs⟩ : ∃ s, buildG u v (A.take (i + 1)) = s := ⟨_, rfl⟩
      have HSS := Lib.hid hs
      rw [hs] at g1 g2 g3 g4 hgok HPU
      obtain ⟨N, hN⟩ : ∃ N, s.1.length = N := ⟨_, rfl⟩
      obtain ⟨K, hK⟩ : ∃ K, s.2.length = K := ⟨_, rfl⟩
      obtain ⟨R, hR⟩ : ∃ R, rowT 0 s.1 = R := ⟨_, rfl⟩
      obtain ⟨n, hn⟩ : ∃ n, totS s.1 = n := ⟨_, rfl⟩
      have hRN : R.length = N := by rw [← hR, row_len, hN]
      have hst : sumT R = n := by rw [← hR, ← hn]; exact sum_row g1.can
      have hT : totG s = n + K := by unfold totG; rw [hn, hK]
      have hn0 : 0 ≤ n := by rw [← hn]; exact g1.can.le
      have hnb : n + K ≤ 150 := by have := HSUM.out (i + 1); omega
      have hgt : GoodT R := by
        obtain ⟨F, hF, _⟩ := hgok.told
        rw [← hR]
        exact hF.good (by rw [← tot_told hF, hn]; omega)
      have HLR : Hid (∀ p, p ∈ R → p.st + p.sl ≤ limG u v n) := Lib.hid (by rw [← hR, ← hn]; exact steps_row hgok.tight)
      have hlN : N + K ≤ 5000 := by have := g1.sl; omega
      obtain ⟨b1, b2, b3⟩ := HGA.out.ovB hn0 (by omega)
      obtain ⟨q, hq⟩ : ∃ q, 2 * u * n / v = q := ⟨_, rfl⟩
      have hq0 := quo_nn (u := u) (by have := HGA.out.u1; omega) HGA.out.v0 hn0
      have hqn := quo_le HGA.out.v0 HGA.out.uv hn0
      rw [hq] at b2 b3 hqn hq0
      obtain ⟨lm, hlm⟩ : ∃ m, limG u v n = m := ⟨_, rfl⟩
      rw [hlm] at b3 HLR
      have hu1 := HGA.out.u1
      have huv := HGA.out.uv
      have hv2 := HGA.out.v2
      have hv0 := HGA.out.v0
      have hmul : 0 ≤ 2 * u * n ∧ 2 * u * n < 340282366920938463463374607431768211456 := mul_bd (by unfold Word; omega) ⟨by omega, by omega⟩
      obtain ⟨rr, hrr⟩ : ∃ q, ovR (2 * u * n) v = q := ⟨_, rfl⟩
      obtain ⟨ph, hph⟩ : ∃ x, hiW (2 * u * n) = x := ⟨_, rfl⟩
      obtain ⟨pl', hpl'⟩ : ∃ x, loW (2 * u * n) = x := ⟨_, rfl⟩
      have CM := Lib.hid (fun W => rtimes_any (2 * u) n (by unfold Word; omega) ⟨by omega, by omega⟩ W)
      have CO := Lib.hid (fun W => rover_num (2 * u * n) v hmul.1 hmul.2 ⟨by omega, by omega⟩ W)
      rw [hph, hpl'] at CM CO
      rw [b1, b2, hrr] at CO
      have u2 : IntKind.u64.wrap (2 * u) = 2 * u := by rw [IntKind.wrap_u64]; omega
      have CT := Lib.hid (fun W Z k (hZ : Tups W Z R) => HTD.out.total W Z k R n true hZ (by omega) (Or.inl ⟨by omega, hst.symm, rfl⟩))
      have CG := Lib.hid (fun W Z k (hZ : Tups W Z R) => HTD.out.good W Z k R true hZ (by omega) ⟨fun _ => hgt, fun _ => rfl⟩)
      have CRW := Lib.hid (fun W S' (h : Gw W B S' u v s (endAD (A.take (i + 1)))) => HD.out.row W B S' u v s _ h)
      have CTT := Lib.hid (fun W S' (h : Gw W B S' u v s (endAD (A.take (i + 1)))) => HD.out.total W B S' u v s _ h)
      rw [hT] at CTT
      rw [hRN] at CT CG
      rw [hN, hK, hR] at CRW
      have HRN := Lib.hid hRN
      have HLK := Lib.hid (HD.out.lt _ _ _ _ _ _ _ hx)
      have z1 : ¬ (16 : Int) ≤ K := by omega
      have z2 : IntKind.u64.wrap (K : Int) = K := by rw [IntKind.wrap_u64]; omega
      obtain ⟨tt, htt⟩ : ∃ tt, n + (K : Int) = tt := ⟨_, rfl⟩
      have z3 : IntKind.u64.wrap (n + K) = tt := by rw [IntKind.wrap_u64]; omega
      have z4 : (!(tt == tt)) = false := by simp
      have z5 : (tt == tt) = true := by simp
      rw [htt] at CTT
      clear hxk hit hx hsk hbr hc0 hc1 f1 f2 f3 f4 g1 g2 g3 g4 hgok hs hR hn hRN hgt hst hT hlm hmul hrr hph hpl' b1 b2 hq hs0 hN hK htt
      go_wp2_with fail
      refine HPU.out.mono ?_
      rintro e w5 ⟨S5, rfl, hx5, hk5, hs5⟩
      have HX5 := Lib.hid hx5
      have HB5 : Hid (Below w.heap.size w w5) := Lib.hid (Keeps.below HB4.out hk5 HB4.out.size (fun k hk => by have := HSK.out k hk; omega))
      have HC5 := Lib.hid (And.intro (hk5.cell (fun h => by have := HSK.out _ h; omega) HC4.out.1) (hk5.cell (fun h => by have := HSK.out _ h; omega) HC4.out.2))
      have HZ4 : Hid (w.heap.size + 1 ≤ (wr.alloc (.cells #[.int .i64 px, .int .u64 c] 54)).heap.size) := Lib.hid (World.block_lt_of_cell? (a := ⟨w.heap.size, 0, none⟩) _ HC4.out.1)
      have HS5 : Hid (∀ k, S5 k → w.heap.size + 1 ≤ k) := Lib.hid fun k hk => by
        rcases hs5 k hk with h | h
        · exact HSK.out k h
        · exact Nat.le_trans HZ4.out h
      clear hx5 hk5 hs5 HPU
      go_wp2_with fail
      refine (CRW.out _ _ HX5.out).mono ?_
      rintro e w6 ⟨A1, k1, A2, k2, rfl, hT1, hN2, b6⟩
      have HT6 := Lib.hid hT1
      have HX6 := Lib.hid (HD.out.call HX5.out b6)
      have HB6 := Lib.hid (HB5.out.trans (b6.mono HB5.out.size))
      have HC6 := Lib.hid (And.intro (cell_later b6 HC5.out.1) (cell_later b6 HC5.out.2))
      clear hT1 hN2 b6 CRW
      go_wp2_with fail
      refine (CT.out _ A1 k1 HT6.out).mono ?_
      rintro e w7 ⟨rfl, b7⟩
      have HT7 := Lib.hid (HT6.out.call b7)
      have HX7 := Lib.hid (HD.out.call HX6.out b7)
      have HB7 := Lib.hid (HB6.out.trans (b7.mono HB6.out.size))
      have HC7 := Lib.hid (And.intro (cell_later b7 HC6.out.1) (cell_later b7 HC6.out.2))
      have HS0 : Hid (w7.drew.cell? ⟨w.heap.size, 0, none⟩ = some (.int .u64 u) ∧ w7.drew.cell? ⟨w.heap.size, 1, none⟩ = some (.int .u64 v) ∧ Below w7.heap.size w7 w7.drew) := Lib.hid ⟨cell_later ((Below.refl _ _).drew) HC7.out.1, cell_later ((Below.refl _ _).drew) HC7.out.2, (Below.refl _ _).drew⟩
      have HST := Lib.hid (fun (W W' : World) (h : W.cell? ⟨w.heap.size, 0, none⟩ = some (.int .u64 u) ∧ W.cell? ⟨w.heap.size, 1, none⟩ = some (.int .u64 v) ∧ Below w7.heap.size w7 W) (hb : Below W.heap.size W W') => (⟨cell_later hb h.1, cell_later hb h.2.1, h.2.2.trans (hb.mono h.2.2.size)⟩ : W'.cell? ⟨w.heap.size, 0, none⟩ = some (.int .u64 u) ∧ W'.cell? ⟨w.heap.size, 1, none⟩ = some (.int .u64 v) ∧ Below w7.heap.size w7 W'))
      clear b7 CT
      go_wp2_with fail
      go_region_held3 (fun w' => w'.cell? ⟨w.heap.size, 0, none⟩ = some (.int .u64 u) ∧ w'.cell? ⟨w.heap.size, 1, none⟩ = some (.int .u64 v) ∧ Below w7.heap.size w7 w')
        (first | exact HS0.out | exact HST.out _ _ (by assumption) hbA | exact HST.out _ _ (by assumption) hbB | assumption)
        ((first
          | (go_at_call 29; with_reducible refine (CM.out _).mono ?_; rintro e wA ⟨rfl, hbA⟩)
          | (go_at_call 28; with_reducible refine (CO.out _).mono ?_; rintro e wB ⟨rfl, hbB⟩)))
      rename_i hHeld
      have HT8 := Lib.hid (HT7.out.call hHeld.2.2)
      have HX8 := Lib.hid (HD.out.call HX7.out hHeld.2.2)
      have HB8 := Lib.hid (HB7.out.trans (hHeld.2.2.mono HB7.out.size))
      have HC8 := Lib.hid (And.intro hHeld.1 hHeld.2.1)
      clear hHeld HS0 HST CM CO
      go_wp2_with fail
      go_loopw [75] (fun jv w8 => ∃ (k : Nat), k ≤ N ∧ jv = .int .i64 k ∧ Tups w8 A1 R ∧ Gw w8 B S5 u v s (endAD (A.take (i + 1))) ∧ Below w.heap.size w w8 ∧ w8.cell? ⟨w.heap.size, 0, none⟩ = some (.int .u64 u) ∧ w8.cell? ⟨w.heap.size, 1, none⟩ = some (.int .u64 v)) (fun jv _ => N - (intOf jv).toNat)
      case atStart => exact ⟨0, Nat.zero_le _, rfl, HT8.out, HX8.out, HB8.out, HC8.out.1, HC8.out.2⟩
      case round =>
        obtain ⟨k, hk, rfl, ht9, hx9, hb9, hc0, hc1⟩ := hrel
        have HT9 := Lib.hid ht9
        have HX9 := Lib.hid hx9
        have HB9 := Lib.hid hb9
        have HC9 := Lib.hid (And.intro hc0 hc1)
        clear hx9 hc0 hc1
        by_cases hlk : k < N
        · have kl2 : (k : Int) < N := by omega
          have hlk' : k < R.length := by rw [HRN.out]; exact hlk
          have hyk : R[k]? = some R[k] := List.getElem?_eq_getElem hlk'
          generalize hjt : R[k] = r at *
          have hle := HLR.out r (List.mem_of_getElem? hyk)
          have hro := ht9.ok r (List.mem_of_getElem? hyk)
          obtain ⟨rx, rs, rl⟩ := r
          obtain ⟨bc, off', rfl, hbl', e0, e1, e2⟩ := ht9.at_ k _ hyk
          obtain ⟨⟨y1, y2⟩, ⟨y3, y4⟩, y5, y6⟩ := hro
          simp only at e0 e1 e2 y1 y2 y3 y4 y5 y6 hle
          have y7 : ¬ lm < rs + rl := by omega
          have y8 : IntKind.u64.wrap (rs + rl) = rs + rl := by rw [IntKind.wrap_u64]; omega
          have HAL9 : Hid (Below wr.heap.size wr (wr.alloc (.cells #[.int .i64 rx, .int .u64 rs, .int .u64 rl] 68))) := Lib.hid ((Below.refl _ _).alloc (Nat.le_refl _) _)
          have hz9 := hb9.size
          clear hyk hjt hlk' hb9 ht9
          go_wp2_with fail
          go_roundw
          case rel => exact ⟨k + 1, by omega, by go_num, HT9.out.call HAL9.out, HD.out.call HX9.out HAL9.out, HB9.out.trans (HAL9.out.mono hz9), cell_later HAL9.out HC9.out.1, cell_later HAL9.out HC9.out.2⟩
          case measure => simp [intOf]; omega
        · obtain rfl : k = N := by omega
          have kl2 : ¬ (k : Int) < k := by omega
          clear hb9 ht9
          go_wp2_with fail
          refine (CG.out _ A1 k1 HT9.out).mono ?_
          rintro e w10 ⟨rfl, b10⟩
          have HX10 := Lib.hid (HD.out.call HX9.out b10)
          have HB10 := Lib.hid (HB9.out.trans (b10.mono HB9.out.size))
          have HC10 := Lib.hid (And.intro (cell_later b10 HC9.out.1) (cell_later b10 HC9.out.2))
          clear b10 CG
          go_wp2_with fail
          refine (CTT.out _ _ HX10.out).mono ?_
          rintro e w11 ⟨rfl, b11⟩
          have HX11 := Lib.hid (HD.out.call HX10.out b11)
          have HB11 := Lib.hid (HB10.out.trans (b11.mono HB10.out.size))
          have HC11 := Lib.hid (And.intro (cell_later b11 HC10.out.1) (cell_later b11 HC10.out.2))
          clear b11 CTT b3 hqn hq0 u2 hu1 huv hv2 hv0 d0 d1 o1 o2 o3 o4 p1 p2 hbA hbB hk hlk kl2 hn0 hnb
          go_wp2_with fail
          go_roundw
          case rel => exact ⟨i + 1, S5, by omega, by go_num, by rw [HSS.out]; exact HX11.out, HS5.out, HB11.out, HC11.out.1, HC11.out.2⟩
          case measure => simp [intOf]; omega
    · obtain rfl : i = A.length := by omega
      rw [List.take_length] at HX
      have kl : ¬ (A.length : Int) < A.length := by omega
      obtain ⟨s, hs⟩ : ∃ s, buildG u v A = s := ⟨_, rfl⟩
      rw [hs] at HX
      obtain ⟨f1, f2, f3, f4⟩ := build_facts u v _ A rfl HA.out.ok (by have := HFE.out.sum; omega)
      rw [hs] at f1
      obtain ⟨k1, k2, k3, k4⟩ := flush_ok (u := u) (v := v) f1
      obtain ⟨s1, hs1⟩ : ∃ s1, flushG u v s = s1 := ⟨_, rfl⟩
      have HFL := Lib.hid (HD.out.flush wr B Sk u v s _ HX.out)
      rw [hs1] at k4 HFL
      have hk0 : s1.2.length = 0 := by rw [k4]; rfl
      have CRW := Lib.hid (fun W S' (h : Gw W B S' u v s1 (endAD A)) => HD.out.row W B S' u v s1 _ h)
      rw [hk0] at CRW
      clear hx hsk hbr hc0 hc1 hs f1 f2 f3 f4 k1 k2 k3 k4 hs1 hk0
      go_wp2_with fail
      refine HFL.out.mono ?_
      rintro e w5 ⟨S5, rfl, hx5, hk5, hs5⟩
      have HX5 := Lib.hid hx5
      have HB5 : Hid (Below w.heap.size w w5) := Lib.hid (Keeps.below HBR.out hk5 HBR.out.size (fun k hk => by have := HSK.out k hk; omega))
      clear hx5 hk5 hs5 HFL
      go_wp2_with fail
      refine (CRW.out _ _ HX5.out).mono ?_
      rintro e w6 ⟨A1, k1, A2, k2, rfl, hT1, hN2, b6⟩
      have HB6 := Lib.hid (HB5.out.trans (b6.mono HB5.out.size))
      clear hT1 hN2 b6
      go_wp2_with fail
      go_ret
      exact ⟨rfl, HB6.out⟩
end Go.Proofs.Ytfmlkohijkalbaa
