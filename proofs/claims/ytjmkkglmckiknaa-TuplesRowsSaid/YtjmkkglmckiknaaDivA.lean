/-
  Walks: bits.Div64.
-/
import Derived.Test.YtjmkkglmckiknaaWideA
import Derived.Test.YtjmkkglmckiknaaDivMath
import Derived.Deep.DeepCutAuto
import Derived.Deep.CutBlock
import Derived.WalkSmall
namespace Go.Proofs.Ytjmkkglmckiknaa
set_option linter.unusedVariables false
open Go.RowKit Go.Shelf

theorem lz_any (y : Int) (s : Nat) (h0 : 0 ≤ y) (h1 : y ≤ 18446744073709551615) (hs : 64 - (Lib.bitLen y.toNat : Int) = s) (w : World) :
    Calls Try.prog 55 #[.int .u64 y] w fun e w' => e = .returned (.int .i64 s) ∧ w = w' := by
  rw [← hs]; exact (Try.bits_LeadingZeros64 y w h0 h1).mono fun e w' h => ⟨h.1, h.2.symm⟩

set_option maxHeartbeats 400000 in
theorem div64_zero (lo y : Int) (wl : Word lo) (wy : Word y) (hy : 0 < y) (w : World) :
    Calls Try.prog 52 #[.int .u64 0, .int .u64 lo, .int .u64 y] w fun e w' =>
      e = .returned (.tuple #[.int .u64 (lo / y), .int .u64 (lo % y)]) ∧ Below w.heap.size w w' := by
  obtain ⟨l1, l2⟩ := wl
  obtain ⟨y1, y2⟩ := wy
  have hy0 : (y == 0) = false := by simp; omega
  have hy0' : ¬ y = 0 := by omega
  go_enter Try.func52, Try.ntmps52
  go_wp2_with fail
  go_quiet (fail)
  go_wp2
  refine bodyPost_ret (v := .tuple #[.int .u64 (lo / y), .int .u64 (lo % y)]) (by simp [results, Try.results52, go_sem]) rfl ⟨rfl, ?_⟩
  exact below_drewN (Below.refl _ _) _

set_option maxHeartbeats 400000 in
theorem div64_more (hi lo y : Int) (wh : Word hi) (wl : Word lo) (wy : Word y) (hh : 0 < hi) (hy : hi < y) (w : World) :
    Calls Try.prog 52 #[.int .u64 hi, .int .u64 lo, .int .u64 y] w fun e w' =>
      e = .returned (.tuple #[.int .u64 (wval hi lo / y), .int .u64 (wval hi lo % y)]) ∧ Below w.heap.size w w' := by
  obtain ⟨l1, l2⟩ := wl
  obtain ⟨y1, y2⟩ := wy
  obtain ⟨h1, h2⟩ := wh
  have hy0 : (y == 0) = false := by simp; omega
  have hh0 : (hi == 0) = false := by simp; omega
  obtain ⟨s, hs, hz, n1, n2⟩ := div_norm (show 0 < y by omega) y2
  obtain ⟨R1, R4, R5, u0, uv, HN⟩ := norm_parts (lo := lo) hs h1 hy l1 l2 n2
  have RES := Lib.hid (moved_back (n := wval hi lo) (y := y) hs)
  rw [← HN] at RES
  have HZ := Lib.hid hz
  clear hz HN
  have ll0 : 0 ≤ IntKind.u64.wrap (lo * 2 ^ s) ∧ IntKind.u64.wrap (lo * 2 ^ s) < 18446744073709551616 := by rw [IntKind.wrap_u64]; omega
  generalize hl : IntKind.u64.wrap (lo * 2 ^ s) = l at *
  generalize hu : hi * 2 ^ s + lo / 2 ^ (64 - s) = u at *
  generalize hv : y * 2 ^ s = v at *
  generalize hh' : hi * 2 ^ s = h' at *
  have hu' : bits .or .u64 h' (lo / 2 ^ (64 - s)) = u := by rw [R5]
  go_enter Try.func52, Try.ntmps52
  go_wp2_with fail
  refine (lz_any y s y1 (by omega) HZ.out _).mono ?_
  rintro e w' ⟨rfl, rfl⟩
  clear hu R5 HZ hh
  obtain ⟨ll1, ll2⟩ := ll0
  have M1 := mask32 (a := v) (by omega) n2
  have M2 := mask32 ll1 ll2
  have S1 := Lib.hid (Int.ediv_mul_add_emod v 4294967296)
  have S2 := Lib.hid (Int.ediv_mul_add_emod l 4294967296)
  have b1 : v / 4294967296 < 4294967296 := by omega
  have b2 : 2147483648 ≤ v / 4294967296 := by omega
  have b3 : 0 ≤ v % 4294967296 := by omega
  have b4 : v % 4294967296 < 4294967296 := by omega
  have c1 : l / 4294967296 < 4294967296 := by omega
  have c2 : 0 ≤ l / 4294967296 := by omega
  have c3 : 0 ≤ l % 4294967296 := by omega
  have c4 : l % 4294967296 < 4294967296 := by omega
  generalize v % 4294967296 = v0 at *
  generalize l % 4294967296 = d0 at *
  generalize hv1 : v / 4294967296 = v1 at *
  generalize hd1 : l / 4294967296 = d1 at *
  have o1 : DigOver u v v1 v0 d1 := ⟨u0, uv, S1.out.symm, b2, b1, b3, b4, c2, c1⟩
  have st_o1 := DigOver.start o1
  obtain ⟨k0, k1, k2, k3, k4⟩ := DigOver.guess o1
  go_upto_block 0 with fail
  go_cut [15, 16] (fun q r wx => ∃ z : Int, q = .int .u64 ((u * 4294967296 + d1) / v) ∧ r = .int .u64 z ∧ w = wx)
  case first =>
    go_wp2_with fail
    go_loop [15, 16] (fun q r => ∃ a b : Int, DigRel u v v1 v0 d1 a b ∧ q = .int .u64 a ∧ r = .int .u64 b) (fun q _ => (intOf q).toNat)
    case atStart => exact ⟨_, _, st_o1, rfl, rfl⟩
    case round =>
      obtain ⟨a, b, hr, rfl, rfl⟩ := hrel
      have a0 := hr.low; have a1 := hr.high; have bb0 := hr.b0; have bb1 := hr.b1
      obtain ⟨p0, p1⟩ := DigOver.prod o1 hr
      obtain ⟨z0, z1⟩ := DigOver.pos o1
      clear k0 k1 k2 k3 k4 st_o1
      generalize hQ : (u * 4294967296 + d1) / v = Q at a0 z0 z1
      have HQ := Lib.hid hQ
      clear hQ
      by_cases g1 : 4294967296 ≤ a
      · have a2 := DigOver.one o1 hr (.inl g1)
        by_cases g3 : 4294967296 ≤ b + v1
        · have HE := Lib.hid (DigOver.brk o1 hr (.inl g1) g3)
          go_wp2_with fail
          go_meet
          exact ⟨_, by rw [HE.out], rfl, rfl⟩
        · have HN := DigOver.next o1 hr (.inl g1) g3
          go_wp2_with fail
          go_round
          case rel => exact ⟨_, _, HN, rfl, rfl⟩
          case measure => simp [intOf]; omega
      · by_cases g2 : 4294967296 * b + d1 < a * v0
        · have a2 := DigOver.one o1 hr (.inr g2)
          by_cases g3 : 4294967296 ≤ b + v1
          · have HE := Lib.hid (DigOver.brk o1 hr (.inr g2) g3)
            go_wp2_with fail
            go_meet
            exact ⟨_, by rw [HE.out], rfl, rfl⟩
          · have HN := DigOver.next o1 hr (.inr g2) g3
            go_wp2_with fail
            go_round
            case rel => exact ⟨_, _, HN, rfl, rfl⟩
            case measure => simp [intOf]; omega
        · have HE := Lib.hid (DigOver.done o1 hr g2)
          go_wp2_with fail
          go_meet
          exact ⟨_, by rw [HE.out], rfl, rfl⟩
  case rest =>
    obtain ⟨z, rfl, rfl, rfl⟩ := hcut
    clear st_o1 k0 k1 k2 k3 k4
    have WR := DigOver.wraps o1 n2
    obtain ⟨e0, e1⟩ := DigOver.left o1
    obtain ⟨z0, z1⟩ := DigOver.pos o1
    have T := Lib.hid (two_digits (u := u) (d1 := d1) (d0 := d0) (v := v) (by omega))
    generalize (u * 4294967296 + d1) % v = u2 at *
    generalize (u * 4294967296 + d1) / v = Q1 at *
    have o2 : DigOver u2 v v1 v0 d0 := ⟨e0, e1, S1.out.symm, b2, b1, b3, b4, c3, c4⟩
    have st_o2 := DigOver.start o2
    obtain ⟨k0, k1, k2, k3, k4⟩ := DigOver.guess o2
    go_upto_block 2 with fail
    go_cut [18, 16] (fun q r wx => ∃ z : Int, q = .int .u64 ((u2 * 4294967296 + d0) / v) ∧ r = .int .u64 z ∧ w = wx)
    case first =>
      go_wp2_with fail
      go_loop [18, 16] (fun q r => ∃ a b : Int, DigRel u2 v v1 v0 d0 a b ∧ q = .int .u64 a ∧ r = .int .u64 b) (fun q _ => (intOf q).toNat)
      case atStart => exact ⟨_, _, st_o2, rfl, rfl⟩
      case round =>
        obtain ⟨a, b, hr, rfl, rfl⟩ := hrel
        have a0 := hr.low; have a1 := hr.high; have bb0 := hr.b0; have bb1 := hr.b1
        obtain ⟨p0, p1⟩ := DigOver.prod o2 hr
        obtain ⟨z0, z1⟩ := DigOver.pos o2
        clear k0 k1 k2 k3 k4 st_o2
        generalize hQ : (u2 * 4294967296 + d0) / v = Q at a0 z0 z1
        have HQ := Lib.hid hQ
        clear hQ
        by_cases g1 : 4294967296 ≤ a
        · have a2 := DigOver.one o2 hr (.inl g1)
          by_cases g3 : 4294967296 ≤ b + v1
          · have HE := Lib.hid (DigOver.brk o2 hr (.inl g1) g3)
            go_wp2_with fail
            go_meet
            exact ⟨_, by rw [HE.out], rfl, rfl⟩
          · have HN := DigOver.next o2 hr (.inl g1) g3
            go_wp2_with fail
            go_round
            case rel => exact ⟨_, _, HN, rfl, rfl⟩
            case measure => simp [intOf]; omega
        · by_cases g2 : 4294967296 * b + d0 < a * v0
          · have a2 := DigOver.one o2 hr (.inr g2)
            by_cases g3 : 4294967296 ≤ b + v1
            · have HE := Lib.hid (DigOver.brk o2 hr (.inr g2) g3)
              go_wp2_with fail
              go_meet
              exact ⟨_, by rw [HE.out], rfl, rfl⟩
            · have HN := DigOver.next o2 hr (.inr g2) g3
              go_wp2_with fail
              go_round
              case rel => exact ⟨_, _, HN, rfl, rfl⟩
              case measure => simp [intOf]; omega
          · have HE := Lib.hid (DigOver.done o2 hr g2)
            go_wp2_with fail
            go_meet
            exact ⟨_, by rw [HE.out], rfl, rfl⟩
    case rest =>
      obtain ⟨z, rfl, rfl, rfl⟩ := hcut
      clear st_o2 k0 k1 k2 k3 k4
      have WR2 := DigOver.wraps o2 n2
      obtain ⟨f0, f1⟩ := DigOver.left o2
      obtain ⟨y0, y1⟩ := DigOver.pos o2
      generalize (u2 * 4294967296 + d0) % v = r2 at *
      generalize (u2 * 4294967296 + d0) / v = Q2 at *
      go_wp2_with fail
      have e : u * 18446744073709551616 + d1 * 4294967296 + d0 = u * 18446744073709551616 + l := by have := S2.out; omega
      obtain ⟨t1, t2⟩ := T.out
      obtain ⟨r1, r3⟩ := RES.out
      rw [e] at t1 t2
      rw [← t1] at r1
      rw [← t2] at r3
      refine bodyPost_ret (v := .tuple #[.int .u64 (Q1 * 4294967296 + Q2), .int .u64 (r2 / 2 ^ s)]) (by simp [results, Try.results52, go_sem]) rfl ⟨by rw [r1, r3], ?_⟩
      exact Below.refl _ _

/-- math/bits.Div64, wherever it doesn't panic. -/
theorem div64_any (hi lo y : Int) (wh : Word hi) (wl : Word lo) (wy : Word y) (hy : hi < y) (w : World) :
    Calls Try.prog 52 #[.int .u64 hi, .int .u64 lo, .int .u64 y] w fun e w' =>
      e = .returned (.tuple #[.int .u64 (wval hi lo / y), .int .u64 (wval hi lo % y)]) ∧ Below w.heap.size w w' := by
  by_cases h : hi = 0
  · subst h
    have e : wval 0 lo = lo := by unfold wval; omega
    rw [e]
    exact div64_zero lo y wl wy hy w
  · exact div64_more hi lo y wh wl wy (by have := wh.1; omega) hy w
end Go.Proofs.Ytjmkkglmckiknaa
