/-
  Texts joined, in build order: ROver, WideE, Less, Small, SpanB, LowC, HighC, Ref9, LowB, CellM, BinM, BinS, BinT.
-/
import Derived.Test.YtojincgbnjkegaaDoorK1
import Derived.Deep.RegionWith
import Derived.Lib.SmallJoins
import Derived.Test.YtojincgbnjkegaaDoorRows
import Derived.Deep.QuietTactic
import Derived.BigQuiet
import Derived.Deep.LoopGhost
/-
  Walks: the reference's Double, Bit, Over, Ceil.
-/
namespace Go.Proofs.YtojincgbnjkegaaDoor
set_option linter.unusedVariables false
open Go.RowKit Go.Shelf

set_option maxHeartbeats 400000 in
theorem double_any (h l : Int) (wh : Word h) (wl : Word l) (w : World) :
    Calls Tryd.prog 93 #[.agg #[.int .u64 h, .int .u64 l]] w fun e w' =>
      e = .returned (.tuple #[.agg #[.int .u64 (hiW (wval h l + wval h l)), .int .u64 (loW (wval h l + wval h l))], .bool (carryB (wval h l + wval h l))]) ∧ Below w.heap.size w w' := by
  go_enter Tryd.func93, Tryd.ntmps93
  go_wp2_with fail
  refine (rwadd_any h l h l wh wl wh wl _).mono ?_
  rintro e wA ⟨rfl, hbA⟩
  have d1 := (bcell hbA).1 (w.heap.size + 1) 0 (by simp)
  have d2 := (bcell hbA).1 (w.heap.size + 1) 1 (by simp)
  have f1 := (bcell hbA).2 (w.heap.size + 1) 0 (by simp)
  have f2 := (bcell hbA).2 (w.heap.size + 1) 1 (by simp)
  have hz : w.heap.size + 1 + 1 ≤ wA.heap.size := by have := hbA.size; simp at this; omega
  go_wp2_with fail
  refine bodyPost_ret (v := .tuple #[.agg #[.int .u64 (hiW (wval h l + wval h l)), .int .u64 (loW (wval h l + wval h l))], .bool (carryB (wval h l + wval h l))]) (by simp [results, Tryd.results93, go_sem, d1, d2]) rfl ⟨rfl, ?_⟩
  have k := ((((Below.refl w.heap.size w).alloc (Nat.le_refl _) (.cells #[.int .u64 h, .int .u64 l] 101)).alloc (by simp) (.cells #[.int .u64 0, .int .u64 0] 101)).trans (hbA.mono (by simp; omega)))
  exact (k.setCell (p := ⟨w.heap.size + 1, 0, none⟩) (Nat.le_succ _) _).setCell (p := ⟨w.heap.size + 1, 1, none⟩) (Nat.le_succ _) _

/-- The same, of a number that two words tell. -/
theorem double_num (n : Int) (h0 : 0 ≤ n) (h1 : n < 340282366920938463463374607431768211456) (w : World) :
    Calls Tryd.prog 93 #[.agg #[.int .u64 (hiW n), .int .u64 (loW n)]] w fun e w' =>
      e = .returned (.tuple #[.agg #[.int .u64 (hiW (n + n)), .int .u64 (loW (n + n))], .bool (carryB (n + n))]) ∧ Below w.heap.size w w' := by
  have h := double_any (hiW n) (loW n) (word_hi n) (word_lo n) w
  rw [wval_split h0 h1] at h
  exact h
theorem less_num (n y : Int) (h0 : 0 ≤ n) (h1 : n < 340282366920938463463374607431768211456) (wy : Word y) (w : World) :
    Calls Tryd.prog 47 #[.agg #[.int .u64 (hiW n), .int .u64 (loW n)], .agg #[.int .u64 0, .int .u64 y]] w fun e w' =>
      e = .returned (.bool (decide (n < y))) ∧ Below w.heap.size w w' := by
  have h := less_any (hiW n) (loW n) 0 y (word_hi n) (word_lo n) (by unfold Word; omega) wy w
  have e : belowB (wval (hiW n) (loW n) - wval 0 y) = decide (n < y) := by
    rw [wval_split h0 h1]; unfold belowB wval; apply decide_eq_decide.2; omega
  rw [e] at h
  exact h
theorem rsub_num (n y : Int) (h0 : 0 ≤ n) (h1 : n < 340282366920938463463374607431768211456) (wy : Word y) (w : World) :
    Calls Tryd.prog 95 #[.agg #[.int .u64 (hiW n), .int .u64 (loW n)], .agg #[.int .u64 0, .int .u64 y]] w fun e w' =>
      e = .returned (.tuple #[.agg #[.int .u64 (hiW (n - y)), .int .u64 (loW (n - y))], .bool (belowB (n - y))]) ∧ Below w.heap.size w w' := by
  have h := rsub_any (hiW n) (loW n) 0 y (word_hi n) (word_lo n) (by unfold Word; omega) wy w
  have e : wval (hiW n) (loW n) - wval 0 y = n - y := by
    rw [wval_split h0 h1]; unfold wval; omega
  rw [e] at h
  exact h
/-- A step of the long division, bit by bit. -/
theorem ov_step {M y : Int} (hy : 0 < y) :
    (M / 2 % y + M / 2 % y + M % 2 < y → M % y = M / 2 % y + M / 2 % y + M % 2 ∧ M / y = M / 2 / y + M / 2 / y) ∧
    (¬ M / 2 % y + M / 2 % y + M % 2 < y → M % y = M / 2 % y + M / 2 % y + M % 2 - y ∧ M / y = M / 2 / y + M / 2 / y + 1) := by
  have h1 := Int.ediv_mul_add_emod (M / 2) y
  have h2 := Int.emod_nonneg (M / 2) (show y ≠ 0 by omega)
  have h3 := Int.emod_lt_of_pos (M / 2) hy
  generalize M / 2 % y = R at *
  generalize M / 2 / y = Q at *
  constructor
  · intro h
    have := (Int.ediv_emod_unique (a := M) (r := R + R + M % 2) (q := Q + Q) hy).2 ⟨by
      rw [Int.mul_add, Int.mul_comm y Q]; generalize Q * y = a at *; omega, by omega, h⟩
    exact ⟨this.2, this.1⟩
  · intro h
    have := (Int.ediv_emod_unique (a := M) (r := R + R + M % 2 - y) (q := Q + Q + 1) hy).2 ⟨by
      rw [Int.mul_add, Int.mul_add, Int.mul_comm y Q]; generalize Q * y = a at *; omega, by omega, by omega⟩
    exact ⟨this.2, this.1⟩
theorem ov_big {n y : Int} (h0 : 0 ≤ n) (h1 : n < 340282366920938463463374607431768211456) (hy : 0 < y) (h : 0 < hiW (n / y)) : ovQ n y = 0 ∧ ovR n y = 0 ∧ ovB n y = false := by
  have a := Int.ediv_nonneg h0 (show 0 ≤ y by omega)
  have b := Int.ediv_le_self y h0
  have e : ovB n y = false := by
    unfold ovB; apply decide_eq_false; unfold hiW at h; omega
  refine ⟨?_, ?_, e⟩
  · unfold ovQ; rw [e]; rfl
  · unfold ovR; rw [e]; rfl
theorem ov_small {n y : Int} (h0 : 0 ≤ n) (h1 : n < 340282366920938463463374607431768211456) (hy : 0 < y) (hy1 : y < 18446744073709551616) (h : ¬ 0 < hiW (n / y)) : ovQ n y = loW (n / y) ∧ ovR n y = loW (n % y) ∧ ovB n y = true := by
  have a := Int.ediv_nonneg h0 (show 0 ≤ y by omega)
  have b := Int.ediv_le_self y h0
  have c := Int.emod_nonneg n (show y ≠ 0 by omega)
  have d := Int.emod_lt_of_pos n hy
  have e : ovB n y = true := by
    unfold ovB; apply decide_eq_true; unfold hiW at h; omega
  refine ⟨?_, ?_, e⟩
  · unfold ovQ; rw [if_pos e]; unfold hiW at h; unfold loW; omega
  · unfold ovR; rw [if_pos e]; unfold loW; omega
theorem hi_bit {n b : Int} (hb : 0 ≤ b) (hb' : b ≤ 1) : hiW (n + n) = hiW (n + n + b) := by unfold hiW; omega
theorem lo_bit {n b : Int} (hb : 0 ≤ b) (hb' : b ≤ 1) : loW (n + n) + b = loW (n + n + b) := by unfold loW; omega
theorem lo_even (n : Int) : loW (n + n) ≤ 18446744073709551614 := by unfold loW; omega

theorem bit_lo {h l : Int} {k : Nat} (hk : k < 64) (wh : Word h) : l / 2 ^ k % 2 = wval h l / 2 ^ k % 2 := by
  unfold wval
  have e : (18446744073709551616 : Int) = 2 * 2 ^ (63 - k) * 2 ^ k := by
    rw [Int.mul_assoc, ← Int.pow_add, show 63 - k + k = 63 by omega]; rfl
  have hp : (0 : Int) < 2 ^ k := Int.pow_pos (by omega)
  rw [e, ← Int.mul_assoc, Int.add_comm, Int.add_mul_ediv_right _ _ (by omega), ← Int.mul_assoc, Int.mul_comm h 2, Int.mul_assoc]
  omega
theorem bit_hi {h l : Int} {k : Nat} (hk : ¬ k < 64) (wl : Word l) : h / 2 ^ (k - 64) % 2 = wval h l / 2 ^ k % 2 := by
  have e : (2 : Int) ^ k = 18446744073709551616 * 2 ^ (k - 64) := by
    have : (2 : Int) ^ (64 + (k - 64)) = 2 ^ 64 * 2 ^ (k - 64) := Int.pow_add ..
    rw [show 64 + (k - 64) = k by omega, show (2 : Int) ^ 64 = 18446744073709551616 by rfl] at this
    exact this
  have e2 : wval h l / 18446744073709551616 = h := by unfold wval; unfold Word at wl; omega
  rw [e, ← Int.ediv_ediv_of_nonneg (by omega), e2]

set_option maxHeartbeats 400000 in
theorem bit_any (h l : Int) (k : Nat) (wh : Word h) (wl : Word l) (hk : k < 128) (w : World) :
    Calls Tryd.prog 94 #[.agg #[.int .u64 h, .int .u64 l], .int .i64 (k : Int)] w fun e w' =>
      e = .returned (.int .u64 (wval h l / 2 ^ k % 2)) ∧ Below w.heap.size w w' := by
  by_cases h64 : k < 64
  · have E := Lib.hid (bit_lo (l := l) h64 wh)
    obtain ⟨l0, l1⟩ := wl
    have hp : (0 : Int) < 2 ^ k := Int.pow_pos (by omega)
    have g0 : 0 ≤ l / 2 ^ k := Int.ediv_nonneg l0 (by omega)
    go_enter Tryd.func94, Tryd.ntmps94
    go_wp2_with fail
    refine bodyPost_ret (v := .int .u64 (l / 2 ^ k % 2)) (by simp [results, Tryd.results94, go_sem]) rfl ⟨by rw [E.out], ?_⟩
    exact (Below.refl _ _).alloc (Nat.le_refl _) _
  · have E := Lib.hid (bit_hi (h := h) h64 wl)
    obtain ⟨h0, h1⟩ := wh
    have hp : (0 : Int) < 2 ^ (k - 64) := Int.pow_pos (by omega)
    have g0 : 0 ≤ h / 2 ^ (k - 64) := Int.ediv_nonneg h0 (by omega)
    go_enter Tryd.func94, Tryd.ntmps94
    go_wp2_with fail
    refine bodyPost_ret (v := .int .u64 (h / 2 ^ (k - 64) % 2)) (by simp [results, Tryd.results94, go_sem]) rfl ⟨by rw [E.out], ?_⟩
    exact (Below.refl _ _).alloc (Nat.le_refl _) _

/-- The memory of the reference's Over: the number, the divisor, what rests, the quotient. -/
structure OvW (B : Nat) (W w : World) (h l y rh rl qh ql : Int) : Prop where
  a0 : w.cell? ⟨B, 0, none⟩ = some (.int .u64 h)
  a1 : w.cell? ⟨B, 1, none⟩ = some (.int .u64 l)
  d0 : w.cell? ⟨B + 1, 0, none⟩ = some (.int .u64 0)
  d1 : w.cell? ⟨B + 1, 1, none⟩ = some (.int .u64 y)
  r0 : w.cell? ⟨B + 1 + 1, 0, none⟩ = some (.int .u64 rh)
  r1 : w.cell? ⟨B + 1 + 1, 1, none⟩ = some (.int .u64 rl)
  q0 : w.cell? ⟨B + 1 + 1 + 1, 0, none⟩ = some (.int .u64 qh)
  q1 : w.cell? ⟨B + 1 + 1 + 1, 1, none⟩ = some (.int .u64 ql)
  fr0 : w.frozen? ⟨B + 1 + 1, 0, none⟩ = false
  fr1 : w.frozen? ⟨B + 1 + 1, 1, none⟩ = false
  fq0 : w.frozen? ⟨B + 1 + 1 + 1, 0, none⟩ = false
  fq1 : w.frozen? ⟨B + 1 + 1 + 1, 1, none⟩ = false
  sz : B + 1 + 1 + 1 < w.heap.size
  bel : Below B W w
theorem OvW.call {B : Nat} {W w w' : World} {h l y rh rl qh ql : Int} (s : OvW B W w h l y rh rl qh ql) (hb : Below w.heap.size w w') : OvW B W w' h l y rh rl qh ql := by
  have hz := s.sz
  have hs := hb.size
  exact ⟨cell_later hb s.a0, cell_later hb s.a1, cell_later hb s.d0, cell_later hb s.d1, cell_later hb s.r0, cell_later hb s.r1, cell_later hb s.q0, cell_later hb s.q1,
    ((bcell hb).2 _ _ (by omega)).trans s.fr0, ((bcell hb).2 _ _ (by omega)).trans s.fr1, ((bcell hb).2 _ _ (by omega)).trans s.fq0, ((bcell hb).2 _ _ (by omega)).trans s.fq1, by omega, s.bel.trans (hb.mono (by omega))⟩
theorem addr_far {b o b' o' : Nat} (h : b ≠ b') : (⟨b, o, none⟩ : Addr) ≠ ⟨b', o', none⟩ := fun e => h (Addr.mk.inj e).1
theorem addr_off {b o o' : Nat} (h : o ≠ o') : (⟨b, o, none⟩ : Addr) ≠ ⟨b, o', none⟩ := fun e => h (Addr.mk.inj e).2.1
theorem OvW.restLo {B : Nat} {W w : World} {h l y rh rl qh ql : Int} (s : OvW B W w h l y rh rl qh ql) (x : Int) : OvW B W (w.setCell ⟨B + 1 + 1, 1, none⟩ (.int .u64 x)) h l y rh x qh ql := by
  have hz := s.sz
  refine ⟨?_, ?_, ?_, ?_, ?_, ?_, ?_, ?_, ?_, ?_, ?_, ?_, ?_, ?_⟩
  · rw [World.cell?_setCell_other _ _ _ _ (addr_far (by omega))]; exact s.a0
  · rw [World.cell?_setCell_other _ _ _ _ (addr_far (by omega))]; exact s.a1
  · rw [World.cell?_setCell_other _ _ _ _ (addr_far (by omega))]; exact s.d0
  · rw [World.cell?_setCell_other _ _ _ _ (addr_far (by omega))]; exact s.d1
  · rw [World.cell?_setCell_other _ _ _ _ (addr_off (by omega))]; exact s.r0
  · exact World.cell?_setCell_same _ _ _ s.r1
  · rw [World.cell?_setCell_other _ _ _ _ (addr_far (by omega))]; exact s.q0
  · rw [World.cell?_setCell_other _ _ _ _ (addr_far (by omega))]; exact s.q1
  · rw [World.frozen?_setCell]; exact s.fr0
  · rw [World.frozen?_setCell]; exact s.fr1
  · rw [World.frozen?_setCell]; exact s.fq0
  · rw [World.frozen?_setCell]; exact s.fq1
  · simp [World.setCell]; omega
  · exact s.bel.setCell (p := ⟨B + 1 + 1, 1, none⟩) (by show B ≤ B + 1 + 1; omega) _
theorem OvW.restHi {B : Nat} {W w : World} {h l y rh rl qh ql : Int} (s : OvW B W w h l y rh rl qh ql) (x : Int) : OvW B W (w.setCell ⟨B + 1 + 1, 0, none⟩ (.int .u64 x)) h l y x rl qh ql := by
  have hz := s.sz
  refine ⟨?_, ?_, ?_, ?_, ?_, ?_, ?_, ?_, ?_, ?_, ?_, ?_, ?_, ?_⟩
  · rw [World.cell?_setCell_other _ _ _ _ (addr_far (by omega))]; exact s.a0
  · rw [World.cell?_setCell_other _ _ _ _ (addr_far (by omega))]; exact s.a1
  · rw [World.cell?_setCell_other _ _ _ _ (addr_far (by omega))]; exact s.d0
  · rw [World.cell?_setCell_other _ _ _ _ (addr_far (by omega))]; exact s.d1
  · exact World.cell?_setCell_same _ _ _ s.r0
  · rw [World.cell?_setCell_other _ _ _ _ (addr_off (by omega))]; exact s.r1
  · rw [World.cell?_setCell_other _ _ _ _ (addr_far (by omega))]; exact s.q0
  · rw [World.cell?_setCell_other _ _ _ _ (addr_far (by omega))]; exact s.q1
  · rw [World.frozen?_setCell]; exact s.fr0
  · rw [World.frozen?_setCell]; exact s.fr1
  · rw [World.frozen?_setCell]; exact s.fq0
  · rw [World.frozen?_setCell]; exact s.fq1
  · simp [World.setCell]; omega
  · exact s.bel.setCell (p := ⟨B + 1 + 1, 0, none⟩) (by show B ≤ B + 1 + 1; omega) _
theorem OvW.quoLo {B : Nat} {W w : World} {h l y rh rl qh ql : Int} (s : OvW B W w h l y rh rl qh ql) (x : Int) : OvW B W (w.setCell ⟨B + 1 + 1 + 1, 1, none⟩ (.int .u64 x)) h l y rh rl qh x := by
  have hz := s.sz
  refine ⟨?_, ?_, ?_, ?_, ?_, ?_, ?_, ?_, ?_, ?_, ?_, ?_, ?_, ?_⟩
  · rw [World.cell?_setCell_other _ _ _ _ (addr_far (by omega))]; exact s.a0
  · rw [World.cell?_setCell_other _ _ _ _ (addr_far (by omega))]; exact s.a1
  · rw [World.cell?_setCell_other _ _ _ _ (addr_far (by omega))]; exact s.d0
  · rw [World.cell?_setCell_other _ _ _ _ (addr_far (by omega))]; exact s.d1
  · rw [World.cell?_setCell_other _ _ _ _ (addr_far (by omega))]; exact s.r0
  · rw [World.cell?_setCell_other _ _ _ _ (addr_far (by omega))]; exact s.r1
  · rw [World.cell?_setCell_other _ _ _ _ (addr_off (by omega))]; exact s.q0
  · exact World.cell?_setCell_same _ _ _ s.q1
  · rw [World.frozen?_setCell]; exact s.fr0
  · rw [World.frozen?_setCell]; exact s.fr1
  · rw [World.frozen?_setCell]; exact s.fq0
  · rw [World.frozen?_setCell]; exact s.fq1
  · simp [World.setCell]; omega
  · exact s.bel.setCell (p := ⟨B + 1 + 1 + 1, 1, none⟩) (by show B ≤ B + 1 + 1 + 1; omega) _
theorem OvW.quoHi {B : Nat} {W w : World} {h l y rh rl qh ql : Int} (s : OvW B W w h l y rh rl qh ql) (x : Int) : OvW B W (w.setCell ⟨B + 1 + 1 + 1, 0, none⟩ (.int .u64 x)) h l y rh rl x ql := by
  have hz := s.sz
  refine ⟨?_, ?_, ?_, ?_, ?_, ?_, ?_, ?_, ?_, ?_, ?_, ?_, ?_, ?_⟩
  · rw [World.cell?_setCell_other _ _ _ _ (addr_far (by omega))]; exact s.a0
  · rw [World.cell?_setCell_other _ _ _ _ (addr_far (by omega))]; exact s.a1
  · rw [World.cell?_setCell_other _ _ _ _ (addr_far (by omega))]; exact s.d0
  · rw [World.cell?_setCell_other _ _ _ _ (addr_far (by omega))]; exact s.d1
  · rw [World.cell?_setCell_other _ _ _ _ (addr_far (by omega))]; exact s.r0
  · rw [World.cell?_setCell_other _ _ _ _ (addr_far (by omega))]; exact s.r1
  · exact World.cell?_setCell_same _ _ _ s.q0
  · rw [World.cell?_setCell_other _ _ _ _ (addr_off (by omega))]; exact s.q1
  · rw [World.frozen?_setCell]; exact s.fr0
  · rw [World.frozen?_setCell]; exact s.fr1
  · rw [World.frozen?_setCell]; exact s.fq0
  · rw [World.frozen?_setCell]; exact s.fq1
  · simp [World.setCell]; omega
  · exact s.bel.setCell (p := ⟨B + 1 + 1 + 1, 0, none⟩) (by show B ≤ B + 1 + 1 + 1; omega) _
theorem OvW.drew {B : Nat} {W w : World} {h l y rh rl qh ql : Int} (s : OvW B W w h l y rh rl qh ql) : OvW B W w.drew h l y rh rl qh ql :=
  ⟨s.a0, s.a1, s.d0, s.d1, s.r0, s.r1, s.q0, s.q1, s.fr0, s.fr1, s.fq0, s.fq1, s.sz, s.bel.drew⟩

set_option maxHeartbeats 400000 in
theorem rover_zero (h l : Int) (w : World) :
    Calls Tryd.prog 73 #[.agg #[.int .u64 h, .int .u64 l], .int .u64 0] w fun e w' =>
      e = .returned (.tuple #[.int .u64 0, .int .u64 0, .bool false]) ∧ Below w.heap.size w w' := by
  go_enter Tryd.func73, Tryd.ntmps73
  go_wp2_with fail
  refine bodyPost_ret (v := .tuple #[.int .u64 0, .int .u64 0, .bool false]) (by simp [results, Tryd.results73, go_sem]) rfl ⟨rfl, ?_⟩
  exact (Below.refl _ _).alloc (Nat.le_refl _) _

set_option maxHeartbeats 400000 in
theorem rover_more (h l y : Int) (wh : Word h) (wl : Word l) (wy : Word y) (hy : 0 < y) (w : World) :
    Calls Tryd.prog 73 #[.agg #[.int .u64 h, .int .u64 l], .int .u64 y] w fun e w' =>
      e = .returned (.tuple #[.int .u64 (ovQ (wval h l) y), .int .u64 (ovR (wval h l) y), .bool (ovB (wval h l) y)]) ∧ Below w.heap.size w w' := by
  have hy0 : (y == 0) = false := by simp; omega
  have hy1 := wy.2
  go_enter Tryd.func73, Tryd.ntmps73
  go_wp2_with fail
  go_loopw [10] (fun i wr => ∃ k : Nat, k ≤ 128 ∧ i = .int .i64 ((k : Int) - 1) ∧ OvW w.heap.size w wr h l y (hiW (wval h l / 2 ^ k % y)) (loW (wval h l / 2 ^ k % y)) (hiW (wval h l / 2 ^ k / y)) (loW (wval h l / 2 ^ k / y))) (fun i _ => (intOf i + 1).toNat)
  case atStart =>
    have hn := wval_bd wh wl
    have e : wval h l / 2 ^ 128 = 0 := by
      rw [show (2 : Int) ^ 128 = 340282366920938463463374607431768211456 by rfl]; omega
    have e1 : (0 : Int) % y = 0 := Int.zero_emod y
    have e2 : (0 : Int) / y = 0 := Int.zero_ediv y
    refine ⟨128, Nat.le_refl _, rfl, ?_⟩
    rw [e, e1, e2]
    exact ⟨by go_simp, by go_simp, by go_simp, by go_simp, by go_simp; decide, by go_simp; decide, by go_simp; decide, by go_simp; decide, by go_simp, by go_simp, by go_simp, by go_simp, by simp, ((((Below.refl _ _).alloc (Nat.le_refl _) _).alloc (by simp) _).alloc (by simp; omega) _).alloc (by simp; omega) _⟩
  case round =>
    obtain ⟨k, hk, rfl, S⟩ := hrel
    cases k with
    | zero =>
      obtain ⟨a0, a1, d0, d1, r0, r1, q0, q1, fr0, fr1, fq0, fq1, sz, bel⟩ := id S
      have e : wval h l / 2 ^ 0 = wval h l := by rw [Int.pow_zero, Int.ediv_one]
      rw [e] at *
      have hn := wval_bd wh wl
      have sz1 : w.heap.size + 1 < wr.heap.size := by omega
      have sz2 : w.heap.size + 1 + 1 < wr.heap.size := by omega
      clear S e
      by_cases hq : 0 < hiW (wval h l / y)
      · have E := Lib.hid (ov_big (n := wval h l) hn.1 hn.2 hy hq)
        go_wp2_with fail
        refine bodyPost_ret (v := .tuple #[.int .u64 0, .int .u64 0, .bool false]) (by simp [results, Tryd.results73, go_sem]) rfl ⟨by rw [E.out.1, E.out.2.1, E.out.2.2], ?_⟩
        exact bel
      · have E := Lib.hid (ov_small (n := wval h l) hn.1 hn.2 hy hy1 hq)
        go_wp2_with fail
        go_quiet (fail)
        go_wp2
        refine bodyPost_ret (v := .tuple #[.int .u64 (loW (wval h l / y)), .int .u64 (loW (wval h l % y)), .bool true]) (by simp [results, Tryd.results73, go_sem]) rfl ⟨by rw [E.out.1, E.out.2.1, E.out.2.2], ?_⟩
        exact below_drewN bel _
    | succ j =>
      have ej : ((j + 1 : Nat) : Int) - 1 = j := by omega
      rw [ej]
      have hn := wval_bd wh wl
      have hp : (0 : Int) < 2 ^ j := Int.pow_pos (by omega)
      have M0 : 0 ≤ wval h l / 2 ^ j := Int.ediv_nonneg hn.1 (by omega)
      have M1 : wval h l / 2 ^ j ≤ wval h l := Int.ediv_le_self _ hn.1
      have M2 : wval h l / 2 ^ j < 340282366920938463463374607431768211456 := by omega
      have hm : wval h l / 2 ^ (j + 1) = wval h l / 2 ^ j / 2 := by rw [Int.pow_succ, Int.ediv_ediv_of_nonneg (by omega)]
      rw [hm] at S
      clear hm M1 hn hp
      obtain ⟨t1, t2⟩ := ov_step (M := wval h l / 2 ^ j) hy
      have T1 := Lib.hid t1; have T2 := Lib.hid t2
      clear t1 t2
      have bit := bit_any h l j wh wl (by omega)
      generalize hM : wval h l / 2 ^ j = M at *
      have HM := Lib.hid hM
      clear hM
      have R0 := Int.emod_nonneg (M / 2) (show y ≠ 0 by omega)
      have R1 := Int.emod_lt_of_pos (M / 2) hy
      have Q0 := Int.ediv_nonneg (show 0 ≤ M / 2 by omega) (show 0 ≤ y by omega)
      have Q1 := Int.ediv_le_self y (show 0 ≤ M / 2 by omega)
      have b0 : 0 ≤ M % 2 := by omega
      have b1 : M % 2 ≤ 1 := by omega
      have Q2 : M / 2 / y < 170141183460469231731687303715884105728 := by omega
      clear M0 M2 Q1
      generalize M / 2 % y = R at *
      generalize M / 2 / y = Q at *
      generalize M % 2 = b at *
      have ev := lo_even R
      have ev0 := (word_lo (R + R)).1
      obtain ⟨a0, a1, d0, d1, r0, r1, q0, q1, fr0, fr1, fq0, fq1, sz, bel⟩ := id S
      have sz1 : w.heap.size + 1 < wr.heap.size := by omega
      have sz2 : w.heap.size + 1 + 1 < wr.heap.size := by omega
      have Bit := Lib.hid bit
      have hwr : IntKind.u64.wrap (loW (R + R) + b) = loW (R + R) + b := by rw [IntKind.wrap_u64]; omega
      have HW := Lib.hid hwr
      clear hwr
      clear bit
      go_wp2_with fail
      refine (double_num R R0 (by omega) _).mono ?_
      rintro e wA ⟨rfl, hbA⟩
      have SA := S.call hbA
      clear a0 a1 d0 d1 r0 r1 q0 q1 fr0 fr1 fq0 fq1 sz bel S hbA
      obtain ⟨a0, a1, d0, d1, r0, r1, q0, q1, fr0, fr1, fq0, fq1, sz, bel⟩ := id SA
      go_upto_region 10 with fail
      have SB := (SA.restHi (hiW (R + R))).restLo (loW (R + R))
      generalize (wA.setCell ⟨w.heap.size + 1 + 1, 0, none⟩ (.int .u64 (hiW (R + R)))).setCell ⟨w.heap.size + 1 + 1, 1, none⟩ (.int .u64 (loW (R + R))) = wB at *
      clear a0 a1 d0 d1 r0 r1 q0 q1 fr0 fr1 fq0 fq1 sz bel SA
      obtain ⟨a0, a1, d0, d1, r0, r1, q0, q1, fr0, fr1, fq0, fq1, sz, bel⟩ := id SB
      go_cut [31] (fun s wx => OvW w.heap.size w wx h l y (hiW (R + R)) (loW (R + R) + b) (hiW Q) (loW Q))
      case first =>
        go_region_with (go_at_call 94; refine (Bit.out _).mono ?_; rintro e wC ⟨rfl, hbC⟩; have SC := OvW.call SB.drew hbC; obtain ⟨a0, a1, d0, d1, r0, r1, q0, q1, fr0, fr1, fq0, fq1, sz, bel⟩ := id SC)
        all_goals (go_wp2_with fail; go_meet; rw [HW.out]; exact SC.restLo _)
      case rest =>
        clear a0 a1 d0 d1 r0 r1 q0 q1 fr0 fr1 fq0 fq1 sz bel SB Bit
        rename_i wC _
        have SC := hcut
        rw [lo_bit b0 b1, hi_bit b0 b1] at SC
        clear hcut ev ev0
        obtain ⟨a0, a1, d0, d1, r0, r1, q0, q1, fr0, fr1, fq0, fq1, sz, bel⟩ := id SC
        go_wp2_with fail
        refine (double_num Q Q0 (by omega) _).mono ?_
        rintro e wD ⟨rfl, hbD⟩
        have SD := SC.call hbD
        clear a0 a1 d0 d1 r0 r1 q0 q1 fr0 fr1 fq0 fq1 sz bel SC hbD
        obtain ⟨a0, a1, d0, d1, r0, r1, q0, q1, fr0, fr1, fq0, fq1, sz, bel⟩ := id SD
        go_upto_region 12 with fail
        have SE := (SD.quoHi (hiW (Q + Q))).quoLo (loW (Q + Q))
        generalize (wD.setCell ⟨w.heap.size + 1 + 1 + 1, 0, none⟩ (.int .u64 (hiW (Q + Q)))).setCell ⟨w.heap.size + 1 + 1 + 1, 1, none⟩ (.int .u64 (loW (Q + Q))) = wE at *
        clear a0 a1 d0 d1 r0 r1 q0 q1 fr0 fr1 fq0 fq1 sz bel SD
        obtain ⟨a0, a1, d0, d1, r0, r1, q0, q1, fr0, fr1, fq0, fq1, sz, bel⟩ := id SE
        go_wp2_with fail
        refine (less_num (R + R + b) y (by omega) (by omega) wy _).mono ?_
        rintro e wF ⟨rfl, hbF⟩
        have SF := SE.call hbF
        clear a0 a1 d0 d1 r0 r1 q0 q1 fr0 fr1 fq0 fq1 sz bel SE hbF
        obtain ⟨a0, a1, d0, d1, r0, r1, q0, q1, fr0, fr1, fq0, fq1, sz, bel⟩ := id SF
        by_cases hX : R + R + b < y
        · obtain ⟨g1, g2⟩ := T1.out (by omega)
          have G1 := Lib.hid g1; have G2 := Lib.hid g2
          clear g1 g2
          go_wp2_with fail
          go_roundw
          case rel => 
            refine ⟨j, by omega, rfl, ?_⟩
            rw [HM.out, G1.out, G2.out]
            exact SF
          case measure => simp [intOf]
        · obtain ⟨g1, g2⟩ := T2.out (by omega)
          have G1 := Lib.hid g1; have G2 := Lib.hid g2
          clear g1 g2
          have hXf : decide (R + R + b < y) = false := decide_eq_false hX
          go_wp2_with fail
          refine (rsub_num (R + R + b) y (by omega) (by omega) wy _).mono ?_
          rintro e wG ⟨rfl, hbG⟩
          have SG := SF.call hbG
          clear a0 a1 d0 d1 r0 r1 q0 q1 fr0 fr1 fq0 fq1 sz bel SF hbG
          obtain ⟨a0, a1, d0, d1, r0, r1, q0, q1, fr0, fr1, fq0, fq1, sz, bel⟩ := id SG
          have ev := lo_even Q
          have ev0 := (word_lo (Q + Q)).1
          have SH := ((SG.restHi (hiW (R + R + b - y))).restLo (loW (R + R + b - y))).quoLo (loW (Q + Q) + 1)
          rw [lo_bit (n := Q) (b := 1) (by omega) (by omega), hi_bit (n := Q) (b := 1) (by omega) (by omega)] at SH
          have HL := Lib.hid (lo_bit (n := Q) (b := 1) (by omega) (by omega))
          go_wp2_with fail
          go_roundw
          case rel =>
            refine ⟨j, by omega, rfl, ?_⟩
            rw [HM.out, G1.out, G2.out]
            rw [HL.out]
            exact SH
          case measure => simp [intOf]

/-- The reference's Over, of all numbers. -/
theorem rover_any (h l y : Int) (wh : Word h) (wl : Word l) (wy : Word y) (w : World) :
    Calls Tryd.prog 73 #[.agg #[.int .u64 h, .int .u64 l], .int .u64 y] w fun e w' =>
      e = .returned (.tuple #[.int .u64 (ovQ (wval h l) y), .int .u64 (ovR (wval h l) y), .bool (ovB (wval h l) y)]) ∧ Below w.heap.size w w' := by
  by_cases hy : y = 0
  · subst hy
    have e : ovB (wval h l) 0 = false := by unfold ovB; apply decide_eq_false; omega
    have e1 : ovQ (wval h l) 0 = 0 := by unfold ovQ; rw [e]; rfl
    have e2 : ovR (wval h l) 0 = 0 := by unfold ovR; rw [e]; rfl
    rw [e, e1, e2]
    exact rover_zero h l w
  · exact rover_more h l y wh wl wy (by have := wy.1; omega) w
theorem rover_num (n y : Int) (h0 : 0 ≤ n) (h1 : n < 340282366920938463463374607431768211456) (wy : Word y) (w : World) :
    Calls Tryd.prog 73 #[.agg #[.int .u64 (hiW n), .int .u64 (loW n)], .int .u64 y] w fun e w' =>
      e = .returned (.tuple #[.int .u64 (ovQ n y), .int .u64 (ovR n y), .bool (ovB n y)]) ∧ Below w.heap.size w w' := by
  have h := rover_any (hiW n) (loW n) y (word_hi n) (word_lo n) wy w
  rw [wval_split h0 h1] at h
  exact h

end Go.Proofs.YtojincgbnjkegaaDoor

/-
  wide.Compare and the reference's Less, of numbers below 2^128; what a held region keeps.
-/
namespace Go.Proofs.YtojincgbnjkegaaDoor
set_option linter.unusedVariables false
open Go.RowKit Go.Shelf

theorem less_two (x y : Int) (x0 : 0 ≤ x) (x1 : x < 340282366920938463463374607431768211456) (y0 : 0 ≤ y) (y1 : y < 340282366920938463463374607431768211456) (w : World) :
    Calls Tryd.prog 47 #[.agg #[.int .u64 (hiW x), .int .u64 (loW x)], .agg #[.int .u64 (hiW y), .int .u64 (loW y)]] w fun e w' =>
      e = .returned (.bool (decide (x < y))) ∧ Below w.heap.size w w' := by
  have h := less_any (hiW x) (loW x) (hiW y) (loW y) (word_hi x) (word_lo x) (word_hi y) (word_lo y) w
  rw [wval_split x0 x1, wval_split y0 y1] at h
  have e : belowB (x - y) = decide (x < y) := by unfold belowB; apply decide_eq_decide.2; omega
  rw [e] at h
  exact h

theorem cmp_neg (x y : Int) : decide (cmpW x y < 0) = decide (x < y) := by
  unfold cmpW; apply decide_eq_decide.2; split <;> (try split) <;> omega

/-- Two cells of one block, and the world below, behind a callee that makes memory. -/
theorem keep2 {B : Nat} {W w w' : World} {x y : Value} (h : w.cell? ⟨B, 0, none⟩ = some x ∧ w.cell? ⟨B, 1, none⟩ = some y ∧ Below W.heap.size W w) (hb : Below w.heap.size w w') :
    w'.cell? ⟨B, 0, none⟩ = some x ∧ w'.cell? ⟨B, 1, none⟩ = some y ∧ Below W.heap.size W w' :=
  ⟨cell_later hb h.1, cell_later hb h.2.1, h.2.2.trans (hb.mono h.2.2.size)⟩
theorem keep2_bel {B : Nat} {W w : World} {x y : Value} (h : w.cell? ⟨B, 0, none⟩ = some x ∧ w.cell? ⟨B, 1, none⟩ = some y ∧ Below W.heap.size W w) : Below W.heap.size W w := h.2.2
end Go.Proofs.YtojincgbnjkegaaDoor

/-
  Walks: wide.Less, the reference's Fewer.
-/
namespace Go.Proofs.YtojincgbnjkegaaDoor
set_option linter.unusedVariables false
open Go.RowKit Go.Shelf

/-- Whether a fraction is less than another one. -/
def fewB (an ad bn bd : Int) : Bool := if ad = 0 then false else if bd = 0 then true else decide (an * bd < bn * ad)
theorem few_a {an bn bd : Int} : fewB an 0 bn bd = false := by unfold fewB; rw [if_pos rfl]
theorem few_b {an ad bn : Int} (h : ¬ ad = 0) : fewB an ad bn 0 = true := by unfold fewB; rw [if_neg h, if_pos rfl]
theorem few_c {an ad bn bd : Int} (h : ¬ ad = 0) (h' : ¬ bd = 0) : fewB an ad bn bd = decide (an * bd < bn * ad) := by unfold fewB; rw [if_neg h, if_neg h']

theorem held_keep {B : Nat} {W w w' : World} {an ad bn bd : Int} (h : w.cell? ⟨B, 0, none⟩ = some (.int .u64 an) ∧ w.cell? ⟨B, 1, none⟩ = some (.int .u64 ad) ∧ w.cell? ⟨B + 1, 0, none⟩ = some (.int .u64 bn) ∧ w.cell? ⟨B + 1, 1, none⟩ = some (.int .u64 bd) ∧ Below W.heap.size W w) (hb : Below w.heap.size w w') :
    w'.cell? ⟨B, 0, none⟩ = some (.int .u64 an) ∧ w'.cell? ⟨B, 1, none⟩ = some (.int .u64 ad) ∧ w'.cell? ⟨B + 1, 0, none⟩ = some (.int .u64 bn) ∧ w'.cell? ⟨B + 1, 1, none⟩ = some (.int .u64 bd) ∧ Below W.heap.size W w' :=
  ⟨cell_later hb h.1, cell_later hb h.2.1, cell_later hb h.2.2.1, cell_later hb h.2.2.2.1, h.2.2.2.2.trans (hb.mono h.2.2.2.2.size)⟩

theorem held_bel {B : Nat} {W w : World} {an ad bn bd : Int} (h : w.cell? ⟨B, 0, none⟩ = some (.int .u64 an) ∧ w.cell? ⟨B, 1, none⟩ = some (.int .u64 ad) ∧ w.cell? ⟨B + 1, 0, none⟩ = some (.int .u64 bn) ∧ w.cell? ⟨B + 1, 1, none⟩ = some (.int .u64 bd) ∧ Below W.heap.size W w) : Below W.heap.size W w := h.2.2.2.2

/-! What the law says of the order. -/
theorem few_self (an ad : Int) : fewB an ad an ad = false := by
  unfold fewB
  split
  · rfl
  · simp
theorem few_anti {an ad bn bd : Int} (wad : Word ad) (wbd : Word bd) (h : fewB an ad bn bd = true) : fewB bn bd an ad = false := by
  unfold fewB at *
  by_cases h1 : ad = 0
  · rw [if_pos h1] at h; cases h
  · rw [if_neg h1] at h
    by_cases h2 : bd = 0
    · rw [if_pos h2]
    · rw [if_neg h2] at h ⊢
      rw [if_neg h1]
      rw [decide_eq_true_iff] at h
      apply decide_eq_false
      omega
theorem few_trans {an ad bn bd cn cd : Int} (wa : Word an) (wad : Word ad) (wb : Word bn) (wbd : Word bd) (wc : Word cn) (wcd : Word cd) (h : fewB an ad bn bd = true) (k : fewB bn bd cn cd = true) : fewB an ad cn cd = true := by
  unfold fewB at *
  by_cases h1 : ad = 0
  · rw [if_pos h1] at h; cases h
  · rw [if_neg h1] at h ⊢
    by_cases h3 : cd = 0
    · rw [if_pos h3]
    · rw [if_neg h3] at k ⊢
      by_cases h2 : bd = 0
      · rw [if_pos h2] at k; cases k
      · rw [if_neg h2] at h k
        rw [decide_eq_true_iff] at *
        have pa : 0 < ad := by have := wad.1; omega
        have pb : 0 < bd := by have := wbd.1; omega
        have pc : 0 < cd := by have := wcd.1; omega
        have e1 := Int.mul_lt_mul_of_pos_right h pc
        have e2 := Int.mul_lt_mul_of_pos_right k pa
        have e3 : an * cd * bd < cn * ad * bd := by
          have x1 : an * bd * cd = an * cd * bd := by rw [Int.mul_assoc, Int.mul_comm bd, ← Int.mul_assoc]
          have x2 : bn * ad * cd = bn * cd * ad := by rw [Int.mul_assoc, Int.mul_comm ad, ← Int.mul_assoc]
          have x3 : cn * bd * ad = cn * ad * bd := by rw [Int.mul_assoc, Int.mul_comm bd, ← Int.mul_assoc]
          rw [x1, x2] at e1; rw [x3] at e2; omega
        exact Int.lt_of_mul_lt_mul_right e3 (by omega)
end Go.Proofs.YtojincgbnjkegaaDoor

/-
  Walks: the reference's Ceil, wide.Log, wide.Plus, the laws' alive.
-/
namespace Go.Proofs.YtojincgbnjkegaaDoor
set_option linter.unusedVariables false
open Go.RowKit Go.Shelf

theorem cl_no {n y : Int} (h : ovB n y = false) : clB n y = false ∧ clQ n y = 0 := by
  have e : clB n y = false := by unfold clB; rw [h]; rfl
  exact ⟨e, by unfold clQ; rw [e]; rfl⟩
theorem cl_full {n y : Int} (h : ovB n y = true) (hr : 0 < ovR n y) (hq : ovQ n y = 18446744073709551615) : clB n y = false ∧ clQ n y = 0 := by
  have e : clB n y = false := by unfold clB; rw [h, decide_eq_true hr, hq]; rfl
  exact ⟨e, by unfold clQ; rw [e]; rfl⟩
theorem cl_up {n y : Int} (h : ovB n y = true) (hr : 0 < ovR n y) (hq : ¬ ovQ n y = 18446744073709551615) : clB n y = true ∧ clQ n y = ovQ n y + 1 := by
  have e : clB n y = true := by unfold clB; rw [h, decide_eq_true hr]; simp [hq]
  exact ⟨e, by unfold clQ; rw [if_pos e, if_pos hr]⟩

set_option maxHeartbeats 1000000 in
theorem rceil_any (a b y : Int) (wa : Word a) (wb : Word b) (wy : Word y) (w : World) :
    Calls Tryd.prog 46 #[.int .u64 a, .int .u64 b, .int .u64 y] w fun e w' =>
      e = .returned (.tuple #[.int .u64 (clQ (a * b) y), .bool (clB (a * b) y)]) ∧ Below w.heap.size w w' := by
  obtain ⟨n0, n1⟩ := mul_bd wa wb
  obtain ⟨⟨q0, q1⟩, ⟨r0, r1⟩⟩ := ov_word (n := a * b) n0 wy
  by_cases ho : ovB (a * b) y = true
  · by_cases hr : 0 < ovR (a * b) y
    · by_cases hq : ovQ (a * b) y = 18446744073709551615
      · have E := Lib.hid (cl_full ho hr hq)
        have hq0 : (ovQ (a * b) y == 18446744073709551615) = true := by simp [hq]
        clear hq
        go_enter Tryd.func46, Tryd.ntmps46
        go_wp2_with fail
        refine (rtimes_any a b wa wb _).mono ?_
        rintro e wA ⟨rfl, hbA⟩
        go_wp2_with fail
        refine (rover_num (a * b) y n0 n1 wy _).mono ?_
        rintro e wB ⟨rfl, hbB⟩
        go_wp2_with fail
        refine bodyPost_ret (v := .tuple #[.int .u64 0, .bool false]) (by simp [results, Tryd.results46, go_sem]) rfl ⟨by rw [E.out.1, E.out.2], ?_⟩
        exact hbA.trans (hbB.mono hbA.size)
      · have E := Lib.hid (cl_up ho hr hq)
        have hq0 : (ovQ (a * b) y == 18446744073709551615) = false := by simp [hq]
        have hq1 : ovQ (a * b) y + 1 < 18446744073709551616 := by omega
        clear hq
        go_enter Tryd.func46, Tryd.ntmps46
        go_wp2_with fail
        refine (rtimes_any a b wa wb _).mono ?_
        rintro e wA ⟨rfl, hbA⟩
        go_wp2_with fail
        refine (rover_num (a * b) y n0 n1 wy _).mono ?_
        rintro e wB ⟨rfl, hbB⟩
        go_wp2_with fail
        refine bodyPost_ret (v := .tuple #[.int .u64 (ovQ (a * b) y + 1), .bool true]) (by simp [results, Tryd.results46, go_sem]) rfl ⟨by rw [E.out.1, E.out.2], ?_⟩
        exact hbA.trans (hbB.mono hbA.size)
    · have E := Lib.hid (cl_zero (n := a * b) (y := y) (by omega))
      go_enter Tryd.func46, Tryd.ntmps46
      go_wp2_with fail
      refine (rtimes_any a b wa wb _).mono ?_
      rintro e wA ⟨rfl, hbA⟩
      go_wp2_with fail
      refine (rover_num (a * b) y n0 n1 wy _).mono ?_
      rintro e wB ⟨rfl, hbB⟩
      go_wp2_with fail
      refine bodyPost_ret (v := .tuple #[.int .u64 (ovQ (a * b) y), .bool true]) (by simp [results, Tryd.results46, go_sem]) rfl ⟨by rw [E.out.1, E.out.2, ho], ?_⟩
      exact hbA.trans (hbB.mono hbA.size)
  · have ho' : ovB (a * b) y = false := by simpa using ho
    have E := Lib.hid (cl_no ho')
    clear ho
    go_enter Tryd.func46, Tryd.ntmps46
    go_wp2_with fail
    refine (rtimes_any a b wa wb _).mono ?_
    rintro e wA ⟨rfl, hbA⟩
    go_wp2_with fail
    refine (rover_num (a * b) y n0 n1 wy _).mono ?_
    rintro e wB ⟨rfl, hbB⟩
    go_wp2_with fail
    refine bodyPost_ret (v := .tuple #[.int .u64 0, .bool false]) (by simp [results, Tryd.results46, go_sem]) rfl ⟨by rw [E.out.1, E.out.2], ?_⟩
    exact hbA.trans (hbB.mono hbA.size)

theorem ceil_712 (w : World) : Calls Tryd.prog 62 #[.int .u64 7, .int .u64 1, .int .u64 2] w fun e w' =>
      e = .returned (.tuple #[.int .u64 4, .bool true]) ∧ Below w.heap.size w w' := by
  have h := ceil_any 7 1 2 (by unfold Word; omega) (by unfold Word; omega) (by unfold Word; omega) w
  rw [show clQ (7 * 1) 2 = 4 by decide, show clB (7 * 1) 2 = true by decide] at h
  exact h
theorem times_634 (w : World) : Calls Tryd.prog 86 #[.int .u64 9223372036854775808, .int .u64 4] w fun e w' =>
      e = .returned (.agg #[.int .u64 2, .int .u64 0]) ∧ Below w.heap.size w w' := by
  have h := times_any 9223372036854775808 4 (by unfold Word; omega) (by unfold Word; omega) w
  rw [show hiW (9223372036854775808 * 4) = 2 by decide, show loW (9223372036854775808 * 4) = 0 by decide] at h
  exact h

set_option maxHeartbeats 400000 in
theorem log_any (a : Int) (wa : Word a) (w : World) : Calls Tryd.prog 82 #[.int .u64 a] w fun e w' =>
      e = .returned (.tuple #[.int .i64 ((Lib.bitLen a.toNat : Int) - 1), .bool (a != 0)]) ∧ w = w' := by
  have hl := Lib.bitLen_le a.toNat 64 (Nat.le_refl _) (by have := wa.1; have := wa.2; omega)
  go_enter Tryd.func82, Tryd.ntmps82
  go_wp2_with fail
  refine (Tryd.bits_Len64 a _ wa.1 (by have := wa.2; omega)).mono ?_
  rintro e w' ⟨rfl, rfl⟩
  go_wp2_with fail
  exact bodyPost_ret (v := .tuple #[.int .i64 ((Lib.bitLen a.toNat : Int) - 1), .bool (a != 0)]) (by simp [results, Tryd.results82, go_sem]) rfl ⟨rfl, rfl⟩

set_option maxHeartbeats 400000 in
theorem plus_nil (cap : Nat) (w : World) : Calls Tryd.prog 60 #[.slice none 0 cap] w fun e w' =>
      e = .returned (.tuple #[.int .u64 0, .bool true]) ∧ w = w' := by
  go_enter Tryd.func60, Tryd.ntmps60
  go_wp2_with fail
  go_loop [4, 9] (fun s i => s = .int .u64 0 ∧ i = .int .i64 0) (fun _ _ => 0)
  case atStart => exact ⟨rfl, rfl⟩
  case round =>
    obtain ⟨rfl, rfl⟩ := hrel
    go_wp2_with fail
    exact bodyPost_ret (v := .tuple #[.int .u64 0, .bool true]) (by simp [results, Tryd.results60, go_sem]) rfl ⟨rfl, rfl⟩

set_option maxHeartbeats 400000 in
theorem plus_any (xs : List Int) (b off cap : Nat) (w : World) (hm : xs.length ≤ maxLen) (hw : ∀ x ∈ xs, Word x)
    (hcell : ∀ i x, xs[i]? = some x → w.cell? ⟨b, off + i, none⟩ = some (.int .u64 x)) :
    Calls Tryd.prog 60 #[.slice (some ⟨b, off, none⟩) xs.length cap] w fun e w' =>
      e = .returned (.tuple #[.int .u64 (plQ xs), .bool (plB xs)]) ∧ w = w' := by
  unfold maxLen at hm
  have hpos : ∀ x ∈ xs, 0 ≤ x := fun x hx => (hw x hx).1
  have Hpos := Lib.hid hpos
  have Hw := Lib.hid hw
  have Hcell := Lib.hid hcell
  clear hpos hw hcell
  go_enter Tryd.func60, Tryd.ntmps60
  go_wp2_with fail
  go_loop [4, 9] (fun s i => ∃ k : Nat, k ≤ xs.length ∧ i = .int .i64 k ∧ s = .int .u64 (sumI (xs.take k)) ∧ sumI (xs.take k) ≤ 9223372036854775807) (fun _ i => xs.length - (intOf i).toNat)
  case atStart => exact ⟨0, Nat.zero_le _, rfl, rfl, by simp [sumI]⟩
  case round =>
    obtain ⟨k, hk, rfl, rfl, hs⟩ := hrel
    have s0 : 0 ≤ sumI (xs.take k) := sumI_nonneg (fun x hx => Hpos.out x (List.mem_of_mem_take hx))
    by_cases hlt : k < xs.length
    · obtain ⟨x, hx⟩ : ∃ x, xs[k]? = some x := ⟨_, List.getElem?_eq_getElem hlt⟩
      have e1 := Hcell.out k x hx
      have HS := Lib.hid (sumI_take hx)
      obtain ⟨x0, x1⟩ := Hw.out x (List.mem_of_getElem? hx)
      have HM := Lib.hid (sumI_mono Hpos.out (k + 1))
      clear hx
      generalize sumI (xs.take k) = s at *
      by_cases hg : 9223372036854775807 - s < x
      · have e : plB xs = false := by
          have a := HS.out; have b := HM.out
          unfold plB; apply decide_eq_false; omega
        have e2 : plQ xs = 0 := by unfold plQ; rw [e]; rfl
        have E := Lib.hid e; have E2 := Lib.hid e2
        clear e e2
        go_wp2_with fail
        exact bodyPost_ret (v := .tuple #[.int .u64 0, .bool false]) (by simp [results, Tryd.results60, go_sem]) rfl ⟨by rw [E.out, E2.out], rfl⟩
      · go_wp2_with fail
        go_round
        case rel => exact ⟨k + 1, by omega, by go_num, by rw [HS.out], by rw [HS.out]; omega⟩
        case measure => simp [intOf]; omega
    · obtain rfl : k = xs.length := by omega
      rw [List.take_length] at *
      have e : plB xs = true := by unfold plB; exact decide_eq_true hs
      have e2 : plQ xs = sumI xs := by unfold plQ; rw [if_pos e]
      have E := Lib.hid e; have E2 := Lib.hid e2
      clear e e2
      go_wp2_with fail
      exact bodyPost_ret (v := .tuple #[.int .u64 (sumI xs), .bool true]) (by simp [results, Tryd.results60, go_sem]) rfl ⟨by rw [E.out, E2.out], rfl⟩
end Go.Proofs.YtojincgbnjkegaaDoor

/-
  Walks: spans in memory (the landed code): New, Index, Range, Rep, Digits, Part; nil ones.
-/
namespace Go.Proofs.YtojincgbnjkegaaDoor
set_option linter.unusedVariables false
set_option linter.unusedSimpArgs false
open Go.RowKit Go.Shelf

/-- The table of powers of ten lies where the package's variable lies. -/
structure Tens (w : World) : Prop where
  t0 : w.cell? ⟨0, 0, none⟩ = some (.int .u64 1)
  t1 : w.cell? ⟨0, 1, none⟩ = some (.int .u64 10)
  t2 : w.cell? ⟨0, 2, none⟩ = some (.int .u64 100)
  t3 : w.cell? ⟨0, 3, none⟩ = some (.int .u64 1000)
  t4 : w.cell? ⟨0, 4, none⟩ = some (.int .u64 10000)
theorem Tens.lt {w : World} (h : Tens w) : 0 < w.heap.size := World.block_lt_of_cell? (a := ⟨0, 0, none⟩) w h.t0
theorem Tens.call {w w' : World} (h : Tens w) (hb : Below w.heap.size w w') : Tens w' :=
  ⟨cell_later hb h.t0, cell_later hb h.t1, cell_later hb h.t2, cell_later hb h.t3, cell_later hb h.t4⟩
theorem Tens.keep {w w' : World} (h : Tens w) (hk : w'.heap[0]? = w.heap[0]?) : Tens w' := by
  have e : ∀ o, w'.cell? ⟨0, o, none⟩ = w.cell? ⟨0, o, none⟩ := by
    intro o; unfold World.cell?; simp only [hk]
  exact ⟨(e 0).trans h.t0, (e 1).trans h.t1, (e 2).trans h.t2, (e 3).trans h.t3, (e 4).trans h.t4⟩

/-- A span in memory: so many digits count. -/
def SpX (w : World) (B : Nat) (d : Int) (L : Nat) : Prop := w.heap[B]? = some (.cells #[.int .i64 d, .int .i64 L] 131 (0, 0))
theorem spx_lt {w : World} {B : Nat} {d : Int} {L : Nat} (h : SpX w B d L) : B < w.heap.size := lt_of_block h
theorem spx_keep {w w' : World} {B : Nat} {d : Int} {L : Nat} (h : SpX w B d L) (hk : w'.heap[B]? = w.heap[B]?) : SpX w' B d L := hk.trans h
theorem spx_call {w w' : World} {B : Nat} {d : Int} {L : Nat} (h : SpX w B d L) (hb : Below w.heap.size w w') : SpX w' B d L := spx_keep h (hb.block B (spx_lt h))
theorem spx_cells {w : World} {B : Nat} {d : Int} {L : Nat} (h : SpX w B d L) : w.cell? ⟨B, 0, none⟩ = some (.int .i64 d) ∧ w.cell? ⟨B, 1, none⟩ = some (.int .i64 L) :=
  ⟨by rw [Joins.cell_of_block h]; rfl, by rw [Joins.cell_of_block h]; rfl⟩

theorem heap_new (w : World) (o : Obj) : (w.alloc o).heap[w.heap.size]? = some o := by
  show (w.heap.push o)[w.heap.size]? = some o
  simp

theorem log_9 (w : World) : Calls Tryd.prog 82 #[.int .u64 9] w fun e w' => e = .returned (.tuple #[.int .i64 3, .bool true]) ∧ w = w' := by
  have h := log_any 9 (by unfold Word; omega) w
  rw [show Lib.bitLen (9 : Int).toNat = 4 by decide] at h; exact h

theorem log_99 (w : World) : Calls Tryd.prog 82 #[.int .u64 99] w fun e w' => e = .returned (.tuple #[.int .i64 6, .bool true]) ∧ w = w' := by
  have h := log_any 99 (by unfold Word; omega) w
  rw [show Lib.bitLen (99 : Int).toNat = 7 by decide] at h; exact h

theorem log_999 (w : World) : Calls Tryd.prog 82 #[.int .u64 999] w fun e w' => e = .returned (.tuple #[.int .i64 9, .bool true]) ∧ w = w' := by
  have h := log_any 999 (by unfold Word; omega) w
  rw [show Lib.bitLen (999 : Int).toNat = 10 by decide] at h; exact h

theorem log_9999 (w : World) : Calls Tryd.prog 82 #[.int .u64 9999] w fun e w' => e = .returned (.tuple #[.int .i64 13, .bool true]) ∧ w = w' := by
  have h := log_any 9999 (by unfold Word; omega) w
  rw [show Lib.bitLen (9999 : Int).toNat = 14 by decide] at h; exact h

set_option maxHeartbeats 400000 in
theorem snew_bad (d : Int) (hd : I64 d) (h : ¬ (1 ≤ d ∧ d ≤ 4)) (w : World) :
    Calls Tryd.prog 58 #[.int .i64 d] w fun e w' => e = .returned (.tuple #[.pointer none, .int .i64 1]) ∧ w = w' := by
  by_cases h1 : d < 1
  · go_enter Tryd.func58, Tryd.ntmps58
    go_wp2_with fail
    go_ret2
    exact ⟨rfl, rfl⟩
  · have h4 : 4 < d := by omega
    go_enter Tryd.func58, Tryd.ntmps58
    go_wp2_with fail
    go_ret2
    exact ⟨rfl, rfl⟩

set_option maxHeartbeats 1000000 in
theorem snew_good (d : Int) (L : Nat) (T : Int) (hs : SpanP d L T) (w : World) (ht : Tens w) :
    Calls Tryd.prog 58 #[.int .i64 d] w fun e w' => ∃ B, e = .returned (.tuple #[.pointer (some ⟨B, 0, none⟩), .int .i64 0]) ∧ SpX w' B d L ∧ w.heap.size ≤ B ∧ Below w.heap.size w w' := by
  obtain ⟨t0, t1, t2, t3, t4⟩ := ht
  rcases hs with ⟨rfl, rfl, rfl⟩ | ⟨rfl, rfl, rfl⟩ | ⟨rfl, rfl, rfl⟩ | ⟨rfl, rfl, rfl⟩
  · go_enter Tryd.func58, Tryd.ntmps58
    go_wp2_with fail
    refine (log_9 _).mono ?_
    rintro e w' ⟨rfl, rfl⟩
    go_wp2_with fail
    go_ret2
    exact ⟨_, rfl, (heap_new w _), Nat.le_refl _, (Below.refl _ _).alloc (Nat.le_refl _) _⟩
  · go_enter Tryd.func58, Tryd.ntmps58
    go_wp2_with fail
    refine (log_99 _).mono ?_
    rintro e w' ⟨rfl, rfl⟩
    go_wp2_with fail
    go_ret2
    exact ⟨_, rfl, (heap_new w _), Nat.le_refl _, (Below.refl _ _).alloc (Nat.le_refl _) _⟩
  · go_enter Tryd.func58, Tryd.ntmps58
    go_wp2_with fail
    refine (log_999 _).mono ?_
    rintro e w' ⟨rfl, rfl⟩
    go_wp2_with fail
    go_ret2
    exact ⟨_, rfl, (heap_new w _), Nat.le_refl _, (Below.refl _ _).alloc (Nat.le_refl _) _⟩
  · go_enter Tryd.func58, Tryd.ntmps58
    go_wp2_with fail
    refine (log_9999 _).mono ?_
    rintro e w' ⟨rfl, rfl⟩
    go_wp2_with fail
    go_ret2
    exact ⟨_, rfl, (heap_new w _), Nat.le_refl _, (Below.refl _ _).alloc (Nat.le_refl _) _⟩


theorem ret_ib {k : IntKind} {a b : Int} {c : Bool} (h : a = b) : Ending.returned (.tuple #[.int k a, .bool c]) = .returned (.tuple #[.int k b, .bool c]) := by rw [h]
theorem ret_uu {a b c d : Int} (h : a = b) (h' : c = d) : Ending.returned (.tuple #[.int .u64 a, .int .u64 c]) = .returned (.tuple #[.int .u64 b, .int .u64 d]) := by rw [h, h']

set_option maxHeartbeats 400000 in
theorem sindex_none (w : World) (m : Int) (wm : Word m) :
    Calls Tryd.prog 67 #[.pointer none, .int .u64 m] w fun e w' => e = .returned (.tuple #[.int .i64 0, .bool false]) ∧ w = w' := by
  go_enter Tryd.func67, Tryd.ntmps67
  go_wp2_with fail
  go_ret2
  exact ⟨rfl, rfl⟩
set_option maxHeartbeats 400000 in
theorem sindex_out (w : World) (B : Nat) (m : Int) (wm : Word m) (ho : m = 0 ∨ 9223372036854775808 < m) :
    Calls Tryd.prog 67 #[.pointer (some ⟨B, 0, none⟩), .int .u64 m] w fun e w' => e = .returned (.tuple #[.int .i64 0, .bool false]) ∧ w = w' := by
  obtain ⟨m0, m1⟩ := wm
  rcases ho with rfl | ho
  · go_enter Tryd.func67, Tryd.ntmps67
    go_wp2_with fail
    go_ret2
    exact ⟨rfl, rfl⟩
  · have c1 : (m == 0) = false := by simp; omega
    go_enter Tryd.func67, Tryd.ntmps67
    go_wp2_with fail
    go_ret2
    exact ⟨rfl, rfl⟩

theorem max_nat (a b : Nat) : max ((a : Int) - 1 - b) 0 = ((a - 1 - b : Nat) : Int) := by omega
set_option maxHeartbeats 1000000 in
theorem sindex_any (w : World) (B : Nat) (d : Int) (L : Nat) (T m : Int) (hs : SpanP d L T) (h : SpX w B d L) (h1 : 1 ≤ m) (h2 : m ≤ 9223372036854775808) :
    Calls Tryd.prog 67 #[.pointer (some ⟨B, 0, none⟩), .int .u64 m] w fun e w' => e = .returned (.tuple #[.int .i64 (idxS L m), .bool true]) ∧ ∃ n, w' = w.drewN n := by
  obtain ⟨c0, c1⟩ := spx_cells h
  obtain ⟨l4, l14⟩ := spanp_log hs
  obtain ⟨k0, q1, q2, q3, _⟩ := cut_facts L h1 h2 l14
  obtain ⟨b1, b2, _⟩ := len_bd h1 h2
  have hpL := pow_le (show L ≤ 14 by omega)
  have hpL1 := pow_le (show L + 1 ≤ 15 by omega)
  have e14 : (2 : Int) ^ 14 = 16384 := by decide
  have e15 : (2 : Int) ^ 15 = 32768 := by decide
  have hp := pow_pos L
  have hkm : (cutS L m : Int) * 2 ^ L ≤ 59 * 16384 := Int.mul_le_mul (by omega) (by omega) (by omega) (by omega)
  have hkm0 : 0 ≤ (cutS L m : Int) * 2 ^ L := Int.mul_nonneg (by omega) (by omega)
  have HX : Hid (wrap64 (wrap64 (max ((Lib.bitLen m.toNat : Int) - 1 - L) 0 * 2 ^ (L : Int).toNat) + wrap64 (m / 2 ^ (max ((Lib.bitLen m.toNat : Int) - 1 - L) 0).toNat)) = idxS L m) := by
    refine Lib.hid ?_
    rw [max_nat, Int.toNat_natCast, Int.toNat_natCast]
    have hk : cutS L m = Lib.bitLen m.toNat - 1 - L := rfl
    have hq : leftS L m = m / 2 ^ cutS L m := rfl
    rw [← hk, ← hq]
    have hx : idxS L m = cutS L m * 2 ^ L + leftS L m := rfl
    rw [IntWalk.wrap64_in (_ * _) (by omega), IntWalk.wrap64_in (leftS L m) (by omega), IntWalk.wrap64_in _ (by omega), hx]
  have HLG := Lib.hid (log_any m (by unfold Word; omega) w)
  have c2 : (m == 0) = false := by simp; omega
  have c3 : (m != 0) = true := by simp; omega
  rw [c3] at HLG
  obtain ⟨lg, hlg⟩ : ∃ lg, (Lib.bitLen m.toNat : Int) - 1 = lg := ⟨_, rfl⟩
  rw [hlg] at HLG HX
  obtain ⟨Z, hZ⟩ : ∃ Z : Int, (L : Int) = Z := ⟨_, rfl⟩
  rw [hZ] at HX c1
  generalize idxS L m = x at *
  have lg0 : 0 ≤ lg := by omega
  have lg1 : lg ≤ 63 := by omega
  have z0 : 4 ≤ Z := by omega
  have z1 : Z ≤ 14 := by omega
  clear h hs l4 l14 k0 q1 q2 q3 b1 b2 hpL hpL1 e14 e15 hp hkm hkm0 hlg hZ c3
  go_enter Tryd.func67, Tryd.ntmps67
  go_wp2_with fail
  refine HLG.out.mono ?_
  rintro e w' ⟨rfl, rfl⟩
  go_wp2_with fail
  go_quiet (fail)
  go_wp2_with fail
  go_ret2
  exact ⟨ret_ib HX.out, _, rfl⟩

set_option maxHeartbeats 1000000 in
theorem sindex_top (w : World) (B : Nat) (d : Int) (L : Nat) (T : Int) (hs : SpanP d L T) (h : SpX w B d L) :
    Calls Tryd.prog 67 #[.pointer (some ⟨B, 0, none⟩), .int .u64 9223372036854775808] w fun e w' => e = .returned (.tuple #[.int .i64 (lastS L), .bool true]) ∧ ∃ n, w' = w.drewN n := by
  have := sindex_any w B d L T 9223372036854775808 hs h (by omega) (by omega)
  rw [last_idx L (spanp_log hs).2] at this
  exact this

theorem shas_none (w : World) (i : Int) (hi : I64 i) :
    Calls Tryd.prog 75 #[.pointer none, .int .i64 i] w fun e w' => e = .returned (.bool false) ∧ w = w' := by
  by_cases h0 : 0 < i
  · have h1 : decide (i ≤ 0) = false := decide_eq_false (by omega)
    go_enter Tryd.func75, Tryd.ntmps75
    go_wp2_with fail
    refine (sindex_none _ _ (by unfold Word; omega)).mono ?_
    rintro e w2 ⟨rfl, rfl⟩
    go_wp2_with fail
    go_ret
    exact ⟨rfl, rfl⟩
  · have hf : decide (0 < i) = false := decide_eq_false h0
    go_enter Tryd.func75, Tryd.ntmps75
    go_wp2_with fail
    refine (sindex_none _ _ (by unfold Word; omega)).mono ?_
    rintro e w2 ⟨rfl, rfl⟩
    go_wp2_with fail
    go_ret
    exact ⟨rfl, rfl⟩

set_option maxHeartbeats 400000 in
theorem shas_any (w : World) (B : Nat) (d : Int) (L : Nat) (T i : Int) (b : Bool) (hs : SpanP d L T) (h : SpX w B d L) (hi : I64 i) (hb : decide (1 ≤ i ∧ i ≤ lastS L) = b) :
    Calls Tryd.prog 75 #[.pointer (some ⟨B, 0, none⟩), .int .i64 i] w fun e w' => e = .returned (.bool b) ∧ ∃ n, w' = w.drewN n := by
  have HI := Lib.hid (sindex_top w B d L T hs h)
  generalize lastS L = z at *
  by_cases h0 : 0 < i
  · have E : Hid (decide (i ≤ z) = b) := Lib.hid (by rw [← hb]; apply decide_eq_decide.2; omega)
    clear hs h hb
    go_enter Tryd.func75, Tryd.ntmps75
    go_wp2_with fail
    refine HI.out.mono ?_
    rintro e w2 ⟨rfl, n, rfl⟩
    go_wp2_with fail
    go_ret
    exact ⟨ret_bool E.out, _, rfl⟩
  · have hf : decide (0 < i) = false := decide_eq_false h0
    have E : Hid (false = b) := Lib.hid (by rw [← hb]; symm; apply decide_eq_false; omega)
    clear hs h hb
    go_enter Tryd.func75, Tryd.ntmps75
    go_wp2_with fail
    refine HI.out.mono ?_
    rintro e w2 ⟨rfl, n, rfl⟩
    go_wp2_with fail
    go_ret
    exact ⟨ret_bool E.out, _, rfl⟩

set_option maxHeartbeats 400000 in
theorem srange_none (w : World) (i : Int) (hi : I64 i) :
    Calls Tryd.prog 50 #[.pointer none, .int .i64 i] w fun e w' => e = .returned (.tuple #[.int .u64 0, .int .u64 0]) ∧ w = w' := by
  go_enter Tryd.func50, Tryd.ntmps50
  go_wp2_with fail
  refine (shas_none _ i hi).mono ?_
  rintro e w2 ⟨rfl, rfl⟩
  go_wp2_with fail
  go_ret2
  exact ⟨rfl, rfl⟩
set_option maxHeartbeats 400000 in
theorem srange_out (w : World) (B : Nat) (d : Int) (L : Nat) (T i : Int) (hs : SpanP d L T) (h : SpX w B d L) (hi : I64 i) (ho : ¬ (1 ≤ i ∧ i ≤ lastS L)) :
    Calls Tryd.prog 50 #[.pointer (some ⟨B, 0, none⟩), .int .i64 i] w fun e w' => e = .returned (.tuple #[.int .u64 0, .int .u64 0]) ∧ ∃ n, w' = w.drewN n := by
  have HH := Lib.hid (shas_any w B d L T i false hs h hi (decide_eq_false ho))
  clear hs h ho
  go_enter Tryd.func50, Tryd.ntmps50
  go_wp2_with fail
  refine HH.out.mono ?_
  rintro e w2 ⟨rfl, n, rfl⟩
  go_wp2_with fail
  go_ret2
  exact ⟨rfl, _, rfl⟩

theorem drewN_add (w : World) (a b : Nat) : (w.drewN a).drewN b = w.drewN (a + b) := by
  induction b with
  | zero => rfl
  | succ b ih => show ((w.drewN a).drewN b).drew = _; rw [ih]; rfl

set_option maxHeartbeats 1000000 in
theorem srange_any (w : World) (B : Nat) (d : Int) (L : Nat) (T i : Int) (hs : SpanP d L T) (h : SpX w B d L) (h1 : 1 ≤ i) (h2 : i ≤ lastS L) :
    Calls Tryd.prog 50 #[.pointer (some ⟨B, 0, none⟩), .int .i64 i] w fun e w' => e = .returned (.tuple #[.int .u64 (lowI L i), .int .u64 (highI L i)]) ∧ ∃ n, w' = w.drewN n := by
  obtain ⟨c0, c1⟩ := spx_cells h
  obtain ⟨l4, l14⟩ := spanp_log hs
  have hpL := pow_le (show L ≤ 14 by omega)
  have e14 : (2 : Int) ^ 14 = 16384 := by decide
  have hp := pow_pos L
  have hl : lastS L ≤ 64 * 16384 := by
    unfold lastS; exact Int.mul_le_mul (by omega) (by omega) (by omega) (by omega)
  have HH := Lib.hid (shas_any w B d L T i true hs h (by unfold I64; omega) (decide_eq_true ⟨h1, h2⟩))
  obtain ⟨Z, hZ⟩ : ∃ Z : Int, (L : Int) = Z := ⟨_, rfl⟩
  rw [hZ] at c1
  have z0 : 4 ≤ Z := by omega
  have z1 : Z ≤ 14 := by omega
  have i1 : i ≤ 1048576 := by omega
  have hc : max (wrap64 (i / 2 ^ Z.toNat - 1)) 0 = (cutI L i : Int) := by
    have := Int.ediv_le_self (2 ^ L) (show 0 ≤ i by omega)
    have e0 : 0 ≤ i / 2 ^ L := (Int.le_ediv_iff_mul_le (by omega)).2 (by omega)
    rw [← hZ, Int.toNat_natCast, IntWalk.wrap64_in _ (by omega)]
    unfold cutI; omega
  have hk : cutI L i ≤ 63 := by
    have : i / 2 ^ L < 65 := by
      rw [Int.ediv_lt_iff_lt_mul (by omega)]
      have : lastS L ≤ 64 * 2 ^ L := by unfold lastS; exact Int.mul_le_mul_of_nonneg_right (by omega) (by omega)
      omega
    unfold cutI; omega
  obtain ⟨lo1, lo2, lo3⟩ := low_in L h1 h2 l14
  have hlow : lowI L i = (i - cutI L i * 2 ^ L) * 2 ^ cutI L i := rfl
  have hhigh : highI L i = min (lowI L i + (2 ^ cutI L i - 1)) 9223372036854775808 := rfl
  have hkm : (cutI L i : Int) * 2 ^ L ≤ 63 * 16384 := Int.mul_le_mul (by omega) (by omega) (by omega) (by omega)
  have hkm0 : 0 ≤ (cutI L i : Int) * 2 ^ L := Int.mul_nonneg (by omega) (by omega)
  have hkp := pow_pos (cutI L i)
  have hkq := pow_le hk
  have e63 : (2 : Int) ^ 63 = 9223372036854775808 := by decide
  have hpos : 0 ≤ i - cutI L i * 2 ^ L := by
    have : ¬ (i - cutI L i * 2 ^ L + 1 ≤ 0) := fun h => by
      have := Int.mul_le_mul_of_nonneg_right h (show 0 ≤ (2 : Int) ^ cutI L i by omega)
      rw [Int.add_mul] at this; omega
    omega
  have HLO : Hid (IntKind.u64.wrap (IntKind.u64.wrap (wrap64 (i - wrap64 ((cutI L i : Int) * 2 ^ Z.toNat))) * 2 ^ (cutI L i : Int).toNat) = lowI L i) := by
    refine Lib.hid ?_
    rw [← hZ, Int.toNat_natCast, Int.toNat_natCast, IntWalk.wrap64_in (_ * _) (by omega), IntWalk.wrap64_in _ (by omega), IntKind.wrap_u64 (_ - _), Int.emod_eq_of_lt (by omega) (by omega), ← hlow, IntKind.wrap_u64, Int.emod_eq_of_lt (by omega) (by omega)]
  have HHI : Hid (min (IntKind.u64.wrap (lowI L i + IntKind.u64.wrap (IntKind.u64.wrap (2 ^ (cutI L i : Int).toNat) - 1))) 9223372036854775808 = highI L i) := by
    refine Lib.hid ?_
    rw [Int.toNat_natCast, IntKind.wrap_u64 (_ ^ _), Int.emod_eq_of_lt (by omega) (by omega), IntKind.wrap_u64 (_ - _), Int.emod_eq_of_lt (by omega) (by omega), IntKind.wrap_u64, Int.emod_eq_of_lt (by omega) (by omega), hhigh]
  generalize highI L i = hi at *
  generalize lowI L i = lo at *
  generalize cutI L i = k at *
  obtain ⟨K, hK⟩ : ∃ K : Int, (k : Int) = K := ⟨_, rfl⟩
  rw [hK] at hc HLO HHI
  have K0 : 0 ≤ K := by omega
  have K1 : K ≤ 63 := by omega
  clear h2 hs h l4 l14 hpL e14 hp hl hZ hk lo3 hlow hhigh hkm hkm0 hkp hkq e63 hpos hK
  go_enter Tryd.func50, Tryd.ntmps50
  go_wp2_with fail
  refine HH.out.mono ?_
  rintro e w2 ⟨rfl, n, rfl⟩
  go_wp2_with fail
  go_quiet (fail)
  go_wp2_with fail
  go_ret2
  exact ⟨ret_uu HLO.out (by rw [HLO.out]; exact HHI.out), _, drewN_add _ _ _⟩

set_option maxHeartbeats 400000 in
theorem srep_none (w : World) (i : Int) (hi : I64 i) :
    Calls Tryd.prog 64 #[.pointer none, .int .i64 i] w fun e w' => e = .returned (.int .u64 0) ∧ w = w' := by
  go_enter Tryd.func64, Tryd.ntmps64
  go_wp2_with fail
  refine (srange_none _ i hi).mono ?_
  rintro e w2 ⟨rfl, rfl⟩
  go_wp2_with fail
  go_ret
  exact ⟨rfl, rfl⟩
set_option maxHeartbeats 400000 in
theorem srep_out (w : World) (B : Nat) (d : Int) (L : Nat) (T i : Int) (hs : SpanP d L T) (h : SpX w B d L) (hi : I64 i) (ho : ¬ (1 ≤ i ∧ i ≤ lastS L)) :
    Calls Tryd.prog 64 #[.pointer (some ⟨B, 0, none⟩), .int .i64 i] w fun e w' => e = .returned (.int .u64 0) ∧ ∃ n, w' = w.drewN n := by
  have HH := Lib.hid (srange_out w B d L T i hs h hi ho)
  clear hs h ho
  go_enter Tryd.func64, Tryd.ntmps64
  go_wp2_with fail
  refine HH.out.mono ?_
  rintro e w2 ⟨rfl, n, rfl⟩
  go_wp2_with fail
  go_ret
  exact ⟨rfl, _, rfl⟩

theorem high_in (L : Nat) {i : Int} (h1 : 1 ≤ i) (h2 : i ≤ lastS L) (hL : L ≤ 14) : 1 ≤ lowI L i ∧ lowI L i ≤ highI L i ∧ highI L i ≤ 9223372036854775808 := by
  obtain ⟨a, b, c⟩ := low_in L h1 h2 hL
  have := pow_pos (cutI L i)
  unfold highI; omega

set_option maxHeartbeats 400000 in
theorem srep_any (w : World) (B : Nat) (d : Int) (L : Nat) (T i : Int) (hs : SpanP d L T) (h : SpX w B d L) (h1 : 1 ≤ i) (h2 : i ≤ lastS L) :
    Calls Tryd.prog 64 #[.pointer (some ⟨B, 0, none⟩), .int .i64 i] w fun e w' => e = .returned (.int .u64 (midS (lowI L i) (highI L i))) ∧ ∃ n, w' = w.drewN n := by
  have HH := Lib.hid (srange_any w B d L T i hs h h1 h2)
  obtain ⟨a, b, c⟩ := high_in L h1 h2 (spanp_log hs).2
  clear hs h h1 h2
  generalize highI L i = hi at *
  generalize lowI L i = lo at *
  have E : Hid (lo + (hi - lo) / 2 = midS lo hi) := Lib.hid rfl
  go_enter Tryd.func64, Tryd.ntmps64
  go_wp2_with fail
  refine HH.out.mono ?_
  rintro e w2 ⟨rfl, n, rfl⟩
  go_wp2_with fail
  go_ret
  exact ⟨ret_int E.out, _, rfl⟩

/-- Behind Index: the span of a magnitude. -/
theorem srange_of (w : World) (B : Nat) (d : Int) (L : Nat) (T m : Int) (hs : SpanP d L T) (h : SpX w B d L) (h1 : 1 ≤ m) (h2 : m ≤ 9223372036854775808) :
    Calls Tryd.prog 50 #[.pointer (some ⟨B, 0, none⟩), .int .i64 (idxS L m)] w fun e w' => e = .returned (.tuple #[.int .u64 (loS L m), .int .u64 (hiS L m)]) ∧ ∃ n, w' = w.drewN n := by
  have hL := (spanp_log hs).2
  have := srange_any w B d L T (idxS L m) hs h (idx_bd L h1 h2 hL) (idx_last L h1 h2 hL)
  rw [low_idx L h1 h2 hL, high_idx L h1 h2 hL] at this
  exact this
theorem srep_of (w : World) (B : Nat) (d : Int) (L : Nat) (T m : Int) (hs : SpanP d L T) (h : SpX w B d L) (h1 : 1 ≤ m) (h2 : m ≤ 9223372036854775808) :
    Calls Tryd.prog 64 #[.pointer (some ⟨B, 0, none⟩), .int .i64 (idxS L m)] w fun e w' => e = .returned (.int .u64 (repS L m)) ∧ ∃ n, w' = w.drewN n := by
  have hL := (spanp_log hs).2
  have := srep_any w B d L T (idxS L m) hs h (idx_bd L h1 h2 hL) (idx_last L h1 h2 hL)
  rw [low_idx L h1 h2 hL, high_idx L h1 h2 hL] at this
  exact this

end Go.Proofs.YtojincgbnjkegaaDoor

/-
  Plain mathematics of layer 9 (lowcap): what is kept of a row, where so many indexes side by side are kept, the greatest ones.
  What package lowcap is to do, said once (proved elsewhere of the code); a nil one.
-/
namespace Go.Proofs.YtojincgbnjkegaaDoor
set_option linter.unusedVariables false
set_option linter.unusedSimpArgs false
open Go.RowKit

theorem lt_or_geI (a b : Int) : a < b ∨ b ≤ a := by omega
/-- The greatest index of a row. -/
def endP (L : List PairV) : Int := (lasP L).1
/-- What is kept of a row. -/
def keepP (m : Int) (L : List PairV) : List PairV := highP L (endP L - m)
theorem las_snoc (A : List PairV) (p : PairV) : lasP (A ++ [p]) = p := by unfold lasP; rw [List.getLast?_concat]; rfl
theorem end_snoc (A : List PairV) (p : PairV) : endP (A ++ [p]) = p.1 := by unfold endP; rw [las_snoc]
theorem end_mem {L : List PairV} (h : L ≠ []) : ∃ p, p ∈ L ∧ p.1 = endP L := by
  rcases List.eq_nil_or_concat L with rfl | ⟨A, p, rfl⟩
  · exact absurd rfl h
  · rw [List.concat_eq_append]; exact ⟨p, by simp, (end_snoc A p).symm⟩
theorem end_ge {L : List PairV} (hg : GoodP L) : ∀ p, p ∈ L → p.1 ≤ endP L := by
  intro p hp
  rcases List.eq_nil_or_concat L with rfl | ⟨A, q, rfl⟩
  · cases hp
  · rw [List.concat_eq_append] at *
    rw [end_snoc]
    rcases List.mem_append.1 hp with h | h
    · have := (good_app hg).2.2 p h q (by simp); omega
    · simp at h; subst h; exact Int.le_refl _
theorem end_i64 {L : List PairV} (h : ∀ p, p ∈ L → okP p) : I64 (endP L) := by
  by_cases hL : L = []
  · subst hL; exact ⟨by decide, by decide⟩
  · obtain ⟨p, hp, e⟩ := end_mem hL
    rw [← e]; exact (h p hp).1
theorem fir_i64 {L : List PairV} (h : ∀ p, p ∈ L → okP p) : I64 (firP L).1 := by
  cases L with
  | nil => exact ⟨by decide, by decide⟩
  | cons p r => exact (h p (by simp)).1
/-- Where there is a count there is a pair. -/
theorem count_mem {L : List PairV} {j : Int} (h : countP L j ≠ 0) : ∃ p, p ∈ L ∧ p.1 = j := by
  cases hf : L.filter fun p => p.1 == j with
  | nil => exact absurd (by unfold countP; rw [hf]; rfl) h
  | cons p r =>
    have hp : p ∈ L.filter fun p => p.1 == j := by rw [hf]; simp
    have := List.mem_filter.1 hp
    exact ⟨p, this.1, by simpa using this.2⟩
theorem mem_count {L : List PairV} (hg : GoodP L) {p : PairV} (hp : p ∈ L) : 1 ≤ countP L p.1 := by
  obtain ⟨A, B, rfl⟩ := List.append_of_mem hp
  have h1 := hg.1 p hp
  have h2 : 0 ≤ countP A p.1 := sumP_pos fun q hq => by have := hg.1 q (List.mem_append_left _ (List.mem_filter.1 hq).1); omega
  have h3 : 0 ≤ countP B p.1 := sumP_pos fun q hq => by have := hg.1 q (List.mem_append_right _ (List.mem_cons_of_mem _ (List.mem_filter.1 hq).1)); omega
  rw [countP_app, count_cons, if_pos rfl]; omega
theorem count_end {L : List PairV} (hg : GoodP L) (h : L ≠ []) : 1 ≤ countP L (endP L) := by
  obtain ⟨p, hp, e⟩ := end_mem h
  rw [← e]; exact mem_count hg hp
theorem count_past {L : List PairV} (hg : GoodP L) {j : Int} (h : endP L < j) : countP L j = 0 := by
  by_cases hc : countP L j = 0
  · exact hc
  · obtain ⟨p, hp, e⟩ := count_mem hc
    have := end_ge hg p hp; omega
/-- The end is told by the counts. -/
theorem end_uniq {L : List PairV} (hg : GoodP L) {e : Int} (h1 : 1 ≤ countP L e) (h2 : ∀ j, e < j → countP L j = 0) : endP L = e := by
  obtain ⟨p, hp, he⟩ := count_mem (L := L) (j := e) (by omega)
  have hne : L ≠ [] := by rintro rfl; cases hp
  have h3 := end_ge hg p hp
  have h4 := count_end hg hne
  rcases lt_or_geI e (endP L) with h | h
  · have := h2 _ h; omega
  · omega
theorem ne_of_count {L : List PairV} {j : Int} (h : 1 ≤ countP L j) : L ≠ [] := by
  rintro rfl
  have : countP [] j = 0 := rfl
  omega

theorem keep_nil (m : Int) : keepP m [] = [] := rfl
theorem keep_count (m : Int) (L : List PairV) (j : Int) : countP (keepP m L) j = if endP L - m < j then countP L j else 0 := count_high _ _ _
theorem keep_mem {m : Int} {L : List PairV} {p : PairV} (h : p ∈ keepP m L) : p ∈ L ∧ endP L - m < p.1 := highP_mem h
theorem keep_good {m : Int} {L : List PairV} (h : GoodP L) : GoodP (keepP m L) := good_filter _ h
theorem keep_ok {m : Int} {L : List PairV} (h : ∀ p, p ∈ L → okP p) : ∀ p, p ∈ keepP m L → okP p := fun p hp => h p (keep_mem hp).1
theorem keep_le (m : Int) (L : List PairV) : (keepP m L).length ≤ L.length := List.length_filter_le _ _
theorem keep_ne {m : Int} {L : List PairV} (hm : 0 < m) (h : L ≠ []) : keepP m L ≠ [] := by
  obtain ⟨p, hp, e⟩ := end_mem h
  have : p ∈ keepP m L := List.mem_filter.2 ⟨hp, by simp; omega⟩
  intro h0; rw [h0] at this; cases this
theorem keep_end {m : Int} {L : List PairV} (hm : 0 < m) (hg : GoodP L) (h : L ≠ []) : endP (keepP m L) = endP L := by
  refine end_uniq (keep_good hg) ?_ fun j hj => ?_
  · rw [keep_count, if_pos (by omega)]; exact count_end hg h
  · rw [keep_count, if_pos (by omega)]; exact count_past hg hj
theorem keep_idem {m : Int} {L : List PairV} (hm : 0 < m) (hg : GoodP L) : keepP m (keepP m L) = keepP m L := by
  by_cases h : L = []
  · subst h; rfl
  · refine good_ext (keep_good (keep_good hg)) (keep_good hg) fun j => ?_
    rw [keep_count, keep_end hm hg h, keep_count]
    split <;> rfl
/-- Rows with the same end, and the same counts near it, keep the same. -/
theorem keep_ext {m : Int} {L M : List PairV} (hL : GoodP L) (hM : GoodP M) (he : endP L = endP M) (hc : ∀ j, endP L - m < j → countP L j = countP M j) : keepP m L = keepP m M := by
  refine good_ext (keep_good hL) (keep_good hM) fun j => ?_
  rw [keep_count, keep_count, ← he]
  by_cases h : endP L - m < j
  · rw [if_pos h, if_pos h, hc j h]
  · rw [if_neg h, if_neg h]
theorem sumP_filter (f : PairV → Bool) : ∀ {L : List PairV}, (∀ p, p ∈ L → 0 ≤ p.2) → 0 ≤ sumP (L.filter f) ∧ sumP (L.filter f) ≤ sumP L := by
  intro L
  induction L with
  | nil => intro _; exact ⟨Int.le_refl _, Int.le_refl _⟩
  | cons p r ih =>
    intro h
    have h1 := h p (by simp)
    have h2 := ih fun q hq => h q (List.mem_cons_of_mem _ hq)
    by_cases hf : f p = true
    · rw [List.filter_cons_of_pos hf, sumP_cons, sumP_cons]; omega
    · rw [List.filter_cons_of_neg hf, sumP_cons]; omega
theorem keep_sum (m : Int) {L : List PairV} (h : ∀ p, p ∈ L → 0 ≤ p.2) : 0 ≤ sumP (keepP m L) ∧ sumP (keepP m L) ≤ sumP L := sumP_filter _ h
/-- Indexes that lie close to one another are few. -/
theorem spread_len : ∀ (L : List PairV) (a b : Int), GoodP L → a ≤ b → (∀ p, p ∈ L → a < p.1 ∧ p.1 ≤ b) → (L.length : Int) ≤ b - a := by
  intro L
  induction L with
  | nil => intro a b _ h _; simp; omega
  | cons p r ih =>
    intro a b hg hab h
    have h1 := h p (by simp)
    have h2 := (List.pairwise_cons.1 hg.2).1
    have h3 := ih p.1 b (good_drop 1 hg) h1.2 fun q hq => ⟨h2 q hq, (h q (List.mem_cons_of_mem _ hq)).2⟩
    rw [List.length_cons]; omega
theorem keep_len {m : Int} {L : List PairV} (hm : 0 ≤ m) (hg : GoodP L) : ((keepP m L).length : Int) ≤ m := by
  have := spread_len (keepP m L) (endP L - m) (endP L) (keep_good hg) (by omega) fun p hp => ⟨(keep_mem hp).2, end_ge hg p (keep_mem hp).1⟩
  omega

/-- The end behind an addition. -/
theorem end_add {L : List PairV} {i c : Int} (hg : GoodP L) (hn : countP L i + c ≤ 9223372036854775807) (hc : 0 < c) (h0 : 0 ≤ countP L i) : endP (addP L i c) = if L = [] then i else max (endP L) i := by
  have hC := count_add (L := L) (i := i) (c := c) (by omega)
  refine end_uniq (add_good hg hn) ?_ fun j hj => ?_
  · rw [hC]
    by_cases h : L = []
    · subst h; rw [if_pos rfl, if_pos rfl]; have : countP [] i = 0 := rfl; omega
    · rw [if_neg h]
      rcases lt_or_geI (endP L) i with h1 | h1
      · rw [Int.max_eq_right (by omega), if_pos rfl]; omega
      · rw [Int.max_eq_left h1]; have := count_end hg h; split <;> omega
  · rw [hC]
    by_cases h : L = []
    · subst h; rw [if_pos rfl] at hj; rw [if_neg (by omega)]; rfl
    · rw [if_neg h] at hj
      rw [count_past hg (by omega), if_neg (by omega)]; rfl
theorem cnt_pos {L : List PairV} (hg : GoodP L) (i : Int) : 0 ≤ countP L i := sumP_pos fun p hp => by have := hg.1 p (List.mem_filter.1 hp).1; omega
theorem keep_cnt_le {m : Int} {L : List PairV} (hg : GoodP L) (i : Int) : countP (keepP m L) i ≤ countP L i := by
  rw [keep_count]; have := cnt_pos hg i; split <;> omega
/-- What is added to what is kept is kept as it is of all. -/
theorem keep_add {m : Int} {A : List PairV} {i c : Int} (hm : 0 < m) (hg : GoodP A) (hn : countP A i + c ≤ 9223372036854775807) (hc : 0 < c) : keepP m (addP (keepP m A) i c) = keepP m (addP A i c) := by
  by_cases h : A = []
  · subst h; rfl
  · have hk := keep_cnt_le (m := m) hg i
    have h0 := cnt_pos hg i
    have h1 := cnt_pos (keep_good (m := m) hg) i
    have e1 := end_add (keep_good (m := m) hg) (by omega) hc h1
    have e2 := end_add hg hn hc h0
    rw [if_neg (keep_ne hm h), keep_end hm hg h] at e1
    rw [if_neg h] at e2
    refine keep_ext (add_good (keep_good hg) (by omega)) (add_good hg hn) (e1.trans e2.symm) fun j hj => ?_
    rw [e1] at hj
    rw [count_add (by omega), count_add (by omega), keep_count, if_pos (by omega)]
/-- Too far below the end: all stays as it was. -/
theorem keep_far {m : Int} {K : List PairV} {i c : Int} (hm : 0 < m) (hg : GoodP K) (hk : keepP m K = K) (hn : countP K i + c ≤ 9223372036854775807) (hc : 0 < c) (hne : K ≠ []) (hf : i ≤ endP K - m) : keepP m (addP K i c) = K := by
  have h0 := cnt_pos hg i
  have e2 := end_add hg hn hc h0
  rw [if_neg hne, Int.max_eq_left (by omega)] at e2
  refine Eq.trans (keep_ext (add_good hg hn) hg e2 fun j hj => ?_) hk
  rw [e2] at hj
  rw [count_add (by omega), if_neg (by omega), Int.add_zero]
/-- Else what lies too far below goes, and the rest is added to. -/
theorem keep_near {m : Int} {K : List PairV} {i c : Int} (hm : 0 < m) (hg : GoodP K) (hk : keepP m K = K) (hn : countP K i + c ≤ 9223372036854775807) (hc : 0 < c) (hf : K = [] ∨ endP K - m < i) : keepP m (addP K i c) = addP (highP K (i - m)) i c := by
  have h0 := cnt_pos hg i
  have e2 := end_add hg hn hc h0
  have hh : countP (highP K (i - m)) i = countP K i := by rw [count_high, if_pos (by omega)]
  refine good_ext (keep_good (add_good hg hn)) (add_good (good_filter _ hg) (by rw [hh]; exact hn)) fun j => ?_
  rw [keep_count, e2, count_add (by omega), count_add (by rw [hh]; omega), count_high]
  by_cases h : K = []
  · subst h
    rw [if_pos rfl]
    have hz : countP [] j = 0 := rfl
    rw [hz]
    by_cases hj : j = i
    · subst hj; by_cases hx : j - m < j <;> simp [hx]; omega
    · by_cases hx : i - m < j <;> simp [hx, hj]
  · rw [if_neg h]
    have hf' : endP K - m < i := by rcases hf with h1 | h1; exact absurd h1 h; exact h1
    have hz : j ≤ endP K - m → countP K j = 0 := fun hj => by rw [← hk, keep_count, if_neg (by omega)]
    rcases lt_or_geI (endP K) i with h1 | h1
    · rw [Int.max_eq_right (by omega)]
      by_cases hj : i - m < j
      · rw [if_pos hj, if_pos hj]
      · rw [if_neg hj, if_neg hj, if_neg (by omega)]; rfl
    · rw [Int.max_eq_left h1]
      by_cases hj : endP K - m < j
      · rw [if_pos hj, if_pos (show i - m < j by omega)]
      · have hz' := hz (by omega)
        rw [if_neg hj, hz', if_neg (show ¬ j = i by omega)]
        split <;> rfl
/-- Where the front of a good row goes. -/
theorem high_drop {K : List PairV} {x : Int} {k : Nat} (hg : GoodP K) (h1 : ∀ p, p ∈ K.take k → p.1 ≤ x) (h2 : K.drop k = [] ∨ x < (firP (K.drop k)).1) : highP K x = K.drop k := by
  have e : highP K x = highP (K.take k ++ K.drop k) x := by rw [List.take_append_drop]
  rw [e]
  unfold highP
  rw [List.filter_append, List.filter_eq_nil_iff.2 (fun p hp => by have := h1 p hp; simp; omega), List.nil_append, List.filter_eq_self]
  intro p hp
  rcases h2 with h | h
  · rw [h] at hp; cases hp
  · have hg2 := good_drop k hg
    revert hp h hg2
    generalize K.drop k = R
    intro hp h hg2
    cases R with
    | nil => cases hp
    | cons q r =>
      have h' : x < q.1 := h
      rcases List.mem_cons.1 hp with rfl | h3
      · simpa using h'
      · have := (List.pairwise_cons.1 hg2.2).1 p h3; simp; omega
theorem sum_high_drop {K : List PairV} {k : Nat} : sumP K - sumP (K.drop k) = sumP (K.take k) := by
  have e := sumP_app (K.take k) (K.drop k)
  rw [List.take_append_drop] at e
  omega

/-- All pairs of a row, added one by one to another one. -/
def joinP (A B : List PairV) : List PairV := B.foldl (fun R p => addP R p.1 p.2) A
theorem join_nil (A : List PairV) : joinP A [] = A := rfl
theorem join_cons (A : List PairV) (p : PairV) (r : List PairV) : joinP A (p :: r) = joinP (addP A p.1 p.2) r := rfl
theorem join_snoc (A B : List PairV) (p : PairV) : joinP A (B ++ [p]) = addP (joinP A B) p.1 p.2 := by unfold joinP; rw [List.foldl_append]; rfl
theorem join_fold (A : List PairV) : joinP [] A = foldP A := rfl
theorem join_app (A B C : List PairV) : joinP A (B ++ C) = joinP (joinP A B) C := by unfold joinP; rw [List.foldl_append]
/-- What is known of such a row. -/
structure Joined (A B R : List PairV) : Prop where
  good : GoodP R
  ok : ∀ p, p ∈ R → okP p
  cnt : ∀ j, countP R j = countP A j + countP B j
  sum : sumP R = sumP A + sumP B
  len : R.length ≤ A.length + B.length
theorem join_facts : ∀ (B A : List PairV), GoodP A → (∀ p, p ∈ A → okP p) → (∀ p, p ∈ B → okP p ∧ 0 < p.2) → sumP A + sumP B ≤ 9223372036854775807 → Joined A B (joinP A B) := by
  intro B
  induction B with
  | nil => intro A h1 h2 _ _; exact ⟨h1, h2, fun j => by show _ = countP A j + 0; rw [Int.add_zero]; rfl, by rw [sumP_nil, Int.add_zero]; rfl, Nat.le_refl _⟩
  | cons p r ih =>
    intro A h1 h2 h3 h4
    have hp := h3 p (by simp)
    have hr : ∀ q, q ∈ r → okP q ∧ 0 < q.2 := fun q hq => h3 q (List.mem_cons_of_mem _ hq)
    have hrs := sumP_pos (L := r) fun q hq => by have := hr q hq; omega
    have hc := count_le_sum p.1 (ok_pos h2)
    rw [sumP_cons] at h4
    have hs := add_sum (L := A) (i := p.1) (c := p.2) (by omega)
    have hi := ih (addP A p.1 p.2) (add_good h1 (by omega)) (add_ok h2 hp.1.1 (by omega)) hr (by rw [hs]; omega)
    rw [join_cons]
    refine ⟨hi.good, hi.ok, fun j => ?_, ?_, ?_⟩
    · rw [hi.cnt, count_add (by omega), count_cons]
      by_cases e : j = p.1
      · rw [if_pos e, if_pos e.symm]; omega
      · rw [if_neg e, if_neg (fun h => e h.symm)]; omega
    · rw [hi.sum, hs, sumP_cons]; omega
    · have := hi.len; have := add_len A p.1 p.2; rw [List.length_cons]; omega
theorem good_each {B : List PairV} (hg : GoodP B) (h : ∀ p, p ∈ B → okP p) : ∀ p, p ∈ B → okP p ∧ 0 < p.2 := fun p hp => ⟨h p hp, by have := hg.1 p hp; omega⟩
/-- Merging what is kept is what is kept of all. -/
theorem keep_join {m : Int} {A B : List PairV} (hm : 0 < m) (hA : GoodP A) (oA : ∀ p, p ∈ A → okP p) (hB : GoodP B) (oB : ∀ p, p ∈ B → okP p) (hs : sumP A + sumP B ≤ 9223372036854775807) : keepP m (joinP (keepP m A) (keepP m B)) = keepP m (joinP A B) := by
  have sA := keep_sum m (ok_pos oA)
  have sB := keep_sum m (ok_pos oB)
  have J1 := join_facts (keepP m B) (keepP m A) (keep_good hA) (keep_ok oA) (good_each (keep_good hB) (keep_ok oB)) (by omega)
  have J2 := join_facts B A hA oA (good_each hB oB) hs
  have hc0 : ∀ j, countP [] j = 0 := fun j => rfl
  by_cases eA : A = []
  · subst eA
    have e1 : joinP (keepP m []) (keepP m B) = keepP m B := good_ext J1.good (keep_good hB) fun j => by rw [J1.cnt, keep_nil, hc0, Int.zero_add]
    have e2 : joinP [] B = B := good_ext J2.good hB fun j => by rw [J2.cnt, hc0, Int.zero_add]
    rw [e1, e2, keep_idem hm hB]
  · by_cases eB : B = []
    · subst eB
      rw [keep_nil, join_nil, join_nil, keep_idem hm hA]
    · have cA := count_end hA eA
      have cB := count_end hB eB
      have f1 : endP (joinP (keepP m A) (keepP m B)) = max (endP A) (endP B) := by
        refine end_uniq J1.good ?_ fun j hj => ?_
        · rw [J1.cnt, keep_count, keep_count]
          rcases lt_or_geI (endP A) (endP B) with h | h
          · rw [Int.max_eq_right (by omega), if_pos (show endP B - m < endP B by omega)]
            have := cnt_pos hA (endP B); split <;> omega
          · rw [Int.max_eq_left h, if_pos (show endP A - m < endP A by omega)]
            have := cnt_pos hB (endP A); split <;> omega
        · rw [J1.cnt, keep_count, keep_count, count_past hA (by omega), count_past hB (by omega)]
          split <;> split <;> rfl
      have f2 : endP (joinP A B) = max (endP A) (endP B) := by
        refine end_uniq J2.good ?_ fun j hj => ?_
        · rw [J2.cnt]
          rcases lt_or_geI (endP A) (endP B) with h | h
          · rw [Int.max_eq_right (by omega)]; have := cnt_pos hA (endP B); omega
          · rw [Int.max_eq_left h]; have := cnt_pos hB (endP A); omega
        · rw [J2.cnt, count_past hA (by omega), count_past hB (by omega)]; rfl
      refine keep_ext J1.good J2.good (f1.trans f2.symm) fun j hj => ?_
      rw [f1] at hj
      rw [J1.cnt, J2.cnt, keep_count, keep_count, if_pos (by omega), if_pos (by omega)]
/-- In whatever order a row is gone over. -/
theorem countP_rev (L : List PairV) (j : Int) : countP L.reverse j = countP L j := by
  induction L with
  | nil => rfl
  | cons p r ih => rw [List.reverse_cons, countP_app, ih, countP_one, count_cons]; omega
theorem sumP_rev (L : List PairV) : sumP L.reverse = sumP L := by
  induction L with
  | nil => rfl
  | cons p r ih => rw [List.reverse_cons, sumP_app, ih, sumP_one, sumP_cons]; omega
theorem join_rev {A B : List PairV} (hA : GoodP A) (oA : ∀ p, p ∈ A → okP p) (oB : ∀ p, p ∈ B → okP p ∧ 0 < p.2) (hs : sumP A + sumP B ≤ 9223372036854775807) : joinP A B.reverse = joinP A B := by
  have J1 := join_facts B.reverse A hA oA (fun p hp => oB p (List.mem_reverse.1 hp)) (by rw [sumP_rev]; exact hs)
  have J2 := join_facts B A hA oA oB hs
  exact good_ext J1.good J2.good fun j => by rw [J1.cnt, J2.cnt, countP_rev]

/-- The lost ones stand ahead of those that are kept. -/
theorem part_at {L : List PairV} (x : Int) (hg : GoodP L) : (L.filter fun p => decide (p.1 ≤ x)) ++ highP L x = L := by
  have hC : ∀ j, countP (L.filter fun p => decide (p.1 ≤ x)) j = if j ≤ x then countP L j else 0 := by
    intro j
    unfold countP
    rw [List.filter_filter]
    by_cases h : j ≤ x
    · rw [if_pos h]; congr 1
      refine List.filter_congr fun p _ => ?_
      by_cases e : p.1 = j
      · subst e; simp [h]
      · simp [e]
    · rw [if_neg h, List.filter_eq_nil_iff.2]; rfl
      intro p _
      simp only [Bool.and_eq_true, decide_eq_true_eq, beq_iff_eq, not_and]
      intro e; omega
  refine good_ext (good_mk (good_filter _ hg) (good_filter _ hg) fun p hp q hq => ?_) hg fun j => ?_
  · have h1 := (List.mem_filter.1 hp).2
    have h2 := (highP_mem hq).2
    simp at h1; omega
  · rw [countP_app, hC, count_high]
    by_cases h : j ≤ x
    · rw [if_pos h, if_neg (by omega), Int.add_zero]
    · rw [if_neg h, if_pos (by omega), Int.zero_add]
/-- Where the t-th one stands, ahead of a row's kept part or in it. -/
theorem seek_cons (t s : Int) (p : PairV) (r : List PairV) : seekP t s (p :: r) = if t ≤ s + p.2 then some p.1 else seekP t (s + p.2) r := rfl
theorem seek_app (t : Int) : ∀ (A B : List PairV) (s : Int), seekP t s (A ++ B) = match seekP t s A with | some x => some x | none => seekP t (s + sumP A) B := by
  intro A
  induction A with
  | nil => intro B s; rw [List.nil_append, sumP_nil, Int.add_zero]; rfl
  | cons p r ih =>
    intro B s
    rw [List.cons_append, seek_cons, seek_cons]
    by_cases h : t ≤ s + p.2
    · rw [if_pos h, if_pos h]
    · rw [if_neg h, if_neg h, ih, sumP_cons, ← Int.add_assoc]
theorem seek_shift (t d : Int) : ∀ (L : List PairV) (s : Int), seekP t (s + d) L = seekP (t - d) s L := by
  intro L
  induction L with
  | nil => intro s; rfl
  | cons p r ih =>
    intro s
    unfold seekP
    by_cases h : t ≤ s + d + p.2
    · rw [if_pos h, if_pos (by omega)]
    · rw [if_neg h, if_neg (by omega), show s + d + p.2 = s + p.2 + d by omega, ih]
theorem seek_some (t : Int) : ∀ (A : List PairV) (s : Int), t ≤ s + sumP A → A ≠ [] → ∃ x, seekP t s A = some x ∧ ∃ p, p ∈ A ∧ p.1 = x := by
  intro A
  induction A with
  | nil => intro s _ h; exact absurd rfl h
  | cons p r ih =>
    intro s h _
    unfold seekP
    by_cases hc : t ≤ s + p.2
    · rw [if_pos hc]; exact ⟨_, rfl, p, by simp, rfl⟩
    · rw [if_neg hc]
      rw [sumP_cons] at h
      by_cases hr : r = []
      · subst hr; rw [sumP_nil] at h; omega
      · obtain ⟨x, hx, q, hq, e⟩ := ih (s + p.2) (by omega) hr
        exact ⟨x, hx, q, List.mem_cons_of_mem _ hq, e⟩
/-- What Find of a lowcap tells: of those that are kept, so many being lost. -/
def findL (K : List PairV) (l t : Int) : Option Int := if t ≤ l then none else findP K (t - l)
/-- .. is what is asked for of all, unless it is lost. -/
theorem find_keep {m : Int} {A : List PairV} (hm : 0 < m) (hg : GoodP A) (t : Int) :
    findL (keepP m A) (sumP A - sumP (keepP m A)) t = match findP A t with | none => none | some x => if endP A - x < m then some x else none := by
  have hp := part_at (endP A - m) hg
  obtain ⟨D, hD⟩ : ∃ D, (A.filter fun p => decide (p.1 ≤ endP A - m)) = D := ⟨_, rfl⟩
  have hDm : ∀ p, p ∈ D → p.1 ≤ endP A - m := fun p h => by rw [← hD] at h; have := (List.mem_filter.1 h).2; simpa using this
  have hDp : 0 ≤ sumP D := sumP_pos fun p h => by rw [← hD] at h; have := hg.1 p (List.mem_filter.1 h).1; omega
  rw [hD] at hp
  obtain ⟨K, hK⟩ : ∃ K, keepP m A = K := ⟨_, rfl⟩
  have hp' : D ++ K = A := by rw [← hK]; exact hp
  have hs : sumP A - sumP K = sumP D := by have := sumP_app D K; rw [hp'] at this; omega
  have hKm : ∀ p, p ∈ K → endP A - p.1 < m := fun p h => by rw [← hK] at h; have := (keep_mem h).2; omega
  rw [hK, hs]
  unfold findL
  by_cases ht : t ≤ sumP D
  · rw [if_pos ht]
    unfold findP
    by_cases h0 : 0 < t
    · have hne : D ≠ [] := by rintro rfl; rw [sumP_nil] at ht; omega
      obtain ⟨x, hx, p, hpm, e⟩ := seek_some t D 0 (by omega) hne
      rw [if_pos h0, ← hp', seek_app, hx]
      have := hDm p hpm
      show none = if endP (D ++ K) - x < m then some x else none
      rw [hp', if_neg (by omega)]
    · rw [if_neg h0]
  · rw [if_neg ht]
    unfold findP
    have hn : seekP t 0 D = none := seek_none t D 0 (fun q hq => by rw [← hD] at hq; have := hg.1 q (List.mem_filter.1 hq).1; omega) (by omega)
    rw [if_pos (by omega), if_pos (by omega)]
    have e : seekP t 0 A = seekP (t - sumP D) 0 K := by
      rw [← hp', seek_app, hn]
      show seekP t (0 + sumP D) K = _
      rw [seek_shift]
    rw [e]
    cases hf : seekP (t - sumP D) 0 K with
    | none => rfl
    | some x =>
      have hx : ∃ p, p ∈ K ∧ p.1 = x := by
        have key : ∀ (L : List PairV) (s x : Int), seekP (t - sumP D) s L = some x → ∃ p, p ∈ L ∧ p.1 = x := by
          intro L
          induction L with
          | nil => intro s x h; cases h
          | cons p r ih =>
            intro s x h
            unfold seekP at h
            split at h
            · exact ⟨p, by simp, Option.some.inj h⟩
            · obtain ⟨q, hq, e⟩ := ih _ x h
              exact ⟨q, List.mem_cons_of_mem _ hq, e⟩
        exact key K 0 x hf
      obtain ⟨p, hpm, e⟩ := hx
      have := hKm p hpm
      show some x = if endP A - x < m then some x else none
      rw [if_pos (by omega)]
/-- How many there are up to an index: at least, and at most. -/
def lowB (m : Int) (K : List PairV) (l i : Int) : Int := if K ≠ [] ∧ m < endP K - i then 0 else l + belowP K i
def highB (m : Int) (K : List PairV) (l i : Int) : Int := if K ≠ [] ∧ m < endP K - i then l else l + belowP K i
theorem below_keep {m : Int} {A : List PairV} (hm : 0 < m) (hg : GoodP A) (i : Int) :
    lowB m (keepP m A) (sumP A - sumP (keepP m A)) i ≤ belowP A i ∧ belowP A i ≤ highB m (keepP m A) (sumP A - sumP (keepP m A)) i ∧
    (lowB m (keepP m A) (sumP A - sumP (keepP m A)) i = highB m (keepP m A) (sumP A - sumP (keepP m A)) i ∨ (A ≠ [] ∧ 0 < sumP A - sumP (keepP m A))) := by
  have hp := part_at (endP A - m) hg
  obtain ⟨D, hD⟩ : ∃ D, (A.filter fun p => decide (p.1 ≤ endP A - m)) = D := ⟨_, rfl⟩
  have hDm : ∀ p, p ∈ D → p.1 ≤ endP A - m := fun p h => by rw [← hD] at h; have := (List.mem_filter.1 h).2; simpa using this
  have hDq : ∀ p, p ∈ D → 0 ≤ p.2 := fun p h => by rw [← hD] at h; have := hg.1 p (List.mem_filter.1 h).1; omega
  have hDp : 0 ≤ sumP D := sumP_pos hDq
  rw [hD] at hp
  by_cases h : A = []
  · subst h
    have e : (keepP m [] : List PairV) = [] := rfl
    rw [e]
    unfold lowB highB
    simp [belowP, sumP]
  have hen := keep_end hm hg h
  have hkn := keep_ne hm h
  obtain ⟨K, hK⟩ : ∃ K, keepP m A = K := ⟨_, rfl⟩
  have hp' : D ++ K = A := by rw [← hK]; exact hp
  have hs : sumP A - sumP K = sumP D := by have := sumP_app D K; rw [hp'] at this; omega
  have hKm : ∀ p, p ∈ K → endP A - m < p.1 := fun p h => by rw [← hK] at h; exact (keep_mem h).2
  have hb : belowP A i = belowP D i + belowP K i := by rw [← hp']; exact below_app D K i
  rw [hK] at hen hkn ⊢
  rw [hs]
  have hb1 := below_le (L := D) i hDq
  have hb0 : 0 ≤ belowP D i := (sumP_filter _ hDq).1
  unfold lowB highB
  by_cases hc : m < endP K - i
  · rw [if_pos ⟨hkn, hc⟩, if_pos ⟨hkn, hc⟩]
    have hz : belowP K i = 0 := by
      unfold belowP
      rw [List.filter_eq_nil_iff.2 (fun p hp => by have := hKm p hp; simp; omega)]; rfl
    refine ⟨by omega, by omega, ?_⟩
    by_cases hz' : sumP D = 0
    · exact Or.inl hz'.symm
    · exact Or.inr ⟨h, by omega⟩
  · rw [if_neg (fun h => hc h.2), if_neg (fun h => hc h.2)]
    have hall : belowP D i = sumP D := by
      unfold belowP
      rw [List.filter_eq_self.2 (fun p hp => by have := hDm p hp; simp; omega)]
    exact ⟨by omega, by omega, Or.inl rfl⟩
end Go.Proofs.YtojincgbnjkegaaDoor

namespace Go.Proofs.YtojincgbnjkegaaDoor
set_option linter.unusedVariables false
set_option linter.unusedSimpArgs false
open Go.RowKit

/-- What a lowcap of m indexes can keep, T being all that was added. -/
structure Lwp (m : Int) (K : List PairV) (T : Int) : Prop where
  good : GoodP K
  ok : ∀ p, p ∈ K → okP p
  kept : keepP m K = K
  sum : sumP K ≤ T
  top : T ≤ 9223372036854775807
  m1 : 1 ≤ m
  m2 : m ≤ 4096
theorem Lwp.pos {m : Int} {K : List PairV} {T : Int} (h : Lwp m K T) : 0 ≤ sumP K := sumP_pos (ok_pos h.ok)
theorem Lwp.nil {m : Int} (h1 : 1 ≤ m) (h2 : m ≤ 4096) : Lwp m [] 0 := ⟨good_nil, fun p h => (by cases h), rfl, Int.le_refl _, by decide, h1, h2⟩
theorem Lwp.cnt {m : Int} {K : List PairV} {T : Int} (h : Lwp m K T) (i : Int) : 0 ≤ countP K i ∧ countP K i ≤ sumP K := count_le_sum i (ok_pos h.ok)
theorem Lwp.stp {m : Int} {K : List PairV} {T : Int} (h : Lwp m K T) : Stp m K :=
  ⟨h.good, h.ok, Int.le_trans h.sum h.top, by have := keep_len (m := m) (by have := h.m1; omega) h.good; rw [h.kept] at this; exact this⟩
theorem Lwp.add {m : Int} {K : List PairV} {T i c : Int} (h : Lwp m K T) (hi : I64 i) (hc : 0 < c) (hs : T + c ≤ 9223372036854775807) : Lwp m (keepP m (addP K i c)) (T + c) := by
  have h1 := h.cnt i
  have h2 := h.sum
  have h3 : 0 < m := by have := h.m1; omega
  have h4 := add_good h.good (i := i) (c := c) (by omega)
  have h5 := add_ok h.ok hi (c := c) (by omega)
  have h6 := add_sum (L := K) (i := i) (c := c) (by omega)
  have h7 := keep_sum m (ok_pos h5)
  exact ⟨keep_good h4, keep_ok h5, keep_idem h3 h4, by omega, hs, h.m1, h.m2⟩
theorem Lwp.join {m : Int} {K K' : List PairV} {T T' : Int} (h : Lwp m K T) (h' : Lwp m K' T') (hs : T + T' ≤ 9223372036854775807) : Lwp m (keepP m (joinP K K')) (T + T') := by
  have h2 := h.sum
  have h2' := h'.sum
  have h3 : 0 < m := by have := h.m1; omega
  have J := join_facts K' K h.good h.ok (good_each h'.good h'.ok) (by omega)
  have h7 := keep_sum m (ok_pos J.ok)
  exact ⟨keep_good J.good, keep_ok J.ok, keep_idem h3 J.good, by have := J.sum; omega, hs, h.m1, h.m2⟩
/-- Of all that was added. -/
theorem Lwp.of {m : Int} {A : List PairV} (hg : GoodP A) (ho : ∀ p, p ∈ A → okP p) (hs : sumP A ≤ 9223372036854775807) (h1 : 1 ≤ m) (h2 : m ≤ 4096) : Lwp m (keepP m A) (sumP A) :=
  ⟨keep_good hg, keep_ok ho, keep_idem (by omega) hg, (keep_sum m (ok_pos ho)).2, hs, h1, h2⟩

/-- What adding tells; what is kept then, and how many there are in all. -/
def lwErr (T c : Int) : Int := if c = 0 then 1 else if 9223372036854775807 - T < c then 6 else 0
def lwRow (m : Int) (K : List PairV) (T i c : Int) : List PairV := if lwErr T c = 0 then keepP m (addP K i c) else K
def lwSum (T c : Int) : Int := if lwErr T c = 0 then T + c else T
theorem lwErr_cases {T c : Int} (hc : Word c) : (c = 0 ∧ lwErr T c = 1) ∨ (0 < c ∧ 9223372036854775807 - T < c ∧ lwErr T c = 6) ∨ (0 < c ∧ c ≤ 9223372036854775807 - T ∧ lwErr T c = 0) := by
  unfold Word at hc
  unfold lwErr
  by_cases h0 : c = 0
  · exact Or.inl ⟨h0, by rw [if_pos h0]⟩
  · rw [if_neg h0]
    by_cases h1 : 9223372036854775807 - T < c
    · exact Or.inr (Or.inl ⟨by omega, h1, by rw [if_pos h1]⟩)
    · exact Or.inr (Or.inr ⟨by omega, by omega, by rw [if_neg h1]⟩)
/-- Whether such a row, and so many lost beside it, can be. -/
def loadB (m : Int) (L : List PairV) (l : Int) : Bool := goodB L && decide ((L.length : Int) ≤ m) && decide (L = [] → l = 0) && decide (sumP L + l ≤ 9223372036854775807) && decide (L ≠ [] → endP L - (firP L).1 < m)

/-- Lw w B S m K T: at block B lies a lowcap of m indexes that keeps K, of T in all; S are its blocks. -/
structure LowDoes (Lw : World → Nat → (Nat → Prop) → Int → List PairV → Int → Prop) : Prop where
  keep : ∀ (w w' : World) (B : Nat) (S : Nat → Prop) (m : Int) (K : List PairV) (T : Int), Lw w B S m K T → (∀ k, S k → w'.heap[k]? = w.heap[k]?) → Lw w' B S m K T
  lt : ∀ (w : World) (B : Nat) (S : Nat → Prop) (m : Int) (K : List PairV) (T : Int), Lw w B S m K T → ∀ k, S k → k < w.heap.size
  lwp : ∀ (w : World) (B : Nat) (S : Nat → Prop) (m : Int) (K : List PairV) (T : Int), Lw w B S m K T → Lwp m K T
theorem LowDoes.call {Lw : World → Nat → (Nat → Prop) → Int → List PairV → Int → Prop} (D : LowDoes Lw) {w w' : World} {B : Nat} {S : Nat → Prop} {m : Int} {K : List PairV} {T : Int} (h : Lw w B S m K T) (hb : Below w.heap.size w w') : Lw w' B S m K T :=
  D.keep w w' B S m K T h fun k hk => hb.block k (D.lt _ _ _ _ _ _ h k hk)
theorem LowDoes.past {Lw : World → Nat → (Nat → Prop) → Int → List PairV → Int → Prop} (D : LowDoes Lw) {w w' : World} {B : Nat} {S S0 : Nat → Prop} {m : Int} {K : List PairV} {T : Int} (h : Lw w B S m K T) (hk : Keeps S0 w w') (hS : ∀ k, S k → ¬ S0 k) : Lw w' B S m K T :=
  D.keep w w' B S m K T h fun k hk' => hk.block k (D.lt _ _ _ _ _ _ h k hk') (hS k hk')

/-- A nil one. -/
structure LowNil : Prop where
end Go.Proofs.YtojincgbnjkegaaDoor

/-
  Plain mathematics of layer 10 (highcap): what is kept of a row, where so many indexes side by side are kept, the least ones.
  What package highcap is to do, said once (proved elsewhere of the code); a nil one.
-/
namespace Go.Proofs.YtojincgbnjkegaaDoor
set_option linter.unusedVariables false
set_option linter.unusedSimpArgs false
open Go.RowKit

/-- The least index of a row. -/
def begP (L : List PairV) : Int := (firP L).1
/-- What is kept of a row. -/
def keepH (m : Int) (L : List PairV) : List PairV := lowP L (begP L + m)
theorem beg_cons (p : PairV) (r : List PairV) : begP (p :: r) = p.1 := rfl
theorem beg_mem {L : List PairV} (h : L ≠ []) : ∃ p, p ∈ L ∧ p.1 = begP L := by
  cases L with
  | nil => exact absurd rfl h
  | cons p r => exact ⟨p, by simp, rfl⟩
theorem beg_le {L : List PairV} (hg : GoodP L) : ∀ p, p ∈ L → begP L ≤ p.1 := by
  intro p hp
  cases L with
  | nil => cases hp
  | cons q r =>
    rcases List.mem_cons.1 hp with rfl | h
    · exact Int.le_refl _
    · have := (List.pairwise_cons.1 hg.2).1 p h; show q.1 ≤ p.1; omega
theorem beg_i64 {L : List PairV} (h : ∀ p, p ∈ L → okP p) : I64 (begP L) := fir_i64 h
theorem count_beg {L : List PairV} (hg : GoodP L) (h : L ≠ []) : 1 ≤ countP L (begP L) := by
  obtain ⟨p, hp, e⟩ := beg_mem h
  rw [← e]; exact mem_count hg hp
theorem count_ahead {L : List PairV} (hg : GoodP L) {j : Int} (h : j < begP L) : countP L j = 0 := by
  by_cases hc : countP L j = 0
  · exact hc
  · obtain ⟨p, hp, e⟩ := count_mem hc
    have := beg_le hg p hp; omega
/-- The beginning is told by the counts. -/
theorem beg_uniq {L : List PairV} (hg : GoodP L) {e : Int} (h1 : 1 ≤ countP L e) (h2 : ∀ j, j < e → countP L j = 0) : begP L = e := by
  obtain ⟨p, hp, he⟩ := count_mem (L := L) (j := e) (by omega)
  have hne : L ≠ [] := by rintro rfl; cases hp
  have h3 := beg_le hg p hp
  have h4 := count_beg hg hne
  rcases lt_or_geI (begP L) e with h | h
  · have := h2 _ h; omega
  · omega

theorem keeph_nil (m : Int) : keepH m [] = [] := rfl
theorem keeph_count (m : Int) (L : List PairV) (j : Int) : countP (keepH m L) j = if j < begP L + m then countP L j else 0 := count_low _ _ _
theorem keeph_mem {m : Int} {L : List PairV} {p : PairV} (h : p ∈ keepH m L) : p ∈ L ∧ p.1 < begP L + m := lowP_mem h
theorem keeph_good {m : Int} {L : List PairV} (h : GoodP L) : GoodP (keepH m L) := good_filter _ h
theorem keeph_ok {m : Int} {L : List PairV} (h : ∀ p, p ∈ L → okP p) : ∀ p, p ∈ keepH m L → okP p := fun p hp => h p (keeph_mem hp).1
theorem keeph_le (m : Int) (L : List PairV) : (keepH m L).length ≤ L.length := List.length_filter_le _ _
theorem keeph_ne {m : Int} {L : List PairV} (hm : 0 < m) (h : L ≠ []) : keepH m L ≠ [] := by
  obtain ⟨p, hp, e⟩ := beg_mem h
  have : p ∈ keepH m L := List.mem_filter.2 ⟨hp, by simp; omega⟩
  intro h0; rw [h0] at this; cases this
theorem keeph_beg {m : Int} {L : List PairV} (hm : 0 < m) (hg : GoodP L) (h : L ≠ []) : begP (keepH m L) = begP L := by
  refine beg_uniq (keeph_good hg) ?_ fun j hj => ?_
  · rw [keeph_count, if_pos (by omega)]; exact count_beg hg h
  · rw [keeph_count, if_pos (by omega)]; exact count_ahead hg hj
theorem keeph_idem {m : Int} {L : List PairV} (hm : 0 < m) (hg : GoodP L) : keepH m (keepH m L) = keepH m L := by
  by_cases h : L = []
  · subst h; rfl
  · refine good_ext (keeph_good (keeph_good hg)) (keeph_good hg) fun j => ?_
    rw [keeph_count, keeph_beg hm hg h, keeph_count]
    split <;> rfl
/-- Rows with the same beginning, and the same counts near it, keep the same. -/
theorem keeph_ext {m : Int} {L M : List PairV} (hL : GoodP L) (hM : GoodP M) (he : begP L = begP M) (hc : ∀ j, j < begP L + m → countP L j = countP M j) : keepH m L = keepH m M := by
  refine good_ext (keeph_good hL) (keeph_good hM) fun j => ?_
  rw [keeph_count, keeph_count, ← he]
  by_cases h : j < begP L + m
  · rw [if_pos h, if_pos h, hc j h]
  · rw [if_neg h, if_neg h]
theorem keeph_sum (m : Int) {L : List PairV} (h : ∀ p, p ∈ L → 0 ≤ p.2) : 0 ≤ sumP (keepH m L) ∧ sumP (keepH m L) ≤ sumP L := sumP_filter _ h
theorem keeph_len {m : Int} {L : List PairV} (hm : 0 ≤ m) (hg : GoodP L) : ((keepH m L).length : Int) ≤ m := by
  have := spread_len (keepH m L) (begP L - 1) (begP L + m - 1) (keeph_good hg) (by omega) fun p hp => ⟨by have := beg_le hg p (keeph_mem hp).1; omega, by have := (keeph_mem hp).2; omega⟩
  omega

/-- The beginning behind an addition. -/
theorem beg_add {L : List PairV} {i c : Int} (hg : GoodP L) (hn : countP L i + c ≤ 9223372036854775807) (hc : 0 < c) (h0 : 0 ≤ countP L i) : begP (addP L i c) = if L = [] then i else min (begP L) i := by
  have hC := count_add (L := L) (i := i) (c := c) (by omega)
  refine beg_uniq (add_good hg hn) ?_ fun j hj => ?_
  · rw [hC]
    by_cases h : L = []
    · subst h; rw [if_pos rfl, if_pos rfl]; have : countP [] i = 0 := rfl; omega
    · rw [if_neg h]
      rcases lt_or_geI i (begP L) with h1 | h1
      · rw [Int.min_eq_right (by omega), if_pos rfl]; omega
      · rw [Int.min_eq_left h1]; have := count_beg hg h; split <;> omega
  · rw [hC]
    by_cases h : L = []
    · subst h; rw [if_pos rfl] at hj; rw [if_neg (by omega)]; rfl
    · rw [if_neg h] at hj
      rw [count_ahead hg (by omega), if_neg (by omega)]; rfl
theorem keeph_cnt_le {m : Int} {L : List PairV} (hg : GoodP L) (i : Int) : countP (keepH m L) i ≤ countP L i := by
  rw [keeph_count]; have := cnt_pos hg i; split <;> omega
/-- What is added to what is kept is kept as it is of all. -/
theorem keeph_add {m : Int} {A : List PairV} {i c : Int} (hm : 0 < m) (hg : GoodP A) (hn : countP A i + c ≤ 9223372036854775807) (hc : 0 < c) : keepH m (addP (keepH m A) i c) = keepH m (addP A i c) := by
  by_cases h : A = []
  · subst h; rfl
  · have hk := keeph_cnt_le (m := m) hg i
    have h0 := cnt_pos hg i
    have h1 := cnt_pos (keeph_good (m := m) hg) i
    have e1 := beg_add (keeph_good (m := m) hg) (by omega) hc h1
    have e2 := beg_add hg hn hc h0
    rw [if_neg (keeph_ne hm h), keeph_beg hm hg h] at e1
    rw [if_neg h] at e2
    refine keeph_ext (add_good (keeph_good hg) (by omega)) (add_good hg hn) (e1.trans e2.symm) fun j hj => ?_
    rw [e1] at hj
    rw [count_add (by omega), count_add (by omega), keeph_count, if_pos (by omega)]
/-- Too far above the beginning: all stays as it was. -/
theorem keeph_far {m : Int} {K : List PairV} {i c : Int} (hm : 0 < m) (hg : GoodP K) (hk : keepH m K = K) (hn : countP K i + c ≤ 9223372036854775807) (hc : 0 < c) (hne : K ≠ []) (hf : begP K + m ≤ i) : keepH m (addP K i c) = K := by
  have h0 := cnt_pos hg i
  have e2 := beg_add hg hn hc h0
  rw [if_neg hne, Int.min_eq_left (by omega)] at e2
  refine Eq.trans (keeph_ext (add_good hg hn) hg e2 fun j hj => ?_) hk
  rw [e2] at hj
  rw [count_add (by omega), if_neg (by omega), Int.add_zero]
/-- Else what lies too far above goes, and the rest is added to. -/
theorem keeph_near {m : Int} {K : List PairV} {i c : Int} (hm : 0 < m) (hg : GoodP K) (hk : keepH m K = K) (hn : countP K i + c ≤ 9223372036854775807) (hc : 0 < c) (hf : K = [] ∨ i < begP K + m) : keepH m (addP K i c) = addP (lowP K (i + m)) i c := by
  have h0 := cnt_pos hg i
  have e2 := beg_add hg hn hc h0
  have hh : countP (lowP K (i + m)) i = countP K i := by rw [count_low, if_pos (by omega)]
  refine good_ext (keeph_good (add_good hg hn)) (add_good (good_filter _ hg) (by rw [hh]; exact hn)) fun j => ?_
  rw [keeph_count, e2, count_add (by omega), count_add (by rw [hh]; omega), count_low]
  by_cases h : K = []
  · subst h
    rw [if_pos rfl]
    have hz : countP [] j = 0 := rfl
    rw [hz]
    by_cases hj : j = i
    · subst hj; by_cases hx : j < j + m <;> simp [hx]; omega
    · by_cases hx : j < i + m <;> simp [hx, hj]
  · rw [if_neg h]
    have hf' : i < begP K + m := by rcases hf with h1 | h1; exact absurd h1 h; exact h1
    have hz : begP K + m ≤ j → countP K j = 0 := fun hj => by rw [← hk, keeph_count, if_neg (by omega)]
    rcases lt_or_geI i (begP K) with h1 | h1
    · rw [Int.min_eq_right (by omega)]
      by_cases hj : j < i + m
      · rw [if_pos hj, if_pos hj]
      · rw [if_neg hj, if_neg hj, if_neg (by omega)]; rfl
    · rw [Int.min_eq_left h1]
      by_cases hj : j < begP K + m
      · rw [if_pos hj, if_pos (show j < i + m by omega)]
      · have hz' := hz (by omega)
        rw [if_neg hj, hz', if_neg (show ¬ j = i by omega)]
        split <;> rfl
/-- Where the back of a good row goes. -/
theorem low_take {K : List PairV} {x : Int} {k : Nat} (hg : GoodP K) (h1 : ∀ p, p ∈ K.drop k → x ≤ p.1) (h2 : K.take k = [] ∨ (lasP (K.take k)).1 < x) : lowP K x = K.take k := by
  have e : lowP K x = lowP (K.take k ++ K.drop k) x := by rw [List.take_append_drop]
  rw [e]
  unfold lowP
  have hd : (K.drop k).filter (fun p => decide (p.1 < x)) = [] := List.filter_eq_nil_iff.2 (fun p hp => by have := h1 p hp; simp; omega)
  rw [List.filter_append, hd, List.append_nil, List.filter_eq_self]
  intro p hp
  rcases h2 with h | h
  · rw [h] at hp; cases hp
  · have := end_ge (good_take k hg) p hp
    have h' : endP (K.take k) < x := h
    simp; omega
theorem sum_low_take {K : List PairV} {k : Nat} : sumP K - sumP (K.take k) = sumP (K.drop k) := by
  have e := sumP_app (K.take k) (K.drop k)
  rw [List.take_append_drop] at e
  omega
/-- Merging what is kept is what is kept of all. -/
theorem keeph_join {m : Int} {A B : List PairV} (hm : 0 < m) (hA : GoodP A) (oA : ∀ p, p ∈ A → okP p) (hB : GoodP B) (oB : ∀ p, p ∈ B → okP p) (hs : sumP A + sumP B ≤ 9223372036854775807) : keepH m (joinP (keepH m A) (keepH m B)) = keepH m (joinP A B) := by
  have sA := keeph_sum m (ok_pos oA)
  have sB := keeph_sum m (ok_pos oB)
  have J1 := join_facts (keepH m B) (keepH m A) (keeph_good hA) (keeph_ok oA) (good_each (keeph_good hB) (keeph_ok oB)) (by omega)
  have J2 := join_facts B A hA oA (good_each hB oB) hs
  have hc0 : ∀ j, countP [] j = 0 := fun j => rfl
  by_cases eA : A = []
  · subst eA
    have e1 : joinP (keepH m []) (keepH m B) = keepH m B := good_ext J1.good (keeph_good hB) fun j => by rw [J1.cnt, keeph_nil, hc0, Int.zero_add]
    have e2 : joinP [] B = B := good_ext J2.good hB fun j => by rw [J2.cnt, hc0, Int.zero_add]
    rw [e1, e2, keeph_idem hm hB]
  · by_cases eB : B = []
    · subst eB
      rw [keeph_nil, join_nil, join_nil, keeph_idem hm hA]
    · have cA := count_beg hA eA
      have cB := count_beg hB eB
      have f1 : begP (joinP (keepH m A) (keepH m B)) = min (begP A) (begP B) := by
        refine beg_uniq J1.good ?_ fun j hj => ?_
        · rw [J1.cnt, keeph_count, keeph_count]
          rcases lt_or_geI (begP B) (begP A) with h | h
          · rw [Int.min_eq_right (by omega), if_pos (show begP B < begP B + m by omega)]
            have := cnt_pos hA (begP B); split <;> omega
          · rw [Int.min_eq_left h, if_pos (show begP A < begP A + m by omega)]
            have := cnt_pos hB (begP A); split <;> omega
        · rw [J1.cnt, keeph_count, keeph_count, count_ahead hA (by omega), count_ahead hB (by omega)]
          split <;> split <;> rfl
      have f2 : begP (joinP A B) = min (begP A) (begP B) := by
        refine beg_uniq J2.good ?_ fun j hj => ?_
        · rw [J2.cnt]
          rcases lt_or_geI (begP B) (begP A) with h | h
          · rw [Int.min_eq_right (by omega)]; have := cnt_pos hA (begP B); omega
          · rw [Int.min_eq_left h]; have := cnt_pos hB (begP A); omega
        · rw [J2.cnt, count_ahead hA (by omega), count_ahead hB (by omega)]; rfl
      refine keeph_ext J1.good J2.good (f1.trans f2.symm) fun j hj => ?_
      rw [f1] at hj
      rw [J1.cnt, J2.cnt, keeph_count, keeph_count, if_pos (by omega), if_pos (by omega)]

/-- The lost ones stand behind those that are kept. -/
theorem part_low {L : List PairV} (x : Int) (hg : GoodP L) : lowP L x ++ (L.filter fun p => decide (x ≤ p.1)) = L := by
  have hC : ∀ j, countP (L.filter fun p => decide (x ≤ p.1)) j = if x ≤ j then countP L j else 0 := by
    intro j
    unfold countP
    rw [List.filter_filter]
    by_cases h : x ≤ j
    · rw [if_pos h]; congr 1
      refine List.filter_congr fun p _ => ?_
      by_cases e : p.1 = j
      · subst e; simp [h]
      · simp [e]
    · rw [if_neg h, List.filter_eq_nil_iff.2]; rfl
      intro p _
      simp only [Bool.and_eq_true, decide_eq_true_eq, beq_iff_eq, not_and]
      intro e; omega
  refine good_ext (good_mk (good_filter _ hg) (good_filter _ hg) fun p hp q hq => ?_) hg fun j => ?_
  · have h1 := (List.mem_filter.1 hq).2
    have h2 := (lowP_mem hp).2
    simp at h1; omega
  · rw [countP_app, hC, count_low]
    by_cases h : x ≤ j
    · rw [if_pos h, if_neg (by omega), Int.zero_add]
    · rw [if_neg h, if_pos (by omega), Int.add_zero]
theorem seek_mem (t : Int) : ∀ (L : List PairV) (s x : Int), seekP t s L = some x → ∃ p, p ∈ L ∧ p.1 = x := by
  intro L
  induction L with
  | nil => intro s x h; cases h
  | cons p r ih =>
    intro s x h
    rw [seek_cons] at h
    split at h
    · exact ⟨p, by simp, Option.some.inj h⟩
    · obtain ⟨q, hq, e⟩ := ih _ x h
      exact ⟨q, List.mem_cons_of_mem _ hq, e⟩
/-- What Find of a highcap tells: of those that are kept alone. -/
def findH (K : List PairV) (l t : Int) : Option Int := findP K t
/-- .. is what is asked for of all, unless it is lost. -/
theorem find_keeph {m : Int} {A : List PairV} (hm : 0 < m) (hg : GoodP A) (t : Int) :
    findH (keepH m A) (sumP A - sumP (keepH m A)) t = match findP A t with | none => none | some x => if x - begP A < m then some x else none := by
  have hp := part_low (begP A + m) hg
  obtain ⟨D, hD⟩ : ∃ D, (A.filter fun p => decide (begP A + m ≤ p.1)) = D := ⟨_, rfl⟩
  have hDm : ∀ p, p ∈ D → begP A + m ≤ p.1 := fun p h => by rw [← hD] at h; have := (List.mem_filter.1 h).2; simpa using this
  rw [hD] at hp
  obtain ⟨K, hK⟩ : ∃ K, keepH m A = K := ⟨_, rfl⟩
  have hp' : K ++ D = A := by rw [← hK]; exact hp
  have hKm : ∀ p, p ∈ K → p.1 - begP A < m := fun p h => by rw [← hK] at h; have := (keeph_mem h).2; omega
  rw [hK]
  unfold findH findP
  by_cases h0 : 0 < t
  · rw [if_pos h0, if_pos h0]
    have e : seekP t 0 A = match seekP t 0 K with | some x => some x | none => seekP t (0 + sumP K) D := by rw [← hp']; exact seek_app t K D 0
    rw [e]
    cases hf : seekP t 0 K with
    | some x =>
      obtain ⟨p, hpm, e⟩ := seek_mem t K 0 x hf
      have := hKm p hpm
      show some x = if x - begP A < m then some x else none
      rw [if_pos (by omega)]
    | none =>
      show none = match seekP t (0 + sumP K) D with | none => none | some x => if x - begP A < m then some x else none
      cases hf2 : seekP t (0 + sumP K) D with
      | none => rfl
      | some x =>
        obtain ⟨p, hpm, e⟩ := seek_mem t D _ x hf2
        have := hDm p hpm
        show none = if x - begP A < m then some x else none
        rw [if_neg (by omega)]
  · rw [if_neg h0, if_neg h0]
/-- How many there are up to an index: at least, and at most. -/
def lowBH (m : Int) (K : List PairV) (l i : Int) : Int := belowP K i
def highBH (m : Int) (K : List PairV) (l i : Int) : Int := if K ≠ [] ∧ m ≤ i - begP K then belowP K i + l else belowP K i
theorem below_keeph {m : Int} {A : List PairV} (hm : 0 < m) (hg : GoodP A) (i : Int) :
    lowBH m (keepH m A) (sumP A - sumP (keepH m A)) i ≤ belowP A i ∧ belowP A i ≤ highBH m (keepH m A) (sumP A - sumP (keepH m A)) i ∧
    (lowBH m (keepH m A) (sumP A - sumP (keepH m A)) i = highBH m (keepH m A) (sumP A - sumP (keepH m A)) i ∨ (A ≠ [] ∧ 0 < sumP A - sumP (keepH m A))) := by
  have hp := part_low (begP A + m) hg
  obtain ⟨D, hD⟩ : ∃ D, (A.filter fun p => decide (begP A + m ≤ p.1)) = D := ⟨_, rfl⟩
  have hDm : ∀ p, p ∈ D → begP A + m ≤ p.1 := fun p h => by rw [← hD] at h; have := (List.mem_filter.1 h).2; simpa using this
  have hDq : ∀ p, p ∈ D → 0 ≤ p.2 := fun p h => by rw [← hD] at h; have := hg.1 p (List.mem_filter.1 h).1; omega
  have hDp : 0 ≤ sumP D := sumP_pos hDq
  rw [hD] at hp
  by_cases h : A = []
  · subst h
    have e : (keepH m [] : List PairV) = [] := rfl
    rw [e]
    unfold lowBH highBH
    simp [belowP, sumP]
  have hen := keeph_beg hm hg h
  have hkn := keeph_ne hm h
  obtain ⟨K, hK⟩ : ∃ K, keepH m A = K := ⟨_, rfl⟩
  have hp' : K ++ D = A := by rw [← hK]; exact hp
  have hs : sumP A - sumP K = sumP D := by have := sumP_app K D; rw [hp'] at this; omega
  have hb : belowP A i = belowP K i + belowP D i := by rw [← hp']; exact below_app K D i
  rw [hK] at hen hkn ⊢
  rw [hs]
  have hb1 := below_le (L := D) i hDq
  have hb0 : 0 ≤ belowP D i := (sumP_filter _ hDq).1
  unfold lowBH highBH
  by_cases hc : m ≤ i - begP K
  · rw [if_pos ⟨hkn, hc⟩]
    refine ⟨by omega, by omega, ?_⟩
    by_cases hz' : sumP D = 0
    · exact Or.inl (by omega)
    · exact Or.inr ⟨h, by omega⟩
  · rw [if_neg (fun h => hc h.2)]
    have hz : belowP D i = 0 := by
      unfold belowP
      rw [List.filter_eq_nil_iff.2 (fun p hp => by have := hDm p hp; simp; omega)]; rfl
    exact ⟨by omega, by omega, Or.inl rfl⟩

/-- What a highcap of m indexes can keep, T being all that was added. -/
structure Hgp (m : Int) (K : List PairV) (T : Int) : Prop where
  good : GoodP K
  ok : ∀ p, p ∈ K → okP p
  kept : keepH m K = K
  sum : sumP K ≤ T
  top : T ≤ 9223372036854775807
  m1 : 1 ≤ m
  m2 : m ≤ 4096
theorem Hgp.pos {m : Int} {K : List PairV} {T : Int} (h : Hgp m K T) : 0 ≤ sumP K := sumP_pos (ok_pos h.ok)
theorem Hgp.nil {m : Int} (h1 : 1 ≤ m) (h2 : m ≤ 4096) : Hgp m [] 0 := ⟨good_nil, fun p h => (by cases h), rfl, Int.le_refl _, by decide, h1, h2⟩
theorem Hgp.cnt {m : Int} {K : List PairV} {T : Int} (h : Hgp m K T) (i : Int) : 0 ≤ countP K i ∧ countP K i ≤ sumP K := count_le_sum i (ok_pos h.ok)
theorem Hgp.stp {m : Int} {K : List PairV} {T : Int} (h : Hgp m K T) : Stp m K :=
  ⟨h.good, h.ok, Int.le_trans h.sum h.top, by have := keeph_len (m := m) (by have := h.m1; omega) h.good; rw [h.kept] at this; exact this⟩
theorem Hgp.add {m : Int} {K : List PairV} {T i c : Int} (h : Hgp m K T) (hi : I64 i) (hc : 0 < c) (hs : T + c ≤ 9223372036854775807) : Hgp m (keepH m (addP K i c)) (T + c) := by
  have h1 := h.cnt i
  have h2 := h.sum
  have h3 : 0 < m := by have := h.m1; omega
  have h4 := add_good h.good (i := i) (c := c) (by omega)
  have h5 := add_ok h.ok hi (c := c) (by omega)
  have h6 := add_sum (L := K) (i := i) (c := c) (by omega)
  have h7 := keeph_sum m (ok_pos h5)
  exact ⟨keeph_good h4, keeph_ok h5, keeph_idem h3 h4, by omega, hs, h.m1, h.m2⟩
theorem Hgp.join {m : Int} {K K' : List PairV} {T T' : Int} (h : Hgp m K T) (h' : Hgp m K' T') (hs : T + T' ≤ 9223372036854775807) : Hgp m (keepH m (joinP K K')) (T + T') := by
  have h2 := h.sum
  have h2' := h'.sum
  have h3 : 0 < m := by have := h.m1; omega
  have J := join_facts K' K h.good h.ok (good_each h'.good h'.ok) (by omega)
  have h7 := keeph_sum m (ok_pos J.ok)
  exact ⟨keeph_good J.good, keeph_ok J.ok, keeph_idem h3 J.good, by have := J.sum; omega, hs, h.m1, h.m2⟩
/-- Of all that was added. -/
theorem Hgp.of {m : Int} {A : List PairV} (hg : GoodP A) (ho : ∀ p, p ∈ A → okP p) (hs : sumP A ≤ 9223372036854775807) (h1 : 1 ≤ m) (h2 : m ≤ 4096) : Hgp m (keepH m A) (sumP A) :=
  ⟨keeph_good hg, keeph_ok ho, keeph_idem (by omega) hg, (keeph_sum m (ok_pos ho)).2, hs, h1, h2⟩

/-- What adding tells; what is kept then, and how many there are in all. -/
def hgRow (m : Int) (K : List PairV) (T i c : Int) : List PairV := if lwErr T c = 0 then keepH m (addP K i c) else K

/-- Hw w B S m K T: at block B lies a highcap of m indexes that keeps K, of T in all; S are its blocks. -/
structure HighDoes (Hw : World → Nat → (Nat → Prop) → Int → List PairV → Int → Prop) : Prop where
  keep : ∀ (w w' : World) (B : Nat) (S : Nat → Prop) (m : Int) (K : List PairV) (T : Int), Hw w B S m K T → (∀ k, S k → w'.heap[k]? = w.heap[k]?) → Hw w' B S m K T
  lt : ∀ (w : World) (B : Nat) (S : Nat → Prop) (m : Int) (K : List PairV) (T : Int), Hw w B S m K T → ∀ k, S k → k < w.heap.size
  lwp : ∀ (w : World) (B : Nat) (S : Nat → Prop) (m : Int) (K : List PairV) (T : Int), Hw w B S m K T → Hgp m K T
theorem HighDoes.call {Hw : World → Nat → (Nat → Prop) → Int → List PairV → Int → Prop} (D : HighDoes Hw) {w w' : World} {B : Nat} {S : Nat → Prop} {m : Int} {K : List PairV} {T : Int} (h : Hw w B S m K T) (hb : Below w.heap.size w w') : Hw w' B S m K T :=
  D.keep w w' B S m K T h fun k hk => hb.block k (D.lt _ _ _ _ _ _ h k hk)
theorem HighDoes.past {Hw : World → Nat → (Nat → Prop) → Int → List PairV → Int → Prop} (D : HighDoes Hw) {w w' : World} {B : Nat} {S S0 : Nat → Prop} {m : Int} {K : List PairV} {T : Int} (h : Hw w B S m K T) (hk : Keeps S0 w w') (hS : ∀ k, S k → ¬ S0 k) : Hw w' B S m K T :=
  D.keep w w' B S m K T h fun k hk' => hk.block k (D.lt _ _ _ _ _ _ h k hk') (hS k hk')

/-- A nil one. -/
structure HighNil : Prop where
end Go.Proofs.YtojincgbnjkegaaDoor

/-
  Walks: layer 9's reference: end, keeps, Kept, Lost, Find.
-/
namespace Go.Proofs.YtojincgbnjkegaaDoor
set_option linter.unusedVariables false
set_option linter.unusedSimpArgs false
open Go.RowKit

end Go.Proofs.YtojincgbnjkegaaDoor
/-
  The laws of lowcap: alive, great, build.
-/
namespace Go.Proofs.YtojincgbnjkegaaDoor
set_option linter.unusedVariables false
set_option linter.unusedSimpArgs false
open Go.RowKit

theorem lw_alive : lwErr 0 1 = 0 ∧ lwRow 2 [] 0 5 1 = [(5, 1)] ∧ lwSum 0 1 = 1 ∧ lwErr 1 1 = 0 ∧ lwRow 2 [(5, 1)] 1 3 1 = [(5, 1)] ∧ lwSum 1 1 = 2 ∧ (2 : Int) - sumP [(5, 1)] = 1 ∧ countP [(5, 1)] 5 = 1 := by decide

/-- More than is played. -/
def fineP (p : PairV) : Bool := decide (0 < p.2) && decide (p.2 ≤ 1125899906842624)
def grtB (m : Int) (L : List PairV) : Bool := !(L.all fineP) || decide (60 < L.length) || decide (m < 1) || decide (4096 < m)
def FineTo (L : List PairV) (k : Nat) : Prop := (L.take k).all fineP = true
theorem fine_step {L : List PairV} {k : Nat} {p : PairV} (h : FineTo L k) (hk : L[k]? = some p) (hp : fineP p = true) : FineTo L (k + 1) := by
  unfold FineTo at *
  rw [take_snocP hk, List.all_append, h]
  simp [hp]
theorem fine_not {L : List PairV} {k : Nat} {p : PairV} (hk : L[k]? = some p) (hp : fineP p = false) : L.all fineP = false := by
  cases h : L.all fineP with
  | false => rfl
  | true => have := List.all_eq_true.1 h p (List.mem_of_getElem? hk); rw [hp] at this; cases this
structure Played (m : Int) (L : List PairV) : Prop where
  each : ∀ p, p ∈ L → 0 < p.2 ∧ p.2 ≤ 1125899906842624
  len : L.length ≤ 60
  m1 : 1 ≤ m
  m2 : m ≤ 4096
theorem grt_false {m : Int} {L : List PairV} : grtB m L = false ↔ Played m L := by
  unfold grtB
  simp only [Bool.or_eq_false_iff, Bool.not_eq_false', decide_eq_false_iff_not, List.all_eq_true]
  constructor
  · rintro ⟨⟨⟨h1, h2⟩, h3⟩, h4⟩
    refine ⟨fun p hp => ?_, by omega, by omega, by omega⟩
    have := h1 p hp
    unfold fineP at this
    simp only [Bool.and_eq_true, decide_eq_true_eq] at this
    exact this
  · rintro ⟨h1, h2, h3, h4⟩
    refine ⟨⟨⟨fun p hp => ?_, by omega⟩, by omega⟩, by omega⟩
    unfold fineP
    simp only [Bool.and_eq_true, decide_eq_true_eq]
    exact h1 p hp

/-- All that was added so far. -/
structure Sum50 (A : List PairV) (k : Nat) : Prop where
  good : GoodP A
  ok : ∀ p, p ∈ A → okP p
  len : A.length ≤ k
  sum : sumP A ≤ k * 1125899906842624
theorem Sum50.nil : Sum50 [] 0 := ⟨good_nil, fun p h => (by cases h), Nat.le_refl _, Int.le_refl _⟩
theorem Sum50.add {A : List PairV} {k : Nat} (h : Sum50 A k) {p : PairV} (hp : okP p) (h0 : 0 < p.2) (hc : p.2 ≤ 1125899906842624) (hk : k ≤ 1000) : Sum50 (addP A p.1 p.2) (k + 1) ∧ sumP (addP A p.1 p.2) = sumP A + p.2 := by
  have h1 := count_le_sum p.1 (ok_pos h.ok)
  have h2 := h.sum
  have hs := add_sum (L := A) (i := p.1) (c := p.2) (by omega)
  exact ⟨⟨add_good h.good (by omega), add_ok h.ok hp.1 (by omega), Nat.le_trans (add_len _ _ _) (by have := h.len; omega), by rw [hs]; push_cast; omega⟩, hs⟩
/-- A lowcap and all that was added to it, side by side. -/
structure SideL (Lw : World → Nat → (Nat → Prop) → Int → List PairV → Int → Prop) (base : Nat) (w : World) (B : Nat) (S : Nat → Prop) (m : Int) (A : List PairV) (M : Nat) (v : Value) : Prop where
  st : Lw w B S m (keepP m A) (sumP A)
  rf : RefS w M m v A
  above : ∀ x, S x → base ≤ x
  apart : ∀ x, S x → x ≠ M ∧ v.ownBlock ≠ some x
  mab : base ≤ M
theorem SideL.call {Lw : World → Nat → (Nat → Prop) → Int → List PairV → Int → Prop} (D : LowDoes Lw) {base : Nat} {w w' : World} {B : Nat} {S : Nat → Prop} {m : Int} {A : List PairV} {M : Nat} {v : Value} (h : SideL Lw base w B S m A M v) (hb : Below w.heap.size w w') : SideL Lw base w' B S m A M v :=
  ⟨D.call h.st hb, h.rf.call hb, h.above, h.apart, h.mab⟩
theorem SideL.past {Lw : World → Nat → (Nat → Prop) → Int → List PairV → Int → Prop} {base : Nat} {w w3 : World} {B : Nat} {S : Nat → Prop} {m : Int} {A : List PairV} {M : Nat} {v : Value} (h : SideL Lw base w B S m A M v) (k3 : Keeps S w w3) : RefS w3 M m v A :=
  h.rf.past k3 (fun hx => (h.apart _ hx).1 rfl) (fun g hg hx => (h.apart g hx).2 hg)
/-- .. behind an addition to both. -/
theorem SideL.step {Lw : World → Nat → (Nat → Prop) → Int → List PairV → Int → Prop} (D : LowDoes Lw) {base : Nat} {w w3 wm : World} {B : Nat} {S S3 : Nat → Prop} {m : Int} {A A' : List PairV} {M : Nat} {v v4 : Value} (h : SideL Lw base w B S m A M v)
    (h3 : Lw w3 B S3 m (keepP m A') (sumP A')) (k3 : Keeps S w w3) (hs3 : ∀ k, S3 k → S k ∨ w.heap.size ≤ k) (hbase : base ≤ w.heap.size) (hm : Below w3.heap.size w3 wm) (ho : OwnP wm w3.heap.size v4 A') : SideL Lw base (wm.setCell ⟨M, 1, none⟩ v4) B S3 m A' M v4 := by
  have hM := h.rf.lt
  have z3 := k3.size
  have hlt3 := D.lt _ _ _ _ _ _ h3
  have hr := h.past k3
  have hS3 : ∀ x, S3 x → base ≤ x ∧ x ≠ M := fun x hx => by
    rcases hs3 x hx with a | a
    · exact ⟨h.above x a, (h.apart x a).1⟩
    · exact ⟨by omega, by omega⟩
  obtain ⟨⟨v', hr', hv'⟩, _⟩ := Done8.put hr hm ho
  have hg := grown_setCell wm M 1 v4
  have hc : RefS (wm.setCell ⟨M, 1, none⟩ v4) M m v4 A' := ⟨(hr.1.call hm).put1 v4, own_set8 (own_mono8 ho (by omega)) (by omega) _⟩
  refine ⟨D.keep _ _ _ _ _ _ _ (D.call h3 hm) fun x hx => hg.block x (by have := hlt3 x hx; have := hm.size; omega) (fun e => (hS3 x hx).2 (Option.some.inj e)), hc, fun x hx => (hS3 x hx).1, fun x hx => ⟨(hS3 x hx).2, fun e => ?_⟩, h.mab⟩
  have := (ho.lt x e).1
  have := hlt3 x hx
  omega

end Go.Proofs.YtojincgbnjkegaaDoor
/-
  Plain mathematics of cells, each of which one number stands for closely: no program in sight.
-/
namespace Go.Proofs.YtojincgbnjkegaaDoor
set_option linter.unusedVariables false
set_option linter.unusedSimpArgs false

/-- A closeness that can be. -/
def GoodC (u v : Int) : Prop := 0 < u ∧ u < v ∧ v ≤ 2147483648
def goodC (u v : Int) : Bool := decide (0 < u) && decide (u < v) && decide (v ≤ 2147483648)
theorem goodC_iff {u v : Int} : goodC u v = true ↔ GoodC u v := by
  unfold goodC GoodC; simp [and_assoc]
/-- What stands for the cell that begins somewhere, not cut; where it ends; what stands for it. -/
def rawC (u v lo : Int) : Int := lo * (v + u) / v
def wayC (u v r : Int) : Int := r * v / (v - u)
def endC (u v lo : Int) : Int := min (wayC u v (rawC u v lo)) 9223372036854775808
def repC (u v lo : Int) : Int := min (rawC u v lo) 9223372036854775807
/-- Where each cell begins; behind the last one: above 2^63. -/
def lowC (u v : Int) : Nat → Int
  | 0 => 1
  | k + 1 => endC u v (lowC u v k) + 1
/-- There are just n cells. -/
def TabN (u v : Int) (n : Nat) : Prop := (∀ k, k < n → lowC u v k ≤ 9223372036854775808) ∧ lowC u v n = 9223372036854775809

theorem raw_ge {u v lo : Int} (g : GoodC u v) (h : 1 ≤ lo) : lo ≤ rawC u v lo := by
  obtain ⟨g0, g1, g2⟩ := g
  unfold rawC
  rw [Int.le_ediv_iff_mul_le (by omega)]
  exact Int.mul_le_mul_of_nonneg_left (by omega) (by omega)
theorem craw_lt {u v lo : Int} (g : GoodC u v) (h : 1 ≤ lo) : rawC u v lo < 2 * lo := by
  obtain ⟨g0, g1, g2⟩ := g
  unfold rawC
  rw [Int.ediv_lt_iff_lt_mul (by omega)]
  have : lo * (v + u) < lo * (2 * v) := Int.mul_lt_mul_of_pos_left (by omega) (by omega)
  rw [Int.mul_comm 2 lo, Int.mul_assoc]; exact this
theorem way_ge {u v r : Int} (g : GoodC u v) (h : 0 ≤ r) : r ≤ wayC u v r := by
  obtain ⟨g0, g1, g2⟩ := g
  unfold wayC
  rw [Int.le_ediv_iff_mul_le (by omega)]
  exact Int.mul_le_mul_of_nonneg_left (by omega) (by omega)
theorem cend_ge {u v lo : Int} (g : GoodC u v) (h : 1 ≤ lo) (h2 : lo ≤ 9223372036854775808) : lo ≤ endC u v lo := by
  have a := raw_ge g h
  have b := way_ge g (show 0 ≤ rawC u v lo by omega)
  unfold endC; omega
theorem end_le (u v lo : Int) : endC u v lo ≤ 9223372036854775808 := by unfold endC; omega
theorem end_full {u v lo : Int} (g : GoodC u v) (h : 9223372036854775808 ≤ lo) : endC u v lo = 9223372036854775808 := by
  have a := raw_ge g (show 1 ≤ lo by omega)
  have b := way_ge g (show 0 ≤ rawC u v lo by omega)
  unfold endC; omega
theorem low_le (u v : Int) (k : Nat) : lowC u v k ≤ 9223372036854775809 := by
  cases k with
  | zero => simp [lowC]
  | succ k => have := end_le u v (lowC u v k); simp only [lowC]; omega
theorem low_pos {u v : Int} (g : GoodC u v) (k : Nat) : 1 ≤ lowC u v k := by
  induction k with
  | zero => simp [lowC]
  | succ k ih =>
    simp only [lowC]
    have hl := low_le u v k
    by_cases h : lowC u v k ≤ 9223372036854775808
    · have := cend_ge g ih h; omega
    · have := end_full g (lo := lowC u v k) (by omega); omega
theorem low_succ (u v : Int) (k : Nat) : lowC u v (k + 1) = endC u v (lowC u v k) + 1 := rfl
theorem clow_step {u v : Int} (g : GoodC u v) {k : Nat} (h : lowC u v k ≤ 9223372036854775808) : lowC u v k < lowC u v (k + 1) := by
  have := cend_ge g (low_pos g k) h
  rw [low_succ]; omega
theorem low_stop {u v : Int} (g : GoodC u v) {k : Nat} (h : 9223372036854775808 < lowC u v k) : lowC u v (k + 1) = 9223372036854775809 := by
  have := end_full g (lo := lowC u v k) (by omega)
  rw [low_succ]; omega
theorem low_rise {u v : Int} (g : GoodC u v) (k : Nat) : lowC u v k ≤ lowC u v (k + 1) := by
  by_cases h : lowC u v k ≤ 9223372036854775808
  · have := clow_step g h; omega
  · have := low_stop g (k := k) (by omega); have := low_le u v k; omega
theorem low_mono {u v : Int} (g : GoodC u v) {j k : Nat} (h : j ≤ k) : lowC u v j ≤ lowC u v k := by
  induction k with
  | zero => obtain rfl : j = 0 := by omega
            exact Int.le_refl _
  | succ k ih =>
    by_cases e : j = k + 1
    · subst e; exact Int.le_refl _
    · have := ih (by omega); have := low_rise g k; omega
theorem tab_or {u v : Int} (g : GoodC u v) (m : Nat) : (∃ n, 1 ≤ n ∧ n ≤ m ∧ TabN u v n) ∨ lowC u v m ≤ 9223372036854775808 := by
  induction m with
  | zero => right; simp [lowC]
  | succ m ih =>
    rcases ih with ⟨n, h1, h2, h3⟩ | h
    · exact .inl ⟨n, h1, by omega, h3⟩
    · by_cases e : lowC u v (m + 1) ≤ 9223372036854775808
      · exact .inr e
      · refine .inl ⟨m + 1, by omega, Nat.le_refl _, fun k hk => ?_, ?_⟩
        · have := low_mono g (show k ≤ m by omega); omega
        · have := low_le u v (m + 1); omega
theorem tab_one {u v : Int} (g : GoodC u v) {n m : Nat} (h : TabN u v n) (k : TabN u v m) : n = m := by
  rcases Nat.lt_trichotomy n m with e | e | e
  · have := k.1 n e; have := h.2; omega
  · exact e
  · have := h.1 m e; have := k.2; omega
theorem tab_pos {u v : Int} {n : Nat} (h : TabN u v n) : 1 ≤ n := by
  cases n with
  | zero => have := h.2; simp [lowC] at this
  | succ n => omega
/-- The n cells of a closeness: where each ends, and what stands for it. -/
theorem tab_end {u v : Int} (g : GoodC u v) {n k : Nat} (h : TabN u v n) (hk : k < n) : lowC u v k ≤ endC u v (lowC u v k) ∧ endC u v (lowC u v k) ≤ 9223372036854775808 := by
  have := cend_ge g (low_pos g k) (h.1 k hk)
  have := end_le u v (lowC u v k)
  omega
theorem tab_last {u v : Int} {n : Nat} (h : TabN u v (n + 1)) : endC u v (lowC u v n) = 9223372036854775808 := by
  have := h.2; rw [low_succ] at this; omega
/-- A place in a row whose question is answered no up to i, and yes from there on. -/
theorem count_bound (p : Nat → Bool) (n i : Nat) (hi : i ≤ n) (h1 : ∀ k, k < i → p k = true) (h2 : ∀ k, i ≤ k → k < n → p k = false) : (List.range n).countP p = i := by
  induction n with
  | zero => simp; omega
  | succ n ih =>
    rw [List.range_succ, List.countP_append]
    by_cases e : i = n + 1
    · have : (List.range n).countP p = n := by
        have hl := List.countP_eq_length (p := p) (l := List.range n)
        rw [List.length_range] at hl
        exact hl.2 (fun a ha => h1 a (by have := List.mem_range.1 ha; omega))
      rw [this, e]
      simp [h1 n (by omega)]
    · rw [ih (by omega) (fun k hk hn => h2 k hk (by omega))]
      simp [h2 n (by omega) (by omega)]
/-- In which cell a magnitude lies. -/
def idxC (u v : Int) (n : Nat) (m : Int) : Nat := (List.range n).countP (fun k => !decide (m ≤ endC u v (lowC u v k)))
theorem idx_none {u v : Int} {n : Nat} {m : Int} (h : 9223372036854775808 < m) : idxC u v n m = n := by
  unfold idxC
  refine count_bound _ n n (Nat.le_refl _) (fun k hk => ?_) (fun k h1 h2 => by omega)
  have := end_le u v (lowC u v k)
  simp; omega
theorem idx_is {u v : Int} (g : GoodC u v) {n i : Nat} {m : Int} (h : TabN u v n) (hi : i < n) (h1 : lowC u v i ≤ m) (h2 : m ≤ endC u v (lowC u v i)) : idxC u v n m = i := by
  unfold idxC
  refine count_bound _ n i (by omega) (fun k hk => ?_) (fun k h3 h4 => ?_)
  · have := low_mono g (show k + 1 ≤ i by omega)
    rw [low_succ] at this
    simp; omega
  · have := low_mono g (show i + 1 ≤ k + 1 by omega)
    rw [low_succ, low_succ] at this
    simp; omega
theorem idx_at {u v : Int} (g : GoodC u v) {n : Nat} {m : Int} (h : TabN u v n) (h1 : 1 ≤ m) (h2 : m ≤ 9223372036854775808) : ∃ i, i < n ∧ idxC u v n m = i ∧ lowC u v i ≤ m ∧ m ≤ endC u v (lowC u v i) := by
  have key : ∀ k, m < lowC u v k → ∃ i, i < k ∧ lowC u v i ≤ m ∧ m ≤ endC u v (lowC u v i) := by
    intro k
    induction k with
    | zero => intro hk; simp only [lowC] at hk; omega
    | succ k ih =>
      intro hk
      by_cases e : m < lowC u v k
      · obtain ⟨i, a, b⟩ := ih e
        exact ⟨i, by omega, b⟩
      · rw [low_succ] at hk
        exact ⟨k, by omega, by omega, by omega⟩
  obtain ⟨i, hi, a, b⟩ := key n (by rw [h.2]; omega)
  exact ⟨i, hi, idx_is g h hi a b, a, b⟩
theorem idx_zero {u v : Int} (g : GoodC u v) {n : Nat} (h : TabN u v n) : idxC u v n 0 = 0 := by
  unfold idxC
  refine count_bound _ n 0 (by omega) (fun k hk => by omega) (fun k h3 h4 => ?_)
  have := tab_end g h h4
  have := low_pos g k
  simp; omega
/-- How far two magnitudes are from one another. -/
def gapC (a b : Int) : Int := max a b - min a b
theorem rep_close {u v lo m : Int} (g : GoodC u v) (h : 1 ≤ lo) (h0 : lo ≤ m) (h1 : m ≤ endC u v lo) : gapC (repC u v lo) m * v ≤ m * u := by
  have hlo : lo ≤ 9223372036854775808 := by have := end_le u v lo; omega
  have hm := end_le u v lo
  have hr := raw_ge g h
  obtain ⟨g0, g1, g2⟩ := id g
  have up : rawC u v lo * v ≤ m * (v + u) := by
    have a : rawC u v lo * v ≤ lo * (v + u) := Int.ediv_mul_le _ (by omega)
    have b : lo * (v + u) ≤ m * (v + u) := Int.mul_le_mul_of_nonneg_right h0 (by omega)
    omega
  have dn : m * (v - u) ≤ rawC u v lo * v := by
    have a : m ≤ wayC u v (rawC u v lo) := by unfold endC at h1; omega
    have b : wayC u v (rawC u v lo) * (v - u) ≤ rawC u v lo * v := Int.ediv_mul_le _ (by omega)
    have c : m * (v - u) ≤ wayC u v (rawC u v lo) * (v - u) := Int.mul_le_mul_of_nonneg_right a (by omega)
    omega
  rw [Int.mul_add] at up
  rw [Int.mul_sub] at dn
  have lift : ∀ x y : Int, x ≤ y → x * v ≤ y * v := fun x y hxy => Int.mul_le_mul_of_nonneg_right hxy (by omega)
  by_cases hc : rawC u v lo ≤ 9223372036854775807
  · have e : repC u v lo = rawC u v lo := by unfold repC; omega
    rw [e]
    by_cases hx : rawC u v lo ≤ m
    · have e2 : gapC (rawC u v lo) m = m - rawC u v lo := by unfold gapC; omega
      rw [e2, Int.sub_mul]; omega
    · have e2 : gapC (rawC u v lo) m = rawC u v lo - m := by unfold gapC; omega
      rw [e2, Int.sub_mul]; omega
  · have e : repC u v lo = 9223372036854775807 := by unfold repC; omega
    rw [e]
    by_cases hx : m ≤ 9223372036854775807
    · have e2 : gapC 9223372036854775807 m = 9223372036854775807 - m := by unfold gapC; omega
      have e3 := lift (9223372036854775807 - m) (rawC u v lo - m) (by omega)
      rw [Int.sub_mul (rawC u v lo)] at e3
      rw [e2]; omega
    · have e4 : m = 9223372036854775808 := by omega
      have e2 : gapC 9223372036854775807 m = 1 := by unfold gapC; omega
      have e3 : m * 1 ≤ m * u := Int.mul_le_mul_of_nonneg_left (by omega) (by omega)
      rw [e2]; omega
theorem rep_in {u v lo : Int} (g : GoodC u v) (h : 1 ≤ lo) (h2 : endC u v lo < 9223372036854775808) : lo ≤ repC u v lo ∧ repC u v lo ≤ endC u v lo := by
  have a := raw_ge g h
  have b := way_ge g (show 0 ≤ rawC u v lo by omega)
  unfold endC at *; unfold repC; omega
theorem rep_word {u v lo : Int} (g : GoodC u v) (h : 1 ≤ lo) : 0 ≤ repC u v lo ∧ repC u v lo ≤ 9223372036854775807 := by
  have a := raw_ge g h
  unfold repC; omega
theorem raw_mono {u w v lo lo' : Int} (g : GoodC u v) (h : u ≤ w) (h1 : 1 ≤ lo) (h2 : lo ≤ lo') : rawC u v lo ≤ rawC w v lo' := by
  obtain ⟨g0, g1, g2⟩ := g
  unfold rawC
  refine Int.ediv_le_ediv (by omega) ?_
  have a : lo * (v + u) ≤ lo * (v + w) := Int.mul_le_mul_of_nonneg_left (by omega) (by omega)
  have b : lo * (v + w) ≤ lo' * (v + w) := Int.mul_le_mul_of_nonneg_right h2 (by omega)
  omega
theorem way_mono {u w v r r' : Int} (g : GoodC u v) (g' : GoodC w v) (h : u ≤ w) (h1 : 0 ≤ r) (h2 : r ≤ r') : wayC u v r ≤ wayC w v r' := by
  have hq := way_ge g h1
  obtain ⟨g0, g1, g2⟩ := g
  obtain ⟨k0, k1, k2⟩ := g'
  have a : wayC u v r * (v - u) ≤ r * v := Int.ediv_mul_le _ (by omega)
  have b : wayC u v r * (v - w) ≤ wayC u v r * (v - u) := Int.mul_le_mul_of_nonneg_left (by omega) (by omega)
  have c : r * v ≤ r' * v := Int.mul_le_mul_of_nonneg_right h2 (by omega)
  show wayC u v r ≤ r' * v / (v - w)
  rw [Int.le_ediv_iff_mul_le (by omega)]
  omega
theorem low_looser {u w v : Int} (g : GoodC u v) (g' : GoodC w v) (h : u ≤ w) (k : Nat) : lowC u v k ≤ lowC w v k := by
  induction k with
  | zero => simp [lowC]
  | succ k ih =>
    have p := low_pos g k
    have r := raw_mono g h p ih
    have r0 := raw_ge g p
    have y := way_mono g g' h (show 0 ≤ rawC u v (lowC u v k) by omega) r
    simp only [low_succ]; unfold endC; omega
theorem fewer_cells {u w v : Int} (g : GoodC u v) (g' : GoodC w v) (h : u ≤ w) {n m : Nat} (hn : TabN u v n) (hm : TabN w v m) : m ≤ n := by
  rcases Nat.lt_or_ge n m with e | e
  · have a := hm.1 n e
    have b := low_looser g g' h n
    have c := hn.2
    omega
  · exact e
theorem tab_ten : TabN 1 10 215 := by
  have g : GoodC 1 10 := by unfold GoodC; omega
  have a : lowC 1 10 214 ≤ 9223372036854775808 := by decide +kernel
  have b : lowC 1 10 215 = 9223372036854775809 := by decide +kernel
  exact ⟨fun k hk => by have := low_mono g (show k ≤ 214 by omega); omega, b⟩
end Go.Proofs.YtojincgbnjkegaaDoor

/-
  Plain mathematics of values in bins, by a partition of magnitudes: no program in sight.
-/
namespace Go.Proofs.YtojincgbnjkegaaDoor
set_option linter.unusedVariables false
set_option linter.unusedSimpArgs false

/-- A partition of magnitudes: a closeness' n cells, or spans by so many digits. -/
inductive Pt where
  | cells (u v : Int) (n : Nat)
  | spans (d : Int) (L : Nat) (T : Int)
def Pt.ok : Pt → Prop
  | .cells u v n => GoodC u v ∧ TabN u v n ∧ n ≤ 4096
  | .spans d L T => SpanP d L T
/-- The part of a magnitude; what stands for a part (0: there is none such). -/
def Pt.idx : Pt → Int → Int
  | .cells u v n, m => idxC u v n m
  | .spans _ L _, m => idxS L m
def Pt.rep : Pt → Int → Int
  | .cells u v n, i => if 0 ≤ i ∧ i < n then repC u v (lowC u v i.toNat) else 0
  | .spans _ L _, i => if 1 ≤ i ∧ i ≤ lastS L then midS (lowI L i) (highI L i) else 0

theorem lasts_bd (L : Nat) (hL : L ≤ 14) : 1 ≤ lastS L ∧ lastS L ≤ 1048576 := by
  have := pow_le hL
  have e14 : (2 : Int) ^ 14 = 16384 := by decide
  have := pow_pos L
  have a := Int.mul_le_mul (show (64 : Int) - L ≤ 64 by omega) (show (2 : Int) ^ L ≤ 16384 by omega) (by omega) (by omega)
  have b := Int.mul_le_mul_of_nonneg_right (show (1 : Int) ≤ 64 - L by omega) (show (0 : Int) ≤ 2 ^ L by omega)
  unfold lastS; omega
theorem pt_idx {P : Pt} (h : P.ok) {m : Int} (h1 : 1 ≤ m) (h2 : m ≤ 9223372036854775808) : 0 ≤ P.idx m ∧ P.idx m ≤ 1048576 ∧ 1 ≤ P.rep (P.idx m) ∧ P.rep (P.idx m) ≤ 9223372036854775808 := by
  cases P with
  | cells u v n =>
    obtain ⟨g, t, hn⟩ := h
    obtain ⟨i, hi, e, a, b⟩ := idx_at g t h1 h2
    have hlo := low_pos g i
    have hr := rep_word g hlo
    have hx : (Pt.cells u v n).idx m = i := by show ((idxC u v n m : Nat) : Int) = i; rw [e]
    have hrep : (Pt.cells u v n).rep i = repC u v (lowC u v i) := by
      show (if 0 ≤ (i : Int) ∧ (i : Int) < n then repC u v (lowC u v (i : Int).toNat) else 0) = _
      rw [if_pos ⟨by omega, by omega⟩, Int.toNat_natCast]
    have hge : lowC u v i ≤ rawC u v (lowC u v i) := raw_ge g hlo
    have h9 := t.1 i hi
    rw [hx, hrep]
    refine ⟨by omega, by omega, ?_, ?_⟩ <;> unfold repC <;> omega
  | spans d L T =>
    have hL := (spanp_log h).2
    have hx : (Pt.spans d L T).idx m = idxS L m := rfl
    have b1 := idx_bd L h1 h2 hL
    have b2 := idx_last L h1 h2 hL
    have b3 := lasts_bd L hL
    obtain ⟨c1, c2, c3, c4⟩ := span_in L h1 h2 hL
    have hm := mid_in (show loS L m ≤ hiS L m by omega)
    have hrep : (Pt.spans d L T).rep (idxS L m) = midS (loS L m) (hiS L m) := by
      show (if 1 ≤ idxS L m ∧ idxS L m ≤ lastS L then midS (lowI L (idxS L m)) (highI L (idxS L m)) else 0) = _
      rw [if_pos ⟨b1, b2⟩, low_idx L h1 h2 hL, high_idx L h1 h2 hL]
    rw [hx, hrep]
    omega
theorem pt_mono {P : Pt} (h : P.ok) {m n : Int} (h1 : 1 ≤ m) (h2 : m ≤ n) (h3 : n ≤ 9223372036854775808) : P.idx m ≤ P.idx n := by
  cases P with
  | cells u v k =>
    obtain ⟨g, t, hn⟩ := h
    obtain ⟨i, hi, e, a, b⟩ := idx_at g t h1 (by omega : m ≤ 9223372036854775808)
    obtain ⟨j, hj, e2, a2, b2⟩ := idx_at g t (by omega : 1 ≤ n) h3
    show ((idxC u v k m : Nat) : Int) ≤ ((idxC u v k n : Nat) : Int)
    rw [e, e2]
    by_cases hc : i ≤ j
    · omega
    · have := low_mono g (show j + 1 ≤ i by omega)
      rw [low_succ] at this; omega
  | spans d L T => exact idx_mono L h1 h2 h3 (spanp_log h).2
theorem mag_in {x : Int} (h : I64 x) (h0 : x ≠ 0) : 1 ≤ mag x ∧ mag x ≤ 9223372036854775808 := by unfold I64 at h; unfold mag; split <;> omega

/-- How many of all there are whose value is so. -/
def cntV (f : Int → Bool) (A : List PairV) : Int := sumP (A.filter fun v => f v.1)
theorem cnt_nil (f : Int → Bool) : cntV f [] = 0 := rfl
theorem cnt_cons (f : Int → Bool) (v : PairV) (r : List PairV) : cntV f (v :: r) = (if f v.1 = true then v.2 else 0) + cntV f r := by
  unfold cntV; rw [List.filter_cons]; split
  · rw [sumP_cons]
  · omega
theorem cnt_app (f : Int → Bool) (A B : List PairV) : cntV f (A ++ B) = cntV f A + cntV f B := by unfold cntV; rw [List.filter_append, sumP_app]
theorem cnt_one (f : Int → Bool) (v : PairV) : cntV f [v] = if f v.1 = true then v.2 else 0 := by rw [cnt_cons, cnt_nil]; omega
theorem cnt_bd {f : Int → Bool} : ∀ {A : List PairV}, (∀ v, v ∈ A → 0 ≤ v.2) → 0 ≤ cntV f A := by
  intro A
  induction A with
  | nil => intro _; exact Int.le_refl _
  | cons v r ih =>
    intro h
    have h1 := h v (by simp)
    have h2 := ih (fun q hq => h q (by simp [hq]))
    rw [cnt_cons]; split <;> omega
theorem cnt_le {f g : Int → Bool} : ∀ {A : List PairV}, (∀ v, v ∈ A → 0 ≤ v.2) → (∀ v, v ∈ A → f v.1 = true → g v.1 = true) → cntV f A ≤ cntV g A := by
  intro A
  induction A with
  | nil => intro _ _; exact Int.le_refl _
  | cons v r ih =>
    intro h hfg
    have h1 := h v (by simp)
    have h2 := ih (fun q hq => h q (by simp [hq])) (fun q hq => hfg q (by simp [hq]))
    have h3 := hfg v (by simp)
    rw [cnt_cons, cnt_cons]
    by_cases hf : f v.1 = true
    · rw [if_pos hf, if_pos (h3 hf)]; omega
    · rw [if_neg hf]; split <;> omega
theorem cnt_eq {f g : Int → Bool} : ∀ {A : List PairV}, (∀ v, v ∈ A → f v.1 = g v.1) → cntV f A = cntV g A := by
  intro A h
  unfold cntV
  rw [List.filter_congr (fun v hv => h v hv)]
theorem cnt_two {f g k : Int → Bool} : ∀ {A : List PairV}, (∀ v, v ∈ A → (f v.1 = (g v.1 || k v.1)) ∧ (g v.1 && k v.1) = false) → cntV f A = cntV g A + cntV k A := by
  intro A
  induction A with
  | nil => intro _; rfl
  | cons v r ih =>
    intro h
    have h1 := h v (by simp)
    have h2 := ih (fun q hq => h q (by simp [hq]))
    rw [cnt_cons, cnt_cons, cnt_cons, h2]
    obtain ⟨a, b⟩ := h1
    rw [a]
    cases hg : g v.1 <;> cases hk : k v.1 <;> simp_all <;> omega
theorem cnt_all (A : List PairV) : cntV (fun _ => true) A = sumP A := by unfold cntV; rw [List.filter_eq_self.2 (fun _ _ => rfl)]

/-- On which side of 0. -/
def sideV (b : Bool) (x : Int) : Bool := !(x == 0) && (decide (x < 0) == b)
theorem side_true {x : Int} : sideV true x = decide (x < 0) := by
  unfold sideV
  by_cases h : x < 0
  · have : (x == 0) = false := by simp; omega
    simp [h, this]
  · simp [h]
theorem side_false {x : Int} : sideV false x = decide (0 < x) := by
  unfold sideV
  by_cases h : 0 < x
  · have h1 : (x == 0) = false := by simp; omega
    have h2 : ¬ x < 0 := by omega
    simp [h, h1, h2]
  · by_cases h0 : x = 0
    · simp [h0]
    · have h2 : x < 0 := by omega
      simp [h, h2]
/-- The values of one side, by parts; as a row; noughts. -/
def partsV (P : Pt) (b : Bool) (A : List PairV) : List PairV := (A.filter fun v => sideV b v.1).map fun v => (P.idx (mag v.1), v.2)
def rowV (P : Pt) (b : Bool) (A : List PairV) : List PairV := foldP (partsV P b A)
def zeroV (A : List PairV) : Int := cntV (fun x => x == 0) A
theorem parts_snoc (P : Pt) (b : Bool) (A : List PairV) (v : PairV) : partsV P b (A ++ [v]) = partsV P b A ++ (if sideV b v.1 = true then [(P.idx (mag v.1), v.2)] else []) := by
  unfold partsV; rw [List.filter_append, List.map_append]; congr 1
  rw [List.filter_cons]; split <;> simp
theorem row_snoc (P : Pt) (b : Bool) (A : List PairV) (v : PairV) : rowV P b (A ++ [v]) = if sideV b v.1 = true then addP (rowV P b A) (P.idx (mag v.1)) v.2 else rowV P b A := by
  unfold rowV; rw [parts_snoc]; split
  · rw [fold_snoc]
  · rw [List.append_nil]
theorem zero_snoc (A : List PairV) (v : PairV) : zeroV (A ++ [v]) = zeroV A + if v.1 = 0 then v.2 else 0 := by
  unfold zeroV; rw [cnt_app, cnt_one]; simp

/-- Values that can be played. -/
def FineV (A : List PairV) : Prop := ∀ v, v ∈ A → I64 v.1 ∧ 0 < v.2 ∧ v.2 ≤ 1125899906842624
theorem fine_app {A B : List PairV} (h : FineV A) (k : FineV B) : FineV (A ++ B) := fun v hv => by
  rcases List.mem_append.1 hv with h' | h'
  · exact h v h'
  · exact k v h'
theorem fine_take {A : List PairV} (h : FineV A) (k : Nat) : FineV (A.take k) := fun v hv => h v (List.mem_of_mem_take hv)
theorem fine_pos {A : List PairV} (h : FineV A) : ∀ v, v ∈ A → 0 ≤ v.2 := fun v hv => by have := h v hv; omega
theorem fine_sum : ∀ {A : List PairV}, FineV A → 0 ≤ sumP A ∧ sumP A ≤ A.length * 1125899906842624 := by
  intro A
  induction A with
  | nil => intro _; exact ⟨Int.le_refl _, Int.le_refl _⟩
  | cons v r ih =>
    intro h
    have h1 := h v (by simp)
    have h2 := ih (fun q hq => h q (by simp [hq]))
    rw [sumP_cons, List.length_cons]; push_cast; omega
theorem parts_mem {P : Pt} (hP : P.ok) {b : Bool} {A : List PairV} (h : FineV A) : ∀ p, p ∈ partsV P b A → okP p ∧ 0 ≤ p.1 ∧ p.1 ≤ 1048576 ∧ 0 < p.2 ∧ p.2 ≤ 1125899906842624 := by
  intro p hp
  unfold partsV at hp
  obtain ⟨v, hv, rfl⟩ := List.mem_map.1 hp
  obtain ⟨hv1, hv2⟩ := List.mem_filter.1 hv
  have hf := h v hv1
  have h0 : v.1 ≠ 0 := by intro e; unfold sideV at hv2; rw [e] at hv2; simp at hv2
  obtain ⟨m1, m2⟩ := mag_in hf.1 h0
  have := pt_idx hP m1 m2
  refine ⟨⟨?_, ?_⟩, this.1, this.2.1, hf.2⟩
  · show I64 (P.idx (mag v.1)); unfold I64; omega
  · show Word v.2; unfold Word; omega
theorem parts_len (P : Pt) (b : Bool) (A : List PairV) : (partsV P b A).length ≤ A.length := by unfold partsV; rw [List.length_map]; exact List.length_filter_le _ _
theorem parts_cnt (P : Pt) (b : Bool) (f : Int → Bool) : ∀ A : List PairV, cntV f (partsV P b A) = cntV (fun x => sideV b x && f (P.idx (mag x))) A := by
  intro A
  induction A with
  | nil => rfl
  | cons v r ih =>
    rw [cnt_cons, ← ih]
    have e : partsV P b (v :: r) = (if sideV b v.1 = true then [(P.idx (mag v.1), v.2)] else []) ++ partsV P b r := by
      unfold partsV; rw [List.filter_cons]; split <;> simp
    rw [e, cnt_app]
    split
    · rename_i h; rw [cnt_one, h]; simp
    · rename_i h
      have : sideV b v.1 = false := by simpa using h
      rw [this]; simp [cnt_nil]

theorem below_cnt (L : List PairV) (i : Int) : belowP L i = cntV (fun j => decide (j ≤ i)) L := rfl
theorem count_cnt (L : List PairV) (i : Int) : countP L i = cntV (fun j => j == i) L := rfl
theorem below_add {R : List PairV} {i c : Int} (h : GoodP R) (hc : 0 < countP R i + c) (j : Int) : belowP (addP R i c) j = belowP R j + if i ≤ j then c else 0 := by
  have hm : midP i (countP R i + c) = [(i, countP R i + c)] := by unfold midP; rw [if_pos hc]
  unfold addP
  rw [hm, below_app, below_app, below_one]
  rcases good_part i h with ⟨n, e, e2, e3⟩ | ⟨e, e2⟩
  · have : belowP R j = belowP (lowP R i) j + (belowP [(i, n)] j + belowP (highP R i) j) := by
      rw [← below_app, ← below_app]; show _ = belowP (lowP R i ++ ((i, n) :: highP R i)) j; rw [e]
    rw [this, below_one, e2]
    show belowP (lowP R i) j + ((if i ≤ j then n + c else 0) + belowP (highP R i) j) = _ + ((if i ≤ j then n else 0) + _) + _
    split <;> omega
  · have : belowP R j = belowP (lowP R i) j + belowP (highP R i) j := by rw [← below_app, e]
    rw [this, e2]
    show belowP (lowP R i) j + ((if i ≤ j then 0 + c else 0) + belowP (highP R i) j) = _
    split <;> omega
/-- Parts, folded to a row. -/
structure Fold50 (L R : List PairV) : Prop where
  sums : Sum50 R L.length
  cnt : ∀ j, countP R j = countP L j
  below : ∀ j, belowP R j = belowP L j
  sum : sumP R = sumP L
theorem fold50_rev : ∀ (L : List PairV), (∀ p, p ∈ L → okP p ∧ 0 < p.2 ∧ p.2 ≤ 1125899906842624) → L.length ≤ 1000 → Fold50 L.reverse (foldP L.reverse) := by
  intro L
  induction L with
  | nil => intro _ _; exact ⟨Sum50.nil, fun _ => rfl, fun _ => rfl, rfl⟩
  | cons p r ih =>
    intro h hl
    rw [List.length_cons] at hl
    have hp := h p (by simp)
    have I := ih (fun q hq => h q (by simp [hq])) (by omega)
    rw [List.reverse_cons, fold_snoc]
    have hr : r.reverse.length = r.length := List.length_reverse
    obtain ⟨s1, s2⟩ := I.sums.add hp.1 hp.2.1 hp.2.2 (by omega)
    have h0 : 0 ≤ countP (foldP r.reverse) p.1 := (count_le_sum p.1 (ok_pos I.sums.ok)).1
    refine ⟨?_, fun j => ?_, fun j => ?_, ?_⟩
    · rw [List.length_append]; exact s1
    · rw [count_add (by omega), I.cnt, countP_app, countP_one]
      congr 1
      by_cases e : j = p.1
      · rw [if_pos e, if_pos e.symm]
      · rw [if_neg e, if_neg (fun x => e x.symm)]
    · rw [below_add I.sums.good (by omega), I.below, below_app, below_one]
    · rw [s2, I.sum, sumP_app, sumP_one]
theorem fold50 (L : List PairV) (h : ∀ p, p ∈ L → okP p ∧ 0 < p.2 ∧ p.2 ≤ 1125899906842624) (hl : L.length ≤ 1000) : Fold50 L (foldP L) := by
  have := fold50_rev L.reverse (fun p hp => h p (List.mem_reverse.1 hp)) (by rw [List.length_reverse]; exact hl)
  rw [List.reverse_reverse] at this
  exact this
theorem row_fold {P : Pt} (hP : P.ok) (b : Bool) {A : List PairV} (h : FineV A) (hl : A.length ≤ 1000) : Fold50 (partsV P b A) (rowV P b A) :=
  fold50 _ (fun p hp => by have := parts_mem hP h p hp; exact ⟨this.1, this.2.2.2⟩) (by have := parts_len P b A; omega)
theorem row_sum50 {P : Pt} (hP : P.ok) (b : Bool) {A : List PairV} (h : FineV A) (hl : A.length ≤ 1000) : Sum50 (rowV P b A) A.length := by
  have F := row_fold hP b h hl
  have hp := parts_len P b A
  have h1 := F.sums.sum
  have h2 : ((partsV P b A).length : Int) * 1125899906842624 ≤ A.length * 1125899906842624 := Int.mul_le_mul_of_nonneg_right (by omega) (by omega)
  exact ⟨F.sums.good, F.sums.ok, Nat.le_trans F.sums.len hp, by omega⟩
theorem row_sum {P : Pt} (hP : P.ok) (b : Bool) {A : List PairV} (h : FineV A) (hl : A.length ≤ 1000) : sumP (rowV P b A) = cntV (sideV b) A := by
  rw [(row_fold hP b h hl).sum, ← cnt_all, parts_cnt]
  exact cnt_eq fun v _ => by simp
theorem row_below {P : Pt} (hP : P.ok) (b : Bool) {A : List PairV} (h : FineV A) (hl : A.length ≤ 1000) (i : Int) : belowP (rowV P b A) i = cntV (fun x => sideV b x && decide (P.idx (mag x) ≤ i)) A := by
  rw [(row_fold hP b h hl).below, below_cnt, parts_cnt]
theorem row_count {P : Pt} (hP : P.ok) (b : Bool) {A : List PairV} (h : FineV A) (hl : A.length ≤ 1000) (i : Int) : countP (rowV P b A) i = cntV (fun x => sideV b x && (P.idx (mag x) == i)) A := by
  rw [(row_fold hP b h hl).cnt, count_cnt, parts_cnt]
theorem sides_all {P : Pt} (hP : P.ok) {A : List PairV} (h : FineV A) (hl : A.length ≤ 1000) : sumP A = sumP (rowV P true A) + sumP (rowV P false A) + zeroV A := by
  rw [row_sum hP true h hl, row_sum hP false h hl, ← cnt_all]
  have e1 : cntV (fun _ => true) A = cntV (fun x => !(x == 0)) A + zeroV A := cnt_two fun v _ => by cases (v.1 == 0) <;> simp
  have e2 : cntV (fun x => !(x == 0)) A = cntV (sideV true) A + cntV (sideV false) A := by
    refine cnt_two fun v _ => ?_
    unfold sideV
    cases (v.1 == 0) <;> cases (decide (v.1 < 0)) <;> simp
  omega
end Go.Proofs.YtojincgbnjkegaaDoor

/-
  Plain mathematics of bins: what they keep, find and rank, and what is asked for: no program in sight.
-/
namespace Go.Proofs.YtojincgbnjkegaaDoor
set_option linter.unusedVariables false
set_option linter.unusedSimpArgs false

/-- What is kept on a side (true: the least indexes; false: the greatest), what is found, and told. -/
def keepS (s : Bool) (m : Int) (A : List PairV) : List PairV := if s = true then keepH m A else keepP m A
def findS (s : Bool) (K : List PairV) (l t : Int) : Option Int := if s = true then findH K l t else findL K l t
def lowS (s : Bool) (m : Int) (K : List PairV) (l i : Int) : Int := if s = true then lowBH m K l i else lowB m K l i
def highS (s : Bool) (m : Int) (K : List PairV) (l i : Int) : Int := if s = true then highBH m K l i else highB m K l i
theorem keeps_add {s : Bool} {m : Int} {A : List PairV} {i c : Int} (hm : 0 < m) (hg : GoodP A) (hn : countP A i + c ≤ 9223372036854775807) (hc : 0 < c) : keepS s m (addP (keepS s m A) i c) = keepS s m (addP A i c) := by
  unfold keepS; split
  · exact keeph_add hm hg hn hc
  · exact keep_add hm hg hn hc
theorem keeps_join {s : Bool} {m : Int} {A B : List PairV} (hm : 0 < m) (hA : GoodP A) (oA : ∀ p, p ∈ A → okP p) (hB : GoodP B) (oB : ∀ p, p ∈ B → okP p) (hs : sumP A + sumP B ≤ 9223372036854775807) : keepS s m (joinP (keepS s m A) (keepS s m B)) = keepS s m (joinP A B) := by
  unfold keepS; split
  · exact keeph_join hm hA oA hB oB hs
  · exact keep_join hm hA oA hB oB hs
theorem keeps_le (s : Bool) (m : Int) (A : List PairV) : (keepS s m A).length ≤ A.length := by
  unfold keepS; split
  · exact keeph_le m A
  · exact keep_le m A
theorem keeps_good {s : Bool} {m : Int} {A : List PairV} (h : GoodP A) : GoodP (keepS s m A) := by
  unfold keepS; split
  · exact keeph_good h
  · exact keep_good h
theorem keeps_ok {s : Bool} {m : Int} {A : List PairV} (h : ∀ p, p ∈ A → okP p) : ∀ p, p ∈ keepS s m A → okP p := by
  unfold keepS; split
  · exact keeph_ok h
  · exact keep_ok h
theorem keeps_sum (s : Bool) (m : Int) {A : List PairV} (h : ∀ p, p ∈ A → 0 ≤ p.2) : 0 ≤ sumP (keepS s m A) ∧ sumP (keepS s m A) ≤ sumP A := by
  unfold keepS; split
  · exact keeph_sum m h
  · exact keep_sum m h
theorem keeps_nil (s : Bool) (m : Int) : keepS s m [] = [] := by unfold keepS; split <;> rfl
theorem keeps_mem {s : Bool} {m : Int} {A : List PairV} {p : PairV} (h : p ∈ keepS s m A) : p ∈ A := by
  unfold keepS at h; split at h
  · exact (keeph_mem h).1
  · exact (highP_mem h).1
/-- What is found is what is asked for of all, unless that one isn't kept. -/
theorem finds_keep {s : Bool} {m : Int} {A : List PairV} (hm : 0 < m) (hg : GoodP A) (t i : Int) (hf : findP A t = some i) (hi : 0 < countP A i) :
    findS s (keepS s m A) (sumP A - sumP (keepS s m A)) t = if countP (keepS s m A) i = 0 then none else some i := by
  unfold findS keepS; split
  · rw [find_keeph hm hg, hf, keeph_count]
    by_cases h : i < begP A + m
    · rw [if_pos h, if_neg (by omega)]; show (if i - begP A < m then some i else none) = _; rw [if_pos (by omega)]
    · rw [if_neg h, if_pos rfl]; show (if i - begP A < m then some i else none) = _; rw [if_neg (by omega)]
  · rw [find_keep hm hg, hf, keep_count]
    by_cases h : endP A - m < i
    · rw [if_pos h, if_neg (by omega)]; show (if endP A - i < m then some i else none) = _; rw [if_pos (by omega)]
    · rw [if_neg h, if_pos rfl]; show (if endP A - i < m then some i else none) = _; rw [if_neg (by omega)]
theorem belows_keep {s : Bool} {m : Int} {A : List PairV} (hm : 0 < m) (hg : GoodP A) (i : Int) :
    lowS s m (keepS s m A) (sumP A - sumP (keepS s m A)) i ≤ belowP A i ∧ belowP A i ≤ highS s m (keepS s m A) (sumP A - sumP (keepS s m A)) i ∧
    (lowS s m (keepS s m A) (sumP A - sumP (keepS s m A)) i = highS s m (keepS s m A) (sumP A - sumP (keepS s m A)) i ∨ 0 < sumP A - sumP (keepS s m A)) := by
  unfold lowS highS keepS; split
  · have := below_keeph hm hg (m := m) i
    exact ⟨this.1, this.2.1, this.2.2.imp id fun h => h.2⟩
  · have := below_keep hm hg (m := m) i
    exact ⟨this.1, this.2.1, this.2.2.imp id fun h => h.2⟩

/-- The t-th one of a row. -/
theorem find_of {A : List PairV} {t i : Int} (hg : GoodP A) (h1 : belowP A (i - 1) < t) (h2 : t ≤ belowP A i) (h0 : 0 < t) : findP A t = some i := by
  have hpos : ∀ q, q ∈ A → 0 ≤ q.2 := fun q hq => by have := hg.1 q hq; omega
  have bl : ∀ j, belowP (lowP A i) j = if i - 1 ≤ j then sumP (lowP A i) else belowP (lowP A i) j := by
    intro j; split
    · unfold belowP; rw [List.filter_eq_self.2]
      intro p hp; have := (lowP_mem hp).2; simp; omega
    · rfl
  have bh : ∀ j, j ≤ i → belowP (highP A i) j = 0 := by
    intro j hj
    unfold belowP; rw [List.filter_eq_nil_iff.2]; · rfl
    intro p hp; have := (highP_mem hp).2; simp; omega
  have hp := good_part i hg
  obtain ⟨X, hX⟩ : ∃ X, lowP A i = X := ⟨_, rfl⟩
  obtain ⟨Y, hY⟩ : ∃ Y, highP A i = Y := ⟨_, rfl⟩
  rw [hX, hY] at hp
  rw [hX] at bl
  rw [hY] at bh
  rcases hp with ⟨n, e, e2, e3⟩ | ⟨e, e2⟩
  · have b1 : belowP A (i - 1) = sumP X := by
      rw [← e, below_app]; show belowP X (i - 1) + belowP ([(i, n)] ++ Y) (i - 1) = _
      rw [below_app, below_one, if_neg (by show ¬ i ≤ i - 1; omega), bh _ (by omega), bl, if_pos (by omega)]; omega
    have b2 : belowP A i = sumP X + n := by
      rw [← e, below_app]; show belowP X i + belowP ([(i, n)] ++ Y) i = _
      rw [below_app, below_one, if_pos (by show i ≤ i; omega), bh _ (by omega), bl, if_pos (by omega)]
      show sumP X + (n + 0) = _; omega
    unfold findP
    rw [if_pos h0]
    have hk : A[X.length]? = some (i, n) := by rw [← e, List.getElem?_append_right (Nat.le_refl _), Nat.sub_self]; rfl
    have ht : A.take X.length = X := by
      have := List.take_left (l₁ := X) (l₂ := (i, n) :: Y)
      rw [e] at this; exact this
    exact seek_at t A 0 X.length (i, n) hpos hk (by rw [ht]; omega) (by rw [ht]; show t ≤ 0 + sumP X + n; omega)
  · exfalso
    have b1 : belowP A (i - 1) = sumP X := by
      rw [← e, below_app, bh _ (by omega), bl, if_pos (by omega)]; omega
    have b2 : belowP A i = sumP X := by
      rw [← e, below_app, bh _ (by omega), bl, if_pos (by omega)]; omega
    omega

/-- What bins hold: rows of what is kept, and of how many in all, below 0 and above it; noughts. -/
structure St where
  k1 : List PairV
  t1 : Int
  k2 : List PairV
  t2 : Int
  z : Int
def St.all (s : St) : Int := s.t1 + s.t2 + s.z
def stNil : St := ⟨[], 0, [], 0, 0⟩
/-- A value more, so often; all of other bins, too; of all values. -/
def addSt (P : Pt) (s : Bool) (m : Int) (st : St) (x c : Int) : St :=
  if x = 0 then { st with z := st.z + c }
  else if x < 0 then { st with k1 := keepS s m (addP st.k1 (P.idx (mag x)) c), t1 := st.t1 + c }
  else { st with k2 := keepS s m (addP st.k2 (P.idx (mag x)) c), t2 := st.t2 + c }
def mergeSt (s : Bool) (m : Int) (a b : St) : St := ⟨keepS s m (joinP a.k1 b.k1), a.t1 + b.t1, keepS s m (joinP a.k2 b.k2), a.t2 + b.t2, a.z + b.z⟩
def stV (P : Pt) (s : Bool) (m : Int) (A : List PairV) : St := ⟨keepS s m (rowV P true A), sumP (rowV P true A), keepS s m (rowV P false A), sumP (rowV P false A), zeroV A⟩
theorem stv_nil (P : Pt) (s : Bool) (m : Int) : stV P s m [] = stNil := by
  unfold stV stNil
  have e : ∀ b, rowV P b [] = [] := fun b => rfl
  rw [e, e, keeps_nil]; rfl
theorem stv_all {P : Pt} (hP : P.ok) (s : Bool) (m : Int) {A : List PairV} (h : FineV A) (hl : A.length ≤ 1000) : (stV P s m A).all = sumP A := by
  have := sides_all hP h hl
  show sumP (rowV P true A) + sumP (rowV P false A) + zeroV A = _; omega
theorem stv_snoc {P : Pt} (hP : P.ok) (s : Bool) {m : Int} (hm : 0 < m) {A : List PairV} (h : FineV A) (hl : A.length ≤ 999) {v : PairV} (hv : I64 v.1 ∧ 0 < v.2 ∧ v.2 ≤ 1125899906842624) :
    stV P s m (A ++ [v]) = addSt P s m (stV P s m A) v.1 v.2 := by
  have S1 := row_sum50 hP true h (by omega)
  have S2 := row_sum50 hP false h (by omega)
  unfold stV addSt
  rw [row_snoc, row_snoc, zero_snoc]
  by_cases h0 : v.1 = 0
  · have a : sideV true v.1 = false := by rw [h0]; rfl
    have b : sideV false v.1 = false := by rw [h0]; rfl
    rw [if_pos h0, if_pos h0, a, b]; simp
  · obtain ⟨m1, m2⟩ := mag_in hv.1 h0
    have hi := pt_idx hP m1 m2
    have hc1 := count_le_sum (P.idx (mag v.1)) (ok_pos S1.ok)
    have hc2 := count_le_sum (P.idx (mag v.1)) (ok_pos S2.ok)
    have z1 := S1.sum
    have z2 := S2.sum
    have hln : (A.length : Int) * 1125899906842624 ≤ 999 * 1125899906842624 := Int.mul_le_mul_of_nonneg_right (by omega) (by omega)
    rw [if_neg h0, if_neg h0]
    by_cases hn : v.1 < 0
    · have a : sideV true v.1 = true := by rw [side_true]; simpa using hn
      have b : sideV false v.1 = false := by rw [side_false]; simp; omega
      rw [if_pos hn, a, b]
      simp only [if_true, Bool.false_eq_true, if_false, Int.add_zero]
      rw [keeps_add hm S1.good (by omega) hv.2.1, add_sum (by omega)]
    · have a : sideV true v.1 = false := by rw [side_true]; simpa using hn
      have b : sideV false v.1 = true := by rw [side_false]; simp; omega
      rw [if_neg hn, a, b]
      simp only [if_true, Bool.false_eq_true, if_false, Int.add_zero]
      rw [keeps_add hm S2.good (by omega) hv.2.1, add_sum (by omega)]
theorem row_app {P : Pt} (hP : P.ok) (b : Bool) {A B : List PairV} (h : FineV A) (k : FineV B) (hl : A.length + B.length ≤ 1000) : rowV P b (A ++ B) = joinP (rowV P b A) (rowV P b B) := by
  have FA := row_fold hP b h (by omega)
  have FB := row_fold hP b k (by omega)
  have F := row_fold hP b (fine_app h k) (by rw [List.length_append]; exact hl)
  have SA := row_sum50 hP b h (by omega)
  have SB := row_sum50 hP b k (by omega)
  have hs : sumP (rowV P b A) + sumP (rowV P b B) ≤ 9223372036854775807 := by
    have z1 := SA.sum
    have z2 := SB.sum
    have : ((A.length : Int) + B.length) * 1125899906842624 ≤ 1000 * 1125899906842624 := Int.mul_le_mul_of_nonneg_right (by omega) (by omega)
    rw [Int.add_mul] at this; omega
  have J := join_facts (rowV P b B) (rowV P b A) SA.good SA.ok (good_each SB.good SB.ok) hs
  refine good_ext F.sums.good J.good fun j => ?_
  have e : partsV P b (A ++ B) = partsV P b A ++ partsV P b B := by unfold partsV; rw [List.filter_append, List.map_append]
  rw [J.cnt, F.cnt, FA.cnt, FB.cnt, e, countP_app]
theorem stv_app {P : Pt} (hP : P.ok) (s : Bool) {m : Int} (hm : 0 < m) {A B : List PairV} (h : FineV A) (k : FineV B) (hl : A.length + B.length ≤ 1000) :
    stV P s m (A ++ B) = mergeSt s m (stV P s m A) (stV P s m B) := by
  have hs : ∀ b, sumP (rowV P b A) + sumP (rowV P b B) ≤ 9223372036854775807 := by
    intro b
    have z1 := (row_sum50 hP b h (by omega)).sum
    have z2 := (row_sum50 hP b k (by omega)).sum
    have : ((A.length : Int) + B.length) * 1125899906842624 ≤ 1000 * 1125899906842624 := Int.mul_le_mul_of_nonneg_right (by omega) (by omega)
    rw [Int.add_mul] at this; omega
  have key : ∀ b, keepS s m (rowV P b (A ++ B)) = keepS s m (joinP (keepS s m (rowV P b A)) (keepS s m (rowV P b B))) ∧ sumP (rowV P b (A ++ B)) = sumP (rowV P b A) + sumP (rowV P b B) := by
    intro b
    have SA := row_sum50 hP b h (by omega)
    have SB := row_sum50 hP b k (by omega)
    have J := join_facts (rowV P b B) (rowV P b A) SA.good SA.ok (good_each SB.good SB.ok) (hs b)
    rw [row_app hP b h k hl, keeps_join hm SA.good SA.ok SB.good SB.ok (hs b)]
    exact ⟨rfl, J.sum⟩
  unfold stV mergeSt
  rw [(key true).1, (key true).2, (key false).1, (key false).2]
  have : zeroV (A ++ B) = zeroV A + zeroV B := cnt_app _ _ _
  rw [this]

/-- What Find answers; what Rank answers. -/
def findSt (P : Pt) (s : Bool) (st : St) (t : Int) : Option Int :=
  if t < 1 then none
  else if t ≤ st.t1 then (findS s st.k1 (st.t1 - sumP st.k1) (st.t1 - t + 1)).map fun i => -(P.rep i)
  else if t ≤ st.t1 + st.z then some 0
  else if t ≤ st.t1 + st.z + st.t2 then (findS s st.k2 (st.t2 - sumP st.k2) (t - st.t1 - st.z)).map fun i => min (P.rep i) 9223372036854775807
  else none
def rankSt (P : Pt) (s : Bool) (m : Int) (st : St) (x : Int) : Int × Int :=
  if x = 0 then (st.t1 + st.z, st.t1 + st.z)
  else if x < 0 then (st.t1 - highS s m st.k1 (st.t1 - sumP st.k1) (P.idx (mag x)), st.t1 - lowS s m st.k1 (st.t1 - sumP st.k1) (P.idx (mag x) - 1))
  else (st.t1 + st.z + lowS s m st.k2 (st.t2 - sumP st.k2) (P.idx (mag x) - 1), st.t1 + st.z + highS s m st.k2 (st.t2 - sumP st.k2) (P.idx (mag x)))

/-- What stands for a value; the t-th value of all; what is asked for. -/
def standV (P : Pt) (x : Int) : Int := if x = 0 then 0 else if x < 0 then -(P.rep (P.idx (mag x))) else min (P.rep (P.idx (mag x))) 9223372036854775807
def ltV (A : List PairV) (x : Int) : Int := cntV (fun y => decide (y < x)) A
def eqV (A : List PairV) (x : Int) : Int := cntV (fun y => y == x) A
def upV (A : List PairV) (x : Int) : Int := cntV (fun y => decide (y ≤ x)) A
theorem up_split (A : List PairV) (x : Int) : upV A x = ltV A x + eqV A x := cnt_two fun v _ => by
  by_cases h : v.1 < x
  · have : (v.1 == x) = false := by simp; omega
    simp [h, this]; omega
  · by_cases e : v.1 = x
    · simp [e]
    · have : (v.1 == x) = false := by simp [e]
      simp [h, this]; omega
def isV (A : List PairV) (t : Int) (v : PairV) : Bool := decide (ltV A v.1 < t) && decide (t ≤ ltV A v.1 + eqV A v.1)
def exactV (A : List PairV) (t : Int) : Option Int := (A.find? (isV A t)).map fun v => v.1
def askV (P : Pt) (s : Bool) (m : Int) (A : List PairV) (t : Int) : Option Int :=
  match exactV A t with
  | none => none
  | some x => if x ≠ 0 ∧ countP (keepS s m (rowV P (decide (x < 0)) A)) (P.idx (mag x)) = 0 then none else some (standV P x)

theorem least_of : ∀ (L : List PairV), L ≠ [] → ∃ v, v ∈ L ∧ ∀ u, u ∈ L → v.1 ≤ u.1 := by
  intro L
  induction L with
  | nil => intro h; exact absurd rfl h
  | cons a r ih =>
    intro _
    by_cases hr : r = []
    · subst hr; exact ⟨a, by simp, fun u hu => by simp at hu; subst hu; exact Int.le_refl _⟩
    · obtain ⟨v, hv, h⟩ := ih hr
      by_cases hc : a.1 ≤ v.1
      · exact ⟨a, by simp, fun u hu => by
          rcases List.mem_cons.1 hu with rfl | hu
          · exact Int.le_refl _
          · have := h u hu; omega⟩
      · exact ⟨v, by simp [hv], fun u hu => by
          rcases List.mem_cons.1 hu with rfl | hu
          · omega
          · exact h u hu⟩
theorem most_of : ∀ (L : List PairV), L ≠ [] → ∃ v, v ∈ L ∧ ∀ u, u ∈ L → u.1 ≤ v.1 := by
  intro L
  induction L with
  | nil => intro h; exact absurd rfl h
  | cons a r ih =>
    intro _
    by_cases hr : r = []
    · subst hr; exact ⟨a, by simp, fun u hu => by simp at hu; subst hu; exact Int.le_refl _⟩
    · obtain ⟨v, hv, h⟩ := ih hr
      by_cases hc : v.1 ≤ a.1
      · exact ⟨a, by simp, fun u hu => by
          rcases List.mem_cons.1 hu with rfl | hu
          · exact Int.le_refl _
          · have := h u hu; omega⟩
      · exact ⟨v, by simp [hv], fun u hu => by
          rcases List.mem_cons.1 hu with rfl | hu
          · omega
          · exact h u hu⟩
/-- There is a t-th value, if there are so many. -/
theorem exact_some {A : List PairV} (h : FineV A) {t : Int} (h1 : 1 ≤ t) (h2 : t ≤ sumP A) : ∃ v, v ∈ A ∧ isV A t v = true := by
  have hpos := fine_pos h
  have hne : (A.filter fun v => decide (t ≤ upV A v.1)) ≠ [] := by
    have hA : A ≠ [] := by intro e; rw [e] at h2; simp [sumP_nil] at h2; omega
    obtain ⟨v, hv, hm⟩ := most_of A hA
    have : upV A v.1 = sumP A := by
      rw [← cnt_all]; exact cnt_eq fun u hu => by simpa using hm u hu
    intro e
    have := List.filter_eq_nil_iff.1 e v hv
    simp at this; omega
  obtain ⟨v, hv, hm⟩ := least_of _ hne
  obtain ⟨hv1, hv2⟩ := List.mem_filter.1 hv
  have hv3 : t ≤ upV A v.1 := by simpa using hv2
  refine ⟨v, hv1, ?_⟩
  have hlt : ltV A v.1 < t := by
    by_cases hc : ltV A v.1 < t
    · exact hc
    · exfalso
      have hB : (A.filter fun u => decide (u.1 < v.1)) ≠ [] := by
        intro e
        have : ltV A v.1 = 0 := by unfold ltV cntV; rw [e]; rfl
        omega
      obtain ⟨y, hy, hym⟩ := most_of _ hB
      obtain ⟨hy1, hy2⟩ := List.mem_filter.1 hy
      have hy3 : y.1 < v.1 := by simpa using hy2
      have e : upV A y.1 = ltV A v.1 := cnt_eq fun u hu => by
        apply decide_eq_decide.2
        constructor
        · intro h; omega
        · intro h; exact hym u (List.mem_filter.2 ⟨hu, by simpa using h⟩)
      have := hm y (List.mem_filter.2 ⟨hy1, by simp; omega⟩)
      omega
  have := up_split A v.1
  unfold isV
  simp only [Bool.and_eq_true, decide_eq_true_eq]
  exact ⟨hlt, by omega⟩
end Go.Proofs.YtojincgbnjkegaaDoor

/-
  Plain mathematics of bins: what is found is what is asked for; what is told of ranks.
-/
namespace Go.Proofs.YtojincgbnjkegaaDoor
set_option linter.unusedVariables false
set_option linter.unusedSimpArgs false

theorem exact_of {A : List PairV} {t x : Int} (h : exactV A t = some x) : ∃ v, v ∈ A ∧ v.1 = x ∧ ltV A x < t ∧ t ≤ upV A x := by
  unfold exactV at h
  obtain ⟨v, hv, rfl⟩ := Option.map_eq_some_iff.1 h
  have h1 := List.find?_some hv
  unfold isV at h1
  simp only [Bool.and_eq_true, decide_eq_true_eq] at h1
  exact ⟨v, List.mem_of_find?_eq_some hv, rfl, h1.1, by rw [up_split]; exact h1.2⟩
theorem exact_not {A : List PairV} (h : FineV A) {t : Int} (ht : t < 1 ∨ sumP A < t) : exactV A t = none := by
  have hpos := fine_pos h
  unfold exactV
  rw [List.find?_eq_none.2, Option.map_none]
  intro v hv
  unfold isV
  have a : 0 ≤ ltV A v.1 := cnt_bd hpos
  have b : upV A v.1 ≤ sumP A := by rw [← cnt_all]; exact cnt_le hpos fun _ _ _ => rfl
  rw [up_split] at b
  simp only [Bool.and_eq_true, decide_eq_true_eq, not_and]
  intro c; omega
theorem exact_is {A : List PairV} (h : FineV A) {t : Int} (h1 : 1 ≤ t) (h2 : t ≤ sumP A) : ∃ x, exactV A t = some x := by
  obtain ⟨v, hv, hi⟩ := exact_some h h1 h2
  unfold exactV
  cases e : A.find? (isV A t) with
  | none => exact absurd hi (by simpa using List.find?_eq_none.1 e v hv)
  | some u => exact ⟨u.1, rfl⟩

/-- What Find answers stands for the very value that is asked for, unless that one is lost. -/
theorem find_ask {P : Pt} (hP : P.ok) (s : Bool) {m : Int} (hm : 0 < m) {A : List PairV} (h : FineV A) (hl : A.length ≤ 1000) (t : Int) : findSt P s (stV P s m A) t = askV P s m A t := by
  have hpos := fine_pos h
  have hall := sides_all hP h hl
  have S1 := row_sum50 hP true h hl
  have S2 := row_sum50 hP false h hl
  have e1 := row_sum hP true h hl
  have e2 := row_sum hP false h hl
  have z0 : 0 ≤ zeroV A := cnt_bd hpos
  have q1 : 0 ≤ sumP (rowV P true A) := sumP_pos (ok_pos S1.ok)
  have q2 : 0 ≤ sumP (rowV P false A) := sumP_pos (ok_pos S2.ok)
  have fs : findSt P s (stV P s m A) t = if t < 1 then none
      else if t ≤ sumP (rowV P true A) then (findS s (keepS s m (rowV P true A)) (sumP (rowV P true A) - sumP (keepS s m (rowV P true A))) (sumP (rowV P true A) - t + 1)).map fun i => -(P.rep i)
      else if t ≤ sumP (rowV P true A) + zeroV A then some 0
      else if t ≤ sumP (rowV P true A) + zeroV A + sumP (rowV P false A) then (findS s (keepS s m (rowV P false A)) (sumP (rowV P false A) - sumP (keepS s m (rowV P false A))) (t - sumP (rowV P true A) - zeroV A)).map fun i => min (P.rep i) 9223372036854775807
      else none := rfl
  rw [fs]
  by_cases h1 : t < 1
  · rw [if_pos h1]; unfold askV; rw [exact_not h (.inl h1)]
  by_cases h2 : sumP A < t
  · rw [if_neg h1, if_neg (by omega), if_neg (by omega), if_neg (by omega)]; unfold askV; rw [exact_not h (.inr h2)]
  obtain ⟨x, hx⟩ := exact_is h (show 1 ≤ t by omega) (by omega)
  obtain ⟨v, hv, hvx, hlt, hup⟩ := exact_of hx
  unfold askV
  rw [hx]
  show _ = if x ≠ 0 ∧ countP (keepS s m (rowV P (decide (x < 0)) A)) (P.idx (mag x)) = 0 then none else some (standV P x)
  have hxi : I64 x := hvx ▸ (h v hv).1
  by_cases x0 : x = 0
  · subst x0
    have a : ltV A 0 = sumP (rowV P true A) := by rw [e1]; exact cnt_eq fun u _ => by rw [side_true]
    have b : eqV A 0 = zeroV A := rfl
    rw [up_split] at hup
    rw [if_neg h1, if_neg (by omega), if_pos (by omega), if_neg (by simp)]
    unfold standV; rw [if_pos rfl]
  obtain ⟨m1, m2⟩ := mag_in hxi x0
  have hpi := pt_idx hP m1 m2
  by_cases xn : x < 0
  · have a : upV A x ≤ sumP (rowV P true A) := by
      rw [e1]; exact cnt_le hpos fun u _ hu => by rw [side_true]; have : u.1 ≤ x := by simpa using hu
                                                  simp; omega
    have b1 : belowP (rowV P true A) (P.idx (mag x) - 1) ≤ sumP (rowV P true A) - upV A x := by
      rw [row_below hP true h hl, e1]
      have : cntV (sideV true) A = upV A x + cntV (fun y => decide (x < y) && decide (y < 0)) A := cnt_two fun u _ => by
        rw [side_true]
        by_cases c : u.1 ≤ x
        · have : u.1 < 0 := by omega
          have d : ¬ x < u.1 := by omega
          simp [c, this, d]
        · have d : x < u.1 := by omega
          simp [c, d]
      rw [this]
      have := cnt_le (f := fun y => sideV true y && decide (P.idx (mag y) ≤ P.idx (mag x) - 1)) (g := fun y => decide (x < y) && decide (y < 0)) hpos (fun u hu huf => by
        rw [side_true] at huf
        simp only [Bool.and_eq_true, decide_eq_true_eq] at huf ⊢
        refine ⟨?_, huf.1⟩
        by_cases c : x < u.1
        · exact c
        · exfalso
          have hu1 := (h u hu).1
          obtain ⟨n1, n2⟩ := mag_in hu1 (by omega)
          have := pt_mono hP m1 (show mag x ≤ mag u.1 by unfold mag; rw [if_pos xn, if_pos huf.1]; omega) n2
          omega)
      omega
    have b2 : sumP (rowV P true A) - ltV A x ≤ belowP (rowV P true A) (P.idx (mag x)) := by
      rw [row_below hP true h hl, e1]
      have : cntV (sideV true) A = ltV A x + cntV (fun y => decide (x ≤ y) && decide (y < 0)) A := cnt_two fun u _ => by
        rw [side_true]
        by_cases c : u.1 < x
        · have : u.1 < 0 := by omega
          have d : ¬ x ≤ u.1 := by omega
          simp [c, this, d]
        · have d : x ≤ u.1 := by omega
          simp [c, d]
      rw [this]
      have := cnt_le (g := fun y => sideV true y && decide (P.idx (mag y) ≤ P.idx (mag x))) (f := fun y => decide (x ≤ y) && decide (y < 0)) hpos (fun u hu huf => by
        rw [side_true]
        simp only [Bool.and_eq_true, decide_eq_true_eq] at huf ⊢
        refine ⟨huf.2, ?_⟩
        have hu1 := (h u hu).1
        obtain ⟨n1, n2⟩ := mag_in hu1 (by omega)
        exact pt_mono hP n1 (show mag u.1 ≤ mag x by unfold mag; rw [if_pos xn, if_pos huf.2]; omega) m2)
      omega
    have hf := find_of S1.good (t := sumP (rowV P true A) - t + 1) (i := P.idx (mag x)) (by omega) (by omega) (by omega)
    have hc : 0 < countP (rowV P true A) (P.idx (mag x)) := by
      have p0 : eqV A x ≤ countP (rowV P true A) (P.idx (mag x)) := by
        rw [row_count hP true h hl]
        exact cnt_le hpos fun u hu huf => by
          have : u.1 = x := by simpa using huf
          rw [this, side_true]; simp [xn]
      rw [up_split] at hup; omega
    have := finds_keep (s := s) hm S1.good _ _ hf hc
    rw [if_neg h1, if_pos (by omega), this]
    have dt : decide (x < 0) = true := decide_eq_true xn
    rw [dt]
    by_cases ck : countP (keepS s m (rowV P true A)) (P.idx (mag x)) = 0
    · rw [if_pos ck, if_pos ⟨x0, ck⟩]; rfl
    · rw [if_neg ck, if_neg (fun c => ck c.2)]
      unfold standV; rw [if_neg x0, if_pos xn]; rfl
  · have xp : 0 < x := by omega
    have tz : sumP (rowV P true A) + zeroV A ≤ ltV A x := by
      have : cntV (fun y => decide (y ≤ 0)) A = cntV (sideV true) A + zeroV A := cnt_two fun u _ => by
        rw [side_true]
        by_cases c : u.1 < 0
        · have : (u.1 == 0) = false := by simp; omega
          simp [c, this]; omega
        · by_cases d : u.1 = 0
          · simp [d]
          · have e : (u.1 == 0) = false := by simp [d]
            simp [c, e]; omega
      rw [e1, ← this]
      exact cnt_le hpos fun u _ hu => by have : u.1 ≤ 0 := by simpa using hu
                                         simp; omega
    have hle : upV A x ≤ sumP A := by rw [← cnt_all]; exact cnt_le hpos fun _ _ _ => rfl
    have sp : ∀ f : Int → Bool, (∀ y, y ≤ 0 → f y = true) → cntV f A = sumP (rowV P true A) + zeroV A + cntV (fun y => f y && decide (0 < y)) A := by
      intro f hf
      have a1 : cntV f A = cntV (fun y => decide (y ≤ 0)) A + cntV (fun y => f y && decide (0 < y)) A := cnt_two fun u _ => by
        by_cases c : u.1 ≤ 0
        · have d : ¬ 0 < u.1 := by omega
          simp [c, hf u.1 c, d]
        · have d : 0 < u.1 := by omega
          simp [c, d]
      have a2 : cntV (fun y => decide (y ≤ 0)) A = cntV (sideV true) A + zeroV A := cnt_two fun u _ => by
        rw [side_true]
        by_cases c : u.1 < 0
        · have : (u.1 == 0) = false := by simp; omega
          simp [c, this]; omega
        · by_cases d : u.1 = 0
          · simp [d]
          · have e : (u.1 == 0) = false := by simp [d]
            simp [c, e]; omega
      rw [a1, a2, e1]
    have b1 : belowP (rowV P false A) (P.idx (mag x) - 1) ≤ ltV A x - sumP (rowV P true A) - zeroV A := by
      rw [row_below hP false h hl]
      have := sp (fun y => decide (y < x)) (fun y hy => by simp; omega)
      have t2 : ltV A x = cntV (fun y => decide (y < x)) A := rfl
      have := cnt_le (f := fun y => sideV false y && decide (P.idx (mag y) ≤ P.idx (mag x) - 1)) (g := fun y => decide (y < x) && decide (0 < y)) hpos (fun u hu huf => by
        rw [side_false] at huf
        simp only [Bool.and_eq_true, decide_eq_true_eq] at huf ⊢
        refine ⟨?_, huf.1⟩
        by_cases c : u.1 < x
        · exact c
        · exfalso
          have hu1 := (h u hu).1
          obtain ⟨n1, n2⟩ := mag_in hu1 (by omega)
          have := pt_mono hP m1 (show mag x ≤ mag u.1 by unfold mag; rw [if_neg xn, if_neg (by omega)]; omega) n2
          omega)
      omega
    have b2 : upV A x - sumP (rowV P true A) - zeroV A ≤ belowP (rowV P false A) (P.idx (mag x)) := by
      rw [row_below hP false h hl]
      have := sp (fun y => decide (y ≤ x)) (fun y hy => by simp; omega)
      have t2 : upV A x = cntV (fun y => decide (y ≤ x)) A := rfl
      have := cnt_le (g := fun y => sideV false y && decide (P.idx (mag y) ≤ P.idx (mag x))) (f := fun y => decide (y ≤ x) && decide (0 < y)) hpos (fun u hu huf => by
        rw [side_false]
        simp only [Bool.and_eq_true, decide_eq_true_eq] at huf ⊢
        refine ⟨huf.2, ?_⟩
        have hu1 := (h u hu).1
        obtain ⟨n1, n2⟩ := mag_in hu1 (by omega)
        exact pt_mono hP n1 (show mag u.1 ≤ mag x by unfold mag; rw [if_neg xn, if_neg (by omega)]; omega) m2)
      omega
    have hf := find_of S2.good (t := t - sumP (rowV P true A) - zeroV A) (i := P.idx (mag x)) (by omega) (by omega) (by omega)
    have hc : 0 < countP (rowV P false A) (P.idx (mag x)) := by
      have p0 : eqV A x ≤ countP (rowV P false A) (P.idx (mag x)) := by
        rw [row_count hP false h hl]
        exact cnt_le hpos fun u hu huf => by
          have : u.1 = x := by simpa using huf
          rw [this, side_false]; simp [xp]
      rw [up_split] at hup; omega
    have := finds_keep (s := s) hm S2.good _ _ hf hc
    rw [if_neg h1, if_neg (by omega), if_neg (by omega), if_pos (by omega), this]
    have dt : decide (x < 0) = false := decide_eq_false xn
    rw [dt]
    by_cases ck : countP (keepS s m (rowV P false A)) (P.idx (mag x)) = 0
    · rw [if_pos ck, if_pos ⟨x0, ck⟩]; rfl
    · rw [if_neg ck, if_neg (fun c => ck c.2)]
      unfold standV; rw [if_neg x0, if_neg xn]; rfl
/-- Of the same sign and part. -/
def sameV (P : Pt) (x y : Int) : Bool := (decide (y < 0) == decide (x < 0)) && ((y == 0) == (x == 0)) && ((x == 0) || (P.idx (mag y) == P.idx (mag x)))
def ownV (P : Pt) (A : List PairV) (x : Int) : Int := cntV (sameV P x) A
def aheadV (P : Pt) (A : List PairV) (x : Int) : Int := cntV (fun y => !(sameV P x y) && decide (y < x)) A

theorem low_zero {P : Pt} (hP : P.ok) {A : List PairV} (h : FineV A) (hl : A.length ≤ 1000) : upV A 0 = sumP (rowV P true A) + zeroV A := by
  rw [row_sum hP true h hl]
  exact cnt_two fun u _ => by
    rw [side_true]
    by_cases c : u.1 < 0
    · have : (u.1 == 0) = false := by simp; omega
      simp [c, this]; omega
    · by_cases d : u.1 = 0
      · simp [d]
      · have e : (u.1 == 0) = false := by simp [d]
        simp [c, e]; omega
/-- Rank tells no more, and no less, than there is; where nothing is lost just what is told. -/
theorem rank_in {P : Pt} (hP : P.ok) (s : Bool) {m : Int} (hm : 0 < m) {A : List PairV} (h : FineV A) (hl : A.length ≤ 1000) {x : Int} (hxi : I64 x) :
    (rankSt P s m (stV P s m A) x).1 ≤ upV A x ∧ upV A x ≤ (rankSt P s m (stV P s m A) x).2 ∧
    (((stV P s m A).t1 - sumP (stV P s m A).k1) + ((stV P s m A).t2 - sumP (stV P s m A).k2) = 0 →
      (x = 0 → (rankSt P s m (stV P s m A) x).1 = aheadV P A x + ownV P A x ∧ (rankSt P s m (stV P s m A) x).2 = (rankSt P s m (stV P s m A) x).1) ∧
      (x ≠ 0 → (rankSt P s m (stV P s m A) x).1 = aheadV P A x ∧ (rankSt P s m (stV P s m A) x).2 = aheadV P A x + ownV P A x)) := by
  have hpos := fine_pos h
  have hall := sides_all hP h hl
  have S1 := row_sum50 hP true h hl
  have S2 := row_sum50 hP false h hl
  have e1 := row_sum hP true h hl
  have e2 := row_sum hP false h hl
  have lz := low_zero hP h hl
  have g1 := keeps_sum s m (ok_pos S1.ok)
  have g2 := keeps_sum s m (ok_pos S2.ok)
  have k1 : (stV P s m A).k1 = keepS s m (rowV P true A) := rfl
  have k2 : (stV P s m A).k2 = keepS s m (rowV P false A) := rfl
  have kt1 : (stV P s m A).t1 = sumP (rowV P true A) := rfl
  have kt2 : (stV P s m A).t2 = sumP (rowV P false A) := rfl
  have rk : rankSt P s m (stV P s m A) x = if x = 0 then (sumP (rowV P true A) + zeroV A, sumP (rowV P true A) + zeroV A)
      else if x < 0 then (sumP (rowV P true A) - highS s m (keepS s m (rowV P true A)) (sumP (rowV P true A) - sumP (keepS s m (rowV P true A))) (P.idx (mag x)), sumP (rowV P true A) - lowS s m (keepS s m (rowV P true A)) (sumP (rowV P true A) - sumP (keepS s m (rowV P true A))) (P.idx (mag x) - 1))
      else (sumP (rowV P true A) + zeroV A + lowS s m (keepS s m (rowV P false A)) (sumP (rowV P false A) - sumP (keepS s m (rowV P false A))) (P.idx (mag x) - 1), sumP (rowV P true A) + zeroV A + highS s m (keepS s m (rowV P false A)) (sumP (rowV P false A) - sumP (keepS s m (rowV P false A))) (P.idx (mag x))) := rfl
  rw [rk, k1, k2, kt1, kt2]
  by_cases x0 : x = 0
  · subst x0
    rw [if_pos rfl]
    refine ⟨by omega, by omega, fun _ => ⟨fun _ => ⟨?_, rfl⟩, fun c => absurd rfl c⟩⟩
    have : upV A 0 = aheadV P A 0 + ownV P A 0 := cnt_two fun u _ => by
      unfold sameV
      by_cases c : u.1 < 0
      · have d : (u.1 == 0) = false := by simp; omega
        simp [c, d]; omega
      · by_cases d : u.1 = 0
        · simp [d]
        · have e : (u.1 == 0) = false := by simp [d]
          simp [c, e]; omega
    show sumP (rowV P true A) + zeroV A = _
    omega
  obtain ⟨m1, m2⟩ := mag_in hxi x0
  rw [if_neg x0]
  by_cases xn : x < 0
  · rw [if_pos xn]
    have B1 := belows_keep (s := s) hm S1.good (P.idx (mag x))
    have B2 := belows_keep (s := s) hm S1.good (P.idx (mag x) - 1)
    have c1 := row_below hP true h hl (P.idx (mag x))
    have c2 := row_below hP true h hl (P.idx (mag x) - 1)
    -- above: parts ahead
    have d1 : cntV (sideV true) A = cntV (fun y => sideV true y && decide (P.idx (mag y) ≤ P.idx (mag x))) A + aheadV P A x := cnt_two fun u hu => by
      unfold sameV
      rw [side_true]
      have hu1 := (h u hu).1
      by_cases c : u.1 < 0
      · have z : (u.1 == 0) = false := by simp; omega
        have zx : (x == 0) = false := by simp [x0]
        obtain ⟨n1, n2⟩ := mag_in hu1 (by omega)
        by_cases q : P.idx (mag u.1) ≤ P.idx (mag x)
        · by_cases r : P.idx (mag u.1) = P.idx (mag x)
          · simp [c, z, zx, xn, r]
          · have : ¬ u.1 < x := fun w => by
              have := pt_mono hP m1 (show mag x ≤ mag u.1 by unfold mag; rw [if_pos xn, if_pos c]; omega) n2
              omega
            simp [c, z, zx, xn, q, this]
        · have : u.1 < x := by
            by_cases w : u.1 < x
            · exact w
            · exfalso
              have := pt_mono hP n1 (show mag u.1 ≤ mag x by unfold mag; rw [if_pos xn, if_pos c]; omega) m2
              omega
          have r : ¬ P.idx (mag u.1) = P.idx (mag x) := by omega
          simp [c, z, zx, xn, q, this, r]
      · have : ¬ u.1 < x := by omega
        simp [c, this]
    have d2 : cntV (fun y => sideV true y && decide (P.idx (mag y) ≤ P.idx (mag x))) A = cntV (fun y => sideV true y && decide (P.idx (mag y) ≤ P.idx (mag x) - 1)) A + ownV P A x := cnt_two fun u hu => by
      unfold sameV
      rw [side_true]
      have zx : (x == 0) = false := by simp [x0]
      by_cases c : u.1 < 0
      · have z : (u.1 == 0) = false := by simp; omega
        by_cases r : P.idx (mag u.1) = P.idx (mag x)
        · have : ¬ P.idx (mag x) ≤ P.idx (mag x) - 1 := by omega
          simp [c, z, zx, xn, r, this]
        · by_cases q : P.idx (mag u.1) ≤ P.idx (mag x)
          · have : P.idx (mag u.1) ≤ P.idx (mag x) - 1 := by omega
            simp [c, z, zx, xn, r, q, this]
          · have : ¬ P.idx (mag u.1) ≤ P.idx (mag x) - 1 := by omega
            simp [c, z, zx, xn, r, q, this]
      · have : decide (u.1 < 0) = false := decide_eq_false c
        simp [this, xn]
    have u1 : aheadV P A x ≤ upV A x := cnt_le hpos fun u _ hu => by simp only [Bool.and_eq_true, decide_eq_true_eq] at hu ⊢; omega
    have u2 : upV A x ≤ aheadV P A x + ownV P A x := by
      have : cntV (fun y => !(sameV P x y) && decide (y < x) || sameV P x y) A = aheadV P A x + ownV P A x := cnt_two fun u _ => ⟨rfl, by cases sameV P x u.1 <;> simp⟩
      rw [← this]
      exact cnt_le hpos fun u _ hu => by
        have : u.1 ≤ x := by simpa using hu
        by_cases w : u.1 < x
        · simp only [w, decide_true, Bool.and_true]
          cases sameV P x u.1 <;> rfl
        · have : u.1 = x := by omega
          have : sameV P x u.1 = true := by rw [this]; unfold sameV; simp
          rw [this]; simp
    refine ⟨by show sumP (rowV P true A) - highS s m _ _ _ ≤ _; omega, by show _ ≤ sumP (rowV P true A) - lowS s m _ _ _; omega, fun z => ⟨fun c => absurd c x0, fun _ => ⟨?_, ?_⟩⟩⟩
    · show sumP (rowV P true A) - highS s m _ _ _ = _
      have : ¬ 0 < sumP (rowV P true A) - sumP (keepS s m (rowV P true A)) := by omega
      have := B1.2.2.resolve_right this
      omega
    · show sumP (rowV P true A) - lowS s m _ _ _ = _
      have : ¬ 0 < sumP (rowV P true A) - sumP (keepS s m (rowV P true A)) := by omega
      have := B2.2.2.resolve_right this
      omega
  · rw [if_neg xn]
    have xp : 0 < x := by omega
    have B1 := belows_keep (s := s) hm S2.good (P.idx (mag x))
    have B2 := belows_keep (s := s) hm S2.good (P.idx (mag x) - 1)
    have c1 := row_below hP false h hl (P.idx (mag x))
    have c2 := row_below hP false h hl (P.idx (mag x) - 1)
    have zx : (x == 0) = false := by simp [x0]
    have d1 : aheadV P A x = upV A 0 + cntV (fun y => sideV false y && decide (P.idx (mag y) ≤ P.idx (mag x) - 1)) A := cnt_two fun u hu => by
      unfold sameV
      rw [side_false]
      have hu1 := (h u hu).1
      by_cases c : 0 < u.1
      · have z : (u.1 == 0) = false := by simp; omega
        have cn : ¬ u.1 < 0 := by omega
        have c0 : ¬ u.1 ≤ 0 := by omega
        obtain ⟨n1, n2⟩ := mag_in hu1 (by omega)
        by_cases r : P.idx (mag u.1) = P.idx (mag x)
        · have : ¬ P.idx (mag x) ≤ P.idx (mag x) - 1 := by omega
          simp [c, cn, c0, z, zx, xn, r, this]
        · by_cases q : P.idx (mag u.1) ≤ P.idx (mag x)
          · have a1 : P.idx (mag u.1) ≤ P.idx (mag x) - 1 := by omega
            have a2 : u.1 < x := by
              by_cases w : u.1 < x
              · exact w
              · exfalso
                have := pt_mono hP m1 (show mag x ≤ mag u.1 by unfold mag; rw [if_neg xn, if_neg cn]; omega) n2
                omega
            simp [c, cn, c0, z, zx, xn, r, a1, a2]
          · have a1 : ¬ P.idx (mag u.1) ≤ P.idx (mag x) - 1 := by omega
            have a2 : ¬ u.1 < x := fun w => by
              have := pt_mono hP n1 (show mag u.1 ≤ mag x by unfold mag; rw [if_neg xn, if_neg cn]; omega) m2
              omega
            simp [c, cn, c0, z, zx, xn, r, a1, a2]
      · have a1 : u.1 ≤ 0 := by omega
        have a2 : u.1 < x := by omega
        by_cases z : u.1 = 0
        · simp [z, zx, xp]
        · have z' : (u.1 == 0) = false := by simp [z]
          have cn : u.1 < 0 := by omega
          simp [c, z', zx, xn, a1, a2, cn]
    have d2 : cntV (fun y => sideV false y && decide (P.idx (mag y) ≤ P.idx (mag x))) A = cntV (fun y => sideV false y && decide (P.idx (mag y) ≤ P.idx (mag x) - 1)) A + ownV P A x := cnt_two fun u hu => by
      unfold sameV
      rw [side_false]
      by_cases c : 0 < u.1
      · have z : (u.1 == 0) = false := by simp; omega
        have cn : ¬ u.1 < 0 := by omega
        by_cases r : P.idx (mag u.1) = P.idx (mag x)
        · have : ¬ P.idx (mag x) ≤ P.idx (mag x) - 1 := by omega
          simp [c, cn, z, zx, xn, r, this]
        · by_cases q : P.idx (mag u.1) ≤ P.idx (mag x)
          · have : P.idx (mag u.1) ≤ P.idx (mag x) - 1 := by omega
            simp [c, cn, z, zx, xn, r, q, this]
          · have : ¬ P.idx (mag u.1) ≤ P.idx (mag x) - 1 := by omega
            simp [c, cn, z, zx, xn, r, q, this]
      · have hd : decide (0 < u.1) = false := decide_eq_false c
        by_cases z : u.1 = 0
        · simp [z, zx]
        · have z' : (u.1 == 0) = false := by simp [z]
          have cn : u.1 < 0 := by omega
          simp [hd, z', zx, xn, cn]
    have u1 : aheadV P A x ≤ upV A x := cnt_le hpos fun u _ hu => by simp only [Bool.and_eq_true, decide_eq_true_eq] at hu ⊢; omega
    have u2 : upV A x ≤ aheadV P A x + ownV P A x := by
      have : cntV (fun y => !(sameV P x y) && decide (y < x) || sameV P x y) A = aheadV P A x + ownV P A x := cnt_two fun u _ => ⟨rfl, by cases sameV P x u.1 <;> simp⟩
      rw [← this]
      exact cnt_le hpos fun u _ hu => by
        have : u.1 ≤ x := by simpa using hu
        by_cases w : u.1 < x
        · simp only [w, decide_true, Bool.and_true]
          cases sameV P x u.1 <;> rfl
        · have : u.1 = x := by omega
          have : sameV P x u.1 = true := by rw [this]; unfold sameV; simp
          rw [this]; simp
    refine ⟨by show sumP (rowV P true A) + zeroV A + lowS s m _ _ _ ≤ _; omega, by show _ ≤ sumP (rowV P true A) + zeroV A + highS s m _ _ _; omega, fun z => ⟨fun c => absurd c x0, fun _ => ⟨?_, ?_⟩⟩⟩
    · show sumP (rowV P true A) + zeroV A + lowS s m _ _ _ = _
      have : ¬ 0 < sumP (rowV P false A) - sumP (keepS s m (rowV P false A)) := by omega
      have := B2.2.2.resolve_right this
      omega
    · show sumP (rowV P true A) + zeroV A + highS s m _ _ _ = _
      have : ¬ 0 < sumP (rowV P false A) - sumP (keepS s m (rowV P false A)) := by omega
      have := B1.2.2.resolve_right this
      omega
end Go.Proofs.YtojincgbnjkegaaDoor
