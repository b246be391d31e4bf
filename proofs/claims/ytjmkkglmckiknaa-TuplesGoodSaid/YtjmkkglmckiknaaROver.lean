/-
  Walks: the reference's Double, Bit, Over, Ceil.
-/
import Derived.Test.YtjmkkglmckiknaaOver
import Derived.Test.YtjmkkglmckiknaaWideB
import Derived.Test.YtjmkkglmckiknaaWideD
namespace Go.Proofs.Ytjmkkglmckiknaa
set_option linter.unusedVariables false
open Go.RowKit Go.Shelf

set_option maxHeartbeats 400000 in
theorem double_any (h l : Int) (wh : Word h) (wl : Word l) (w : World) :
    Calls Try.prog 38 #[.agg #[.int .u64 h, .int .u64 l]] w fun e w' =>
      e = .returned (.tuple #[.agg #[.int .u64 (hiW (wval h l + wval h l)), .int .u64 (loW (wval h l + wval h l))], .bool (carryB (wval h l + wval h l))]) ∧ Below w.heap.size w w' := by
  go_enter Try.func38, Try.ntmps38
  go_wp2_with fail
  refine (rwadd_any h l h l wh wl wh wl _).mono ?_
  rintro e wA ⟨rfl, hbA⟩
  have d1 := (bcell hbA).1 (w.heap.size + 1) 0 (by simp)
  have d2 := (bcell hbA).1 (w.heap.size + 1) 1 (by simp)
  have f1 := (bcell hbA).2 (w.heap.size + 1) 0 (by simp)
  have f2 := (bcell hbA).2 (w.heap.size + 1) 1 (by simp)
  have hz : w.heap.size + 1 + 1 ≤ wA.heap.size := by have := hbA.size; simp at this; omega
  go_wp2_with fail
  refine bodyPost_ret (v := .tuple #[.agg #[.int .u64 (hiW (wval h l + wval h l)), .int .u64 (loW (wval h l + wval h l))], .bool (carryB (wval h l + wval h l))]) (by simp [results, Try.results38, go_sem, d1, d2]) rfl ⟨rfl, ?_⟩
  have k := ((((Below.refl w.heap.size w).alloc (Nat.le_refl _) (.cells #[.int .u64 h, .int .u64 l] 61)).alloc (by simp) (.cells #[.int .u64 0, .int .u64 0] 61)).trans (hbA.mono (by simp; omega)))
  exact (k.setCell (p := ⟨w.heap.size + 1, 0, none⟩) (Nat.le_succ _) _).setCell (p := ⟨w.heap.size + 1, 1, none⟩) (Nat.le_succ _) _

/-- The same, of a number that two words tell. -/
theorem double_num (n : Int) (h0 : 0 ≤ n) (h1 : n < 340282366920938463463374607431768211456) (w : World) :
    Calls Try.prog 38 #[.agg #[.int .u64 (hiW n), .int .u64 (loW n)]] w fun e w' =>
      e = .returned (.tuple #[.agg #[.int .u64 (hiW (n + n)), .int .u64 (loW (n + n))], .bool (carryB (n + n))]) ∧ Below w.heap.size w w' := by
  have h := double_any (hiW n) (loW n) (word_hi n) (word_lo n) w
  rw [wval_split h0 h1] at h
  exact h
theorem less_num (n y : Int) (h0 : 0 ≤ n) (h1 : n < 340282366920938463463374607431768211456) (wy : Word y) (w : World) :
    Calls Try.prog 40 #[.agg #[.int .u64 (hiW n), .int .u64 (loW n)], .agg #[.int .u64 0, .int .u64 y]] w fun e w' =>
      e = .returned (.bool (decide (n < y))) ∧ Below w.heap.size w w' := by
  have h := less_any (hiW n) (loW n) 0 y (word_hi n) (word_lo n) (by unfold Word; omega) wy w
  have e : belowB (wval (hiW n) (loW n) - wval 0 y) = decide (n < y) := by
    rw [wval_split h0 h1]; unfold belowB wval; apply decide_eq_decide.2; omega
  rw [e] at h
  exact h
theorem rsub_num (n y : Int) (h0 : 0 ≤ n) (h1 : n < 340282366920938463463374607431768211456) (wy : Word y) (w : World) :
    Calls Try.prog 41 #[.agg #[.int .u64 (hiW n), .int .u64 (loW n)], .agg #[.int .u64 0, .int .u64 y]] w fun e w' =>
      e = .returned (.tuple #[.agg #[.int .u64 (hiW (n - y)), .int .u64 (loW (n - y))], .bool (belowB (n - y))]) ∧ Below w.heap.size w w' := by
  have h := rsub_any (hiW n) (loW n) 0 y (word_hi n) (word_lo n) (by unfold Word; omega) wy w
  have e : wval (hiW n) (loW n) - wval 0 y = n - y := by
    rw [wval_split h0 h1]; unfold wval; omega
  rw [e] at h
  exact h
/-- A step of the long division, bit by bit. -/
theorem ov_step {M y : Int} (hy : 0 < y) :
    (M / 2 % y + M / 2 % y + M % 2 < y → M % y = M / 2 % y + M / 2 % y + M % 2 ∧ M / y = M / 2 / y + M / 2 / y) ∧
    (¬ M / 2 % y + M / 2 % y + M % 2 < y → M % y = M / 2 % y + M / 2 % y + M % 2 - y ∧ M / y = M / 2 / y + M / 2 / y + 1) := by
  have h1 := Int.ediv_mul_add_emod (M / 2) y
  have h2 := Int.emod_nonneg (M / 2) (show y ≠ 0 by omega)
  have h3 := Int.emod_lt_of_pos (M / 2) hy
  generalize M / 2 % y = R at *
  generalize M / 2 / y = Q at *
  constructor
  · intro h
    have := (Int.ediv_emod_unique (a := M) (r := R + R + M % 2) (q := Q + Q) hy).2 ⟨by
      rw [Int.mul_add, Int.mul_comm y Q]; generalize Q * y = a at *; omega, by omega, h⟩
    exact ⟨this.2, this.1⟩
  · intro h
    have := (Int.ediv_emod_unique (a := M) (r := R + R + M % 2 - y) (q := Q + Q + 1) hy).2 ⟨by
      rw [Int.mul_add, Int.mul_add, Int.mul_comm y Q]; generalize Q * y = a at *; omega, by omega, by omega⟩
    exact ⟨this.2, this.1⟩
theorem ov_big {n y : Int} (h0 : 0 ≤ n) (h1 : n < 340282366920938463463374607431768211456) (hy : 0 < y) (h : 0 < hiW (n / y)) : ovQ n y = 0 ∧ ovR n y = 0 ∧ ovB n y = false := by
  have a := Int.ediv_nonneg h0 (show 0 ≤ y by omega)
  have b := Int.ediv_le_self y h0
  have e : ovB n y = false := by
    unfold ovB; apply decide_eq_false; unfold hiW at h; omega
  refine ⟨?_, ?_, e⟩
  · unfold ovQ; rw [e]; rfl
  · unfold ovR; rw [e]; rfl
theorem ov_small {n y : Int} (h0 : 0 ≤ n) (h1 : n < 340282366920938463463374607431768211456) (hy : 0 < y) (hy1 : y < 18446744073709551616) (h : ¬ 0 < hiW (n / y)) : ovQ n y = loW (n / y) ∧ ovR n y = loW (n % y) ∧ ovB n y = true := by
  have a := Int.ediv_nonneg h0 (show 0 ≤ y by omega)
  have b := Int.ediv_le_self y h0
  have c := Int.emod_nonneg n (show y ≠ 0 by omega)
  have d := Int.emod_lt_of_pos n hy
  have e : ovB n y = true := by
    unfold ovB; apply decide_eq_true; unfold hiW at h; omega
  refine ⟨?_, ?_, e⟩
  · unfold ovQ; rw [if_pos e]; unfold hiW at h; unfold loW; omega
  · unfold ovR; rw [if_pos e]; unfold loW; omega
theorem hi_bit {n b : Int} (hb : 0 ≤ b) (hb' : b ≤ 1) : hiW (n + n) = hiW (n + n + b) := by unfold hiW; omega
theorem lo_bit {n b : Int} (hb : 0 ≤ b) (hb' : b ≤ 1) : loW (n + n) + b = loW (n + n + b) := by unfold loW; omega
theorem lo_even (n : Int) : loW (n + n) ≤ 18446744073709551614 := by unfold loW; omega

theorem bit_lo {h l : Int} {k : Nat} (hk : k < 64) (wh : Word h) : l / 2 ^ k % 2 = wval h l / 2 ^ k % 2 := by
  unfold wval
  have e : (18446744073709551616 : Int) = 2 * 2 ^ (63 - k) * 2 ^ k := by
    rw [Int.mul_assoc, ← Int.pow_add, show 63 - k + k = 63 by omega]; rfl
  have hp : (0 : Int) < 2 ^ k := Int.pow_pos (by omega)
  rw [e, ← Int.mul_assoc, Int.add_comm, Int.add_mul_ediv_right _ _ (by omega), ← Int.mul_assoc, Int.mul_comm h 2, Int.mul_assoc]
  omega
theorem bit_hi {h l : Int} {k : Nat} (hk : ¬ k < 64) (wl : Word l) : h / 2 ^ (k - 64) % 2 = wval h l / 2 ^ k % 2 := by
  have e : (2 : Int) ^ k = 18446744073709551616 * 2 ^ (k - 64) := by
    have : (2 : Int) ^ (64 + (k - 64)) = 2 ^ 64 * 2 ^ (k - 64) := Int.pow_add ..
    rw [show 64 + (k - 64) = k by omega, show (2 : Int) ^ 64 = 18446744073709551616 by rfl] at this
    exact this
  have e2 : wval h l / 18446744073709551616 = h := by unfold wval; unfold Word at wl; omega
  rw [e, ← Int.ediv_ediv_of_nonneg (by omega), e2]

set_option maxHeartbeats 400000 in
theorem bit_any (h l : Int) (k : Nat) (wh : Word h) (wl : Word l) (hk : k < 128) (w : World) :
    Calls Try.prog 39 #[.agg #[.int .u64 h, .int .u64 l], .int .i64 (k : Int)] w fun e w' =>
      e = .returned (.int .u64 (wval h l / 2 ^ k % 2)) ∧ Below w.heap.size w w' := by
  by_cases h64 : k < 64
  · have E := Lib.hid (bit_lo (l := l) h64 wh)
    obtain ⟨l0, l1⟩ := wl
    have hp : (0 : Int) < 2 ^ k := Int.pow_pos (by omega)
    have g0 : 0 ≤ l / 2 ^ k := Int.ediv_nonneg l0 (by omega)
    go_enter Try.func39, Try.ntmps39
    go_wp2_with fail
    refine bodyPost_ret (v := .int .u64 (l / 2 ^ k % 2)) (by simp [results, Try.results39, go_sem]) rfl ⟨by rw [E.out], ?_⟩
    exact (Below.refl _ _).alloc (Nat.le_refl _) _
  · have E := Lib.hid (bit_hi (h := h) h64 wl)
    obtain ⟨h0, h1⟩ := wh
    have hp : (0 : Int) < 2 ^ (k - 64) := Int.pow_pos (by omega)
    have g0 : 0 ≤ h / 2 ^ (k - 64) := Int.ediv_nonneg h0 (by omega)
    go_enter Try.func39, Try.ntmps39
    go_wp2_with fail
    refine bodyPost_ret (v := .int .u64 (h / 2 ^ (k - 64) % 2)) (by simp [results, Try.results39, go_sem]) rfl ⟨by rw [E.out], ?_⟩
    exact (Below.refl _ _).alloc (Nat.le_refl _) _

/-- The memory of the reference's Over: the number, the divisor, what rests, the quotient. -/
structure OvW (B : Nat) (W w : World) (h l y rh rl qh ql : Int) : Prop where
  a0 : w.cell? ⟨B, 0, none⟩ = some (.int .u64 h)
  a1 : w.cell? ⟨B, 1, none⟩ = some (.int .u64 l)
  d0 : w.cell? ⟨B + 1, 0, none⟩ = some (.int .u64 0)
  d1 : w.cell? ⟨B + 1, 1, none⟩ = some (.int .u64 y)
  r0 : w.cell? ⟨B + 1 + 1, 0, none⟩ = some (.int .u64 rh)
  r1 : w.cell? ⟨B + 1 + 1, 1, none⟩ = some (.int .u64 rl)
  q0 : w.cell? ⟨B + 1 + 1 + 1, 0, none⟩ = some (.int .u64 qh)
  q1 : w.cell? ⟨B + 1 + 1 + 1, 1, none⟩ = some (.int .u64 ql)
  fr0 : w.frozen? ⟨B + 1 + 1, 0, none⟩ = false
  fr1 : w.frozen? ⟨B + 1 + 1, 1, none⟩ = false
  fq0 : w.frozen? ⟨B + 1 + 1 + 1, 0, none⟩ = false
  fq1 : w.frozen? ⟨B + 1 + 1 + 1, 1, none⟩ = false
  sz : B + 1 + 1 + 1 < w.heap.size
  bel : Below B W w
theorem OvW.call {B : Nat} {W w w' : World} {h l y rh rl qh ql : Int} (s : OvW B W w h l y rh rl qh ql) (hb : Below w.heap.size w w') : OvW B W w' h l y rh rl qh ql := by
  have hz := s.sz
  have hs := hb.size
  exact ⟨cell_later hb s.a0, cell_later hb s.a1, cell_later hb s.d0, cell_later hb s.d1, cell_later hb s.r0, cell_later hb s.r1, cell_later hb s.q0, cell_later hb s.q1,
    ((bcell hb).2 _ _ (by omega)).trans s.fr0, ((bcell hb).2 _ _ (by omega)).trans s.fr1, ((bcell hb).2 _ _ (by omega)).trans s.fq0, ((bcell hb).2 _ _ (by omega)).trans s.fq1, by omega, s.bel.trans (hb.mono (by omega))⟩
theorem addr_far {b o b' o' : Nat} (h : b ≠ b') : (⟨b, o, none⟩ : Addr) ≠ ⟨b', o', none⟩ := fun e => h (Addr.mk.inj e).1
theorem addr_off {b o o' : Nat} (h : o ≠ o') : (⟨b, o, none⟩ : Addr) ≠ ⟨b, o', none⟩ := fun e => h (Addr.mk.inj e).2.1
theorem OvW.restLo {B : Nat} {W w : World} {h l y rh rl qh ql : Int} (s : OvW B W w h l y rh rl qh ql) (x : Int) : OvW B W (w.setCell ⟨B + 1 + 1, 1, none⟩ (.int .u64 x)) h l y rh x qh ql := by
  have hz := s.sz
  refine ⟨?_, ?_, ?_, ?_, ?_, ?_, ?_, ?_, ?_, ?_, ?_, ?_, ?_, ?_⟩
  · rw [World.cell?_setCell_other _ _ _ _ (addr_far (by omega))]; exact s.a0
  · rw [World.cell?_setCell_other _ _ _ _ (addr_far (by omega))]; exact s.a1
  · rw [World.cell?_setCell_other _ _ _ _ (addr_far (by omega))]; exact s.d0
  · rw [World.cell?_setCell_other _ _ _ _ (addr_far (by omega))]; exact s.d1
  · rw [World.cell?_setCell_other _ _ _ _ (addr_off (by omega))]; exact s.r0
  · exact World.cell?_setCell_same _ _ _ s.r1
  · rw [World.cell?_setCell_other _ _ _ _ (addr_far (by omega))]; exact s.q0
  · rw [World.cell?_setCell_other _ _ _ _ (addr_far (by omega))]; exact s.q1
  · rw [World.frozen?_setCell]; exact s.fr0
  · rw [World.frozen?_setCell]; exact s.fr1
  · rw [World.frozen?_setCell]; exact s.fq0
  · rw [World.frozen?_setCell]; exact s.fq1
  · simp [World.setCell]; omega
  · exact s.bel.setCell (p := ⟨B + 1 + 1, 1, none⟩) (by show B ≤ B + 1 + 1; omega) _
theorem OvW.restHi {B : Nat} {W w : World} {h l y rh rl qh ql : Int} (s : OvW B W w h l y rh rl qh ql) (x : Int) : OvW B W (w.setCell ⟨B + 1 + 1, 0, none⟩ (.int .u64 x)) h l y x rl qh ql := by
  have hz := s.sz
  refine ⟨?_, ?_, ?_, ?_, ?_, ?_, ?_, ?_, ?_, ?_, ?_, ?_, ?_, ?_⟩
  · rw [World.cell?_setCell_other _ _ _ _ (addr_far (by omega))]; exact s.a0
  · rw [World.cell?_setCell_other _ _ _ _ (addr_far (by omega))]; exact s.a1
  · rw [World.cell?_setCell_other _ _ _ _ (addr_far (by omega))]; exact s.d0
  · rw [World.cell?_setCell_other _ _ _ _ (addr_far (by omega))]; exact s.d1
  · exact World.cell?_setCell_same _ _ _ s.r0
  · rw [World.cell?_setCell_other _ _ _ _ (addr_off (by omega))]; exact s.r1
  · rw [World.cell?_setCell_other _ _ _ _ (addr_far (by omega))]; exact s.q0
  · rw [World.cell?_setCell_other _ _ _ _ (addr_far (by omega))]; exact s.q1
  · rw [World.frozen?_setCell]; exact s.fr0
  · rw [World.frozen?_setCell]; exact s.fr1
  · rw [World.frozen?_setCell]; exact s.fq0
  · rw [World.frozen?_setCell]; exact s.fq1
  · simp [World.setCell]; omega
  · exact s.bel.setCell (p := ⟨B + 1 + 1, 0, none⟩) (by show B ≤ B + 1 + 1; omega) _
theorem OvW.quoLo {B : Nat} {W w : World} {h l y rh rl qh ql : Int} (s : OvW B W w h l y rh rl qh ql) (x : Int) : OvW B W (w.setCell ⟨B + 1 + 1 + 1, 1, none⟩ (.int .u64 x)) h l y rh rl qh x := by
  have hz := s.sz
  refine ⟨?_, ?_, ?_, ?_, ?_, ?_, ?_, ?_, ?_, ?_, ?_, ?_, ?_, ?_⟩
  · rw [World.cell?_setCell_other _ _ _ _ (addr_far (by omega))]; exact s.a0
  · rw [World.cell?_setCell_other _ _ _ _ (addr_far (by omega))]; exact s.a1
  · rw [World.cell?_setCell_other _ _ _ _ (addr_far (by omega))]; exact s.d0
  · rw [World.cell?_setCell_other _ _ _ _ (addr_far (by omega))]; exact s.d1
  · rw [World.cell?_setCell_other _ _ _ _ (addr_far (by omega))]; exact s.r0
  · rw [World.cell?_setCell_other _ _ _ _ (addr_far (by omega))]; exact s.r1
  · rw [World.cell?_setCell_other _ _ _ _ (addr_off (by omega))]; exact s.q0
  · exact World.cell?_setCell_same _ _ _ s.q1
  · rw [World.frozen?_setCell]; exact s.fr0
  · rw [World.frozen?_setCell]; exact s.fr1
  · rw [World.frozen?_setCell]; exact s.fq0
  · rw [World.frozen?_setCell]; exact s.fq1
  · simp [World.setCell]; omega
  · exact s.bel.setCell (p := ⟨B + 1 + 1 + 1, 1, none⟩) (by show B ≤ B + 1 + 1 + 1; omega) _
theorem OvW.quoHi {B : Nat} {W w : World} {h l y rh rl qh ql : Int} (s : OvW B W w h l y rh rl qh ql) (x : Int) : OvW B W (w.setCell ⟨B + 1 + 1 + 1, 0, none⟩ (.int .u64 x)) h l y rh rl x ql := by
  have hz := s.sz
  refine ⟨?_, ?_, ?_, ?_, ?_, ?_, ?_, ?_, ?_, ?_, ?_, ?_, ?_, ?_⟩
  · rw [World.cell?_setCell_other _ _ _ _ (addr_far (by omega))]; exact s.a0
  · rw [World.cell?_setCell_other _ _ _ _ (addr_far (by omega))]; exact s.a1
  · rw [World.cell?_setCell_other _ _ _ _ (addr_far (by omega))]; exact s.d0
  · rw [World.cell?_setCell_other _ _ _ _ (addr_far (by omega))]; exact s.d1
  · rw [World.cell?_setCell_other _ _ _ _ (addr_far (by omega))]; exact s.r0
  · rw [World.cell?_setCell_other _ _ _ _ (addr_far (by omega))]; exact s.r1
  · exact World.cell?_setCell_same _ _ _ s.q0
  · rw [World.cell?_setCell_other _ _ _ _ (addr_off (by omega))]; exact s.q1
  · rw [World.frozen?_setCell]; exact s.fr0
  · rw [World.frozen?_setCell]; exact s.fr1
  · rw [World.frozen?_setCell]; exact s.fq0
  · rw [World.frozen?_setCell]; exact s.fq1
  · simp [World.setCell]; omega
  · exact s.bel.setCell (p := ⟨B + 1 + 1 + 1, 0, none⟩) (by show B ≤ B + 1 + 1 + 1; omega) _
theorem OvW.drew {B : Nat} {W w : World} {h l y rh rl qh ql : Int} (s : OvW B W w h l y rh rl qh ql) : OvW B W w.drew h l y rh rl qh ql :=
  ⟨s.a0, s.a1, s.d0, s.d1, s.r0, s.r1, s.q0, s.q1, s.fr0, s.fr1, s.fq0, s.fq1, s.sz, s.bel.drew⟩

set_option maxHeartbeats 400000 in
theorem rover_zero (h l : Int) (w : World) :
    Calls Try.prog 25 #[.agg #[.int .u64 h, .int .u64 l], .int .u64 0] w fun e w' =>
      e = .returned (.tuple #[.int .u64 0, .int .u64 0, .bool false]) ∧ Below w.heap.size w w' := by
  go_enter Try.func25, Try.ntmps25
  go_wp2_with fail
  refine bodyPost_ret (v := .tuple #[.int .u64 0, .int .u64 0, .bool false]) (by simp [results, Try.results25, go_sem]) rfl ⟨rfl, ?_⟩
  exact (Below.refl _ _).alloc (Nat.le_refl _) _

set_option maxHeartbeats 400000 in
theorem rover_more (h l y : Int) (wh : Word h) (wl : Word l) (wy : Word y) (hy : 0 < y) (w : World) :
    Calls Try.prog 25 #[.agg #[.int .u64 h, .int .u64 l], .int .u64 y] w fun e w' =>
      e = .returned (.tuple #[.int .u64 (ovQ (wval h l) y), .int .u64 (ovR (wval h l) y), .bool (ovB (wval h l) y)]) ∧ Below w.heap.size w w' := by
  have hy0 : (y == 0) = false := by simp; omega
  have hy1 := wy.2
  go_enter Try.func25, Try.ntmps25
  go_wp2_with fail
  go_loopw [10] (fun i wr => ∃ k : Nat, k ≤ 128 ∧ i = .int .i64 ((k : Int) - 1) ∧ OvW w.heap.size w wr h l y (hiW (wval h l / 2 ^ k % y)) (loW (wval h l / 2 ^ k % y)) (hiW (wval h l / 2 ^ k / y)) (loW (wval h l / 2 ^ k / y))) (fun i _ => (intOf i + 1).toNat)
  case atStart =>
    have hn := wval_bd wh wl
    have e : wval h l / 2 ^ 128 = 0 := by
      rw [show (2 : Int) ^ 128 = 340282366920938463463374607431768211456 by rfl]; omega
    have e1 : (0 : Int) % y = 0 := Int.zero_emod y
    have e2 : (0 : Int) / y = 0 := Int.zero_ediv y
    refine ⟨128, Nat.le_refl _, rfl, ?_⟩
    rw [e, e1, e2]
    exact ⟨by go_simp, by go_simp, by go_simp, by go_simp, by go_simp; decide, by go_simp; decide, by go_simp; decide, by go_simp; decide, by go_simp, by go_simp, by go_simp, by go_simp, by simp, ((((Below.refl _ _).alloc (Nat.le_refl _) _).alloc (by simp) _).alloc (by simp; omega) _).alloc (by simp; omega) _⟩
  case round =>
    obtain ⟨k, hk, rfl, S⟩ := hrel
    cases k with
    | zero =>
      obtain ⟨a0, a1, d0, d1, r0, r1, q0, q1, fr0, fr1, fq0, fq1, sz, bel⟩ := id S
      have e : wval h l / 2 ^ 0 = wval h l := by rw [Int.pow_zero, Int.ediv_one]
      rw [e] at *
      have hn := wval_bd wh wl
      have sz1 : w.heap.size + 1 < wr.heap.size := by omega
      have sz2 : w.heap.size + 1 + 1 < wr.heap.size := by omega
      clear S e
      by_cases hq : 0 < hiW (wval h l / y)
      · have E := Lib.hid (ov_big (n := wval h l) hn.1 hn.2 hy hq)
        go_wp2_with fail
        refine bodyPost_ret (v := .tuple #[.int .u64 0, .int .u64 0, .bool false]) (by simp [results, Try.results25, go_sem]) rfl ⟨by rw [E.out.1, E.out.2.1, E.out.2.2], ?_⟩
        exact bel
      · have E := Lib.hid (ov_small (n := wval h l) hn.1 hn.2 hy hy1 hq)
        go_wp2_with fail
        go_quiet (fail)
        go_wp2
        refine bodyPost_ret (v := .tuple #[.int .u64 (loW (wval h l / y)), .int .u64 (loW (wval h l % y)), .bool true]) (by simp [results, Try.results25, go_sem]) rfl ⟨by rw [E.out.1, E.out.2.1, E.out.2.2], ?_⟩
        exact below_drewN bel _
    | succ j =>
      have ej : ((j + 1 : Nat) : Int) - 1 = j := by omega
      rw [ej]
      have hn := wval_bd wh wl
      have hp : (0 : Int) < 2 ^ j := Int.pow_pos (by omega)
      have M0 : 0 ≤ wval h l / 2 ^ j := Int.ediv_nonneg hn.1 (by omega)
      have M1 : wval h l / 2 ^ j ≤ wval h l := Int.ediv_le_self _ hn.1
      have M2 : wval h l / 2 ^ j < 340282366920938463463374607431768211456 := by omega
      have hm : wval h l / 2 ^ (j + 1) = wval h l / 2 ^ j / 2 := by rw [Int.pow_succ, Int.ediv_ediv_of_nonneg (by omega)]
      rw [hm] at S
      clear hm M1 hn hp
      obtain ⟨t1, t2⟩ := ov_step (M := wval h l / 2 ^ j) hy
      have T1 := Lib.hid t1; have T2 := Lib.hid t2
      clear t1 t2
      have bit := bit_any h l j wh wl (by omega)
      generalize hM : wval h l / 2 ^ j = M at *
      have HM := Lib.hid hM
      clear hM
      have R0 := Int.emod_nonneg (M / 2) (show y ≠ 0 by omega)
      have R1 := Int.emod_lt_of_pos (M / 2) hy
      have Q0 := Int.ediv_nonneg (show 0 ≤ M / 2 by omega) (show 0 ≤ y by omega)
      have Q1 := Int.ediv_le_self y (show 0 ≤ M / 2 by omega)
      have b0 : 0 ≤ M % 2 := by omega
      have b1 : M % 2 ≤ 1 := by omega
      have Q2 : M / 2 / y < 170141183460469231731687303715884105728 := by omega
      clear M0 M2 Q1
      generalize M / 2 % y = R at *
      generalize M / 2 / y = Q at *
      generalize M % 2 = b at *
      have ev := lo_even R
      have ev0 := (word_lo (R + R)).1
      obtain ⟨a0, a1, d0, d1, r0, r1, q0, q1, fr0, fr1, fq0, fq1, sz, bel⟩ := id S
      have sz1 : w.heap.size + 1 < wr.heap.size := by omega
      have sz2 : w.heap.size + 1 + 1 < wr.heap.size := by omega
      have Bit := Lib.hid bit
      have hwr : IntKind.u64.wrap (loW (R + R) + b) = loW (R + R) + b := by rw [IntKind.wrap_u64]; omega
      have HW := Lib.hid hwr
      clear hwr
      clear bit
      go_wp2_with fail
      refine (double_num R R0 (by omega) _).mono ?_
      rintro e wA ⟨rfl, hbA⟩
      have SA := S.call hbA
      clear a0 a1 d0 d1 r0 r1 q0 q1 fr0 fr1 fq0 fq1 sz bel S hbA
      obtain ⟨a0, a1, d0, d1, r0, r1, q0, q1, fr0, fr1, fq0, fq1, sz, bel⟩ := id SA
      go_upto_region 10 with fail
      have SB := (SA.restHi (hiW (R + R))).restLo (loW (R + R))
      generalize (wA.setCell ⟨w.heap.size + 1 + 1, 0, none⟩ (.int .u64 (hiW (R + R)))).setCell ⟨w.heap.size + 1 + 1, 1, none⟩ (.int .u64 (loW (R + R))) = wB at *
      clear a0 a1 d0 d1 r0 r1 q0 q1 fr0 fr1 fq0 fq1 sz bel SA
      obtain ⟨a0, a1, d0, d1, r0, r1, q0, q1, fr0, fr1, fq0, fq1, sz, bel⟩ := id SB
      go_cut [31] (fun s wx => OvW w.heap.size w wx h l y (hiW (R + R)) (loW (R + R) + b) (hiW Q) (loW Q))
      case first =>
        go_region_with (go_at_call 39; refine (Bit.out _).mono ?_; rintro e wC ⟨rfl, hbC⟩; have SC := OvW.call SB.drew hbC; obtain ⟨a0, a1, d0, d1, r0, r1, q0, q1, fr0, fr1, fq0, fq1, sz, bel⟩ := id SC)
        all_goals (go_wp2_with fail; go_meet; rw [HW.out]; exact SC.restLo _)
      case rest =>
        clear a0 a1 d0 d1 r0 r1 q0 q1 fr0 fr1 fq0 fq1 sz bel SB Bit
        rename_i wC _
        have SC := hcut
        rw [lo_bit b0 b1, hi_bit b0 b1] at SC
        clear hcut ev ev0
        obtain ⟨a0, a1, d0, d1, r0, r1, q0, q1, fr0, fr1, fq0, fq1, sz, bel⟩ := id SC
        go_wp2_with fail
        refine (double_num Q Q0 (by omega) _).mono ?_
        rintro e wD ⟨rfl, hbD⟩
        have SD := SC.call hbD
        clear a0 a1 d0 d1 r0 r1 q0 q1 fr0 fr1 fq0 fq1 sz bel SC hbD
        obtain ⟨a0, a1, d0, d1, r0, r1, q0, q1, fr0, fr1, fq0, fq1, sz, bel⟩ := id SD
        go_upto_region 12 with fail
        have SE := (SD.quoHi (hiW (Q + Q))).quoLo (loW (Q + Q))
        generalize (wD.setCell ⟨w.heap.size + 1 + 1 + 1, 0, none⟩ (.int .u64 (hiW (Q + Q)))).setCell ⟨w.heap.size + 1 + 1 + 1, 1, none⟩ (.int .u64 (loW (Q + Q))) = wE at *
        clear a0 a1 d0 d1 r0 r1 q0 q1 fr0 fr1 fq0 fq1 sz bel SD
        obtain ⟨a0, a1, d0, d1, r0, r1, q0, q1, fr0, fr1, fq0, fq1, sz, bel⟩ := id SE
        go_wp2_with fail
        refine (less_num (R + R + b) y (by omega) (by omega) wy _).mono ?_
        rintro e wF ⟨rfl, hbF⟩
        have SF := SE.call hbF
        clear a0 a1 d0 d1 r0 r1 q0 q1 fr0 fr1 fq0 fq1 sz bel SE hbF
        obtain ⟨a0, a1, d0, d1, r0, r1, q0, q1, fr0, fr1, fq0, fq1, sz, bel⟩ := id SF
        by_cases hX : R + R + b < y
        · obtain ⟨g1, g2⟩ := T1.out (by omega)
          have G1 := Lib.hid g1; have G2 := Lib.hid g2
          clear g1 g2
          go_wp2_with fail
          go_roundw
          case rel => 
            refine ⟨j, by omega, rfl, ?_⟩
            rw [HM.out, G1.out, G2.out]
            exact SF
          case measure => simp [intOf]
        · obtain ⟨g1, g2⟩ := T2.out (by omega)
          have G1 := Lib.hid g1; have G2 := Lib.hid g2
          clear g1 g2
          have hXf : decide (R + R + b < y) = false := decide_eq_false hX
          go_wp2_with fail
          refine (rsub_num (R + R + b) y (by omega) (by omega) wy _).mono ?_
          rintro e wG ⟨rfl, hbG⟩
          have SG := SF.call hbG
          clear a0 a1 d0 d1 r0 r1 q0 q1 fr0 fr1 fq0 fq1 sz bel SF hbG
          obtain ⟨a0, a1, d0, d1, r0, r1, q0, q1, fr0, fr1, fq0, fq1, sz, bel⟩ := id SG
          have ev := lo_even Q
          have ev0 := (word_lo (Q + Q)).1
          have SH := ((SG.restHi (hiW (R + R + b - y))).restLo (loW (R + R + b - y))).quoLo (loW (Q + Q) + 1)
          rw [lo_bit (n := Q) (b := 1) (by omega) (by omega), hi_bit (n := Q) (b := 1) (by omega) (by omega)] at SH
          have HL := Lib.hid (lo_bit (n := Q) (b := 1) (by omega) (by omega))
          go_wp2_with fail
          go_roundw
          case rel =>
            refine ⟨j, by omega, rfl, ?_⟩
            rw [HM.out, G1.out, G2.out]
            rw [HL.out]
            exact SH
          case measure => simp [intOf]

/-- The reference's Over, of all numbers. -/
theorem rover_any (h l y : Int) (wh : Word h) (wl : Word l) (wy : Word y) (w : World) :
    Calls Try.prog 25 #[.agg #[.int .u64 h, .int .u64 l], .int .u64 y] w fun e w' =>
      e = .returned (.tuple #[.int .u64 (ovQ (wval h l) y), .int .u64 (ovR (wval h l) y), .bool (ovB (wval h l) y)]) ∧ Below w.heap.size w w' := by
  by_cases hy : y = 0
  · subst hy
    have e : ovB (wval h l) 0 = false := by unfold ovB; apply decide_eq_false; omega
    have e1 : ovQ (wval h l) 0 = 0 := by unfold ovQ; rw [e]; rfl
    have e2 : ovR (wval h l) 0 = 0 := by unfold ovR; rw [e]; rfl
    rw [e, e1, e2]
    exact rover_zero h l w
  · exact rover_more h l y wh wl wy (by have := wy.1; omega) w
theorem rover_num (n y : Int) (h0 : 0 ≤ n) (h1 : n < 340282366920938463463374607431768211456) (wy : Word y) (w : World) :
    Calls Try.prog 25 #[.agg #[.int .u64 (hiW n), .int .u64 (loW n)], .int .u64 y] w fun e w' =>
      e = .returned (.tuple #[.int .u64 (ovQ n y), .int .u64 (ovR n y), .bool (ovB n y)]) ∧ Below w.heap.size w w' := by
  have h := rover_any (hiW n) (loW n) y (word_hi n) (word_lo n) wy w
  rw [wval_split h0 h1] at h
  exact h

end Go.Proofs.Ytjmkkglmckiknaa
