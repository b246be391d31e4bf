/-
  The landed package coins: a tape of coins.
-/
import Derived.Test.YtecnlpkfcggimaaCoinC
import Derived.Test.YtecnlpkfcggimaaSignM
import Derived.Laws.Shifts
import Derived.Deep.RegionHeld3
namespace Go.Proofs.Ytecnlpkfcggimaa
set_option linter.unusedVariables false
set_option linter.unusedSimpArgs false
open Go.RowKit

/-- A tape in memory: its word, and how many coins were used. -/
def TapX : TapT := fun w B x k => Two w B (.int .u64 x) (.int .i64 (k : Int))
theorem tapx_keep (w w' : World) (B : Nat) (x : Int) (k : Nat) (h : TapX w B x k) (hb : w'.heap[B]? = w.heap[B]?) : TapX w' B x k :=
  ⟨(World.cell?_of_block (a := ⟨B, 0, none⟩) hb).trans h.c0, (World.cell?_of_block (a := ⟨B, 1, none⟩) hb).trans h.c1, (World.frozen?_of_block (a := ⟨B, 0, none⟩) hb).trans h.f0, (World.frozen?_of_block (a := ⟨B, 1, none⟩) hb).trans h.f1⟩
theorem tapx_put {w : World} {B : Nat} {x : Int} {k : Nat} (h : TapX w B x k) (u : Nat) : TapX (w.setCell ⟨B, 1, none⟩ (.int .i64 (u : Int))) B x u := by
  refine ⟨?_, World.cell?_setCell_same _ _ _ h.c1, ?_, ?_⟩
  · rw [World.cell?_setCell_other _ _ _ _ (two_off (by omega))]; exact h.c0
  · rw [World.frozen?_setCell]; exact h.f0
  · rw [World.frozen?_setCell]; exact h.f1
theorem tapx_grown (w : World) (B : Nat) (v : Value) : w.grownBy (w.setCell ⟨B, 1, none⟩ v) (some B) :=
  ⟨rfl, rfl, rfl, by simp [World.setCell], fun k _ hr => Below.heap_setCell w _ _ k (fun e => hr (by rw [e]))⟩

theorem tap_new (w : World) (x : Int) (hx : Word x) : Calls Try.prog 9 #[.int .u64 x] w fun e w' => ∃ B, e = .returned (.pointer (some ⟨B, 0, none⟩)) ∧ TapX w' B x 0 ∧ w.heap.size ≤ B ∧ Below w.heap.size w w' := by
  have HT : Hid (TapX (w.alloc (.cells #[.int .u64 x, .int .i64 0] 42)) w.heap.size x 0) := Lib.hid (Two.new _ _ _ _)
  go_enter Try.func9, Try.ntmps9
  go_wp2_with fail
  go_ret
  exact ⟨_, rfl, HT.out, Nat.le_refl _, (Below.refl _ _).alloc (Nat.le_refl _) _⟩

set_option maxHeartbeats 1000000 in
theorem tap_next (w : World) (B : Nat) (x : Int) (k : Nat) (h : TapX w B x k) (hx : Word x) (hk : (k : Int) < 4611686018427387904) : Calls Try.prog 11 #[.pointer (some ⟨B, 0, none⟩)] w fun e w' => e = .returned (.bool (coinB x k)) ∧ TapX w' B x (k + 1) ∧ w.grownBy w' (some B) := by
  obtain ⟨r, hr⟩ : ∃ r : Nat, k % 64 = r := ⟨_, rfl⟩
  have hr64 : r < 64 := by omega
  have t1 : ((k : Int)).tmod 64 = (r : Int) := by rw [Int.tmod_eq_emod_of_nonneg (by omega)]; omega
  have t2 : ((k : Int)) % 64 = (r : Int) := by omega
  obtain ⟨x0, x1⟩ := hx
  obtain ⟨q, hq⟩ : ∃ q, x / ((2 ^ r : Nat) : Int) = q := ⟨_, rfl⟩
  have hp := Nat.two_pow_pos r
  have q0 : 0 ≤ q := by rw [← hq]; exact Int.ediv_nonneg x0 (by omega)
  have q1 : q < 18446744073709551616 := by rw [← hq]; exact Int.lt_of_le_of_lt (Int.ediv_le_self _ x0) x1
  have hs : Op.shift .shr .u64 x .u64 (r : Int) = pure (.int .u64 q) := by
    rw [shift_shr_any _ _ _ _ (by omega), ← hq]
    have e : min (r : Int).toNat IntKind.u64.bits = r := by
      have : IntKind.u64.bits = 64 := rfl
      rw [this]; omega
    rw [e, Int.natCast_pow]; rfl
  have HC : Hid (coinB x k = (bits .and .u64 (x / 2 ^ r) 1 == 1)) := Lib.hid (by
    have e : x / 2 ^ r = q := by rw [← hq, Int.natCast_pow]; rfl
    rw [e, and_one q0 q1]
    unfold coinB; rw [hr, hq])
  have kw : IntKind.u64.wrap (k : Int) = k := by rw [IntKind.wrap_u64]; omega
  have kp : wrap64 ((k : Int) + 1) = ((k + 1 : Nat) : Int) := by unfold wrap64; omega
  have HF : Hid (TapX (w.setCell ⟨B, 1, none⟩ (.int .i64 ((k + 1 : Nat) : Int))) B x (k + 1)) := Lib.hid (tapx_put h _)
  have c0 := h.c0
  have c1 := h.c1
  have f1 := h.f1
  clear h hq hr hp
  go_enter Try.func11, Try.ntmps11
  go_wp2_with fail
  go_ret
  exact ⟨ret_bool HC.out.symm, HF.out, tapx_grown _ _ _⟩

theorem tap_used (w : World) (B : Nat) (x : Int) (k : Nat) (h : TapX w B x k) : Calls Try.prog 10 #[.pointer (some ⟨B, 0, none⟩)] w fun e w' => e = .returned (.int .i64 k) ∧ Below w.heap.size w w' := by
  have c1 := h.c1
  clear h
  go_enter Try.func10, Try.ntmps10
  go_wp2_with fail
  go_ret
  exact ⟨rfl, Below.refl _ _⟩

theorem tap_word (w : World) (B : Nat) (x : Int) (k : Nat) (h : TapX w B x k) : Calls Try.prog 14 #[.pointer (some ⟨B, 0, none⟩)] w fun e w' => e = .returned (.int .u64 x) ∧ Below w.heap.size w w' := by
  have c0 := h.c0
  clear h
  go_enter Try.func14, Try.ntmps14
  go_wp2_with fail
  go_ret
  exact ⟨rfl, Below.refl _ _⟩

theorem tap_skip (w : World) (B : Nat) (x : Int) (k u : Nat) (h : TapX w B x k) (hu : (u : Int) < 4611686018427387904) : Calls Try.prog 13 #[.pointer (some ⟨B, 0, none⟩), .int .i64 u] w fun e w' => e = .returned (.bool true) ∧ TapX w' B x u ∧ w.grownBy w' (some B) := by
  have n0 : ¬ (u : Int) < 0 := by omega
  have HF : Hid (TapX (w.setCell ⟨B, 1, none⟩ (.int .i64 (u : Int))) B x u) := Lib.hid (tapx_put h _)
  have c1 := h.c1
  have f1 := h.f1
  clear h
  go_enter Try.func13, Try.ntmps13
  go_wp2_with fail
  go_ret
  exact ⟨rfl, HF.out, tapx_grown _ _ _⟩

theorem tap_back (w : World) (B : Nat) (x : Int) (k : Nat) (u : Int) (h : TapX w B x k) (hu : I64 u) (h0 : u < 0) : Calls Try.prog 13 #[.pointer (some ⟨B, 0, none⟩), .int .i64 u] w fun e w' => e = .returned (.bool false) ∧ Below w.heap.size w w' := by
  clear h
  go_enter Try.func13, Try.ntmps13
  go_wp2_with fail
  go_ret
  exact ⟨rfl, Below.refl _ _⟩

theorem tap_next0 (w : World) : Calls Try.prog 11 #[.pointer none] w fun e w' => e = .returned (.bool false) ∧ Below w.heap.size w w' := by
  go_enter Try.func11, Try.ntmps11
  go_wp2_with fail
  go_ret
  exact ⟨rfl, Below.refl _ _⟩

theorem tap_used0 (w : World) : Calls Try.prog 10 #[.pointer none] w fun e w' => e = .returned (.int .i64 0) ∧ Below w.heap.size w w' := by
  go_enter Try.func10, Try.ntmps10
  go_wp2_with fail
  go_ret
  exact ⟨rfl, Below.refl _ _⟩

theorem tap_word0 (w : World) : Calls Try.prog 14 #[.pointer none] w fun e w' => e = .returned (.int .u64 0) ∧ Below w.heap.size w w' := by
  go_enter Try.func14, Try.ntmps14
  go_wp2_with fail
  go_ret
  exact ⟨rfl, Below.refl _ _⟩

theorem tap_skip0 (w : World) (u : Int) (hu : I64 u) : Calls Try.prog 13 #[.pointer none, .int .i64 u] w fun e w' => e = .returned (.bool false) ∧ Below w.heap.size w w' := by
  go_enter Try.func13, Try.ntmps13
  go_wp2_with fail
  go_ret
  exact ⟨rfl, Below.refl _ _⟩

theorem tap_does : TapDoes TapX where
  keep := tapx_keep
  lt := fun w B x k h => Two.lt h
  new := tap_new
  next := tap_next
  used := tap_used
  word := tap_word
  skip := tap_skip
  back := tap_back

theorem tap_nil : TapNil where
  next := tap_next0
  used := tap_used0
  word := tap_word0
  skip := tap_skip0

end Go.Proofs.Ytecnlpkfcggimaa
