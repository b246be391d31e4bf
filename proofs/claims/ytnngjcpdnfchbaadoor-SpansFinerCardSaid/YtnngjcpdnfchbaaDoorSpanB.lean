/-
  Walks: spans in memory (the landed code): New, Index, Range, Rep, Digits, Part; nil ones.
-/
import Derived.Test.YtnngjcpdnfchbaaDoorSpanM
import Derived.Test.YtnngjcpdnfchbaaDoorSmall
import Derived.Test.YtnngjcpdnfchbaaDoorSignM
import Derived.Deep.RegionWith
import Derived.Lib.SmallJoins
import Derived.Test.YtnngjcpdnfchbaaDoorRows
namespace Go.Proofs.YtnngjcpdnfchbaaDoor
set_option linter.unusedVariables false
set_option linter.unusedSimpArgs false
open Go.RowKit Go.Shelf

/-- The table of powers of ten lies where the package's variable lies. -/
structure Tens (w : World) : Prop where
  t0 : w.cell? ⟨0, 0, none⟩ = some (.int .u64 1)
  t1 : w.cell? ⟨0, 1, none⟩ = some (.int .u64 10)
  t2 : w.cell? ⟨0, 2, none⟩ = some (.int .u64 100)
  t3 : w.cell? ⟨0, 3, none⟩ = some (.int .u64 1000)
  t4 : w.cell? ⟨0, 4, none⟩ = some (.int .u64 10000)
theorem Tens.lt {w : World} (h : Tens w) : 0 < w.heap.size := World.block_lt_of_cell? (a := ⟨0, 0, none⟩) w h.t0
theorem Tens.call {w w' : World} (h : Tens w) (hb : Below w.heap.size w w') : Tens w' :=
  ⟨cell_later hb h.t0, cell_later hb h.t1, cell_later hb h.t2, cell_later hb h.t3, cell_later hb h.t4⟩
theorem Tens.keep {w w' : World} (h : Tens w) (hk : w'.heap[0]? = w.heap[0]?) : Tens w' := by
  have e : ∀ o, w'.cell? ⟨0, o, none⟩ = w.cell? ⟨0, o, none⟩ := by
    intro o; unfold World.cell?; simp only [hk]
  exact ⟨(e 0).trans h.t0, (e 1).trans h.t1, (e 2).trans h.t2, (e 3).trans h.t3, (e 4).trans h.t4⟩

/-- A span in memory: so many digits count. -/
def SpX (w : World) (B : Nat) (d : Int) (L : Nat) : Prop := w.heap[B]? = some (.cells #[.int .i64 d, .int .i64 L] 49 (0, 0))
theorem spx_lt {w : World} {B : Nat} {d : Int} {L : Nat} (h : SpX w B d L) : B < w.heap.size := lt_of_block h
theorem spx_keep {w w' : World} {B : Nat} {d : Int} {L : Nat} (h : SpX w B d L) (hk : w'.heap[B]? = w.heap[B]?) : SpX w' B d L := hk.trans h
theorem spx_call {w w' : World} {B : Nat} {d : Int} {L : Nat} (h : SpX w B d L) (hb : Below w.heap.size w w') : SpX w' B d L := spx_keep h (hb.block B (spx_lt h))
theorem spx_cells {w : World} {B : Nat} {d : Int} {L : Nat} (h : SpX w B d L) : w.cell? ⟨B, 0, none⟩ = some (.int .i64 d) ∧ w.cell? ⟨B, 1, none⟩ = some (.int .i64 L) :=
  ⟨by rw [Joins.cell_of_block h]; rfl, by rw [Joins.cell_of_block h]; rfl⟩

theorem heap_new (w : World) (o : Obj) : (w.alloc o).heap[w.heap.size]? = some o := by
  show (w.heap.push o)[w.heap.size]? = some o
  simp
theorem log_9 (w : World) : Calls Tryd.prog 19 #[.int .u64 9] w fun e w' => e = .returned (.tuple #[.int .i64 3, .bool true]) ∧ w = w' := by
  have h := log_any 9 (by unfold Word; omega) w
  rw [show Lib.bitLen (9 : Int).toNat = 4 by decide] at h; exact h
theorem log_99 (w : World) : Calls Tryd.prog 19 #[.int .u64 99] w fun e w' => e = .returned (.tuple #[.int .i64 6, .bool true]) ∧ w = w' := by
  have h := log_any 99 (by unfold Word; omega) w
  rw [show Lib.bitLen (99 : Int).toNat = 7 by decide] at h; exact h
theorem log_999 (w : World) : Calls Tryd.prog 19 #[.int .u64 999] w fun e w' => e = .returned (.tuple #[.int .i64 9, .bool true]) ∧ w = w' := by
  have h := log_any 999 (by unfold Word; omega) w
  rw [show Lib.bitLen (999 : Int).toNat = 10 by decide] at h; exact h
theorem log_9999 (w : World) : Calls Tryd.prog 19 #[.int .u64 9999] w fun e w' => e = .returned (.tuple #[.int .i64 13, .bool true]) ∧ w = w' := by
  have h := log_any 9999 (by unfold Word; omega) w
  rw [show Lib.bitLen (9999 : Int).toNat = 14 by decide] at h; exact h

set_option maxHeartbeats 400000 in
theorem snew_bad (d : Int) (hd : I64 d) (h : ¬ (1 ≤ d ∧ d ≤ 4)) (w : World) :
    Calls Tryd.prog 9 #[.int .i64 d] w fun e w' => e = .returned (.tuple #[.pointer none, .int .i64 1]) ∧ w = w' := by
  by_cases h1 : d < 1
  · go_enter Tryd.func9, Tryd.ntmps9
    go_wp2_with fail
    go_ret2
    exact ⟨rfl, rfl⟩
  · have h4 : 4 < d := by omega
    go_enter Tryd.func9, Tryd.ntmps9
    go_wp2_with fail
    go_ret2
    exact ⟨rfl, rfl⟩

set_option maxHeartbeats 1000000 in
theorem snew_good (d : Int) (L : Nat) (T : Int) (hs : SpanP d L T) (w : World) (ht : Tens w) :
    Calls Tryd.prog 9 #[.int .i64 d] w fun e w' => ∃ B, e = .returned (.tuple #[.pointer (some ⟨B, 0, none⟩), .int .i64 0]) ∧ SpX w' B d L ∧ w.heap.size ≤ B ∧ Below w.heap.size w w' := by
  obtain ⟨t0, t1, t2, t3, t4⟩ := ht
  rcases hs with ⟨rfl, rfl, rfl⟩ | ⟨rfl, rfl, rfl⟩ | ⟨rfl, rfl, rfl⟩ | ⟨rfl, rfl, rfl⟩
  · go_enter Tryd.func9, Tryd.ntmps9
    go_wp2_with fail
    refine (log_9 _).mono ?_
    rintro e w' ⟨rfl, rfl⟩
    go_wp2_with fail
    go_ret2
    exact ⟨_, rfl, (heap_new w _), Nat.le_refl _, (Below.refl _ _).alloc (Nat.le_refl _) _⟩
  · go_enter Tryd.func9, Tryd.ntmps9
    go_wp2_with fail
    refine (log_99 _).mono ?_
    rintro e w' ⟨rfl, rfl⟩
    go_wp2_with fail
    go_ret2
    exact ⟨_, rfl, (heap_new w _), Nat.le_refl _, (Below.refl _ _).alloc (Nat.le_refl _) _⟩
  · go_enter Tryd.func9, Tryd.ntmps9
    go_wp2_with fail
    refine (log_999 _).mono ?_
    rintro e w' ⟨rfl, rfl⟩
    go_wp2_with fail
    go_ret2
    exact ⟨_, rfl, (heap_new w _), Nat.le_refl _, (Below.refl _ _).alloc (Nat.le_refl _) _⟩
  · go_enter Tryd.func9, Tryd.ntmps9
    go_wp2_with fail
    refine (log_9999 _).mono ?_
    rintro e w' ⟨rfl, rfl⟩
    go_wp2_with fail
    go_ret2
    exact ⟨_, rfl, (heap_new w _), Nat.le_refl _, (Below.refl _ _).alloc (Nat.le_refl _) _⟩

set_option maxHeartbeats 400000 in
theorem sdigits_any (w : World) (B : Nat) (d : Int) (L : Nat) (h : SpX w B d L) :
    Calls Tryd.prog 18 #[.pointer (some ⟨B, 0, none⟩)] w fun e w' => e = .returned (.int .i64 d) ∧ w = w' := by
  obtain ⟨c0, c1⟩ := spx_cells h
  clear h
  go_enter Tryd.func18, Tryd.ntmps18
  go_wp2_with fail
  go_ret
  exact ⟨rfl, rfl⟩
theorem sdigits_none (w : World) :
    Calls Tryd.prog 18 #[.pointer none] w fun e w' => e = .returned (.int .i64 0) ∧ w = w' := by
  go_enter Tryd.func18, Tryd.ntmps18
  go_wp2_with fail
  go_ret
  exact ⟨rfl, rfl⟩

set_option maxHeartbeats 1000000 in
theorem spart_any (w : World) (B : Nat) (d : Int) (L : Nat) (T : Int) (hs : SpanP d L T) (ht : Tens w) (h : SpX w B d L) :
    Calls Tryd.prog 15 #[.pointer (some ⟨B, 0, none⟩)] w fun e w' => e = .returned (.agg #[.int .u64 1, .int .u64 T]) ∧ Below w.heap.size w w' := by
  have B1 := (Below.refl w.heap.size w).alloc (Nat.le_refl _) (.cells #[.int .u64 0, .int .u64 0] 37)
  have HD := Lib.hid (sdigits_any _ B d L (spx_call h B1))
  have ht' := ht.call B1
  clear h ht
  obtain ⟨t0, t1, t2, t3, t4⟩ := ht'
  rcases hs with ⟨rfl, rfl, rfl⟩ | ⟨rfl, rfl, rfl⟩ | ⟨rfl, rfl, rfl⟩ | ⟨rfl, rfl, rfl⟩
  all_goals
    go_enter Tryd.func15, Tryd.ntmps15
    go_wp2_with fail
    refine HD.out.mono ?_
    rintro e w' ⟨rfl, rfl⟩
    go_wp2_with fail
    refine bodyPost_ret (v := .agg #[.int .u64 1, .int .u64 _]) (by simp [results, Tryd.results15, go_sem]) rfl ⟨rfl, ?_⟩
    exact (Below.refl _ _).alloc (Nat.le_refl _) _

set_option maxHeartbeats 1000000 in
theorem spart_none (w : World) (ht : Tens w) :
    Calls Tryd.prog 15 #[.pointer none] w fun e w' => e = .returned (.agg #[.int .u64 1, .int .u64 1]) ∧ Below w.heap.size w w' := by
  have B1 := (Below.refl w.heap.size w).alloc (Nat.le_refl _) (.cells #[.int .u64 0, .int .u64 0] 37)
  have ht' := ht.call B1
  clear ht
  obtain ⟨t0, t1, t2, t3, t4⟩ := ht'
  go_enter Tryd.func15, Tryd.ntmps15
  go_wp2_with fail
  refine (sdigits_none _).mono ?_
  rintro e w' ⟨rfl, rfl⟩
  go_wp2_with fail
  refine bodyPost_ret (v := .agg #[.int .u64 1, .int .u64 1]) (by simp [results, Tryd.results15, go_sem]) rfl ⟨rfl, ?_⟩
  exact (Below.refl _ _).alloc (Nat.le_refl _) _


theorem ret_ib {k : IntKind} {a b : Int} {c : Bool} (h : a = b) : Ending.returned (.tuple #[.int k a, .bool c]) = .returned (.tuple #[.int k b, .bool c]) := by rw [h]
theorem ret_uu {a b c d : Int} (h : a = b) (h' : c = d) : Ending.returned (.tuple #[.int .u64 a, .int .u64 c]) = .returned (.tuple #[.int .u64 b, .int .u64 d]) := by rw [h, h']

set_option maxHeartbeats 400000 in
theorem sindex_none (w : World) (m : Int) (wm : Word m) :
    Calls Tryd.prog 10 #[.pointer none, .int .u64 m] w fun e w' => e = .returned (.tuple #[.int .i64 0, .bool false]) ∧ w = w' := by
  go_enter Tryd.func10, Tryd.ntmps10
  go_wp2_with fail
  go_ret2
  exact ⟨rfl, rfl⟩
set_option maxHeartbeats 400000 in
theorem sindex_out (w : World) (B : Nat) (m : Int) (wm : Word m) (ho : m = 0 ∨ 9223372036854775808 < m) :
    Calls Tryd.prog 10 #[.pointer (some ⟨B, 0, none⟩), .int .u64 m] w fun e w' => e = .returned (.tuple #[.int .i64 0, .bool false]) ∧ w = w' := by
  obtain ⟨m0, m1⟩ := wm
  rcases ho with rfl | ho
  · go_enter Tryd.func10, Tryd.ntmps10
    go_wp2_with fail
    go_ret2
    exact ⟨rfl, rfl⟩
  · have c1 : (m == 0) = false := by simp; omega
    go_enter Tryd.func10, Tryd.ntmps10
    go_wp2_with fail
    go_ret2
    exact ⟨rfl, rfl⟩

theorem max_nat (a b : Nat) : max ((a : Int) - 1 - b) 0 = ((a - 1 - b : Nat) : Int) := by omega
set_option maxHeartbeats 1000000 in
theorem sindex_any (w : World) (B : Nat) (d : Int) (L : Nat) (T m : Int) (hs : SpanP d L T) (h : SpX w B d L) (h1 : 1 ≤ m) (h2 : m ≤ 9223372036854775808) :
    Calls Tryd.prog 10 #[.pointer (some ⟨B, 0, none⟩), .int .u64 m] w fun e w' => e = .returned (.tuple #[.int .i64 (idxS L m), .bool true]) ∧ ∃ n, w' = w.drewN n := by
  obtain ⟨c0, c1⟩ := spx_cells h
  obtain ⟨l4, l14⟩ := spanp_log hs
  obtain ⟨k0, q1, q2, q3, _⟩ := cut_facts L h1 h2 l14
  obtain ⟨b1, b2, _⟩ := len_bd h1 h2
  have hpL := pow_le (show L ≤ 14 by omega)
  have hpL1 := pow_le (show L + 1 ≤ 15 by omega)
  have e14 : (2 : Int) ^ 14 = 16384 := by decide
  have e15 : (2 : Int) ^ 15 = 32768 := by decide
  have hp := pow_pos L
  have hkm : (cutS L m : Int) * 2 ^ L ≤ 59 * 16384 := Int.mul_le_mul (by omega) (by omega) (by omega) (by omega)
  have hkm0 : 0 ≤ (cutS L m : Int) * 2 ^ L := Int.mul_nonneg (by omega) (by omega)
  have HX : Hid (wrap64 (wrap64 (max ((Lib.bitLen m.toNat : Int) - 1 - L) 0 * 2 ^ (L : Int).toNat) + wrap64 (m / 2 ^ (max ((Lib.bitLen m.toNat : Int) - 1 - L) 0).toNat)) = idxS L m) := by
    refine Lib.hid ?_
    rw [max_nat, Int.toNat_natCast, Int.toNat_natCast]
    have hk : cutS L m = Lib.bitLen m.toNat - 1 - L := rfl
    have hq : leftS L m = m / 2 ^ cutS L m := rfl
    rw [← hk, ← hq]
    have hx : idxS L m = cutS L m * 2 ^ L + leftS L m := rfl
    rw [IntWalk.wrap64_in (_ * _) (by omega), IntWalk.wrap64_in (leftS L m) (by omega), IntWalk.wrap64_in _ (by omega), hx]
  have HLG := Lib.hid (log_any m (by unfold Word; omega) w)
  have c2 : (m == 0) = false := by simp; omega
  have c3 : (m != 0) = true := by simp; omega
  rw [c3] at HLG
  obtain ⟨lg, hlg⟩ : ∃ lg, (Lib.bitLen m.toNat : Int) - 1 = lg := ⟨_, rfl⟩
  rw [hlg] at HLG HX
  obtain ⟨Z, hZ⟩ : ∃ Z : Int, (L : Int) = Z := ⟨_, rfl⟩
  rw [hZ] at HX c1
  generalize idxS L m = x at *
  have lg0 : 0 ≤ lg := by omega
  have lg1 : lg ≤ 63 := by omega
  have z0 : 4 ≤ Z := by omega
  have z1 : Z ≤ 14 := by omega
  clear h hs l4 l14 k0 q1 q2 q3 b1 b2 hpL hpL1 e14 e15 hp hkm hkm0 hlg hZ c3
  go_enter Tryd.func10, Tryd.ntmps10
  go_wp2_with fail
  refine HLG.out.mono ?_
  rintro e w' ⟨rfl, rfl⟩
  go_wp2_with fail
  go_quiet (fail)
  go_wp2_with fail
  go_ret2
  exact ⟨ret_ib HX.out, _, rfl⟩

set_option maxHeartbeats 1000000 in
theorem sindex_top (w : World) (B : Nat) (d : Int) (L : Nat) (T : Int) (hs : SpanP d L T) (h : SpX w B d L) :
    Calls Tryd.prog 10 #[.pointer (some ⟨B, 0, none⟩), .int .u64 9223372036854775808] w fun e w' => e = .returned (.tuple #[.int .i64 (lastS L), .bool true]) ∧ ∃ n, w' = w.drewN n := by
  have := sindex_any w B d L T 9223372036854775808 hs h (by omega) (by omega)
  rw [last_idx L (spanp_log hs).2] at this
  exact this

theorem shas_none (w : World) (i : Int) (hi : I64 i) :
    Calls Tryd.prog 20 #[.pointer none, .int .i64 i] w fun e w' => e = .returned (.bool false) ∧ w = w' := by
  by_cases h0 : 0 < i
  · have h1 : decide (i ≤ 0) = false := decide_eq_false (by omega)
    go_enter Tryd.func20, Tryd.ntmps20
    go_wp2_with fail
    refine (sindex_none _ _ (by unfold Word; omega)).mono ?_
    rintro e w2 ⟨rfl, rfl⟩
    go_wp2_with fail
    go_ret
    exact ⟨rfl, rfl⟩
  · have hf : decide (0 < i) = false := decide_eq_false h0
    go_enter Tryd.func20, Tryd.ntmps20
    go_wp2_with fail
    refine (sindex_none _ _ (by unfold Word; omega)).mono ?_
    rintro e w2 ⟨rfl, rfl⟩
    go_wp2_with fail
    go_ret
    exact ⟨rfl, rfl⟩

set_option maxHeartbeats 400000 in
theorem shas_any (w : World) (B : Nat) (d : Int) (L : Nat) (T i : Int) (b : Bool) (hs : SpanP d L T) (h : SpX w B d L) (hi : I64 i) (hb : decide (1 ≤ i ∧ i ≤ lastS L) = b) :
    Calls Tryd.prog 20 #[.pointer (some ⟨B, 0, none⟩), .int .i64 i] w fun e w' => e = .returned (.bool b) ∧ ∃ n, w' = w.drewN n := by
  have HI := Lib.hid (sindex_top w B d L T hs h)
  generalize lastS L = z at *
  by_cases h0 : 0 < i
  · have E : Hid (decide (i ≤ z) = b) := Lib.hid (by rw [← hb]; apply decide_eq_decide.2; omega)
    clear hs h hb
    go_enter Tryd.func20, Tryd.ntmps20
    go_wp2_with fail
    refine HI.out.mono ?_
    rintro e w2 ⟨rfl, n, rfl⟩
    go_wp2_with fail
    go_ret
    exact ⟨ret_bool E.out, _, rfl⟩
  · have hf : decide (0 < i) = false := decide_eq_false h0
    have E : Hid (false = b) := Lib.hid (by rw [← hb]; symm; apply decide_eq_false; omega)
    clear hs h hb
    go_enter Tryd.func20, Tryd.ntmps20
    go_wp2_with fail
    refine HI.out.mono ?_
    rintro e w2 ⟨rfl, n, rfl⟩
    go_wp2_with fail
    go_ret
    exact ⟨ret_bool E.out, _, rfl⟩

set_option maxHeartbeats 400000 in
theorem srange_none (w : World) (i : Int) (hi : I64 i) :
    Calls Tryd.prog 11 #[.pointer none, .int .i64 i] w fun e w' => e = .returned (.tuple #[.int .u64 0, .int .u64 0]) ∧ w = w' := by
  go_enter Tryd.func11, Tryd.ntmps11
  go_wp2_with fail
  refine (shas_none _ i hi).mono ?_
  rintro e w2 ⟨rfl, rfl⟩
  go_wp2_with fail
  go_ret2
  exact ⟨rfl, rfl⟩
set_option maxHeartbeats 400000 in
theorem srange_out (w : World) (B : Nat) (d : Int) (L : Nat) (T i : Int) (hs : SpanP d L T) (h : SpX w B d L) (hi : I64 i) (ho : ¬ (1 ≤ i ∧ i ≤ lastS L)) :
    Calls Tryd.prog 11 #[.pointer (some ⟨B, 0, none⟩), .int .i64 i] w fun e w' => e = .returned (.tuple #[.int .u64 0, .int .u64 0]) ∧ ∃ n, w' = w.drewN n := by
  have HH := Lib.hid (shas_any w B d L T i false hs h hi (decide_eq_false ho))
  clear hs h ho
  go_enter Tryd.func11, Tryd.ntmps11
  go_wp2_with fail
  refine HH.out.mono ?_
  rintro e w2 ⟨rfl, n, rfl⟩
  go_wp2_with fail
  go_ret2
  exact ⟨rfl, _, rfl⟩

theorem drewN_add (w : World) (a b : Nat) : (w.drewN a).drewN b = w.drewN (a + b) := by
  induction b with
  | zero => rfl
  | succ b ih => show ((w.drewN a).drewN b).drew = _; rw [ih]; rfl

set_option maxHeartbeats 1000000 in
theorem srange_any (w : World) (B : Nat) (d : Int) (L : Nat) (T i : Int) (hs : SpanP d L T) (h : SpX w B d L) (h1 : 1 ≤ i) (h2 : i ≤ lastS L) :
    Calls Tryd.prog 11 #[.pointer (some ⟨B, 0, none⟩), .int .i64 i] w fun e w' => e = .returned (.tuple #[.int .u64 (lowI L i), .int .u64 (highI L i)]) ∧ ∃ n, w' = w.drewN n := by
  obtain ⟨c0, c1⟩ := spx_cells h
  obtain ⟨l4, l14⟩ := spanp_log hs
  have hpL := pow_le (show L ≤ 14 by omega)
  have e14 : (2 : Int) ^ 14 = 16384 := by decide
  have hp := pow_pos L
  have hl : lastS L ≤ 64 * 16384 := by
    unfold lastS; exact Int.mul_le_mul (by omega) (by omega) (by omega) (by omega)
  have HH := Lib.hid (shas_any w B d L T i true hs h (by unfold I64; omega) (decide_eq_true ⟨h1, h2⟩))
  obtain ⟨Z, hZ⟩ : ∃ Z : Int, (L : Int) = Z := ⟨_, rfl⟩
  rw [hZ] at c1
  have z0 : 4 ≤ Z := by omega
  have z1 : Z ≤ 14 := by omega
  have i1 : i ≤ 1048576 := by omega
  have hc : max (wrap64 (i / 2 ^ Z.toNat - 1)) 0 = (cutI L i : Int) := by
    have := Int.ediv_le_self (2 ^ L) (show 0 ≤ i by omega)
    have e0 : 0 ≤ i / 2 ^ L := (Int.le_ediv_iff_mul_le (by omega)).2 (by omega)
    rw [← hZ, Int.toNat_natCast, IntWalk.wrap64_in _ (by omega)]
    unfold cutI; omega
  have hk : cutI L i ≤ 63 := by
    have : i / 2 ^ L < 65 := by
      rw [Int.ediv_lt_iff_lt_mul (by omega)]
      have : lastS L ≤ 64 * 2 ^ L := by unfold lastS; exact Int.mul_le_mul_of_nonneg_right (by omega) (by omega)
      omega
    unfold cutI; omega
  obtain ⟨lo1, lo2, lo3⟩ := low_in L h1 h2 l14
  have hlow : lowI L i = (i - cutI L i * 2 ^ L) * 2 ^ cutI L i := rfl
  have hhigh : highI L i = min (lowI L i + (2 ^ cutI L i - 1)) 9223372036854775808 := rfl
  have hkm : (cutI L i : Int) * 2 ^ L ≤ 63 * 16384 := Int.mul_le_mul (by omega) (by omega) (by omega) (by omega)
  have hkm0 : 0 ≤ (cutI L i : Int) * 2 ^ L := Int.mul_nonneg (by omega) (by omega)
  have hkp := pow_pos (cutI L i)
  have hkq := pow_le hk
  have e63 : (2 : Int) ^ 63 = 9223372036854775808 := by decide
  have hpos : 0 ≤ i - cutI L i * 2 ^ L := by
    have : ¬ (i - cutI L i * 2 ^ L + 1 ≤ 0) := fun h => by
      have := Int.mul_le_mul_of_nonneg_right h (show 0 ≤ (2 : Int) ^ cutI L i by omega)
      rw [Int.add_mul] at this; omega
    omega
  have HLO : Hid (IntKind.u64.wrap (IntKind.u64.wrap (wrap64 (i - wrap64 ((cutI L i : Int) * 2 ^ Z.toNat))) * 2 ^ (cutI L i : Int).toNat) = lowI L i) := by
    refine Lib.hid ?_
    rw [← hZ, Int.toNat_natCast, Int.toNat_natCast, IntWalk.wrap64_in (_ * _) (by omega), IntWalk.wrap64_in _ (by omega), IntKind.wrap_u64 (_ - _), Int.emod_eq_of_lt (by omega) (by omega), ← hlow, IntKind.wrap_u64, Int.emod_eq_of_lt (by omega) (by omega)]
  have HHI : Hid (min (IntKind.u64.wrap (lowI L i + IntKind.u64.wrap (IntKind.u64.wrap (2 ^ (cutI L i : Int).toNat) - 1))) 9223372036854775808 = highI L i) := by
    refine Lib.hid ?_
    rw [Int.toNat_natCast, IntKind.wrap_u64 (_ ^ _), Int.emod_eq_of_lt (by omega) (by omega), IntKind.wrap_u64 (_ - _), Int.emod_eq_of_lt (by omega) (by omega), IntKind.wrap_u64, Int.emod_eq_of_lt (by omega) (by omega), hhigh]
  generalize highI L i = hi at *
  generalize lowI L i = lo at *
  generalize cutI L i = k at *
  obtain ⟨K, hK⟩ : ∃ K : Int, (k : Int) = K := ⟨_, rfl⟩
  rw [hK] at hc HLO HHI
  have K0 : 0 ≤ K := by omega
  have K1 : K ≤ 63 := by omega
  clear h2 hs h l4 l14 hpL e14 hp hl hZ hk lo3 hlow hhigh hkm hkm0 hkp hkq e63 hpos hK
  go_enter Tryd.func11, Tryd.ntmps11
  go_wp2_with fail
  refine HH.out.mono ?_
  rintro e w2 ⟨rfl, n, rfl⟩
  go_wp2_with fail
  go_quiet (fail)
  go_wp2_with fail
  go_ret2
  exact ⟨ret_uu HLO.out (by rw [HLO.out]; exact HHI.out), _, drewN_add _ _ _⟩

set_option maxHeartbeats 400000 in
theorem srep_none (w : World) (i : Int) (hi : I64 i) :
    Calls Tryd.prog 14 #[.pointer none, .int .i64 i] w fun e w' => e = .returned (.int .u64 0) ∧ w = w' := by
  go_enter Tryd.func14, Tryd.ntmps14
  go_wp2_with fail
  refine (srange_none _ i hi).mono ?_
  rintro e w2 ⟨rfl, rfl⟩
  go_wp2_with fail
  go_ret
  exact ⟨rfl, rfl⟩
set_option maxHeartbeats 400000 in
theorem srep_out (w : World) (B : Nat) (d : Int) (L : Nat) (T i : Int) (hs : SpanP d L T) (h : SpX w B d L) (hi : I64 i) (ho : ¬ (1 ≤ i ∧ i ≤ lastS L)) :
    Calls Tryd.prog 14 #[.pointer (some ⟨B, 0, none⟩), .int .i64 i] w fun e w' => e = .returned (.int .u64 0) ∧ ∃ n, w' = w.drewN n := by
  have HH := Lib.hid (srange_out w B d L T i hs h hi ho)
  clear hs h ho
  go_enter Tryd.func14, Tryd.ntmps14
  go_wp2_with fail
  refine HH.out.mono ?_
  rintro e w2 ⟨rfl, n, rfl⟩
  go_wp2_with fail
  go_ret
  exact ⟨rfl, _, rfl⟩
theorem high_in (L : Nat) {i : Int} (h1 : 1 ≤ i) (h2 : i ≤ lastS L) (hL : L ≤ 14) : 1 ≤ lowI L i ∧ lowI L i ≤ highI L i ∧ highI L i ≤ 9223372036854775808 := by
  obtain ⟨a, b, c⟩ := low_in L h1 h2 hL
  have := pow_pos (cutI L i)
  unfold highI; omega
set_option maxHeartbeats 400000 in
theorem srep_any (w : World) (B : Nat) (d : Int) (L : Nat) (T i : Int) (hs : SpanP d L T) (h : SpX w B d L) (h1 : 1 ≤ i) (h2 : i ≤ lastS L) :
    Calls Tryd.prog 14 #[.pointer (some ⟨B, 0, none⟩), .int .i64 i] w fun e w' => e = .returned (.int .u64 (midS (lowI L i) (highI L i))) ∧ ∃ n, w' = w.drewN n := by
  have HH := Lib.hid (srange_any w B d L T i hs h h1 h2)
  obtain ⟨a, b, c⟩ := high_in L h1 h2 (spanp_log hs).2
  clear hs h h1 h2
  generalize highI L i = hi at *
  generalize lowI L i = lo at *
  have E : Hid (lo + (hi - lo) / 2 = midS lo hi) := Lib.hid rfl
  go_enter Tryd.func14, Tryd.ntmps14
  go_wp2_with fail
  refine HH.out.mono ?_
  rintro e w2 ⟨rfl, n, rfl⟩
  go_wp2_with fail
  go_ret
  exact ⟨ret_int E.out, _, rfl⟩

/-- Behind Index: the span of a magnitude. -/
theorem srange_of (w : World) (B : Nat) (d : Int) (L : Nat) (T m : Int) (hs : SpanP d L T) (h : SpX w B d L) (h1 : 1 ≤ m) (h2 : m ≤ 9223372036854775808) :
    Calls Tryd.prog 11 #[.pointer (some ⟨B, 0, none⟩), .int .i64 (idxS L m)] w fun e w' => e = .returned (.tuple #[.int .u64 (loS L m), .int .u64 (hiS L m)]) ∧ ∃ n, w' = w.drewN n := by
  have hL := (spanp_log hs).2
  have := srange_any w B d L T (idxS L m) hs h (idx_bd L h1 h2 hL) (idx_last L h1 h2 hL)
  rw [low_idx L h1 h2 hL, high_idx L h1 h2 hL] at this
  exact this
theorem srep_of (w : World) (B : Nat) (d : Int) (L : Nat) (T m : Int) (hs : SpanP d L T) (h : SpX w B d L) (h1 : 1 ≤ m) (h2 : m ≤ 9223372036854775808) :
    Calls Tryd.prog 14 #[.pointer (some ⟨B, 0, none⟩), .int .i64 (idxS L m)] w fun e w' => e = .returned (.int .u64 (repS L m)) ∧ ∃ n, w' = w.drewN n := by
  have hL := (spanp_log hs).2
  have := srep_any w B d L T (idxS L m) hs h (idx_bd L h1 h2 hL) (idx_last L h1 h2 hL)
  rw [low_idx L h1 h2 hL, high_idx L h1 h2 hL] at this
  exact this

end Go.Proofs.YtnngjcpdnfchbaaDoor
