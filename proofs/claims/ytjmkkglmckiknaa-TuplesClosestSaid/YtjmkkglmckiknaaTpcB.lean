/-
  Walks: the landed package tuples: behind, and what it answers.
-/
import Derived.Test.YtjmkkglmckiknaaTpcA
import Derived.Test.YtjmkkglmckiknaaShelfS
import Derived.Deep.QuietTactic
import Derived.BigQuiet
namespace Go.Proofs.Ytjmkkglmckiknaa
set_option linter.unusedVariables false
set_option linter.unusedSimpArgs false
open Go.RowKit Go.Sort

set_option maxRecDepth 100000 in
set_option maxHeartbeats 1000000 in
/-- One index asked. -/
theorem task_any (w : World) (X Y Z cap n i : Nat) (A : Option Addr) (L : List TupV) (x : Int) (same : Bool) (hi : i < n) (hn : L.length = n) (hl : n ≤ 100000) (hx : I64 x) (h : Tups w A L)
    (cX : w.cell? ⟨X, 0, none⟩ = some (.slice A n cap)) (cY : w.cell? ⟨Y, 0, none⟩ = some (.int .i64 x)) (cZ : w.cell? ⟨Z, 0, none⟩ = some (.bool same)) :
    Calls Try.prog 47 (#[.int .i64 i] ++ #[.pointer (some ⟨X, 0, none⟩), .pointer (some ⟨Y, 0, none⟩), .pointer (some ⟨Z, 0, none⟩)]) w fun e w' => e = .returned (.bool (askT same x L i)) ∧ ∃ q, w' = w.drewN q := by
  have hiz : (i : Int) < (n : Int) := by omega
  have hxk := List.getElem?_eq_getElem (l := L) (i := i) (by omega)
  generalize L[i]'(by omega) = p at hxk
  obtain ⟨px, ps, pl⟩ := p
  obtain ⟨b0, off, rfl, hbl, c0, c1, c2⟩ := h.at_ i _ hxk
  have ha : askT same x L i = behB same x px := by unfold askT; rw [hxk]
  obtain ⟨⟨p0, p1⟩, _⟩ := h.ok _ (List.mem_of_getElem? hxk)
  obtain ⟨x0, x1⟩ := hx
  simp only at c0 c1 c2 p0 p1
  rw [ha]
  have HB : Hid (behB same x px = (decide (x < px) || (same && decide (px = x)))) := Lib.hid rfl
  clear ha hxk h hn
  generalize behB same x px = r at *
  by_cases q1 : x < px
  · have f1 : decide (x < px) = true := decide_eq_true q1
    have HE : Hid (true = r) := Lib.hid (by rw [HB.out, f1]; rfl)
    go_enter Try.func47, Try.ntmps47
    go_wp2_with fail
    go_quiet (fail)
    go_wp2_with fail
    go_ret
    exact ⟨ret_bool HE.out, _, rfl⟩
  · have f1 : decide (x < px) = false := decide_eq_false q1
    cases same with
    | false =>
      have HE : Hid (false = r) := Lib.hid (by rw [HB.out, f1]; rfl)
      go_enter Try.func47, Try.ntmps47
      go_wp2_with fail
      go_quiet (fail)
      go_wp2_with fail
      go_ret
      exact ⟨ret_bool HE.out, _, rfl⟩
    | true =>
      by_cases q2 : px = x
      · have f2 : (px == x) = true := by simp [q2]
        have HE : Hid (true = r) := Lib.hid (by rw [HB.out, f1, decide_eq_true q2]; rfl)
        clear q2
        go_enter Try.func47, Try.ntmps47
        go_wp2_with fail
        go_quiet (fail)
        go_wp2_with fail
        go_ret
        exact ⟨ret_bool HE.out, _, rfl⟩
      · have f2 : (px == x) = false := by simp [q2]
        have HE : Hid (false = r) := Lib.hid (by rw [HB.out, f1, decide_eq_false q2]; rfl)
        clear q2
        go_enter Try.func47, Try.ntmps47
        go_wp2_with fail
        go_quiet (fail)
        go_wp2_with fail
        go_ret
        exact ⟨ret_bool HE.out, _, rfl⟩

theorem grow_belowT {B : Nat} {w : World} (q : Nat) (os : Array Obj) (hB : B ≤ w.heap.size) : Below B w (grow (w.drewN q) os) := below_grown_sl B w q os hB

set_option maxHeartbeats 1000000 in
theorem tsrch_any (w : World) (X Y Z cap n k : Nat) (A : Option Addr) (L : List TupV) (x : Int) (same : Bool) (hn : L.length = n) (hl : n ≤ 100000) (hx : I64 x) (h : Tups w A L) (hs : SortT L)
    (cX : w.cell? ⟨X, 0, none⟩ = some (.slice A n cap)) (cY : w.cell? ⟨Y, 0, none⟩ = some (.int .i64 x)) (cZ : w.cell? ⟨Z, 0, none⟩ = some (.bool same)) (hk : fromT same x L = k) :
    Calls Try.prog 46 #[.int .i64 n, .func (.func 47) #[] #[.pointer (some ⟨X, 0, none⟩), .pointer (some ⟨Y, 0, none⟩), .pointer (some ⟨Z, 0, none⟩)]] w fun e w' => e = .returned (.int .i64 k) ∧ Below w.heap.size w w' := by
  have eg : ∀ args w, (callFunc 47 args).run Try.prog w = .ok (.enter 47 args) w := enters_of Try.func47 (by kernel_rfl) rfl
  have lX := World.block_lt_of_cell? (a := ⟨X, 0, none⟩) w cX
  have lY := World.block_lt_of_cell? (a := ⟨Y, 0, none⟩) w cY
  have lZ := World.block_lt_of_cell? (a := ⟨Z, 0, none⟩) w cZ
  have hS := Any.sort_Search Try.search 47 #[.pointer (some ⟨X, 0, none⟩), .pointer (some ⟨Y, 0, none⟩), .pointer (some ⟨Z, 0, none⟩)] n (fun i => askT same x L i) w eg (by omega)
    (fun q os i hi => (task_any _ X Y Z cap n i A L x same hi hn hl hx (h.call (grow_belowT q os (Nat.le_refl _))) (cell_grown lX cX q os) (cell_grown lY cY q os) (cell_grown lZ cZ q os)).mono
      fun _ _ ⟨he, q, hq⟩ => ⟨he, q, #[], by rw [hq, grow_empty]⟩)
    (fun a b hab hb ha => ask_mono hs (by omega) (by rw [hn]; exact hb) ha)
  have e : (List.range n).countP (fun i => !askT same x L i) = k := by rw [← hn, ask_count]; exact hk
  rw [e] at hS
  refine hS.mono ?_
  rintro e w' ⟨rfl, q, os, rfl⟩
  exact ⟨rfl, grow_belowT q os (Nat.le_refl _)⟩

/-- What behind's answer holds: its two boxes. -/
structure BoxT (w : World) (X Z : Nat) (A : Option Addr) (n cap : Nat) (same : Bool) : Prop where
  cX : w.cell? ⟨X, 0, none⟩ = some (.slice A n cap)
  cZ : w.cell? ⟨Z, 0, none⟩ = some (.bool same)
theorem BoxT.call {w w' : World} {X Z : Nat} {A : Option Addr} {n cap : Nat} {same : Bool} (h : BoxT w X Z A n cap same) (hb : Below w.heap.size w w') : BoxT w' X Z A n cap same := ⟨cell_later hb h.cX, cell_later hb h.cZ⟩

set_option maxHeartbeats 1000000 in
/-- What behind's answer answers. -/
theorem tfrom_any (w : World) (X Z cap n k : Nat) (A : Option Addr) (L : List TupV) (x : Int) (same : Bool) (hn : L.length = n) (hl : n ≤ 100000) (hx : I64 x) (h : Tups w A L) (hs : SortT L) (hb : BoxT w X Z A n cap same) (hk : fromT same x L = k) :
    Calls Try.prog 45 (#[.int .i64 x] ++ #[.pointer (some ⟨X, 0, none⟩), .pointer (some ⟨Z, 0, none⟩)]) w fun e w' => e = .returned (.int .i64 k) ∧ Below w.heap.size w w' := by
  have hbx : Below w.heap.size w (w.alloc (.cells #[.int .i64 x] 2)) := (Below.refl _ _).alloc (Nat.le_refl _) _
  have HBX := Lib.hid hbx
  have HT := Lib.hid (h.call hbx)
  have HX := Lib.hid (hb.call hbx)
  have HS := Lib.hid hs
  have HK := Lib.hid hk
  have HN := Lib.hid hn
  have HI := Lib.hid hx
  have cX := (hb.call hbx).cX
  clear hbx h hb hs hk hn hx
  go_enter Try.func45, Try.ntmps45
  go_wp2_with fail
  refine (tsrch_any _ X w.heap.size Z cap n k A L x same HN.out hl HI.out HT.out HS.out HX.out.cX (by go_simp) HX.out.cZ HK.out).mono ?_
  rintro e w3 ⟨rfl, hb3⟩
  have HB3 := Lib.hid hb3
  clear hb3
  go_wp2_with fail
  go_ret
  exact ⟨rfl, HBX.out.trans (HB3.out.mono HBX.out.size)⟩

theorem boxT_new (w : World) (A : Option Addr) (n cap : Nat) (same : Bool) : BoxT ((w.alloc (.cells #[.slice A n cap] 24)).alloc (.cells #[.bool same] 4)) w.heap.size (w.heap.size + 1) A n cap same := by
  have h1 : (w.alloc (.cells #[.slice A n cap] 24)).cell? ⟨w.heap.size, 0, none⟩ = some (.slice A n cap) := by
    rw [Joins.cell_of_block (heap_alloc_new w _)]; rfl
  have h2 := Joins.cell_of_block (i := 0) (heap_alloc_new (w.alloc (.cells #[.slice A n cap] 24)) (.cells #[.bool same] 4))
  have e : (w.alloc (.cells #[.slice A n cap] 24)).heap.size = w.heap.size + 1 := by simp
  rw [e] at h2
  exact ⟨cell_later ((Below.refl _ _).alloc (Nat.le_refl _) _) h1, by rw [h2]; rfl⟩

set_option maxHeartbeats 1000000 in
theorem tbehind_any (w : World) (A : Option Addr) (n cap : Nat) (same : Bool) :
    Calls Try.prog 33 #[.slice A n cap, .bool same] w fun e w' => e = .returned (.func (.func 45) #[] #[.pointer (some ⟨w.heap.size, 0, none⟩), .pointer (some ⟨w.heap.size + 1, 0, none⟩)]) ∧ BoxT w' w.heap.size (w.heap.size + 1) A n cap same ∧ Below w.heap.size w w' := by
  have HB := Lib.hid (boxT_new w A n cap same)
  go_enter Try.func33, Try.ntmps33
  go_wp2_with fail
  go_ret
  exact ⟨rfl, HB.out, ((Below.refl _ _).alloc (Nat.le_refl _) _).alloc (by simp) _⟩
end Go.Proofs.Ytjmkkglmckiknaa
