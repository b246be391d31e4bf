/-
  Rows of things that are written: in memory, as an argument; walks: whether they are more than is played.
-/
import Derived.Test.YtpnbhgnpofoeaaaQuillD
import Derived.Deep.Slices
import Derived.Deep.Fields
import Derived.SizedLaws
import Derived.Carry
namespace Go.Proofs.Ytpnbhgnpofoeaaa
set_option linter.unusedVariables false
set_option linter.unusedSimpArgs false
open Go.RowKit

/-- A thing that is written. -/
structure ItemV where
  kind : Int
  u : Int
  x : Int
  s : ByteArray
structure ItemV.ok (it : ItemV) : Prop where
  kind : I64 it.kind
  u : Word it.u
  x : I64 it.x
  s : it.s.size ≤ 140737488351232
/-- A row of them in memory. -/
structure Items (w : World) (A : Option Addr) (L : List ItemV) : Prop where
  ok : ∀ it, it ∈ L → it.ok
  at_ : ∀ (i : Nat) (it : ItemV), L[i]? = some it → ∃ b off, A = some ⟨b, off, none⟩ ∧ b < w.heap.size ∧ w.cell? ⟨b, off + i * 4, none⟩ = some (.int .i64 it.kind) ∧
    w.cell? ⟨b, off + i * 4 + 1, none⟩ = some (.int .u64 it.u) ∧ w.cell? ⟨b, off + i * 4 + 2, none⟩ = some (.int .i64 it.x) ∧ w.cell? ⟨b, off + i * 4 + 3, none⟩ = some (.string it.s)
theorem Items.call {w w' : World} {A : Option Addr} {L : List ItemV} (h : Items w A L) (hb : Below w.heap.size w w') : Items w' A L :=
  ⟨h.ok, fun i it hi => by
    obtain ⟨b, off, hA, hlt, c0, c1, c2, c3⟩ := h.at_ i it hi
    exact ⟨b, off, hA, Nat.lt_of_lt_of_le hlt hb.size, cell_later hb c0, cell_later hb c1, cell_later hb c2, cell_later hb c3⟩⟩
/-- How many bytes their texts have; whether that is too many. -/
def tot (L : List ItemV) : Nat := (L.map fun it => it.s.size).sum
def greatB (L : List ItemV) : Bool := decide (4096 < tot L) || decide (60 < L.length)
theorem tot_snoc {L : List ItemV} {k : Nat} {it : ItemV} (h : L[k]? = some it) : tot (L.take (k + 1)) = tot (L.take k) + it.s.size := by
  have hk : k < L.length := by
    rcases Nat.lt_or_ge k L.length with h' | h'
    · exact h'
    · rw [List.getElem?_eq_none h'] at h; cases h
  rw [List.take_succ_eq_append_getElem hk]
  rw [List.getElem?_eq_getElem hk] at h
  rw [Option.some.inj h]
  unfold tot
  rw [List.map_append, List.sum_append]; simp
theorem tot_le (L : List ItemV) (k : Nat) : tot (L.take k) ≤ tot L := by
  have : tot L = tot (L.take k) + tot (L.drop k) := by
    unfold tot
    rw [← List.sum_append, ← List.map_append, List.take_append_drop]
  omega

set_option maxRecDepth 1000000 in
set_option maxHeartbeats 1000000 in
theorem great_any (w : World) (A : Option Addr) (cap : Nat) (L : List ItemV) (h : Items w A L) (hl : L.length ≤ 140737488351232) :
    Calls Try.prog 9 #[.slice A L.length cap] w fun e w' => e = .returned (.bool (greatB L)) ∧ Below w.heap.size w w' := by
  have HI := Lib.hid h
  go_enter Try.func9, Try.ntmps9
  go_wp2_with fail
  go_loopw [3, 8] (fun n i wr => ∃ k : Nat, k ≤ L.length ∧ i = .int .i64 k ∧ n = .int .i64 (tot (L.take k) : Nat) ∧ tot (L.take k) ≤ 4096 ∧ Below w.heap.size w wr) (fun _ i _ => L.length - (intOf i).toNat)
  case atStart => exact ⟨0, Nat.zero_le _, rfl, rfl, Nat.zero_le _, Below.refl _ _⟩
  case round =>
    obtain ⟨k, hk, rfl, rfl, ht, hb⟩ := hrel
    by_cases hlt : k < L.length
    · have kk : (k : Int) < L.length := by omega
      have hxk : L[k]? = some L[k] := List.getElem?_eq_getElem hlt
      generalize hit : L[k] = it at *
      have hok := HI.out.ok it (List.mem_of_getElem? hxk)
      obtain ⟨b, off, rfl, hbl, c0, c1, c2, c3⟩ := (HI.out.call hb).at_ k it hxk
      have HS := Lib.hid (tot_snoc hxk)
      have hs := hok.s
      have HIT := Lib.hid hit
      have hle := tot_le L (k + 1)
      rw [HS.out] at hle
      have HLE := Lib.hid hle
      have hbs := hb.size
      clear hxk hit hok hle
      go_wp2_with fail
      · go_ret
        have hg : greatB L = true := by unfold greatB; rw [decide_eq_true (by have := HLE.out; omega)]; rfl
        exact ⟨ret_bool hg.symm, hb.alloc hbs _⟩
      · go_roundw
        case rel => exact ⟨k + 1, by omega, by go_num, by rw [HS.out]; go_num, by rw [HS.out]; omega, hb.alloc hbs _⟩
        case measure => simp [intOf]; omega
    · obtain rfl : k = L.length := by omega
      rw [List.take_length] at ht
      have hg : Hid (greatB L = decide ((60 : Int) < L.length)) := Lib.hid (by
        unfold greatB; rw [decide_eq_false (by omega), Bool.false_or, decide_eq_decide]; omega)
      have kk : ¬ (L.length : Int) < L.length := by omega
      go_wp2_with fail
      go_ret
      exact ⟨ret_bool hg.out.symm, hb⟩

/-- The bytes of things. -/
def itemB (it : ItemV) : List UInt8 := if it.kind = 0 then natB it.u.toNat else if it.kind = 1 then natB (zig it.x).toNat else if it.kind = 2 then it.s.data.toList else []
def itemsB (L : List ItemV) : List UInt8 := L.flatMap itemB
theorem itemsB_snoc {L : List ItemV} {k : Nat} {it : ItemV} (h : L[k]? = some it) : itemsB (L.take (k + 1)) = itemsB (L.take k) ++ itemB it := by
  have hk : k < L.length := by
    rcases Nat.lt_or_ge k L.length with h' | h'
    · exact h'
    · rw [List.getElem?_eq_none h'] at h; cases h
  rw [List.take_succ_eq_append_getElem hk]
  rw [List.getElem?_eq_getElem hk] at h
  rw [Option.some.inj h]
  unfold itemsB
  rw [List.flatMap_append]; simp
theorem itemB_len {it : ItemV} (h : it.ok) : (itemB it).length ≤ 10 + it.s.size := by
  have h1 := natB_len10 (n := it.u.toNat) (by have := h.u; unfold Word at this; omega)
  have h2 := natB_len10 (n := (zig it.x).toNat) (by have := zig_word h.x; unfold Word at this; omega)
  unfold itemB
  rw [Lib.size_eq]
  split
  · omega
  · split
    · omega
    · split
      · omega
      · simp
theorem itemsB_len {L : List ItemV} (h : ∀ it, it ∈ L → it.ok) : (itemsB L).length ≤ 10 * L.length + tot L := by
  induction L with
  | nil => simp [itemsB]
  | cons it r ih =>
    have h1 := itemB_len (h it (List.mem_cons_self))
    have h2 := ih fun x hx => h x (List.mem_cons_of_mem _ hx)
    unfold itemsB tot at *
    rw [List.flatMap_cons, List.length_append, List.map_cons, List.sum_cons, List.length_cons]; omega
theorem Quil.call {w w' : World} {B : Nat} {l : List UInt8} (h : Quil w B l) (hb : Below w.heap.size w w') : Quil w' B l := by
  obtain ⟨v, h1, h2⟩ := h
  refine ⟨v, (hb.block B (lt_of_block h1)).trans h1, h2.kept (row := none) ⟨hb.os, hb.tape, hb.output, hb.size, fun k hk _ => hb.block k hk⟩ (by cases hv : v.ownBlock <;> simp)⟩
theorem app_list (a b : ByteArray) : (a ++ b).data.toList = a.data.toList ++ b.data.toList := by rw [ByteArray.data_append]; simp
theorem box_cells {w : World} {g : Nat} {x0 x1 x2 x3 : Value} {t : TypeId} (h : w.heap[g]? = some (.cells #[x0, x1, x2, x3] t (0, 0))) :
    w.cell? ⟨g, 0, none⟩ = some x0 ∧ w.cell? ⟨g, 1, none⟩ = some x1 ∧ w.cell? ⟨g, 2, none⟩ = some x2 ∧ w.cell? ⟨g, 3, none⟩ = some x3 := by
  simp [World.cell?, h]
theorem rnat_str (n : Int) (hn : Word n) (r : ByteArray) (hr : r.data.toList = natB n.toNat) (w : World) :
    Calls Try.prog 20 #[.int .u64 n] w fun e w' => e = .returned (.string r) ∧ Below w.heap.size w w' :=
  (rnat_any n hn w).mono fun e w' hh => ⟨by rw [hh.1, str_eq hr], hh.2⟩
theorem rint_str (x : Int) (hx : I64 x) (r : ByteArray) (hr : r.data.toList = natB (zig x).toNat) (w : World) :
    Calls Try.prog 19 #[.int .i64 x] w fun e w' => e = .returned (.string r) ∧ Below w.heap.size w w' :=
  (rint_any x hx w).mono fun e w' hh => ⟨by rw [hh.1, str_eq hr], hh.2⟩
theorem quil_int1 (w : World) (B L cap : Nat) (l : List UInt8) (x : Int) (hx : I64 x) (hl : l.length ≤ 50000) (h : Quil w B l)
    (hL : w.heap[L]? = some (.cells #[.int .i64 x] 2 (0, 0))) :
    Calls Try.prog 27 #[.pointer (some ⟨B, 0, none⟩), .slice (some ⟨L, 0, none⟩) 1 cap] w fun e w' =>
      e = .returned (.tuple #[]) ∧ Quil w' B (l ++ natB (zig x).toNat) ∧ Wrote B w w' := by
  have C := quil_int w B L cap l [x] (fun y hy => by simp at hy; subst hy; exact hx) (by simp) hl h hL
  have e : natsB ([x].map zig) = natB (zig x).toNat := by rw [List.map_cons, List.map_nil, natsB_one]
  rw [e] at C
  exact C

theorem two_blocks (w : World) (o o' : Obj) : ((w.alloc o).alloc o').heap[w.heap.size]? = some o ∧ ((w.alloc o).alloc o').heap[w.heap.size + 1]? = some o' := by
  constructor
  · rw [heap_alloc_old _ _ (by simp)]; exact heap_alloc_new _ _
  · have := heap_alloc_new (w.alloc o) o'
    simpa using this

set_option maxRecDepth 1000000 in
set_option maxHeartbeats 4000000 in
theorem put_any (w : World) (A : Option Addr) (cap : Nat) (L : List ItemV) (h : Items w A L) (hl : L.length ≤ 1000) (ht : tot L ≤ 10000) :
    Calls Try.prog 10 #[.slice A L.length cap] w fun e w' =>
      e = .returned (.tuple #[.string ⟨(itemsB L).toArray⟩, .string ⟨(itemsB L).toArray⟩]) ∧ Below w.heap.size w w' := by
  have HI := Lib.hid h
  have HT := Lib.hid ht
  have hq0 := Quil.new w
  go_enter Try.func10, Try.ntmps10
  go_wp2_with fail
  go_loopw [5, 12] (fun s i wr => ∃ (k : Nat) (acc : ByteArray), k ≤ L.length ∧ i = .int .i64 k ∧ s = .string acc ∧ acc.data.toList = itemsB (L.take k) ∧ Quil wr w.heap.size (itemsB (L.take k)) ∧ Below w.heap.size w wr) (fun _ i _ => L.length - (intOf i).toNat)
  case atStart => exact ⟨0, _, Nat.zero_le _, rfl, rfl, rfl, hq0, (Below.refl _ _).alloc (Nat.le_refl _) _⟩
  case round =>
    obtain ⟨k, acc, hk, rfl, rfl, hacc, hq, hb⟩ := hrel
    clear hq0
    by_cases hlt : k < L.length
    · have kk : (k : Int) < L.length := by omega
      have hxk : L[k]? = some L[k] := List.getElem?_eq_getElem hlt
      generalize hit : L[k] = it at *
      have hok := HI.out.ok it (List.mem_of_getElem? hxk)
      obtain ⟨b, off, rfl, hbl, c0, c1, c2, c3⟩ := (HI.out.call hb).at_ k it hxk
      have HS := Lib.hid (itemsB_snoc hxk)
      have hlen : (itemsB (L.take k)).length ≤ 20000 := by
        have h1 := itemsB_len (L := L.take k) (fun x hx => HI.out.ok x (List.mem_of_mem_take hx))
        rw [List.length_take] at h1
        have h2 := tot_le L k
        have h3 := HT.out
        omega
      have has : (acc.size : Int) ≤ 20000 := by rw [Lib.size_eq, hacc]; omega
      have htS : it.s.size ≤ 10000 := by
        have h1 := tot_snoc hxk
        have h2 := tot_le L (k + 1)
        have h3 := HT.out
        omega
      have HIT := Lib.hid hit
      have HACC := Lib.hid hacc
      have hbs := hb.size
      have HOK := Lib.hid hok
      clear hxk hit hok hacc
      generalize hcu : itemsB (L.take k) = cu at *
      have HCU := Lib.hid hcu
      clear hcu
      by_cases k0 : it.kind = 0
      · have q0 : (it.kind == 0) = true := by simpa using k0
        have HB : Hid (itemB it = natB it.u.toNat) := Lib.hid (by unfold itemB; rw [if_pos k0])
        obtain ⟨r, hr⟩ : ∃ r : ByteArray, r.data.toList = natB it.u.toNat := ⟨⟨(natB it.u.toNat).toArray⟩, rfl⟩
        have hrs : (r.size : Int) ≤ 10 := by rw [Lib.size_eq, hr]; have := natB_len10 (n := it.u.toNat) (by have := HOK.out.u; unfold Word at this; omega); omega
        have HR := Lib.hid hr
        clear k0 hr
        have hBlt := hq.lt
        go_wp2_with fail
        refine (quil_nat1 _ w.heap.size (wr.heap.size + 1) 1 cu it.u HOK.out.u (by omega) ((hq.alloc _).alloc _) (two_blocks _ _ _).2).mono ?_
        rintro e w1 ⟨rfl, hq1, hwr1⟩
        have hb1 : Below w.heap.size w w1 := ((hb.alloc hbs _).alloc (by simp; omega) _).trans hwr1.below
        have hbs1 := hb1.size
        have hbx := (two_blocks wr (.cells #[.int .i64 it.kind, .int .u64 it.u, .int .i64 it.x, .string it.s] 31) (.cells #[.int .u64 it.u] 29)).1
        obtain ⟨-, d1, d2, d3⟩ := box_cells (hwr1.rest wr.heap.size _ _ (by omega) (by decide) hbx)
        clear hq hwr1 hbx c0 c1 c2 c3 hbl
        go_wp2_with fail
        refine (rnat_str it.u HOK.out.u r HR.out _).mono ?_
        rintro e w2 ⟨rfl, hb2'⟩
        have hq2 := hq1.call hb2'
        have hb2 : Below w.heap.size w w2 := hb1.trans (hb2'.mono hbs1)
        clear hq1 hb2' d1 d2 d3
        go_wp2_with fail
        go_roundw
        case rel => exact ⟨k + 1, acc ++ r, by omega, by go_num, rfl, by rw [app_list, HACC.out, HS.out, HB.out, HR.out], by rw [HS.out, HB.out]; exact hq2, hb2⟩
        case measure => simp [intOf]; omega
      · have q0 : (it.kind == 0) = false := by simpa using k0
        by_cases k1 : it.kind = 1
        · have q1 : (it.kind == 1) = true := by simpa using k1
          have HB : Hid (itemB it = natB (zig it.x).toNat) := Lib.hid (by unfold itemB; rw [if_neg k0, if_pos k1])
          obtain ⟨r, hr⟩ : ∃ r : ByteArray, r.data.toList = natB (zig it.x).toNat := ⟨⟨(natB (zig it.x).toNat).toArray⟩, rfl⟩
          have hrs : (r.size : Int) ≤ 10 := by rw [Lib.size_eq, hr]; have := natB_len10 (n := (zig it.x).toNat) (by have := zig_word HOK.out.x; unfold Word at this; omega); omega
          have HR := Lib.hid hr
          clear k0 k1 hr
          have hBlt := hq.lt
          go_wp2_with fail
          refine (quil_int1 _ w.heap.size (wr.heap.size + 1) 1 cu it.x HOK.out.x (by omega) ((hq.alloc _).alloc _) (two_blocks _ _ _).2).mono ?_
          rintro e w1 ⟨rfl, hq1, hwr1⟩
          have hb1 : Below w.heap.size w w1 := ((hb.alloc hbs _).alloc (by simp; omega) _).trans hwr1.below
          have hbs1 := hb1.size
          have hbx := (two_blocks wr (.cells #[.int .i64 it.kind, .int .u64 it.u, .int .i64 it.x, .string it.s] 31) (.cells #[.int .i64 it.x] 2)).1
          obtain ⟨-, d1, d2, d3⟩ := box_cells (hwr1.rest wr.heap.size _ _ (by omega) (by decide) hbx)
          clear hq hwr1 hbx c0 c1 c2 c3 hbl
          go_wp2_with fail
          refine (rint_str it.x HOK.out.x r HR.out _).mono ?_
          rintro e w2 ⟨rfl, hb2'⟩
          have hq2 := hq1.call hb2'
          have hb2 : Below w.heap.size w w2 := hb1.trans (hb2'.mono hbs1)
          clear hq1 hb2' d1 d2 d3
          go_wp2_with fail
          go_roundw
          case rel => exact ⟨k + 1, acc ++ r, by omega, by go_num, rfl, by rw [app_list, HACC.out, HS.out, HB.out, HR.out], by rw [HS.out, HB.out]; exact hq2, hb2⟩
          case measure => simp [intOf]; omega
        · have q1 : (it.kind == 1) = false := by simpa using k1
          by_cases k2 : it.kind = 2
          · have q2 : (it.kind == 2) = true := by simpa using k2
            have HB : Hid (itemB it = it.s.data.toList) := Lib.hid (by unfold itemB; rw [if_neg k0, if_neg k1, if_pos k2])
            have hrs : (it.s.size : Int) ≤ 10000 := by omega
            clear k0 k1 k2
            have hBlt := hq.lt
            go_wp2_with fail
            refine (quil_raw _ w.heap.size cu it.s (by omega) (by omega) (hq.alloc _)).mono ?_
            rintro e w1 ⟨rfl, hq1, hwr1⟩
            have hb1 : Below w.heap.size w w1 := (hb.alloc hbs _).trans hwr1.below
            have hbs1 := hb1.size
            have hbx := heap_alloc_new wr (.cells #[.int .i64 it.kind, .int .u64 it.u, .int .i64 it.x, .string it.s] 31)
            obtain ⟨-, d1, d2, d3⟩ := box_cells (hwr1.rest wr.heap.size _ _ (by omega) (by decide) hbx)
            clear hq hwr1 hbx c0 c1 c2 c3 hbl
            go_wp2_with fail
            go_roundw
            case rel => exact ⟨k + 1, acc ++ it.s, by omega, by go_num, rfl, by rw [app_list, HACC.out, HS.out, HB.out], by rw [HS.out, HB.out]; exact hq1, hb1⟩
            case measure => simp [intOf]; omega
          · have q2 : (it.kind == 2) = false := by simpa using k2
            have HB : Hid (itemB it = []) := Lib.hid (by unfold itemB; rw [if_neg k0, if_neg k1, if_neg k2])
            clear k0 k1 k2
            go_wp2_with fail
            go_roundw
            case rel => exact ⟨k + 1, acc, by omega, by go_num, rfl, by rw [HACC.out, HS.out, HB.out, List.append_nil], by rw [HS.out, HB.out, List.append_nil]; exact hq.alloc _, hb.alloc hbs _⟩
            case measure => simp [intOf]; omega
    · obtain rfl : k = L.length := by omega
      rw [List.take_length] at hacc hq
      have hacc' := str_eq hacc
      have HA := Lib.hid hacc'
      have kk : ¬ (L.length : Int) < L.length := by omega
      clear hacc hacc'
      go_wp2_with fail
      refine (quil_text _ _ _ hq).mono ?_
      rintro e w' ⟨rfl, rfl⟩
      go_wp2_with fail
      go_ret2
      exact ⟨by rw [HA.out]; rfl, hb⟩
end Go.Proofs.Ytpnbhgnpofoeaaa
