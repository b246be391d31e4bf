/-
  A quill in memory: what it holds, what writing leaves alone; walks: a quill's Nat, Int, Raw, Text.
-/
import Derived.Test.YtllnbbfeplgjjaaRows
import Derived.Test.YtllnbbfeplgjjaaQuillM
import Derived.Test.YtllnbbfeplgjjaaSignA
import Derived.Test.YtllnbbfeplgjjaaTwo
import Derived.WalkKit
import Derived.WalkSpells
import Derived.WalkLawsBesides
import Derived.WalkMore
import Derived.LoopTactic
import Derived.OwnWalk
import Derived.OneCell
import Derived.Lib.Strings
import Derived.Lib.AppendStr
import Derived.Laws.BytesArg
import Derived.Outline
namespace Go.Proofs.Ytllnbbfeplgjjaa
set_option linter.unusedVariables false
set_option linter.unusedSimpArgs false
open Go.RowKit

/-- A quill at block B that holds so many bytes; its row lies behind it. -/
def Quil (w : World) (B : Nat) (l : List UInt8) : Prop :=
  ∃ v, w.heap[B]? = some (.cells #[v] 42 (0, 0)) ∧ w.ownsRow (B + 1) 5 1 v l.length (bcs l)
/-- What writing with the quill at block B leaves alone: all below it, and all blocks that hold no bytes. -/
structure Wrote (B : Nat) (w w' : World) : Prop where
  below : Below B w w'
  rest : ∀ (k : Nat) (cs : Array Value) (t : TypeId), k ≠ B → t ≠ 5 → w.heap[k]? = some (.cells cs t (0, 0)) → w'.heap[k]? = some (.cells cs t (0, 0))
theorem Wrote.refl (B : Nat) (w : World) : Wrote B w w := ⟨Below.refl _ _, fun _ _ _ _ _ h => h⟩
theorem Wrote.trans {B : Nat} {a b c : World} (h : Wrote B a b) (k : Wrote B b c) : Wrote B a c := ⟨h.below.trans k.below, fun i cs t h1 h2 h3 => k.rest i cs t h1 h2 (h.rest i cs t h1 h2 h3)⟩
theorem Wrote.alloc {B : Nat} {a w : World} (h : Wrote B a w) (hB : B < w.heap.size) (o : Obj) : Wrote B a (w.alloc o) :=
  ⟨h.below.alloc (by omega) _, fun i cs t h1 h2 h3 => by
    have h4 := h.rest i cs t h1 h2 h3
    rw [heap_alloc_old _ _ (lt_of_block h4)]; exact h4⟩
theorem Quil.lt {w : World} {B : Nat} {l : List UInt8} (h : Quil w B l) : B < w.heap.size := by obtain ⟨v, h, _⟩ := h; exact lt_of_block h
theorem Quil.alloc {w : World} {B : Nat} {l : List UInt8} (h : Quil w B l) (o : Obj) : Quil (w.alloc o) B l := by
  obtain ⟨v, h1, h2⟩ := h
  exact ⟨v, by rw [heap_alloc_old _ _ (lt_of_block h1)]; exact h1, h2.alloc o⟩
theorem Quil.new (w : World) : Quil (w.alloc (.cells #[.slice none 0 0] 42)) w.heap.size [] :=
  ⟨_, heap_alloc_new _ _, World.ownsRow_nil _ _ _ _⟩
/-- Behind an append that went into the quill's row. -/
theorem quil_put {w W w1 : World} {B : Nat} {l m : List UInt8} {v v' : Value} (hw : w.heap[B]? = some (.cells #[v] 42 (0, 0))) (hown : w.ownsRow (B + 1) 5 1 v l.length (bcs l))
    (hW : W = w ∨ ∃ o, W = w.alloc o) (hown1 : w1.ownsRow (B + 1) 5 1 v' m.length (bcs m)) (hg : W.grownBy w1 v.ownBlock) :
    Quil (w1.setCell ⟨B, 0, none⟩ v') B m ∧ Wrote B w (w1.setCell ⟨B, 0, none⟩ v') ∧ w1.cell? ⟨B, 0, none⟩ = some v ∧ w1.frozen? ⟨B, 0, none⟩ = false := by
  have hlt := lt_of_block hw
  have hold : ∀ k, k < w.heap.size → W.heap[k]? = w.heap[k]? ∧ k < W.heap.size := by
    intro k hk
    rcases hW with rfl | ⟨o, rfl⟩
    · exact ⟨rfl, hk⟩
    · exact ⟨heap_alloc_old _ _ hk, by simp; omega⟩
  have hne : ∀ k, v.ownBlock = some k → B + 1 ≤ k := fun k hk => (hown.lt k hk).1
  have hne1 : v'.ownBlock ≠ some B := fun e => by have := (hown1.lt B e).1; omega
  have hB1 : w1.heap[B]? = some (.cells #[v] 42 (0, 0)) := by
    rw [hg.block B (hold B hlt).2 (fun e => by have := hne B e.symm; omega), (hold B hlt).1]; exact hw
  have hbel : Below B w w1 := by
    have h1 : Below B w W := by
      rcases hW with rfl | ⟨o, rfl⟩
      · exact Below.refl _ _
      · exact (Below.refl _ _).alloc (by omega) _
    exact h1.grown hg (by have := (hold B hlt).2; omega) (fun k hk => by have := hne k hk; omega)
  refine ⟨⟨v', one_setCell hB1, ownsRow_setCell_other hown1 hne1 _⟩, ⟨hbel.setCell (p := ⟨B, 0, none⟩) (Nat.le_refl _) _, ?_⟩, cell_of_one hB1, free_of_one hB1⟩
  intro k cs t h1 h2 h3
  have hk := lt_of_block h3
  rw [Below.heap_setCell _ _ _ _ h1, hg.block k (hold k hk).2 ?_, (hold k hk).1]
  · exact h3
  · intro e
    rcases hown.2 with ⟨rfl, _⟩ | ⟨g, cap, cur, rfl, _, hgg, _⟩
    · simp [Value.ownBlock] at e
    · simp [Value.ownBlock] at e
      subst e
      rw [h3] at hgg
      injection hgg with hgg
      injection hgg with _ ht _
      exact h2 ht
theorem Try.infoByte : (Try.prog.info? 5).map (fun i => (i.zero, i.size, i.bytes)) = some (some (.int .u8 0), 1, 1) := by kernel_rfl
theorem own_form {w : World} {base : Nat} {e : TypeId} {size : Nat} {v : Value} {n : Nat} {xs : List Value} (h : w.ownsRow base e size v n xs) : ∃ A k c, v = .slice A k c := by
  rcases h.2 with ⟨rfl, _⟩ | ⟨g, cap, cur, rfl, _⟩
  · exact ⟨_, _, _, rfl⟩
  · exact ⟨_, _, _, rfl⟩
theorem bcs_one {x : Int} {b : UInt8} (h : x = (b.toNat : Int)) : [Value.int .u8 x] = bcs [b] := by rw [h]; rfl
theorem byte_cells {w : World} {g : Nat} {x : Value} (h : w.cell? ⟨g, 0, none⟩ = some x) : ∀ (j : Nat) (u : Value), [x][j]? = some u → w.cell? ((⟨g, 0, none⟩ : Addr).add j) = some u := by
  intro j u hu
  match j, hu with
  | 0, hu => simp at hu; subst hu; simpa [Addr.add] using h

/-- Numbers' bytes, one behind the other. -/
def natsB (xs : List Int) : List UInt8 := xs.flatMap fun x => natB x.toNat
theorem natsB_snoc (xs : List Int) (k : Nat) (x : Int) (h : xs[k]? = some x) : natsB (xs.take (k + 1)) = natsB (xs.take k) ++ natB x.toNat := by
  have hk : k < xs.length := by
    rcases Nat.lt_or_ge k xs.length with h' | h'
    · exact h'
    · rw [List.getElem?_eq_none h'] at h; cases h
  rw [List.take_succ_eq_append_getElem hk]
  rw [List.getElem?_eq_getElem hk] at h
  rw [Option.some.inj h]
  unfold natsB
  rw [List.flatMap_append]; simp
theorem natsB_len (xs : List Int) (h : ∀ x ∈ xs, Word x) : (natsB xs).length ≤ 10 * xs.length := by
  induction xs with
  | nil => simp [natsB]
  | cons x r ih =>
    have h1 := ih fun y hy => h y (List.mem_cons_of_mem _ hy)
    have h2 := natB_len10 (n := x.toNat) (by have := h x (List.mem_cons_self); unfold Word at this; omega)
    unfold natsB at *
    rw [List.flatMap_cons, List.length_append, List.length_cons]; omega

set_option maxRecDepth 1000000 in
set_option maxHeartbeats 1600000 in
theorem quil_nat (w : World) (B L cap : Nat) (l : List UInt8) (xs : List Int) (hx : ∀ x ∈ xs, Word x) (hn : xs.length ≤ 1000) (hl : l.length ≤ 100000) (h : Quil w B l)
    (hL : w.heap[L]? = some (.cells (xs.map (Value.int .u64)).toArray 24 (0, 0))) :
    Calls Try.prog 35 #[.pointer (some ⟨B, 0, none⟩), .slice (some ⟨L, 0, none⟩) xs.length cap] w fun e w' =>
      e = .returned (.tuple #[]) ∧ Quil w' B (l ++ natsB xs) ∧ Wrote B w w' := by
  have HL := Lib.hid hL
  have HX := Lib.hid hx
  have hB := h.lt
  have hLB : L ≠ B := by
    rintro rfl
    obtain ⟨v, hv, _⟩ := h
    rw [hv] at hL
    injection hL with hL
    injection hL with _ ht _
    revert ht; decide
  clear hL hx
  obtain ⟨i0, hi, hz0, hz1, hz2⟩ := info_parts Try.infoByte
  have HI := Lib.hid hi
  have HZ0 := Lib.hid hz0
  have HZ1 := Lib.hid hz1
  have HZ2 := Lib.hid hz2
  clear hi hz0 hz1 hz2
  go_enter Try.func35, Try.ntmps35
  go_wp2_with fail
  go_loopw [10] (fun i wr => ∃ k : Nat, k ≤ xs.length ∧ i = .int .i64 k ∧ Quil wr B (l ++ natsB (xs.take k)) ∧ Wrote B w wr) (fun i _ => xs.length - (intOf i).toNat)
  case atStart => exact ⟨0, Nat.zero_le _, rfl, by simpa [natsB] using h, Wrote.refl _ _⟩
  case round =>
    obtain ⟨k, hk, rfl, hq, hwr⟩ := hrel
    by_cases hlt : k < xs.length
    · have kk : (k : Int) < xs.length := by omega
      have hxk : xs[k]? = some xs[k] := List.getElem?_eq_getElem hlt
      have hwx : Word xs[k] := HX.out _ (List.getElem_mem hlt)
      have HS := Lib.hid (natsB_snoc xs k _ hxk)
      have hcell : wr.cell? ⟨L, k, none⟩ = some (.int .u64 xs[k]) := by
        have := hwr.rest L _ _ hLB (by decide) HL.out
        simp [World.cell?, this, hxk]
      have HLen : Hid ((natsB (xs.take k)).length ≤ 10000) := Lib.hid (by
        have h1 := natsB_len (xs.take k) (fun x hx => HX.out x (List.mem_of_mem_take hx))
        rw [List.length_take] at h1; omega)
      clear hxk
      generalize hx0 : xs[k] = x at *
      have HX0 := Lib.hid hx0
      clear hx0
      generalize natsB (xs.take k) = nk at *
      obtain ⟨x0, x1⟩ := hwx
      have hb0 := HS.out
      have HT : Hid ((natB x.toNat).length ≤ 10) := Lib.hid (natB_len10 (by omega))
      clear hb0
      obtain ⟨wo, rfl⟩ : ∃ wo : World, wo = wr := ⟨_, rfl⟩
      go_wp2_with fail
      go_loopw [5] (fun n w2 => ∃ (m : Int) (pre : List UInt8), n = .int .u64 m ∧ Word m ∧ natB x.toNat = pre ++ natB m.toNat ∧ Quil w2 B (l ++ nk ++ pre) ∧ Wrote B w w2) (fun n _ => (intOf n).toNat)
      case atStart => exact ⟨x, [], rfl, ⟨x0, x1⟩, rfl, by simpa using hq, hwr⟩
      case round =>
        obtain ⟨m, pre, rfl, ⟨m0, m1⟩, hpre, hq2, hwr2⟩ := hrel
        have HP := Lib.hid hpre
        have hM : pre.length ≤ 10 := by have h1 := HT.out; rw [hpre, List.length_append] at h1; omega
        have hcl : (l ++ nk ++ pre).length ≤ 111000 := by have h2 := HLen.out; rw [List.length_append, List.length_append]; omega
        generalize hcur : l ++ nk ++ pre = cur at *
        have HC := Lib.hid hcur
        clear hcur hM
        obtain ⟨v, hv, hown⟩ := hq2
        have c0 := cell_of_one hv
        have f0 := free_of_one hv
        have hlt2 := lt_of_block hv
        have HV := Lib.hid hv
        clear hpre hv
        by_cases hm : m < 128
        · have HN : Hid (natB m.toNat = [UInt8.ofNat m.toNat]) := Lib.hid (natB_lt (by omega))
          have HO : Hid (m = ((UInt8.ofNat m.toNat).toNat : Int)) := Lib.hid (by
            rw [toNat_low (by omega)]; omega)
          go_wp2_with (at_builtin; refine wpList_append_own _ rfl _ _ 40 rfl (B + 1) 5 i0 (.int .u8 0) 1 1 Try.underlying40 HI.out HZ0.out HZ1.out HZ2.out rfl (by decide) _ _ _ rfl (hown.alloc _) ⟨wr.heap.size, 0, none⟩ 1 1 [.int .u8 m] rfl rfl ?d1 ?d2 ?d3 ?d4 ?d5 ?_)
          case d1 => exact byte_cells (by go_simp)
          case d2 => intro u hu; simp at hu; subst hu; rfl
          case d3 => first | omega | (unfold maxLen; omega)
          case d4 => omega
          case d5 => first | omega | (simp; omega)
          intro v' w1 hown' hgrow hnn
          clear hnn
          rw [bcs_one HO.out, ← bcs_append] at hown'
          obtain ⟨R1, R2, c1, f1⟩ := quil_put (m := cur ++ [UInt8.ofNat m.toNat]) HV.out hown (Or.inr ⟨_, rfl⟩) (by rw [List.length_append]; exact hown') hgrow
          obtain ⟨A, kA, cA, rfl⟩ := own_form hown'
          clear hown' hgrow hown c0 f0
          go_wp2_with fail
          go_roundw
          case rel =>
            refine ⟨k + 1, by omega, by go_num, ?_, hwr2.trans R2⟩
            rw [HS.out, HP.out, HN.out]; rw [← HC.out] at R1; simpa using R1
          case measure => simp [intOf]; omega
        · have HN : Hid (natB m.toNat = UInt8.ofNat (m.toNat % 128 + 128) :: natB (m.toNat / 128)) := Lib.hid (natB_ge (by omega))
          have HO : Hid (bits BinOp.or IntKind.u8 (m % 256) 128 = ((UInt8.ofNat (m.toNat % 128 + 128)).toNat : Int)) := Lib.hid (by
            rw [toNat_low (by omega), ← wrap_u8 m, or_more m0 m1]; omega)
          go_wp2_with (at_builtin; refine wpList_append_own _ rfl _ _ 40 rfl (B + 1) 5 i0 (.int .u8 0) 1 1 Try.underlying40 HI.out HZ0.out HZ1.out HZ2.out rfl (by decide) _ _ _ rfl (hown.alloc _) ⟨wr.heap.size, 0, none⟩ 1 1 [.int .u8 (bits BinOp.or IntKind.u8 (m % 256) 128)] rfl rfl ?c1 ?c2 ?c3 ?c4 ?c5 ?_)
          case c2 => rfl
          case c3 => first | omega | (unfold maxLen; omega)
          case c4 => omega
          case c5 => first | omega | (simp; omega)
          intro v' w1 hown' hgrow hnn
          clear hnn
          rw [bcs_one HO.out, ← bcs_append] at hown'
          obtain ⟨R1, R2, c1, f1⟩ := quil_put (m := cur ++ [UInt8.ofNat (m.toNat % 128 + 128)]) HV.out hown (Or.inr ⟨_, rfl⟩) (by rw [List.length_append]; exact hown') hgrow
          obtain ⟨A, kA, cA, rfl⟩ := own_form hown'
          clear hown' hgrow hown c0 f0
          go_wp2_with fail
          go_roundw
          case rel =>
            have e1 : (m / 128).toNat = m.toNat / 128 := by omega
            refine ⟨m / 128, pre ++ [UInt8.ofNat (m.toNat % 128 + 128)], rfl, ⟨by omega, by omega⟩, ?_, ?_, hwr2.trans R2⟩
            · rw [HP.out, HN.out, e1]; simp
            · rw [← HC.out] at R1; simpa using R1
          case measure => simp [intOf]; omega
    · obtain rfl : k = xs.length := by omega
      rw [List.take_length] at hq
      have kk : ¬ (xs.length : Int) < xs.length := by omega
      go_wp2_with fail
      go_end0
      exact ⟨rfl, hq, hwr⟩

theorem natsB_one (x : Int) : natsB [x] = natB x.toNat := by unfold natsB; simp

set_option maxRecDepth 1000000 in
set_option maxHeartbeats 1000000 in
theorem quil_int (w : World) (B L cap : Nat) (l : List UInt8) (xs : List Int) (hx : ∀ x ∈ xs, I64 x) (hn : xs.length ≤ 100) (hl : l.length ≤ 50000) (h : Quil w B l)
    (hL : w.heap[L]? = some (.cells (xs.map (Value.int .i64)).toArray 2 (0, 0))) :
    Calls Try.prog 36 #[.pointer (some ⟨B, 0, none⟩), .slice (some ⟨L, 0, none⟩) xs.length cap] w fun e w' =>
      e = .returned (.tuple #[]) ∧ Quil w' B (l ++ natsB (xs.map zig)) ∧ Wrote B w w' := by
  have HL := Lib.hid hL
  have HX := Lib.hid hx
  have hB := h.lt
  have hLB : L ≠ B := by
    rintro rfl
    obtain ⟨v, hv, _⟩ := h
    rw [hv] at hL
    injection hL with hL
    injection hL with _ ht _
    revert ht; decide
  clear hL hx
  go_enter Try.func36, Try.ntmps36
  go_wp2_with fail
  go_loopw [8] (fun i wr => ∃ k : Nat, k ≤ xs.length ∧ i = .int .i64 k ∧ Quil wr B (l ++ natsB ((xs.map zig).take k)) ∧ Wrote B w wr) (fun i _ => xs.length - (intOf i).toNat)
  case atStart => exact ⟨0, Nat.zero_le _, rfl, by simpa [natsB] using h, Wrote.refl _ _⟩
  case round =>
    obtain ⟨k, hk, rfl, hq, hwr⟩ := hrel
    by_cases hlt : k < xs.length
    · have kk : (k : Int) < xs.length := by omega
      have hxk : xs[k]? = some xs[k] := List.getElem?_eq_getElem hlt
      have hwx : I64 xs[k] := HX.out _ (List.getElem_mem hlt)
      have HS := Lib.hid (natsB_snoc (xs.map zig) k (zig xs[k]) (by rw [List.getElem?_map, hxk]; rfl))
      have hcell : wr.cell? ⟨L, k, none⟩ = some (.int .i64 xs[k]) := by
        have := hwr.rest L _ _ hLB (by decide) HL.out
        simp [World.cell?, this, hxk]
      have hlen : (l ++ natsB ((xs.map zig).take k)).length ≤ 60000 := by
        have h1 := natsB_len ((xs.map zig).take k) (fun y hy => by
          obtain ⟨x, hx, rfl⟩ := List.mem_map.1 (List.mem_of_mem_take hy)
          exact zig_word (HX.out x hx))
        rw [List.length_take, List.length_map] at h1
        rw [List.length_append]; omega
      clear hxk
      generalize hx0 : xs[k] = x at *
      have HX0 := Lib.hid hx0
      clear hx0
      generalize hcu : l ++ natsB ((xs.map zig).take k) = cu at *
      have HCU := Lib.hid hcu
      clear hcu
      go_wp2_with fail
      refine (zig_any x hwx _).mono ?_
      rintro e w' ⟨rfl, rfl⟩
      go_wp2_with fail
      refine (quil_nat _ B _ 1 cu [zig x] (fun y hy => by simp at hy; subst hy; exact zig_word hwx) (by simp) (by omega) (hq.alloc _) (by simpa using heap_alloc_new _ _)).mono ?_
      rintro e w2 ⟨rfl, hq2, hwr2⟩
      go_wp2_with fail
      go_roundw
      case rel =>
        refine ⟨k + 1, by omega, by go_num, ?_, (hwr.alloc hq.lt _).trans hwr2⟩
        rw [HS.out, ← List.append_assoc, HCU.out, ← natsB_one]; exact hq2
      case measure => simp [intOf]; omega
    · obtain rfl : k = xs.length := by omega
      rw [← List.length_map zig, List.take_length] at hq
      have kk : ¬ (xs.length : Int) < xs.length := by omega
      go_wp2_with fail
      go_end0
      exact ⟨rfl, hq, hwr⟩

theorem own_text {w : World} {base : Nat} {v : Value} {l : List UInt8} (h : w.ownsRow base 5 1 v l.length (bcs l)) :
    (convert 40 9 v).run Try.prog w = .ok (.string ⟨l.toArray⟩) w := by
  have hn := h
  rcases h.2 with ⟨rfl, h0⟩ | ⟨g, cap, cur, rfl, _⟩
  · have e : l = [] := List.eq_nil_of_length_eq_zero h0
    subst e
    exact run_convert_bytes_nil w _ _ Try.underlying40 Try.underlying5 0 0 _ Try.underlying9
  · have hc := hn.cells (g := g) rfl
    have e : strOfNums (l.map fun b => (b.toNat : Int)) = ⟨l.toArray⟩ := by
      unfold strOfNums
      rw [List.map_map]
      have : (List.map ((fun n => UInt8.ofNat n.toNat) ∘ fun b : UInt8 => (b.toNat : Int)) l) = l := by
        conv => rhs; rw [← List.map_id l]
        exact List.map_congr_left fun b _ => by simp
      rw [this]
    rw [← e]
    refine run_convert_bytes_arg w _ _ Try.underlying40 Try.underlying5 g 0 l.length cap (l.map fun b => (b.toNat : Int)) (by simp) ?_ _ Try.underlying9
    intro i hi
    have := hc i (.int .u8 ((l[i]).toNat : Int)) (by unfold bcs; rw [List.getElem?_map, List.getElem?_eq_getElem hi]; rfl)
    have ha : (⟨g, 0, none⟩ : Addr).add i = ⟨g, 0 + i, none⟩ := by unfold Addr.add; split <;> simp_all
    rw [← ha, this]
    simp [List.getD, List.getElem?_eq_getElem hi]

set_option maxHeartbeats 400000 in
theorem quil_text (w : World) (B : Nat) (l : List UInt8) (h : Quil w B l) :
    Calls Try.prog 20 #[.pointer (some ⟨B, 0, none⟩)] w fun e w' =>
      e = .returned (.string ⟨l.toArray⟩) ∧ w = w' := by
  obtain ⟨v, hv, hown⟩ := h
  have c0 := cell_of_one hv
  have ht := own_text hown
  obtain ⟨A, kA, cA, rfl⟩ := own_form hown
  clear hown hv
  go_enter Try.func20, Try.ntmps20
  go_wp2_with fail
  go_ret
  exact ⟨rfl, rfl⟩
end Go.Proofs.Ytllnbbfeplgjjaa
