/-
  Rows of pairs in memory: as they are read; as rows of the call's own; appended to.
  Walks: the reference's Count, Same, Good of rows of pairs.
  Walks: the reference's Add of rows of pairs.
-/
import Derived.Test.YtnhhehinbobknaaPairM
import Derived.Test.YtnhhehinbobknaaTwo
import Derived.Test.YtnhhehinbobknaaRows
import Derived.WalkKit
import Derived.WalkSpells
import Derived.WalkLawsBesides
import Derived.WalkMore
import Derived.LoopTactic
import Derived.OwnWalk
import Derived.OneCell
import Derived.Outline
import Derived.Lib.Strings
import Derived.Deep.Slices
import Derived.Deep.Fields
import Derived.SizedLaws
import Derived.Carry
import Derived.Laws.AppendOwnNone
import Derived.Test.YtnhhehinbobknaaSignA
import Derived.StillTailTactics
import Derived.Deep.QuietTactic
import Derived.BigQuiet
namespace Go.Proofs.Ytnhhehinbobknaa
set_option linter.unusedVariables false
set_option linter.unusedSimpArgs false
open Go.RowKit

/-- A row of pairs in memory. -/
structure Pairs (w : World) (A : Option Addr) (L : List PairV) : Prop where
  ok : ∀ p, p ∈ L → okP p
  at_ : ∀ (i : Nat) (p : PairV), L[i]? = some p → ∃ b off, A = some ⟨b, off, none⟩ ∧ b < w.heap.size ∧ w.cell? ⟨b, off + i * 2, none⟩ = some (.int .i64 p.1) ∧ w.cell? ⟨b, off + i * 2 + 1, none⟩ = some (.int .u64 p.2)
theorem Pairs.call {w w' : World} {A : Option Addr} {L : List PairV} (h : Pairs w A L) (hb : Below w.heap.size w w') : Pairs w' A L :=
  ⟨h.ok, fun i it hi => by
    obtain ⟨b, off, hA, hlt, c0, c1⟩ := h.at_ i it hi
    exact ⟨b, off, hA, Nat.lt_of_lt_of_le hlt hb.size, cell_later hb c0, cell_later hb c1⟩⟩
theorem Pairs.nil (w : World) : Pairs w none [] := ⟨fun p h => (by cases h), fun i p h => by simp at h⟩
/-- A row's cells. -/
def cellsP (p : PairV) : List Value := [.int .i64 p.1, .int .u64 p.2]
def cellsQ (L : List PairV) : List Value := L.flatMap cellsP
theorem cellsQ_cons (p : PairV) (r : List PairV) : cellsQ (p :: r) = cellsP p ++ cellsQ r := by unfold cellsQ; rw [List.flatMap_cons]
theorem cellsQ_app (a b : List PairV) : cellsQ (a ++ b) = cellsQ a ++ cellsQ b := by unfold cellsQ; rw [List.flatMap_append]
theorem cellsQ_one' (p : PairV) : cellsQ [p] = [.int .i64 p.1, .int .u64 p.2] := by unfold cellsQ cellsP; simp
theorem cellsQ_len (L : List PairV) : (cellsQ L).length = L.length * 2 := by
  induction L with
  | nil => rfl
  | cons p r ih => rw [cellsQ_cons, List.length_append, ih, List.length_cons]; simp [cellsP]; omega
theorem cellsQ_one (L : List PairV) : ∀ u ∈ cellsQ L, u.oneCell' = true := by
  intro u hu
  unfold cellsQ at hu
  obtain ⟨p, _, h⟩ := List.mem_flatMap.1 hu
  simp only [cellsP, List.mem_cons, List.not_mem_nil, or_false] at h
  rcases h with rfl | rfl <;> rfl
theorem cellsQ_at : ∀ (L : List PairV) (i : Nat) (p : PairV), L[i]? = some p → (cellsQ L)[i * 2]? = some (.int .i64 p.1) ∧ (cellsQ L)[i * 2 + 1]? = some (.int .u64 p.2) := by
  intro L
  induction L with
  | nil => intro i p h; simp at h
  | cons q r ih =>
    intro i p h
    rw [cellsQ_cons]
    cases i with
    | zero => simp at h; subst h; simp [cellsP]
    | succ i =>
      have hr := ih i p (by simpa using h)
      have e : ∀ j, (cellsP q ++ cellsQ r)[(i + 1) * 2 + j]? = (cellsQ r)[i * 2 + j]? := by
        intro j
        rw [List.getElem?_append_right (by simp [cellsP]; omega)]
        congr 1
        simp [cellsP]; omega
      exact ⟨(e 0).trans hr.1, (e 1).trans hr.2⟩
theorem add_flat (b off j : Nat) : (⟨b, off, none⟩ : Addr).add j = ⟨b, off + j, none⟩ := by unfold Addr.add; split <;> simp_all
theorem own_pairs {w : World} {base : Nat} {v : Value} {L : List PairV} (h : w.ownsRow base 30 2 v L.length (cellsQ L)) (hok : ∀ p, p ∈ L → okP p) :
    ∃ A cap, v = .slice A L.length cap ∧ Pairs w A L := by
  have hh := h
  rcases h.2 with ⟨rfl, h0⟩ | ⟨g, cap, cur, rfl, _, hg, _⟩
  · have e : L = [] := List.eq_nil_of_length_eq_zero h0
    subst e
    exact ⟨none, 0, rfl, hok, fun i p hi => by simp at hi⟩
  · refine ⟨some ⟨g, 0, none⟩, cap, rfl, hok, fun i p hi => ?_⟩
    have hc := hh.cells (g := g) rfl
    obtain ⟨c0, c1⟩ := cellsQ_at L i p hi
    refine ⟨g, 0, rfl, lt_of_block hg, ?_, ?_⟩
    · rw [← add_flat]; exact hc _ _ c0
    · rw [Nat.add_assoc, ← add_flat]; exact hc _ _ c1
theorem Try.infoPair : (Try.prog.info? 30).map (fun i => (i.zero, i.size, i.bytes)) = some (some (.agg #[.int .i64 0, .int .u64 0]), 2, 16) := by kernel_rfl

/-- A row of the call's own that holds pairs. -/
def OwnP (w : World) (base : Nat) (v : Value) (L : List PairV) : Prop := w.ownsRow base 30 2 v L.length (cellsQ L)
theorem OwnP.nil (w : World) (base : Nat) : OwnP w base (.slice none 0 0) [] := World.ownsRow_nil _ _ _ _
theorem OwnP.call {w w' : World} {base : Nat} {v : Value} {L : List PairV} (h : OwnP w base v L) (hb : Below w.heap.size w w') : OwnP w' base v L :=
  World.ownsRow.kept (row := none) h ⟨hb.os, hb.tape, hb.output, hb.size, fun i hi _ => hb.block i hi⟩ (by cases v.ownBlock <;> simp)
theorem OwnP.other {w w' : World} {base : Nat} {v : Value} {L : List PairV} {r : Option Nat} (h : OwnP w base v L) (hg : w.grownBy w' r) (hne : v.ownBlock = none ∨ v.ownBlock ≠ r) : OwnP w' base v L := World.ownsRow.kept h hg hne
theorem OwnP.pairs {w : World} {base : Nat} {v : Value} {L : List PairV} (h : OwnP w base v L) (hok : ∀ p, p ∈ L → okP p) : ∃ A cap, v = .slice A L.length cap ∧ Pairs w A L := own_pairs h hok
theorem OwnP.lt {w : World} {base : Nat} {v : Value} {L : List PairV} (h : OwnP w base v L) : ∀ k, v.ownBlock = some k → base ≤ k ∧ k < w.heap.size := World.ownsRow.lt h
theorem OwnP.form {w : World} {base : Nat} {v : Value} {L : List PairV} (h : OwnP w base v L) : ∃ A cap, v = .slice A L.length cap := by
  have h' : w.ownsRow base 30 2 v L.length (cellsQ L) := h
  rcases h'.2 with ⟨rfl, h0⟩ | ⟨g, cap, cur, rfl, _⟩
  · exact ⟨none, 0, by rw [h0]⟩
  · exact ⟨_, _, rfl⟩
/-- Appending one pair, that lies in a block of its own, to such a row. -/
theorem wpList_append_pair {w : World} {ops : Array Oper} {rest : List Oper} {o : Oper} {a : Act} {Q : Exit → Act → World → Prop} (hgd : o.guard = none) (s x : Operand)
    (ho : o.op = .call { callee := .builtin .append, args := #[s, x], argTypes := #[41, 41] })
    (base : Nat) (v : Value) (L : List PairV) (g : Nat) (p : PairV) (hs : a.eval s = v) (hown : OwnP w base v L)
    (hx : a.eval x = .slice (some ⟨g, 0, none⟩) 1 1) (h0 : w.cell? ⟨g, 0, none⟩ = some (.int .i64 p.1)) (h1 : w.cell? ⟨g, 1, none⟩ = some (.int .u64 p.2)) (hn : L.length ≤ 100000) (hbase : base ≤ w.heap.size)
    (h : ∀ v' w', OwnP w' base v' (L ++ [p]) → w.grownBy w' v.ownBlock → wpList Try.prog ops Q rest (a.put o.dst v') w') : wpList Try.prog ops Q (o :: rest) a w := by
  obtain ⟨i0, hi, hz0, hz1, hz2⟩ := info_parts Try.infoPair
  refine wpList_append_own w hgd s x _ ho base _ i0 _ 2 16 Try.underlying41 hi hz0 hz1 hz2 rfl (by decide) v L.length (cellsQ L) hs hown ⟨g, 0, none⟩ 1 1 (cellsQ [p]) hx (cellsQ_len [p]) ?_ (cellsQ_one [p])
      (by unfold maxLen; omega) (by omega) hbase (fun v' w' h1 h2 _ => h v' w' ?_ h2)
  · intro j u hu
    rw [cellsQ_one'] at hu
    rw [add_flat]
    match j, hu with
    | 0, hu => simp at hu; subst hu; exact h0
    | 1, hu => simp at hu; subst hu; exact h1
  · unfold OwnP
    rw [cellsQ_app, List.length_append]
    exact h1
end Go.Proofs.Ytnhhehinbobknaa

namespace Go.Proofs.Ytnhhehinbobknaa
set_option linter.unusedVariables false
set_option linter.unusedSimpArgs false
open Go.RowKit

theorem count_step {L : List PairV} {k : Nat} {p : PairV} (h : L[k]? = some p) (i : Int) : countP (L.take (k + 1)) i = countP (L.take k) i + if p.1 = i then p.2 else 0 := by
  rw [take_snocP h, countP_app, countP_one]
theorem ok_pos {L : List PairV} (h : ∀ p, p ∈ L → okP p) : ∀ p, p ∈ L → 0 ≤ p.2 := fun p hp => (h p hp).2.1

set_option maxRecDepth 100000 in
set_option maxHeartbeats 1000000 in
theorem rcount_any (w : World) (A : Option Addr) (cap : Nat) (L : List PairV) (i n : Int) (h : Pairs w A L) (hl : L.length ≤ 1000) (hi : I64 i) (hn : countP L i = n) (hb : n < 18446744073709551616) :
    Calls Try.prog 25 #[.slice A L.length cap, .int .i64 i] w fun e w' => e = .returned (.int .u64 n) ∧ Below w.heap.size w w' := by
  have HI := Lib.hid h
  have HN := Lib.hid hn
  have HP := Lib.hid (fun k => countP_take (L := L) k i (ok_pos h.ok))
  obtain ⟨i0, i1⟩ := hi
  clear h hn
  go_enter Try.func25, Try.ntmps25
  go_wp2_with fail
  go_loopw [5, 10] (fun s j wr => ∃ (k : Nat) (m : Int), k ≤ L.length ∧ j = .int .i64 k ∧ s = .int .u64 m ∧ m = countP (L.take k) i ∧ Below w.heap.size w wr) (fun _ j _ => L.length - (intOf j).toNat)
  case atStart => exact ⟨0, 0, Nat.zero_le _, rfl, rfl, rfl, Below.refl _ _⟩
  case round =>
    obtain ⟨k, m, hk, rfl, rfl, hm, hb2⟩ := hrel
    have HM := Lib.hid hm
    by_cases hlt : k < L.length
    · have kk : (k : Int) < L.length := by omega
      have hxk : L[k]? = some L[k] := List.getElem?_eq_getElem hlt
      generalize hit : L[k] = p at *
      obtain ⟨px, pc⟩ := p
      obtain ⟨b, off, rfl, hbl, c0, c1⟩ := (HI.out.call hb2).at_ k _ hxk
      have HS := Lib.hid (count_step hxk i)
      have hok := HI.out.ok _ (List.mem_of_getElem? hxk)
      have p1 := HP.out (k + 1)
      have p0 := HP.out k
      rw [HN.out] at p1
      rw [HS.out] at p1
      rw [← hm] at p0 p1
      have hbs := hb2.size
      obtain ⟨⟨o1, o2⟩, o3, o4⟩ := hok
      simp only at c0 c1 o1 o2 o3 o4 p1 HS
      clear hxk hit hm
      by_cases he : px = i
      · subst he
        rw [if_pos rfl] at p1 HS
        obtain ⟨p2, p3⟩ := p1
        obtain ⟨p4, _⟩ := p0
        have e1 : (px == px) = true := by simp
        go_wp2_with fail
        go_roundw
        case rel => exact ⟨k + 1, m + pc, by omega, by go_num, rfl, by rw [HS.out, HM.out], hb2.alloc hbs _⟩
        case measure => simp [intOf]; omega
      · rw [if_neg he] at p1 HS
        have e1 : (px == i) = false := by simpa using he
        clear p0 p1 he
        go_wp2_with fail
        go_roundw
        case rel => exact ⟨k + 1, m, by omega, by go_num, rfl, by rw [HS.out, HM.out, Int.add_zero], hb2.alloc hbs _⟩
        case measure => simp [intOf]; omega
    · obtain rfl : k = L.length := by omega
      rw [List.take_length, HN.out] at HM
      have kk : ¬ (L.length : Int) < L.length := by omega
      clear hm
      go_wp2_with fail
      go_ret
      exact ⟨ret_int HM.out, hb2⟩

theorem below_drewM {B : Nat} {a w : World} (h : Below B a w) (n : Nat) : Below B a (w.drewN n) := by
  induction n with
  | zero => exact h
  | succ n ih => exact ih.drew
theorem pair_neq (a b c d : Int) (w : World) : (binOp .neq 30 (.agg #[.int .i64 a, .int .u64 b]) (.agg #[.int .i64 c, .int .u64 d])).run Try.prog w = .ok (.bool (!(a == c && b == d))) w := by
  by_cases h : a = c
  · subst h
    by_cases h' : b = d
    · subst h'; simp [go_sem]
    · have : (b == d) = false := by simp [h']
      simp [go_sem, this]
  · have : (a == c) = false := by simp [h]
    simp [go_sem, this]
theorem ne_at {L M : List PairV} {k : Nat} {p q : PairV} (hp : L[k]? = some p) (hq : M[k]? = some q) (h : p ≠ q) : L ≠ M := by
  rintro rfl; rw [hp] at hq; exact h (Option.some.inj hq)
theorem same_take {L M : List PairV} {k : Nat} {p q : PairV} (hp : L[k]? = some p) (hq : M[k]? = some q) (h : p = q) (ht : L.take k = M.take k) : L.take (k + 1) = M.take (k + 1) := by
  rw [take_snocP hp, take_snocP hq, ht, h]

set_option maxRecDepth 100000 in
set_option maxHeartbeats 1000000 in
theorem same_any (w : World) (A A' : Option Addr) (cap cap' : Nat) (L M : List PairV) (b : Bool) (hbb : decide (L = M) = b) (h : Pairs w A L) (h' : Pairs w A' M) (hl : L.length ≤ 1000) (hl' : M.length ≤ 1000) :
    Calls Try.prog 23 #[.slice A L.length cap, .slice A' M.length cap'] w fun e w' => e = .returned (.bool b) ∧ Below w.heap.size w w' := by
  have HB := Lib.hid hbb
  have HI := Lib.hid h
  have HJ := Lib.hid h'
  clear hbb h h'
  by_cases hlen : L.length = M.length
  · have e1 : ((L.length : Int) == (M.length : Int)) = true := by simp [hlen]
    have e2 : (!(L.length : Int) == (M.length : Int)) = false := by rw [e1]; rfl
    have HL := Lib.hid hlen
    clear hlen
    go_enter Try.func23, Try.ntmps23
    go_wp2_with fail
    go_loopw [13] (fun j wr => ∃ k : Nat, k ≤ L.length ∧ j = .int .i64 k ∧ L.take k = M.take k ∧ Below w.heap.size w wr) (fun j _ => L.length - (intOf j).toNat)
    case atStart => exact ⟨0, Nat.zero_le _, rfl, rfl, Below.refl _ _⟩
    case round =>
      obtain ⟨k, hk, rfl, ht, hb2⟩ := hrel
      have HT := Lib.hid ht
      clear ht
      by_cases hlt : k < L.length
      · have kk : (k : Int) < L.length := by omega
        have hlt' : k < M.length := by have := HL.out; omega
        have kk' : (k : Int) < M.length := by omega
        have hxk : L[k]? = some L[k] := List.getElem?_eq_getElem hlt
        have hyk : M[k]? = some M[k] := List.getElem?_eq_getElem hlt'
        generalize hit : L[k] = p at *
        generalize hjt : M[k] = q at *
        obtain ⟨px, pc⟩ := p
        obtain ⟨qx, qc⟩ := q
        obtain ⟨b0, off, rfl, hbl, c0, c1⟩ := (HI.out.call hb2).at_ k _ hxk
        obtain ⟨b1, off', rfl, hbl', d0, d1⟩ := (HJ.out.call hb2).at_ k _ hyk
        simp only at c0 c1 d0 d1
        have hcmp := pair_neq px pc qx qc
        have HXK := Lib.hid hxk
        have HYK := Lib.hid hyk
        clear hxk hyk hit hjt
        by_cases hc : px = qx ∧ pc = qc
        · have e3 : (!(px == qx && pc == qc)) = false := by simp [hc.1, hc.2]
          rw [e3] at hcmp
          have HC := Lib.hid hc
          clear hc e3
          go_wp2_with fail
          go_quiet (fail)
          go_wp2_with fail
          go_roundw
          case rel => exact ⟨k + 1, by omega, by go_num, same_take HXK.out HYK.out (Prod.ext HC.out.1 HC.out.2) HT.out, below_drewM hb2 _⟩
          case measure => simp [intOf]; omega
        · have e3 : (!(px == qx && pc == qc)) = true := by
            by_cases h1 : px = qx
            · have h2 : ¬ pc = qc := fun h => hc ⟨h1, h⟩
              simp [h2]
            · simp [h1]
          rw [e3] at hcmp
          have HE : Hid (b = false) := Lib.hid (by rw [← HB.out]; exact decide_eq_false (ne_at HXK.out HYK.out (fun h => hc ⟨(Prod.mk.inj h).1, (Prod.mk.inj h).2⟩)))
          clear hc e3
          go_wp2_with fail
          go_quiet (fail)
          go_wp2_with fail
          go_ret
          exact ⟨by rw [HE.out]; rfl, below_drewM hb2 _⟩
      · obtain rfl : k = L.length := by omega
        have HE : Hid (b = true) := Lib.hid (by
          have h1 := HT.out
          rw [List.take_length, HL.out, List.take_length] at h1
          rw [← HB.out]; exact decide_eq_true h1)
        have kk : ¬ (L.length : Int) < L.length := by omega
        go_wp2_with fail
        go_ret
        exact ⟨by rw [HE.out]; rfl, hb2⟩
  · have e1 : ((L.length : Int) == (M.length : Int)) = false := by simp; omega
    have e2 : (!(L.length : Int) == (M.length : Int)) = true := by rw [e1]; rfl
    have HE : Hid (b = false) := Lib.hid (by rw [← HB.out]; exact decide_eq_false (fun h => hlen (by rw [h])))
    clear hlen
    go_enter Try.func23, Try.ntmps23
    go_wp2_with fail
    go_ret
    exact ⟨by rw [HE.out]; rfl, Below.refl _ _⟩

end Go.Proofs.Ytnhhehinbobknaa

namespace Go.Proofs.Ytnhhehinbobknaa
set_option linter.unusedVariables false
set_option linter.unusedSimpArgs false
open Go.RowKit

theorem low_step {L : List PairV} {k : Nat} {p : PairV} (h : L[k]? = some p) (i : Int) : lowP (L.take (k + 1)) i = lowP (L.take k) i ++ (if p.1 < i then [p] else []) := by
  rw [take_snocP h]; unfold lowP; rw [List.filter_append]
  congr 1
  by_cases hc : p.1 < i
  · rw [if_pos hc, List.filter_cons_of_pos (by simpa using hc)]; rfl
  · rw [if_neg hc, List.filter_cons_of_neg (by simpa using hc)]; rfl
theorem high_step {L : List PairV} {k : Nat} {p : PairV} (h : L[k]? = some p) (i : Int) : highP (L.take (k + 1)) i = highP (L.take k) i ++ (if i < p.1 then [p] else []) := by
  rw [take_snocP h]; unfold highP; rw [List.filter_append]
  congr 1
  by_cases hc : i < p.1
  · rw [if_pos hc, List.filter_cons_of_pos (by simpa using hc)]; rfl
  · rw [if_neg hc, List.filter_cons_of_neg (by simpa using hc)]; rfl
theorem low_len (L : List PairV) (i : Int) (k : Nat) : (lowP (L.take k) i).length ≤ L.length := Nat.le_trans (List.length_filter_le _ _) (List.length_take_le' _ _)
theorem high_len (L : List PairV) (i : Int) (k : Nat) : (highP (L.take k) i).length ≤ L.length := Nat.le_trans (List.length_filter_le _ _) (List.length_take_le' _ _)
theorem OwnP.alloc {w : World} {base : Nat} {v : Value} {L : List PairV} (h : OwnP w base v L) (o : Obj) : OwnP (w.alloc o) base v L := World.ownsRow.alloc h o
theorem OwnP.below {a w w' : World} {base : Nat} {v : Value} {L : List PairV} (h : OwnP w base v L) (hb : Below base a w) (hg : w.grownBy w' v.ownBlock) (hs : base ≤ w.heap.size) : Below base a w' := hb.grown hg hs (fun k hk => (h.lt k hk).1)

set_option maxRecDepth 100000 in
set_option maxHeartbeats 2000000 in
theorem radd_any (w : World) (A : Option Addr) (cap : Nat) (L : List PairV) (i c n : Int) (h : Pairs w A L) (hl : L.length ≤ 1000) (hi : I64 i) (hc : Word c) (hn : countP L i + c = n) (hb : n < 18446744073709551616) :
    Calls Try.prog 34 #[.slice A L.length cap, .int .i64 i, .int .u64 c] w fun e w' => ∃ v, e = .returned v ∧ OwnP w' w.heap.size v (addP L i c) ∧ Below w.heap.size w w' := by
  have HI := Lib.hid h
  have HIX := Lib.hid hi
  obtain ⟨i0, i1⟩ := hi
  obtain ⟨c0', c1'⟩ := hc
  obtain ⟨m, hm⟩ : ∃ m, countP L i = m := ⟨_, rfl⟩
  have hm0 := (countP_take (L := L) L.length i (ok_pos h.ok)).1
  rw [List.take_length, hm] at hm0
  rw [hm] at hn
  have HM := Lib.hid hm
  have HN := Lib.hid hn
  have hmn : m + c < 18446744073709551616 := by omega
  have HADD : Hid (addP L i c = lowP L i ++ (midP i n ++ highP L i)) := Lib.hid (by unfold addP; rw [hm, hn])
  clear h hm
  go_enter Try.func34, Try.ntmps34
  go_wp2_with fail
  go_loopw [7, 15] (fun s j wr => ∃ (k : Nat), k ≤ L.length ∧ j = .int .i64 k ∧ OwnP wr w.heap.size s (lowP (L.take k) i) ∧ Below w.heap.size w wr) (fun _ j _ => L.length - (intOf j).toNat)
  case atStart => exact ⟨0, Nat.zero_le _, rfl, OwnP.nil _ _, Below.refl _ _⟩
  case round =>
    obtain ⟨k, hk, rfl, hown, hb2⟩ := hrel
    have hbs := hb2.size
    by_cases hlt : k < L.length
    · have kk : (k : Int) < L.length := by omega
      have hxk : L[k]? = some L[k] := List.getElem?_eq_getElem hlt
      generalize hit : L[k] = p at *
      obtain ⟨px, pc⟩ := p
      obtain ⟨b0, off, rfl, hbl, c0, c1⟩ := (HI.out.call hb2).at_ k _ hxk
      simp only at c0 c1
      have HS := Lib.hid (low_step hxk i)
      have HLL := Lib.hid (low_len L i k)
      have hok := HI.out.ok _ (List.mem_of_getElem? hxk)
      obtain ⟨⟨o1, o2⟩, o3, o4⟩ := hok
      simp only at HS
      clear hxk hit
      by_cases hc : px < i
      · rw [if_pos hc] at HS
        obtain ⟨vA, vk, rfl⟩ := hown.form
        have HO := Lib.hid hown
        clear hown
        go_wp2_with (at_builtin; refine wpList_append_pair rfl _ _ rfl w.heap.size _ _ (wr.heap.size + 1) (px, pc) rfl ((HO.out.alloc _).alloc _) rfl ?c1 ?c2 ?c3 ?c4 ?_)
        case c3 => have := HLL.out; omega
        case c4 => first | omega | (simp; omega)
        intro v' w1 hown' hgrow
        have hb3 := OwnP.below ((HO.out.alloc _).alloc _) ((hb2.alloc hbs _).alloc (by simp; omega) _) hgrow (by simp; omega)
        rw [← HS.out] at hown'
        clear hgrow
        go_wp2_with fail
        go_roundw
        case rel => exact ⟨k + 1, by omega, by go_num, hown', hb3⟩
        case measure => simp [intOf]; omega
      · rw [if_neg hc, List.append_nil] at HS
        rw [← HS.out] at hown
        go_wp2_with fail
        go_roundw
        case rel => exact ⟨k + 1, by omega, by go_num, hown.alloc _, hb2.alloc hbs _⟩
        case measure => simp [intOf]; omega
    · obtain rfl : k = L.length := by omega
      rw [List.take_length] at hown
      have kk : ¬ (L.length : Int) < L.length := by omega
      have HLL := Lib.hid (low_len L i L.length)
      rw [List.take_length] at HLL
      have HO := Lib.hid hown
      clear hown
      go_wp2_with fail
      refine (rcount_any _ A cap L i m (HI.out.call hb2) hl HIX.out HM.out (by omega)).mono ?_
      rintro e w3 ⟨rfl, hb3'⟩
      have hb3 := hb2.trans (hb3'.mono hbs)
      have hbs3 := hb3.size
      have HO3 := Lib.hid (HO.out.call hb3')
      have HML : Hid ((lowP L i ++ midP i n).length ≤ 1001) := Lib.hid (by
        rw [List.length_append]; have := HLL.out
        have : (midP i n).length ≤ 1 := by unfold midP; split <;> simp
        omega)
      clear hb3' hb2 hbs HO
      by_cases h0 : 0 < n
      · have HMID : Hid (lowP L i ++ [(i, n)] = lowP L i ++ midP i n) := Lib.hid (by unfold midP; rw [if_pos h0])
        obtain ⟨vA, vk, rfl⟩ := HO3.out.form
        go_wp2_with (at_builtin; refine wpList_append_pair rfl _ _ rfl w.heap.size _ _ w3.heap.size (i, n) rfl (HO3.out.alloc _) rfl ?d1 ?d2 ?d3 ?d4 ?_)
        case d3 => have := HLL.out; omega
        case d4 => first | omega | (simp; omega)
        intro v5 w5 hown5 hgrow
        have hb5 := OwnP.below (HO3.out.alloc _) (hb3.alloc hbs3 _) hgrow (by simp; omega)
        rw [HMID.out] at hown5
        have hbs5 := hb5.size
        clear hgrow hb3 hbs3 HO3 HLL
        go_wp2_with fail
        go_loopw [7, 43] (fun s j wr => ∃ (k : Nat), k ≤ L.length ∧ j = .int .i64 k ∧ OwnP wr w.heap.size s (lowP L i ++ midP i n ++ highP (L.take k) i) ∧ Below w.heap.size w wr) (fun _ j _ => L.length - (intOf j).toNat)
        case atStart => exact ⟨0, Nat.zero_le _, rfl, by rw [List.take_zero, show highP [] i = [] from rfl, List.append_nil]; exact hown5, hb5⟩
        case round =>
          clear hown5 hb5 hbs5
          obtain ⟨k, hk, rfl, hown, hb2⟩ := hrel
          have hbs := hb2.size
          by_cases hlt : k < L.length
          · have kk : (k : Int) < L.length := by omega
            have hxk : L[k]? = some L[k] := List.getElem?_eq_getElem hlt
            generalize hit : L[k] = p at *
            obtain ⟨px, pc⟩ := p
            obtain ⟨b0, off, rfl, hbl, c0, c1⟩ := (HI.out.call hb2).at_ k _ hxk
            simp only at c0 c1
            have HS := Lib.hid (high_step hxk i)
            have HHL := Lib.hid (high_len L i k)
            have hok := HI.out.ok _ (List.mem_of_getElem? hxk)
            obtain ⟨⟨o1, o2⟩, o3, o4⟩ := hok
            simp only at HS
            clear hxk hit
            by_cases hc : i < px
            · rw [if_pos hc] at HS
              obtain ⟨R, hR⟩ : ∃ R, lowP L i ++ midP i n ++ highP (L.take k) i = R := ⟨_, rfl⟩
              have HRL : Hid (R.length ≤ 3000) := Lib.hid (by rw [← hR, List.length_append]; have := HML.out; have := HHL.out; omega)
              have HSR : Hid (R ++ [(px, pc)] = lowP L i ++ midP i n ++ highP (L.take (k + 1)) i) := Lib.hid (by rw [HS.out, ← List.append_assoc, hR])
              rw [hR] at hown
              clear hR
              obtain ⟨vA, vk, rfl⟩ := hown.form
              have HO := Lib.hid hown
              clear hown
              go_wp2_with (at_builtin; refine wpList_append_pair rfl _ _ rfl w.heap.size _ _ (wr.heap.size + 1) (px, pc) rfl ((HO.out.alloc _).alloc _) rfl ?e1 ?e2 ?e3 ?e4 ?_)
              case e3 => have := HRL.out; omega
              case e4 => first | omega | (simp; omega)
              intro v' w1 hown' hgrow
              have hb3 := OwnP.below ((HO.out.alloc _).alloc _) ((hb2.alloc hbs _).alloc (by simp; omega) _) hgrow (by simp; omega)
              rw [HSR.out] at hown'
              clear hgrow
              go_wp2_with fail
              go_roundw
              case rel => exact ⟨k + 1, by omega, by go_num, hown', hb3⟩
              case measure => simp [intOf]; omega
            · rw [if_neg hc, List.append_nil] at HS
              rw [← HS.out] at hown
              go_wp2_with fail
              go_roundw
              case rel => exact ⟨k + 1, by omega, by go_num, hown.alloc _, hb2.alloc hbs _⟩
              case measure => simp [intOf]; omega
          · obtain rfl : k = L.length := by omega
            rw [List.take_length, List.append_assoc, ← HADD.out] at hown
            have kk : ¬ (L.length : Int) < L.length := by omega
            have HO := Lib.hid hown
            clear hown
            go_wp2_with fail
            go_ret
            exact ⟨_, rfl, HO.out, hb2⟩
      · have HMID : Hid (lowP L i = lowP L i ++ midP i n) := Lib.hid (by unfold midP; rw [if_neg h0, List.append_nil])
        have hown5 := HO3.out
        rw [HMID.out] at hown5
        have hb5 := hb3
        have hbs5 := hbs3
        clear hb3 hbs3 HO3 HLL
        go_wp2_with fail
        go_loopw [7, 43] (fun s j wr => ∃ (k : Nat), k ≤ L.length ∧ j = .int .i64 k ∧ OwnP wr w.heap.size s (lowP L i ++ midP i n ++ highP (L.take k) i) ∧ Below w.heap.size w wr) (fun _ j _ => L.length - (intOf j).toNat)
        case atStart => exact ⟨0, Nat.zero_le _, rfl, by rw [List.take_zero, show highP [] i = [] from rfl, List.append_nil]; exact hown5, hb5⟩
        case round =>
          clear hown5 hb5 hbs5
          obtain ⟨k, hk, rfl, hown, hb2⟩ := hrel
          have hbs := hb2.size
          by_cases hlt : k < L.length
          · have kk : (k : Int) < L.length := by omega
            have hxk : L[k]? = some L[k] := List.getElem?_eq_getElem hlt
            generalize hit : L[k] = p at *
            obtain ⟨px, pc⟩ := p
            obtain ⟨b0, off, rfl, hbl, c0, c1⟩ := (HI.out.call hb2).at_ k _ hxk
            simp only at c0 c1
            have HS := Lib.hid (high_step hxk i)
            have HHL := Lib.hid (high_len L i k)
            have hok := HI.out.ok _ (List.mem_of_getElem? hxk)
            obtain ⟨⟨o1, o2⟩, o3, o4⟩ := hok
            simp only at HS
            clear hxk hit
            by_cases hc : i < px
            · rw [if_pos hc] at HS
              obtain ⟨R, hR⟩ : ∃ R, lowP L i ++ midP i n ++ highP (L.take k) i = R := ⟨_, rfl⟩
              have HRL : Hid (R.length ≤ 3000) := Lib.hid (by rw [← hR, List.length_append]; have := HML.out; have := HHL.out; omega)
              have HSR : Hid (R ++ [(px, pc)] = lowP L i ++ midP i n ++ highP (L.take (k + 1)) i) := Lib.hid (by rw [HS.out, ← List.append_assoc, hR])
              rw [hR] at hown
              clear hR
              obtain ⟨vA, vk, rfl⟩ := hown.form
              have HO := Lib.hid hown
              clear hown
              go_wp2_with (at_builtin; refine wpList_append_pair rfl _ _ rfl w.heap.size _ _ (wr.heap.size + 1) (px, pc) rfl ((HO.out.alloc _).alloc _) rfl ?f1 ?f2 ?f3 ?f4 ?_)
              case f3 => have := HRL.out; omega
              case f4 => first | omega | (simp; omega)
              intro v' w1 hown' hgrow
              have hb3 := OwnP.below ((HO.out.alloc _).alloc _) ((hb2.alloc hbs _).alloc (by simp; omega) _) hgrow (by simp; omega)
              rw [HSR.out] at hown'
              clear hgrow
              go_wp2_with fail
              go_roundw
              case rel => exact ⟨k + 1, by omega, by go_num, hown', hb3⟩
              case measure => simp [intOf]; omega
            · rw [if_neg hc, List.append_nil] at HS
              rw [← HS.out] at hown
              go_wp2_with fail
              go_roundw
              case rel => exact ⟨k + 1, by omega, by go_num, hown.alloc _, hb2.alloc hbs _⟩
              case measure => simp [intOf]; omega
          · obtain rfl : k = L.length := by omega
            rw [List.take_length, List.append_assoc, ← HADD.out] at hown
            have kk : ¬ (L.length : Int) < L.length := by omega
            have HO := Lib.hid hown
            clear hown
            go_wp2_with fail
            go_ret
            exact ⟨_, rfl, HO.out, hb2⟩
end Go.Proofs.Ytnhhehinbobknaa
