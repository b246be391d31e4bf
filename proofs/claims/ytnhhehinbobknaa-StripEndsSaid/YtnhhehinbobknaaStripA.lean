/-
  How package strip lays a strip in memory; walks: New, own, Len, Total, At, Ends, of a strip and of a nil one.
  Walk: package strip: Add, of a strip and of a nil one.
-/
import Derived.Test.YtnhhehinbobknaaInsB
import Derived.Test.YtnhhehinbobknaaPlus
import Derived.Lib.SmallJoins
import Derived.Deep.QuietTactic
import Derived.BigQuiet
namespace Go.Proofs.Ytnhhehinbobknaa
set_option linter.unusedVariables false
set_option linter.unusedSimpArgs false
open Go.RowKit

/-- At block B lies a strip: how many pairs at most, its row, their sum. -/
structure LayS (w : World) (B : Nat) (A : Option Addr) (n cap : Nat) (m t : Int) (L : List PairV) : Prop where
  b : w.heap[B]? = some (.cells #[.int .i64 m, .slice A n cap, .int .u64 t] 58 (0, 0))
  row : Slab w A cap L
theorem LayS.c0 {w : World} {B : Nat} {A : Option Addr} {n cap : Nat} {m t : Int} {L : List PairV} (h : LayS w B A n cap m t L) : w.cell? ⟨B, 0, none⟩ = some (.int .i64 m) := by rw [Joins.cell_of_block h.b]; rfl
theorem LayS.c1 {w : World} {B : Nat} {A : Option Addr} {n cap : Nat} {m t : Int} {L : List PairV} (h : LayS w B A n cap m t L) : w.cell? ⟨B, 1, none⟩ = some (.slice A n cap) := by rw [Joins.cell_of_block h.b]; rfl
theorem LayS.c2 {w : World} {B : Nat} {A : Option Addr} {n cap : Nat} {m t : Int} {L : List PairV} (h : LayS w B A n cap m t L) : w.cell? ⟨B, 2, none⟩ = some (.int .u64 t) := by rw [Joins.cell_of_block h.b]; rfl
theorem LayS.f {w : World} {B : Nat} {A : Option Addr} {n cap : Nat} {m t : Int} {L : List PairV} (h : LayS w B A n cap m t L) (o : Nat) : w.frozen? ⟨B, o, none⟩ = false := free8 h.b o
theorem LayS.lt {w : World} {B : Nat} {A : Option Addr} {n cap : Nat} {m t : Int} {L : List PairV} (h : LayS w B A n cap m t L) : B < w.heap.size := lt_of_block h.b
theorem LayS.ne {w : World} {B : Nat} {A : Option Addr} {n cap : Nat} {m t : Int} {L : List PairV} (h : LayS w B A n cap m t L) {k : Nat} (hk : blkA A = some k) : k ≠ B := by
  rintro rfl
  rcases h.row.blk with ⟨rfl, _⟩ | ⟨g, off, cs, rfl, hb⟩
  · cases hk
  · cases hk
    have h1 := h.b
    rw [hb] at h1
    injection h1 with h2
    injection h2 with _ h3
    revert h3
    decide
theorem LayS.keep {w w' : World} {B : Nat} {A : Option Addr} {n cap : Nat} {m t : Int} {L : List PairV} (h : LayS w B A n cap m t L) (h1 : w'.heap[B]? = w.heap[B]?) (h2 : ∀ k, blkA A = some k → w'.heap[k]? = w.heap[k]?) : LayS w' B A n cap m t L := ⟨h1.trans h.b, h.row.keep h2⟩
theorem LayS.call {w w' : World} {B : Nat} {A : Option Addr} {n cap : Nat} {m t : Int} {L : List PairV} (h : LayS w B A n cap m t L) (hb : Below w.heap.size w w') : LayS w' B A n cap m t L := ⟨(hb.block _ h.lt).trans h.b, h.row.call hb⟩

/-- A strip at block B, of m pairs at most, whose row is L; S are its blocks. -/
def StX (w : World) (B : Nat) (S : Nat → Prop) (m : Int) (L : List PairV) : Prop :=
  Stp m L ∧ I64 m ∧ ∃ A cap, LayS w B A L.length cap m (sumP L) L ∧ ∀ k, S k ↔ k = B ∨ blkA A = some k
theorem stx_keep (w w' : World) (B : Nat) (S : Nat → Prop) (m : Int) (L : List PairV) (h : StX w B S m L) (hk : ∀ k, S k → w'.heap[k]? = w.heap[k]?) : StX w' B S m L := by
  obtain ⟨h1, h2, A, cap, h3, h4⟩ := h
  exact ⟨h1, h2, A, cap, h3.keep (hk B ((h4 B).2 (Or.inl rfl))) (fun k hA => hk k ((h4 k).2 (Or.inr hA))), h4⟩
theorem stx_lt (w : World) (B : Nat) (S : Nat → Prop) (m : Int) (L : List PairV) (h : StX w B S m L) : ∀ k, S k → k < w.heap.size := by
  obtain ⟨h1, h2, A, cap, h3, h4⟩ := h
  intro k hk
  rcases (h4 k).1 hk with rfl | hA
  · exact h3.lt
  · exact h3.row.lt hA
theorem stx_cells (w : World) (B : Nat) (S : Nat → Prop) (m : Int) (L : List PairV) (h : StX w B S m L) : ∀ k, S k → ∃ cs t z, w.heap[k]? = some (.cells cs t z) := by
  obtain ⟨h1, h2, A, cap, h3, h4⟩ := h
  intro k hk
  rcases (h4 k).1 hk with rfl | hA
  · exact ⟨_, _, _, h3.b⟩
  · rcases h3.row.blk with ⟨rfl, _⟩ | ⟨g, off, cs, rfl, hb⟩
    · cases hA
    · cases hA; exact ⟨_, _, _, hb⟩

set_option maxHeartbeats 400000 in
theorem snew_any (w : World) (m : Int) (h1 : 1 ≤ m) (h2 : m ≤ 4096) :
    Calls Try.prog 9 #[.int .i64 m] w fun e w' => ∃ B S, e = .returned (.tuple #[.pointer (some ⟨B, 0, none⟩), .int .i64 0]) ∧ StX w' B S m [] ∧ (∀ k, S k → w.heap.size ≤ k) ∧ Below w.heap.size w w' := by
  have q1 : ¬ m < 1 := by omega
  have q2 : ¬ 4096 < m := by omega
  go_enter Try.func9, Try.ntmps9
  go_wp2_with fail
  refine bodyPost_ret (v := .tuple #[.pointer (some ⟨w.heap.size, 0, none⟩), .int .i64 0]) (by simp [results, Try.results9, go_sem]) rfl ?_
  refine ⟨w.heap.size, rfl, fun k => k = w.heap.size, ⟨Stp.nil (by omega), ⟨by omega, by omega⟩, none, 0, ⟨heap_alloc_new _ _, Slab.nil _⟩, fun k => ⟨Or.inl, fun h => by rcases h with h | h; exact h; cases h⟩⟩, fun k hk => by subst hk; exact Nat.le_refl _, (Below.refl _ _).alloc (Nat.le_refl _) _⟩
set_option maxHeartbeats 400000 in
theorem sbad_any (w : World) (m : Int) (hm : I64 m) (hb : m < 1 ∨ 4096 < m) :
    Calls Try.prog 9 #[.int .i64 m] w fun e w' => e = .returned (.tuple #[.pointer none, .int .i64 1]) ∧ Below w.heap.size w w' := by
  by_cases q2 : m < 1
  · go_enter Try.func9, Try.ntmps9
    go_wp2_with fail
    go_ret2
    exact ⟨rfl, Below.refl _ _⟩
  · have q3 : 4096 < m := by omega
    go_enter Try.func9, Try.ntmps9
    go_wp2_with fail
    go_ret2
    exact ⟨rfl, Below.refl _ _⟩

set_option maxHeartbeats 400000 in
theorem sown_at (w : World) (B : Nat) (v : Value) (h : w.cell? ⟨B, 1, none⟩ = some v) :
    Calls Try.prog 28 #[.pointer (some ⟨B, 0, none⟩)] w fun e w' => e = .returned v ∧ w = w' := by
  go_enter Try.func28, Try.ntmps28
  go_wp2_with fail
  go_ret
  exact ⟨rfl, rfl⟩
set_option maxHeartbeats 400000 in
theorem sown_none (w : World) :
    Calls Try.prog 28 #[.pointer none] w fun e w' => e = .returned (.slice none 0 0) ∧ w = w' := by
  go_enter Try.func28, Try.ntmps28
  go_wp2_with fail
  go_ret
  exact ⟨rfl, rfl⟩
/-- A strip, or none: what its own row is. -/
def OwnsV (w : World) (p : Option Addr) (A : Option Addr) (n cap : Nat) : Prop := ∀ w', Below w.heap.size w w' → Calls Try.prog 28 #[.pointer p] w' fun e w'' => e = .returned (.slice A n cap) ∧ w' = w''
theorem owns_at {w : World} {B : Nat} {A : Option Addr} {n cap : Nat} (h : w.cell? ⟨B, 1, none⟩ = some (.slice A n cap)) : OwnsV w (some ⟨B, 0, none⟩) A n cap := fun w' hb => sown_at w' B _ (cell_later hb h)
theorem owns_none (w : World) : OwnsV w none none 0 0 := fun w' _ => sown_none w'
theorem OwnsV.now {w : World} {p A : Option Addr} {n cap : Nat} (h : OwnsV w p A n cap) : Calls Try.prog 28 #[.pointer p] w fun e w' => e = .returned (.slice A n cap) ∧ w = w' := h w (Below.refl _ _)

set_option maxHeartbeats 400000 in
theorem slen_of (w : World) (p A : Option Addr) (n cap : Nat) (h : OwnsV w p A n cap) :
    Calls Try.prog 18 #[.pointer p] w fun e w' => e = .returned (.int .i64 n) ∧ w = w' := by
  have H := Lib.hid h
  clear h
  go_enter Try.func18, Try.ntmps18
  go_wp2_with fail
  refine H.out.now.mono ?_
  rintro e w2 ⟨rfl, rfl⟩
  go_wp2_with fail
  go_ret
  exact ⟨rfl, rfl⟩
set_option maxHeartbeats 400000 in
theorem stotal_at (w : World) (B : Nat) (t : Int) (h : w.cell? ⟨B, 2, none⟩ = some (.int .u64 t)) :
    Calls Try.prog 16 #[.pointer (some ⟨B, 0, none⟩)] w fun e w' => e = .returned (.int .u64 t) ∧ w = w' := by
  go_enter Try.func16, Try.ntmps16
  go_wp2_with fail
  go_ret
  exact ⟨rfl, rfl⟩
set_option maxHeartbeats 400000 in
theorem stotal_none (w : World) :
    Calls Try.prog 16 #[.pointer none] w fun e w' => e = .returned (.int .u64 0) ∧ w = w' := by
  go_enter Try.func16, Try.ntmps16
  go_wp2_with fail
  go_ret
  exact ⟨rfl, rfl⟩

/-- Where an index stands in a good row, and how many of it there are. -/
theorem good_where {L : List PairV} (i : Int) (hg : GoodP L) : ∃ n, (lowP L i).length = n ∧ n ≤ L.length ∧
    ((isP L i = true ∧ n < L.length ∧ L[n]? = some (i, countP L i) ∧ belowP L i = sumP (L.take (n + 1)) ∧ (∀ c, 0 < c → 0 ≤ countP L i → (addP L i c).length = L.length)) ∨
     (isP L i = false ∧ countP L i = 0 ∧ belowP L i = sumP (L.take n) ∧ (∀ c, 0 < c → (addP L i c).length = L.length + 1))) := by
  have hlo : ∀ A : List PairV, (∀ p, p ∈ A → p.1 < i) → A.filter (fun p => decide (p.1 ≤ i)) = A := fun A h => List.filter_eq_self.2 fun p hp => by have := h p hp; simp; omega
  have hhi : ∀ A : List PairV, (∀ p, p ∈ A → i < p.1) → A.filter (fun p => decide (p.1 ≤ i)) = [] := fun A h => List.filter_eq_nil_iff.2 fun p hp => by have := h p hp; simp; omega
  have h1 := hlo (lowP L i) fun p hp => (lowP_mem hp).2
  have h2 := hhi (highP L i) fun p hp => (highP_mem hp).2
  refine ⟨_, rfl, List.length_filter_le _ _, ?_⟩
  rcases good_part i hg with ⟨m, e1, e2, e3⟩ | ⟨e1, e2⟩
  · refine Or.inl ⟨by rw [← e1]; exact (is_part (L := L)).2 m, ?_, ?_, ?_, fun c hc _ => ?_⟩
    · have := congrArg List.length e1; simp only [List.length_append, List.length_cons] at this; omega
    · rw [e2]
      have : (lowP L i ++ ((i, m) :: highP L i))[(lowP L i).length]? = some (i, m) := by rw [List.getElem?_append_right (Nat.le_refl _), Nat.sub_self]; rfl
      rwa [e1] at this
    · have h3 : belowP (lowP L i ++ ((i, m) :: highP L i)) i = sumP ((lowP L i ++ ((i, m) :: highP L i)).take ((lowP L i).length + 1)) := by
        unfold belowP
        rw [List.filter_append, h1, List.filter_cons_of_pos (by simp), h2, List.take_append, List.take_of_length_le (Nat.le_succ _), Nat.add_sub_cancel_left]
        rfl
      rwa [e1] at h3
    · have h4 := congrArg List.length e1
      unfold addP
      rw [e2]
      unfold midP
      rw [if_pos (by omega)]
      simp only [List.length_append, List.length_cons, List.length_nil] at h4 ⊢
      omega
  · refine Or.inr ⟨by rw [← e1]; exact (is_part (L := L)).1, e2, ?_, fun c hc => ?_⟩
    · have h3 : belowP (lowP L i ++ highP L i) i = sumP ((lowP L i ++ highP L i).take (lowP L i).length) := by
        unfold belowP
        rw [List.filter_append, h1, h2, List.take_append_of_le_length (Nat.le_refl _), List.take_length, List.append_nil]
      rwa [e1] at h3
    · have h4 := congrArg List.length e1
      unfold addP
      rw [e2]
      unfold midP
      rw [if_pos (by omega)]
      simp only [List.length_append, List.length_cons, List.length_nil] at h4 ⊢
      omega

set_option maxRecDepth 100000 in
set_option maxHeartbeats 1000000 in
theorem sat_of (w : World) (p A : Option Addr) (cap : Nat) (L : List PairV) (i : Int) (h : OwnsV w p A L.length cap) (hP : Pairs w A L) (hg : GoodP L) (hl : L.length ≤ 1000) (hi : I64 i) :
    Calls Try.prog 15 #[.pointer p, .int .i64 i] w fun e w' => e = .returned (.int .u64 (countP L i)) ∧ Below w.heap.size w w' := by
  obtain ⟨n, hn, hnl, ⟨hb, hlt, hx, _⟩ | ⟨hb, hx, _⟩⟩ := good_where i hg
  · have hF := find_big w A cap L i n true hP (by omega) hg hi hn hb
    obtain ⟨g, off, rfl, hbl, d0, d1⟩ := hP.at_ n _ hx
    simp only at d0 d1
    obtain ⟨x, hxx⟩ : ∃ x, countP L i = x := ⟨_, rfl⟩
    rw [hxx] at d1 ⊢
    have H := Lib.hid h
    have HF := Lib.hid hF
    have nn : (n : Int) < L.length := by omega
    clear h hF hP hg hn hx hxx hb d0
    go_enter Try.func15, Try.ntmps15
    go_wp2_with fail
    refine H.out.now.mono ?_
    rintro e w2 ⟨rfl, rfl⟩
    go_wp2_with fail
    refine HF.out.mono ?_
    rintro e w3 ⟨rfl, b3⟩
    have d3 := cell_later b3 d1
    go_wp2_with fail
    go_ret
    exact ⟨rfl, b3⟩
  · have hF := find_big w A cap L i n false hP (by omega) hg hi hn hb
    rw [hx]
    have H := Lib.hid h
    have HF := Lib.hid hF
    clear h hF hP hg hn hx hb
    go_enter Try.func15, Try.ntmps15
    go_wp2_with fail
    refine H.out.now.mono ?_
    rintro e w2 ⟨rfl, rfl⟩
    go_wp2_with fail
    refine HF.out.mono ?_
    rintro e w3 ⟨rfl, b3⟩
    go_wp2_with fail
    go_ret
    exact ⟨rfl, b3⟩

set_option maxRecDepth 100000 in
set_option maxHeartbeats 1000000 in
theorem sends_none (w : World) (p A : Option Addr) (cap : Nat) (h : OwnsV w p A 0 cap) :
    Calls Try.prog 13 #[.pointer p] w fun e w' => e = .returned (.tuple #[.int .i64 0, .int .i64 0, .bool false]) ∧ Below w.heap.size w w' := by
  have H := Lib.hid h
  clear h
  go_enter Try.func13, Try.ntmps13
  go_wp2_with fail
  refine H.out.now.mono ?_
  rintro e w2 ⟨rfl, rfl⟩
  go_wp2_with fail
  exact bodyPost_ret (v := .tuple #[.int .i64 0, .int .i64 0, .bool false]) (by simp [results, Try.results13, go_sem]) rfl ⟨rfl, Below.refl _ _⟩

set_option maxRecDepth 100000 in
set_option maxHeartbeats 1000000 in
theorem sends_of (w : World) (p A : Option Addr) (cap N : Nat) (px pc qx qc : Int) (L : List PairV) (h : OwnsV w p A N cap) (hP : Pairs w A L) (hN : L.length = N) (hpos : 0 < N) (hl : N ≤ 1000) (h0 : L[0]? = some (px, pc)) (h1 : L[N - 1]? = some (qx, qc)) :
    Calls Try.prog 13 #[.pointer p] w fun e w' => e = .returned (.tuple #[.int .i64 px, .int .i64 qx, .bool true]) ∧ Below w.heap.size w w' := by
  have H := Lib.hid h
  obtain ⟨nn, hnn⟩ : ∃ nn, N - 1 = nn := ⟨_, rfl⟩
  rw [hnn] at h1
  obtain ⟨g, off, rfl, hbl, d0, _⟩ := hP.at_ 0 _ h0
  obtain ⟨g', off', e', _, g0, _⟩ := hP.at_ nn _ h1
  obtain ⟨rfl, rfl, _⟩ := Addr.mk.inj (Option.some.inj e')
  simp only [Nat.zero_mul, Nat.add_zero] at d0
  simp only at g0
  have k0 : ((N : Int) == 0) = false := by simp; omega
  have kN : (0 : Int) < (N : Int) := by omega
  have u1 : IntKind.i64.wrap ((N : Int) - 1) = (nn : Int) := by rw [IntKind.wrap_i64]; omega
  have u2 : (N : Int) - 1 = (nn : Int) := by omega
  have u3 : (nn : Int) < (N : Int) := by omega
  have u4 : (0 : Int) ≤ (nn : Int) := by omega
  have u5 : IntKind.i64.wrap (nn : Int) = (nn : Int) := by rw [IntKind.wrap_i64]; omega
  clear h hP hN h0 h1 hnn e'
  go_enter Try.func13, Try.ntmps13
  go_wp2_with fail
  refine H.out.now.mono ?_
  rintro e w2 ⟨rfl, rfl⟩
  go_wp2_with fail
  go_quiet (fail)
  go_wp2_with fail
  exact bodyPost_ret (v := .tuple #[.int .i64 px, .int .i64 qx, .bool true]) (by simp [results, Try.results13, go_sem]) rfl ⟨rfl, below_drewN (Below.refl _ _) _⟩
end Go.Proofs.Ytnhhehinbobknaa

namespace Go.Proofs.Ytnhhehinbobknaa
set_option linter.unusedVariables false
set_option linter.unusedSimpArgs false
open Go.RowKit

theorem Keeps.set {S : Nat → Prop} {w w1 : World} (k : Keeps S w w1) {b : Nat} (o : Nat) (u : Value) (h : S b ∨ w.heap.size ≤ b) : Keeps S w (w1.setCell ⟨b, o, none⟩ u) :=
  ⟨k.os, k.tape, k.output, by simpa [World.setCell] using k.size, fun j hj hn => by
    rw [Below.heap_setCell _ _ _ _ (by show j ≠ b; rintro rfl; rcases h with h | h; exact hn h; omega)]; exact k.block j hj hn⟩
theorem Keeps.new {S : Nat → Prop} {w w1 : World} (k : Keeps S w w1) (o : Obj) : Keeps S w (w1.alloc o) :=
  ⟨k.os, k.tape, k.output, Nat.le_trans k.size (by simp), fun j hj hn => (heap_alloc_old _ _ (Nat.lt_of_lt_of_le hj k.size)).trans (k.block j hj hn)⟩
theorem Keeps.draws {S : Nat → Prop} {w w1 : World} (k : Keeps S w w1) (m : Nat) : Keeps S w (w1.drewN m) := by
  have h := below_drewN (Below.refl w1.heap.size w1) m
  exact ⟨h.os.trans k.os, h.tape.trans k.tape, h.output.trans k.output, Nat.le_trans k.size h.size, fun j hj hn => (h.block j (Nat.lt_of_lt_of_le hj k.size)).trans (k.block j hj hn)⟩
theorem keeps_grown {S : Nat → Prop} {w w1 : World} {r : Option Nat} (h : w.grownBy w1 r) (hS : ∀ k, r = some k → S k) : Keeps S w w1 :=
  ⟨h.os, h.tape, h.output, h.size, fun j hj hn => h.block j hj (fun e => hn (hS j e.symm))⟩
theorem two_new8 (w : World) (x y : Value) (t : TypeId) : (w.alloc (.cells #[x, y] t)).cell? ⟨w.heap.size, 0, none⟩ = some x ∧ (w.alloc (.cells #[x, y] t)).cell? ⟨w.heap.size, 1, none⟩ = some y := by
  have h : (w.alloc (.cells #[x, y] t)).heap[w.heap.size]? = some (.cells #[x, y] t (0, 0)) := heap_alloc_new w _
  exact ⟨by rw [Joins.cell_of_block h]; rfl, by rw [Joins.cell_of_block h]; rfl⟩

set_option maxHeartbeats 400000 in
theorem sadd_none (w : World) (i c : Int) (hi : I64 i) (hc : Word c) :
    Calls Try.prog 14 #[.pointer none, .int .i64 i, .int .u64 c] w fun e w' => e = .returned (.int .i64 2) ∧ Below w.heap.size w w' := by
  go_enter Try.func14, Try.ntmps14
  go_wp2_with fail
  go_ret
  exact ⟨rfl, Below.refl _ _⟩

/-- What Add comes to. -/
def AddsS (w : World) (B : Nat) (S : Nat → Prop) (m : Int) (L : List PairV) (i c : Int) (e : Ending) (w' : World) : Prop :=
  ∃ S', e = .returned (.int .i64 (stErr m L i c)) ∧ StX w' B S' m (stRow m L i c) ∧ Keeps S w w' ∧ (∀ k, S' k → S k ∨ w.heap.size ≤ k)
theorem adds_same {w w' : World} {B : Nat} {S : Nat → Prop} {m : Int} {L : List PairV} {i c x : Int} (h : StX w B S m L) (he : stErr m L i c = x) (hx : x ≠ 0) (hb : Below w.heap.size w w') : AddsS w B S m L i c (.returned (.int .i64 x)) w' :=
  ⟨S, by rw [he], by unfold stRow; rw [if_neg (by omega)]; exact stx_keep _ _ _ _ _ _ h (fun k hk => hb.block k (stx_lt _ _ _ _ _ h k hk)), Keeps.of_below hb, fun k hk => Or.inl hk⟩

set_option maxRecDepth 100000 in
set_option maxHeartbeats 2000000 in
theorem sadd_no (w : World) (B : Nat) (S : Nat → Prop) (m : Int) (L : List PairV) (i c : Int) (h : StX w B S m L) (hl : L.length ≤ 900) (hi : I64 i) (hc : Word c) (hcase : c = 0 ∧ stErr m L i c = 1 ∨ (0 < c ∧ 9223372036854775807 - sumP L < c ∧ stErr m L i c = 6)) :
    Calls Try.prog 14 #[.pointer (some ⟨B, 0, none⟩), .int .i64 i, .int .u64 c] w (AddsS w B S m L i c) := by
  have HX := Lib.hid h
  obtain ⟨hst, hm, A, cap, hL, hS⟩ := h
  rcases hcase with ⟨rfl, e⟩ | ⟨hc0, hbig, e⟩
  · have E := Lib.hid e
    clear e hst hL hS
    go_enter Try.func14, Try.ntmps14
    go_wp2_with fail
    go_ret
    exact adds_same HX.out E.out (by decide) (Below.refl _ _)
  · have E := Lib.hid e
    have c1 := hL.c1
    have c2 := hL.c2
    have hs0 := sumP_pos (ok_pos hst.ok)
    have hs1 := hst.sum
    obtain ⟨t, ht⟩ : ∃ t, sumP L = t := ⟨_, rfl⟩
    rw [ht] at c2 hs0 hs1 hbig
    have P1 : Hid (plus2B t c = false) := Lib.hid (by unfold plus2B; apply decide_eq_false; omega)
    have P2 : Hid (plus2Q t c = 0) := Lib.hid (by unfold plus2Q; rw [P1.out]; rfl)
    have c00 : (c == 0) = false := by simp; omega
    obtain ⟨n, b, hF⟩ : ∃ (n : Nat) (b : Bool), ∀ w', Below w.heap.size w w' → Calls Try.prog 30 #[.slice A L.length cap, .int .i64 i] w' fun e w'' => e = .returned (.tuple #[.int .i64 n, .bool b]) ∧ Below w'.heap.size w' w'' :=
      ⟨_, _, fun w' hb => find_big w' A cap L i _ _ (hL.row.pairs.call hb) (by omega) hst.good hi rfl rfl⟩
    have HF := Lib.hid hF
    obtain ⟨hc1, hc2⟩ := hc
    clear e hst hL hS ht hF
    go_enter Try.func14, Try.ntmps14
    go_wp2_with fail
    refine (plus_two t c 0 false _ _ _ ⟨by omega, by omega⟩ ⟨by omega, by omega⟩ (two_new8 w _ _ _).1 (two_new8 w _ _ _).2 P2.out P1.out).mono ?_
    rintro e w3 ⟨rfl, rfl⟩
    have hb3 : Below w.heap.size w (w.alloc (.cells #[.int .u64 t, .int .u64 c] 28)) := (Below.refl _ _).alloc (Nat.le_refl _) _
    have d1 := cell_later hb3 c1
    have HB3 := Lib.hid hb3
    clear hb3
    go_wp2_with fail
    refine (HF.out _ HB3.out).mono ?_
    rintro e w4 ⟨rfl, hb4⟩
    have HB4 := Lib.hid (HB3.out.trans (hb4.mono HB3.out.size))
    clear hb4 d1
    go_wp2_with fail
    go_quiet (fail)
    go_wp2_with fail
    go_ret
    exact adds_same HX.out E.out (by decide) (below_drewN HB4.out _)

set_option maxRecDepth 100000 in
set_option maxHeartbeats 2000000 in
theorem sadd_full (w : World) (B : Nat) (S : Nat → Prop) (m : Int) (L : List PairV) (i c : Int) (h : StX w B S m L) (hl : L.length ≤ 900) (hi : I64 i) (hc : Word c) (hc0 : 0 < c) (hfit : c ≤ 9223372036854775807 - sumP L) (hf : m < ((addP L i c).length : Int)) (e : stErr m L i c = 6) :
    Calls Try.prog 14 #[.pointer (some ⟨B, 0, none⟩), .int .i64 i, .int .u64 c] w (AddsS w B S m L i c) := by
  have HX := Lib.hid h
  obtain ⟨hst, hm, A, cap, hL, hS⟩ := h
  have E := Lib.hid e
  have c0 := hL.c0
  have c1 := hL.c1
  have c2 := hL.c2
  have hs0 := sumP_pos (ok_pos hst.ok)
  have hs1 := hst.sum
  obtain ⟨n, hn, hnl, ⟨hb, _, _, _, hlen⟩ | ⟨hb, _, _, hlen⟩⟩ := good_where i hst.good
  · have h1 := hlen c hc0 (hst.cnt i).1
    have h2 := hst.most
    omega
  have h1 := hlen c hc0
  have k7 : m ≤ (L.length : Int) := by omega
  have k8 : decide (m ≤ (L.length : Int)) = true := decide_eq_true k7
  obtain ⟨t, ht⟩ : ∃ t, sumP L = t := ⟨_, rfl⟩
  rw [ht] at c2 hs0 hs1 hfit
  have P1 : Hid (plus2B t c = true) := Lib.hid (by unfold plus2B; apply decide_eq_true; omega)
  have P2 : Hid (plus2Q t c = t + c) := Lib.hid (by unfold plus2Q; rw [P1.out]; rfl)
  have c00 : (c == 0) = false := by simp; omega
  have hF : ∀ w', Below w.heap.size w w' → Calls Try.prog 30 #[.slice A L.length cap, .int .i64 i] w' fun e w'' => e = .returned (.tuple #[.int .i64 n, .bool false]) ∧ Below w'.heap.size w' w'' :=
    fun w' hb' => find_big w' A cap L i _ _ (hL.row.pairs.call hb') (by omega) hst.good hi hn hb
  have HF := Lib.hid hF
  obtain ⟨hc1, hc2⟩ := hc
  obtain ⟨m0, m1⟩ := hm
  clear e hst hL hS ht hF hn hb hlen h1
  go_enter Try.func14, Try.ntmps14
  go_wp2_with fail
  refine (plus_two t c (t + c) true _ _ _ ⟨by omega, by omega⟩ ⟨by omega, by omega⟩ (two_new8 w _ _ _).1 (two_new8 w _ _ _).2 P2.out P1.out).mono ?_
  rintro e w3 ⟨rfl, rfl⟩
  have hb3 : Below w.heap.size w (w.alloc (.cells #[.int .u64 t, .int .u64 c] 28)) := (Below.refl _ _).alloc (Nat.le_refl _) _
  have d1 := cell_later hb3 c1
  have d0 := cell_later hb3 c0
  have HB3 := Lib.hid hb3
  clear hb3
  go_wp2_with fail
  refine (HF.out _ HB3.out).mono ?_
  rintro e w4 ⟨rfl, hb4⟩
  have g1 := cell_later hb4 d1
  have g0 := cell_later hb4 d0
  have HB4 := Lib.hid (HB3.out.trans (hb4.mono HB3.out.size))
  clear hb4 d1 d0 c0 c1 c2
  go_wp2_with fail
  go_quiet (fail)
  go_wp2_with fail
  go_ret
  exact adds_same HX.out E.out (by decide) (below_drewN HB4.out _)

set_option maxRecDepth 100000 in
set_option maxHeartbeats 2000000 in
theorem sadd_in (w : World) (B : Nat) (S : Nat → Prop) (m : Int) (L : List PairV) (i c mm : Int) (h : StX w B S m L) (hl : L.length ≤ 900) (hi : I64 i) (hc : Word c) (hc0 : 0 < c) (hfit : c ≤ 9223372036854775807 - sumP L) (e : stErr m L i c = 0)
    (hp : lowP L i ++ ((i, mm) :: highP L i) = L) (hm2 : countP L i = mm) (hm1 : 1 ≤ mm) :
    Calls Try.prog 14 #[.pointer (some ⟨B, 0, none⟩), .int .i64 i, .int .u64 c] w (AddsS w B S m L i c) := by
  have HST := Lib.hid (stp_add h.1 hi hc)
  have HRW : Hid (stRow m L i c = addP L i c) := Lib.hid (by unfold stRow; rw [if_pos e])
  have HM := Lib.hid h.2.1
  obtain ⟨hst, hm, A, cap, hL, hS⟩ := h
  have E := Lib.hid e
  have hs0 := sumP_pos (ok_pos hst.ok)
  have hs1 := hst.sum
  have hcn := hst.cnt i
  have HSM : Hid (sumP (addP L i c) = sumP L + c) := Lib.hid (add_sum (by omega))
  have HS := Lib.hid hS
  obtain ⟨n, hn⟩ : ∃ n, (lowP L i).length = n := ⟨_, rfl⟩
  have his : isP L i = true := by rw [← hp]; exact (is_part (L := L)).2 mm
  have hxn : L[n]? = some (i, mm) := by
    have : (lowP L i ++ ((i, mm) :: highP L i))[n]? = some (i, mm) := by rw [List.getElem?_append_right (by omega), hn, Nat.sub_self]; rfl
    rwa [hp] at this
  have hnl : n < L.length := by
    rcases Nat.lt_or_ge n L.length with h1 | h1
    · exact h1
    · rw [List.getElem?_eq_none h1] at hxn; cases hxn
  obtain ⟨g, off, rfl, hbl, d0, d1⟩ := hL.row.pairs.at_ n _ hxn
  have hadd : addP L i c = lowP L i ++ ((i, mm + c) :: highP L i) := by unfold addP; rw [hm2]; unfold midP; rw [if_pos (by omega)]; rfl
  have hlen : (addP L i c).length = L.length := by rw [hadd]; have := congrArg List.length hp; simp only [List.length_append, List.length_cons] at this ⊢; exact this
  obtain ⟨t, ht⟩ : ∃ t, sumP L = t := ⟨_, rfl⟩
  rw [ht] at hs0 hs1 hfit hL HSM hcn
  have HL := Lib.hid hL
  have P1 : Hid (plus2B t c = true) := Lib.hid (by unfold plus2B; apply decide_eq_true; omega)
  have P2 : Hid (plus2Q t c = t + c) := Lib.hid (by unfold plus2Q; rw [P1.out]; rfl)
  have c00 : (c == 0) = false := by simp; omega
  have hF : ∀ w', Below w.heap.size w w' → Calls Try.prog 30 #[.slice (some ⟨g, off, none⟩) L.length cap, .int .i64 i] w' fun e w'' => e = .returned (.tuple #[.int .i64 n, .bool true]) ∧ Below w'.heap.size w' w'' :=
    fun w' hb' => find_big w' _ cap L i _ _ (hL.row.pairs.call hb') (by omega) hst.good hi hn his
  have HF := Lib.hid hF
  have hBw := hL.lt
  have hBg : g ≠ B := hL.ne rfl
  have hBg' : ¬ B = g := fun e => hBg e.symm
  have fin : ∀ w5, Below w.heap.size w w5 → w5.cell? ⟨B, 1, none⟩ = some (.slice (some ⟨g, off, none⟩) L.length cap) ∧ w5.cell? ⟨B, 2, none⟩ = some (.int .u64 t) ∧ w5.frozen? ⟨B, 2, none⟩ = false ∧ w5.cell? ⟨g, off + n * 2 + 1, none⟩ = some (.int .u64 mm) ∧ w5.frozen? ⟨g, off + n * 2 + 1, none⟩ = false ∧
      AddsS w B S m L i c (.returned (.int .i64 0)) ((w5.setCell ⟨g, off + n * 2 + 1, none⟩ (.int .u64 (mm + c))).setCell ⟨B, 2, none⟩ (.int .u64 (t + c))) := by
    intro w5 hb5
    have hL5 := HL.out.call hb5
    have hr := hL5.row.put hp hn hi (m' := mm + c) ⟨by omega, by omega⟩
    rw [← hadd] at hr
    have hb6 : (w5.setCell ⟨g, off + n * 2 + 1, none⟩ (.int .u64 (mm + c))).heap[B]? = some (.cells #[.int .i64 m, .slice (some ⟨g, off, none⟩) L.length cap, .int .u64 t] 58 (0, 0)) := by
      rw [Below.heap_setCell _ _ _ _ hBg.symm]; exact hL5.b
    have hfz : w5.frozen? ⟨g, off + n * 2 + 1, none⟩ = false := by
      rcases hL5.row.blk with ⟨e, _⟩ | ⟨g', off', cs, e, hb⟩
      · cases e
      · obtain ⟨rfl, rfl, _⟩ := Addr.mk.inj (Option.some.inj e)
        exact free8 hb _
    refine ⟨hL5.c1, hL5.c2, hL5.f 2, cell_later hb5 d1, hfz, S, by rw [E.out], ?_, ?_, fun k hk => Or.inl hk⟩
    · rw [HRW.out]
      have hst2 := HST.out
      rw [HRW.out] at hst2
      refine ⟨hst2, HM.out, some ⟨g, off, none⟩, cap, ⟨?_, hr.keep fun k hk => ?_⟩, HS.out⟩
      · rw [HSM.out, hlen]
        exact set_cells8 hb6 2 _
      · rw [Below.heap_setCell _ _ _ _ (by show k ≠ B; cases hk; exact hBg)]
    · have hk1 : Keeps S w (w5.setCell ⟨g, off + n * 2 + 1, none⟩ (.int .u64 (mm + c))) := (Keeps.of_below hb5).set _ _ (Or.inl ((HS.out g).2 (Or.inr rfl)))
      exact hk1.set 2 _ (Or.inl ((HS.out B).2 (Or.inl rfl)))
  have FIN := Lib.hid fin
  have hc1' := hL.c1
  have hc2' := hL.c2
  have hc0' := hL.c0
  have hm64 : mm < 18446744073709551616 := by omega
  have hmc2 : IntKind.u64.wrap (mm + c) = mm + c := by rw [IntKind.wrap_u64]; omega
  obtain ⟨hc1, hc2⟩ := hc
  obtain ⟨m0, m1⟩ := hm
  obtain ⟨i0, i1⟩ := hi
  have nn : (n : Int) < L.length := by omega
  clear fin e hst hL hS ht hF hn his hxn hadd hlen hp hm2 d0 d1 hbl
  go_enter Try.func14, Try.ntmps14
  go_wp2_with fail
  refine (plus_two t c (t + c) true _ _ _ ⟨by omega, by omega⟩ ⟨by omega, by omega⟩ (two_new8 w _ _ _).1 (two_new8 w _ _ _).2 P2.out P1.out).mono ?_
  rintro e w3 ⟨rfl, rfl⟩
  have hb3 : Below w.heap.size w (w.alloc (.cells #[.int .u64 t, .int .u64 c] 28)) := (Below.refl _ _).alloc (Nat.le_refl _) _
  have d1 := cell_later hb3 hc1'
  have d0 := cell_later hb3 hc0'
  have HB3 := Lib.hid hb3
  clear hb3
  go_wp2_with fail
  refine (HF.out _ HB3.out).mono ?_
  rintro e w4 ⟨rfl, hb4⟩
  have g1 := cell_later hb4 d1
  have g0 := cell_later hb4 d0
  have HB4 := Lib.hid (HB3.out.trans (hb4.mono HB3.out.size))
  clear hb4 d1 d0 hc0' hc1' hc2'
  go_wp2_with fail
  go_quiet (fail)
  obtain ⟨x1, x2, x3, x4, x5, hfin⟩ := FIN.out _ (below_drewN HB4.out nq)
  have HFI := Lib.hid hfin
  clear hfin g0 g1
  generalize w4.drewN nq = w5 at *
  go_wp2_with fail
  go_ret
  exact HFI.out

set_option maxRecDepth 100000 in
set_option maxHeartbeats 2000000 in
theorem sadd_new (w : World) (B : Nat) (S : Nat → Prop) (m : Int) (L : List PairV) (i c : Int) (h : StX w B S m L) (hl : L.length ≤ 900) (hi : I64 i) (hc : Word c) (hc0 : 0 < c) (hfit : c ≤ 9223372036854775807 - sumP L) (hf : ((addP L i c).length : Int) ≤ m) (e : stErr m L i c = 0)
    (hp : lowP L i ++ highP L i = L) (hm2 : countP L i = 0) :
    Calls Try.prog 14 #[.pointer (some ⟨B, 0, none⟩), .int .i64 i, .int .u64 c] w (AddsS w B S m L i c) := by
  have HST := Lib.hid (stp_add h.1 hi hc)
  have HRW : Hid (stRow m L i c = addP L i c) := Lib.hid (by unfold stRow; rw [if_pos e])
  have HM := Lib.hid h.2.1
  obtain ⟨hst, hm, A, cap, hL, hS⟩ := h
  have E := Lib.hid e
  have hs0 := sumP_pos (ok_pos hst.ok)
  have hs1 := hst.sum
  have hcn := hst.cnt i
  have HSM : Hid (sumP (addP L i c) = sumP L + c) := Lib.hid (add_sum (by omega))
  have HS := Lib.hid hS
  obtain ⟨n, hn⟩ : ∃ n, (lowP L i).length = n := ⟨_, rfl⟩
  have his : isP L i = false := by rw [← hp]; exact (is_part (L := L)).1
  have hadd : addP L i c = lowP L i ++ ((i, c) :: highP L i) := by unfold addP; rw [hm2, Int.zero_add]; unfold midP; rw [if_pos hc0]; rfl
  have hlen : (addP L i c).length = L.length + 1 := by rw [hadd]; have := congrArg List.length hp; simp only [List.length_append, List.length_cons] at this ⊢; omega
  have k7 : ¬ m ≤ (L.length : Int) := by omega
  obtain ⟨t, ht⟩ : ∃ t, sumP L = t := ⟨_, rfl⟩
  rw [ht] at hs0 hs1 hfit hL HSM hcn
  have HL := Lib.hid hL
  obtain ⟨N, hN⟩ : ∃ N : Nat, L.length = N := ⟨_, rfl⟩
  have HIN : Hid (∀ w', Below w.heap.size w w' → ∀ vb, OneP w' vb i c → w.heap.size ≤ vb → Calls Try.prog 31 #[.slice A N cap, .int .i64 n, .slice (some ⟨vb, 0, none⟩) 1 1] w' (AddedV w' A (addP L i c))) := Lib.hid fun w' hb' vb hv hvb => by
    rw [hadd]
    refine ins_any w' A cap n N vb _ _ i c (by rw [hp]; exact hL.row.call hb') hn (by rw [hp]; exact hN) (by omega) hv (fun e => ?_) hi hc
    have := hL.row.lt e
    omega
  have P1 : Hid (plus2B t c = true) := Lib.hid (by unfold plus2B; apply decide_eq_true; omega)
  have P2 : Hid (plus2Q t c = t + c) := Lib.hid (by unfold plus2Q; rw [P1.out]; rfl)
  have c00 : (c == 0) = false := by simp; omega
  have hF : ∀ w', Below w.heap.size w w' → Calls Try.prog 30 #[.slice A N cap, .int .i64 i] w' fun e w'' => e = .returned (.tuple #[.int .i64 n, .bool false]) ∧ Below w'.heap.size w' w'' :=
    fun w' hb' => hN ▸ find_big w' A cap L i _ _ (hL.row.pairs.call hb') (by omega) hst.good hi hn his
  have HF := Lib.hid hF
  have hBw := hL.lt
  have fin : ∀ w5 w6 A' cap', Below w.heap.size w w5 → Slab w6 A' cap' (addP L i c) → w5.grownBy w6 (blkA A) → (A' = A ∨ ∀ k, blkA A' = some k → w5.heap.size ≤ k) →
      w6.cell? ⟨B, 1, none⟩ = some (.slice A N cap) ∧ w6.cell? ⟨B, 2, none⟩ = some (.int .u64 t) ∧ w6.frozen? ⟨B, 1, none⟩ = false ∧ w6.frozen? ⟨B, 2, none⟩ = false ∧
      AddsS w B S m L i c (.returned (.int .i64 0)) ((w6.setCell ⟨B, 1, none⟩ (.slice A' (addP L i c).length cap')).setCell ⟨B, 2, none⟩ (.int .u64 (t + c))) := by
    intro w5 w6 A' cap' hb5 hr hg hor3
    have hL5 := HL.out.call hb5
    have hB6 : w6.heap[B]? = w5.heap[B]? := hg.block B (Nat.lt_of_lt_of_le hBw hb5.size) (fun e => HL.out.ne e.symm rfl)
    have hb6 := hB6.trans hL5.b
    have hne : ∀ k, blkA A' = some k → k ≠ B := fun k hk => by
      rcases hor3 with rfl | hf'
      · exact HL.out.ne hk
      · have := hf' k hk; have := hb5.size; omega
    refine ⟨by rw [Joins.cell_of_block hb6, ← hN]; rfl, by rw [Joins.cell_of_block hb6]; rfl, free8 hb6 _, free8 hb6 _, fun k => k = B ∨ blkA A' = some k, by rw [E.out], ?_, ?_, ?_⟩
    · rw [HRW.out]
      have hst2 := HST.out
      rw [HRW.out] at hst2
      refine ⟨hst2, HM.out, A', cap', ⟨?_, hr.keep fun k hk => ?_⟩, fun k => Iff.rfl⟩
      · rw [HSM.out]
        exact set_cells8 (set_cells8 hb6 1 _) 2 _
      · rw [Below.heap_setCell _ _ _ _ (hne k hk), Below.heap_setCell _ _ _ _ (hne k hk)]
    · have hk1 : Keeps S w w6 := keeps_grown (grown_trans (grown_of_below8 hb5) hg) fun k hk => (HS.out k).2 (Or.inr hk)
      exact (hk1.set 1 _ (Or.inl ((HS.out B).2 (Or.inl rfl)))).set 2 _ (Or.inl ((HS.out B).2 (Or.inl rfl)))
    · rintro k (rfl | hk)
      · exact Or.inl ((HS.out k).2 (Or.inl rfl))
      · rcases hor3 with rfl | hf'
        · exact Or.inl ((HS.out k).2 (Or.inr hk))
        · exact Or.inr (Nat.le_trans hb5.size (hf' k hk))
  have FIN := Lib.hid fin
  have hc1' := hL.c1
  have hc2' := hL.c2
  have hc0' := hL.c0
  rw [hN] at hc1' k7
  have k8 : decide (m ≤ (N : Int)) = false := decide_eq_false k7
  obtain ⟨hc1, hc2⟩ := hc
  obtain ⟨m0, m1⟩ := hm
  obtain ⟨i0, i1⟩ := hi
  clear fin e hst hL hS ht hF hn his hadd hlen hp hm2 hcn hf
  go_enter Try.func14, Try.ntmps14
  go_wp2_with fail
  refine (plus_two t c (t + c) true _ _ _ ⟨by omega, by omega⟩ ⟨by omega, by omega⟩ (two_new8 w _ _ _).1 (two_new8 w _ _ _).2 P2.out P1.out).mono ?_
  rintro e w3 ⟨rfl, rfl⟩
  have hb3 : Below w.heap.size w (w.alloc (.cells #[.int .u64 t, .int .u64 c] 28)) := (Below.refl _ _).alloc (Nat.le_refl _) _
  have d1 := cell_later hb3 hc1'
  have d0 := cell_later hb3 hc0'
  have HB3 := Lib.hid hb3
  clear hb3
  go_wp2_with fail
  refine (HF.out _ HB3.out).mono ?_
  rintro e w4 ⟨rfl, hb4⟩
  have g1 := cell_later hb4 d1
  have g0 := cell_later hb4 d0
  have HB4 := Lib.hid (HB3.out.trans (hb4.mono HB3.out.size))
  clear hb4 d1 d0 hc0' hc1' hc2'
  go_wp2_with fail
  go_quiet (fail)
  have hb5 := below_drewN HB4.out nq
  have g1 := cell_later (below_drewN (Below.refl w4.heap.size w4) nq) g1
  generalize w4.drewN nq = w5 at *
  have HB5 := Lib.hid hb5
  have hb6 : Below w.heap.size w (w5.alloc (.cells #[.int .i64 i, .int .u64 c] 30)) := hb5.alloc hb5.size _
  have HB6 := Lib.hid hb6
  have HI6 := Lib.hid (HIN.out _ hb6 w5.heap.size ⟨heap_alloc_new _ _⟩ hb5.size)
  clear hb5 hb6 g0
  go_wp2_with fail
  refine HI6.out.mono ?_
  rintro e w6 ⟨A', cap', rfl, hr, hg, hor3⟩
  obtain ⟨x1, x2, x3, x4, hfin⟩ := FIN.out _ w6 A' cap' HB6.out hr hg hor3
  have HFI := Lib.hid hfin
  clear hfin hr hg hor3
  go_wp2_with fail
  go_ret
  exact HFI.out

theorem sadd_any (w : World) (B : Nat) (S : Nat → Prop) (m : Int) (L : List PairV) (i c : Int) (h : StX w B S m L) (hl : L.length ≤ 900) (hi : I64 i) (hc : Word c) :
    Calls Try.prog 14 #[.pointer (some ⟨B, 0, none⟩), .int .i64 i, .int .u64 c] w (AddsS w B S m L i c) := by
  rcases stErr_cases (m := m) (L := L) (i := i) hc with hz | hbig | ⟨h1, h2, h3, e⟩ | ⟨h1, h2, h3, e⟩
  · exact sadd_no w B S m L i c h hl hi hc (Or.inl hz)
  · exact sadd_no w B S m L i c h hl hi hc (Or.inr hbig)
  · exact sadd_full w B S m L i c h hl hi hc h1 h2 h3 e
  · rcases good_part i h.1.good with ⟨mm, e1, e2, e3⟩ | ⟨e1, e2⟩
    · exact sadd_in w B S m L i c mm h hl hi hc h1 h2 e e1 e2 e3
    · exact sadd_new w B S m L i c h hl hi hc h1 h2 h3 e e1 e2
end Go.Proofs.Ytnhhehinbobknaa
