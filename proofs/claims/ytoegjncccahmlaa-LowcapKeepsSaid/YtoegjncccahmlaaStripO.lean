/-
  Walks: package strip: First, Last, of a strip and of a nil one.
-/
import Derived.Test.YtoegjncccahmlaaStripA
import Derived.Deep.RegionWith
namespace Go.Proofs.Ytoegjncccahmlaa
set_option linter.unusedVariables false
set_option linter.unusedSimpArgs false
open Go.RowKit

set_option maxRecDepth 100000 in
set_option maxHeartbeats 1000000 in
theorem sfirst_none (w : World) (p A : Option Addr) (cap : Nat) (h : OwnsV w p A 0 cap) :
    Calls Try.prog 56 #[.pointer p] w fun e w' => e = .returned (.tuple #[.agg #[.int .i64 0, .int .u64 0], .bool false]) ∧ Below w.heap.size w w' := by
  have hB : Below w.heap.size w (w.alloc (.cells #[.int .i64 0, .int .u64 0] 34)) := (Below.refl w.heap.size w).alloc (Nat.le_refl _) _
  have HB := Lib.hid hB
  have hO : OwnsV (w.alloc (.cells #[.int .i64 0, .int .u64 0] 34)) p A 0 cap := fun w' hb => h w' (hB.trans (hb.mono hB.size))
  have H := Lib.hid (slen_of _ p A 0 cap hO)
  clear h hB hO
  go_enter Try.func56, Try.ntmps56
  go_wp2_with fail
  refine H.out.mono ?_
  rintro e w2 ⟨rfl, rfl⟩
  go_wp2_with fail
  exact bodyPost_ret (v := .tuple #[.agg #[.int .i64 0, .int .u64 0], .bool false]) (by simp [results, Try.results56, go_sem]) rfl ⟨rfl, HB.out⟩

/-- A strip on its way: its block holds these; all else that was is as it was. -/
structure Left (w : World) (B : Nat) (m : Int) (V : Value) (t : Int) (X : World) : Prop where
  b : X.heap[B]? = some (.cells #[.int .i64 m, V, .int .u64 t] 74 (0, 0))
  k : Keeps (fun k => k = B) w X
theorem Left.start {w w2 : World} {B : Nat} {A : Option Addr} {n cap : Nat} {m t : Int} {L : List PairV} (h : LayS w B A n cap m t L) (b2 : Below w.heap.size w w2) (V : Value) (o : Obj) : Left w B m V t ((w2.setCell ⟨B, 1, none⟩ V).alloc o) := by
  have h1 : (w2.setCell ⟨B, 1, none⟩ V).heap[B]? = some (.cells #[.int .i64 m, V, .int .u64 t] 74 (0, 0)) := set_cells8 (h.call b2).b 1 V
  exact ⟨(heap_alloc_old _ _ (lt_of_block h1)).trans h1, (Keeps.set (S := fun k => k = B) (Keeps.of_below b2) 1 V (Or.inl rfl)).new o⟩
theorem Left.draws {w X : World} {B : Nat} {m t : Int} {V : Value} (h : Left w B m V t X) (n : Nat) : Left w B m V t (X.drewN n) := ⟨((below_drewN (Below.refl X.heap.size X) n).block _ (lt_of_block h.b)).trans h.b, h.k.draws n⟩
theorem Left.total {w X : World} {B : Nat} {m t : Int} {V : Value} (h : Left w B m V t X) (t' : Int) : Left w B m V t' (X.setCell ⟨B, 2, none⟩ (.int .u64 t')) := ⟨set_cells8 h.b 2 _, h.k.set 2 _ (Or.inl rfl)⟩
theorem Left.box {w X : World} {B : Nat} {m t : Int} {V : Value} (h : Left w B m V t X) (hB : B < w.heap.size) (o : Nat) (u : Value) : Left w B m V t (X.setCell ⟨w.heap.size, o, none⟩ u) :=
  ⟨by rw [Below.heap_setCell _ _ _ _ (by show B ≠ w.heap.size; omega)]; exact h.b, h.k.set o u (Or.inr (Nat.le_refl _))⟩
theorem left_facts {w w2 : World} {B : Nat} {A : Option Addr} {n cap : Nat} {m t : Int} {L : List PairV} (h : LayS w B A n cap m t L) (b2 : Below w.heap.size w w2) (hz : w2.heap.size = w.heap.size + 1) (hw : Two w2 w.heap.size (.int .i64 0) (.int .u64 0)) (V : Value) (px pc : Int) :
    ∃ X, (w2.setCell ⟨B, 1, none⟩ V).alloc (.cells #[.int .i64 px, .int .u64 pc] 34) = X ∧ Left w B m V t X ∧ X.cell? ⟨B, 2, none⟩ = some (.int .u64 t) ∧ X.frozen? ⟨B, 2, none⟩ = false ∧
      X.cell? ⟨w.heap.size + 1, 0, none⟩ = some (.int .i64 px) ∧ X.cell? ⟨w.heap.size + 1, 1, none⟩ = some (.int .u64 pc) ∧ Two X w.heap.size (.int .i64 0) (.int .u64 0) := by
  have h1 := Left.start h b2 V (.cells #[.int .i64 px, .int .u64 pc] 34)
  have hsz : (w2.setCell ⟨B, 1, none⟩ V).heap.size = w.heap.size + 1 := by simpa [World.setCell] using hz
  have h2 : ((w2.setCell ⟨B, 1, none⟩ V).alloc (.cells #[.int .i64 px, .int .u64 pc] 34)).heap[w.heap.size + 1]? = some (.cells #[.int .i64 px, .int .u64 pc] 34 (0, 0)) := by
    have := heap_alloc_new (w2.setCell ⟨B, 1, none⟩ V) (.cells #[.int .i64 px, .int .u64 pc] 34)
    rwa [hsz] at this
  have hBl := h.lt
  refine ⟨_, rfl, h1, by rw [Joins.cell_of_block h1.b]; rfl, free8 h1.b _, by rw [Joins.cell_of_block h2]; rfl, by rw [Joins.cell_of_block h2]; rfl, ?_⟩
  refine hw.block ?_
  rw [heap_alloc_old _ _ (by rw [hsz]; omega), Below.heap_setCell _ _ _ _ (by show w.heap.size ≠ B; omega)]
theorem left_done {w X : World} {B : Nat} {m t : Int} {V : Value} {px pc : Int} (h : Left w B m V t X) (hB : B < w.heap.size) (p0 : X.cell? ⟨w.heap.size + 1, 0, none⟩ = some (.int .i64 px)) (p1 : X.cell? ⟨w.heap.size + 1, 1, none⟩ = some (.int .u64 pc)) (hw : Two X w.heap.size (.int .i64 0) (.int .u64 0)) (t' : Int) :
    ∃ Y, (X.setCell ⟨B, 2, none⟩ (.int .u64 t')).drew = Y ∧ Y.cell? ⟨w.heap.size + 1, 0, none⟩ = some (.int .i64 px) ∧ Y.cell? ⟨w.heap.size + 1, 1, none⟩ = some (.int .u64 pc) ∧ Two Y w.heap.size (.int .i64 0) (.int .u64 0) ∧
      (Y.setCell ⟨w.heap.size, 0, none⟩ (.int .i64 px)).cell? ⟨w.heap.size, 0, none⟩ = some (.int .i64 px) ∧
      ((Y.setCell ⟨w.heap.size, 0, none⟩ (.int .i64 px)).setCell ⟨w.heap.size, 1, none⟩ (.int .u64 pc)).cell? ⟨w.heap.size, 1, none⟩ = some (.int .u64 pc) ∧
      Left w B m V t' ((Y.setCell ⟨w.heap.size, 0, none⟩ (.int .i64 px)).setCell ⟨w.heap.size, 1, none⟩ (.int .u64 pc)) := by
  have hL : Left w B m V t' ((X.setCell ⟨B, 2, none⟩ (.int .u64 t')).drew) := (h.total t').draws 1
  have e : ∀ k, k ≠ B → ((X.setCell ⟨B, 2, none⟩ (.int .u64 t')).drew).heap[k]? = X.heap[k]? := fun k hk => Below.heap_setCell _ _ _ _ hk
  have hT : Two ((X.setCell ⟨B, 2, none⟩ (.int .u64 t')).drew) w.heap.size (.int .i64 0) (.int .u64 0) := hw.block (e _ (by omega))
  refine ⟨_, rfl, (World.cell?_of_block (a := ⟨w.heap.size + 1, 0, none⟩) (e (w.heap.size + 1) (by omega))).trans p0, (World.cell?_of_block (a := ⟨w.heap.size + 1, 1, none⟩) (e (w.heap.size + 1) (by omega))).trans p1, hT, World.cell?_setCell_same _ _ _ hT.c0, ?_, (hL.box hB _ _).box hB _ _⟩
  exact World.cell?_setCell_same _ _ _ (u := .int .u64 0) (by rw [World.cell?_setCell_other _ _ _ _ (two_off (by omega))]; exact hT.c1)
theorem left_end {w X : World} {B : Nat} {A A' : Option Addr} {n n' cap cap' : Nat} {m t t' : Int} {L L' : List PairV} {S : Nat → Prop} (h : LayS w B A n cap m t L) (hS : ∀ k, S k ↔ k = B ∨ blkA A = some k)
    (hA : ∀ k, blkA A' = some k → blkA A = some k) (hr : Slab w A' cap' L') (hn : L'.length = n') (hst : Stp m L') (hm : I64 m) (ht : sumP L' = t') (hX : Left w B m (.slice A' n' cap') t' X) :
    ∃ S', StX X B S' m L' ∧ Keeps S w X ∧ (∀ k, S' k → S k ∨ w.heap.size ≤ k) := by
  subst hn ht
  refine ⟨fun k => k = B ∨ blkA A' = some k, ⟨hst, hm, A', cap', ⟨hX.b, ?_⟩, fun k => Iff.rfl⟩, ?_, ?_⟩
  · exact hr.keep fun k hk => hX.k.block k (hr.lt hk) (h.ne (hA k hk))
  · exact ⟨hX.k.os, hX.k.tape, hX.k.output, hX.k.size, fun k hk hn => hX.k.block k hk (fun e => hn ((hS k).2 (Or.inl e)))⟩
  · rintro k (rfl | hk)
    · exact Or.inl ((hS k).2 (Or.inl rfl))
    · exact Or.inl ((hS k).2 (Or.inr (hA k hk)))

set_option maxRecDepth 100000 in
set_option maxHeartbeats 4000000 in
theorem sfirst_some (w : World) (B : Nat) (S : Nat → Prop) (m : Int) (L : List PairV) (h : StX w B S m L) (hl : L.length ≤ 900) (hne : L ≠ []) :
    Calls Try.prog 56 #[.pointer (some ⟨B, 0, none⟩)] w fun e w' => ∃ S', e = .returned (.tuple #[.agg #[.int .i64 (firP L).1, .int .u64 (firP L).2], .bool (!L.isEmpty)]) ∧ StX w' B S' m L.tail ∧ Keeps S w w' ∧ (∀ k, S' k → S k ∨ w.heap.size ≤ k) := by
  have HT8 := Lib.hid (stp_tail h.1)
  obtain ⟨hst, hm, A, cap, hL, hS⟩ := h
  obtain ⟨px, pc, hx0⟩ : ∃ px pc, L[0]? = some (px, pc) := by
    cases L with
    | nil => exact absurd rfl hne
    | cons p r => exact ⟨p.1, p.2, rfl⟩
  obtain ⟨N, hN⟩ : ∃ N, L.length = N := ⟨_, rfl⟩
  have hpos : 0 < N := by rw [← hN]; cases L with
    | nil => exact absurd rfl hne
    | cons p r => simp
  obtain ⟨nn, hnn⟩ : ∃ nn, N - 1 = nn := ⟨_, rfl⟩
  have HF : Hid (firP L = (px, pc) ∧ (!L.isEmpty) = true ∧ L.tail.length = nn ∧ sumP L.tail = sumP L - pc ∧ 0 ≤ pc) := Lib.hid (by
    have hok := ok_pos hst.ok
    cases L with
    | nil => exact absurd rfl hne
    | cons p r =>
      obtain rfl := Option.some.inj hx0
      refine ⟨rfl, rfl, ?_, ?_, hok (px, pc) (by simp)⟩
      · rw [List.length_cons] at hN; show r.length = nn; omega
      · rw [sumP_cons]; show sumP r = pc + sumP r - pc; omega)
  rw [HF.out.1, HF.out.2.1]
  obtain ⟨g, off, rfl, hbl, d0, d1⟩ := hL.row.pairs.at_ 0 _ hx0
  simp only [Nat.zero_mul, Nat.add_zero] at d0 d1
  have hfit := hL.row.fit
  have htl : L.drop 1 = L.tail := List.drop_one
  have hpt : Pairs w (some ⟨g, off + 2, none⟩) L.tail := by have := hL.row.pairs.shift 1; rw [htl] at this; exact this
  have hblk : ∃ cs, w.heap[g]? = some (.cells cs 34 (0, 0)) := by
    rcases hL.row.blk with ⟨e, _⟩ | ⟨g', off', cs, e, hb⟩
    · cases e
    · obtain ⟨rfl, rfl, _⟩ := Addr.mk.inj (Option.some.inj e)
      exact ⟨cs, hb⟩
  obtain ⟨cs, hcs⟩ := hblk
  have hs0 := sumP_tail (ok_pos hst.ok)
  have hs1 := hst.sum
  obtain ⟨t, ht⟩ : ∃ t, sumP L = t := ⟨_, rfl⟩
  have h2 := HF.out.2.2.2.1
  have h3 := HF.out.2.2.2.2
  rw [ht] at hs0 hs1 h2
  rw [h2] at hs0
  rw [ht, hN] at hL
  have ut : IntKind.u64.wrap (t - pc) = t - pc := by rw [IntKind.wrap_u64]; omega
  have hBw := hL.lt
  have hBg : g ≠ B := hL.ne rfl
  have HA1 : Hid (∀ k, blkA (some ⟨g, off + 2, none⟩) = some k → blkA (some ⟨g, off, none⟩) = some k) := Lib.hid fun k hk => hk
  have HL := Lib.hid hL
  have HS := Lib.hid hS
  have HM := Lib.hid hm
  have HR1 : Hid (cap ≠ 1 → Slab w (some ⟨g, off + 2, none⟩) (cap - 1) L.tail) := Lib.hid fun hc => ⟨hpt, by rw [List.length_tail]; omega, Or.inr ⟨g, off + 2, cs, rfl, hcs⟩⟩
  have HR0 : Hid (N = 1 → Slab w (some ⟨g, off, none⟩) 0 L.tail ∧ L.tail.length = 0) := Lib.hid fun hc => by
    have h1 : L.tail.length = 0 := by rw [List.length_tail]; omega
    have h2 : L.tail = [] := List.eq_nil_of_length_eq_zero h1
    rw [h2]
    exact ⟨⟨⟨fun p h => (by cases h), fun i p h => by simp at h⟩, by simp, Or.inr ⟨g, off, cs, rfl, hcs⟩⟩, rfl⟩
  have kk : (0 : Int) < N := by omega
  have kk1 : ((N : Int) == 0) = false := by simp; omega
  obtain ⟨w2, hw2⟩ : ∃ w2, (w.alloc (.cells #[.int .i64 0, .int .u64 0] 34)) = w2 := ⟨_, rfl⟩
  have b2 : Below w.heap.size w w2 := by rw [← hw2]; exact (Below.refl _ _).alloc (Nat.le_refl _) _
  have hO2 : OwnsV w2 (some ⟨B, 0, none⟩) (some ⟨g, off, none⟩) N cap := owns_at (cell_later b2 hL.c1)
  have H := Lib.hid (slen_of _ _ _ _ _ hO2)
  have q1 := cell_later b2 hL.c1
  have e0 := cell_later b2 d0
  have e1 := cell_later b2 d1
  have hz2 : w2.heap.size = w.heap.size + 1 := by rw [← hw2]; simp
  have B2 := Lib.hid b2
  have f1 : w2.frozen? ⟨B, 1, none⟩ = false := (hL.call b2).f 1
  have HW2 : Hid (Two w2 w.heap.size (.int .i64 0) (.int .u64 0)) := Lib.hid (by rw [← hw2]; exact Two.new _ _ _ _)
  have hN9 : N ≤ 900 := by omega
  have HN := Lib.hid hnn
  have HSUM := Lib.hid h2
  have hcap : N ≤ cap := by omega
  have hNN : (nn : Int) ≤ 900 := by omega
  clear hst hm hx0 hN hL hS hne hl hnn hfit htl hpt hcs ht h2 h3 hO2 b2 d0 d1 hbl
  go_enter Try.func56, Try.ntmps56
  go_wp2_with fail
  clear hw2
  refine H.out.mono ?_
  rintro e w3 ⟨rfl, rfl⟩
  by_cases hc1 : cap = 1
  · subst hc1
    obtain rfl : N = 1 := by omega
    go_wp2_with fail
    obtain ⟨X, hX, hLf, x2, xf, p0, p1, hTw⟩ := left_facts HL.out B2.out hz2 HW2.out (.slice (some ⟨g, off, none⟩) 0 0) px pc
    rw [hX]
    clear hX
    have HLF := Lib.hid hLf
    have HTW := Lib.hid hTw
    clear hLf hTw e0 e1 q1
    go_region
    obtain ⟨Y, hY, y0, y1, ⟨j0, j1, j2, j3⟩, q5, q6, hLY⟩ := left_done HLF.out hBw p0 p1 HTW.out (t - pc)
    rw [hY]
    have Q5 := Lib.hid q5
    have Q6 := Lib.hid q6
    have HLY := Lib.hid hLY
    clear hY q5 q6 hLY
    go_wp2_with fail
    refine bodyPost_ret (v := .tuple #[.agg #[.int .i64 px, .int .u64 pc], .bool true]) (by simp [results, Try.results56, go_sem, Q5.out, Q6.out]) rfl ?_
    obtain ⟨S', hs1, hs2, hs3⟩ := left_end HL.out HS.out (fun k hk => hk) (HR0.out trivial).1 (HR0.out trivial).2 HT8.out HM.out HSUM.out HLY.out
    exact ⟨S', rfl, hs1, hs2, hs3⟩
  · go_wp2_with fail
    obtain ⟨X, hX, hLf, x2, xf, p0, p1, hTw⟩ := left_facts HL.out B2.out hz2 HW2.out (.slice (some ⟨g, off + 2, none⟩) (N - 1) (cap - 1)) px pc
    rw [hX]
    clear hX
    have HLF := Lib.hid hLf
    have HTW := Lib.hid hTw
    clear hLf hTw e0 e1 q1
    go_region
    obtain ⟨Y, hY, y0, y1, ⟨j0, j1, j2, j3⟩, q5, q6, hLY⟩ := left_done HLF.out hBw p0 p1 HTW.out (t - pc)
    rw [hY]
    have Q5 := Lib.hid q5
    have Q6 := Lib.hid q6
    have HLY := Lib.hid hLY
    clear hY q5 q6 hLY
    go_wp2_with fail
    refine bodyPost_ret (v := .tuple #[.agg #[.int .i64 px, .int .u64 pc], .bool true]) (by simp [results, Try.results56, go_sem, Q5.out, Q6.out]) rfl ?_
    obtain ⟨S', hs1, hs2, hs3⟩ := left_end HL.out HS.out HA1.out (HR1.out hc1) (HF.out.2.2.1.trans HN.out.symm) HT8.out HM.out HSUM.out HLY.out
    exact ⟨S', rfl, hs1, hs2, hs3⟩

theorem empty_len {L : List PairV} (h : L = []) : L.length = 0 := by rw [h]; rfl

theorem sfirst_any (w : World) (B : Nat) (S : Nat → Prop) (m : Int) (L : List PairV) (h : StX w B S m L) (hl : L.length ≤ 900) :
    Calls Try.prog 56 #[.pointer (some ⟨B, 0, none⟩)] w fun e w' => ∃ S', e = .returned (.tuple #[.agg #[.int .i64 (firP L).1, .int .u64 (firP L).2], .bool (!L.isEmpty)]) ∧ StX w' B S' m L.tail ∧ Keeps S w w' ∧ (∀ k, S' k → S k ∨ w.heap.size ≤ k) := by
  by_cases hne : L = []
  · subst hne
    have hX := h
    obtain ⟨hst, hm, A, cap, hL, hS⟩ := h
    refine (sfirst_none w _ A cap (owns_at hL.c1)).mono ?_
    rintro e w1 ⟨rfl, b1⟩
    exact ⟨S, rfl, stx_keep _ _ _ _ _ _ hX (fun k hk => b1.block k (stx_lt _ _ _ _ _ hX k hk)), Keeps.of_below b1, fun k hk => Or.inl hk⟩
  · exact sfirst_some w B S m L h hl hne

end Go.Proofs.Ytoegjncccahmlaa