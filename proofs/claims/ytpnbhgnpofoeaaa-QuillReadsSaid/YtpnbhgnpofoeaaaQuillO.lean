/-
  How a row of things that comes in as an argument is opened.
-/
import Derived.Test.YtpnbhgnpofoeaaaQuillI
import Derived.Test.YtpnbhgnpofoeaaaOpen
import Derived.ProofKit
namespace Go.Proofs.Ytpnbhgnpofoeaaa
set_option linter.unusedVariables false
set_option linter.unusedSimpArgs false
open Go.ChangeShapes Go.WideShapes Go.ChangeAt Go.RowKit Go.Joins

theorem i64_of_wf' {x : Int} (h : (Lit.int .i64 x).wf = true) : I64 x := i64_of_wf h
theorem add_more (a : Addr) (i j : Nat) : (a.add i).add j = a.add (i + j) := Go.Deep.add_add a i j
theorem cellsItem : Try.prog.cellsOf 31 = 4 := by kernel_rfl
theorem bytesItem : Try.prog.bytesOf 31 = 40 := by kernel_rfl
instance : Inhabited ItemV := ⟨⟨0, 0, 0, ⟨#[]⟩⟩⟩
theorem lt_of_some' {α : Type} {l : List α} {k : Nat} {b : α} (h : l[k]? = some b) : k < l.length := by
  rcases Nat.lt_or_ge k l.length with h' | h'
  · exact h'
  · rw [List.getElem?_eq_none h'] at h; cases h
theorem add_plain' (b off j : Nat) : (⟨b, off, none⟩ : Addr).add j = ⟨b, off + j, none⟩ := by unfold Addr.add; split <;> simp_all
/-- Four cells that read as a thing. -/
theorem open_item {H : Type} {enc : TypeId × Value → H} {W : World} {base n : Nat} {spare : Nat → Bool} {held : Bool} {ad : Addr} {cs : List Value} {d : DataW H} {pl : List MemPlace}
    (hc : W.cells? base ad 4 = some cs) (h : DataW.trod enc Try.prog W base spare held n 31 cs = some (d, pl)) :
    ∃ it : ItemV, I64 it.kind ∧ Word it.u ∧ I64 it.x ∧ it.s.data.toList.length ∈ DataW.weights Try.prog 31 d ∧
      W.cell? (ad.add 0) = some (.int .i64 it.kind) ∧ W.cell? (ad.add 1) = some (.int .u64 it.u) ∧ W.cell? (ad.add 2) = some (.int .i64 it.x) ∧ W.cell? (ad.add 3) = some (.string it.s) := by
  obtain ⟨_, hl, hat⟩ := World.cells?_some hc
  obtain ⟨ys, m, _, hx, _, hyl, hf⟩ := DataW.trod_struct Try.underlying31 h
  match cs, hl with
  | [x0, x1, x2, x3], _ =>
    have h0 := hf 0 _ rfl
    have h1 := hf 1 _ rfl
    have h2 := hf 2 _ rfl
    have h3 := hf 3 _ rfl
    match ys, hyl with
    | [y0, y1, y2, y3], _ =>
      obtain ⟨k, e0, r0, w0⟩ := DataW.trod_int Try.underlying3 h0
      obtain ⟨u, e1, r1, w1⟩ := DataW.trod_int Try.underlying29 h1
      obtain ⟨x, e2, r2, w2⟩ := DataW.trod_int Try.underlying2 h2
      obtain ⟨s, e3, r3, w3⟩ := DataW.trod_string Try.underlying9 h3
      have g0 : [x0] = [.int .i64 k] := e0
      have g1 : [x1] = [.int .u64 u] := e1
      have g2 : [x2] = [.int .i64 x] := e2
      have g3 : [x3] = [.string s] := e3
      simp only [List.cons.injEq, and_true] at g0 g1 g2 g3
      subst g0 g1 g2 g3
      refine ⟨⟨k, u, x, s⟩, i64_of_wf w0, word_of_wf w1, i64_of_wf w2, ?_, hat 0 (by omega), hat 1 (by omega), hat 2 (by omega), hat 3 (by omega)⟩
      simp only [Prod.mk.injEq] at hx
      rw [hx.1]
      unfold DataW.weights
      rw [Try.underlying31]
      refine DataW.weights_mem_each (j := 3) (t := 9) (d := y3.1) rfl rfl _ ?_
      rw [r3]
      simp [DataW.weights]

theorem open_items {H : Type} {enc : TypeId × Value → H} {W : World} {base : Nat} {v : Value} {d : DataW H} {p : List MemPlace}
    (hv : Value.okWide Try.prog W .any base 22 v) (h : DataW.Trod enc Try.prog W 0 (fun _ => true) true 22 v d p)
    (hz : ∀ n ∈ DataW.weights Try.prog 22 d, n ≤ reachBytes) (hlt : ∀ x ∈ p, x.block < W.heap.size) :
    ∃ A cap L, v = .slice A (List.length L) cap ∧ Items W A L ∧ (A = none → cap = 0) ∧ L.length ≤ 140737488351232 := by
  obtain ⟨a0, len, cap, rfl⟩ := okWide_slice Try.underlying22 hv
  obtain ⟨fuel, hf⟩ := h
  rcases Go.Deep.open_slice Try.underlying22 hf with ⟨hcs, hx⟩ | ⟨a, len', cap', m, n, D, Pl, hcs, _, hl, hm, hmm, hx, hi⟩
  · simp [Value.cells] at hcs
    obtain ⟨rfl, rfl, rfl⟩ := hcs
    exact ⟨none, 0, [], rfl, ⟨fun it hi => (by cases hi), fun i it hi => (by simp at hi)⟩, fun _ => rfl, Nat.zero_le _⟩
  · simp [Value.cells] at hcs
    obtain ⟨rfl, rfl, rfl⟩ := hcs
    simp only [if_true] at hmm
    obtain rfl : cap = m := hmm.symm
    simp only [Prod.mk.injEq] at hx
    obtain ⟨rfl, rfl⟩ := hx
    have hw : DataW.weights Try.prog 22 (.slice ((List.range len).map D) ((List.range (cap - len)).map fun j => D (len + j))) =
        (((List.range len).map D).length + ((List.range (cap - len)).map fun j => D (len + j)).length) * Try.prog.bytesOf 31 ::
        (DataW.weightsAll Try.prog 31 ((List.range len).map D) ++ DataW.weightsAll Try.prog 31 ((List.range (cap - len)).map fun j => D (len + j))) := by
      conv => lhs; unfold DataW.weights
      rw [Try.underlying22]
    have hlen : len ≤ 140737488351232 := by
      have := hz _ (by rw [hw]; exact List.mem_cons_self)
      rw [bytesItem] at this
      simp only [List.length_map, List.length_range, reachBytes] at this
      omega
    have hmem : ∀ i, i < len → ∀ x ∈ DataW.weights Try.prog 31 (D i), x ≤ reachBytes := by
      intro i hi' x hx
      refine hz x ?_
      rw [hw]
      refine List.mem_cons_of_mem _ (List.mem_append_left _ ?_)
      have key : ∀ (l : List (DataW H)) (y : DataW H), y ∈ l → x ∈ DataW.weights Try.prog 31 y → x ∈ DataW.weightsAll Try.prog 31 l := by
        intro l
        induction l with
        | nil => intro y hy; cases hy
        | cons z r ih =>
          intro y hy hxy
          unfold DataW.weightsAll
          rcases List.mem_cons.1 hy with rfl | hy
          · exact List.mem_append_left _ hxy
          · exact List.mem_append_right _ (ih y hy hxy)
      exact key _ (D i) (List.mem_map.2 ⟨i, List.mem_range.2 hi', rfl⟩) hx
    have hall : ∀ i, i < len → ∃ it : ItemV, it.ok ∧ W.cell? (a.add (i * 4)) = some (.int .i64 it.kind) ∧ W.cell? (a.add (i * 4 + 1)) = some (.int .u64 it.u) ∧
        W.cell? (a.add (i * 4 + 2)) = some (.int .i64 it.x) ∧ W.cell? (a.add (i * 4 + 3)) = some (.string it.s) := by
      intro i hi'
      obtain ⟨cs', hc, ht⟩ := hi i (by omega)
      rw [cellsItem] at hc
      obtain ⟨it, i1, i2, i3, i4, c0, c1, c2, c3⟩ := open_item hc ht
      rw [add_more] at c0 c1 c2 c3
      refine ⟨it, ⟨i1, i2, i3, ?_⟩, c0, c1, c2, c3⟩
      have := hmem i hi' _ i4
      rw [Lib.size_eq]
      unfold reachBytes at this
      omega
    obtain ⟨f, hf'⟩ := Go.Deep.choose_lt hall
    refine ⟨some a, cap, (List.range len).map f, by simp, ⟨?_, ?_⟩, (fun h => by cases h), by simpa using hlen⟩
    · intro it hit
      obtain ⟨i, hi1, rfl⟩ := List.mem_map.1 hit
      exact (hf' i (List.mem_range.1 hi1)).1
    · intro i it hit
      have hil : i < len := by
        have := lt_of_some' hit
        simpa using this
      simp only [List.getElem?_map, List.getElem?_range hil, Option.map_some, Option.some.injEq] at hit
      subst hit
      obtain ⟨_, c0, c1, c2, c3⟩ := hf' i hil
      obtain ⟨b, off, spot⟩ := a
      have hspot : spot = none := by
        have z0 := (hf' 0 (by omega)).2.1
        simpa [Addr.add] using World.cell?_spot z0
      subst hspot
      have hb : b < W.heap.size := by
        have := World.block_lt_of_cell? W _ c0
        revert this; unfold Addr.add; split <;> simp
      refine ⟨b, off, rfl, hb, ?_, ?_, ?_, ?_⟩
      · rw [← add_plain']; exact c0
      · rw [Nat.add_assoc, ← add_plain']; exact c1
      · rw [Nat.add_assoc, ← add_plain']; exact c2
      · rw [Nat.add_assoc, ← add_plain']; exact c3
end Go.Proofs.Ytpnbhgnpofoeaaa
