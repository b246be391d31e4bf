/-
  How a row of things that are asked for, that comes in as an argument, is opened.
-/
import Derived.Test.YtpnbhgnpofoeaaaQuillV
import Derived.Test.YtpnbhgnpofoeaaaQuillO
import Derived.Test.YtpnbhgnpofoeaaaOpen
import Derived.ProofKit
namespace Go.Proofs.Ytpnbhgnpofoeaaa
set_option linter.unusedVariables false
set_option linter.unusedSimpArgs false
open Go.ChangeShapes Go.WideShapes Go.ChangeAt Go.RowKit Go.Joins

theorem cellsAsk : Try.prog.cellsOf 38 = 3 := by kernel_rfl
theorem bytesAsk : Try.prog.bytesOf 38 = 24 := by kernel_rfl
instance : Inhabited AskV := ⟨⟨0, 0, 0⟩⟩
/-- Three cells that read as a thing that is asked for. -/
theorem open_ask {H : Type} {enc : TypeId × Value → H} {W : World} {base n : Nat} {spare : Nat → Bool} {held : Bool} {ad : Addr} {cs : List Value} {d : DataW H} {pl : List MemPlace}
    (hc : W.cells? base ad 3 = some cs) (h : DataW.trod enc Try.prog W base spare held n 38 cs = some (d, pl)) :
    ∃ it : AskV, I64 it.kind ∧ Word it.u ∧ I64 it.n ∧
      W.cell? (ad.add 0) = some (.int .i64 it.kind) ∧ W.cell? (ad.add 1) = some (.int .u64 it.u) ∧ W.cell? (ad.add 2) = some (.int .i64 it.n) := by
  obtain ⟨_, hl, hat⟩ := World.cells?_some hc
  obtain ⟨ys, m, _, hx, _, hyl, hf⟩ := DataW.trod_struct Try.underlying38 h
  match cs, hl with
  | [x0, x1, x2], _ =>
    have h0 := hf 0 _ rfl
    have h1 := hf 1 _ rfl
    have h2 := hf 2 _ rfl
    match ys, hyl with
    | [y0, y1, y2], _ =>
      obtain ⟨k, e0, r0, w0⟩ := DataW.trod_int Try.underlying3 h0
      obtain ⟨u, e1, r1, w1⟩ := DataW.trod_int Try.underlying29 h1
      obtain ⟨x, e2, r2, w2⟩ := DataW.trod_int Try.underlying3 h2
      have g0 : [x0] = [.int .i64 k] := e0
      have g1 : [x1] = [.int .u64 u] := e1
      have g2 : [x2] = [.int .i64 x] := e2
      simp only [List.cons.injEq, and_true] at g0 g1 g2
      subst g0 g1 g2
      exact ⟨⟨k, u, x⟩, i64_of_wf w0, word_of_wf w1, i64_of_wf w2, hat 0 (by omega), hat 1 (by omega), hat 2 (by omega)⟩

theorem open_asks {H : Type} {enc : TypeId × Value → H} {W : World} {base : Nat} {v : Value} {d : DataW H} {p : List MemPlace}
    (hv : Value.okWide Try.prog W .any base 36 v) (h : DataW.Trod enc Try.prog W 0 (fun _ => true) true 36 v d p)
    (hz : ∀ n ∈ DataW.weights Try.prog 36 d, n ≤ reachBytes) (hlt : ∀ x ∈ p, x.block < W.heap.size) :
    ∃ A cap L, v = .slice A (List.length L) cap ∧ Asks W A L ∧ (A = none → cap = 0) ∧ L.length ≤ 140737488351232 := by
  obtain ⟨a0, len, cap, rfl⟩ := okWide_slice Try.underlying36 hv
  obtain ⟨fuel, hf⟩ := h
  rcases Go.Deep.open_slice Try.underlying36 hf with ⟨hcs, hx⟩ | ⟨a, len', cap', m, n, D, Pl, hcs, _, hl, hm, hmm, hx, hi⟩
  · simp [Value.cells] at hcs
    obtain ⟨rfl, rfl, rfl⟩ := hcs
    exact ⟨none, 0, [], rfl, ⟨fun it hi => (by cases hi), fun i it hi => (by simp at hi)⟩, fun _ => rfl, Nat.zero_le _⟩
  · simp [Value.cells] at hcs
    obtain ⟨rfl, rfl, rfl⟩ := hcs
    simp only [if_true] at hmm
    obtain rfl : cap = m := hmm.symm
    simp only [Prod.mk.injEq] at hx
    obtain ⟨rfl, rfl⟩ := hx
    have hlen : len ≤ 140737488351232 := by
      have := hz ((((List.range len).map D).length + ((List.range (cap - len)).map fun j => D (len + j)).length) * Try.prog.bytesOf 38) (by
        unfold DataW.weights
        rw [Try.underlying36]
        exact List.mem_cons_self)
      rw [bytesAsk] at this
      simp only [List.length_map, List.length_range, reachBytes] at this
      omega
    have hall : ∀ i, i < len → ∃ it : AskV, it.ok ∧ W.cell? (a.add (i * 3)) = some (.int .i64 it.kind) ∧ W.cell? (a.add (i * 3 + 1)) = some (.int .u64 it.u) ∧
        W.cell? (a.add (i * 3 + 2)) = some (.int .i64 it.n) := by
      intro i hi'
      obtain ⟨cs', hc, ht⟩ := hi i (by omega)
      rw [cellsAsk] at hc
      obtain ⟨it, i1, i2, i3, c0, c1, c2⟩ := open_ask hc ht
      rw [add_more] at c0 c1 c2
      exact ⟨it, ⟨i1, i2, i3⟩, c0, c1, c2⟩
    obtain ⟨f, hf'⟩ := Go.Deep.choose_lt hall
    refine ⟨some a, cap, (List.range len).map f, by simp, ⟨?_, ?_⟩, (fun h => by cases h), by simpa using hlen⟩
    · intro it hit
      obtain ⟨i, hi1, rfl⟩ := List.mem_map.1 hit
      exact (hf' i (List.mem_range.1 hi1)).1
    · intro i it hit
      have hil : i < len := by
        have := lt_of_some' hit
        simpa using this
      simp only [List.getElem?_map, List.getElem?_range hil, Option.map_some, Option.some.injEq] at hit
      subst hit
      obtain ⟨_, c0, c1, c2⟩ := hf' i hil
      obtain ⟨b, off, spot⟩ := a
      have hspot : spot = none := by
        have z0 := (hf' 0 (by omega)).2.1
        simpa [Addr.add] using World.cell?_spot z0
      subst hspot
      have hb : b < W.heap.size := by
        have := World.block_lt_of_cell? W _ c0
        revert this; unfold Addr.add; split <;> simp
      refine ⟨b, off, rfl, hb, ?_, ?_, ?_⟩
      · rw [← add_plain']; exact c0
      · rw [Nat.add_assoc, ← add_plain']; exact c1
      · rw [Nat.add_assoc, ← add_plain']; exact c2
end Go.Proofs.Ytpnbhgnpofoeaaa
