/-
  What package coins is to do, told as properties of its calls; alive.
-/
import Derived.Test.YtecnlpkfcggimaaCoinS
import Derived.ArgAppend
namespace Go.Proofs.Ytecnlpkfcggimaa
set_option linter.unusedVariables false
set_option linter.unusedSimpArgs false
open Go.RowKit

/-- Cells that may be written. -/
structure Slots (w : World) (g o q : Nat) : Prop where
  c : ∀ i, i < q → ∃ v, w.cell? ⟨g, o + i, none⟩ = some v
  f : ∀ j, w.frozen? ⟨g, j, none⟩ = false
theorem Slots.put {w : World} {g o q j : Nat} {v : Value} (h : Slots w g o q) : Slots (w.setCell ⟨g, o + j, none⟩ v) g o q :=
  ⟨fun i hi => by
    obtain ⟨u, hu⟩ := h.c i hi
    by_cases e : i = j
    · subst e
      exact ⟨v, World.cell?_setCell_same _ _ _ hu⟩
    · exact ⟨u, by rw [World.cell?_setCell_other _ _ _ _ (fun e2 => absurd (Addr.mk.inj e2).2.1 (by omega))]; exact hu⟩, fun o => by rw [World.frozen?_setCell]; exact h.f o⟩
theorem Slots.call {w w' : World} {g o q : Nat} (h : Slots w g o q) (hb : w'.heap[g]? = w.heap[g]?) : Slots w' g o q :=
  ⟨fun i hi => by
    obtain ⟨u, hu⟩ := h.c i hi
    exact ⟨u, by rw [World.cell?_of_block (w := w) (a := ⟨g, o + i, none⟩) hb]; exact hu⟩, fun j => by rw [World.frozen?_of_block (w := w) (a := ⟨g, j, none⟩) hb]; exact h.f j⟩
/-- .. of a row, if there is one. -/
def SlotsV (w : World) (A : Option Addr) (q : Nat) : Prop := q = 0 ∨ ∃ g o, A = some ⟨g, o, none⟩ ∧ g < w.heap.size ∧ Slots w g o q
theorem SlotsV.call {w w' : World} {A : Option Addr} {q : Nat} (h : SlotsV w A q) (hb : Below w.heap.size w w') : SlotsV w' A q := by
  rcases h with h | ⟨g, o, e, hg, hs⟩
  · exact Or.inl h
  · exact Or.inr ⟨g, o, e, Nat.lt_of_lt_of_le hg hb.size, hs.call (hb.block g hg)⟩
/-- A row in new memory that has no spare room: what is appended to it comes into another block. -/
def FullN (w : World) (base : Nat) (v : Value) (L : List Int) : Prop :=
  ∃ A, v = .slice A L.length L.length ∧ (∀ i p, L[i]? = some p → ∃ b off, A = some ⟨b, off, none⟩ ∧ b < w.heap.size ∧ w.cell? ⟨b, off + i, none⟩ = some (.int .i64 p)) ∧ (A = none → L.length = 0) ∧ ∀ a, A = some a → base ≤ a.block ∧ a.block < w.heap.size
/-- A row in new memory that may be written, in its own cells. -/
def PartN (w : World) (base : Nat) (v : Value) (L : List Int) : Prop :=
  ∃ A cap, v = .slice A L.length cap ∧ L.length ≤ cap ∧ (∀ i p, L[i]? = some p → ∃ b off, A = some ⟨b, off, none⟩ ∧ b < w.heap.size ∧ w.cell? ⟨b, off + i, none⟩ = some (.int .i64 p)) ∧ SlotsV w A L.length ∧ ∀ a, A = some a → base ≤ a.block ∧ a.block < w.heap.size
/-- .. and both lie apart. -/
def SplitN (u v : Value) : Prop := ∀ b o n c b' o' n' c', u = .slice (some ⟨b, o, none⟩) n c → v = .slice (some ⟨b', o', none⟩) n' c' → ∀ i j, i < n → j < n' → (⟨b, o + i, none⟩ : Addr) ≠ ⟨b', o' + j, none⟩
theorem FullN.rows {w : World} {base : Nat} {v : Value} {L : List Int} (h : FullN w base v L) (hok : ∀ p, p ∈ L → I64 p) : ∃ A cap, v = .slice A L.length cap ∧ Nums w A L := by
  obtain ⟨A, rfl, h1, _⟩ := h
  exact ⟨A, _, rfl, hok, h1⟩
theorem PartN.rows {w : World} {base : Nat} {v : Value} {L : List Int} (h : PartN w base v L) (hok : ∀ p, p ∈ L → I64 p) : ∃ A cap, v = .slice A L.length cap ∧ Nums w A L := by
  obtain ⟨A, cap, rfl, _, h1, _⟩ := h
  exact ⟨A, _, rfl, hok, h1⟩
theorem PartN.slots {w : World} {base n cap : Nat} {A : Option Addr} {L : List Int} (h : PartN w base (.slice A n cap) L) (hn : L.length = n) : SlotsV w A n := by
  subst hn
  obtain ⟨A', cap', e, _, _, h2, _⟩ := h
  obtain ⟨rfl, _, _⟩ := Value.slice.inj e
  exact h2
theorem PartN.lt {w : World} {base : Nat} {v : Value} {L : List Int} (h : PartN w base v L) : ∀ k, v.ownBlock = some k → base ≤ k ∧ k < w.heap.size := by
  obtain ⟨A, cap, rfl, _, _, _, h3⟩ := h
  intro k hk
  cases A with
  | none => cases hk
  | some a => cases hk; exact h3 a rfl
theorem FullN.lt {w : World} {base : Nat} {v : Value} {L : List Int} (h : FullN w base v L) : ∀ k, v.ownBlock = some k → base ≤ k ∧ k < w.heap.size := by
  obtain ⟨A, rfl, _, _, h3⟩ := h
  intro k hk
  cases A with
  | none => cases hk
  | some a => cases hk; exact h3 a rfl
theorem FullN.call {w w' : World} {base : Nat} {v : Value} {L : List Int} (h : FullN w base v L) (hb : Below w.heap.size w w') : FullN w' base v L := by
  obtain ⟨A, rfl, h1, h2, h3⟩ := h
  refine ⟨A, rfl, fun i p hi => ?_, h2, fun a e => ⟨(h3 a e).1, Nat.lt_of_lt_of_le (h3 a e).2 hb.size⟩⟩
  obtain ⟨b, off, e, hlt, c0⟩ := h1 i p hi
  exact ⟨b, off, e, Nat.lt_of_lt_of_le hlt hb.size, cell_later hb c0⟩
theorem PartN.call {w w' : World} {base : Nat} {v : Value} {L : List Int} (h : PartN w base v L) (hb : Below w.heap.size w w') : PartN w' base v L := by
  obtain ⟨A, cap, rfl, h0, h1, h2, h3⟩ := h
  refine ⟨A, cap, rfl, h0, fun i p hi => ?_, h2.call hb, fun a e => ⟨(h3 a e).1, Nat.lt_of_lt_of_le (h3 a e).2 hb.size⟩⟩
  obtain ⟨b, off, e, hlt, c0⟩ := h1 i p hi
  exact ⟨b, off, e, Nat.lt_of_lt_of_le hlt hb.size, cell_later hb c0⟩
/-- Appending to a row that has no spare room: a new row. -/
theorem wpList_append_full {w : World} {ops : Array Oper} {rest : List Oper} {o : Oper} {a : Act} {Q : Exit → Act → World → Prop} (hgd : o.guard = none) (s x : Operand)
    (ho : o.op = .call { callee := .builtin .append, args := #[s, x], argTypes := #[31, 31] })
    (base : Nat) (v : Value) (L : List Int) (n : Nat) (hln : L.length = n) (ad : Addr) (m cx : Nat) (X : List Int) (hs : a.eval s = v) (hown : FullN w base v L)
    (hx : a.eval x = .slice (some ad) m cx) (hX : X.length = m) (h0 : ∀ i p, X[i]? = some p → w.cell? (ad.add i) = some (.int .i64 p)) (hm : 0 < m) (hn : n + m ≤ 100000)
    (h : ∀ v' w', OwnN w' w.heap.size v' (L ++ X) → w.grownBy w' none → wpList Try.prog ops Q rest (a.put o.dst v') w') : wpList Try.prog ops Q (o :: rest) a w := by
  subst hln hX
  obtain ⟨i0, hi, hz0, hz1, hz2⟩ := info_parts Try.infoInt18
  obtain ⟨A, rfl, h1, h2, h3⟩ := hown
  have hint : ∀ M : List Int, (intsL M).length = M.length * 1 := fun M => by unfold intsL; rw [List.length_map]; omega
  refine wpList_append_grows w hgd s x _ ho _ i0 _ 1 8 Try.underlying31 hi hz0 hz1 hz2 rfl (by decide) A L.length L.length (intsL L) hs (fun e => ⟨h2 e, h2 e⟩) (hint L) ?_ ad X.length cx (intsL X) hx (hint X) ?_ ?_ (by omega) (by unfold maxLen; omega) (by omega) (fun v' w' r1 r2 => h v' w' ?_ r2)
  · intro b e j u hu
    unfold intsL at hu
    rw [List.getElem?_map] at hu
    cases hj : L[j]? with
    | none => rw [hj] at hu; cases hu
    | some p =>
      rw [hj] at hu
      cases hu
      obtain ⟨b', off, e', _, c0⟩ := h1 j p hj
      rw [e] at e'
      cases e'
      rw [Addr.add_lit]
      exact c0
  · intro j u hu
    unfold intsL at hu
    rw [List.getElem?_map] at hu
    cases hj : X[j]? with
    | none => rw [hj] at hu; cases hu
    | some p =>
      rw [hj] at hu
      cases hu
      exact h0 j p hj
  · intro u hu
    unfold intsL at hu
    obtain ⟨p, _, rfl⟩ := List.mem_map.1 hu
    rfl
  · unfold OwnN
    rw [show intsL (L ++ X) = intsL L ++ intsL X by unfold intsL; rw [List.map_append], List.length_append]
    exact r1

/-- Tp w B x k: at block B lies a tape of word x of which k coins were used. -/
abbrev TapT := World → Nat → Int → Nat → Prop
structure TapDoes (Tp : TapT) : Prop where
  keep : ∀ (w w' : World) (B : Nat) (x : Int) (k : Nat), Tp w B x k → w'.heap[B]? = w.heap[B]? → Tp w' B x k
  lt : ∀ (w : World) (B : Nat) (x : Int) (k : Nat), Tp w B x k → B < w.heap.size
  new : ∀ (w : World) (x : Int), Word x → Calls Try.prog 9 #[.int .u64 x] w fun e w' => ∃ B, e = .returned (.pointer (some ⟨B, 0, none⟩)) ∧ Tp w' B x 0 ∧ w.heap.size ≤ B ∧ Below w.heap.size w w'
  next : ∀ (w : World) (B : Nat) (x : Int) (k : Nat), Tp w B x k → Word x → (k : Int) < 4611686018427387904 → Calls Try.prog 11 #[.pointer (some ⟨B, 0, none⟩)] w fun e w' => e = .returned (.bool (coinB x k)) ∧ Tp w' B x (k + 1) ∧ w.grownBy w' (some B)
  used : ∀ (w : World) (B : Nat) (x : Int) (k : Nat), Tp w B x k → Calls Try.prog 10 #[.pointer (some ⟨B, 0, none⟩)] w fun e w' => e = .returned (.int .i64 k) ∧ Below w.heap.size w w'
  word : ∀ (w : World) (B : Nat) (x : Int) (k : Nat), Tp w B x k → Calls Try.prog 14 #[.pointer (some ⟨B, 0, none⟩)] w fun e w' => e = .returned (.int .u64 x) ∧ Below w.heap.size w w'
  skip : ∀ (w : World) (B : Nat) (x : Int) (k u : Nat), Tp w B x k → (u : Int) < 4611686018427387904 → Calls Try.prog 13 #[.pointer (some ⟨B, 0, none⟩), .int .i64 u] w fun e w' => e = .returned (.bool true) ∧ Tp w' B x u ∧ w.grownBy w' (some B)
  back : ∀ (w : World) (B : Nat) (x : Int) (k : Nat) (u : Int), Tp w B x k → I64 u → u < 0 → Calls Try.prog 13 #[.pointer (some ⟨B, 0, none⟩), .int .i64 u] w fun e w' => e = .returned (.bool false) ∧ Below w.heap.size w w'
theorem TapDoes.call {Tp : TapT} (D : TapDoes Tp) {w w' : World} {B : Nat} {x : Int} {k : Nat} (h : Tp w B x k) (hb : Below w.heap.size w w') : Tp w' B x k :=
  D.keep w w' B x k h (hb.block B (D.lt _ _ _ _ h))
theorem TapDoes.other {Tp : TapT} (D : TapDoes Tp) {w w' : World} {B C : Nat} {x : Int} {k : Nat} (h : Tp w B x k) (hb : w.grownBy w' (some C)) (hne : B ≠ C) : Tp w' B x k :=
  D.keep w w' B x k h (hb.block B (D.lt _ _ _ _ h) (fun e => hne (Option.some.inj e)))
/-- A nil tape. -/
structure TapNil : Prop where
  next : ∀ (w : World), Calls Try.prog 11 #[.pointer none] w fun e w' => e = .returned (.bool false) ∧ Below w.heap.size w w'
  used : ∀ (w : World), Calls Try.prog 10 #[.pointer none] w fun e w' => e = .returned (.int .i64 0) ∧ Below w.heap.size w w'
  word : ∀ (w : World), Calls Try.prog 14 #[.pointer none] w fun e w' => e = .returned (.int .u64 0) ∧ Below w.heap.size w w'
  skip : ∀ (w : World) (u : Int), I64 u → Calls Try.prog 13 #[.pointer none, .int .i64 u] w fun e w' => e = .returned (.bool false) ∧ Below w.heap.size w w'
/-- Rows that are halved and split. -/
structure RowDoes : Prop where
  halve : ∀ (w : World) (A : Option Addr) (n cap : Nat) (L : List Int) (b : Bool), Nums w A L → L.length = n → n ≤ 50000 → Calls Try.prog 18 #[.slice A n cap, .bool b] w fun e w' => ∃ v, e = .returned v ∧ OwnN w' w.heap.size v (halvB b L) ∧ Below w.heap.size w w'
  split : ∀ (w : World) (A : Option Addr) (n cap : Nat) (L : List Int) (keep : Int), Nums w A L → L.length = n → n ≤ cap → n ≤ 50000 → I64 keep → Calls Try.prog 15 #[.slice A n cap, .int .i64 keep] w fun e w' => ∃ u v, e = .returned (.tuple #[u, v]) ∧ FullN w' w.heap.size u (stayL keep L) ∧ PartN w' w.heap.size v (restL keep L) ∧ SplitN u v ∧ Below w.heap.size w w'
  up : ∀ (w : World) (A : Option Addr) (n cap : Nat) (L : List Int) (x m : Int), Nums w A L → L.Pairwise (fun a b => a ≤ b) → L.length = n → n ≤ cap → n ≤ 50000 → I64 x → upV L x = m → Calls Try.prog 21 #[.slice A n cap, .int .i64 x] w fun e w' => e = .returned (.int .i64 m) ∧ Below w.heap.size w w'

theorem nums_new {W : World} {cs : Array Value} {L : List Int} (ok : ∀ p, p ∈ L → I64 p) (hL : ∀ (i : Nat) (p : Int), L[i]? = some p → cs[i]? = some (.int .i64 p)) : Nums (W.alloc (.cells cs 2)) (some ⟨W.heap.size, 0, none⟩) L :=
  ⟨ok, fun i p hi => ⟨W.heap.size, 0, rfl, by simp, by
    have := Joins.cell_of_block (i := 0 + i) (new_cells20 W (.cells cs 2))
    rw [this, Nat.zero_add]
    exact hL i p hi⟩⟩
theorem al20_nums (W : World) : Nums (W.alloc (.cells #[.int .i64 1, .int .i64 2, .int .i64 3, .int .i64 4] 2)) (some ⟨W.heap.size, 0, none⟩) [1, 2, 3, 4] :=
  nums_new (fun p hp => by
    have : p = 1 ∨ p = 2 ∨ p = 3 ∨ p = 4 := by simpa using hp
    exact ⟨by omega, by omega⟩) fun i p hi => by
    match i, hi with
    | 0, hi => cases hi; rfl
    | 1, hi => cases hi; rfl
    | 2, hi => cases hi; rfl
    | 3, hi => cases hi; rfl
    | i + 4, hi => simp at hi
theorem al20_a : coinB 2 0 = false := by decide
theorem al20_b : coinB 2 (0 + 1) = true := by decide

set_option maxRecDepth 100000 in
set_option maxHeartbeats 1000000 in
theorem alive20_any {Tp : TapT} (D : TapDoes Tp) (H : RowDoes) (w : World) : Calls Try.prog 8 #[] w fun e w' => e = .returned (.bool true) ∧ Below w.heap.size w w' := by
  have HD := Lib.hid D
  have HH := Lib.hid H
  have CA := Lib.hid al20_a
  have CB := Lib.hid al20_b
  have HN := Lib.hid (D.new w 2 ⟨by decide, by decide⟩)
  clear D H
  go_enter Try.func8, Try.ntmps8
  go_wp2_with fail
  refine HN.out.mono ?_
  rintro e w1 ⟨B, rfl, h1, hB, b1⟩
  have z1 := b1.size
  have HX := Lib.hid (HD.out.next w1 B 2 0 h1 ⟨by decide, by decide⟩ (by decide))
  rw [CA.out] at HX
  clear HN h1
  go_wp2_with fail
  refine HX.out.mono ?_
  rintro e w2 ⟨rfl, h2, g2⟩
  have b2 := b1.grown g2 z1 (fun k hk => by cases hk; exact hB)
  have z2 := b2.size
  have HY := Lib.hid (HD.out.next w2 B 2 (0 + 1) h2 ⟨by decide, by decide⟩ (by decide))
  rw [CB.out] at HY
  clear b1 g2 h2 HX
  go_wp2_with fail
  refine HY.out.mono ?_
  rintro e w3 ⟨rfl, h3, g3⟩
  have b3 := b2.grown g3 z2 (fun k hk => by cases hk; exact hB)
  have z3 := b3.size
  have HU := Lib.hid (HD.out.used w3 B 2 _ h3)
  have H3 := Lib.hid h3
  clear b2 g3 h3 HY
  go_wp2_with fail
  refine HU.out.mono ?_
  rintro e w4 ⟨rfl, c4⟩
  have HW := Lib.hid (HD.out.word w4 B 2 _ (HD.out.call H3.out c4))
  have b4 := b3.trans (c4.mono z3)
  have z4 := b4.size
  clear c4 HU
  go_wp2_with fail
  refine HW.out.mono ?_
  rintro e w5 ⟨rfl, c5⟩
  have b5 := b4.trans (c5.mono z4)
  have z5 := b5.size
  have HV := Lib.hid (HH.out.halve _ _ 4 4 _ true (al20_nums w5) rfl (by decide))
  have b6 := b5.alloc z5 (.cells #[.int .i64 1, .int .i64 2, .int .i64 3, .int .i64 4] 2)
  have z6 := b6.size
  clear c5 HW b4
  go_wp2_with fail
  refine HV.out.mono ?_
  rintro e w7 ⟨v, rfl, ho, c7⟩
  obtain ⟨vA, vk, rfl⟩ := ho.form
  have e7 : (halvB true [1, 2, 3, 4]).length = 2 := rfl
  rw [e7]
  have HB7 := Lib.hid (b6.trans (c7.mono z6))
  clear ho c7 HV b6
  go_wp2_with fail
  go_ret
  exact ⟨rfl, HB7.out⟩
end Go.Proofs.Ytecnlpkfcggimaa
