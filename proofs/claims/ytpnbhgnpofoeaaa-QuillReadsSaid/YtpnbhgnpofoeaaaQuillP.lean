/-
  The law QuillParts, walked.
-/
import Derived.Test.YtpnbhgnpofoeaaaQuillI
import Derived.Laws.AppendOwnNone
namespace Go.Proofs.Ytpnbhgnpofoeaaa
set_option linter.unusedVariables false
set_option linter.unusedSimpArgs false
open Go.RowKit

/-- A row's cells. -/
def cellsI (it : ItemV) : List Value := [.int .i64 it.kind, .int .u64 it.u, .int .i64 it.x, .string it.s]
def cellsL (L : List ItemV) : List Value := L.flatMap cellsI
theorem cellsL_len (L : List ItemV) : (cellsL L).length = L.length * 4 := by
  induction L with
  | nil => rfl
  | cons it r ih => unfold cellsL at *; rw [List.flatMap_cons, List.length_append, ih, List.length_cons]; simp [cellsI]; omega
theorem cellsL_cons (it : ItemV) (r : List ItemV) : cellsL (it :: r) = cellsI it ++ cellsL r := by unfold cellsL; rw [List.flatMap_cons]
theorem cellsL_app (a b : List ItemV) : cellsL (a ++ b) = cellsL a ++ cellsL b := by unfold cellsL; rw [List.flatMap_append]
theorem cellsL_one (L : List ItemV) : ∀ u ∈ cellsL L, u.oneCell' = true := by
  intro u hu
  unfold cellsL at hu
  obtain ⟨it, _, h⟩ := List.mem_flatMap.1 hu
  simp only [cellsI, List.mem_cons, List.not_mem_nil, or_false] at h
  rcases h with rfl | rfl | rfl | rfl <;> rfl
theorem cellsL_at : ∀ (L : List ItemV) (i : Nat) (it : ItemV), L[i]? = some it → (cellsL L)[i * 4]? = some (.int .i64 it.kind) ∧ (cellsL L)[i * 4 + 1]? = some (.int .u64 it.u) ∧
    (cellsL L)[i * 4 + 2]? = some (.int .i64 it.x) ∧ (cellsL L)[i * 4 + 3]? = some (.string it.s) := by
  intro L
  induction L with
  | nil => intro i it h; simp at h
  | cons it0 r ih =>
    intro i it h
    rw [cellsL_cons]
    cases i with
    | zero => simp at h; subst h; simp [cellsI]
    | succ i =>
      have hr := ih i it (by simpa using h)
      have e : ∀ j, (cellsI it0 ++ cellsL r)[(i + 1) * 4 + j]? = (cellsL r)[i * 4 + j]? := by
        intro j
        rw [List.getElem?_append_right (by simp [cellsI]; omega)]
        congr 1
        simp [cellsI]; omega
      exact ⟨(e 0).trans hr.1, (e 1).trans hr.2.1, (e 2).trans hr.2.2.1, (e 3).trans hr.2.2.2⟩
theorem cellsL_from : ∀ (L : List ItemV) (j : Nat) (u : Value), (cellsL L)[j]? = some u → ∃ i it, L[i]? = some it ∧
    ((j = i * 4 ∧ u = .int .i64 it.kind) ∨ (j = i * 4 + 1 ∧ u = .int .u64 it.u) ∨ (j = i * 4 + 2 ∧ u = .int .i64 it.x) ∨ (j = i * 4 + 3 ∧ u = .string it.s)) := by
  intro L
  induction L with
  | nil => intro j u h; simp [cellsL] at h
  | cons it0 r ih =>
    intro j u h
    rw [cellsL_cons] at h
    by_cases hj : j < 4
    · rw [List.getElem?_append_left (by simp [cellsI]; omega)] at h
      refine ⟨0, it0, rfl, ?_⟩
      match j, hj, h with
      | 0, _, h => simp [cellsI] at h; subst h; simp
      | 1, _, h => simp [cellsI] at h; subst h; simp
      | 2, _, h => simp [cellsI] at h; subst h; simp
      | 3, _, h => simp [cellsI] at h; subst h; simp
    · rw [List.getElem?_append_right (by simp [cellsI]; omega)] at h
      obtain ⟨i, it, h1, h2⟩ := ih (j - 4) u (by simpa [cellsI] using h)
      refine ⟨i + 1, it, by simpa using h1, ?_⟩
      rcases h2 with ⟨h2, rfl⟩ | ⟨h2, rfl⟩ | ⟨h2, rfl⟩ | ⟨h2, rfl⟩
      · exact Or.inl ⟨by omega, rfl⟩
      · exact Or.inr (Or.inl ⟨by omega, rfl⟩)
      · exact Or.inr (Or.inr (Or.inl ⟨by omega, rfl⟩))
      · exact Or.inr (Or.inr (Or.inr ⟨by omega, rfl⟩))
theorem add_plain (b off j : Nat) : (⟨b, off, none⟩ : Addr).add j = ⟨b, off + j, none⟩ := by unfold Addr.add; split <;> simp_all

/-- What an append takes from. -/
def Src (w : World) (A : Option Addr) (cap : Nat) (L : List ItemV) : Prop :=
  (A = none ∧ L = [] ∧ cap = 0) ∨ (∃ ad, A = some ad ∧ ∀ (j : Nat) (u : Value), (cellsL L)[j]? = some u → w.cell? (ad.add j) = some u)
theorem Items.src {w : World} {A : Option Addr} {L : List ItemV} (h : Items w A L) (cap : Nat) (hA : A = none → cap = 0) : Src w A cap L := by
  cases A with
  | none =>
    refine Or.inl ⟨rfl, ?_, hA rfl⟩
    cases L with
    | nil => rfl
    | cons it r => obtain ⟨b, off, e, _⟩ := h.at_ 0 it rfl; cases e
  | some ad =>
    refine Or.inr ⟨ad, rfl, fun j u hu => ?_⟩
    obtain ⟨i, it, hi, hc⟩ := cellsL_from L j u hu
    obtain ⟨b, off, e, _, c0, c1, c2, c3⟩ := h.at_ i it hi
    injection e with e
    subst e
    rw [add_plain]
    rcases hc with ⟨rfl, rfl⟩ | ⟨rfl, rfl⟩ | ⟨rfl, rfl⟩ | ⟨rfl, rfl⟩
    · exact c0
    · exact c1
    · exact c2
    · exact c3
theorem own_items {w : World} {base : Nat} {v : Value} {L : List ItemV} (h : w.ownsRow base 31 4 v L.length (cellsL L)) (hok : ∀ it, it ∈ L → it.ok) :
    ∃ A cap, v = .slice A L.length cap ∧ Items w A L := by
  have hh := h
  rcases h.2 with ⟨rfl, h0⟩ | ⟨g, cap, cur, rfl, _, hg, _⟩
  · have e : L = [] := List.eq_nil_of_length_eq_zero h0
    subst e
    exact ⟨none, 0, rfl, hok, fun i it hi => by simp at hi⟩
  · refine ⟨some ⟨g, 0, none⟩, cap, rfl, hok, fun i it hi => ?_⟩
    have hc := hh.cells (g := g) rfl
    obtain ⟨c0, c1, c2, c3⟩ := cellsL_at L i it hi
    refine ⟨g, 0, rfl, lt_of_block hg, ?_, ?_, ?_, ?_⟩
    · rw [← add_plain]; exact hc _ _ c0
    · rw [Nat.add_assoc, ← add_plain]; exact hc _ _ c1
    · rw [Nat.add_assoc, ← add_plain]; exact hc _ _ c2
    · rw [Nat.add_assoc, ← add_plain]; exact hc _ _ c3
theorem Try.infoItem : (Try.prog.info? 31).map (fun i => (i.zero, i.size, i.bytes)) = some (some (.agg #[.int .i64 0, .int .u64 0, .int .i64 0, .string ⟨#[]⟩]), 4, 40) := by kernel_rfl

/-- Appending a whole row, a nil one too, to one of the call's own. -/
theorem wpList_append_items {w : World} {ops : Array Oper} {rest : List Oper} {o : Oper} {a : Act} {Q : Exit → Act → World → Prop} (hgd : o.guard = none) (s x : Operand)
    (ho : o.op = .call { callee := .builtin .append, args := #[s, x], argTypes := #[22, 22] })
    (base : Nat) (v : Value) (n cap : Nat) (xs : List Value) (A : Option Addr) (L : List ItemV) (hs : a.eval s = v) (hown : w.ownsRow base 31 4 v n xs)
    (hx : a.eval x = .slice A L.length cap) (hsrc : Src w A cap L) (hn : n + L.length ≤ 100000) (hbase : base ≤ w.heap.size)
    (h : ∀ v' w', w'.ownsRow base 31 4 v' (n + L.length) (xs ++ cellsL L) → w.grownBy w' v.ownBlock → wpList Try.prog ops Q rest (a.put o.dst v') w') : wpList Try.prog ops Q (o :: rest) a w := by
  obtain ⟨i0, hi, hz0, hz1, hz2⟩ := info_parts Try.infoItem
  rcases hsrc with ⟨rfl, rfl, rfl⟩ | ⟨ad, rfl, hc⟩
  · exact wpList_append_own_none hgd s x _ ho base _ i0 4 Try.underlying22 hi v n xs hs hown hx (h v w (by simpa [cellsL] using hown) (grown_refl _ _))
  · exact wpList_append_own w hgd s x _ ho base _ i0 _ 4 40 Try.underlying22 hi hz0 hz1 hz2 rfl (by decide) v n xs hs hown ad L.length cap (cellsL L) hx (cellsL_len L) hc (cellsL_one L)
      (by unfold maxLen; omega) (by omega) hbase (fun v' w' h1 h2 _ => h v' w' h1 h2)

theorem put_str (w : World) (A : Option Addr) (cap : Nat) (L : List ItemV) (r : ByteArray) (hr : r.data.toList = itemsB L) (h : Items w A L) (hl : L.length ≤ 1000) (ht : tot L ≤ 10000) :
    Calls Try.prog 10 #[.slice A L.length cap] w fun e w' => e = .returned (.tuple #[.string r, .string r]) ∧ Below w.heap.size w w' :=
  (put_any w A cap L h hl ht).mono fun e w' hh => ⟨by rw [hh.1, str_eq hr], hh.2⟩
theorem put_len (w : World) (A : Option Addr) (n cap : Nat) (L : List ItemV) (r : ByteArray) (hn : n = L.length) (hr : r.data.toList = itemsB L) (h : Items w A L) (hl : L.length ≤ 1000) (ht : tot L ≤ 10000) :
    Calls Try.prog 10 #[.slice A n cap] w fun e w' => e = .returned (.tuple #[.string r, .string r]) ∧ Below w.heap.size w w' := by
  subst hn; exact put_str w A cap L r hr h hl ht
theorem tot_app (a b : List ItemV) : tot (a ++ b) = tot a + tot b := by unfold tot; rw [List.map_append, List.sum_append]
theorem itemsB_app (a b : List ItemV) : itemsB (a ++ b) = itemsB a ++ itemsB b := by unfold itemsB; rw [List.flatMap_append]
theorem great_is (w : World) (A : Option Addr) (cap : Nat) (L : List ItemV) (g : Bool) (hg : greatB L = g) (h : Items w A L) (hl : L.length ≤ 140737488351232) :
    Calls Try.prog 9 #[.slice A L.length cap] w fun e w' => e = .returned (.bool g) ∧ Below w.heap.size w w' :=
  (great_any w A cap L h hl).mono fun e w' hh => ⟨by rw [hh.1, hg], hh.2⟩

set_option maxRecDepth 1000000 in
set_option maxHeartbeats 1000000 in
theorem lparts_walk (A A' : Option Addr) (cap cap' : Nat) (L L' : List ItemV) (w : World) (h : Items w A L) (h' : Items w A' L') (hA : A = none → cap = 0) (hA' : A' = none → cap' = 0)
    (hl : L.length ≤ 140737488351232) (hl' : L'.length ≤ 140737488351232) :
    Calls Try.prog 6 #[.slice A L.length cap, .slice A' L'.length cap'] w fun e w' => e = .returned (.bool true) ∧ Below w.heap.size w w' := by
  have HI := Lib.hid h
  have HI' := Lib.hid h'
  have HA := Lib.hid hA
  have HA' := Lib.hid hA'
  clear hA hA'
  cases hg : greatB L
  · cases hg' : greatB L'
    · by_cases h60 : (60 : Int) < (L.length : Int) + L'.length
      · have HG := Lib.hid hg
        have HG' := Lib.hid hg'
        clear hg hg'
        go_enter Try.func6, Try.ntmps6
        go_wp2_with fail
        refine (lalive_any _).mono ?_
        rintro e w0 ⟨rfl, b0⟩
        have z0 := b0.size
        go_wp2_with fail
        refine (great_is _ A cap L false HG.out (HI.out.call b0) hl).mono ?_
        rintro e w1 ⟨rfl, b1'⟩
        have b1 : Below w.heap.size w w1 := b0.trans (b1'.mono z0)
        have z1 := b1.size
        go_wp2_with fail
        refine (great_is _ A' cap' L' false HG'.out (HI'.out.call b1) hl').mono ?_
        rintro e w2 ⟨rfl, b2'⟩
        have b2 : Below w.heap.size w w2 := b1.trans (b2'.mono z1)
        go_wp2_with fail
        go_ret
        exact ⟨rfl, b2⟩
      · have t1 : tot L ≤ 4096 := by
          unfold greatB at hg; simp only [Bool.or_eq_false_iff, decide_eq_false_iff_not] at hg; omega
        have t2 : tot L' ≤ 4096 := by
          unfold greatB at hg'; simp only [Bool.or_eq_false_iff, decide_eq_false_iff_not] at hg'; omega
        have HG := Lib.hid hg
        have HG' := Lib.hid hg'
        have T1 := Lib.hid t1
        have T2 := Lib.hid t2
        obtain ⟨r, hr⟩ : ∃ r : ByteArray, r.data.toList = itemsB L := ⟨⟨(itemsB L).toArray⟩, rfl⟩
        obtain ⟨r', hr'⟩ : ∃ r : ByteArray, r.data.toList = itemsB L' := ⟨⟨(itemsB L').toArray⟩, rfl⟩
        have rs : (r.size : Int) ≤ 10000 := by
          rw [Lib.size_eq, hr]; have := itemsB_len HI.out.ok; omega
        have rs' : (r'.size : Int) ≤ 10000 := by
          rw [Lib.size_eq, hr']; have := itemsB_len HI'.out.ok; omega
        have HR := Lib.hid hr
        have HR' := Lib.hid hr'
        have HRR : Hid ((r ++ r').data.toList = itemsB (L ++ L')) := Lib.hid (by rw [app_list, hr, hr', itemsB_app])
        have HOK : Hid (∀ it, it ∈ L ++ L' → it.ok) := Lib.hid (fun it hi => by
          rcases List.mem_append.1 hi with hi | hi
          · exact HI.out.ok it hi
          · exact HI'.out.ok it hi)
        clear hg hg' t1 t2 hr hr'
        go_enter Try.func6, Try.ntmps6
        go_wp2_with fail
        refine (lalive_any _).mono ?_
        rintro e w0 ⟨rfl, b0⟩
        have z0 := b0.size
        go_wp2_with fail
        refine (great_is _ A cap L false HG.out (HI.out.call b0) hl).mono ?_
        rintro e w1 ⟨rfl, b1'⟩
        have b1 : Below w.heap.size w w1 := b0.trans (b1'.mono z0)
        have z1 := b1.size
        clear b1'
        go_wp2_with fail
        refine (great_is _ A' cap' L' false HG'.out (HI'.out.call b1) hl').mono ?_
        rintro e w2 ⟨rfl, b2'⟩
        have b2 : Below w.heap.size w w2 := b1.trans (b2'.mono z1)
        have z2 := b2.size
        clear b2'
        go_wp2_with fail
        refine (put_str _ A cap L r HR.out (HI.out.call b2) (by omega) (by have := T1.out; omega)).mono ?_
        rintro e w3 ⟨rfl, b3'⟩
        have b3 : Below w.heap.size w w3 := b2.trans (b3'.mono z2)
        have z3 := b3.size
        clear b3'
        go_wp2_with fail
        refine (put_str _ A' cap' L' r' HR'.out (HI'.out.call b3) (by omega) (by have := T2.out; omega)).mono ?_
        rintro e w4 ⟨rfl, b4'⟩
        have b4 : Below w.heap.size w w4 := b3.trans (b4'.mono z3)
        have z4 := b4.size
        clear b4'
        have hown0 : (w4.alloc (.cells #[] 31)).ownsRow w4.heap.size 31 4 (.slice (some ⟨w4.heap.size, 0, none⟩) 0 0) 0 [] := World.ownsRow_made w4 #[] 0 (Nat.le_refl _) (by decide) rfl
        have k4 : Below w4.heap.size w4 (w4.alloc (.cells #[] 31)) := (Below.refl _ _).alloc (Nat.le_refl _) _
        have hs1 : Src (w4.alloc (.cells #[] 31)) A cap L := ((HI.out.call b4).call k4).src cap HA.out
        have HS1 := Lib.hid hs1
        have HO0 := Lib.hid hown0
        clear hs1 hown0
        go_wp2_with (at_builtin; refine wpList_append_items rfl (.tmp 38) (.tmp 39) rfl w4.heap.size _ 0 cap _ A L rfl HO0.out rfl HS1.out ?c1 ?c2 ?_)
        case c1 => omega
        case c2 => first | omega | (simp; done)
        intro v5 w5 hown5 hg5
        have k5 : Below w4.heap.size w4 w5 := k4.grown hg5 (by simp) (fun k hk => by simp [Value.ownBlock] at hk; omega)
        have b5 : Below w.heap.size w w5 := b4.trans (k5.mono z4)
        have z5 := k5.size
        have HS2 := Lib.hid ((HI'.out.call b5).src cap' HA'.out)
        have HO5 := Lib.hid hown5
        clear hown5 hg5
        go_wp2_with (at_builtin; refine wpList_append_items rfl (.tmp 40) (.tmp 41) rfl w4.heap.size _ _ cap' _ A' L' rfl HO5.out rfl HS2.out ?d1 ?d2 ?_)
        case d1 => omega
        case d2 => omega
        intro v6 w6 hown6 hg6
        have k6 : Below w4.heap.size w4 w6 := k5.grown hg6 z5 (fun k hk => (HO5.out.lt k hk).1)
        have b6 : Below w.heap.size w w6 := b4.trans (k6.mono z4)
        have z6 := b6.size
        have hown6' : w6.ownsRow w4.heap.size 31 4 v6 (L ++ L').length (cellsL (L ++ L')) := by
          rw [cellsL_app, List.length_append]; simpa using hown6
        obtain ⟨A6, cap6, rfl, hI6⟩ := own_items hown6' HOK.out
        have HI6 := Lib.hid hI6
        clear hown6 hown6' hg6 hI6
        go_wp2_with fail
        refine (put_len _ A6 (L.length + L'.length) cap6 (L ++ L') (r ++ r') (by rw [List.length_append]) HRR.out HI6.out (by rw [List.length_append]; omega) (by rw [tot_app]; have := T1.out; have := T2.out; omega)).mono ?_
        rintro e w7 ⟨rfl, b7'⟩
        have b7 : Below w.heap.size w w7 := b6.trans (b7'.mono z6)
        clear b7'
        go_wp2_with fail
        go_ret
        exact ⟨rfl, b7⟩
    · have HG := Lib.hid hg
      have HG' := Lib.hid hg'
      clear hg hg'
      go_enter Try.func6, Try.ntmps6
      go_wp2_with fail
      refine (lalive_any _).mono ?_
      rintro e w0 ⟨rfl, b0⟩
      have z0 := b0.size
      go_wp2_with fail
      refine (great_is _ A cap L false HG.out (HI.out.call b0) hl).mono ?_
      rintro e w1 ⟨rfl, b1'⟩
      have b1 : Below w.heap.size w w1 := b0.trans (b1'.mono z0)
      have z1 := b1.size
      go_wp2_with fail
      refine (great_is _ A' cap' L' true HG'.out (HI'.out.call b1) hl').mono ?_
      rintro e w2 ⟨rfl, b2'⟩
      have b2 : Below w.heap.size w w2 := b1.trans (b2'.mono z1)
      go_wp2_with fail
      go_ret
      exact ⟨rfl, b2⟩
  · have HG := Lib.hid hg
    clear hg
    go_enter Try.func6, Try.ntmps6
    go_wp2_with fail
    refine (lalive_any _).mono ?_
    rintro e w0 ⟨rfl, b0⟩
    have z0 := b0.size
    go_wp2_with fail
    refine (great_is _ A cap L true HG.out (HI.out.call b0) hl).mono ?_
    rintro e w1 ⟨rfl, b1'⟩
    have b1 : Below w.heap.size w w1 := b0.trans (b1'.mono z0)
    go_wp2_with fail
    go_ret
    exact ⟨rfl, b1⟩

theorem lparts_of {w0 : World} (A : Option Addr) (cap : Nat) (L : List ItemV) (A' : Option Addr) (cap' : Nat) (L' : List ItemV) (h : Items w0 A L) (hA : A = none → cap = 0) (hl : L.length ≤ 140737488351232)
    (h' : Items w0 A' L') (hA' : A' = none → cap' = 0) (hl' : L'.length ≤ 140737488351232) (w : World) (e : w = w0 := by rfl) :
    Calls Try.prog 6 #[.slice A L.length cap, .slice A' L'.length cap'] w fun e w' => e = .returned (.bool true) ∧ Below w.heap.size w w' := by
  subst e; exact lparts_walk A A' cap cap' L L' _ h h' hA hA' hl hl'
end Go.Proofs.Ytpnbhgnpofoeaaa
