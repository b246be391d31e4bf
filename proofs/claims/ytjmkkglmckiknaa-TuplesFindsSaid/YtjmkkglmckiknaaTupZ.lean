/-
  The laws' own alive; play of too many steps; the law TuplesRows, from the contracts.
-/
import Derived.Test.YtjmkkglmckiknaaTupY
namespace Go.Proofs.Ytjmkkglmckiknaa
set_option linter.unusedVariables false
set_option linter.unusedSimpArgs false
open Go.RowKit

set_option maxRecDepth 100000 in
set_option maxHeartbeats 1000000 in
theorem play18_long (w : World) (A : Option Addr) (cap : Nat) (n : Nat) (hl : 80 < n) :
    Calls Try.prog 9 #[.slice A n cap] w fun e w' => e = .returned (.tuple #[.slice none 0 0, .slice none 0 0, .slice none 0 0, .bool false]) ∧ Below w.heap.size w w' := by
  have hl2 : (80 : Int) < n := by omega
  go_enter Try.func9, Try.ntmps9
  go_wp2_with fail
  refine bodyPost_ret (v := .tuple #[.slice none 0 0, .slice none 0 0, .slice none 0 0, .bool false]) (by simp [results, Try.results9, go_sem]) rfl ⟨rfl, Below.refl _ _⟩

theorem told3 : ToldS [5, 7, 6] [⟨5, 1, 1⟩, ⟨6, 2, 2⟩, ⟨7, 3, 3⟩] := ((ToldS.nil.ins 5).ins 7).ins 6
theorem told2 : ToldS [5, 7] [⟨5, 1, 1⟩, ⟨7, 2, 2⟩] := (ToldS.nil.ins 5).ins 7
theorem told1 : ToldS [5] [⟨5, 1, 1⟩] := ToldS.nil.ins 5
theorem tup_eql (a b c a' b' c' : Int) (w : World) (h : a = a' ∧ b = b' ∧ c = c') : (binOp .eql 52 (.agg #[.int .i64 a, .int .u64 b, .int .u64 c]) (.agg #[.int .i64 a', .int .u64 b', .int .u64 c'])).run Try.prog w = .ok (.bool true) w := by
  obtain ⟨rfl, rfl, rfl⟩ := h
  simp [go_sem]

set_option maxRecDepth 100000 in
set_option maxHeartbeats 2000000 in
theorem alive18_any (D : TupDoes) (w : World) : Calls Try.prog 8 #[] w fun e w' => e = .returned (.bool true) ∧ Below w.heap.size w w' := by
  have g0 : GoodT [] := ToldS.nil.good (by decide)
  have g1 : GoodT [⟨5, 1, 0⟩] := told1.good (by decide)
  have g2 : GoodT [⟨5, 1, 0⟩, ⟨7, 1, 0⟩] := told2.good (by decide)
  have g3 : GoodT [⟨5, 1, 0⟩, ⟨6, 1, 0⟩, ⟨7, 1, 0⟩] := told3.good (by decide)
  have k : ∀ p : TupV, p = ⟨5, 1, 0⟩ ∨ p = ⟨6, 1, 0⟩ ∨ p = ⟨7, 1, 0⟩ → okTu p := fun p h => by
    rcases h with rfl | rfl | rfl <;> exact ⟨⟨by decide, by decide⟩, ⟨by decide, by decide⟩, by decide, by decide⟩
  have C1 := Lib.hid (D.insert w w.heap.size _ [] 5 (Nat.le_refl _) (OwnTu.nil _ _) (fun p h => (by cases h)) g0 (by decide) (by decide) ⟨by decide, by decide⟩)
  have C2 := Lib.hid (fun (w1 : World) v (hs : w.heap.size ≤ w1.heap.size) (ho : OwnTu w1 w.heap.size v [⟨5, 1, 0⟩]) => D.insert w1 w.heap.size v [⟨5, 1, 0⟩] 7 hs ho (fun p h => k p (by simp at h; exact Or.inl h)) g1 (by decide) (by decide) ⟨by decide, by decide⟩)
  have C3 := Lib.hid (fun (w1 : World) v (hs : w.heap.size ≤ w1.heap.size) (ho : OwnTu w1 w.heap.size v [⟨5, 1, 0⟩, ⟨7, 1, 0⟩]) => D.insert w1 w.heap.size v [⟨5, 1, 0⟩, ⟨7, 1, 0⟩] 6 hs ho (fun p h => k p (by simp at h; rcases h with h | h; exact Or.inl h; exact Or.inr (Or.inr h))) g2 (by decide) (by decide) ⟨by decide, by decide⟩)
  have k3 : ∀ p : TupV, p ∈ [(⟨5, 1, 0⟩ : TupV), ⟨6, 1, 0⟩, ⟨7, 1, 0⟩] → okTu p := fun p h => k p (by simpa using h)
  have CG := Lib.hid (fun (w1 : World) A cap (h : Tups w1 A [⟨5, 1, 0⟩, ⟨6, 1, 0⟩, ⟨7, 1, 0⟩]) => D.good w1 A cap [⟨5, 1, 0⟩, ⟨6, 1, 0⟩, ⟨7, 1, 0⟩] true h (by decide) ⟨fun _ => g3, fun _ => rfl⟩)
  have HK3 := Lib.hid k3
  have HB0 := Lib.hid (Below.refl w.heap.size w)
  clear D g0 g1 g2 g3 k k3
  go_enter Try.func8, Try.ntmps8
  go_wp2_with fail
  refine C1.out.mono ?_
  rintro e w1 ⟨v1, rfl, ho1, hg1, _⟩
  have HO1 : Hid (OwnTu w1 w.heap.size v1 [⟨5, 1, 0⟩]) := Lib.hid ho1
  have HB1 := Lib.hid (HB0.out.grown hg1 (Nat.le_refl _) (fun g hg => (by cases hg)))
  clear ho1 hg1 C1
  go_wp2_with fail
  refine (C2.out w1 v1 HB1.out.size HO1.out).mono ?_
  rintro e w2 ⟨v2, rfl, ho2, hg2, _⟩
  have HO2 : Hid (OwnTu w2 w.heap.size v2 [⟨5, 1, 0⟩, ⟨7, 1, 0⟩]) := Lib.hid ho2
  have HB2 := Lib.hid (HB1.out.grown hg2 HB1.out.size (fun g hg => (HO1.out.lt g hg).1))
  clear ho2 hg2 C2
  go_wp2_with fail
  refine (C3.out w2 v2 HB2.out.size HO2.out).mono ?_
  rintro e w3 ⟨v3, rfl, ho3, hg3, _⟩
  have ho3' : OwnTu w3 w.heap.size v3 [⟨5, 1, 0⟩, ⟨6, 1, 0⟩, ⟨7, 1, 0⟩] := ho3
  have HB3 := Lib.hid (HB2.out.grown hg3 HB2.out.size (fun g hg => (HO2.out.lt g hg).1))
  obtain ⟨A, cap, rfl, hP⟩ := ho3'.rows HK3.out
  have HP := Lib.hid hP
  obtain ⟨b0, off, rfl, hbl, c0, c1, c2⟩ := hP.at_ 1 ⟨6, 1, 0⟩ rfl
  have he := fun W => tup_eql 6 1 0 6 1 0 W ⟨rfl, rfl, rfl⟩
  clear ho3 ho3' hg3 C3 hP
  simp only [Nat.one_mul, List.length_cons, List.length_nil] at c0 c1 c2 ⊢
  have CG3 := Lib.hid (CG.out w3 _ cap HP.out)
  clear CG
  go_wp2_with fail
  refine CG3.out.mono ?_
  rintro e w4 ⟨rfl, hb4⟩
  have HB4 := Lib.hid (HB3.out.trans (hb4.mono HB3.out.size))
  go_wp2_with fail
  go_ret
  exact ⟨rfl, HB4.out⟩
end Go.Proofs.Ytjmkkglmckiknaa
