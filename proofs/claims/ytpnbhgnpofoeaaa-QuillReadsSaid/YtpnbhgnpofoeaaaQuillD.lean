/-
  Walks: what the laws of quill ask first; small numbers.
-/
import Derived.Test.YtpnbhgnpofoeaaaQuillB
import Derived.Test.YtpnbhgnpofoeaaaQuillC
import Derived.Test.YtpnbhgnpofoeaaaQuillR
import Derived.Outline
namespace Go.Proofs.Ytpnbhgnpofoeaaa
set_option linter.unusedVariables false
set_option linter.unusedSimpArgs false
open Go.RowKit

theorem eye_sz {w w' : World} {B : Nat} (h : w.grownBy w' (some B)) : w.heap.size ≤ w'.heap.size := h.size
theorem grown_below' {n B : Nat} {a w w' : World} (h : Below n a w) (hg : w.grownBy w' (some B)) (hn : n ≤ B) (hs : n ≤ w.heap.size) : Below n a w' := h.trans (grown_below hg hn hs)

theorem quil_nat1 (w : World) (B L cap : Nat) (l : List UInt8) (x : Int) (hx : Word x) (hl : l.length ≤ 100000) (h : Quil w B l)
    (hL : w.heap[L]? = some (.cells #[.int .u64 x] 29 (0, 0))) :
    Calls Try.prog 24 #[.pointer (some ⟨B, 0, none⟩), .slice (some ⟨L, 0, none⟩) 1 cap] w fun e w' =>
      e = .returned (.tuple #[]) ∧ Quil w' B (l ++ natB x.toNat) ∧ Wrote B w w' := by
  have C := quil_nat w B L cap l [x] (fun y hy => by simp at hy; subst hy; exact hx) (by simp) hl h hL
  rw [natsB_one] at C
  exact C
theorem quil_nat2 (w : World) (B L cap : Nat) (l : List UInt8) (x y : Int) (hx : Word x) (hy : Word y) (hl : l.length ≤ 100000) (h : Quil w B l)
    (hL : w.heap[L]? = some (.cells #[.int .u64 x, .int .u64 y] 29 (0, 0))) :
    Calls Try.prog 24 #[.pointer (some ⟨B, 0, none⟩), .slice (some ⟨L, 0, none⟩) 2 cap] w fun e w' =>
      e = .returned (.tuple #[]) ∧ Quil w' B (l ++ (natB x.toNat ++ natB y.toNat)) ∧ Wrote B w w' := by
  have C := quil_nat w B L cap l [x, y] (fun z hz => by simp at hz; rcases hz with rfl | rfl <;> assumption) (by simp) hl h hL
  have e : natsB [x, y] = natB x.toNat ++ natB y.toNat := by unfold natsB; simp
  rw [e] at C
  exact C

theorem over_is (w : World) (B : Nat) (s : ByteArray) (bad b : Bool) (h : Eye w B s bad) (hb : (!bad && s.toList.isEmpty) = b) :
    Calls Try.prog 15 #[.pointer (some ⟨B, 0, none⟩)] w fun e w' => e = .returned (.bool b) ∧ w = w' :=
  (over_any w B s bad h).mono fun e w' hh => ⟨by rw [hh.1, hb], hh.2⟩

set_option maxRecDepth 1000000 in
set_option maxHeartbeats 1000000 in
theorem lalive_any (w : World) :
    Calls Try.prog 8 #[] w fun e w' => e = .returned (.bool true) ∧ Below w.heap.size w w' := by
  have HT : Hid (natB (300 : Int).toNat = [172, 2]) := Lib.hid natB_300
  have hq0 := Quil.new w
  go_enter Try.func8, Try.ntmps8
  go_wp2_with fail
  refine (quil_nat1 _ w.heap.size (w.heap.size + 1) 1 [] 300 ⟨by decide, by decide⟩ (by simp) (hq0.alloc _) (by have := heap_alloc_new (w.alloc (.cells #[.slice none 0 0] 49)) (.cells #[.int .u64 300] 29); simpa using this)).mono ?_
  rintro e w1 ⟨rfl, hq, hwr⟩
  rw [HT.out, List.nil_append] at hq
  have b1 : Below w.heap.size w w1 := (((Below.refl _ _).alloc (Nat.le_refl _) _).alloc (by simp) _).trans hwr.below
  have s1 := b1.size
  clear hq0
  go_wp2_with fail
  refine (quil_text _ _ _ hq).mono ?_
  rintro e w' ⟨rfl, rfl⟩
  go_wp2_with fail
  refine (on_any _ _).mono ?_
  rintro e w2 ⟨rfl, e2, b2, z2⟩
  clear z2
  go_wp2_with fail
  refine (over_is _ _ _ _ true e2 (by rw [Lib.toList_data]; rfl)).mono ?_
  rintro e w' ⟨rfl, rfl⟩
  go_wp2_with fail
  refine (on_any _ _).mono ?_
  rintro e w3 ⟨rfl, e3, b3, z3⟩
  clear z3
  go_wp2_with fail
  refine (over_is _ _ _ _ false e3 (by rw [Lib.toList_data]; rfl)).mono ?_
  rintro e w' ⟨rfl, rfl⟩
  go_wp2_with fail
  go_ret
  have s2 := b2.size
  exact ⟨rfl, (b1.trans (b2.mono s1)).trans (b3.mono (by omega))⟩
end Go.Proofs.Ytpnbhgnpofoeaaa
