/-
  Walks: an eye: On, Bad, Left, Over, Shut, and the number at the beginning.
  Walks: the number at the beginning of a text.
  Walks: an eye's Raw, Nat, Int, Small, Count.
  A quill in memory: what it holds, what writing leaves alone; walks: a quill's Nat, Int, Raw, Text.
-/
import Derived.Test.YtnhhehinbobknaaRows
import Derived.Test.YtnhhehinbobknaaQuillM
import Derived.Test.YtnhhehinbobknaaSignA
import Derived.Test.YtnhhehinbobknaaTwo
import Derived.WalkKit
import Derived.WalkSpells
import Derived.WalkLawsBesides
import Derived.WalkMore
import Derived.LoopTactic
import Derived.Lib.Strings
import Derived.Outline
import Derived.BigQuiet
import Derived.OwnWalk
import Derived.OneCell
import Derived.Lib.AppendStr
import Derived.Laws.BytesArg
namespace Go.Proofs.Ytnhhehinbobknaa
set_option linter.unusedVariables false
set_option linter.unusedSimpArgs false
open Go.RowKit

/-- An eye at block B: what is left, and whether it is bad (then nothing is left). -/
structure Eye (w : World) (B : Nat) (s : ByteArray) (bad : Bool) : Prop where
  two : Two w B (.string s) (.bool bad)
  non : bad = true → s = ⟨#[]⟩
theorem Eye.call {w w' : World} {B : Nat} {s : ByteArray} {bad : Bool} (h : Eye w B s bad) (hb : Below w.heap.size w w') : Eye w' B s bad := ⟨h.two.call hb, h.non⟩
theorem two_only {w w' : World} {B B' : Nat} {x y : Value} (h : Two w B x y) (hg : w.grownBy w' (some B')) (hne : B ≠ B') : Two w' B x y := by
  have hlt := h.lt
  have hb := hg.block B hlt (fun e => hne (Option.some.inj e))
  exact ⟨(World.cell?_of_block (a := ⟨B, 0, none⟩) hb).trans h.c0, (World.cell?_of_block (a := ⟨B, 1, none⟩) hb).trans h.c1, (World.frozen?_of_block (a := ⟨B, 0, none⟩) hb).trans h.f0, (World.frozen?_of_block (a := ⟨B, 1, none⟩) hb).trans h.f1⟩
theorem grown_refl (w : World) (r : Option Nat) : w.grownBy w r := ⟨rfl, rfl, rfl, Nat.le_refl _, fun _ _ _ => rfl⟩
theorem grown_trans {a b c : World} {r : Option Nat} (h : a.grownBy b r) (k : b.grownBy c r) : a.grownBy c r :=
  ⟨k.os.trans h.os, k.tape.trans h.tape, k.output.trans h.output, Nat.le_trans h.size k.size, fun i hi hr => (k.block i (Nat.lt_of_lt_of_le hi h.size) hr).trans (h.block i hi hr)⟩
theorem grown_setCell (w : World) (B o : Nat) (v : Value) : w.grownBy (w.setCell ⟨B, o, none⟩ v) (some B) :=
  ⟨rfl, rfl, rfl, by simp [World.setCell], fun k hk hr => Below.heap_setCell _ _ _ _ (fun e => hr (by rw [e]))⟩
theorem grown_below {a b : World} {B n : Nat} (h : a.grownBy b (some B)) (hn : n ≤ B) (hs : n ≤ a.heap.size) : Below n a b :=
  ⟨h.os, h.tape, h.output, h.size, fun k hk => h.block k (by omega) (fun e => by have := Option.some.inj e; omega)⟩
theorem Two.low {w : World} {B : Nat} {x y : Value} (h : Two w B x y) (v : Value) : Two (w.setCell ⟨B, 0, none⟩ v) B v y := by
  refine ⟨?_, ?_, ?_, ?_⟩
  · exact World.cell?_setCell_same _ _ _ h.c0
  · rw [World.cell?_setCell_other _ _ _ _ (two_off (by omega))]; exact h.c1
  · rw [World.frozen?_setCell]; exact h.f0
  · rw [World.frozen?_setCell]; exact h.f1

end Go.Proofs.Ytnhhehinbobknaa

namespace Go.Proofs.Ytnhhehinbobknaa
set_option linter.unusedVariables false
set_option linter.unusedSimpArgs false
open Go.RowKit

theorem byte_atA (s : ByteArray) (k : Nat) (h : k < s.size) : s.data.toList[k]? = some (s[k]'h) := by
  obtain ⟨⟨l⟩⟩ := s
  exact List.getElem?_eq_getElem h

end Go.Proofs.Ytnhhehinbobknaa

namespace Go.Proofs.Ytnhhehinbobknaa
set_option linter.unusedVariables false
set_option linter.unusedSimpArgs false
open Go.RowKit

/-- What an eye tells, and what it is behind it, that is asked for a number of at most so much. -/
def gone (s : ByteArray) (bad : Bool) (most : Nat) : Bool := bad || decide ((takS s.data.toList most).2 = 0)
def nV (s : ByteArray) (bad : Bool) (most : Nat) : Int := if gone s bad most then 0 else ((takS s.data.toList most).1 : Nat)
def nS (s : ByteArray) (bad : Bool) (most : Nat) : ByteArray := if gone s bad most then ⟨#[]⟩ else s.extract (takS s.data.toList most).2 s.size
theorem nV_word (s : ByteArray) (bad : Bool) (most : Nat) : Word (nV s bad most) := by
  unfold nV Word; have := takS_lt s.data.toList most
  split <;> omega
theorem nV_most (s : ByteArray) (bad : Bool) (most : Nat) : nV s bad most ≤ most := by
  unfold nV; have := takS_most s.data.toList most
  split <;> omega
theorem nS_size (s : ByteArray) (bad : Bool) (most : Nat) : (nS s bad most).size ≤ s.size := by
  unfold nS; split
  · exact Nat.zero_le _
  · rw [Lib.size_eq, Lib.size_eq, ← Lib.toList_data, Lib.extract_toList, List.length_take, List.length_drop]; omega
theorem eye_nS {w : World} {B : Nat} {s : ByteArray} {bad : Bool} {most : Nat} (h : gone s bad most = true) (k : Eye w B ⟨#[]⟩ true) : Eye w B (nS s bad most) (gone s bad most) := by
  unfold nS; rw [h]; exact k

/-- Small's most. -/
def sm (n : Int) : Nat := n.toNat

/-- Count's answers. -/
def cgone (s : ByteArray) (bad : Bool) : Bool := gone s bad 9223372036854775807 || nV s bad 9223372036854775807 == 0
def cS (s : ByteArray) (bad : Bool) : ByteArray := if cgone s bad then ⟨#[]⟩ else nS s bad 9223372036854775807

/-- Raw's answers. -/
def rgone (s : ByteArray) (bad : Bool) (n : Int) : Bool := bad || decide (n < 0) || decide ((s.size : Int) < n)
def rV (s : ByteArray) (bad : Bool) (n : Int) : ByteArray := if rgone s bad n then ⟨#[]⟩ else s.extract 0 n.toNat
def rS (s : ByteArray) (bad : Bool) (n : Int) : ByteArray := if rgone s bad n then ⟨#[]⟩ else s.extract n.toNat s.size
theorem rS_size (s : ByteArray) (bad : Bool) (n : Int) : (rS s bad n).size ≤ s.size := by
  unfold rS; split
  · exact Nat.zero_le _
  · rw [Lib.size_eq, Lib.size_eq, ← Lib.toList_data, Lib.extract_toList, List.length_take, List.length_drop]; omega

end Go.Proofs.Ytnhhehinbobknaa

namespace Go.Proofs.Ytnhhehinbobknaa
set_option linter.unusedVariables false
set_option linter.unusedSimpArgs false
open Go.RowKit

/-- Numbers' bytes, one behind the other. -/
def natsB (xs : List Int) : List UInt8 := xs.flatMap fun x => natB x.toNat
theorem natsB_snoc (xs : List Int) (k : Nat) (x : Int) (h : xs[k]? = some x) : natsB (xs.take (k + 1)) = natsB (xs.take k) ++ natB x.toNat := by
  have hk : k < xs.length := by
    rcases Nat.lt_or_ge k xs.length with h' | h'
    · exact h'
    · rw [List.getElem?_eq_none h'] at h; cases h
  rw [List.take_succ_eq_append_getElem hk]
  rw [List.getElem?_eq_getElem hk] at h
  rw [Option.some.inj h]
  unfold natsB
  rw [List.flatMap_append]; simp
theorem natsB_len (xs : List Int) (h : ∀ x ∈ xs, Word x) : (natsB xs).length ≤ 10 * xs.length := by
  induction xs with
  | nil => simp [natsB]
  | cons x r ih =>
    have h1 := ih fun y hy => h y (List.mem_cons_of_mem _ hy)
    have h2 := natB_len10 (n := x.toNat) (by have := h x (List.mem_cons_self); unfold Word at this; omega)
    unfold natsB at *
    rw [List.flatMap_cons, List.length_append, List.length_cons]; omega

theorem natsB_one (x : Int) : natsB [x] = natB x.toNat := by unfold natsB; simp

end Go.Proofs.Ytnhhehinbobknaa