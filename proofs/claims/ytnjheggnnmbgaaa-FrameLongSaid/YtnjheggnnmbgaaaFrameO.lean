/-
  What opening comes to, as the code finds it: plain.
-/
import Derived.Test.YtnjheggnnmbgaaaFrameM
import Derived.Test.YtnjheggnnmbgaaaQuillU
namespace Go.Proofs.Ytnjheggnnmbgaaa
set_option linter.unusedVariables false
set_option linter.unusedSimpArgs false
open Go.RowKit

/-- What an eye on s reads: three bytes, one, a number, as many. -/
def o1 (s : ByteArray) : ByteArray := rS s false 3
def b1 (s : ByteArray) : Bool := rgone s false 3
def o2 (s : ByteArray) : ByteArray := rS (o1 s) (b1 s) 1
def b2 (s : ByteArray) : Bool := rgone (o1 s) (b1 s) 1
def kd (s : ByteArray) : ByteArray := rV (o1 s) (b1 s) 1
def o3 (s : ByteArray) : ByteArray := nS (o2 s) (b2 s) 262144
def b3 (s : ByteArray) : Bool := gone (o2 s) (b2 s) 262144
def nn (s : ByteArray) : Int := nV (o2 s) (b2 s) 262144
def o4 (s : ByteArray) : ByteArray := rS (o3 s) (b3 s) (nn s)
def b4 (s : ByteArray) : Bool := rgone (o3 s) (b3 s) (nn s)
def ld (s : ByteArray) : ByteArray := rV (o3 s) (b3 s) (nn s)
theorem o1_size (s : ByteArray) : (o1 s).size ≤ s.size := rS_size _ _ _
theorem o2_size (s : ByteArray) : (o2 s).size ≤ s.size := Nat.le_trans (rS_size _ _ _) (o1_size s)
theorem o3_size (s : ByteArray) : (o3 s).size ≤ s.size := Nat.le_trans (nS_size _ _ _) (o2_size s)
theorem rgone_bad {s : ByteArray} {bad : Bool} {n : Int} (h : rgone s bad n = false) : bad = false ∧ 0 ≤ n ∧ n ≤ s.size := by
  unfold rgone at h
  simp only [Bool.or_eq_false_iff, decide_eq_false_iff_not] at h
  exact ⟨h.1.1, by omega, by omega⟩
theorem gone_bad {s : ByteArray} {bad : Bool} {n : Nat} (h : gone s bad n = false) : bad = false := by
  unfold gone at h
  simp only [Bool.or_eq_false_iff] at h
  exact h.1
theorem rV_size {s : ByteArray} {bad : Bool} {n : Int} (h : rgone s bad n = false) : ((rV s bad n).size : Int) = n := by
  have hb := rgone_bad h
  unfold rV; rw [h]
  show ((s.extract 0 n.toNat).size : Int) = n
  rw [ByteArray.size_extract]; omega
theorem nn_most (s : ByteArray) : nn s ≤ 262144 := nV_most _ _ _
theorem o_good {s : ByteArray} (h : b4 s = false) : (kd s).size = 1 ∧ (ld s).size ≤ 262144 := by
  have h4 := rgone_bad h
  have h3 := gone_bad h4.1
  have h1 : rgone (o1 s) (b1 s) 1 = false := h3
  have e1 := rV_size h1
  have e2 := rV_size h
  have := nn_most s
  exact ⟨by unfold kd; omega, by unfold ld; omega⟩
theorem raw_split {t : ByteArray} {a r : List UInt8} {n : Int} (hn : n = (a.length : Int)) (ht : t.data.toList = a ++ r) : rgone t false n = false ∧ (rV t false n).data.toList = a ∧ (rS t false n).data.toList = r := by
  subst hn
  have hl : a.length ≤ t.size := by rw [Lib.size_eq, ht, List.length_append]; omega
  have G : rgone t false (a.length : Int) = false := by unfold rgone; simp; omega
  refine ⟨G, ?_, ?_⟩
  · unfold rV; rw [G]
    show (t.extract 0 a.length).data.toList = a
    rw [← Lib.toList_data, Lib.extract_toList, ht, List.drop_zero, Nat.sub_zero, List.take_left]
  · unfold rS; rw [G]
    show (t.extract a.length t.size).data.toList = r
    rw [ext_list, ht, List.drop_left]
/-- A frame is read as what it is. -/
theorem o_frame {s : ByteArray} {b : UInt8} {l : List UInt8} (hl : l.length ≤ 262144) (h : s.data.toList = frameB b l) : b4 s = false ∧ (kd s).data.toList = [b] ∧ (ld s).data.toList = l := by
  have e : s.data.toList = [79, 71, 1] ++ ([b] ++ (natB l.length ++ (l ++ le4 (sumN (headB b l))))) := by
    rw [h]; unfold frameB
    conv => lhs; arg 1; unfold headB
    simp
  obtain ⟨g1, _, r1⟩ := raw_split (n := 3) rfl e
  have r1' : (o1 s).data.toList = [b] ++ (natB l.length ++ (l ++ le4 (sumN (headB b l)))) := r1
  have g1' : b1 s = false := g1
  obtain ⟨g2, v2, r2⟩ := raw_split (n := 1) rfl r1'
  have v2' : (kd s).data.toList = [b] := by unfold kd; rw [g1']; exact v2
  have r2' : (o2 s).data.toList = natB l.length ++ (l ++ le4 (sumN (headB b l))) := by unfold o2; rw [g1']; exact r2
  have g2' : b2 s = false := by unfold b2; rw [g1']; exact g2
  obtain ⟨g3, v3, r3⟩ := eye_got (m := 262144) (n := l.length) (by omega) (by omega) r2'
  have r3' : (o3 s).data.toList = l ++ le4 (sumN (headB b l)) := by unfold o3; rw [g2']; exact r3
  have g3' : b3 s = false := by unfold b3; rw [g2']; exact g3
  have v3' : nn s = (l.length : Int) := by unfold nn; rw [g2']; exact v3
  obtain ⟨g4, v4, _⟩ := raw_split (n := nn s) v3' r3'
  exact ⟨by unfold b4; rw [g3']; exact g4, v2', by unfold ld; rw [g3']; exact v4⟩
end Go.Proofs.Ytnjheggnnmbgaaa
