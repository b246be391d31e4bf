/-
  Walks: what is framed, opened by the code.
-/
import Derived.Test.YtnjheggnnmbgaaaFrameB
import Derived.Test.YtnjheggnnmbgaaaFrameO
namespace Go.Proofs.Ytnjheggnnmbgaaa
set_option linter.unusedVariables false
set_option linter.unusedSimpArgs false
open Go.RowKit

theorem raw_is (w : World) (B : Nat) (s : ByteArray) (bad : Bool) (n : Int) (V S : ByteArray) (G : Bool) (hs : s.size ≤ 1000000) (hV : rV s bad n = V) (hS : rS s bad n = S) (hG : rgone s bad n = G) (h : Eye w B s bad) :
    Calls Try.prog 21 #[.pointer (some ⟨B, 0, none⟩), .int .i64 n] w fun e w' =>
      e = .returned (.string V) ∧ Eye w' B S G ∧ w.grownBy w' (some B) := by
  subst hV hS hG; exact eye_raw w B s bad n hs h
theorem most_is (w : World) (B : Nat) (s : ByteArray) (bad : Bool) (V : Int) (S : ByteArray) (G : Bool) (hs : s.size ≤ 1000000) (hV : nV s bad 262144 = V) (hS : nS s bad 262144 = S) (hG : gone s bad 262144 = G) (h : Eye w B s bad) :
    Calls Try.prog 22 #[.pointer (some ⟨B, 0, none⟩), .int .i64 262144] w fun e w' =>
      e = .returned (.int .i64 V) ∧ Eye w' B S G ∧ w.grownBy w' (some B) := by
  have e : sm 262144 = 262144 := rfl
  have C := eye_small w B s bad 262144 ⟨by decide, by decide⟩ hs h
  rw [e, hV, hS, hG] at C
  exact C
theorem one_byte {a : ByteArray} (h : a.size = 1) : ∃ b : UInt8, a = ⟨#[b]⟩ := by
  obtain ⟨⟨l⟩⟩ := a
  have : l.length = 1 := h
  match l, this with
  | [b], _ => exact ⟨b, rfl⟩
theorem bytes_eq {a b : ByteArray} (h : a.toList = b.toList) : a = b := by
  rw [Lib.toList_data, Lib.toList_data] at h
  obtain ⟨⟨l⟩⟩ := a; obtain ⟨⟨m⟩⟩ := b
  exact congrArg (fun x => (⟨⟨x⟩⟩ : ByteArray)) h

/-- What Open answers: a frame, or none. -/
def Opens (w : World) (s : ByteArray) (e : Ending) (w' : World) : Prop :=
  Below w.heap.size w w' ∧
  ((∃ (b : UInt8) (l : ByteArray), l.size ≤ 262144 ∧ s.data.toList = frameB b l.data.toList ∧ e = .returned (.tuple #[.int .u8 (b.toNat : Int), .string l, .int .i64 0])) ∨
   ((∀ (b : UInt8) (l : List UInt8), l.length ≤ 262144 → s.data.toList ≠ frameB b l) ∧ e = .returned (.tuple #[.int .u8 0, .string ⟨#[]⟩, .int .i64 4])))

/-- What Open's eye reads, by letters. -/
structure ReadsBy (s V1 O1 K O2 O3 L O4 : ByteArray) (N : Int) (G1 G2 G3 G4 : Bool) : Prop where
  v1 : rV s false 3 = V1
  s1 : rS s false 3 = O1
  g1 : rgone s false 3 = G1
  v2 : rV O1 G1 1 = K
  s2 : rS O1 G1 1 = O2
  g2 : rgone O1 G1 1 = G2
  v3 : nV O2 G2 262144 = N
  s3 : nS O2 G2 262144 = O3
  g3 : gone O2 G2 262144 = G3
  v4 : rV O3 G3 N = L
  s4 : rS O3 G3 N = O4
  g4 : rgone O3 G3 N = G4
  z0 : s.size ≤ 1000000
  z1 : O1.size ≤ 1000000
  z2 : O2.size ≤ 1000000
  z3 : O3.size ≤ 1000000
theorem reads_by (s : ByteArray) (hs : s.size ≤ 1000000) : ∃ (V1 O1 O2 O3 O4 : ByteArray) (N : Int) (G1 G2 G3 : Bool), ReadsBy s V1 O1 (kd s) O2 O3 (ld s) O4 N G1 G2 G3 (b4 s) :=
  ⟨_, o1 s, o2 s, o3 s, o4 s, nn s, b1 s, b2 s, b3 s, ⟨rfl, rfl, rfl, rfl, rfl, rfl, rfl, rfl, rfl, rfl, rfl, rfl, hs, Nat.le_trans (o1_size s) hs, Nat.le_trans (o2_size s) hs, Nat.le_trans (o3_size s) hs⟩⟩

set_option maxRecDepth 100000 in
set_option maxHeartbeats 1000000 in
theorem open_bad (s : ByteArray) (hs : s.size ≤ 1000000) (hb : b4 s = true) (w : World) :
    Calls Try.prog 11 #[.string s] w fun e w' => e = .returned (.tuple #[.int .u8 0, .string ⟨#[]⟩, .int .i64 4]) ∧ Below w.heap.size w w' := by
  obtain ⟨V1, O1, O2, O3, O4, N, G1, G2, G3, R⟩ := reads_by s hs
  rw [hb] at R
  generalize kd s = K at *
  generalize ld s = L at *
  have HR := Lib.hid R
  clear R hb hs
  go_enter Try.func11, Try.ntmps11
  go_wp2_with fail
  refine (on_any _ _).mono ?_
  rintro e wa ⟨rfl, ea, ba, za⟩
  have HZ := Lib.hid za
  have hba := ba.size
  clear za
  go_wp2_with fail
  refine (raw_is _ _ _ _ 3 V1 O1 G1 HR.out.z0 HR.out.v1 HR.out.s1 HR.out.g1 ea).mono ?_
  rintro e w1 ⟨rfl, e1, r1⟩
  have B1 := below_eye ba r1 (Nat.le_refl _) hba
  have y1 := r1.size
  clear ea ba r1
  go_wp2_with fail
  refine (raw_is _ _ _ _ 1 K O2 G2 HR.out.z1 HR.out.v2 HR.out.s2 HR.out.g2 e1).mono ?_
  rintro e w2 ⟨rfl, e2, r2⟩
  have B2 := below_eye B1 r2 (Nat.le_refl _) (by omega)
  have y2 := r2.size
  clear e1 B1 r2
  go_wp2_with fail
  refine (most_is _ _ _ _ N O3 G3 HR.out.z2 HR.out.v3 HR.out.s3 HR.out.g3 e2).mono ?_
  rintro e w3 ⟨rfl, e3, r3⟩
  have B3 := below_eye B2 r3 (Nat.le_refl _) (by omega)
  have y3 := r3.size
  clear e2 B2 r3
  go_wp2_with fail
  refine (raw_is _ _ _ _ N L O4 true HR.out.z3 HR.out.v4 HR.out.s4 HR.out.g4 e3).mono ?_
  rintro e w4 ⟨rfl, e4, r4⟩
  have B4 := below_eye B3 r4 (Nat.le_refl _) (by omega)
  clear e3 B3 r4
  go_wp2_with fail
  refine (bad_any _ _ _ _ e4).mono ?_
  rintro e w' ⟨rfl, rfl⟩
  go_wp2_with fail
  exact bodyPost_ret (v := .tuple #[.int .u8 0, .string ⟨#[]⟩, .int .i64 4]) (by simp [results, Try.results11, go_sem]) rfl ⟨rfl, B4⟩

set_option maxRecDepth 100000 in
set_option maxHeartbeats 1000000 in
theorem open_good (s : ByteArray) (hs : s.size ≤ 1000000) (b : UInt8) (L f : ByteArray) (hb : b4 s = false) (hk : kd s = ⟨#[b]⟩) (hL : ld s = L) (hz : L.size ≤ 262144) (hf : f.data.toList = frameB b L.data.toList) (ok : Bool) (hok : (f.toList == s.toList) = ok) (w : World) :
    Calls Try.prog 11 #[.string s] w fun e w' => e = .returned (.tuple #[.int .u8 (if ok = true then (b.toNat : Int) else 0), .string (if ok = true then L else ⟨#[]⟩), .int .i64 (if ok = true then 0 else 4)]) ∧ Below w.heap.size w w' := by
  obtain ⟨V1, O1, O2, O3, O4, N, G1, G2, G3, R⟩ := reads_by s hs
  rw [hb, hk, hL] at R
  have HR := Lib.hid R
  have HC := Lib.hid (fun w => close_any b (b.toNat : Int) rfl L f hz hf w)
  have kb := b.toNat_lt
  clear R hb hs hk hL hz hf
  have hne : (!f.toList == s.toList) = !ok := by rw [hok]
  cases ok
  all_goals
    go_enter Try.func11, Try.ntmps11
    go_wp2_with fail
    refine (on_any _ _).mono ?_
    rintro e wa ⟨rfl, ea, ba, za⟩
    have HZ := Lib.hid za
    have hba := ba.size
    clear za
    go_wp2_with fail
    refine (raw_is _ _ _ _ 3 V1 O1 G1 HR.out.z0 HR.out.v1 HR.out.s1 HR.out.g1 ea).mono ?_
    rintro e w1 ⟨rfl, e1, r1⟩
    have B1 := below_eye ba r1 (Nat.le_refl _) hba
    have y1 := r1.size
    clear ea ba r1
    go_wp2_with fail
    refine (raw_is _ _ _ _ 1 _ O2 G2 HR.out.z1 HR.out.v2 HR.out.s2 HR.out.g2 e1).mono ?_
    rintro e w2 ⟨rfl, e2, r2⟩
    have B2 := below_eye B1 r2 (Nat.le_refl _) (by omega)
    have y2 := r2.size
    clear e1 B1 r2
    go_wp2_with fail
    refine (most_is _ _ _ _ N O3 G3 HR.out.z2 HR.out.v3 HR.out.s3 HR.out.g3 e2).mono ?_
    rintro e w3 ⟨rfl, e3, r3⟩
    have B3 := below_eye B2 r3 (Nat.le_refl _) (by omega)
    have y3 := r3.size
    clear e2 B2 r3
    go_wp2_with fail
    refine (raw_is _ _ _ _ N L O4 false HR.out.z3 HR.out.v4 HR.out.s4 HR.out.g4 e3).mono ?_
    rintro e w4 ⟨rfl, e4, r4⟩
    have B4 := below_eye B3 r4 (Nat.le_refl _) (by omega)
    have y4 := r4.size
    clear e3 B3 r4
    go_wp2_with fail
    refine (bad_any _ _ _ _ e4).mono ?_
    rintro e w' ⟨rfl, rfl⟩
    go_wp2_with fail
    refine (HC.out _).mono ?_
    rintro e w5 ⟨rfl, b5⟩
    have B5 := B4.trans (b5.mono (by omega))
    clear e4 b5
    go_wp2_with fail
    first
    | exact bodyPost_ret (v := .tuple #[.int .u8 0, .string ⟨#[]⟩, .int .i64 4]) (by simp [results, Try.results11, go_sem]) rfl ⟨rfl, B5⟩
    | exact bodyPost_ret (v := .tuple #[.int .u8 (b.toNat : Int), .string L, .int .i64 0]) (by simp [results, Try.results11, go_sem]; rfl) rfl ⟨rfl, B5⟩

theorem open_any (s : ByteArray) (hs : s.size ≤ 1000000) (w : World) :
    Calls Try.prog 11 #[.string s] w (Opens w s) := by
  by_cases hb : b4 s = true
  · refine (open_bad s hs hb w).mono fun e w' ⟨he, hw⟩ => ⟨hw, Or.inr ⟨fun b l hl h => ?_, he⟩⟩
    have := (o_frame hl h).1
    rw [hb] at this; cases this
  · have hb' : b4 s = false := by simpa using hb
    obtain ⟨h1, h2⟩ := o_good hb'
    obtain ⟨b, hk⟩ := one_byte h1
    have hf : (⟨(frameB b (ld s).data.toList).toArray⟩ : ByteArray).data.toList = frameB b (ld s).data.toList := rfl
    by_cases he : frameB b (ld s).data.toList = s.data.toList
    · refine (open_good s hs b (ld s) _ hb' hk rfl h2 hf true (by rw [Lib.toList_data, Lib.toList_data, hf, beq_iff_eq]; exact he) w).mono fun e w' ⟨hh, hw⟩ => ⟨hw, Or.inl ⟨b, ld s, h2, he.symm, hh⟩⟩
    · refine (open_good s hs b (ld s) _ hb' hk rfl h2 hf false (by rw [Lib.toList_data, Lib.toList_data, hf, beq_eq_false_iff_ne]; exact he) w).mono fun e w' ⟨hh, hw⟩ => ⟨hw, Or.inr ⟨fun b' l hl h => ?_, hh⟩⟩
      obtain ⟨_, h4, h5⟩ := o_frame hl h
      rw [hk] at h4
      have e1 : b = b' := by simpa using h4
      exact he (by rw [e1, h5, ← h])
/-- What is framed is opened. -/
theorem open_yes (s : ByteArray) (b : UInt8) (l : ByteArray) (hl : l.size ≤ 262144) (h : s.data.toList = frameB b l.data.toList) (k : Int) (hk : k = (b.toNat : Int)) (w : World) :
    Calls Try.prog 11 #[.string s] w fun e w' => e = .returned (.tuple #[.int .u8 k, .string l, .int .i64 0]) ∧ Below w.heap.size w w' := by
  have hs : s.size ≤ 1000000 := by
    rw [Lib.size_eq, h, frame_len]
    have := natB_len10 (n := l.data.toList.length) (by rw [← Lib.size_eq]; omega)
    rw [← Lib.size_eq] at *; omega
  subst hk
  refine (open_any s hs w).mono fun e w' ⟨hw, hh⟩ => ⟨?_, hw⟩
  rcases hh with ⟨b', l', hl', h', he⟩ | ⟨hno, _⟩
  · obtain ⟨e1, e2⟩ := frame_inj (by rw [← Lib.size_eq]; omega) (by rw [← Lib.size_eq]; omega) (h'.symm.trans h)
    have e3 : l' = l := bytes_eq (by rw [Lib.toList_data, Lib.toList_data]; exact e2)
    rw [he, e1, e3]
  · exact absurd h (hno b _ (by rw [← Lib.size_eq]; exact hl))
theorem open_no (s : ByteArray) (hs : s.size ≤ 1000000) (h : ∀ (b : UInt8) (l : List UInt8), l.length ≤ 262144 → s.data.toList ≠ frameB b l) (w : World) :
    Calls Try.prog 11 #[.string s] w fun e w' => e = .returned (.tuple #[.int .u8 0, .string ⟨#[]⟩, .int .i64 4]) ∧ Below w.heap.size w w' := by
  refine (open_any s hs w).mono fun e w' ⟨hw, hh⟩ => ⟨?_, hw⟩
  rcases hh with ⟨b', l', hl', h', _⟩ | ⟨_, he⟩
  · exact absurd h' (h b' _ (by rw [← Lib.size_eq]; exact hl'))
  · exact he
end Go.Proofs.Ytnjheggnnmbgaaa
