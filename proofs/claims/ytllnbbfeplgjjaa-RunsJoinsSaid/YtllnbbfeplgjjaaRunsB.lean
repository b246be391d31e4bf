/-
  The laws RunsBytes and RunsGets, walked.
-/
import Derived.Test.YtllnbbfeplgjjaaPairC
import Derived.Test.YtllnbbfeplgjjaaQuillS
namespace Go.Proofs.Ytllnbbfeplgjjaa
set_option linter.unusedVariables false
set_option linter.unusedSimpArgs false
open Go.RowKit

theorem rowB_len {L : List PairV} (h : ∀ p, p ∈ L → okP p) (hl : L.length ≤ 100000) : (rowB L).length ≤ 10 + 20 * L.length := by
  unfold rowB
  have h1 := natB_len10 (n := L.length) (by omega)
  have h2 := bodyB_len h
  rw [List.length_append]; omega
theorem rowB_pos (L : List PairV) : 1 ≤ (rowB L).length := by unfold rowB; have := natB_pos L.length; rw [List.length_append]; omega
theorem tailB_low : ∀ (L : List PairV) (a : Int), 2 * L.length ≤ (tailB a L).length := by
  intro L
  induction L with
  | nil => intro a; exact Nat.le_refl _
  | cons p r ih =>
    intro a
    have h1 := natB_pos (farP a p.1)
    have h2 := natB_pos p.2.toNat
    have h3 := ih p.1
    simp only [tailB, List.length_append, List.length_cons]; omega
theorem bodyB_low (L : List PairV) : 2 * L.length ≤ (bodyB L).length := by
  cases L with
  | nil => exact Nat.le_refl _
  | cons p r =>
    have h1 := natB_pos (zig p.1).toNat
    have h2 := natB_pos p.2.toNat
    have h3 := tailB_low r p.1
    simp only [bodyB, List.length_append, List.length_cons]; omega
theorem taken_row {L : List PairV} {r : List UInt8} (hl : L.length < 18446744073709551616) : (takS (rowB L ++ r) 18446744073709551615).2 = (natB L.length).length := by
  unfold rowB
  rw [List.append_assoc, takS_nat hl (by omega)]
theorem Eye.away {w w' : World} {B B' : Nat} {s : ByteArray} {bad : Bool} (h : Eye w B s bad) (hg : w.grownBy w' (some B')) (hne : B ≠ B') : Eye w' B s bad := ⟨two_only h.two hg hne, h.non⟩

theorem bytes_same' {a b : ByteArray} (h : a.data.toList = b.data.toList) : a = b := by
  obtain ⟨⟨l⟩⟩ := a; obtain ⟨⟨m⟩⟩ := b
  exact congrArg (fun x => (⟨⟨x⟩⟩ : ByteArray)) h
theorem rgood_len (w : World) (A : Option Addr) (cap n : Nat) (L : List PairV) (b : Bool) (hn : n = L.length) (hbb : goodB L = b) (h : Pairs w A L) (hl : n ≤ 140737488351232) :
    Calls Try.prog 11 #[.slice A n cap] w fun e w' => e = .returned (.bool b) ∧ Below w.heap.size w w' := by
  subst hn; exact rgood_row w A cap L b hbb h hl
theorem rbytes_len (w : World) (A : Option Addr) (cap n : Nat) (L : List PairV) (f : ByteArray) (hn : n = L.length) (hf : f.data.toList = rowB L) (h : Pairs w A L) (hl : n ≤ 1000) :
    Calls Try.prog 16 #[.slice A n cap] w fun e w' => e = .returned (.string f) ∧ Below w.heap.size w w' := by
  subst hn; exact rbytes_any w A cap L f hf h hl
theorem taken_big (s : ByteArray) (n u : Nat) (hs : s.size ≤ 1000000) (h : takS s.data.toList 18446744073709551615 = (n, u)) (w : World) :
    Calls Try.prog 24 #[.string s, .int .u64 18446744073709551615] w fun e w' => e = .returned (.tuple #[.int .u64 (n : Int), .int .i64 (u : Int)]) ∧ Below w.heap.size w w' := by
  have C := taken_any s 18446744073709551615 ⟨by decide, by decide⟩ hs w
  have e : (18446744073709551615 : Int).toNat = 18446744073709551615 := rfl
  rw [e, h] at C
  exact C

set_option maxRecDepth 100000 in
set_option maxHeartbeats 2000000 in
theorem rgets_walk (CP : PutDoes) (CG : GoodDoes) (CE : GetDoes) (w : World) (s : ByteArray) (most : Int) (hs : s.size ≤ 140737488351232) (hm : I64 most) :
    Calls Try.prog 7 #[.string s, .int .i64 most] w fun e w' => e = .returned (.bool true) ∧ Below w.heap.size w w' := by
  have HP := Lib.hid CP
  have HG := Lib.hid CG
  have HE := Lib.hid CE
  have HM := Lib.hid hm
  obtain ⟨m0, m1⟩ := hm
  clear CP CG CE
  by_cases hll : s.size ≤ 300
  · have q0 : ¬ (300 : Int) < s.size := by omega
    go_enter Try.func7, Try.ntmps7
    go_wp2_with fail
    refine (ralive_any HP.out HG.out _).mono ?_
    rintro e w0 ⟨rfl, b0⟩
    have z0 := b0.size
    go_wp2_with fail
    refine (on_any _ _).mono ?_
    rintro e w1 ⟨rfl, e1, b1, z1⟩
    have hb1 := b0.trans (b1.mono z0)
    have hbs1 := hb1.size
    have HZ1 := Lib.hid z1
    clear z1
    go_wp2_with fail
    refine (HE.out _ w0.heap.size s false most e1 (by omega) HM.out).mono ?_
    rintro e w2 ⟨hg2, hcase⟩
    have hb2 := below_eye hb1 hg2 z0 hbs1
    have hbs2 := hb2.size
    have hg2s := hg2.size
    rcases hcase with ⟨v, L, t, rfl, _, hrow, hown, heye⟩ | ⟨A, cap, rfl, _, heye⟩
    · obtain ⟨r1, r2, r3, r4⟩ := hrow
      have hown' : OwnP w2 w1.heap.size v L := hown
      obtain ⟨A, cap, rfl, hP⟩ := hown'.pairs r2
      have HPP := Lib.hid hP
      have hLs : (rowB L).length + t.size = s.size := by rw [Lib.size_eq, Lib.size_eq, r4, List.length_append]
      have hLl : L.length ≤ 1000 := by
        have h1 := bodyB_low L
        have h2 : (bodyB L).length ≤ (rowB L).length := by unfold rowB; rw [List.length_append]; omega
        omega
      obtain ⟨f, hf⟩ : ∃ f : ByteArray, f.data.toList = rowB L := ⟨⟨(rowB L).toArray⟩, rfl⟩
      obtain ⟨x, hx⟩ : ∃ x : Nat, (s.size : Int) - (t.size : Int) = (x : Int) := ⟨s.size - t.size, by omega⟩
      have hxx : x = (rowB L).length := by omega
      have hex : s.extract 0 x = f := bytes_same' (by rw [← Lib.toList_data, Lib.extract_toList, r4, List.drop_zero, Nat.sub_zero, hxx, List.take_left, hf])
      have hxs : (x : Int) ≤ s.size := by omega
      obtain ⟨n0, u0, hT⟩ : ∃ n0 u0, takS s.data.toList 18446744073709551615 = (n0, u0) := ⟨_, _, rfl⟩
      have hu : 0 < u0 := by
        have h1 := taken_row (L := L) (r := t.data.toList) (by omega)
        rw [← r4, hT] at h1
        have := natB_pos L.length
        simp only at h1; omega
      have HT := Lib.hid hT
      have HF := Lib.hid hf
      have HGR := Lib.hid (goodB_true.2 r1)
      have hmx : decide ((L.length : Int) ≤ max most 0) = true := decide_eq_true r3
      have hmx' : (L.length : Int) ≤ max most 0 := r3
      have tz : t.size ≤ s.size := by omega
      have hcs : (¬ most < 0 ∧ (L.length : Int) ≤ most) ∨ (most < 0 ∧ L.length = 0) := by
        by_cases h : most < 0
        · exact Or.inr ⟨h, by omega⟩
        · exact Or.inl ⟨h, by omega⟩
      clear hmx hmx'
      clear hg2 hown hown' b1 e1 hP r1 r2 r3 r4 hLs hT hf hxx
      obtain ⟨n, hn⟩ : ∃ n, n = L.length := ⟨_, rfl⟩
      have HN := Lib.hid hn
      rw [← hn] at hcs hLl
      rw [← hn]
      have hcs' : (¬ most < 0 ∧ (n : Int) ≤ most) ∨ (most < 0 ∧ 0 = n) := hcs.imp id (fun h => ⟨h.1, h.2.symm⟩)
      clear hcs hn
      rcases hcs' with ⟨c1, c2⟩ | ⟨c1, rfl⟩
      all_goals
        go_wp2_with fail
        refine (bad_any _ _ _ _ heye).mono ?_
        rintro e w' ⟨rfl, rfl⟩
        go_wp2_with fail
        refine (taken_big s n0 u0 (by omega) HT.out _).mono ?_
        rintro e w3 ⟨rfl, b3⟩
        have hb3 := hb2.trans (b3.mono hbs2)
        have hbs3 := hb3.size
        have heye3 := heye.call b3
        have HP3 := Lib.hid (HPP.out.call b3)
        clear b3 heye
        go_wp2_with fail
        refine (rgood_len _ A cap _ L true HN.out HGR.out HP3.out (by omega)).mono ?_
        rintro e w4 ⟨rfl, b4⟩
        have hb4 := hb3.trans (b4.mono hbs3)
        have hbs4 := hb4.size
        have heye4 := heye3.call b4
        have HP4 := Lib.hid (HP3.out.call b4)
        clear b4 heye3
        go_wp2_with fail
        refine (rbytes_len _ A cap _ L f HN.out HF.out HP4.out (by omega)).mono ?_
        rintro e w5 ⟨rfl, b5⟩
        have hb5 := hb4.trans (b5.mono hbs4)
        have heye5 := heye4.call b5
        clear b5 heye4
        go_wp2_with fail
        refine (left_any _ _ _ _ heye5).mono ?_
        rintro e w' ⟨rfl, rfl⟩
        go_wp2_with fail
        go_ret
        exact ⟨rfl, hb5⟩
    · clear hg2 b1 e1
      go_wp2_with fail
      refine (bad_any _ _ _ _ heye).mono ?_
      rintro e w' ⟨rfl, rfl⟩
      go_wp2_with fail
      go_ret
      exact ⟨rfl, hb2⟩
  · have q0 : (300 : Int) < s.size := by omega
    go_enter Try.func7, Try.ntmps7
    go_wp2_with fail
    refine (ralive_any HP.out HG.out _).mono ?_
    rintro e w0 ⟨rfl, b0⟩
    go_wp2_with fail
    go_ret
    exact ⟨rfl, b0⟩

theorem same_len (w : World) (A A' : Option Addr) (cap cap' n n' : Nat) (L M : List PairV) (b : Bool) (hn : n = L.length) (hn' : n' = M.length) (hbb : decide (L = M) = b) (h : Pairs w A L) (h' : Pairs w A' M) (hl : n ≤ 1000) (hl' : n' ≤ 1000) :
    Calls Try.prog 14 #[.slice A n cap, .slice A' n' cap'] w fun e w' => e = .returned (.bool b) ∧ Below w.heap.size w w' := by
  subst hn hn'; exact same_any w A A' cap cap' L M b hbb h h' hl hl'
theorem quil_text2 (w : World) (B : Nat) (l : List UInt8) (f : ByteArray) (hf : f.data.toList = l) (h : Quil w B l) :
    Calls Try.prog 20 #[.pointer (some ⟨B, 0, none⟩)] w fun e w' => e = .returned (.string f) ∧ w = w' := by
  rw [← str_mk' hf]; exact quil_text w B l h
theorem OwnP.beyond {w w' : World} {base B : Nat} {v : Value} {L : List PairV} (h : OwnP w base v L) (hg : w.grownBy w' (some B)) (hB : B < base) : OwnP w' base v L := by
  refine OwnP.other h hg ?_
  cases hb : v.ownBlock with
  | none => exact Or.inl rfl
  | some g =>
    refine Or.inr fun e => ?_
    have h1 := (h.lt g hb).1
    have h2 : g = B := Option.some.inj e
    omega
theorem rbytes_out1 (CP : PutDoes) (CG : GoodDoes) (w : World) (A : Option Addr) (cap : Nat) (L : List PairV) (s : ByteArray) (h : Pairs w A L) (hl : L.length ≤ 140737488351232) (hs : s.size ≤ 140737488351232) (hno : 100 < L.length ∨ (L.length ≤ 100 ∧ (goodB L = false ∨ (goodB L = true ∧ 100 < s.size)))) :
    Calls Try.prog 6 #[.slice A L.length cap, .string s] w fun e w' => e = .returned (.bool true) ∧ Below w.heap.size w w' := by
  have HP := Lib.hid CP
  have HG := Lib.hid CG
  have HI := Lib.hid h
  clear CP CG h
  rcases hno with q0 | ⟨q0, hno⟩
  · have q0 : (100 : Int) < L.length := by omega
    go_enter Try.func6, Try.ntmps6
    go_wp2_with fail
    refine (ralive_any HP.out HG.out _).mono ?_
    rintro e w0 ⟨rfl, b0⟩
    go_wp2_with fail
    go_ret
    exact ⟨rfl, b0⟩
  · have q0 : ¬ (100 : Int) < L.length := by omega
    rcases hno with hg | ⟨hg, q1⟩
    · have HGG := Lib.hid hg
      clear hg
      go_enter Try.func6, Try.ntmps6
      go_wp2_with fail
      refine (ralive_any HP.out HG.out _).mono ?_
      rintro e w0 ⟨rfl, b0⟩
      go_wp2_with fail
      refine (rgood_row _ A cap L false HGG.out (HI.out.call b0) hl).mono ?_
      rintro e w1 ⟨rfl, b1⟩
      go_wp2_with fail
      go_ret
      exact ⟨rfl, b0.trans (b1.mono b0.size)⟩
    · have HGG := Lib.hid hg
      have q1 : (100 : Int) < s.size := by omega
      clear hg
      go_enter Try.func6, Try.ntmps6
      go_wp2_with fail
      refine (ralive_any HP.out HG.out _).mono ?_
      rintro e w0 ⟨rfl, b0⟩
      go_wp2_with fail
      refine (rgood_row _ A cap L true HGG.out (HI.out.call b0) hl).mono ?_
      rintro e w1 ⟨rfl, b1⟩
      go_wp2_with fail
      go_ret
      exact ⟨rfl, b0.trans (b1.mono b0.size)⟩

/-- What getting a row from its own bytes comes to. -/
theorem gets_own {w w' : World} {B : Nat} {s : ByteArray} {most : Int} {e : Ending} {L : List PairV} {r : List UInt8} (h : Gets w B s false most e w') (hg : GoodP L) (hok : ∀ p, p ∈ L → okP p) (hl : (L.length : Int) ≤ most) (hl2 : L.length ≤ 1000) (hs : s.data.toList = rowB L ++ r) (hm : most ≤ 1000) :
    w.grownBy w' (some B) ∧ ∃ (v : Value) (t : ByteArray), e = .returned v ∧ t.data.toList = r ∧ OwnP w' w.heap.size v L ∧ Eye w' B t false := by
  obtain ⟨h1, h2⟩ := h
  refine ⟨h1, ?_⟩
  rcases h2 with ⟨v, L', t, he, _, ⟨r1, r2, r3, r4⟩, ho, hy⟩ | ⟨A, cap, he, hno, hy⟩
  · obtain ⟨e1, e2⟩ := row_inj hok r2 hg r1 (by omega) (by omega) (hs.symm.trans r4)
    subst e1
    exact ⟨v, t, he, e2.symm, ho, hy⟩
  · rcases hno with hno | hno
    · cases hno
    · exact absurd ⟨hg, hok, hl, hs⟩ (hno L r)
/-- What getting too short a row comes to: nothing, and the eye is bad, or the row was empty. -/
theorem gets_less {w w' : World} {B : Nat} {s : ByteArray} {e : Ending} {L : List PairV} (h : Gets w B s false ((L.length : Int) - 1) e w') (hg : GoodP L) (hok : ∀ p, p ∈ L → okP p) (hl2 : L.length ≤ 1000) (hs : s.data.toList = rowB L) :
    w.grownBy w' (some B) ∧ ∃ (A : Option Addr) (cap : Nat) (t : ByteArray) (bad : Bool), e = .returned (.slice A 0 cap) ∧ Eye w' B t bad ∧ (bad = true ∨ L.length = 0) := by
  obtain ⟨h1, h2⟩ := h
  refine ⟨h1, ?_⟩
  rcases h2 with ⟨v, L', t, he, _, ⟨r1, r2, r3, r4⟩, ho, hy⟩ | ⟨A, cap, he, hno, hy⟩
  · obtain ⟨e1, e2⟩ := row_inj (r := []) hok r2 hg r1 (by omega) (by omega) (by rw [List.append_nil]; exact hs.symm.trans r4)
    subst e1
    have h0 : L.length = 0 := by omega
    obtain ⟨A, cap, e3⟩ := ho.form
    rw [h0] at e3
    exact ⟨A, cap, t, false, by rw [he, e3], hy, Or.inr h0⟩
  · exact ⟨A, cap, _, true, he, hy, Or.inl rfl⟩

set_option maxRecDepth 100000 in
set_option maxHeartbeats 2000000 in
theorem rbytes_in (CP : PutDoes) (CG : GoodDoes) (CE : GetDoes) (w : World) (A : Option Addr) (cap : Nat) (L : List PairV) (s : ByteArray) (h : Pairs w A L) (hl : L.length ≤ 100) (hg : GoodP L) (hs : s.size ≤ 100) :
    Calls Try.prog 6 #[.slice A L.length cap, .string s] w fun e w' => e = .returned (.bool true) ∧ Below w.heap.size w w' := by
  have HP := Lib.hid CP
  have HG := Lib.hid CG
  have HE := Lib.hid CE
  have HI := Lib.hid h
  have HGG := Lib.hid hg
  have q0 : ¬ (100 : Int) < L.length := by omega
  have q1 : ¬ (100 : Int) < s.size := by omega
  obtain ⟨f, hf⟩ : ∃ f : ByteArray, f.data.toList = rowB L := ⟨⟨(rowB L).toArray⟩, rfl⟩
  have hfz : f.size ≤ 3000 := by rw [Lib.size_eq, hf]; have := rowB_len HI.out.ok (by omega); omega
  have HF := Lib.hid hf
  have HFS : Hid ((f ++ s).data.toList = rowB L ++ s.data.toList) := Lib.hid (by rw [app_str, hf])
  clear CP CG CE h hf hg
  go_enter Try.func6, Try.ntmps6
  go_wp2_with fail
  refine (ralive_any HP.out HG.out _).mono ?_
  rintro e w0 ⟨rfl, b0⟩
  have z0 := b0.size
  go_wp2_with fail
  refine (rgood_row _ A cap L true (goodB_true.2 HGG.out) (HI.out.call b0) (by omega)).mono ?_
  rintro e w1 ⟨rfl, b1'⟩
  have b1 := b0.trans (b1'.mono z0)
  have z1 := b1.size
  clear b0 b1' z0
  have hq0 := Quil.new w1
  go_wp2_with fail
  refine (HP.out _ w1.heap.size [] (rowB L) A cap L hq0 (HI.out.call (b1.alloc z1 _)) ?p1 HGG.out (by omega) (by decide) rfl).mono ?_
  case p1 =>
    intro hne b off hA
    cases L with
    | nil => exact absurd rfl hne
    | cons p r =>
      obtain ⟨b', off', hA', hlt, _⟩ := HI.out.at_ 0 p rfl
      rw [hA] at hA'
      have := (Addr.mk.inj (Option.some.inj hA')).1
      exact Or.inl (by omega)
  rintro e w2 ⟨rfl, hq2, hw2⟩
  have b2 : Below w.heap.size w w2 := (b1.alloc z1 _).trans (hw2.below.mono z1)
  have z2 := b2.size
  have hq2l := hq2.lt
  clear hq0 hw2 b1
  go_wp2_with fail
  refine (quil_text2 _ _ _ f HF.out hq2).mono ?_
  rintro e w' ⟨rfl, rfl⟩
  go_wp2_with fail
  refine (on_any _ _).mono ?_
  rintro e w3 ⟨rfl, e3, k3, z3⟩
  have HZ3 := Lib.hid z3
  have hq3 := hq2.call k3
  clear z3
  go_wp2_with fail
  refine (quil_text2 _ _ _ f HF.out hq3).mono ?_
  rintro e w' ⟨rfl, rfl⟩
  go_wp2_with fail
  refine (on_any _ _).mono ?_
  rintro e w4 ⟨rfl, e4, b4, z4⟩
  have HZ4 := Lib.hid z4
  have k4 := k3.trans (b4.mono k3.size)
  have e3' := e3.call b4
  clear z4 b4 hq3 e3
  go_wp2_with fail
  refine (HE.out _ w2.heap.size (f ++ s) false 100 e3' (by rw [ByteArray.size_append]; omega) ⟨by decide, by decide⟩).mono ?_
  rintro e w5 hG5
  obtain ⟨hg5, v5, t5, rfl, ht5, ho5, e5⟩ := gets_own (r := s.data.toList) hG5 HGG.out HI.out.ok (by omega) (by omega) HFS.out (by decide)
  obtain rfl : t5 = s := bytes_same' ht5
  have ne1 : w3.heap.size ≠ w2.heap.size := by have := HZ3.out; omega
  have f5 := e4.away hg5 ne1
  have k5 := below_eye k4 hg5 (Nat.le_refl _) k4.size
  clear hG5 ht5 e4 e3'
  obtain ⟨A5, c5, rfl, hP5⟩ := ho5.pairs HI.out.ok
  have HO5 := Lib.hid ho5
  have hg5s := hg5.size
  clear hg5 ho5 hP5
  go_wp2_with fail
  refine (HE.out _ w3.heap.size f false ((L.length : Int) - 1) f5 (by omega) ⟨by omega, by omega⟩).mono ?_
  rintro e w6 hG6
  obtain ⟨hg6, A6, c6, t6, bd6, rfl, f6, hbd⟩ := gets_less hG6 HGG.out HI.out.ok (by omega) HF.out
  have e6 := e5.away hg6 ne1.symm
  have k6 := below_eye k5 hg6 (by have := HZ3.out; omega) k5.size
  have ho6 : OwnP w6 w4.heap.size (.slice A5 L.length c5) L := OwnP.beyond HO5.out hg6 (by have := HZ4.out; omega)
  obtain ⟨A5', c5', ev5, hP6⟩ := ho6.pairs HI.out.ok
  injection ev5 with ev1 ev2 ev3
  subst ev1 ev3
  have HP6 := Lib.hid hP6
  have b6 := b2.trans (k6.mono z2)
  have z6 := b6.size
  have HBD := Lib.hid hbd
  have hq6 := hq2.call k6
  clear hG6 hg6 f5 e5 HO5 ho6 hP6 k3 k4 k5 hbd ev2
  go_wp2_with fail
  refine (quil_text2 _ _ _ f HF.out hq6).mono ?_
  rintro e w' ⟨rfl, rfl⟩
  go_wp2_with fail
  refine (rbytes_any _ A cap L f HF.out (HI.out.call b6) (by omega)).mono ?_
  rintro e w7 ⟨rfl, b7⟩
  have b8 := b6.trans (b7.mono z6)
  have z8 := b8.size
  have e7 := e6.call b7
  have f7 := f6.call b7
  have HP7 := Lib.hid (HP6.out.call b7)
  clear b7 e6 f6
  go_wp2_with fail
  refine (same_any _ _ A _ cap L L true (decide_eq_true rfl) HP7.out (HI.out.call b8) (by omega) (by omega)).mono ?_
  rintro e w9 ⟨rfl, b9⟩
  have b10 := b8.trans (b9.mono z8)
  have e9 := e7.call b9
  have f9 := f7.call b9
  clear b9 e7 f7
  go_wp2_with fail
  refine (left_any _ _ _ _ e9).mono ?_
  rintro e w' ⟨rfl, rfl⟩
  go_wp2_with fail
  refine (bad_any _ _ _ _ e9).mono ?_
  rintro e w' ⟨rfl, rfl⟩
  go_wp2_with fail
  refine (bad_any _ _ _ _ f9).mono ?_
  rintro e w' ⟨rfl, rfl⟩
  have hend : bd6 = true ∨ (bd6 = false ∧ ((L.length : Int) == 0) = true) := by
    cases bd6
    · rcases HBD.out with h | h
      · cases h
      · exact Or.inr ⟨rfl, by rw [h]; rfl⟩
    · exact Or.inl rfl
  rcases hend with rfl | ⟨rfl, hz⟩
  · go_wp2_with fail
    go_ret
    exact ⟨rfl, b10⟩
  · go_wp2_with fail
    go_ret
    exact ⟨rfl, b10⟩

theorem rbytes_walk (CP : PutDoes) (CG : GoodDoes) (CE : GetDoes) (w : World) (A : Option Addr) (cap : Nat) (L : List PairV) (s : ByteArray) (h : Pairs w A L) (hl : L.length ≤ 140737488351232) (hs : s.size ≤ 140737488351232) :
    Calls Try.prog 6 #[.slice A L.length cap, .string s] w fun e w' => e = .returned (.bool true) ∧ Below w.heap.size w w' := by
  by_cases h1 : L.length ≤ 100
  · by_cases hg : GoodP L
    · by_cases h2 : s.size ≤ 100
      · exact rbytes_in CP CG CE w A cap L s h h1 hg h2
      · exact rbytes_out1 CP CG w A cap L s h hl hs (Or.inr ⟨h1, Or.inr ⟨goodB_true.2 hg, by omega⟩⟩)
    · exact rbytes_out1 CP CG w A cap L s h hl hs (Or.inr ⟨h1, Or.inl (goodB_false.2 hg)⟩)
  · exact rbytes_out1 CP CG w A cap L s h hl hs (Or.inl (by omega))
end Go.Proofs.Ytllnbbfeplgjjaa
