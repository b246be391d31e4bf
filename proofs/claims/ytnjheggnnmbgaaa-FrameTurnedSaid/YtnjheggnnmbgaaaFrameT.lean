/-
  The law FrameTurned, walked.
-/
import Derived.Test.YtnjheggnnmbgaaaFrameL
import Derived.Laws.IdiomStrings
namespace Go.Proofs.Ytnjheggnnmbgaaa
set_option linter.unusedVariables false
set_option linter.unusedSimpArgs false
open Go.RowKit

/-- A block of bytes that may be written: its first n cells. -/
structure RowB (w : World) (g n : Nat) (t : Nat → UInt8) : Prop where
  cell : ∀ j, j < n → w.cell? ⟨g, j, none⟩ = some (.int .u8 ((t j).toNat : Int))
  free : ∀ j, j < n → w.frozen? ⟨g, j, none⟩ = false
theorem RowB.put {w : World} {g n : Nat} {t : Nat → UInt8} (h : RowB w g n t) {p : Nat} (hp : p < n) (b : UInt8) : RowB (w.setCell ⟨g, p, none⟩ (.int .u8 (b.toNat : Int))) g n (fun j => if j = p then b else t j) := by
  refine ⟨fun j hj => ?_, fun j hj => ?_⟩
  · by_cases e : j = p
    · subst e
      rw [World.cell?_setCell_same _ _ _ (h.cell j hp)]; simp
    · rw [World.cell?_setCell_other _ _ _ _ (two_off (Ne.symm e)), h.cell j hj, if_neg e]
  · rw [World.frozen?_setCell]; exact h.free j hj
/-- What stands at each place when so many of four bytes are turned, from k on. -/
def tb (l : List UInt8) (k turn i j : Nat) : UInt8 := if k ≤ j ∧ j < k + i then l.getD j 0 ^^^ (le4 turn).getD (j - k) 0 else l.getD j 0
theorem tb_zero (l : List UInt8) (k turn : Nat) : tb l k turn 0 = fun j => l.getD j 0 := by
  funext j; unfold tb; rw [if_neg (by omega)]
theorem tb_at (l : List UInt8) (k turn i : Nat) : tb l k turn i (k + i) = l.getD (k + i) 0 := by unfold tb; rw [if_neg (by omega)]
theorem tb_succ (l : List UInt8) (k turn i : Nat) (b : UInt8) (hb : b = l.getD (k + i) 0 ^^^ (le4 turn).getD i 0) : (fun j => if j = k + i then b else tb l k turn i j) = tb l k turn (i + 1) := by
  funext j
  by_cases e : j = k + i
  · subst e
    simp only [if_true]
    unfold tb
    rw [if_pos (by omega), hb, Nat.add_sub_cancel_left]
  · simp only [if_neg e]
    unfold tb
    by_cases h : k ≤ j ∧ j < k + i
    · rw [if_pos h, if_pos (by omega)]
    · rw [if_neg h, if_neg (by omega)]
theorem pat_len (k turn m : Nat) : (pat k turn m).length = k + 4 + m := by unfold pat le4; simp; omega
theorem pat_at (k turn m j : Nat) (hj : j < k + 4 + m) : (pat k turn m).getD j 0 = if k ≤ j ∧ j < k + 4 then (le4 turn).getD (j - k) 0 else 0 := by
  have h4 : (le4 turn).length = 4 := rfl
  unfold pat
  simp only [List.getD]
  by_cases c1 : k ≤ j
  · rw [List.getElem?_append_right (by simpa using c1), List.length_replicate]
    by_cases c2 : j < k + 4
    · rw [if_pos ⟨c1, c2⟩, List.getElem?_append_left (by rw [h4]; omega)]
    · rw [if_neg (by omega), List.getElem?_append_right (by rw [h4]; omega), h4, List.getElem?_replicate]
      split <;> rfl
  · rw [if_neg (by omega), List.getElem?_append_left (by rw [List.length_replicate]; omega), List.getElem?_replicate]
    split <;> rfl
theorem getD_at {l : List UInt8} {j : Nat} (h : j < l.length) : l.getD j 0 = l[j] := by simp [List.getD, List.getElem?_eq_getElem h]
theorem tb_four (l : List UInt8) (k turn m : Nat) (h : l.length = k + 4 + m) : (List.range l.length).map (tb l k turn 4) = mix l (pat k turn m) := by
  apply List.ext_getElem
  · unfold mix; simp [pat_len, h]
  · intro j h1 h2
    have hj : j < l.length := by simpa using h1
    have hj2 : j < (pat k turn m).length := by rw [pat_len]; omega
    have e1 : (mix l (pat k turn m))[j]'h2 = l[j] ^^^ (pat k turn m)[j] := by simp [mix]
    rw [List.getElem_map, List.getElem_range, e1, ← getD_at hj2, ← getD_at hj, pat_at _ _ _ _ (by omega)]
    unfold tb
    split
    · rfl
    · simp
/-- A byte turned. -/
theorem xor_u8 (a b : UInt8) : bits .xor .u8 (a.toNat : Int) (b.toNat : Int) = ((a ^^^ b).toNat : Int) := by
  have ha := a.toNat_lt; have hb := b.toNat_lt
  have ha' : a.toNat % 2 ^ IntKind.u8.bits = a.toNat := Nat.mod_eq_of_lt ha
  have hb' : b.toNat % 2 ^ IntKind.u8.bits = b.toNat := Nat.mod_eq_of_lt hb
  simp only [bits, BitVec.ofInt_natCast, BitVec.toNat_xor, BitVec.toNat_ofNat, ha', hb']
  rw [UInt8.toNat_xor]
  exact wraps_u8 _ (Int.natCast_nonneg _) (by have := Nat.xor_lt_two_pow (n := 8) ha hb; omega)
theorem le4_at (turn : Nat) (ht : turn < 4294967296) (i : Nat) (hi : i < 4) : ((((le4 turn).getD i 0).toNat : Nat) : Int) = (turn : Int) / 2 ^ (8 * i) % 256 := by
  match i, hi with
  | 0, _ => show ((UInt8.ofNat (turn % 256)).toNat : Int) = _; rw [ofNat_toNat (by omega)]; omega
  | 1, _ => show ((UInt8.ofNat (turn / 256 % 256)).toNat : Int) = _; rw [ofNat_toNat (by omega)]; omega
  | 2, _ => show ((UInt8.ofNat (turn / 65536 % 256)).toNat : Int) = _; rw [ofNat_toNat (by omega)]; omega
  | 3, _ => show ((UInt8.ofNat (turn / 16777216)).toNat : Int) = _; rw [ofNat_toNat (by omega)]; omega

theorem row_new (W : World) (s : ByteArray) (cap : Nat) : RowB (W.alloc (.cells (bytesRow s cap) 5 ((bytesRow s cap).size, (bytesRow s cap).size + 1))) W.heap.size s.size (fun j => s.data.toList.getD j 0) := by
  refine ⟨fun j hj => ?_, fun j hj => ?_⟩
  · rw [World.cell?_alloc_mark, bytesRow_at s cap j hj, getD_at (by rw [← Lib.size_eq]; exact hj)]
    simp
  · rw [World.frozen?_alloc_mark]
    have : j < (bytesRow s cap).size := by unfold bytesRow; simp; omega
    simp; omega

set_option maxRecDepth 100000 in
set_option maxHeartbeats 1000000 in
theorem fturned_yes (k : Int) (x : ByteArray) (c : Int) (turn : Nat) (hk : 0 ≤ k ∧ k < 256) (hx : x.size ≤ 2048) (ht : turn < 4294967296) (ht0 : turn ≠ 0) (w : World) :
    Calls Try.prog 5 #[.int .u8 k, .string x, .int .i64 c, .int .u32 turn] w fun e w' => e = .returned (.bool true) ∧ Below w.heap.size w w' := by
  have q0 : ¬ (2048 : Int) < (x.size : Int) := by omega
  have q1 : ((turn : Int) == 0) = false := by simp [ht0]
  obtain ⟨b, eb⟩ := byte_of hk.1 hk.2
  obtain ⟨f, hf⟩ : ∃ f : ByteArray, f.data.toList = frameB b x.data.toList := ⟨⟨(frameB b x.data.toList).toArray⟩, rfl⟩
  have hfz : f.size = (frameB b x.data.toList).length := by rw [Lib.size_eq, hf]
  have hfl : (frameB b x.data.toList).length = 8 + (natB x.data.toList.length).length + x.data.toList.length := frame_len _ _
  have hnl := natB_len10 (n := x.data.toList.length) (by rw [← Lib.size_eq]; omega)
  have hxl : x.data.toList.length = x.size := (Lib.size_eq x).symm
  have hn1 := natB_pos x.data.toList.length
  obtain ⟨n, hn⟩ : ∃ n, f.size = n := ⟨_, rfl⟩
  have n0 : 9 ≤ n := by omega
  have n1 : n ≤ 2066 := by omega
  obtain ⟨p, hp⟩ : ∃ p : Nat, IntKind.u64.wrap c % ((n : Int) - 3) = p := ⟨(IntKind.u64.wrap c % ((n : Int) - 3)).toNat, by
    have := Int.emod_nonneg (IntKind.u64.wrap c) (b := (n : Int) - 3) (by omega); omega⟩
  have hpl : p + 3 < n := by
    have := Int.emod_lt_of_pos (IntKind.u64.wrap c) (b := (n : Int) - 3) (by omega); omega
  have hq : (IntKind.u64.wrap c).tmod ((n : Int) - 3) = (p : Int) := by
    rw [Int.tmod_eq_emod_of_nonneg (by rw [IntKind.wrap_u64]; omega)]; exact hp
  have hlen : (frameB b x.data.toList).length = (pat p turn (n - 4 - p)).length := by rw [pat_len, ← hfz]; omega
  have hmix := open_turned b x.data.toList p turn (n - 4 - p) ht ht0 hlen
  obtain ⟨g, hg⟩ : ∃ g : ByteArray, g.data.toList = (List.range n).map (tb f.data.toList p turn 4) := ⟨⟨((List.range n).map (tb f.data.toList p turn 4)).toArray⟩, rfl⟩
  have hgm : g.data.toList = mix (frameB b x.data.toList) (pat p turn (n - 4 - p)) := by
    have h := tb_four f.data.toList p turn (n - 4 - p) (by rw [← Lib.size_eq]; omega)
    rw [← Lib.size_eq, hn] at h
    rw [hg, h, hf]
  have hgz : g.size = n := by rw [Lib.size_eq, hg]; simp
  have HC := Lib.hid (fun w => close_any b k eb x f (by omega) hf w)
  have HO := Lib.hid (fun w => open_no g (by omega) (no_frame hgm hmix) w)
  have HG := Lib.hid hg
  have HN := Lib.hid hn
  clear eb hf hk hfz hfl hnl hxl hn1 hp hlen hmix hg hgm hgz ht0
  go_enter Try.func5, Try.ntmps5
  go_wp2_with fail
  refine (falive_any _).mono ?_
  rintro e w1 ⟨rfl, b1⟩
  go_wp2_with fail
  refine (HC.out _).mono ?_
  rintro e w2 ⟨rfl, b2⟩
  have hcv := run_bytes_of_string (P := Try.prog) w2 9 35 5 f Try.underlying9 Try.underlying35 Try.underlying5
  rw [HN.out] at hcv
  have hrow := row_new w2.drew f (grownCap w2 n 0 5)
  rw [HN.out] at hrow
  obtain ⟨cap, hcap⟩ : ∃ cap, grownCap w2 n 0 5 = cap := ⟨_, rfl⟩
  rw [hcap] at hcv hrow
  have hb3 : Below w.heap.size w (w2.drew.alloc (.cells (bytesRow f cap) 5 ((bytesRow f cap).size, (bytesRow f cap).size + 1))) := (below_then b1 b2 (Nat.le_refl _)).drew.alloc (by have := (below_then b1 b2 (Nat.le_refl _)).size; simpa using this) _
  generalize hw3 : w2.drew.alloc (.cells (bytesRow f cap) 5 ((bytesRow f cap).size, (bytesRow f cap).size + 1)) = w3 at *
  have HW3 := Lib.hid hw3
  have h2s : w.heap.size ≤ w2.heap.size := (below_then b1 b2 (Nat.le_refl _)).size
  have hrow' : RowB w3 w2.heap.size n (tb f.data.toList p turn 0) := by rw [tb_zero]; exact hrow
  clear hw3 hcap hrow
  go_wp2_with fail
  clear hcv
  have HW2 := Lib.hid h2s
  go_loopw [13] (fun i wr => ∃ j : Nat, j ≤ 4 ∧ i = .int .i64 j ∧ RowB wr w2.heap.size n (tb f.data.toList p turn j) ∧ Below w.heap.size w wr) (fun i _ => 4 - (intOf i).toNat)
  case atStart => exact ⟨0, by decide, rfl, hrow', hb3⟩
  case round =>
    obtain ⟨j, hj, rfl, hR, hB⟩ := hrel
    by_cases h4 : j = 4
    · subst h4
      have hcv := run_convert_bytes_back (P := Try.prog) wr 35 9 5 ⟨w2.heap.size, 0, none⟩ cap g.data.toList Try.underlying35 Try.underlying5 Try.underlying9 (by
        intro j hj
        have h1 : j < n := by rw [HG.out] at hj; simpa using hj
        have h2 := hR.cell j h1
        have h3 : g.data.toList[j] = tb f.data.toList p turn 4 j := by
          rw [← getD_at hj, HG.out]; simp [List.getD, h1]
        rw [h3]
        have ha : (⟨w2.heap.size, 0, none⟩ : Addr).add j = ⟨w2.heap.size, j, none⟩ := by unfold Addr.add; split <;> simp_all
        rw [ha]; exact h2)
      rw [str_mk rfl] at hcv
      rw [show g.data.toList.length = n from by rw [HG.out]; simp] at hcv
      go_wp2_with fail
      refine (HO.out _).mono ?_
      rintro e w4 ⟨rfl, b4⟩
      go_wp2_with fail
      go_ret
      exact ⟨rfl, below_then hB b4 (Nat.le_refl _)⟩
    · have jl : (j : Int) < 4 := by omega
      obtain ⟨Q, hQ⟩ : ∃ Q, p + j = Q := ⟨_, rfl⟩
      have hQ' : (p : Int) + (j : Int) = (Q : Int) := by omega
      have hQn : (Q : Int) < n := by omega
      have hcell := hR.cell Q (by omega)
      have hfree := hR.free Q (by omega)
      rw [← hQ, tb_at, hQ] at hcell
      obtain ⟨v, hv⟩ : ∃ v, f.data.toList.getD Q 0 = v := ⟨_, rfl⟩
      obtain ⟨d, hd⟩ : ∃ d, (le4 turn).getD j 0 = d := ⟨_, rfl⟩
      have hT := le4_at turn ht j (by omega)
      rw [hd] at hT
      have hT' := hT.symm
      have hX := xor_u8 v d
      rw [hv] at hcell
      have hR2 := hR.put (p := Q) (by omega) (v ^^^ d)
      rw [← hQ, tb_succ _ _ _ _ _ (by rw [hQ, hv, hd]), hQ] at hR2
      have HR2 := Lib.hid hR2
      have HB2 := Lib.hid (hB.setCell (p := ⟨w2.heap.size, Q, none⟩) (by exact h2s) (.int .u8 ((v ^^^ d).toNat : Int)))
      clear hT hv hd hR2 hQ hR h4
      generalize v ^^^ d = vd at *
      go_wp2_with fail
      go_roundw
      case rel => exact ⟨j + 1, by omega, by go_num, HR2.out, HB2.out⟩
      case measure => simp [intOf]; omega

theorem fturned_walk (k : Int) (x : ByteArray) (c t : Int) (hk : 0 ≤ k ∧ k < 256) (hx : x.size ≤ 140737488351232) (hc : I64 c) (ht : 0 ≤ t ∧ t < 4294967296) (w : World) :
    Calls Try.prog 5 #[.int .u8 k, .string x, .int .i64 c, .int .u32 t] w fun e w' => e = .returned (.bool true) ∧ Below w.heap.size w w' := by
  obtain ⟨turn, rfl⟩ := Int.eq_ofNat_of_zero_le ht.1
  by_cases hl : x.size ≤ 2048
  · by_cases h0 : turn = 0
    · subst h0
      have q0 : ¬ (2048 : Int) < (x.size : Int) := by omega
      clear ht hl
      go_enter Try.func5, Try.ntmps5
      go_wp2_with fail
      refine (falive_any _).mono ?_
      rintro e w1 ⟨rfl, b1⟩
      go_wp2_with fail
      go_ret
      exact ⟨rfl, b1⟩
    · exact fturned_yes k x c turn hk hl (by omega) h0 w
  · have q0 : (2048 : Int) < (x.size : Int) := by omega
    clear ht hl
    go_enter Try.func5, Try.ntmps5
    go_wp2_with fail
    refine (falive_any _).mono ?_
    rintro e w1 ⟨rfl, b1⟩
    go_wp2_with fail
    go_ret
    exact ⟨rfl, b1⟩
end Go.Proofs.Ytnjheggnnmbgaaa
