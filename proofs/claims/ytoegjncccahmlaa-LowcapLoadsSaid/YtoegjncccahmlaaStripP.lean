/-
  Walks: package strip: Pairs, Find, Below, of a strip and of a nil one.
-/
import Derived.Test.YtoegjncccahmlaaStripL
import Derived.Test.YtoegjncccahmlaaRunsP
namespace Go.Proofs.Ytoegjncccahmlaa
set_option linter.unusedVariables false
set_option linter.unusedSimpArgs false
open Go.RowKit

set_option maxRecDepth 100000 in
set_option maxHeartbeats 1000000 in
theorem clone_none (w : World) :
    Calls Try.prog 48 #[.slice none 0 0] w fun e w' => e = .returned (.slice none 0 0) ∧ w = w' := by
  have he : ∀ w : World, (binOp .eql 22 (.slice none 0 0) (.slice none 0 0)).run Try.prog w = .ok (.bool true) w := fun _ => rfl
  go_enter Try.func48, Try.ntmps48
  go_wp2_with fail
  go_ret
  exact ⟨rfl, rfl⟩

set_option maxRecDepth 100000 in
set_option maxHeartbeats 1000000 in
theorem clone_some (w : World) (g off n cap : Nat) (L : List PairV) (h : Pairs w (some ⟨g, off, none⟩) L) (hn : n = L.length) (hl : n ≤ 1000) :
    Calls Try.prog 48 #[.slice (some ⟨g, off, none⟩) n cap] w fun e w' => ∃ v, e = .returned v ∧ OwnP w' w.heap.size v L ∧ Below w.heap.size w w' := by
  subst hn
  have hO := World.ownsRow_made (base := w.heap.size) (e := 34) (size := 2) w #[] 0 (by simp) (by decide) rfl
  have HO : Hid (OwnP (w.alloc (.cells #[] 34)) w.heap.size (.slice (some ⟨w.heap.size, 0, none⟩) 0 0) []) := Lib.hid hO
  have HB : Hid (Below w.heap.size w (w.alloc (.cells #[] 34))) := Lib.hid ((Below.refl _ _).alloc (Nat.le_refl _) _)
  have HP := Lib.hid (h.call HB.out)
  have he : ∀ w : World, (binOp .eql 22 (.slice (some ⟨g, off, none⟩) L.length cap) (.slice none 0 0)).run Try.prog w = .ok (.bool false) w := fun _ => rfl
  clear h hO
  go_enter Try.func48, Try.ntmps48
  go_wp2_with (at_builtin; refine wpList_append_pairs rfl (.tmp 5) (.tmp 6) rfl w.heap.size _ [] (some ⟨g, off, none⟩) cap L rfl HO.out rfl HP.out ?c1 ?c2 ?_)
  case c1 => simp; omega
  case c2 => simp
  intro v5 w5 hown5 hg5
  have hb5 : Below w.heap.size w w5 := HB.out.grown hg5 HB.out.size (fun k hk => by cases hk; exact Nat.le_refl _)
  obtain ⟨A5, k5, rfl⟩ := hown5.form
  have HO5 := Lib.hid hown5
  have HB5 := Lib.hid hb5
  clear hown5 hg5 hb5
  go_wp2_with fail
  go_ret
  exact ⟨_, rfl, HO5.out, HB5.out⟩

set_option maxRecDepth 100000 in
set_option maxHeartbeats 1000000 in
theorem spairs_of (w : World) (p A : Option Addr) (cap : Nat) (L : List PairV) (h : OwnsV w p A L.length cap) (hr : Slab w A cap L) (hl : L.length ≤ 1000) :
    Calls Try.prog 37 #[.pointer p] w fun e w' => ∃ v, e = .returned v ∧ OwnP w' w.heap.size v L ∧ Below w.heap.size w w' := by
  have H := Lib.hid h
  rcases hr.form with ⟨rfl, rfl, rfl⟩ | ⟨g, off, rfl⟩
  · have H0 : Hid (OwnsV w p none 0 0) := Lib.hid H.out
    clear h hr H
    go_enter Try.func37, Try.ntmps37
    go_wp2_with fail
    refine H0.out.now.mono ?_
    rintro e w2 ⟨rfl, rfl⟩
    go_wp2_with fail
    refine (clone_none w).mono ?_
    rintro e w3 ⟨rfl, rfl⟩
    go_wp2_with fail
    go_ret
    exact ⟨_, rfl, OwnP.nil _ _, Below.refl _ _⟩
  · obtain ⟨n, hn⟩ : ∃ n, L.length = n := ⟨_, rfl⟩
    have HC := Lib.hid (clone_some w g off n cap L hr.pairs hn.symm (by omega))
    rw [hn] at H
    clear h hr hn hl
    go_enter Try.func37, Try.ntmps37
    go_wp2_with fail
    refine H.out.now.mono ?_
    rintro e w2 ⟨rfl, rfl⟩
    go_wp2_with fail
    refine HC.out.mono ?_
    rintro e w3 ⟨v, rfl, ho, hb⟩
    obtain ⟨A5, k5, rfl⟩ := ho.form
    have HO5 := Lib.hid ho
    clear ho
    go_wp2_with fail
    go_ret
    exact ⟨_, rfl, HO5.out, hb⟩

set_option maxRecDepth 100000 in
set_option maxHeartbeats 1000000 in
theorem spairs_none (w : World) :
    Calls Try.prog 37 #[.pointer none] w fun e w' => ∃ A cap, e = .returned (.slice A 0 cap) ∧ Below w.heap.size w w' := by
  go_enter Try.func37, Try.ntmps37
  go_wp2_with fail
  refine (sown_none w).mono ?_
  rintro e w2 ⟨rfl, rfl⟩
  go_wp2_with fail
  refine (clone_none w).mono ?_
  rintro e w3 ⟨rfl, rfl⟩
  go_wp2_with fail
  go_ret
  exact ⟨none, 0, rfl, Below.refl _ _⟩

set_option maxRecDepth 100000 in
set_option maxHeartbeats 1000000 in
theorem sfind_of (w : World) (p A : Option Addr) (cap : Nat) (L : List PairV) (t x : Int) (fb : Bool) (h : OwnsV w p A L.length cap) (hP : Pairs w A L) (hl : L.length ≤ 1000) (ht : Word t) (hb : sumP L < 18446744073709551616) (hf : (findP L t).getD 0 = x) (hs : (findP L t).isSome = fb) :
    Calls Try.prog 40 #[.pointer p, .int .u64 t] w fun e w' => e = .returned (.tuple #[.int .i64 x, .bool fb]) ∧ Below w.heap.size w w' := by
  have H := Lib.hid h
  have HI := Lib.hid hP
  have HX := Lib.hid hf
  have HB := Lib.hid hs
  have HP := Lib.hid (fun k => sumP_take (L := L) k (ok_pos hP.ok))
  have HSL := Lib.hid hb
  have HAT := Lib.hid (fun k p => seek_at t L 0 k p (ok_pos hP.ok))
  have HNO := Lib.hid (seek_none t L 0 (ok_pos hP.ok))
  obtain ⟨t0, t1⟩ := ht
  clear h hP hf hs hb
  by_cases hz : t = 0
  · subst hz
    have HF : Hid (findP L 0 = none) := Lib.hid (by unfold findP; rw [if_neg (by omega)])
    have HE : Hid (0 = x ∧ false = fb) := Lib.hid (by
      have h1 := HX.out; have h2 := HB.out
      rw [HF.out] at h1 h2
      exact ⟨h1, h2⟩)
    go_enter Try.func40, Try.ntmps40
    go_wp2_with fail
    go_ret2
    exact ⟨by rw [← HE.out.1, ← HE.out.2]; rfl, Below.refl _ _⟩
  have hz' : (t == 0) = false := by simp [hz]
  have ht0 : 0 < t := by omega
  go_enter Try.func40, Try.ntmps40
  go_wp2_with fail
  refine H.out.now.mono ?_
  rintro e w2 ⟨rfl, rfl⟩
  go_wp2_with fail
  go_loopw [1, 13] (fun s j wr => ∃ (k : Nat) (u : Int), k ≤ L.length ∧ j = .int .i64 k ∧ s = .int .u64 u ∧ u = t - sumP (L.take k) ∧ 0 < u ∧ Below w.heap.size w wr) (fun _ j _ => L.length - (intOf j).toNat)
  case atStart => exact ⟨0, t, Nat.zero_le _, rfl, rfl, by rw [List.take_zero]; show t = t - 0; omega, ht0, Below.refl _ _⟩
  case round =>
    obtain ⟨k, u, hk, rfl, rfl, hu, hu0, hb2⟩ := hrel
    have HU := Lib.hid hu
    by_cases hlt : k < L.length
    · have kk : (k : Int) < L.length := by omega
      have hxk : L[k]? = some L[k] := List.getElem?_eq_getElem hlt
      generalize hit : L[k] = p at *
      obtain ⟨px, pc⟩ := p
      obtain ⟨b, off, rfl, hbl, c0, c1⟩ := (HI.out.call hb2).at_ k _ hxk
      have HS := Lib.hid (sum_step' hxk)
      have HXK := Lib.hid hxk
      have hok := HI.out.ok _ (List.mem_of_getElem? hxk)
      have p1 := HP.out (k + 1)
      have p0 := HP.out k
      rw [HS.out] at p1
      have hbs := hb2.size
      obtain ⟨⟨o1, o2⟩, o3, o4⟩ := hok
      simp only at c0 c1 o1 o2 o3 o4 p1 HS HXK
      obtain ⟨p2, p3⟩ := p1
      obtain ⟨p4, _⟩ := p0
      have u1 : u < 18446744073709551616 := by omega
      by_cases hge : u ≤ pc
      · have HF : Hid (findP L t = some px) := Lib.hid (by
          unfold findP; rw [if_pos ht0]
          exact HAT.out k (px, pc) HXK.out (by omega) (by show t ≤ 0 + sumP (L.take k) + pc; omega))
        have HE : Hid (px = x ∧ true = fb) := Lib.hid (by
          have h1 := HX.out; have h2 := HB.out
          rw [HF.out] at h1 h2
          exact ⟨h1, h2⟩)
        clear hxk hit hu p2 p3 p4
        go_wp2_with fail
        go_ret2
        exact ⟨by rw [← HE.out.1, ← HE.out.2]; rfl, hb2.alloc hbs _⟩
      · have HR : Hid (u - pc = t - sumP (L.take (k + 1))) := Lib.hid (by rw [HS.out]; omega)
        have hd : IntKind.u64.wrap (u - pc) = u - pc := by rw [IntKind.wrap_u64]; omega
        clear hxk hit hu p2 p3 p4
        go_wp2_with fail
        go_roundw
        case rel => exact ⟨k + 1, u - pc, by omega, by go_num, rfl, HR.out, by omega, hb2.alloc hbs _⟩
        case measure => simp [intOf]; omega
    · obtain rfl : k = L.length := by omega
      rw [List.take_length] at hu
      have HF : Hid (findP L t = none) := Lib.hid (by
        unfold findP
        rw [if_pos ht0]
        exact HNO.out (by omega))
      have HE : Hid (0 = x ∧ false = fb) := Lib.hid (by
        have h1 := HX.out; have h2 := HB.out
        rw [HF.out] at h1 h2
        exact ⟨h1, h2⟩)
      have kk : ¬ (L.length : Int) < L.length := by omega
      clear hu
      go_wp2_with fail
      go_ret2
      exact ⟨by rw [← HE.out.1, ← HE.out.2]; rfl, hb2⟩

set_option maxRecDepth 100000 in
set_option maxHeartbeats 1000000 in
theorem sbelow_none (w : World) (p : Option Addr) (i : Int) (h : OwnsV w p none 0 0) (hi : I64 i) :
    Calls Try.prog 42 #[.pointer p, .int .i64 i] w fun e w' => e = .returned (.int .u64 0) ∧ Below w.heap.size w w' := by
  have hF := find_big w none 0 [] i 0 false (Pairs.nil w) (by simp) good_nil hi rfl rfl
  have hT := fun w' => total_does w' none 0 [] 0 true (Pairs.nil w') (by simp) rfl rfl
  have HF : Hid (Calls Try.prog 50 #[.slice none 0 0, .int .i64 i] w fun e w' => e = .returned (.tuple #[.int .i64 0, .bool false]) ∧ Below w.heap.size w w') := Lib.hid hF
  have HT : Hid (∀ w' : World, Calls Try.prog 53 #[.slice none 0 0] w' fun e w'' => e = .returned (.tuple #[.int .u64 0, .bool true]) ∧ Below w'.heap.size w' w'') := Lib.hid hT
  have H := Lib.hid h
  clear h hF hT
  go_enter Try.func42, Try.ntmps42
  go_wp2_with fail
  refine H.out.now.mono ?_
  rintro e w2 ⟨rfl, rfl⟩
  go_wp2_with fail
  refine HF.out.mono ?_
  rintro e w3 ⟨rfl, b3⟩
  go_wp2_with fail
  refine (HT.out _).mono ?_
  rintro e w4 ⟨rfl, b4⟩
  go_wp2_with fail
  go_ret
  exact ⟨rfl, b3.trans (b4.mono b3.size)⟩

set_option maxRecDepth 100000 in
set_option maxHeartbeats 1000000 in
theorem sbelow_of (w : World) (p A : Option Addr) (cap : Nat) (L : List PairV) (i x : Int) (h : OwnsV w p A L.length cap) (hr : Slab w A cap L) (hg : GoodP L) (hl : L.length ≤ 1000) (hi : I64 i) (hs : sumP L ≤ 9223372036854775807) (hx : belowP L i = x) :
    Calls Try.prog 42 #[.pointer p, .int .i64 i] w fun e w' => e = .returned (.int .u64 x) ∧ Below w.heap.size w w' := by
  have hP := hr.pairs
  rcases hr.form with ⟨rfl, rfl, rfl⟩ | ⟨g, off, rfl⟩
  · subst hx
    exact sbelow_none w p i h hi
  · obtain ⟨n, hn, hnl, hor⟩ := good_where i hg
    have hcap := hr.fit
    have hT : ∀ k, k ≤ L.length → ∀ s, sumP (L.take k) = s → ∀ w', Below w.heap.size w w' → Calls Try.prog 53 #[.slice (some ⟨g, off, none⟩) k cap] w' fun e w'' => e = .returned (.tuple #[.int .u64 s, .bool true]) ∧ Below w'.heap.size w' w'' := fun k hk s hsum w' hb => by
      have hp : Pairs w (some ⟨g, off, none⟩) (L.take k) := pairs_low (hi := L.drop k) (by rw [List.take_append_drop]; exact hP)
      have hlen : (L.take k).length = k := by rw [List.length_take]; omega
      have hs2 := (sumP_take (L := L) k (ok_pos hP.ok)).2
      have hfit : fitsB (L.take k) = true := by unfold fitsB; apply decide_eq_true; omega
      have := total_does w' (some ⟨g, off, none⟩) cap (L.take k) s true (hp.call hb) (by omega) (by unfold totalP; rw [hfit]; exact hsum) hfit
      rw [hlen] at this
      exact this
    rcases hor with ⟨hb, hlt, _, hbl, _⟩ | ⟨hb, _, hbl, _⟩
    · have hF := find_big w (some ⟨g, off, none⟩) cap L i n true hP (by omega) hg hi hn hb
      have HF := Lib.hid hF
      have HT := Lib.hid (hT (n + 1) hlt x (by rw [← hbl]; exact hx))
      have H := Lib.hid h
      have nn : (n : Int) < L.length := by omega
      have n2 : n + 1 ≤ cap := by omega
      have n3 : (n : Int) + 1 ≤ cap := by omega
      obtain ⟨n1, hn1⟩ : ∃ n1, n + 1 = n1 := ⟨_, rfl⟩
      have e1 : (n : Int) + 1 = (n1 : Int) := by omega
      have e2 : IntKind.i64.wrap ((n : Int) + 1) = (n1 : Int) := by rw [IntKind.wrap_i64]; omega
      have e3 : (n1 : Int) ≤ cap := by omega
      rw [hn1] at HT
      clear h hT hF hP hg hn hx hb hbl hr hs
      go_enter Try.func42, Try.ntmps42
      go_wp2_with fail
      refine H.out.now.mono ?_
      rintro e w2 ⟨rfl, rfl⟩
      go_wp2_with fail
      refine HF.out.mono ?_
      rintro e w3 ⟨rfl, b3⟩
      go_wp2_with fail
      refine (HT.out _ b3).mono ?_
      rintro e w4 ⟨rfl, b4⟩
      go_wp2_with fail
      go_ret
      exact ⟨rfl, b3.trans (b4.mono b3.size)⟩
    · have hF := find_big w (some ⟨g, off, none⟩) cap L i n false hP (by omega) hg hi hn hb
      have HF := Lib.hid hF
      have HT := Lib.hid (hT n hnl x (by rw [← hbl]; exact hx))
      have H := Lib.hid h
      have n2 : n ≤ cap := by omega
      have n3 : (n : Int) ≤ cap := by omega
      clear h hT hF hP hg hn hx hb hbl hr hs
      go_enter Try.func42, Try.ntmps42
      go_wp2_with fail
      refine H.out.now.mono ?_
      rintro e w2 ⟨rfl, rfl⟩
      go_wp2_with fail
      refine HF.out.mono ?_
      rintro e w3 ⟨rfl, b3⟩
      go_wp2_with fail
      refine (HT.out _ b3).mono ?_
      rintro e w4 ⟨rfl, b4⟩
      go_wp2_with fail
      go_ret
      exact ⟨rfl, b3.trans (b4.mono b3.size)⟩
end Go.Proofs.Ytoegjncccahmlaa
