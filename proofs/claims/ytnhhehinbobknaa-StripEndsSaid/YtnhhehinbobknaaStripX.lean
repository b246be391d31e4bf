/-
  Walks: package strip: Pairs, Find, Below, of a strip and of a nil one.
  Walks: package strip: First, Last, of a strip and of a nil one.
  What the landed code of package strip does, a nil strip's too.
-/
import Derived.Test.YtnhhehinbobknaaStripA
import Derived.Test.YtnhhehinbobknaaRunsP
import Derived.Deep.RegionWith
namespace Go.Proofs.Ytnhhehinbobknaa
set_option linter.unusedVariables false
set_option linter.unusedSimpArgs false
open Go.RowKit

set_option maxRecDepth 100000 in
set_option maxHeartbeats 1000000 in
theorem clone_none (w : World) :
    Calls Try.prog 33 #[.slice none 0 0] w fun e w' => e = .returned (.slice none 0 0) ∧ w = w' := by
  have he : ∀ w : World, (binOp .eql 41 (.slice none 0 0) (.slice none 0 0)).run Try.prog w = .ok (.bool true) w := fun _ => rfl
  go_enter Try.func33, Try.ntmps33
  go_wp2_with fail
  go_ret
  exact ⟨rfl, rfl⟩

set_option maxRecDepth 100000 in
set_option maxHeartbeats 1000000 in
theorem clone_some (w : World) (g off n cap : Nat) (L : List PairV) (h : Pairs w (some ⟨g, off, none⟩) L) (hn : n = L.length) (hl : n ≤ 1000) :
    Calls Try.prog 33 #[.slice (some ⟨g, off, none⟩) n cap] w fun e w' => ∃ v, e = .returned v ∧ OwnP w' w.heap.size v L ∧ Below w.heap.size w w' := by
  subst hn
  have hO := World.ownsRow_made (base := w.heap.size) (e := 30) (size := 2) w #[] 0 (by simp) (by decide) rfl
  have HO : Hid (OwnP (w.alloc (.cells #[] 30)) w.heap.size (.slice (some ⟨w.heap.size, 0, none⟩) 0 0) []) := Lib.hid hO
  have HB : Hid (Below w.heap.size w (w.alloc (.cells #[] 30))) := Lib.hid ((Below.refl _ _).alloc (Nat.le_refl _) _)
  have HP := Lib.hid (h.call HB.out)
  have he : ∀ w : World, (binOp .eql 41 (.slice (some ⟨g, off, none⟩) L.length cap) (.slice none 0 0)).run Try.prog w = .ok (.bool false) w := fun _ => rfl
  clear h hO
  go_enter Try.func33, Try.ntmps33
  go_wp2_with (at_builtin; refine wpList_append_pairs rfl (.tmp 5) (.tmp 6) rfl w.heap.size _ [] (some ⟨g, off, none⟩) cap L rfl HO.out rfl HP.out ?c1 ?c2 ?_)
  case c1 => simp; omega
  case c2 => simp
  intro v5 w5 hown5 hg5
  have hb5 : Below w.heap.size w w5 := HB.out.grown hg5 HB.out.size (fun k hk => by cases hk; exact Nat.le_refl _)
  obtain ⟨A5, k5, rfl⟩ := hown5.form
  have HO5 := Lib.hid hown5
  have HB5 := Lib.hid hb5
  clear hown5 hg5 hb5
  go_wp2_with fail
  go_ret
  exact ⟨_, rfl, HO5.out, HB5.out⟩

set_option maxRecDepth 100000 in
set_option maxHeartbeats 1000000 in
theorem spairs_of (w : World) (p A : Option Addr) (cap : Nat) (L : List PairV) (h : OwnsV w p A L.length cap) (hr : Slab w A cap L) (hl : L.length ≤ 1000) :
    Calls Try.prog 19 #[.pointer p] w fun e w' => ∃ v, e = .returned v ∧ OwnP w' w.heap.size v L ∧ Below w.heap.size w w' := by
  have H := Lib.hid h
  rcases hr.form with ⟨rfl, rfl, rfl⟩ | ⟨g, off, rfl⟩
  · have H0 : Hid (OwnsV w p none 0 0) := Lib.hid H.out
    clear h hr H
    go_enter Try.func19, Try.ntmps19
    go_wp2_with fail
    refine H0.out.now.mono ?_
    rintro e w2 ⟨rfl, rfl⟩
    go_wp2_with fail
    refine (clone_none w).mono ?_
    rintro e w3 ⟨rfl, rfl⟩
    go_wp2_with fail
    go_ret
    exact ⟨_, rfl, OwnP.nil _ _, Below.refl _ _⟩
  · obtain ⟨n, hn⟩ : ∃ n, L.length = n := ⟨_, rfl⟩
    have HC := Lib.hid (clone_some w g off n cap L hr.pairs hn.symm (by omega))
    rw [hn] at H
    clear h hr hn hl
    go_enter Try.func19, Try.ntmps19
    go_wp2_with fail
    refine H.out.now.mono ?_
    rintro e w2 ⟨rfl, rfl⟩
    go_wp2_with fail
    refine HC.out.mono ?_
    rintro e w3 ⟨v, rfl, ho, hb⟩
    obtain ⟨A5, k5, rfl⟩ := ho.form
    have HO5 := Lib.hid ho
    clear ho
    go_wp2_with fail
    go_ret
    exact ⟨_, rfl, HO5.out, hb⟩

set_option maxRecDepth 100000 in
set_option maxHeartbeats 1000000 in
theorem spairs_none (w : World) :
    Calls Try.prog 19 #[.pointer none] w fun e w' => ∃ A cap, e = .returned (.slice A 0 cap) ∧ Below w.heap.size w w' := by
  go_enter Try.func19, Try.ntmps19
  go_wp2_with fail
  refine (sown_none w).mono ?_
  rintro e w2 ⟨rfl, rfl⟩
  go_wp2_with fail
  refine (clone_none w).mono ?_
  rintro e w3 ⟨rfl, rfl⟩
  go_wp2_with fail
  go_ret
  exact ⟨none, 0, rfl, Below.refl _ _⟩

set_option maxRecDepth 100000 in
set_option maxHeartbeats 1000000 in
theorem sfind_of (w : World) (p A : Option Addr) (cap : Nat) (L : List PairV) (t x : Int) (fb : Bool) (h : OwnsV w p A L.length cap) (hP : Pairs w A L) (hl : L.length ≤ 1000) (ht : Word t) (hb : sumP L < 18446744073709551616) (hf : (findP L t).getD 0 = x) (hs : (findP L t).isSome = fb) :
    Calls Try.prog 12 #[.pointer p, .int .u64 t] w fun e w' => e = .returned (.tuple #[.int .i64 x, .bool fb]) ∧ Below w.heap.size w w' := by
  have H := Lib.hid h
  have HI := Lib.hid hP
  have HX := Lib.hid hf
  have HB := Lib.hid hs
  have HP := Lib.hid (fun k => sumP_take (L := L) k (ok_pos hP.ok))
  have HSL := Lib.hid hb
  have HAT := Lib.hid (fun k p => seek_at t L 0 k p (ok_pos hP.ok))
  have HNO := Lib.hid (seek_none t L 0 (ok_pos hP.ok))
  obtain ⟨t0, t1⟩ := ht
  clear h hP hf hs hb
  by_cases hz : t = 0
  · subst hz
    have HF : Hid (findP L 0 = none) := Lib.hid (by unfold findP; rw [if_neg (by omega)])
    have HE : Hid (0 = x ∧ false = fb) := Lib.hid (by
      have h1 := HX.out; have h2 := HB.out
      rw [HF.out] at h1 h2
      exact ⟨h1, h2⟩)
    go_enter Try.func12, Try.ntmps12
    go_wp2_with fail
    go_ret2
    exact ⟨by rw [← HE.out.1, ← HE.out.2]; rfl, Below.refl _ _⟩
  have hz' : (t == 0) = false := by simp [hz]
  have ht0 : 0 < t := by omega
  go_enter Try.func12, Try.ntmps12
  go_wp2_with fail
  refine H.out.now.mono ?_
  rintro e w2 ⟨rfl, rfl⟩
  go_wp2_with fail
  go_loopw [1, 13] (fun s j wr => ∃ (k : Nat) (u : Int), k ≤ L.length ∧ j = .int .i64 k ∧ s = .int .u64 u ∧ u = t - sumP (L.take k) ∧ 0 < u ∧ Below w.heap.size w wr) (fun _ j _ => L.length - (intOf j).toNat)
  case atStart => exact ⟨0, t, Nat.zero_le _, rfl, rfl, by rw [List.take_zero]; show t = t - 0; omega, ht0, Below.refl _ _⟩
  case round =>
    obtain ⟨k, u, hk, rfl, rfl, hu, hu0, hb2⟩ := hrel
    have HU := Lib.hid hu
    by_cases hlt : k < L.length
    · have kk : (k : Int) < L.length := by omega
      have hxk : L[k]? = some L[k] := List.getElem?_eq_getElem hlt
      generalize hit : L[k] = p at *
      obtain ⟨px, pc⟩ := p
      obtain ⟨b, off, rfl, hbl, c0, c1⟩ := (HI.out.call hb2).at_ k _ hxk
      have HS := Lib.hid (sum_step' hxk)
      have HXK := Lib.hid hxk
      have hok := HI.out.ok _ (List.mem_of_getElem? hxk)
      have p1 := HP.out (k + 1)
      have p0 := HP.out k
      rw [HS.out] at p1
      have hbs := hb2.size
      obtain ⟨⟨o1, o2⟩, o3, o4⟩ := hok
      simp only at c0 c1 o1 o2 o3 o4 p1 HS HXK
      obtain ⟨p2, p3⟩ := p1
      obtain ⟨p4, _⟩ := p0
      have u1 : u < 18446744073709551616 := by omega
      by_cases hge : u ≤ pc
      · have HF : Hid (findP L t = some px) := Lib.hid (by
          unfold findP; rw [if_pos ht0]
          exact HAT.out k (px, pc) HXK.out (by omega) (by show t ≤ 0 + sumP (L.take k) + pc; omega))
        have HE : Hid (px = x ∧ true = fb) := Lib.hid (by
          have h1 := HX.out; have h2 := HB.out
          rw [HF.out] at h1 h2
          exact ⟨h1, h2⟩)
        clear hxk hit hu p2 p3 p4
        go_wp2_with fail
        go_ret2
        exact ⟨by rw [← HE.out.1, ← HE.out.2]; rfl, hb2.alloc hbs _⟩
      · have HR : Hid (u - pc = t - sumP (L.take (k + 1))) := Lib.hid (by rw [HS.out]; omega)
        have hd : IntKind.u64.wrap (u - pc) = u - pc := by rw [IntKind.wrap_u64]; omega
        clear hxk hit hu p2 p3 p4
        go_wp2_with fail
        go_roundw
        case rel => exact ⟨k + 1, u - pc, by omega, by go_num, rfl, HR.out, by omega, hb2.alloc hbs _⟩
        case measure => simp [intOf]; omega
    · obtain rfl : k = L.length := by omega
      rw [List.take_length] at hu
      have HF : Hid (findP L t = none) := Lib.hid (by
        unfold findP
        rw [if_pos ht0]
        exact HNO.out (by omega))
      have HE : Hid (0 = x ∧ false = fb) := Lib.hid (by
        have h1 := HX.out; have h2 := HB.out
        rw [HF.out] at h1 h2
        exact ⟨h1, h2⟩)
      have kk : ¬ (L.length : Int) < L.length := by omega
      clear hu
      go_wp2_with fail
      go_ret2
      exact ⟨by rw [← HE.out.1, ← HE.out.2]; rfl, hb2⟩

set_option maxRecDepth 100000 in
set_option maxHeartbeats 1000000 in
theorem sbelow_none (w : World) (p : Option Addr) (i : Int) (h : OwnsV w p none 0 0) (hi : I64 i) :
    Calls Try.prog 17 #[.pointer p, .int .i64 i] w fun e w' => e = .returned (.int .u64 0) ∧ Below w.heap.size w w' := by
  have hF := find_big w none 0 [] i 0 false (Pairs.nil w) (by simp) good_nil hi rfl rfl
  have hT := fun w' => total_does w' none 0 [] 0 true (Pairs.nil w') (by simp) rfl rfl
  have HF : Hid (Calls Try.prog 30 #[.slice none 0 0, .int .i64 i] w fun e w' => e = .returned (.tuple #[.int .i64 0, .bool false]) ∧ Below w.heap.size w w') := Lib.hid hF
  have HT : Hid (∀ w' : World, Calls Try.prog 32 #[.slice none 0 0] w' fun e w'' => e = .returned (.tuple #[.int .u64 0, .bool true]) ∧ Below w'.heap.size w' w'') := Lib.hid hT
  have H := Lib.hid h
  clear h hF hT
  go_enter Try.func17, Try.ntmps17
  go_wp2_with fail
  refine H.out.now.mono ?_
  rintro e w2 ⟨rfl, rfl⟩
  go_wp2_with fail
  refine HF.out.mono ?_
  rintro e w3 ⟨rfl, b3⟩
  go_wp2_with fail
  refine (HT.out _).mono ?_
  rintro e w4 ⟨rfl, b4⟩
  go_wp2_with fail
  go_ret
  exact ⟨rfl, b3.trans (b4.mono b3.size)⟩

set_option maxRecDepth 100000 in
set_option maxHeartbeats 1000000 in
theorem sbelow_of (w : World) (p A : Option Addr) (cap : Nat) (L : List PairV) (i x : Int) (h : OwnsV w p A L.length cap) (hr : Slab w A cap L) (hg : GoodP L) (hl : L.length ≤ 1000) (hi : I64 i) (hs : sumP L ≤ 9223372036854775807) (hx : belowP L i = x) :
    Calls Try.prog 17 #[.pointer p, .int .i64 i] w fun e w' => e = .returned (.int .u64 x) ∧ Below w.heap.size w w' := by
  have hP := hr.pairs
  rcases hr.form with ⟨rfl, rfl, rfl⟩ | ⟨g, off, rfl⟩
  · subst hx
    exact sbelow_none w p i h hi
  · obtain ⟨n, hn, hnl, hor⟩ := good_where i hg
    have hcap := hr.fit
    have hT : ∀ k, k ≤ L.length → ∀ s, sumP (L.take k) = s → ∀ w', Below w.heap.size w w' → Calls Try.prog 32 #[.slice (some ⟨g, off, none⟩) k cap] w' fun e w'' => e = .returned (.tuple #[.int .u64 s, .bool true]) ∧ Below w'.heap.size w' w'' := fun k hk s hsum w' hb => by
      have hp : Pairs w (some ⟨g, off, none⟩) (L.take k) := pairs_low (hi := L.drop k) (by rw [List.take_append_drop]; exact hP)
      have hlen : (L.take k).length = k := by rw [List.length_take]; omega
      have hs2 := (sumP_take (L := L) k (ok_pos hP.ok)).2
      have hfit : fitsB (L.take k) = true := by unfold fitsB; apply decide_eq_true; omega
      have := total_does w' (some ⟨g, off, none⟩) cap (L.take k) s true (hp.call hb) (by omega) (by unfold totalP; rw [hfit]; exact hsum) hfit
      rw [hlen] at this
      exact this
    rcases hor with ⟨hb, hlt, _, hbl, _⟩ | ⟨hb, _, hbl, _⟩
    · have hF := find_big w (some ⟨g, off, none⟩) cap L i n true hP (by omega) hg hi hn hb
      have HF := Lib.hid hF
      have HT := Lib.hid (hT (n + 1) hlt x (by rw [← hbl]; exact hx))
      have H := Lib.hid h
      have nn : (n : Int) < L.length := by omega
      have n2 : n + 1 ≤ cap := by omega
      have n3 : (n : Int) + 1 ≤ cap := by omega
      obtain ⟨n1, hn1⟩ : ∃ n1, n + 1 = n1 := ⟨_, rfl⟩
      have e1 : (n : Int) + 1 = (n1 : Int) := by omega
      have e2 : IntKind.i64.wrap ((n : Int) + 1) = (n1 : Int) := by rw [IntKind.wrap_i64]; omega
      have e3 : (n1 : Int) ≤ cap := by omega
      rw [hn1] at HT
      clear h hT hF hP hg hn hx hb hbl hr hs
      go_enter Try.func17, Try.ntmps17
      go_wp2_with fail
      refine H.out.now.mono ?_
      rintro e w2 ⟨rfl, rfl⟩
      go_wp2_with fail
      refine HF.out.mono ?_
      rintro e w3 ⟨rfl, b3⟩
      go_wp2_with fail
      refine (HT.out _ b3).mono ?_
      rintro e w4 ⟨rfl, b4⟩
      go_wp2_with fail
      go_ret
      exact ⟨rfl, b3.trans (b4.mono b3.size)⟩
    · have hF := find_big w (some ⟨g, off, none⟩) cap L i n false hP (by omega) hg hi hn hb
      have HF := Lib.hid hF
      have HT := Lib.hid (hT n hnl x (by rw [← hbl]; exact hx))
      have H := Lib.hid h
      have n2 : n ≤ cap := by omega
      have n3 : (n : Int) ≤ cap := by omega
      clear h hT hF hP hg hn hx hb hbl hr hs
      go_enter Try.func17, Try.ntmps17
      go_wp2_with fail
      refine H.out.now.mono ?_
      rintro e w2 ⟨rfl, rfl⟩
      go_wp2_with fail
      refine HF.out.mono ?_
      rintro e w3 ⟨rfl, b3⟩
      go_wp2_with fail
      refine (HT.out _ b3).mono ?_
      rintro e w4 ⟨rfl, b4⟩
      go_wp2_with fail
      go_ret
      exact ⟨rfl, b3.trans (b4.mono b3.size)⟩
end Go.Proofs.Ytnhhehinbobknaa

namespace Go.Proofs.Ytnhhehinbobknaa
set_option linter.unusedVariables false
set_option linter.unusedSimpArgs false
open Go.RowKit

set_option maxRecDepth 100000 in
set_option maxHeartbeats 1000000 in
theorem sfirst_none (w : World) (p A : Option Addr) (cap : Nat) (h : OwnsV w p A 0 cap) :
    Calls Try.prog 10 #[.pointer p] w fun e w' => e = .returned (.tuple #[.agg #[.int .i64 0, .int .u64 0], .bool false]) ∧ Below w.heap.size w w' := by
  have hB : Below w.heap.size w (w.alloc (.cells #[.int .i64 0, .int .u64 0] 30)) := (Below.refl w.heap.size w).alloc (Nat.le_refl _) _
  have HB := Lib.hid hB
  have hO : OwnsV (w.alloc (.cells #[.int .i64 0, .int .u64 0] 30)) p A 0 cap := fun w' hb => h w' (hB.trans (hb.mono hB.size))
  have H := Lib.hid (slen_of _ p A 0 cap hO)
  clear h hB hO
  go_enter Try.func10, Try.ntmps10
  go_wp2_with fail
  refine H.out.mono ?_
  rintro e w2 ⟨rfl, rfl⟩
  go_wp2_with fail
  exact bodyPost_ret (v := .tuple #[.agg #[.int .i64 0, .int .u64 0], .bool false]) (by simp [results, Try.results10, go_sem]) rfl ⟨rfl, HB.out⟩

set_option maxRecDepth 100000 in
set_option maxHeartbeats 1000000 in
theorem slast_none (w : World) (p A : Option Addr) (cap : Nat) (h : OwnsV w p A 0 cap) :
    Calls Try.prog 11 #[.pointer p] w fun e w' => e = .returned (.tuple #[.agg #[.int .i64 0, .int .u64 0], .bool false]) ∧ Below w.heap.size w w' := by
  have hB : Below w.heap.size w (w.alloc (.cells #[.int .i64 0, .int .u64 0] 30)) := (Below.refl w.heap.size w).alloc (Nat.le_refl _) _
  have HB := Lib.hid hB
  have hO : OwnsV (w.alloc (.cells #[.int .i64 0, .int .u64 0] 30)) p A 0 cap := fun w' hb => h w' (hB.trans (hb.mono hB.size))
  have H := Lib.hid (slen_of _ p A 0 cap hO)
  clear h hB hO
  go_enter Try.func11, Try.ntmps11
  go_wp2_with fail
  refine H.out.mono ?_
  rintro e w2 ⟨rfl, rfl⟩
  go_wp2_with fail
  exact bodyPost_ret (v := .tuple #[.agg #[.int .i64 0, .int .u64 0], .bool false]) (by simp [results, Try.results11, go_sem]) rfl ⟨rfl, HB.out⟩

/-- A strip on its way: its block holds these; all else that was is as it was. -/
structure Left (w : World) (B : Nat) (m : Int) (V : Value) (t : Int) (X : World) : Prop where
  b : X.heap[B]? = some (.cells #[.int .i64 m, V, .int .u64 t] 58 (0, 0))
  k : Keeps (fun k => k = B) w X
theorem Left.start {w w2 : World} {B : Nat} {A : Option Addr} {n cap : Nat} {m t : Int} {L : List PairV} (h : LayS w B A n cap m t L) (b2 : Below w.heap.size w w2) (V : Value) (o : Obj) : Left w B m V t ((w2.setCell ⟨B, 1, none⟩ V).alloc o) := by
  have h1 : (w2.setCell ⟨B, 1, none⟩ V).heap[B]? = some (.cells #[.int .i64 m, V, .int .u64 t] 58 (0, 0)) := set_cells8 (h.call b2).b 1 V
  exact ⟨(heap_alloc_old _ _ (lt_of_block h1)).trans h1, (Keeps.set (S := fun k => k = B) (Keeps.of_below b2) 1 V (Or.inl rfl)).new o⟩
theorem Left.draws {w X : World} {B : Nat} {m t : Int} {V : Value} (h : Left w B m V t X) (n : Nat) : Left w B m V t (X.drewN n) := ⟨((below_drewN (Below.refl X.heap.size X) n).block _ (lt_of_block h.b)).trans h.b, h.k.draws n⟩
theorem Left.total {w X : World} {B : Nat} {m t : Int} {V : Value} (h : Left w B m V t X) (t' : Int) : Left w B m V t' (X.setCell ⟨B, 2, none⟩ (.int .u64 t')) := ⟨set_cells8 h.b 2 _, h.k.set 2 _ (Or.inl rfl)⟩
theorem Left.box {w X : World} {B : Nat} {m t : Int} {V : Value} (h : Left w B m V t X) (hB : B < w.heap.size) (o : Nat) (u : Value) : Left w B m V t (X.setCell ⟨w.heap.size, o, none⟩ u) :=
  ⟨by rw [Below.heap_setCell _ _ _ _ (by show B ≠ w.heap.size; omega)]; exact h.b, h.k.set o u (Or.inr (Nat.le_refl _))⟩
theorem left_facts {w w2 : World} {B : Nat} {A : Option Addr} {n cap : Nat} {m t : Int} {L : List PairV} (h : LayS w B A n cap m t L) (b2 : Below w.heap.size w w2) (hz : w2.heap.size = w.heap.size + 1) (hw : Two w2 w.heap.size (.int .i64 0) (.int .u64 0)) (V : Value) (px pc : Int) :
    ∃ X, (w2.setCell ⟨B, 1, none⟩ V).alloc (.cells #[.int .i64 px, .int .u64 pc] 30) = X ∧ Left w B m V t X ∧ X.cell? ⟨B, 2, none⟩ = some (.int .u64 t) ∧ X.frozen? ⟨B, 2, none⟩ = false ∧
      X.cell? ⟨w.heap.size + 1, 0, none⟩ = some (.int .i64 px) ∧ X.cell? ⟨w.heap.size + 1, 1, none⟩ = some (.int .u64 pc) ∧ Two X w.heap.size (.int .i64 0) (.int .u64 0) := by
  have h1 := Left.start h b2 V (.cells #[.int .i64 px, .int .u64 pc] 30)
  have hsz : (w2.setCell ⟨B, 1, none⟩ V).heap.size = w.heap.size + 1 := by simpa [World.setCell] using hz
  have h2 : ((w2.setCell ⟨B, 1, none⟩ V).alloc (.cells #[.int .i64 px, .int .u64 pc] 30)).heap[w.heap.size + 1]? = some (.cells #[.int .i64 px, .int .u64 pc] 30 (0, 0)) := by
    have := heap_alloc_new (w2.setCell ⟨B, 1, none⟩ V) (.cells #[.int .i64 px, .int .u64 pc] 30)
    rwa [hsz] at this
  have hBl := h.lt
  refine ⟨_, rfl, h1, by rw [Joins.cell_of_block h1.b]; rfl, free8 h1.b _, by rw [Joins.cell_of_block h2]; rfl, by rw [Joins.cell_of_block h2]; rfl, ?_⟩
  refine hw.block ?_
  rw [heap_alloc_old _ _ (by rw [hsz]; omega), Below.heap_setCell _ _ _ _ (by show w.heap.size ≠ B; omega)]
theorem left_done {w X : World} {B : Nat} {m t : Int} {V : Value} {px pc : Int} (h : Left w B m V t X) (hB : B < w.heap.size) (p0 : X.cell? ⟨w.heap.size + 1, 0, none⟩ = some (.int .i64 px)) (p1 : X.cell? ⟨w.heap.size + 1, 1, none⟩ = some (.int .u64 pc)) (hw : Two X w.heap.size (.int .i64 0) (.int .u64 0)) (t' : Int) :
    ∃ Y, (X.setCell ⟨B, 2, none⟩ (.int .u64 t')).drew = Y ∧ Y.cell? ⟨w.heap.size + 1, 0, none⟩ = some (.int .i64 px) ∧ Y.cell? ⟨w.heap.size + 1, 1, none⟩ = some (.int .u64 pc) ∧ Two Y w.heap.size (.int .i64 0) (.int .u64 0) ∧
      (Y.setCell ⟨w.heap.size, 0, none⟩ (.int .i64 px)).cell? ⟨w.heap.size, 0, none⟩ = some (.int .i64 px) ∧
      ((Y.setCell ⟨w.heap.size, 0, none⟩ (.int .i64 px)).setCell ⟨w.heap.size, 1, none⟩ (.int .u64 pc)).cell? ⟨w.heap.size, 1, none⟩ = some (.int .u64 pc) ∧
      Left w B m V t' ((Y.setCell ⟨w.heap.size, 0, none⟩ (.int .i64 px)).setCell ⟨w.heap.size, 1, none⟩ (.int .u64 pc)) := by
  have hL : Left w B m V t' ((X.setCell ⟨B, 2, none⟩ (.int .u64 t')).drew) := (h.total t').draws 1
  have e : ∀ k, k ≠ B → ((X.setCell ⟨B, 2, none⟩ (.int .u64 t')).drew).heap[k]? = X.heap[k]? := fun k hk => Below.heap_setCell _ _ _ _ hk
  have hT : Two ((X.setCell ⟨B, 2, none⟩ (.int .u64 t')).drew) w.heap.size (.int .i64 0) (.int .u64 0) := hw.block (e _ (by omega))
  refine ⟨_, rfl, (World.cell?_of_block (a := ⟨w.heap.size + 1, 0, none⟩) (e (w.heap.size + 1) (by omega))).trans p0, (World.cell?_of_block (a := ⟨w.heap.size + 1, 1, none⟩) (e (w.heap.size + 1) (by omega))).trans p1, hT, World.cell?_setCell_same _ _ _ hT.c0, ?_, (hL.box hB _ _).box hB _ _⟩
  exact World.cell?_setCell_same _ _ _ (u := .int .u64 0) (by rw [World.cell?_setCell_other _ _ _ _ (two_off (by omega))]; exact hT.c1)
theorem left_end {w X : World} {B : Nat} {A A' : Option Addr} {n n' cap cap' : Nat} {m t t' : Int} {L L' : List PairV} {S : Nat → Prop} (h : LayS w B A n cap m t L) (hS : ∀ k, S k ↔ k = B ∨ blkA A = some k)
    (hA : ∀ k, blkA A' = some k → blkA A = some k) (hr : Slab w A' cap' L') (hn : L'.length = n') (hst : Stp m L') (hm : I64 m) (ht : sumP L' = t') (hX : Left w B m (.slice A' n' cap') t' X) :
    ∃ S', StX X B S' m L' ∧ Keeps S w X ∧ (∀ k, S' k → S k ∨ w.heap.size ≤ k) := by
  subst hn ht
  refine ⟨fun k => k = B ∨ blkA A' = some k, ⟨hst, hm, A', cap', ⟨hX.b, ?_⟩, fun k => Iff.rfl⟩, ?_, ?_⟩
  · exact hr.keep fun k hk => hX.k.block k (hr.lt hk) (h.ne (hA k hk))
  · exact ⟨hX.k.os, hX.k.tape, hX.k.output, hX.k.size, fun k hk hn => hX.k.block k hk (fun e => hn ((hS k).2 (Or.inl e)))⟩
  · rintro k (rfl | hk)
    · exact Or.inl ((hS k).2 (Or.inl rfl))
    · exact Or.inl ((hS k).2 (Or.inr (hA k hk)))

set_option maxRecDepth 100000 in
set_option maxHeartbeats 4000000 in
theorem sfirst_some (w : World) (B : Nat) (S : Nat → Prop) (m : Int) (L : List PairV) (h : StX w B S m L) (hl : L.length ≤ 900) (hne : L ≠ []) :
    Calls Try.prog 10 #[.pointer (some ⟨B, 0, none⟩)] w fun e w' => ∃ S', e = .returned (.tuple #[.agg #[.int .i64 (firP L).1, .int .u64 (firP L).2], .bool (!L.isEmpty)]) ∧ StX w' B S' m L.tail ∧ Keeps S w w' ∧ (∀ k, S' k → S k ∨ w.heap.size ≤ k) := by
  have HT8 := Lib.hid (stp_tail h.1)
  obtain ⟨hst, hm, A, cap, hL, hS⟩ := h
  obtain ⟨px, pc, hx0⟩ : ∃ px pc, L[0]? = some (px, pc) := by
    cases L with
    | nil => exact absurd rfl hne
    | cons p r => exact ⟨p.1, p.2, rfl⟩
  obtain ⟨N, hN⟩ : ∃ N, L.length = N := ⟨_, rfl⟩
  have hpos : 0 < N := by rw [← hN]; cases L with
    | nil => exact absurd rfl hne
    | cons p r => simp
  obtain ⟨nn, hnn⟩ : ∃ nn, N - 1 = nn := ⟨_, rfl⟩
  have HF : Hid (firP L = (px, pc) ∧ (!L.isEmpty) = true ∧ L.tail.length = nn ∧ sumP L.tail = sumP L - pc ∧ 0 ≤ pc) := Lib.hid (by
    have hok := ok_pos hst.ok
    cases L with
    | nil => exact absurd rfl hne
    | cons p r =>
      obtain rfl := Option.some.inj hx0
      refine ⟨rfl, rfl, ?_, ?_, hok (px, pc) (by simp)⟩
      · rw [List.length_cons] at hN; show r.length = nn; omega
      · rw [sumP_cons]; show sumP r = pc + sumP r - pc; omega)
  rw [HF.out.1, HF.out.2.1]
  obtain ⟨g, off, rfl, hbl, d0, d1⟩ := hL.row.pairs.at_ 0 _ hx0
  simp only [Nat.zero_mul, Nat.add_zero] at d0 d1
  have hfit := hL.row.fit
  have htl : L.drop 1 = L.tail := List.drop_one
  have hpt : Pairs w (some ⟨g, off + 2, none⟩) L.tail := by have := hL.row.pairs.shift 1; rw [htl] at this; exact this
  have hblk : ∃ cs, w.heap[g]? = some (.cells cs 30 (0, 0)) := by
    rcases hL.row.blk with ⟨e, _⟩ | ⟨g', off', cs, e, hb⟩
    · cases e
    · obtain ⟨rfl, rfl, _⟩ := Addr.mk.inj (Option.some.inj e)
      exact ⟨cs, hb⟩
  obtain ⟨cs, hcs⟩ := hblk
  have hs0 := sumP_tail (ok_pos hst.ok)
  have hs1 := hst.sum
  obtain ⟨t, ht⟩ : ∃ t, sumP L = t := ⟨_, rfl⟩
  have h2 := HF.out.2.2.2.1
  have h3 := HF.out.2.2.2.2
  rw [ht] at hs0 hs1 h2
  rw [h2] at hs0
  rw [ht, hN] at hL
  have ut : IntKind.u64.wrap (t - pc) = t - pc := by rw [IntKind.wrap_u64]; omega
  have hBw := hL.lt
  have hBg : g ≠ B := hL.ne rfl
  have HA1 : Hid (∀ k, blkA (some ⟨g, off + 2, none⟩) = some k → blkA (some ⟨g, off, none⟩) = some k) := Lib.hid fun k hk => hk
  have HL := Lib.hid hL
  have HS := Lib.hid hS
  have HM := Lib.hid hm
  have HR1 : Hid (cap ≠ 1 → Slab w (some ⟨g, off + 2, none⟩) (cap - 1) L.tail) := Lib.hid fun hc => ⟨hpt, by rw [List.length_tail]; omega, Or.inr ⟨g, off + 2, cs, rfl, hcs⟩, (fun g' off' cs' e hg' => by
    obtain ⟨rfl, rfl, _⟩ := Addr.mk.inj (Option.some.inj e)
    have hrm := HL.out.row.room _ _ _ rfl hg'
    omega), by have := HL.out.row.capm; omega⟩
  have HR0 : Hid (N = 1 → Slab w (some ⟨g, off, none⟩) 0 L.tail ∧ L.tail.length = 0) := Lib.hid fun hc => by
    have h1 : L.tail.length = 0 := by rw [List.length_tail]; omega
    have h2 : L.tail = [] := List.eq_nil_of_length_eq_zero h1
    rw [h2]
    exact ⟨⟨⟨fun p h => (by cases h), fun i p h => by simp at h⟩, by simp, Or.inr ⟨g, off, cs, rfl, hcs⟩, (fun g' off' cs' e hg' => by
      obtain ⟨rfl, rfl, _⟩ := Addr.mk.inj (Option.some.inj e)
      have hrm := HL.out.row.room _ _ _ rfl hg'
      omega), by omega⟩, rfl⟩
  have kk : (0 : Int) < N := by omega
  have kk1 : ((N : Int) == 0) = false := by simp; omega
  obtain ⟨w2, hw2⟩ : ∃ w2, (w.alloc (.cells #[.int .i64 0, .int .u64 0] 30)) = w2 := ⟨_, rfl⟩
  have b2 : Below w.heap.size w w2 := by rw [← hw2]; exact (Below.refl _ _).alloc (Nat.le_refl _) _
  have hO2 : OwnsV w2 (some ⟨B, 0, none⟩) (some ⟨g, off, none⟩) N cap := owns_at (cell_later b2 hL.c1)
  have H := Lib.hid (slen_of _ _ _ _ _ hO2)
  have q1 := cell_later b2 hL.c1
  have e0 := cell_later b2 d0
  have e1 := cell_later b2 d1
  have hz2 : w2.heap.size = w.heap.size + 1 := by rw [← hw2]; simp
  have B2 := Lib.hid b2
  have f1 : w2.frozen? ⟨B, 1, none⟩ = false := (hL.call b2).f 1
  have HW2 : Hid (Two w2 w.heap.size (.int .i64 0) (.int .u64 0)) := Lib.hid (by rw [← hw2]; exact Two.new _ _ _ _)
  have hN9 : N ≤ 900 := by omega
  have HN := Lib.hid hnn
  have HSUM := Lib.hid h2
  have hcap : N ≤ cap := by omega
  have hNN : (nn : Int) ≤ 900 := by omega
  clear hst hm hx0 hN hL hS hne hl hnn hfit htl hpt hcs ht h2 h3 hO2 b2 d0 d1 hbl
  go_enter Try.func10, Try.ntmps10
  go_wp2_with fail
  clear hw2
  refine H.out.mono ?_
  rintro e w3 ⟨rfl, rfl⟩
  by_cases hc1 : cap = 1
  · subst hc1
    obtain rfl : N = 1 := by omega
    go_wp2_with fail
    obtain ⟨X, hX, hLf, x2, xf, p0, p1, hTw⟩ := left_facts HL.out B2.out hz2 HW2.out (.slice (some ⟨g, off, none⟩) 0 0) px pc
    rw [hX]
    clear hX
    have HLF := Lib.hid hLf
    have HTW := Lib.hid hTw
    clear hLf hTw e0 e1 q1
    go_region
    obtain ⟨Y, hY, y0, y1, ⟨j0, j1, j2, j3⟩, q5, q6, hLY⟩ := left_done HLF.out hBw p0 p1 HTW.out (t - pc)
    rw [hY]
    have Q5 := Lib.hid q5
    have Q6 := Lib.hid q6
    have HLY := Lib.hid hLY
    clear hY q5 q6 hLY
    go_wp2_with fail
    refine bodyPost_ret (v := .tuple #[.agg #[.int .i64 px, .int .u64 pc], .bool true]) (by simp [results, Try.results10, go_sem, Q5.out, Q6.out]) rfl ?_
    obtain ⟨S', hs1, hs2, hs3⟩ := left_end HL.out HS.out (fun k hk => hk) (HR0.out trivial).1 (HR0.out trivial).2 HT8.out HM.out HSUM.out HLY.out
    exact ⟨S', rfl, hs1, hs2, hs3⟩
  · go_wp2_with fail
    obtain ⟨X, hX, hLf, x2, xf, p0, p1, hTw⟩ := left_facts HL.out B2.out hz2 HW2.out (.slice (some ⟨g, off + 2, none⟩) (N - 1) (cap - 1)) px pc
    rw [hX]
    clear hX
    have HLF := Lib.hid hLf
    have HTW := Lib.hid hTw
    clear hLf hTw e0 e1 q1
    go_region
    obtain ⟨Y, hY, y0, y1, ⟨j0, j1, j2, j3⟩, q5, q6, hLY⟩ := left_done HLF.out hBw p0 p1 HTW.out (t - pc)
    rw [hY]
    have Q5 := Lib.hid q5
    have Q6 := Lib.hid q6
    have HLY := Lib.hid hLY
    clear hY q5 q6 hLY
    go_wp2_with fail
    refine bodyPost_ret (v := .tuple #[.agg #[.int .i64 px, .int .u64 pc], .bool true]) (by simp [results, Try.results10, go_sem, Q5.out, Q6.out]) rfl ?_
    obtain ⟨S', hs1, hs2, hs3⟩ := left_end HL.out HS.out HA1.out (HR1.out hc1) (HF.out.2.2.1.trans HN.out.symm) HT8.out HM.out HSUM.out HLY.out
    exact ⟨S', rfl, hs1, hs2, hs3⟩

set_option maxRecDepth 100000 in
set_option maxHeartbeats 4000000 in
theorem slast_some (w : World) (B : Nat) (S : Nat → Prop) (m : Int) (L : List PairV) (h : StX w B S m L) (hl : L.length ≤ 900) (hne : L ≠ []) :
    Calls Try.prog 11 #[.pointer (some ⟨B, 0, none⟩)] w fun e w' => ∃ S', e = .returned (.tuple #[.agg #[.int .i64 (lasP L).1, .int .u64 (lasP L).2], .bool (!L.isEmpty)]) ∧ StX w' B S' m L.dropLast ∧ Keeps S w w' ∧ (∀ k, S' k → S k ∨ w.heap.size ≤ k) := by
  have HT8 := Lib.hid (stp_front h.1)
  obtain ⟨hst, hm, A, cap, hL, hS⟩ := h
  obtain ⟨N, hN⟩ : ∃ N, L.length = N := ⟨_, rfl⟩
  have hpos : 0 < N := by rw [← hN]; cases L with
    | nil => exact absurd rfl hne
    | cons p r => simp
  obtain ⟨nn, hnn⟩ : ∃ nn, N - 1 = nn := ⟨_, rfl⟩
  obtain ⟨px, pc, hx0⟩ : ∃ px pc, L[nn]? = some (px, pc) := by
    have h1 : nn < L.length := by omega
    exact ⟨L[nn].1, L[nn].2, List.getElem?_eq_getElem h1⟩
  have htk : L.dropLast = L.take nn := by rw [List.dropLast_eq_take, hN, hnn]
  have HF : Hid (lasP L = (px, pc) ∧ (!L.isEmpty) = true ∧ L.dropLast.length = nn ∧ sumP L.dropLast = sumP L - pc ∧ 0 ≤ pc) := Lib.hid (by
    have hok := ok_pos hst.ok
    refine ⟨?_, ?_, ?_, ?_, hok (px, pc) (List.mem_of_getElem? hx0)⟩
    · unfold lasP; rw [List.getLast?_eq_getElem?, hN, hnn, hx0]; rfl
    · cases L with
      | nil => exact absurd rfl hne
      | cons p r => rfl
    · rw [htk, List.length_take]; omega
    · have h1 := sum_step' hx0
      rw [List.take_of_length_le (by omega)] at h1
      rw [htk, h1]
      show _ = sumP (L.take nn) + pc - pc
      omega)
  rw [HF.out.1, HF.out.2.1]
  obtain ⟨g, off, rfl, hbl, d0, d1⟩ := hL.row.pairs.at_ nn _ hx0
  simp only at d0 d1
  have hfit := hL.row.fit
  have hpt : Pairs w (some ⟨g, off, none⟩) L.dropLast := by rw [htk]; exact pairs_low (hi := L.drop nn) (by rw [List.take_append_drop]; exact hL.row.pairs)
  have hs0 := sumP_take (L := L) nn (ok_pos hst.ok)
  rw [← htk] at hs0
  have hs1 := hst.sum
  obtain ⟨t, ht⟩ : ∃ t, sumP L = t := ⟨_, rfl⟩
  have h2 := HF.out.2.2.2.1
  have h3 := HF.out.2.2.2.2
  rw [ht] at hs0 hs1 h2
  rw [h2] at hs0
  rw [ht, hN] at hL
  have ut : IntKind.u64.wrap (t - pc) = t - pc := by rw [IntKind.wrap_u64]; omega
  have hBw := hL.lt
  have hBg : g ≠ B := hL.ne rfl
  have HL := Lib.hid hL
  have HS := Lib.hid hS
  have HM := Lib.hid hm
  have HR1 : Hid (Slab w (some ⟨g, off, none⟩) cap L.dropLast) := Lib.hid ⟨hpt, by have := HF.out.2.2.1; omega, hL.row.blk, HL.out.row.room, HL.out.row.capm⟩
  have kk : (0 : Int) < N := by omega
  have kk1 : ((N : Int) == 0) = false := by simp; omega
  have u1 : IntKind.i64.wrap ((N : Int) - 1) = (nn : Int) := by rw [IntKind.wrap_i64]; omega
  have u2 : (N : Int) - 1 = (nn : Int) := by omega
  have u3 : (nn : Int) < (N : Int) := by omega
  have u4 : (0 : Int) ≤ (nn : Int) := by omega
  have u5 : IntKind.i64.wrap (nn : Int) = (nn : Int) := by rw [IntKind.wrap_i64]; omega
  have u6 : nn ≤ cap := by omega
  have u7 : (nn : Int) ≤ (cap : Int) := by omega
  obtain ⟨w2, hw2⟩ : ∃ w2, (w.alloc (.cells #[.int .i64 0, .int .u64 0] 30)) = w2 := ⟨_, rfl⟩
  have b2 : Below w.heap.size w w2 := by rw [← hw2]; exact (Below.refl _ _).alloc (Nat.le_refl _) _
  have hO2 : OwnsV w2 (some ⟨B, 0, none⟩) (some ⟨g, off, none⟩) N cap := owns_at (cell_later b2 hL.c1)
  have H := Lib.hid (slen_of _ _ _ _ _ hO2)
  have q1 := cell_later b2 hL.c1
  have e0 := cell_later b2 d0
  have e1 := cell_later b2 d1
  have hz2 : w2.heap.size = w.heap.size + 1 := by rw [← hw2]; simp
  have B2 := Lib.hid b2
  have f1 : w2.frozen? ⟨B, 1, none⟩ = false := (hL.call b2).f 1
  have HW2 : Hid (Two w2 w.heap.size (.int .i64 0) (.int .u64 0)) := Lib.hid (by rw [← hw2]; exact Two.new _ _ _ _)
  have hN9 : N ≤ 900 := by omega
  have HSUM := Lib.hid h2
  clear hst hm hx0 hN hL hS hne hl hnn hfit hpt ht h2 h3 hO2 b2 d0 d1 hbl htk
  go_enter Try.func11, Try.ntmps11
  go_wp2_with fail
  clear hw2
  refine H.out.mono ?_
  rintro e w3 ⟨rfl, rfl⟩
  go_wp2_with fail
  obtain ⟨X, hX, hLf, x2, xf, p0, p1, hTw⟩ := left_facts HL.out B2.out hz2 HW2.out (.slice (some ⟨g, off, none⟩) nn cap) px pc
  rw [hX]
  clear hX
  have HLF := Lib.hid hLf
  have HTW := Lib.hid hTw
  clear hLf hTw e0 e1 q1
  go_region
  obtain ⟨Y, hY, y0, y1, ⟨j0, j1, j2, j3⟩, q5, q6, hLY⟩ := left_done HLF.out hBw p0 p1 HTW.out (t - pc)
  rw [hY]
  have Q5 := Lib.hid q5
  have Q6 := Lib.hid q6
  have HLY := Lib.hid hLY
  clear hY q5 q6 hLY
  go_wp2_with fail
  refine bodyPost_ret (v := .tuple #[.agg #[.int .i64 px, .int .u64 pc], .bool true]) (by simp [results, Try.results11, go_sem, Q5.out, Q6.out]) rfl ?_
  obtain ⟨S', hs1, hs2, hs3⟩ := left_end HL.out HS.out (fun k hk => hk) HR1.out HF.out.2.2.1 HT8.out HM.out HSUM.out HLY.out
  exact ⟨S', rfl, hs1, hs2, hs3⟩

theorem empty_len {L : List PairV} (h : L = []) : L.length = 0 := by rw [h]; rfl

theorem sfirst_any (w : World) (B : Nat) (S : Nat → Prop) (m : Int) (L : List PairV) (h : StX w B S m L) (hl : L.length ≤ 900) :
    Calls Try.prog 10 #[.pointer (some ⟨B, 0, none⟩)] w fun e w' => ∃ S', e = .returned (.tuple #[.agg #[.int .i64 (firP L).1, .int .u64 (firP L).2], .bool (!L.isEmpty)]) ∧ StX w' B S' m L.tail ∧ Keeps S w w' ∧ (∀ k, S' k → S k ∨ w.heap.size ≤ k) := by
  by_cases hne : L = []
  · subst hne
    have hX := h
    obtain ⟨hst, hm, A, cap, hL, hS⟩ := h
    refine (sfirst_none w _ A cap (owns_at hL.c1)).mono ?_
    rintro e w1 ⟨rfl, b1⟩
    exact ⟨S, rfl, stx_keep _ _ _ _ _ _ hX (fun k hk => b1.block k (stx_lt _ _ _ _ _ hX k hk)), Keeps.of_below b1, fun k hk => Or.inl hk⟩
  · exact sfirst_some w B S m L h hl hne

theorem slast_any (w : World) (B : Nat) (S : Nat → Prop) (m : Int) (L : List PairV) (h : StX w B S m L) (hl : L.length ≤ 900) :
    Calls Try.prog 11 #[.pointer (some ⟨B, 0, none⟩)] w fun e w' => ∃ S', e = .returned (.tuple #[.agg #[.int .i64 (lasP L).1, .int .u64 (lasP L).2], .bool (!L.isEmpty)]) ∧ StX w' B S' m L.dropLast ∧ Keeps S w w' ∧ (∀ k, S' k → S k ∨ w.heap.size ≤ k) := by
  by_cases hne : L = []
  · subst hne
    have hX := h
    obtain ⟨hst, hm, A, cap, hL, hS⟩ := h
    refine (slast_none w _ A cap (owns_at hL.c1)).mono ?_
    rintro e w1 ⟨rfl, b1⟩
    exact ⟨S, rfl, stx_keep _ _ _ _ _ _ hX (fun k hk => b1.block k (stx_lt _ _ _ _ _ hX k hk)), Keeps.of_below b1, fun k hk => Or.inl hk⟩
  · exact slast_some w B S m L h hl hne
end Go.Proofs.Ytnhhehinbobknaa

namespace Go.Proofs.Ytnhhehinbobknaa
set_option linter.unusedVariables false
set_option linter.unusedSimpArgs false
open Go.RowKit

theorem same_below {P : Ending → Prop} {w : World} {e : Ending} {w' : World} (h : P e ∧ w = w') : P e ∧ Below w.heap.size w w' := by
  obtain ⟨h1, rfl⟩ := h
  exact ⟨h1, Below.refl _ _⟩
theorem strip_does : StripDoes StX where
  keep := stx_keep
  lt := stx_lt
  stp := fun w B S m L h => h.1
  cells := stx_cells
  new := fun w m h1 h2 => snew_any w m h1 h2
  bad := fun w m h1 h2 => sbad_any w m h1 h2
  add := fun w B S m L i c h hl hi hc => sadd_any w B S m L i c h hl hi hc
  first := fun w B S m L h hl => sfirst_any w B S m L h hl
  last := fun w B S m L h hl => slast_any w B S m L h hl
  at_ := fun w B S m L i h hl hi => by
    obtain ⟨hst, hm, A, cap, hL, hS⟩ := h
    exact sat_of w _ A cap L i (owns_at hL.c1) hL.row.pairs hst.good (by omega) hi
  total := fun w B S m L h hl => by
    obtain ⟨hst, hm, A, cap, hL, hS⟩ := h
    exact (stotal_at w B _ hL.c2).mono fun e w' => same_below (P := fun e => e = _)
  len := fun w B S m L h hl => by
    obtain ⟨hst, hm, A, cap, hL, hS⟩ := h
    exact (slen_of w _ A _ cap (owns_at hL.c1)).mono fun e w' => same_below (P := fun e => e = _)
  ends := fun w B S m L h hl => by
    obtain ⟨hst, hm, A, cap, hL, hS⟩ := h
    by_cases hne : L = []
    · subst hne
      exact sends_none w _ A cap (owns_at hL.c1)
    · have hpos : 0 < L.length := by cases L with
        | nil => exact absurd rfl hne
        | cons p r => simp
      obtain ⟨px, pc, hx0⟩ : ∃ px pc, L[0]? = some (px, pc) := ⟨L[0].1, L[0].2, List.getElem?_eq_getElem hpos⟩
      obtain ⟨qx, qc, hx1⟩ : ∃ qx qc, L[L.length - 1]? = some (qx, qc) := ⟨L[L.length - 1].1, L[L.length - 1].2, List.getElem?_eq_getElem (by omega)⟩
      have h1 : (firP L).1 = px := by unfold firP; rw [List.head?_eq_getElem?, hx0]; rfl
      have h2 : (lasP L).1 = qx := by unfold lasP; rw [List.getLast?_eq_getElem?, hx1]; rfl
      have h3 : (!L.isEmpty) = true := by cases L with
        | nil => exact absurd rfl hne
        | cons p r => rfl
      rw [h1, h2, h3]
      exact sends_of w _ A cap L.length px pc qx qc L (owns_at hL.c1) hL.row.pairs rfl hpos (by omega) hx0 hx1
  pairs := fun w B S m L h hl => by
    obtain ⟨hst, hm, A, cap, hL, hS⟩ := h
    exact spairs_of w _ A cap L (owns_at hL.c1) hL.row (by omega)
  find := fun w B S m L t h hl ht => by
    obtain ⟨hst, hm, A, cap, hL, hS⟩ := h
    exact sfind_of w _ A cap L t _ _ (owns_at hL.c1) hL.row.pairs (by omega) ht (by have := hst.sum; omega) rfl rfl
  below := fun w B S m L i h hl hi => by
    obtain ⟨hst, hm, A, cap, hL, hS⟩ := h
    exact sbelow_of w _ A cap L i _ (owns_at hL.c1) hL.row hst.good (by omega) hi hst.sum rfl
theorem strip_nil : StripNil where
  add := fun w i c hi hc => sadd_none w i c hi hc
  first := fun w => sfirst_none w none none 0 (owns_none w)
  last := fun w => slast_none w none none 0 (owns_none w)
  at_ := fun w i hi => sat_of w none none 0 [] i (owns_none w) (Pairs.nil w) good_nil (by simp) hi
  total := fun w => (stotal_none w).mono fun e w' => same_below (P := fun e => e = _)
  len := fun w => (slen_of w none none 0 0 (owns_none w)).mono fun e w' => same_below (P := fun e => e = _)
  ends := fun w => sends_none w none none 0 (owns_none w)
  pairs := fun w => spairs_none w
  find := fun w t ht => sfind_of w none none 0 [] t 0 false (owns_none w) (Pairs.nil w) (by simp) ht (by decide) (by unfold findP; split <;> rfl) (by unfold findP; split <;> rfl)
  below := fun w i hi => sbelow_none w none i (owns_none w) hi
end Go.Proofs.Ytnhhehinbobknaa
