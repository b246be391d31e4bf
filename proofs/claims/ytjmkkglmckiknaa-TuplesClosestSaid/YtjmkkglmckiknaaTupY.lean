/-
  The laws' own play, from the contracts.
-/
import Derived.Test.YtjmkkglmckiknaaTupX
import Derived.Test.YtjmkkglmckiknaaTupB
namespace Go.Proofs.Ytjmkkglmckiknaa
set_option linter.unusedVariables false
set_option linter.unusedSimpArgs false
open Go.RowKit

/-- Three rows of the call's own that lie apart: a row of tuples, its spots, all values. -/
structure Played (w : World) (base : Nat) (vr vs va : Value) (R : List TupV) (S : List SpotV) (L : List Int) : Prop where
  row : OwnTu w base vr R
  spots : OwnSp w base vs S
  all : OwnN w base va L
  d1 : ∀ g, vr.ownBlock = some g → vs.ownBlock ≠ some g ∧ va.ownBlock ≠ some g
  d2 : ∀ g, vs.ownBlock = some g → va.ownBlock ≠ some g
theorem apart_of {v u : Value} (h : ∀ g, u.ownBlock = some g → v.ownBlock ≠ some g) : v.ownBlock = none ∨ v.ownBlock ≠ u.ownBlock := by
  cases hv : v.ownBlock with
  | none => exact Or.inl rfl
  | some g => exact Or.inr fun e => h g e.symm hv
theorem Played.nil (w : World) (base : Nat) : Played w base (.slice none 0 0) (.slice none 0 0) (.slice none 0 0) [] [] [] :=
  ⟨OwnTu.nil _ _, OwnSp.nil _ _, OwnN.nil _ _, fun g h => (by cases h), fun g h => (by cases h)⟩
theorem Played.call {w w' : World} {base : Nat} {vr vs va : Value} {R : List TupV} {S : List SpotV} {L : List Int} (h : Played w base vr vs va R S L) (hb : Below w.heap.size w w') : Played w' base vr vs va R S L :=
  ⟨h.row.call hb, h.spots.call hb, h.all.call hb, h.d1, h.d2⟩
theorem Played.row_to {w w' : World} {base : Nat} {vr vs va vr' : Value} {R R' : List TupV} {S : List SpotV} {L : List Int} (h : Played w base vr vs va R S L) (hg : w.grownBy w' vr.ownBlock) (hr : OwnTu w' base vr' R') (hv : vr'.ownBlock = vr.ownBlock ∨ ∀ g, vr'.ownBlock = some g → w.heap.size ≤ g) : Played w' base vr' vs va R' S L := by
  refine ⟨hr, h.spots.other hg (apart_of fun g e => (h.d1 g e).1), h.all.other hg (apart_of fun g e => (h.d1 g e).2), fun g e => ?_, h.d2⟩
  rcases hv with k | k
  · exact h.d1 g (by rw [← k]; exact e)
  · have h1 := k g e
    exact ⟨fun e2 => by have := (h.spots.lt g e2).2; omega, fun e2 => by have := (h.all.lt g e2).2; omega⟩
theorem Played.spots_to {w w' : World} {base : Nat} {vr vs va vs' : Value} {R : List TupV} {S S' : List SpotV} {L : List Int} (h : Played w base vr vs va R S L) (hb : Below w.heap.size w w') (hs : OwnSp w' w.heap.size vs' S') (hbase : base ≤ w.heap.size) : Played w' base vr vs' va R S' L := by
  refine ⟨h.row.call hb, hs.mono hbase, h.all.call hb, fun g e => ⟨fun e2 => ?_, (h.d1 g e).2⟩, fun g e e2 => ?_⟩
  · have := (hs.lt g e2).1; have := (h.row.lt g e).2; omega
  · have := (hs.lt g e).1; have := (h.all.lt g e2).2; omega
theorem Played.all_to {w w' : World} {base : Nat} {vr vs va va' : Value} {R : List TupV} {S : List SpotV} {L L' : List Int} (h : Played w base vr vs va R S L) (hg : w.grownBy w' va.ownBlock) (ha : OwnN w' base va' L') (hv : va'.ownBlock = va.ownBlock ∨ ∀ g, va'.ownBlock = some g → w.heap.size ≤ g) : Played w' base vr vs va' R S L' := by
  refine ⟨h.row.other hg (apart_of fun g e e2 => (h.d1 g e2).2 e), h.spots.other hg (apart_of fun g e e2 => h.d2 g e2 e), ha, fun g e => ⟨(h.d1 g e).1, fun e2 => ?_⟩, fun g e e2 => ?_⟩
  · rcases hv with k | k
    · exact (h.d1 g e).2 (by rw [← k]; exact e2)
    · have := k g e2; have := (h.row.lt g e).2; omega
  · rcases hv with k | k
    · exact h.d2 g e (by rw [← k]; exact e2)
    · have := k g e2; have := (h.spots.lt g e).2; omega
/-- What is played has room. -/
theorem play_ok {L : List StepV} (hok : ∀ s, s ∈ L → okSt s) (hl : L.length ≤ 80) : (∀ s, s ∈ (playS L).1 → okSp s) ∧ (∀ p, p ∈ rowT 0 (playS L).1 → okTu p) ∧ (∀ x, x ∈ (playS L).2 → I64 x) ∧ GoodT (rowT 0 (playS L).1) ∧ sumT (rowT 0 (playS L).1) ≤ 80 ∧ (playS L).1.length ≤ 80 ∧ (playS L).2.length ≤ 80 := by
  obtain ⟨h1, h2, h3⟩ := play_told L
  have hx : ∀ x, x ∈ (playS L).2 → I64 x := fun x hx => by
    rcases play_mem L ([], []) x hx with k | ⟨s, hs, e⟩
    · cases k
    · rw [e]; exact (hok s hs).1
  refine ⟨fun s hs => ?_, fun p hp => ?_, hx, h1.good (by omega), by rw [sum_told h1]; omega, by omega, by omega⟩
  · have hb := h1.can.mem s hs
    exact ⟨hx _ (h1.has s hs), ⟨by omega, by omega⟩, by omega, by omega⟩
  · have hb := row_bd h1.can (Int.le_refl 0) p hp
    exact ⟨hx _ (h1.x_mem p hp), ⟨by omega, by omega⟩, by omega, by omega⟩
theorem step_sq (p : List SpotV × List Int) (x lim : Int) : stepS p ⟨x, lim, true⟩ = (sqzS lim p.1, p.2) := rfl
theorem step_in (p : List SpotV × List Int) (x lim : Int) : stepS p ⟨x, lim, false⟩ = (insS p.1 x, p.2 ++ [x]) := rfl

set_option maxRecDepth 100000 in
set_option maxHeartbeats 4000000 in
theorem play18_any (D : TupDoes) (w : World) (A : Option Addr) (cap : Nat) (L : List StepV) (h : Stps w A L) (hl : L.length ≤ 80) :
    Calls Try.prog 9 #[.slice A L.length cap] w fun e w' => ∃ vr vs va, e = .returned (.tuple #[vr, vs, va, .bool true]) ∧ Played w' w.heap.size vr vs va (rowT 0 (playS L).1) (playS L).1 (playS L).2 ∧ Below w.heap.size w w' := by
  have HI := Lib.hid h
  have HL := Lib.hid hl
  have HD := Lib.hid D
  have hl2 : ¬ (80 : Int) < L.length := by omega
  clear h D
  go_enter Try.func9, Try.ntmps9
  go_wp2_with fail
  go_loopw [6, 7, 8, 16] (fun r s a j wr => ∃ (k : Nat), k ≤ L.length ∧ j = .int .i64 k ∧ Played wr w.heap.size r s a (rowT 0 (playS (L.take k)).1) (playS (L.take k)).1 (playS (L.take k)).2 ∧ Below w.heap.size w wr) (fun _ _ _ j _ => L.length - (intOf j).toNat)
  case atStart => exact ⟨0, Nat.zero_le _, rfl, Played.nil _ _, Below.refl _ _⟩
  case round =>
    obtain ⟨k, hk, rfl, hpl, hb2⟩ := hrel
    have hbs := hb2.size
    clear hl2
    by_cases hlt : k < L.length
    · have kk : (k : Int) < L.length := by omega
      have hxk : L[k]? = some L[k] := List.getElem?_eq_getElem hlt
      generalize hit : L[k] = p at *
      obtain ⟨px, pl, pq⟩ := p
      obtain ⟨b0, off, rfl, hbl, c0, c1, c2⟩ := (HI.out.call hb2).at_ k _ hxk
      have HST := Lib.hid (play_step hxk)
      have hok := HI.out.ok _ (List.mem_of_getElem? hxk)
      have HOK := Lib.hid (play_ok (L := L.take k) (fun s hs => HI.out.ok s (List.mem_of_mem_take hs)) (by rw [List.length_take]; omega))
      have HTD := Lib.hid (play_told (L.take k))
      have HOS := Lib.hid hok
      simp only at c0 c1 c2 HOS
      have HPL := Lib.hid hpl
      have HB := Lib.hid hb2
      obtain ⟨S, hS⟩ : ∃ S, (playS (L.take k)).1 = S := ⟨_, rfl⟩
      obtain ⟨V, hV⟩ : ∃ V, (playS (L.take k)).2 = V := ⟨_, rfl⟩
      rw [hS, hV] at HOK HTD HPL
      have HPP : Hid (playS (L.take k) = (S, V)) := Lib.hid (by rw [← hS, ← hV])
      clear hxk hit hok hpl hS hV
      cases pq with
      | true =>
        have hba : Below wr.heap.size wr (wr.alloc (.cells #[.int .i64 px, .int .u64 pl, .bool true] 67)) := (Below.refl _ _).alloc (Nat.le_refl _) _
        have h3 := three_new wr (.int .i64 px) (.int .u64 pl) (.bool true) 67
        have HP1 := Lib.hid (HPL.out.call hba)
        have HB1 := Lib.hid (HB.out.trans (hba.mono hbs))
        have HLT := Lib.hid (fun g (h : u6.ownBlock = some g) => (HPL.out.row.lt g h).2)
        have HSZ : Hid (wr.heap.size < (wr.alloc (.cells #[.int .i64 px, .int .u64 pl, .bool true] 67)).heap.size) := Lib.hid (by simp)
        have H30 := Lib.hid h3
        clear hba h3
        go_wp2_with fail
        generalize (wr.alloc (.cells #[.int .i64 px, .int .u64 pl, .bool true] 67)) = wa at *
        refine (HD.out.squeeze wa w.heap.size u6 (rowT 0 S) pl HB1.out.size HP1.out.row HOK.out.2.1 HOK.out.2.2.2.1 (by rw [row_len]; have := HOK.out.2.2.2.2.2.1; omega) HOS.out.2).mono ?_
        rintro e w1 ⟨vr', rfl, ho1, hg1, hv1⟩
        rw [sqz_row] at ho1
        have HP2 := Lib.hid (HP1.out.row_to hg1 ho1 hv1)
        have HB2 := Lib.hid (HB1.out.grown hg1 HB1.out.size (fun g hg => (HP1.out.row.lt g hg).1))
        have c9 : w1.cell? ⟨wr.heap.size, 1, none⟩ = some (.int .u64 pl) := (World.cell?_of_block (a := ⟨wr.heap.size, 1, none⟩) (hg1.block wr.heap.size HSZ.out (fun e => Nat.lt_irrefl _ (HLT.out _ e.symm)))).trans H30.out.2.1
        have HS1 := Lib.hid hg1.size
        clear hg1 ho1 hv1
        go_wp2_with fail
        refine (rsqz18_own w1 w.heap.size u7 S V.length pl HP2.out.spots HOK.out.1 (by have := HOK.out.2.2.2.2.2.1; omega) HTD.out.1.can (by have := HOK.out.2.2.2.2.2.2; omega) HOS.out.2).mono ?_
        rintro e w2 ⟨vs', rfl, ho2, hb3⟩
        have HP3 := Lib.hid (HP2.out.spots_to hb3 ho2 HB2.out.size)
        have HB3 := Lib.hid (HB2.out.trans (hb3.mono HB2.out.size))
        have c10 := cell_later hb3 c9
        clear ho2 hb3
        have HE : Hid (playS (L.take (k + 1)) = (sqzS pl S, V)) := Lib.hid (by rw [HST.out, HPP.out, step_sq])
        go_wp2_with fail
        go_roundw
        case rel => exact ⟨k + 1, by omega, by go_num, by rw [HE.out]; exact HP3.out, HB3.out⟩
        case measure => simp [intOf]; omega
      | false =>
        have hba : Below wr.heap.size wr (wr.alloc (.cells #[.int .i64 px, .int .u64 pl, .bool false] 67)) := (Below.refl _ _).alloc (Nat.le_refl _) _
        have h3 := three_new wr (.int .i64 px) (.int .u64 pl) (.bool false) 67
        have HP1 := Lib.hid (HPL.out.call hba)
        have HB1 := Lib.hid (HB.out.trans (hba.mono hbs))
        have HLT := Lib.hid (fun g (h : u6.ownBlock = some g) => (HPL.out.row.lt g h).2)
        have HSZ : Hid (wr.heap.size < (wr.alloc (.cells #[.int .i64 px, .int .u64 pl, .bool false] 67)).heap.size) := Lib.hid (by simp)
        have H30 := Lib.hid h3
        clear hba h3
        go_wp2_with fail
        generalize (wr.alloc (.cells #[.int .i64 px, .int .u64 pl, .bool false] 67)) = wa at *
        refine (HD.out.insert wa w.heap.size u6 (rowT 0 S) px HB1.out.size HP1.out.row HOK.out.2.1 HOK.out.2.2.2.1 (by have := HOK.out.2.2.2.2.1; omega) (by rw [row_len]; have := HOK.out.2.2.2.2.2.1; omega) HOS.out.1).mono ?_
        rintro e w1 ⟨vr', rfl, ho1, hg1, hv1⟩
        rw [ins_row] at ho1
        have HP2 := Lib.hid (HP1.out.row_to hg1 ho1 hv1)
        have HB2 := Lib.hid (HB1.out.grown hg1 HB1.out.size (fun g hg => (HP1.out.row.lt g hg).1))
        have c9 : w1.cell? ⟨wr.heap.size, 0, none⟩ = some (.int .i64 px) := (World.cell?_of_block (a := ⟨wr.heap.size, 0, none⟩) (hg1.block wr.heap.size HSZ.out (fun e => Nat.lt_irrefl _ (HLT.out _ e.symm)))).trans H30.out.1
        have HS1 := Lib.hid hg1.size
        clear hg1 ho1 hv1
        go_wp2_with fail
        refine (rins18_any w1 w.heap.size u7 S V.length px HP2.out.spots HOK.out.1 (by have := HOK.out.2.2.2.2.2.1; omega) HTD.out.1.can (by have := HOK.out.2.2.2.2.2.2; omega) HOS.out.1).mono ?_
        rintro e w2 ⟨vs', rfl, ho2, hb3⟩
        have HP3 := Lib.hid (HP2.out.spots_to hb3 ho2 HB2.out.size)
        have HB3 := Lib.hid (HB2.out.trans (hb3.mono HB2.out.size))
        have c10 := cell_later hb3 c9
        clear ho2 hb3
        have HE : Hid (playS (L.take (k + 1)) = (insS S px, V ++ [px])) := Lib.hid (by rw [HST.out, HPP.out, step_in])
        obtain ⟨vA, vk, hv8⟩ := HP3.out.all.form
        subst hv8
        have HA3 := Lib.hid HP3.out.all
        go_wp2_with (at_builtin; refine wpList_append_num rfl _ _ rfl w.heap.size _ _ _ rfl w2.heap.size px rfl (HP3.out.call ((Below.refl _ _).alloc (Nat.le_refl _) _)).all rfl ?c1 ?c4 ?c5 ?_)
        case c1 => go_simp
        case c4 => have := HOK.out.2.2.2.2.2.2; omega
        case c5 => have := HB3.out.size; simp; omega
        intro g' cp w3 hown' hgrow hlie
        have hp4 := (HP3.out.call ((Below.refl _ _).alloc (Nat.le_refl _) _)).all_to hgrow hown' (by
          rcases hlie with e | e
          · exact Or.inl e.symm
          · exact Or.inr fun g hg => by have h9 : g' = g := Option.some.inj hg; rw [← h9, e]; simp)
        have HP4 := Lib.hid hp4
        have HB4 := Lib.hid ((HB3.out.alloc HB3.out.size _).grown hgrow (by have := HB3.out.size; simp; omega) (fun g hg => (HA3.out.lt g hg).1))
        clear hgrow hown' hlie hp4
        go_wp2_with fail
        go_roundw
        case rel => exact ⟨k + 1, by omega, by go_num, by rw [HE.out]; exact HP4.out, HB4.out⟩
        case measure => simp [intOf]; omega
    · obtain rfl : k = L.length := by omega
      rw [List.take_length] at hpl
      have kk : ¬ (L.length : Int) < L.length := by omega
      have HPL := Lib.hid hpl
      clear hpl
      go_wp2_with fail
      refine bodyPost_ret (v := .tuple #[u6, u7, u8, .bool true]) (by simp [results, Try.results9, go_sem]) rfl ⟨_, _, _, rfl, HPL.out, hb2⟩
end Go.Proofs.Ytjmkkglmckiknaa
