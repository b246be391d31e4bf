/-
  Texts joined, in build order: GwF, Keep, GwP, ShareM, ShareA, WideE, Less, Small, ShareP, GwQ, GwC, GwcM, ShelfG, GwcA, Plus, GwcB, GwcC, GwcJ.
-/
import Derived.Test.YtfmlkohijkalbaaGreatK1
import Derived.Deep.LoopGhost
import Derived.Lib.JoinLaws
import Derived.Lib.SmallJoins
import Derived.WalkKit
import Derived.WalkSpells
import Derived.WalkLawsBesides
import Derived.OneCell
import Derived.OwnWalk
import Derived.RowKit3
import Derived.Lib.IndexLaws
import Derived.Lib.IndexMore
import Derived.Lib.Strings
import Derived.Test.YtfmlkohijkalbaaGreatRows
import Derived.WalkMore
import Derived.ScopeJumps
import Derived.Scope
import Derived.Shelf.SortM.Plain
import Derived.Shelf.SortM.SortNone
import Derived.Shelf.SlicesG.Turned
import Derived.Shelf.SlicesE.Clone
import Derived.Shelf.SlicesQ.IndexFunc
import Derived.Test.YtfmlkohijkalbaaGreatProg
import Derived.Sort.OwnSortedInts
import Derived.Deep.RegionWith
import Derived.LoopTactic
import Derived.Deep.QuietTactic
import Derived.BigQuiet
/-
  The reference of layer 19: Flush.
-/
namespace Go.Proofs.YtfmlkohijkalbaaGreat
set_option linter.unusedVariables false
set_option linter.unusedSimpArgs false
open Go.RowKit

theorem ins_at {x : Int} {L : List Int} {q : Nat} (h : ∀ y, y ∈ L.take q → y ≤ x) (hq : q = L.length ∨ ∃ y, L[q]? = some y ∧ x < y) : insI x L = L.take q ++ x :: L.drop q := by
  have e1 : L.takeWhile (fun y => decide (y ≤ x)) = L.take q ∧ L.dropWhile (fun y => decide (y ≤ x)) = L.drop q := by
    induction L generalizing q with
    | nil => simp
    | cons z r ih =>
      cases q with
      | zero =>
        rcases hq with e | ⟨y, hy, hlt⟩
        · cases e
        · have ez : z = y := Option.some.inj hy
          subst ez
          have hn : decide (z ≤ x) = false := decide_eq_false (by omega)
          constructor
          · rw [List.takeWhile_cons_of_neg (by simp; omega)]; rfl
          · rw [List.dropWhile_cons_of_neg (by simp; omega)]; rfl
      | succ q =>
        have hz : z ≤ x := h z (by rw [List.take_succ_cons]; exact List.mem_cons_self)
        have ih' := ih (q := q) (fun y hy => h y (by rw [List.take_succ_cons]; exact List.mem_cons_of_mem _ hy)) (by
          rcases hq with e | ⟨y, hy, hlt⟩
          · exact Or.inl (by simpa using e)
          · exact Or.inr ⟨y, hy, hlt⟩)
        constructor
        · rw [List.takeWhile_cons_of_pos (by simpa using hz), List.take_succ_cons, ih'.1]
        · rw [List.dropWhile_cons_of_pos (by simpa using hz), List.drop_succ_cons, ih'.2]
  unfold insI
  rw [e1.1, e1.2]
theorem sort_step {W : List Int} {i : Nat} {x : Int} (h : W[i]? = some x) : sortI (W.take (i + 1)) = insI x (sortI (W.take i)) := by
  rw [snocS h]
  unfold sortI
  rw [List.foldl_append]
  rfl
theorem foldS_step {L : List Int} {S : List SpotV} {i : Nat} {x : Int} (h : L[i]? = some x) : (L.take (i + 1)).foldl insS S = insS ((L.take i).foldl insS S) x := by
  rw [snocS h, List.foldl_append]
  rfl
theorem foldS_can {n : Int} : ∀ {L : List Int} {S : List SpotV}, SpotsP 0 n S → SpotsP 0 (n + L.length) (L.foldl insS S) ∧ (L.foldl insS S).length = S.length + L.length
  | [], S, h => by simpa using h
  | x :: r, S, h => by
    rw [List.foldl_cons]
    obtain ⟨h1, h2⟩ := foldS_can (L := r) (h.ins x)
    rw [insS_len h] at h2
    exact ⟨by rw [List.length_cons]; rw [show n + ((r.length + 1 : Nat) : Int) = n + 1 + (r.length : Int) by omega]; exact h1, by rw [h2, List.length_cons]; omega⟩
theorem insS_x {S : List SpotV} {x : Int} : ∀ s, s ∈ insS S x → s.x = x ∨ ∃ t, t ∈ S ∧ s.x = t.x := fun s hs => by
  unfold insS at hs
  rcases List.mem_append.1 hs with h | h
  · exact Or.inr ⟨s, (ah_mem h).1, rfl⟩
  · rcases List.mem_cons.1 h with e | h
    · exact Or.inl (by rw [e, newS_x])
    · unfold upS at h
      obtain ⟨t, ht, rfl⟩ := List.mem_map.1 h
      exact Or.inr ⟨t, (bh_mem ht).1, rfl⟩
theorem foldS_x {P : Int → Prop} : ∀ {L : List Int} {S : List SpotV}, (∀ s, s ∈ S → P s.x) → (∀ x, x ∈ L → P x) → ∀ s, s ∈ L.foldl insS S → P s.x
  | [], S, h, _ => h
  | x :: r, S, h, hL => by
    rw [List.foldl_cons]
    refine foldS_x (fun s hs => ?_) fun y hy => hL y (List.mem_cons_of_mem _ hy)
    rcases insS_x s hs with e | ⟨t, ht, e⟩
    · rw [e]; exact hL x List.mem_cons_self
    · rw [e]; exact h t ht
theorem okS_of {n : Int} {S : List SpotV} (h : SpotsP 0 n S) (hn : n < 9223372036854775808) (hx : ∀ s, s ∈ S → I64 s.x) : ∀ s, s ∈ S → okSp s := fun s hs => by
  have := h.mem s hs
  exact ⟨hx s hs, ⟨by omega, by omega⟩, by omega, by omega⟩
theorem grown_putG (w : World) (g o : Nat) (v : Value) : w.grownBy (w.setCell ⟨g, o, none⟩ v) (some g) :=
  ⟨rfl, rfl, rfl, by simp [World.setCell], fun k _ hr => Below.heap_setCell w _ _ k (fun e => hr (by rw [e]))⟩
theorem grown_transG {w w1 w2 : World} {r : Option Nat} (h : w.grownBy w1 r) (h2 : w1.grownBy w2 r) : w.grownBy w2 r :=
  ⟨h2.os.trans h.os, h2.tape.trans h.tape, h2.output.trans h.output, Nat.le_trans h.size h2.size, fun k hk hr => (h2.block k (Nat.lt_of_lt_of_le hk h.size) hr).trans (h.block k hk hr)⟩
theorem grown_callG {w w1 w2 : World} {r : Option Nat} (h : w.grownBy w1 r) (h2 : Below w1.heap.size w1 w2) : w.grownBy w2 r :=
  ⟨h2.os.trans h.os, h2.tape.trans h.tape, h2.output.trans h.output, Nat.le_trans h.size h2.size, fun k hk hr => (h2.block k (Nat.lt_of_lt_of_le hk h.size)).trans (h.block k hk hr)⟩
/-- Other spots are stored. -/
theorem RefGw.put2 {w : World} {M base : Nat} {u v : Int} {vs vw vs' : Value} {s : GwV} {S' : List SpotV} (h : RefGw w M u v vs vw s) (hS : OwnSp w base vs' S') (hn : vs'.ownBlock ≠ some M) (hap : ∀ g, vw.ownBlock = some g → vs'.ownBlock ≠ some g) : RefGw (w.setCell ⟨M, 2, none⟩ vs') M u v vs' vw (S', s.2) :=
  ⟨by rw [World.cell?_setCell_other _ _ _ _ (two_off (by omega))]; exact h.c0, by rw [World.cell?_setCell_other _ _ _ _ (two_off (by omega))]; exact h.c1, World.cell?_setCell_same _ _ _ h.c2, by rw [World.cell?_setCell_other _ _ _ _ (two_off (by omega))]; exact h.c3,
    fun o => by rw [World.frozen?_setCell]; exact h.f0 o, (hS.mono (Nat.zero_le _)).other (grown_putG _ _ _ _) (Or.inr hn), h.waits.other (grown_putG _ _ _ _) (Or.inr h.nw), hn, h.nw, hap⟩
/-- Other values that wait are stored. -/
theorem RefGw.put3 {w : World} {M base : Nat} {u v : Int} {vs vw vw' : Value} {s : GwV} {W' : List Int} (h : RefGw w M u v vs vw s) (hW : OwnN w base vw' W') (hn : vw'.ownBlock ≠ some M) (hap : ∀ g, vw'.ownBlock = some g → vs.ownBlock ≠ some g) : RefGw (w.setCell ⟨M, 3, none⟩ vw') M u v vs vw' (s.1, W') :=
  ⟨by rw [World.cell?_setCell_other _ _ _ _ (two_off (by omega))]; exact h.c0, by rw [World.cell?_setCell_other _ _ _ _ (two_off (by omega))]; exact h.c1, by rw [World.cell?_setCell_other _ _ _ _ (two_off (by omega))]; exact h.c2, World.cell?_setCell_same _ _ _ h.c3,
    fun o => by rw [World.frozen?_setCell]; exact h.f0 o, h.spots.other (grown_putG _ _ _ _) (Or.inr h.ns), (hW.mono (Nat.zero_le _)).other (grown_putG _ _ _ _) (Or.inr hn), h.ns, hn, hap⟩
/-- What flushing leaves. -/
def FlushedR (w : World) (M : Nat) (u v : Int) (vs vw : Value) (s : GwV) (w' : World) : Prop :=
  ∃ vs' vw', RefGw w' M u v vs' vw' (flushG u v s) ∧ w.grownBy w' (some M) ∧ (vs' = vs ∨ ∀ g, vs'.ownBlock = some g → w.heap.size ≤ g) ∧ (vw' = vw ∨ vw' = .slice none 0 0)
theorem new_cells0 (W : World) (o : Obj) : (W.alloc o).heap[W.heap.size]? = some o := heap_alloc_new W o

set_option maxRecDepth 100000 in
set_option maxHeartbeats 16000000 in
theorem rflush19_any (w : World) (M : Nat) (u v : Int) (vs vw : Value) (s : GwV) (h : RefGw w M u v vs vw s) (ok : OkGw s) (ha : GoodA u v) :
    Calls Tryz.prog 25 #[.pointer (some ⟨M, 0, none⟩)] w fun e w' => e = .returned (.tuple #[]) ∧ FlushedR w M u v vs vw s w' := by
  obtain ⟨Aw, cw, rfl, hW⟩ := h.waits.rows ok.wt
  obtain ⟨n, hn⟩ : ∃ n, s.2.length = n := ⟨_, rfl⟩
  rw [hn] at h ⊢
  by_cases hz : n = 0
  · have hF : FlushedR w M u v vs (.slice Aw n cw) s w := ⟨vs, _, by
      have e : flushG u v s = s := by unfold flushG; rw [if_pos (List.eq_nil_of_length_eq_zero (by omega))]
      rw [e]; exact h, World.grownBy.refl _ _, Or.inl rfl, Or.inl rfl⟩
    have HF := Lib.hid hF
    have c3 := h.c3
    have e1 : ((n : Int) == 0) = true := by simp [hz]
    clear h hW ok hF hz hn
    go_enter Tryz.func25, Tryz.ntmps25
    go_wp2_with fail
    first
    | (go_end0; exact ⟨rfl, HF.out⟩)
    | exact bodyPost_ret (results_none rfl _ _ _) rfl ⟨rfl, HF.out⟩
  · have e1 : ((n : Int) == 0) = false := by rw [beq_eq_false_iff_ne]; omega
    have hn16 : n ≤ 16 := by have := ok.wl; omega
    obtain ⟨tt, htt⟩ : ∃ t, totG s = t := ⟨_, rfl⟩
    have CT := Lib.hid (rtotal19_any w M u v vs (.slice Aw n cw) s tt h ok htt)
    have HR := Lib.hid h
    have HOK := Lib.hid ok
    have HWN := Lib.hid hW
    have HN := Lib.hid hn
    have HTT := Lib.hid htt
    have HA := Lib.hid ha
    have c3 := h.c3
    have hnz : 0 < n := by omega
    clear h hW ok hn htt ha hz
    go_enter Tryz.func25, Tryz.ntmps25
    go_wp2_with fail
    refine CT.out.mono ?_
    rintro e w1 ⟨rfl, b1⟩
    have HB1 := Lib.hid b1
    have d3 := cell_later b1 c3
    clear b1
    go_wp2_with fail
    go_loopg [3, 22] n (fun g rv jv wr => ∃ (i : Nat), i ≤ n ∧ g = n - i ∧ jv = .int .i64 i ∧ (i = 0 → rv = .slice none 0 0) ∧ OwnN wr w1.heap.size rv (sortI (s.2.take i)) ∧ Below w1.heap.size w1 wr)
    case atStart => exact ⟨0, Nat.zero_le _, rfl, rfl, fun _ => rfl, OwnN.nil _ _, Below.refl _ _⟩
    case round =>
      obtain ⟨i, hi, rfl, rfl, hr0, hown, hb2⟩ := hrel
      obtain ⟨w5, hw5⟩ : ∃ w5, w5 = wr := ⟨_, rfl⟩
      subst hw5
      have HR0 := Lib.hid hr0
      have HO := Lib.hid hown
      have HB := Lib.hid hb2
      have hbs := hb2.size
      clear hr0 hown hb2
      by_cases hlt : i < n
      · have kk : (i : Int) < n := by omega
        have hxk := List.getElem?_eq_getElem (l := s.2) (i := i) (by rw [HN.out]; exact hlt)
        generalize s.2[i]'(by rw [HN.out]; exact hlt) = x at hxk
        obtain ⟨ba, oa, rfl, hbl, c0⟩ := (HWN.out.call (HB1.out.trans (HB.out.mono HB1.out.size))).at_ i x hxk
        have HIX : Hid (I64 x) := Lib.hid (HWN.out.ok _ (List.mem_of_getElem? hxk))
        obtain ⟨x0, x1⟩ := HIX.out
        have HST := Lib.hid (sort_step hxk)
        obtain ⟨L, hL⟩ : ∃ L, sortI (s.2.take i) = L := ⟨_, rfl⟩
        have hLl : L.length = i := by rw [← hL, sortI_len, List.length_take]; have := HN.out; omega
        have hLo : ∀ y, y ∈ L → I64 y := fun y hy => by
          rw [← hL] at hy
          exact HWN.out.ok _ (List.mem_of_mem_take (sortI_mem.1 hy))
        rw [hL] at HO HST
        have HLL := Lib.hid hLl
        have HLO := Lib.hid hLo
        have bD : Below w5.heap.size w5 w5.drew := (Below.refl _ _).drew
        have BA := Lib.hid (bD.alloc (Nat.le_refl _) (.cells #[] 2))
        have BX := Lib.hid (bD.alloc (Nat.le_refl _) (.cells #[.int .i64 x] 2))
        have BAX := Lib.hid (BA.out.alloc BA.out.size (.cells #[.int .i64 x] 2))
        have BXA := Lib.hid (BX.out.alloc BX.out.size (.cells #[] 2))
        have z1 : (w5.drew.alloc (.cells #[] 2)).heap.size = w5.heap.size + 1 := by simp
        have z2 : (w5.drew.alloc (.cells #[.int .i64 x] 2)).heap.size = w5.heap.size + 1 := by simp
        have hEa : (w5.drew.alloc (.cells #[] 2)).heap[w5.heap.size]? = some (.cells #[] 2 (0, 0)) := new_cells0 w5.drew _
        have HEa := Lib.hid (own_emptyN (base := w5.heap.size) hEa (Nat.le_refl _))
        have HEb := Lib.hid (HEa.out.call ((Below.refl _ _).alloc (Nat.le_refl _) (.cells #[.int .i64 x] 2)))
        have hEc := new_cells0 (w5.drew.alloc (.cells #[.int .i64 x] 2)) (.cells #[] 2)
        rw [z2] at hEc
        have HEc := Lib.hid (own_emptyN (base := w5.heap.size) hEc (Nat.le_succ _))
        have hXb : ((w5.drew.alloc (.cells #[] 2)).alloc (.cells #[.int .i64 x] 2)).cell? ⟨w5.heap.size + 1, 0, none⟩ = some (.int .i64 x) := by
          have := Joins.cell_of_block (i := 0) (new_cells0 (w5.drew.alloc (.cells #[] 2)) (.cells #[.int .i64 x] 2))
          rw [z1] at this
          rw [this]; rfl
        have hXc : ((w5.drew.alloc (.cells #[.int .i64 x] 2)).alloc (.cells #[] 2)).cell? ⟨w5.heap.size, 0, none⟩ = some (.int .i64 x) := by
          have := Joins.cell_of_block (i := 0) (new_cells0 w5.drew (.cells #[.int .i64 x] 2))
          exact cell_later ((Below.refl _ _).alloc (Nat.le_refl _) _) (show (w5.drew.alloc (.cells #[.int .i64 x] 2)).cell? ⟨w5.heap.size, 0, none⟩ = some (.int .i64 x) by rw [show (⟨w5.heap.size, 0, none⟩ : Addr) = ⟨w5.drew.heap.size, 0, none⟩ from rfl, this]; rfl)
        have HXb := Lib.hid (fun w' (hg : ((w5.drew.alloc (.cells #[] 2)).alloc (.cells #[.int .i64 x] 2)).grownBy w' (Value.slice (some ⟨w5.heap.size, 0, none⟩) 0 0).ownBlock) => hg.cell hXb (fun e => absurd (Option.some.inj e) (by show ¬ (w5.heap.size + 1 = w5.heap.size); omega)))
        have HXc := Lib.hid (fun w' (hg : ((w5.drew.alloc (.cells #[.int .i64 x] 2)).alloc (.cells #[] 2)).grownBy w' (Value.slice (some ⟨w5.heap.size + 1, 0, none⟩) 0 0).ownBlock) => hg.cell hXc (fun e => absurd (Option.some.inj e) (by show ¬ (w5.heap.size = w5.heap.size + 1); omega)))
        clear hL hLl hLo bD z1 z2 hEa hEc hXb hXc hxk
        by_cases i0 : i = 0
        · obtain rfl := HR0.out i0
          have hLn : L = [] := List.eq_nil_of_length_eq_zero (by rw [HLL.out]; exact i0)
          have HINS : Hid (insI x L = ([] ++ [x]) ++ []) := Lib.hid (by rw [hLn]; rfl)
          have HL1 : Hid (([] : List Int).length = 0) := Lib.hid rfl
          have HL2 : Hid (([] : List Int).length = 0) := Lib.hid rfl
          have HN1 : Hid (([] : List Int).length + 0 ≤ 100000) := Lib.hid (by decide)
          have HN2 : Hid (([] : List Int).length + 1 ≤ 100000) := Lib.hid (by decide)
          have HN3 : Hid (([] ++ [x] : List Int).length + 0 ≤ 100000) := Lib.hid (by simp)
          have HI0 := Lib.hid i0
          clear hLn HR0 i0
          go_wp2_with fail
          go_loopg [6] 0 (fun g kv wr => kv = .int .i64 0 ∧ g = 0 ∧ w5 = wr)
          case atStart => exact ⟨rfl, rfl, rfl⟩
          case round =>
            obtain ⟨rfl, rfl, rfl⟩ := hrel
            go_wp2_with fail
            go_region_law (first
              | (refine step_append_nums rfl (.tmp 40) (.tmp 43) rfl w5.heap.size _ [] none 0 0 ([]) rfl (by first | exact HEa.out | exact HEb.out | exact HEc.out) rfl HL1.out (Nums.nil _ _) HN1.out (by first | exact BA.out.size | exact BAX.out.size | exact BXA.out.size) ?_; intro v6 w6 hown6 hg6; have HO6 := Lib.hid hown6; have HB6 : Hid (Below w5.heap.size w5 w6) := Lib.hid (by first | exact HEa.out.below BA.out hg6 BA.out.size | exact HEb.out.below BAX.out hg6 BAX.out.size | exact HEc.out.below BXA.out hg6 BXA.out.size); first | (have HX6 := Lib.hid (HXb.out _ hg6)) | (have HX6 := Lib.hid (HXc.out _ hg6)) | skip; clear hown6 hg6)
              | (refine step_append_nums rfl (.tmp 44) (.tmp 46) rfl w5.heap.size _ ([]) _ 1 1 [x] rfl (by first | exact HO6.out | exact HO6.out.call ((Below.refl _ _).alloc (Nat.le_refl _) _)) rfl rfl (by first | exact one_num HIX.out HX6.out | exact one_num HIX.out (by go_simp)) HN2.out (by first | exact HB6.out.size | exact (HB6.out.alloc HB6.out.size _).size) ?_; intro v7 w7 hown7 hg7; have HO7 := Lib.hid hown7; have HB7 : Hid (Below w5.heap.size w5 w7) := Lib.hid (by first | exact HO6.out.below HB6.out hg7 HB6.out.size | exact (HO6.out.call ((Below.refl _ _).alloc (Nat.le_refl _) _)).below (HB6.out.alloc HB6.out.size _) hg7 (HB6.out.alloc HB6.out.size _).size); clear hown7 hg7)
              | (refine step_append_nums rfl (.tmp 47) (.tmp 50) rfl w5.heap.size _ ([] ++ [x]) none 0 0 ([]) rfl HO7.out rfl HL2.out (Nums.nil _ _) HN3.out HB7.out.size ?_; intro v8 w8 hown8 hg8; have HO8 := Lib.hid hown8; have HB8 : Hid (Below w5.heap.size w5 w8) := Lib.hid (HO7.out.below HB7.out hg8 HB7.out.size); clear hown8 hg8))
            all_goals
              go_wp2_with fail
              go_roundg (n - (i + 1))
              case measure => omega
              case rel => exact ⟨i + 1, by omega, rfl, by go_num, fun e => absurd e (Nat.succ_ne_zero _), by rw [HST.out, HINS.out]; have := (HO8.out.mono hbs); simpa using this, HB.out.trans (HB8.out.mono hbs)⟩
        · obtain ⟨g0, off, cap, rfl, hrow, hg0, hg1, hck⟩ := HO.out.some_ HLO.out (by have := HLL.out; omega)
          rw [HLL.out] at hck
          rw [HLL.out]
          have HROW := Lib.hid hrow
          clear hrow i0 HR0
          go_wp2_with fail
          go_loopg [6] i (fun g kv wr => ∃ (q : Nat), q ≤ i ∧ g = i - q ∧ kv = .int .i64 q ∧ (∀ y, y ∈ L.take q → y ≤ x) ∧ w5 = wr)
          case atStart => exact ⟨0, Nat.zero_le _, rfl, rfl, fun y hy => by simp at hy, rfl⟩
          case round =>
            obtain ⟨q, hq, rfl, rfl, hle, rfl⟩ := hrel
            have HLE := Lib.hid hle
            clear hle
            have HL1 : Hid ((L.take q).length = q) := Lib.hid (by rw [List.length_take]; have := HLL.out; omega)
            have HL2 : Hid ((L.drop q).length = i - q) := Lib.hid (by rw [List.length_drop]; have := HLL.out; omega)
            have HN1 : Hid (([] : List Int).length + q ≤ 100000) := Lib.hid (by simp; omega)
            have HN2 : Hid ((L.take q).length + 1 ≤ 100000) := Lib.hid (by rw [HL1.out]; omega)
            have HN3 : Hid ((L.take q ++ [x]).length + (i - q) ≤ 100000) := Lib.hid (by rw [List.length_append, HL1.out]; simp; omega)
            have p1 : (q : Int) ≤ i := by omega
            have p2 : (q : Int) ≤ cap := by omega
            have p3 : q ≤ cap := by omega
            have p4 : (i : Int) ≤ cap := by omega
            by_cases hqi : q < i
            · have q1 : (q : Int) < i := by omega
              have p5 : ¬ cap = q := by omega
              have hyk := List.getElem?_eq_getElem (l := L) (i := q) (by rw [HLL.out]; exact hqi)
              generalize L[q]'(by rw [HLL.out]; exact hqi) = y at hyk
              obtain ⟨bb, ob, e, _, y0⟩ := HROW.out.at_ q y hyk
              obtain ⟨rfl, rfl, _⟩ := Addr.mk.inj (Option.some.inj e)
              have HYK := Lib.hid hyk
              clear hyk e
              by_cases hyx : y ≤ x
              · have f1 : decide (y ≤ x) = true := decide_eq_true hyx
                have HLN : Hid (∀ z, z ∈ L.take (q + 1) → z ≤ x) := Lib.hid fun z hz => by
                  rw [snocS HYK.out] at hz
                  rcases List.mem_append.1 hz with h | h
                  · exact HLE.out z h
                  · rw [List.mem_singleton.1 h]; exact hyx
                go_wp2_with fail
                go_roundg (i - (q + 1))
                case measure => omega
                case rel => exact ⟨q + 1, by omega, rfl, by go_num, HLN.out, rfl⟩
              · have f1 : decide (y ≤ x) = false := decide_eq_false hyx
                have HINS : Hid (insI x L = (L.take q ++ [x]) ++ L.drop q) := Lib.hid (by rw [ins_at HLE.out (Or.inr ⟨y, HYK.out, by omega⟩)]; simp)
                clear HYK
                go_wp2_with fail
                go_region_law (first
                  | (refine step_append_nums rfl (.tmp 40) (.tmp 43) rfl w5.heap.size _ [] (some ⟨g0, off, none⟩) q cap (L.take q) rfl (by first | exact HEa.out | exact HEb.out | exact HEc.out) rfl HL1.out (by first | exact (HROW.out.call BA.out).take q | exact (HROW.out.call BAX.out).take q | exact (HROW.out.call BXA.out).take q) HN1.out (by first | exact BA.out.size | exact BAX.out.size | exact BXA.out.size) ?_; intro v6 w6 hown6 hg6; have HO6 := Lib.hid hown6; have HB6 : Hid (Below w5.heap.size w5 w6) := Lib.hid (by first | exact HEa.out.below BA.out hg6 BA.out.size | exact HEb.out.below BAX.out hg6 BAX.out.size | exact HEc.out.below BXA.out hg6 BXA.out.size); first | (have HX6 := Lib.hid (HXb.out _ hg6)) | (have HX6 := Lib.hid (HXc.out _ hg6)) | skip; clear hown6 hg6)
                  | (refine step_append_nums rfl (.tmp 44) (.tmp 46) rfl w5.heap.size _ (L.take q) _ 1 1 [x] rfl (by first | exact HO6.out | exact HO6.out.call ((Below.refl _ _).alloc (Nat.le_refl _) _)) rfl rfl (by first | exact one_num HIX.out HX6.out | exact one_num HIX.out (by go_simp)) HN2.out (by first | exact HB6.out.size | exact (HB6.out.alloc HB6.out.size _).size) ?_; intro v7 w7 hown7 hg7; have HO7 := Lib.hid hown7; have HB7 : Hid (Below w5.heap.size w5 w7) := Lib.hid (by first | exact HO6.out.below HB6.out hg7 HB6.out.size | exact (HO6.out.call ((Below.refl _ _).alloc (Nat.le_refl _) _)).below (HB6.out.alloc HB6.out.size _) hg7 (HB6.out.alloc HB6.out.size _).size); clear hown7 hg7)
                  | (refine step_append_nums rfl (.tmp 47) (.tmp 50) rfl w5.heap.size _ (L.take q ++ [x]) (some ⟨g0, off + q, none⟩) (i - q) (cap - q) (L.drop q) rfl HO7.out rfl HL2.out ((HROW.out.call HB7.out).drop q) HN3.out HB7.out.size ?_; intro v8 w8 hown8 hg8; have HO8 := Lib.hid hown8; have HB8 : Hid (Below w5.heap.size w5 w8) := Lib.hid (HO7.out.below HB7.out hg8 HB7.out.size); clear hown8 hg8))
                all_goals
                  go_wp2_with fail
                  go_roundg (n - (i + 1))
                  case measure => omega
                  case rel => exact ⟨i + 1, by omega, rfl, by go_num, fun e => absurd e (Nat.succ_ne_zero _), by rw [HST.out, HINS.out]; have := (HO8.out.mono hbs); simpa using this, HB.out.trans (HB8.out.mono hbs)⟩
            · obtain rfl : i = q := by omega
              have q1 : ¬ (i : Int) < i := by omega
              have HINS : Hid (insI x L = (L.take i ++ [x]) ++ L.drop i) := Lib.hid (by rw [ins_at HLE.out (Or.inl HLL.out.symm)]; simp)
              have HDR : Hid (L.drop i = []) := Lib.hid (List.drop_of_length_le (by rw [HLL.out]; exact Nat.le_refl _))
              have p6 : i - i = 0 := Nat.sub_self _
              rw [p6] at HL2 HN3
              clear p6
              by_cases p5 : cap = i
              · subst p5
                go_wp2_with fail
                go_region_law (first
                  | (refine step_append_nums rfl (.tmp 40) (.tmp 43) rfl w5.heap.size _ [] (some ⟨g0, off, none⟩) cap cap (L.take cap) rfl (by first | exact HEa.out | exact HEb.out | exact HEc.out) rfl HL1.out (by first | exact (HROW.out.call BA.out).take cap | exact (HROW.out.call BAX.out).take cap | exact (HROW.out.call BXA.out).take cap) HN1.out (by first | exact BA.out.size | exact BAX.out.size | exact BXA.out.size) ?_; intro v6 w6 hown6 hg6; have HO6 := Lib.hid hown6; have HB6 : Hid (Below w5.heap.size w5 w6) := Lib.hid (by first | exact HEa.out.below BA.out hg6 BA.out.size | exact HEb.out.below BAX.out hg6 BAX.out.size | exact HEc.out.below BXA.out hg6 BXA.out.size); first | (have HX6 := Lib.hid (HXb.out _ hg6)) | (have HX6 := Lib.hid (HXc.out _ hg6)) | skip; clear hown6 hg6)
                  | (refine step_append_nums rfl (.tmp 44) (.tmp 46) rfl w5.heap.size _ (L.take cap) _ 1 1 [x] rfl (by first | exact HO6.out | exact HO6.out.call ((Below.refl _ _).alloc (Nat.le_refl _) _)) rfl rfl (by first | exact one_num HIX.out HX6.out | exact one_num HIX.out (by go_simp)) HN2.out (by first | exact HB6.out.size | exact (HB6.out.alloc HB6.out.size _).size) ?_; intro v7 w7 hown7 hg7; have HO7 := Lib.hid hown7; have HB7 : Hid (Below w5.heap.size w5 w7) := Lib.hid (by first | exact HO6.out.below HB6.out hg7 HB6.out.size | exact (HO6.out.call ((Below.refl _ _).alloc (Nat.le_refl _) _)).below (HB6.out.alloc HB6.out.size _) hg7 (HB6.out.alloc HB6.out.size _).size); clear hown7 hg7)
                  | (refine step_append_nums rfl (.tmp 47) (.tmp 50) rfl w5.heap.size _ (L.take cap ++ [x]) (some ⟨g0, off, none⟩) 0 0 (L.drop cap) rfl HO7.out rfl HL2.out (by rw [HDR.out]; exact Nums.nil _ _) HN3.out HB7.out.size ?_; intro v8 w8 hown8 hg8; have HO8 := Lib.hid hown8; have HB8 : Hid (Below w5.heap.size w5 w8) := Lib.hid (HO7.out.below HB7.out hg8 HB7.out.size); clear hown8 hg8))
                all_goals
                  go_wp2_with fail
                  go_roundg (n - (cap + 1))
                  case measure => omega
                  case rel => exact ⟨cap + 1, by omega, rfl, by go_num, fun e => absurd e (Nat.succ_ne_zero _), by rw [HST.out, HINS.out]; have := (HO8.out.mono hbs); simpa using this, HB.out.trans (HB8.out.mono hbs)⟩
              · go_wp2_with fail
                go_region_law (first
                  | (refine step_append_nums rfl (.tmp 40) (.tmp 43) rfl w5.heap.size _ [] (some ⟨g0, off, none⟩) i cap (L.take i) rfl (by first | exact HEa.out | exact HEb.out | exact HEc.out) rfl HL1.out (by first | exact (HROW.out.call BA.out).take i | exact (HROW.out.call BAX.out).take i | exact (HROW.out.call BXA.out).take i) HN1.out (by first | exact BA.out.size | exact BAX.out.size | exact BXA.out.size) ?_; intro v6 w6 hown6 hg6; have HO6 := Lib.hid hown6; have HB6 : Hid (Below w5.heap.size w5 w6) := Lib.hid (by first | exact HEa.out.below BA.out hg6 BA.out.size | exact HEb.out.below BAX.out hg6 BAX.out.size | exact HEc.out.below BXA.out hg6 BXA.out.size); first | (have HX6 := Lib.hid (HXb.out _ hg6)) | (have HX6 := Lib.hid (HXc.out _ hg6)) | skip; clear hown6 hg6)
                  | (refine step_append_nums rfl (.tmp 44) (.tmp 46) rfl w5.heap.size _ (L.take i) _ 1 1 [x] rfl (by first | exact HO6.out | exact HO6.out.call ((Below.refl _ _).alloc (Nat.le_refl _) _)) rfl rfl (by first | exact one_num HIX.out HX6.out | exact one_num HIX.out (by go_simp)) HN2.out (by first | exact HB6.out.size | exact (HB6.out.alloc HB6.out.size _).size) ?_; intro v7 w7 hown7 hg7; have HO7 := Lib.hid hown7; have HB7 : Hid (Below w5.heap.size w5 w7) := Lib.hid (by first | exact HO6.out.below HB6.out hg7 HB6.out.size | exact (HO6.out.call ((Below.refl _ _).alloc (Nat.le_refl _) _)).below (HB6.out.alloc HB6.out.size _) hg7 (HB6.out.alloc HB6.out.size _).size); clear hown7 hg7)
                  | (refine step_append_nums rfl (.tmp 47) (.tmp 50) rfl w5.heap.size _ (L.take i ++ [x]) (some ⟨g0, off + i, none⟩) 0 (cap - i) (L.drop i) rfl HO7.out rfl HL2.out (by rw [HDR.out]; exact Nums.nil _ _) HN3.out HB7.out.size ?_; intro v8 w8 hown8 hg8; have HO8 := Lib.hid hown8; have HB8 : Hid (Below w5.heap.size w5 w8) := Lib.hid (HO7.out.below HB7.out hg8 HB7.out.size); clear hown8 hg8))
                all_goals
                  go_wp2_with fail
                  go_roundg (n - (i + 1))
                  case measure => omega
                  case rel => exact ⟨i + 1, by omega, rfl, by go_num, fun e => absurd e (Nat.succ_ne_zero _), by rw [HST.out, HINS.out]; have := (HO8.out.mono hbs); simpa using this, HB.out.trans (HB8.out.mono hbs)⟩
      · obtain rfl : i = n := by omega
        have kk : ¬ (i : Int) < i := by omega
        have hall : s.2.take i = s.2 := List.take_of_length_le (by rw [HN.out]; exact Nat.le_refl _)
        rw [hall] at HO
        clear hall hlt HR0
        obtain ⟨T, hT⟩ : ∃ T, sortI s.2 = T := ⟨_, rfl⟩
        rw [hT] at HO
        have hTl : T.length = i := by rw [← hT, sortI_len, HN.out]
        have hTo : ∀ y, y ∈ T → I64 y := fun y hy => by rw [← hT] at hy; exact HOK.out.wt _ (sortI_mem.1 hy)
        have HTE := Lib.hid hT
        have HTL := Lib.hid hTl
        have HTO := Lib.hid hTo
        obtain ⟨g0, off, cap, rfl, hrow, hg0, hg1, hck⟩ := HO.out.some_ hTo (by omega)
        rw [hTl] at hck
        rw [hTl]
        have HROW := Lib.hid hrow
        have HB5 := Lib.hid (HB1.out.trans (HB.out.mono HB1.out.size))
        have HR5 := Lib.hid (HR.out.call HB5.out)
        have hMw := HR.out.lt
        have hg0w : w.heap.size ≤ g0 := Nat.le_trans HB1.out.size hg0
        have hcanT := fun j => foldS_can (L := T.take j) HOK.out.can
        have HCAN := Lib.hid hcanT
        have htb : totS s.1 + (i : Int) ≤ 4611686018427387904 := by have := HOK.out.tot; unfold totG at this; rw [HN.out] at this; exact this
        have HTB := Lib.hid htb
        have HSX : Hid (∀ j, ∀ q, q ∈ (T.take j).foldl insS s.1 → I64 q.x) := Lib.hid fun j => foldS_x (fun q hq => (HOK.out.sp q hq).1) fun y hy => HTO.out y (List.mem_of_mem_take hy)
        clear hT hTl hTo hrow hcanT HO
        go_wp2_with fail
        go_loopw [55] (fun jv wr => ∃ (j : Nat) (vj : Value), j ≤ i ∧ jv = .int .i64 j ∧ RefGw wr M u v vj (.slice Aw i cw) ((T.take j).foldl insS s.1, s.2) ∧ w5.grownBy wr (some M) ∧ (vj = vs ∨ ∀ g, vj.ownBlock = some g → w.heap.size ≤ g)) (fun jv _ => i - (intOf jv).toNat)
        case atStart => exact ⟨0, vs, Nat.zero_le _, rfl, HR5.out, World.grownBy.refl _ _, Or.inl rfl⟩
        case round =>
          obtain ⟨j, vj, hj, rfl, hrj, hgj, hvj⟩ := hrel
          have HRJ := Lib.hid hrj
          have HGJ := Lib.hid hgj
          have HVJ := Lib.hid hvj
          have hzj := hgj.size
          have r2 := hrj.c2
          clear hrj hgj hvj
          obtain ⟨hc1, hc2⟩ := HCAN.out j
          have hjl : (T.take j).length = j := by rw [List.length_take]; have := HTL.out; omega
          rw [hjl] at hc1 hc2
          have hsl := HOK.out.sl
          by_cases hlt : j < i
          · have kj : (j : Int) < i := by omega
            have hxk := List.getElem?_eq_getElem (l := T) (i := j) (by rw [HTL.out]; exact hlt)
            generalize T[j]'(by rw [HTL.out]; exact hlt) = x at hxk
            obtain ⟨ba, oa, e, _, t0⟩ := (HROW.out.grown HGJ.out (fun a ea => by cases ea; intro e; have := Option.some.inj e; have e2 : g0 = M := this; omega)).at_ j x hxk
            obtain ⟨rfl, rfl, _⟩ := Addr.mk.inj (Option.some.inj e)
            have HIX := Lib.hid (HTO.out _ (List.mem_of_getElem? hxk))
            have CI := Lib.hid (rins18_any wr 0 vj _ _ x HRJ.out.spots (okS_of hc1 (by have := HTB.out; omega) (HSX.out j)) (by rw [hc2]; omega) hc1 (by have := HTB.out; omega) HIX.out)
            have HSTP := Lib.hid (foldS_step (S := s.1) hxk)
            clear hc1 hc2 hjl hxk e
            go_wp2_with fail
            refine CI.out.mono ?_
            rintro e w7 ⟨v7, rfl, ho7, b7⟩
            obtain ⟨A7, k7, l7, rfl⟩ : ∃ A7 k7 l7, v7 = .slice A7 l7 k7 := by obtain ⟨a, b, e⟩ := ho7.form; exact ⟨a, b, _, e⟩
            have HR7 := Lib.hid (HRJ.out.call b7)
            have HB7 := Lib.hid b7
            have HN7 : Hid ((Value.slice A7 l7 k7).ownBlock ≠ some M) := Lib.hid fun e => by have := (ho7.lt M e).1; have := HRJ.out.lt; omega
            have HR8 := Lib.hid (HR7.out.put2 ho7 HN7.out (fun g hg e => by have := (ho7.lt g e).1; have := (HRJ.out.waits.lt g hg).2; omega))
            have HF8 : Hid (∀ g, (Value.slice A7 l7 k7).ownBlock = some g → w.heap.size ≤ g) := Lib.hid fun g hg => by have := (ho7.lt g hg).1; have := HB5.out.size; omega
            have s2 := HR7.out.c2
            have s3 := HR7.out.f0 2
            clear ho7 b7 r2
            go_wp2_with fail
            go_roundw
            case rel => exact ⟨j + 1, _, by omega, by go_num, by rw [HSTP.out]; exact HR8.out, grown_transG (grown_callG HGJ.out HB7.out) (grown_putG _ _ _ _), Or.inr HF8.out⟩
            case measure => simp [intOf]; omega
          · obtain rfl : j = i := by omega
            have kj : ¬ (j : Int) < j := by omega
            have htk : T.take j = T := List.take_of_length_le (by rw [HTL.out]; exact Nat.le_refl _)
            rw [htk] at HRJ hc1 hc2
            obtain ⟨F, hF⟩ : ∃ F, T.foldl insS s.1 = F := ⟨_, rfl⟩
            have hsx := HSX.out j
            rw [htk] at hsx
            rw [hF] at HRJ hc1 hc2 hsx
            have hok := okS_of hc1 (by have := HTB.out; omega) hsx
            have HR9 := Lib.hid (HRJ.out.put3 (OwnN.nil _ 0) (by intro e; cases e) (fun g hg => by cases hg))
            have s3 := HRJ.out.c3
            have s4 := HRJ.out.f0 3
            have htw : Word tt := by rw [← HTT.out]; unfold Word totG; rw [HN.out]; have := HOK.out.can.le; have := HTB.out; omega
            have htt2 : tt = totS s.1 + (j : Int) := by rw [← HTT.out]; unfold totG; rw [HN.out]
            obtain ⟨lm, hlm⟩ : ∃ m, limG u v tt = m := ⟨_, rfl⟩
            have hlw := HA.out.limw htw.1 htw.2
            have CL := Lib.hid (fun W => rlimit19_any W u v tt HA.out htw)
            rw [hlm] at CL hlw
            have CS := Lib.hid (fun (W : World) (hW : OwnSp W 0 vj F) => rsqz18_own W 0 vj F _ lm hW hok (by omega) hc1 (by have := HTB.out; omega) ⟨by omega, hlw.2⟩)
            have HFE : Hid (flushG u v s = (sqzS lm F, [])) := Lib.hid (by
              unfold flushG
              rw [if_neg (fun e => by rw [e] at HN; have := HN.out; simp at this; omega), HTT.out, hlm, HTE.out, hF])
            clear hc1 hc2 hjl htk hF hsx hok htw htt2 hlm hlw hsl
            obtain ⟨w9, hw9⟩ : ∃ w9, wr.setCell ⟨M, 3, none⟩ (.slice none 0 0) = w9 := ⟨_, rfl⟩
            rw [hw9] at HR9
            have HG9 : Hid (w.grownBy w9 (some M)) := Lib.hid (by rw [← hw9]; exact grown_transG (grown_transG (grown_callG (World.grownBy.refl _ _) HB5.out) HGJ.out) (grown_putG _ _ _ _))
            go_wp2_with fail
            have q0 := HR9.out.c0
            have q1 := HR9.out.c1
            have q2 := HR9.out.c2
            go_region_with (first
              | (go_at_call 28; refine (CL.out _).mono ?_; rintro e wA ⟨rfl, hbA⟩; have hRA : RefGw wA M u v vj (.slice none 0 0) (F, []) := (by first | exact HR9.out.call hbA | exact HR9.out.call ((Below.refl _ _).drew.trans hbA)); have a2 := hRA.c2)
              | (go_at_call 26; refine (CS.out _ hRA.spots).mono ?_; rintro e wB ⟨vB, rfl, hoB, hbB⟩; obtain ⟨AB, kB, lB, rfl⟩ : ∃ AB kB lB, vB = .slice AB lB kB := (by obtain ⟨a, b, e⟩ := hoB.form; exact ⟨a, b, _, e⟩); have hRB := hRA.call hbB; have b2 := hRB.c2; have b3 := hRB.f0 2))
            all_goals
              have hNB : (Value.slice AB lB kB).ownBlock ≠ some M := fun e => by have := (hoB.lt M e).1; have := hRA.lt; omega
              have hRC := hRB.put2 hoB hNB (fun g hg => by cases hg)
              rw [← HFE.out] at hRC
              have hga : w9.grownBy wA (some M) := by first | exact grown_callG (World.grownBy.refl _ _) hbA | exact grown_callG (World.grownBy.refl _ _) ((Below.refl _ _).drew.trans hbA)
              have hFin : FlushedR w M u v vs (.slice Aw j cw) s (wB.setCell ⟨M, 2, none⟩ (.slice AB lB kB)) := ⟨_, _, hRC, grown_transG (grown_transG (grown_transG HG9.out hga) (grown_callG (World.grownBy.refl _ _) hbB)) (grown_putG _ _ _ _), Or.inr fun g hg => by have := (hoB.lt g hg).1; have := hga.size; have := HG9.out.size; omega, Or.inr rfl⟩
              have HF := Lib.hid hFin
              clear hFin hRC hga
              go_wp2_with fail
              first
              | (go_end0; exact ⟨rfl, HF.out⟩)
              | exact bodyPost_ret (results_none rfl _ _ _) rfl ⟨rfl, HF.out⟩
end Go.Proofs.YtfmlkohijkalbaaGreat

/-
  Things that keep blocks of their own: what a call on one leaves alone.
-/
namespace Go.Proofs.YtfmlkohijkalbaaGreat
set_option linter.unusedVariables false
set_option linter.unusedSimpArgs false
open Go.RowKit

/-- All blocks but those of S are as they were. -/
structure Keeps (S : Nat → Prop) (w w' : World) : Prop where
  os : w'.os = w.os
  tape : w'.tape = w.tape
  output : w'.output = w.output
  size : w.heap.size ≤ w'.heap.size
  block : ∀ k, k < w.heap.size → ¬ S k → w'.heap[k]? = w.heap[k]?
theorem Keeps.refl (S : Nat → Prop) (w : World) : Keeps S w w := ⟨rfl, rfl, rfl, Nat.le_refl _, fun _ _ _ => rfl⟩
theorem Keeps.of_below {S : Nat → Prop} {w w' : World} (h : Below w.heap.size w w') : Keeps S w w' := ⟨h.os, h.tape, h.output, h.size, fun k hk _ => h.block k hk⟩
/-- Behind a call on a thing whose blocks are all new since a: all that a had is as it was. -/
theorem Keeps.below {S : Nat → Prop} {n : Nat} {a w w' : World} (h : Below n a w) (k : Keeps S w w') (hn : n ≤ w.heap.size) (hS : ∀ i, S i → n ≤ i) : Below n a w' :=
  ⟨k.os.trans h.os, k.tape.trans h.tape, k.output.trans h.output, Nat.le_trans h.size k.size, fun i hi => (k.block i (by omega) (fun hs => by have := hS i hs; omega)).trans (h.block i hi)⟩
theorem Keeps.cell {S : Nat → Prop} {w w' : World} (k : Keeps S w w') {b o : Nat} {v : Value} (hb : ¬ S b) (h : w.cell? ⟨b, o, none⟩ = some v) : w'.cell? ⟨b, o, none⟩ = some v := by
  have hlt := World.block_lt_of_cell? (a := ⟨b, o, none⟩) w h
  exact (World.cell?_of_block (a := ⟨b, o, none⟩) (k.block b hlt hb)).trans h
end Go.Proofs.YtfmlkohijkalbaaGreat

/-
  The reference of layer 19: Put.
-/
namespace Go.Proofs.YtfmlkohijkalbaaGreat
set_option linter.unusedVariables false
set_option linter.unusedSimpArgs false
open Go.RowKit

theorem tot_can {n : Int} {S : List SpotV} (h : SpotsP 0 n S) : totS S = n := by
  cases S with
  | nil =>
    have : (0 : Int) = n := h
    rw [totS_nil]; exact this
  | cons s r => exact h.tot (by simp)
/-- How many spots and values that wait there are. -/
def lenG (s : GwV) : Nat := s.1.length + s.2.length
theorem flush_facts {u v : Int} {s : GwV} (hc : SpotsP 0 (totS s.1) s.1) : SpotsP 0 (totG s) (flushG u v s).1 ∨ flushG u v s = s := by
  unfold flushG
  by_cases c : s.2 = []
  · exact Or.inr (by rw [if_pos c])
  · rw [if_neg c]
    have h := (foldS_can (L := sortI s.2) hc).1
    rw [sortI_len] at h
    exact Or.inl h.sqz
theorem flush_ok {u v : Int} {s : GwV} (h : OkGw s) : OkGw (flushG u v s) ∧ totG (flushG u v s) = totG s ∧ lenG (flushG u v s) ≤ lenG s ∧ (flushG u v s).2 = [] := by
  by_cases c : s.2 = []
  · have e : flushG u v s = s := by unfold flushG; rw [if_pos c]
    rw [e]; exact ⟨h, rfl, Nat.le_refl _, c⟩
  · have e : flushG u v s = (sqzS (limG u v (totG s)) ((sortI s.2).foldl insS s.1), []) := by unfold flushG; rw [if_neg c]
    obtain ⟨f1, f2⟩ := foldS_can (L := sortI s.2) h.can
    rw [sortI_len] at f1 f2
    have hq := f1.sqz (lim := limG u v (totG s))
    have hx := foldS_x (L := sortI s.2) (P := I64) (fun q hq => (h.sp q hq).1) (fun y hy => h.wt y (sortI_mem.1 hy))
    have htb := h.tot
    have hsub := sqzS_sub (limG u v (totG s)) ((sortI s.2).foldl insS s.1)
    have hle := hsub.length_le
    rw [f2] at hle
    have hsp := okS_of hq (by unfold totG at htb; omega) (fun q hq' => hx q (hsub.subset hq'))
    rw [e]
    have et : totS (sqzS (limG u v (totG s)) ((sortI s.2).foldl insS s.1)) = totS s.1 + (s.2.length : Int) := tot_can hq
    generalize sqzS (limG u v (totG s)) ((sortI s.2).foldl insS s.1) = Q at *
    have hsl := h.sl
    have hwl := h.wl
    refine ⟨⟨hsp, fun x hx => (by cases hx), by rw [et]; exact hq, ?_, by show ([] : List Int).length ≤ 16; decide, ?_⟩, ?_, ?_, rfl⟩
    · show Q.length + ([] : List Int).length ≤ 5000
      simp; omega
    · show totS Q + (([] : List Int).length : Int) ≤ _
      rw [et]; unfold totG at htb; simpa using htb
    · show totS Q + (([] : List Int).length : Int) = totS s.1 + (s.2.length : Int)
      rw [et]; simp
    · show Q.length + ([] : List Int).length ≤ s.1.length + s.2.length
      simpa using hle
theorem more_ok {s : GwV} {x : Int} (h : OkGw s) (hx : I64 x) (hf : s.2.length < 16) (hl : lenG s + 1 ≤ 5000) (ht : totG s + 1 ≤ 4611686018427387904) : OkGw (s.1, s.2 ++ [x]) := by
  unfold lenG at hl
  refine ⟨h.sp, fun y hy => ?_, h.can, ?_, ?_, ?_⟩
  · rcases List.mem_append.1 hy with h1 | h1
    · exact h.wt y h1
    · rw [List.mem_singleton.1 h1]; exact hx
  · show s.1.length + (s.2 ++ [x]).length ≤ 5000
    rw [List.length_append]; simp; omega
  · show (s.2 ++ [x]).length ≤ 16
    rw [List.length_append]; simp; omega
  · unfold totG at ht ⊢
    simp; omega
/-- Behind one more: its bounds. -/
theorem put1_ok {u v : Int} {s : GwV} {x : Int} (h : OkGw s) (hx : I64 x) (hf : s.2.length < 16) (hl : lenG s + 1 ≤ 5000) (ht : totG s + 1 ≤ 4611686018427387904) :
    OkGw (put1G u v s x) ∧ totG (put1G u v s x) = totG s + 1 ∧ lenG (put1G u v s x) ≤ lenG s + 1 ∧ (put1G u v s x).2.length < 16 := by
  have hm := more_ok h hx hf hl ht
  have et : totG (s.1, s.2 ++ [x]) = totG s + 1 := by unfold totG; simp; omega
  have el : lenG (s.1, s.2 ++ [x]) = lenG s + 1 := by unfold lenG; simp; omega
  unfold put1G
  by_cases c : s.2.length + 1 = 16
  · rw [if_pos c]
    obtain ⟨h1, h2, h3, h4⟩ := flush_ok (u := u) (v := v) hm
    exact ⟨h1, by rw [h2, et], by rw [el] at h3; exact h3, by rw [h4]; decide⟩
  · rw [if_neg c]
    exact ⟨hm, et, by rw [el]; exact Nat.le_refl _, by show (s.2 ++ [x]).length < 16; rw [List.length_append]; simp; omega⟩
theorem put_ok {u v : Int} {s : GwV} {x : Int} (h : OkGw s) (hx : I64 x) (hf : s.2.length < 16) : ∀ n : Nat, lenG s + n ≤ 5000 → totG s + n ≤ 4611686018427387904 →
    OkGw (putG u v s x n) ∧ totG (putG u v s x n) = totG s + n ∧ lenG (putG u v s x n) ≤ lenG s + n ∧ (putG u v s x n).2.length < 16
  | 0, _, _ => ⟨h, by show totG s = totG s + ((0 : Nat) : Int); simp, Nat.le_refl _, hf⟩
  | n + 1, hl, ht => by
    obtain ⟨h1, h2, h3, h4⟩ := put_ok (u := u) (v := v) h hx hf n (by omega) (by omega)
    obtain ⟨k1, k2, k3, k4⟩ := put1_ok (u := u) (v := v) h1 hx h4 (by omega) (by omega)
    exact ⟨k1, by show totG (put1G u v (putG u v s x n) x) = _; omega, by show lenG (put1G u v (putG u v s x n) x) ≤ _; omega, k4⟩

/-- A sketch's blocks. -/
def rgS (M : Nat) (vs vw : Value) : Nat → Prop := fun k => k = M ∨ vs.ownBlock = some k ∨ vw.ownBlock = some k
theorem RefGw.keep {w w' : World} {M : Nat} {u v : Int} {vs vw : Value} {s : GwV} {S0 : Nat → Prop} (h : RefGw w M u v vs vw s) (hk : Keeps S0 w w') (hS : ∀ k, rgS M vs vw k → ¬ S0 k) : RefGw w' M u v vs vw s := by
  have hM := hS M (Or.inl rfl)
  have hb := hk.block M h.lt hM
  have hc : ∀ o x, w.cell? ⟨M, o, none⟩ = some x → w'.cell? ⟨M, o, none⟩ = some x := fun o x hx => hk.cell hM hx
  refine ⟨hc _ _ h.c0, hc _ _ h.c1, hc _ _ h.c2, hc _ _ h.c3, fun o => (World.frozen?_of_block (a := ⟨M, o, none⟩) hb).trans (h.f0 o), ⟨h.spots.1, ?_⟩, ⟨h.waits.1, ?_⟩, h.ns, h.nw, h.ap⟩
  · rcases h.spots.2 with hn | ⟨g, cap, cur, rfl, hb, hgg, rest⟩
    · exact .inl hn
    · exact .inr ⟨g, cap, cur, rfl, hb, (hk.block g (lt_of_block hgg) (hS g (Or.inr (Or.inl rfl)))).trans hgg, rest⟩
  · rcases h.waits.2 with hn | ⟨g, cap, cur, rfl, hb, hgg, rest⟩
    · exact .inl hn
    · exact .inr ⟨g, cap, cur, rfl, hb, (hk.block g (lt_of_block hgg) (hS g (Or.inr (Or.inr rfl)))).trans hgg, rest⟩
theorem keeps_then {S T : Nat → Prop} {w w1 w2 : World} (h : Keeps S w w1) (h' : Keeps T w1 w2) (hS : ∀ k, k < w.heap.size → T k → S k) : Keeps S w w2 :=
  ⟨h'.os.trans h.os, h'.tape.trans h.tape, h'.output.trans h.output, Nat.le_trans h.size h'.size, fun k hk hn => (h'.block k (Nat.lt_of_lt_of_le hk h.size) (fun x => hn (hS k hk x))).trans (h.block k hk hn)⟩
theorem keeps_grown {w w' : World} {M : Nat} {S : Nat → Prop} (h : w.grownBy w' (some M)) (hS : S M) : Keeps S w w' :=
  ⟨h.os, h.tape, h.output, h.size, fun k hk hn => h.block k hk (fun e => hn (by rw [Option.some.inj e]; exact hS))⟩
theorem RefGw.blocks {w : World} {M : Nat} {u v : Int} {vs vw : Value} {s : GwV} (h : RefGw w M u v vs vw s) : ∀ k, rgS M vs vw k → k < w.heap.size := by
  rintro k (rfl | e | e)
  · exact h.lt
  · exact (h.spots.lt k e).2
  · exact (h.waits.lt k e).2
/-- One more waits: behind the append, and behind the store. -/
theorem RefGw.grow {W w2 : World} {M n cw cap' g' : Nat} {Aw : Option Addr} {u v x : Int} {vs : Value} {t : GwV} (h : RefGw W M u v vs (.slice Aw n cw) t) (hg : W.grownBy w2 (Value.slice Aw n cw).ownBlock) (ho : OwnN w2 0 (.slice (some ⟨g', 0, none⟩) (n + 1) cap') (t.2 ++ [x])) (hg' : (Value.slice Aw n cw).ownBlock = some g' ∨ g' = W.heap.size) :
    (∃ y, w2.cell? ⟨M, 3, none⟩ = some y) ∧ w2.frozen? ⟨M, 3, none⟩ = false ∧ RefGw (w2.setCell ⟨M, 3, none⟩ (.slice (some ⟨g', 0, none⟩) (n + 1) cap')) M u v vs (.slice (some ⟨g', 0, none⟩) (n + 1) cap') (t.1, t.2 ++ [x]) := by
  have hne : some M ≠ (Value.slice Aw n cw).ownBlock := fun e => h.nw e.symm
  have hgM : g' ≠ M := by
    rcases hg' with e | e
    · intro e2; rw [e2] at e; exact h.nw e
    · have := h.lt; omega
  have hsp : ∀ k, vs.ownBlock = some k → k ≠ g' := fun k hk e => by
    subst e
    rcases hg' with e | e
    · exact h.ap _ e hk
    · have := (h.spots.lt k hk).2; omega
  have c0 := hg.cell h.c0 hne
  have c1 := hg.cell h.c1 hne
  have c2 := hg.cell h.c2 hne
  have c3 := hg.cell h.c3 hne
  have hf : ∀ o, w2.frozen? ⟨M, o, none⟩ = false := fun o => (World.frozen?_of_block (a := ⟨M, o, none⟩) (hg.block M h.lt hne)).trans (h.f0 o)
  have hs2 : OwnSp w2 0 vs t.1 := h.spots.other hg (by
    cases hv : vs.ownBlock with
    | none => exact Or.inl rfl
    | some k => exact Or.inr fun e => h.ap k e.symm hv)
  refine ⟨⟨_, c3⟩, hf 3, ⟨by rw [World.cell?_setCell_other _ _ _ _ (two_off (by omega))]; exact c0, by rw [World.cell?_setCell_other _ _ _ _ (two_off (by omega))]; exact c1, by rw [World.cell?_setCell_other _ _ _ _ (two_off (by omega))]; exact c2, World.cell?_setCell_same _ _ _ c3,
    fun o => by rw [World.frozen?_setCell]; exact hf o, hs2.other (grown_putG _ _ _ _) (Or.inr h.ns), ho.other (grown_putG _ _ _ _) (Or.inr fun e => hgM (Option.some.inj e)), h.ns, fun e => hgM (Option.some.inj e), fun g hgg e => hsp g e (Option.some.inj hgg).symm⟩⟩
/-- What Put leaves. -/
structure PutR (w : World) (M : Nat) (u v : Int) (vs vw : Value) (s' : GwV) (w' : World) (vs' vw' : Value) : Prop where
  ref : RefGw w' M u v vs' vw' s'
  keeps : Keeps (rgS M vs vw) w w'
  blocks : ∀ k, rgS M vs' vw' k → rgS M vs vw k ∨ w.heap.size ≤ k

set_option maxRecDepth 100000 in
set_option maxHeartbeats 8000000 in
theorem rput19_any (w : World) (M : Nat) (u v : Int) (vs vw : Value) (s : GwV) (x : Int) (c : Nat) (h : RefGw w M u v vs vw s) (ok : OkGw s) (hf : s.2.length < 16) (ha : GoodA u v) (hx : I64 x) (hc : c ≤ 2000) (hl : lenG s + c ≤ 5000) (ht : totG s + c ≤ 4611686018427387904) :
    Calls Tryz.prog 19 #[.pointer (some ⟨M, 0, none⟩), .int .i64 x, .int .i64 c] w fun e w' => e = .returned (.tuple #[]) ∧ ∃ vs' vw', PutR w M u v vs vw (putG u v s x c) w' vs' vw' := by
  have HR := Lib.hid h
  have HOK := Lib.hid ok
  have HF := Lib.hid hf
  have HA := Lib.hid ha
  have HX := Lib.hid hx
  have HL := Lib.hid hl
  have HT := Lib.hid ht
  obtain ⟨x0, x1⟩ := hx
  clear h ok hf ha hl ht
  go_enter Tryz.func19, Tryz.ntmps19
  go_wp2_with fail
  go_loopw [6] (fun iv wr => ∃ (i : Nat) (vi wi : Value), i ≤ c ∧ iv = .int .i64 i ∧ PutR w M u v vs vw (putG u v s x i) wr vi wi) (fun iv _ => c - (intOf iv).toNat)
  case atStart => exact ⟨0, vs, vw, Nat.zero_le _, rfl, HR.out, Keeps.refl _ _, fun k hk => Or.inl hk⟩
  case round =>
    obtain ⟨i, vi, wi, hi, rfl, hp⟩ := hrel
    have HP := Lib.hid hp
    clear hp
    by_cases hlt : i < c
    · have kk : (i : Int) < c := by omega
      obtain ⟨k1, k2, k3, k4⟩ := put_ok (u := u) (v := v) HOK.out HX.out HF.out i (by have := HL.out; omega) (by have := HT.out; omega)
      obtain ⟨t, ht⟩ : ∃ t, putG u v s x i = t := ⟨_, rfl⟩
      have hnx : putG u v s x (i + 1) = put1G u v t x := by rw [← ht]; rfl
      rw [ht] at k1 k2 k3 k4
      have HPT := Lib.hid HP.out
      rw [ht] at HPT
      have HNX := Lib.hid hnx
      have hmore := more_ok k1 HX.out k4 (by have := HL.out; omega) (by have := HT.out; omega)
      have HMO := Lib.hid hmore
      obtain ⟨Aw, cw, hform⟩ := HPT.out.ref.waits.form
      obtain ⟨n, hn⟩ : ∃ n, t.2.length = n := ⟨_, rfl⟩
      rw [hn] at hform k4
      subst hform
      have HN := Lib.hid hn
      have c3 := HPT.out.ref.c3
      have HO := Lib.hid HPT.out.ref.waits
      clear ht hnx hmore hn k1 k2 k3
      go_wp2_with (at_builtin; refine wpList_append_num rfl _ _ rfl 0 _ _ n HN.out wr.heap.size x rfl (HO.out.alloc _) rfl ?c1 ?c4 (Nat.zero_le _) ?_)
      case c1 => go_simp
      case c4 => omega
      intro g' cap' w2 hown hgr hg'
      have HAL : Hid (Below wr.heap.size wr (wr.alloc (.cells #[.int .i64 x] 2))) := Lib.hid ((Below.refl _ _).alloc (Nat.le_refl _) _)
      have HR1 := Lib.hid (HPT.out.ref.call HAL.out)
      obtain ⟨⟨y3, s3⟩, s4, hrn⟩ := HR1.out.grow hgr hown (by rcases hg' with e | e; exact Or.inl e; exact Or.inr (by simp; exact e))
      have HRN := Lib.hid hrn
      have hk1 : Keeps (rgS M vs vw) w (w2.setCell ⟨M, 3, none⟩ (.slice (some ⟨g', 0, none⟩) (n + 1) cap')) := by
        refine keeps_then (T := rgS M vi (.slice Aw n cw)) HPT.out.keeps ?_ (fun k hk hT => by
          rcases HPT.out.blocks k hT with h1 | h1
          · exact h1
          · omega)
        refine keeps_then (T := rgS M vi (.slice Aw n cw)) (Keeps.of_below HAL.out) ?_ (fun k hk hT => hT)
        refine keeps_then (w1 := w2) (T := rgS M vi (.slice Aw n cw)) ⟨hgr.os, hgr.tape, hgr.output, hgr.size, fun k hk hn => hgr.block k hk (fun e => hn (Or.inr (Or.inr e.symm)))⟩ (keeps_grown (grown_putG _ _ _ _) (Or.inl rfl)) (fun k hk hT => hT)
      have hb1 : ∀ k, rgS M vi (.slice (some ⟨g', 0, none⟩) (n + 1) cap') k → rgS M vs vw k ∨ w.heap.size ≤ k := by
        have hsz := HPT.out.keeps.size
        have hsa := HAL.out.size
        rintro k (rfl | e | e)
        · exact Or.inl (Or.inl rfl)
        · exact HPT.out.blocks k (Or.inr (Or.inl e))
        · have e2 : g' = k := Option.some.inj e
          subst e2
          rcases hg' with e3 | e3
          · exact HPT.out.blocks g' (Or.inr (Or.inr e3))
          · exact Or.inr (by omega)
      have HK1 := Lib.hid hk1
      have HB1 := Lib.hid hb1
      obtain ⟨w3, hw3⟩ : ∃ w3, w2.setCell ⟨M, 3, none⟩ (.slice (some ⟨g', 0, none⟩) (n + 1) cap') = w3 := ⟨_, rfl⟩
      rw [hw3] at HRN HK1
      have r3 := HRN.out.c3
      clear hrn hk1 hb1 hown hgr hg' HO
      by_cases h16 : n + 1 = 16
      · have e1 : (((n : Int) + 1) == 16) = true := by simp; omega
        have CF := Lib.hid (rflush19_any w3 M u v vi (.slice (some ⟨g', 0, none⟩) (n + 1) cap') (t.1, t.2 ++ [x]) HRN.out HMO.out HA.out)
        have HPE : Hid (putG u v s x (i + 1) = flushG u v (t.1, t.2 ++ [x])) := Lib.hid (by rw [HNX.out]; unfold put1G; rw [if_pos (by rw [HN.out]; exact h16)])
        clear h16
        go_wp2_with fail
        refine CF.out.mono ?_
        rintro e w5 ⟨rfl, vs5, vw5, hr5, hg5, hv5, hw5⟩
        have hp5 : PutR w M u v vs vw (putG u v s x (i + 1)) w5 vs5 vw5 := by
          rw [HPE.out]
          refine ⟨hr5, keeps_then (T := fun k => k = M) HK1.out (keeps_grown hg5 rfl) (fun k _ hT => Or.inl hT), ?_⟩
          have hsz := HK1.out.size
          rintro k (rfl | e | e)
          · exact Or.inl (Or.inl rfl)
          · rcases hv5 with rfl | hv5
            · exact HB1.out k (Or.inr (Or.inl e))
            · exact Or.inr (Nat.le_trans hsz (hv5 k e))
          · rcases hw5 with rfl | rfl
            · exact HB1.out k (Or.inr (Or.inr e))
            · cases e
        have HP5 := Lib.hid hp5
        clear hp5 hr5 hg5 hv5 hw5
        go_wp2_with fail
        go_roundw
        case rel => exact ⟨i + 1, vs5, vw5, by omega, by go_num, HP5.out⟩
        case measure => simp [intOf]; omega
      · have e1 : (((n : Int) + 1) == 16) = false := by rw [beq_eq_false_iff_ne]; omega
        have HPE : Hid (putG u v s x (i + 1) = (t.1, t.2 ++ [x])) := Lib.hid (by rw [HNX.out]; unfold put1G; rw [if_neg (by rw [HN.out]; exact h16)])
        have HP5 : Hid (PutR w M u v vs vw (putG u v s x (i + 1)) w3 vi (.slice (some ⟨g', 0, none⟩) (n + 1) cap')) := Lib.hid (by rw [HPE.out]; exact ⟨HRN.out, HK1.out, HB1.out⟩)
        clear h16
        go_wp2_with fail
        go_roundw
        case rel => exact ⟨i + 1, vi, _, by omega, by go_num, HP5.out⟩
        case measure => simp [intOf]; omega
    · obtain rfl : i = c := by omega
      have kk : ¬ (i : Int) < i := by omega
      go_wp2_with fail
      first
      | (go_end0; exact ⟨rfl, vi, wi, HP.out⟩)
      | exact bodyPost_ret (results_none rfl _ _ _) rfl ⟨rfl, vi, wi, HP.out⟩
end Go.Proofs.YtfmlkohijkalbaaGreat

/-
  Plain mathematics of parts: greatest divisors, places, digits, texts: no program in sight.
-/
namespace Go.Proofs.YtfmlkohijkalbaaGreat
set_option linter.unusedVariables false
set_option linter.unusedSimpArgs false

/-- The greatest common divisor. -/
def gcdI (a b : Int) : Int := (Nat.gcd a.toNat b.toNat : Nat)
theorem gcd_zero {a : Int} (h : 0 ≤ a) : gcdI a 0 = a := by
  unfold gcdI; simp; omega
theorem gcd_step {a b : Int} (ha : 0 ≤ a) (hb : 0 ≤ b) (h : ¬ b = 0) : gcdI b (a % b) = gcdI a b := by
  obtain ⟨m, rfl⟩ := Int.eq_ofNat_of_zero_le ha
  obtain ⟨n, rfl⟩ := Int.eq_ofNat_of_zero_le hb
  unfold gcdI
  rw [← Int.natCast_emod]
  simp only [Int.toNat_natCast]
  rw [Nat.gcd_comm n, ← Nat.gcd_rec, Nat.gcd_comm]
theorem gcd_word {a b : Int} (wa : Word a) (wb : Word b) : Word (gcdI a b) := by
  obtain ⟨a0, a1⟩ := wa; obtain ⟨b0, b1⟩ := wb
  obtain ⟨m, rfl⟩ := Int.eq_ofNat_of_zero_le a0
  obtain ⟨n, rfl⟩ := Int.eq_ofNat_of_zero_le b0
  unfold gcdI Word
  simp only [Int.toNat_natCast]
  refine ⟨by omega, ?_⟩
  rcases Nat.eq_zero_or_pos n with h | h
  · subst h; simp; omega
  · have := Nat.gcd_le_right m h; omega
theorem gcd_none {a b : Int} (ha : 0 ≤ a) (hb : 0 ≤ b) : gcdI a b = 0 ↔ a = 0 ∧ b = 0 := by
  unfold gcdI
  rw [Int.natCast_eq_zero, Nat.gcd_eq_zero_iff]; omega
theorem gcd_fst {a b : Int} (ha : 0 ≤ a) : ∃ q, 0 ≤ q ∧ a = q * gcdI a b := by
  obtain ⟨m, rfl⟩ := Int.eq_ofNat_of_zero_le ha
  obtain ⟨q, h⟩ := Nat.gcd_dvd_left m b.toNat
  refine ⟨q, by omega, ?_⟩
  unfold gcdI
  simp only [Int.toNat_natCast]
  rw [Int.mul_comm, ← Int.natCast_mul, ← h]
theorem gcd_snd {a b : Int} (hb : 0 ≤ b) : ∃ q, 0 ≤ q ∧ b = q * gcdI a b := by
  obtain ⟨m, rfl⟩ := Int.eq_ofNat_of_zero_le hb
  obtain ⟨q, h⟩ := Nat.gcd_dvd_right a.toNat m
  refine ⟨q, by omega, ?_⟩
  unfold gcdI
  simp only [Int.toNat_natCast]
  rw [Int.mul_comm, ← Int.natCast_mul, ← h]
/-- Whatever divides both divides it. -/
theorem gcd_all {a b k : Int} (ha : 0 ≤ a) (hb : 0 ≤ b) (hk : 0 ≤ k) (h1 : a % k = 0) (h2 : b % k = 0) : gcdI a b % k = 0 := by
  obtain ⟨m, rfl⟩ := Int.eq_ofNat_of_zero_le ha
  obtain ⟨n, rfl⟩ := Int.eq_ofNat_of_zero_le hb
  obtain ⟨j, rfl⟩ := Int.eq_ofNat_of_zero_le hk
  unfold gcdI
  simp only [Int.toNat_natCast]
  rw [← Int.natCast_emod, Int.natCast_eq_zero] at h1 h2 ⊢
  exact Nat.mod_eq_zero_of_dvd (Nat.dvd_gcd (Nat.dvd_of_mod_eq_zero h1) (Nat.dvd_of_mod_eq_zero h2))
/-- The numbers that are left have no divisor in common. -/
theorem gcd_left {a b : Int} (ha : 0 ≤ a) (hb : 0 ≤ b) (h : ¬ gcdI a b = 0) : gcdI (a / gcdI a b) (b / gcdI a b) = 1 := by
  obtain ⟨m, rfl⟩ := Int.eq_ofNat_of_zero_le ha
  obtain ⟨n, rfl⟩ := Int.eq_ofNat_of_zero_le hb
  unfold gcdI at *
  simp only [Int.toNat_natCast] at *
  rw [← Int.natCast_ediv, ← Int.natCast_ediv]
  simp only [Int.toNat_natCast]
  have hp : 0 < Nat.gcd m n := by omega
  rw [Nat.gcd_div (Nat.gcd_dvd_left m n) (Nat.gcd_dvd_right m n), Nat.div_self hp]
  rfl
theorem div_exact {a b : Int} {g : Int} (hg : g = gcdI a b) (ha : 0 ≤ a) (h : ¬ g = 0) : a / g * g = a ∧ a % g = 0 := by
  subst hg
  obtain ⟨q, q0, e⟩ := gcd_fst (b := b) ha
  generalize gcdI a b = g at *
  subst e
  exact ⟨by rw [Int.mul_ediv_cancel _ h], by simp⟩
theorem div_exact2 {a b : Int} {g : Int} (hg : g = gcdI a b) (hb : 0 ≤ b) (h : ¬ g = 0) : b / g * g = b ∧ b % g = 0 := by
  subst hg
  obtain ⟨q, q0, e⟩ := gcd_snd (a := a) hb
  generalize gcdI a b = g at *
  subst e
  exact ⟨by rw [Int.mul_ediv_cancel _ h], by simp⟩

/-- Whether a part can be. -/
def gdB (a b : Int) : Bool := (b != 0) && decide (a ≤ b)
theorem gd_iff {a b : Int} : gdB a b = true ↔ ¬ b = 0 ∧ a ≤ b := by
  unfold gdB; simp

/-- A digit. -/
def digB (b : UInt8) : Bool := decide (48 ≤ b.toNat) && decide (b.toNat ≤ 57)
/-- The number that digits tell. -/
def valN : List UInt8 → Int → Int
  | [], n => n
  | b :: l, n => valN l (10 * n + ((b.toNat : Int) - 48))
theorem valN_app (l m : List UInt8) (n : Int) : valN (l ++ m) n = valN m (valN l n) := by
  induction l generalizing n with
  | nil => rfl
  | cons b l ih => simp only [List.cons_append, valN, ih]
theorem valN_take {l : List UInt8} {k : Nat} {x : UInt8} (h : l[k]? = some x) : valN (l.take (k + 1)) 0 = 10 * valN (l.take k) 0 + ((x.toNat : Int) - 48) := by
  have hk : k < l.length := by
    rcases Nat.lt_or_ge k l.length with h' | h'
    · exact h'
    · rw [List.getElem?_eq_none h'] at h; cases h
  rw [List.take_succ_eq_append_getElem hk, valN_app]
  have : l[k] = x := by rw [List.getElem?_eq_getElem hk] at h; exact Option.some.inj h
  rw [this]; simp [valN]
theorem all_take {l : List UInt8} {k : Nat} {x : UInt8} (h : l[k]? = some x) : (l.take (k + 1)).all digB = ((l.take k).all digB && digB x) := by
  have hk : k < l.length := by
    rcases Nat.lt_or_ge k l.length with h' | h'
    · exact h'
    · rw [List.getElem?_eq_none h'] at h; cases h
  rw [List.take_succ_eq_append_getElem hk, List.all_append]
  have : l[k] = x := by rw [List.getElem?_eq_getElem hk] at h; exact Option.some.inj h
  rw [this]; simp
theorem all_not {l : List UInt8} {k : Nat} {x : UInt8} (h : l[k]? = some x) (hx : digB x = false) : l.all digB = false := by
  rw [List.all_eq_false]
  exact ⟨x, List.mem_of_getElem? h, by simp [hx]⟩
/-- So many digits tell no more than so much. -/
theorem valN_bd {l : List UInt8} (h : l.all digB = true) : 0 ≤ valN l 0 ∧ valN l 0 < (10 : Int) ^ l.length := by
  have key : ∀ (l : List UInt8) (n : Int), l.all digB = true → 0 ≤ n → n * 10 ^ l.length ≤ valN l n ∧ valN l n < (n + 1) * (10 : Int) ^ l.length := by
    intro l
    induction l with
    | nil => intro n _ h0; simp [valN]; omega
    | cons b l ih =>
      intro n h h0
      simp only [List.all_cons, Bool.and_eq_true] at h
      obtain ⟨hb, hl⟩ := h
      unfold digB at hb
      simp only [Bool.and_eq_true, decide_eq_true_eq] at hb
      have h1 := ih (10 * n + ((b.toNat : Int) - 48)) hl (by omega)
      simp only [valN, List.length_cons]
      have p : (0 : Int) < 10 ^ l.length := Int.pow_pos (by omega)
      have e : (10 : Int) ^ (l.length + 1) = 10 * 10 ^ l.length := by rw [Int.pow_succ, Int.mul_comm]
      rw [e]
      generalize (10 : Int) ^ l.length = P at *
      have e1 : n * (10 * P) ≤ (10 * n + ((b.toNat : Int) - 48)) * P := by
        have : n * (10 * P) = (10 * n) * P := by rw [← Int.mul_assoc, Int.mul_comm n 10]
        rw [this]
        exact Int.mul_le_mul_of_nonneg_right (by omega) (by omega)
      have e2 : (10 * n + ((b.toNat : Int) - 48) + 1) * P ≤ (n + 1) * (10 * P) := by
        have : (n + 1) * (10 * P) = (10 * n + 10) * P := by
          rw [← Int.mul_assoc]; congr 1; omega
        rw [this]
        exact Int.mul_le_mul_of_nonneg_right (by omega) (by omega)
      omega
  have h2 := key l 0 h (by omega)
  simp at h2
  omega
theorem valN_small {l : List UInt8} {k : Nat} (h : (l.take k).all digB = true) (hk : k ≤ 18) : 0 ≤ valN (l.take k) 0 ∧ valN (l.take k) 0 < 1000000000000000000 := by
  have h1 := valN_bd h
  refine ⟨h1.1, Int.lt_of_lt_of_le h1.2 ?_⟩
  have h2 : (l.take k).length ≤ 18 := by rw [List.length_take]; omega
  have h3 : (10 : Int) ^ (l.take k).length ≤ 10 ^ 18 := by
    have := Nat.pow_le_pow_right (show 0 < 10 by omega) h2
    exact_mod_cast this
  simpa using h3

/-- Whether a text is a number's; the number. -/
def numH (l : List UInt8) : Bool := (l.length == 0) || decide (18 < l.length) || (decide (1 < l.length) && (l.getD 0 0 == 48))
def numO (l : List UInt8) : Bool := !numH l && l.all digB
def numV (l : List UInt8) : Int := if numO l = true then valN l 0 else 0
theorem num_head {l : List UInt8} (h : numH l = true) : numO l = false ∧ numV l = 0 := by
  have e : numO l = false := by unfold numO; rw [h]; rfl
  exact ⟨e, by unfold numV; rw [e]; rfl⟩
theorem num_not {l : List UInt8} (h : l.all digB = false) : numO l = false ∧ numV l = 0 := by
  have e : numO l = false := by unfold numO; rw [h]; simp
  exact ⟨e, by unfold numV; rw [e]; rfl⟩
theorem num_all {l : List UInt8} (h : numH l = false) (h' : l.all digB = true) : numO l = true ∧ numV l = valN l 0 := by
  have e : numO l = true := by unfold numO; rw [h, h']; rfl
  exact ⟨e, by unfold numV; rw [if_pos e]⟩
theorem num_len {l : List UInt8} (h : numH l = false) : 1 ≤ l.length ∧ l.length ≤ 18 := by
  unfold numH at h
  simp only [Bool.or_eq_false_iff, beq_eq_false_iff_ne, decide_eq_false_iff_not] at h
  omega
theorem num_word (l : List UInt8) : Word (numV l) := by
  unfold numV
  split
  · rename_i h
    unfold numO at h
    simp only [Bool.and_eq_true, Bool.not_eq_true'] at h
    have h1 := valN_small (l := l) (k := l.length) (by rw [List.take_length]; exact h.2) (num_len h.1).2
    rw [List.take_length] at h1
    exact ⟨h1.1, by omega⟩
  · exact ⟨by omega, by omega⟩
end Go.Proofs.YtfmlkohijkalbaaGreat

/-
  Walks: share.Good and its reference, share.Divisor, share.Least.
-/
namespace Go.Proofs.YtfmlkohijkalbaaGreat
set_option linter.unusedVariables false
set_option linter.unusedSimpArgs false
open Go.RowKit

theorem ret_pair3 {k : IntKind} {a b : Int} {c d : Bool} (h : a = b) (h' : c = d) : Ending.returned (.tuple #[.int k a, .bool c]) = .returned (.tuple #[.int k b, .bool d]) := by rw [h, h']

set_option maxHeartbeats 400000 in
theorem good_any (a b : Int) (wa : Word a) (wb : Word b) (w : World) :
    Calls Tryz.prog 56 #[.agg #[.int .u64 a, .int .u64 b]] w fun e w' =>
      e = .returned (.bool (gdB a b)) ∧ Below w.heap.size w w' := by
  by_cases h : b = 0
  · subst h
    have E : Hid (false = gdB a 0) := Lib.hid rfl
    go_enter Tryz.func56, Tryz.ntmps56
    go_wp2_with fail
    go_ret
    exact ⟨ret_bool E.out, (Below.refl _ _).alloc (Nat.le_refl _) _⟩
  · have hb0 : (b != 0) = true := by simp [h]
    have hb1 : (!b == 0) = true := by simp [h]
    have E : Hid (decide (a ≤ b) = gdB a b) := Lib.hid (by unfold gdB; simp [h])
    go_enter Tryz.func56, Tryz.ntmps56
    go_wp2_with fail
    go_ret
    exact ⟨ret_bool E.out, (Below.refl _ _).alloc (Nat.le_refl _) _⟩

set_option maxHeartbeats 400000 in
theorem rgood_any (a b : Int) (wa : Word a) (wb : Word b) (w : World) :
    Calls Tryz.prog 11 #[.agg #[.int .u64 a, .int .u64 b]] w fun e w' =>
      e = .returned (.bool (gdB a b)) ∧ Below w.heap.size w w' := by
  by_cases h : b = 0
  · subst h
    have E : Hid (false = gdB a 0) := Lib.hid rfl
    go_enter Tryz.func11, Tryz.ntmps11
    go_wp2_with fail
    go_ret
    exact ⟨ret_bool E.out, (Below.refl _ _).alloc (Nat.le_refl _) _⟩
  · have hb0 : (b != 0) = true := by simp [h]
    have hb1 : (!b == 0) = true := by simp [h]
    have E : Hid ((!decide (b < a)) = gdB a b) := Lib.hid (by unfold gdB; rw [hb0, Bool.true_and, Bool.eq_iff_iff]; simp)
    go_enter Tryz.func11, Tryz.ntmps11
    go_wp2_with fail
    go_ret
    exact ⟨ret_bool E.out, (Below.refl _ _).alloc (Nat.le_refl _) _⟩

theorem mod_word {a b : Int} (wa : Word a) (wb : Word b) (h : ¬ b = 0) : Word (a % b) ∧ a % b < b := by
  obtain ⟨a0, a1⟩ := wa; obtain ⟨b0, b1⟩ := wb
  have h1 := Int.emod_nonneg a h
  have h2 := Int.emod_lt_of_pos a (show 0 < b by omega)
  exact ⟨⟨h1, by omega⟩, h2⟩
theorem div_u64 {a g : Int} (wa : Word a) (wg : Word g) : IntKind.u64.wrap (a.tdiv g) = a / g := by
  rw [Int.tdiv_eq_ediv_of_nonneg wa.1, IntKind.wrap_u64]
  have h1 := Int.ediv_nonneg wa.1 wg.1
  have h2 := Int.ediv_le_self g wa.1
  have := wa.2
  exact Int.emod_eq_of_lt h1 (by omega)
def intU : Value → Nat | .int _ q => q.toNat | _ => 0

end Go.Proofs.YtfmlkohijkalbaaGreat
/-
  wide.Compare and the reference's Less, of numbers below 2^128; what a held region keeps.
-/
namespace Go.Proofs.YtfmlkohijkalbaaGreat
set_option linter.unusedVariables false
open Go.RowKit Go.Shelf

theorem less_two (x y : Int) (x0 : 0 ≤ x) (x1 : x < 340282366920938463463374607431768211456) (y0 : 0 ≤ y) (y1 : y < 340282366920938463463374607431768211456) (w : World) :
    Calls Tryz.prog 42 #[.agg #[.int .u64 (hiW x), .int .u64 (loW x)], .agg #[.int .u64 (hiW y), .int .u64 (loW y)]] w fun e w' =>
      e = .returned (.bool (decide (x < y))) ∧ Below w.heap.size w w' := by
  have h := less_any (hiW x) (loW x) (hiW y) (loW y) (word_hi x) (word_lo x) (word_hi y) (word_lo y) w
  rw [wval_split x0 x1, wval_split y0 y1] at h
  have e : belowB (x - y) = decide (x < y) := by unfold belowB; apply decide_eq_decide.2; omega
  rw [e] at h
  exact h

theorem cmp_neg (x y : Int) : decide (cmpW x y < 0) = decide (x < y) := by
  unfold cmpW; apply decide_eq_decide.2; split <;> (try split) <;> omega

/-- Two cells of one block, and the world below, behind a callee that makes memory. -/
theorem keep2 {B : Nat} {W w w' : World} {x y : Value} (h : w.cell? ⟨B, 0, none⟩ = some x ∧ w.cell? ⟨B, 1, none⟩ = some y ∧ Below W.heap.size W w) (hb : Below w.heap.size w w') :
    w'.cell? ⟨B, 0, none⟩ = some x ∧ w'.cell? ⟨B, 1, none⟩ = some y ∧ Below W.heap.size W w' :=
  ⟨cell_later hb h.1, cell_later hb h.2.1, h.2.2.trans (hb.mono h.2.2.size)⟩
theorem keep2_bel {B : Nat} {W w : World} {x y : Value} (h : w.cell? ⟨B, 0, none⟩ = some x ∧ w.cell? ⟨B, 1, none⟩ = some y ∧ Below W.heap.size W w) : Below W.heap.size W w := h.2.2
end Go.Proofs.YtfmlkohijkalbaaGreat

/-
  Walks: wide.Less, the reference's Fewer.
-/
namespace Go.Proofs.YtfmlkohijkalbaaGreat
set_option linter.unusedVariables false
open Go.RowKit Go.Shelf

/-- Whether a fraction is less than another one. -/
def fewB (an ad bn bd : Int) : Bool := if ad = 0 then false else if bd = 0 then true else decide (an * bd < bn * ad)
theorem few_a {an bn bd : Int} : fewB an 0 bn bd = false := by unfold fewB; rw [if_pos rfl]
theorem few_b {an ad bn : Int} (h : ¬ ad = 0) : fewB an ad bn 0 = true := by unfold fewB; rw [if_neg h, if_pos rfl]
theorem few_c {an ad bn bd : Int} (h : ¬ ad = 0) (h' : ¬ bd = 0) : fewB an ad bn bd = decide (an * bd < bn * ad) := by unfold fewB; rw [if_neg h, if_neg h']

theorem held_keep {B : Nat} {W w w' : World} {an ad bn bd : Int} (h : w.cell? ⟨B, 0, none⟩ = some (.int .u64 an) ∧ w.cell? ⟨B, 1, none⟩ = some (.int .u64 ad) ∧ w.cell? ⟨B + 1, 0, none⟩ = some (.int .u64 bn) ∧ w.cell? ⟨B + 1, 1, none⟩ = some (.int .u64 bd) ∧ Below W.heap.size W w) (hb : Below w.heap.size w w') :
    w'.cell? ⟨B, 0, none⟩ = some (.int .u64 an) ∧ w'.cell? ⟨B, 1, none⟩ = some (.int .u64 ad) ∧ w'.cell? ⟨B + 1, 0, none⟩ = some (.int .u64 bn) ∧ w'.cell? ⟨B + 1, 1, none⟩ = some (.int .u64 bd) ∧ Below W.heap.size W w' :=
  ⟨cell_later hb h.1, cell_later hb h.2.1, cell_later hb h.2.2.1, cell_later hb h.2.2.2.1, h.2.2.2.2.trans (hb.mono h.2.2.2.2.size)⟩

theorem held_bel {B : Nat} {W w : World} {an ad bn bd : Int} (h : w.cell? ⟨B, 0, none⟩ = some (.int .u64 an) ∧ w.cell? ⟨B, 1, none⟩ = some (.int .u64 ad) ∧ w.cell? ⟨B + 1, 0, none⟩ = some (.int .u64 bn) ∧ w.cell? ⟨B + 1, 1, none⟩ = some (.int .u64 bd) ∧ Below W.heap.size W w) : Below W.heap.size W w := h.2.2.2.2

/-! What the law says of the order. -/
theorem few_self (an ad : Int) : fewB an ad an ad = false := by
  unfold fewB
  split
  · rfl
  · simp
theorem few_anti {an ad bn bd : Int} (wad : Word ad) (wbd : Word bd) (h : fewB an ad bn bd = true) : fewB bn bd an ad = false := by
  unfold fewB at *
  by_cases h1 : ad = 0
  · rw [if_pos h1] at h; cases h
  · rw [if_neg h1] at h
    by_cases h2 : bd = 0
    · rw [if_pos h2]
    · rw [if_neg h2] at h ⊢
      rw [if_neg h1]
      rw [decide_eq_true_iff] at h
      apply decide_eq_false
      omega
theorem few_trans {an ad bn bd cn cd : Int} (wa : Word an) (wad : Word ad) (wb : Word bn) (wbd : Word bd) (wc : Word cn) (wcd : Word cd) (h : fewB an ad bn bd = true) (k : fewB bn bd cn cd = true) : fewB an ad cn cd = true := by
  unfold fewB at *
  by_cases h1 : ad = 0
  · rw [if_pos h1] at h; cases h
  · rw [if_neg h1] at h ⊢
    by_cases h3 : cd = 0
    · rw [if_pos h3]
    · rw [if_neg h3] at k ⊢
      by_cases h2 : bd = 0
      · rw [if_pos h2] at k; cases k
      · rw [if_neg h2] at h k
        rw [decide_eq_true_iff] at *
        have pa : 0 < ad := by have := wad.1; omega
        have pb : 0 < bd := by have := wbd.1; omega
        have pc : 0 < cd := by have := wcd.1; omega
        have e1 := Int.mul_lt_mul_of_pos_right h pc
        have e2 := Int.mul_lt_mul_of_pos_right k pa
        have e3 : an * cd * bd < cn * ad * bd := by
          have x1 : an * bd * cd = an * cd * bd := by rw [Int.mul_assoc, Int.mul_comm bd, ← Int.mul_assoc]
          have x2 : bn * ad * cd = bn * cd * ad := by rw [Int.mul_assoc, Int.mul_comm ad, ← Int.mul_assoc]
          have x3 : cn * bd * ad = cn * ad * bd := by rw [Int.mul_assoc, Int.mul_comm bd, ← Int.mul_assoc]
          rw [x1, x2] at e1; rw [x3] at e2; omega
        exact Int.lt_of_mul_lt_mul_right e3 (by omega)
end Go.Proofs.YtfmlkohijkalbaaGreat

/-
  Walks: the reference's Ceil, wide.Log, wide.Plus, the laws' alive.
-/
namespace Go.Proofs.YtfmlkohijkalbaaGreat
set_option linter.unusedVariables false
open Go.RowKit Go.Shelf

theorem cl_no {n y : Int} (h : ovB n y = false) : clB n y = false ∧ clQ n y = 0 := by
  have e : clB n y = false := by unfold clB; rw [h]; rfl
  exact ⟨e, by unfold clQ; rw [e]; rfl⟩
theorem cl_full {n y : Int} (h : ovB n y = true) (hr : 0 < ovR n y) (hq : ovQ n y = 18446744073709551615) : clB n y = false ∧ clQ n y = 0 := by
  have e : clB n y = false := by unfold clB; rw [h, decide_eq_true hr, hq]; rfl
  exact ⟨e, by unfold clQ; rw [e]; rfl⟩
theorem cl_up {n y : Int} (h : ovB n y = true) (hr : 0 < ovR n y) (hq : ¬ ovQ n y = 18446744073709551615) : clB n y = true ∧ clQ n y = ovQ n y + 1 := by
  have e : clB n y = true := by unfold clB; rw [h, decide_eq_true hr]; simp [hq]
  exact ⟨e, by unfold clQ; rw [if_pos e, if_pos hr]⟩

set_option maxHeartbeats 1000000 in
theorem rceil_any (a b y : Int) (wa : Word a) (wb : Word b) (wy : Word y) (w : World) :
    Calls Tryz.prog 38 #[.int .u64 a, .int .u64 b, .int .u64 y] w fun e w' =>
      e = .returned (.tuple #[.int .u64 (clQ (a * b) y), .bool (clB (a * b) y)]) ∧ Below w.heap.size w w' := by
  obtain ⟨n0, n1⟩ := mul_bd wa wb
  obtain ⟨⟨q0, q1⟩, ⟨r0, r1⟩⟩ := ov_word (n := a * b) n0 wy
  by_cases ho : ovB (a * b) y = true
  · by_cases hr : 0 < ovR (a * b) y
    · by_cases hq : ovQ (a * b) y = 18446744073709551615
      · have E := Lib.hid (cl_full ho hr hq)
        have hq0 : (ovQ (a * b) y == 18446744073709551615) = true := by simp [hq]
        clear hq
        go_enter Tryz.func38, Tryz.ntmps38
        go_wp2_with fail
        refine (rtimes_any a b wa wb _).mono ?_
        rintro e wA ⟨rfl, hbA⟩
        go_wp2_with fail
        refine (rover_num (a * b) y n0 n1 wy _).mono ?_
        rintro e wB ⟨rfl, hbB⟩
        go_wp2_with fail
        refine bodyPost_ret (v := .tuple #[.int .u64 0, .bool false]) (by simp [results, Tryz.results38, go_sem]) rfl ⟨by rw [E.out.1, E.out.2], ?_⟩
        exact hbA.trans (hbB.mono hbA.size)
      · have E := Lib.hid (cl_up ho hr hq)
        have hq0 : (ovQ (a * b) y == 18446744073709551615) = false := by simp [hq]
        have hq1 : ovQ (a * b) y + 1 < 18446744073709551616 := by omega
        clear hq
        go_enter Tryz.func38, Tryz.ntmps38
        go_wp2_with fail
        refine (rtimes_any a b wa wb _).mono ?_
        rintro e wA ⟨rfl, hbA⟩
        go_wp2_with fail
        refine (rover_num (a * b) y n0 n1 wy _).mono ?_
        rintro e wB ⟨rfl, hbB⟩
        go_wp2_with fail
        refine bodyPost_ret (v := .tuple #[.int .u64 (ovQ (a * b) y + 1), .bool true]) (by simp [results, Tryz.results38, go_sem]) rfl ⟨by rw [E.out.1, E.out.2], ?_⟩
        exact hbA.trans (hbB.mono hbA.size)
    · have E := Lib.hid (cl_zero (n := a * b) (y := y) (by omega))
      go_enter Tryz.func38, Tryz.ntmps38
      go_wp2_with fail
      refine (rtimes_any a b wa wb _).mono ?_
      rintro e wA ⟨rfl, hbA⟩
      go_wp2_with fail
      refine (rover_num (a * b) y n0 n1 wy _).mono ?_
      rintro e wB ⟨rfl, hbB⟩
      go_wp2_with fail
      refine bodyPost_ret (v := .tuple #[.int .u64 (ovQ (a * b) y), .bool true]) (by simp [results, Tryz.results38, go_sem]) rfl ⟨by rw [E.out.1, E.out.2, ho], ?_⟩
      exact hbA.trans (hbB.mono hbA.size)
  · have ho' : ovB (a * b) y = false := by simpa using ho
    have E := Lib.hid (cl_no ho')
    clear ho
    go_enter Tryz.func38, Tryz.ntmps38
    go_wp2_with fail
    refine (rtimes_any a b wa wb _).mono ?_
    rintro e wA ⟨rfl, hbA⟩
    go_wp2_with fail
    refine (rover_num (a * b) y n0 n1 wy _).mono ?_
    rintro e wB ⟨rfl, hbB⟩
    go_wp2_with fail
    refine bodyPost_ret (v := .tuple #[.int .u64 0, .bool false]) (by simp [results, Tryz.results38, go_sem]) rfl ⟨by rw [E.out.1, E.out.2], ?_⟩
    exact hbA.trans (hbB.mono hbA.size)

theorem ceil_712 (w : World) : Calls Tryz.prog 57 #[.int .u64 7, .int .u64 1, .int .u64 2] w fun e w' =>
      e = .returned (.tuple #[.int .u64 4, .bool true]) ∧ Below w.heap.size w w' := by
  have h := ceil_any 7 1 2 (by unfold Word; omega) (by unfold Word; omega) (by unfold Word; omega) w
  rw [show clQ (7 * 1) 2 = 4 by decide, show clB (7 * 1) 2 = true by decide] at h
  exact h
theorem times_634 (w : World) : Calls Tryz.prog 77 #[.int .u64 9223372036854775808, .int .u64 4] w fun e w' =>
      e = .returned (.agg #[.int .u64 2, .int .u64 0]) ∧ Below w.heap.size w w' := by
  have h := times_any 9223372036854775808 4 (by unfold Word; omega) (by unfold Word; omega) w
  rw [show hiW (9223372036854775808 * 4) = 2 by decide, show loW (9223372036854775808 * 4) = 0 by decide] at h
  exact h

set_option maxHeartbeats 400000 in
theorem plus_nil (cap : Nat) (w : World) : Calls Tryz.prog 20 #[.slice none 0 cap] w fun e w' =>
      e = .returned (.tuple #[.int .u64 0, .bool true]) ∧ w = w' := by
  go_enter Tryz.func20, Tryz.ntmps20
  go_wp2_with fail
  go_loop [4, 9] (fun s i => s = .int .u64 0 ∧ i = .int .i64 0) (fun _ _ => 0)
  case atStart => exact ⟨rfl, rfl⟩
  case round =>
    obtain ⟨rfl, rfl⟩ := hrel
    go_wp2_with fail
    exact bodyPost_ret (v := .tuple #[.int .u64 0, .bool true]) (by simp [results, Tryz.results20, go_sem]) rfl ⟨rfl, rfl⟩

set_option maxHeartbeats 400000 in
theorem plus_any (xs : List Int) (b off cap : Nat) (w : World) (hm : xs.length ≤ maxLen) (hw : ∀ x ∈ xs, Word x)
    (hcell : ∀ i x, xs[i]? = some x → w.cell? ⟨b, off + i, none⟩ = some (.int .u64 x)) :
    Calls Tryz.prog 20 #[.slice (some ⟨b, off, none⟩) xs.length cap] w fun e w' =>
      e = .returned (.tuple #[.int .u64 (plQ xs), .bool (plB xs)]) ∧ w = w' := by
  unfold maxLen at hm
  have hpos : ∀ x ∈ xs, 0 ≤ x := fun x hx => (hw x hx).1
  have Hpos := Lib.hid hpos
  have Hw := Lib.hid hw
  have Hcell := Lib.hid hcell
  clear hpos hw hcell
  go_enter Tryz.func20, Tryz.ntmps20
  go_wp2_with fail
  go_loop [4, 9] (fun s i => ∃ k : Nat, k ≤ xs.length ∧ i = .int .i64 k ∧ s = .int .u64 (sumI (xs.take k)) ∧ sumI (xs.take k) ≤ 9223372036854775807) (fun _ i => xs.length - (intOf i).toNat)
  case atStart => exact ⟨0, Nat.zero_le _, rfl, rfl, by simp [sumI]⟩
  case round =>
    obtain ⟨k, hk, rfl, rfl, hs⟩ := hrel
    have s0 : 0 ≤ sumI (xs.take k) := sumI_nonneg (fun x hx => Hpos.out x (List.mem_of_mem_take hx))
    by_cases hlt : k < xs.length
    · obtain ⟨x, hx⟩ : ∃ x, xs[k]? = some x := ⟨_, List.getElem?_eq_getElem hlt⟩
      have e1 := Hcell.out k x hx
      have HS := Lib.hid (sumI_take hx)
      obtain ⟨x0, x1⟩ := Hw.out x (List.mem_of_getElem? hx)
      have HM := Lib.hid (sumI_mono Hpos.out (k + 1))
      clear hx
      generalize sumI (xs.take k) = s at *
      by_cases hg : 9223372036854775807 - s < x
      · have e : plB xs = false := by
          have a := HS.out; have b := HM.out
          unfold plB; apply decide_eq_false; omega
        have e2 : plQ xs = 0 := by unfold plQ; rw [e]; rfl
        have E := Lib.hid e; have E2 := Lib.hid e2
        clear e e2
        go_wp2_with fail
        exact bodyPost_ret (v := .tuple #[.int .u64 0, .bool false]) (by simp [results, Tryz.results20, go_sem]) rfl ⟨by rw [E.out, E2.out], rfl⟩
      · go_wp2_with fail
        go_round
        case rel => exact ⟨k + 1, by omega, by go_num, by rw [HS.out], by rw [HS.out]; omega⟩
        case measure => simp [intOf]; omega
    · obtain rfl : k = xs.length := by omega
      rw [List.take_length] at *
      have e : plB xs = true := by unfold plB; exact decide_eq_true hs
      have e2 : plQ xs = sumI xs := by unfold plQ; rw [if_pos e]
      have E := Lib.hid e; have E2 := Lib.hid e2
      clear e e2
      go_wp2_with fail
      exact bodyPost_ret (v := .tuple #[.int .u64 (sumI xs), .bool true]) (by simp [results, Tryz.results20, go_sem]) rfl ⟨by rw [E.out, E2.out], rfl⟩
end Go.Proofs.YtfmlkohijkalbaaGreat

/-
  Walks: share.Place and the reference's; what places are.
-/
namespace Go.Proofs.YtfmlkohijkalbaaGreat
set_option linter.unusedVariables false
set_option linter.unusedSimpArgs false
open Go.RowKit

/-- The place that a part asks for, of so many; the error's number. -/
def plV (a b n : Int) : Int := if gdB a b = true ∧ ¬ n = 0 then (if clQ (a * n) b < 1 then 1 else clQ (a * n) b) else 0
def plE (a b n : Int) : Int := if gdB a b = true then (if n = 0 then 5 else 0) else 1
theorem pl_bad {a b n : Int} (h : gdB a b = false) : plV a b n = 0 ∧ plE a b n = 1 := by
  unfold plV plE; rw [h]; simp
theorem pl_none {a b : Int} (h : gdB a b = true) : plV a b 0 = 0 ∧ plE a b 0 = 5 := by
  unfold plV plE; rw [h]; simp
theorem pl_good {a b n : Int} (h : gdB a b = true) (hn : ¬ n = 0) : plV a b n = (if clQ (a * n) b < 1 then 1 else clQ (a * n) b) ∧ plE a b n = 0 := by
  unfold plV plE; rw [h]; simp [hn]

/-- Rounded up, of a part that can be. -/
theorem cl_spec {a b n : Int} (wa : Word a) (wb : Word b) (wn : Word n) (h : gdB a b = true) :
    a * n ≤ clQ (a * n) b * b ∧ (clQ (a * n) b - 1) * b < a * n ∧ 0 ≤ clQ (a * n) b ∧ clQ (a * n) b ≤ n := by
  obtain ⟨hb, hab⟩ := gd_iff.1 h
  obtain ⟨a0, a1⟩ := wa; obtain ⟨b0, b1⟩ := wb; obtain ⟨n0, n1⟩ := wn
  have bp : 0 < b := by omega
  have N0 : 0 ≤ a * n := Int.mul_nonneg a0 n0
  have hle : a * n ≤ n * b := by rw [Int.mul_comm n b]; exact Int.mul_le_mul_of_nonneg_right hab n0
  have hd := Int.ediv_mul_add_emod (a * n) b
  have hr0 := Int.emod_nonneg (a * n) hb
  have hr1 := Int.emod_lt_of_pos (a * n) bp
  have hq0 := Int.ediv_nonneg N0 (show 0 ≤ b by omega)
  have hqn : a * n / b ≤ n := Int.ediv_le_of_le_mul bp hle
  have hov : ovB (a * n) b = true := by unfold ovB; apply decide_eq_true; exact ⟨bp, by omega⟩
  have eQ : ovQ (a * n) b = a * n / b := by unfold ovQ; rw [if_pos hov]
  have eR : ovR (a * n) b = a * n % b := by unfold ovR; rw [if_pos hov]
  by_cases hz : a * n % b = 0
  · have e : clQ (a * n) b = a * n / b := by rw [(cl_zero (by rw [eR]; exact hz)).2, eQ]
    rw [e]
    generalize a * n / b = q at *
    generalize a * n % b = r at *
    rw [Int.sub_mul]
    omega
  · have hlt : a * n / b < n := by
      rcases Int.lt_or_eq_of_le hqn with h1 | h1
      · exact h1
      · rw [h1] at hd; omega
    have e : clQ (a * n) b = a * n / b + 1 := by
      rw [(cl_up hov (by rw [eR]; omega) (by rw [eQ]; omega)).2, eQ]
    rw [e]
    generalize a * n / b = q at *
    generalize a * n % b = r at *
    rw [Int.sub_mul, Int.add_mul]
    omega

/-- Places are from 1 to n. -/
theorem pl_spec {a b n : Int} (wa : Word a) (wb : Word b) (wn : Word n) (h : gdB a b = true) (hn : ¬ n = 0) :
    1 ≤ plV a b n ∧ plV a b n ≤ n ∧ a * n ≤ plV a b n * b ∧ (plV a b n = 1 ∨ (plV a b n - 1) * b < a * n) := by
  obtain ⟨h1, h2, h3, h4⟩ := cl_spec wa wb wn h
  obtain ⟨hb, hab⟩ := gd_iff.1 h
  rw [(pl_good h hn).1]
  have n0 := wn.1
  have bp : 0 < b := by have := wb.1; omega
  generalize clQ (a * n) b = c at *
  split
  · rename_i hc
    have : c = 0 := by omega
    subst this
    refine ⟨by omega, by omega, by omega, Or.inl rfl⟩
  · exact ⟨by omega, h4, h1, Or.inr h2⟩
theorem pl_word {a b n : Int} (wa : Word a) (wb : Word b) (wn : Word n) : Word (plV a b n) := by
  by_cases h : gdB a b = true ∧ ¬ n = 0
  · have := pl_spec wa wb wn h.1 h.2
    exact ⟨by omega, by have := wn.2; omega⟩
  · unfold plV; rw [if_neg h]; exact ⟨by omega, by omega⟩
/-- The whole asks for the last one. -/
theorem pl_whole {a b n : Int} (wb : Word b) (wn : Word n) (h : gdB a b = true) (hn : ¬ n = 0) : plV b b n = n := by
  obtain ⟨hb, hab⟩ := gd_iff.1 h
  have hg : gdB b b = true := gd_iff.2 ⟨hb, Int.le_refl _⟩
  obtain ⟨h1, h2, h3, h4⟩ := pl_spec wb wb wn hg hn
  have bp : 0 < b := by have := wb.1; omega
  rw [Int.mul_comm b n] at h3
  have := Int.le_of_mul_le_mul_right h3 bp
  omega
/-- They rise with the part. -/
theorem pl_rise {a b c d n : Int} (wa : Word a) (wb : Word b) (wc : Word c) (wd : Word d) (wn : Word n) (h : gdB a b = true) (h' : gdB c d = true) (hn : ¬ n = 0) (hlt : plV a b n < plV c d n) : fewB a b c d = true := by
  obtain ⟨hb, hab⟩ := gd_iff.1 h
  obtain ⟨hd, hcd⟩ := gd_iff.1 h'
  obtain ⟨p1, p2, p3, p4⟩ := pl_spec wa wb wn h hn
  obtain ⟨q1, q2, q3, q4⟩ := pl_spec wc wd wn h' hn
  have bp : 0 < b := by have := wb.1; omega
  have dp : 0 < d := by have := wd.1; omega
  have np : 0 < n := by have := wn.1; omega
  have q5 : (plV c d n - 1) * d < c * n := by
    rcases q4 with q4 | q4
    · omega
    · exact q4
  rw [few_c hb hd]
  apply decide_eq_true
  generalize plV a b n = t at *
  generalize plV c d n = u at *
  have e1 : a * n * d ≤ t * b * d := Int.mul_le_mul_of_nonneg_right p3 (by omega)
  have e2 : t * (b * d) ≤ (u - 1) * (b * d) := Int.mul_le_mul_of_nonneg_right (by omega) (Int.mul_nonneg (by omega) (by omega))
  have e3 : (u - 1) * d * b < c * n * b := Int.mul_lt_mul_of_pos_right q5 bp
  have e4 : a * d * n < c * b * n := by
    have x1 : a * n * d = a * d * n := by rw [Int.mul_assoc, Int.mul_comm n, ← Int.mul_assoc]
    have x2 : t * b * d = t * (b * d) := Int.mul_assoc ..
    have x3 : (u - 1) * d * b = (u - 1) * (b * d) := by rw [Int.mul_assoc, Int.mul_comm d]
    have x4 : c * n * b = c * b * n := by rw [Int.mul_assoc, Int.mul_comm n, ← Int.mul_assoc]
    omega
  exact Int.lt_of_mul_lt_mul_right e4 (by omega)
/-- Fewer than the part of all lie ahead of the place. -/
theorem pl_ahead {a b n : Int} (wa : Word a) (wb : Word b) (wn : Word n) (h : gdB a b = true) (hn : ¬ n = 0) (ht : ¬ plV a b n = 1) : fewB (plV a b n - 1) n a b = true := by
  obtain ⟨hb, hab⟩ := gd_iff.1 h
  obtain ⟨p1, p2, p3, p4⟩ := pl_spec wa wb wn h hn
  rw [few_c hn hb]
  apply decide_eq_true
  rcases p4 with p4 | p4
  · omega
  · exact p4
theorem pl_upto {a b n : Int} (wa : Word a) (wb : Word b) (wn : Word n) (h : gdB a b = true) (hn : ¬ n = 0) : fewB (plV a b n) n a b = false := by
  obtain ⟨hb, hab⟩ := gd_iff.1 h
  obtain ⟨p1, p2, p3, p4⟩ := pl_spec wa wb wn h hn
  rw [few_c hn hb]
  apply decide_eq_false
  omega
/-- The same part in its least numbers asks for the same place. -/
theorem cl_least {a b n g : Int} (wa : Word a) (wb : Word b) (wn : Word n) (hg : g = gcdI a b) (h : gdB a b = true) : gdB (a / g) (b / g) = true ∧ plV (a / g) (b / g) n = plV a b n ∧ plE (a / g) (b / g) n = plE a b n := by
  obtain ⟨hb, hab⟩ := gd_iff.1 h
  have hg0 : ¬ g = 0 := by
    intro e; rw [hg] at e
    exact hb ((gcd_none wa.1 wb.1).1 e).2
  have gw := gcd_word wa wb
  rw [← hg] at gw
  have gp : 0 < g := by have := gw.1; omega
  have e1 := (div_exact hg wa.1 hg0).1
  have e2 := (div_exact2 hg wb.1 hg0).1
  have w1 : Word (a / g) := ⟨Int.ediv_nonneg wa.1 gw.1, by have := Int.ediv_le_self g wa.1; have := wa.2; omega⟩
  have w2 : Word (b / g) := ⟨Int.ediv_nonneg wb.1 gw.1, by have := Int.ediv_le_self g wb.1; have := wb.2; omega⟩
  have hG : gdB (a / g) (b / g) = true := by
    refine gd_iff.2 ⟨?_, Int.ediv_le_ediv gp hab⟩
    intro e; rw [e] at e2; omega
  refine ⟨hG, ?_, ?_⟩
  · by_cases hn : n = 0
    · subst hn; rw [(pl_none hG).1, (pl_none h).1]
    · have c1 := cl_spec wa wb wn h
      have c2 := cl_spec w1 w2 wn hG
      have E : clQ (a / g * n) (b / g) = clQ (a * n) b := by
        obtain ⟨x1, x2, x3, x4⟩ := c1
        obtain ⟨y1, y2, y3, y4⟩ := c2
        generalize clQ (a / g * n) (b / g) = u at *
        generalize clQ (a * n) b = t at *
        have f1 : a / g * n * g = a * n := by rw [Int.mul_assoc, Int.mul_comm n, ← Int.mul_assoc, e1]
        have f2 : u * (b / g) * g = u * b := by rw [Int.mul_assoc, e2]
        have f3 : (u - 1) * (b / g) * g = (u - 1) * b := by rw [Int.mul_assoc, e2]
        have z1 := Int.mul_le_mul_of_nonneg_right y1 (show 0 ≤ g by omega)
        have z2 := Int.mul_lt_mul_of_pos_right y2 gp
        rw [f1, f2] at z1
        rw [f1, f3] at z2
        have bp : 0 < b := by have := wb.1; omega
        have k1 : u - 1 < t := Int.lt_of_mul_lt_mul_right (show (u - 1) * b < t * b by omega) (by omega)
        have k2 : t - 1 < u := Int.lt_of_mul_lt_mul_right (show (t - 1) * b < u * b by omega) (by omega)
        omega
      rw [(pl_good hG hn).1, (pl_good h hn).1, E]
  · unfold plE; rw [hG, h]

theorem ret_place {x y a b : Int} (h : a = x) (h' : b = y) : Ending.returned (.tuple #[.int .u64 a, .int .i64 b]) = .returned (.tuple #[.int .u64 x, .int .i64 y]) := by rw [h, h']

set_option maxHeartbeats 1000000 in
theorem place_any (a b n : Int) (wa : Word a) (wb : Word b) (wn : Word n) (w : World) :
    Calls Tryz.prog 39 #[.agg #[.int .u64 a, .int .u64 b], .int .u64 n] w fun e w' =>
      e = .returned (.tuple #[.int .u64 (plV a b n), .int .i64 (plE a b n)]) ∧ Below w.heap.size w w' := by
  cases hg : gdB a b with
  | false =>
    have E := Lib.hid (pl_bad (n := n) hg)
    have G := Lib.hid hg
    clear hg
    go_enter Tryz.func39, Tryz.ntmps39
    go_wp2_with fail
    refine (good_any a b wa wb _).mono ?_
    rw [G.out]
    rintro e wA ⟨rfl, hbA⟩
    go_wp2_with fail
    go_ret2
    exact ⟨ret_place E.out.1.symm E.out.2.symm, ((Below.refl _ _).alloc (Nat.le_refl _) _).trans (hbA.mono (by simp))⟩
  | true =>
    by_cases hn : n = 0
    · subst hn
      have E := Lib.hid (pl_none hg)
      have G := Lib.hid hg
      clear hg
      go_enter Tryz.func39, Tryz.ntmps39
      go_wp2_with fail
      refine (good_any a b wa wb _).mono ?_
      rw [G.out]
      rintro e wA ⟨rfl, hbA⟩
      go_wp2_with fail
      go_ret2
      exact ⟨ret_place E.out.1.symm E.out.2.symm, ((Below.refl _ _).alloc (Nat.le_refl _) _).trans (hbA.mono (by simp))⟩
    · have E := Lib.hid (pl_good hg hn)
      have hn0 : (n == 0) = false := by simp [hn]
      have G := Lib.hid hg
      have c0 := (cl_spec wa wb wn hg).2.2.1
      clear hg hn
      go_enter Tryz.func39, Tryz.ntmps39
      go_wp2_with fail
      have c1 : (w.alloc (.cells #[.int .u64 a, .int .u64 b] 24)).cell? ⟨w.heap.size, 0, none⟩ = some (.int .u64 a) := by go_simp
      have c2 : (w.alloc (.cells #[.int .u64 a, .int .u64 b] 24)).cell? ⟨w.heap.size, 1, none⟩ = some (.int .u64 b) := by go_simp
      refine (good_any a b wa wb _).mono ?_
      rw [G.out]
      rintro e wA ⟨rfl, hbA⟩
      have d1 := cell_later hbA c1
      have d2 := cell_later hbA c2
      have hBA := ((Below.refl _ _).alloc (Nat.le_refl _) _).trans (hbA.mono (by simp))
      clear c1 c2 hbA
      go_wp2_with fail
      refine (ceil_any a n b wa wn wb _).mono ?_
      rintro e wB ⟨rfl, hbB⟩
      generalize clQ (a * n) b = c at *
      go_wp2_with fail
      go_ret2
      refine ⟨ret_place ?_ E.out.2.symm, hBA.trans (hbB.mono hBA.size)⟩
      rw [E.out.1]
      split <;> omega

set_option maxHeartbeats 1000000 in
theorem rplace_any (a b n : Int) (wa : Word a) (wb : Word b) (wn : Word n) (w : World) :
    Calls Tryz.prog 12 #[.agg #[.int .u64 a, .int .u64 b], .int .u64 n] w fun e w' =>
      e = .returned (.tuple #[.int .u64 (plV a b n), .int .i64 (plE a b n)]) ∧ Below w.heap.size w w' := by
  cases hg : gdB a b with
  | false =>
    have E := Lib.hid (pl_bad (n := n) hg)
    have G := Lib.hid hg
    clear hg
    go_enter Tryz.func12, Tryz.ntmps12
    go_wp2_with fail
    refine (rgood_any a b wa wb _).mono ?_
    rw [G.out]
    rintro e wA ⟨rfl, hbA⟩
    go_wp2_with fail
    go_ret2
    exact ⟨ret_place E.out.1.symm E.out.2.symm, ((Below.refl _ _).alloc (Nat.le_refl _) _).trans (hbA.mono (by simp))⟩
  | true =>
    by_cases hn : n = 0
    · subst hn
      have E := Lib.hid (pl_none hg)
      have G := Lib.hid hg
      clear hg
      go_enter Tryz.func12, Tryz.ntmps12
      go_wp2_with fail
      refine (rgood_any a b wa wb _).mono ?_
      rw [G.out]
      rintro e wA ⟨rfl, hbA⟩
      go_wp2_with fail
      go_ret2
      exact ⟨ret_place E.out.1.symm E.out.2.symm, ((Below.refl _ _).alloc (Nat.le_refl _) _).trans (hbA.mono (by simp))⟩
    · have E := Lib.hid (pl_good hg hn)
      have hn0 : (n == 0) = false := by simp [hn]
      have G := Lib.hid hg
      have c0 := (cl_spec wa wb wn hg).2.2.1
      clear hg hn
      go_enter Tryz.func12, Tryz.ntmps12
      go_wp2_with fail
      have c1 : (w.alloc (.cells #[.int .u64 a, .int .u64 b] 24)).cell? ⟨w.heap.size, 0, none⟩ = some (.int .u64 a) := by go_simp
      have c2 : (w.alloc (.cells #[.int .u64 a, .int .u64 b] 24)).cell? ⟨w.heap.size, 1, none⟩ = some (.int .u64 b) := by go_simp
      refine (rgood_any a b wa wb _).mono ?_
      rw [G.out]
      rintro e wA ⟨rfl, hbA⟩
      have d1 := cell_later hbA c1
      have d2 := cell_later hbA c2
      have hBA := ((Below.refl _ _).alloc (Nat.le_refl _) _).trans (hbA.mono (by simp))
      clear c1 c2 hbA
      go_wp2_with fail
      refine (rceil_any a n b wa wn wb _).mono ?_
      rintro e wB ⟨rfl, hbB⟩
      generalize clQ (a * n) b = c at *
      by_cases hc : c = 0
      · subst hc
        go_wp2_with fail
        go_ret2
        exact ⟨ret_place (by rw [E.out.1]; rfl) E.out.2.symm, hBA.trans (hbB.mono hBA.size)⟩
      · have hc0 : (c == 0) = false := by simp [hc]
        go_wp2_with fail
        go_ret2
        exact ⟨ret_place (by rw [E.out.1, if_neg (by omega)]) E.out.2.symm, hBA.trans (hbB.mono hBA.size)⟩
end Go.Proofs.YtfmlkohijkalbaaGreat

/-
  The reference of layer 19: Quantile.
-/
namespace Go.Proofs.YtfmlkohijkalbaaGreat
set_option linter.unusedVariables false
set_option linter.unusedSimpArgs false
open Go.RowKit

/-- The closest one so far, as the reference keeps it. -/
structure PickG (t : Int) (S : List SpotV) (k : Nat) (b w : Int) : Prop where
  none_ : k = 0 → b = 18446744073709551615 ∧ w = 0
  some_ : 0 < k → ∃ c, closeS t none (S.take k) = some c ∧ w = c.x ∧ b = farS t c
theorem PickG.zero (t : Int) (S : List SpotV) : PickG t S 0 18446744073709551615 0 := ⟨fun _ => ⟨rfl, rfl⟩, fun h => absurd h (Nat.lt_irrefl _)⟩
theorem PickG.yes {t b w d : Int} {S : List SpotV} {k : Nat} {s : SpotV} (h : PickG t S k b w) (hs : S[k]? = some s) (hd : farS t s = d) (hlt : d < b) : PickG t S (k + 1) d s.x := by
  refine ⟨fun e => absurd e (by omega), fun _ => ⟨s, ?_, rfl, hd.symm⟩⟩
  rw [close_step hs]
  rcases Nat.eq_zero_or_pos k with e | e
  · subst e; rfl
  · obtain ⟨c, h1, h2, h3⟩ := h.some_ e
    rw [h1]
    show some (if farS t s < farS t c then s else c) = some s
    rw [if_pos (by omega)]
theorem PickG.no {t b w d : Int} {S : List SpotV} {k : Nat} {s : SpotV} (h : PickG t S k b w) (hs : S[k]? = some s) (hd : farS t s = d) (hm : d < 18446744073709551615) (hlt : ¬ d < b) : PickG t S (k + 1) b w := by
  rcases Nat.eq_zero_or_pos k with e | e
  · have := (h.none_ e).1
    omega
  · obtain ⟨c, h1, h2, h3⟩ := h.some_ e
    refine ⟨fun e => absurd e (by omega), fun _ => ⟨c, ?_, h2, h3⟩⟩
    rw [close_step hs, h1]
    show some (if farS t s < farS t c then s else c) = some c
    rw [if_neg (by omega)]
/-- The closest one's value; 0, if there is none. -/
def nearX (t : Int) (S : List SpotV) : Int := match closeS t none S with | none => 0 | some s => s.x
theorem PickG.end_ {t b w : Int} {S : List SpotV} {n : Nat} (h : PickG t S n b w) (hn : S.length = n) : w = nearX t S := by
  unfold nearX
  rcases Nat.eq_zero_or_pos n with e | e
  · have h1 := (h.none_ e).2
    have : S = [] := List.eq_nil_of_length_eq_zero (by omega)
    rw [this, h1]; rfl
  · obtain ⟨c, h1, h2, _⟩ := h.some_ e
    rw [List.take_of_length_le (by omega)] at h1
    rw [h1, h2]
/-- What Quantile answers, and leaves. -/
def quanW (u v pa pb : Int) (s : GwV) : Int × Int := if 0 < plE pa pb (totG s) then (0, plE pa pb (totG s)) else (nearX (plV pa pb (totG s)) (flushG u v s).1, 0)
def leftW (u v pa pb : Int) (s : GwV) : GwV := if 0 < plE pa pb (totG s) then s else flushG u v s
theorem ret_quan {a c x y : Int} (h : a = x) (h' : c = y) : Ending.returned (.tuple #[.int .i64 a, .int .i64 c]) = .returned (.tuple #[.int .i64 x, .int .i64 y]) := by rw [h, h']

end Go.Proofs.YtfmlkohijkalbaaGreat
/-
  What package greenwald is to do, told as properties of its calls.
-/
namespace Go.Proofs.YtfmlkohijkalbaaGreat
set_option linter.unusedVariables false
open Go.RowKit

/-- Can a closeness be? -/
def goodG (a b : Int) : Bool := decide (0 < a) && decide (b ≤ 2147483648) && decide (a ≤ b / 2)
theorem goodG_iff {a b : Int} : goodG a b = true ↔ GoodA a b := by
  unfold goodG
  constructor
  · intro h
    simp only [Bool.and_eq_true, decide_eq_true_eq] at h
    exact ⟨by omega, by omega, by omega⟩
  · rintro ⟨h1, h2, h3⟩
    simp only [Bool.and_eq_true, decide_eq_true_eq]
    omega
/-- Ends, behind a value more; joined. (as stage 17's addE, joinE) -/
def addW (e : Int × Int × Bool) (x : Int) : Int × Int × Bool := if e.2.2 = true then (min e.1 x, max e.2.1 x, true) else (x, x, true)
def joinW (e f : Int × Int × Bool) : Int × Int × Bool := if f.2.2 = true then (if e.2.2 = true then (min e.1 f.1, max e.2.1 f.2.1, true) else f) else e
/-- What can be loaded. -/
structure LoadW (u v : Int) (L : List TupV) (W : List Int) : Prop where
  part : GoodA u v
  row : GoodT L
  few : W.length < 16
  tight : ∀ p, p ∈ L → p.st + p.sl ≤ limG u v (sumT L)

/-- Gw w B S u v s e: at block B lies a sketch of closeness u / v whose spots and values that wait are s and whose ends are e; S are its blocks. -/
abbrev GwT := World → Nat → (Nat → Prop) → Int → Int → GwV → (Int × Int × Bool) → Prop
structure GwDoes (Gw : GwT) : Prop where
  keep : ∀ (w w' : World) (B : Nat) (S : Nat → Prop) (u v : Int) (s : GwV) (e : Int × Int × Bool), Gw w B S u v s e → (∀ i, S i → w'.heap[i]? = w.heap[i]?) → Gw w' B S u v s e
  lt : ∀ (w : World) (B : Nat) (S : Nat → Prop) (u v : Int) (s : GwV) (e : Int × Int × Bool), Gw w B S u v s e → ∀ i, S i → i < w.heap.size
  good : ∀ (w : World) (a b : Int), Word a → Word b → Calls Tryz.prog 60 #[.agg #[.int .u64 a, .int .u64 b]] w fun r w' => r = .returned (.bool (goodG a b)) ∧ Below w.heap.size w w'
  new : ∀ (w : World) (u v : Int), GoodA u v → Calls Tryz.prog 16 #[.agg #[.int .u64 u, .int .u64 v]] w fun r w' => ∃ B S, r = .returned (.tuple #[.pointer (some ⟨B, 0, none⟩), .int .i64 0]) ∧ Gw w' B S u v ([], []) (0, 0, false) ∧ (∀ i, S i → w.heap.size ≤ i) ∧ Below w.heap.size w w'
  bad : ∀ (w : World) (a b : Int), Word a → Word b → goodG a b = false → Calls Tryz.prog 16 #[.agg #[.int .u64 a, .int .u64 b]] w fun r w' => r = .returned (.tuple #[.pointer none, .int .i64 1]) ∧ Below w.heap.size w w'
  total : ∀ (w : World) (B : Nat) (S : Nat → Prop) (u v : Int) (s : GwV) (e : Int × Int × Bool), Gw w B S u v s e → Calls Tryz.prog 13 #[.pointer (some ⟨B, 0, none⟩)] w fun r w' => r = .returned (.int .u64 (totG s)) ∧ Below w.heap.size w w'
  flush : ∀ (w : World) (B : Nat) (S : Nat → Prop) (u v : Int) (s : GwV) (e : Int × Int × Bool), Gw w B S u v s e → Calls Tryz.prog 21 #[.pointer (some ⟨B, 0, none⟩)] w fun r w' => ∃ S', r = .returned (.tuple #[]) ∧ Gw w' B S' u v (flushG u v s) e ∧ Keeps S w w' ∧ (∀ i, S' i → S i ∨ w.heap.size ≤ i)
  put : ∀ (w : World) (B : Nat) (S : Nat → Prop) (u v : Int) (s : GwV) (e : Int × Int × Bool) (x : Int) (c : Nat), Gw w B S u v s e → I64 x → 0 < c → c ≤ 1024 → lenG s + c ≤ 5000 → totG s + c ≤ 4611686018427387904 → Calls Tryz.prog 17 #[.pointer (some ⟨B, 0, none⟩), .int .i64 x, .int .u64 c] w fun r w' => ∃ S', r = .returned (.int .i64 0) ∧ Gw w' B S' u v (putG u v s x c) (addW e x) ∧ Keeps S w w' ∧ (∀ i, S' i → S i ∨ w.heap.size ≤ i)
  zero : ∀ (w : World) (B : Nat) (S : Nat → Prop) (u v : Int) (s : GwV) (e : Int × Int × Bool) (x : Int), Gw w B S u v s e → I64 x → Calls Tryz.prog 17 #[.pointer (some ⟨B, 0, none⟩), .int .i64 x, .int .u64 0] w fun r w' => r = .returned (.int .i64 1) ∧ Below w.heap.size w w'
  long : ∀ (w : World) (B : Nat) (S : Nat → Prop) (u v : Int) (s : GwV) (e : Int × Int × Bool) (x c : Int), Gw w B S u v s e → I64 x → Word c → 1024 < c → Calls Tryz.prog 17 #[.pointer (some ⟨B, 0, none⟩), .int .i64 x, .int .u64 c] w fun r w' => r = .returned (.int .i64 3) ∧ Below w.heap.size w w'
  join : ∀ (w : World) (B : Nat) (S : Nat → Prop) (u v : Int) (s : GwV) (e : Int × Int × Bool) (B' : Nat) (S' : Nat → Prop) (s' : GwV) (e' : Int × Int × Bool), Gw w B S u v s e → Gw w B' S' u v s' e' → (∀ i, S i → ¬ S' i) → lenG s + lenG s' ≤ 5000 → totG s + totG s' ≤ 4611686018427387904 → Calls Tryz.prog 6 #[.pointer (some ⟨B, 0, none⟩), (.pointer (some ⟨B', 0, none⟩))] w fun r w' => ∃ S2, r = .returned (.int .i64 0) ∧ Gw w' B S2 u v (joinG u v s s') (joinW e e') ∧ Keeps S w w' ∧ (∀ i, S2 i → S i ∨ w.heap.size ≤ i)
  match_ : ∀ (w : World) (B : Nat) (S : Nat → Prop) (u v : Int) (s : GwV) (e : Int × Int × Bool) (B' : Nat) (S' : Nat → Prop) (u' v' : Int) (s' : GwV) (e' : Int × Int × Bool), Gw w B S u v s e → Gw w B' S' u' v' s' e' → (u ≠ u' ∨ v ≠ v') → Calls Tryz.prog 6 #[.pointer (some ⟨B, 0, none⟩), (.pointer (some ⟨B', 0, none⟩))] w fun r w' => r = .returned (.int .i64 8) ∧ Below w.heap.size w w'
  join_nil : ∀ (w : World) (B : Nat) (S : Nat → Prop) (u v : Int) (s : GwV) (e : Int × Int × Bool), Gw w B S u v s e → Calls Tryz.prog 6 #[.pointer (some ⟨B, 0, none⟩), .pointer none] w fun r w' => r = .returned (.int .i64 2) ∧ Below w.heap.size w w'
  quantile : ∀ (w : World) (B : Nat) (S : Nat → Prop) (u v : Int) (s : GwV) (e : Int × Int × Bool) (pa pb : Int), Gw w B S u v s e → Word pa → Word pb → Calls Tryz.prog 14 #[.pointer (some ⟨B, 0, none⟩), .agg #[.int .u64 pa, .int .u64 pb]] w fun r w' => ∃ S', r = .returned (.tuple #[.int .i64 (quanW u v pa pb s).1, .int .i64 (quanW u v pa pb s).2]) ∧ Gw w' B S' u v (leftW u v pa pb s) e ∧ Keeps S w w' ∧ (∀ i, S' i → S i ∨ w.heap.size ≤ i)
  ends : ∀ (w : World) (B : Nat) (S : Nat → Prop) (u v : Int) (s : GwV) (x y : Int) (z : Bool), Gw w B S u v s (x, y, z) → Calls Tryz.prog 9 #[.pointer (some ⟨B, 0, none⟩)] w fun r w' => r = .returned (.tuple #[.int .i64 x, .int .i64 y, .bool z]) ∧ Below w.heap.size w w'
  row : ∀ (w : World) (B : Nat) (S : Nat → Prop) (u v : Int) (s : GwV) (e : Int × Int × Bool), Gw w B S u v s e → Calls Tryz.prog 30 #[.pointer (some ⟨B, 0, none⟩)] w fun r w' => ∃ A1 c1 A2 c2, r = .returned (.tuple #[.slice A1 s.1.length c1, .slice A2 s.2.length c2]) ∧ Tups w' A1 (rowT 0 s.1) ∧ Nums w' A2 s.2 ∧ Below w.heap.size w w'
  load : ∀ (w : World) (u v : Int) (A1 : Option Addr) (c1 : Nat) (L : List TupV) (A2 : Option Addr) (c2 : Nat) (W : List Int), Word u → Word v → Tups w A1 L → Nums w A2 W → L.length ≤ 500 → W.length ≤ 500 → (sumT L ≤ 9223372036854775807 → sumT L < 4611686018427387904) → LoadW u v L W → Calls Tryz.prog 44 #[.agg #[.int .u64 u, .int .u64 v], .slice A1 L.length c1, .slice A2 W.length c2] w fun r w' => ∃ B S e, r = .returned (.tuple #[.pointer (some ⟨B, 0, none⟩), .int .i64 0]) ∧ Gw w' B S u v (spotsT 0 L, W) e ∧ (∀ i, S i → w.heap.size ≤ i) ∧ Below w.heap.size w w'
  unfit : ∀ (w : World) (u v : Int) (A1 : Option Addr) (c1 : Nat) (L : List TupV) (A2 : Option Addr) (c2 : Nat) (W : List Int), Word u → Word v → Tups w A1 L → Nums w A2 W → L.length ≤ 500 → W.length ≤ 500 → (sumT L ≤ 9223372036854775807 → sumT L < 4611686018427387904) → ¬ LoadW u v L W → Calls Tryz.prog 44 #[.agg #[.int .u64 u, .int .u64 v], .slice A1 L.length c1, .slice A2 W.length c2] w fun r w' => r = .returned (.tuple #[.pointer none, .int .i64 1]) ∧ Below w.heap.size w w'
theorem GwDoes.call {Gw : GwT} (D : GwDoes Gw) {w w' : World} {B : Nat} {S : Nat → Prop} {u v : Int} {s : GwV} {e : Int × Int × Bool} (h : Gw w B S u v s e) (hb : Below w.heap.size w w') : Gw w' B S u v s e :=
  D.keep w w' B S u v s e h fun i hi => hb.block i (D.lt _ _ _ _ _ _ _ h i hi)
theorem GwDoes.past {Gw : GwT} (D : GwDoes Gw) {w w' : World} {B : Nat} {S S0 : Nat → Prop} {u v : Int} {s : GwV} {e : Int × Int × Bool} (h : Gw w B S u v s e) (hk : Keeps S0 w w') (hS : ∀ i, S i → ¬ S0 i) : Gw w' B S u v s e :=
  D.keep w w' B S u v s e h fun i hi => hk.block i (D.lt _ _ _ _ _ _ _ h i hi) (hS i hi)

/-- A nil sketch. -/
structure GwNil : Prop where
  flush : ∀ (w : World), Calls Tryz.prog 21 #[.pointer none] w fun r w' => r = .returned (.tuple #[]) ∧ Below w.heap.size w w'
  ends : ∀ (w : World), Calls Tryz.prog 9 #[.pointer none] w fun r w' => r = .returned (.tuple #[.int .i64 0, .int .i64 0, .bool false]) ∧ Below w.heap.size w w'
  quantile : ∀ (w : World) (pa pb : Int), Word pa → Word pb → Calls Tryz.prog 14 #[.pointer none, .agg #[.int .u64 pa, .int .u64 pb]] w fun r w' => r = .returned (.tuple #[.int .i64 0, .int .i64 2]) ∧ Below w.heap.size w w'
  row : ∀ (w : World), Calls Tryz.prog 30 #[.pointer none] w fun r w' => ∃ A1 c1 A2 c2, r = .returned (.tuple #[.slice A1 0 c1, .slice A2 0 c2]) ∧ Below w.heap.size w w'
  put : ∀ (w : World) (x c : Int), I64 x → Word c → Calls Tryz.prog 17 #[.pointer none, .int .i64 x, .int .u64 c] w fun r w' => r = .returned (.int .i64 2) ∧ Below w.heap.size w w'
  join : ∀ (w : World), Calls Tryz.prog 6 #[.pointer none, .pointer none] w fun r w' => r = .returned (.int .i64 2) ∧ Below w.heap.size w w'
  total : ∀ (w : World), Calls Tryz.prog 13 #[.pointer none] w fun r w' => r = .returned (.int .u64 0) ∧ Below w.heap.size w w'
end Go.Proofs.YtfmlkohijkalbaaGreat

/-
  Plain mathematics of the landed sketch: its ends, of the values of its row and of those that wait.
-/
namespace Go.Proofs.YtfmlkohijkalbaaGreat
set_option linter.unusedVariables false
set_option linter.unusedSimpArgs false

/-- The least and the greatest one of some values. -/
def EndP (L : List Int) (e : Int × Int × Bool) : Prop := (L = [] ∧ e = (0, 0, false)) ∨ (e.1 ∈ L ∧ e.2.1 ∈ L ∧ e.2.2 = true ∧ ∀ x, x ∈ L → e.1 ≤ x ∧ x ≤ e.2.1)
theorem EndP.nil : EndP [] (0, 0, false) := Or.inl ⟨rfl, rfl⟩
theorem EndP.flag {L : List Int} {e : Int × Int × Bool} (h : EndP L e) : e.2.2 = true ↔ L ≠ [] := by
  rcases h with ⟨h1, h2⟩ | ⟨h1, h2, h3, h4⟩
  · rw [h2, h1]; simp
  · exact ⟨fun _ c => (by rw [c] at h1; cases h1), fun _ => h3⟩
theorem EndP.sub {L M : List Int} {e : Int × Int × Bool} (h : EndP L e) (hs : ∀ x, x ∈ M → x ∈ L) (hm : L ≠ [] → e.1 ∈ M ∧ e.2.1 ∈ M) : EndP M e := by
  rcases h with ⟨h1, h2⟩ | ⟨h1, h2, h3, h4⟩
  · subst h1
    exact Or.inl ⟨List.eq_nil_iff_forall_not_mem.2 fun x hx => (by have := hs x hx; cases this), h2⟩
  · have hm := hm fun c => by rw [c] at h1; cases h1
    exact Or.inr ⟨hm.1, hm.2, h3, fun x hx => h4 x (hs x hx)⟩
theorem EndP.same {L M : List Int} {e : Int × Int × Bool} (h : EndP L e) (hs : ∀ x, x ∈ M ↔ x ∈ L) : EndP M e := by
  refine h.sub (fun x hx => (hs x).1 hx) fun hne => ?_
  rcases h with ⟨h1, h2⟩ | ⟨h1, h2, h3, h4⟩
  · exact absurd h1 hne
  · exact ⟨(hs _).2 h1, (hs _).2 h2⟩
theorem EndP.snoc {L : List Int} {e : Int × Int × Bool} (h : EndP L e) (x : Int) : EndP (L ++ [x]) (addW e x) := by
  unfold addW
  rcases h with ⟨h1, h2⟩ | ⟨h1, h2, h3, h4⟩
  · subst h1
    rw [h2]
    refine Or.inr ⟨by simp, by simp, by simp, fun y hy => ?_⟩
    have : y = x := by simpa using hy
    subst this
    simp
  · rw [if_pos h3]
    refine Or.inr ⟨?_, ?_, rfl, fun y hy => ?_⟩
    · show min e.1 x ∈ _
      rcases Int.le_total e.1 x with c | c
      · rw [Int.min_eq_left c]; exact List.mem_append_left _ h1
      · rw [Int.min_eq_right c]; simp
    · show max e.2.1 x ∈ _
      rcases Int.le_total e.2.1 x with c | c
      · rw [Int.max_eq_right c]; simp
      · rw [Int.max_eq_left c]; exact List.mem_append_left _ h2
    · show min e.1 x ≤ y ∧ y ≤ max e.2.1 x
      rcases List.mem_append.1 hy with c | c
      · have := h4 y c; omega
      · have := List.mem_singleton.1 c; omega
theorem EndP.app {L M : List Int} {e f : Int × Int × Bool} (h : EndP L e) (k : EndP M f) : EndP (L ++ M) (joinW e f) := by
  unfold joinW
  rcases k with ⟨k1, k2⟩ | ⟨k1, k2, k3, k4⟩
  · subst k1
    rw [k2, if_neg (by decide), List.append_nil]
    exact h
  · rw [if_pos k3]
    rcases h with ⟨h1, h2⟩ | ⟨h1, h2, h3, h4⟩
    · subst h1
      rw [h2, if_neg (by decide), List.nil_append]
      exact Or.inr ⟨k1, k2, k3, k4⟩
    · rw [if_pos h3]
      refine Or.inr ⟨?_, ?_, rfl, fun y hy => ?_⟩
      · show min e.1 f.1 ∈ _
        rcases Int.le_total e.1 f.1 with c | c
        · rw [Int.min_eq_left c]; exact List.mem_append_left _ h1
        · rw [Int.min_eq_right c]; exact List.mem_append_right _ k1
      · show max e.2.1 f.2.1 ∈ _
        rcases Int.le_total e.2.1 f.2.1 with c | c
        · rw [Int.max_eq_right c]; exact List.mem_append_right _ k2
        · rw [Int.max_eq_left c]; exact List.mem_append_left _ h2
      · show min e.1 f.1 ≤ y ∧ y ≤ max e.2.1 f.2.1
        rcases List.mem_append.1 hy with c | c
        · have := h4 y c; omega
        · have := k4 y c; omega
/-- Of some values there are ends. -/
theorem EndP.ex : ∀ (n : Nat) (L : List Int), L.length = n → ∃ e, EndP L e
  | 0, L, hn => ⟨(0, 0, false), by rw [List.eq_nil_of_length_eq_zero hn]; exact EndP.nil⟩
  | n + 1, L, hn => by
    have hne : L ≠ [] := fun e => by rw [e] at hn; cases hn
    obtain ⟨e, he⟩ := EndP.ex n L.dropLast (by rw [List.length_dropLast]; omega)
    have := he.snoc (L.getLast hne)
    rw [List.dropLast_concat_getLast] at this
    exact ⟨_, this⟩
theorem addW_twice (e : Int × Int × Bool) (x : Int) : addW (addW e x) x = addW e x := by
  unfold addW
  by_cases c : e.2.2 = true
  · rw [if_pos c, if_pos rfl]
    simp only
    rw [Int.min_assoc, Int.min_self, Int.max_assoc, Int.max_self]
  · rw [if_neg c, if_pos rfl]
    simp

/-! ### Of spots -/
def xsS (S : List SpotV) : List Int := S.map SpotV.x
theorem xs_mem {S : List SpotV} {x : Int} : x ∈ xsS S ↔ ∃ s, s ∈ S ∧ s.x = x := List.mem_map
theorem xs_ins {n : Int} {S : List SpotV} (h : SpotsP 0 n S) (x y : Int) : y ∈ xsS (insS S x) ↔ y ∈ xsS S ∨ y = x := by
  have hp := part_x x h
  rw [xs_mem, xs_mem]
  constructor
  · rintro ⟨s, hs, rfl⟩
    rcases insS_x s hs with e | ⟨t, ht, e⟩
    · exact Or.inr e
    · exact Or.inl ⟨t, ht, e.symm⟩
  · rintro (⟨s, hs, rfl⟩ | rfl)
    · rw [hp] at hs
      rcases List.mem_append.1 hs with c | c
      · exact ⟨s, List.mem_append_left _ c, rfl⟩
      · refine ⟨⟨s.x, s.lo + 1, s.hi + 1⟩, List.mem_append_right _ (List.mem_cons_of_mem _ ?_), rfl⟩
        exact List.mem_map.2 ⟨s, c, rfl⟩
    · exact ⟨_, List.mem_append_right _ List.mem_cons_self, newS_x _ _ _⟩
theorem xs_insL {y : Int} : ∀ {L : List Int} {n : Int} {S : List SpotV}, SpotsP 0 n S → (y ∈ xsS (L.foldl insS S) ↔ y ∈ xsS S ∨ y ∈ L)
  | [], n, S, h => by simp
  | x :: r, n, S, h => by
    rw [List.foldl_cons, xs_insL (h.ins x), xs_ins h, List.mem_cons, or_assoc]
theorem sqzR_last (lim : Int) : ∀ (r : List SpotV) (p : SpotV), (sqzR lim p r).getLast? = r.getLast?
  | [], p => rfl
  | [s], p => rfl
  | s :: t :: r, p => by
    have ih := sqzR_last lim (t :: r) s
    have hne := sqzR_ne lim (t :: r) s (by simp)
    unfold sqzR
    split
    · rw [ih, List.getLast?_cons_cons]
    · cases hq : sqzR lim s (t :: r) with
      | nil => exact absurd hq hne
      | cons q R => rw [List.getLast?_cons_cons, ← hq, ih, List.getLast?_cons_cons]
theorem sqzS_last (lim : Int) (S : List SpotV) : (sqzS lim S).getLast? = S.getLast? := by
  cases S with
  | nil => rfl
  | cons s r =>
    show (s :: sqzR lim s r).getLast? = _
    cases r with
    | nil => rfl
    | cons t q =>
      have hne := sqzR_ne lim (t :: q) s (by simp)
      have hl := sqzR_last lim (t :: q) s
      cases hq : sqzR lim s (t :: q) with
      | nil => exact absurd hq hne
      | cons u R => rw [List.getLast?_cons_cons, ← hq, hl, List.getLast?_cons_cons]
theorem spots_last : ∀ {S : List SpotV} {a n : Int} {l : SpotV}, SpotsP a n S → S.getLast? = some l → ∀ s, s ∈ S → s.x ≤ l.x
  | [], a, n, l, h, hl, s, hs => by cases hs
  | [t], a, n, l, h, hl, s, hs => by
    have e : t = l := Option.some.inj hl
    rw [← e, List.mem_singleton.1 hs]; exact Int.le_refl _
  | t :: u :: r, a, n, l, h, hl, s, hs => by
    rw [List.getLast?_cons_cons] at hl
    rcases List.mem_cons.1 hs with e | e
    · subst e
      exact SpotsP.x_le h l (List.mem_of_mem_getLast? hl)
    · exact spots_last h.2.2.2.2 hl s e
theorem spots_first {S : List SpotV} {a n : Int} {f : SpotV} (h : SpotsP a n S) (hf : S.head? = some f) : ∀ s, s ∈ S → f.x ≤ s.x := by
  cases S with
  | nil => cases hf
  | cons t r =>
    have e : t = f := Option.some.inj hf
    subst e
    intro s hs
    rcases List.mem_cons.1 hs with c | c
    · rw [c]; exact Int.le_refl _
    · exact SpotsP.x_le h s c
/-- The ends of a row in order, and of more, are those of its first, its last and the more. -/
theorem EndP.short {S : List SpotV} {a n : Int} {W : List Int} {e : Int × Int × Bool} {f l : SpotV} (h : EndP (xsS S ++ W) e) (hs : SpotsP a n S) (hf : S.head? = some f) (hl : S.getLast? = some l) {M : List Int} (hM : ∀ x, x ∈ M → x ∈ xsS S) (h1 : f.x ∈ M) (h2 : l.x ∈ M) : EndP (M ++ W) e := by
  have hfm : f.x ∈ xsS S := xs_mem.2 ⟨f, List.mem_of_mem_head? hf, rfl⟩
  have hlm : l.x ∈ xsS S := xs_mem.2 ⟨l, List.mem_of_mem_getLast? hl, rfl⟩
  refine h.sub (fun x hx => ?_) fun hne => ?_
  · rcases List.mem_append.1 hx with c | c
    · exact List.mem_append_left _ (hM x c)
    · exact List.mem_append_right _ c
  · rcases h with ⟨k1, k2⟩ | ⟨k1, k2, k3, k4⟩
    · exact absurd k1 hne
    · constructor
      · rcases List.mem_append.1 k1 with c | c
        · obtain ⟨s, hsm, hx⟩ := xs_mem.1 c
          have i1 := spots_first hs hf s hsm
          have i2 := (k4 f.x (List.mem_append_left _ hfm)).1
          rw [show e.1 = f.x by omega]
          exact List.mem_append_left _ h1
        · exact List.mem_append_right _ c
      · rcases List.mem_append.1 k2 with c | c
        · obtain ⟨s, hsm, hx⟩ := xs_mem.1 c
          have i1 := spots_last hs hl s hsm
          have i2 := (k4 l.x (List.mem_append_left _ hlm)).2
          rw [show e.2.1 = l.x by omega]
          exact List.mem_append_left _ h2
        · exact List.mem_append_right _ c
theorem EndP.sqz {S : List SpotV} {a n lim : Int} {W : List Int} {e : Int × Int × Bool} (h : EndP (xsS S ++ W) e) (hs : SpotsP a n S) : EndP (xsS (sqzS lim S) ++ W) e := by
  cases S with
  | nil => exact h
  | cons s r =>
    cases hl : (s :: r).getLast? with
    | none => simp at hl
    | some l =>
      have hl2 : (sqzS lim (s :: r)).getLast? = some l := by rw [sqzS_last, hl]
      refine h.short hs rfl hl (fun x hx => ?_) ?_ ?_
      · obtain ⟨t, ht, e⟩ := xs_mem.1 hx
        exact xs_mem.2 ⟨t, (sqzS_sub lim _).subset ht, e⟩
      · exact xs_mem.2 ⟨s, by unfold sqzS; exact List.mem_cons_self, rfl⟩
      · exact xs_mem.2 ⟨l, List.mem_of_mem_getLast? hl2, rfl⟩
theorem mrg_has {ta tb : Int} : ∀ (n : Nat) (la lb : Int) (a b : List SpotV), a.length + b.length ≤ n → ∀ u, u ∈ a ∨ u ∈ b → u.x ∈ xsS (mrgS ta tb la lb a b)
  | n, la, lb, [], [], _, u, hu => by rcases hu with c | c <;> cases c
  | 0, la, lb, s :: r, b, hn, u, hu => by simp at hn
  | 0, la, lb, [], t :: q, hn, u, hu => by simp at hn
  | n + 1, la, lb, s :: r, [], hn, u, hu => by
    have ih := mrg_has (ta := ta) (tb := tb) n s.lo lb r [] (by simp at hn ⊢; omega) u
    unfold mrgS
    rcases hu with c | c
    · rcases List.mem_cons.1 c with c | c
      · rw [c]; exact List.mem_cons_self
      · exact List.mem_cons_of_mem _ (ih (Or.inl c))
    · cases c
  | n + 1, la, lb, [], t :: q, hn, u, hu => by
    have ih := mrg_has (ta := ta) (tb := tb) n la t.lo [] q (by simp at hn ⊢; omega) u
    unfold mrgS
    rcases hu with c | c
    · cases c
    · rcases List.mem_cons.1 c with c | c
      · rw [c]; exact List.mem_cons_self
      · exact List.mem_cons_of_mem _ (ih (Or.inr c))
  | n + 1, la, lb, s :: r, t :: q, hn, u, hu => by
    have i1 := mrg_has (ta := ta) (tb := tb) n s.lo lb r (t :: q) (by simp at hn ⊢; omega) u
    have i2 := mrg_has (ta := ta) (tb := tb) n la t.lo (s :: r) q (by simp at hn ⊢; omega) u
    unfold mrgS
    split
    · rcases hu with c | c
      · rcases List.mem_cons.1 c with c | c
        · rw [c]; exact List.mem_cons_self
        · exact List.mem_cons_of_mem _ (i1 (Or.inl c))
      · exact List.mem_cons_of_mem _ (i1 (Or.inr c))
    · rcases hu with c | c
      · exact List.mem_cons_of_mem _ (i2 (Or.inl c))
      · rcases List.mem_cons.1 c with c | c
        · rw [c]; exact List.mem_cons_self
        · exact List.mem_cons_of_mem _ (i2 (Or.inr c))
theorem xs_merge (a b : List SpotV) (x : Int) : x ∈ xsS (mergeS a b) ↔ x ∈ xsS a ∨ x ∈ xsS b := by
  constructor
  · intro h
    obtain ⟨u, hu, e⟩ := xs_mem.1 h
    rcases mrg_mem _ _ _ a b (Nat.le_refl _) u hu with ⟨s, hs, e2⟩ | ⟨s, hs, e2⟩
    · exact Or.inl (xs_mem.2 ⟨s, hs, by rw [← e2, e]⟩)
    · exact Or.inr (xs_mem.2 ⟨s, hs, by rw [← e2, e]⟩)
  · rintro (h | h)
    · obtain ⟨u, hu, rfl⟩ := xs_mem.1 h
      exact mrg_has _ 0 0 a b (Nat.le_refl _) u (Or.inl hu)
    · obtain ⟨u, hu, rfl⟩ := xs_mem.1 h
      exact mrg_has _ 0 0 a b (Nat.le_refl _) u (Or.inr hu)

/-! ### Of a sketch -/
/-- What a sketch's ends are. -/
def EndG (s : GwV) (e : Int × Int × Bool) : Prop := EndP (xsS s.1 ++ s.2) e
theorem EndG.nil : EndG ([], []) (0, 0, false) := EndP.nil
theorem EndG.flush {u v : Int} {s : GwV} {e : Int × Int × Bool} (h : EndG s e) (hc : SpotsP 0 (totS s.1) s.1) : EndG (flushG u v s) e := by
  unfold flushG
  split
  · exact h
  · have hf := (foldS_can (L := sortI s.2) hc).1
    have h2 : EndP (xsS ((sortI s.2).foldl insS s.1) ++ []) e := by
      refine h.same fun x => ?_
      rw [List.append_nil, xs_insL hc, List.mem_append, sortI_mem]
    exact h2.sqz hf
theorem EndG.put1 {u v : Int} {s : GwV} {e : Int × Int × Bool} (h : EndG s e) (hc : SpotsP 0 (totS s.1) s.1) (x : Int) : EndG (put1G u v s x) (addW e x) := by
  have h2 : EndG (s.1, s.2 ++ [x]) (addW e x) := by
    have := h.snoc x
    rw [List.append_assoc] at this
    exact this
  unfold put1G
  split
  · exact h2.flush hc
  · exact h2
theorem EndG.join {u v : Int} {s t : GwV} {e f : Int × Int × Bool} (h : EndG s e) (k : EndG t f) (hs : SpotsP 0 (totS s.1) s.1) (ht : SpotsP 0 (totS t.1) t.1) (es : (flushG u v s).2 = []) (et : (flushG u v t).2 = []) (cs : SpotsP 0 (totS (flushG u v s).1) (flushG u v s).1) (ct : SpotsP 0 (totS (flushG u v t).1) (flushG u v t).1) : EndG (joinG u v s t) (joinW e f) := by
  have h1 := h.flush (u := u) (v := v) hs
  have k1 := k.flush (u := u) (v := v) ht
  unfold EndG at h1 k1
  rw [es, List.append_nil] at h1
  rw [et, List.append_nil] at k1
  have h2 : EndP (xsS (mergeS (flushG u v s).1 (flushG u v t).1) ++ []) (joinW e f) := by
    refine (h1.app k1).same fun x => ?_
    rw [List.append_nil, xs_merge, List.mem_append]
  exact h2.sqz (SpotsP.merge cs ct)
/-- What is found among some values, least and greatest, are the ends. -/
theorem EndP.is {L : List Int} {x y : Int} {z : Bool} {m g : Int} (h : EndP L (x, y, z)) (hne : L ≠ []) (hm : m ∈ L) (hm2 : ∀ a, a ∈ L → m ≤ a) (hg : g ∈ L) (hg2 : ∀ a, a ∈ L → a ≤ g) : m = x ∧ g = y ∧ z = true := by
  rcases h with ⟨k1, k2⟩ | ⟨k1, k2, k3, k4⟩
  · exact absurd k1 hne
  · have a1 := k4 m hm
    have a2 := k4 g hg
    have a3 := hm2 x k1
    have a4 := hg2 y k2
    simp only at a1 a2
    exact ⟨by omega, by omega, k3⟩
/-! ### Bounds -/
/-- What a landed sketch's spots and values that wait are. -/
structure OkX (s : GwV) : Prop where
  sp : ∀ x, x ∈ s.1 → I64 x.x
  wt : ∀ x, x ∈ s.2 → I64 x
  can : SpotsP 0 (totS s.1) s.1
  first : FirstS s.1
  sl : s.1.length + s.2.length ≤ 5000
  wl : s.2.length ≤ 16
  tot : totG s ≤ 9223372036854775807
theorem OkX.nil : OkX ([], []) := ⟨fun x h => (by cases h), fun x h => (by cases h), rfl, FirstS.nil, by decide, by decide, by decide⟩
theorem row_okX {n : Int} {S : List SpotV} (h : SpotsP 0 n S) (hn : n ≤ 9223372036854775807) (hx : ∀ s, s ∈ S → I64 s.x) : ∀ p, p ∈ rowT 0 S → okTu p := fun p hp => by
  obtain ⟨s, hs, e⟩ := row_mem S 0 p hp
  obtain ⟨b1, b2, b3, b4⟩ := row_bd h (Int.le_refl _) p hp
  exact ⟨by rw [e]; exact hx s hs, ⟨by omega, by omega⟩, b3, by omega⟩
theorem row_goodX {n : Int} {S : List SpotV} (h : SpotsP 0 n S) (hn : n ≤ 9223372036854775807) (hf : FirstS S) : GoodT (rowT 0 S) := by
  have e := sum_row h
  exact ⟨by omega, by rw [spots_row, e]; exact h, by rw [spots_row]; exact hf⟩
theorem foldS_first {n : Int} : ∀ {L : List Int} {S : List SpotV}, SpotsP 0 n S → FirstS S → FirstS (L.foldl insS S)
  | [], S, _, hf => hf
  | x :: r, S, h, hf => by
    rw [List.foldl_cons]
    exact foldS_first (n := n + 1) (L := r) (h.ins x) (hf.ins h x)
theorem OkX.le {s : GwV} (h : OkX s) : 0 ≤ totS s.1 ∧ totS s.1 ≤ totG s := by
  have := h.can.le
  unfold totG
  omega
theorem OkX.flush {u v : Int} {s : GwV} (h : OkX s) : OkX (flushG u v s) ∧ totG (flushG u v s) = totG s ∧ lenG (flushG u v s) ≤ lenG s ∧ (flushG u v s).2 = [] := by
  by_cases c : s.2 = []
  · have e : flushG u v s = s := by unfold flushG; rw [if_pos c]
    rw [e]; exact ⟨h, rfl, Nat.le_refl _, c⟩
  · have e : flushG u v s = (sqzS (limG u v (totG s)) ((sortI s.2).foldl insS s.1), []) := by unfold flushG; rw [if_neg c]
    obtain ⟨f1, f2⟩ := foldS_can (L := sortI s.2) h.can
    have f3 := foldS_first (L := sortI s.2) h.can h.first
    rw [sortI_len] at f1 f2
    have hq := f1.sqz (lim := limG u v (totG s))
    have hf := f3.sqz (lim := limG u v (totG s))
    have hx := foldS_x (L := sortI s.2) (P := I64) (fun q hq => h.sp q hq) (fun y hy => h.wt y (sortI_mem.1 hy))
    have htb := h.tot
    have hsub := sqzS_sub (limG u v (totG s)) ((sortI s.2).foldl insS s.1)
    have hle := hsub.length_le
    rw [f2] at hle
    have hsp : ∀ q, q ∈ sqzS (limG u v (totG s)) ((sortI s.2).foldl insS s.1) → I64 q.x := fun q hq' => hx q (hsub.subset hq')
    rw [e]
    have et : totS (sqzS (limG u v (totG s)) ((sortI s.2).foldl insS s.1)) = totS s.1 + (s.2.length : Int) := tot_can hq
    generalize sqzS (limG u v (totG s)) ((sortI s.2).foldl insS s.1) = Q at *
    have hsl := h.sl
    have hwl := h.wl
    refine ⟨⟨hsp, fun x hx => (by cases hx), by rw [et]; exact hq, hf, ?_, by show ([] : List Int).length ≤ 16; decide, ?_⟩, ?_, ?_, rfl⟩
    · show Q.length + ([] : List Int).length ≤ 5000
      simp; omega
    · show totS Q + (([] : List Int).length : Int) ≤ _
      rw [et]; unfold totG at htb; simpa using htb
    · show totS Q + (([] : List Int).length : Int) = totS s.1 + (s.2.length : Int)
      rw [et]; simp
    · show Q.length + ([] : List Int).length ≤ s.1.length + s.2.length
      simpa using hle
theorem OkX.more {s : GwV} {x : Int} (h : OkX s) (hx : I64 x) (hf : s.2.length < 16) (hl : lenG s + 1 ≤ 5000) (ht : totG s + 1 ≤ 9223372036854775807) : OkX (s.1, s.2 ++ [x]) := by
  unfold lenG at hl
  refine ⟨h.sp, fun y hy => ?_, h.can, h.first, ?_, ?_, ?_⟩
  · rcases List.mem_append.1 hy with h1 | h1
    · exact h.wt y h1
    · rw [List.mem_singleton.1 h1]; exact hx
  · show s.1.length + (s.2 ++ [x]).length ≤ 5000
    rw [List.length_append]; simp; omega
  · show (s.2 ++ [x]).length ≤ 16
    rw [List.length_append]; simp; omega
  · unfold totG at ht ⊢
    simp; omega
theorem OkX.put1 {u v : Int} {s : GwV} {x : Int} (h : OkX s) (hx : I64 x) (hf : s.2.length < 16) (hl : lenG s + 1 ≤ 5000) (ht : totG s + 1 ≤ 9223372036854775807) :
    OkX (put1G u v s x) ∧ totG (put1G u v s x) = totG s + 1 ∧ lenG (put1G u v s x) ≤ lenG s + 1 ∧ (put1G u v s x).2.length < 16 := by
  have hm := h.more hx hf hl ht
  have et : totG (s.1, s.2 ++ [x]) = totG s + 1 := by unfold totG; simp; omega
  have el : lenG (s.1, s.2 ++ [x]) = lenG s + 1 := by unfold lenG; simp; omega
  unfold put1G
  by_cases c : s.2.length + 1 = 16
  · rw [if_pos c]
    obtain ⟨h1, h2, h3, h4⟩ := OkX.flush (u := u) (v := v) hm
    exact ⟨h1, by rw [h2, et], by rw [el] at h3; exact h3, by rw [h4]; decide⟩
  · rw [if_neg c]
    exact ⟨hm, et, by rw [el]; exact Nat.le_refl _, by show (s.2 ++ [x]).length < 16; rw [List.length_append]; simp; omega⟩
theorem OkX.put {u v : Int} {s : GwV} {x : Int} (h : OkX s) (hx : I64 x) (hf : s.2.length < 16) : ∀ n : Nat, lenG s + n ≤ 5000 → totG s + n ≤ 9223372036854775807 →
    OkX (putG u v s x n) ∧ totG (putG u v s x n) = totG s + n ∧ lenG (putG u v s x n) ≤ lenG s + n ∧ (putG u v s x n).2.length < 16
  | 0, _, _ => ⟨h, by show totG s = totG s + ((0 : Nat) : Int); simp, Nat.le_refl _, hf⟩
  | n + 1, hl, ht => by
    obtain ⟨h1, h2, h3, h4⟩ := OkX.put (u := u) (v := v) h hx hf n (by omega) (by omega)
    obtain ⟨k1, k2, k3, k4⟩ := OkX.put1 (u := u) (v := v) h1 hx h4 (by omega) (by omega)
    exact ⟨k1, by show totG (put1G u v (putG u v s x n) x) = _; omega, by show lenG (put1G u v (putG u v s x n) x) ≤ _; omega, k4⟩
theorem EndG.put {u v : Int} {s : GwV} {e : Int × Int × Bool} {x : Int} (h : EndG s e) (ok : OkX s) (hx : I64 x) (hf : s.2.length < 16) : ∀ n : Nat, lenG s + (n + 1) ≤ 5000 → totG s + (n + 1 : Nat) ≤ 9223372036854775807 → EndG (putG u v s x (n + 1)) (addW e x)
  | 0, _, _ => h.put1 ok.can x
  | n + 1, hl, ht => by
    have ih := EndG.put (u := u) (v := v) h ok hx hf n (by omega) (by omega)
    obtain ⟨h1, _, _, _⟩ := OkX.put (u := u) (v := v) ok hx hf (n + 1) (by omega) (by omega)
    have := ih.put1 (u := u) (v := v) h1.can x
    rw [addW_twice] at this
    exact this
theorem OkX.join {u v : Int} {s t : GwV} (hs : OkX s) (ht : OkX t) (hl : lenG s + lenG t ≤ 5000) (hn : totG s + totG t ≤ 9223372036854775807) :
    OkX (joinG u v s t) ∧ totG (joinG u v s t) = totG s + totG t ∧ lenG (joinG u v s t) ≤ lenG s + lenG t ∧ (joinG u v s t).2 = [] := by
  obtain ⟨s1, s2, s3, s4⟩ := OkX.flush (u := u) (v := v) hs
  obtain ⟨t1, t2, t3, t4⟩ := OkX.flush (u := u) (v := v) ht
  obtain ⟨S, hS⟩ : ∃ S, flushG u v s = S := ⟨_, rfl⟩
  obtain ⟨T, hT⟩ : ∃ T, flushG u v t = T := ⟨_, rfl⟩
  have e : joinG u v s t = (sqzS (limG u v (totS S.1 + totS T.1)) (mergeS S.1 T.1), []) := by unfold joinG; rw [hS, hT]
  rw [hS] at s1 s2 s3 s4
  rw [hT] at t1 t2 t3 t4
  have es : totG S = totS S.1 := by unfold totG; rw [s4]; simp
  have et : totG T = totS T.1 := by unfold totG; rw [t4]; simp
  have ls : lenG S = S.1.length := by unfold lenG; rw [s4]; simp
  have lt : lenG T = T.1.length := by unfold lenG; rw [t4]; simp
  have hm := SpotsP.merge s1.can t1.can
  have hq := hm.sqz (lim := limG u v (totS S.1 + totS T.1))
  have hf := (s1.first.merge t1.first).sqz (lim := limG u v (totS S.1 + totS T.1))
  have hsub := sqzS_sub (limG u v (totS S.1 + totS T.1)) (mergeS S.1 T.1)
  have hle := hsub.length_le
  rw [merge_len] at hle
  have hx := merge_x (P := I64) (fun q hq => s1.sp q hq) (fun q hq => t1.sp q hq)
  have hsp : ∀ q, q ∈ sqzS (limG u v (totS S.1 + totS T.1)) (mergeS S.1 T.1) → I64 q.x := fun q hq' => hx q (hsub.subset hq')
  have eq := tot_can hq
  rw [e]
  generalize sqzS (limG u v (totS S.1 + totS T.1)) (mergeS S.1 T.1) = Q at *
  have tj : totG (Q, ([] : List Int)) = totG s + totG t := by
    show totS Q + (([] : List Int).length : Int) = _
    rw [eq, ← es, ← et, s2, t2]; simp
  have lj : lenG (Q, ([] : List Int)) ≤ lenG s + lenG t := by
    show Q.length + ([] : List Int).length ≤ _
    simp only [List.length_nil, Nat.add_zero]
    omega
  refine ⟨⟨hsp, fun x hx => (by cases hx), by rw [eq]; exact hq, hf, ?_, by show ([] : List Int).length ≤ 16; decide, by rw [tj]; exact hn⟩, tj, lj, rfl⟩
  have : lenG (Q, ([] : List Int)) ≤ 5000 := by omega
  exact this
theorem EndG.joinX {u v : Int} {s t : GwV} {e f : Int × Int × Bool} (h : EndG s e) (k : EndG t f) (hs : OkX s) (ht : OkX t) : EndG (joinG u v s t) (joinW e f) := by
  obtain ⟨s1, _, _, s4⟩ := OkX.flush (u := u) (v := v) hs
  obtain ⟨t1, _, _, t4⟩ := OkX.flush (u := u) (v := v) ht
  exact h.join k hs.can ht.can s4 t4 s1.can t1.can

/-! ### Sorted -/
theorem insI_cons (x y : Int) (r : List Int) : insI x (y :: r) = if y ≤ x then y :: insI x r else x :: y :: r := by
  unfold insI
  by_cases c : y ≤ x
  · rw [if_pos c, List.takeWhile_cons_of_pos (by simpa using c), List.dropWhile_cons_of_pos (by simpa using c)]; rfl
  · rw [if_neg c, List.takeWhile_cons_of_neg (by simpa using c), List.dropWhile_cons_of_neg (by simpa using c)]; rfl
theorem insI_sorted {x : Int} : ∀ {L : List Int}, L.Pairwise (fun a b => a ≤ b) → (insI x L).Pairwise fun a b => a ≤ b
  | [], _ => List.pairwise_singleton _ _
  | y :: r, h => by
    obtain ⟨h1, h2⟩ := List.pairwise_cons.1 h
    rw [insI_cons]
    by_cases c : y ≤ x
    · rw [if_pos c]
      refine List.pairwise_cons.2 ⟨fun z hz => ?_, insI_sorted h2⟩
      rcases List.mem_cons.1 ((insI_perm x r).mem_iff.1 hz) with e | e
      · omega
      · exact h1 z e
    · rw [if_neg c]
      refine List.pairwise_cons.2 ⟨fun z hz => ?_, h⟩
      rcases List.mem_cons.1 hz with e | e
      · omega
      · have := h1 z e; omega
theorem sortI_sorted (W : List Int) : (sortI W).Pairwise fun a b => a ≤ b := by
  have : ∀ (W L : List Int), L.Pairwise (fun a b => a ≤ b) → (W.foldl (fun L x => insI x L) L).Pairwise fun a b => a ≤ b := by
    intro W
    induction W with
    | nil => intro L h; exact h
    | cons x r ih => intro L h; exact ih _ (insI_sorted h)
  exact this W [] List.Pairwise.nil
theorem merge_sortI (W : List Int) : W.mergeSort (fun x y => decide (x ≤ y)) = sortI W := by
  have hm := List.mergeSort_perm W (fun x y => decide (x ≤ y))
  have hs : (W.mergeSort (fun x y => decide (x ≤ y))).Pairwise fun a b => a ≤ b := by
    have := List.pairwise_mergeSort (le := fun x y : Int => decide (x ≤ y)) (fun a b c h1 h2 => by simp at *; omega) (fun a b => by simp; omega) W
    exact this.imp fun h => by simpa using h
  exact (hm.trans (sortI_perm W).symm).eq_of_pairwise (fun a b _ _ h1 h2 => Int.le_antisymm h1 h2) hs (sortI_sorted W)
end Go.Proofs.YtfmlkohijkalbaaGreat

/-
  The library contracts that the proofs lean on, laid at this translation by program.
-/
namespace Go.Proofs
open Go.Shelf
def Tryz.sortG_ren : Go.Shelf.Ren := ⟨fun | 5 => 46 | 8 => 65 | 7 => 64 | 19 => 90 | 20 => 91 | 10 => 81 | 11 => 82 | 12 => 83 | 13 => 84 | 14 => 85 | 15 => 86 | 16 => 87 | 17 => 88 | 18 => 89 | 30 => 97 | 31 => 98 | 32 => 99 | 33 => 100 | 34 => 101 | 35 => 102 | 40 => 105 | n => n, fun | 23 => 52 | 25 => 2 | 3 => 3 | 32 => 112 | 22 => 52 | 0 => 0 | 44 => 135 | 46 => 22 | 4 => 4 | 36 => 127 | 35 => 126 | 41 => 132 | 5 => 5 | 9 => 9 | 53 => 141 | 57 => 144 | 63 => 149 | 64 => 150 | n => n, fun | n => n⟩
theorem Tryz.sortG : Go.Proofs.SlLaysM.n5 Tryz.prog Tryz.sortG_ren := {
  mixed := by kernel_rfl
  f5 := ⟨Tryz.f46.name, by decide, Tryz.func46.trans (congrArg some (by kernel_rfl))⟩
  f7 := ⟨Tryz.f64.name, by decide, Tryz.func64.trans (congrArg some (by kernel_rfl))⟩
  f8 := Tryz.func65.trans (congrArg some (by kernel_rfl))
  f10 := ⟨Tryz.f81.name, by decide, Tryz.func81.trans (congrArg some (by kernel_rfl))⟩
  f11 := ⟨Tryz.f82.name, by decide, Tryz.func82.trans (congrArg some (by kernel_rfl))⟩
  f12 := ⟨Tryz.f83.name, by decide, Tryz.func83.trans (congrArg some (by kernel_rfl))⟩
  f13 := ⟨Tryz.f84.name, by decide, Tryz.func84.trans (congrArg some (by kernel_rfl))⟩
  f14 := ⟨Tryz.f85.name, by decide, Tryz.func85.trans (congrArg some (by kernel_rfl))⟩
  f15 := ⟨Tryz.f86.name, by decide, Tryz.func86.trans (congrArg some (by kernel_rfl))⟩
  f16 := ⟨Tryz.f87.name, by decide, Tryz.func87.trans (congrArg some (by kernel_rfl))⟩
  f17 := ⟨Tryz.f88.name, by decide, Tryz.func88.trans (congrArg some (by kernel_rfl))⟩
  f18 := ⟨Tryz.f89.name, by decide, Tryz.func89.trans (congrArg some (by kernel_rfl))⟩
  f19 := Tryz.func90.trans (congrArg some (by kernel_rfl))
  f20 := Tryz.func91.trans (congrArg some (by kernel_rfl))
  f30 := ⟨Tryz.f97.name, by decide, Tryz.func97.trans (congrArg some (by kernel_rfl))⟩
  f31 := Tryz.func98.trans (congrArg some (by kernel_rfl))
  f32 := Tryz.func99.trans (congrArg some (by kernel_rfl))
  f33 := ⟨Tryz.f100.name, by decide, Tryz.func100.trans (congrArg some (by kernel_rfl))⟩
  f34 := ⟨Tryz.f101.name, by decide, Tryz.func101.trans (congrArg some (by kernel_rfl))⟩
  f35 := ⟨Tryz.f102.name, by decide, Tryz.func102.trans (congrArg some (by kernel_rfl))⟩
  f40 := ⟨Tryz.f105.name, by decide, Tryz.func105.trans (congrArg some (by kernel_rfl))⟩
  t0 := Tryz.underlying0
  a0 := Tryz.isAgg0
  z0 := Tryz.sizeOf0
  v0 := Tryz.zeroValue0
  t3 := Tryz.underlying3
  a3 := Tryz.isAgg3
  z3 := Tryz.sizeOf3
  v3 := Tryz.zeroValue3
  t4 := Tryz.underlying4
  a4 := Tryz.isAgg4
  z4 := Tryz.sizeOf4
  v4 := Tryz.zeroValue4
  t5 := Tryz.underlying5
  a5 := Tryz.isAgg5
  z5 := Tryz.sizeOf5
  v5 := Tryz.zeroValue5
  t9 := Tryz.underlying9
  a9 := Tryz.isAgg9
  z9 := Tryz.sizeOf9
  v9 := Tryz.zeroValue9
  t22 := Tryz.underlying52
  a22 := Tryz.isAgg52
  z22 := Tryz.sizeOf52
  v22 := Tryz.zeroValue52
  t23 := Tryz.underlying52
  a23 := Tryz.isAgg52
  z23 := Tryz.sizeOf52
  v23 := Tryz.zeroValue52
  t25 := Tryz.underlying2
  a25 := Tryz.isAgg2
  z25 := Tryz.sizeOf2
  v25 := Tryz.zeroValue2
  t32 := Tryz.underlying112
  a32 := Tryz.isAgg112
  z32 := Tryz.sizeOf112
  v32 := Tryz.zeroValue112
  t35 := Tryz.underlying126
  a35 := Tryz.isAgg126
  z35 := Tryz.sizeOf126
  v35 := Tryz.zeroValue126
  t36 := Tryz.underlying127
  a36 := Tryz.isAgg127
  z36 := Tryz.sizeOf127
  v36 := Tryz.zeroValue127
  t41 := Tryz.underlying132
  a41 := Tryz.isAgg132
  z41 := Tryz.sizeOf132
  v41 := Tryz.zeroValue132
  t44 := Tryz.underlying135
  a44 := Tryz.isAgg135
  z44 := Tryz.sizeOf135
  v44 := Tryz.zeroValue135
  t46 := Tryz.underlying22
  a46 := Tryz.isAgg22
  z46 := Tryz.sizeOf22
  v46 := Tryz.zeroValue22
  t53 := Tryz.underlying141
  a53 := Tryz.isAgg141
  z53 := Tryz.sizeOf141
  v53 := Tryz.zeroValue141
  t57 := Tryz.underlying144
  a57 := Tryz.isAgg144
  z57 := Tryz.sizeOf144
  v57 := Tryz.zeroValue144
  t63 := Tryz.underlying149
  a63 := Tryz.isAgg149
  z63 := Tryz.sizeOf149
  v63 := Tryz.zeroValue149
  t64 := Tryz.underlying150
  a64 := Tryz.isAgg150
  z64 := Tryz.sizeOf150
  v64 := Tryz.zeroValue150 }
def Tryz.maxG_ren : Go.Shelf.Ren := ⟨fun | 37 => 37 | n => n, fun | 22 => 52 | 23 => 2 | 3 => 3 | 4 => 4 | 9 => 9 | 20 => 20 | 0 => 0 | n => n, fun | n => n⟩
theorem Tryz.maxG : Go.Proofs.SlLaysN.n37 Tryz.prog Tryz.maxG_ren := {
  mixed := by kernel_rfl
  f37 := ⟨Tryz.f37.name, by decide, Tryz.func37.trans (congrArg some (by kernel_rfl))⟩
  t0 := Tryz.underlying0
  a0 := Tryz.isAgg0
  z0 := Tryz.sizeOf0
  v0 := Tryz.zeroValue0
  t3 := Tryz.underlying3
  a3 := Tryz.isAgg3
  z3 := Tryz.sizeOf3
  v3 := Tryz.zeroValue3
  t4 := Tryz.underlying4
  a4 := Tryz.isAgg4
  z4 := Tryz.sizeOf4
  v4 := Tryz.zeroValue4
  t9 := Tryz.underlying9
  a9 := Tryz.isAgg9
  z9 := Tryz.sizeOf9
  v9 := Tryz.zeroValue9
  t20 := Tryz.underlying20
  a20 := Tryz.isAgg20
  z20 := Tryz.sizeOf20
  v20 := Tryz.zeroValue20
  t22 := Tryz.underlying52
  a22 := Tryz.isAgg52
  z22 := Tryz.sizeOf52
  v22 := Tryz.zeroValue52
  t23 := Tryz.underlying2
  a23 := Tryz.isAgg2
  z23 := Tryz.sizeOf2
  v23 := Tryz.zeroValue2 }
def Tryz.minG_ren : Go.Shelf.Ren := ⟨fun | 39 => 36 | n => n, fun | 22 => 52 | 23 => 2 | 3 => 3 | 4 => 4 | 9 => 9 | 20 => 20 | 0 => 0 | n => n, fun | n => n⟩
theorem Tryz.minG : Go.Proofs.SlLaysN.n39 Tryz.prog Tryz.minG_ren := {
  mixed := by kernel_rfl
  f39 := ⟨Tryz.f36.name, by decide, Tryz.func36.trans (congrArg some (by kernel_rfl))⟩
  t0 := Tryz.underlying0
  a0 := Tryz.isAgg0
  z0 := Tryz.sizeOf0
  v0 := Tryz.zeroValue0
  t3 := Tryz.underlying3
  a3 := Tryz.isAgg3
  z3 := Tryz.sizeOf3
  v3 := Tryz.zeroValue3
  t4 := Tryz.underlying4
  a4 := Tryz.isAgg4
  z4 := Tryz.sizeOf4
  v4 := Tryz.zeroValue4
  t9 := Tryz.underlying9
  a9 := Tryz.isAgg9
  z9 := Tryz.sizeOf9
  v9 := Tryz.zeroValue9
  t20 := Tryz.underlying20
  a20 := Tryz.isAgg20
  z20 := Tryz.sizeOf20
  v20 := Tryz.zeroValue20
  t22 := Tryz.underlying52
  a22 := Tryz.isAgg52
  z22 := Tryz.sizeOf52
  v22 := Tryz.zeroValue52
  t23 := Tryz.underlying2
  a23 := Tryz.isAgg2
  z23 := Tryz.sizeOf2
  v23 := Tryz.zeroValue2 }
def Tryz.cloneN_ren : Go.Shelf.Ren := ⟨fun | 41 => 35 | n => n, fun | 22 => 52 | 23 => 2 | 4 => 4 | n => n, fun | n => n⟩
theorem Tryz.cloneN : Go.Proofs.SlLaysE0.n41 Tryz.prog Tryz.cloneN_ren := {
  mixed := by kernel_rfl
  f41 := ⟨Tryz.f35.name, by decide, Tryz.func35.trans (congrArg some (by kernel_rfl))⟩
  t4 := Tryz.underlying4
  a4 := Tryz.isAgg4
  z4 := Tryz.sizeOf4
  v4 := Tryz.zeroValue4
  t22 := Tryz.underlying52
  a22 := Tryz.isAgg52
  z22 := Tryz.sizeOf52
  v22 := Tryz.zeroValue52 }
def Tryz.cloneT_ren : Go.Shelf.Ren := ⟨fun | 41 => 55 | n => n, fun | 22 => 56 | 23 => 75 | 4 => 4 | n => n, fun | n => n⟩
theorem Tryz.cloneT : Go.Proofs.SlLaysE0.n41 Tryz.prog Tryz.cloneT_ren := {
  mixed := by kernel_rfl
  f41 := ⟨Tryz.f55.name, by decide, Tryz.func55.trans (congrArg some (by kernel_rfl))⟩
  t4 := Tryz.underlying4
  a4 := Tryz.isAgg4
  z4 := Tryz.sizeOf4
  v4 := Tryz.zeroValue4
  t22 := Tryz.underlying56
  a22 := Tryz.isAgg56
  z22 := Tryz.sizeOf56
  v22 := Tryz.zeroValue56 }
def Tryz.hasT_ren : Go.Shelf.Ren := ⟨fun | 8 => 79 | 6 => 96 | n => n, fun | 22 => 56 | 23 => 75 | 25 => 124 | 4 => 4 | 3 => 3 | 0 => 0 | n => n, fun | n => n⟩
theorem Tryz.hasT : Go.Proofs.SlLaysH0.n8 Tryz.prog Tryz.hasT_ren := {
  mixed := by kernel_rfl
  f6 := ⟨Tryz.f96.name, by decide, Tryz.func96.trans (congrArg some (by kernel_rfl))⟩
  f8 := ⟨Tryz.f79.name, by decide, Tryz.func79.trans (congrArg some (by kernel_rfl))⟩
  t0 := Tryz.underlying0
  a0 := Tryz.isAgg0
  z0 := Tryz.sizeOf0
  v0 := Tryz.zeroValue0
  t3 := Tryz.underlying3
  a3 := Tryz.isAgg3
  z3 := Tryz.sizeOf3
  v3 := Tryz.zeroValue3
  t4 := Tryz.underlying4
  a4 := Tryz.isAgg4
  z4 := Tryz.sizeOf4
  v4 := Tryz.zeroValue4
  t22 := Tryz.underlying56
  a22 := Tryz.isAgg56
  z22 := Tryz.sizeOf56
  v22 := Tryz.zeroValue56
  t25 := Tryz.underlying124
  a25 := Tryz.isAgg124
  z25 := Tryz.sizeOf124
  v25 := Tryz.zeroValue124 }
end Go.Proofs

/-
  The landed package greenwald: a sketch in memory; the library's sort of what waits; squeezed, flushed.
-/
namespace Go.Proofs.YtfmlkohijkalbaaGreat
set_option linter.unusedVariables false
set_option linter.unusedSimpArgs false
open Go.RowKit Go.Sort

/-- A landed sketch: its block of five cells, its row and what waits, of its own. -/
structure GwRaw (w : World) (B : Nat) (u v : Int) (vr vw : Value) (S : List SpotV) (W : List Int) (n : Int) : Prop where
  c0 : w.cell? ⟨B, 0, none⟩ = some (.int .u64 u)
  c1 : w.cell? ⟨B, 1, none⟩ = some (.int .u64 v)
  c2 : w.cell? ⟨B, 2, none⟩ = some vr
  c3 : w.cell? ⟨B, 3, none⟩ = some vw
  c4 : w.cell? ⟨B, 4, none⟩ = some (.int .u64 n)
  f0 : ∀ o, w.frozen? ⟨B, o, none⟩ = false
  row : OwnTu w 0 vr (rowT 0 S)
  waits : OwnN w 0 vw W
  nr : vr.ownBlock ≠ some B
  nw : vw.ownBlock ≠ some B
  ap : ∀ g, vw.ownBlock = some g → vr.ownBlock ≠ some g
theorem GwRaw.lt {w : World} {B : Nat} {u v n : Int} {vr vw : Value} {S : List SpotV} {W : List Int} (h : GwRaw w B u v vr vw S W n) : B < w.heap.size := World.block_lt_of_cell? (a := ⟨B, 0, none⟩) w h.c0
theorem GwRaw.call {w w' : World} {B : Nat} {u v n : Int} {vr vw : Value} {S : List SpotV} {W : List Int} (h : GwRaw w B u v vr vw S W n) (hb : Below w.heap.size w w') : GwRaw w' B u v vr vw S W n :=
  ⟨cell_later hb h.c0, cell_later hb h.c1, cell_later hb h.c2, cell_later hb h.c3, cell_later hb h.c4, fun o => ((bcell hb).2 _ _ h.lt).trans (h.f0 o), h.row.call hb, h.waits.call hb, h.nr, h.nw, h.ap⟩
theorem GwRaw.blocks {w : World} {B : Nat} {u v n : Int} {vr vw : Value} {S : List SpotV} {W : List Int} (h : GwRaw w B u v vr vw S W n) : ∀ k, rgS B vr vw k → k < w.heap.size := by
  rintro k (rfl | e | e)
  · exact h.lt
  · exact (h.row.lt k e).2
  · exact (h.waits.lt k e).2
theorem GwRaw.at_ {w w' : World} {B : Nat} {u v n : Int} {vr vw : Value} {S : List SpotV} {W : List Int} (h : GwRaw w B u v vr vw S W n) (hk : ∀ k, rgS B vr vw k → w'.heap[k]? = w.heap[k]?) : GwRaw w' B u v vr vw S W n := by
  have hb := hk B (Or.inl rfl)
  have hc : ∀ o x, w.cell? ⟨B, o, none⟩ = some x → w'.cell? ⟨B, o, none⟩ = some x := fun o x hx => (World.cell?_of_block (a := ⟨B, o, none⟩) hb).trans hx
  refine ⟨hc _ _ h.c0, hc _ _ h.c1, hc _ _ h.c2, hc _ _ h.c3, hc _ _ h.c4, fun o => (World.frozen?_of_block (a := ⟨B, o, none⟩) hb).trans (h.f0 o), ⟨h.row.1, ?_⟩, ⟨h.waits.1, ?_⟩, h.nr, h.nw, h.ap⟩
  · rcases h.row.2 with hn | ⟨g, cap, cur, rfl, hb, hgg, rest⟩
    · exact .inl hn
    · exact .inr ⟨g, cap, cur, rfl, hb, (hk g (Or.inr (Or.inl rfl))).trans hgg, rest⟩
  · rcases h.waits.2 with hn | ⟨g, cap, cur, rfl, hb, hgg, rest⟩
    · exact .inl hn
    · exact .inr ⟨g, cap, cur, rfl, hb, (hk g (Or.inr (Or.inr rfl))).trans hgg, rest⟩
/-- A sketch's block, and that of one of its rows. -/
def brS (B : Nat) (x : Value) : Nat → Prop := fun k => k = B ∨ x.ownBlock = some k
theorem keeps_put {w : World} {B o : Nat} {x : Value} {S : Nat → Prop} (h : S B) : Keeps S w (w.setCell ⟨B, o, none⟩ x) := keeps_grown (grown_putG w B o x) h
theorem keeps_of_grown {w w' : World} {r : Option Nat} {S : Nat → Prop} (h : w.grownBy w' r) (hS : ∀ k, r = some k → S k) : Keeps S w w' :=
  ⟨h.os, h.tape, h.output, h.size, fun k hk hn => h.block k hk (fun e => hn (hS k e.symm))⟩
theorem keeps_wide {w w' : World} {S T : Nat → Prop} (h : Keeps S w w') (hS : ∀ k, S k → T k) : Keeps T w w' :=
  ⟨h.os, h.tape, h.output, h.size, fun k hk hn => h.block k hk (fun x => hn (hS k x))⟩
theorem grown_cell {w w' : World} {B o : Nat} {r : Option Nat} {x : Value} (h : w.grownBy w' r) (hB : r ≠ some B) (hx : w.cell? ⟨B, o, none⟩ = some x) : w'.cell? ⟨B, o, none⟩ = some x :=
  h.cell hx (fun e => hB e.symm)
theorem grown_free {w w' : World} {B o : Nat} {r : Option Nat} (h : w.grownBy w' r) (hB : r ≠ some B) (hlt : B < w.heap.size) (hx : w.frozen? ⟨B, o, none⟩ = false) : w'.frozen? ⟨B, o, none⟩ = false :=
  (World.frozen?_of_block (a := ⟨B, o, none⟩) (h.block B hlt (fun e => hB e.symm))).trans hx
/-- Another row of tuples has come of the sketch's own: it is stored. -/
theorem GwRaw.row2 {w w' : World} {B : Nat} {u v n : Int} {vr vw v' : Value} {S S' : List SpotV} {W : List Int} (h : GwRaw w B u v vr vw S W n) (hg : w.grownBy w' vr.ownBlock) (ho : OwnTu w' 0 v' (rowT 0 S')) (hv : v'.ownBlock = vr.ownBlock ∨ ∀ g, v'.ownBlock = some g → w.heap.size ≤ g) :
    w'.cell? ⟨B, 2, none⟩ = some vr ∧ w'.frozen? ⟨B, 2, none⟩ = false ∧ GwRaw (w'.setCell ⟨B, 2, none⟩ v') B u v v' vw S' W n ∧ Keeps (brS B vr) w (w'.setCell ⟨B, 2, none⟩ v') := by
  have hB : vr.ownBlock ≠ some B := h.nr
  have hlt := h.lt
  have hn' : v'.ownBlock ≠ some B := by
    rcases hv with e | e
    · rw [e]; exact hB
    · intro c; have := e B c; omega
  have k2 := grown_cell hg hB h.c2
  refine ⟨k2, grown_free hg hB hlt (h.f0 2), ⟨?_, ?_, ?_, ?_, ?_, fun o => by rw [World.frozen?_setCell]; exact grown_free hg hB hlt (h.f0 o), ho.other (grown_putG _ _ _ _) (Or.inr hn'), ?_, hn', h.nw, ?_⟩, ?_⟩
  · rw [World.cell?_setCell_other _ _ _ _ (two_off (by omega))]; exact grown_cell hg hB h.c0
  · rw [World.cell?_setCell_other _ _ _ _ (two_off (by omega))]; exact grown_cell hg hB h.c1
  · exact World.cell?_setCell_same _ _ _ k2
  · rw [World.cell?_setCell_other _ _ _ _ (two_off (by omega))]; exact grown_cell hg hB h.c3
  · rw [World.cell?_setCell_other _ _ _ _ (two_off (by omega))]; exact grown_cell hg hB h.c4
  · refine (h.waits.other hg ?_).other (grown_putG _ _ _ _) (Or.inr h.nw)
    cases e : vw.ownBlock with
    | none => exact Or.inl rfl
    | some g => exact Or.inr fun c => h.ap g e c.symm
  · intro g hg2 hg3
    rcases hv with e | e
    · exact h.ap g hg2 (by rw [← e]; exact hg3)
    · have := e g hg3
      have := (h.waits.lt g hg2).2
      omega
  · exact keeps_then (keeps_of_grown hg fun k e => Or.inr e) (keeps_put (S := brS B vr) (Or.inl rfl)) fun k _ hk => hk
/-- Other values that wait have come of the sketch's own: they are stored. -/
theorem GwRaw.wait2 {w w' : World} {B : Nat} {u v n : Int} {vr vw v' : Value} {S : List SpotV} {W W' : List Int} (h : GwRaw w B u v vr vw S W n) (hg : w.grownBy w' vw.ownBlock) (ho : OwnN w' 0 v' W') (hv : v'.ownBlock = vw.ownBlock ∨ ∀ g, v'.ownBlock = some g → w.heap.size ≤ g) :
    w'.cell? ⟨B, 3, none⟩ = some vw ∧ w'.frozen? ⟨B, 3, none⟩ = false ∧ GwRaw (w'.setCell ⟨B, 3, none⟩ v') B u v vr v' S W' n ∧ Keeps (brS B vw) w (w'.setCell ⟨B, 3, none⟩ v') := by
  have hB : vw.ownBlock ≠ some B := h.nw
  have hlt := h.lt
  have hn' : v'.ownBlock ≠ some B := by
    rcases hv with e | e
    · rw [e]; exact hB
    · intro c; have := e B c; omega
  have k2 := grown_cell hg hB h.c3
  refine ⟨k2, grown_free hg hB hlt (h.f0 3), ⟨?_, ?_, ?_, ?_, ?_, fun o => by rw [World.frozen?_setCell]; exact grown_free hg hB hlt (h.f0 o), ?_, ho.other (grown_putG _ _ _ _) (Or.inr hn'), h.nr, hn', ?_⟩, ?_⟩
  · rw [World.cell?_setCell_other _ _ _ _ (two_off (by omega))]; exact grown_cell hg hB h.c0
  · rw [World.cell?_setCell_other _ _ _ _ (two_off (by omega))]; exact grown_cell hg hB h.c1
  · rw [World.cell?_setCell_other _ _ _ _ (two_off (by omega))]; exact grown_cell hg hB h.c2
  · exact World.cell?_setCell_same _ _ _ k2
  · rw [World.cell?_setCell_other _ _ _ _ (two_off (by omega))]; exact grown_cell hg hB h.c4
  · refine (h.row.other hg ?_).other (grown_putG _ _ _ _) (Or.inr h.nr)
    cases e : vr.ownBlock with
    | none => exact Or.inl rfl
    | some g => exact Or.inr fun c => h.ap g c.symm e
  · intro g hg2 hg3
    rcases hv with e | e
    · exact h.ap g (by rw [← e]; exact hg2) hg3
    · have := e g hg2
      have := (h.row.lt g hg3).2
      omega
  · exact keeps_then (keeps_of_grown hg fun k e => Or.inr e) (keeps_put (S := brS B vw) (Or.inl rfl)) fun k _ hk => hk
/-- Another number in all is stored. -/
theorem GwRaw.put4 {w : World} {B : Nat} {u v n : Int} {vr vw : Value} {S : List SpotV} {W : List Int} (h : GwRaw w B u v vr vw S W n) (m : Int) : GwRaw (w.setCell ⟨B, 4, none⟩ (.int .u64 m)) B u v vr vw S W m :=
  ⟨by rw [World.cell?_setCell_other _ _ _ _ (two_off (by omega))]; exact h.c0, by rw [World.cell?_setCell_other _ _ _ _ (two_off (by omega))]; exact h.c1, by rw [World.cell?_setCell_other _ _ _ _ (two_off (by omega))]; exact h.c2,
    by rw [World.cell?_setCell_other _ _ _ _ (two_off (by omega))]; exact h.c3, World.cell?_setCell_same _ _ _ h.c4,
    fun o => by rw [World.frozen?_setCell]; exact h.f0 o, h.row.other (grown_putG _ _ _ _) (Or.inr h.nr), h.waits.other (grown_putG _ _ _ _) (Or.inr h.nw), h.nr, h.nw, h.ap⟩
/-- A row that is cut to nothing. -/
theorem OwnN.cut0 {w : World} {base g n cap : Nat} {W : List Int} (h : OwnN w base (.slice (some ⟨g, 0, none⟩) n cap) W) : OwnN w base (.slice (some ⟨g, 0, none⟩) 0 cap) [] := by
  rcases h.2 with ⟨e, _⟩ | ⟨g', cap', cur, e, hb, hg, hn, hm, hs, ht⟩
  · cases e
  · injection e with e1 e2 e3
    obtain ⟨rfl, _, _⟩ := Addr.mk.inj (Option.some.inj e1)
    subst e3
    exact ⟨rfl, Or.inr ⟨g, cap, cur, rfl, hb, hg, Nat.zero_le _, hm, hs, by simp [intsL]⟩⟩

set_option maxHeartbeats 1000000 in
/-- A row of the call's own, sorted. -/
theorem sort_nums (w : World) (base : Nat) (v : Value) (W : List Int) (h : OwnN w base v W) (hl : W.length ≤ 100000) :
    Calls Tryz.prog 46 #[v] w fun e w' => e = .returned (.tuple #[]) ∧ OwnN w' base v (sortI W) ∧ w.grownBy w' v.ownBlock := by
  rcases h.2 with ⟨rfl, h0⟩ | ⟨g, cap, cur, rfl, hb, hg, hnc, hcm, hcz, ht⟩
  · obtain rfl : W = [] := List.eq_nil_of_length_eq_zero h0
    have hC := AnyM.slices_Sort_int_none Tryz.sortG none 0 w
    change Calls Tryz.prog 46 _ _ _ at hC
    refine hC.mono ?_
    rintro e w' ⟨rfl, rfl⟩
    exact ⟨rfl, OwnN.nil _ _, World.grownBy.refl _ _⟩
  · have hH := holds_of_blockI hg (by rw [Nat.mul_one] at ht; exact ht)
    have hC := AnyM.slices_Sort_int Tryz.sortG g 0 cap W w hH (lt_of_block hg) (by omega)
    change Calls Tryz.prog 46 _ _ _ at hC
    refine hC.mono ?_
    rintro e w' ⟨rfl, n, os, rfl⟩
    rw [merge_sortI]
    refine ⟨rfl, ?_, grownBy_sortedI _⟩
    have := ownsRow_sortedI (n := n) (os := os) (sortI_len W) hb hg hnc hcm hcz
    unfold OwnN
    rw [sortI_len]
    exact this

set_option maxRecDepth 100000 in
set_option maxHeartbeats 4000000 in
theorem gw_squeeze (T : TupDoes) {w : World} {B : Nat} {u v n m : Int} {vr vw : Value} {S : List SpotV} {W : List Int} (h : GwRaw w B u v vr vw S W n) (ha : GoodA u v) (hn : Word n) (hc : SpotsP 0 m S) (hm : m ≤ 9223372036854775807) (hf : FirstS S) (hx : ∀ s, s ∈ S → I64 s.x) (hl : S.length ≤ 20000) :
    Calls Tryz.prog 24 #[.pointer (some ⟨B, 0, none⟩)] w fun e w' => e = .returned (.tuple #[]) ∧ ∃ vr', GwRaw w' B u v vr' vw (sqzS (limG u v n) S) W n ∧ Keeps (brS B vr) w w' ∧ (vr'.ownBlock = vr.ownBlock ∨ ∀ g, vr'.ownBlock = some g → w.heap.size ≤ g) := by
  obtain ⟨lm, hlm⟩ : ∃ m, limG u v n = m := ⟨_, rfl⟩
  have hlw := ha.limw hn.1 hn.2
  have hlt := ha.lim hn.1 hn.2
  rw [hlm] at hlw hlt ⊢
  have u1 := ha.u1
  have uv := ha.uv
  have v2 := ha.v2
  have CL := Lib.hid (fun W' => T.limit W' u v n lm (by omega) (by omega) (by unfold Word; omega) hn hlt)
  have CS := Lib.hid (fun (W' : World) (hW : OwnTu W' 0 vr (rowT 0 S)) => T.squeeze W' 0 vr (rowT 0 S) lm (Nat.zero_le _) hW (row_okX hc hm hx) (row_goodX hc hm hf) (by rw [row_len]; exact hl) (by unfold Word; omega))
  rw [sqz_row] at CS
  have HR := Lib.hid h
  have q0 := h.c0
  have q1 := h.c1
  have q2 := h.c2
  have q4 := h.c4
  clear h hlw hlt hlm u1 uv v2 ha hn hc hm hf hx hl
  go_enter Tryz.func24, Tryz.ntmps24
  go_wp2_with fail
  go_region_with (first
    | (go_at_call 51; refine (CL.out _).mono ?_; rintro e wA ⟨rfl, hbA⟩; have hRA : GwRaw wA B u v vr vw S W n := (by first | exact HR.out.call hbA | exact HR.out.call ((Below.refl _ _).drew.trans hbA)); have a2 := hRA.c2)
    | (go_at_call 50; refine (CS.out _ hRA.row).mono ?_; rintro e wB ⟨vB, rfl, hoB, hgB, hvB⟩; obtain ⟨AB, kB, lB, rfl⟩ : ∃ AB kB lB, vB = .slice AB lB kB := (by obtain ⟨a, b, e⟩ := hoB.form; exact ⟨a, b, _, e⟩); obtain ⟨b2, b3, hRB, hKB⟩ := hRA.row2 hgB hoB hvB))
  all_goals
    have hsz : w.heap.size ≤ wA.heap.size := by first | exact hbA.size | exact ((Below.refl _ _).drew.trans hbA).size
    have hka : Keeps (brS B vr) w wA := by first | exact Keeps.of_below hbA | exact Keeps.of_below ((Below.refl _ _).drew.trans hbA)
    have HF := Lib.hid (⟨_, hRB, keeps_then hka hKB fun k _ hk => hk, hvB.imp id fun e g hg => Nat.le_trans hsz (e g hg)⟩ : ∃ vr', GwRaw (wB.setCell ⟨B, 2, none⟩ (.slice AB lB kB)) B u v vr' vw (sqzS lm S) W n ∧ Keeps (brS B vr) w (wB.setCell ⟨B, 2, none⟩ (.slice AB lB kB)) ∧ (vr'.ownBlock = vr.ownBlock ∨ ∀ g, vr'.ownBlock = some g → w.heap.size ≤ g))
    clear hRB hKB hka hoB hgB
    go_wp2_with fail
    first
    | (go_end0; exact ⟨rfl, HF.out⟩)
    | exact bodyPost_ret (results_none rfl _ _ _) rfl ⟨rfl, HF.out⟩

/-- What flushing, and the like, leave. -/
def LeftX (w : World) (B : Nat) (u v : Int) (vr vw : Value) (S : List SpotV) (W : List Int) (n : Int) (w' : World) : Prop :=
  ∃ vr' vw', GwRaw w' B u v vr' vw' S W n ∧ Keeps (rgS B vr vw) w w' ∧ (∀ k, rgS B vr' vw' k → rgS B vr vw k ∨ w.heap.size ≤ k)

set_option maxRecDepth 100000 in
set_option maxHeartbeats 4000000 in
theorem gw_flush (T : TupDoes) {w : World} {B : Nat} {u v n : Int} {vr vw : Value} {s : GwV} (h : GwRaw w B u v vr vw s.1 s.2 n) (ok : OkX s) (hn : totG s = n) (ha : GoodA u v) :
    Calls Tryz.prog 21 #[.pointer (some ⟨B, 0, none⟩)] w fun e w' => e = .returned (.tuple #[]) ∧ LeftX w B u v vr vw (flushG u v s).1 (flushG u v s).2 n w' := by
  obtain ⟨Aw, cw, rfl⟩ := h.waits.form
  obtain ⟨i, hi⟩ : ∃ i, s.2.length = i := ⟨_, rfl⟩
  rw [hi] at h ⊢
  by_cases hz : i = 0
  · have hF : LeftX w B u v vr (.slice Aw i cw) (flushG u v s).1 (flushG u v s).2 n w := ⟨vr, _, by
      have e : flushG u v s = s := by unfold flushG; rw [if_pos (List.eq_nil_of_length_eq_zero (by omega))]
      rw [e]; exact h, Keeps.refl _ _, fun k hk => Or.inl hk⟩
    have HF := Lib.hid hF
    have c3 := h.c3
    have e1 : ((i : Int) == 0) = true := by simp [hz]
    clear h ok hF hz hi hn
    go_enter Tryz.func21, Tryz.ntmps21
    go_wp2_with fail
    first
    | (go_end0; exact ⟨rfl, HF.out⟩)
    | exact bodyPost_ret (results_none rfl _ _ _) rfl ⟨rfl, HF.out⟩
  · have e1 : ((i : Int) == 0) = false := by rw [beq_eq_false_iff_ne]; omega
    have hne : s.2 ≠ [] := fun e => by rw [e] at hi; exact hz hi.symm
    have hi16 : i ≤ 16 := by have := ok.wl; omega
    obtain ⟨X, hX⟩ : ∃ X, sortI s.2 = X := ⟨_, rfl⟩
    have hXl : X.length = i := by rw [← hX, sortI_len, hi]
    have hXo : ∀ y, y ∈ X → I64 y := fun y hy => by rw [← hX] at hy; exact ok.wt y (sortI_mem.1 hy)
    have hfe : flushG u v s = (sqzS (limG u v n) (X.foldl insS s.1), []) := by unfold flushG; rw [if_neg hne, hn, hX]
    have hle := ok.le
    have htot := ok.tot
    have hsl := ok.sl
    have hti : totS s.1 + (i : Int) = n := by rw [← hn]; unfold totG; rw [hi]
    have CST := Lib.hid (sort_nums w 0 _ s.2 h.waits (by omega))
    rw [hX] at CST
    have HCAN := Lib.hid (fun j => foldS_can (L := X.take j) ok.can)
    have HFST := Lib.hid (fun j => foldS_first (L := X.take j) ok.can ok.first)
    have HSX : Hid (∀ j, ∀ q, q ∈ (X.take j).foldl insS s.1 → I64 q.x) := Lib.hid fun j => foldS_x (fun q hq => ok.sp q hq) fun y hy => hXo y (List.mem_of_mem_take hy)
    have HXL := Lib.hid hXl
    have HXO := Lib.hid hXo
    have HFE := Lib.hid hfe
    have HTI := Lib.hid hti
    have HLE := Lib.hid hle
    have HTOT := Lib.hid htot
    have HSL := Lib.hid hsl
    have HN := Lib.hid hn
    have HI := Lib.hid hi
    have HR := Lib.hid h
    have HA := Lib.hid ha
    have c3 := h.c3
    have hlt0 := h.lt
    clear h ok hn hi hX hXl hXo hfe hle htot hsl hti hne ha
    go_enter Tryz.func21, Tryz.ntmps21
    go_wp2_with fail
    refine CST.out.mono ?_
    rintro e w1 ⟨rfl, ho1, hg1⟩
    have hR1 : GwRaw w1 B u v vr (.slice Aw i cw) s.1 X n := by
      have hB := HR.out.nw
      refine ⟨grown_cell hg1 hB HR.out.c0, grown_cell hg1 hB HR.out.c1, grown_cell hg1 hB HR.out.c2, grown_cell hg1 hB HR.out.c3, grown_cell hg1 hB HR.out.c4, fun o => grown_free hg1 hB HR.out.lt (HR.out.f0 o), HR.out.row.other hg1 ?_, ho1, HR.out.nr, HR.out.nw, HR.out.ap⟩
      cases e : vr.ownBlock with
      | none => exact Or.inl rfl
      | some g => exact Or.inr fun c => HR.out.ap g c.symm e
    have hk1 : Keeps (rgS B vr (.slice Aw i cw)) w w1 := keeps_of_grown hg1 fun k e => Or.inr (Or.inr e)
    have HR1 := Lib.hid hR1
    have HK1 := Lib.hid hk1
    have hsz1 := hg1.size
    have d3 := hR1.c3
    obtain ⟨g0, off, cap, e, hrow, _, hg1', hck⟩ := hR1.waits.some_ HXO.out (by have := HXL.out; omega)
    have he := Value.slice.inj e
    obtain ⟨rfl, y1, rfl⟩ := he
    clear y1
    have hoff : off = 0 := by
      rcases hR1.waits.2 with ⟨e2, _⟩ | ⟨g, cap', cur, e2, _⟩
      · cases e2
      · injection e2 with e3
        exact (Addr.mk.inj (Option.some.inj e3)).2.1
    subst hoff
    have hck2 : i ≤ cw := by have := HXL.out; omega
    have hcwm : cw ≤ maxLen := by
      rcases hR1.waits.2 with ⟨e2, _⟩ | ⟨g, cap', cur, e2, _, _, _, hm, _⟩
      · cases e2
      · injection e2 with _ _ e3
        omega
    clear ho1 hg1 hR1 hk1 e hrow hg1' hck
    have hcap0 : (0 : Int) ≤ cw := by omega
    go_wp2_with fail
    go_loopw [24] (fun jv wr => ∃ (j : Nat) (vj : Value), j ≤ i ∧ jv = .int .i64 j ∧ GwRaw wr B u v vj (.slice (some ⟨g0, 0, none⟩) i cw) ((X.take j).foldl insS s.1) X n ∧ Keeps (brS B vr) w1 wr ∧ (vj.ownBlock = vr.ownBlock ∨ ∀ g, vj.ownBlock = some g → w1.heap.size ≤ g)) (fun jv _ => i - (intOf jv).toNat)
    case atStart => exact ⟨0, vr, Nat.zero_le _, rfl, HR1.out, Keeps.refl _ _, Or.inl rfl⟩
    case round =>
      obtain ⟨j, vj, hj, rfl, hrj, hkj, hvj⟩ := hrel
      have HRJ := Lib.hid hrj
      have HKJ := Lib.hid hkj
      have HVJ := Lib.hid hvj
      have hzj := hkj.size
      have r2 := hrj.c2
      have r3 := hrj.c3
      have rf3 := hrj.f0 3
      have hblt := hrj.lt
      clear hrj hkj hvj
      obtain ⟨hc1, hc2⟩ := HCAN.out j
      have hc3 := HFST.out j
      have hc4 := HSX.out j
      have hjl : (X.take j).length = j := by rw [List.length_take]; have := HXL.out; omega
      rw [hjl] at hc1 hc2
      by_cases hlt : j < i
      · have kj : (j : Int) < i := by omega
        have hxk := List.getElem?_eq_getElem (l := X) (i := j) (by rw [HXL.out]; exact hlt)
        generalize X[j]'(by rw [HXL.out]; exact hlt) = x at hxk
        have HIX : Hid (I64 x) := Lib.hid (HXO.out _ (List.mem_of_getElem? hxk))
        obtain ⟨A2, c2, e2, hN2⟩ := HRJ.out.waits.rows HXO.out
        obtain ⟨rfl, y1, y2⟩ := Value.slice.inj e2
        clear y1 y2
        obtain ⟨ba, oa, e, _, t0⟩ := hN2.at_ j x hxk
        obtain ⟨rfl, rfl, _⟩ := Addr.mk.inj (Option.some.inj e)
        rw [Nat.zero_add] at t0
        have hlim : totS s.1 + (j : Int) < 9223372036854775807 := by have := HTOT.out; have := HTI.out; have := HN.out; omega
        have CI := Lib.hid (T.insert wr 0 vj (rowT 0 ((X.take j).foldl insS s.1)) x (Nat.zero_le _) HRJ.out.row (row_okX hc1 (by omega) hc4) (row_goodX hc1 (by omega) hc3) (by rw [sum_row hc1]; exact hlim) (by rw [row_len, hc2]; have := HSL.out; have := HI.out; omega) HIX.out)
        rw [ins_row] at CI
        have HSTP := Lib.hid (foldS_step (S := s.1) hxk)
        clear hc1 hc2 hc3 hc4 hjl hxk e e2 hN2 hlim
        go_wp2_with fail
        refine CI.out.mono ?_
        rintro e w7 ⟨v7, rfl, ho7, hg7, hv7⟩
        obtain ⟨A7, k7, l7, rfl⟩ : ∃ A7 k7 l7, v7 = .slice A7 l7 k7 := by obtain ⟨a, b, e⟩ := ho7.form; exact ⟨a, b, _, e⟩
        obtain ⟨b2, b3, hR8, hK8⟩ := HRJ.out.row2 hg7 ho7 hv7
        have HR8 := Lib.hid hR8
        have HK8 : Hid (Keeps (brS B vr) w1 (w7.setCell ⟨B, 2, none⟩ (.slice A7 l7 k7))) := Lib.hid (keeps_then HKJ.out hK8 fun k hk hs => by
          rcases hs with rfl | hs
          · exact Or.inl rfl
          · rcases HVJ.out with e | e
            · exact Or.inr (by rw [← e]; exact hs)
            · have := e k hs; omega)
        have HV8 : Hid ((Value.slice A7 l7 k7).ownBlock = vr.ownBlock ∨ ∀ g, (Value.slice A7 l7 k7).ownBlock = some g → w1.heap.size ≤ g) := Lib.hid (by
          rcases hv7 with e | e
          · rw [e]; exact HVJ.out
          · exact Or.inr fun g hg => Nat.le_trans hzj (e g hg))
        clear ho7 hg7 hv7 hR8 hK8 r2
        go_wp2_with fail
        go_roundw
        case rel => exact ⟨j + 1, _, by omega, by go_num, by rw [HSTP.out]; exact HR8.out, HK8.out, HV8.out⟩
        case measure => simp [intOf]; omega
      · obtain rfl : j = i := by omega
        have kj : ¬ (j : Int) < j := by omega
        have htk : X.take j = X := List.take_of_length_le (by rw [HXL.out]; exact Nat.le_refl _)
        rw [htk] at HRJ hc1 hc2 hc3 hc4
        obtain ⟨F, hF⟩ : ∃ F, X.foldl insS s.1 = F := ⟨_, rfl⟩
        have HFE2 := HFE.out
        rw [hF] at HRJ hc1 hc2 hc3 hc4 HFE2
        have HFE3 := Lib.hid HFE2
        obtain ⟨_, _, hR9, hK9⟩ := HRJ.out.wait2 (World.grownBy.refl _ _) (OwnN.cut0 HRJ.out.waits) (Or.inl rfl)
        have hnw : Word n := by unfold Word; have := HN.out; have := HLE.out; have := HTOT.out; omega
        have CQ := Lib.hid (gw_squeeze T hR9 HA.out hnw hc1 (by have := HTOT.out; have := HTI.out; have := HN.out; omega) hc3 hc4 (by rw [hc2]; have := HSL.out; have := HI.out; omega))
        have HK9 := Lib.hid hK9
        have hz9 := hK9.size
        clear hc1 hc2 hc3 hc4 hjl htk hF hR9 hK9 HFE2 hnw
        go_wp2_with fail
        refine CQ.out.mono ?_
        rintro e wQ ⟨rfl, vq, hrq, hkq, hvq⟩
        have hFin : LeftX w B u v vr (.slice (some ⟨g0, 0, none⟩) j cw) (flushG u v s).1 (flushG u v s).2 n wQ := by
          rw [HFE3.out]
          refine ⟨vq, _, hrq, ?_, ?_⟩
          · refine keeps_then (keeps_then (keeps_then HK1.out HKJ.out ?_) HK9.out ?_) hkq ?_
            · rintro k _ (rfl | hs)
              · exact Or.inl rfl
              · exact Or.inr (Or.inl hs)
            · rintro k _ (rfl | hs)
              · exact Or.inl rfl
              · exact Or.inr (Or.inr hs)
            · rintro k hk (rfl | hs)
              · exact Or.inl rfl
              · rcases HVJ.out with e | e
                · exact Or.inr (Or.inl (by rw [← e]; exact hs))
                · have := e k hs; omega
          · rintro k (rfl | hs | hs)
            · exact Or.inl (Or.inl rfl)
            · rcases hvq with e | e
              · rw [e] at hs
                rcases HVJ.out with e2 | e2
                · exact Or.inl (Or.inr (Or.inl (by rw [← e2]; exact hs)))
                · have := e2 k hs; exact Or.inr (by omega)
              · have := e k hs; exact Or.inr (by omega)
            · exact Or.inl (Or.inr (Or.inr hs))
        have HF := Lib.hid hFin
        clear hFin hrq hkq hvq
        go_wp2_with fail
        first
        | (go_end0; exact ⟨rfl, HF.out⟩)
        | exact bodyPost_ret (results_none rfl _ _ _) rfl ⟨rfl, HF.out⟩
end Go.Proofs.YtfmlkohijkalbaaGreat

/-
  Walk: wide.Plus of two numbers, that lie in a block of their own.
-/
namespace Go.Proofs.YtfmlkohijkalbaaGreat
set_option linter.unusedVariables false
set_option linter.unusedSimpArgs false
open Go.RowKit

def plus2B (a b : Int) : Bool := decide (a + b ≤ 9223372036854775807)
def plus2Q (a b : Int) : Int := if plus2B a b then a + b else 0

set_option maxRecDepth 100000 in
set_option maxHeartbeats 1000000 in
theorem plus_two (x y q : Int) (ok : Bool) (g cap : Nat) (w : World) (hx : Word x) (hy : Word y) (h0 : w.cell? ⟨g, 0, none⟩ = some (.int .u64 x)) (h1 : w.cell? ⟨g, 1, none⟩ = some (.int .u64 y)) (hq : plus2Q x y = q) (hb : plus2B x y = ok) :
    Calls Tryz.prog 20 #[.slice (some ⟨g, 0, none⟩) 2 cap] w fun e w' =>
      e = .returned (.tuple #[.int .u64 q, .bool ok]) ∧ w = w' := by
  obtain ⟨x0, x1⟩ := hx
  obtain ⟨y0, y1⟩ := hy
  have HQ := Lib.hid hq
  have HB := Lib.hid hb
  clear hq hb
  by_cases a1 : 9223372036854775807 < x
  · have E1 : Hid (ok = false) := Lib.hid (by rw [← HB.out]; unfold plus2B; apply decide_eq_false; omega)
    have E2 : Hid (q = 0) := Lib.hid (by rw [← HQ.out]; unfold plus2Q; rw [HB.out, E1.out]; rfl)
    go_enter Tryz.func20, Tryz.ntmps20
    go_wp2_with fail
    go_loop [4, 9] (fun s i => s = .int .u64 0 ∧ i = .int .i64 0) (fun _ _ => 0)
    case atStart => exact ⟨rfl, rfl⟩
    case round =>
      obtain ⟨rfl, rfl⟩ := hrel
      have a2 : 9223372036854775807 - 0 < x := by omega
      go_wp2_with fail
      exact bodyPost_ret (v := .tuple #[.int .u64 0, .bool false]) (by simp [results, Tryz.results20, go_sem]) rfl ⟨by rw [E1.out, E2.out], rfl⟩
  · by_cases a2 : 9223372036854775807 - x < y
    · have E1 : Hid (ok = false) := Lib.hid (by rw [← HB.out]; unfold plus2B; apply decide_eq_false; omega)
      have E2 : Hid (q = 0) := Lib.hid (by rw [← HQ.out]; unfold plus2Q; rw [HB.out, E1.out]; rfl)
      go_enter Tryz.func20, Tryz.ntmps20
      go_wp2_with fail
      go_loop [4, 9] (fun s i => (s = .int .u64 0 ∧ i = .int .i64 0) ∨ (s = .int .u64 x ∧ i = .int .i64 1)) (fun _ i => 2 - (intOf i).toNat)
      case atStart => exact Or.inl ⟨rfl, rfl⟩
      case round =>
        rcases hrel with ⟨rfl, rfl⟩ | ⟨rfl, rfl⟩
        · go_wp2_with fail
          go_round
          case rel => exact Or.inr ⟨by go_num, by go_num⟩
          case measure => simp [intOf]
        · go_wp2_with fail
          exact bodyPost_ret (v := .tuple #[.int .u64 0, .bool false]) (by simp [results, Tryz.results20, go_sem]) rfl ⟨by rw [E1.out, E2.out], rfl⟩
    · have E1 : Hid (ok = true) := Lib.hid (by rw [← HB.out]; unfold plus2B; apply decide_eq_true; omega)
      have E2 : Hid (q = x + y) := Lib.hid (by rw [← HQ.out]; unfold plus2Q; rw [HB.out, E1.out]; rfl)
      go_enter Tryz.func20, Tryz.ntmps20
      go_wp2_with fail
      go_loop [4, 9] (fun s i => (s = .int .u64 0 ∧ i = .int .i64 0) ∨ (s = .int .u64 x ∧ i = .int .i64 1) ∨ (s = .int .u64 (x + y) ∧ i = .int .i64 2)) (fun _ i => 2 - (intOf i).toNat)
      case atStart => exact Or.inl ⟨rfl, rfl⟩
      case round =>
        rcases hrel with ⟨rfl, rfl⟩ | ⟨rfl, rfl⟩ | ⟨rfl, rfl⟩
        · go_wp2_with fail
          go_round
          case rel => exact Or.inr (Or.inl ⟨by go_num, by go_num⟩)
          case measure => simp [intOf]
        · go_wp2_with fail
          go_round
          case rel => exact Or.inr (Or.inr ⟨by go_num, by go_num⟩)
          case measure => simp [intOf]
        · go_wp2_with fail
          exact bodyPost_ret (v := .tuple #[.int .u64 (x + y), .bool true]) (by simp [results, Tryz.results20, go_sem]) rfl ⟨by rw [E1.out, E2.out], rfl⟩
end Go.Proofs.YtfmlkohijkalbaaGreat

/-
  The landed package greenwald: Total, Part, Good; one value more waits; Put.
-/
namespace Go.Proofs.YtfmlkohijkalbaaGreat
set_option linter.unusedVariables false
set_option linter.unusedSimpArgs false
open Go.RowKit

theorem leftx_then {w w1 w2 : World} {B : Nat} {u v n n1 : Int} {vr vw vr1 vw1 : Value} {S1 S2 : List SpotV} {W1 W2 : List Int} (h1 : GwRaw w1 B u v vr1 vw1 S1 W1 n1) (k1 : Keeps (rgS B vr vw) w w1) (b1 : ∀ k, rgS B vr1 vw1 k → rgS B vr vw k ∨ w.heap.size ≤ k) (h2 : LeftX w1 B u v vr1 vw1 S2 W2 n w2) : LeftX w B u v vr vw S2 W2 n w2 := by
  obtain ⟨vr2, vw2, r2, k2, b2⟩ := h2
  refine ⟨vr2, vw2, r2, keeps_then k1 k2 fun k hk hT => ?_, fun k hk => ?_⟩
  · rcases b1 k hT with h | h
    · exact h
    · omega
  · rcases b2 k hk with h | h
    · exact b1 k h
    · have := k1.size; exact Or.inr (by omega)

set_option maxRecDepth 100000 in
set_option maxHeartbeats 1000000 in
theorem gw_good (w : World) (a b : Int) (ha : Word a) (hb : Word b) : Calls Tryz.prog 60 #[.agg #[.int .u64 a, .int .u64 b]] w fun e w' => e = .returned (.bool (goodG a b)) ∧ Below w.heap.size w w' := by
  obtain ⟨a0, a1⟩ := ha
  obtain ⟨b0, b1⟩ := hb
  have h2 : b / 2 ≤ b ∧ 0 ≤ b / 2 := by omega
  obtain ⟨q, hq⟩ : ∃ q, b / 2 = q := ⟨_, rfl⟩
  have HG : Hid (goodG a b = (decide (0 < a) && decide (b ≤ 2147483648) && decide (a ≤ q))) := Lib.hid (by unfold goodG; rw [hq])
  by_cases c1 : 0 < a
  · have n1 : (a != 0) = true := by simp; omega
    by_cases c2 : b ≤ 2147483648
    · have HB : Hid (goodG a b = decide (a ≤ q)) := Lib.hid (by rw [HG.out, decide_eq_true c1, decide_eq_true c2]; rfl)
      go_enter Tryz.func60, Tryz.ntmps60
      go_wp2_with fail
      go_ret
      refine ⟨?_, (Below.refl _ _).alloc (Nat.le_refl _) _⟩
      rw [HB.out]; rfl
    · have HB : Hid (goodG a b = false) := Lib.hid (by rw [HG.out, decide_eq_true c1, decide_eq_false c2]; rfl)
      go_enter Tryz.func60, Tryz.ntmps60
      go_wp2_with fail
      go_ret
      exact ⟨by rw [HB.out]; rfl, (Below.refl _ _).alloc (Nat.le_refl _) _⟩
  · have HB : Hid (goodG a b = false) := Lib.hid (by rw [HG.out, decide_eq_false c1]; rfl)
    obtain rfl : a = 0 := by omega
    go_enter Tryz.func60, Tryz.ntmps60
    go_wp2_with fail
    go_ret
    exact ⟨by rw [HB.out]; rfl, (Below.refl _ _).alloc (Nat.le_refl _) _⟩

theorem gw_total {w : World} {B : Nat} {n : Int} (c4 : w.cell? ⟨B, 4, none⟩ = some (.int .u64 n)) : Calls Tryz.prog 13 #[.pointer (some ⟨B, 0, none⟩)] w fun e w' => e = .returned (.int .u64 n) ∧ Below w.heap.size w w' := by
  go_enter Tryz.func13, Tryz.ntmps13
  go_wp2_with fail
  go_ret
  exact ⟨rfl, Below.refl _ _⟩

theorem gw_total_nil (w : World) : Calls Tryz.prog 13 #[.pointer none] w fun e w' => e = .returned (.int .u64 0) ∧ Below w.heap.size w w' := by
  go_enter Tryz.func13, Tryz.ntmps13
  go_wp2_with fail
  go_ret
  exact ⟨rfl, Below.refl _ _⟩

theorem gw_flush_nil (w : World) : Calls Tryz.prog 21 #[.pointer none] w fun e w' => e = .returned (.tuple #[]) ∧ Below w.heap.size w w' := by
  go_enter Tryz.func21, Tryz.ntmps21
  go_wp2_with fail
  first
  | (go_end0; exact ⟨rfl, Below.refl _ _⟩)
  | exact bodyPost_ret (results_none rfl _ _ _) rfl ⟨rfl, Below.refl _ _⟩

set_option maxRecDepth 100000 in
set_option maxHeartbeats 4000000 in
theorem gw_wait (T : TupDoes) {w : World} {B : Nat} {u v n x : Int} {vr vw : Value} {s : GwV} (h : GwRaw w B u v vr vw s.1 s.2 n) (ok : OkX s) (hn : totG s = n) (hf : s.2.length < 16) (ha : GoodA u v) (hx : I64 x) (hl : lenG s + 1 ≤ 5000) (ht : n + 1 ≤ 9223372036854775807) :
    Calls Tryz.prog 45 #[.pointer (some ⟨B, 0, none⟩), .int .i64 x] w fun e w' => e = .returned (.tuple #[]) ∧ LeftX w B u v vr vw (put1G u v s x).1 (put1G u v s x).2 (n + 1) w' := by
  obtain ⟨Aw, cw, rfl⟩ := h.waits.form
  obtain ⟨i, hi⟩ : ∃ i, s.2.length = i := ⟨_, rfl⟩
  rw [hi] at h hf ⊢
  have n0 : 0 ≤ n := by rw [← hn]; have := ok.le; omega
  have hmore := ok.more hx (by omega) hl (by omega)
  have HMO := Lib.hid hmore
  have HTM : Hid (totG (s.1, s.2 ++ [x]) = n + 1) := Lib.hid (by rw [← hn]; unfold totG; simp; omega)
  have HP1 : Hid (put1G u v s x = if i + 1 = 16 then flushG u v (s.1, s.2 ++ [x]) else (s.1, s.2 ++ [x])) := Lib.hid (by unfold put1G; rw [hi])
  have HI := Lib.hid hi
  have HR := Lib.hid h
  have HA := Lib.hid ha
  obtain ⟨x0, x1⟩ := hx
  have c3 := h.c3
  have HAL : Hid (Below w.heap.size w (w.alloc (.cells #[.int .i64 x] 2))) := Lib.hid ((Below.refl _ _).alloc (Nat.le_refl _) _)
  have HR1 := Lib.hid (h.call HAL.out)
  clear h ok hn ha hl hmore hi
  go_enter Tryz.func45, Tryz.ntmps45
  go_wp2_with (at_builtin; refine wpList_append_num rfl _ _ rfl 0 _ s.2 i HI.out w.heap.size x rfl HR1.out.waits rfl ?c1 ?c4 (Nat.zero_le _) ?_)
  case c1 => go_simp
  case c4 => omega
  intro g' cap' w2 hown hgr hg'
  obtain ⟨s3, s4, hRN, hKN⟩ := HR1.out.wait2 hgr hown (by
    rcases hg' with e | e
    · exact Or.inl e.symm
    · exact Or.inr fun g hg => by have e2 : g' = g := Option.some.inj hg; have z : (w.alloc (.cells #[.int .i64 x] 2)).heap.size = w.heap.size + 1 := (by simp); omega)
  have hKN' : Keeps (rgS B vr (.slice Aw i cw)) w (w2.setCell ⟨B, 3, none⟩ (.slice (some ⟨g', 0, none⟩) (i + 1) cap')) :=
    keeps_then (Keeps.of_below HAL.out) hKN fun k _ hk => by
      rcases hk with rfl | e
      · exact Or.inl rfl
      · exact Or.inr (Or.inr e)
  have hBN : ∀ k, rgS B vr (.slice (some ⟨g', 0, none⟩) (i + 1) cap') k → rgS B vr (.slice Aw i cw) k ∨ w.heap.size ≤ k := by
    rintro k (rfl | e | e)
    · exact Or.inl (Or.inl rfl)
    · exact Or.inl (Or.inr (Or.inl e))
    · have e2 : g' = k := Option.some.inj e
      subst e2
      rcases hg' with e3 | e3
      · exact Or.inl (Or.inr (Or.inr e3))
      · exact Or.inr (by omega)
  have HBN := Lib.hid hBN
  obtain ⟨w3, hw3⟩ : ∃ w3, w2.setCell ⟨B, 3, none⟩ (.slice (some ⟨g', 0, none⟩) (i + 1) cap') = w3 := ⟨_, rfl⟩
  rw [hw3] at hRN hKN'
  have HRN := Lib.hid hRN
  have HKN := Lib.hid hKN'
  have r3 := hRN.c3
  have r4 := hRN.c4
  have rf4 := hRN.f0 4
  have HR4 := Lib.hid (hRN.put4 (n + 1))
  have HK4 : Hid (Keeps (rgS B vr (.slice Aw i cw)) w (w3.setCell ⟨B, 4, none⟩ (.int .u64 (n + 1)))) := Lib.hid (keeps_then hKN' (keeps_put (S := brS B vr) (Or.inl rfl)) fun k _ hk => by
    rcases hk with rfl | e
    · exact Or.inl rfl
    · exact Or.inr (Or.inl e))
  have nn : IntKind.u64.wrap (n + 1) = n + 1 := by rw [IntKind.wrap_u64]; omega
  clear hown hgr hg' hRN hKN hKN' hBN
  by_cases h16 : i + 1 = 16
  · have e1 : (((i : Int) + 1) == 16) = true := by simp; omega
    have HPE : Hid (put1G u v s x = flushG u v (s.1, s.2 ++ [x])) := Lib.hid (by rw [HP1.out, if_pos h16])
    have CF := Lib.hid (gw_flush T (s := (s.1, s.2 ++ [x])) HR4.out HMO.out HTM.out HA.out)
    clear h16
    go_wp2_with fail
    refine CF.out.mono ?_
    rintro e w5 ⟨rfl, hL⟩
    have HF := Lib.hid (leftx_then HR4.out HK4.out HBN.out hL)
    rw [← HPE.out] at HF
    clear hL
    go_wp2_with fail
    first
    | (go_end0; exact ⟨rfl, HF.out⟩)
    | exact bodyPost_ret (results_none rfl _ _ _) rfl ⟨rfl, HF.out⟩
  · have e1 : (((i : Int) + 1) == 16) = false := by simp; omega
    have HPE : Hid (put1G u v s x = (s.1, s.2 ++ [x])) := Lib.hid (by rw [HP1.out, if_neg h16])
    have HF := Lib.hid (⟨vr, _, HR4.out, HK4.out, HBN.out⟩ : LeftX w B u v vr (.slice Aw i cw) (s.1, s.2 ++ [x]).1 (s.1, s.2 ++ [x]).2 (n + 1) (w3.setCell ⟨B, 4, none⟩ (.int .u64 (n + 1))))
    rw [← HPE.out] at HF
    go_wp2_with fail
    first
    | (go_end0; exact ⟨rfl, HF.out⟩)
    | exact bodyPost_ret (results_none rfl _ _ _) rfl ⟨rfl, HF.out⟩

set_option maxRecDepth 100000 in
set_option maxHeartbeats 4000000 in
theorem gw_put (T : TupDoes) {w : World} {B : Nat} {u v n x : Int} {vr vw : Value} {s : GwV} {c : Nat} (h : GwRaw w B u v vr vw s.1 s.2 n) (ok : OkX s) (hn : totG s = n) (hf : s.2.length < 16) (ha : GoodA u v) (hx : I64 x) (hc0 : 0 < c) (hc1 : c ≤ 1024) (hl : lenG s + c ≤ 5000) (ht : n + c ≤ 9223372036854775807) :
    Calls Tryz.prog 17 #[.pointer (some ⟨B, 0, none⟩), .int .i64 x, .int .u64 c] w fun e w' => e = .returned (.int .i64 0) ∧ LeftX w B u v vr vw (putG u v s x c).1 (putG u v s x c).2 (n + c) w' := by
  have n0 : 0 ≤ n := by rw [← hn]; have := ok.le; omega
  have hnw : Word n := by unfold Word; omega
  have hcw : Word (c : Int) := by unfold Word; omega
  have HR := Lib.hid h
  have HOK := Lib.hid ok
  have HN := Lib.hid hn
  have HFW := Lib.hid hf
  have HA := Lib.hid ha
  have HX := Lib.hid hx
  have HL := Lib.hid hl
  obtain ⟨x0, x1⟩ := hx
  have c4 := h.c4
  have e0 : ((c : Int) == 0) = false := by rw [beq_eq_false_iff_ne]; omega
  have e1 : ¬ (1024 : Int) < (c : Int) := by omega
  have HB1 : Hid (Below w.heap.size w (w.alloc (.cells #[.int .u64 n, .int .u64 c] 22))) := Lib.hid ((Below.refl _ _).alloc (Nat.le_refl _) _)
  have hp : plus2B n c = true := by unfold plus2B; exact decide_eq_true (by omega)
  have CP := Lib.hid (fun W (h0 : W.cell? ⟨w.heap.size, 0, none⟩ = some (.int .u64 n)) (h1 : W.cell? ⟨w.heap.size, 1, none⟩ = some (.int .u64 c)) => plus_two n c _ true w.heap.size 2 W hnw hcw h0 h1 rfl hp)
  obtain ⟨pq, hpq⟩ : ∃ q, plus2Q n c = q := ⟨_, rfl⟩
  rw [hpq] at CP
  have HT := Lib.hid ht
  clear h ok hn hf ha hl hnw hcw hp hpq
  go_enter Tryz.func17, Tryz.ntmps17
  go_wp2_with fail
  refine (CP.out _ (by go_simp) (by go_simp)).mono ?_
  rintro e w1 ⟨rfl, rfl⟩
  obtain ⟨w1, hw1⟩ : ∃ w1, w.alloc (.cells #[.int .u64 n, .int .u64 c] 22) = w1 := ⟨_, rfl⟩
  rw [hw1] at HB1 ⊢
  have HR1 := Lib.hid (HR.out.call HB1.out)
  go_wp2_with fail
  go_loopw [28] (fun iv wr => ∃ (i : Nat), i ≤ c ∧ iv = .int .u64 i ∧ LeftX w B u v vr vw (putG u v s x i).1 (putG u v s x i).2 (n + i) wr) (fun iv _ => c - (intOf iv).toNat)
  case atStart => exact ⟨0, Nat.zero_le _, rfl, vr, vw, by show GwRaw w1 B u v vr vw s.1 s.2 (n + ((0 : Nat) : Int)); simpa using HR1.out, Keeps.of_below HB1.out, fun k hk => Or.inl hk⟩
  case round =>
    obtain ⟨i, hi, rfl, hp⟩ := hrel
    have HP := Lib.hid hp
    clear hp
    by_cases hlt : i < c
    · have kk : (i : Int) < c := by omega
      obtain ⟨vi, wi, hr, hk, hb⟩ := HP.out
      obtain ⟨k1, k2, k3, k4⟩ := OkX.put (u := u) (v := v) HOK.out HX.out HFW.out i (by have := HL.out; omega) (by rw [HN.out]; have := HT.out; omega)
      have CW := Lib.hid (gw_wait T hr k1 (by rw [k2, HN.out]) k4 HA.out HX.out (by have := HL.out; omega) (by have := HT.out; omega))
      have hnx : put1G u v (putG u v s x i) x = putG u v s x (i + 1) := rfl
      rw [hnx, show n + (i : Int) + 1 = n + ((i + 1 : Nat) : Int) by omega] at CW
      have HRI := Lib.hid hr
      have HKI := Lib.hid hk
      have HBI := Lib.hid hb
      clear hr hk hb k1 k2 k3 k4 hnx
      go_wp2_with fail
      refine CW.out.mono ?_
      rintro e w5 ⟨rfl, hL⟩
      have HF := Lib.hid (leftx_then HRI.out HKI.out HBI.out hL)
      clear hL
      go_wp2_with fail
      go_roundw
      case rel => exact ⟨i + 1, by omega, by go_num, HF.out⟩
      case measure => simp [intOf]; omega
    · obtain rfl : i = c := by omega
      have kk : ¬ (i : Int) < i := by omega
      go_wp2_with fail
      go_ret
      exact ⟨rfl, HP.out⟩

set_option maxHeartbeats 1000000 in
theorem gw_put_nil (w : World) (x c : Int) : Calls Tryz.prog 17 #[.pointer none, .int .i64 x, .int .u64 c] w fun e w' => e = .returned (.int .i64 2) ∧ Below w.heap.size w w' := by
  go_enter Tryz.func17, Tryz.ntmps17
  go_wp2_with fail
  go_ret
  exact ⟨rfl, Below.refl _ _⟩

set_option maxHeartbeats 1000000 in
theorem gw_put_zero (w : World) (B : Nat) (x : Int) : Calls Tryz.prog 17 #[.pointer (some ⟨B, 0, none⟩), .int .i64 x, .int .u64 0] w fun e w' => e = .returned (.int .i64 1) ∧ Below w.heap.size w w' := by
  go_enter Tryz.func17, Tryz.ntmps17
  go_wp2_with fail
  go_ret
  exact ⟨rfl, Below.refl _ _⟩

set_option maxHeartbeats 1000000 in
theorem gw_put_long (w : World) (B : Nat) (x c : Int) (hc : Word c) (h : 1024 < c) : Calls Tryz.prog 17 #[.pointer (some ⟨B, 0, none⟩), .int .i64 x, .int .u64 c] w fun e w' => e = .returned (.int .i64 3) ∧ Below w.heap.size w w' := by
  have e0 : (c == 0) = false := by rw [beq_eq_false_iff_ne]; omega
  go_enter Tryz.func17, Tryz.ntmps17
  go_wp2_with fail
  go_ret
  exact ⟨rfl, Below.refl _ _⟩
end Go.Proofs.YtfmlkohijkalbaaGreat

/-
  The landed package greenwald: rows copied; Row; the row that a sketch would have if it were flushed.
-/
namespace Go.Proofs.YtfmlkohijkalbaaGreat
set_option linter.unusedVariables false
set_option linter.unusedSimpArgs false
open Go.RowKit

theorem Tups.none_ {w : World} {L : List TupV} (h : Tups w none L) : L = [] := by
  cases L with
  | nil => rfl
  | cons p r => obtain ⟨b, off, e, _⟩ := h.at_ 0 p rfl; cases e
theorem Nums.none_ {w : World} {L : List Int} (h : Nums w none L) : L = [] := by
  cases L with
  | nil => rfl
  | cons p r => obtain ⟨b, off, e, _⟩ := h.at_ 0 p rfl; cases e

set_option maxRecDepth 100000 in
set_option maxHeartbeats 1000000 in
theorem clone_tups (w : World) (A : Option Addr) (n cap : Nat) (L : List TupV) (h : Tups w A L) (hn : L.length = n) (hl : n ≤ 100000) :
    Calls Tryz.prog 55 #[.slice A n cap] w fun e w' => ∃ v, e = .returned v ∧ OwnTu w' w.heap.size v L ∧ Below w.heap.size w w' := by
  subst hn
  cases A with
  | none =>
    have e := h.none_
    subst e
    have he : ∀ w : World, (binOp .eql 56 (.slice none 0 cap) (.slice none 0 0)).run Tryz.prog w = .ok (.bool true) w := fun _ => rfl
    clear h
    show Calls Tryz.prog 55 #[.slice none 0 cap] w _
    go_enter Tryz.func55, Tryz.ntmps55
    go_wp2_with fail
    go_ret
    exact ⟨_, rfl, OwnTu.nil _ _, Below.refl _ _⟩
  | some ad =>
    have hO := World.ownsRow_made (base := w.heap.size) (e := 75) (size := 3) w #[] 0 (by simp) (by decide) rfl
    have HO : Hid (OwnTu (w.alloc (.cells #[] 75)) w.heap.size (.slice (some ⟨w.heap.size, 0, none⟩) 0 0) []) := Lib.hid hO
    have HB : Hid (Below w.heap.size w (w.alloc (.cells #[] 75))) := Lib.hid ((Below.refl _ _).alloc (Nat.le_refl _) _)
    have HP := Lib.hid (h.call HB.out)
    have he : ∀ w : World, (binOp .eql 56 (.slice (some ad) L.length cap) (.slice none 0 0)).run Tryz.prog w = .ok (.bool false) w := fun _ => rfl
    clear h hO
    go_enter Tryz.func55, Tryz.ntmps55
    go_wp2_with (at_builtin; refine wpList_append_tus rfl (.tmp 5) (.tmp 6) rfl w.heap.size _ [] (some ad) cap L rfl HO.out rfl HP.out ?c1 ?c2 ?_)
    case c1 => simp; omega
    case c2 => simp
    intro v5 w5 hown5 hg5
    have hb5 : Below w.heap.size w w5 := HB.out.grown hg5 HB.out.size (fun k hk => by cases hk; exact Nat.le_refl _)
    obtain ⟨A5, k5, rfl⟩ := hown5.form
    have HO5 := Lib.hid hown5
    have HB5 := Lib.hid hb5
    clear hown5 hg5 hb5
    go_wp2_with fail
    go_ret
    exact ⟨_, rfl, HO5.out, HB5.out⟩

set_option maxRecDepth 100000 in
set_option maxHeartbeats 1000000 in
theorem clone_nums (w : World) (A : Option Addr) (n cap : Nat) (L : List Int) (h : Nums w A L) (hn : L.length = n) (hl : n ≤ 100000) :
    Calls Tryz.prog 35 #[.slice A n cap] w fun e w' => ∃ v, e = .returned v ∧ OwnN w' w.heap.size v L ∧ Below w.heap.size w w' := by
  subst hn
  cases A with
  | none =>
    have e := h.none_
    subst e
    have he : ∀ w : World, (binOp .eql 52 (.slice none 0 cap) (.slice none 0 0)).run Tryz.prog w = .ok (.bool true) w := fun _ => rfl
    clear h
    show Calls Tryz.prog 35 #[.slice none 0 cap] w _
    go_enter Tryz.func35, Tryz.ntmps35
    go_wp2_with fail
    go_ret
    exact ⟨_, rfl, OwnN.nil _ _, Below.refl _ _⟩
  | some ad =>
    have hE : (w.alloc (.cells #[] 2)).heap[w.heap.size]? = some (.cells #[] 2 (0, 0)) := new_cells0 w _
    have HO := Lib.hid (own_emptyN (base := w.heap.size) hE (Nat.le_refl _))
    have HB : Hid (Below w.heap.size w (w.alloc (.cells #[] 2))) := Lib.hid ((Below.refl _ _).alloc (Nat.le_refl _) _)
    have HP := Lib.hid (h.call HB.out)
    have he : ∀ w : World, (binOp .eql 52 (.slice (some ad) L.length cap) (.slice none 0 0)).run Tryz.prog w = .ok (.bool false) w := fun _ => rfl
    clear h hE
    go_enter Tryz.func35, Tryz.ntmps35
    go_wp2_with (at_builtin; refine wpList_append_nums rfl (.tmp 5) (.tmp 6) rfl w.heap.size _ [] (some ad) cap L rfl HO.out rfl HP.out ?c1 ?c2 ?_)
    case c1 => simp; omega
    case c2 => simp
    intro v5 w5 hown5 hg5
    have hb5 : Below w.heap.size w w5 := HB.out.grown hg5 HB.out.size (fun k hk => by cases hk; exact Nat.le_refl _)
    obtain ⟨A5, k5, rfl⟩ := hown5.form
    have HO5 := Lib.hid hown5
    have HB5 := Lib.hid hb5
    clear hown5 hg5 hb5
    go_wp2_with fail
    go_ret
    exact ⟨_, rfl, HO5.out, HB5.out⟩

/-- What Row answers: two new rows, that lie apart. -/
def RowsX (w : World) (S : List SpotV) (W : List Int) (e : Ending) (w' : World) : Prop :=
  ∃ v1 v2, e = .returned (.tuple #[v1, v2]) ∧ OwnTu w' w.heap.size v1 (rowT 0 S) ∧ OwnN w' w.heap.size v2 W ∧ (∀ g, v2.ownBlock = some g → v1.ownBlock ≠ some g) ∧ Below w.heap.size w w'

set_option maxRecDepth 100000 in
set_option maxHeartbeats 4000000 in
theorem gw_row {w : World} {B : Nat} {u v n m : Int} {vr vw : Value} {S : List SpotV} {W : List Int} (h : GwRaw w B u v vr vw S W n) (hc : SpotsP 0 m S) (hm : m ≤ 9223372036854775807) (hx : ∀ s, s ∈ S → I64 s.x) (hw : ∀ x, x ∈ W → I64 x) (hl : S.length ≤ 5000) (hl2 : W.length ≤ 5000) :
    Calls Tryz.prog 30 #[.pointer (some ⟨B, 0, none⟩)] w fun e w' => RowsX w S W e w' := by
  obtain ⟨A1, c1, rfl, hT⟩ := h.row.rows (row_okX hc hm hx)
  obtain ⟨A2, c2, rfl, hN⟩ := h.waits.rows hw
  have CT := Lib.hid (fun (W' : World) (hb : Below w.heap.size w W') => (clone_tups W' A1 (rowT 0 S).length c1 (rowT 0 S) (hT.call hb) rfl (by rw [row_len]; omega)).mono fun e w' ⟨x, h1, h2, h3⟩ => (⟨x, h1, h2, h3, hb.trans (h3.mono hb.size)⟩ : ∃ x, e = Ending.returned x ∧ OwnTu w' W'.heap.size x (rowT 0 S) ∧ Below W'.heap.size W' w' ∧ Below w.heap.size w w'))
  have CN := Lib.hid (fun (W' : World) (hb : Below w.heap.size w W') => (clone_nums W' A2 W.length c2 W (hN.call hb) rfl (by omega)).mono fun e w' ⟨x, h1, h2, h3⟩ => (⟨x, h1, h2, h3, hb.trans (h3.mono hb.size)⟩ : ∃ x, e = Ending.returned x ∧ OwnN w' W'.heap.size x W ∧ Below W'.heap.size W' w' ∧ Below w.heap.size w w'))
  have q2 := h.c2
  have q3 := h.c3
  clear hT hN h
  obtain ⟨n1, hn1⟩ : ∃ k, (rowT 0 S).length = k := ⟨_, rfl⟩
  obtain ⟨n2, hn2⟩ : ∃ k, W.length = k := ⟨_, rfl⟩
  rw [hn1] at CT q2
  rw [hn2] at CN q3
  have HB0 : Hid (Below w.heap.size w w.drew) := Lib.hid (Below.refl _ _).drew
  clear hn1 hn2
  go_enter Tryz.func30, Tryz.ntmps30
  go_wp2_with fail
  go_region_with (first
    | (go_at_call 55; refine (CT.out _ (by first | exact Below.refl _ _ | exact HB0.out | exact hcB | exact hcB.drew)).mono ?_; rintro e wA ⟨vA, rfl, hoA, hbA, hcA⟩; obtain ⟨AA, kA, lA, rfl⟩ : ∃ AA kA lA, vA = .slice AA lA kA := (by obtain ⟨a, b, e⟩ := hoA.form; exact ⟨a, b, _, e⟩); have a2 := cell_later hcA q2; have a3 := cell_later hcA q3)
    | (go_at_call 35; refine (CN.out _ (by first | exact Below.refl _ _ | exact HB0.out | exact hcA | exact hcA.drew)).mono ?_; rintro e wB ⟨vB, rfl, hoB, hbB, hcB⟩; obtain ⟨AB, kB, lB, rfl⟩ : ∃ AB kB lB, vB = .slice AB lB kB := (by obtain ⟨a, b, e⟩ := hoB.form; exact ⟨a, b, _, e⟩); have b2 := cell_later hcB q2; have b3 := cell_later hcB q3))
  all_goals
    have hoA2 : OwnTu wA w.heap.size (.slice AA lA kA) (rowT 0 S) := hoA
    have hbAB : Below wA.heap.size wA wB := by first | exact hbB | exact (Below.refl _ _).drew.trans hbB
    have hoB2 : OwnN wB wA.heap.size (.slice AB lB kB) W := hoB
    have HF := Lib.hid (⟨_, _, rfl, hoA2.call hbAB, hoB2.mono hcA.size, fun g hg hg2 => (by have := (hoB2.lt g hg).1; have := (hoA2.lt g hg2).2; omega), hcB⟩ : RowsX w S W (Ending.returned (.tuple #[.slice AA lA kA, .slice AB lB kB])) wB)
    clear hoA hoA2 hoB hoB2 hbAB hbA hbB hcA hcB
    go_wp2_with fail
    go_ret2
    exact HF.out

set_option maxHeartbeats 400000 in
theorem gw_row_nil (w : World) : Calls Tryz.prog 30 #[.pointer none] w fun e w' => e = .returned (.tuple #[.slice none 0 0, .slice none 0 0]) ∧ Below w.heap.size w w' := by
  go_enter Tryz.func30, Tryz.ntmps30
  go_wp2_with fail
  go_ret2
  exact ⟨rfl, Below.refl _ _⟩

/-- A sketch in a new block. -/
theorem gwraw_new {w : World} {u v n : Int} {v1 v2 : Value} {S : List SpotV} {W : List Int} (h1 : OwnTu w 0 v1 (rowT 0 S)) (h2 : OwnN w 0 v2 W) (hap : ∀ g, v2.ownBlock = some g → v1.ownBlock ≠ some g) :
    GwRaw (w.alloc (.cells #[.int .u64 u, .int .u64 v, v1, v2, .int .u64 n] 58)) w.heap.size u v v1 v2 S W n := by
  have hb : Below w.heap.size w (w.alloc (.cells #[.int .u64 u, .int .u64 v, v1, v2, .int .u64 n] 58)) := (Below.refl _ _).alloc (Nat.le_refl _) _
  refine ⟨?_, ?_, ?_, ?_, ?_, ?_, h1.call hb, h2.call hb, ?_, ?_, hap⟩
  · go_simp
  · go_simp
  · go_simp
  · go_simp
  · go_simp
  · intro o; go_simp
  · intro e; have := (h1.lt _ e).2; omega
  · intro e; have := (h2.lt _ e).2; omega

set_option maxRecDepth 100000 in
set_option maxHeartbeats 4000000 in
/-- The row that a sketch would have if it were flushed; it stays as it is. -/
theorem gw_flushed (T : TupDoes) {w : World} {B : Nat} {u v n : Int} {vr vw : Value} {s : GwV} (h : GwRaw w B u v vr vw s.1 s.2 n) (ok : OkX s) (hn : totG s = n) (ha : GoodA u v) :
    Calls Tryz.prog 23 #[.pointer (some ⟨B, 0, none⟩)] w fun e w' => ∃ A cap, e = .returned (.slice A (flushG u v s).1.length cap) ∧ Tups w' A (rowT 0 (flushG u v s).1) ∧ Below w.heap.size w w' := by
  have CR := Lib.hid (gw_row h ok.can (by have := ok.le; have := ok.tot; omega) ok.sp ok.wt (by have := ok.sl; omega) (by have := ok.sl; omega))
  have HR := Lib.hid h
  have HOK := Lib.hid ok
  have HN := Lib.hid hn
  have HA := Lib.hid ha
  obtain ⟨nf, hnf⟩ : ∃ k, (flushG u v s).1.length = k := ⟨_, rfl⟩
  rw [hnf]
  have HNF := Lib.hid hnf
  clear h ok hn ha hnf
  go_enter Tryz.func23, Tryz.ntmps23
  go_wp2_with fail
  refine CR.out.mono ?_
  rintro e w1 ⟨v1, v2, rfl, ho1, ho2, hap, hb1⟩
  obtain ⟨A1, k1, l1, rfl⟩ : ∃ AA kA lA, v1 = .slice AA lA kA := by obtain ⟨a, b, e⟩ := ho1.form; exact ⟨a, b, _, e⟩
  obtain ⟨A2, k2, l2, rfl⟩ : ∃ AA kA lA, v2 = .slice AA lA kA := by obtain ⟨a, b, e⟩ := ho2.form; exact ⟨a, b, _, e⟩
  have HR1 := Lib.hid (HR.out.call hb1)
  have q0 := HR1.out.c0
  have q1 := HR1.out.c1
  have q4 := HR1.out.c4
  have hBl := HR1.out.lt
  have hBn : ¬ B = w1.heap.size := by omega
  have HO1 := Lib.hid ho1
  have HO2 := Lib.hid ho2
  have HAP := Lib.hid hap
  have HB1 := Lib.hid hb1
  clear ho1 ho2 hap hb1
  go_wp2_with fail
  go_region_with (fail)
  all_goals
    have hR2 := gwraw_new (u := u) (v := v) (n := n) (HO1.out.mono (Nat.zero_le _)) (HO2.out.mono (Nat.zero_le _)) HAP.out
    have hR3 := hR2.call (Below.refl _ _).drew
    have CF := Lib.hid (gw_flush T hR3 HOK.out HN.out HA.out)
    have hb3 : Below w.heap.size w (w1.alloc (.cells #[.int .u64 u, .int .u64 v, .slice A1 l1 k1, .slice A2 l2 k2, .int .u64 n] 58)).drew := (HB1.out.alloc HB1.out.size _).drew
    have HB3 := Lib.hid hb3
    have HS3 : Hid (∀ k, rgS w1.heap.size (.slice A1 l1 k1) (.slice A2 l2 k2) k → w.heap.size ≤ k) := Lib.hid (by
      rintro k (rfl | e | e)
      · exact HB1.out.size
      · exact (HO1.out.lt k e).1
      · exact (HO2.out.lt k e).1)
    clear hR2 hR3 hb3
    go_wp2_with fail
    refine CF.out.mono ?_
    rintro e w5 ⟨rfl, vr5, vw5, hr5, hk5, _⟩
    have hb5 : Below w.heap.size w w5 := hk5.below HB3.out HB3.out.size HS3.out
    have hoF := (OkX.flush (u := u) (v := v) HOK.out)
    have htF := hoF.2.1
    obtain ⟨A5, c5, rfl, hT5⟩ := hr5.row.rows (row_okX hoF.1.can (by have := hoF.1.le; have := hoF.1.tot; omega) hoF.1.sp)
    have hlen : (rowT 0 (flushG u v s).1).length = (flushG u v s).1.length := row_len _ _
    have p2 := hr5.c2
    rw [hlen] at p2
    rw [HNF.out] at p2
    have HF := Lib.hid (⟨A5, c5, rfl, hT5, hb5⟩ : ∃ A cap, Ending.returned (.slice A5 nf c5) = .returned (.slice A nf cap) ∧ Tups w5 A (rowT 0 (flushG u v s).1) ∧ Below w.heap.size w w5)
    clear hr5 hk5 hb5 hoF htF hT5 hlen
    go_wp2_with fail
    go_ret
    exact HF.out
end Go.Proofs.YtfmlkohijkalbaaGreat

/-
  The landed package greenwald: Join.
-/
namespace Go.Proofs.YtfmlkohijkalbaaGreat
set_option linter.unusedVariables false
set_option linter.unusedSimpArgs false
open Go.RowKit

set_option maxHeartbeats 400000 in
theorem gw_join_nil0 (w : World) : Calls Tryz.prog 6 #[.pointer none, .pointer none] w fun e w' => e = .returned (.int .i64 2) ∧ Below w.heap.size w w' := by
  go_enter Tryz.func6, Tryz.ntmps6
  go_wp2_with fail
  go_ret
  exact ⟨rfl, Below.refl _ _⟩

set_option maxHeartbeats 400000 in
theorem gw_join_nil (w : World) (B : Nat) : Calls Tryz.prog 6 #[.pointer (some ⟨B, 0, none⟩), .pointer none] w fun e w' => e = .returned (.int .i64 2) ∧ Below w.heap.size w w' := by
  go_enter Tryz.func6, Tryz.ntmps6
  go_wp2_with fail
  go_ret
  exact ⟨rfl, Below.refl _ _⟩

set_option maxHeartbeats 1000000 in
theorem gw_join_match {w : World} {B B' : Nat} {u v u' v' : Int} (c0 : w.cell? ⟨B, 0, none⟩ = some (.int .u64 u)) (c1 : w.cell? ⟨B, 1, none⟩ = some (.int .u64 v)) (d0 : w.cell? ⟨B', 0, none⟩ = some (.int .u64 u')) (d1 : w.cell? ⟨B', 1, none⟩ = some (.int .u64 v')) (h : u ≠ u' ∨ v ≠ v') :
    Calls Tryz.prog 6 #[.pointer (some ⟨B, 0, none⟩), .pointer (some ⟨B', 0, none⟩)] w fun e w' => e = .returned (.int .i64 8) ∧ Below w.heap.size w w' := by
  rcases Int.decEq u u' with hb | hb
  · have e1 : (u == u') = false := by simp; omega
    clear h
    go_enter Tryz.func6, Tryz.ntmps6
    go_wp2_with fail
    go_quiet (fail)
    go_wp2_with fail
    go_ret
    exact ⟨rfl, below_drewN (Below.refl _ _) _⟩
  · have hk : v ≠ v' := by omega
    subst hb
    have e1 : (v == v') = false := by simp; omega
    have e2 : ¬ v = v' := hk
    clear h hk
    go_enter Tryz.func6, Tryz.ntmps6
    go_wp2_with fail
    go_quiet (fail)
    go_wp2_with fail
    go_ret
    exact ⟨rfl, below_drewN (Below.refl _ _) _⟩

set_option maxRecDepth 100000 in
set_option maxHeartbeats 8000000 in
theorem gw_join (T : TupDoes) {w : World} {B B' : Nat} {u v n n' : Int} {vr vw vr' vw' : Value} {s t : GwV} (h : GwRaw w B u v vr vw s.1 s.2 n) (k : GwRaw w B' u v vr' vw' t.1 t.2 n') (ok : OkX s) (ok' : OkX t) (hn : totG s = n) (hn' : totG t = n') (ha : GoodA u v) (hd : ∀ i, rgS B vr vw i → ¬ rgS B' vr' vw' i) (hl : lenG s + lenG t ≤ 5000) (ht : n + n' ≤ 9223372036854775807) :
    Calls Tryz.prog 6 #[.pointer (some ⟨B, 0, none⟩), .pointer (some ⟨B', 0, none⟩)] w fun e w' => e = .returned (.int .i64 0) ∧ LeftX w B u v vr vw (joinG u v s t).1 (joinG u v s t).2 (n + n') w' := by
  have n0 : 0 ≤ n := by rw [← hn]; have := ok.le; omega
  have n0' : 0 ≤ n' := by rw [← hn']; have := ok'.le; omega
  have hp : plus2B n n' = true := by unfold plus2B; exact decide_eq_true ht
  have hq : plus2Q n n' = n + n' := by unfold plus2Q; rw [hp]; rfl
  have CP := Lib.hid (fun W g (h0 : W.cell? ⟨g, 0, none⟩ = some (.int .u64 n)) (h1 : W.cell? ⟨g, 1, none⟩ = some (.int .u64 n')) => plus_two n n' _ true g 2 W (by unfold Word; omega) (by unfold Word; omega) h0 h1 hq hp)
  have c0 := h.c0
  have c1 := h.c1
  have d0 := k.c0
  have d1 := k.c1
  have hs1 := OkX.flush (u := u) (v := v) ok
  have hs2 := OkX.flush (u := u) (v := v) ok'
  obtain ⟨F, hF⟩ : ∃ F, flushG u v s = F := ⟨_, rfl⟩
  obtain ⟨G, hG⟩ : ∃ G, flushG u v t = G := ⟨_, rfl⟩
  have hj : joinG u v s t = (sqzS (limG u v (n + n')) (mergeS F.1 G.1), []) := by
    rw [hF] at hs1
    rw [hG] at hs2
    have e1 : totS F.1 = n := by rw [← hn, ← hs1.2.1]; unfold totG; rw [hs1.2.2.2]; simp
    have e2 : totS G.1 = n' := by rw [← hn', ← hs2.2.1]; unfold totG; rw [hs2.2.2.2]; simp
    unfold joinG; rw [hF, hG, e1, e2]
  rw [hF] at hs1
  rw [hG] at hs2
  have HR := Lib.hid h
  have HK := Lib.hid k
  have HOK := Lib.hid ok
  have HOK' := Lib.hid ok'
  have HN := Lib.hid hn
  have HN' := Lib.hid hn'
  have HA := Lib.hid ha
  have HD := Lib.hid hd
  have HL := Lib.hid hl
  have HT := Lib.hid ht
  have HF := Lib.hid hF
  have HG := Lib.hid hG
  have HJ := Lib.hid hj
  have HS1 := Lib.hid hs1
  have HS2 := Lib.hid hs2
  have n1 : IntKind.u64.wrap (n + n') = n + n' := by rw [IntKind.wrap_u64]; omega
  clear h k ok ok' hn hn' ha hd hl ht hp hq hF hG hj hs1 hs2
  go_enter Tryz.func6, Tryz.ntmps6
  go_wp2_with fail
  go_quiet (fail)
  rename_i nq
  have hb1 : Below w.heap.size w (w.drewN nq) := below_drewN (Below.refl _ _) _
  have HB1 := Lib.hid hb1
  obtain ⟨w1, hw1⟩ : ∃ w1, w.drewN nq = w1 := ⟨_, rfl⟩
  rw [hw1] at HB1 ⊢
  clear hb1 hw1 c0 c1 d0 d1
  have HR1 := Lib.hid (HR.out.call HB1.out)
  have HK1 := Lib.hid (HK.out.call HB1.out)
  have c4 := HR1.out.c4
  have d4 := HK1.out.c4
  go_wp2_with fail
  go_region_with (go_at_call 20; refine (CP.out _ _ (Two.new w1 _ _ _).drew.c0 (Two.new w1 _ _ _).drew.c1).mono ?_; rintro e wP ⟨rfl, rfl⟩)
  all_goals
    have hb2 : Below w.heap.size w (w1.alloc (.cells #[.int .u64 n, .int .u64 n'] 22)).drew := (HB1.out.alloc HB1.out.size _).drew
    obtain ⟨w2, hw2⟩ : ∃ w2, (w1.alloc (.cells #[.int .u64 n, .int .u64 n'] 22)).drew = w2 := ⟨_, rfl⟩
    rw [hw2] at hb2 ⊢
    have HB2 := Lib.hid hb2
    clear hb2 hw2 c4 d4
    have CF := Lib.hid (gw_flush T (HR.out.call HB2.out) HOK.out HN.out HA.out)
    rw [HF.out] at CF
    go_wp2_with fail
    refine CF.out.mono ?_
    rintro e w3 ⟨rfl, vr3, vw3, hr3, hk3, hb3⟩
    have hk3' := (HK.out.call HB2.out).at_ (w' := w3) (fun k hk => hk3.block k ((HK.out.call HB2.out).blocks k hk) (fun hS => HD.out k hS hk))
    have hFok := HS1.out.1
    have hGok := HS2.out.1
    obtain ⟨A3, c3, rfl, hT3⟩ := hr3.row.rows (row_okX hFok.can (by have := hFok.le; have := hFok.tot; omega) hFok.sp)
    have hl3 : (rowT 0 F.1).length = F.1.length := row_len _ _
    have hl4 : (rowT 0 G.1).length = G.1.length := row_len _ _
    have e1 : totS F.1 = n := by rw [← HN.out, ← HS1.out.2.1]; unfold totG; rw [HS1.out.2.2.2]; simp
    have e2 : totS G.1 = n' := by rw [← HN'.out, ← HS2.out.2.1]; unfold totG; rw [HS2.out.2.2.2]; simp
    have hsl : F.1.length ≤ 5000 ∧ G.1.length ≤ 5000 := by have := hFok.sl; have := hGok.sl; omega
    have CFL := Lib.hid (fun (W : World) (hb : Below w3.heap.size w3 W) => gw_flushed T (hk3'.call hb) HOK'.out HN'.out HA.out)
    rw [HG.out] at CFL
    have CM := Lib.hid (fun (W : World) A2 c2 (hA : Tups W A3 (rowT 0 F.1)) (hB : Tups W A2 (rowT 0 G.1)) => T.merge W A3 A2 c3 c2 (rowT 0 F.1) (rowT 0 G.1) hA hB (row_goodX hFok.can (by have := hFok.le; have := hFok.tot; omega) hFok.first) (row_goodX hGok.can (by have := hGok.le; have := hGok.tot; omega) hGok.first) (by rw [sum_row hFok.can, sum_row hGok.can, e1, e2]; exact HT.out) (by omega) (by omega))
    rw [hl3] at CM hr3
    rw [hl4, merge_row] at CM
    obtain ⟨n3, hn3⟩ : ∃ x, F.1.length = x := ⟨_, rfl⟩
    obtain ⟨n4, hn4⟩ : ∃ x, G.1.length = x := ⟨_, rfl⟩
    rw [hn3] at CM hr3
    rw [hn4] at CM CFL
    rw [HS1.out.2.2.2] at hr3
    have hcan : SpotsP 0 (n + n') (mergeS F.1 G.1) := by rw [← e1, ← e2]; exact SpotsP.merge hFok.can hGok.can
    have hfir := hFok.first.merge hGok.first
    have hmx := merge_x (P := I64) (fun q hq => hFok.sp q hq) (fun q hq => hGok.sp q hq)
    have hmlen : (mergeS F.1 G.1).length ≤ 20000 := by rw [merge_len]; omega
    have HCAN := Lib.hid hcan
    have HFIR := Lib.hid hfir
    have HMX := Lib.hid hmx
    have HML := Lib.hid hmlen
    have HR3 := Lib.hid hr3
    have HT3 := Lib.hid hT3
    have HK3 := Lib.hid (keeps_then (Keeps.of_below (S := rgS B vr vw) HB2.out) hk3 fun k _ h => h)
    have HBL := Lib.hid (fun k hk => (hb3 k hk).imp id fun h => Nat.le_trans HB2.out.size h)
    rw [hl3, hn3] at HBL
    have HZ3 : Hid (w.heap.size ≤ w3.heap.size) := Lib.hid HK3.out.size
    have q2 := hr3.c2
    clear hr3 hk3 hb3 hk3' hFok hGok hT3 hl3 hl4 e1 e2 hsl hn3 hn4 hcan hfir hmx hmlen
    go_wp2_with fail
    go_region_with (first
      | (go_at_call 23; refine (CFL.out _ (by first | exact Below.refl _ _ | exact (Below.refl _ _).drew)).mono ?_; rintro e wA ⟨AA, kA, rfl, hTA, hbA⟩; have hRA := HR3.out.call (by first | exact hbA | exact (Below.refl _ _).drew.trans hbA : Below w3.heap.size w3 wA); have hTB := HT3.out.call (by first | exact hbA | exact (Below.refl _ _).drew.trans hbA : Below w3.heap.size w3 wA); have a2 := hRA.c2)
      | (go_at_call 22; refine (CM.out _ AA kA hTB hTA).mono ?_; rintro e wB ⟨vB, rfl, hoB, hbB⟩; obtain ⟨AB, kB, lB, rfl⟩ : ∃ AB kB lB, vB = .slice AB lB kB := (by obtain ⟨a, b, e⟩ := hoB.form; exact ⟨a, b, _, e⟩); obtain ⟨b2, b3, hRB, hKB⟩ := hRA.row2 (grown_callG (World.grownBy.refl _ _) hbB) (hoB.mono (Nat.zero_le _)) (Or.inr fun g hg => (hoB.lt g hg).1)))
    all_goals
      obtain ⟨w5, hw5⟩ : ∃ w5, wB.setCell ⟨B, 2, none⟩ (.slice AB lB kB) = w5 := ⟨_, rfl⟩
      rw [hw5] at hRB hKB ⊢
      have hbA' : Below w3.heap.size w3 wA := by first | exact hbA | exact (Below.refl _ _).drew.trans hbA
      have hvB : ∀ g, (Value.slice AB lB kB).ownBlock = some g → w3.heap.size ≤ g := fun g hg => Nat.le_trans hbA'.size (hoB.lt g hg).1
      have hk5 : Keeps (rgS B vr vw) w w5 := keeps_then (keeps_then HK3.out (Keeps.of_below (S := rgS B vr vw) hbA') fun k _ h => h) hKB (by
        rintro k hk (rfl | e)
        · exact Or.inl rfl
        · rcases HBL.out k (Or.inr (Or.inl e)) with h | h
          · exact h
          · omega)
      have r4 := hRB.c4
      have rf4 := hRB.f0 4
      have hR6 := hRB.put4 (n + n')
      have hk6 : Keeps (rgS B vr vw) w (w5.setCell ⟨B, 4, none⟩ (.int .u64 (n + n'))) := keeps_then hk5 (keeps_put (S := rgS B vr vw) (Or.inl rfl)) fun k _ h => h
      have CQ := Lib.hid (gw_squeeze T hR6 HA.out (by unfold Word; have := HT.out; omega) HCAN.out HT.out HFIR.out HMX.out HML.out)
      have HK6 := Lib.hid hk6
      have HVB := Lib.hid hvB
      clear hRB hKB hbA' hvB hk5 hR6 hk6 hw5 b2 b3 hoB hbB hRA hTA hTB hbA a2 q2
      go_wp2_with fail
      refine CQ.out.mono ?_
      rintro e w7 ⟨rfl, vq, hrq, hkq, hvq⟩
      have HFN : Hid (LeftX w B u v vr vw (joinG u v s t).1 (joinG u v s t).2 (n + n') w7) := Lib.hid (by
        rw [HJ.out]
        refine ⟨vq, vw3, hrq, keeps_then HK6.out hkq ?_, ?_⟩
        · rintro k hk (rfl | e)
          · exact Or.inl rfl
          · have := HVB.out k e; have := HZ3.out; omega
        · rintro k (rfl | e | e)
          · exact Or.inl (Or.inl rfl)
          · rcases hvq with h | h
            · rw [h] at e; have := HVB.out k e; have := HZ3.out; exact Or.inr (by omega)
            · have := h k e; have := HK6.out.size; exact Or.inr (by omega)
          · exact HBL.out k (Or.inr (Or.inr e)))
      clear hrq hkq hvq
      go_wp2_with fail
      go_ret
      exact ⟨rfl, HFN.out⟩
end Go.Proofs.YtfmlkohijkalbaaGreat
