/-
  The reference of layer 20: Sorted, Split.
-/
import Derived.Test.YtecnlpkfcggimaaCoinR
import Derived.Deep.LoopGhost
import Derived.Lib.JoinLaws
import Derived.Lib.SmallJoins
namespace Go.Proofs.Ytecnlpkfcggimaa
set_option linter.unusedVariables false
set_option linter.unusedSimpArgs false
open Go.RowKit

theorem ins_at20 {x : Int} {L : List Int} {q : Nat} (h : ∀ y, y ∈ L.take q → y ≤ x) (hq : q = L.length ∨ ∃ y, L[q]? = some y ∧ x < y) : insI x L = L.take q ++ x :: L.drop q := by
  have e1 : L.takeWhile (fun y => decide (y ≤ x)) = L.take q ∧ L.dropWhile (fun y => decide (y ≤ x)) = L.drop q := by
    induction L generalizing q with
    | nil => simp
    | cons z r ih =>
      cases q with
      | zero =>
        rcases hq with e | ⟨y, hy, hlt⟩
        · cases e
        · have ez : z = y := Option.some.inj hy
          subst ez
          have hn : decide (z ≤ x) = false := decide_eq_false (by omega)
          constructor
          · rw [List.takeWhile_cons_of_neg (by simp; omega)]; rfl
          · rw [List.dropWhile_cons_of_neg (by simp; omega)]; rfl
      | succ q =>
        have hz : z ≤ x := h z (by rw [List.take_succ_cons]; exact List.mem_cons_self)
        have ih' := ih (q := q) (fun y hy => h y (by rw [List.take_succ_cons]; exact List.mem_cons_of_mem _ hy)) (by
          rcases hq with e | ⟨y, hy, hlt⟩
          · exact Or.inl (by simpa using e)
          · exact Or.inr ⟨y, hy, hlt⟩)
        constructor
        · rw [List.takeWhile_cons_of_pos (by simpa using hz), List.take_succ_cons, ih'.1]
        · rw [List.dropWhile_cons_of_pos (by simpa using hz), List.drop_succ_cons, ih'.2]
  unfold insI
  rw [e1.1, e1.2]
theorem sort_step20 {W : List Int} {i : Nat} {x : Int} (h : W[i]? = some x) : sortI (W.take (i + 1)) = insI x (sortI (W.take i)) := by
  rw [snocS h]
  unfold sortI
  rw [List.foldl_append]
  rfl
theorem new_cells20 (W : World) (o : Obj) : (W.alloc o).heap[W.heap.size]? = some o := heap_alloc_new W o

set_option maxRecDepth 100000 in
set_option maxHeartbeats 16000000 in
theorem rsorted20_any (w : World) (A : Option Addr) (n cw : Nat) (W : List Int) (h : Nums w A W) (hn : W.length = n) (hl : n ≤ 50000) :
    Calls Try.prog 20 #[.slice A n cw] w fun e w' => ∃ v, e = .returned v ∧ OwnN w' w.heap.size v (sortI W) ∧ Below w.heap.size w w' := by
  have HWN := Lib.hid h
  have HN := Lib.hid hn
  clear h hn
  go_enter Try.func20, Try.ntmps20
  go_wp2_with fail
  go_loopg [3, 9] n (fun g rv jv wr => ∃ (i : Nat), i ≤ n ∧ g = n - i ∧ jv = .int .i64 i ∧ (i = 0 → rv = .slice none 0 0) ∧ OwnN wr w.heap.size rv (sortI (W.take i)) ∧ Below w.heap.size w wr)
  case atStart => exact ⟨0, Nat.zero_le _, rfl, rfl, fun _ => rfl, OwnN.nil _ _, Below.refl _ _⟩
  case round =>
      obtain ⟨i, hi, rfl, rfl, hr0, hown, hb2⟩ := hrel
      obtain ⟨w5, hw5⟩ : ∃ w5, w5 = wr := ⟨_, rfl⟩
      subst hw5
      have HR0 := Lib.hid hr0
      have HO := Lib.hid hown
      have HB := Lib.hid hb2
      have hbs := hb2.size
      obtain ⟨rA, rk, hrv⟩ := hown.form
      clear hr0 hown hb2
      by_cases hlt : i < n
      · have kk : (i : Int) < n := by omega
        clear hrv
        have hxk := List.getElem?_eq_getElem (l := W) (i := i) (by rw [HN.out]; exact hlt)
        generalize W[i]'(by rw [HN.out]; exact hlt) = x at hxk
        obtain ⟨ba, oa, rfl, hbl, c0⟩ := (HWN.out.call HB.out).at_ i x hxk
        have HIX : Hid (I64 x) := Lib.hid (HWN.out.ok _ (List.mem_of_getElem? hxk))
        obtain ⟨x0, x1⟩ := HIX.out
        have HST := Lib.hid (sort_step20 hxk)
        obtain ⟨L, hL⟩ : ∃ L, sortI (W.take i) = L := ⟨_, rfl⟩
        have hLl : L.length = i := by rw [← hL, sortI_len, List.length_take]; have := HN.out; omega
        have hLo : ∀ y, y ∈ L → I64 y := fun y hy => by
          rw [← hL] at hy
          exact HWN.out.ok _ (List.mem_of_mem_take (sortI_mem.1 hy))
        rw [hL] at HO HST
        have HLL := Lib.hid hLl
        have HLO := Lib.hid hLo
        have bD : Below w5.heap.size w5 w5.drew := (Below.refl _ _).drew
        have BA := Lib.hid (bD.alloc (Nat.le_refl _) (.cells #[] 2))
        have BX := Lib.hid (bD.alloc (Nat.le_refl _) (.cells #[.int .i64 x] 2))
        have BAX := Lib.hid (BA.out.alloc BA.out.size (.cells #[.int .i64 x] 2))
        have BXA := Lib.hid (BX.out.alloc BX.out.size (.cells #[] 2))
        have z1 : (w5.drew.alloc (.cells #[] 2)).heap.size = w5.heap.size + 1 := by simp
        have z2 : (w5.drew.alloc (.cells #[.int .i64 x] 2)).heap.size = w5.heap.size + 1 := by simp
        have hEa : (w5.drew.alloc (.cells #[] 2)).heap[w5.heap.size]? = some (.cells #[] 2 (0, 0)) := new_cells20 w5.drew _
        have HEa := Lib.hid (own_emptyN (base := w5.heap.size) hEa (Nat.le_refl _))
        have HEb := Lib.hid (HEa.out.call ((Below.refl _ _).alloc (Nat.le_refl _) (.cells #[.int .i64 x] 2)))
        have hEc := new_cells20 (w5.drew.alloc (.cells #[.int .i64 x] 2)) (.cells #[] 2)
        rw [z2] at hEc
        have HEc := Lib.hid (own_emptyN (base := w5.heap.size) hEc (Nat.le_succ _))
        have hXb : ((w5.drew.alloc (.cells #[] 2)).alloc (.cells #[.int .i64 x] 2)).cell? ⟨w5.heap.size + 1, 0, none⟩ = some (.int .i64 x) := by
          have := Joins.cell_of_block (i := 0) (new_cells20 (w5.drew.alloc (.cells #[] 2)) (.cells #[.int .i64 x] 2))
          rw [z1] at this
          rw [this]; rfl
        have hXc : ((w5.drew.alloc (.cells #[.int .i64 x] 2)).alloc (.cells #[] 2)).cell? ⟨w5.heap.size, 0, none⟩ = some (.int .i64 x) := by
          have := Joins.cell_of_block (i := 0) (new_cells20 w5.drew (.cells #[.int .i64 x] 2))
          exact cell_later ((Below.refl _ _).alloc (Nat.le_refl _) _) (show (w5.drew.alloc (.cells #[.int .i64 x] 2)).cell? ⟨w5.heap.size, 0, none⟩ = some (.int .i64 x) by rw [show (⟨w5.heap.size, 0, none⟩ : Addr) = ⟨w5.drew.heap.size, 0, none⟩ from rfl, this]; rfl)
        have HXb := Lib.hid (fun w' (hg : ((w5.drew.alloc (.cells #[] 2)).alloc (.cells #[.int .i64 x] 2)).grownBy w' (Value.slice (some ⟨w5.heap.size, 0, none⟩) 0 0).ownBlock) => hg.cell hXb (fun e => absurd (Option.some.inj e) (by show ¬ (w5.heap.size + 1 = w5.heap.size); omega)))
        have HXc := Lib.hid (fun w' (hg : ((w5.drew.alloc (.cells #[.int .i64 x] 2)).alloc (.cells #[] 2)).grownBy w' (Value.slice (some ⟨w5.heap.size + 1, 0, none⟩) 0 0).ownBlock) => hg.cell hXc (fun e => absurd (Option.some.inj e) (by show ¬ (w5.heap.size = w5.heap.size + 1); omega)))
        clear hL hLl hLo bD z1 z2 hEa hEc hXb hXc hxk
        by_cases i0 : i = 0
        · obtain rfl := HR0.out i0
          have hLn : L = [] := List.eq_nil_of_length_eq_zero (by rw [HLL.out]; exact i0)
          have HINS : Hid (insI x L = ([] ++ [x]) ++ []) := Lib.hid (by rw [hLn]; rfl)
          have HL1 : Hid (([] : List Int).length = 0) := Lib.hid rfl
          have HL2 : Hid (([] : List Int).length = 0) := Lib.hid rfl
          have HN1 : Hid (([] : List Int).length + 0 ≤ 100000) := Lib.hid (by decide)
          have HN2 : Hid (([] : List Int).length + 1 ≤ 100000) := Lib.hid (by decide)
          have HN3 : Hid (([] ++ [x] : List Int).length + 0 ≤ 100000) := Lib.hid (by simp)
          have HI0 := Lib.hid i0
          clear hLn HR0 i0
          go_wp2_with fail
          go_loopg [6] 0 (fun g kv wr => kv = .int .i64 0 ∧ g = 0 ∧ w5 = wr)
          case atStart => exact ⟨rfl, rfl, rfl⟩
          case round =>
            obtain ⟨rfl, rfl, rfl⟩ := hrel
            go_wp2_with fail
            go_region_law (first
              | (refine step_append_nums rfl (.tmp 27) (.tmp 30) rfl w5.heap.size _ [] none 0 0 ([]) rfl (by first | exact HEa.out | exact HEb.out | exact HEc.out) rfl HL1.out (Nums.nil _ _) HN1.out (by first | exact BA.out.size | exact BAX.out.size | exact BXA.out.size) ?_; intro v6 w6 hown6 hg6; have HO6 := Lib.hid hown6; have HB6 : Hid (Below w5.heap.size w5 w6) := Lib.hid (by first | exact HEa.out.below BA.out hg6 BA.out.size | exact HEb.out.below BAX.out hg6 BAX.out.size | exact HEc.out.below BXA.out hg6 BXA.out.size); first | (have HX6 := Lib.hid (HXb.out _ hg6)) | (have HX6 := Lib.hid (HXc.out _ hg6)) | skip; clear hown6 hg6)
              | (refine step_append_nums rfl (.tmp 31) (.tmp 33) rfl w5.heap.size _ ([]) _ 1 1 [x] rfl (by first | exact HO6.out | exact HO6.out.call ((Below.refl _ _).alloc (Nat.le_refl _) _)) rfl rfl (by first | exact one_num HIX.out HX6.out | exact one_num HIX.out (by go_simp)) HN2.out (by first | exact HB6.out.size | exact (HB6.out.alloc HB6.out.size _).size) ?_; intro v7 w7 hown7 hg7; have HO7 := Lib.hid hown7; have HB7 : Hid (Below w5.heap.size w5 w7) := Lib.hid (by first | exact HO6.out.below HB6.out hg7 HB6.out.size | exact (HO6.out.call ((Below.refl _ _).alloc (Nat.le_refl _) _)).below (HB6.out.alloc HB6.out.size _) hg7 (HB6.out.alloc HB6.out.size _).size); clear hown7 hg7)
              | (refine step_append_nums rfl (.tmp 34) (.tmp 37) rfl w5.heap.size _ ([] ++ [x]) none 0 0 ([]) rfl HO7.out rfl HL2.out (Nums.nil _ _) HN3.out HB7.out.size ?_; intro v8 w8 hown8 hg8; have HO8 := Lib.hid hown8; have HB8 : Hid (Below w5.heap.size w5 w8) := Lib.hid (HO7.out.below HB7.out hg8 HB7.out.size); clear hown8 hg8))
            all_goals
              go_wp2_with fail
              go_roundg (n - (i + 1))
              case measure => omega
              case rel => exact ⟨i + 1, by omega, rfl, by go_num, fun e => absurd e (Nat.succ_ne_zero _), by rw [HST.out, HINS.out]; have := (HO8.out.mono hbs); simpa using this, HB.out.trans (HB8.out.mono hbs)⟩
        · obtain ⟨g0, off, cap, rfl, hrow, hg0, hg1, hck⟩ := HO.out.some_ HLO.out (by have := HLL.out; omega)
          rw [HLL.out] at hck
          rw [HLL.out]
          have HROW := Lib.hid hrow
          clear hrow i0 HR0
          go_wp2_with fail
          go_loopg [6] i (fun g kv wr => ∃ (q : Nat), q ≤ i ∧ g = i - q ∧ kv = .int .i64 q ∧ (∀ y, y ∈ L.take q → y ≤ x) ∧ w5 = wr)
          case atStart => exact ⟨0, Nat.zero_le _, rfl, rfl, fun y hy => by simp at hy, rfl⟩
          case round =>
            obtain ⟨q, hq, rfl, rfl, hle, rfl⟩ := hrel
            have HLE := Lib.hid hle
            clear hle
            have HL1 : Hid ((L.take q).length = q) := Lib.hid (by rw [List.length_take]; have := HLL.out; omega)
            have HL2 : Hid ((L.drop q).length = i - q) := Lib.hid (by rw [List.length_drop]; have := HLL.out; omega)
            have HN1 : Hid (([] : List Int).length + q ≤ 100000) := Lib.hid (by simp; omega)
            have HN2 : Hid ((L.take q).length + 1 ≤ 100000) := Lib.hid (by rw [HL1.out]; omega)
            have HN3 : Hid ((L.take q ++ [x]).length + (i - q) ≤ 100000) := Lib.hid (by rw [List.length_append, HL1.out]; simp; omega)
            have p1 : (q : Int) ≤ i := by omega
            have p2 : (q : Int) ≤ cap := by omega
            have p3 : q ≤ cap := by omega
            have p4 : (i : Int) ≤ cap := by omega
            by_cases hqi : q < i
            · have q1 : (q : Int) < i := by omega
              have p5 : ¬ cap = q := by omega
              have hyk := List.getElem?_eq_getElem (l := L) (i := q) (by rw [HLL.out]; exact hqi)
              generalize L[q]'(by rw [HLL.out]; exact hqi) = y at hyk
              obtain ⟨bb, ob, e, _, y0⟩ := HROW.out.at_ q y hyk
              obtain ⟨rfl, rfl, _⟩ := Addr.mk.inj (Option.some.inj e)
              have HYK := Lib.hid hyk
              clear hyk e
              by_cases hyx : y ≤ x
              · have f1 : decide (y ≤ x) = true := decide_eq_true hyx
                have HLN : Hid (∀ z, z ∈ L.take (q + 1) → z ≤ x) := Lib.hid fun z hz => by
                  rw [snocS HYK.out] at hz
                  rcases List.mem_append.1 hz with h | h
                  · exact HLE.out z h
                  · rw [List.mem_singleton.1 h]; exact hyx
                go_wp2_with fail
                go_roundg (i - (q + 1))
                case measure => omega
                case rel => exact ⟨q + 1, by omega, rfl, by go_num, HLN.out, rfl⟩
              · have f1 : decide (y ≤ x) = false := decide_eq_false hyx
                have HINS : Hid (insI x L = (L.take q ++ [x]) ++ L.drop q) := Lib.hid (by rw [ins_at20 HLE.out (Or.inr ⟨y, HYK.out, by omega⟩)]; simp)
                clear HYK
                go_wp2_with fail
                go_region_law (first
                  | (refine step_append_nums rfl (.tmp 27) (.tmp 30) rfl w5.heap.size _ [] (some ⟨g0, off, none⟩) q cap (L.take q) rfl (by first | exact HEa.out | exact HEb.out | exact HEc.out) rfl HL1.out (by first | exact (HROW.out.call BA.out).take q | exact (HROW.out.call BAX.out).take q | exact (HROW.out.call BXA.out).take q) HN1.out (by first | exact BA.out.size | exact BAX.out.size | exact BXA.out.size) ?_; intro v6 w6 hown6 hg6; have HO6 := Lib.hid hown6; have HB6 : Hid (Below w5.heap.size w5 w6) := Lib.hid (by first | exact HEa.out.below BA.out hg6 BA.out.size | exact HEb.out.below BAX.out hg6 BAX.out.size | exact HEc.out.below BXA.out hg6 BXA.out.size); first | (have HX6 := Lib.hid (HXb.out _ hg6)) | (have HX6 := Lib.hid (HXc.out _ hg6)) | skip; clear hown6 hg6)
                  | (refine step_append_nums rfl (.tmp 31) (.tmp 33) rfl w5.heap.size _ (L.take q) _ 1 1 [x] rfl (by first | exact HO6.out | exact HO6.out.call ((Below.refl _ _).alloc (Nat.le_refl _) _)) rfl rfl (by first | exact one_num HIX.out HX6.out | exact one_num HIX.out (by go_simp)) HN2.out (by first | exact HB6.out.size | exact (HB6.out.alloc HB6.out.size _).size) ?_; intro v7 w7 hown7 hg7; have HO7 := Lib.hid hown7; have HB7 : Hid (Below w5.heap.size w5 w7) := Lib.hid (by first | exact HO6.out.below HB6.out hg7 HB6.out.size | exact (HO6.out.call ((Below.refl _ _).alloc (Nat.le_refl _) _)).below (HB6.out.alloc HB6.out.size _) hg7 (HB6.out.alloc HB6.out.size _).size); clear hown7 hg7)
                  | (refine step_append_nums rfl (.tmp 34) (.tmp 37) rfl w5.heap.size _ (L.take q ++ [x]) (some ⟨g0, off + q, none⟩) (i - q) (cap - q) (L.drop q) rfl HO7.out rfl HL2.out ((HROW.out.call HB7.out).drop q) HN3.out HB7.out.size ?_; intro v8 w8 hown8 hg8; have HO8 := Lib.hid hown8; have HB8 : Hid (Below w5.heap.size w5 w8) := Lib.hid (HO7.out.below HB7.out hg8 HB7.out.size); clear hown8 hg8))
                all_goals
                  go_wp2_with fail
                  go_roundg (n - (i + 1))
                  case measure => omega
                  case rel => exact ⟨i + 1, by omega, rfl, by go_num, fun e => absurd e (Nat.succ_ne_zero _), by rw [HST.out, HINS.out]; have := (HO8.out.mono hbs); simpa using this, HB.out.trans (HB8.out.mono hbs)⟩
            · obtain rfl : i = q := by omega
              have q1 : ¬ (i : Int) < i := by omega
              have HINS : Hid (insI x L = (L.take i ++ [x]) ++ L.drop i) := Lib.hid (by rw [ins_at20 HLE.out (Or.inl HLL.out.symm)]; simp)
              have HDR : Hid (L.drop i = []) := Lib.hid (List.drop_of_length_le (by rw [HLL.out]; exact Nat.le_refl _))
              have p6 : i - i = 0 := Nat.sub_self _
              rw [p6] at HL2 HN3
              clear p6
              by_cases p5 : cap = i
              · subst p5
                go_wp2_with fail
                go_region_law (first
                  | (refine step_append_nums rfl (.tmp 27) (.tmp 30) rfl w5.heap.size _ [] (some ⟨g0, off, none⟩) cap cap (L.take cap) rfl (by first | exact HEa.out | exact HEb.out | exact HEc.out) rfl HL1.out (by first | exact (HROW.out.call BA.out).take cap | exact (HROW.out.call BAX.out).take cap | exact (HROW.out.call BXA.out).take cap) HN1.out (by first | exact BA.out.size | exact BAX.out.size | exact BXA.out.size) ?_; intro v6 w6 hown6 hg6; have HO6 := Lib.hid hown6; have HB6 : Hid (Below w5.heap.size w5 w6) := Lib.hid (by first | exact HEa.out.below BA.out hg6 BA.out.size | exact HEb.out.below BAX.out hg6 BAX.out.size | exact HEc.out.below BXA.out hg6 BXA.out.size); first | (have HX6 := Lib.hid (HXb.out _ hg6)) | (have HX6 := Lib.hid (HXc.out _ hg6)) | skip; clear hown6 hg6)
                  | (refine step_append_nums rfl (.tmp 31) (.tmp 33) rfl w5.heap.size _ (L.take cap) _ 1 1 [x] rfl (by first | exact HO6.out | exact HO6.out.call ((Below.refl _ _).alloc (Nat.le_refl _) _)) rfl rfl (by first | exact one_num HIX.out HX6.out | exact one_num HIX.out (by go_simp)) HN2.out (by first | exact HB6.out.size | exact (HB6.out.alloc HB6.out.size _).size) ?_; intro v7 w7 hown7 hg7; have HO7 := Lib.hid hown7; have HB7 : Hid (Below w5.heap.size w5 w7) := Lib.hid (by first | exact HO6.out.below HB6.out hg7 HB6.out.size | exact (HO6.out.call ((Below.refl _ _).alloc (Nat.le_refl _) _)).below (HB6.out.alloc HB6.out.size _) hg7 (HB6.out.alloc HB6.out.size _).size); clear hown7 hg7)
                  | (refine step_append_nums rfl (.tmp 34) (.tmp 37) rfl w5.heap.size _ (L.take cap ++ [x]) (some ⟨g0, off, none⟩) 0 0 (L.drop cap) rfl HO7.out rfl HL2.out (by rw [HDR.out]; exact Nums.nil _ _) HN3.out HB7.out.size ?_; intro v8 w8 hown8 hg8; have HO8 := Lib.hid hown8; have HB8 : Hid (Below w5.heap.size w5 w8) := Lib.hid (HO7.out.below HB7.out hg8 HB7.out.size); clear hown8 hg8))
                all_goals
                  go_wp2_with fail
                  go_roundg (n - (cap + 1))
                  case measure => omega
                  case rel => exact ⟨cap + 1, by omega, rfl, by go_num, fun e => absurd e (Nat.succ_ne_zero _), by rw [HST.out, HINS.out]; have := (HO8.out.mono hbs); simpa using this, HB.out.trans (HB8.out.mono hbs)⟩
              · go_wp2_with fail
                go_region_law (first
                  | (refine step_append_nums rfl (.tmp 27) (.tmp 30) rfl w5.heap.size _ [] (some ⟨g0, off, none⟩) i cap (L.take i) rfl (by first | exact HEa.out | exact HEb.out | exact HEc.out) rfl HL1.out (by first | exact (HROW.out.call BA.out).take i | exact (HROW.out.call BAX.out).take i | exact (HROW.out.call BXA.out).take i) HN1.out (by first | exact BA.out.size | exact BAX.out.size | exact BXA.out.size) ?_; intro v6 w6 hown6 hg6; have HO6 := Lib.hid hown6; have HB6 : Hid (Below w5.heap.size w5 w6) := Lib.hid (by first | exact HEa.out.below BA.out hg6 BA.out.size | exact HEb.out.below BAX.out hg6 BAX.out.size | exact HEc.out.below BXA.out hg6 BXA.out.size); first | (have HX6 := Lib.hid (HXb.out _ hg6)) | (have HX6 := Lib.hid (HXc.out _ hg6)) | skip; clear hown6 hg6)
                  | (refine step_append_nums rfl (.tmp 31) (.tmp 33) rfl w5.heap.size _ (L.take i) _ 1 1 [x] rfl (by first | exact HO6.out | exact HO6.out.call ((Below.refl _ _).alloc (Nat.le_refl _) _)) rfl rfl (by first | exact one_num HIX.out HX6.out | exact one_num HIX.out (by go_simp)) HN2.out (by first | exact HB6.out.size | exact (HB6.out.alloc HB6.out.size _).size) ?_; intro v7 w7 hown7 hg7; have HO7 := Lib.hid hown7; have HB7 : Hid (Below w5.heap.size w5 w7) := Lib.hid (by first | exact HO6.out.below HB6.out hg7 HB6.out.size | exact (HO6.out.call ((Below.refl _ _).alloc (Nat.le_refl _) _)).below (HB6.out.alloc HB6.out.size _) hg7 (HB6.out.alloc HB6.out.size _).size); clear hown7 hg7)
                  | (refine step_append_nums rfl (.tmp 34) (.tmp 37) rfl w5.heap.size _ (L.take i ++ [x]) (some ⟨g0, off + i, none⟩) 0 (cap - i) (L.drop i) rfl HO7.out rfl HL2.out (by rw [HDR.out]; exact Nums.nil _ _) HN3.out HB7.out.size ?_; intro v8 w8 hown8 hg8; have HO8 := Lib.hid hown8; have HB8 : Hid (Below w5.heap.size w5 w8) := Lib.hid (HO7.out.below HB7.out hg8 HB7.out.size); clear hown8 hg8))
                all_goals
                  go_wp2_with fail
                  go_roundg (n - (i + 1))
                  case measure => omega
                  case rel => exact ⟨i + 1, by omega, rfl, by go_num, fun e => absurd e (Nat.succ_ne_zero _), by rw [HST.out, HINS.out]; have := (HO8.out.mono hbs); simpa using this, HB.out.trans (HB8.out.mono hbs)⟩
      · obtain rfl : i = n := by omega
        have kk : ¬ (i : Int) < i := by omega
        have hall : W.take i = W := List.take_of_length_le (by rw [HN.out]; exact Nat.le_refl _)
        rw [hall] at HO
        clear hall hlt HR0
        subst hrv
        go_wp2_with fail
        go_ret
        exact ⟨_, rfl, HO.out, HB.out⟩

theorem OwnN.either {w : World} {base : Nat} {v : Value} {L : List Int} (h : OwnN w base v L) (hok : ∀ p, p ∈ L → I64 p) : (v = .slice none 0 0 ∧ L = []) ∨ ∃ g off cap, v = .slice (some ⟨g, off, none⟩) L.length cap ∧ Nums w (some ⟨g, off, none⟩) L ∧ base ≤ g ∧ g < w.heap.size ∧ L.length ≤ cap := by
  obtain ⟨A, cap, rfl, hN⟩ := h.rows hok
  have h' : w.ownsRow base 2 1 (.slice A L.length cap) L.length (intsL L) := h
  rcases h'.2 with ⟨e, h0⟩ | ⟨g, cap', cur, e, hb, hg, hle, _⟩
  · exact Or.inl ⟨e, List.eq_nil_of_length_eq_zero h0⟩
  · injection e with e1 e2 e3
    subst e1 e3
    exact Or.inr ⟨g, 0, cap, rfl, hN, hb, lt_of_block hg, hle⟩
/-- What Split answers: two rows (the first may have the rest behind it). -/
def RefSplit (w' : World) (base : Nat) (A B : Option Addr) (p q c d : Nat) (keep : Int) (L : List Int) : Prop :=
  Nums w' A (stayL keep L) ∧ (stayL keep L).length = p ∧ Nums w' B (restL keep L) ∧ (restL keep L).length = q ∧ (∀ a, A = some a → base ≤ a.block) ∧ (∀ a, B = some a → base ≤ a.block)
theorem RefSplit.call {w w' : World} {base p q c d : Nat} {A B : Option Addr} {keep : Int} {L : List Int} (h : RefSplit w base A B p q c d keep L) (hb : Below w.heap.size w w') : RefSplit w' base A B p q c d keep L :=
  ⟨h.1.call hb, h.2.1, h.2.2.1.call hb, h.2.2.2.1, h.2.2.2.2⟩
theorem refsplit_of {w' : World} {base g off n k : Nat} {keep : Int} {L : List Int} {B : Option Addr} (hn : L.length = n) (hk : keepN keep n = k) (h : Nums w' (some ⟨g, off, none⟩) (sortI L)) (hg : base ≤ g) (hB : B = some ⟨g, off + k, none⟩ ∨ (n = k ∧ B = some ⟨g, off, none⟩)) (c d : Nat) : RefSplit w' base (some ⟨g, off, none⟩) B k (n - k) c d keep L := by
  obtain ⟨l1, l2⟩ := stay_len keep L
  rw [hn, hk] at l1 l2
  refine ⟨?_, l1, ?_, l2, fun a e => (by cases e; exact hg), fun a e => ?_⟩
  · unfold stayL; exact h.take _
  · unfold restL
    rcases hB with rfl | ⟨e, rfl⟩
    · rw [hn, hk]; exact h.drop _
    · have : (sortI L).drop (keepN keep L.length) = [] := by
        have := l2
        unfold restL at this
        exact List.eq_nil_of_length_eq_zero (by omega)
      rw [this]
      exact Nums.nil _ _
  · rcases hB with rfl | ⟨_, rfl⟩ <;> cases e <;> exact hg

/-- .. and how. -/
def RefSplitR (w : World) (keep : Int) (L : List Int) (e : Ending) (w' : World) : Prop :=
  ∃ A B p q c d, e = .returned (.tuple #[.slice A p c, .slice B q d]) ∧ RefSplit w' w.heap.size A B p q c d keep L ∧ Below w.heap.size w w'

set_option maxRecDepth 100000 in
set_option maxHeartbeats 4000000 in
theorem rsplit20_any (w : World) (A : Option Addr) (n cw : Nat) (L : List Int) (keep : Int) (h : Nums w A L) (hn : L.length = n) (hl : n ≤ 50000) (hk : I64 keep) :
    Calls Try.prog 16 #[.slice A n cw, .int .i64 keep] w fun e w' => RefSplitR w keep L e w' := by
  have HC := Lib.hid (rsorted20_any w A n cw L h hn hl)
  have HN := Lib.hid hn
  have HIL := Lib.hid h.ok
  obtain ⟨k0, k1⟩ := hk
  obtain ⟨k, hk⟩ : ∃ k, keepN keep n = k := ⟨_, rfl⟩
  have HK := Lib.hid hk
  have hkn : k ≤ n := by rw [← hk]; exact (keepN_le keep n).1
  have hmn : (if (n - min keep.toNat n) % 2 = 0 then min keep.toNat n else min keep.toNat n + 1) = k := hk
  clear h hn hk
  go_enter Try.func16, Try.ntmps16
  go_wp2_with fail
  refine HC.out.mono ?_
  rintro e w1 ⟨v, rfl, hown, hb⟩
  have HB := Lib.hid hb
  clear hb
  rcases hown.either (fun p hp => HIL.out p (sortI_mem.1 hp)) with ⟨rfl, hnil⟩ | ⟨g, off, cap, rfl, hnums, hg0, hg1, hcap⟩
  · have hn0 : n = 0 := by rw [← HN.out, ← sortI_len L, hnil]; rfl
    subst hn0
    have hk0 : k = 0 := by omega
    subst hk0
    have HF : Hid (RefSplit w1 w.heap.size none none 0 0 0 0 keep L) := Lib.hid (by
      obtain ⟨l1, l2⟩ := stay_len keep L
      rw [HN.out, HK.out] at l1 l2
      refine ⟨?_, l1, ?_, l2, fun a e => (by cases e), fun a e => (by cases e)⟩
      · rw [List.eq_nil_of_length_eq_zero l1]; exact Nums.nil _ _
      · rw [List.eq_nil_of_length_eq_zero l2]; exact Nums.nil _ _)
    clear hown hnil
    by_cases hm0 : keep < 0
    · have m0 : max keep 0 = 0 := by omega
      clear hmn
      go_wp2_with fail
      go_quiet (fail)
      rename_i nq
      go_wp2_with fail
      go_ret2
      exact ⟨_, _, _, _, _, _, rfl, HF.out.call (below_drewN (Below.refl _ _) nq), below_drewN HB.out nq⟩
    · by_cases hm1 : keep = 0
      · subst hm1
        clear hmn
        go_wp2_with fail
        go_quiet (fail)
        rename_i nq
        go_wp2_with fail
        go_ret2
        exact ⟨_, _, _, _, _, _, rfl, HF.out.call (below_drewN (Below.refl _ _) nq), below_drewN HB.out nq⟩
      · have f1 : (0 : Int) < keep := by omega
        clear hmn
        go_wp2_with fail
        go_quiet (fail)
        rename_i nq
        go_wp2_with fail
        go_ret2
        exact ⟨_, _, _, _, _, _, rfl, HF.out.call (below_drewN (Below.refl _ _) nq), below_drewN HB.out nq⟩
  · rw [sortI_len, HN.out] at hcap ⊢
    have HNU := Lib.hid hnums
    clear hown hnums
    by_cases hm0 : keep < 0
    · have m0 : max keep 0 = 0 := by omega
      rw [show keep.toNat = 0 by omega, Nat.zero_min, Nat.sub_zero] at hmn
      by_cases hpar : n % 2 = 0
      · rw [if_pos hpar] at hmn
        subst hmn
        have t1 : (n : Int).tmod 2 = 0 := by rw [Int.tmod_eq_emod_of_nonneg (by omega)]; omega
        have t2 : (n : Int) % 2 = 0 := by omega
        have p2 : (0 : Int) ≤ cap := by omega
        have p3 : 0 ≤ cap := by omega
        have p4 : (n : Int) ≤ cap := by omega
        have p5 : (0 : Int) ≤ n := by omega
        by_cases hck : cap = 0
        · obtain hnk : n = 0 := by omega
          have HF := Lib.hid (refsplit_of (c := cap) (d := 0) HN.out HK.out HNU.out hg0 (Or.inr ⟨hnk, rfl⟩))
          have z0 : n - 0 = 0 := by omega
          rw [z0] at HF
          go_wp2_with fail
          go_quiet (fail)
          rename_i nq
          go_wp2_with fail
          go_ret2
          first | exact ⟨_, _, _, _, _, _, rfl, HF.out.call (below_drewN (Below.refl _ _) nq), below_drewN HB.out nq⟩ | (simp only [hck, hnk, Nat.sub_self] at HF ⊢; exact ⟨_, _, _, _, _, _, rfl, HF.out.call (below_drewN (Below.refl _ _) nq), below_drewN HB.out nq⟩)
        · have HF := Lib.hid (refsplit_of (c := cap) (d := cap - 0) HN.out HK.out HNU.out hg0 (Or.inl rfl))
          go_wp2_with fail
          go_quiet (fail)
          rename_i nq
          go_wp2_with fail
          go_ret2
          first | exact ⟨_, _, _, _, _, _, rfl, HF.out.call (below_drewN (Below.refl _ _) nq), below_drewN HB.out nq⟩ | (simp only [Nat.sub_self, Nat.sub_zero] at HF ⊢; exact ⟨_, _, _, _, _, _, rfl, HF.out.call (below_drewN (Below.refl _ _) nq), below_drewN HB.out nq⟩)
      · rw [if_neg hpar] at hmn
        obtain rfl : 1 = k := by omega
        have t1 : (n : Int).tmod 2 = 1 := by rw [Int.tmod_eq_emod_of_nonneg (by omega)]; omega
        have t2 : (n : Int) % 2 = 1 := by omega
        have p2 : (1 : Int) ≤ cap := by omega
        have p3 : 1 ≤ cap := by omega
        have p4 : (n : Int) ≤ cap := by omega
        have p5 : (1 : Int) ≤ n := by omega
        by_cases hck : cap = 1
        · obtain hnk : n = 1 := by omega
          have HF := Lib.hid (refsplit_of (c := cap) (d := 0) HN.out HK.out HNU.out hg0 (Or.inr ⟨hnk, rfl⟩))
          have z0 : n - 1 = 0 := by omega
          rw [z0] at HF
          go_wp2_with fail
          go_quiet (fail)
          rename_i nq
          go_wp2_with fail
          go_ret2
          first | exact ⟨_, _, _, _, _, _, rfl, HF.out.call (below_drewN (Below.refl _ _) nq), below_drewN HB.out nq⟩ | (simp only [hck, hnk, Nat.sub_self] at HF ⊢; exact ⟨_, _, _, _, _, _, rfl, HF.out.call (below_drewN (Below.refl _ _) nq), below_drewN HB.out nq⟩)
        · have HF := Lib.hid (refsplit_of (c := cap) (d := cap - 1) HN.out HK.out HNU.out hg0 (Or.inl rfl))
          go_wp2_with fail
          go_quiet (fail)
          rename_i nq
          go_wp2_with fail
          go_ret2
          first | exact ⟨_, _, _, _, _, _, rfl, HF.out.call (below_drewN (Below.refl _ _) nq), below_drewN HB.out nq⟩ | (simp only [Nat.sub_self, Nat.sub_zero] at HF ⊢; exact ⟨_, _, _, _, _, _, rfl, HF.out.call (below_drewN (Below.refl _ _) nq), below_drewN HB.out nq⟩)
    · obtain ⟨m, rfl⟩ : ∃ m : Nat, keep = m := ⟨keep.toNat, by omega⟩
      rw [show ((m : Int)).toNat = m by omega] at hmn
      have m0 : max (m : Int) 0 = m := by omega
      by_cases hmn1 : n < m
      · have f1 : (n : Int) < m := by omega
        obtain rfl : n = k := by
          rw [Nat.min_eq_right (by omega), Nat.sub_self] at hmn
          simpa using hmn
        clear hmn
        have p2 : (n : Int) ≤ cap := by omega
        have p3 : n ≤ cap := by omega
        have p4 : (n : Int) ≤ cap := by omega
        have p5 : (n : Int) ≤ n := by omega
        by_cases hck : cap = n
        · obtain hnk : n = n := by omega
          have HF := Lib.hid (refsplit_of (c := cap) (d := 0) HN.out HK.out HNU.out hg0 (Or.inr ⟨hnk, rfl⟩))
          have z0 : n - n = 0 := by omega
          rw [z0] at HF
          go_wp2_with fail
          go_quiet (fail)
          rename_i nq
          go_wp2_with fail
          go_ret2
          first | exact ⟨_, _, _, _, _, _, rfl, HF.out.call (below_drewN (Below.refl _ _) nq), below_drewN HB.out nq⟩ | (simp only [hck, hnk, Nat.sub_self] at HF ⊢; exact ⟨_, _, _, _, _, _, rfl, HF.out.call (below_drewN (Below.refl _ _) nq), below_drewN HB.out nq⟩)
        · have HF := Lib.hid (refsplit_of (c := cap) (d := cap - n) HN.out HK.out HNU.out hg0 (Or.inl rfl))
          go_wp2_with fail
          go_quiet (fail)
          rename_i nq
          go_wp2_with fail
          go_ret2
          first | exact ⟨_, _, _, _, _, _, rfl, HF.out.call (below_drewN (Below.refl _ _) nq), below_drewN HB.out nq⟩ | (simp only [Nat.sub_self, Nat.sub_zero] at HF ⊢; exact ⟨_, _, _, _, _, _, rfl, HF.out.call (below_drewN (Below.refl _ _) nq), below_drewN HB.out nq⟩)
      · have f1 : ¬ (n : Int) < m := by omega
        rw [Nat.min_eq_left (by omega)] at hmn
        by_cases hpar : (n - m) % 2 = 0
        · rw [if_pos hpar] at hmn
          subst hmn
          have t1 : ((n : Int) - (m : Int)).tmod 2 = 0 := by rw [Int.tmod_eq_emod_of_nonneg (by omega)]; omega
          have t2 : ((n : Int) - (m : Int)) % 2 = 0 := by omega
          have p2 : (m : Int) ≤ cap := by omega
          have p3 : m ≤ cap := by omega
          have p4 : (n : Int) ≤ cap := by omega
          have p5 : (m : Int) ≤ n := by omega
          by_cases hck : cap = m
          · obtain hnk : n = m := by omega
            have HF := Lib.hid (refsplit_of (c := cap) (d := 0) HN.out HK.out HNU.out hg0 (Or.inr ⟨hnk, rfl⟩))
            have z0 : n - m = 0 := by omega
            rw [z0] at HF
            go_wp2_with fail
            go_quiet (fail)
            rename_i nq
            go_wp2_with fail
            go_ret2
            first | exact ⟨_, _, _, _, _, _, rfl, HF.out.call (below_drewN (Below.refl _ _) nq), below_drewN HB.out nq⟩ | (simp only [hck, hnk, Nat.sub_self] at HF ⊢; exact ⟨_, _, _, _, _, _, rfl, HF.out.call (below_drewN (Below.refl _ _) nq), below_drewN HB.out nq⟩)
          · have HF := Lib.hid (refsplit_of (c := cap) (d := cap - m) HN.out HK.out HNU.out hg0 (Or.inl rfl))
            go_wp2_with fail
            go_quiet (fail)
            rename_i nq
            go_wp2_with fail
            go_ret2
            first | exact ⟨_, _, _, _, _, _, rfl, HF.out.call (below_drewN (Below.refl _ _) nq), below_drewN HB.out nq⟩ | (simp only [Nat.sub_self, Nat.sub_zero] at HF ⊢; exact ⟨_, _, _, _, _, _, rfl, HF.out.call (below_drewN (Below.refl _ _) nq), below_drewN HB.out nq⟩)
        · rw [if_neg hpar] at hmn
          have t1 : ((n : Int) - (m : Int)).tmod 2 = 1 := by rw [Int.tmod_eq_emod_of_nonneg (by omega)]; omega
          have t2 : ((n : Int) - (m : Int)) % 2 = 1 := by omega
          have t3 : (m : Int) + 1 = k := by omega
          have p2 : (k : Int) ≤ cap := by omega
          have p3 : k ≤ cap := by omega
          have p4 : (n : Int) ≤ cap := by omega
          have p5 : (k : Int) ≤ n := by omega
          by_cases hck : cap = k
          · obtain hnk : n = k := by omega
            have HF := Lib.hid (refsplit_of (c := cap) (d := 0) HN.out HK.out HNU.out hg0 (Or.inr ⟨hnk, rfl⟩))
            have z0 : n - k = 0 := by omega
            rw [z0] at HF
            go_wp2_with fail
            go_quiet (fail)
            rename_i nq
            go_wp2_with fail
            go_ret2
            first | exact ⟨_, _, _, _, _, _, rfl, HF.out.call (below_drewN (Below.refl _ _) nq), below_drewN HB.out nq⟩ | (simp only [hck, hnk, Nat.sub_self] at HF ⊢; exact ⟨_, _, _, _, _, _, rfl, HF.out.call (below_drewN (Below.refl _ _) nq), below_drewN HB.out nq⟩)
          · have HF := Lib.hid (refsplit_of (c := cap) (d := cap - k) HN.out HK.out HNU.out hg0 (Or.inl rfl))
            go_wp2_with fail
            go_quiet (fail)
            rename_i nq
            go_wp2_with fail
            go_ret2
            first | exact ⟨_, _, _, _, _, _, rfl, HF.out.call (below_drewN (Below.refl _ _) nq), below_drewN HB.out nq⟩ | (simp only [Nat.sub_self, Nat.sub_zero] at HF ⊢; exact ⟨_, _, _, _, _, _, rfl, HF.out.call (below_drewN (Below.refl _ _) nq), below_drewN HB.out nq⟩)
end Go.Proofs.Ytecnlpkfcggimaa
