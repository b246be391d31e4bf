/-
  Walks: the law LogskOrder, of at most so many values.
-/
import Derived.Test.YtcijflakldggaaaGreatK7
import Derived.Test.YtcijflakldggaaaGreatQSkN
import Derived.Deep.RegionHeld3
import Derived.Deep.AppendLies
namespace Go.Proofs.YtcijflakldggaaaGreat
set_option linter.unusedVariables false
set_option linter.unusedSimpArgs false
open Go.RowKit

/-- Appending one value, that lies in a block of its own: it tells where the new row lies. -/
theorem wpList_append_val {w : World} {ops : Array Oper} {rest : List Oper} {o : Oper} {a : Act} {Q : Exit → Act → World → Prop} (hgd : o.guard = none) (s x : Operand)
    (ho : o.op = .call { callee := .builtin .append, args := #[s, x], argTypes := #[25, 25] })
    (base : Nat) (v : Value) (L : List PairV) (n : Nat) (hln : L.length = n) (g : Nat) (p : PairV) (hs : a.eval s = v) (hown : OwnV w base v L)
    (hx : a.eval x = .slice (some ⟨g, 0, none⟩) 1 1) (h0 : w.cell? ⟨g, 0, none⟩ = some (.int .i64 p.1)) (h1 : w.cell? ⟨g, 1, none⟩ = some (.int .u64 p.2)) (hn : n ≤ 4000000) (hbase : base ≤ w.heap.size)
    (h : ∀ g' cap w', OwnV w' base (.slice (some ⟨g', 0, none⟩) (n + 1) cap) (L ++ [p]) → w.grownBy w' v.ownBlock → (v.ownBlock = some g' ∨ g' = w.heap.size) → wpList Tryz.prog ops Q rest (a.put o.dst (.slice (some ⟨g', 0, none⟩) (n + 1) cap)) w') : wpList Tryz.prog ops Q (o :: rest) a w := by
  subst hln
  obtain ⟨i0, hi, hz0, hz1, hz2⟩ := info_parts Tryz.infoVal
  obtain ⟨q0, q1⟩ := cellsQ_at [p] 0 p rfl
  have q0 : (cellsQ [p])[0]? = some (.int .i64 p.1) := q0
  have q1 : (cellsQ [p])[1]? = some (.int .u64 p.2) := q1
  refine wpList_append_lies w hgd s x _ ho base _ i0 _ 2 16 Tryz.underlying25 hi hz0 hz1 hz2 rfl (by decide) v L.length (cellsQ L) hs hown ⟨g, 0, none⟩ 1 1 (cellsQ [p]) hx (cellsQ_len [p]) ?_ (cellsQ_one [p])
      (by decide) (by unfold maxLen; omega) (by omega) hbase _ rfl (fun g' cap w' h1 h2 h3 _ => h g' cap w' ?_ h2 h3)
  · intro j u hu
    rw [addr_flat]
    match j, hu with
    | 0, hu => rw [q0] at hu; rw [← Option.some.inj hu]; exact h0
    | 1, hu => rw [q1] at hu; rw [← Option.some.inj hu]; exact h1
    | n + 2, hu => rw [List.getElem?_eq_none (by rw [cellsQ_len]; simp)] at hu; cases hu
  · unfold OwnV
    rw [cellsQ_app, List.length_append]
    exact h1
theorem OwnV.past {w : World} {base D o : Nat} {v x : Value} {L : List PairV} (h : OwnV w base v L) (hD : v.ownBlock ≠ some D) : OwnV (w.setCell ⟨D, o, none⟩ x) base v L :=
  World.ownsRow.kept (row := some D) h ⟨rfl, rfl, rfl, by simp [World.setCell], fun i hi hne => Below.heap_setCell w _ _ i (fun e => hne (by rw [show i = D from e]))⟩ (by
    cases hv : v.ownBlock with
    | none => left; rfl
    | some k => right; rw [← hv]; exact hD)
/-- The other case of the law: a block of its own. -/
def CaseD (w : World) (D : Nat) (u v sd m : Int) (x : Value) : Prop := w.heap[D]? = some (.cells #[.int .u64 u, .int .u64 v, .int .i64 sd, .int .i64 m, x] 27 (0, 0))
theorem CaseD.k {w : World} {D : Nat} {u v sd m : Int} {x : Value} (h : CaseD w D u v sd m x) : CaseK w D u v sd m x := by
  have h : w.heap[D]? = some (.cells #[.int .u64 u, .int .u64 v, .int .i64 sd, .int .i64 m, x] 27 (0, 0)) := h
  exact ⟨by rw [Joins.cell_of_block h]; rfl, by rw [Joins.cell_of_block h]; rfl, by rw [Joins.cell_of_block h]; rfl, by rw [Joins.cell_of_block h]; rfl, by rw [Joins.cell_of_block h]; rfl⟩
theorem CaseD.keep {w w' : World} {D : Nat} {u v sd m : Int} {x : Value} (h : CaseD w D u v sd m x) (hk : w'.heap[D]? = w.heap[D]?) : CaseD w' D u v sd m x := hk.trans h
theorem CaseD.put {w : World} {D : Nat} {u v sd m : Int} {x y : Value} (h : CaseD w D u v sd m x) : CaseD (w.setCell ⟨D, 4, none⟩ y) D u v sd m y := by
  have h : w.heap[D]? = some (.cells #[.int .u64 u, .int .u64 v, .int .i64 sd, .int .i64 m, x] 27 (0, 0)) := h
  unfold CaseD
  rw [Joins.block_setCell h]; rfl
theorem CaseD.free {w : World} {D : Nat} {u v sd m : Int} {x : Value} (h : CaseD w D u v sd m x) (o : Nat) : w.frozen? ⟨D, o, none⟩ = false := Joins.unfrozen_of_block (show w.heap[D]? = some (.cells #[.int .u64 u, .int .u64 v, .int .i64 sd, .int .i64 m, x] 27 (0, 0)) from h) o

/-- One value more: what comes of it. -/
theorem ord_step {w5 w6 : World} {D : Nat} {u v sd m : Int} {V : Value} {L : List PairV} {p : PairV} {g n k : Nat} {o : Obj} (hc : CaseD w5 D u v sd m V) (ho : OwnV w5 (D + 1) V L) (hDl : D + 1 ≤ w5.heap.size)
    (hv : OwnV w6 (D + 1) (.slice (some ⟨g, 0, none⟩) n k) (L ++ [p])) (hg : (w5.alloc o).grownBy w6 V.ownBlock) (hl : V.ownBlock = some g ∨ g = (w5.alloc o).heap.size) :
    w6.cell? ⟨D, 4, none⟩ = some V ∧ w6.frozen? ⟨D, 4, none⟩ = false ∧ CaseD (w6.setCell ⟨D, 4, none⟩ (.slice (some ⟨g, 0, none⟩) n k)) D u v sd m (.slice (some ⟨g, 0, none⟩) n k) ∧
    OwnV (w6.setCell ⟨D, 4, none⟩ (.slice (some ⟨g, 0, none⟩) n k)) (D + 1) (.slice (some ⟨g, 0, none⟩) n k) (L ++ [p]) ∧
    (∀ b, b ≠ D → b < w5.heap.size → V.ownBlock ≠ some b → (w6.setCell ⟨D, 4, none⟩ (.slice (some ⟨g, 0, none⟩) n k)).heap[b]? = w5.heap[b]? ∧ (Value.slice (some ⟨g, 0, none⟩) n k).ownBlock ≠ some b) ∧
    Below D w5 (w6.setCell ⟨D, 4, none⟩ (.slice (some ⟨g, 0, none⟩) n k)) ∧ w5.heap.size + 1 ≤ (w6.setCell ⟨D, 4, none⟩ (.slice (some ⟨g, 0, none⟩) n k)).heap.size := by
  have hsz := size_new w5 o
  have hgs := hg.size
  have ha := grew_one w5 o
  have hlt := ho.lt
  have hDn : some D ≠ V.ownBlock := fun e => by have := (hlt D e.symm).1; omega
  have hD6 : w6.heap[D]? = w5.heap[D]? := (hg.block D (by omega) hDn).trans (ha.block D (by omega))
  have hc6 := hc.keep hD6
  have hss : (w6.setCell ⟨D, 4, none⟩ (.slice (some ⟨g, 0, none⟩) n k)).heap.size = w6.heap.size := by simp [World.setCell]
  have hgo : (Value.slice (some ⟨g, 0, none⟩) n k).ownBlock = some g := rfl
  refine ⟨hc6.k.c4, hc6.free 4, hc6.put, hv.past (by rw [hgo]; intro e; have := (hv.lt g hgo).1; have := Option.some.inj e; omega), fun b h1 h2 h3 => ⟨?_, ?_⟩, ?_, by rw [hss]; omega⟩
  · rw [Below.heap_setCell w6 _ _ b h1, hg.block b (by omega) (fun e => h3 e.symm), ha.block b h2]
  · rw [hgo]
    intro e
    have e := Option.some.inj e
    rcases hl with h | h
    · exact h3 (by rw [h, e])
    · omega
  · have hb : Below (D + 1) (w5.alloc o) w6 := OwnV.below (ho.call ha) (Below.refl _ _) hg (by omega)
    have h1 : Below D w5 (w5.alloc o) := ha.mono (by omega)
    have h2 : Below D (w5.alloc o) w6 := hb.mono (by omega)
    exact (h1.trans h2).setCell (p := ⟨D, 4, none⟩) (Nat.le_refl _) _

/-- The same values in another order: the same quantiles. -/
theorem quan_perm {P : Pt} (hP : P.ok) (s : Bool) {m : Int} (hm : 0 < m) {A L : List PairV} (hA : FineV A) (hL : FineV L) (lA : A.length ≤ 1000) (lL : L.length ≤ 1000) (h : ∀ f, cntV f L = cntV f A) (a b : Int) : quanA P s m L a b = quanA P s m A a b := by
  have hs : sumP L = sumP A := by rw [← cnt_all L, ← cnt_all A]; exact h _
  have he := ends_same hL hA h
  have hst := stv_same hP s m hL hA lL lA h
  have hask : ∀ t, askV P s m L t = askV P s m A t := fun t => by rw [← find_ask hP s hm hL lL t, ← find_ask hP s hm hA lA t, hst]
  unfold quanA
  rw [hs, he.1, he.2, hask]

set_option maxRecDepth 100000 in
set_option maxHeartbeats 4000000 in
theorem logsk_order_walk {Bn : BnT} (D : BinsDoes Bn) (u v sd m : Int) (A : List PairV) (a : Option Addr) (cap : Nat) (t pa pb : Int) (wu : Word u) (wv : Word v) (ws : I64 sd) (wm : I64 m) (hl : A.length ≤ 140737488351232) (wt : I64 t) (wpa : Word pa) (wpb : Word pb) (hup : A.length ≤ 1048576) (w : World) (hA : Pairs w a A) :
    Calls Tryz.prog 9 #[.agg #[.int .u64 u, .int .u64 v, .int .i64 sd, .int .i64 m, .slice a A.length cap], .int .i64 t, .agg #[.int .u64 pa, .int .u64 pb]] w fun e w' => e = .returned (.bool true) ∧ Below w.heap.size w w' := by
  have HD := Lib.hid D
  obtain ⟨ln, hln⟩ : ∃ ln : Nat, A.length = ln := ⟨_, rfl⟩
  have HBD := Lib.hid (fun W hp => build14_any D W u v sd m A a cap wu wv ws wm hp hl)
  rw [hln] at HBD ⊢
  have HLN := Lib.hid hln
  have HA := Lib.hid hA
  have hcs := casek_new w u v sd m (.slice a ln cap) 27
  have BC := grew_one w (.cells #[.int .u64 u, .int .u64 v, .int .i64 sd, .int .i64 m, .slice a ln cap] 27)
  have hcs := hcs.call (grew_one (w.alloc (.cells #[.int .u64 u, .int .u64 v, .int .i64 sd, .int .i64 m, .slice a ln cap] 27)) (.cells #[.int .u64 pa, .int .u64 pb] 24))
  have Tp := Two.new (w.alloc (.cells #[.int .u64 u, .int .u64 v, .int .i64 sd, .int .i64 m, .slice a ln cap] 27)) (.int .u64 pa) (.int .u64 pb) 24
  have BC := below_new BC (.cells #[.int .u64 pa, .int .u64 pb] 24)
  have hsz : ((w.alloc (.cells #[.int .u64 u, .int .u64 v, .int .i64 sd, .int .i64 m, .slice a ln cap] 27)).alloc (.cells #[.int .u64 pa, .int .u64 pb] 24)).heap.size = w.heap.size + 2 := by simp
  have hsp : (w.alloc (.cells #[.int .u64 u, .int .u64 v, .int .i64 sd, .int .i64 m, .slice a ln cap] 27)).heap.size = w.heap.size + 1 := by simp
  rw [hsp] at Tp
  clear hsp
  have HUP : Hid (ln ≤ 1048576) := Lib.hid (by rw [← hln]; exact hup)
  clear hA hl D hln hup
  go_enter Tryz.func9, Tryz.ntmps9
  go_wp2_with fail
  generalize ((w.alloc (.cells #[.int .u64 u, .int .u64 v, .int .i64 sd, .int .i64 m, .slice a ln cap] 27)).alloc (.cells #[.int .u64 pa, .int .u64 pb] 24)) = wC at *
  refine (alive14_any HD.out wC).mono ?_
  rintro e w2 ⟨rfl, hb2⟩
  have hcs := hcs.call hb2
  have Tp := Tp.call hb2
  have b2 := BC.trans (hb2.mono BC.size)
  have hz2 : w.heap.size + 2 ≤ w2.heap.size := by have := hb2.size; omega
  clear BC hb2 hsz
  obtain ⟨c0, c1, c2, c3, c4⟩ := id hcs
  obtain ⟨p0, p1, _, _⟩ := id Tp
  have HCS := Lib.hid hcs
  have HTP := Lib.hid Tp
  obtain ⟨t0, t1⟩ := wt
  have l0 : (0 : Int) ≤ ln := by omega
  by_cases q1 : t < 0
  · go_wp2_with fail
    go_ret
    exact ⟨rfl, b2⟩
  by_cases q2 : (ln : Int) < t
  · go_wp2_with fail
    go_ret
    exact ⟨rfl, b2⟩
  obtain ⟨tn, rfl⟩ : ∃ tn : Nat, t = tn := ⟨t.toNat, by omega⟩
  have htn : tn ≤ ln := by omega
  have hDb : (w2.alloc (.cells #[.int .u64 u, .int .u64 v, .int .i64 sd, .int .i64 m, .slice none 0 0] 27)).heap[w2.heap.size]? = some (.cells #[.int .u64 u, .int .u64 v, .int .i64 sd, .int .i64 m, .slice none 0 0] 27 (0, 0)) := heap_new _ _
  have hb3 := grew_one w2 (.cells #[.int .u64 u, .int .u64 v, .int .i64 sd, .int .i64 m, .slice none 0 0] 27)
  have hz3 := size_new w2 (.cells #[.int .u64 u, .int .u64 v, .int .i64 sd, .int .i64 m, .slice none 0 0] 27)
  have HDB := Lib.hid hDb
  have HB3 := Lib.hid hb3
  have g4 := cell_later hb3 c4
  clear hDb hb3 hcs Tp
  go_wp2_with fail
  generalize (w2.alloc (.cells #[.int .u64 u, .int .u64 v, .int .i64 sd, .int .i64 m, .slice none 0 0] 27)) = w3 at *
  have HRK : Hid (∀ k : Nat, k < ln → ∃ q : Nat, q < ln ∧ (((ln : Int) - 1 - k + tn).tmod ln = q) ∧ A[q]? = (rotV tn A)[k]?) := Lib.hid (fun k hk => by
    have hl := HLN.out
    refine ⟨(ln - 1 - k + tn) % ln, Nat.mod_lt _ (by omega), ?_, ?_⟩
    · have e : (ln : Int) - 1 - k + tn = ((ln - 1 - k + tn : Nat) : Int) := by omega
      rw [e, Int.tmod_eq_emod_of_nonneg (by omega)]; rfl
    · have := rot_at (A := A) (t := tn) (i := k) (by omega) (by omega)
      rw [this, hl])
  have HA3 := Lib.hid (HA.out.call (b2.trans (HB3.out.mono b2.size)))
  have hlt2 : w.heap.size < w2.heap.size := by omega
  clear c0 c1 c2 c3 p0 p1
  go_loopw [44] (fun j wr => ∃ (k : Nat) (V : Value), k ≤ ln ∧ j = .int .i64 k ∧ CaseD wr w2.heap.size u v sd m V ∧ OwnV wr (w2.heap.size + 1) V (splitV ((rotV tn A).take k)) ∧ Below w2.heap.size w2 wr ∧ w2.heap.size + 1 ≤ wr.heap.size) (fun j _ => ln - (intOf j).toNat)
  case atStart => exact ⟨0, _, Nat.zero_le _, rfl, HDB.out, OwnV.nil _ _, HB3.out, by omega⟩
  case round =>
    obtain ⟨k, V, hk, rfl, hcd, hown, hbr, hzr⟩ := hrel
    by_cases hlt : k < ln
    · have kk : (k : Int) < ln := by omega
      obtain ⟨q, hql, hqm, hqa⟩ := HRK.out k hlt
      have hq0 : (0 : Int) ≤ q := by omega
      have hq1 : (q : Int) < ln := by omega
      have hrk : (rotV tn A)[k]? = some ((rotV tn A)[k]'(by rw [rot_len, HLN.out]; exact hlt)) := List.getElem?_eq_getElem _
      generalize hit : (rotV tn A)[k]'(by rw [rot_len, HLN.out]; exact hlt) = p at *
      obtain ⟨px, pc⟩ := p
      have hxk : A[q]? = some (px, pc) := hqa.trans hrk
      obtain ⟨bb, off, rfl, hbl, d0, d1⟩ := (HA.out.call (b2.trans (hbr.mono b2.size))).at_ q _ hxk
      have hok := HA.out.ok _ (List.mem_of_getElem? hxk)
      obtain ⟨⟨o1, o2⟩, o3, o4⟩ := id hok
      simp only at d0 d1 o1 o2 o3 o4
      have HOK := Lib.hid hok
      have HQR := Lib.hid hrk
      have HCD := Lib.hid hcd
      have HOW := Lib.hid hown
      have HBR := Lib.hid hbr
      have e1 : IntKind.i64.wrap ((ln : Int) - 1) = ln - 1 := by rw [IntKind.wrap_i64]; have := HUP.out; omega
      have e2 : IntKind.i64.wrap ((ln : Int) - 1 - k) = ln - 1 - k := by rw [IntKind.wrap_i64]; have := HUP.out; omega
      have e3 : IntKind.i64.wrap ((ln : Int) - 1 - k + tn) = ln - 1 - k + tn := by rw [IntKind.wrap_i64]; have := HUP.out; omega
      have e4 : IntKind.i64.wrap (q : Int) = q := by rw [IntKind.wrap_i64]; have := HUP.out; omega
      have hl0 : ((ln : Int) == 0) = false := beq_eq_false_iff_ne.2 (by omega)
      have hl1 : ¬ ln = 0 := by omega
      have hl2 : ¬ (ln : Int) = 0 := by omega
      have r4 := cell_later hbr c4
      have HST : Hid (∀ W, Below wr.heap.size wr W → W.cell? ⟨w.heap.size, 4, none⟩ = some (.slice (some ⟨bb, off, none⟩) ln cap) ∧ W.cell? ⟨bb, off + q * 2, none⟩ = some (.int .i64 px) ∧ W.cell? ⟨bb, off + q * 2 + 1, none⟩ = some (.int .u64 pc) ∧ Below wr.heap.size wr W) := Lib.hid (fun W hb => ⟨cell_later hb r4, cell_later hb d0, cell_later hb d1, hb⟩)
      have HDR : Hid (Below wr.heap.size wr wr.drew) := Lib.hid (Below.refl _ _).drew
      clear hok hxk hqa hrk hit hcd hown hbr
      go_wp2_with fail
      go_region_held3 (fun w' => w'.cell? ⟨w.heap.size, 4, none⟩ = some (.slice (some ⟨bb, off, none⟩) ln cap) ∧ w'.cell? ⟨bb, off + q * 2, none⟩ = some (.int .i64 px) ∧ w'.cell? ⟨bb, off + q * 2 + 1, none⟩ = some (.int .u64 pc) ∧ Below wr.heap.size wr w')
        (first | exact HST.out _ HDR.out | exact HST.out _ (HDR.out.alloc (Nat.le_refl _) _) | exact HST.out _ ((HDR.out.alloc (Nat.le_refl _) _).setCell (Nat.le_refl _) _) | exact HST.out _ (((HDR.out.alloc (Nat.le_refl _) _).setCell (Nat.le_refl _) _).setCell (Nat.le_refl _) _) | assumption)
        (fail)
      rename_i hHeld
      obtain ⟨_, _, _, b5⟩ := hHeld
      have hvb : (wr.alloc (.cells #[.int .i64 px, .int .u64 pc] 52)).drew.heap[wr.heap.size]? = some (.cells #[.int .i64 px, .int .u64 pc] 52 (0, 0)) := heap_new wr (.cells #[.int .i64 px, .int .u64 pc] 52)
      have hz5 : (wr.alloc (.cells #[.int .i64 px, .int .u64 pc] 52)).drew.heap.size = wr.heap.size + 1 := size_new wr (.cells #[.int .i64 px, .int .u64 pc] 52)
      generalize (wr.alloc (.cells #[.int .i64 px, .int .u64 pc] 52)).drew = w5 at *
      have hbn : wr.heap.size ≠ w2.heap.size := by omega
      have hbn' : w2.heap.size ≠ wr.heap.size := by omega
      obtain ⟨nL, hnL⟩ : ∃ nL, (splitV ((rotV tn A).take k)).length = nL := ⟨_, rfl⟩
      have hnb : nL ≤ 2097152 := by
        rw [← hnL]
        have h1 := split_len ((rotV tn A).take k)
        have h2 := List.length_take_le k (rotV tn A)
        have := HUP.out; omega
      obtain ⟨aV, cV, rfl⟩ := HOW.out.form
      have hown5 := HOW.out.call b5
      have hcd5 := HCD.out.keep (b5.block w2.heap.size (by omega))
      have hnv : (Value.slice aV (splitV ((rotV tn A).take k)).length cV).ownBlock ≠ some wr.heap.size := fun e => by have := (HOW.out.lt _ e).2; omega
      have hbw5 := HBR.out.trans (b5.mono (by omega))
      rw [hnL] at hown5 hcd5 hnv
      have HSN := Lib.hid (fun (h : (rotV tn A)[k]? = some (px, pc)) => (by rw [take_snocP h, split_snoc] : splitV ((rotV tn A).take (k + 1)) = splitV ((rotV tn A).take k) ++ oneV (px, pc)))
      have HSP := Lib.hid (HSN.out HQR.out)
      obtain ⟨LL, hLL⟩ : ∃ LL, splitV ((rotV tn A).take k) = LL := ⟨_, rfl⟩
      rw [hLL] at hown5 HSP hnL
      have HCD5 := Lib.hid hcd5
      have HOW5 := Lib.hid hown5
      have HB5 := Lib.hid hbw5
      have HVB := Lib.hid hvb
      have HNV := Lib.hid hnv
      have HNL := Lib.hid hnL
      have y0 : w5.cell? ⟨wr.heap.size, 0, none⟩ = some (.int .i64 px) := by rw [Joins.cell_of_block hvb]; rfl
      have y1 : w5.cell? ⟨wr.heap.size, 1, none⟩ = some (.int .u64 pc) := by rw [Joins.cell_of_block hvb]; rfl
      have y4 := hcd5.k.c4
      have HZ5 := Lib.hid hz5
      have HZR := Lib.hid hzr
      clear hcd5 hown5 hbw5 hvb hnv HST HDR d0 d1 r4 e1 e2 e3 e4 hl0 hl1 hl2 HCD HOW HSN hLL b5 hnL
      have hD5 : w2.heap.size + 1 ≤ w5.heap.size := by omega
      have HD5 := Lib.hid hD5
      clear hz5 hD5
      by_cases hpc : 1 < pc
      · have ew : IntKind.u64.wrap (pc - 1) = pc - 1 := by rw [IntKind.wrap_u64]; omega
        have hT := Two.new w5 (.int .i64 px) (.int .u64 (pc - 1)) 52
        have HX0 := Lib.hid hT.c0
        have HX1 := Lib.hid hT.c1
        have HOA := Lib.hid (HOW5.out.call (grew_one w5 (.cells #[.int .i64 px, .int .u64 (pc - 1)] 52)))
        have HBS : Hid (w2.heap.size + 1 ≤ (w5.alloc (.cells #[.int .i64 px, .int .u64 (pc - 1)] 52)).heap.size) := Lib.hid (by rw [size_new]; have := HD5.out; omega)
        have HST : Hid (∀ (g1 k1 : Nat) (w6 : World), OwnV w6 (w2.heap.size + 1) (.slice (some ⟨g1, 0, none⟩) (nL + 1) k1) (LL ++ [(px, pc - 1)]) → (w5.alloc (.cells #[.int .i64 px, .int .u64 (pc - 1)] 52)).grownBy w6 (Value.slice aV nL cV).ownBlock → ((Value.slice aV nL cV).ownBlock = some g1 ∨ g1 = (w5.alloc (.cells #[.int .i64 px, .int .u64 (pc - 1)] 52)).heap.size) → _) := Lib.hid (fun g1 k1 w6 h1 h2 h3 => ord_step HCD5.out HOW5.out HD5.out h1 h2 h3)
        clear hT
        go_upto_region 13 with (at_builtin; refine wpList_append_val rfl (.tmp 67) (.tmp 74) rfl (w2.heap.size + 1) _ LL nL HNL.out w5.heap.size (px, pc - 1) rfl HOA.out rfl HX0.out HX1.out (by omega) HBS.out ?_; intro g1 k1 w6 hv1 hg1 hl1; obtain ⟨z4, zf, hP1⟩ := HST.out g1 k1 w6 hv1 hg1 hl1; have HP1 := Lib.hid hP1; clear hv1 hg1 hl1 hP1)
        obtain ⟨hc7, ho7, hk7, hb7, hz7⟩ := HP1.out
        have hkk := hk7 wr.heap.size hbn (by have := HZ5.out; omega) HNV.out
        have HC7 := Lib.hid hc7
        have HO7 := Lib.hid ho7
        have HB7 := Lib.hid hb7
        have HZ7 := Lib.hid hz7
        have hvb7 := hkk.1.trans HVB.out
        have HNV7 := Lib.hid hkk.2
        clear hc7 ho7 hb7 hz7 hk7 hkk HP1 HST z4 zf y0 y1 y4 HX0 HX1 HOA HBS ew
        generalize (w6.setCell ⟨w2.heap.size, 4, none⟩ (.slice (some ⟨g1, 0, none⟩) (nL + 1) k1)) = w7 at *
        have HVB7 := Lib.hid hvb7
        have y1 : w7.cell? ⟨wr.heap.size, 1, none⟩ = some (.int .u64 pc) := by rw [Joins.cell_of_block hvb7]; rfl
        have f1 : w7.frozen? ⟨wr.heap.size, 1, none⟩ = false := Joins.unfrozen_of_block hvb7 1
        clear hvb7
        go_upto_region 14 with fail
        have hvb8 : (w7.setCell ⟨wr.heap.size, 1, none⟩ (.int .u64 1)).heap[wr.heap.size]? = some (.cells #[.int .i64 px, .int .u64 1] 52 (0, 0)) := by rw [Joins.block_setCell HVB7.out]; rfl
        have hc8 := HC7.out.keep (w' := w7.setCell ⟨wr.heap.size, 1, none⟩ (.int .u64 1)) (Below.heap_setCell w7 _ _ w2.heap.size hbn')
        have ho8 := HO7.out.past (D := wr.heap.size) (o := 1) (x := .int .u64 1) HNV7.out
        have hb8 : Below w2.heap.size w5 (w7.setCell ⟨wr.heap.size, 1, none⟩ (.int .u64 1)) := HB7.out.setCell (p := ⟨wr.heap.size, 1, none⟩) (by show w2.heap.size ≤ wr.heap.size; have := HZR.out; omega) _
        have hz8 : (w7.setCell ⟨wr.heap.size, 1, none⟩ (.int .u64 1)).heap.size = w7.heap.size := by simp [World.setCell]
        clear y1 f1
        generalize (w7.setCell ⟨wr.heap.size, 1, none⟩ (.int .u64 1)) = w8 at *
        have y0 : w8.cell? ⟨wr.heap.size, 0, none⟩ = some (.int .i64 px) := by rw [Joins.cell_of_block hvb8]; rfl
        have y1 : w8.cell? ⟨wr.heap.size, 1, none⟩ = some (.int .u64 1) := by rw [Joins.cell_of_block hvb8]; rfl
        have y4 := hc8.k.c4
        have hT := Two.new w8 (.int .i64 px) (.int .u64 1) 52
        have HX0 := Lib.hid hT.c0
        have HX1 := Lib.hid hT.c1
        have HOB := Lib.hid (ho8.call (grew_one w8 (.cells #[.int .i64 px, .int .u64 1] 52)))
        have HD8 := Lib.hid (show w2.heap.size + 1 ≤ w8.heap.size by rw [hz8]; have := HZ7.out; have := HD5.out; omega)
        have HBS : Hid (w2.heap.size + 1 ≤ (w8.alloc (.cells #[.int .i64 px, .int .u64 1] 52)).heap.size) := Lib.hid (by rw [size_new]; have := HD8.out; omega)
        have HC8 := Lib.hid hc8
        have HO8 := Lib.hid ho8
        have HB8 := Lib.hid hb8
        have HST : Hid (∀ (g3 k3 : Nat) (w6 : World), OwnV w6 (w2.heap.size + 1) (.slice (some ⟨g3, 0, none⟩) (nL + 1 + 1) k3) (LL ++ [(px, pc - 1)] ++ [(px, 1)]) → (w8.alloc (.cells #[.int .i64 px, .int .u64 1] 52)).grownBy w6 (Value.slice (some ⟨g1, 0, none⟩) (nL + 1) k1).ownBlock → ((Value.slice (some ⟨g1, 0, none⟩) (nL + 1) k1).ownBlock = some g3 ∨ g3 = (w8.alloc (.cells #[.int .i64 px, .int .u64 1] 52)).heap.size) → _) := Lib.hid (fun g1 k1 w6 h1 h2 h3 => ord_step HC8.out HO8.out HD8.out h1 h2 h3)
        have HNL2 : Hid ((LL ++ [(px, pc - 1)]).length = nL + 1) := Lib.hid (by rw [List.length_append, HNL.out]; rfl)
        have HZ8 := Lib.hid hz8
        clear hT hc8 ho8 hb8 hvb8 hz8
        go_upto_region 15 with (at_builtin; refine wpList_append_val rfl (.tmp 79) (.tmp 81) rfl (w2.heap.size + 1) _ (LL ++ [(px, pc - 1)]) (nL + 1) HNL2.out w8.heap.size (px, 1) rfl HOB.out rfl HX0.out HX1.out (by omega) HBS.out ?_; intro g2 k2 w9 hv2 hg2 hl2; obtain ⟨z4, zf, hP1⟩ := HST.out g2 k2 w9 hv2 hg2 hl2; have HP1 := Lib.hid hP1; clear hv2 hg2 hl2 hP1)
        obtain ⟨hc9, ho9, _, hb9, hz9⟩ := HP1.out
        clear z4 zf HST HP1 y0 y1 y4 HX0 HX1
        generalize (w9.setCell ⟨w2.heap.size, 4, none⟩ (.slice (some ⟨g2, 0, none⟩) (nL + 1 + 1) k2)) = w10 at *
        have HWW : Hid (wrap64 ((k : Int) + 1) = ((k + 1 : Nat) : Int)) := Lib.hid (by unfold wrap64; have := HUP.out; omega)
        go_wp2_with fail
        go_roundw
        case rel =>
          have hrr : OwnV w10 (w2.heap.size + 1) (.slice (some ⟨g2, 0, none⟩) (nL + 1 + 1) k2) (splitV ((rotV tn A).take (k + 1))) := by
            rw [HSP.out]
            unfold oneV
            rw [if_pos hpc, show LL ++ [((px, pc).1, (px, pc).2 - 1), ((px, pc).1, 1)] = LL ++ [(px, pc - 1)] ++ [(px, 1)] by rw [List.append_assoc]; rfl]
            exact ho9
          have hlt0 : decide (ln < tn) = false := decide_eq_false (by omega)
          simp only [hlt0, Bool.or_false]
          exact ⟨_, _, .int .i64 (wrap64 ((k : Int) + 1)), _, _, _, _, _, _, _, _, _, _, _, _, _, _, _, _, _, _, _, _, _, _, _, _, _, _, _, _, _, _, _, _, _, _, _, _, _, _, _, _, ⟨k + 1, _, by omega, by rw [HWW.out], hc9, hrr, (HB5.out.trans HB8.out).trans hb9, by have := HD8.out; omega⟩, rfl⟩
        case measure => simp only [HWW.out]; simp [intOf]; omega
      · have hT := Two.new w5 (.int .i64 px) (.int .u64 pc) 52
        have HX0 := Lib.hid hT.c0
        have HX1 := Lib.hid hT.c1
        have HOA := Lib.hid (HOW5.out.call (grew_one w5 (.cells #[.int .i64 px, .int .u64 pc] 52)))
        have HBS : Hid (w2.heap.size + 1 ≤ (w5.alloc (.cells #[.int .i64 px, .int .u64 pc] 52)).heap.size) := Lib.hid (by rw [size_new]; have := HD5.out; omega)
        have HST : Hid (∀ (g1 k1 : Nat) (w6 : World), OwnV w6 (w2.heap.size + 1) (.slice (some ⟨g1, 0, none⟩) (nL + 1) k1) (LL ++ [(px, pc)]) → (w5.alloc (.cells #[.int .i64 px, .int .u64 pc] 52)).grownBy w6 (Value.slice aV nL cV).ownBlock → ((Value.slice aV nL cV).ownBlock = some g1 ∨ g1 = (w5.alloc (.cells #[.int .i64 px, .int .u64 pc] 52)).heap.size) → _) := Lib.hid (fun g1 k1 w6 h1 h2 h3 => ord_step HCD5.out HOW5.out HD5.out h1 h2 h3)
        clear hT
        go_upto_region 15 with (at_builtin; refine wpList_append_val rfl (.tmp 79) (.tmp 81) rfl (w2.heap.size + 1) _ LL nL HNL.out w5.heap.size (px, pc) rfl HOA.out rfl HX0.out HX1.out (by omega) HBS.out ?_; intro g2 k2 w9 hv2 hg2 hl2; obtain ⟨z4, zf, hP1⟩ := HST.out g2 k2 w9 hv2 hg2 hl2; have HP1 := Lib.hid hP1; clear hv2 hg2 hl2 hP1)
        obtain ⟨hc9, ho9, _, hb9, hz9⟩ := HP1.out
        clear z4 zf HST HP1 y0 y1 y4 HX0 HX1
        generalize (w9.setCell ⟨w2.heap.size, 4, none⟩ (.slice (some ⟨g2, 0, none⟩) (nL + 1) k2)) = w10 at *
        have HWW : Hid (wrap64 ((k : Int) + 1) = ((k + 1 : Nat) : Int)) := Lib.hid (by unfold wrap64; have := HUP.out; omega)
        go_wp2_with fail
        go_roundw
        case rel =>
          have hrr : OwnV w10 (w2.heap.size + 1) (.slice (some ⟨g2, 0, none⟩) (nL + 1) k2) (splitV ((rotV tn A).take (k + 1))) := by
            rw [HSP.out]
            unfold oneV
            rw [if_neg (show ¬ (1 < pc) by omega)]
            exact ho9
          exact ⟨_, _, _, ⟨k + 1, by omega, by rw [HWW.out], _, hc9, hrr, HB5.out.trans hb9, by have := HD5.out; omega⟩, rfl, rfl, rfl⟩
        case measure => simp only [HWW.out]; simp [intOf]; omega
    · obtain rfl : k = ln := by omega
      have kk : ¬ (k : Int) < k := by omega
      have hfull : (rotV tn A).take k = rotV tn A := List.take_of_length_le (by rw [rot_len, HLN.out]; exact Nat.le_refl k)
      rw [hfull] at hown
      obtain ⟨aV, cV, rfl⟩ := hown.form
      obtain ⟨L, hL⟩ : ∃ L, splitV (rotV tn A) = L := ⟨_, rfl⟩
      have hokL : ∀ p, p ∈ L → okP p := by rw [← hL]; exact split_ok (rot_ok HA.out.ok)
      have hcL : ∀ f, cntV f L = cntV f A := fun f => by rw [← hL]; exact cnt_order f tn A
      have hlL : L.length ≤ 2097152 := by rw [← hL]; have h1 := split_len (rotV tn A); rw [rot_len, HLN.out] at h1; have h2 := HUP.out; omega
      rw [hL] at hown hcd
      have hPL := hown.row hokL
      obtain ⟨nL, hnL⟩ : ∃ nL, L.length = nL := ⟨_, rfl⟩
      have HBL := Lib.hid (fun W hp => build14_any HD.out W u v sd m L aV cV wu wv ws wm hp (by omega))
      rw [hnL] at HBL hcd
      have hcr := HCS.out.call hbr
      have br := b2.trans (hbr.mono b2.size)
      have HCDr := Lib.hid hcd
      have HPLr := Lib.hid hPL
      have HTr := Lib.hid (HTP.out.call hbr)
      have HCL := Lib.hid hcL
      have hbD : w2.heap.size < wr.heap.size := by omega
      clear hcd hown hbr hPL hfull hokL hcL hL HRK HA3 HDB HB3 g4
      obtain ⟨c0, c1, c2, c3, c4⟩ := id hcr
      clear hcr
      go_wp2_with fail
      refine (HBD.out wr (HA.out.call br)).mono ?_
      rintro e w3 (⟨B, C, S, R, M, P, s, n, lo, hi, rfl, hsi, hP, hof, m1, m2, hf, hl, hsk, hrk, hsr, hn1, hn2, v100, hb3, hfar, hv5, hM⟩ | ⟨rfl, hb3⟩)
      case inr =>
        have b3 := br.trans (hb3.mono br.size)
        have hcd3 := HCDr.out.keep (hb3.block w2.heap.size hbD)
        obtain ⟨d0, d1, d2, d3, d4⟩ := id hcd3.k
        go_wp2_with fail
        refine (HBL.out w3 (HPLr.out.call hb3)).mono ?_
        rintro e w4 (⟨B', C', S', R', M', P', s', n', lo', hi', rfl, _, _, _, _, _, _, _, _, _, _, _, _, _, hb4, _, _, _⟩ | ⟨rfl, hb4⟩)
        all_goals
          have b4 := b3.trans (hb4.mono b3.size)
          go_wp2_with fail
          go_ret
          exact ⟨rfl, b4⟩
      have b3 := br.trans (hb3.mono br.size)
      have hcd3 := HCDr.out.keep (hb3.block w2.heap.size hbD)
      obtain ⟨d0, d1, d2, d3, d4⟩ := id hcd3.k
      have HT3 := Lib.hid (HTr.out.call hb3)
      have HPL3 := Lib.hid (HPLr.out.call hb3)
      have HSI := Lib.hid hsi
      have HP := Lib.hid hP
      have HOF := Lib.hid hof
      have HF := Lib.hid hf
      have HSK := Lib.hid hsk
      clear hb3 hsi hP hof hf hsk hrk hsr hfar hv5 HCDr HTr HPLr HBD c0 c1 c2 c3 c4 hcd3
      go_wp2_with fail
      refine (HBL.out w3 HPL3.out).mono ?_
      rintro e w4 (⟨B', C', S', R', M', P', s', n', lo', hi', rfl, hsi', hP', hof', _, _, hf', hl', hsk', _, _, _, _, _, hb4, _, _, _⟩ | ⟨rfl, hb4⟩)
      case inr =>
        have b4 := b3.trans (hb4.mono b3.size)
        go_wp2_with fail
        go_ret
        exact ⟨rfl, b4⟩
      obtain rfl : P' = P := pt_one hP' HP.out hof' HOF.out
      obtain rfl : s' = s := side_inj (hsi'.trans HSI.out.symm)
      have b4 := b3.trans (hb4.mono b3.size)
      have HT4 := Lib.hid (HT3.out.call hb4)
      have hsk4 := HSK.out.call HD.out hb4
      have hst : stV P' s' m L = stV P' s' m A := stv_same hP' s' m hf' HF.out (by omega) (by omega) HCL.out
      obtain ⟨r, c, hq⟩ : ∃ r c, quanA P' s' m A pa pb = (r, c) := ⟨_, _, rfl⟩
      have hqL := (quan_perm hP' s' (show 0 < m by omega) HF.out hf' (by omega) (by omega) HCL.out pa pb).trans hq
      have hsl := stv_len hP' s' m HF.out (by omega)
      have hall := stv_all hP' s' m HF.out (by omega)
      have hsum0 := (fine_sum HF.out).1
      have hsum1 := fine_fit HF.out (by omega)
      have S1 := row_sum50 hP' true HF.out (by omega)
      have S2 := row_sum50 hP' false HF.out (by omega)
      have HKO1 : Hid (∀ p, p ∈ (stV P' s' m A).k1 → okP p) := Lib.hid (keeps_ok (s := s') (m := m) S1.ok)
      have HKO2 : Hid (∀ p, p ∈ (stV P' s' m A).k2 → okP p) := Lib.hid (keeps_ok (s := s') (m := m) S2.ok)
      have hwo : Word (stV P' s' m A).all := by rw [hall]; unfold Word; omega
      have hqs := (quan_same hP' s' (show 0 < m by omega) HF.out (by omega) hsk4.e pa pb).trans hq
      have hqs' := (quan_same hP' s' (show 0 < m by omega) hf' (by omega) hsk'.e pa pb).trans hqL
      have hx' := hsk'.x
      rw [hst] at hqs' hx'
      have HQ := Lib.hid (fun W (hb : Below w4.heap.size w4 W) => kquan_any HD.out (hsk4.x.call HD.out hb) (by omega) (by omega) pa pb r c wpa wpb hwo hqs)
      have HQL := Lib.hid (fun W (hb : Below w4.heap.size w4 W) => kquan_any HD.out (hx'.call HD.out hb) (by omega) (by omega) pa pb r c wpa wpb hwo hqs')
      have HBI := Lib.hid (fun W (hb : Below w4.heap.size w4 W) => kbins_at (cell_later hb hsk4.x.cells.c4))
      have HBJ := Lib.hid (fun W (hb : Below w4.heap.size w4 W) => kbins_at (cell_later hb hx'.cells.c4))
      have HRW := Lib.hid (fun W (hb : Below w4.heap.size w4 W) => HD.out.rows W C S R P' s' m (stV P' s' m A) (HD.out.call hsk4.x.bins hb) (by omega) (by omega))
      have HRX := Lib.hid (fun W (hb : Below w4.heap.size w4 W) => HD.out.rows W C' S' R' P' s' m (stV P' s' m A) (HD.out.call hx'.bins hb) (by omega) (by omega))
      have HLO := Lib.hid (fun W (hb : Below w4.heap.size w4 W) => HD.out.lost W C S R P' s' m (stV P' s' m A) (HD.out.call hsk4.x.bins hb))
      have HLP := Lib.hid (fun W (hb : Below w4.heap.size w4 W) => HD.out.lost W C' S' R' P' s' m (stV P' s' m A) (HD.out.call hx'.bins hb))
      obtain ⟨l1, hl1⟩ : ∃ l1, (stV P' s' m A).t1 - sumP (stV P' s' m A).k1 = l1 := ⟨_, rfl⟩
      obtain ⟨l2, hl2⟩ : ∃ l2, (stV P' s' m A).t2 - sumP (stV P' s' m A).k2 = l2 := ⟨_, rfl⟩
      rw [hl1, hl2] at HLO HLP
      obtain ⟨K1, hK1⟩ : ∃ K1, (stV P' s' m A).k1 = K1 := ⟨_, rfl⟩
      obtain ⟨K2, hK2⟩ : ∃ K2, (stV P' s' m A).k2 = K2 := ⟨_, rfl⟩
      rw [hK1, hK2] at HRW HRX hsl
      rw [hK1] at HKO1
      rw [hK2] at HKO2
      have HS1 := Lib.hid (fun W x x' cx cx' (h : Pairs W x K1) (h' : Pairs W x' K1) => same_any W x x' cx cx' K1 K1 true (by simp) h h' (by omega) (by omega))
      have HS2 := Lib.hid (fun W x x' cx cx' (h : Pairs W x K2) (h' : Pairs W x' K2) => same_any W x x' cx cx' K2 K2 true (by simp) h h' (by omega) (by omega))
      obtain ⟨a1, ha1⟩ : ∃ a1 : Nat, K1.length = a1 := ⟨_, rfl⟩
      obtain ⟨a2, ha2⟩ : ∃ a2 : Nat, K2.length = a2 := ⟨_, rfl⟩
      rw [ha1] at HS1
      rw [ha2] at HS2
      have HN1 := Lib.hid ha1
      have HN2 := Lib.hid ha2
      have hrr : (r == r) = true := by simp
      have hcc : (c == c) = true := by simp
      have hl11 : (l1 == l1) = true := by simp
      have hl22 : (l2 == l2) = true := by simp
      clear hb4 hsi' hP' hof' hf' hsk' hsk4 hst hq hqL hsl hall hsum0 hsum1 S1 S2 hwo hqs hqs' hx' hl1 hl2 hK1 hK2 ha1 ha2 HSK HP HOF HF HSI HBL HPL3 HCL d0 d1 d2 d3 d4
      obtain ⟨p0, p1, _, _⟩ := id HT4.out
      go_wp2_with fail
      refine (HQ.out _ (Below.refl _ _)).mono ?_
      rintro e w5 ⟨rfl, b5⟩
      clear p0 p1
      obtain ⟨p0, p1, _, _⟩ := id (HT4.out.call b5)
      go_wp2_with fail
      refine (HQL.out _ b5).mono ?_
      rintro e w6 ⟨rfl, b6'⟩
      have b6 := b5.trans (b6'.mono b5.size)
      clear p0 p1 b5 b6'
      go_wp2_with fail
      refine (HBI.out _ b6).mono ?_
      rintro e w7 ⟨rfl, b7'⟩
      have b7 := b6.trans (b7'.mono b6.size)
      go_wp2_with fail
      refine (HRW.out _ b7).mono ?_
      rintro e w8 ⟨v1, v2, rfl, ho1, ho2, b8'⟩
      obtain ⟨x1, k1, rfl, hp1⟩ := ho1.pairs HKO1.out
      obtain ⟨x2, k2, rfl, hp2⟩ := ho2.pairs HKO2.out
      rw [HN1.out, HN2.out]
      have b8 := b7.trans (b8'.mono b7.size)
      have P1 := Lib.hid hp1
      have P2 := Lib.hid hp2
      clear hp1 hp2 ho1 ho2 HRW b6 b7 b7' b8'
      go_wp2_with fail
      refine (HBJ.out _ b8).mono ?_
      rintro e w9 ⟨rfl, b9'⟩
      have b9 := b8.trans (b9'.mono b8.size)
      have P1 := Lib.hid (P1.out.call b9')
      have P2 := Lib.hid (P2.out.call b9')
      go_wp2_with fail
      refine (HRX.out _ b9).mono ?_
      rintro e w10 ⟨v3, v4, rfl, ho3, ho4, b10'⟩
      obtain ⟨x3, k3, rfl, hp3⟩ := ho3.pairs HKO1.out
      obtain ⟨x4, k4, rfl, hp4⟩ := ho4.pairs HKO2.out
      rw [HN1.out, HN2.out]
      have b10 := b9.trans (b10'.mono b9.size)
      have P3 := Lib.hid hp3
      have P4 := Lib.hid hp4
      have P1 := Lib.hid (P1.out.call b10')
      have P2 := Lib.hid (P2.out.call b10')
      clear hp3 hp4 ho3 ho4 HRX b8 b9 b9' b10'
      go_wp2_with fail
      refine (HBI.out _ b10).mono ?_
      rintro e w11 ⟨rfl, b11'⟩
      have b11 := b10.trans (b11'.mono b10.size)
      have P1 := Lib.hid (P1.out.call b11')
      have P2 := Lib.hid (P2.out.call b11')
      have P3 := Lib.hid (P3.out.call b11')
      have P4 := Lib.hid (P4.out.call b11')
      clear b10 b11'
      go_wp2_with fail
      refine (HLO.out _ b11).mono ?_
      rintro e w12 ⟨rfl, b12'⟩
      have b12 := b11.trans (b12'.mono b11.size)
      have P1 := Lib.hid (P1.out.call b12')
      have P2 := Lib.hid (P2.out.call b12')
      have P3 := Lib.hid (P3.out.call b12')
      have P4 := Lib.hid (P4.out.call b12')
      clear b11 b12'
      go_wp2_with fail
      refine (HBJ.out _ b12).mono ?_
      rintro e w13 ⟨rfl, b13'⟩
      have b13 := b12.trans (b13'.mono b12.size)
      have P1 := Lib.hid (P1.out.call b13')
      have P2 := Lib.hid (P2.out.call b13')
      have P3 := Lib.hid (P3.out.call b13')
      have P4 := Lib.hid (P4.out.call b13')
      clear b12 b13'
      go_wp2_with fail
      refine (HLP.out _ b13).mono ?_
      rintro e w14 ⟨rfl, b14'⟩
      have b14 := b13.trans (b14'.mono b13.size)
      have P1 := Lib.hid (P1.out.call b14')
      have P2 := Lib.hid (P2.out.call b14')
      have P3 := Lib.hid (P3.out.call b14')
      have P4 := Lib.hid (P4.out.call b14')
      clear b13 b14'
      go_wp2_with fail
      refine (HS1.out _ _ _ _ _ P1.out P3.out).mono ?_
      rintro e w15 ⟨rfl, b15'⟩
      have b15 := b14.trans (b15'.mono b14.size)
      have P2 := Lib.hid (P2.out.call b15')
      have P4 := Lib.hid (P4.out.call b15')
      clear b14 b15' P1 P3
      go_wp2_with fail
      refine (HS2.out _ _ _ _ _ P2.out P4.out).mono ?_
      rintro e w16 ⟨rfl, b16'⟩
      have b16 := b15.trans (b16'.mono b15.size)
      clear b15 b16' P2 P4
      go_wp2_with fail
      go_ret
      exact ⟨rfl, b4.trans (b16.mono b4.size)⟩
end Go.Proofs.YtcijflakldggaaaGreat
