/-
  Texts joined, in build order: ReqI, GwV.
-/
import Derived.Test.YtbdfmnlfdhhnjaaK4
import Derived.Laws.Shifts
import Derived.Lib.AppendZerosOnto
import Derived.Laws.OwnMore
/-
  The law ReqFair, from the contracts.
-/
namespace Go.Proofs.Ytbdfmnlfdhhnjaa
set_option linter.unusedVariables false
set_option linter.unusedSimpArgs false
open Go.RowKit

theorem sumZ_range (g : Nat → Int) (n : Nat) : sumZ ((List.range (n + 1)).map g) = sumZ ((List.range n).map g) + g n := by
  rw [List.range_succ, List.map_append, sumZ_app]
  show _ + (g n + 0) = _
  omega
theorem tow_use (B word : Int) (V : List Int) : (towQ B word V).2 = cntP B V.length [0] := play_used (coinB word) V
theorem shl_one (k n : Nat) (hk : k ≤ 8) (hn : 2 ^ k = n) : Op.shift .shl .u64 1 .i64 (k : Int) = pure (.int .u64 (n : Int)) := by
  rw [shift_shl_any _ _ _ _ (by omega)]
  have e : min (k : Int).toNat IntKind.u64.bits = k := by
    have : IntKind.u64.bits = 64 := rfl
    rw [this]; omega
  have h8 : 2 ^ k ≤ 2 ^ 8 := Nat.pow_le_pow_right (by decide) hk
  have e2 : (1 : Int) * 2 ^ k = (n : Int) := by rw [Int.one_mul, ← hn, Int.natCast_pow]; rfl
  rw [e, e2, IntKind.wrap_u64]
  congr 2
  omega

set_option maxRecDepth 100000 in
set_option maxHeartbeats 8000000 in
theorem fair21_walk {Rq : RqT} (D : RqDoes Rq) (w : World) (B : Int) (A : List PairV) (a : Option Addr) (cap : Nat) (x : Int) (hB : I64 B) (hA : Pairs w a A) (hl : A.length ≤ 140737488351232) (hx : I64 x) :
    Calls Try.prog 6 #[.int .i64 B, .slice a A.length cap, .int .i64 x] w fun e w' => e = .returned (.bool true) ∧ Below w.heap.size w w' := by
  have HD := Lib.hid D
  have HA := Lib.hid hA
  have HX := Lib.hid hx
  have HBI := Lib.hid hB
  have HAL := Lib.hid (fun W => alive21_any D W)
  have HBD := Lib.hid (fun word (hw : Word word) W hW => build21_any D W B word A a cap hB hw hW hl)
  obtain ⟨n, hn⟩ : ∃ n, A.length = n := ⟨_, rfl⟩
  rw [hn] at HBD ⊢
  have HN := Lib.hid hn
  have HB0 := Lib.hid (HBD.out 0 ⟨by decide, by decide⟩)
  clear D hA hl hx hB hn
  go_enter Try.func6, Try.ntmps6
  go_wp2_with fail
  with_reducible (refine (HAL.out _).mono ?_)
  rintro e w1 ⟨rfl, b1⟩
  have HB1 := Lib.hid b1
  clear b1
  go_wp2_with fail
  with_reducible (refine (HB0.out _ (HA.out.call HB1.out)).mono ?_)
  rintro e w2 (⟨P, S, M, hv, R, rfl, hg, hf, hq⟩ | ⟨rfl, _, hb2⟩)
  case inr =>
    have HB2 := Lib.hid (HB1.out.trans (hb2.mono HB1.out.size))
    clear hb2
    go_wp2_with fail
    go_ret
    exact ⟨rfl, HB2.out⟩
  case inl =>
  have HB2 := Lib.hid (HB1.out.trans (hq.below.mono HB1.out.size))
  have HF := Lib.hid hf
  have HG := Lib.hid hg
  obtain ⟨gb1, gb2, gb3⟩ := goodQ_iff.1 hg
  obtain ⟨V, hV⟩ : ∃ V, allG A = V := ⟨_, rfl⟩
  have HVE := Lib.hid hV
  have HPL := Lib.hid (all_lenQ HF.out.one)
  rw [hV] at HPL
  have HL : Hid ((V.length : Int) ≤ 200) := Lib.hid (by have := HPL.out; have := HF.out.sum; omega)
  have HTP := Lib.hid (fun word => tow_P (B := B) word gb3 gb1 V)
  have hrq := hq.rq
  rw [hV] at hrq
  obtain ⟨k, hk⟩ : ∃ k, cntP B V.length [0] = k := ⟨_, rfl⟩
  have HUS : Hid (∀ word, (towQ B word V).2 = k) := Lib.hid fun word => by rw [tow_use, hk]
  have HUD := Lib.hid (fun W (hb : Below w2.heap.size w2 W) => HD.out.used W P S B 0 _ _ (HD.out.call hrq hb))
  rw [HUS.out] at HUD
  have HKE := Lib.hid hk
  clear hq hf hg hV hrq hk
  go_wp2_with fail
  with_reducible (refine (HUD.out _ (Below.refl _ _)).mono ?_)
  rintro e w3 ⟨rfl, b3⟩
  have HB3 := Lib.hid (HB2.out.trans (b3.mono HB2.out.size))
  have HC3 := Lib.hid b3
  clear b3
  by_cases q1 : 8 < k
  · have q1' : (8 : Int) < k := by omega
    go_wp2_with fail
    go_ret
    exact ⟨rfl, HB3.out⟩
  have q1' : ¬ (8 : Int) < k := by omega
  have hk8 : k ≤ 8 := by omega
  obtain ⟨ways, hways⟩ : ∃ n : Nat, 2 ^ k = n := ⟨_, rfl⟩
  have hs : IntKind.u64.wrap ((2 : Int) ^ k) = (ways : Int) := by
    have h8 : 2 ^ k ≤ 2 ^ 8 := Nat.pow_le_pow_right (by decide) hk8
    have e : (2 : Int) ^ k = (ways : Int) := by rw [← hways, Int.natCast_pow]; rfl
    rw [e, IntKind.wrap_u64]; omega
  have hw256 : ways ≤ 256 := by rw [← hways]; exact Nat.pow_le_pow_right (n := 2) (by decide) hk8
  obtain ⟨r, hr⟩ : ∃ r, upV V x = r := ⟨_, rfl⟩
  have hrb := upV_bd V x
  rw [hr] at hrb
  obtain ⟨r0, r1⟩ : 0 ≤ r ∧ r ≤ 200 := by have := HL.out; omega
  have HUP := Lib.hid (fun W (hb : Below w.heap.size w W) => rup19_any W a cap A x r (HA.out.call hb) HX.out (by have := HF.out.len; omega) (by have := HF.out.sum; omega) (by rw [(where_up (ok_pos HA.out.ok) _).1, HVE.out, hr]))
  rw [HN.out] at HUP
  obtain ⟨f, hf⟩ : ∃ f : Nat → Int, (fun (w : Nat) => rankR x (towQ B (w : Int) V).1) = f := ⟨_, rfl⟩
  have HFE : Hid (∀ j : Nat, rankR x (towQ B (j : Int) V).1 = f j) := Lib.hid fun j => by rw [← hf]
  have HFB : Hid (∀ j, 0 ≤ f j ∧ f j ≤ 200) := Lib.hid fun j => by
    have h := rank_wt x (towQ B (j : Int) V).1
    rw [(HTP.out (j : Int)).wt, HFE.out] at h
    have := HL.out
    omega
  have HSUM : Hid (sumZ ((List.range ways).map f) = (ways : Int) * r) := Lib.hid (by
    have h := words_fair (B := B) x V k HKE.out (by omega)
    rw [hways, hr] at h
    rw [← h, ← hf]
    rfl)
  have HSB : Hid (∀ j, 0 ≤ sumZ ((List.range j).map f) ∧ sumZ ((List.range j).map f) ≤ 200 * j) := Lib.hid fun j => by
    induction j with
    | zero => exact ⟨Int.le_refl _, Int.le_refl _⟩
    | succ j ih =>
      rw [sumZ_range]
      have := HFB.out j
      omega
  have HWE := Lib.hid hways
  clear hrb hr hf hways hk8
  go_wp2_with fail
  with_reducible (refine (HUD.out _ HC3.out).mono ?_)
  rintro e w4 ⟨rfl, b4⟩
  have HB4 := Lib.hid (HB3.out.trans (b4.mono HB3.out.size))
  clear b4
  go_wp2_with fail
  with_reducible (refine (HUP.out _ HB4.out).mono ?_)
  rintro e w5 ⟨rfl, b5⟩
  have HB5 := Lib.hid (HB4.out.trans (b5.mono HB4.out.size))
  clear b5
  go_wp2_with fail
  go_loopg [12, 14] ways (fun g sv jv wr => ∃ (j : Nat) (s : Int), j ≤ ways ∧ g = ways - j ∧ jv = .int .u64 j ∧ sv = .int .u64 s ∧ s = sumZ ((List.range j).map f) ∧ Below w.heap.size w wr)
  case atStart => exact ⟨0, 0, Nat.zero_le _, rfl, rfl, rfl, rfl, HB5.out⟩
  case round =>
    obtain ⟨j, s, hj, hgk, rfl, rfl, hsm, hb⟩ := hrel
    have HSM := Lib.hid hsm
    have HB := Lib.hid hb
    have hsb := HSB.out j
    rw [← hsm] at hsb
    obtain ⟨s0, s1⟩ := hsb
    clear hsm hb
    by_cases hlt : j < ways
    · have kk : (j : Int) < ways := by omega
      have HBJ := Lib.hid (HBD.out (j : Int) ⟨by omega, by omega⟩ wr (HA.out.call HB.out))
      go_wp2_with fail
      with_reducible (refine HBJ.out.mono ?_)
      rintro e w6 (⟨P6, S6, M6, hv6, R6, rfl, _, _, hq6⟩ | ⟨_, hno, _⟩)
      case inr => exact absurd ⟨HG.out, HF.out⟩ hno
      case inl =>
      have HB6 := Lib.hid (HB.out.trans (hq6.below.mono HB.out.size))
      have hr6 := hq6.rq
      rw [HVE.out] at hr6
      have HU6 := Lib.hid (HD.out.used w6 P6 S6 B _ _ _ hr6)
      rw [HUS.out] at HU6
      have HR6 := Lib.hid (fun W (hb : Below w6.heap.size w6 W) => HD.out.rank W P6 S6 B _ _ _ x (HD.out.call hr6 hb) HX.out)
      rw [HFE.out] at HR6
      have z1 : ((k : Int) != (k : Int)) = false := by simp
      have z2 : (!((k : Int) == (k : Int))) = false := by simp
      obtain ⟨fj, hfj⟩ : ∃ v, f j = v := ⟨_, rfl⟩
      have hfb := HFB.out j
      rw [hfj] at HR6 hfb
      obtain ⟨f0, f1⟩ := hfb
      have HNX : Hid (s + fj = sumZ ((List.range (j + 1)).map f)) := Lib.hid (by rw [sumZ_range, ← HSM.out, hfj])
      clear hq6 hr6 HBJ hfj
      go_wp2_with fail
      with_reducible (refine HU6.out.mono ?_)
      rintro e w7 ⟨rfl, b7⟩
      have HB7 := Lib.hid (HB6.out.trans (b7.mono HB6.out.size))
      have HR7 := Lib.hid (HR6.out w7 b7)
      clear b7
      go_wp2_with fail
      with_reducible (refine HR7.out.mono ?_)
      rintro e w8 ⟨rfl, b8⟩
      have HB8 := Lib.hid (HB7.out.trans (b8.mono HB7.out.size))
      clear b8
      go_wp2_with fail
      go_roundg (ways - (j + 1))
      case measure => omega
      case rel => exact ⟨j + 1, s + fj, by omega, rfl, by first | rfl | go_num, by first | rfl | go_num, HNX.out, HB8.out⟩
    · have kk : ¬ (j : Int) < ways := by omega
      obtain rfl : j = ways := by omega
      obtain ⟨p, hp⟩ : ∃ p : Int, (j : Int) * r = p := ⟨_, rfl⟩
      have hsp : s = p := by rw [HSM.out, HSUM.out, hp]
      subst hsp
      have x1 : IntKind.u64.wrap ((j : Int) * r) = s := by rw [hp, IntKind.wrap_u64]; omega
      have x2 : (s == s) = true := by simp
      have x3 : IntKind.u64.wrap s = s := by rw [IntKind.wrap_u64]; omega
      clear hgk
      go_wp2_with fail
      go_ret
      exact ⟨rfl, HB.out⟩
end Go.Proofs.Ytbdfmnlfdhhnjaa

/-
  Rows of values of the call's own.
-/
namespace Go.Proofs.Ytbdfmnlfdhhnjaa
set_option linter.unusedVariables false
set_option linter.unusedSimpArgs false
set_option maxRecDepth 100000
open Go.RowKit

theorem own_valsG {w : World} {base : Nat} {v : Value} {L : List PairV} (h : w.ownsRow base 70 2 v L.length (cellsQ L)) (hok : ∀ p, p ∈ L → okP p) :
    ∃ A cap, v = .slice A L.length cap ∧ Pairs w A L := by
  have hh := h
  rcases h.2 with ⟨rfl, h0⟩ | ⟨g, cap, cur, rfl, _, hg, _⟩
  · have e : L = [] := List.eq_nil_of_length_eq_zero h0
    subst e
    exact ⟨none, 0, rfl, hok, fun i p hi => by simp at hi⟩
  · refine ⟨some ⟨g, 0, none⟩, cap, rfl, hok, fun i p hi => ?_⟩
    have hc := hh.cells (g := g) rfl
    obtain ⟨c0, c1⟩ := cellsQ_at L i p hi
    refine ⟨g, 0, rfl, lt_of_block hg, ?_, ?_⟩
    · rw [← add_flat]; exact hc _ _ c0
    · rw [Nat.add_assoc, ← add_flat]; exact hc _ _ c1
theorem Try.infoValG : (Try.prog.info? 70).map (fun i => (i.zero, i.size, i.bytes)) = some (some (.agg #[.int .i64 0, .int .u64 0]), 2, 16) := by kernel_rfl
def OwnVG (w : World) (base : Nat) (v : Value) (L : List PairV) : Prop := w.ownsRow base 70 2 v L.length (cellsQ L)
theorem OwnVG.nil (w : World) (base : Nat) : OwnVG w base (.slice none 0 0) [] := World.ownsRow_nil _ _ _ _
theorem OwnVG.call {w w' : World} {base : Nat} {v : Value} {L : List PairV} (h : OwnVG w base v L) (hb : Below w.heap.size w w') : OwnVG w' base v L :=
  World.ownsRow.kept (row := none) h ⟨hb.os, hb.tape, hb.output, hb.size, fun i hi _ => hb.block i hi⟩ (by cases v.ownBlock <;> simp)
theorem OwnVG.pairs {w : World} {base : Nat} {v : Value} {L : List PairV} (h : OwnVG w base v L) (hok : ∀ p, p ∈ L → okP p) : ∃ A cap, v = .slice A L.length cap ∧ Pairs w A L := own_valsG h hok
theorem OwnVG.lt {w : World} {base : Nat} {v : Value} {L : List PairV} (h : OwnVG w base v L) : ∀ k, v.ownBlock = some k → base ≤ k ∧ k < w.heap.size := World.ownsRow.lt h

theorem OwnVG.form {w : World} {base : Nat} {v : Value} {L : List PairV} (h : OwnVG w base v L) : ∃ A cap, v = .slice A L.length cap := by
  have h' : w.ownsRow base 70 2 v L.length (cellsQ L) := h
  rcases h'.2 with ⟨rfl, h0⟩ | ⟨g, cap, cur, rfl, _⟩
  · exact ⟨none, 0, by rw [h0]⟩
  · exact ⟨_, _, rfl⟩
/-- Appending a whole row of pairs, a nil one too, to one of the call's own. -/
theorem wpList_append_valsG {w : World} {ops : Array Oper} {rest : List Oper} {o : Oper} {a : Act} {Q : Exit → Act → World → Prop} (hgd : o.guard = none) (s x : Operand)
    (ho : o.op = .call { callee := .builtin .append, args := #[s, x], argTypes := #[25, 25] })
    (base : Nat) (v : Value) (M : List PairV) (A : Option Addr) (cap : Nat) (L : List PairV) (hs : a.eval s = v) (hown : OwnVG w base v M)
    (hx : a.eval x = .slice A L.length cap) (hsrc : Pairs w A L) (hn : M.length + L.length ≤ 100000) (hbase : base ≤ w.heap.size)
    (h : ∀ v' w', OwnVG w' base v' (M ++ L) → w.grownBy w' v.ownBlock → wpList Try.prog ops Q rest (a.put o.dst v') w') : wpList Try.prog ops Q (o :: rest) a w := by
  obtain ⟨i0, hi, hz0, hz1, hz2⟩ := info_parts Try.infoValG
  by_cases hL : L = []
  · subst hL
    have hx' : a.eval x = .slice A 0 cap := hx
    have hrun : (Builtin.append_ #[25, 25] o.type #[v, .slice A 0 cap]).run Try.prog w = .ok v w := by
      have hl : ∀ (b : Option Addr) (n c : Nat), (Builtin.firstCells 2 0 (.slice A 0 cap)).run Try.prog w = .ok #[] w := by
        intro b n c
        cases A with
        | none => exact run_firstCells_none w 2 0 0 cap
        | some ad => exact run_firstCells_some w 2 0 ad 0 cap [] rfl (fun j v hj => by simp at hj)
      rcases hown.2 with ⟨rfl, h0⟩ | ⟨g, c2, cur, rfl, _, _, hnc, _⟩
      · rw [show (0 : Nat) = 0 from rfl] at *
        simp [Builtin.append_, run_underlying Try.underlying25, sizeOf, typeInfo, hi, hz1, Builtin.lenOf, hl none 0 0]
      · simp [Builtin.append_, run_underlying Try.underlying25, sizeOf, typeInfo, hi, hz1, Builtin.lenOf, hnc, storeCells, hl none 0 0]
    refine wpList_plain hgd fun K hK => ?_
    unfold Oper.wp
    simp [execOp, ho, resolve, invoke, builtin, hs, hx', hrun, Result.andThen]
    exact hK _ _ (h v w (by rw [List.append_nil]; exact hown) (World.grownBy.refl _ _))
  · obtain ⟨p, hp⟩ : ∃ p, L[0]? = some p := by
      cases L with
      | nil => exact absurd rfl hL
      | cons p r => exact ⟨p, rfl⟩
    obtain ⟨b, off, rfl, _, _, _⟩ := hsrc.at_ 0 p hp
    refine wpList_append_own w hgd s x _ ho base _ i0 _ 2 16 Try.underlying25 hi hz0 hz1 hz2 rfl (by decide) v M.length (cellsQ M) hs hown ⟨b, off, none⟩ L.length cap (cellsQ L) hx (cellsQ_len L) ?_ (cellsQ_one L)
      (by unfold maxLen; omega) (by omega) hbase (fun v' w' h1 h2 _ => h v' w' ?_ h2)
    · intro j u hu
      rw [add_flat]
      have hj : j < L.length * 2 := by
        rcases Nat.lt_or_ge j (L.length * 2) with h1 | h1
        · exact h1
        · rw [List.getElem?_eq_none (by rw [cellsQ_len]; exact h1)] at hu; cases hu
      have hq := List.getElem?_eq_getElem (l := L) (i := j / 2) (by omega)
      obtain ⟨b', off', e, _, c0, c1⟩ := hsrc.at_ (j / 2) _ hq
      obtain ⟨rfl, rfl⟩ : b = b' ∧ off = off' := by
        have := Option.some.inj e
        exact ⟨(Addr.mk.inj this).1, (Addr.mk.inj this).2.1⟩
      obtain ⟨q0, q1⟩ := cellsQ_at L (j / 2) _ hq
      rcases Nat.mod_two_eq_zero_or_one j with h2 | h2
      · have e1 : j / 2 * 2 = j := by omega
        rw [e1] at q0 c0; rw [q0] at hu; rw [c0, ← Option.some.inj hu]
      · have e1 : j / 2 * 2 + 1 = j := by omega
        rw [Nat.add_assoc, e1] at c1; rw [e1] at q1; rw [q1] at hu; rw [c1, ← Option.some.inj hu]
    · unfold OwnVG
      rw [cellsQ_app, List.length_append]
      exact h1


theorem OwnVG.below {a w w' : World} {base : Nat} {v : Value} {L : List PairV} (h : OwnVG w base v L) (hb : Below base a w) (hg : w.grownBy w' v.ownBlock) (hs : base ≤ w.heap.size) : Below base a w' := hb.grown hg hs (fun k hk => (h.lt k hk).1)

theorem OwnVG.lies {w : World} {base n cap : Nat} {a : Option Addr} {L : List PairV} (h : OwnVG w base (.slice a n cap) L) : ∀ (i : Nat) (p : PairV), L[i]? = some p → ∃ b off, a = some ⟨b, off, none⟩ ∧ base ≤ b := by
  intro i p hi
  have h' : w.ownsRow base 70 2 (.slice a n cap) L.length (cellsQ L) := h
  rcases h'.2 with ⟨_, h0⟩ | ⟨g, cap, cur, e, hb, _⟩
  · have : L = [] := List.eq_nil_of_length_eq_zero h0
    rw [this] at hi; simp at hi
  · injection e with e1 e2 e3
    exact ⟨g, 0, e1, hb⟩
theorem OwnVG.row {w : World} {base n cap : Nat} {a : Option Addr} {L : List PairV} (h : OwnVG w base (.slice a n cap) L) (hok : ∀ p, p ∈ L → okP p) : Pairs w a L := by
  obtain ⟨a', c', e, hP⟩ := h.pairs hok
  injection e with e1 e2 e3
  rw [e1]; exact hP
end Go.Proofs.Ytbdfmnlfdhhnjaa
