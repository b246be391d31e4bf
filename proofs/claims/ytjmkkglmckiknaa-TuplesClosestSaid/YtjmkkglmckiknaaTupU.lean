/-
  The reference of layer 18: Squeeze.
-/
import Derived.Test.YtjmkkglmckiknaaTupT
import Derived.Deep.RegionWith
import Derived.Deep.RegionLaw
namespace Go.Proofs.Ytjmkkglmckiknaa
set_option linter.unusedVariables false
set_option linter.unusedSimpArgs false
open Go.RowKit

/-- append of a row of spots, as one step of a region that draws. -/
theorem step_append_sps {w : World} {ops : Array Oper} {o : Oper} {a : Act} {K : Act → World → Prop} {Q : Exit → Act → World → Prop} {E : Prop} (hgd : o.guard = none) (s x : Operand)
    (ho : o.op = .call { callee := .builtin .append, args := #[s, x], argTypes := #[25, 25] })
    (base : Nat) (v : Value) (M : List SpotV) (A : Option Addr) (n cap : Nat) (L : List SpotV) (hs : a.eval s = v) (hown : OwnSp w base v M)
    (hx : a.eval x = .slice A n cap) (hl : L.length = n) (hsrc : Spts w A L) (hn : M.length + n ≤ 100000) (hbase : base ≤ w.heap.size)
    (h : ∀ v' w', OwnSp w' base v' (M ++ L) → w.grownBy w' v.ownBlock → K (a.put o.dst v') w') : if Region.wanted o (yielded ops a.tmps) = true then Oper.wp Try.prog o a w K Q else E := by
  have hw : Region.wanted o (yielded ops a.tmps) = true := by simp [Region.wanted, hgd]
  rw [if_pos hw]
  subst hl
  obtain ⟨i0, hi, hz0, hz1, hz2⟩ := info_parts Try.infoOwnSp
  by_cases hL : L = []
  · subst hL
    have hx' : a.eval x = .slice A 0 cap := hx
    have hrun : (Builtin.append_ #[25, 25] o.type #[v, .slice A 0 cap]).run Try.prog w = .ok v w := by
      have hl : ∀ (b : Option Addr) (n c : Nat), (Builtin.firstCells 3 0 (.slice A 0 cap)).run Try.prog w = .ok #[] w := by
        intro b n c
        cases A with
        | none => exact run_firstCells_none w 3 0 0 cap
        | some ad => exact run_firstCells_some w 3 0 ad 0 cap [] rfl (fun j v hj => by simp at hj)
      rcases hown.2 with ⟨rfl, h0⟩ | ⟨g, c2, cur, rfl, _, _, hnc, _⟩
      · rw [show (0 : Nat) = 0 from rfl] at *
        simp [Builtin.append_, run_underlying Try.underlying25, sizeOf, typeInfo, hi, hz1, Builtin.lenOf, hl none 0 0]
      · simp [Builtin.append_, run_underlying Try.underlying25, sizeOf, typeInfo, hi, hz1, Builtin.lenOf, hnc, storeCells, hl none 0 0]
    unfold Oper.wp
    simp [execOp, ho, resolve, invoke, builtin, hs, hx', hrun, Result.andThen]
    exact h v w (by rw [List.append_nil]; exact hown) (World.grownBy.refl _ _)
  · obtain ⟨p, hp⟩ : ∃ p, L[0]? = some p := by
      cases L with
      | nil => exact absurd rfl hL
      | cons p r => exact ⟨p, rfl⟩
    obtain ⟨b, off, rfl, _, _, _, _⟩ := hsrc.at_ 0 p hp
    refine wp_append_own w s x _ ho base _ i0 _ 3 24 Try.underlying25 hi hz0 hz1 hz2 rfl (by decide) v M.length (cellsSp M) hs hown ⟨b, off, none⟩ L.length cap (cellsSp L) hx (cellsSp_len L) ?_ (cellsSp_one L)
      (by unfold maxLen; omega) (by omega) hbase (fun v' w' h1 h2 _ => h v' w' ?_ h2)
    · intro j u hu
      rw [flat3]
      exact hsrc.cell j u hu
    · unfold OwnSp
      rw [cellsSp_app, List.length_append]
      exact h1

theorem step_append_spf {w : World} {ops : Array Oper} {o : Oper} {a : Act} {K : Act → World → Prop} {Q : Exit → Act → World → Prop} {E : Prop} (hgd : o.guard = none) (s x : Operand)
    (ho : o.op = .call { callee := .builtin .append, args := #[s, x], argTypes := #[25, 25] })
    (base : Nat) (v : Value) (A : Option Addr) (n cap : Nat) (L : List SpotV) (hs : a.eval s = v) (hown : OwnSp w base v [])
    (hx : a.eval x = .slice A n cap) (hl : L.length = n) (hsrc : Spts w A L) (hn : n ≤ 1000) (hbase : base ≤ w.heap.size)
    (h : ∀ A' c' w', OwnSp w' base (.slice A' n c') L → w.grownBy w' v.ownBlock → K (a.put o.dst (.slice A' n c')) w') : if Region.wanted o (yielded ops a.tmps) = true then Oper.wp Try.prog o a w K Q else E := by
  refine step_append_sps hgd s x ho base v [] A n cap L hs hown hx hl hsrc (by simp; omega) hbase fun v' w' h1 h2 => ?_
  obtain ⟨A', c', rfl⟩ := h1.form
  have e : ([] ++ L : List SpotV).length = n := hl
  rw [e] at h1 ⊢
  exact h A' c' w' h1 h2

theorem OwnSp.some_ {w : World} {base : Nat} {v : Value} {L : List SpotV} (h : OwnSp w base v L) (hn : 1 ≤ L.length) : ∃ g cap, v = .slice (some ⟨g, 0, none⟩) L.length cap ∧ base ≤ g ∧ g < w.heap.size ∧ L.length ≤ cap := by
  have h' : w.ownsRow base 44 3 v L.length (cellsSp L) := h
  rcases h'.2 with ⟨rfl, h0⟩ | ⟨g, cap, cur, rfl, hb, hg, hle, _⟩
  · omega
  · exact ⟨_, _, rfl, hb, lt_of_block hg, hle⟩
theorem OwnSp.read_ {w : World} {base : Nat} {v : Value} {L : List SpotV} (h : OwnSp w base v L) (hok : ∀ p, p ∈ L → okSp p) (hn : 1 ≤ L.length) : ∃ g off cap, v = .slice (some ⟨g, off, none⟩) L.length cap ∧ Spts w (some ⟨g, off, none⟩) L ∧ base ≤ g ∧ g < w.heap.size ∧ L.length ≤ cap := by
  obtain ⟨g, cap, rfl, h1, h2, h3⟩ := h.some_ hn
  exact ⟨g, 0, cap, rfl, h.row hok, h1, h2, h3⟩
/-- What a round has: the spots ahead, and what is left behind. -/
def restS (lim : Int) (S : List SpotV) (j : Nat) (p : SpotV) : List SpotV := S.take (j + 1) ++ sqzR lim p (S.drop (j + 1))
theorem rest_first {lim : Int} {S : List SpotV} {j : Nat} {p : SpotV} (h : S.length = j + 2) : restS lim S j p = S := by
  have hx := List.getElem?_eq_getElem (l := S) (i := j + 1) (by omega)
  have e : S.drop (j + 1) = [S[j + 1]] := by
    rw [drop_is hx, List.drop_eq_nil_of_le (by omega)]
  unfold restS
  rw [e, sqz_end, ← e, List.take_append_drop]
theorem rest_last {lim : Int} {S : List SpotV} {p : SpotV} (h : S[0]? = some p) : restS lim S 0 p = sqzS lim S := (sqzS_is h).symm
theorem rest_mem {lim : Int} {S : List SpotV} {j : Nat} {p : SpotV} : ∀ q, q ∈ restS lim S j p → q ∈ S := fun q hq => by
  unfold restS at hq
  rcases List.mem_append.1 hq with h | h
  · exact List.mem_of_mem_take h
  · exact List.mem_of_mem_drop ((sqzR_sub lim _ p).subset h)
/-- A round: the spot at j + 1 goes, or stays. -/
theorem rest_step {n lim : Int} {S : List SpotV} {j : Nat} {p s : SpotV} (hs : SpotsP 0 n S) (hp : S[j]? = some p) (hq : S[j + 1]? = some s) (hl : j + 2 < S.length) :
    ∃ q, (restS lim S (j + 1) s)[j]? = some p ∧ (restS lim S (j + 1) s)[j + 2]? = some q ∧ p.lo ≤ q.hi ∧ q.hi ≤ n ∧ (restS lim S (j + 1) s).length ≤ S.length ∧ j + 2 < (restS lim S (j + 1) s).length ∧
      restS lim S j p = if q.hi - p.lo ≤ lim then (restS lim S (j + 1) s).take (j + 1) ++ (restS lim S (j + 1) s).drop (j + 2) else restS lim S (j + 1) s := by
  have hne : S.drop (j + 2) ≠ [] := fun e => by
    have := congrArg List.length e
    rw [List.length_drop, List.length_nil] at this
    omega
  obtain ⟨q, t, e1, e2, e3⟩ := sqz_head (lim := lim) (p := s) hne
  have hlt : (S.take (j + 2)).length = j + 2 := by rw [List.length_take]; omega
  have hqS : q ∈ S := List.mem_of_mem_drop e3
  have hqb := hs.mem q hqS
  have hr : SpotsP (lastLo 0 (S.take (j + 2))) n (S.drop (j + 2)) := by
    have h' := hs
    rw [← List.take_append_drop (j + 2) S] at h'
    exact h'.right
  have h1 := hr.mem q e3
  have h2 : lastLo 0 (S.take (j + 2)) = s.lo := last_takeS hq
  have h3 := spots_at hs hq
  have h4 : lastLo 0 (S.take (j + 1)) = p.lo := last_takeS hp
  have hsl := sqz_len lim s (S.drop (j + 2))
  rw [List.length_drop] at hsl
  have hR : restS lim S (j + 1) s = S.take (j + 2) ++ (q :: t) := by unfold restS; rw [e1]
  have hlen : (q :: t).length ≤ S.length - (j + 2) := by rw [← e1]; exact hsl
  refine ⟨q, ?_, ?_, by omega, hqb.2.2, ?_, ?_, ?_⟩
  · rw [hR, List.getElem?_append_left (by omega), List.getElem?_take, if_pos (by omega)]; exact hp
  · rw [hR, List.getElem?_append_right (by omega), hlt, Nat.sub_self]; rfl
  · rw [hR, List.length_append, hlt]; omega
  · rw [hR, List.length_append, hlt, List.length_cons]; omega
  · have hst := sqz_at (lim := lim) hp hq hl
    rw [e2] at hst
    have hT1 : (restS lim S (j + 1) s).take (j + 1) = S.take (j + 1) := by
      rw [hR, List.take_append_of_le_length (by omega), List.take_take]
      congr 1; omega
    have hD1 : (restS lim S (j + 1) s).drop (j + 2) = sqzR lim s (S.drop (j + 2)) := by
      rw [hR, List.drop_append_of_le_length (by omega), List.drop_eq_nil_of_le (by omega), List.nil_append, e1]
    rw [hT1, hD1]
    unfold restS
    rw [hst]
    split
    · rfl
    · rw [snocS hq, List.append_assoc]; rfl

set_option maxRecDepth 100000 in
set_option maxHeartbeats 4000000 in
theorem rsqz18_any (w : World) (A : Option Addr) (cap : Nat) (S : List SpotV) (n lim : Int) (h : Spts w A S) (hl : S.length ≤ 200) (hs : SpotsP 0 n S) (hn : n ≤ 9223372036854775807) (hlim : Word lim) :
    Calls Try.prog 29 #[.slice A S.length cap, .int .u64 lim] w fun e w' => ∃ v, e = .returned v ∧ OwnSp w' w.heap.size v (sqzS lim S) ∧ Below w.heap.size w w' := by
  have HI := Lib.hid h
  have HS := Lib.hid hs
  have HL := Lib.hid hl
  have HNN := Lib.hid hn
  have HOK := Lib.hid h.ok
  obtain ⟨lm0, lm1⟩ := hlim
  have hO := World.ownsRow_made (base := w.heap.size) (e := 44) (size := 3) w #[] 0 (by simp) (by decide) rfl
  have HO0 : Hid (OwnSp (w.alloc (.cells #[] 44)) w.heap.size (.slice (some ⟨w.heap.size, 0, none⟩) 0 0) []) := Lib.hid hO
  have HB0 : Hid (Below w.heap.size w (w.alloc (.cells #[] 44))) := Lib.hid ((Below.refl _ _).alloc (Nat.le_refl _) _)
  clear h hs hO hn
  go_enter Try.func29, Try.ntmps29
  go_wp2_with (at_builtin; refine wpList_append_sps rfl (.tmp 7) (.tmp 8) rfl w.heap.size _ [] A cap S rfl HO0.out rfl (HI.out.call HB0.out) ?c1 ?c2 ?_)
  case c1 => simp; omega
  case c2 => exact HB0.out.size
  intro v1 w1 hown1 hg1
  have hb1 := HO0.out.below HB0.out hg1 HB0.out.size
  obtain ⟨vA, vk, rfl⟩ := hown1.form
  have HO1 := Lib.hid hown1
  have HB1 := Lib.hid hb1
  clear hown1 hb1 hg1
  by_cases hs1 : S.length ≤ 1
  · have HF : Hid (sqzS lim S = S) := Lib.hid (sqzS_short hs1)
    obtain ⟨z, hz⟩ : ∃ z, (S.length : Int) - 2 = z := ⟨_, rfl⟩
    have zw : IntKind.i64.wrap z = z := by rw [IntKind.wrap_i64]; omega
    have z1 : z < 1 := by omega
    go_wp2_with fail
    rw [hz] at *
    go_loopw [5, 6] (fun s iv wr => s = .slice vA S.length vk ∧ iv = .int .i64 z ∧ OwnSp wr w.heap.size (.slice vA S.length vk) S ∧ Below w.heap.size w wr) (fun _ _ _ => 0)
    case atStart => exact ⟨rfl, by first | rfl | rw [zw], HO1.out, HB1.out⟩
    case round =>
      obtain ⟨rfl, rfl, hown, hb2⟩ := hrel
      have HO := Lib.hid hown
      have z2 : ¬ 1 ≤ z := by omega
      clear hown hz
      go_wp2_with fail
      go_ret
      exact ⟨_, rfl, by rw [HF.out]; exact HO.out, hb2⟩
  · obtain ⟨m, hm⟩ : ∃ m, S.length = m + 2 := ⟨S.length - 2, by omega⟩
    have HM := Lib.hid hm
    have zw : IntKind.i64.wrap ((S.length : Int) - 2) = (m : Int) := by rw [IntKind.wrap_i64]; omega
    have hm2 : m < S.length := by omega
    have hx := List.getElem?_eq_getElem (l := S) (i := m) hm2
    have HST : Hid (restS lim S m S[m] = S) := Lib.hid (rest_first hm)
    have HX := Lib.hid hx
    generalize S[m] = pm at *
    clear hx hm2 hm hs1
    go_wp2_with fail
    go_loopw [5, 6] (fun s iv wr => ∃ (j : Nat) (p : SpotV), iv = .int .i64 j ∧ j ≤ m ∧ S[j]? = some p ∧ OwnSp wr w.heap.size s (restS lim S j p) ∧ Below w.heap.size w wr) (fun _ iv _ => (intOf iv).toNat)
    case atStart => exact ⟨m, pm, by first | rfl | rw [zw], Nat.le_refl _, HX.out, by rw [HST.out]; exact HO1.out, HB1.out⟩
    case round =>
      obtain ⟨j, s, rfl, hj, hsj, hown, hb2⟩ := hrel
      have HSJ := Lib.hid hsj
      have HJ := Lib.hid hj
      clear zw hsj
      by_cases hz : j = 0
      · subst hz
        have HF : Hid (restS lim S 0 s = sqzS lim S) := Lib.hid (rest_last HSJ.out)
        obtain ⟨vA', vk', rfl⟩ := hown.form
        have HO := Lib.hid hown
        clear hown
        go_wp2_with fail
        go_ret
        exact ⟨_, rfl, by rw [← HF.out]; exact HO.out, hb2⟩
      · obtain ⟨i, hi⟩ : ∃ i, j - 1 = i := ⟨_, rfl⟩
        obtain ⟨k, hk⟩ : ∃ k, j + 1 = k := ⟨_, rfl⟩
        have e1 : i + 1 = j := by omega
        have e2 : i + 2 = k := by omega
        have hil : i < S.length := by have := HM.out; omega
        obtain ⟨p, hx⟩ : ∃ p, S[i]? = some p := ⟨S[i], List.getElem?_eq_getElem hil⟩
        obtain ⟨q, r1, r2, r3, r4, r5, r6, r7⟩ := rest_step (lim := lim) HS.out hx (by rw [e1]; exact HSJ.out) (by have := HM.out; omega)
        rw [e1] at r1 r2 r5 r6 r7
        rw [e2] at r2 r6 r7
        have hrm : ∀ u, u ∈ restS lim S j s → okSp u := fun u hu => HOK.out u (rest_mem u hu)
        obtain ⟨R, hR⟩ : ∃ R, restS lim S j s = R := ⟨_, rfl⟩
        rw [hR] at r1 r2 r5 r6 r7 hown hrm
        obtain ⟨rl, hrl⟩ : ∃ l, R.length = l := ⟨_, rfl⟩
        obtain ⟨g0, off, vk', hv, hrow, hg0, hg1, hck⟩ := hown.read_ hrm (by omega)
        subst hv
        rw [hrl] at r5 r6 hown hck
        rw [hrl]
        obtain ⟨b1, o1, x1, hb1, c0, c1, c2⟩ := hrow.at_ i p r1
        obtain ⟨rfl, rfl⟩ : g0 = b1 ∧ off = o1 := by
          have := Option.some.inj x1
          exact ⟨(Addr.mk.inj this).1, (Addr.mk.inj this).2.1⟩
        obtain ⟨b1, o1, x2, hb1', d0, d1, d2⟩ := hrow.at_ k q r2
        obtain ⟨rfl, rfl⟩ : g0 = b1 ∧ off = o1 := by
          have := Option.some.inj x2
          exact ⟨(Addr.mk.inj this).1, (Addr.mk.inj this).2.1⟩
        obtain ⟨px, pl, ph⟩ := p
        obtain ⟨qx, ql, qh⟩ := q
        simp only at c0 c1 c2 d0 d1 d2 r3 r4 r7
        have hpb := spots_at HS.out hx
        simp only at hpb
        have HROW := Lib.hid hrow
        have HO := Lib.hid hown
        have HW := Lib.hid hb2
        have HRL := Lib.hid hrl
        have f1 : IntKind.i64.wrap ((j : Int) + 1) = (k : Int) := by rw [IntKind.wrap_i64]; omega
        have f2 : IntKind.i64.wrap ((j : Int) - 1) = (i : Int) := by rw [IntKind.wrap_i64]; omega
        have f3 : (k : Int) < rl := by omega
        have f4 : (i : Int) < rl := by omega
        have f5 : IntKind.u64.wrap (qh - pl) = qh - pl := by have := HNN.out; rw [IntKind.wrap_u64]; omega
        have f6 : (1 : Int) ≤ j := by omega
        by_cases hc : qh - pl ≤ lim
        · rw [if_pos hc] at r7
          have HX := Lib.hid hx
          have HN : Hid (restS lim S i ⟨px, pl, ph⟩ = R.take j ++ R.drop k) := Lib.hid r7
          have f7 : decide (qh - pl ≤ lim) = true := decide_eq_true hc
          have HII : Hid (j = i + 1) := Lib.hid e1.symm
          have HL1 : Hid ((R.take j).length = j) := Lib.hid (by rw [List.length_take]; omega)
          have HL2 : Hid ((R.drop k).length = rl - k) := Lib.hid (by rw [List.length_drop]; omega)
          have HN1 : Hid (j ≤ 1000) := Lib.hid (by omega)
          have HN2 : Hid ((R.take j).length + (rl - k) ≤ 100000) := Lib.hid (by rw [HL1.out]; omega)
          have f8 : (0 : Int) ≤ j := by omega
          have f9 : (j : Int) ≤ vk' := by omega
          have f10 : (k : Int) ≤ rl := by omega
          have f11 : ¬ vk' = k := by omega
          clear hrl hown hrow x1 x2 r7 hR c0 c2 d0 d1 r1 r2 hx hpb e1 e2 hi hk
          go_wp2_with fail
          go_quiet (fail)
          rename_i nq
          have HW2 := Lib.hid (below_drewT HW.out nq)
          have HR2 := Lib.hid (HROW.out.call (below_drewT (Below.refl _ _) nq))
          generalize wr.drewN nq = wq at *
          have bD : Below w.heap.size w (wq.drew.alloc (.cells #[] 44)) := HW2.out.drew.alloc HW2.out.size _
          have bQ : Below wq.heap.size wq (wq.drew.alloc (.cells #[] 44)) := (Below.refl _ _).drew.alloc (Nat.le_refl _) _
          have hO := World.ownsRow_made (base := w.heap.size) (e := 44) (size := 3) wq.drew #[] 0 (by have := HW2.out.size; simp; omega) (by decide) rfl
          have HE0 : Hid (OwnSp (wq.drew.alloc (.cells #[] 44)) w.heap.size (.slice (some ⟨wq.heap.size, 0, none⟩) 0 0) []) := Lib.hid hO
          have HBD := Lib.hid bD
          have HT1 := Lib.hid ((HR2.out.call bQ).take j)
          have HS1 := Lib.hid bD.size
          have HD2 : Hid (∀ w', (wq.drew.alloc (.cells #[] 44)).grownBy w' (Value.slice (some ⟨wq.heap.size, 0, none⟩) 0 0).ownBlock → Spts w' (some ⟨g0, off + k * 3, none⟩) (R.drop k) ∧ Below w.heap.size w w') := Lib.hid fun w' hg =>
            ⟨(HR2.out.call (bQ.grown hg bQ.size (fun x hx => by have := (HE0.out.lt x hx).1; have h2 : wq.heap.size = x := Option.some.inj hx; omega))).drop k, HE0.out.below HBD.out hg HBD.out.size⟩
          clear bD bQ hO hb2 hb1 hb1' hg0 hg1
          go_wp2_with fail
          go_region_law (first
            | (refine step_append_spf rfl (.tmp 32) (.tmp 35) rfl w.heap.size _ (some ⟨g0, off, none⟩) j vk' (R.take j) rfl HE0.out rfl HL1.out HT1.out HN1.out HS1.out ?_; intro A5 k5 w5 hown5 hg5; have HO5 := Lib.hid hown5; have HG5 := Lib.hid (HD2.out _ hg5); clear hown5 hg5)
            | (refine step_append_sps rfl (.tmp 36) (.tmp 40) rfl w.heap.size _ (R.take j) (some ⟨g0, off + k * 3, none⟩) (rl - k) (vk' - k) (R.drop k) rfl HO5.out rfl HL2.out HG5.out.1 HN2.out HG5.out.2.size ?_; intro v6 w6 hown6 hg6; have HO6 := Lib.hid hown6; have HB6 := Lib.hid (HO5.out.below HG5.out.2 hg6 HG5.out.2.size); clear hown6 hg6))
          go_wp2_with fail
          go_roundw
          case rel => exact ⟨i, ⟨px, pl, ph⟩, by first | rfl | (rw [f2]), by have := HII.out; have := HJ.out; omega, HX.out, by rw [HN.out]; exact HO6.out, HB6.out⟩
          case measure => have := HII.out; simp [intOf]; omega
        · rw [if_neg hc] at r7
          have HX := Lib.hid hx
          have HN : Hid (restS lim S i ⟨px, pl, ph⟩ = R) := Lib.hid r7
          have f7 : decide (qh - pl ≤ lim) = false := decide_eq_false hc
          have HII : Hid (j = i + 1) := Lib.hid e1.symm
          clear hrl hown hrow x1 x2 r7 hR c0 c2 d0 d1 r1 r2 hx hpb e1 e2 hi hk
          go_wp2_with fail
          go_quiet (fail)
          rename_i nq
          go_wp2_with fail
          go_roundw
          case rel => exact ⟨i, ⟨px, pl, ph⟩, by first | rfl | (rw [f2]), by have := HII.out; omega, HX.out, by rw [HN.out]; exact (by first | exact HO.out.call (below_drewT (Below.refl _ _) nq)), below_drewT HW.out nq⟩
          case measure => have := HII.out; simp [intOf]; omega
end Go.Proofs.Ytjmkkglmckiknaa
