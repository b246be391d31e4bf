/-
  Walk: the landed package tuples: Squeeze.
-/
import Derived.Test.YtjmkkglmckiknaaTpcK
import Derived.Test.YtjmkkglmckiknaaTpcA
namespace Go.Proofs.Ytjmkkglmckiknaa
set_option linter.unusedVariables false
set_option linter.unusedSimpArgs false
open Go.RowKit

theorem addedT_trans {w w1 w' : World} {g off : Nat} {M : List TupV} {e : Ending} (h : w.grownBy w1 (some g)) (ha : AddedVT w1 (some ⟨g, off, none⟩) M e w') : AddedVT w (some ⟨g, off, none⟩) M e w' := by
  obtain ⟨A', cap', h1, h2, h3, h4⟩ := ha
  refine ⟨A', cap', h1, h2, grown_transT h h3, ?_⟩
  rcases h4 with h4 | ⟨k, hk, hle⟩
  · exact Or.inl h4
  · exact Or.inr ⟨k, hk, Nat.le_trans h.size hle⟩
/-- A block's cells, parted at one tuple. -/
theorem slab_part {w : World} {g off cap k : Nat} {lo hi : List TupV} {q : TupV} (h : SlabT w (some ⟨g, off, none⟩) cap (lo ++ q :: hi)) (hk : lo.length = k) :
    ∃ (cs : Array Value) (P X T R : List Value), w.heap[g]? = some (.cells cs 52 (0, 0)) ∧ cs.toList = X ++ (.int .i64 q.x :: .int .u64 q.st :: .int .u64 q.sl :: T) ∧ X.length = off + k * 3 ∧ P.length = off ∧ X = P ++ cellsTu lo ∧ T = cellsTu hi ++ R ∧ off + cap * 3 = cs.size := by
  obtain ⟨cs, hg⟩ : ∃ cs, w.heap[g]? = some (.cells cs 52 (0, 0)) := by
    rcases h.blk with ⟨e, _⟩ | ⟨g', off', cs, e, hb⟩
    · cases e
    · obtain ⟨rfl, rfl, _⟩ := Addr.mk.inj (Option.some.inj e)
      exact ⟨cs, hb⟩
  have hr := h.room _ _ _ rfl hg
  have hf := h.fit
  have hc := pairs_cellsT h.pairs hg (by omega)
  have hP : (cs.toList.take off).length = off := by rw [List.length_take]; simp; omega
  refine ⟨cs, cs.toList.take off, _, _, cs.toList.drop (off + (lo ++ q :: hi).length * 3), hg, ?_, ?_, hP, rfl, rfl, hr⟩
  · rw [cellsTu_app, cellsTu_cons] at hc
    simpa [cellsTu1] using hc
  · rw [List.length_append, hP, cellsTu_len, hk]
theorem slab_ok {w : World} {A : Option Addr} {cap : Nat} {lo hi : List TupV} {q q' : TupV} (h : SlabT w A cap (lo ++ q :: hi)) (ok : okTu q') : ∀ p, p ∈ lo ++ q' :: hi → okTu p := by
  intro p hp
  rcases List.mem_append.1 hp with h1 | h1
  · exact h.pairs.ok p (List.mem_append_left _ h1)
  · rcases List.mem_cons.1 h1 with rfl | h2
    · exact ok
    · exact h.pairs.ok p (List.mem_append_right _ (List.mem_cons_of_mem _ h2))
/-- A step is written. -/
theorem SlabT.put1 {w : World} {g off cap k : Nat} {lo hi : List TupV} {q : TupV} {s : Int} (h : SlabT w (some ⟨g, off, none⟩) cap (lo ++ q :: hi)) (hk : lo.length = k) (ok : okTu ⟨q.x, s, q.sl⟩) :
    SlabT (w.setCell ⟨g, off + k * 3 + 1, none⟩ (.int .u64 s)) (some ⟨g, off, none⟩) cap (lo ++ ⟨q.x, s, q.sl⟩ :: hi) := by
  obtain ⟨cs, P, X, T, R, hg, hc, hX, hP, hXe, hTe, hr⟩ := slab_part h hk
  have hf := h.fit
  refine slab_of_cellsT (P := P) (R := R) (slab_ok h ok) (set_cells8T hg _ _) hP ?_ (by simp at hf ⊢; omega) (by simp; omega) h.capm
  rw [Array.toList_setIfInBounds, hc, List.set_append_right _ _ (by omega), show off + k * 3 + 1 - X.length = 1 by omega, hXe, hTe, cellsTu_app, cellsTu_cons]
  simp [cellsTu1]
/-- A tuple is written. -/
theorem SlabT.put3 {w : World} {g off cap k : Nat} {lo hi : List TupV} {q q' : TupV} (h : SlabT w (some ⟨g, off, none⟩) cap (lo ++ q :: hi)) (hk : lo.length = k) (ok : okTu q') :
    SlabT (w.setCells g (off + k * 3) [.int .i64 q'.x, .int .u64 q'.st, .int .u64 q'.sl]) (some ⟨g, off, none⟩) cap (lo ++ q' :: hi) := by
  obtain ⟨cs, P, X, T, R, hg, hc, hX, hP, hXe, hTe, hr⟩ := slab_part h hk
  have hf := h.fit
  have hlen : cs.toList.length = cs.size := by simp
  rw [hc] at hlen
  simp only [List.length_append, List.length_cons] at hlen
  have hone : ∀ v ∈ [Value.int .i64 q'.x, .int .u64 q'.st, .int .u64 q'.sl], v.oneCell' = true := by intro u hu; simp at hu; rcases hu with rfl | rfl | rfl <;> rfl
  rw [setCells_rowT hg (by simp; omega) hone]
  refine slab_of_cellsT (P := P) (R := R) (slab_ok h ok) (setRow_heap w g _ _ _ _ hg) hP ?_ (by simp at hf ⊢; omega) ?_ h.capm
  · rw [hc]
    have e1 : (X ++ (.int .i64 q.x :: .int .u64 q.st :: .int .u64 q.sl :: T)).take (off + k * 3) = X := by rw [← hX, List.take_left' rfl]
    have e2 : (X ++ (.int .i64 q.x :: .int .u64 q.st :: .int .u64 q.sl :: T)).drop (off + k * 3 + 3) = T := by
      rw [← hX, List.drop_append, List.drop_of_length_le (by omega), List.nil_append, show X.length + 3 - X.length = 3 by omega]
      rfl
    show (X ++ _).take _ ++ _ ++ (X ++ _).drop (off + k * 3 + 3) = _
    rw [e1, e2, hXe, hTe, cellsTu_app, cellsTu_cons]
    simp [cellsTu1]
  · have e1 : (X ++ (.int .i64 q.x :: .int .u64 q.st :: .int .u64 q.sl :: T)).length = cs.size := by simp only [List.length_append, List.length_cons]; omega
    rw [hc]
    simp only [List.size_toArray, List.length_append, List.length_take, List.length_drop, List.length_cons, List.length_nil]
    omega
theorem grown_put1 (w : World) (g o : Nat) (v : Value) : w.grownBy (w.setCell ⟨g, o, none⟩ v) (some g) :=
  ⟨rfl, rfl, rfl, by simp [World.setCell], fun k _ hr => Below.heap_setCell w _ _ k (fun e => hr (by rw [e]))⟩

/-- Where the loop stands. -/
structure SqzI (w wr : World) (g off cap n : Nat) (lim : Int) (L C : List TupV) (i kp : Nat) : Prop where
  lt : i < kp
  kn : kp < n
  len : C.length = n
  ahead : C.take (i + 1) = L.take (i + 1)
  left : C.drop kp = sqzL lim (L.drop (i + 1))
  slab : SlabT wr (some ⟨g, off, none⟩) cap C
  grown : w.grownBy wr (some g)
theorem SqzI.at_ {w wr : World} {g off cap n : Nat} {lim : Int} {L C : List TupV} {i kp : Nat} (h : SqzI w wr g off cap n lim L C i kp) (hn : L.length = n) {p : TupV} (hp : L[i]? = some p) : C[i]? = some p := by
  have e : (C.take (i + 1))[i]? = (L.take (i + 1))[i]? := by rw [h.ahead]
  rw [List.getElem?_take_of_lt (by omega), List.getElem?_take_of_lt (by omega), hp] at e
  exact e
theorem SqzI.head {w wr : World} {g off cap n : Nat} {lim : Int} {L C : List TupV} {i kp : Nat} (h : SqzI w wr g off cap n lim L C i kp) {u : TupV} {t : List TupV} (hu : sqzL lim (L.drop (i + 1)) = u :: t) : C[kp]? = some u ∧ C = C.take kp ++ u :: t := by
  have e : C.drop kp = u :: t := by rw [h.left, hu]
  constructor
  · have : (C.drop kp)[0]? = some u := by rw [e]; rfl
    rw [List.getElem?_drop] at this
    exact this
  · rw [← e, List.take_append_drop]
theorem SqzI.free {w wr : World} {g off cap n : Nat} {lim : Int} {L C : List TupV} {i kp : Nat} (h : SqzI w wr g off cap n lim L C i kp) (o : Nat) : wr.frozen? ⟨g, o, none⟩ = false := by
  rcases h.slab.blk with ⟨e, _⟩ | ⟨g', off', cs, e, hb⟩
  · cases e
  · obtain ⟨rfl, rfl, _⟩ := Addr.mk.inj (Option.some.inj e)
    exact free8T hb _
/-- A round: it goes into the next one. -/
theorem SqzI.into {w wr : World} {g off cap n : Nat} {lim : Int} {L C : List TupV} {i kp : Nat} (h : SqzI w wr g off cap n lim L C (i + 1) kp) (hn : L.length = n) {p u : TupV} {t : List TupV} (hp : L[i + 1]? = some p) (hu : sqzL lim (L.drop (i + 2)) = u :: t) (hle : p.st + u.st + u.sl ≤ lim) (ok : okTu ⟨u.x, u.st + p.st, u.sl⟩) {q : Nat} :
    SqzI w ((wr.drewN q).setCell ⟨g, off + kp * 3 + 1, none⟩ (.int .u64 (u.st + p.st))) g off cap n lim L (C.take kp ++ ⟨u.x, u.st + p.st, u.sl⟩ :: t) i kp := by
  obtain ⟨h1, h2⟩ := h.head hu
  have hlt := h.lt
  have hl : (C.take kp).length = kp := by rw [List.length_take, h.len]; have := h.kn; omega
  have hs := h.slab
  rw [h2] at hs
  have hsl := sqzL_at (lim := lim) hp
  have hlen := congrArg List.length h2
  rw [h.len, List.length_append, List.length_cons, hl] at hlen
  refine ⟨by omega, h.kn, ?_, ?_, ?_, ?_, ?_⟩
  · rw [List.length_append, List.length_cons, hl]; omega
  · rw [List.take_append_of_le_length (by omega), List.take_take, Nat.min_eq_left (by omega)]
    have := congrArg (List.take (i + 1)) h.ahead
    rw [List.take_take, List.take_take, Nat.min_eq_left (by omega)] at this
    exact this
  · rw [List.drop_left' hl, hsl, hu]
    show _ = if p.st + u.st + u.sl ≤ lim then _ else _
    rw [if_pos hle]
  · exact (hs.call (below_drewT (Below.refl _ _) q)).put1 hl ok
  · exact grown_transT (grown_callT h.grown (below_drewT (Below.refl _ _) q)) (grown_put1 _ _ _ _)
/-- A round: it stays. -/
theorem SqzI.stay {w wr : World} {g off cap n : Nat} {lim : Int} {L C : List TupV} {i kp : Nat} (h : SqzI w wr g off cap n lim L C (i + 1) (kp + 1)) (hn : L.length = n) {p u : TupV} {t : List TupV} (hp : L[i + 1]? = some p) (hu : sqzL lim (L.drop (i + 2)) = u :: t) (hle : ¬ p.st + u.st + u.sl ≤ lim) (ok : okTu p) {q : Nat} :
    SqzI w ((wr.drewN q).setCells g (off + kp * 3) [.int .i64 p.x, .int .u64 p.st, .int .u64 p.sl]) g off cap n lim L (C.take kp ++ p :: C.drop (kp + 1)) i kp := by
  obtain ⟨h1, h2⟩ := h.head hu
  have hlt := h.lt
  have hkn := h.kn
  have hl : (C.take kp).length = kp := by rw [List.length_take, h.len]; omega
  have hx : C[kp]? = some (C[kp]'(by rw [h.len]; omega)) := List.getElem?_eq_getElem _
  generalize C[kp]'(by rw [h.len]; omega) = z at hx
  have hC : C = C.take kp ++ z :: C.drop (kp + 1) := by rw [← drop_is hx, List.take_append_drop]
  have hs := h.slab
  rw [hC] at hs
  have hsl := sqzL_at (lim := lim) hp
  have hlen := congrArg List.length hC
  rw [h.len, List.length_append, List.length_cons, hl] at hlen
  refine ⟨by omega, by omega, ?_, ?_, ?_, ?_, ?_⟩
  · rw [List.length_append, List.length_cons, hl]; omega
  · rw [List.take_append_of_le_length (by omega), List.take_take, Nat.min_eq_left (by omega)]
    have := congrArg (List.take (i + 1)) h.ahead
    rw [List.take_take, List.take_take, Nat.min_eq_left (by omega)] at this
    exact this
  · rw [List.drop_left' hl, hsl, hu, h.left, hu]
    show _ = if p.st + u.st + u.sl ≤ lim then _ else _
    rw [if_neg hle]
  · exact (hs.call (below_drewT (Below.refl _ _) q)).put3 hl ok
  · refine grown_transT (grown_callT h.grown (below_drewT (Below.refl _ _) q)) ?_
    rw [show (wr.drewN q).setCells g (off + kp * 3) [.int .i64 p.x, .int .u64 p.st, .int .u64 p.sl] = (((wr.drewN q).setCell ⟨g, off + kp * 3, none⟩ (.int .i64 p.x)).setCell ⟨g, off + kp * 3 + 1, none⟩ (.int .u64 p.st)).setCell ⟨g, off + kp * 3 + 2, none⟩ (.int .u64 p.sl) from rfl]
    exact grown_transT (grown_transT (grown_put1 _ _ _ _) (grown_put1 _ _ _ _)) (grown_put1 _ _ _ _)

set_option maxRecDepth 100000 in
set_option maxHeartbeats 4000000 in
theorem tsq_slab (w : World) (g off cap n : Nat) (L : List TupV) (lim : Int) (h : SlabT w (some ⟨g, off, none⟩) cap L) (hn : L.length = n) (h3 : 3 ≤ n) (hl : n ≤ 200) (hg : GoodT L) (hlim : Word lim) :
    Calls Try.prog 19 #[.slice (some ⟨g, off, none⟩) n cap, .int .u64 lim] w (AddedVT w (some ⟨g, off, none⟩) (sqzT lim L)) := by
  have HN := Lib.hid hn
  have HG := Lib.hid hg
  have HOK := Lib.hid h.pairs.ok
  have hst : ∀ q, q ∈ L → 0 ≤ q.st := fun q hq => (h.pairs.ok q hq).2.1.1
  have HST := Lib.hid hst
  have HMX := Lib.hid hg.max
  have hcap := h.fit
  have hcm : cap ≤ 9223372036854775807 := by have h9 := h.capm; unfold maxLen at h9; omega
  have HI : Hid (SqzI w w g off cap n lim L L (n - 2) (n - 1)) := Lib.hid ⟨by omega, by omega, hn, rfl, by
      have hx := List.getElem?_eq_getElem (l := L) (i := n - 1) (by omega)
      rw [show n - 2 + 1 = n - 1 by omega, drop_is hx, List.drop_of_length_le (by omega)]; rfl, h, grown_reflT w _⟩
  obtain ⟨l0, l1⟩ := hlim
  have k1 : ¬ (n : Int) < 3 := by omega
  have k2 : decide ((n : Int) < 3) = false := decide_eq_false k1
  have k3 : IntKind.i64.wrap ((n : Int) - 1) = ((n - 1 : Nat) : Int) := by rw [IntKind.wrap_i64]; omega
  have k4 : IntKind.i64.wrap (((n - 1 : Nat) : Int) - 1) = ((n - 2 : Nat) : Int) := by rw [IntKind.wrap_i64]; omega
  have hnc : n ≤ cap := by omega
  clear h hg hst hn hcap
  go_enter Try.func19, Try.ntmps19
  go_wp2_with fail
  go_loopw [5, 6] (fun kv iv wr => ∃ (i kp : Nat) (C : List TupV), iv = .int .i64 i ∧ kv = .int .i64 kp ∧ SqzI w wr g off cap n lim L C i kp) (fun _ iv _ => (intOf iv).toNat)
  case atStart => exact ⟨n - 2, n - 1, L, rfl, rfl, HI.out⟩
  case round =>
    obtain ⟨i, kp, C, rfl, rfl, hI⟩ := hrel
    have HII := Lib.hid hI
    have lt1 := hI.lt
    have kn := hI.kn
    clear hI
    by_cases hi0 : i = 0
    · subst hi0
      have z1 : ¬ ((0 : Nat) : Int) < ((0 : Nat) : Int) := by omega
      have hsq : sqzT lim L = C.take 1 ++ C.drop kp := by rw [sqz_is, HII.out.left, HII.out.ahead]
      have HSQ := Lib.hid hsq
      clear hsq
      by_cases hk1 : kp = 1
      · subst hk1
        have hd := tdel_same wr (some ⟨g, off, none⟩) cap n 1 (by omega) hnc hcm
        have HD := Lib.hid hd
        have HF : Hid (AddedVT w (some ⟨g, off, none⟩) (sqzT lim L) (.returned (.slice (some ⟨g, off, none⟩) n cap)) wr) := Lib.hid ⟨some ⟨g, off, none⟩, cap, by rw [HSQ.out, List.take_append_drop, HII.out.len], by rw [HSQ.out, List.take_append_drop]; exact HII.out.slab, HII.out.grown, Or.inl rfl⟩
        clear hd
        go_wp2_with fail
        refine HD.out.mono ?_
        rintro e w3 ⟨rfl, rfl⟩
        go_wp2_with fail
        go_ret
        exact HF.out
      · have hd := tdel_slab wr g off cap n 1 kp C HII.out.slab HII.out.len (by omega) kn (by omega)
        have HD := Lib.hid hd
        have HF := Lib.hid (fun e w' (ha : AddedVT wr (some ⟨g, off, none⟩) (C.take 1 ++ C.drop kp) e w') => (by rw [HSQ.out]; exact addedT_trans HII.out.grown ha : AddedVT w (some ⟨g, off, none⟩) (sqzT lim L) e w'))
        clear hd
        go_wp2_with fail
        refine HD.out.mono ?_
        intro e w3 ha
        have hf := HF.out e w3 ha
        obtain ⟨A', cap', he, _⟩ := ha
        generalize (C.take 1 ++ C.drop kp).length = q at he
        subst he
        have HFF := Lib.hid hf
        clear hf
        go_wp2_with fail
        go_ret
        exact HFF.out
    · obtain ⟨j, rfl⟩ : ∃ j, i = j + 1 := ⟨i - 1, by omega⟩
      obtain ⟨i, hi⟩ : ∃ i, j + 1 = i := ⟨_, rfl⟩
      have hxk : L[j + 1]? = some (L[j + 1]'(by rw [HN.out]; omega)) := List.getElem?_eq_getElem _
      generalize L[j + 1]'(by rw [HN.out]; omega) = p at hxk
      obtain ⟨u, t, hu, q1, q2, q3, q4⟩ := sqzL_head (lim := lim) HG.out hxk (by rw [HN.out]; omega) HST.out
      have hmx := HMX.out
      have hok := HOK.out p (List.mem_of_getElem? hxk)
      obtain ⟨px, ps, pl⟩ := p
      obtain ⟨ux, us, ul⟩ := u
      obtain ⟨cu, _⟩ := HII.out.head hu
      have cp := HII.out.at_ HN.out hxk
      have hpr := HII.out.slab.pairs
      obtain ⟨b1, o1, e1, _, c0, c1, c2⟩ := hpr.at_ _ _ cp
      obtain ⟨b2, o2, e2, _, d0, d1, d2⟩ := hpr.at_ _ _ cu
      obtain ⟨rfl, rfl, _⟩ := Addr.mk.inj (Option.some.inj e1)
      obtain ⟨rfl, rfl, _⟩ := Addr.mk.inj (Option.some.inj e2)
      have hoku := hpr.ok _ (List.mem_of_getElem? cu)
      have HP := Lib.hid hxk
      have HU := Lib.hid hu
      simp only at c0 c1 c2 d0 d1 d2 q1 q2 q3 q4
      obtain ⟨⟨x0, x1⟩, ⟨s0, s1⟩, sl0, sl1⟩ := hok
      obtain ⟨⟨y0, y1⟩, ⟨v0, v1⟩, vl0, vl1⟩ := hoku
      simp only at x0 x1 s0 s1 sl0 sl1 y0 y1 v0 v1 vl0 vl1
      have hm3 : ps + us + ul ≤ 9223372036854775807 := by omega
      have a1 : IntKind.u64.wrap (ps + us) = ps + us := by rw [IntKind.wrap_u64]; omega
      have a2 : IntKind.u64.wrap (ps + us + ul) = ps + us + ul := by rw [IntKind.wrap_u64]; omega
      have a3 : IntKind.u64.wrap (us + ps) = us + ps := by rw [IntKind.wrap_u64]; omega
      have a4 : IntKind.i64.wrap ((i : Int) - 1) = (j : Int) := by rw [IntKind.wrap_i64]; omega
      have b1 : (0 : Int) < (i : Int) := by omega
      have b2 : decide ((0 : Int) < (i : Int)) = true := decide_eq_true b1
      have b3 : (i : Int) < (n : Int) := by omega
      have b4 : (kp : Int) < (n : Int) := by omega
      have HIJ := Lib.hid hi
      rw [hi] at c0 c1 c2
      rw [hi]
      clear hxk hu cu cp hpr e1 e2 hi
      by_cases hc : ps + us + ul ≤ lim
      · have f1 : decide (ps + us + ul ≤ lim) = true := decide_eq_true hc
        have f2 : wr.frozen? ⟨g, off + kp * 3 + 1, none⟩ = false := HII.out.free _
        go_wp2_with fail
        go_quiet (fail)
        go_wp2_with fail
        go_region
        go_wp2_with fail
        have okx : okTu ⟨ux, us + ps, ul⟩ := ⟨⟨y0, y1⟩, ⟨(by omega : 0 ≤ us + ps), (by omega : us + ps < 18446744073709551616)⟩, vl0, vl1⟩
        exact ⟨⟨j, kp, _, rfl, rfl, HII.out.into HN.out HP.out HU.out hc okx⟩, by have := HIJ.out; simp [intOf]; omega⟩
      · have f1 : decide (ps + us + ul ≤ lim) = false := decide_eq_false hc
        obtain ⟨m, rfl⟩ : ∃ m, kp = m + 1 := ⟨kp - 1, by omega⟩
        have hzk : C[m]? = some (C[m]'(by rw [HII.out.len]; omega)) := List.getElem?_eq_getElem _
        generalize C[m]'(by rw [HII.out.len]; omega) = z at hzk
        obtain ⟨zx, zs, zl⟩ := z
        obtain ⟨b3, o3, e3, _, g0, g1, g2⟩ := HII.out.slab.pairs.at_ _ _ hzk
        obtain ⟨rfl, rfl, _⟩ := Addr.mk.inj (Option.some.inj e3)
        simp only at g0 g1 g2
        have f2 : wr.frozen? ⟨g, off + m * 3, none⟩ = false := HII.out.free _
        have f3 : wr.frozen? ⟨g, off + m * 3 + 1, none⟩ = false := HII.out.free _
        have f4 : wr.frozen? ⟨g, off + m * 3 + 2, none⟩ = false := HII.out.free _
        obtain ⟨kp, hkp⟩ : ∃ kp, m + 1 = kp := ⟨_, rfl⟩
        have a5 : IntKind.i64.wrap ((kp : Int) - 1) = (m : Int) := by rw [IntKind.wrap_i64]; omega
        have b6 : (m : Int) < (n : Int) := by omega
        have HKP := Lib.hid hkp
        rw [hkp] at d0 d1 d2 b4
        rw [hkp]
        clear hzk e3 hkp
        go_wp2_with fail
        go_quiet (fail)
        go_wp2_with fail
        have hcc : ¬ ps + us + ul ≤ lim := by omega
        exact ⟨⟨j, m, _, rfl, rfl, HII.out.stay HN.out HP.out HU.out hcc ⟨⟨x0, x1⟩, ⟨s0, s1⟩, sl0, sl1⟩⟩, by have := HIJ.out; simp [intOf]; omega⟩

set_option maxHeartbeats 1000000 in
theorem tsqueeze_any (w : World) (base : Nat) (v : Value) (L : List TupV) (lim : Int) (hbase : base ≤ w.heap.size) (h : OwnTu w base v L) (ok : ∀ p, p ∈ L → okTu p) (hg : GoodT L) (hl : L.length ≤ 200) (hlim : Word lim) :
    Calls Try.prog 19 #[v, .int .u64 lim] w fun e w' => ∃ v', e = .returned v' ∧ OwnTu w' base v' (sqzT lim L) ∧ w.grownBy w' v.ownBlock ∧ (v'.ownBlock = v.ownBlock ∨ ∀ g, v'.ownBlock = some g → w.heap.size ≤ g) := by
  obtain ⟨A, cap, rfl, hS, hA⟩ := SlabT.of_own h ok
  obtain ⟨n, hn⟩ : ∃ n, L.length = n := ⟨_, rfl⟩
  rw [hn] at h ⊢
  by_cases h3 : 3 ≤ n
  · rcases hS.form with ⟨_, e, _⟩ | ⟨g, off, rfl⟩
    · rw [e] at hn; simp at hn; omega
    · exact (tsq_slab w g off cap n L lim hS hn h3 (by omega) hg hlim).mono fun e w' ha => own_of_addedT hbase h ha
  · have e : sqzT lim L = L := sqz_two (by omega)
    rw [e]
    have k1 : (n : Int) < 3 := by omega
    have k2 : decide ((n : Int) < 3) = true := decide_eq_true k1
    have HF := Lib.hid h
    clear hS h hg ok e hA
    go_enter Try.func19, Try.ntmps19
    go_wp2_with fail
    go_ret
    exact ⟨_, rfl, HF.out, grown_reflT w _, Or.inl rfl⟩
end Go.Proofs.Ytjmkkglmckiknaa
