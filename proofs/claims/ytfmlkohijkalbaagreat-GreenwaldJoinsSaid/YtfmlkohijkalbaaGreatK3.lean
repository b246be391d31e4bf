/-
  Texts joined, in build order: GwcD, GwcE, GwcL, TpcM, TpcA, ShelfS, TpcB, TpcI, TpcJ, TpcK, TpcL.
-/
import Derived.Test.YtfmlkohijkalbaaGreatK2
import Derived.Shelf.SlicesG.Turned
import Derived.Deep.RegionLaw
import Derived.Shelf.SlicesQ.IndexFunc
import Derived.Deep.RegionHeld3
import Derived.Lib.SmallJoins
import Derived.Shelf.SlSorted.Search
import Derived.Test.YtfmlkohijkalbaaGreatProg
import Derived.Deep.QuietTactic
import Derived.BigQuiet
import Derived.Lib.AppendZerosOnto
import Derived.Lib.JoinLaws
import Derived.Lib.Overlaps
import Derived.Laws.CopyRow
import Derived.Laws.NewBlocks
import Derived.Shelf.Spec.SlicesInsertGrow
import Derived.Deep.RegionWith
/-
  The landed package greenwald: Quantile, Rank, Ends.
-/
namespace Go.Proofs.YtfmlkohijkalbaaGreat
set_option linter.unusedVariables false
set_option linter.unusedSimpArgs false
open Go.RowKit

theorem fold_max : ∀ (L : List Int) (b : Int), (L.foldl max b = b ∨ L.foldl max b ∈ L) ∧ b ≤ L.foldl max b ∧ ∀ x, x ∈ L → x ≤ L.foldl max b
  | [], b => ⟨Or.inl rfl, Int.le_refl _, fun x h => (by cases h)⟩
  | y :: r, b => by
    obtain ⟨h1, h2, h3⟩ := fold_max r (max b y)
    rw [List.foldl_cons]
    refine ⟨?_, by omega, fun x hx => ?_⟩
    · rcases h1 with e | e
      · rcases Int.le_total b y with c | c
        · rw [e, Int.max_eq_right c]; exact Or.inr List.mem_cons_self
        · rw [e, Int.max_eq_left c]; exact Or.inl rfl
      · exact Or.inr (List.mem_cons_of_mem _ e)
    · rcases List.mem_cons.1 hx with e | e
      · omega
      · exact h3 x e
theorem fold_min : ∀ (L : List Int) (b : Int), (L.foldl min b = b ∨ L.foldl min b ∈ L) ∧ L.foldl min b ≤ b ∧ ∀ x, x ∈ L → L.foldl min b ≤ x
  | [], b => ⟨Or.inl rfl, Int.le_refl _, fun x h => (by cases h)⟩
  | y :: r, b => by
    obtain ⟨h1, h2, h3⟩ := fold_min r (min b y)
    rw [List.foldl_cons]
    refine ⟨?_, by omega, fun x hx => ?_⟩
    · rcases h1 with e | e
      · rcases Int.le_total b y with c | c
        · rw [e, Int.min_eq_left c]; exact Or.inl rfl
        · rw [e, Int.min_eq_right c]; exact Or.inr List.mem_cons_self
      · exact Or.inr (List.mem_cons_of_mem _ e)
    · rcases List.mem_cons.1 hx with e | e
      · omega
      · exact h3 x e
theorem maxOf_is {L : List Int} (h : L ≠ []) : Lib.maxOf L ∈ L ∧ ∀ x, x ∈ L → x ≤ Lib.maxOf L := by
  cases L with
  | nil => exact absurd rfl h
  | cons a r =>
    obtain ⟨h1, h2, h3⟩ := fold_max (a :: r) a
    refine ⟨?_, h3⟩
    rcases h1 with e | e
    · unfold Lib.maxOf; rw [show (a :: r).headD 0 = a from rfl, e]; exact List.mem_cons_self
    · exact e
theorem minOf_is {L : List Int} (h : L ≠ []) : Lib.minOf L ∈ L ∧ ∀ x, x ∈ L → Lib.minOf L ≤ x := by
  cases L with
  | nil => exact absurd rfl h
  | cons a r =>
    obtain ⟨h1, h2, h3⟩ := fold_min (a :: r) a
    refine ⟨?_, h3⟩
    rcases h1 with e | e
    · unfold Lib.minOf; rw [show (a :: r).headD 0 = a from rfl, e]; exact List.mem_cons_self
    · exact e
theorem Nums.all_ {w : World} {A : Option Addr} {L : List Int} (h : Nums w A L) (hne : L ≠ []) : ∃ b off, A = some ⟨b, off, none⟩ ∧ ∀ j, j < L.length → w.cell? ⟨b, off + j, none⟩ = some (.int .i64 (L.getD j 0)) := by
  obtain ⟨p, hp⟩ : ∃ p, L[0]? = some p := by
    cases L with
    | nil => exact absurd rfl hne
    | cons p r => exact ⟨p, rfl⟩
  obtain ⟨b, off, rfl, _, _⟩ := h.at_ 0 p hp
  refine ⟨b, off, rfl, fun j hj => ?_⟩
  have hj2 := List.getElem?_eq_getElem hj
  obtain ⟨b', off', e, _, c0⟩ := h.at_ j _ hj2
  obtain ⟨rfl, rfl, _⟩ := Addr.mk.inj (Option.some.inj e)
  rw [c0]
  simp [List.getD, hj2]
theorem min_nums {w : World} {A : Option Addr} {n cap : Nat} {L : List Int} (h : Nums w A L) (hn : L.length = n) (hne : L ≠ []) (hl : n ≤ 100000) :
    Calls Tryz.prog 36 #[.slice A n cap] w fun e w' => ∃ m, e = .returned (.int .i64 m) ∧ m ∈ L ∧ (∀ x, x ∈ L → m ≤ x) ∧ w = w' := by
  subst hn
  obtain ⟨b, off, rfl, hc⟩ := h.all_ hne
  have hp : 0 < L.length := List.length_pos_iff.2 hne
  have hC := AnyG.slices_Min_int Tryz.minG b off L.length cap L w hp (Nat.le_refl _) (by omega) hc
  change Calls Tryz.prog 36 _ _ _ at hC
  refine hC.mono ?_
  rintro e w' ⟨rfl, rfl⟩
  rw [List.take_length]
  exact ⟨_, rfl, (minOf_is hne).1, (minOf_is hne).2, rfl⟩
theorem max_nums {w : World} {A : Option Addr} {n cap : Nat} {L : List Int} (h : Nums w A L) (hn : L.length = n) (hne : L ≠ []) (hl : n ≤ 100000) :
    Calls Tryz.prog 37 #[.slice A n cap] w fun e w' => ∃ m, e = .returned (.int .i64 m) ∧ m ∈ L ∧ (∀ x, x ∈ L → x ≤ m) ∧ w = w' := by
  subst hn
  obtain ⟨b, off, rfl, hc⟩ := h.all_ hne
  have hp : 0 < L.length := List.length_pos_iff.2 hne
  have hC := AnyG.slices_Max_int Tryz.maxG b off L.length cap L w hp (Nat.le_refl _) (by omega) hc
  change Calls Tryz.prog 37 _ _ _ at hC
  refine hC.mono ?_
  rintro e w' ⟨rfl, rfl⟩
  rw [List.take_length]
  exact ⟨_, rfl, (maxOf_is hne).1, (maxOf_is hne).2, rfl⟩
theorem OkX.zero {s : GwV} (h : OkX s) (hz : totG s = 0) : s.1 = [] ∧ s.2 = [] := by
  have h1 := h.le
  unfold totG at hz
  have e2 : s.2 = [] := List.eq_nil_of_length_eq_zero (by omega)
  refine ⟨?_, e2⟩
  have hc := h.can
  cases hS : s.1 with
  | nil => rfl
  | cons q r =>
    have := hc.mem q (by rw [hS]; exact List.mem_cons_self)
    omega
theorem plE_nn (a b n : Int) : 0 ≤ plE a b n ∧ plE a b n ≤ 5 := by
  unfold plE
  split
  · split <;> omega
  · omega
theorem find_nearG (t : Int) (S : List SpotV) : findX t (rowT 0 S) = nearX t S := by unfold findX nearX; rw [spots_row]; rfl

set_option maxHeartbeats 400000 in
theorem gw_quan_nil (w : World) (pa pb : Int) : Calls Tryz.prog 14 #[.pointer none, .agg #[.int .u64 pa, .int .u64 pb]] w fun e w' => e = .returned (.tuple #[.int .i64 0, .int .i64 2]) ∧ Below w.heap.size w w' := by
  go_enter Tryz.func14, Tryz.ntmps14
  go_wp2_with fail
  go_ret2
  exact ⟨rfl, (Below.refl _ _).alloc (Nat.le_refl _) _⟩

set_option maxRecDepth 100000 in
set_option maxHeartbeats 4000000 in
theorem gw_quan (T : TupDoes) {w : World} {B : Nat} {u v n pa pb : Int} {vr vw : Value} {s : GwV} (h : GwRaw w B u v vr vw s.1 s.2 n) (ok : OkX s) (hn : totG s = n) (ha : GoodA u v) (wa : Word pa) (wb : Word pb) :
    Calls Tryz.prog 14 #[.pointer (some ⟨B, 0, none⟩), .agg #[.int .u64 pa, .int .u64 pb]] w fun e w' => e = .returned (.tuple #[.int .i64 (quanW u v pa pb s).1, .int .i64 (quanW u v pa pb s).2]) ∧ LeftX w B u v vr vw (leftW u v pa pb s).1 (leftW u v pa pb s).2 n w' := by
  have hnw : Word n := by rw [← hn]; unfold Word; have := ok.le; have := ok.tot; omega
  obtain ⟨t, ht⟩ : ∃ t, plV pa pb n = t := ⟨_, rfl⟩
  obtain ⟨er, her⟩ : ∃ e, plE pa pb n = e := ⟨_, rfl⟩
  obtain ⟨qx, hqx⟩ : ∃ x, (quanW u v pa pb s).1 = x := ⟨_, rfl⟩
  obtain ⟨qe, hqe⟩ : ∃ x, (quanW u v pa pb s).2 = x := ⟨_, rfl⟩
  obtain ⟨lf, hlf⟩ : ∃ x, leftW u v pa pb s = x := ⟨_, rfl⟩
  rw [hqx, hqe, hlf]
  obtain ⟨er0, _⟩ := plE_nn pa pb n
  rw [her] at er0
  have HQX : Hid (qx = if 0 < er then 0 else nearX t (flushG u v s).1) := Lib.hid (by rw [← hqx]; unfold quanW; rw [hn, her, ht]; split <;> rfl)
  have HQE : Hid (qe = if 0 < er then er else 0) := Lib.hid (by rw [← hqe]; unfold quanW; rw [hn, her, ht]; split <;> rfl)
  have HLF : Hid (lf = if 0 < er then s else flushG u v s) := Lib.hid (by rw [← hlf]; unfold leftW; rw [hn, her])
  have CP := Lib.hid (fun W => place_any pa pb n wa wb hnw W)
  have HPW := Lib.hid (pl_word (a := pa) (b := pb) (n := n) wa wb hnw)
  rw [ht, her] at CP
  rw [ht] at HPW
  obtain ⟨w0, hw0⟩ : ∃ w0, w.alloc (.cells #[.int .u64 pa, .int .u64 pb] 24) = w0 := ⟨_, rfl⟩
  have hb0 : Below w.heap.size w w0 := by rw [← hw0]; exact (Below.refl _ _).alloc (Nat.le_refl _) _
  have htw : Two w0 w.heap.size (.int .u64 pa) (.int .u64 pb) := by rw [← hw0]; exact Two.new w _ _ _
  have HB0 := Lib.hid hb0
  have HR := Lib.hid h
  have HR0 := Lib.hid (h.call hb0)
  have CF := Lib.hid (fun W (hb : Below w.heap.size w W) => gw_flush T (h.call hb) ok hn ha)
  have HS := Lib.hid (OkX.flush (u := u) (v := v) ok)
  have c4 := HR0.out.c4
  have p0 := htw.c0
  have p1 := htw.c1
  have hBl := HR.out.lt
  have hBn : ¬ w.heap.size = B := by omega
  clear h ok hn ha hnw ht her hqx hqe hlf hb0 htw wa wb
  go_enter Tryz.func14, Tryz.ntmps14
  go_wp2_with fail
  go_region_with (go_at_call 39; refine (CP.out _).mono ?_; rintro e wA ⟨rfl, hbA⟩)
  all_goals
    have hb1 : Below w.heap.size w wA := by first | exact HB0.out.trans (hbA.mono HB0.out.size) | exact HB0.out.trans ((show Below w0.heap.size w0 wA from (Below.refl _ _).drew.trans hbA).mono HB0.out.size)
    have HB1 := Lib.hid hb1
    clear hbA hb1
    by_cases hpos : 0 < er
    · have f1 : (er != 0) = true := by simp; omega
      have HX := HQX.out
      have HE := HQE.out
      have HL := HLF.out
      rw [if_pos hpos] at HX HE HL
      have HXX := Lib.hid HX
      have HEE := Lib.hid HE
      have HF : Hid (LeftX w B u v vr vw lf.1 lf.2 n wA) := Lib.hid (by rw [HL]; exact ⟨vr, vw, HR.out.call HB1.out, Keeps.of_below HB1.out, fun k hk => Or.inl hk⟩)
      clear HX HE HL
      go_wp2_with fail
      go_ret2
      exact ⟨ret_quan HXX.out.symm HEE.out.symm, HF.out⟩
    · obtain rfl : er = 0 := by omega
      have HX := HQX.out
      have HE := HQE.out
      have HL := HLF.out
      rw [if_neg hpos] at HX HE HL
      have HXX := Lib.hid HX
      have HEE := Lib.hid HE
      have HLL := Lib.hid HL
      have CFA := Lib.hid (CF.out wA HB1.out)
      clear HX HE HL hpos
      go_wp2_with fail
      refine CFA.out.mono ?_
      rintro e w3 ⟨rfl, vr3, vw3, hr3, hk3, hb3⟩
      have hFok := HS.out.1
      have htot : totS (flushG u v s).1 ≤ 9223372036854775807 := by have := hFok.le; have := hFok.tot; omega
      obtain ⟨A3, c3, rfl, hT3⟩ := hr3.row.rows (row_okX hFok.can htot hFok.sp)
      have CT := Lib.hid (T.find w3 A3 c3 (rowT 0 (flushG u v s).1) t hT3 (by rw [row_len]; have := hFok.sl; omega) (row_goodX hFok.can htot hFok.first) HPW.out)
      rw [find_nearG, ← HXX.out] at CT
      have HL3 := Lib.hid (fun W (hb : Below w3.heap.size w3 W) => (⟨_, vw3, hr3.call hb, keeps_then (keeps_then (Keeps.of_below (S := rgS B vr vw) HB1.out) hk3 fun k _ h => h) (Keeps.of_below (S := rgS B vr vw) hb) (fun k _ h => h), fun k hk => (hb3 k hk).imp id fun h => Nat.le_trans HB1.out.size h⟩ : LeftX w B u v vr vw (flushG u v s).1 (flushG u v s).2 n W))
      rw [← HLL.out] at HL3
      have q2 := hr3.c2
      obtain ⟨n3, hn3⟩ : ∃ x, (rowT 0 (flushG u v s).1).length = x := ⟨_, rfl⟩
      obtain ⟨bb, hbb⟩ : ∃ x, (!(rowT 0 (flushG u v s).1).isEmpty) = x := ⟨_, rfl⟩
      rw [hn3] at q2
      rw [hn3, hbb] at CT
      clear hr3 hk3 hb3 hFok hT3 hn3 htot hbb
      go_wp2_with fail
      refine CT.out.mono ?_
      rintro e w4 ⟨rfl, hb4⟩
      have HF := Lib.hid (HL3.out w4 hb4)
      clear hb4
      go_wp2_with fail
      go_ret2
      exact ⟨ret_quan rfl HEE.out.symm, HF.out⟩

set_option maxHeartbeats 400000 in
theorem gw_ends_nil (w : World) : Calls Tryz.prog 9 #[.pointer none] w fun e w' => e = .returned (.tuple #[.int .i64 0, .int .i64 0, .bool false]) ∧ Below w.heap.size w w' := by
  have HT := Lib.hid (gw_total_nil w)
  go_enter Tryz.func9, Tryz.ntmps9
  go_wp2_with fail
  refine HT.out.mono ?_
  rintro e w1 ⟨rfl, hb⟩
  have HB := Lib.hid hb
  clear hb
  go_wp2_with fail
  refine bodyPost_ret (v := .tuple #[.int .i64 0, .int .i64 0, .bool false]) (by simp [results, Tryz.results9, go_sem]) rfl ⟨rfl, HB.out⟩
end Go.Proofs.YtfmlkohijkalbaaGreat

/-
  The landed package greenwald: Ends.
-/
namespace Go.Proofs.YtfmlkohijkalbaaGreat
set_option linter.unusedVariables false
set_option linter.unusedSimpArgs false
open Go.RowKit

theorem xs_row (S : List SpotV) : ∀ (a : Int), (rowT a S).map TupV.x = xsS S := by
  induction S with
  | nil => intro a; rfl
  | cons s r ih => intro a; unfold rowT xsS; rw [List.map_cons, List.map_cons]; congr 1; exact ih s.lo
/-- The first and the last tuple of a row, as its spots have them. -/
theorem row_at {S : List SpotV} {i : Nat} {p : TupV} (h : (rowT 0 S)[i]? = some p) : ∃ s, S[i]? = some s ∧ s.x = p.x := by
  have e := congrArg (fun L => L[i]?) (xs_row S 0)
  simp only [List.getElem?_map] at e
  unfold xsS at e
  rw [h, List.getElem?_map] at e
  cases hS : S[i]? with
  | none => rw [hS] at e; cases e
  | some s => rw [hS] at e; exact ⟨s, rfl, (Option.some.inj e).symm⟩
theorem two_nums {W : World} {g : Nat} {x y : Int} (hx : I64 x) (hy : I64 y) (h : W.cell? ⟨g, 0, none⟩ = some (.int .i64 x)) (h1 : W.cell? ⟨g, 1, none⟩ = some (.int .i64 y)) : Nums W (some ⟨g, 0, none⟩) [x, y] :=
  ⟨fun p hp => by
    rcases List.mem_cons.1 hp with e | e
    · rw [e]; exact hx
    · rw [List.mem_singleton.1 e]; exact hy, fun i p hi => by
    match i, hi with
    | 0, hi =>
      have e : x = p := Option.some.inj hi
      subst e
      exact ⟨g, 0, rfl, World.block_lt_of_cell? (a := ⟨g, 0, none⟩) W h, h⟩
    | 1, hi =>
      have e : y = p := Option.some.inj hi
      subst e
      exact ⟨g, 0, rfl, World.block_lt_of_cell? (a := ⟨g, 0, none⟩) W h, h1⟩⟩

set_option maxRecDepth 100000 in
set_option maxHeartbeats 4000000 in
theorem gw_ends {w : World} {B : Nat} {u v n ex ey : Int} {ez : Bool} {vr vw : Value} {s : GwV} (h : GwRaw w B u v vr vw s.1 s.2 n) (ok : OkX s) (hn : totG s = n) (he : EndG s (ex, ey, ez)) :
    Calls Tryz.prog 9 #[.pointer (some ⟨B, 0, none⟩)] w fun e w' => e = .returned (.tuple #[.int .i64 ex, .int .i64 ey, .bool ez]) ∧ Below w.heap.size w w' := by
  have HT := Lib.hid (gw_total h.c4)
  have htot : totS s.1 ≤ 9223372036854775807 := by have := ok.le; have := ok.tot; omega
  by_cases hz : n = 0
  · obtain ⟨e1, e2⟩ := ok.zero (by rw [hn]; exact hz)
    have e3 : ex = 0 ∧ ey = 0 ∧ ez = false := by
      rcases he with ⟨_, h2⟩ | ⟨h1, _⟩
      · obtain ⟨a, b⟩ := Prod.mk.inj h2
        obtain ⟨b, c⟩ := Prod.mk.inj b
        exact ⟨a, b, c⟩
      · rw [e1, e2] at h1; cases h1
    obtain ⟨rfl, rfl, rfl⟩ := e3
    subst hz
    clear h ok hn he e1 e2 htot
    go_enter Tryz.func9, Tryz.ntmps9
    go_wp2_with fail
    refine HT.out.mono ?_
    rintro e w1 ⟨rfl, hb⟩
    have HB := Lib.hid hb
    clear hb
    go_wp2_with fail
    refine bodyPost_ret (v := .tuple #[.int .i64 0, .int .i64 0, .bool false]) (by simp [results, Tryz.results9, go_sem]) rfl ⟨rfl, HB.out⟩
  · have e0 : (n == 0) = false := by simp [hz]
    obtain ⟨A1, c1, rfl, hT⟩ := h.row.rows (row_okX ok.can htot ok.sp)
    obtain ⟨A2, c2, rfl, hN⟩ := h.waits.rows ok.wt
    obtain ⟨n1, hn1⟩ : ∃ k, (rowT 0 s.1).length = k := ⟨_, rfl⟩
    obtain ⟨n2, hn2⟩ : ∃ k, s.2.length = k := ⟨_, rfl⟩
    have hn1' : s.1.length = n1 := by rw [← hn1, row_len]
    have hbd : n1 + n2 ≤ 5000 := by have := ok.sl; omega
    rw [hn1, hn2] at h
    have CN := Lib.hid (fun W (hb : Below w.heap.size w W) => clone_nums W A2 n2 c2 s.2 (hN.call hb) hn2 (by omega))
    have HN := Lib.hid hn
    have HE := Lib.hid he
    have HOK := Lib.hid ok
    have HTU := Lib.hid hT
    have HR := Lib.hid h
    have HN1 := Lib.hid hn1
    have HN1' := Lib.hid hn1'
    have HN2 := Lib.hid hn2
    have HFIN : Hid (∀ (W : World) (L : List Int) (A : Option Addr) (c k : Nat), Nums W A L → L.length = k → L ≠ [] → k ≤ 100000 → EndP L (ex, ey, ez) → (Calls Tryz.prog 36 #[.slice A k c] W fun e w' => e = .returned (.int .i64 ex) ∧ W = w') ∧ (Calls Tryz.prog 37 #[.slice A k c] W fun e w' => e = .returned (.int .i64 ey) ∧ W = w') ∧ ez = true) := Lib.hid fun W L A c k h1 h2 h3 h4 h5 => by
      rcases h5 with ⟨e, _⟩ | ⟨k1, k2, k3, k4⟩
      · exact absurd e h3
      · refine ⟨(min_nums h1 h2 h3 h4).mono fun e w' ⟨m, q1, q2, q3, q4⟩ => ⟨?_, q4⟩, (max_nums h1 h2 h3 h4).mono fun e w' ⟨m, q1, q2, q3, q4⟩ => ⟨?_, q4⟩, k3⟩
        · have r1 := (k4 m q2).1
          have r2 := q3 ex k1
          rw [q1, show m = ex from Int.le_antisymm r2 r1]
        · have r1 := (k4 m q2).2
          have r2 := q3 ey k2
          rw [q1, show m = ey from Int.le_antisymm r1 r2]
    clear h ok hn he hT hN hz htot hn1 hn1' hn2
    go_enter Tryz.func9, Tryz.ntmps9
    go_wp2_with fail
    refine HT.out.mono ?_
    rintro e w1 ⟨rfl, hb⟩
    have HB1 := Lib.hid hb
    have q3 := (HR.out.call hb).c3
    clear hb
    go_wp2_with fail
    refine (CN.out w1 HB1.out).mono ?_
    rintro e w2 ⟨v2, rfl, ho2, hb2⟩
    have HB2 := Lib.hid (HB1.out.trans (hb2.mono HB1.out.size))
    have HB12 := Lib.hid hb2
    have HZ12 : Hid (w1.heap.size ≤ w2.heap.size) := Lib.hid hb2.size
    obtain ⟨A5, c5, rfl⟩ := ho2.form
    rw [HN2.out] at ho2 ⊢
    have HO2 := Lib.hid ho2
    have q2 := (HR.out.call HB2.out).c2
    clear ho2 hb2 q3
    by_cases h0 : n1 = 0
    · have hnn : ¬ (0 : Int) < (n1 : Int) := by omega
      have hS : s.1 = [] := List.eq_nil_of_length_eq_zero (by rw [HN1'.out]; exact h0)
      have hne : s.2 ≠ [] := fun e => e0 |> fun e0 => by
        have h1 := HN.out
        unfold totG at h1
        rw [hS, e, totS_nil] at h1
        simp at h1
        rw [← h1] at e0
        cases e0
      have hEP : EndP s.2 (ex, ey, ez) := by have := HE.out; unfold EndG at this; rw [hS] at this; exact this
      obtain ⟨A6, c6, e6, hN6⟩ := HO2.out.rows HOK.out.wt
      have e7 := Value.slice.inj e6
      obtain ⟨rfl, y1, rfl⟩ := e7
      clear y1 e6
      obtain ⟨hMi, hMa, rfl⟩ := HFIN.out w2 s.2 A5 c5 n2 hN6 HN2.out hne (by omega) hEP
      have HMi := Lib.hid hMi
      have HMa := Lib.hid hMa
      clear hMi hMa hN6 hEP hne hS
      go_wp2_with fail
      refine HMi.out.mono ?_
      rintro e w3 ⟨rfl, rfl⟩
      go_wp2_with fail
      refine HMa.out.mono ?_
      rintro e w3 ⟨rfl, rfl⟩
      go_wp2_with fail
      exact bodyPost_ret (v := .tuple #[.int .i64 ex, .int .i64 ey, .bool true]) (by simp [results, Tryz.results9, go_sem]) rfl ⟨rfl, HB2.out⟩
    · obtain ⟨k, hk⟩ : ∃ k, n1 = k + 1 := ⟨n1 - 1, by omega⟩
      subst hk
      have hnn : (0 : Int) < ((k : Int) + 1) := by omega
      obtain ⟨pf, hpf⟩ : ∃ p, (rowT 0 s.1)[0]? = some p := ⟨_, List.getElem?_eq_getElem (by rw [HN1.out]; omega)⟩
      obtain ⟨pl, hpl⟩ : ∃ p, (rowT 0 s.1)[k]? = some p := ⟨_, List.getElem?_eq_getElem (by rw [HN1.out]; omega)⟩
      obtain ⟨b, off, rfl, hbl, f0, _, _⟩ := (HTU.out.call HB2.out).at_ 0 pf hpf
      obtain ⟨b', off', e, _, l0, _, _⟩ := (HTU.out.call HB2.out).at_ k pl hpl
      obtain ⟨rfl, rfl, _⟩ := Addr.mk.inj (Option.some.inj e)
      obtain ⟨sf, hsf, hxf⟩ := row_at hpf
      obtain ⟨sl, hsl, hxl⟩ := row_at hpl
      have hIf : I64 pf.x := by rw [← hxf]; exact HOK.out.sp _ (List.mem_of_getElem? hsf)
      have hIl : I64 pl.x := by rw [← hxl]; exact HOK.out.sp _ (List.mem_of_getElem? hsl)
      have hEP : EndP (s.2 ++ [pf.x, pl.x]) (ex, ey, ez) := by
        have h1 : s.1.head? = some sf := by rw [List.head?_eq_getElem?]; exact hsf
        have h2 : s.1.getLast? = some sl := by rw [List.getLast?_eq_getElem?, HN1'.out]; simpa using hsl
        have := HE.out.short HOK.out.can h1 h2 (M := [pf.x, pl.x]) (fun x hx => by
          rcases List.mem_cons.1 hx with e | e
          · exact xs_mem.2 ⟨sf, List.mem_of_getElem? hsf, by rw [e]; exact hxf⟩
          · exact xs_mem.2 ⟨sl, List.mem_of_getElem? hsl, by rw [List.mem_singleton.1 e]; exact hxl⟩) (by rw [hxf]; simp) (by rw [hxl]; simp)
        exact this.same fun x => by rw [List.mem_append, List.mem_append, Or.comm]
      have HEP := Lib.hid hEP
      obtain ⟨px, hpx⟩ : ∃ x, pf.x = x := ⟨_, rfl⟩
      obtain ⟨py, hpy⟩ : ∃ x, pl.x = x := ⟨_, rfl⟩
      rw [hpx] at f0 hIf HEP
      rw [hpy] at l0 hIl HEP
      have HI1 := Lib.hid hIf
      have HI2 := Lib.hid hIl
      clear hpf hpl hsf hsl hxf hxl hIf hIl hEP hpx hpy e hbl
      simp only [Nat.zero_mul, Nat.add_zero] at f0
      have kk : (k : Int) < (k : Int) + 1 := by omega
      have kw : IntKind.i64.wrap (k : Int) = k := by rw [IntKind.wrap_i64]; omega
      have kt : ((k : Int)).toNat = k := by omega
      have k0 : (0 : Int) ≤ k := by omega
      have BA : Hid (Below w2.heap.size w2 (w2.drew.alloc (.cells #[.int .i64 px, .int .i64 py] 2))) := Lib.hid ((Below.refl _ _).drew.alloc (Nat.le_refl _) _)
      have BB : Hid (Below w2.heap.size w2 (w2.alloc (.cells #[.int .i64 px, .int .i64 py] 2)).drew) := Lib.hid (((Below.refl _ _).alloc (Nat.le_refl _) _).drew)
      have NA := Lib.hid (two_nums HI1.out HI2.out (Two.new w2.drew (.int .i64 px) (.int .i64 py) 2).c0 (Two.new w2.drew _ _ _).c1)
      have NB := Lib.hid (two_nums HI1.out HI2.out (Two.new w2 (.int .i64 px) (.int .i64 py) 2).drew.c0 (Two.new w2 _ _ _).drew.c1)
      have HLN : Hid (s.2.length + 2 ≤ 100000) := Lib.hid (by rw [HN2.out]; omega)
      have hs12 := HZ12.out
      go_wp2_with fail
      go_region_law (refine step_append_nums rfl (.tmp 22) (.tmp 39) rfl w1.heap.size _ s.2 (some ⟨w2.heap.size, 0, none⟩) 2 2 [px, py] rfl (by first | exact HO2.out.call BA.out | exact HO2.out.call BB.out) rfl rfl (by first | exact NA.out | exact NB.out) HLN.out (by first | exact Nat.le_trans hs12 BA.out.size | exact Nat.le_trans hs12 BB.out.size) ?_; intro v8 w8 hown8 hg8; have HO8 := Lib.hid hown8; have HB8 : Hid (Below w1.heap.size w1 w8) := Lib.hid (by first | exact (HO2.out.call BA.out).below (HB12.out.trans (BA.out.mono hs12)) hg8 (Nat.le_trans hs12 BA.out.size) | exact (HO2.out.call BB.out).below (HB12.out.trans (BB.out.mono hs12)) hg8 (Nat.le_trans hs12 BB.out.size)); clear hown8 hg8)
      all_goals
        obtain ⟨A8, c8, rfl, hN8⟩ := HO8.out.rows (fun x hx => by
          rcases List.mem_append.1 hx with e | e
          · exact HOK.out.wt x e
          · rcases List.mem_cons.1 e with e | e
            · rw [e]; exact HI1.out
            · rw [List.mem_singleton.1 e]; exact HI2.out)
        have hl8 : (s.2 ++ [px, py]).length = n2 + 2 := by rw [List.length_append, HN2.out]; rfl
        obtain ⟨hMi, hMa, rfl⟩ := HFIN.out w8 (s.2 ++ [px, py]) A8 c8 (n2 + 2) hN8 hl8 (by simp) (by omega) HEP.out
        have HMi := Lib.hid hMi
        have HMa := Lib.hid hMa
        rw [hl8]
        clear hMi hMa hN8 hl8
        go_wp2_with fail
        refine HMi.out.mono ?_
        rintro e w3 ⟨rfl, rfl⟩
        go_wp2_with fail
        refine HMa.out.mono ?_
        rintro e w3 ⟨rfl, rfl⟩
        go_wp2_with fail
        exact bodyPost_ret (v := .tuple #[.int .i64 ex, .int .i64 ey, .bool true]) (by simp [results, Tryz.results9, go_sem]) rfl ⟨rfl, HB1.out.trans (HB8.out.mono HB1.out.size)⟩
end Go.Proofs.YtfmlkohijkalbaaGreat

/-
  The landed package greenwald: Load, New.
-/
namespace Go.Proofs.YtfmlkohijkalbaaGreat
set_option linter.unusedVariables false
set_option linter.unusedSimpArgs false
open Go.RowKit

/-- Is a tuple's Step and Slack together above a limit, as the closure reckons it? -/
def overG (lim : Int) (p : TupV) : Bool := decide (lim < IntKind.u64.wrap (p.st + p.sl))

set_option maxHeartbeats 1000000 in
theorem within_pred (lim : Int) (g : Nat) (w : World) (hg : g < w.heap.size) (hc : w.cell? ⟨g, 0, none⟩ = some (.int .u64 lim)) :
    PredBelow Tryz.prog 80 #[.pointer (some ⟨g, 0, none⟩)] (fun x => .agg (cellsTu1 x).toArray) (overG lim) w := fun W x hb => by
  have hcW : W.cell? ⟨g, 0, none⟩ = some (.int .u64 lim) := (hb.cell (p := ⟨g, 0, none⟩) hg).trans hc
  have hgW : g < W.heap.size := Nat.lt_of_lt_of_le hg hb.size
  have hne : g ≠ W.heap.size := by omega
  obtain ⟨x0, x1, x2⟩ := x
  have hov : overG lim ⟨x0, x1, x2⟩ = decide (lim < IntKind.u64.wrap (x1 + x2)) := rfl
  obtain ⟨q, hq⟩ : ∃ q, IntKind.u64.wrap (x1 + x2) = q := ⟨_, rfl⟩
  rw [hq] at hov
  obtain ⟨o, ho⟩ : ∃ o, overG lim ⟨x0, x1, x2⟩ = o := ⟨_, rfl⟩
  rw [ho] at hov
  have HB := Lib.hid (hb.alloc hb.size (.cells #[.int .i64 x0, .int .u64 x1, .int .u64 x2] 75))
  show Calls Tryz.prog 80 #[.agg #[.int .i64 x0, .int .u64 x1, .int .u64 x2], .pointer (some ⟨g, 0, none⟩)] W fun e w' => e = .returned (.bool (overG lim ⟨x0, x1, x2⟩)) ∧ Below w.heap.size w w'
  rw [ho]
  have HO := Lib.hid hov
  clear hb ho hov
  go_enter Tryz.func80, Tryz.ntmps80
  go_wp2_with fail
  go_ret
  exact ⟨by rw [HO.out]; rfl, HB.out⟩

set_option maxHeartbeats 1000000 in
theorem contains_none (w : World) (A : Option Addr) (cap : Nat) (f : Value) :
    Calls Tryz.prog 79 #[.slice A 0 cap, f] w fun e w' => e = .returned (.bool false) ∧ Below w.heap.size w w' := by
  have C : Hid (∀ W : World, Calls Tryz.prog 96 #[.slice A 0 cap, f] W fun e w' => e = .returned (.int .i64 (-1)) ∧ W = w') := Lib.hid fun W => by
    go_enter Tryz.func96, Tryz.ntmps96
    go_wp2_with fail
    go_loop [8] (fun i => i = .int .i64 0) (fun _ => 0)
    case atStart => rfl
    case round =>
      obtain rfl := hrel
      go_wp2_with fail
      go_ret
      exact ⟨rfl, rfl⟩
  go_enter Tryz.func79, Tryz.ntmps79
  go_wp2_with fail
  refine (C.out _).mono ?_
  rintro e w1 ⟨rfl, rfl⟩
  go_wp2_with fail
  go_ret
  exact ⟨rfl, Below.refl _ _⟩

set_option maxHeartbeats 1000000 in
theorem gw_within (w : World) (A : Option Addr) (n cap : Nat) (L : List TupV) (lim : Int) (b : Bool) (h : Tups w A L) (hn : L.length = n) (hl : n ≤ 100000) (hb : (!L.any (overG lim)) = b) :
    Calls Tryz.prog 63 #[.slice A n cap, .int .u64 lim] w fun e w' => e = .returned (.bool b) ∧ Below w.heap.size w w' := by
  subst hn
  have hal : Below w.heap.size w (w.alloc (.cells #[.int .u64 lim] 22)) := (Below.refl _ _).alloc (Nat.le_refl _) _
  have hC : Calls Tryz.prog 79 #[.slice A L.length cap, .func (.func 80) #[] #[.pointer (some ⟨w.heap.size, 0, none⟩)]] (w.alloc (.cells #[.int .u64 lim] 22)) fun e w' => e = .returned (.bool (L.any (overG lim))) ∧ Below (w.alloc (.cells #[.int .u64 lim] 22)).heap.size (w.alloc (.cells #[.int .u64 lim] 22)) w' := by
    by_cases hL : L = []
    · subst hL
      exact contains_none _ A cap _
    · obtain ⟨p, hp⟩ : ∃ p, L[0]? = some p := by
        cases L with
        | nil => exact absurd rfl hL
        | cons p r => exact ⟨p, rfl⟩
      have h' := h.call hal
      obtain ⟨g, off, rfl, hg, _⟩ := h'.at_ 0 p hp
      have eg : ∀ args w, (callFunc 80 args).run Tryz.prog w = .ok (.enter 80 args) w := enters_of Tryz.func80 (by kernel_rfl) rfl
      have hC := AnyQ.slices_ContainsFunc Tryz.hasT 3 Tryz.isAgg75 Tryz.sizeOf75 cellsTu1 (fun _ => rfl) (overG lim) 80 #[.pointer (some ⟨w.heap.size, 0, none⟩)] eg g off L.length cap L (w.alloc (.cells #[.int .u64 lim] 22))
        (within_pred lim w.heap.size _ (by simp) (by go_simp)) (Nat.le_refl _) (by omega) hg (fun j hj i v hi => by
          have hj2 := List.getElem?_eq_getElem hj
          obtain ⟨b', off', e, _, k0, k1, k2⟩ := h'.at_ j _ hj2
          obtain ⟨rfl, rfl, _⟩ := Addr.mk.inj (Option.some.inj e)
          have e2 : L[j]! = L[j] := by simp [getElem!_pos, hj]
          rw [e2] at hi
          match i, hi with
          | 0, hi => have e3 := Option.some.inj hi; rw [← e3]; exact k0
          | 1, hi => have e3 := Option.some.inj hi; rw [← e3]; exact k1
          | 2, hi => have e3 := Option.some.inj hi; rw [← e3]; exact k2
          | i + 3, hi => simp [cellsTu1] at hi)
      change Calls Tryz.prog 79 _ _ _ at hC
      rw [List.take_length] at hC
      exact hC
  obtain ⟨o, ho⟩ : ∃ o, L.any (overG lim) = o := ⟨_, rfl⟩
  rw [ho] at hC hb
  have HC := Lib.hid hC
  have HAL := Lib.hid hal
  clear hC hal h ho
  go_enter Tryz.func63, Tryz.ntmps63
  go_wp2_with fail
  refine HC.out.mono ?_
  rintro e w1 ⟨rfl, hb1⟩
  have HB := Lib.hid (HAL.out.trans (hb1.mono HAL.out.size))
  clear hb1
  go_wp2_with fail
  go_ret
  exact ⟨rfl, HB.out⟩

/-- What is loaded: in memory. -/
def GwX : GwT := fun w B S u v s e => GoodA u v ∧ OkX s ∧ s.2.length < 16 ∧ EndG s e ∧ ∃ vr vw, GwRaw w B u v vr vw s.1 s.2 (totG s) ∧ S = rgS B vr vw
theorem tight_any {u v : Int} {L : List TupV} (hg : GoodT L) (hL : ∀ p, p ∈ L → okTu p) : (!L.any (overG (limG u v (sumT L)))) = true ↔ ∀ p, p ∈ L → p.st + p.sl ≤ limG u v (sumT L) := by
  have hw : ∀ p, p ∈ L → IntKind.u64.wrap (p.st + p.sl) = p.st + p.sl := fun p hp => by
    obtain ⟨i, hi, rfl⟩ := List.mem_iff_getElem.1 hp
    have := good_at hg (List.getElem?_eq_getElem hi)
    rw [IntKind.wrap_u64]; omega
  constructor
  · intro h p hp
    rw [Bool.not_eq_true', List.any_eq_false] at h
    have h2 := h p hp
    unfold overG at h2
    rw [hw p hp] at h2
    have := of_decide_eq_false (Bool.eq_false_iff.2 h2)
    omega
  · intro h
    rw [Bool.not_eq_true', List.any_eq_false]
    intro p hp c
    unfold overG at c
    rw [hw p hp] at c
    have := of_decide_eq_true c
    have := h p hp
    omega

set_option maxRecDepth 100000 in
set_option maxHeartbeats 2000000 in
theorem gw_load_c1 (w : World) (a b : Int) (x y : Value) (ha : Word a) (hb : Word b) (hg : goodG a b = false) :
    Calls Tryz.prog 44 #[.agg #[.int .u64 a, .int .u64 b], x, y] w fun e w' => e = .returned (.tuple #[.pointer none, .int .i64 1]) ∧ Below w.heap.size w w' := by
  have CG := Lib.hid (fun W => gw_good W a b ha hb)
  rw [hg] at CG
  obtain ⟨w0, hw0⟩ : ∃ w0, w.alloc (.cells #[.int .u64 a, .int .u64 b] 24) = w0 := ⟨_, rfl⟩
  have hb0 : Below w.heap.size w w0 := by rw [← hw0]; exact (Below.refl _ _).alloc (Nat.le_refl _) _
  have htw : Two w0 w.heap.size (.int .u64 a) (.int .u64 b) := by rw [← hw0]; exact Two.new w _ _ _
  have HB0 := Lib.hid hb0
  have p0 := htw.c0
  have p1 := htw.c1
  clear hb0 htw hg
  go_enter Tryz.func44, Tryz.ntmps44
  go_wp2_with fail
  refine (CG.out _).mono ?_
  rintro e w1 ⟨rfl, hb1⟩
  have HB1 := Lib.hid (HB0.out.trans (hb1.mono HB0.out.size))
  clear hb1
  go_wp2_with fail
  go_ret2
  exact ⟨rfl, HB1.out⟩

set_option maxRecDepth 100000 in
set_option maxHeartbeats 2000000 in
theorem gw_load_c2 (T : TupDoes) (w : World) (a b : Int) (A : Option Addr) (cap : Nat) (L : List TupV) (y : Value) (ha : Word a) (hb : Word b) (hg : goodG a b = true) (hT : Tups w A L) (hl : L.length ≤ 500) (hn : ¬ GoodT L) :
    Calls Tryz.prog 44 #[.agg #[.int .u64 a, .int .u64 b], .slice A L.length cap, y] w fun e w' => e = .returned (.tuple #[.pointer none, .int .i64 1]) ∧ Below w.heap.size w w' := by
  have CG := Lib.hid (fun W => gw_good W a b ha hb)
  rw [hg] at CG
  have CT := Lib.hid (fun W (hW : Below w.heap.size w W) => T.good W A cap L false (hT.call hW) (by omega) ⟨fun h => (by cases h), fun h => absurd h hn⟩)
  obtain ⟨w0, hw0⟩ : ∃ w0, w.alloc (.cells #[.int .u64 a, .int .u64 b] 24) = w0 := ⟨_, rfl⟩
  have hb0 : Below w.heap.size w w0 := by rw [← hw0]; exact (Below.refl _ _).alloc (Nat.le_refl _) _
  have htw : Two w0 w.heap.size (.int .u64 a) (.int .u64 b) := by rw [← hw0]; exact Two.new w _ _ _
  have HB0 := Lib.hid hb0
  have p0 := htw.c0
  have p1 := htw.c1
  clear hb0 htw hg hT hn
  go_enter Tryz.func44, Tryz.ntmps44
  go_wp2_with fail
  refine (CG.out _).mono ?_
  rintro e w1 ⟨rfl, hb1⟩
  have HB1 := Lib.hid (HB0.out.trans (hb1.mono HB0.out.size))
  clear hb1
  go_wp2_with fail
  refine (CT.out _ HB1.out).mono ?_
  rintro e w2 ⟨rfl, hb2⟩
  have HB2 := Lib.hid (HB1.out.trans (hb2.mono HB1.out.size))
  clear hb2
  go_wp2_with fail
  go_ret2
  exact ⟨rfl, HB2.out⟩

set_option maxRecDepth 100000 in
set_option maxHeartbeats 2000000 in
theorem gw_load_c3 (T : TupDoes) (w : World) (a b : Int) (A A2 : Option Addr) (cap n cap2 : Nat) (L : List TupV) (ha : Word a) (hb : Word b) (hg : goodG a b = true) (hT : Tups w A L) (hl : L.length ≤ 500) (hgt : GoodT L) (hn : 16 ≤ n) :
    Calls Tryz.prog 44 #[.agg #[.int .u64 a, .int .u64 b], .slice A L.length cap, .slice A2 n cap2] w fun e w' => e = .returned (.tuple #[.pointer none, .int .i64 1]) ∧ Below w.heap.size w w' := by
  have CG := Lib.hid (fun W => gw_good W a b ha hb)
  rw [hg] at CG
  have CT := Lib.hid (fun W (hW : Below w.heap.size w W) => T.good W A cap L true (hT.call hW) (by omega) ⟨fun _ => hgt, fun _ => rfl⟩)
  obtain ⟨w0, hw0⟩ : ∃ w0, w.alloc (.cells #[.int .u64 a, .int .u64 b] 24) = w0 := ⟨_, rfl⟩
  have hb0 : Below w.heap.size w w0 := by rw [← hw0]; exact (Below.refl _ _).alloc (Nat.le_refl _) _
  have htw : Two w0 w.heap.size (.int .u64 a) (.int .u64 b) := by rw [← hw0]; exact Two.new w _ _ _
  have HB0 := Lib.hid hb0
  have p0 := htw.c0
  have p1 := htw.c1
  have n16 : (16 : Int) ≤ n := by omega
  clear hb0 htw hg hT hgt hn
  go_enter Tryz.func44, Tryz.ntmps44
  go_wp2_with fail
  refine (CG.out _).mono ?_
  rintro e w1 ⟨rfl, hb1⟩
  have HB1 := Lib.hid (HB0.out.trans (hb1.mono HB0.out.size))
  clear hb1
  go_wp2_with fail
  refine (CT.out _ HB1.out).mono ?_
  rintro e w2 ⟨rfl, hb2⟩
  have HB2 := Lib.hid (HB1.out.trans (hb2.mono HB1.out.size))
  clear hb2
  go_wp2_with fail
  go_ret2
  exact ⟨rfl, HB2.out⟩

set_option maxRecDepth 100000 in
set_option maxHeartbeats 4000000 in
theorem gw_load_c4 (T : TupDoes) (w : World) (a b : Int) (A A2 : Option Addr) (cap n cap2 : Nat) (L : List TupV) (W : List Int) (ha : Word a) (hb : Word b) (hg : goodG a b = true) (hT : Tups w A L) (hN : Nums w A2 W) (hl : L.length ≤ 500) (hgt : GoodT L) (hn : W.length = n) (hn16 : n < 16) (hs : sumT L < 4611686018427387904) (wi : Bool) (hwi : (!L.any (overG (limG a b (sumT L)))) = wi) :
    Calls Tryz.prog 44 #[.agg #[.int .u64 a, .int .u64 b], .slice A L.length cap, .slice A2 n cap2] w fun e w' => (wi = false → e = .returned (.tuple #[.pointer none, .int .i64 1]) ∧ Below w.heap.size w w') ∧
      (wi = true → ∃ B v1 v2, e = .returned (.tuple #[.pointer (some ⟨B, 0, none⟩), .int .i64 0]) ∧ GwRaw w' B a b v1 v2 (spotsT 0 L) W (sumT L + n) ∧ (∀ i, rgS B v1 v2 i → w.heap.size ≤ i) ∧ Below w.heap.size w w') := by
  have hga := goodG_iff.1 hg
  have u1 := hga.u1
  have uv := hga.uv
  have v2 := hga.v2
  have hLok := hT.ok
  have hs0 := sumT_pos (L := L) fun p hp => by have := (hLok p hp).2.1.1; exact this
  obtain ⟨t, ht⟩ : ∃ t, sumT L = t := ⟨_, rfl⟩
  obtain ⟨lm, hlm⟩ : ∃ m, limG a b t = m := ⟨_, rfl⟩
  have CG := Lib.hid (fun W => gw_good W a b ha hb)
  rw [hg] at CG
  have CT := Lib.hid (fun W (hW : Below w.heap.size w W) => T.good W A cap L true (hT.call hW) (by omega) ⟨fun _ => hgt, fun _ => rfl⟩)
  have CTT := Lib.hid (fun W (hW : Below w.heap.size w W) => T.total W A cap L t true (hT.call hW) (by omega) (Or.inl ⟨by omega, ht.symm, rfl⟩))
  have CL := Lib.hid (fun W => T.limit W a b t lm (by omega) (by omega) hb (by unfold Word; omega) (by rw [← hlm]; exact hga.lim (by omega) (by omega)))
  rw [ht, hlm] at hwi
  have CW := Lib.hid (fun W (hW : Below w.heap.size w W) => gw_within W A L.length cap L lm wi (hT.call hW) rfl (by omega) hwi)
  have hp : plus2B t n = true := by unfold plus2B; exact decide_eq_true (by omega)
  have hq : plus2Q t n = t + n := by unfold plus2Q; rw [hp]; rfl
  have CP := Lib.hid (fun W g (h0 : W.cell? ⟨g, 0, none⟩ = some (.int .u64 t)) (h1 : W.cell? ⟨g, 1, none⟩ = some (.int .u64 n)) => plus_two t n _ true g 2 W (by unfold Word; omega) (by unfold Word; omega) h0 h1 hq hp)
  have CCT := Lib.hid (fun W (hW : Below w.heap.size w W) => (clone_tups W A L.length cap L (hT.call hW) rfl (by omega)).mono fun e w' ⟨x, h1, h2, h3⟩ => (⟨x, h1, h2, h3, hW.trans (h3.mono hW.size)⟩ : ∃ x, e = Ending.returned x ∧ OwnTu w' W.heap.size x L ∧ Below W.heap.size W w' ∧ Below w.heap.size w w'))
  have CCN := Lib.hid (fun W' (hW : Below w.heap.size w W') => (clone_nums W' A2 n cap2 W (hN.call hW) hn (by omega)).mono fun e w' ⟨x, h1, h2, h3⟩ => (⟨x, h1, h2, h3, hW.trans (h3.mono hW.size)⟩ : ∃ x, e = Ending.returned x ∧ OwnN w' W'.heap.size x W ∧ Below W'.heap.size W' w' ∧ Below w.heap.size w w'))
  obtain ⟨w0, hw0⟩ : ∃ w0, w.alloc (.cells #[.int .u64 a, .int .u64 b] 24) = w0 := ⟨_, rfl⟩
  have hb0 : Below w.heap.size w w0 := by rw [← hw0]; exact (Below.refl _ _).alloc (Nat.le_refl _) _
  have htw : Two w0 w.heap.size (.int .u64 a) (.int .u64 b) := by rw [← hw0]; exact Two.new w _ _ _
  have HB0 := Lib.hid hb0
  have HTW := Lib.hid htw
  have p0 := htw.c0
  have p1 := htw.c1
  have n16 : ¬ (16 : Int) ≤ n := by omega
  have c64 : IntKind.u64.wrap (n : Int) = n := by rw [IntKind.wrap_u64]; omega
  rw [ht]
  clear hb0 htw hg hT hN hgt hn hga hLok ht hlm hwi hp hq
  go_enter Tryz.func44, Tryz.ntmps44
  go_wp2_with fail
  refine (CG.out _).mono ?_
  rintro e w1 ⟨rfl, hb1⟩
  have HT1 := Lib.hid (HTW.out.call hb1)
  have HB1 := Lib.hid (HB0.out.trans (hb1.mono HB0.out.size))
  clear hb1 p0 p1
  go_wp2_with fail
  refine (CT.out _ HB1.out).mono ?_
  rintro e w2 ⟨rfl, hb2⟩
  have HT2 := Lib.hid (HT1.out.call hb2)
  have HB2 := Lib.hid (HB1.out.trans (hb2.mono HB1.out.size))
  clear hb2
  go_wp2_with fail
  refine (CTT.out _ HB2.out).mono ?_
  rintro e w3 ⟨rfl, hb3⟩
  have HT3 := Lib.hid (HT2.out.call hb3)
  have HB3 := Lib.hid (HB2.out.trans (hb3.mono HB2.out.size))
  clear hb3
  go_wp2_with fail
  refine (CP.out _ _ (Two.new w3 _ _ _).c0 (Two.new w3 _ _ _).c1).mono ?_
  rintro e w4 ⟨rfl, rfl⟩
  have hb4 : Below w3.heap.size w3 (w3.alloc (.cells #[.int .u64 t, .int .u64 n] 22)) := (Below.refl _ _).alloc (Nat.le_refl _) _
  obtain ⟨w4, hw4⟩ : ∃ w4, w3.alloc (.cells #[.int .u64 t, .int .u64 n] 22) = w4 := ⟨_, rfl⟩
  rw [hw4] at hb4 ⊢
  have HT4 := Lib.hid (HT3.out.call hb4)
  have HB4 := Lib.hid (HB3.out.trans (hb4.mono HB3.out.size))
  have p0 := HT4.out.c0
  have p1 := HT4.out.c1
  clear hb4 hw4
  go_wp2_with fail
  refine (CL.out _).mono ?_
  rintro e w5 ⟨rfl, hb5⟩
  have HT5 := Lib.hid (HT4.out.call hb5)
  have HB5 := Lib.hid (HB4.out.trans (hb5.mono HB4.out.size))
  clear hb5 p0 p1
  go_wp2_with fail
  refine (CW.out _ HB5.out).mono ?_
  rintro e w6 ⟨rfl, hb6⟩
  have HT6 := Lib.hid (HT5.out.call hb6)
  have HB6 := Lib.hid (HB5.out.trans (hb6.mono HB5.out.size))
  clear hb6
  cases wi with
  | false =>
    go_wp2_with fail
    go_ret2
    first
    | exact ⟨rfl, HB6.out⟩
    | exact ⟨fun _ => ⟨rfl, HB6.out⟩, fun h => by cases h⟩
  | true =>
    have p0 := HT6.out.c0
    have p1 := HT6.out.c1
    have HD0 : Hid (Below w.heap.size w w6.drew) := Lib.hid HB6.out.drew
    have HBl : Hid (w.heap.size < w6.heap.size) := Lib.hid HT6.out.lt
    go_wp2_with fail
    go_region_with (first
      | (go_at_call 55; refine (CCT.out _ (by first | exact HB6.out | exact HD0.out)).mono ?_; rintro e wA ⟨vA, rfl, hoA, hbA, hcA⟩; obtain ⟨AA, kA, lA, rfl⟩ : ∃ AA kA lA, vA = .slice AA lA kA := (by obtain ⟨a, b, e⟩ := hoA.form; exact ⟨a, b, _, e⟩); have hTA := HT6.out.call (by first | exact hbA | exact (Below.refl _ _).drew.trans hbA : Below w6.heap.size w6 wA); have a0 := hTA.c0; have a1 := hTA.c1)
      | (go_at_call 35; refine (CCN.out _ (by first | exact hcA | exact hcA.drew)).mono ?_; rintro e wB ⟨vB, rfl, hoB, hbB, hcB⟩; obtain ⟨AB, kB, lB, rfl⟩ : ∃ AB kB lB, vB = .slice AB lB kB := (by obtain ⟨a, b, e⟩ := hoB.form; exact ⟨a, b, _, e⟩); have hTB := hTA.call (by first | exact hbB | exact (Below.refl _ _).drew.trans hbB : Below wA.heap.size wA wB); have b0 := hTB.c0; have b1 := hTB.c1))
    all_goals
      have hbAB : Below wA.heap.size wA wB := by first | exact hbB | exact (Below.refl _ _).drew.trans hbB
      have hz6 : w.heap.size ≤ wA.heap.size := hcA.size
      have hoA2 : OwnTu wB w.heap.size (.slice AA lA kA) L := (hoA.call hbAB).mono (by first | exact HB6.out.size | exact HD0.out.size)
      have hoB2 : OwnN wB wA.heap.size (.slice AB lB kB) W := hoB
      have hap : ∀ g, (Value.slice AB lB kB).ownBlock = some g → (Value.slice AA lA kA).ownBlock ≠ some g := fun g hg hg2 => by have := (hoB2.lt g hg).1; have := (hoA.lt g hg2).2; omega
      have hnew := gwraw_new (u := a) (v := b) (n := t + (n : Int)) (S := spotsT 0 L) (by rw [row_spots]; exact hoA2.mono (Nat.zero_le _)) (hoB2.mono (Nat.zero_le _)) hap
      have hblk : ∀ i, rgS wB.heap.size (.slice AA lA kA) (.slice AB lB kB) i → w.heap.size ≤ i := by
        rintro i (rfl | e | e)
        · exact hcB.size
        · exact (hoA2.lt i e).1
        · exact Nat.le_trans hz6 (hoB2.lt i e).1
      have HF := Lib.hid (⟨_, _, _, rfl, hnew, hblk, hcB.alloc hcB.size _⟩ : ∃ B v1 v2, Ending.returned (.tuple #[.pointer (some ⟨wB.heap.size, 0, none⟩), .int .i64 0]) = .returned (.tuple #[.pointer (some ⟨B, 0, none⟩), .int .i64 0]) ∧ GwRaw (wB.alloc (.cells #[.int .u64 a, .int .u64 b, .slice AA lA kA, .slice AB lB kB, .int .u64 (t + (n : Int))] 58)) B a b v1 v2 (spotsT 0 L) W (t + n) ∧ (∀ i, rgS B v1 v2 i → w.heap.size ≤ i) ∧ Below w.heap.size w (wB.alloc (.cells #[.int .u64 a, .int .u64 b, .slice AA lA kA, .slice AB lB kB, .int .u64 (t + (n : Int))] 58)))
      clear hbAB hz6 hoA2 hoB2 hap hnew hblk hoA hoB hbA hbB hcA hcB hTA hTB a0 a1 b0 b1
      go_wp2_with fail
      go_ret2
      obtain ⟨Bq, q1, q2, k1, k2⟩ := HF.out
      exact ⟨Bq, k1, q1, q2, k2⟩

/-- What can be loaded is. -/
theorem load_ok {u v : Int} {L : List TupV} {W : List Int} (h : LoadW u v L W) (hl : L.length ≤ 500) (ok : ∀ p, p ∈ L → okTu p) (okw : ∀ x, x ∈ W → I64 x) (hs : sumT L < 4611686018427387904) : OkX (spotsT 0 L, W) ∧ totG (spotsT 0 L, W) = sumT L + W.length := by
  have hc := h.row.can
  have ht : totS (spotsT 0 L) = sumT L := by rw [tot_last, last_sum]; omega
  have hf := h.few
  refine ⟨⟨fun s hs => ?_, okw, ?_, h.row.first, ?_, by show W.length ≤ 16; omega, ?_⟩, ?_⟩
  · obtain ⟨p, hp, e⟩ := spots_x L 0 s hs
    rw [e]; exact (ok p hp).1
  · show SpotsP 0 (totS (spotsT 0 L)) (spotsT 0 L)
    rw [ht]; exact hc
  · show (spotsT 0 L).length + W.length ≤ 5000
    rw [spots_len]; omega
  · show totS (spotsT 0 L) + (W.length : Int) ≤ _
    rw [ht]; omega
  · show totS (spotsT 0 L) + (W.length : Int) = _
    rw [ht]
theorem gw_load (T : TupDoes) (w : World) (u v : Int) (A1 : Option Addr) (c1 : Nat) (L : List TupV) (A2 : Option Addr) (c2 : Nat) (W : List Int) (hu : Word u) (hv : Word v) (hT : Tups w A1 L) (hN : Nums w A2 W) (hl : L.length ≤ 500) (hl2 : W.length ≤ 500) (hs : sumT L ≤ 9223372036854775807 → sumT L < 4611686018427387904) (h : LoadW u v L W) :
    Calls Tryz.prog 44 #[.agg #[.int .u64 u, .int .u64 v], .slice A1 L.length c1, .slice A2 W.length c2] w fun r w' => ∃ B S e, r = .returned (.tuple #[.pointer (some ⟨B, 0, none⟩), .int .i64 0]) ∧ GwX w' B S u v (spotsT 0 L, W) e ∧ (∀ i, S i → w.heap.size ≤ i) ∧ Below w.heap.size w w' := by
  have hs2 := hs h.row.max
  obtain ⟨o1, o2⟩ := load_ok h hl hT.ok hN.ok hs2
  refine (gw_load_c4 T w u v A1 A2 c1 W.length c2 L W hu hv (goodG_iff.2 h.part) hT hN hl h.row rfl h.few hs2 true ((tight_any h.row hT.ok).2 h.tight)).mono ?_
  rintro r w' ⟨_, h2⟩
  obtain ⟨B, v1, v2, rfl, h3, h4, h5⟩ := h2 rfl
  obtain ⟨e, he⟩ := EndP.ex _ (xsS (spotsT 0 L) ++ W) rfl
  exact ⟨B, _, e, rfl, ⟨h.part, o1, h.few, he, v1, v2, by rw [o2]; exact h3, rfl⟩, h4, h5⟩
theorem gw_unfit (T : TupDoes) (w : World) (u v : Int) (A1 : Option Addr) (c1 : Nat) (L : List TupV) (A2 : Option Addr) (c2 : Nat) (W : List Int) (hu : Word u) (hv : Word v) (hT : Tups w A1 L) (hN : Nums w A2 W) (hl : L.length ≤ 500) (hl2 : W.length ≤ 500) (hs : sumT L ≤ 9223372036854775807 → sumT L < 4611686018427387904) (h : ¬ LoadW u v L W) :
    Calls Tryz.prog 44 #[.agg #[.int .u64 u, .int .u64 v], .slice A1 L.length c1, .slice A2 W.length c2] w fun r w' => r = .returned (.tuple #[.pointer none, .int .i64 1]) ∧ Below w.heap.size w w' := by
  cases hg : goodG u v with
  | false => exact gw_load_c1 w u v _ _ hu hv hg
  | true =>
    by_cases h1 : GoodT L
    · by_cases h2 : W.length < 16
      · have h3 : (!L.any (overG (limG u v (sumT L)))) = false := by
          cases e : (!L.any (overG (limG u v (sumT L)))) with
          | false => rfl
          | true => exact absurd ⟨goodG_iff.1 hg, h1, h2, (tight_any h1 hT.ok).1 e⟩ h
        refine (gw_load_c4 T w u v A1 A2 c1 W.length c2 L W hu hv hg hT hN hl h1 rfl h2 (hs h1.max) false h3).mono ?_
        rintro r w' ⟨h4, _⟩
        exact h4 rfl
      · exact gw_load_c3 T w u v A1 A2 c1 W.length c2 L hu hv hg hT hl h1 (by omega)
    · exact gw_load_c2 T w u v A1 c1 L _ hu hv hg hT hl h1

set_option maxHeartbeats 1000000 in
theorem gw_new_to (w : World) (d f : Int) (P : Ending → World → Prop) (h : Calls Tryz.prog 44 #[.agg #[.int .u64 d, .int .u64 f], .slice none 0 0, .slice none 0 0] (w.alloc (.cells #[.int .u64 d, .int .u64 f] 24)) fun e w' => (∃ p c, e = .returned (.tuple #[.pointer p, .int .i64 c]) ∧ P (.returned (.tuple #[.pointer p, .int .i64 c])) w')) :
    Calls Tryz.prog 16 #[.agg #[.int .u64 d, .int .u64 f]] w P := by
  have HH := Lib.hid h
  clear h
  go_enter Tryz.func16, Tryz.ntmps16
  go_wp2_with fail
  refine HH.out.mono ?_
  rintro e w1 ⟨p, c, rfl, hP⟩
  have HP := Lib.hid hP
  clear hP
  go_wp2_with fail
  exact HP.out
end Go.Proofs.YtfmlkohijkalbaaGreat

/-
  Plain mathematics of the landed package tuples: where those behind a value begin; insert, squeeze and merge told over tuples themselves: no program in sight.
-/
namespace Go.Proofs.YtfmlkohijkalbaaGreat
set_option linter.unusedVariables false
set_option linter.unusedSimpArgs false

/-- Does a value stand behind x? same: x itself does so, too. -/
def behB (same : Bool) (x y : Int) : Bool := decide (x < y) || (same && decide (y = x))
/-- How many of a row stand ahead of those behind. -/
def fromT (same : Bool) (x : Int) (L : List TupV) : Nat := L.countP fun p => !behB same x p.x
/-- How many values may stand between the tuple ahead of an index and the one at it. -/
def roomT (L : List TupV) (k : Nat) : Int := match L[k]? with | none => 0 | some p => p.st + p.sl - 1
theorem room_cons (p : TupV) (r : List TupV) (k : Nat) : roomT (p :: r) (k + 1) = roomT r k := by unfold roomT; rw [List.getElem?_cons_succ]
theorem room_none {L : List TupV} : roomT L L.length = 0 := by unfold roomT; rw [List.getElem?_eq_none (Nat.le_refl _)]
theorem room_some {L : List TupV} {k : Nat} {p : TupV} (h : L[k]? = some p) : roomT L k = p.st + p.sl - 1 := by unfold roomT; rw [h]
theorem beh_mono {same : Bool} {x y z : Int} (h : behB same x y = true) (hyz : y ≤ z) : behB same x z = true := by
  unfold behB at *
  cases same <;> simp at * <;> omega
theorem beh_true (x y : Int) : behB true x y = decide (x ≤ y) := by
  unfold behB
  by_cases h : x ≤ y <;> simp [h] <;> omega
theorem beh_false (x y : Int) : behB false x y = decide (x < y) := by unfold behB; simp
/-- In order. -/
def SortT (L : List TupV) : Prop := L.Pairwise fun p q => p.x ≤ q.x
theorem sort_tail {p : TupV} {r : List TupV} (h : SortT (p :: r)) : SortT r := (List.pairwise_cons.1 h).2
theorem sort_head {p : TupV} {r : List TupV} (h : SortT (p :: r)) : ∀ q, q ∈ r → p.x ≤ q.x := (List.pairwise_cons.1 h).1
theorem spots_sort {n : Int} : ∀ (L : List TupV) (a : Int), SpotsP a n (spotsT a L) → SortT L
  | [], a, h => List.Pairwise.nil
  | p :: r, a, h => by
    refine List.pairwise_cons.2 ⟨fun q hq => ?_, spots_sort r (a + p.st) h.2.2.2.2⟩
    have hx := SpotsP.x_le h
    have : ∀ (L : List TupV) (b : Int), q ∈ L → ∃ s, s ∈ spotsT b L ∧ s.x = q.x := by
      intro L
      induction L with
      | nil => intro b hm; cases hm
      | cons u v ih =>
        intro b hm
        rcases List.mem_cons.1 hm with e | e
        · exact ⟨_, List.mem_cons_self, by rw [e]⟩
        · obtain ⟨s, hs, e2⟩ := ih (b + u.st) e
          exact ⟨s, List.mem_cons_of_mem _ hs, e2⟩
    obtain ⟨s, hs, e⟩ := this r (a + p.st) hq
    rw [← e]; exact hx s hs
theorem GoodT.sort {L : List TupV} (h : GoodT L) : SortT L := spots_sort L 0 h.can
theorem from_cons (same : Bool) (x : Int) (p : TupV) (r : List TupV) : fromT same x (p :: r) = fromT same x r + if behB same x p.x then 0 else 1 := by
  unfold fromT
  rw [List.countP_cons]
  cases behB same x p.x <;> rfl
theorem from_le (same : Bool) (x : Int) (L : List TupV) : fromT same x L ≤ L.length := List.countP_le_length
theorem from_zero {same : Bool} {x : Int} {L : List TupV} (h : ∀ p, p ∈ L → behB same x p.x = true) : fromT same x L = 0 := by
  unfold fromT
  rw [List.countP_eq_zero]
  intro p hp
  rw [h p hp]; decide
/-- A row in order: those up to there don't stand behind, the others do. -/
theorem from_split {same : Bool} {x : Int} : ∀ {L : List TupV}, SortT L → (∀ p, p ∈ L.take (fromT same x L) → behB same x p.x = false) ∧ ∀ p, p ∈ L.drop (fromT same x L) → behB same x p.x = true
  | [], h => ⟨fun p hp => (by simp at hp), fun p hp => (by simp at hp)⟩
  | p :: r, h => by
    have ih := from_split (same := same) (x := x) (sort_tail h)
    rw [from_cons]
    cases hb : behB same x p.x with
    | true =>
      have h0 : fromT same x r = 0 := from_zero fun q hq => beh_mono hb (sort_head h q hq)
      rw [h0, if_pos rfl]
      refine ⟨fun q hq => (by simp at hq), fun q hq => ?_⟩
      rcases List.mem_cons.1 hq with e | e
      · rw [e]; exact hb
      · exact beh_mono hb (sort_head h q e)
    | false =>
      rw [if_neg (by decide)]
      refine ⟨fun q hq => ?_, fun q hq => ?_⟩
      · rw [List.take_succ_cons] at hq
        rcases List.mem_cons.1 hq with e | e
        · rw [e]; exact hb
        · exact ih.1 q e
      · rw [List.drop_succ_cons] at hq; exact ih.2 q hq
/-- What a search asks of an index. -/
def askT (same : Bool) (x : Int) (L : List TupV) (i : Nat) : Bool := match L[i]? with | none => true | some p => behB same x p.x
theorem ask_count (same : Bool) (x : Int) : ∀ (L : List TupV), (List.range L.length).countP (fun i => !askT same x L i) = fromT same x L
  | [] => rfl
  | p :: r => by
    have ih := ask_count same x r
    rw [List.length_cons, List.range_succ_eq_map, List.countP_cons, List.countP_map, from_cons, ← ih]
    have e : ((fun i => !askT same x (p :: r) i) ∘ Nat.succ) = fun i => !askT same x r i := by
      funext i
      show (!askT same x (p :: r) (i + 1)) = _
      unfold askT
      rw [List.getElem?_cons_succ]
    rw [e]
    have e2 : askT same x (p :: r) 0 = behB same x p.x := rfl
    rw [e2]
    cases behB same x p.x <;> rfl
theorem ask_mono {same : Bool} {x : Int} {L : List TupV} (h : SortT L) {a b : Nat} (hab : a ≤ b) (hb : b < L.length) (ha : askT same x L a = true) : askT same x L b = true := by
  unfold askT at *
  rw [List.getElem?_eq_getElem hb]
  rw [List.getElem?_eq_getElem (show a < L.length by omega)] at ha
  simp only at ha ⊢
  rcases Nat.lt_or_ge a b with hlt | hge
  · exact beh_mono ha (List.pairwise_iff_getElem.1 h a b (by omega) hb hlt)
  · have : a = b := by omega
    subst this
    exact ha

/-! ### A value more -/
theorem bef_lo (L : List TupV) (k : Nat) : lastLo 0 (spotsT 0 (L.take k)) = sumT (L.take k) := by rw [last_sum]; omega
theorem spots_part (L : List TupV) (k : Nat) : spotsT 0 L = spotsT 0 (L.take k) ++ spotsT (sumT (L.take k)) (L.drop k) := by
  have h := spots_app (L.take k) (L.drop k) 0
  rw [List.take_append_drop, bef_lo] at h
  exact h
theorem ah_part {L : List TupV} (h : SortT L) (x : Int) : ahS (spotsT 0 L) x = spotsT 0 (L.take (fromT false x L)) ∧ bhS (spotsT 0 L) x = spotsT (sumT (L.take (fromT false x L))) (L.drop (fromT false x L)) := by
  obtain ⟨h1, h2⟩ := from_split (same := false) (x := x) h
  generalize fromT false x L = k at *
  have g1 : ∀ s, s ∈ spotsT 0 (L.take k) → s.x ≤ x := fun s hs => by
    obtain ⟨p, hp, e⟩ := spots_x _ _ s hs
    have := h1 p hp
    rw [beh_false] at this
    have := of_decide_eq_false this
    rw [e]; omega
  have g2 : ∀ s, s ∈ spotsT (sumT (L.take k)) (L.drop k) → x < s.x := fun s hs => by
    obtain ⟨p, hp, e⟩ := spots_x _ _ s hs
    have := h2 p hp
    rw [beh_false] at this
    rw [e]; exact of_decide_eq_true this
  unfold ahS bhS
  rw [spots_part L k, List.filter_append, List.filter_append]
  constructor
  · rw [List.filter_eq_self.2 fun s hs => decide_eq_true (g1 s hs), List.filter_eq_nil_iff.2 fun s hs => by have := g2 s hs; simp; omega, List.append_nil]
  · rw [List.filter_eq_nil_iff.2 fun s hs => by have := g1 s hs; simp; omega, List.filter_eq_self.2 fun s hs => decide_eq_true (g2 s hs), List.nil_append]
/-- A row with a value more, told over tuples. -/
theorem ins_is {L : List TupV} (h : SortT L) (x : Int) (k : Nat) (hk : fromT false x L = k) : insT L x = L.take k ++ ⟨x, 1, if k = 0 then 0 else roomT L k⟩ :: L.drop k := by
  have hle : k ≤ L.length := by rw [← hk]; exact from_le _ _ _
  obtain ⟨e1, e2⟩ := ah_part h x
  rw [hk] at e1 e2
  unfold insT insS
  rw [e1, e2, row_app, row_spots, bef_lo]
  congr 1
  have hlast : ∀ p, (spotsT 0 (L.take k)).getLast? = some p → p.lo = sumT (L.take k) := fun p hp => by
    have := bef_lo L k
    unfold lastLo at this
    rw [hp] at this
    exact this
  have key : (newS (spotsT 0 (L.take k)) (spotsT (sumT (L.take k)) (L.drop k)) x).lo = sumT (L.take k) + 1 ∧ (newS (spotsT 0 (L.take k)) (spotsT (sumT (L.take k)) (L.drop k)) x).hi = sumT (L.take k) + 1 + (if k = 0 then 0 else roomT L k) := by
    unfold newS
    cases hP : (spotsT 0 (L.take k)).getLast? with
    | none =>
      have h0 : spotsT 0 (L.take k) = [] := List.getLast?_eq_none_iff.1 hP
      have h1 : L.take k = [] := by
        have := congrArg (rowT 0) h0
        rw [row_spots] at this
        exact this
      have hs : sumT (L.take k) = 0 := by rw [h1]; rfl
      have : (k = 0) ∨ L = [] := by
        rcases Nat.eq_zero_or_pos k with e | e
        · exact Or.inl e
        · right
          have := congrArg List.length h1
          rw [List.length_take, List.length_nil] at this
          exact List.eq_nil_of_length_eq_zero (by omega)
      have hif : (if k = 0 then 0 else roomT L k) = 0 := by
        rcases this with e | e
        · rw [if_pos e]
        · rw [e]; split <;> rfl
      rw [hif]
      simp only
      omega
    | some p =>
      have hp := hlast p hP
      have hk0 : ¬ k = 0 := by
        intro e
        rw [e] at hP
        cases hP
      rw [if_neg hk0]
      cases hd : L.drop k with
      | nil =>
        have : roomT L k = 0 := by
          unfold roomT
          rw [List.getElem?_eq_none (by have := congrArg List.length hd; rw [List.length_drop, List.length_nil] at this; omega)]
        rw [this]
        show p.lo + 1 = _ ∧ p.lo + 1 = _
        omega
      | cons q r =>
        have hq : L[k]? = some q := by
          have : (L.drop k)[0]? = some q := by rw [hd]; rfl
          rw [List.getElem?_drop] at this
          exact this
        rw [room_some hq]
        show p.lo + 1 = _ ∧ sumT (L.take k) + q.st + q.sl = _
        omega
  have hx : (newS (spotsT 0 (L.take k)) (spotsT (sumT (L.take k)) (L.drop k)) x).x = x := newS_x _ _ _
  show (⟨_, _, _⟩ : TupV) :: rowT _ (upS _) = _
  rw [hx, key.1, key.2, row_up, row_spots]
  congr 1
  simp only [TupV.mk.injEq, true_and]
  omega
theorem ins_len {L : List TupV} (h : SortT L) (x : Int) : (insT L x).length = L.length + 1 := by
  rw [ins_is h x _ rfl, List.length_append, List.length_cons]
  have : (L.take (fromT false x L)).length + (L.drop (fromT false x L)).length = L.length := by rw [← List.length_append, List.take_append_drop]
  omega

/-! ### Ranks -/
theorem rank_lo {L : List TupV} (h : SortT L) (x : Int) : rankLo (spotsT 0 L) x = sumT (L.take (fromT false x L)) := by
  unfold rankLo
  rw [(ah_part h x).1, ← bef_lo]
  unfold lastLo
  cases (spotsT 0 (L.take (fromT false x L))).getLast? <;> rfl
theorem rank_hi {L : List TupV} (h : SortT L) (x : Int) : rankHi (spotsT 0 L) (sumT L) x = sumT (L.take (fromT false x L)) + roomT L (fromT false x L) := by
  have hle := from_le false x L
  unfold rankHi
  rw [(ah_part h x).2]
  generalize fromT false x L = k at *
  cases hd : L.drop k with
  | nil =>
    have hl : L.length ≤ k := by have := congrArg List.length hd; rw [List.length_drop, List.length_nil] at this; omega
    have : roomT L k = 0 := by
      unfold roomT
      rw [List.getElem?_eq_none hl]
    rw [this, List.take_of_length_le hl]
    show sumT L = _
    omega
  | cons q r =>
    have hq : L[k]? = some q := by
      have : (L.drop k)[0]? = some q := by rw [hd]; rfl
      rw [List.getElem?_drop] at this
      exact this
    rw [room_some hq]
    show sumT (L.take k) + q.st + q.sl - 1 = _
    omega

/-! ### Squeezed -/
/-- What is left behind the first one. -/
def putL (lim : Int) (p : TupV) : List TupV → List TupV
  | [] => [p]
  | u :: t => if p.st + u.st + u.sl ≤ lim then ⟨u.x, u.st + p.st, u.sl⟩ :: t else p :: u :: t
def sqzL (lim : Int) : List TupV → List TupV
  | [] => []
  | p :: r => putL lim p (sqzL lim r)
theorem sqzR_row (lim : Int) : ∀ (r : List TupV) (s0 : SpotV), rowT s0.lo (sqzR lim s0 (spotsT s0.lo r)) = sqzL lim r
  | [], s0 => rfl
  | [p], s0 => by
    show rowT s0.lo (sqzR lim s0 [⟨p.x, s0.lo + p.st, s0.lo + p.st + p.sl⟩]) = [p]
    unfold sqzR
    have := row_spots [p] s0.lo
    exact this
  | p :: q :: t, s0 => by
    have ih := sqzR_row lim (q :: t) ⟨p.x, s0.lo + p.st, s0.lo + p.st + p.sl⟩
    show rowT s0.lo (sqzR lim s0 (⟨p.x, s0.lo + p.st, s0.lo + p.st + p.sl⟩ :: ⟨q.x, s0.lo + p.st + q.st, s0.lo + p.st + q.st + q.sl⟩ :: spotsT (s0.lo + p.st + q.st) t)) = putL lim p (sqzL lim (q :: t))
    rw [← ih]
    have hsp : spotsT (s0.lo + p.st) (q :: t) = ⟨q.x, s0.lo + p.st + q.st, s0.lo + p.st + q.st + q.sl⟩ :: spotsT (s0.lo + p.st + q.st) t := rfl
    simp only at *
    rw [hsp]
    rw [sqzR]
    have hne := sqzR_ne lim (⟨q.x, s0.lo + p.st + q.st, s0.lo + p.st + q.st + q.sl⟩ :: spotsT (s0.lo + p.st + q.st) t) ⟨p.x, s0.lo + p.st, s0.lo + p.st + p.sl⟩ (by simp)
    generalize sqzR lim ⟨p.x, s0.lo + p.st, s0.lo + p.st + p.sl⟩ (⟨q.x, s0.lo + p.st + q.st, s0.lo + p.st + q.st + q.sl⟩ :: spotsT (s0.lo + p.st + q.st) t) = R at *
    cases R with
    | nil => exact absurd rfl hne
    | cons u R' =>
      show rowT s0.lo (if u.hi - s0.lo ≤ lim then u :: R' else ⟨p.x, s0.lo + p.st, s0.lo + p.st + p.sl⟩ :: u :: R') = putL lim p (⟨u.x, u.lo - (s0.lo + p.st), u.hi - u.lo⟩ :: rowT u.lo R')
      unfold putL
      simp only
      by_cases c : u.hi - s0.lo ≤ lim
      · have c2 : p.st + (u.lo - (s0.lo + p.st)) + (u.hi - u.lo) ≤ lim := by omega
        rw [if_pos c, if_pos c2]
        show (⟨u.x, u.lo - s0.lo, u.hi - u.lo⟩ : TupV) :: rowT u.lo R' = ⟨u.x, u.lo - (s0.lo + p.st) + p.st, u.hi - u.lo⟩ :: rowT u.lo R'
        rw [show u.lo - s0.lo = u.lo - (s0.lo + p.st) + p.st by omega]
      · have c2 : ¬ p.st + (u.lo - (s0.lo + p.st)) + (u.hi - u.lo) ≤ lim := by omega
        rw [if_neg c, if_neg c2]
        show (⟨p.x, s0.lo + p.st - s0.lo, s0.lo + p.st + p.sl - (s0.lo + p.st)⟩ : TupV) :: (⟨u.x, u.lo - (s0.lo + p.st), u.hi - u.lo⟩ : TupV) :: rowT u.lo R' = _
        congr 1
        cases p
        simp only [TupV.mk.injEq, true_and]
        omega
theorem sqz_cons (lim : Int) (p : TupV) (r : List TupV) : sqzT lim (p :: r) = p :: sqzL lim r := by
  have h := sqzR_row lim r ⟨p.x, 0 + p.st, 0 + p.st + p.sl⟩
  show (⟨p.x, 0 + p.st - 0, 0 + p.st + p.sl - (0 + p.st)⟩ : TupV) :: rowT (0 + p.st) (sqzR lim ⟨p.x, 0 + p.st, 0 + p.st + p.sl⟩ (spotsT (0 + p.st) r)) = _
  simp only at h
  rw [h]
  congr 1
  cases p
  simp only [TupV.mk.injEq, true_and]
  omega
theorem sqz_is (lim : Int) (L : List TupV) : sqzT lim L = L.take 1 ++ sqzL lim (L.drop 1) := by
  cases L with
  | nil => rfl
  | cons p r => rw [sqz_cons]; rfl
theorem sqz_two {lim : Int} {L : List TupV} (h : L.length ≤ 2) : sqzT lim L = L := by
  match L, h with
  | [], _ => rfl
  | [p], _ => rw [sqz_cons]; rfl
  | [p, q], _ => rw [sqz_cons]; rfl
theorem putL_len (lim : Int) (p : TupV) (T : List TupV) : (putL lim p T).length ≤ T.length + 1 ∧ 1 ≤ (putL lim p T).length := by
  cases T with
  | nil => unfold putL; simp
  | cons u t =>
    by_cases c : p.st + u.st + u.sl ≤ lim
    · have e : putL lim p (u :: t) = ⟨u.x, u.st + p.st, u.sl⟩ :: t := by show (if _ then _ else _) = _; rw [if_pos c]
      rw [e]; simp
    · have e : putL lim p (u :: t) = p :: u :: t := by show (if _ then _ else _) = _; rw [if_neg c]
      rw [e]; simp
theorem sqzL_len (lim : Int) : ∀ (L : List TupV), (sqzL lim L).length ≤ L.length
  | [] => Nat.le_refl _
  | p :: r => by
    have := sqzL_len lim r
    have := (putL_len lim p (sqzL lim r)).1
    show (putL lim p (sqzL lim r)).length ≤ _
    rw [List.length_cons]; omega
theorem sqzL_ne (lim : Int) {L : List TupV} (h : L ≠ []) : sqzL lim L ≠ [] := by
  cases L with
  | nil => exact absurd rfl h
  | cons p r =>
    intro e
    have := (putL_len lim p (sqzL lim r)).2
    have e' : putL lim p (sqzL lim r) = [] := e
    rw [e'] at this
    simp at this
theorem sqzL_at {lim : Int} {L : List TupV} {i : Nat} {p : TupV} (h : L[i]? = some p) : sqzL lim (L.drop i) = putL lim p (sqzL lim (L.drop (i + 1))) := by rw [drop_is h]; rfl
/-- The first of what is left: nothing goes round. -/
theorem sqzL_head {lim : Int} {L : List TupV} (hg : GoodT L) {i : Nat} {p : TupV} (hp : L[i]? = some p) (hn : i + 1 < L.length) (hst : ∀ q, q ∈ L → 0 ≤ q.st) :
    ∃ u t, sqzL lim (L.drop (i + 1)) = u :: t ∧ 0 < p.st ∧ 0 < u.st ∧ 0 ≤ u.sl ∧ p.st + u.st + u.sl ≤ sumT L := by
  have h0 := hg.can
  rw [spots_part L (i + 1)] at h0
  have h1 := h0.right
  rw [bef_lo] at h1
  have h2 := sqzR_row lim (L.drop (i + 1)) ⟨0, sumT (L.take (i + 1)), 0⟩
  simp only at h2
  have h3 := sqzR_spots lim (sumT L) (spotsT (sumT (L.take (i + 1))) (L.drop (i + 1))) ⟨0, sumT (L.take (i + 1)), 0⟩ _ h1
  have hne : spotsT (sumT (L.take (i + 1))) (L.drop (i + 1)) ≠ [] := by
    intro e
    have := congrArg List.length e
    rw [spots_len, List.length_drop, List.length_nil] at this
    omega
  have h4 := sqzR_ne lim _ ⟨0, sumT (L.take (i + 1)), 0⟩ hne
  rw [← h2]
  generalize sqzR lim ⟨0, sumT (L.take (i + 1)), 0⟩ (spotsT (sumT (L.take (i + 1))) (L.drop (i + 1))) = R at *
  have hs := sumT_step hp
  have ht := (sumT_take hst i).1
  have hpp : 0 < p.st := by
    have hx := List.getElem?_eq_getElem (l := spotsT 0 L) (i := i) (by rw [spots_len]; omega)
    have hc := (good_can (L := L.take 0) (by intro q hq; simp at hq))
    have := hg.can
    have k1 := spots_part L i
    rw [k1] at this
    have k2 := this.right
    rw [bef_lo, drop_is hp] at k2
    have k3 := k2.1
    simp only at k3
    omega
  cases R with
  | nil => exact absurd rfl h4
  | cons u R' =>
    refine ⟨_, _, rfl, hpp, ?_, ?_, ?_⟩
    · have := h3.1; simp only; omega
    · have := h3.2.1; simp only; omega
    · have := h3.2.2.1; simp only; omega

/-! ### Merged -/
def mrgT : List TupV → List TupV → List TupV
  | [], [] => []
  | p :: r, [] => ⟨p.x, p.st, p.sl⟩ :: mrgT r []
  | [], q :: s => ⟨q.x, q.st, q.sl⟩ :: mrgT [] s
  | p :: r, q :: s => if p.x ≤ q.x then ⟨p.x, p.st, p.sl + (q.st + q.sl - 1)⟩ :: mrgT r (q :: s) else ⟨q.x, q.st, q.sl + (p.st + p.sl - 1)⟩ :: mrgT (p :: r) s
  termination_by a b => a.length + b.length
theorem mrg_row : ∀ (n : Nat) (la lb na nb : Int) (L M : List TupV), L.length + M.length ≤ n → la + sumT L = na → lb + sumT M = nb → rowT (la + lb) (mrgS na nb la lb (spotsT la L) (spotsT lb M)) = mrgT L M
  | n, la, lb, na, nb, [], [], _, _, _ => by unfold spotsT mrgS mrgT; rfl
  | 0, la, lb, na, nb, p :: r, M, hn, _, _ => by simp at hn
  | 0, la, lb, na, nb, [], q :: s, hn, _, _ => by simp at hn
  | n + 1, la, lb, na, nb, p :: r, [], hn, ha, hb => by
    have ha' : la + (p.st + sumT r) = na := ha
    have hb' : lb + 0 = nb := hb
    have ih := mrg_row n (la + p.st) lb na nb r [] (by simp at hn ⊢; omega) (by omega) hb
    unfold spotsT mrgS mrgT
    show (⟨p.x, la + p.st + lb - (la + lb), la + p.st + p.sl + nb - (la + p.st + lb)⟩ : TupV) :: rowT (la + p.st + lb) _ = _
    have e : spotsT lb [] = [] := rfl
    rw [e] at ih
    rw [ih]
    congr 1
    simp only [TupV.mk.injEq, true_and]
    omega
  | n + 1, la, lb, na, nb, [], q :: s, hn, ha, hb => by
    have ha' : la + 0 = na := ha
    have hb' : lb + (q.st + sumT s) = nb := hb
    have ih := mrg_row n la (lb + q.st) na nb [] s (by simp at hn ⊢; omega) ha (by omega)
    unfold spotsT mrgS mrgT
    show (⟨q.x, lb + q.st + la - (la + lb), lb + q.st + q.sl + na - (lb + q.st + la)⟩ : TupV) :: rowT (lb + q.st + la) _ = _
    have e : spotsT la [] = [] := rfl
    rw [e] at ih
    rw [show lb + q.st + la = la + (lb + q.st) by omega, ih]
    congr 1
    simp only [TupV.mk.injEq, true_and]
    omega
  | n + 1, la, lb, na, nb, p :: r, q :: s, hn, ha, hb => by
    have ha' : la + (p.st + sumT r) = na := ha
    have hb' : lb + (q.st + sumT s) = nb := hb
    have i1 := mrg_row n (la + p.st) lb na nb r (q :: s) (by simp at hn ⊢; omega) (by omega) hb
    have i2 := mrg_row n la (lb + q.st) na nb (p :: r) s (by simp at hn ⊢; omega) ha (by omega)
    have ea : spotsT la (p :: r) = ⟨p.x, la + p.st, la + p.st + p.sl⟩ :: spotsT (la + p.st) r := rfl
    have eb : spotsT lb (q :: s) = ⟨q.x, lb + q.st, lb + q.st + q.sl⟩ :: spotsT (lb + q.st) s := rfl
    rw [ea] at i2 ⊢
    rw [eb] at i1 ⊢
    unfold mrgS mrgT
    simp only
    by_cases c : p.x ≤ q.x
    · rw [if_pos c, if_pos c]
      show (⟨p.x, la + p.st + lb - (la + lb), la + p.st + p.sl + (lb + q.st + q.sl) - 1 - (la + p.st + lb)⟩ : TupV) :: rowT (la + p.st + lb) _ = _
      rw [i1]
      congr 1
      simp only [TupV.mk.injEq, true_and]
      omega
    · rw [if_neg c, if_neg c]
      show (⟨q.x, lb + q.st + la - (la + lb), lb + q.st + q.sl + (la + p.st + p.sl) - 1 - (lb + q.st + la)⟩ : TupV) :: rowT (lb + q.st + la) _ = _
      rw [show lb + q.st + la = la + (lb + q.st) by omega, i2]
      congr 1
      simp only [TupV.mk.injEq, true_and]
      omega
theorem merge_is (L M : List TupV) : mergeT L M = mrgT L M := by
  have h := mrg_row (L.length + M.length) 0 0 (sumT L) (sumT M) L M (Nat.le_refl _) (by omega) (by omega)
  have e1 : totS (spotsT 0 L) = sumT L := by rw [tot_last, last_sum]; omega
  have e2 : totS (spotsT 0 M) = sumT M := by rw [tot_last, last_sum]; omega
  unfold mergeT mergeS
  rw [e1, e2]
  exact h
theorem mergeT_len (L M : List TupV) : (mergeT L M).length = L.length + M.length := by
  unfold mergeT
  rw [row_len, merge_len, spots_len, spots_len]
theorem mrg_a : ∀ (n : Nat) (L M : List TupV), L.length + M.length ≤ n → SortT L → SortT M → ∀ (i : Nat) (p : TupV), L[i]? = some p → (mrgT L M)[i + fromT true p.x M]? = some ⟨p.x, p.st, p.sl + roomT M (fromT true p.x M)⟩
  | n, [], M, _, _, _, i, p, h => by simp at h
  | 0, p0 :: r, M, hn, _, _, i, p, h => by simp at hn
  | n + 1, p0 :: r, [], hn, hL, hM, i, p, h => by
    have ih := mrg_a n r [] (by simp at hn ⊢; omega) (sort_tail hL) hM
    unfold mrgT
    have e : fromT true p.x [] = 0 := rfl
    have e2 : roomT [] 0 = 0 := rfl
    rw [e, e2]
    cases i with
    | zero =>
      have : p0 = p := Option.some.inj h
      subst this
      show some (⟨p0.x, p0.st, p0.sl⟩ : TupV) = _
      rw [Int.add_zero]
    | succ i =>
      have := ih i p h
      rw [e, e2] at this
      exact this
  | n + 1, p0 :: r, q0 :: s, hn, hL, hM, i, p, h => by
    have i1 := mrg_a n r (q0 :: s) (by simp at hn ⊢; omega) (sort_tail hL) hM
    have i2 := mrg_a n (p0 :: r) s (by simp at hn ⊢; omega) hL (sort_tail hM)
    unfold mrgT
    by_cases c : p0.x ≤ q0.x
    · rw [if_pos c]
      cases i with
      | zero =>
        have : p0 = p := Option.some.inj h
        subst this
        have e : fromT true p0.x (q0 :: s) = 0 := from_zero fun u hu => by
          rw [beh_true]
          rcases List.mem_cons.1 hu with e | e
          · rw [e]; exact decide_eq_true c
          · have := sort_head hM u e; exact decide_eq_true (by omega)
        rw [e]
        rfl
      | succ i =>
        have := i1 i p h
        rw [show i + 1 + fromT true p.x (q0 :: s) = i + fromT true p.x (q0 :: s) + 1 by omega, List.getElem?_cons_succ]
        exact this
    · rw [if_neg c]
      have hpx : p0.x ≤ p.x := by
        have hm := List.mem_of_getElem? h
        rcases List.mem_cons.1 hm with e | e
        · rw [e]; exact Int.le_refl _
        · exact sort_head hL p e
      have hb : behB true p.x q0.x = false := by rw [beh_true]; exact decide_eq_false (by omega)
      rw [from_cons, hb, if_neg (by decide), room_cons, ← Nat.add_assoc, List.getElem?_cons_succ]
      exact i2 i p h
theorem mrg_b : ∀ (n : Nat) (L M : List TupV), L.length + M.length ≤ n → SortT L → SortT M → ∀ (k : Nat) (q : TupV), M[k]? = some q → (mrgT L M)[k + fromT false q.x L]? = some ⟨q.x, q.st, q.sl + roomT L (fromT false q.x L)⟩
  | n, L, [], _, _, _, k, q, h => by simp at h
  | 0, L, q0 :: s, hn, _, _, k, q, h => by simp at hn
  | n + 1, [], q0 :: s, hn, hL, hM, k, q, h => by
    have ih := mrg_b n [] s (by simp at hn ⊢; omega) hL (sort_tail hM)
    unfold mrgT
    have e : fromT false q.x [] = 0 := rfl
    have e2 : roomT [] 0 = 0 := rfl
    rw [e, e2]
    cases k with
    | zero =>
      have : q0 = q := Option.some.inj h
      subst this
      show some (⟨q0.x, q0.st, q0.sl⟩ : TupV) = _
      rw [Int.add_zero]
    | succ k =>
      have := ih k q h
      rw [e, e2] at this
      exact this
  | n + 1, p0 :: r, q0 :: s, hn, hL, hM, k, q, h => by
    have i1 := mrg_b n r (q0 :: s) (by simp at hn ⊢; omega) (sort_tail hL) hM
    have i2 := mrg_b n (p0 :: r) s (by simp at hn ⊢; omega) hL (sort_tail hM)
    unfold mrgT
    have hqx : q0.x ≤ q.x := by
      have hm := List.mem_of_getElem? h
      rcases List.mem_cons.1 hm with e | e
      · rw [e]; exact Int.le_refl _
      · exact sort_head hM q e
    by_cases c : p0.x ≤ q0.x
    · rw [if_pos c]
      have hb : behB false q.x p0.x = false := by rw [beh_false]; exact decide_eq_false (by omega)
      rw [from_cons, hb, if_neg (by decide), room_cons, ← Nat.add_assoc, List.getElem?_cons_succ]
      exact i1 k q h
    · rw [if_neg c]
      cases k with
      | zero =>
        have : q0 = q := Option.some.inj h
        subst this
        have e : fromT false q0.x (p0 :: r) = 0 := from_zero fun u hu => by
          rw [beh_false]
          rcases List.mem_cons.1 hu with e | e
          · rw [e]; exact decide_eq_true (by omega)
          · have := sort_head hL u e; exact decide_eq_true (by omega)
        rw [e]
        rfl
      | succ k =>
        have := i2 k q h
        rw [show k + 1 + fromT false q.x (p0 :: r) = k + fromT false q.x (p0 :: r) + 1 by omega, List.getElem?_cons_succ]
        exact this
/-- Each place is one row's or the other's. -/
theorem mrg_cover : ∀ (n : Nat) (L M : List TupV), L.length + M.length ≤ n → SortT L → SortT M → ∀ m, m < L.length + M.length → (∃ i p, L[i]? = some p ∧ m = i + fromT true p.x M) ∨ ∃ k q, M[k]? = some q ∧ m = k + fromT false q.x L
  | n, [], [], _, _, _, m, h => by simp at h
  | 0, p0 :: r, M, hn, _, _, m, h => by simp at hn
  | 0, [], q0 :: s, hn, _, _, m, h => by simp at hn
  | n + 1, p0 :: r, [], hn, hL, hM, m, h => by
    have hm : m < (p0 :: r).length := by simpa using h
    exact Or.inl ⟨m, _, List.getElem?_eq_getElem hm, rfl⟩
  | n + 1, [], q0 :: s, hn, hL, hM, m, h => by
    have hm : m < (q0 :: s).length := by simpa using h
    exact Or.inr ⟨m, _, List.getElem?_eq_getElem hm, rfl⟩
  | n + 1, p0 :: r, q0 :: s, hn, hL, hM, m, h => by
    by_cases c : p0.x ≤ q0.x
    · cases m with
      | zero =>
        refine Or.inl ⟨0, p0, rfl, ?_⟩
        have e : fromT true p0.x (q0 :: s) = 0 := from_zero fun u hu => by
          rw [beh_true]
          rcases List.mem_cons.1 hu with e | e
          · rw [e]; exact decide_eq_true c
          · have := sort_head hM u e; exact decide_eq_true (by omega)
        rw [e]
      | succ m =>
        rcases mrg_cover n r (q0 :: s) (by simp at hn ⊢; omega) (sort_tail hL) hM m (by simp at h ⊢; omega) with ⟨i, p, hi, e⟩ | ⟨k, q, hk, e⟩
        · exact Or.inl ⟨i + 1, p, hi, by omega⟩
        · refine Or.inr ⟨k, q, hk, ?_⟩
          have hqx : q0.x ≤ q.x := by
            have hm := List.mem_of_getElem? hk
            rcases List.mem_cons.1 hm with e | e
            · rw [e]; exact Int.le_refl _
            · exact sort_head hM q e
          have hb : behB false q.x p0.x = false := by rw [beh_false]; exact decide_eq_false (by omega)
          rw [from_cons, hb, if_neg (by decide)]
          omega
    · cases m with
      | zero =>
        refine Or.inr ⟨0, q0, rfl, ?_⟩
        have e : fromT false q0.x (p0 :: r) = 0 := from_zero fun u hu => by
          rw [beh_false]
          rcases List.mem_cons.1 hu with e | e
          · rw [e]; exact decide_eq_true (by omega)
          · have := sort_head hL u e; exact decide_eq_true (by omega)
        rw [e]
      | succ m =>
        rcases mrg_cover n (p0 :: r) s (by simp at hn ⊢; omega) hL (sort_tail hM) m (by simp at h ⊢; omega) with ⟨i, p, hi, e⟩ | ⟨k, q, hk, e⟩
        · refine Or.inl ⟨i, p, hi, ?_⟩
          have hpx : p0.x ≤ p.x := by
            have hm := List.mem_of_getElem? hi
            rcases List.mem_cons.1 hm with e | e
            · rw [e]; exact Int.le_refl _
            · exact sort_head hL p e
          have hb : behB true p.x q0.x = false := by rw [beh_true]; exact decide_eq_false (by omega)
          rw [from_cons, hb, if_neg (by decide)]
          omega
        · exact Or.inr ⟨k + 1, q, hk, by omega⟩
/-- Where a row's tuples are laid, and what. -/
def layI (same : Bool) (M : List TupV) (i : Nat) (p : TupV) : Nat := i + fromT same p.x M
def layV (same : Bool) (M : List TupV) (p : TupV) : TupV := ⟨p.x, p.st, p.sl + roomT M (fromT same p.x M)⟩
theorem lay_a {L M : List TupV} (hL : SortT L) (hM : SortT M) {i : Nat} {p : TupV} (h : L[i]? = some p) : (mergeT L M)[layI true M i p]? = some (layV true M p) := by rw [merge_is]; exact mrg_a _ L M (Nat.le_refl _) hL hM i p h
theorem lay_b {L M : List TupV} (hL : SortT L) (hM : SortT M) {i : Nat} {p : TupV} (h : M[i]? = some p) : (mergeT L M)[layI false L i p]? = some (layV false L p) := by rw [merge_is]; exact mrg_b _ L M (Nat.le_refl _) hL hM i p h
/-- All that is laid is laid as merged: so all is merged. -/
theorem lay_all {L M C : List TupV} (hL : SortT L) (hM : SortT M) (hc : C.length = L.length + M.length)
    (ha : ∀ i p, L[i]? = some p → C[layI true M i p]? = (mergeT L M)[layI true M i p]?) (hb : ∀ i p, M[i]? = some p → C[layI false L i p]? = (mergeT L M)[layI false L i p]?) : C = mergeT L M := by
  apply List.ext_getElem?
  intro m
  by_cases hm : m < L.length + M.length
  · rcases mrg_cover _ L M (Nat.le_refl _) hL hM m hm with ⟨i, p, hi, e⟩ | ⟨i, p, hi, e⟩
    · rw [e]; exact ha i p hi
    · rw [e]; exact hb i p hi
  · rw [List.getElem?_eq_none (by omega), List.getElem?_eq_none (by rw [mergeT_len]; omega)]
end Go.Proofs.YtfmlkohijkalbaaGreat

/-
  Walks: the landed package tuples: gap, room, Total, Limit, Good.
-/
namespace Go.Proofs.YtfmlkohijkalbaaGreat
set_option linter.unusedVariables false
set_option linter.unusedSimpArgs false
open Go.RowKit

set_option maxHeartbeats 400000 in
theorem tgap_any (w : World) (a b g : Int) (ha : Word a) (hb : Word b) (hg : (if b < a then 0 else b - a) = g) :
    Calls Tryz.prog 58 #[.int .u64 a, .int .u64 b] w fun e w' => e = .returned (.int .u64 g) ∧ w' = w := by
  obtain ⟨a0, a1⟩ := ha
  obtain ⟨b0, b1⟩ := hb
  by_cases c : b < a
  · rw [if_pos c] at hg
    subst hg
    go_enter Tryz.func58, Tryz.ntmps58
    go_wp2_with fail
    go_ret
    exact ⟨rfl, rfl⟩
  · rw [if_neg c] at hg
    have u : IntKind.u64.wrap (b - a) = b - a := by rw [IntKind.wrap_u64]; omega
    have HG := Lib.hid hg
    clear hg
    go_enter Tryz.func58, Tryz.ntmps58
    go_wp2_with fail
    go_ret
    exact ⟨ret_int HG.out, rfl⟩

set_option maxRecDepth 100000 in
set_option maxHeartbeats 1000000 in
theorem troom_any (w : World) (A : Option Addr) (cap n k : Nat) (L : List TupV) (r : Int) (h : Tups w A L) (hn : L.length = n) (hk : k ≤ n) (hl : n ≤ 100000) (hg : ∀ p, L[k]? = some p → 0 < p.st ∧ 0 ≤ p.sl ∧ p.st + p.sl ≤ 9223372036854775807) (hr : roomT L k = r) :
    Calls Tryz.prog 66 #[.slice A n cap, .int .i64 k] w fun e w' => e = .returned (.int .u64 r) ∧ Below w.heap.size w w' := by
  by_cases hlt : k < n
  · have kk : ((k : Int) == (n : Int)) = false := by rw [beq_eq_false_iff_ne]; omega
    have k2 : (k : Int) < (n : Int) := by omega
    have hx := List.getElem?_eq_getElem (l := L) (i := k) (by omega)
    generalize L[k]'(by omega) = p at hx
    obtain ⟨px, ps, pl⟩ := p
    obtain ⟨g1, g2, g3⟩ := hg _ hx
    obtain ⟨b0, off, rfl, hbl, c0, c1, c2⟩ := h.at_ k _ hx
    rw [room_some hx] at hr
    simp only at g1 g2 g3 c0 c1 c2 hr
    have u1 : IntKind.u64.wrap (ps + pl) = ps + pl := by rw [IntKind.wrap_u64]; omega
    have u2 : IntKind.u64.wrap (ps + pl - 1) = ps + pl - 1 := by rw [IntKind.wrap_u64]; omega
    have HR := Lib.hid hr
    clear hr hx h hg hn
    go_enter Tryz.func66, Tryz.ntmps66
    go_wp2_with fail
    go_quiet (fail)
    go_wp2_with fail
    go_ret
    exact ⟨ret_int HR.out, below_drewT (Below.refl _ _) _⟩
  · obtain rfl : k = n := by omega
    have hr0 : (0 : Int) = r := by rw [← hr, ← hn, room_none]
    have HR := Lib.hid hr0
    have kk : ((k : Int) == (k : Int)) = true := by simp
    clear hr hr0 h hg hn
    go_enter Tryz.func66, Tryz.ntmps66
    go_wp2_with fail
    go_ret
    exact ⟨ret_int HR.out, Below.refl _ _⟩

theorem st_all {w : World} {A : Option Addr} {L : List TupV} (h : Tups w A L) : ∀ p, p ∈ L → 0 ≤ p.st := fun p hp => (h.ok p hp).2.1.1

set_option maxRecDepth 100000 in
set_option maxHeartbeats 2000000 in
theorem ttotal_any (w : World) (A : Option Addr) (cap : Nat) (L : List TupV) (n : Int) (b : Bool) (h : Tups w A L) (hl : L.length ≤ 140737488351232) (hn : sumT L ≤ 9223372036854775807 ∧ n = sumT L ∧ b = true ∨ 9223372036854775807 < sumT L ∧ n = 0 ∧ b = false) :
    Calls Tryz.prog 62 #[.slice A L.length cap] w fun e w' => e = .returned (.tuple #[.int .u64 n, .bool b]) ∧ Below w.heap.size w w' := by
  have HI := Lib.hid h
  have HN := Lib.hid hn
  have HL := Lib.hid hl
  have HS := Lib.hid (sumT_take (st_all h))
  obtain ⟨N, hN⟩ : ∃ N, L.length = N := ⟨_, rfl⟩
  have HNN := Lib.hid hN
  have hl2 : N ≤ 140737488351232 := by omega
  rw [hN]
  clear h hn hl hN
  go_enter Tryz.func62, Tryz.ntmps62
  go_wp2_with fail
  go_loopw [4, 11] (fun s j wr => ∃ (k : Nat) (m : Int), k ≤ N ∧ j = .int .i64 k ∧ s = .int .u64 m ∧ sumT (L.take k) = m ∧ m ≤ 9223372036854775807 ∧ Below w.heap.size w wr) (fun _ j _ => N - (intOf j).toNat)
  case atStart => exact ⟨0, 0, Nat.zero_le _, rfl, rfl, rfl, by decide, Below.refl _ _⟩
  case round =>
    obtain ⟨k, m, hk, rfl, rfl, hm, hm1, hb2⟩ := hrel
    have HM := Lib.hid hm
    have m0 := (HS.out k).1
    rw [hm] at m0
    have hbs := hb2.size
    have HB := Lib.hid hb2
    clear hm hb2
    by_cases hlt : k < N
    · have kk : (k : Int) < N := by omega
      have hxk := List.getElem?_eq_getElem (l := L) (i := k) (by rw [HNN.out]; exact hlt)
      generalize L[k]'(by rw [HNN.out]; exact hlt) = p at hxk
      obtain ⟨px, ps, pl⟩ := p
      obtain ⟨b0, off, rfl, hbl, c0, c1, c2⟩ := (HI.out.call HB.out).at_ k _ hxk
      have hok := (HI.out.ok _ (List.mem_of_getElem? hxk)).2.1
      have hst := sumT_step hxk
      simp only at c0 c1 c2 hst hok
      rw [HM.out] at hst
      have s1 := (HS.out (k + 1))
      rw [hst] at s1
      have HST := Lib.hid hst
      obtain ⟨o3, o4⟩ := hok
      obtain ⟨q, hq⟩ : ∃ q, plus2Q m ps = q := ⟨_, rfl⟩
      obtain ⟨ok, hok2⟩ : ∃ ok, plus2B m ps = ok := ⟨_, rfl⟩
      have HQ := Lib.hid hq
      have HOK := Lib.hid hok2
      have HSM := Lib.hid s1
      clear hxk hst hq hok2 s1
      go_wp2_with fail
      refine (plus_two m ps q ok _ _ _ ⟨by omega, by omega⟩ ⟨by omega, by omega⟩ (by go_simp) (by go_simp) HQ.out HOK.out).mono ?_
      rintro e w' ⟨rfl, rfl⟩
      cases ok with
      | true =>
        have HQ2 : Hid (q = m + ps ∧ m + ps ≤ 9223372036854775807) := Lib.hid (by
          have h1 := HOK.out; unfold plus2B at h1
          have h2 := HQ.out; unfold plus2Q plus2B at h2; rw [h1] at h2
          exact ⟨h2.symm, of_decide_eq_true h1⟩)
        go_wp2_with fail
        go_roundw
        case rel => exact ⟨k + 1, q, by omega, by go_num, rfl, by rw [HST.out, HQ2.out.1], by rw [HQ2.out.1]; exact HQ2.out.2, (HB.out.alloc hbs _).alloc (by simp; omega) _⟩
        case measure => simp [intOf]; omega
      | false =>
        have HE : Hid (n = 0 ∧ b = false) := Lib.hid (by
          have h1 := HOK.out; unfold plus2B at h1
          have h2 := of_decide_eq_false h1
          have h3 := HSM.out.2
          rcases HN.out with ⟨e, _⟩ | ⟨_, e1, e2⟩
          · omega
          · exact ⟨e1, e2⟩)
        go_wp2_with fail
        go_ret2
        exact ⟨ret_pair HE.out.1.symm HE.out.2.symm, (HB.out.alloc hbs _).alloc (by simp; omega) _⟩
    · obtain rfl : k = N := by omega
      have HE : Hid (m = n ∧ true = b) := Lib.hid (by
        have h1 := HM.out
        rw [List.take_of_length_le (by rw [HNN.out]; exact Nat.le_refl _)] at h1
        rcases HN.out with ⟨_, e1, e2⟩ | ⟨e, _⟩
        · exact ⟨by omega, e2.symm⟩
        · omega)
      have kk : ¬ (k : Int) < k := by omega
      go_wp2_with fail
      go_ret2
      exact ⟨ret_pair HE.out.1 HE.out.2, HB.out⟩

set_option maxRecDepth 100000 in
set_option maxHeartbeats 1000000 in
theorem tlimit_any (w : World) (a b n m : Int) (a0 : 0 ≤ a) (a1 : a ≤ 2147483648) (hb : Word b) (hn : Word n) (hm : limT a b n = m) :
    Calls Tryz.prog 51 #[.agg #[.int .u64 a, .int .u64 b], .int .u64 n] w fun e w' => e = .returned (.int .u64 m) ∧ Below w.heap.size w w' := by
  have hF := fun w => floor_any (2 * a) n b ⟨by omega, by omega⟩ hn hb w
  obtain ⟨q, hq⟩ : ∃ q, ovQ (2 * a * n) b = q := ⟨_, rfl⟩
  obtain ⟨ok, hok⟩ : ∃ ok, ovB (2 * a * n) b = ok := ⟨_, rfl⟩
  have hqw : Word q := by rw [← hq]; exact (ov_word (Int.mul_nonneg (by omega) hn.1) hb).1
  unfold limT at hm
  rw [hq, hok] at hm
  rw [hq, hok] at hF
  have HF := Lib.hid hF
  have HM := Lib.hid hm
  have u1 : IntKind.u64.wrap (2 * a) = 2 * a := by rw [IntKind.wrap_u64]; omega
  obtain ⟨q0, q1⟩ := hqw
  obtain ⟨n0, n1⟩ := hn
  obtain ⟨b0, b1⟩ := hb
  have hbx : Below w.heap.size w (w.alloc (.cells #[.int .u64 a, .int .u64 b] 24)) := (Below.refl _ _).alloc (Nat.le_refl _) _
  have HBX := Lib.hid hbx
  clear hF hm hq hok hbx
  cases ok with
  | false =>
    have HE : Hid (n = m) := Lib.hid HM.out
    go_enter Tryz.func51, Tryz.ntmps51
    go_wp2_with fail
    refine (HF.out _).mono ?_
    rintro e w2 ⟨rfl, hb2⟩
    have HB2 := Lib.hid hb2
    clear hb2
    go_wp2_with fail
    go_ret
    exact ⟨ret_int HE.out, HBX.out.trans (HB2.out.mono HBX.out.size)⟩
  | true =>
    have HE : Hid (max q 1 = m) := Lib.hid HM.out
    go_enter Tryz.func51, Tryz.ntmps51
    go_wp2_with fail
    refine (HF.out _).mono ?_
    rintro e w2 ⟨rfl, hb2⟩
    have HB2 := Lib.hid hb2
    clear hb2
    go_wp2_with fail
    go_ret
    exact ⟨ret_int HE.out, HBX.out.trans (HB2.out.mono HBX.out.size)⟩

set_option maxRecDepth 100000 in
set_option maxHeartbeats 4000000 in
theorem tgood_any (w : World) (A : Option Addr) (cap : Nat) (L : List TupV) (b : Bool) (h : Tups w A L) (hl : L.length ≤ 20000) (hb : b = true ↔ GoodT L) :
    Calls Tryz.prog 61 #[.slice A L.length cap] w fun e w' => e = .returned (.bool b) ∧ Below w.heap.size w w' := by
  have hgc := good_can (L := L) (fun p hp => (h.ok p hp).2.2.1)
  rw [hgc] at hb
  have HB := Lib.hid hb
  have HI := Lib.hid h
  have HS := Lib.hid (sumT_take (st_all h))
  obtain ⟨N, hN⟩ : ∃ N, L.length = N := ⟨_, rfl⟩
  have HN := Lib.hid hN
  have hN2 : N ≤ 20000 := by omega
  by_cases hx : sumT L ≤ 9223372036854775807
  · obtain ⟨n, hn⟩ : ∃ n, sumT L = n := ⟨_, rfl⟩
    have hT := ttotal_any w A cap L n true h (by omega) (Or.inl ⟨hx, hn.symm, rfl⟩)
    rw [hN] at hT ⊢
    have HT := Lib.hid hT
    have HSN := Lib.hid hn
    have n0 : 0 ≤ n := by have := (HS.out 0).1; have := (HS.out 0).2; omega
    have n1 : n ≤ 9223372036854775807 := by omega
    have HBT : Hid (CanT n 0 none L → true = b) := Lib.hid fun hc => (HB.out.2 ⟨hx, by rw [hn]; exact hc⟩).symm
    have HBF : Hid (¬ CanT n 0 none L → false = b) := Lib.hid fun hc => by
      cases b with
      | false => rfl
      | true => exact absurd (by have := (HB.out.1 rfl).2; rw [hn] at this; exact this) hc
    clear hT hb h hn hx hl hN HB hgc
    go_enter Tryz.func61, Tryz.ntmps61
    go_wp2_with fail
    refine HT.out.mono ?_
    rintro e w1 ⟨rfl, hb1⟩
    have HB1 := Lib.hid hb1
    have hs1 := hb1.size
    clear hb1
    go_wp2_with fail
    go_loopw [5, 17] (fun s j wr => ∃ (k : Nat) (m : Int), k ≤ N ∧ j = .int .i64 k ∧ s = .int .u64 m ∧ sumT (L.take k) = m ∧ CanT n 0 none (L.take k) ∧ Below w.heap.size w wr) (fun _ j _ => N - (intOf j).toNat)
    case atStart => exact ⟨0, 0, Nat.zero_le _, rfl, rfl, rfl, trivial, HB1.out⟩
    case round =>
      obtain ⟨k, m, hk, rfl, rfl, hm, hc, hb2⟩ := hrel
      have HM := Lib.hid hm
      have HC := Lib.hid hc
      have m0 := (HS.out k).1
      rw [hm] at m0
      have hbs := hb2.size
      have HB2 := Lib.hid hb2
      clear hm hc hb2
      by_cases hlt : k < N
      · have kk : (k : Int) < N := by omega
        have hxk := List.getElem?_eq_getElem (l := L) (i := k) (by rw [HN.out]; exact hlt)
        generalize L[k]'(by rw [HN.out]; exact hlt) = p at hxk
        obtain ⟨px, ps, pl⟩ := p
        obtain ⟨b0, off, rfl, hbl, c0, c1, c2⟩ := (HI.out.call HB2.out).at_ k _ hxk
        have hok := HI.out.ok _ (List.mem_of_getElem? hxk)
        have hst := sumT_step hxk
        have hcs := can_step (n := n) hxk
        simp only at c0 c1 c2 hst hcs
        rw [HM.out] at hst hcs
        have s1 := (HS.out (k + 1)).2
        rw [hst, HSN.out] at s1
        have HST := Lib.hid hst
        have HCS := Lib.hid hcs
        obtain ⟨⟨x0, x1⟩, ⟨o3, o4⟩, o5, o6⟩ := hok
        simp only at x0 x1 o3 o4 o5 o6
        have HNO : Hid (¬ CanT n 0 none (L.take (k + 1)) → false = b) := Lib.hid fun hc => HBF.out fun hc' => hc (can_take _ hc')
        have hbn : Below w.heap.size w (wr.alloc (.cells #[.int .i64 px, .int .u64 ps, .int .u64 pl] 75)) := HB2.out.alloc hbs _
        have HBN := Lib.hid hbn
        have u1 : IntKind.u64.wrap (m + ps) = m + ps := by rw [IntKind.wrap_u64]; omega
        have u2 : IntKind.u64.wrap (n - (m + ps)) = n - (m + ps) := by rw [IntKind.wrap_u64]; omega
        clear hst hcs hbn
        by_cases k0 : k = 0
        · have e1 : ((k : Int) == 0) = true := by simp [k0]
          have e2 : decide ((0 : Int) < (k : Int)) = false := decide_eq_false (by omega)
          have e3 : ¬ (0 : Int) < (k : Int) := by omega
          have e2n : decide (0 < k) = false := decide_eq_false (by omega)
          have e3n : ¬ 0 < k := by omega
          have HK0 := Lib.hid k0
          clear k0 hxk
          by_cases q1 : ps = 1
          · by_cases q2 : pl = 0
            · have f1 : (ps == 1) = true := by simp [q1]
              have f2 : (ps != 1) = false := by simp [q1]
              have f3 : (pl == 0) = true := by simp [q2]
              have f4 : (pl != 0) = false := by simp [q2]
              have f5 : (ps == 0) = false := by simp [q1]
              have f6 : decide (n - (m + ps) < pl) = false := decide_eq_false (by omega)
              have f7 : ¬ (n - (m + ps) < pl) := by omega
              have HCN : Hid (CanT n 0 none (L.take (k + 1))) := Lib.hid (HCS.out.2 ⟨HC.out, by omega, by omega, fun _ => ⟨q1, q2⟩, fun y hy => absurd hy e3n⟩)
              clear q1 q2
              go_wp2_with fail
              go_quiet (fail)
              go_wp2_with fail
              go_roundw
              case rel => exact ⟨k + 1, m + ps, by omega, by go_num, rfl, HST.out, HCN.out, below_drewT HBN.out _⟩
              case measure => simp [intOf]; omega
            · have f1 : (ps == 1) = true := by simp [q1]
              have f2 : (ps != 1) = false := by simp [q1]
              have f3 : (pl == 0) = false := by simp [q2]
              have f4 : (pl != 0) = true := by simp [q2]
              have HE := Lib.hid (HNO.out fun hc => q2 ((HCS.out.1 hc).2.2.2.1 HK0.out).2)
              clear q1 q2
              go_wp2_with fail
              go_quiet (fail)
              go_wp2_with fail
              go_ret
              exact ⟨ret_bool HE.out, below_drewT HBN.out _⟩
          · have f1 : (ps == 1) = false := by simp [q1]
            have f2 : (ps != 1) = true := by simp [q1]
            have HE := Lib.hid (HNO.out fun hc => q1 ((HCS.out.1 hc).2.2.2.1 HK0.out).1)
            clear q1
            go_wp2_with fail
            go_quiet (fail)
            go_wp2_with fail
            go_ret
            exact ⟨ret_bool HE.out, below_drewT HBN.out _⟩
        · have e1 : ((k : Int) == 0) = false := by rw [beq_eq_false_iff_ne]; omega
          have e2 : decide ((0 : Int) < (k : Int)) = true := decide_eq_true (by omega)
          have e3 : (0 : Int) < (k : Int) := by omega
          have e2n : decide (0 < k) = true := decide_eq_true (by omega)
          have e3n : 0 < k := by omega
          obtain ⟨j, hj⟩ : ∃ j, k = j + 1 := ⟨k - 1, by omega⟩
          have hxj := List.getElem?_eq_getElem (l := L) (i := j) (by rw [HN.out]; omega)
          generalize L[j]'(by rw [HN.out]; omega) = q at hxj
          obtain ⟨qx, qs, ql⟩ := q
          obtain ⟨b0', off', e, hbl', d0, _, _⟩ := (HI.out.call HB2.out).at_ j _ hxj
          obtain ⟨rfl, rfl, _⟩ := Addr.mk.inj (Option.some.inj e)
          have hxo := HI.out.ok _ (List.mem_of_getElem? hxj)
          obtain ⟨⟨y0, y1⟩, _⟩ := hxo
          simp only at d0 y0 y1
          have hw : IntKind.i64.wrap ((k : Int) - 1) = (j : Int) := by rw [IntKind.wrap_i64]; omega
          have kj : (j : Int) < N := by omega
          have hmap : (L[k - 1]?).map TupV.x = some qx := by rw [show k - 1 = j by omega, hxj]; rfl
          have HMP := Lib.hid hmap
          have HK0 : Hid (¬ k = 0) := Lib.hid k0
          clear hmap hxj hxk hj k0 e
          by_cases q1 : px < qx
          · have f1 : decide (px < qx) = true := decide_eq_true q1
            have HE := Lib.hid (HNO.out fun hc => by have := (HCS.out.1 hc).2.2.2.2 qx e3n HMP.out; omega)
            go_wp2_with fail
            go_quiet (fail)
            go_wp2_with fail
            go_ret
            exact ⟨ret_bool HE.out, below_drewT HBN.out _⟩
          · have f1 : decide (px < qx) = false := decide_eq_false q1
            by_cases q2 : ps = 0
            · have f5 : (ps == 0) = true := by simp [q2]
              have HE := Lib.hid (HNO.out fun hc => by have := (HCS.out.1 hc).2.1; omega)
              clear q2
              go_wp2_with fail
              go_quiet (fail)
              go_wp2_with fail
              go_ret
              exact ⟨ret_bool HE.out, below_drewT HBN.out _⟩
            · have f5 : (ps == 0) = false := by simp [q2]
              by_cases q3 : n - (m + ps) < pl
              · have f6 : decide (n - (m + ps) < pl) = true := decide_eq_true q3
                have HE := Lib.hid (HNO.out fun hc => by have := (HCS.out.1 hc).2.2.1; omega)
                clear q2
                go_wp2_with fail
                go_quiet (fail)
                go_wp2_with fail
                go_ret
                exact ⟨ret_bool HE.out, below_drewT HBN.out _⟩
              · have f6 : decide (n - (m + ps) < pl) = false := decide_eq_false q3
                have HCN : Hid (CanT n 0 none (L.take (k + 1))) := Lib.hid (HCS.out.2 ⟨HC.out, by omega, by omega, fun e => absurd e HK0.out, fun y hy ey => by rw [HMP.out] at ey; rw [← Option.some.inj ey]; omega⟩)
                clear q2
                go_wp2_with fail
                go_quiet (fail)
                go_wp2_with fail
                go_roundw
                case rel => exact ⟨k + 1, m + ps, by omega, by go_num, rfl, HST.out, HCN.out, below_drewT HBN.out _⟩
                case measure => simp [intOf]; omega
      · obtain rfl : k = N := by omega
        have HE : Hid (true = b) := Lib.hid (HBT.out (by
          have h1 := HC.out
          rw [List.take_of_length_le (by rw [HN.out]; exact Nat.le_refl _)] at h1
          exact h1))
        have kk : ¬ (k : Int) < k := by omega
        go_wp2_with fail
        go_ret
        exact ⟨ret_bool HE.out, HB2.out⟩
  · have hT := ttotal_any w A cap L 0 false h (by omega) (Or.inr ⟨by omega, rfl, rfl⟩)
    rw [hN] at hT ⊢
    have HT := Lib.hid hT
    have HE : Hid (false = b) := Lib.hid (by
      cases b with
      | false => rfl
      | true => exact absurd (hb.1 rfl).1 hx)
    clear hT hb h hx hl hN HB hgc
    go_enter Tryz.func61, Tryz.ntmps61
    go_wp2_with fail
    refine HT.out.mono ?_
    rintro e w1 ⟨rfl, hb1⟩
    go_wp2_with fail
    go_ret
    exact ⟨ret_bool HE.out, hb1⟩
end Go.Proofs.YtfmlkohijkalbaaGreat

/-
  The library contract of sort.Search, laid at this translation by program.
-/
namespace Go.Proofs
open Go.Shelf
def Tryz.search_ren : Go.Shelf.Ren := ⟨fun | 16 => 69 | n => n, fun | 3 => 3 | 35 => 116 | 4 => 4 | 38 => 112 | n => n, fun | n => n⟩
theorem Tryz.search : Go.Proofs.SlLaysO.n16 Tryz.prog Tryz.search_ren := {
  mixed := by kernel_rfl
  f16 := Tryz.func69.trans (congrArg some (by kernel_rfl))
  t3 := Tryz.underlying3
  a3 := Tryz.isAgg3
  z3 := Tryz.sizeOf3
  v3 := Tryz.zeroValue3
  t4 := Tryz.underlying4
  a4 := Tryz.isAgg4
  z4 := Tryz.sizeOf4
  v4 := Tryz.zeroValue4
  t35 := Tryz.underlying116
  a35 := Tryz.isAgg116
  z35 := Tryz.sizeOf116
  v35 := Tryz.zeroValue116
  t38 := Tryz.underlying112
  a38 := Tryz.isAgg112
  z38 := Tryz.sizeOf112
  v38 := Tryz.zeroValue112 }
end Go.Proofs

/-
  Walks: the landed package tuples: behind, and what it answers.
-/
namespace Go.Proofs.YtfmlkohijkalbaaGreat
set_option linter.unusedVariables false
set_option linter.unusedSimpArgs false
open Go.RowKit Go.Sort

set_option maxRecDepth 100000 in
set_option maxHeartbeats 1000000 in
/-- One index asked. -/
theorem task_any (w : World) (X Y Z cap n i : Nat) (A : Option Addr) (L : List TupV) (x : Int) (same : Bool) (hi : i < n) (hn : L.length = n) (hl : n ≤ 100000) (hx : I64 x) (h : Tups w A L)
    (cX : w.cell? ⟨X, 0, none⟩ = some (.slice A n cap)) (cY : w.cell? ⟨Y, 0, none⟩ = some (.int .i64 x)) (cZ : w.cell? ⟨Z, 0, none⟩ = some (.bool same)) :
    Calls Tryz.prog 70 (#[.int .i64 i] ++ #[.pointer (some ⟨X, 0, none⟩), .pointer (some ⟨Y, 0, none⟩), .pointer (some ⟨Z, 0, none⟩)]) w fun e w' => e = .returned (.bool (askT same x L i)) ∧ ∃ q, w' = w.drewN q := by
  have hiz : (i : Int) < (n : Int) := by omega
  have hxk := List.getElem?_eq_getElem (l := L) (i := i) (by omega)
  generalize L[i]'(by omega) = p at hxk
  obtain ⟨px, ps, pl⟩ := p
  obtain ⟨b0, off, rfl, hbl, c0, c1, c2⟩ := h.at_ i _ hxk
  have ha : askT same x L i = behB same x px := by unfold askT; rw [hxk]
  obtain ⟨⟨p0, p1⟩, _⟩ := h.ok _ (List.mem_of_getElem? hxk)
  obtain ⟨x0, x1⟩ := hx
  simp only at c0 c1 c2 p0 p1
  rw [ha]
  have HB : Hid (behB same x px = (decide (x < px) || (same && decide (px = x)))) := Lib.hid rfl
  clear ha hxk h hn
  generalize behB same x px = r at *
  by_cases q1 : x < px
  · have f1 : decide (x < px) = true := decide_eq_true q1
    have HE : Hid (true = r) := Lib.hid (by rw [HB.out, f1]; rfl)
    go_enter Tryz.func70, Tryz.ntmps70
    go_wp2_with fail
    go_quiet (fail)
    go_wp2_with fail
    go_ret
    exact ⟨ret_bool HE.out, _, rfl⟩
  · have f1 : decide (x < px) = false := decide_eq_false q1
    cases same with
    | false =>
      have HE : Hid (false = r) := Lib.hid (by rw [HB.out, f1]; rfl)
      go_enter Tryz.func70, Tryz.ntmps70
      go_wp2_with fail
      go_quiet (fail)
      go_wp2_with fail
      go_ret
      exact ⟨ret_bool HE.out, _, rfl⟩
    | true =>
      by_cases q2 : px = x
      · have f2 : (px == x) = true := by simp [q2]
        have HE : Hid (true = r) := Lib.hid (by rw [HB.out, f1, decide_eq_true q2]; rfl)
        clear q2
        go_enter Tryz.func70, Tryz.ntmps70
        go_wp2_with fail
        go_quiet (fail)
        go_wp2_with fail
        go_ret
        exact ⟨ret_bool HE.out, _, rfl⟩
      · have f2 : (px == x) = false := by simp [q2]
        have HE : Hid (false = r) := Lib.hid (by rw [HB.out, f1, decide_eq_false q2]; rfl)
        clear q2
        go_enter Tryz.func70, Tryz.ntmps70
        go_wp2_with fail
        go_quiet (fail)
        go_wp2_with fail
        go_ret
        exact ⟨ret_bool HE.out, _, rfl⟩

theorem grow_belowT {B : Nat} {w : World} (q : Nat) (os : Array Obj) (hB : B ≤ w.heap.size) : Below B w (grow (w.drewN q) os) := below_grown_sl B w q os hB

set_option maxHeartbeats 1000000 in
theorem tsrch_any (w : World) (X Y Z cap n k : Nat) (A : Option Addr) (L : List TupV) (x : Int) (same : Bool) (hn : L.length = n) (hl : n ≤ 100000) (hx : I64 x) (h : Tups w A L) (hs : SortT L)
    (cX : w.cell? ⟨X, 0, none⟩ = some (.slice A n cap)) (cY : w.cell? ⟨Y, 0, none⟩ = some (.int .i64 x)) (cZ : w.cell? ⟨Z, 0, none⟩ = some (.bool same)) (hk : fromT same x L = k) :
    Calls Tryz.prog 69 #[.int .i64 n, .func (.func 70) #[] #[.pointer (some ⟨X, 0, none⟩), .pointer (some ⟨Y, 0, none⟩), .pointer (some ⟨Z, 0, none⟩)]] w fun e w' => e = .returned (.int .i64 k) ∧ Below w.heap.size w w' := by
  have eg : ∀ args w, (callFunc 70 args).run Tryz.prog w = .ok (.enter 70 args) w := enters_of Tryz.func70 (by kernel_rfl) rfl
  have lX := World.block_lt_of_cell? (a := ⟨X, 0, none⟩) w cX
  have lY := World.block_lt_of_cell? (a := ⟨Y, 0, none⟩) w cY
  have lZ := World.block_lt_of_cell? (a := ⟨Z, 0, none⟩) w cZ
  have hS := Any.sort_Search Tryz.search 70 #[.pointer (some ⟨X, 0, none⟩), .pointer (some ⟨Y, 0, none⟩), .pointer (some ⟨Z, 0, none⟩)] n (fun i => askT same x L i) w eg (by omega)
    (fun q os i hi => (task_any _ X Y Z cap n i A L x same hi hn hl hx (h.call (grow_belowT q os (Nat.le_refl _))) (cell_grown lX cX q os) (cell_grown lY cY q os) (cell_grown lZ cZ q os)).mono
      fun _ _ ⟨he, q, hq⟩ => ⟨he, q, #[], by rw [hq, grow_empty]⟩)
    (fun a b hab hb ha => ask_mono hs (by omega) (by rw [hn]; exact hb) ha)
  have e : (List.range n).countP (fun i => !askT same x L i) = k := by rw [← hn, ask_count]; exact hk
  rw [e] at hS
  refine hS.mono ?_
  rintro e w' ⟨rfl, q, os, rfl⟩
  exact ⟨rfl, grow_belowT q os (Nat.le_refl _)⟩

/-- What behind's answer holds: its two boxes. -/
structure BoxT (w : World) (X Z : Nat) (A : Option Addr) (n cap : Nat) (same : Bool) : Prop where
  cX : w.cell? ⟨X, 0, none⟩ = some (.slice A n cap)
  cZ : w.cell? ⟨Z, 0, none⟩ = some (.bool same)
theorem BoxT.call {w w' : World} {X Z : Nat} {A : Option Addr} {n cap : Nat} {same : Bool} (h : BoxT w X Z A n cap same) (hb : Below w.heap.size w w') : BoxT w' X Z A n cap same := ⟨cell_later hb h.cX, cell_later hb h.cZ⟩

set_option maxHeartbeats 1000000 in
/-- What behind's answer answers. -/
theorem tfrom_any (w : World) (X Z cap n k : Nat) (A : Option Addr) (L : List TupV) (x : Int) (same : Bool) (hn : L.length = n) (hl : n ≤ 100000) (hx : I64 x) (h : Tups w A L) (hs : SortT L) (hb : BoxT w X Z A n cap same) (hk : fromT same x L = k) :
    Calls Tryz.prog 68 (#[.int .i64 x] ++ #[.pointer (some ⟨X, 0, none⟩), .pointer (some ⟨Z, 0, none⟩)]) w fun e w' => e = .returned (.int .i64 k) ∧ Below w.heap.size w w' := by
  have hbx : Below w.heap.size w (w.alloc (.cells #[.int .i64 x] 2)) := (Below.refl _ _).alloc (Nat.le_refl _) _
  have HBX := Lib.hid hbx
  have HT := Lib.hid (h.call hbx)
  have HX := Lib.hid (hb.call hbx)
  have HS := Lib.hid hs
  have HK := Lib.hid hk
  have HN := Lib.hid hn
  have HI := Lib.hid hx
  have cX := (hb.call hbx).cX
  clear hbx h hb hs hk hn hx
  go_enter Tryz.func68, Tryz.ntmps68
  go_wp2_with fail
  refine (tsrch_any _ X w.heap.size Z cap n k A L x same HN.out hl HI.out HT.out HS.out HX.out.cX (by go_simp) HX.out.cZ HK.out).mono ?_
  rintro e w3 ⟨rfl, hb3⟩
  have HB3 := Lib.hid hb3
  clear hb3
  go_wp2_with fail
  go_ret
  exact ⟨rfl, HBX.out.trans (HB3.out.mono HBX.out.size)⟩

theorem boxT_new (w : World) (A : Option Addr) (n cap : Nat) (same : Bool) : BoxT ((w.alloc (.cells #[.slice A n cap] 56)).alloc (.cells #[.bool same] 4)) w.heap.size (w.heap.size + 1) A n cap same := by
  have h1 : (w.alloc (.cells #[.slice A n cap] 56)).cell? ⟨w.heap.size, 0, none⟩ = some (.slice A n cap) := by
    rw [Joins.cell_of_block (heap_alloc_new w _)]; rfl
  have h2 := Joins.cell_of_block (i := 0) (heap_alloc_new (w.alloc (.cells #[.slice A n cap] 56)) (.cells #[.bool same] 4))
  have e : (w.alloc (.cells #[.slice A n cap] 56)).heap.size = w.heap.size + 1 := by simp
  rw [e] at h2
  exact ⟨cell_later ((Below.refl _ _).alloc (Nat.le_refl _) _) h1, by rw [h2]; rfl⟩

set_option maxHeartbeats 1000000 in
theorem tbehind_any (w : World) (A : Option Addr) (n cap : Nat) (same : Bool) :
    Calls Tryz.prog 49 #[.slice A n cap, .bool same] w fun e w' => e = .returned (.func (.func 68) #[] #[.pointer (some ⟨w.heap.size, 0, none⟩), .pointer (some ⟨w.heap.size + 1, 0, none⟩)]) ∧ BoxT w' w.heap.size (w.heap.size + 1) A n cap same ∧ Below w.heap.size w w' := by
  have HB := Lib.hid (boxT_new w A n cap same)
  go_enter Tryz.func49, Tryz.ntmps49
  go_wp2_with fail
  go_ret
  exact ⟨rfl, HB.out, ((Below.refl _ _).alloc (Nat.le_refl _) _).alloc (by simp) _⟩
end Go.Proofs.YtfmlkohijkalbaaGreat

/-
  A row of tuples that may be written; walk: the library's slices.Insert of one tuple into such a row: in its own room, or in a new block. (Written by tools/gen_tpc_i.py.)
-/
namespace Go.Proofs.YtfmlkohijkalbaaGreat
set_option linter.unusedVariables false
set_option linter.unusedSimpArgs false
open Go.RowKit

theorem set_cells8T {w : World} {b : Nat} {cs : Array Value} {t : TypeId} (h : w.heap[b]? = some (.cells cs t (0, 0))) (o : Nat) (u : Value) : (w.setCell ⟨b, o, none⟩ u).heap[b]? = some (.cells (cs.setIfInBounds o u) t (0, 0)) := by
  have hlt := lt_of_block h
  have h' : w.heap[b] = .cells cs t (0, 0) := by simpa [Array.getElem?_eq_getElem hlt] using h
  show (w.heap.modify b _)[b]? = _
  rw [Array.getElem?_eq_getElem (by simpa using hlt), Array.getElem_modify_self, h']
  rfl
theorem free8T {w : World} {b : Nat} {cs : Array Value} {t : TypeId} (h : w.heap[b]? = some (.cells cs t (0, 0))) (o : Nat) : w.frozen? ⟨b, o, none⟩ = false := by simp [World.frozen?, h]
theorem grown_reflT (w : World) (r : Option Nat) : w.grownBy w r := ⟨rfl, rfl, rfl, Nat.le_refl _, fun _ _ _ => rfl⟩
theorem grown_transT {w w1 w2 : World} {r : Option Nat} (h : w.grownBy w1 r) (h2 : w1.grownBy w2 r) : w.grownBy w2 r :=
  ⟨h2.os.trans h.os, h2.tape.trans h.tape, h2.output.trans h.output, Nat.le_trans h.size h2.size, fun k hk hr => (h2.block k (Nat.lt_of_lt_of_le hk h.size) hr).trans (h.block k hk hr)⟩
theorem grown_callT {w w1 w2 : World} {r : Option Nat} (h : w.grownBy w1 r) (h2 : Below w1.heap.size w1 w2) : w.grownBy w2 r :=
  ⟨h2.os.trans h.os, h2.tape.trans h.tape, h2.output.trans h.output, Nat.le_trans h.size h2.size, fun k hk hr => (h2.block k (Nat.lt_of_lt_of_le hk h.size)).trans (h.block k hk hr)⟩

/-- A row of pairs that may be written; its first pair may lie anywhere in its block. -/
structure SlabT (w : World) (A : Option Addr) (cap : Nat) (L : List TupV) : Prop where
  pairs : Tups w A L
  fit : L.length ≤ cap
  blk : (A = none ∧ cap = 0) ∨ ∃ g off cs, A = some ⟨g, off, none⟩ ∧ w.heap[g]? = some (.cells cs 75 (0, 0))
  room : ∀ g off cs, A = some ⟨g, off, none⟩ → w.heap[g]? = some (.cells cs 75 (0, 0)) → off + cap * 3 = cs.size
  capm : cap ≤ maxLen
/-- The block of such a row. -/
def blkAT (A : Option Addr) : Option Nat := A.map fun a => a.block
theorem blk_sliceT (A : Option Addr) (n cap : Nat) : (Value.slice A n cap).ownBlock = blkAT A := by cases A <;> rfl
theorem SlabT.nil (w : World) : SlabT w none 0 [] := ⟨Tups.nil w none, by simp, Or.inl ⟨rfl, rfl⟩, fun g off cs e => (by cases e), Nat.zero_le _⟩
theorem SlabT.form {w : World} {A : Option Addr} {cap : Nat} {L : List TupV} (h : SlabT w A cap L) : (A = none ∧ L = [] ∧ cap = 0) ∨ ∃ g off, A = some ⟨g, off, none⟩ := by
  rcases h.blk with ⟨rfl, rfl⟩ | ⟨g, off, cs, rfl, _⟩
  · exact Or.inl ⟨rfl, List.eq_nil_of_length_eq_zero (by have := h.fit; omega), rfl⟩
  · exact Or.inr ⟨g, off, rfl⟩
theorem SlabT.lt {w : World} {A : Option Addr} {cap : Nat} {L : List TupV} (h : SlabT w A cap L) {k : Nat} (hk : blkAT A = some k) : k < w.heap.size := by
  rcases h.blk with ⟨rfl, _⟩ | ⟨g, off, cs, rfl, hb⟩
  · cases hk
  · cases hk; exact lt_of_block hb
theorem SlabT.keep {w w' : World} {A : Option Addr} {cap : Nat} {L : List TupV} (h : SlabT w A cap L) (hk : ∀ k, blkAT A = some k → w'.heap[k]? = w.heap[k]?) : SlabT w' A cap L := by
  refine ⟨⟨h.pairs.ok, fun i p hi => ?_⟩, h.fit, ?_, fun g off cs e hb => h.room g off cs e (by rw [← hk g (by rw [e]; rfl)]; exact hb), h.capm⟩
  · obtain ⟨b, off, rfl, hlt, c0, c1, c2⟩ := h.pairs.at_ i p hi
    have hb := hk b rfl
    refine ⟨b, off, rfl, ?_, (World.cell?_of_block (a := ⟨b, off + i * 3, none⟩) hb).trans c0, (World.cell?_of_block (a := ⟨b, off + i * 3 + 1, none⟩) hb).trans c1, (World.cell?_of_block (a := ⟨b, off + i * 3 + 2, none⟩) hb).trans c2⟩
    exact World.block_lt_of_cell? (a := ⟨b, off + i * 3, none⟩) _ ((World.cell?_of_block (a := ⟨b, off + i * 3, none⟩) hb).trans c0)
  · rcases h.blk with h0 | ⟨g, off, cs, rfl, hb⟩
    · exact Or.inl h0
    · exact Or.inr ⟨g, off, cs, rfl, (hk g rfl).trans hb⟩
theorem SlabT.call {w w' : World} {A : Option Addr} {cap : Nat} {L : List TupV} (h : SlabT w A cap L) (hb : Below w.heap.size w w') : SlabT w' A cap L := h.keep fun k hk => hb.block k (h.lt hk)
theorem SlabT.of_own {w : World} {base : Nat} {v : Value} {L : List TupV} (h : OwnTu w base v L) (ok : ∀ p, p ∈ L → okTu p) : ∃ A cap, v = .slice A L.length cap ∧ SlabT w A cap L ∧ ∀ k, blkAT A = some k → base ≤ k := by
  obtain ⟨A, cap, rfl, hP⟩ := h.rows ok
  refine ⟨A, cap, rfl, ?_, fun k hk => (h.lt k (by rw [blk_sliceT]; exact hk)).1⟩
  rcases h.2 with ⟨e, e0⟩ | ⟨g, cap', cur, e, _, hg, hnc, hcm, hcz, _⟩
  · injection e with e1 e2 e3
    exact ⟨hP, by omega, Or.inl ⟨e1, e3⟩, fun g off cs e => (by rw [e1] at e; cases e), by rw [e3]; exact Nat.zero_le _⟩
  · injection e with e1 _ e3
    subst e1
    exact ⟨hP, by omega, Or.inr ⟨g, 0, cur, rfl, hg⟩, (fun g' off' cs' e hg' => by
      obtain ⟨rfl, rfl, _⟩ := Addr.mk.inj (Option.some.inj e)
      rw [hg] at hg'
      obtain ⟨rfl, _⟩ := Obj.cells.inj (Option.some.inj hg')
      omega), by omega⟩

/-- What has become of a row. -/
def AddedVT (w : World) (A : Option Addr) (L : List TupV) (e : Ending) (w' : World) : Prop :=
  ∃ A' cap', e = .returned (.slice A' L.length cap') ∧ SlabT w' A' cap' L ∧ w.grownBy w' (blkAT A) ∧ (A' = A ∨ ∃ g, A' = some ⟨g, 0, none⟩ ∧ w.heap.size ≤ g)


/-- Putting v between A and H, where there is room behind. -/
theorem shift_inT {A H R v : List Value} {a h : Nat} (hA : A.length = a) (hH : H.length = h) (hv : v.length = 3) :
    (((A ++ H ++ R).take (a + 3) ++ H ++ (A ++ H ++ R).drop (a + 3 + h)).take a) ++ v ++ (((A ++ H ++ R).take (a + 3) ++ H ++ (A ++ H ++ R).drop (a + 3 + h)).drop (a + 3)) = A ++ v ++ H ++ R.drop 3 ∨ (A ++ H ++ R).length < a + 3 := by
  by_cases hl : (A ++ H ++ R).length < a + 3
  · exact Or.inr hl
  left
  subst hA hH
  have h1 : ((A ++ H ++ R).take (A.length + 3)).length = A.length + 3 := by rw [List.length_take]; omega
  have h2 : (A ++ H ++ R).drop (A.length + 3 + H.length) = R.drop 3 := by
    rw [List.drop_append, List.drop_of_length_le (by rw [List.length_append]; omega), List.nil_append, List.length_append]
    congr 1; omega
  have hT : List.take A.length ((A ++ H ++ R).take (A.length + 3)) = A := by
    rw [List.take_take, Nat.min_eq_left (by omega), List.append_assoc, List.take_left' rfl]
  rw [h2]
  generalize (A ++ H ++ R).take (A.length + 3) = T at *
  rw [List.append_assoc T, List.take_append_of_le_length (by omega), hT, List.drop_left' h1]
  simp
theorem shift_newT {A H W v : List Value} {a h : Nat} (hA : A.length = a) (hH : H.length = h) (hv : v.length = 3) :
    ((((A ++ W).take a ++ v ++ (A ++ W).drop (a + 3)).take (a + 3)) ++ H ++ (((A ++ W).take a ++ v ++ (A ++ W).drop (a + 3)).drop (a + 3 + h))) = A ++ v ++ H ++ W.drop (3 + h) := by
  subst hA hH
  have h1 : (A ++ W).take A.length = A := by rw [List.take_append, List.take_length, Nat.sub_self, List.take_zero, List.append_nil]
  have h2 : (A ++ W).drop (A.length + 3) = W.drop 3 := by
    rw [List.drop_append, List.drop_of_length_le (by omega), List.nil_append]; congr 1; omega
  have h3 : (A ++ v).length = A.length + 3 := by rw [List.length_append]; omega
  rw [h1, h2, List.take_append, List.drop_append, List.take_of_length_le (by omega), h3, Nat.sub_self, List.take_zero, List.append_nil, List.drop_of_length_le (by omega), List.nil_append, List.drop_drop]
  congr 3; omega

/-- What a block's cells say of a row in it, and back. -/
theorem pairs_cellsT {w : World} {g off : Nat} {cs : Array Value} {L : List TupV} (h : Tups w (some ⟨g, off, none⟩) L) (hg : w.heap[g]? = some (.cells cs 75 (0, 0))) (hl : off + L.length * 3 ≤ cs.size) :
    cs.toList = cs.toList.take off ++ cellsTu L ++ cs.toList.drop (off + L.length * 3) := by
  have hQ := cellsTu_len L
  have key : (cs.toList.drop off).take (L.length * 3) = cellsTu L := by
    apply List.ext_getElem?
    intro j
    by_cases hj : j < L.length * 3
    · rw [List.getElem?_take_of_lt hj, List.getElem?_drop]
      have hx := List.getElem?_eq_getElem (l := cellsTu L) (i := j) (by omega)
      have hc := h.cell j _ hx
      rw [Joins.cell_of_block hg] at hc
      rw [hx, ← hc]; simp
    · rw [List.getElem?_eq_none (by rw [List.length_take]; omega), List.getElem?_eq_none (by omega)]
  rw [List.append_assoc, ← key]
  have h2 : (cs.toList.drop off).drop (L.length * 3) = cs.toList.drop (off + L.length * 3) := by rw [List.drop_drop]
  rw [← h2, List.take_append_drop, List.take_append_drop]
theorem cells_pairsT {w : World} {g off : Nat} {cs : Array Value} {L : List TupV} (ok : ∀ p, p ∈ L → okTu p) (hg : w.heap[g]? = some (.cells cs 75 (0, 0))) {P R : List Value} (hP : P.length = off) (hc : cs.toList = P ++ cellsTu L ++ R) :
    Tups w (some ⟨g, off, none⟩) L := by
  refine ⟨ok, fun i p hi => ⟨g, off, rfl, lt_of_block hg, ?_, ?_, ?_⟩⟩
  all_goals
    obtain ⟨q0, q1, q2⟩ := cellsTu_at L i p hi
    have hlt : i < L.length := by
      rcases Nat.lt_or_ge i L.length with h1 | h1
      · exact h1
      · rw [List.getElem?_eq_none h1] at hi; cases hi
    have hQ := cellsTu_len L
    rw [Joins.cell_of_block hg]
    have e : ∀ o, cs[o]? = cs.toList[o]? := fun o => Array.getElem?_toList.symm
    rw [e, hc, List.append_assoc, List.getElem?_append_right (by omega), List.getElem?_append_left (by omega)]
  · rw [show off + i * 3 - P.length = i * 3 by omega]; exact q0
  · rw [show off + i * 3 + 1 - P.length = i * 3 + 1 by omega]; exact q1
  · rw [show off + i * 3 + 2 - P.length = i * 3 + 2 by omega]; exact q2

/-- copy at rows of pairs: all is read before anything is written. -/
theorem run_copy_pairsT (w : World) (ty : TypeId) (g o dLen dCap : Nat) (a : Addr) (sLen sCap : Nat) (cur : Array Value) (t : TypeId) (k : Nat) (cs : List Value)
    (hg : w.heap[g]? = some (.cells cur t (0, 0))) (hk : k = Nat.min sLen dLen) (hn : cs.length = k * 3)
    (hsrc : ∀ j v, cs[j]? = some v → w.cell? (a.add j) = some v) (hfit : o + cs.length ≤ cur.size) (h1 : ∀ v ∈ cs, v.oneCell' = true) :
    (Builtin.copy_ #[56, 56] ty #[.slice (some ⟨g, o, none⟩) dLen dCap, .slice (some a) sLen sCap]).run Tryz.prog w =
      .ok (goInt k) (w.setRow g (cur.toList.take o ++ cs ++ cur.toList.drop (o + cs.length)).toArray) := by
  have hl := run_loadCells_list (P := Tryz.prog) w a cs hsrc
  have hst := run_storeCells_at Tryz.prog g o t cs 0 cur w hg (by simpa using hfit) h1
  obtain ⟨i0, hi, hz0, hz1, hz2⟩ := info_parts Tryz.infoOwnTu
  simp [Builtin.copy_, run_underlying Tryz.underlying56, Builtin.lenOf, Builtin.firstCells, sizeOf, typeInfo, hi, hz1, ← hk, ← hn, hl, hst]
theorem run_copy_pairs0T (w : World) (ty : TypeId) (d a : Addr) (dLen dCap sLen sCap : Nat) (hk : Nat.min sLen dLen = 0) :
    (Builtin.copy_ #[56, 56] ty #[.slice (some d) dLen dCap, .slice (some a) sLen sCap]).run Tryz.prog w = .ok (goInt 0) w := by
  obtain ⟨i0, hi, hz0, hz1, hz2⟩ := info_parts Tryz.infoOwnTu
  have hl : (loadCells a 0).run Tryz.prog w = .ok #[] w := run_loadCells_list (P := Tryz.prog) w a [] (fun j v hj => by simp at hj)
  simp [Builtin.copy_, run_underlying Tryz.underlying56, Builtin.lenOf, Builtin.firstCells, sizeOf, typeInfo, hi, hz1, hk, hl, storeCells]

theorem setCells_rowT {w : World} {g o : Nat} {cur : Array Value} {t : TypeId} {vs : List Value} (hg : w.heap[g]? = some (.cells cur t (0, 0))) (hl : o + vs.length ≤ cur.size) (h1 : ∀ v ∈ vs, v.oneCell' = true) :
    w.setCells g o vs = w.setRow g (cur.toList.take o ++ vs ++ cur.toList.drop (o + vs.length)).toArray := by
  have a := run_storeCells_at Tryz.prog g o t vs 0 cur w hg (by simpa using hl) h1
  have b := run_storeCells_cells (P := Tryz.prog) g o vs 0 w (fun j hj => by rw [Joins.cell_of_block hg, Array.getElem?_eq_getElem (by omega)]; rfl) (fun j hj => free8T hg _) h1
  rw [a] at b
  simp only [Nat.add_zero] at b
  injection b with _ b2
  exact b2.symm
theorem grown_setRowT (w : World) (g : Nat) (cs : Array Value) : w.grownBy (w.setRow g cs) (some g) :=
  ⟨rfl, rfl, rfl, by simp [World.setRow], fun k hk hr => setRow_other w g k cs (fun e => hr (by rw [e]))⟩
theorem slab_of_cellsT {w : World} {g off cap : Nat} {X : Array Value} {L : List TupV} {P R : List Value} (ok : ∀ p, p ∈ L → okTu p) (hg : w.heap[g]? = some (.cells X 75 (0, 0))) (hP : P.length = off) (hc : X.toList = P ++ cellsTu L ++ R)
    (hfit : L.length ≤ cap) (hr : off + cap * 3 = X.size) (hcap : cap ≤ maxLen) : SlabT w (some ⟨g, off, none⟩) cap L :=
  ⟨cells_pairsT ok hg hP hc, hfit, Or.inr ⟨g, off, X, rfl, hg⟩, (fun g' off' cs' e hg' => by
    obtain ⟨rfl, rfl, _⟩ := Addr.mk.inj (Option.some.inj e)
    rw [hg] at hg'
    obtain ⟨rfl, _⟩ := Obj.cells.inj (Option.some.inj hg')
    exact hr), hcap⟩

/-- The pair that is put in, as its call lays it: in a block of its own. -/
structure OneT (w : World) (vb : Nat) (i c d : Int) : Prop where
  blk : w.heap[vb]? = some (.cells #[.int .i64 i, .int .u64 c, .int .u64 d] 75 (0, 0))
theorem OneT.at_ {w : World} {vb : Nat} {i c d : Int} (h : OneT w vb i c d) : ∀ (j : Nat) (u : Value), [Value.int .i64 i, .int .u64 c, .int .u64 d][j]? = some u → w.cell? ((⟨vb, 0, none⟩ : Addr).add j) = some u := by
  intro j u hj
  rw [Addr.add_lit, Nat.zero_add, Joins.cell_of_block h.blk]
  rw [← hj]; simp

theorem cells_midT (lo hi : List TupV) (i c d : Int) : cellsTu (lo ++ (⟨i, c, d⟩ :: hi)) = cellsTu lo ++ [.int .i64 i, .int .u64 c, .int .u64 d] ++ cellsTu hi := by
  rw [cellsTu_app, cellsTu_cons]; simp [cellsTu1]

set_option maxRecDepth 100000 in
set_option maxHeartbeats 4000000 in
/-- At the end, where there is room. -/
theorem ins_end_roomT (w : World) (g off cap n vb : Nat) (L : List TupV) (i c d : Int) (h : SlabT w (some ⟨g, off, none⟩) cap L) (hn : L.length = n) (hlt : n < cap) (hv : OneT w vb i c d) (hi : I64 i) (hc : Word c) (hd : Word d) :
    Calls Tryz.prog 67 #[.slice (some ⟨g, off, none⟩) n cap, .int .i64 n, .slice (some ⟨vb, 0, none⟩) 1 1] w (AddedVT w (some ⟨g, off, none⟩) (L ++ [⟨i, c, d⟩])) := by
  obtain ⟨i0, hi0, hz0, hz1, hz2⟩ := info_parts Tryz.infoOwnTu
  obtain ⟨cs, hg⟩ : ∃ cs, w.heap[g]? = some (.cells cs 75 (0, 0)) := by
    rcases h.blk with ⟨e, _⟩ | ⟨g', off', cs, e, hb⟩
    · cases e
    · obtain ⟨rfl, rfl, _⟩ := Addr.mk.inj (Option.some.inj e)
      exact ⟨cs, hb⟩
  have hr := h.room _ _ _ rfl hg
  have hcm := h.capm
  have hcx : cap ≤ 9223372036854775807 := by have h9 := h.capm; unfold maxLen at h9; omega
  have hsrc : Src Tryz.prog i0.size 56 (.slice (some ⟨vb, 0, none⟩) 1 1) 1 [.int .i64 i, .int .u64 c, .int .u64 d] w := Src.ofSlice w Tryz.underlying56 ⟨vb, 0, none⟩ 1 1 _ (by rw [hz1]; rfl) hv.at_ (by intro u hu; simp at hu; rcases hu with rfl | rfl | rfl <;> rfl)
  have hE := setCells_rowT (o := off + n * i0.size) (vs := [.int .i64 i, .int .u64 c, .int .u64 d]) hg (by rw [hz1]; simp; omega) (by intro u hu; simp at hu; rcases hu with rfl | rfl | rfl <;> rfl)
  have hroom1 : ∀ j, j < [Value.int .i64 i, .int .u64 c, .int .u64 d].length → (w.cell? ⟨g, off + n * i0.size + j, none⟩).isSome = true := fun j hj => by
    rw [hz1, Joins.cell_of_block hg, Array.getElem?_eq_getElem (by simp at hj; omega)]; rfl
  have hfin : AddedVT w (some ⟨g, off, none⟩) (L ++ [⟨i, c, d⟩]) (.returned (.slice (some ⟨g, off, none⟩) (n + 1) cap)) (w.setCells g (off + n * i0.size) [.int .i64 i, .int .u64 c, .int .u64 d]) := by
    rw [hE]
    have hc1 := pairs_cellsT h.pairs hg (by omega)
    have hT : (cs.toList.take off).length = off := by rw [List.length_take]; simp; omega
    have hQ := cellsTu_len L
    refine ⟨some ⟨g, off, none⟩, cap, by simp [hn], ?_, grown_setRowT w g _, Or.inl rfl⟩
    refine slab_of_cellsT (P := cs.toList.take off) (R := (cs.toList.drop (off + L.length * 3)).drop 3) (by intro p hp; rcases List.mem_append.1 hp with h1 | h1; exact h.pairs.ok p h1; simp at h1; subst h1; exact ⟨hi, hc, hd⟩) (setRow_heap w g _ _ _ _ hg) hT ?_ (by simp; omega) ?_ hcm
    · have e1 : cs.toList.take (off + n * i0.size) = cs.toList.take off ++ cellsTu L := by
        rw [hz1, ← hn, List.take_add]
        congr 1
        have : cs.toList.drop off = cellsTu L ++ cs.toList.drop (off + L.length * 3) := by
          conv => lhs; rw [hc1, List.append_assoc, List.drop_append, List.drop_of_length_le (by omega), hT, Nat.sub_self, List.drop_zero, List.nil_append]
        rw [this, List.take_append, ← hQ, List.take_length, Nat.sub_self, List.take_zero, List.append_nil]
      rw [e1, cellsTu_app, cellsTu_one', hz1, ← hn]
      simp [List.drop_drop]
    · rw [hz1]; simp; omega
  rw [hz1] at hfin
  have HF := Lib.hid hfin
  clear hfin hE hr
  go_enter Tryz.func67, Tryz.ntmps67
  go_wp2_with (at_builtin; refine wpList_append_room_src _ rfl (.tmp 23) (.tmp 24) 56 56 rfl 75 i0 Tryz.underlying56 hi0 g off n cap rfl _ rfl 1 _ hsrc hlt hroom1 (fun j hj => free8T hg _) ?_)
  go_ret
  exact HF.out

theorem zero_lenT (z : Array Value) (n : Nat) : (Builtin.zeroCells z n).size = n * z.size := by simp [Builtin.zeroCells]
theorem old_cellsT {w : World} {A : Option Addr} {cap : Nat} {L : List TupV} (h : SlabT w A cap L) (sz k c2 : Nat) (hz : sz = 3) (hk : k ≤ L.length) : (Builtin.firstCells sz k (.slice A k c2)).run Tryz.prog w = .ok (cellsTu (L.take k)).toArray w := by
  subst hz
  have hlen : (L.take k).length = k := by rw [List.length_take]; omega
  rcases h.form with ⟨rfl, rfl, rfl⟩ | ⟨g, off, rfl⟩
  · have : k = 0 := by simpa using hk
    subst this
    exact run_firstCells_none w 3 0 0 c2
  · refine run_firstCells_some w 3 k ⟨g, off, none⟩ k c2 (cellsTu (L.take k)) (by rw [cellsTu_len, hlen]) fun j u hj => ?_
    rw [Addr.add_lit]
    exact (h.pairs.take k).cell j u hj

set_option maxRecDepth 100000 in
set_option maxHeartbeats 4000000 in
/-- At the end, where there is no room: a new block. -/
theorem ins_end_growT (w : World) (A : Option Addr) (n vb : Nat) (L : List TupV) (i c d : Int) (h : SlabT w A n L) (hn : L.length = n) (hl : n ≤ 100000) (hv : OneT w vb i c d) (hi : I64 i) (hc : Word c) (hd : Word d) :
    Calls Tryz.prog 67 #[.slice A n n, .int .i64 n, .slice (some ⟨vb, 0, none⟩) 1 1] w (AddedVT w A (L ++ [⟨i, c, d⟩])) := by
  obtain ⟨i0, hi0, hz0, hz1, hz2⟩ := info_parts Tryz.infoOwnTu
  have hsrc : Src Tryz.prog i0.size 56 (.slice (some ⟨vb, 0, none⟩) 1 1) 1 [.int .i64 i, .int .u64 c, .int .u64 d] w := Src.ofSlice w Tryz.underlying56 ⟨vb, 0, none⟩ 1 1 _ (by rw [hz1]; rfl) hv.at_ (by intro u hu; simp at hu; rcases hu with rfl | rfl | rfl <;> rfl)
  have hdr : SlabT w.drew A n L := h.keep fun k hk => rfl
  have hold := old_cellsT hdr i0.size n n hz1 (by omega)
  rw [List.take_of_length_le (by omega)] at hold
  have hrun : ∀ ty, (Builtin.append_ #[56, 56] ty #[.slice A n n, .slice (some ⟨vb, 0, none⟩) 1 1]).run Tryz.prog w = _ := fun ty =>
    run_append_grow_src w 56 56 ty 75 i0 _ Tryz.underlying56 hi0 hz0 A n n (cellsTu L) hold _ 1 _ hsrc (by omega) (by omega) (by rw [hz2]; exact growslice_fits (by omega) (by omega))
  obtain ⟨G, hG⟩ : ∃ G, G = grownCap w (n + 1) n 75 := ⟨_, rfl⟩
  have hGn : n + 1 ≤ G := by rw [hG]; exact grownCap_ge w _ _ _
  have hGm := grownCap_le_maxLen w (n + 1) n 75 (by unfold maxLen; omega)
  rw [← hG] at hrun hGm
  have hG63 : G ≤ maxLen := hGm
  have hGx : G ≤ 9223372036854775807 := by have h9 := hGm; unfold maxLen at h9; omega
  obtain ⟨X, hX⟩ : ∃ X : Array Value, X = (cellsTu L ++ [Value.int .i64 i, Value.int .u64 c, Value.int .u64 d]).toArray ++ Builtin.zeroCells (Value.agg #[.int .i64 0, .int .u64 0, .int .u64 0]).cells (G - (n + 1)) := ⟨_, rfl⟩
  rw [← hX] at hrun
  have hfin : AddedVT w A (L ++ [⟨i, c, d⟩]) (.returned (.slice (some ⟨w.heap.size, 0, none⟩) (n + 1) G)) (w.drew.alloc (.cells X 75)) := by
    refine ⟨some ⟨w.heap.size, 0, none⟩, G, by simp [hn], ?_, grown_callT (grown_reflT w _) ((Below.refl _ _).drew.alloc (Nat.le_refl _) _), Or.inr ⟨_, rfl, Nat.le_refl _⟩⟩
    refine slab_of_cellsT (P := []) (R := (Builtin.zeroCells (Value.agg #[.int .i64 0, .int .u64 0, .int .u64 0]).cells (G - (n + 1))).toList) (by intro p hp; rcases List.mem_append.1 hp with h1 | h1; exact h.pairs.ok p h1; simp at h1; subst h1; exact ⟨hi, hc, hd⟩) (heap_alloc_new w.drew _) rfl ?_ (by simp; omega) ?_ hG63
    · rw [hX, cellsTu_app, cellsTu_one']; simp
    · have hQ := cellsTu_len L
      rw [hX]; simp [zero_lenT, Value.cells, hQ]; omega
  have HF := Lib.hid hfin
  have hform := h.form
  have HR := Lib.hid hrun
  clear hfin hold hdr hG hGm hX hrun hz0 hz1 hz2 hsrc h
  rcases hform with ⟨rfl, rfl, rfl⟩ | ⟨g, off, rfl⟩
  · go_enter Tryz.func67, Tryz.ntmps67
    go_wp2_with (at_builtin; refine Lib.wpList_append_run _ rfl _ _ _ _ rfl _ _ rfl rfl _ _ (HR.out _) ?_)
    go_ret
    exact HF.out
  · go_enter Tryz.func67, Tryz.ntmps67
    go_wp2_with (at_builtin; refine Lib.wpList_append_run _ rfl _ _ _ _ rfl _ _ rfl rfl _ _ (HR.out _) ?_)
    all_goals (go_ret; exact HF.out)

theorem ok_midT {lo hi : List TupV} {i c d : Int} (h : ∀ p, p ∈ lo ++ hi → okTu p) (hi' : I64 i) (hc : Word c) (hd : Word d) : ∀ p, p ∈ lo ++ (⟨i, c, d⟩ :: hi) → okTu p := by
  intro p hp
  rcases List.mem_append.1 hp with h1 | h1
  · exact h p (List.mem_append_left _ h1)
  · rcases List.mem_cons.1 h1 with rfl | h2
    · exact ⟨hi', hc, hd⟩
    · exact h p (List.mem_append_right _ h2)
/-- A block of pairs, split at an index. -/
theorem split_cellsT {w : World} {g off n N : Nat} {cs : Array Value} {lo hi : List TupV} (h : Tups w (some ⟨g, off, none⟩) (lo ++ hi)) (hg : w.heap[g]? = some (.cells cs 75 (0, 0))) (hn : lo.length = n) (hN : (lo ++ hi).length = N) (hl : off + N * 3 ≤ cs.size) :
    ∃ A R : List Value, cs.toList = A ++ cellsTu hi ++ R ∧ A.length = off + n * 3 ∧ (cellsTu hi).length = (N - n) * 3 ∧ (∃ P : List Value, P.length = off ∧ A = P ++ cellsTu lo) ∧ R.length = cs.size - (off + N * 3) := by
  have hc := pairs_cellsT h hg (by omega)
  have hQ1 := cellsTu_len lo
  have hQ2 := cellsTu_len hi
  have hNN : lo.length + hi.length = N := by rw [← hN, List.length_append]
  refine ⟨cs.toList.take off ++ cellsTu lo, cs.toList.drop (off + (lo ++ hi).length * 3), ?_, ?_, ?_, ⟨_, ?_, rfl⟩, ?_⟩
  · rw [List.append_assoc (cs.toList.take off), ← cellsTu_app]; exact hc
  · rw [List.length_append, List.length_take]; simp; omega
  · omega
  · rw [List.length_take]; simp; omega
  · rw [hN, List.length_drop]; simp

set_option maxRecDepth 100000 in
set_option maxHeartbeats 4000000 in
/-- There is room: in its own block. -/
theorem ins_shiftT (w : World) (g off cap n N vb : Nat) (lo hi : List TupV) (i c d : Int) (h : SlabT w (some ⟨g, off, none⟩) cap (lo ++ hi)) (hn : lo.length = n) (hN : (lo ++ hi).length = N) (hlt : n < N) (hroom : N < cap) (hv : OneT w vb i c d) (hvg : vb ≠ g) (hi' : I64 i) (hc : Word c) (hd : Word d) :
    Calls Tryz.prog 67 #[.slice (some ⟨g, off, none⟩) N cap, .int .i64 n, .slice (some ⟨vb, 0, none⟩) 1 1] w (AddedVT w (some ⟨g, off, none⟩) (lo ++ (⟨i, c, d⟩ :: hi))) := by
  obtain ⟨cs, hg⟩ : ∃ cs, w.heap[g]? = some (.cells cs 75 (0, 0)) := by
    rcases h.blk with ⟨e, _⟩ | ⟨g', off', cs, e, hb⟩
    · cases e
    · obtain ⟨rfl, rfl, _⟩ := Addr.mk.inj (Option.some.inj e)
      exact ⟨cs, hb⟩
  have hr := h.room _ _ _ rfl hg
  have hcm := h.capm
  have hcx : cap ≤ 9223372036854775807 := by have h9 := h.capm; unfold maxLen at h9; omega
  obtain ⟨CA, CR, hcs, hA, hH, ⟨CP, hP, hAP⟩, hR⟩ := split_cellsT h.pairs hg hn hN (by omega)
  have hgd : w.drew.heap[g]? = some (.cells cs 75 (0, 0)) := hg
  obtain ⟨H, hHe⟩ : ∃ H, cellsTu hi = H := ⟨_, rfl⟩
  have hH1 : ∀ v ∈ H, v.oneCell' = true := by rw [← hHe]; exact cellsTu_one hi
  have hv1 : ∀ u ∈ [Value.int .i64 i, .int .u64 c, .int .u64 d], u.oneCell' = true := by intro u hu; simp at hu; rcases hu with rfl | rfl | rfl <;> rfl
  rw [hHe] at hcs hH
  have hsrc : ∀ j v, H[j]? = some v → w.drew.cell? ((⟨g, off + n * 3, none⟩ : Addr).add j) = some v := fun j v hj => by
    rw [Addr.add_lit, Joins.cell_of_block hgd, ← Array.getElem?_toList, hcs, List.append_assoc, List.getElem?_append_right (by omega), show off + n * 3 + j - CA.length = j by omega]
    have hjl : j < H.length := by
      rcases Nat.lt_or_ge j H.length with h1 | h1
      · exact h1
      · rw [List.getElem?_eq_none h1] at hj; cases hj
    rw [List.getElem?_append_left hjl]; exact hj
  obtain ⟨Y, hY⟩ : ∃ Y : Array Value, (cs.toList.take (off + (n + 1) * 3) ++ H ++ cs.toList.drop (off + (n + 1) * 3 + H.length)).toArray = Y := ⟨_, rfl⟩
  have hYs : Y.size = cs.size := by
    have e1 : cs.toList.length = cs.size := by simp
    rw [← hY]; simp; omega
  have hcp1 : ∀ ty dc sc, (Builtin.copy_ #[56, 56] ty #[.slice (some ⟨g, off + (n + 1) * 3, none⟩) (N - n) dc, .slice (some ⟨g, off + n * 3, none⟩) (N + 1 - n) sc]).run Tryz.prog w.drew = .ok (goInt ((N - n : Nat) : Int)) (w.drew.setRow g Y) := fun ty dc sc => by
    rw [← hY]
    exact run_copy_pairsT w.drew ty g (off + (n + 1) * 3) _ dc ⟨g, off + n * 3, none⟩ _ sc cs 75 (N - n) H hgd (by simp only [Nat.min_def]; split <;> omega) hH hsrc (by omega) hH1
  obtain ⟨W1, hW1⟩ : ∃ W1, w.drew.setRow g Y = W1 := ⟨_, rfl⟩
  have hg1 : W1.heap[g]? = some (.cells Y 75 (0, 0)) := by rw [← hW1]; exact setRow_heap w.drew g _ _ _ _ hgd
  have hv2 : OneT W1 vb i c d := ⟨by rw [← hW1, setRow_other _ _ _ _ hvg]; exact hv.blk⟩
  obtain ⟨Z, hZ⟩ : ∃ Z : Array Value, (Y.toList.take (off + n * 3) ++ [Value.int .i64 i, .int .u64 c, .int .u64 d] ++ Y.toList.drop (off + n * 3 + [Value.int .i64 i, .int .u64 c, .int .u64 d].length)).toArray = Z := ⟨_, rfl⟩
  have hcp2 : ∀ (W : World), W.heap = W1.heap → ∀ ty dc, (Builtin.copy_ #[56, 56] ty #[.slice (some ⟨g, off + n * 3, none⟩) (N + 1 - n) dc, .slice (some ⟨vb, 0, none⟩) 1 1]).run Tryz.prog W = .ok (goInt ((1 : Nat) : Int)) (W.setRow g Z) := fun W hW ty dc => by
    rw [← hZ]
    exact run_copy_pairsT W ty g (off + n * 3) _ dc ⟨vb, 0, none⟩ 1 1 Y 75 1 _ (by rw [hW]; exact hg1) (by simp only [Nat.min_def]; split <;> omega) rfl (fun j v hj => by
      have := hv2.at_ j v hj
      rwa [World.cell?_of_block (w := W1) (w' := W) (by rw [hW])]) (by simp; omega) hv1
  have hshape : w.shape? g = some (75, cs.size) := by simp [World.shape?, hg]
  have hshape2 : w.shape? vb = some (75, 3) := by simp [World.shape?, hv.blk]
  have hov : ∀ lb cb, (callFunc 92 #[.slice (some ⟨vb, 0, none⟩) 1 1, .slice (some ⟨g, off + (n + 1) * 3, none⟩) lb cb]).run Tryz.prog w = .ok (.value (.bool false)) w := fun lb cb => by
    obtain ⟨i0, hi0, hz0, hz1, hz2⟩ := info_parts Tryz.infoOwnTu
    rw [run_callFunc_extern Tryz.func92 (by kernel_rfl) (by kernel_rfl) (by kernel_rfl) (e := Extern.SlicesOverlaps.overlaps #[56, 56] #[4]) (by kernel_rfl),
      Lib.run_overlaps_apart w 56 4 75 Tryz.underlying56 3 (fun w => by simp [sizeOf, typeInfo, hi0, hz1]) ⟨vb, 0, none⟩ ⟨g, off + (n + 1) * 3, none⟩ 1 1 lb cb hvg 75 75 3 cs.size hshape2 hshape (by omega) (free8T hv.blk _) (free8T hv.blk _)]
    rfl
  have hfin : ∀ W : World, W.heap = W1.heap → W.os = w.os → W.tape = w.tape → W.output = w.output → AddedVT w (some ⟨g, off, none⟩) (lo ++ (⟨i, c, d⟩ :: hi)) (.returned (.slice (some ⟨g, off, none⟩) (N + 1) cap)) (W.setRow g Z) := fun W hW ho ht hu => by
    have hl3 : (lo ++ (⟨i, c, d⟩ :: hi)).length = N + 1 := by rw [← hN]; simp; omega
    have hsh := shift_inT (A := CA) (H := H) (R := CR) (v := [Value.int .i64 i, .int .u64 c, .int .u64 d]) hA hH rfl
    have hlen : (CA ++ H ++ CR).length = cs.size := by rw [← hcs]; simp
    rcases hsh with hsh | hbad
    · have hg2 : (W.setRow g Z).heap[g]? = some (.cells Z 75 (0, 0)) := setRow_heap W g _ _ _ _ (by rw [hW]; exact hg1)
      have hZL : Z.toList = CP ++ cellsTu (lo ++ (⟨i, c, d⟩ :: hi)) ++ CR.drop 3 := by
        rw [← hZ, ← hY, cells_midT, ← List.append_assoc CP, ← List.append_assoc CP, ← hAP, hHe, ← hsh, ← hcs]
        simp only [List.length_cons, List.length_nil]
        rw [show off + (n + 1) * 3 = off + n * 3 + 3 by omega, hH]
      refine ⟨some ⟨g, off, none⟩, cap, by rw [hl3], slab_of_cellsT (P := CP) (R := CR.drop 3) (ok_midT h.pairs.ok hi' hc hd) hg2 hP hZL (by omega) ?_ hcm, ?_, Or.inl rfl⟩
      · have : Z.size = cs.size := by
          have e1 : Z.size = Z.toList.length := by simp
          have hQ := cellsTu_len lo
          rw [e1, hZL, cells_midT, hHe]; simp only [List.length_append, List.length_drop, hH, hR, hP, hQ, List.length_cons, List.length_nil]
          rw [hAP, List.length_append, hP, hQ] at hA
          omega
        omega
      · have hk : W1.heap = (w.drew.setRow g Y).heap := by rw [hW1]
        exact grown_transT ⟨ho, ht, hu, by rw [hW, hk]; simp [World.setRow], fun k hk' hr' => by rw [hW, hk]; exact (setRow_other w.drew g k Y (fun e => hr' (by rw [e]; rfl)))⟩ (grown_setRowT W g Z)
    · omega
  have ho1 : W1.os = w.os ∧ W1.tape = w.tape ∧ W1.output = w.output := by rw [← hW1]; exact ⟨rfl, rfl, rfl⟩
  have HF := Lib.hid (hfin W1 rfl ho1.1 ho1.2.1 ho1.2.2)
  rw [hW1] at hcp1
  have HC1 := Lib.hid hcp1
  have hA2 := hcp2 W1 rfl
  generalize W1.setRow g Z = W2 at *
  have hw1 : IntKind.i64.wrap ((n : Int) + 1) = (n : Int) + 1 := by rw [IntKind.wrap_i64]; omega
  have hw2 : IntKind.i64.wrap ((N : Int) + 1) = (N : Int) + 1 := by rw [IntKind.wrap_i64]; omega
  have hb1 : (0 : Int) ≤ (n : Int) + 1 := by omega
  have hb0 : (0 : Int) ≤ (N : Int) + 1 := by omega
  have htn : ((n : Int) + 1).toNat = n + 1 := by omega
  have htN : ((N : Int) + 1).toNat = N + 1 := by omega
  have hb2 : ¬ (cap = n + 1) := by omega
  have hb4 : ¬ (cap = n) := by omega
  have hz2 : ¬ ((n : Int) = (N : Int)) := by omega
  have hin : n ≤ N := by omega
  have hin2 : n ≤ cap := by omega
  have hb3 : (n : Int) ≤ (N : Int) + 1 := by omega
  have hb5 : (n : Int) + 1 ≤ (N : Int) + 1 := by omega
  have hb6 : ¬ ((cap : Int) < (N : Int) + 1) := by omega
  have hb7 : (N : Int) + 1 ≤ (cap : Int) := by omega
  clear hfin hcp1 hcp2 hg1 ho1 hW1 hZ hY hYs hsrc hcs hA hH hP hAP hR hHe hH1 hv1 hgd hr h hv2 hn hN hshape hshape2 hg
  go_enter Tryz.func67, Tryz.ntmps67
  go_wp2_with (simp only [hov])
  go_region_law (refine step_copy_runI rfl _ _ 56 56 rfl (.slice (some ⟨g, off + (n + 1) * 3, none⟩) (N - n) (cap - (n + 1))) (.slice (some ⟨g, off + n * 3, none⟩) (N + 1 - n) (cap - n)) (by simp [Act.eval, Act.put]) (by simp [Act.eval, Act.put]) (HC1.out _ _ _) ?_)
  go_wp2_with fail
  go_ret
  exact HF.out

set_option maxRecDepth 100000 in
set_option maxHeartbeats 4000000 in
/-- There is no room: a new block. -/
theorem ins_growT (w : World) (g off n N vb : Nat) (lo hi : List TupV) (i c d : Int) (h : SlabT w (some ⟨g, off, none⟩) N (lo ++ hi)) (hn : lo.length = n) (hN : (lo ++ hi).length = N) (hlt : n < N) (hl : N ≤ 100000) (hv : OneT w vb i c d) (hi' : I64 i) (hc : Word c) (hd : Word d) :
    Calls Tryz.prog 67 #[.slice (some ⟨g, off, none⟩) N N, .int .i64 n, .slice (some ⟨vb, 0, none⟩) 1 1] w (AddedVT w (some ⟨g, off, none⟩) (lo ++ (⟨i, c, d⟩ :: hi))) := by
  obtain ⟨i0, hi0, hz0, hz1, hz2⟩ := info_parts Tryz.infoOwnTu
  obtain ⟨cs, hg⟩ : ∃ cs, w.heap[g]? = some (.cells cs 75 (0, 0)) := by
    rcases h.blk with ⟨e, _⟩ | ⟨g', off', cs, e, hb⟩
    · cases e
    · obtain ⟨rfl, rfl, _⟩ := Addr.mk.inj (Option.some.inj e)
      exact ⟨cs, hb⟩
  have hgw : g < w.heap.size := lt_of_block hg
  have hvw : vb < w.heap.size := lt_of_block hv.blk
  have hr := h.room _ _ _ rfl hg
  have hQ := cellsTu_len lo
  have hQh := cellsTu_len hi
  have hNN : lo.length + hi.length = N := by rw [← hN, List.length_append]
  have hdr : SlabT w.drew (some ⟨g, off, none⟩) N (lo ++ hi) := h.keep fun k hk => rfl
  have hold := old_cellsT hdr i0.size n N hz1 (by omega)
  rw [List.take_append_of_le_length (by omega), List.take_of_length_le (by omega)] at hold
  have hik : n + (N + 1 - n) = N + 1 := by omega
  have hkk : (N : Int) + 1 - (n : Int) = ((N + 1 - n : Nat) : Int) := by omega
  obtain ⟨G, hG⟩ : ∃ G, G = grownCap w (N + 1) N 75 := ⟨_, rfl⟩
  have hGn : N + 1 ≤ G := by rw [hG]; exact grownCap_ge w _ _ _
  have hGm := grownCap_le_maxLen w (N + 1) N 75 (by unfold maxLen; omega)
  rw [← hG] at hGm
  have hG63 : G ≤ maxLen := hGm
  have hGx : G ≤ 9223372036854775807 := by have h9 := hGm; unfold maxLen at h9; omega
  obtain ⟨V, hV⟩ : ∃ V : List Value, V = (Builtin.zeroCells (Value.agg #[.int .i64 0, .int .u64 0, .int .u64 0]).cells (N + 1 - n)).toList ++ (Builtin.zeroCells (Value.agg #[.int .i64 0, .int .u64 0, .int .u64 0]).cells (G - (N + 1))).toList := ⟨_, rfl⟩
  have hVl : V.length = (G - n) * 3 := by
    rw [hV, List.length_append]; simp [zero_lenT, Value.cells]; omega
  obtain ⟨X, hX⟩ : ∃ X : Array Value, X = (cellsTu lo).toArray ++ Builtin.zeroCells (Value.agg #[.int .i64 0, .int .u64 0, .int .u64 0]).cells (N + 1 - n) ++ Builtin.zeroCells (Value.agg #[.int .i64 0, .int .u64 0, .int .u64 0]).cells (G - (N + 1)) := ⟨_, rfl⟩
  have hXL : X.toList = cellsTu lo ++ V := by rw [hX, hV]; simp
  have hXs : X.size = G * 3 := by
    have : X.size = X.toList.length := by simp
    rw [this, hXL, List.length_append]; omega
  have hrz : ∀ ty, (Builtin.append_ #[56, 3] ty #[.slice (some ⟨g, off, none⟩) n N, .int .i64 ((N : Int) + 1 - (n : Int))]).run Tryz.prog w =
      .ok (.slice (some ⟨w.heap.size, 0, none⟩) (N + 1) G) (w.drew.alloc (.cells X 75)) := fun ty => by
    have h1 := Lib.run_append_grow_zeros w 56 3 ty 75 i0 _ .i64 .i64 Tryz.underlying56 Tryz.underlying3 hi0 hz0 (some ⟨g, off, none⟩) n N (cellsTu lo) hold (N + 1 - n) (by omega) (by omega) (by omega) (by omega) (by rw [hz2]; omega) (by rw [hz2, hik]; exact growslice_fits (by omega) (by omega))
    rw [hik, ← hG, ← hX] at h1
    rw [hkk]
    exact h1
  obtain ⟨W1, hW1⟩ : ∃ W1, w.drew.alloc (.cells X 75) = W1 := ⟨_, rfl⟩
  have hb1' : Below w.heap.size w W1 := by rw [← hW1]; exact (Below.refl _ _).drew.alloc (Nat.le_refl _) _
  have hg1 : W1.heap[w.heap.size]? = some (.cells X 75 (0, 0)) := by rw [← hW1]; exact heap_alloc_new w.drew _
  have hv1 : ∀ u ∈ [Value.int .i64 i, .int .u64 c, .int .u64 d], u.oneCell' = true := by intro u hu; simp at hu; rcases hu with rfl | rfl | rfl <;> rfl
  have hvW : OneT W1 vb i c d := ⟨(hb1'.block _ hvw).trans hv.blk⟩
  obtain ⟨Y, hY⟩ : ∃ Y : Array Value, (X.toList.take (n * 3) ++ [Value.int .i64 i, .int .u64 c, .int .u64 d] ++ X.toList.drop (n * 3 + [Value.int .i64 i, .int .u64 c, .int .u64 d].length)).toArray = Y := ⟨_, rfl⟩
  have hYs : Y.size = X.size := by
    have e1 : X.toList.length = X.size := by simp
    rw [← hY]; simp; omega
  have hcpA : ∀ (W : World), W.heap = W1.heap → ∀ ty dc, (Builtin.copy_ #[56, 56] ty #[.slice (some ⟨w.heap.size, n * 3, none⟩) (N + 1 - n) dc, .slice (some ⟨vb, 0, none⟩) 1 1]).run Tryz.prog W = .ok (goInt ((1 : Nat) : Int)) (W.setRow w.heap.size Y) := fun W hW ty dc => by
    rw [← hY]
    exact run_copy_pairsT W ty w.heap.size (n * 3) _ dc ⟨vb, 0, none⟩ 1 1 X 75 1 _ (by rw [hW]; exact hg1) (by simp only [Nat.min_def]; split <;> omega) rfl (fun j v hj => by
      have := hvW.at_ j v hj
      rwa [World.cell?_of_block (w := W1) (w' := W) (by rw [hW])]) (by simp; omega) hv1
  obtain ⟨H, hHe⟩ : ∃ H, cellsTu hi = H := ⟨_, rfl⟩
  have hH1 : ∀ v ∈ H, v.oneCell' = true := by rw [← hHe]; exact cellsTu_one hi
  have hHl : H.length = (N - n) * 3 := by rw [← hHe]; omega
  obtain ⟨CA, CR, hcs, hA, hH, _, _⟩ := split_cellsT h.pairs hg hn hN (by omega)
  rw [hHe] at hcs
  have hsrc : ∀ (W : World), W.heap[g]? = w.heap[g]? → ∀ j v, H[j]? = some v → W.cell? ((⟨g, off + n * 3, none⟩ : Addr).add j) = some v := fun W hW j v hj => by
    rw [Addr.add_lit, Joins.cell_of_block (hW.trans hg), ← Array.getElem?_toList, hcs, List.append_assoc, List.getElem?_append_right (by omega), show off + n * 3 + j - CA.length = j by omega]
    have hjl : j < H.length := by
      rcases Nat.lt_or_ge j H.length with h1 | h1
      · exact h1
      · rw [List.getElem?_eq_none h1] at hj; cases hj
    rw [List.getElem?_append_left hjl]; exact hj
  obtain ⟨Z, hZ⟩ : ∃ Z : Array Value, (Y.toList.take ((n + 1) * 3) ++ H ++ Y.toList.drop ((n + 1) * 3 + H.length)).toArray = Z := ⟨_, rfl⟩
  have hcpB : ∀ (W : World), W.heap[w.heap.size]? = some (.cells Y 75 (0, 0)) → W.heap[g]? = w.heap[g]? → ∀ ty dc sc, (Builtin.copy_ #[56, 56] ty #[.slice (some ⟨w.heap.size, (n + 1) * 3, none⟩) (N + 1 - (n + 1)) dc, .slice (some ⟨g, off + n * 3, none⟩) (N - n) sc]).run Tryz.prog W = .ok (goInt ((N - n : Nat) : Int)) (W.setRow w.heap.size Z) := fun W hW hWg ty dc sc => by
    rw [← hZ]
    exact run_copy_pairsT W ty w.heap.size ((n + 1) * 3) _ dc ⟨g, off + n * 3, none⟩ _ sc Y 75 (N - n) H hW (by simp only [Nat.min_def]; split <;> omega) hHl (hsrc W hWg) (by omega) hH1
  have hW2 : ∀ W : World, W.heap = W1.heap → (W.setRow w.heap.size Y).heap[w.heap.size]? = some (.cells Y 75 (0, 0)) ∧ (W.setRow w.heap.size Y).heap[g]? = w.heap[g]? := fun W hW =>
    ⟨setRow_heap W _ _ _ _ _ (by rw [hW]; exact hg1), by rw [setRow_other _ _ _ _ (by omega), hW]; exact hb1'.block _ hgw⟩
  have hfin : ∀ W : World, W.heap = W1.heap → W.os = w.os → W.tape = w.tape → W.output = w.output → AddedVT w (some ⟨g, off, none⟩) (lo ++ (⟨i, c, d⟩ :: hi)) (.returned (.slice (some ⟨w.heap.size, 0, none⟩) (N + 1) G)) (((W.setRow w.heap.size Y).drew).setRow w.heap.size Z) := fun W hW ho ht hu => by
    have hl3 : (lo ++ (⟨i, c, d⟩ :: hi)).length = N + 1 := by rw [← hN]; simp; omega
    have hsh := shift_newT (A := cellsTu lo) (H := H) (W := V) (v := [Value.int .i64 i, .int .u64 c, .int .u64 d]) (a := n * 3) (h := (N - n) * 3) (by omega) hHl rfl
    have hg2 : (((W.setRow w.heap.size Y).drew).setRow w.heap.size Z).heap[w.heap.size]? = some (.cells Z 75 (0, 0)) := setRow_heap _ _ _ _ _ _ (hW2 W hW).1
    have hZL : Z.toList = [] ++ cellsTu (lo ++ (⟨i, c, d⟩ :: hi)) ++ V.drop (3 + (N - n) * 3) := by
      rw [← hZ, ← hY, hXL, cells_midT, hHe, List.nil_append, ← hsh]
      simp only [List.length_cons, List.length_nil]
      rw [show (n + 1) * 3 = n * 3 + 3 by omega, hHl]
    refine ⟨some ⟨w.heap.size, 0, none⟩, G, by rw [hl3], slab_of_cellsT (P := []) (R := V.drop (3 + (N - n) * 3)) (ok_midT h.pairs.ok hi' hc hd) hg2 rfl hZL (by omega) ?_ hG63, ?_, Or.inr ⟨_, rfl, Nat.le_refl _⟩⟩
    · have : Z.size = Z.toList.length := by simp
      rw [this, hZL, cells_midT, hHe]; simp only [List.length_append, List.length_drop, List.length_cons, List.length_nil]
      omega
    · refine grown_callT (grown_reflT w _) ⟨ho, ht, hu, ?_, fun k hk => ?_⟩
      · have := hb1'.size
        simp only [World.setRow, Array.size_modify]
        show w.heap.size ≤ (W.heap.modify _ _).size
        rw [Array.size_modify, hW]; exact this
      · rw [setRow_other _ _ _ _ (by omega)]
        show (W.setRow w.heap.size Y).heap[k]? = _
        rw [setRow_other _ _ _ _ (by omega), hW]; exact hb1'.block k hk
  rw [hW1] at hrz
  have HR := Lib.hid hrz
  have ho1 : W1.os = w.os ∧ W1.tape = w.tape ∧ W1.output = w.output := by rw [← hW1]; exact ⟨rfl, rfl, rfl⟩
  have HF := Lib.hid (hfin W1 rfl ho1.1 ho1.2.1 ho1.2.2)
  have hA1 := hcpA W1 rfl
  have HB := Lib.hid (fun ty dc sc => hcpB (W1.setRow w.heap.size Y).drew (hW2 W1 rfl).1 (hW2 W1 rfl).2 ty dc sc)
  have HG2 : Hid ((W1.setRow w.heap.size Y).heap.size = (W1.setRow w.heap.size Y).heap.size) := Lib.hid rfl
  generalize W1.setRow w.heap.size Y = W2 at *
  have hw1 : IntKind.i64.wrap ((n : Int) + 1) = (n : Int) + 1 := by rw [IntKind.wrap_i64]; omega
  have hw2 : IntKind.i64.wrap ((N : Int) + 1) = (N : Int) + 1 := by rw [IntKind.wrap_i64]; omega
  have hw3 : IntKind.i64.wrap ((N : Int) + 1 - n) = (N : Int) + 1 - n := by rw [IntKind.wrap_i64]; omega
  have hb1 : (0 : Int) ≤ (n : Int) + 1 := by omega
  have htn : ((n : Int) + 1).toNat = n + 1 := by omega
  have hz2' : ¬ ((n : Int) = (N : Int)) := by omega
  have hz3 : (N : Int) < (N : Int) + 1 := by omega
  have hin : n ≤ N := by omega
  have hb3 : (n : Int) ≤ (N : Int) := by omega
  have hb5 : (n : Int) + 1 ≤ (N : Int) + 1 := by omega
  have hb8 : (n : Int) ≤ (N : Int) + 1 := by omega
  have hci : ¬ (N = n) := by omega
  have hGi : ¬ (G = n) := by omega
  have hGim : ¬ (G = n + 1) := by omega
  have hNG : (N : Int) + 1 ≤ (G : Int) := by omega
  clear HG2 hfin hrz hcpA hcpB hW2 hW1 ho1 hZ hY hYs hsrc hcs hA hH hHe hH1 hHl hv1 hvW hg1 hb1' hXs hXL hX hVl hV hG hGm hGn hik hkk hold hdr hQ hQh hNN hr hn hN h hz0 hz1 hz2 hgw hvw hg hv
  go_enter Tryz.func67, Tryz.ntmps67
  go_wp2_with (at_builtin; refine Lib.wpList_append_run _ rfl _ _ _ _ rfl _ _ rfl rfl _ _ (HR.out _) ?_)
  go_region_law (refine step_copy_runI rfl _ _ 56 56 rfl (.slice (some ⟨w.heap.size, (n + 1) * 3, none⟩) (N + 1 - (n + 1)) (G - (n + 1))) (.slice (some ⟨g, off + n * 3, none⟩) (N - n) (N - n)) (by simp [Act.eval, Act.put]) (by simp [Act.eval, Act.put]) (HB.out _ _ _) ?_)
  go_wp2_with fail
  go_ret
  exact HF.out

theorem ins_anyT (w : World) (A : Option Addr) (cap n N vb : Nat) (lo hi : List TupV) (i c d : Int) (h : SlabT w A cap (lo ++ hi)) (hn : lo.length = n) (hN : (lo ++ hi).length = N) (hl : N ≤ 100000) (hv : OneT w vb i c d) (hvg : blkAT A ≠ some vb) (hi' : I64 i) (hc : Word c) (hd : Word d) :
    Calls Tryz.prog 67 #[.slice A N cap, .int .i64 n, .slice (some ⟨vb, 0, none⟩) 1 1] w (AddedVT w A (lo ++ (⟨i, c, d⟩ :: hi))) := by
  have hfit := h.fit
  have hNN : lo.length + hi.length = N := by rw [← hN, List.length_append]
  by_cases he : n = N
  · have hh : hi = [] := List.eq_nil_of_length_eq_zero (by omega)
    subst hh he
    rw [List.append_nil] at h hfit
    by_cases hr : n < cap
    · rcases h.form with ⟨rfl, rfl, rfl⟩ | ⟨g, off, rfl⟩
      · omega
      · exact ins_end_roomT w g off cap n vb lo i c d h hn hr hv hi' hc hd
    · obtain rfl : cap = n := by omega
      exact ins_end_growT w A cap vb lo i c d h hn hl hv hi' hc hd
  · rcases h.form with ⟨rfl, e, rfl⟩ | ⟨g, off, rfl⟩
    · rw [e] at hN; simp at hN; omega
    · by_cases hr : N < cap
      · exact ins_shiftT w g off cap n N vb lo hi i c d h hn hN (by omega) hr hv (fun e => hvg (by rw [e]; rfl)) hi' hc hd
      · obtain rfl : cap = N := by omega
        exact ins_growT w g off n cap vb lo hi i c d h hn hN (by omega) hl hv hi' hc hd

/-- Such a row of the call's own. -/
theorem own_of_slabT {w : World} {base g cap : Nat} {L : List TupV} (h : SlabT w (some ⟨g, 0, none⟩) cap L) (hb : base ≤ g) : OwnTu w base (.slice (some ⟨g, 0, none⟩) L.length cap) L := by
  rcases h.blk with ⟨e, _⟩ | ⟨g', off', cs, e, hg⟩
  · cases e
  · obtain ⟨rfl, rfl, _⟩ := Addr.mk.inj (Option.some.inj e)
    have hr := h.room _ _ _ rfl hg
    have hf := h.fit
    have hc := pairs_cellsT h.pairs hg (by omega)
    refine ⟨cellsTu_len L, Or.inr ⟨g, cap, cs, rfl, hb, hg, hf, h.capm, by omega, ?_⟩⟩
    rw [List.take_zero, List.nil_append, Nat.zero_add] at hc
    rw [hc, List.take_append_of_le_length (by rw [cellsTu_len]; exact Nat.le_refl _), List.take_of_length_le (by rw [cellsTu_len]; exact Nat.le_refl _)]
/-- What Insert leaves, told of a row of the call's own. -/
theorem own_of_addedT {w w' : World} {base n cap : Nat} {A : Option Addr} {L M : List TupV} {e : Ending} (hbase : base ≤ w.heap.size) (h : OwnTu w base (.slice A n cap) L) (ha : AddedVT w A M e w') : ∃ v', e = .returned v' ∧ OwnTu w' base v' M ∧ w.grownBy w' (Value.slice A n cap).ownBlock ∧ (v'.ownBlock = (Value.slice A n cap).ownBlock ∨ ∀ g, v'.ownBlock = some g → w.heap.size ≤ g) := by
  obtain ⟨A', cap', rfl, hs, hg, hA⟩ := ha
  refine ⟨_, rfl, ?_, by rw [blk_sliceT]; exact hg, ?_⟩
  · rcases hA with rfl | ⟨g, rfl, hle⟩
    · rcases h.2 with ⟨e, e0⟩ | ⟨g, cap2, cur, e, hb, _⟩
      · injection e with e1 e2 e3
        subst e1
        rcases hs.form with ⟨_, rfl, rfl⟩ | ⟨g, off, e⟩
        · exact OwnTu.nil _ _
        · cases e
      · injection e with e1 e2 e3
        subst e1
        exact own_of_slabT hs hb
    · exact own_of_slabT hs (Nat.le_trans hbase hle)
  · rw [blk_sliceT, blk_sliceT]
    rcases hA with rfl | ⟨g, rfl, hle⟩
    · exact Or.inl rfl
    · exact Or.inr fun k hk => by cases hk; exact hle
end Go.Proofs.YtfmlkohijkalbaaGreat

/-
  Walk: the landed package tuples: Insert.
-/
namespace Go.Proofs.YtfmlkohijkalbaaGreat
set_option linter.unusedVariables false
set_option linter.unusedSimpArgs false
open Go.RowKit

theorem room_bd {L : List TupV} (hg : GoodT L) {k : Nat} : ∀ p, L[k]? = some p → 0 < p.st ∧ 0 ≤ p.sl ∧ p.st + p.sl ≤ 9223372036854775807 := fun p hp => by
  have := good_at hg hp
  omega
theorem room_range {L : List TupV} (hg : GoodT L) (k : Nat) : 0 ≤ roomT L k ∧ roomT L k < 9223372036854775807 := by
  cases h : L[k]? with
  | none => unfold roomT; rw [h]; exact ⟨Int.le_refl _, by decide⟩
  | some p =>
    have := room_bd hg p h
    rw [room_some h]; omega
/-- From the world of the call on. -/
theorem ins_end {w w6 w' : World} {base n cap : Nat} {A : Option Addr} {L M : List TupV} {e : Ending} (hbase : base ≤ w.heap.size) (h : OwnTu w base (.slice A n cap) L) (hb : Below w.heap.size w w6) (ha : AddedVT w6 A M e w') :
    ∃ v', e = .returned v' ∧ OwnTu w' base v' M ∧ w.grownBy w' (Value.slice A n cap).ownBlock ∧ (v'.ownBlock = (Value.slice A n cap).ownBlock ∨ ∀ g, v'.ownBlock = some g → w.heap.size ≤ g) := by
  obtain ⟨v', h1, h2, h3, h4⟩ := own_of_addedT (Nat.le_trans hbase hb.size) (h.call hb) ha
  refine ⟨v', h1, h2, grown_transT (grown_callT (grown_reflT w _) hb) h3, ?_⟩
  rcases h4 with h4 | h4
  · exact Or.inl h4
  · exact Or.inr fun g hg => Nat.le_trans hb.size (h4 g hg)
theorem one_newT (w : World) (x s l : Int) : OneT (w.alloc (.cells #[.int .i64 x, .int .u64 s, .int .u64 l] 75)) w.heap.size x s l := ⟨heap_alloc_new w _⟩

set_option maxRecDepth 100000 in
set_option maxHeartbeats 2000000 in
theorem tinsert_any (w : World) (base : Nat) (v : Value) (L : List TupV) (x : Int) (hbase : base ≤ w.heap.size) (h : OwnTu w base v L) (ok : ∀ p, p ∈ L → okTu p) (hg : GoodT L) (hs : sumT L < 9223372036854775807) (hl : L.length ≤ 20000) (hx : I64 x) :
    Calls Tryz.prog 47 #[v, .int .i64 x] w fun e w' => ∃ v', e = .returned v' ∧ OwnTu w' base v' (insT L x) ∧ w.grownBy w' v.ownBlock ∧ (v'.ownBlock = v.ownBlock ∨ ∀ g, v'.ownBlock = some g → w.heap.size ≤ g) := by
  obtain ⟨A, cap, rfl, hT⟩ := h.rows ok
  obtain ⟨A', cap', e, hS, _⟩ := SlabT.of_own h ok
  obtain ⟨rfl, _, rfl⟩ := Value.slice.inj e
  obtain ⟨n, hn⟩ : ∃ n, L.length = n := ⟨_, rfl⟩
  obtain ⟨k, hk⟩ : ∃ k, fromT false x L = k := ⟨_, rfl⟩
  have hkn : k ≤ n := by rw [← hk, ← hn]; exact from_le _ _ _
  have hsort := hg.sort
  have hins := ins_is hsort x k hk
  have htd : L.take k ++ L.drop k = L := List.take_append_drop _ _
  have hlt : (L.take k).length = k := by rw [List.length_take]; omega
  rw [hn] at h ⊢
  have heg : ∀ args w, (callFunc 68 args).run Tryz.prog w = .ok (.enter 68 args) w := enters_of Tryz.func68 (by kernel_rfl) rfl
  have HBH := Lib.hid (tbehind_any w A n cap false)
  have HFR := Lib.hid (fun (W : World) (hW : Below w.heap.size w W) (hX : BoxT W w.heap.size (w.heap.size + 1) A n cap false) => tfrom_any W w.heap.size (w.heap.size + 1) cap n k A L x false hn (by omega) hx (hT.call hW) hsort hX hk)
  have HRO := Lib.hid (fun (W : World) (hW : Below w.heap.size w W) => troom_any W A cap n k L _ (hT.call hW) hn hkn (by omega) (room_bd hg) rfl)
  have HRR := Lib.hid (room_range hg k)
  have HFIN := Lib.hid (fun (W : World) (hW : Below w.heap.size w W) (vb : Nat) (hvb : w.heap.size ≤ vb) (r : Int) (hr : r = if k = 0 then 0 else roomT L k) (hr0 : Word r) (hv : OneT W vb x 1 r) =>
    (ins_anyT W A cap k n vb (L.take k) (L.drop k) x 1 r (by rw [htd]; exact hS.call hW) hlt (by rw [htd]; exact hn) (by omega) hv (fun e => by have := hS.lt e; omega) hx (by unfold Word; omega) hr0).mono fun e w' ha => by
      rw [hr, ← hins] at ha
      exact ins_end hbase h hW ha)
  clear hT hS h ok hg hs hsort hins htd hlt e hk hn
  obtain ⟨r, hr⟩ : ∃ r, roomT L k = r := ⟨_, rfl⟩
  rw [hr] at HRO HRR
  obtain ⟨r0, r1⟩ := HRR.out
  have HE := Lib.hid heg
  clear heg
  by_cases hk0 : k = 0
  · have e1 : decide ((0 : Int) < (k : Int)) = false := decide_eq_false (by omega)
    have e2 : ¬ (0 : Int) < (k : Int) := by omega
    have HK := Lib.hid hk0
    clear hk0
    go_enter Tryz.func47, Tryz.ntmps47
    go_wp2_with fail
    refine HBH.out.mono ?_
    rintro e w1 ⟨rfl, hX, hb1⟩
    have HX := Lib.hid hX
    have HB1 := Lib.hid hb1
    clear hX hb1
    have heg := HE.out
    go_wp2_with fail
    refine (HFR.out w1 HB1.out HX.out).mono ?_
    rintro e w2 ⟨rfl, hb2⟩
    have HB2 : Hid (Below w.heap.size w w2) := Lib.hid (HB1.out.trans (hb2.mono HB1.out.size))
    have hz := HB2.out.size
    have HW : Hid (Below w.heap.size w ((w2.alloc (.cells #[.int .i64 x, .int .u64 1, .int .u64 0] 75)).alloc (.cells #[.int .i64 x, .int .u64 1, .int .u64 0] 75))) := Lib.hid ((HB2.out.alloc hz _).alloc (by simp; omega) _)
    have ho := one_newT (w2.alloc (.cells #[.int .i64 x, .int .u64 1, .int .u64 0] 75)) x 1 0
    rw [show (w2.alloc (.cells #[.int .i64 x, .int .u64 1, .int .u64 0] 75)).heap.size = w2.heap.size + 1 by simp] at ho
    have HO := Lib.hid ho
    clear hb2 heg ho
    go_wp2_with fail
    with_reducible refine (HFIN.out _ HW.out (w2.heap.size + 1) (by omega) 0 (by rw [if_pos HK.out]) (by unfold Word; omega) HO.out).mono ?_
    rintro e w4 ⟨v', rfl, hf⟩
    have HF := Lib.hid hf
    clear hf
    go_wp2_with fail
    go_ret
    exact ⟨v', rfl, HF.out⟩
  · have e1 : decide ((0 : Int) < (k : Int)) = true := decide_eq_true (by omega)
    have e2 : (0 : Int) < (k : Int) := by omega
    have HK := Lib.hid hk0
    have HR := Lib.hid hr
    clear hk0 hr
    go_enter Tryz.func47, Tryz.ntmps47
    go_wp2_with fail
    refine HBH.out.mono ?_
    rintro e w1 ⟨rfl, hX, hb1⟩
    have HX := Lib.hid hX
    have HB1 := Lib.hid hb1
    clear hX hb1
    have heg := HE.out
    go_wp2_with fail
    refine (HFR.out w1 HB1.out HX.out).mono ?_
    rintro e w2 ⟨rfl, hb2⟩
    have HB2 : Hid (Below w.heap.size w w2) := Lib.hid (HB1.out.trans (hb2.mono HB1.out.size))
    have hz := HB2.out.size
    have HB3 : Hid (Below w.heap.size w (w2.alloc (.cells #[.int .i64 x, .int .u64 1, .int .u64 0] 75))) := Lib.hid (HB2.out.alloc hz _)
    have HT3 := Lib.hid (Three.new w2 (.int .i64 x) (.int .u64 1) (.int .u64 0) 75)
    clear hb2 heg
    go_wp2_with fail
    refine (HRO.out _ HB3.out).mono ?_
    rintro e w4 ⟨rfl, hb4⟩
    have HB4 : Hid (Below w.heap.size w w4) := Lib.hid (HB3.out.trans (hb4.mono HB3.out.size))
    have HT4 := Lib.hid (HT3.out.call hb4)
    have hz4 := HB4.out.size
    have hz5 := HT4.out.lt
    have g2 := HT4.out.c2
    have f2 := HT4.out.f2
    have HT5 := Lib.hid (HT4.out.put2 (.int .u64 r))
    have HB5 : Hid (Below w.heap.size w (w4.setCell ⟨w2.heap.size, 2, none⟩ (.int .u64 r))) := Lib.hid (HB4.out.setCell (p := ⟨w2.heap.size, 2, none⟩) hz _)
    clear hb4
    obtain ⟨w5, hw5⟩ : ∃ w5, w4.setCell ⟨w2.heap.size, 2, none⟩ (.int .u64 r) = w5 := ⟨_, rfl⟩
    rw [hw5] at HT5 HB5
    have hz6 := HB5.out.size
    go_upto_region 5 with fail
    clear hw5 g2 f2
    have d0 := HT5.out.c0
    have d1 := HT5.out.c1
    have d2 := HT5.out.c2
    have HO := Lib.hid (one_newT w5 x 1 r)
    have HW : Hid (Below w.heap.size w (w5.alloc (.cells #[.int .i64 x, .int .u64 1, .int .u64 r] 75))) := Lib.hid (HB5.out.alloc (by omega) _)
    go_wp2_with fail
    with_reducible refine (HFIN.out _ HW.out w5.heap.size (by omega) r (by rw [if_neg HK.out, HR.out]) (by unfold Word; omega) HO.out).mono ?_
    rintro e w6 ⟨v', rfl, hf⟩
    have HF := Lib.hid hf
    clear hf
    go_wp2_with fail
    go_ret
    exact ⟨v', rfl, HF.out⟩
end Go.Proofs.YtfmlkohijkalbaaGreat

/-
  Walk: the library's slices.Delete at a row of tuples that may be written.
-/
namespace Go.Proofs.YtfmlkohijkalbaaGreat
set_option linter.unusedVariables false
set_option linter.unusedSimpArgs false
open Go.RowKit

theorem zeroTu (w : World) : (zeroValue 75).run Tryz.prog w = .ok (.agg #[.int .i64 0, .int .u64 0, .int .u64 0]) w := by kernel_rfl
theorem zero_oneT (n : Nat) : ∀ v ∈ (Builtin.zeroCells (Value.agg #[.int .i64 0, .int .u64 0, .int .u64 0]).cells n).toList, v.oneCell' = true := by
  intro v hv
  unfold Builtin.zeroCells at hv
  simp [Value.cells] at hv
  obtain ⟨k, _, rfl⟩ := hv
  have h3 : k % 3 = 0 ∨ k % 3 = 1 ∨ k % 3 = 2 := by omega
  rcases h3 with e | e | e <;> rw [e] <;> rfl
theorem run_clear3 (w : World) (ty : TypeId) (b o n c : Nat) (hn : 0 < n) (hc : ∀ j, j < n * 3 → (w.cell? ⟨b, o + j, none⟩).isSome = true) (hf : ∀ j, j < n * 3 → w.frozen? ⟨b, o + j, none⟩ = false) :
    (Builtin.clear_ #[56] ty #[.slice (some ⟨b, o, none⟩) n c]).run Tryz.prog w = .ok (.tuple #[]) (w.setCells b o (Builtin.zeroCells (Value.agg #[.int .i64 0, .int .u64 0, .int .u64 0]).cells n).toList) := by
  have hz : (Builtin.zeroCells (Value.agg #[.int .i64 0, .int .u64 0, .int .u64 0]).cells n).toList.length = n * 3 := by
    rw [Array.length_toList, zero_lenT]; rfl
  have hst := run_storeCells_cells (P := Tryz.prog) b o (Builtin.zeroCells (Value.agg #[.int .i64 0, .int .u64 0, .int .u64 0]).cells n).toList 0 w (by rw [hz]; simpa using hc) (by rw [hz]; simpa using hf) (zero_oneT n)
  simp only [Nat.add_zero] at hst
  generalize hG : (Builtin.zeroCells (Value.agg #[.int .i64 0, .int .u64 0, .int .u64 0]).cells n).toList = zs at *
  obtain ⟨m, rfl⟩ : ∃ m, n = m + 1 := ⟨n - 1, by omega⟩
  simp [Builtin.clear_, run_underlying Tryz.underlying56, zeroTu, hG, hst]

set_option maxRecDepth 100000 in
set_option maxHeartbeats 4000000 in
theorem tdel_slab (w : World) (g off cap n i j : Nat) (C : List TupV) (h : SlabT w (some ⟨g, off, none⟩) cap C) (hn : C.length = n) (hij : i < j) (hj : j < n) (hl : n ≤ 100000) :
    Calls Tryz.prog 71 #[.slice (some ⟨g, off, none⟩) n cap, .int .i64 i, .int .i64 j] w (AddedVT w (some ⟨g, off, none⟩) (C.take i ++ C.drop j)) := by
  obtain ⟨i0, hi0, hz0, hz1, hz2⟩ := info_parts Tryz.infoOwnTu
  obtain ⟨cs, hg⟩ : ∃ cs, w.heap[g]? = some (.cells cs 75 (0, 0)) := by
    rcases h.blk with ⟨e, _⟩ | ⟨g', off', cs, e, hb⟩
    · cases e
    · obtain ⟨rfl, rfl, _⟩ := Addr.mk.inj (Option.some.inj e)
      exact ⟨cs, hb⟩
  have hr := h.room _ _ _ rfl hg
  have hfit := h.fit
  have hcm := h.capm
  have hcx : cap ≤ 9223372036854775807 := by have h9 := h.capm; unfold maxLen at h9; omega
  have hgd : w.drew.heap[g]? = some (.cells cs 75 (0, 0)) := hg
  have hc := pairs_cellsT h.pairs hg (by omega)
  rw [hn] at hc
  have hCt : (C.take i).length = i := by rw [List.length_take]; omega
  have hCd : (C.drop j).length = n - j := by rw [List.length_drop]; omega
  have hP : (cs.toList.take off).length = off := by rw [List.length_take]; simp; omega
  obtain ⟨P, hPe⟩ : ∃ P, cs.toList.take off = P := ⟨_, rfl⟩
  obtain ⟨R, hRe⟩ : ∃ R, cs.toList.drop (off + n * 3) = R := ⟨_, rfl⟩
  have hRl : R.length = cs.size - (off + n * 3) := by rw [← hRe, List.length_drop]; simp
  rw [hPe, hRe] at hc
  rw [hPe] at hP
  obtain ⟨news, hnews⟩ : ∃ news, news = cellsTu (C.drop j) := ⟨_, rfl⟩
  have hlen : news.length = (n - j) * 3 := by rw [hnews, cellsTu_len, hCd]
  have hsrc : Hid (∀ t u, news[t]? = some u → w.drew.cell? ((⟨g, off + j * 3, none⟩ : Addr).add t) = some u) := Lib.hid fun t u hu => by
    rw [Addr.add_lit]
    rw [hnews] at hu
    exact ((h.pairs.drop j).cell t u hu)
  have s1 : Hid (news.length = (n - j) * 3) := hlen
  have s2 : Hid (∀ u ∈ news, u.oneCell' = true) := Lib.hid (by rw [hnews]; exact cellsTu_one _)
  have s3 : Hid (∀ t, t < news.length → (w.drew.cell? ⟨g, off + i * 3 + t, none⟩).isSome = true ∧ w.drew.frozen? ⟨g, off + i * 3 + t, none⟩ = false) := Lib.hid fun t ht => by
    rw [hlen] at ht
    exact ⟨by rw [Joins.cell_of_block hgd, Array.getElem?_eq_getElem (by omega)]; rfl, free8T hgd _⟩
  obtain ⟨W1, hW1⟩ : ∃ W1, W1 = w.drew.setCells g (off + i * 3) news := ⟨_, rfl⟩
  obtain ⟨Y, hY⟩ : ∃ Y : Array Value, (cs.toList.take (off + i * 3) ++ news ++ cs.toList.drop (off + i * 3 + news.length)).toArray = Y := ⟨_, rfl⟩
  have hYs : Y.size = cs.size := by
    have e1 : cs.toList.length = cs.size := by simp
    rw [← hY]; simp; omega
  have hW1r : W1 = w.drew.setRow g Y := by
    rw [hW1, ← hY]
    exact setCells_rowT hgd (by omega) s2.out
  have hg1 : W1.heap[g]? = some (.cells Y 75 (0, 0)) := by rw [hW1r]; exact setRow_heap w.drew g _ _ _ _ hgd
  obtain ⟨zs, hzs⟩ : ∃ zs, (Builtin.zeroCells (Value.agg #[.int .i64 0, .int .u64 0, .int .u64 0]).cells (n - (i + (n - j)))).toList = zs := ⟨_, rfl⟩
  have hzl : zs.length = (n - (i + (n - j))) * 3 := by rw [← hzs, Array.length_toList, zero_lenT]; rfl
  have hz1c : ∀ v ∈ zs, v.oneCell' = true := by rw [← hzs]; exact zero_oneT _
  have hcl : ∀ ty, (Builtin.clear_ #[56] ty #[.slice (some ⟨g, off + (i + (n - j)) * 3, none⟩) (n - (i + (n - j))) (cap - (i + (n - j)))]).run Tryz.prog W1 = .ok (.tuple #[]) (W1.setCells g (off + (i + (n - j)) * 3) zs) := fun ty => by
    rw [← hzs]
    exact run_clear3 W1 ty g _ _ _ (by omega) (fun t ht => by rw [Joins.cell_of_block hg1, Array.getElem?_eq_getElem (by omega)]; rfl) (fun t ht => free8T hg1 _)
  obtain ⟨Z, hZ⟩ : ∃ Z : Array Value, (Y.toList.take (off + (i + (n - j)) * 3) ++ zs ++ Y.toList.drop (off + (i + (n - j)) * 3 + zs.length)).toArray = Z := ⟨_, rfl⟩
  have hZs : Z.size = Y.size := by
    have e1 : Y.toList.length = Y.size := by simp
    rw [← hZ]; simp; omega
  have hW2r : W1.setCells g (off + (i + (n - j)) * 3) zs = W1.setRow g Z := by
    rw [← hZ]
    exact setCells_rowT hg1 (by omega) hz1c
  have hfin : AddedVT w (some ⟨g, off, none⟩) (C.take i ++ C.drop j) (.returned (.slice (some ⟨g, off, none⟩) (i + (n - j)) cap)) (W1.setCells g (off + (i + (n - j)) * 3) zs) := by
    rw [hW2r]
    have hl3 : (C.take i ++ C.drop j).length = i + (n - j) := by rw [List.length_append]; omega
    have hg2 : (W1.setRow g Z).heap[g]? = some (.cells Z 75 (0, 0)) := setRow_heap W1 g _ _ _ _ hg1
    have hYl : Y.toList = P ++ (cellsTu (C.take i) ++ news) ++ cs.toList.drop (off + i * 3 + news.length) := by
      have e1 : cs.toList.take (off + i * 3) = P ++ cellsTu (C.take i) := by
        have e2 : cellsTu C = cellsTu (C.take i) ++ cellsTu (C.drop i) := by rw [← cellsTu_app, List.take_append_drop]
        have e3 : (P ++ cellsTu (C.take i)).length = off + i * 3 := by rw [List.length_append, cellsTu_len]; omega
        rw [hc, e2, ← List.append_assoc, List.append_assoc _ _ R, List.take_append_of_le_length (by omega), ← e3, List.take_length]
      rw [← hY, e1]
      simp
    have hYt : Y.toList.take (off + (i + (n - j)) * 3) = P ++ cellsTu (C.take i ++ C.drop j) := by
      have e3 : (P ++ (cellsTu (C.take i) ++ news)).length = off + (i + (n - j)) * 3 := by rw [List.length_append, List.length_append, cellsTu_len]; omega
      rw [hYl, ← e3, List.take_left' rfl, cellsTu_app, hnews]
    refine ⟨some ⟨g, off, none⟩, cap, by rw [hl3], slab_of_cellsT (P := P) (R := zs ++ Y.toList.drop (off + (i + (n - j)) * 3 + zs.length)) (fun p hp => ?_) hg2 hP ?_ (by omega) (by omega) hcm, ?_, Or.inl rfl⟩
    · rcases List.mem_append.1 hp with h1 | h1
      · exact h.pairs.ok p (List.mem_of_mem_take h1)
      · exact h.pairs.ok p (List.mem_of_mem_drop h1)
    · rw [← hZ, hYt]
      simp
    · refine grown_transT (w1 := W1) ?_ (grown_setRowT W1 g Z)
      rw [hW1r]
      exact ⟨rfl, rfl, rfl, by show w.heap.size ≤ (w.heap.modify g _).size; simp, fun k hk hr' => setRow_other w.drew g k Y (fun e => hr' (by rw [e]; rfl))⟩
  have HF := Lib.hid hfin
  have HW := Lib.hid hW1
  have HCL := Lib.hid hcl
  obtain ⟨W2, hW2⟩ : ∃ W2, W1.setCells g (off + (i + (n - j)) * 3) zs = W2 := ⟨_, rfl⟩
  rw [hW2] at HF hcl
  have hic : i ≤ cap := by omega
  have hjc : j ≤ cap := by omega
  have hin : i ≤ n := by omega
  have hnc : n ≤ cap := by omega
  have hcj : ¬ cap = j := by omega
  have hci : ¬ cap = i + (n - j) := by omega
  have hei : ((i : Int) == (j : Int)) = false := by rw [beq_eq_false_iff_ne]; omega
  have h1 : (i : Int) ≤ (j : Int) := by omega
  have h2 : (j : Int) ≤ (n : Int) := by omega
  have h3 : (n : Int) ≤ (cap : Int) := by omega
  have h4 : i + (n - j) ≤ n := by omega
  have h5 : ((i + (n - j) : Nat) : Int) ≤ (n : Int) := by omega
  clear hW2 hfin hW1 hW1r hW2r hg1 hzs hzl hz1c hZ hZs hY hYs hlen hnews hPe hRe hRl hc hP hCt hCd hgd hr hfit hcm h HCL hg hn
  go_enter Tryz.func71, Tryz.ntmps71
  go_wp2_with fail
  go_region_law (refine step_append_room rfl (.tmp 22) (.tmp 25) 56 rfl 75 i0 3 Tryz.underlying56 hi0 hz1 g off i cap (by simp [Act.eval, Act.put]) ⟨g, off + j * 3, none⟩ (n - j) (cap - j) news (by simp [Act.eval, Act.put]) s1.out hsrc.out s2.out (by omega) s3.out ?_; rw [← HW.out])
  go_wp2_with fail
  go_ret
  exact HF.out

set_option maxRecDepth 100000 in
set_option maxHeartbeats 1000000 in
theorem tdel_same (w : World) (A : Option Addr) (cap n i : Nat) (hi : i ≤ n) (hn : n ≤ cap) (hc : cap ≤ 9223372036854775807) :
    Calls Tryz.prog 71 #[.slice A n cap, .int .i64 i, .int .i64 i] w fun e w' => e = .returned (.slice A n cap) ∧ w' = w := by
  have h1 : (i : Int) ≤ (n : Int) := by omega
  have h2 : (n : Int) ≤ (cap : Int) := by omega
  have h3 : i ≤ cap := by omega
  have h4 : ((i : Int) == (i : Int)) = true := by simp
  go_enter Tryz.func71, Tryz.ntmps71
  go_wp2_with fail
  all_goals
    go_ret
    exact ⟨rfl, rfl⟩
end Go.Proofs.YtfmlkohijkalbaaGreat

/-
  Walk: the landed package tuples: Squeeze.
-/
namespace Go.Proofs.YtfmlkohijkalbaaGreat
set_option linter.unusedVariables false
set_option linter.unusedSimpArgs false
open Go.RowKit

theorem addedT_trans {w w1 w' : World} {g off : Nat} {M : List TupV} {e : Ending} (h : w.grownBy w1 (some g)) (ha : AddedVT w1 (some ⟨g, off, none⟩) M e w') : AddedVT w (some ⟨g, off, none⟩) M e w' := by
  obtain ⟨A', cap', h1, h2, h3, h4⟩ := ha
  refine ⟨A', cap', h1, h2, grown_transT h h3, ?_⟩
  rcases h4 with h4 | ⟨k, hk, hle⟩
  · exact Or.inl h4
  · exact Or.inr ⟨k, hk, Nat.le_trans h.size hle⟩
/-- A block's cells, parted at one tuple. -/
theorem slab_part {w : World} {g off cap k : Nat} {lo hi : List TupV} {q : TupV} (h : SlabT w (some ⟨g, off, none⟩) cap (lo ++ q :: hi)) (hk : lo.length = k) :
    ∃ (cs : Array Value) (P X T R : List Value), w.heap[g]? = some (.cells cs 75 (0, 0)) ∧ cs.toList = X ++ (.int .i64 q.x :: .int .u64 q.st :: .int .u64 q.sl :: T) ∧ X.length = off + k * 3 ∧ P.length = off ∧ X = P ++ cellsTu lo ∧ T = cellsTu hi ++ R ∧ off + cap * 3 = cs.size := by
  obtain ⟨cs, hg⟩ : ∃ cs, w.heap[g]? = some (.cells cs 75 (0, 0)) := by
    rcases h.blk with ⟨e, _⟩ | ⟨g', off', cs, e, hb⟩
    · cases e
    · obtain ⟨rfl, rfl, _⟩ := Addr.mk.inj (Option.some.inj e)
      exact ⟨cs, hb⟩
  have hr := h.room _ _ _ rfl hg
  have hf := h.fit
  have hc := pairs_cellsT h.pairs hg (by omega)
  have hP : (cs.toList.take off).length = off := by rw [List.length_take]; simp; omega
  refine ⟨cs, cs.toList.take off, _, _, cs.toList.drop (off + (lo ++ q :: hi).length * 3), hg, ?_, ?_, hP, rfl, rfl, hr⟩
  · rw [cellsTu_app, cellsTu_cons] at hc
    simpa [cellsTu1] using hc
  · rw [List.length_append, hP, cellsTu_len, hk]
theorem slab_ok {w : World} {A : Option Addr} {cap : Nat} {lo hi : List TupV} {q q' : TupV} (h : SlabT w A cap (lo ++ q :: hi)) (ok : okTu q') : ∀ p, p ∈ lo ++ q' :: hi → okTu p := by
  intro p hp
  rcases List.mem_append.1 hp with h1 | h1
  · exact h.pairs.ok p (List.mem_append_left _ h1)
  · rcases List.mem_cons.1 h1 with rfl | h2
    · exact ok
    · exact h.pairs.ok p (List.mem_append_right _ (List.mem_cons_of_mem _ h2))
/-- A step is written. -/
theorem SlabT.put1 {w : World} {g off cap k : Nat} {lo hi : List TupV} {q : TupV} {s : Int} (h : SlabT w (some ⟨g, off, none⟩) cap (lo ++ q :: hi)) (hk : lo.length = k) (ok : okTu ⟨q.x, s, q.sl⟩) :
    SlabT (w.setCell ⟨g, off + k * 3 + 1, none⟩ (.int .u64 s)) (some ⟨g, off, none⟩) cap (lo ++ ⟨q.x, s, q.sl⟩ :: hi) := by
  obtain ⟨cs, P, X, T, R, hg, hc, hX, hP, hXe, hTe, hr⟩ := slab_part h hk
  have hf := h.fit
  refine slab_of_cellsT (P := P) (R := R) (slab_ok h ok) (set_cells8T hg _ _) hP ?_ (by simp at hf ⊢; omega) (by simp; omega) h.capm
  rw [Array.toList_setIfInBounds, hc, List.set_append_right _ _ (by omega), show off + k * 3 + 1 - X.length = 1 by omega, hXe, hTe, cellsTu_app, cellsTu_cons]
  simp [cellsTu1]
/-- A tuple is written. -/
theorem SlabT.put3 {w : World} {g off cap k : Nat} {lo hi : List TupV} {q q' : TupV} (h : SlabT w (some ⟨g, off, none⟩) cap (lo ++ q :: hi)) (hk : lo.length = k) (ok : okTu q') :
    SlabT (w.setCells g (off + k * 3) [.int .i64 q'.x, .int .u64 q'.st, .int .u64 q'.sl]) (some ⟨g, off, none⟩) cap (lo ++ q' :: hi) := by
  obtain ⟨cs, P, X, T, R, hg, hc, hX, hP, hXe, hTe, hr⟩ := slab_part h hk
  have hf := h.fit
  have hlen : cs.toList.length = cs.size := by simp
  rw [hc] at hlen
  simp only [List.length_append, List.length_cons] at hlen
  have hone : ∀ v ∈ [Value.int .i64 q'.x, .int .u64 q'.st, .int .u64 q'.sl], v.oneCell' = true := by intro u hu; simp at hu; rcases hu with rfl | rfl | rfl <;> rfl
  rw [setCells_rowT hg (by simp; omega) hone]
  refine slab_of_cellsT (P := P) (R := R) (slab_ok h ok) (setRow_heap w g _ _ _ _ hg) hP ?_ (by simp at hf ⊢; omega) ?_ h.capm
  · rw [hc]
    have e1 : (X ++ (.int .i64 q.x :: .int .u64 q.st :: .int .u64 q.sl :: T)).take (off + k * 3) = X := by rw [← hX, List.take_left' rfl]
    have e2 : (X ++ (.int .i64 q.x :: .int .u64 q.st :: .int .u64 q.sl :: T)).drop (off + k * 3 + 3) = T := by
      rw [← hX, List.drop_append, List.drop_of_length_le (by omega), List.nil_append, show X.length + 3 - X.length = 3 by omega]
      rfl
    show (X ++ _).take _ ++ _ ++ (X ++ _).drop (off + k * 3 + 3) = _
    rw [e1, e2, hXe, hTe, cellsTu_app, cellsTu_cons]
    simp [cellsTu1]
  · have e1 : (X ++ (.int .i64 q.x :: .int .u64 q.st :: .int .u64 q.sl :: T)).length = cs.size := by simp only [List.length_append, List.length_cons]; omega
    rw [hc]
    simp only [List.size_toArray, List.length_append, List.length_take, List.length_drop, List.length_cons, List.length_nil]
    omega
theorem grown_put1 (w : World) (g o : Nat) (v : Value) : w.grownBy (w.setCell ⟨g, o, none⟩ v) (some g) :=
  ⟨rfl, rfl, rfl, by simp [World.setCell], fun k _ hr => Below.heap_setCell w _ _ k (fun e => hr (by rw [e]))⟩

/-- Where the loop stands. -/
structure SqzI (w wr : World) (g off cap n : Nat) (lim : Int) (L C : List TupV) (i kp : Nat) : Prop where
  lt : i < kp
  kn : kp < n
  len : C.length = n
  ahead : C.take (i + 1) = L.take (i + 1)
  left : C.drop kp = sqzL lim (L.drop (i + 1))
  slab : SlabT wr (some ⟨g, off, none⟩) cap C
  grown : w.grownBy wr (some g)
theorem SqzI.at_ {w wr : World} {g off cap n : Nat} {lim : Int} {L C : List TupV} {i kp : Nat} (h : SqzI w wr g off cap n lim L C i kp) (hn : L.length = n) {p : TupV} (hp : L[i]? = some p) : C[i]? = some p := by
  have e : (C.take (i + 1))[i]? = (L.take (i + 1))[i]? := by rw [h.ahead]
  rw [List.getElem?_take_of_lt (by omega), List.getElem?_take_of_lt (by omega), hp] at e
  exact e
theorem SqzI.head {w wr : World} {g off cap n : Nat} {lim : Int} {L C : List TupV} {i kp : Nat} (h : SqzI w wr g off cap n lim L C i kp) {u : TupV} {t : List TupV} (hu : sqzL lim (L.drop (i + 1)) = u :: t) : C[kp]? = some u ∧ C = C.take kp ++ u :: t := by
  have e : C.drop kp = u :: t := by rw [h.left, hu]
  constructor
  · have : (C.drop kp)[0]? = some u := by rw [e]; rfl
    rw [List.getElem?_drop] at this
    exact this
  · rw [← e, List.take_append_drop]
theorem SqzI.free {w wr : World} {g off cap n : Nat} {lim : Int} {L C : List TupV} {i kp : Nat} (h : SqzI w wr g off cap n lim L C i kp) (o : Nat) : wr.frozen? ⟨g, o, none⟩ = false := by
  rcases h.slab.blk with ⟨e, _⟩ | ⟨g', off', cs, e, hb⟩
  · cases e
  · obtain ⟨rfl, rfl, _⟩ := Addr.mk.inj (Option.some.inj e)
    exact free8T hb _
/-- A round: it goes into the next one. -/
theorem SqzI.into {w wr : World} {g off cap n : Nat} {lim : Int} {L C : List TupV} {i kp : Nat} (h : SqzI w wr g off cap n lim L C (i + 1) kp) (hn : L.length = n) {p u : TupV} {t : List TupV} (hp : L[i + 1]? = some p) (hu : sqzL lim (L.drop (i + 2)) = u :: t) (hle : p.st + u.st + u.sl ≤ lim) (ok : okTu ⟨u.x, u.st + p.st, u.sl⟩) {q : Nat} :
    SqzI w ((wr.drewN q).setCell ⟨g, off + kp * 3 + 1, none⟩ (.int .u64 (u.st + p.st))) g off cap n lim L (C.take kp ++ ⟨u.x, u.st + p.st, u.sl⟩ :: t) i kp := by
  obtain ⟨h1, h2⟩ := h.head hu
  have hlt := h.lt
  have hl : (C.take kp).length = kp := by rw [List.length_take, h.len]; have := h.kn; omega
  have hs := h.slab
  rw [h2] at hs
  have hsl := sqzL_at (lim := lim) hp
  have hlen := congrArg List.length h2
  rw [h.len, List.length_append, List.length_cons, hl] at hlen
  refine ⟨by omega, h.kn, ?_, ?_, ?_, ?_, ?_⟩
  · rw [List.length_append, List.length_cons, hl]; omega
  · rw [List.take_append_of_le_length (by omega), List.take_take, Nat.min_eq_left (by omega)]
    have := congrArg (List.take (i + 1)) h.ahead
    rw [List.take_take, List.take_take, Nat.min_eq_left (by omega)] at this
    exact this
  · rw [List.drop_left' hl, hsl, hu]
    show _ = if p.st + u.st + u.sl ≤ lim then _ else _
    rw [if_pos hle]
  · exact (hs.call (below_drewT (Below.refl _ _) q)).put1 hl ok
  · exact grown_transT (grown_callT h.grown (below_drewT (Below.refl _ _) q)) (grown_put1 _ _ _ _)
/-- A round: it stays. -/
theorem SqzI.stay {w wr : World} {g off cap n : Nat} {lim : Int} {L C : List TupV} {i kp : Nat} (h : SqzI w wr g off cap n lim L C (i + 1) (kp + 1)) (hn : L.length = n) {p u : TupV} {t : List TupV} (hp : L[i + 1]? = some p) (hu : sqzL lim (L.drop (i + 2)) = u :: t) (hle : ¬ p.st + u.st + u.sl ≤ lim) (ok : okTu p) {q : Nat} :
    SqzI w ((wr.drewN q).setCells g (off + kp * 3) [.int .i64 p.x, .int .u64 p.st, .int .u64 p.sl]) g off cap n lim L (C.take kp ++ p :: C.drop (kp + 1)) i kp := by
  obtain ⟨h1, h2⟩ := h.head hu
  have hlt := h.lt
  have hkn := h.kn
  have hl : (C.take kp).length = kp := by rw [List.length_take, h.len]; omega
  have hx : C[kp]? = some (C[kp]'(by rw [h.len]; omega)) := List.getElem?_eq_getElem _
  generalize C[kp]'(by rw [h.len]; omega) = z at hx
  have hC : C = C.take kp ++ z :: C.drop (kp + 1) := by rw [← drop_is hx, List.take_append_drop]
  have hs := h.slab
  rw [hC] at hs
  have hsl := sqzL_at (lim := lim) hp
  have hlen := congrArg List.length hC
  rw [h.len, List.length_append, List.length_cons, hl] at hlen
  refine ⟨by omega, by omega, ?_, ?_, ?_, ?_, ?_⟩
  · rw [List.length_append, List.length_cons, hl]; omega
  · rw [List.take_append_of_le_length (by omega), List.take_take, Nat.min_eq_left (by omega)]
    have := congrArg (List.take (i + 1)) h.ahead
    rw [List.take_take, List.take_take, Nat.min_eq_left (by omega)] at this
    exact this
  · rw [List.drop_left' hl, hsl, hu, h.left, hu]
    show _ = if p.st + u.st + u.sl ≤ lim then _ else _
    rw [if_neg hle]
  · exact (hs.call (below_drewT (Below.refl _ _) q)).put3 hl ok
  · refine grown_transT (grown_callT h.grown (below_drewT (Below.refl _ _) q)) ?_
    rw [show (wr.drewN q).setCells g (off + kp * 3) [.int .i64 p.x, .int .u64 p.st, .int .u64 p.sl] = (((wr.drewN q).setCell ⟨g, off + kp * 3, none⟩ (.int .i64 p.x)).setCell ⟨g, off + kp * 3 + 1, none⟩ (.int .u64 p.st)).setCell ⟨g, off + kp * 3 + 2, none⟩ (.int .u64 p.sl) from rfl]
    exact grown_transT (grown_transT (grown_put1 _ _ _ _) (grown_put1 _ _ _ _)) (grown_put1 _ _ _ _)

set_option maxRecDepth 100000 in
set_option maxHeartbeats 4000000 in
theorem tsq_slab (w : World) (g off cap n : Nat) (L : List TupV) (lim : Int) (h : SlabT w (some ⟨g, off, none⟩) cap L) (hn : L.length = n) (h3 : 3 ≤ n) (hl : n ≤ 20000) (hg : GoodT L) (hlim : Word lim) :
    Calls Tryz.prog 50 #[.slice (some ⟨g, off, none⟩) n cap, .int .u64 lim] w (AddedVT w (some ⟨g, off, none⟩) (sqzT lim L)) := by
  have HN := Lib.hid hn
  have HG := Lib.hid hg
  have HOK := Lib.hid h.pairs.ok
  have hst : ∀ q, q ∈ L → 0 ≤ q.st := fun q hq => (h.pairs.ok q hq).2.1.1
  have HST := Lib.hid hst
  have HMX := Lib.hid hg.max
  have hcap := h.fit
  have hcm : cap ≤ 9223372036854775807 := by have h9 := h.capm; unfold maxLen at h9; omega
  have HI : Hid (SqzI w w g off cap n lim L L (n - 2) (n - 1)) := Lib.hid ⟨by omega, by omega, hn, rfl, by
      have hx := List.getElem?_eq_getElem (l := L) (i := n - 1) (by omega)
      rw [show n - 2 + 1 = n - 1 by omega, drop_is hx, List.drop_of_length_le (by omega)]; rfl, h, grown_reflT w _⟩
  obtain ⟨l0, l1⟩ := hlim
  have k1 : ¬ (n : Int) < 3 := by omega
  have k2 : decide ((n : Int) < 3) = false := decide_eq_false k1
  have k3 : IntKind.i64.wrap ((n : Int) - 1) = ((n - 1 : Nat) : Int) := by rw [IntKind.wrap_i64]; omega
  have k4 : IntKind.i64.wrap (((n - 1 : Nat) : Int) - 1) = ((n - 2 : Nat) : Int) := by rw [IntKind.wrap_i64]; omega
  have hnc : n ≤ cap := by omega
  clear h hg hst hn hcap
  go_enter Tryz.func50, Tryz.ntmps50
  go_wp2_with fail
  go_loopw [5, 6] (fun kv iv wr => ∃ (i kp : Nat) (C : List TupV), iv = .int .i64 i ∧ kv = .int .i64 kp ∧ SqzI w wr g off cap n lim L C i kp) (fun _ iv _ => (intOf iv).toNat)
  case atStart => exact ⟨n - 2, n - 1, L, rfl, rfl, HI.out⟩
  case round =>
    obtain ⟨i, kp, C, rfl, rfl, hI⟩ := hrel
    have HII := Lib.hid hI
    have lt1 := hI.lt
    have kn := hI.kn
    clear hI
    by_cases hi0 : i = 0
    · subst hi0
      have z1 : ¬ ((0 : Nat) : Int) < ((0 : Nat) : Int) := by omega
      have hsq : sqzT lim L = C.take 1 ++ C.drop kp := by rw [sqz_is, HII.out.left, HII.out.ahead]
      have HSQ := Lib.hid hsq
      clear hsq
      by_cases hk1 : kp = 1
      · subst hk1
        have hd := tdel_same wr (some ⟨g, off, none⟩) cap n 1 (by omega) hnc hcm
        have HD := Lib.hid hd
        have HF : Hid (AddedVT w (some ⟨g, off, none⟩) (sqzT lim L) (.returned (.slice (some ⟨g, off, none⟩) n cap)) wr) := Lib.hid ⟨some ⟨g, off, none⟩, cap, by rw [HSQ.out, List.take_append_drop, HII.out.len], by rw [HSQ.out, List.take_append_drop]; exact HII.out.slab, HII.out.grown, Or.inl rfl⟩
        clear hd
        go_wp2_with fail
        refine HD.out.mono ?_
        rintro e w3 ⟨rfl, rfl⟩
        go_wp2_with fail
        go_ret
        exact HF.out
      · have hd := tdel_slab wr g off cap n 1 kp C HII.out.slab HII.out.len (by omega) kn (by omega)
        have HD := Lib.hid hd
        have HF := Lib.hid (fun e w' (ha : AddedVT wr (some ⟨g, off, none⟩) (C.take 1 ++ C.drop kp) e w') => (by rw [HSQ.out]; exact addedT_trans HII.out.grown ha : AddedVT w (some ⟨g, off, none⟩) (sqzT lim L) e w'))
        clear hd
        go_wp2_with fail
        refine HD.out.mono ?_
        intro e w3 ha
        have hf := HF.out e w3 ha
        obtain ⟨A', cap', he, _⟩ := ha
        generalize (C.take 1 ++ C.drop kp).length = q at he
        subst he
        have HFF := Lib.hid hf
        clear hf
        go_wp2_with fail
        go_ret
        exact HFF.out
    · obtain ⟨j, rfl⟩ : ∃ j, i = j + 1 := ⟨i - 1, by omega⟩
      obtain ⟨i, hi⟩ : ∃ i, j + 1 = i := ⟨_, rfl⟩
      have hxk : L[j + 1]? = some (L[j + 1]'(by rw [HN.out]; omega)) := List.getElem?_eq_getElem _
      generalize L[j + 1]'(by rw [HN.out]; omega) = p at hxk
      obtain ⟨u, t, hu, q1, q2, q3, q4⟩ := sqzL_head (lim := lim) HG.out hxk (by rw [HN.out]; omega) HST.out
      have hmx := HMX.out
      have hok := HOK.out p (List.mem_of_getElem? hxk)
      obtain ⟨px, ps, pl⟩ := p
      obtain ⟨ux, us, ul⟩ := u
      obtain ⟨cu, _⟩ := HII.out.head hu
      have cp := HII.out.at_ HN.out hxk
      have hpr := HII.out.slab.pairs
      obtain ⟨b1, o1, e1, _, c0, c1, c2⟩ := hpr.at_ _ _ cp
      obtain ⟨b2, o2, e2, _, d0, d1, d2⟩ := hpr.at_ _ _ cu
      obtain ⟨rfl, rfl, _⟩ := Addr.mk.inj (Option.some.inj e1)
      obtain ⟨rfl, rfl, _⟩ := Addr.mk.inj (Option.some.inj e2)
      have hoku := hpr.ok _ (List.mem_of_getElem? cu)
      have HP := Lib.hid hxk
      have HU := Lib.hid hu
      simp only at c0 c1 c2 d0 d1 d2 q1 q2 q3 q4
      obtain ⟨⟨x0, x1⟩, ⟨s0, s1⟩, sl0, sl1⟩ := hok
      obtain ⟨⟨y0, y1⟩, ⟨v0, v1⟩, vl0, vl1⟩ := hoku
      simp only at x0 x1 s0 s1 sl0 sl1 y0 y1 v0 v1 vl0 vl1
      have hm3 : ps + us + ul ≤ 9223372036854775807 := by omega
      have a1 : IntKind.u64.wrap (ps + us) = ps + us := by rw [IntKind.wrap_u64]; omega
      have a2 : IntKind.u64.wrap (ps + us + ul) = ps + us + ul := by rw [IntKind.wrap_u64]; omega
      have a3 : IntKind.u64.wrap (us + ps) = us + ps := by rw [IntKind.wrap_u64]; omega
      have a4 : IntKind.i64.wrap ((i : Int) - 1) = (j : Int) := by rw [IntKind.wrap_i64]; omega
      have b1 : (0 : Int) < (i : Int) := by omega
      have b2 : decide ((0 : Int) < (i : Int)) = true := decide_eq_true b1
      have b3 : (i : Int) < (n : Int) := by omega
      have b4 : (kp : Int) < (n : Int) := by omega
      have HIJ := Lib.hid hi
      rw [hi] at c0 c1 c2
      rw [hi]
      clear hxk hu cu cp hpr e1 e2 hi
      by_cases hc : ps + us + ul ≤ lim
      · have f1 : decide (ps + us + ul ≤ lim) = true := decide_eq_true hc
        have f2 : wr.frozen? ⟨g, off + kp * 3 + 1, none⟩ = false := HII.out.free _
        go_wp2_with fail
        go_quiet (fail)
        go_wp2_with fail
        go_region
        go_wp2_with fail
        have okx : okTu ⟨ux, us + ps, ul⟩ := ⟨⟨y0, y1⟩, ⟨(by omega : 0 ≤ us + ps), (by omega : us + ps < 18446744073709551616)⟩, vl0, vl1⟩
        exact ⟨⟨j, kp, _, rfl, rfl, HII.out.into HN.out HP.out HU.out hc okx⟩, by have := HIJ.out; simp [intOf]; omega⟩
      · have f1 : decide (ps + us + ul ≤ lim) = false := decide_eq_false hc
        obtain ⟨m, rfl⟩ : ∃ m, kp = m + 1 := ⟨kp - 1, by omega⟩
        have hzk : C[m]? = some (C[m]'(by rw [HII.out.len]; omega)) := List.getElem?_eq_getElem _
        generalize C[m]'(by rw [HII.out.len]; omega) = z at hzk
        obtain ⟨zx, zs, zl⟩ := z
        obtain ⟨b3, o3, e3, _, g0, g1, g2⟩ := HII.out.slab.pairs.at_ _ _ hzk
        obtain ⟨rfl, rfl, _⟩ := Addr.mk.inj (Option.some.inj e3)
        simp only at g0 g1 g2
        have f2 : wr.frozen? ⟨g, off + m * 3, none⟩ = false := HII.out.free _
        have f3 : wr.frozen? ⟨g, off + m * 3 + 1, none⟩ = false := HII.out.free _
        have f4 : wr.frozen? ⟨g, off + m * 3 + 2, none⟩ = false := HII.out.free _
        obtain ⟨kp, hkp⟩ : ∃ kp, m + 1 = kp := ⟨_, rfl⟩
        have a5 : IntKind.i64.wrap ((kp : Int) - 1) = (m : Int) := by rw [IntKind.wrap_i64]; omega
        have b6 : (m : Int) < (n : Int) := by omega
        have HKP := Lib.hid hkp
        rw [hkp] at d0 d1 d2 b4
        rw [hkp]
        clear hzk e3 hkp
        go_wp2_with fail
        go_quiet (fail)
        go_wp2_with fail
        have hcc : ¬ ps + us + ul ≤ lim := by omega
        exact ⟨⟨j, m, _, rfl, rfl, HII.out.stay HN.out HP.out HU.out hcc ⟨⟨x0, x1⟩, ⟨s0, s1⟩, sl0, sl1⟩⟩, by have := HIJ.out; simp [intOf]; omega⟩

set_option maxHeartbeats 1000000 in
theorem tsqueeze_any (w : World) (base : Nat) (v : Value) (L : List TupV) (lim : Int) (hbase : base ≤ w.heap.size) (h : OwnTu w base v L) (ok : ∀ p, p ∈ L → okTu p) (hg : GoodT L) (hl : L.length ≤ 20000) (hlim : Word lim) :
    Calls Tryz.prog 50 #[v, .int .u64 lim] w fun e w' => ∃ v', e = .returned v' ∧ OwnTu w' base v' (sqzT lim L) ∧ w.grownBy w' v.ownBlock ∧ (v'.ownBlock = v.ownBlock ∨ ∀ g, v'.ownBlock = some g → w.heap.size ≤ g) := by
  obtain ⟨A, cap, rfl, hS, hA⟩ := SlabT.of_own h ok
  obtain ⟨n, hn⟩ : ∃ n, L.length = n := ⟨_, rfl⟩
  rw [hn] at h ⊢
  by_cases h3 : 3 ≤ n
  · rcases hS.form with ⟨_, e, _⟩ | ⟨g, off, rfl⟩
    · rw [e] at hn; simp at hn; omega
    · exact (tsq_slab w g off cap n L lim hS hn h3 (by omega) hg hlim).mono fun e w' ha => own_of_addedT hbase h ha
  · have e : sqzT lim L = L := sqz_two (by omega)
    rw [e]
    have k1 : (n : Int) < 3 := by omega
    have k2 : decide ((n : Int) < 3) = true := decide_eq_true k1
    have HF := Lib.hid h
    clear hS h hg ok e hA
    go_enter Tryz.func50, Tryz.ntmps50
    go_wp2_with fail
    go_ret
    exact ⟨_, rfl, HF.out, grown_reflT w _, Or.inl rfl⟩
end Go.Proofs.YtfmlkohijkalbaaGreat
