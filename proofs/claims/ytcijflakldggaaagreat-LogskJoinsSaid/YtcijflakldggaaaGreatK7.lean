/-
  Texts joined, in build order: SkR, SkP, SkB, SkC, SkM, ValR, ValS.
-/
import Derived.Test.YtcijflakldggaaaGreatK6
import Derived.Deep.RegionHeld3
import Derived.StillTailTactics
import Derived.Lib.AppendZerosOnto
import Derived.Laws.OwnMore
import Derived.Deep.RegionLaw
/-
  Walks: the reference of layer 14: Ends, Quantile; what a sketch answers, as mathematics.
-/
namespace Go.Proofs.YtcijflakldggaaaGreat
set_option linter.unusedVariables false
set_option linter.unusedSimpArgs false
open Go.RowKit

/-- What a sketch answers: a value, and the error's number. -/
def quanE (P : Pt) (s : Bool) (st : St) (lo hi a b : Int) : Int × Int :=
  if plE a b st.all = 0 then (match findSt P s st (plV a b st.all) with | none => (0, 9) | some x => (clampV lo hi x, 0)) else (0, plE a b st.all)
def quanA (P : Pt) (s : Bool) (m : Int) (A : List PairV) (a b : Int) : Int × Int :=
  if plE a b (sumP A) = 0 then (match askV P s m A (plV a b (sumP A)) with | none => (0, 9) | some x => (clampV (loV A) (hiV A) x, 0)) else (0, plE a b (sumP A))
theorem ple_zero (a b : Int) : plE a b 0 ≠ 0 := by
  unfold plE; split
  · rw [if_pos rfl]; decide
  · decide
theorem quan_same {P : Pt} (hP : P.ok) (s : Bool) {m : Int} (hm : 0 < m) {A : List PairV} (h : FineV A) (hl : A.length ≤ 1000) {lo hi : Int} (he : A ≠ [] → lo = loV A ∧ hi = hiV A) (a b : Int) : quanE P s (stV P s m A) lo hi a b = quanA P s m A a b := by
  unfold quanE quanA
  rw [stv_all hP s m h hl]
  by_cases hA : A = []
  · subst hA
    have : plE a b (sumP []) ≠ 0 := ple_zero a b
    rw [if_neg this, if_neg this]
  · obtain ⟨rfl, rfl⟩ := he hA
    rw [find_ask hP s hm h hl]
/-- Ends of values that are some. -/
theorem ends_i64 {A : List PairV} (h : FineV A) : I64 (loV A) ∧ I64 (hiV A) := by
  by_cases hA : A = []
  · subst hA; exact ⟨⟨by decide, by decide⟩, ⟨by decide, by decide⟩⟩
  · obtain ⟨⟨x, hx, ex⟩, _⟩ := lov_facts hA
    obtain ⟨⟨y, hy, ey⟩, _⟩ := hiv_facts hA
    exact ⟨ex ▸ (h x hx).1, ey ▸ (h y hy).1⟩
theorem clamp_i64 {lo hi x : Int} (h1 : I64 lo) (h2 : I64 hi) (h3 : I64 x) : I64 (clampV lo hi x) := by
  unfold I64 at *; unfold clampV; omega
theorem clamp_eq (lo hi x : Int) : min (max x lo) hi = clampV lo hi x := rfl
/-- What Ends tells of values. -/
def endA (A : List PairV) : Int × Int × Bool := if A = [] then (0, 0, false) else (loV A, hiV A, true)
theorem lov_cons {v : PairV} {r : List PairV} : loV (v :: r) = loF v.1 (v :: r) := rfl
theorem hiv_cons {v : PairV} {r : List PairV} : hiV (v :: r) = hiF v.1 (v :: r) := rfl
theorem ret_ends {a b x y : Int} {c : Bool} (h : a = x) (h' : b = y) : Ending.returned (.tuple #[.int .i64 a, .int .i64 b, .bool c]) = .returned (.tuple #[.int .i64 x, .int .i64 y, .bool c]) := by rw [h, h']
theorem ret_err {a b x y : Int} (h : a = x) (h' : b = y) : Ending.returned (.tuple #[.int .i64 a, .int .i64 b]) = .returned (.tuple #[.int .i64 x, .int .i64 y]) := by rw [h, h']
theorem lof_bd {A : List PairV} (h : ∀ p, p ∈ A → okP p) {x : Int} (hx : I64 x) : I64 (loF x A) := by
  rcases lof_mem A x with e | ⟨v, hv, e⟩
  · rw [e]; exact hx
  · rw [← e]; exact (h v hv).1
theorem hif_bd {A : List PairV} (h : ∀ p, p ∈ A → okP p) {x : Int} (hx : I64 x) : I64 (hiF x A) := by
  rcases hif_mem A x with e | ⟨v, hv, e⟩
  · rw [e]; exact hx
  · rw [← e]; exact (h v hv).1

set_option maxRecDepth 100000 in
set_option maxHeartbeats 1000000 in
theorem rends_any (w : World) (a : Option Addr) (cap : Nat) (A : List PairV) (x y : Int) (b : Bool) (h : Pairs w a A) (hl : A.length ≤ 1000) (he : endA A = (x, y, b)) :
    Calls Tryz.prog 39 #[.slice a A.length cap] w fun e w' => e = .returned (.tuple #[.int .i64 x, .int .i64 y, .bool b]) ∧ Below w.heap.size w w' := by
  have HI := Lib.hid h
  cases A with
  | nil =>
    have e : endA [] = (0, 0, false) := rfl
    rw [e] at he
    obtain ⟨rfl, rfl, rfl⟩ : 0 = x ∧ 0 = y ∧ false = b := by simpa using he
    clear h he e
    go_enter Tryz.func39, Tryz.ntmps39
    go_wp2_with fail
    go_ret3
    exact ⟨rfl, Below.refl _ _⟩
  | cons p0 r =>
    have e : endA (p0 :: r) = (loF p0.1 (p0 :: r), hiF p0.1 (p0 :: r), true) := by unfold endA; rw [if_neg (by simp)]; rfl
    rw [e] at he
    obtain ⟨h1, h2, rfl⟩ : loF p0.1 (p0 :: r) = x ∧ hiF p0.1 (p0 :: r) = y ∧ true = b := by simpa using he
    have HX := Lib.hid h1
    have HY := Lib.hid h2
    have h0 : (p0 :: r)[0]? = some p0 := rfl
    have n0 : 0 < (p0 :: r).length := by simp
    have HLB := Lib.hid (fun k => lof_bd (A := (p0 :: r).take k) (fun p hp => h.ok p (List.mem_of_mem_take hp)) (h.ok _ (List.mem_of_getElem? h0)).1)
    have HHB := Lib.hid (fun k => hif_bd (A := (p0 :: r).take k) (fun p hp => h.ok p (List.mem_of_mem_take hp)) (h.ok _ (List.mem_of_getElem? h0)).1)
    generalize p0 :: r = A at *
    obtain ⟨x0, n0'⟩ := p0
    obtain ⟨b0, off0, rfl, hbl0, d0, d1⟩ := HI.out.at_ 0 _ h0
    have hk0 := HI.out.ok _ (List.mem_of_getElem? h0)
    obtain ⟨⟨z1, z2⟩, z3, z4⟩ := hk0
    simp only [Nat.zero_mul, Nat.mul_zero, Nat.add_zero] at d0 d1 z1 z2 z3 z4 HX HY HLB HHB
    have nz : ((A.length : Int) == 0) = false := by rw [beq_eq_false_iff_ne]; omega
    clear h he e h1 h2 h0
    go_enter Tryz.func39, Tryz.ntmps39
    go_wp2_with fail
    go_loopw [5, 6, 22] (fun l g j wr => ∃ k : Nat, k ≤ A.length ∧ j = .int .i64 k ∧ l = .int .i64 (loF x0 (A.take k)) ∧ g = .int .i64 (hiF x0 (A.take k)) ∧ Below w.heap.size w wr) (fun _ _ j _ => A.length - (intOf j).toNat)
    case atStart => exact ⟨0, Nat.zero_le _, rfl, rfl, rfl, Below.refl _ _⟩
    case round =>
      obtain ⟨k, hk, rfl, rfl, rfl, hb2⟩ := hrel
      have hlb := HLB.out k
      have hhb := HHB.out k
      obtain ⟨LO, hLO⟩ : ∃ LO, loF x0 (A.take k) = LO := ⟨_, rfl⟩
      obtain ⟨HI2, hHI2⟩ : ∃ HI2, hiF x0 (A.take k) = HI2 := ⟨_, rfl⟩
      rw [hLO] at hlb
      rw [hHI2] at hhb
      rw [hLO, hHI2]
      obtain ⟨y0, y1⟩ := hlb
      obtain ⟨y2, y3⟩ := hhb
      have HLO := Lib.hid hLO
      have HHI := Lib.hid hHI2
      clear hLO hHI2
      by_cases hlt : k < A.length
      · have kk : (k : Int) < A.length := by omega
        have hxk : A[k]? = some A[k] := List.getElem?_eq_getElem hlt
        generalize hit : A[k] = p at *
        obtain ⟨px, pc⟩ := p
        obtain ⟨b, off, e2, hbl, c0, c1⟩ := (HI.out.call hb2).at_ k _ hxk
        obtain ⟨rfl, rfl⟩ : b0 = b ∧ off0 = off := by simpa using e2
        have HS1 : Hid (loF x0 (A.take (k + 1)) = min LO px) := Lib.hid (by rw [take_snocP hxk, lof_snoc, HLO.out])
        have HS2 : Hid (hiF x0 (A.take (k + 1)) = max HI2 px) := Lib.hid (by rw [take_snocP hxk, hif_snoc, HHI.out])
        have hok := HI.out.ok _ (List.mem_of_getElem? hxk)
        obtain ⟨⟨o1, o2⟩, o3, o4⟩ := hok
        have hbs := hb2.size
        simp only at c0 c1 o1 o2 o3 o4 HS1 HS2
        clear hxk hit e2
        go_wp2_with fail
        all_goals
          go_roundw
          case rel => exact ⟨k + 1, by omega, by go_num, by rw [HS1.out], by rw [HS2.out], hb2.alloc hbs _⟩
          case measure => simp [intOf]; omega
      · obtain rfl : k = A.length := by omega
        rw [List.take_length] at HLO HHI
        have kk : ¬ (A.length : Int) < A.length := by omega
        have E : Hid (LO = x ∧ HI2 = y) := Lib.hid ⟨by rw [← HLO.out]; exact HX.out, by rw [← HHI.out]; exact HY.out⟩
        go_wp2_with fail
        go_ret3
        exact ⟨ret_ends E.out.1 E.out.2, hb2⟩

set_option maxRecDepth 100000 in
set_option maxHeartbeats 1000000 in
theorem rquan_any (w : World) (M : Nat) (P : Pt) (s : Bool) (m : Int) (A : List PairV) (pa pb r c : Int) (wa : Word pa) (wb : Word pb) (h : RefN w M P s m A) (hP : P.ok) (hf : FineV A) (hl : A.length ≤ 300) (m1 : 1 ≤ m) (m2 : m ≤ 4096) (he : quanA P s m A pa pb = (r, c)) :
    Calls Tryz.prog 13 #[.pointer (some ⟨M, 0, none⟩), .agg #[.int .u64 pa, .int .u64 pb]] w fun e w' => e = .returned (.tuple #[.int .i64 r, .int .i64 c]) ∧ Below w.heap.size w w' := by
  have HR := Lib.hid h
  obtain ⟨lo, re, dg, av, cap, hp, hv, hc⟩ := h.cells
  have HV := Lib.hid hv
  have HC := Lib.hid hc
  have h0 := (fine_sum hf).1
  have h1 := fine_fit hf (by omega)
  obtain ⟨T, hT⟩ : ∃ T, sumP A = T := ⟨_, rfl⟩
  have HTO := Lib.hid (fun W hW => rtotal13_any W M P s m A T hW (by omega) hT (by omega))
  have HPL := Lib.hid (fun W => rplace_any pa pb T wa wb (by unfold Word; omega) W)
  have HFN := Lib.hid (fun W hW t y b wt e1 e2 => rfind13_any W M P s m A t y b hW hP hf (by omega) m1 m2 wt e1 e2)
  have hwv := pl_word (n := T) wa wb (by unfold Word; omega)
  unfold quanA at he
  rw [hT] at he h0 h1
  generalize plV pa pb T = t at *
  have hcn : 0 ≤ plE pa pb T := by unfold plE; split; split <;> omega; omega
  generalize plE pa pb T = c' at *
  have HHE := Lib.hid he
  have HS0 : Hid ((w.alloc (.cells #[.int .u64 pa, .int .u64 pb] 24)).drew.cell? ⟨w.heap.size, 0, none⟩ = some (.int .u64 pa) ∧ (w.alloc (.cells #[.int .u64 pa, .int .u64 pb] 24)).drew.cell? ⟨w.heap.size, 1, none⟩ = some (.int .u64 pb) ∧ Below w.heap.size w (w.alloc (.cells #[.int .u64 pa, .int .u64 pb] 24)).drew) := Lib.hid ⟨by go_simp, by go_simp, ((Below.refl _ _).alloc (Nat.le_refl _) _).drew⟩
  have HST := Lib.hid (fun (W W' : World) (h : W.cell? ⟨w.heap.size, 0, none⟩ = some (.int .u64 pa) ∧ W.cell? ⟨w.heap.size, 1, none⟩ = some (.int .u64 pb) ∧ Below w.heap.size w W) (hb : Below W.heap.size W W') => (⟨cell_later hb h.1, cell_later hb h.2.1, h.2.2.trans (hb.mono h.2.2.size)⟩ : W'.cell? ⟨w.heap.size, 0, none⟩ = some (.int .u64 pa) ∧ W'.cell? ⟨w.heap.size, 1, none⟩ = some (.int .u64 pb) ∧ Below w.heap.size w W'))
  clear h hp hv hc he
  by_cases z : c' = 0
  · subst z
    have he := HHE.out
    rw [if_pos rfl] at he
    cases hq : askV P s m A t with
    | none =>
      rw [hq] at he
      obtain ⟨rfl, rfl⟩ : 0 = r ∧ 9 = c := by simpa using he
      have HF := Lib.hid (fun W hW => HFN.out W hW t 0 false hwv (by rw [hq]; rfl) (by rw [hq]; rfl))
      clear he hq HFN HHE
      go_enter Tryz.func13, Tryz.ntmps13
      go_wp2_with fail
      go_region_held3 (fun w' => w'.cell? ⟨w.heap.size, 0, none⟩ = some (.int .u64 pa) ∧ w'.cell? ⟨w.heap.size, 1, none⟩ = some (.int .u64 pb) ∧ Below w.heap.size w w')
        (first | exact HS0.out | exact HST.out _ _ (by assumption) hbA | assumption)
        ((first
          | (go_at_call 17; refine (HTO.out _ (HR.out.call (And.right (And.right (by assumption))))).mono ?_; rintro e wA ⟨rfl, hbA⟩)
          | (go_at_call 16; refine (HPL.out _).mono ?_; rintro e wA ⟨rfl, hbA⟩)))
      all_goals
        rename_i hHeld
        obtain ⟨_, _, b3⟩ := hHeld
        go_wp2_with fail
        refine (HF.out _ (HR.out.call b3)).mono ?_
        rintro e w4 ⟨rfl, b4⟩
        have b4 := b3.trans (b4.mono b3.size)
        go_wp2_with fail
        go_ret2
        exact ⟨rfl, b4⟩
    | some x =>
      rw [hq] at he
      have he : (clampV (loV A) (hiV A) x, 0) = (r, c) := he
      obtain ⟨h2, rfl⟩ : clampV (loV A) (hiV A) x = r ∧ 0 = c := by simpa using he
      have HF := Lib.hid (fun W hW => HFN.out W hW t x true hwv (by rw [hq]; rfl) (by rw [hq]; rfl))
      obtain ⟨ea, eb, ec, hee⟩ : ∃ ea eb ec, endA A = (ea, eb, ec) := ⟨_, _, _, rfl⟩
      have HEN := Lib.hid (fun W hW => rends_any W av cap A ea eb ec hW (by omega) hee)
      have hel : ea = loV A ∧ eb = hiV A := by
        by_cases hA : A = []
        · subst hA
          have h3 : (0, 0, false) = (ea, eb, ec) := hee
          obtain ⟨rfl, rfl, _⟩ : 0 = ea ∧ 0 = eb ∧ false = ec := by simpa using h3
          exact ⟨rfl, rfl⟩
        · unfold endA at hee
          rw [if_neg hA] at hee
          obtain ⟨rfl, rfl, _⟩ : loV A = ea ∧ hiV A = eb ∧ true = ec := by simpa using hee
          exact ⟨rfl, rfl⟩
      have HE2 : Hid (min (max x ea) eb = r) := Lib.hid (by rw [hel.1, hel.2]; exact h2)
      have hEI := ends_i64 hf
      rw [← hel.1, ← hel.2] at hEI
      obtain ⟨⟨e0, e1⟩, e2, e3⟩ := hEI
      obtain ⟨lnn, hln⟩ : ∃ lnn : Nat, A.length = lnn := ⟨_, rfl⟩
      rw [hln] at HEN
      have hc5 := HC.out.c5
      rw [hln] at hc5
      have HC5 := Lib.hid hc5
      clear he hq HFN HHE hee hel h2 hc5
      go_enter Tryz.func13, Tryz.ntmps13
      go_wp2_with fail
      go_region_held3 (fun w' => w'.cell? ⟨w.heap.size, 0, none⟩ = some (.int .u64 pa) ∧ w'.cell? ⟨w.heap.size, 1, none⟩ = some (.int .u64 pb) ∧ Below w.heap.size w w')
        (first | exact HS0.out | exact HST.out _ _ (by assumption) hbA | assumption)
        ((first
          | (go_at_call 17; refine (HTO.out _ (HR.out.call (And.right (And.right (by assumption))))).mono ?_; rintro e wA ⟨rfl, hbA⟩)
          | (go_at_call 16; refine (HPL.out _).mono ?_; rintro e wA ⟨rfl, hbA⟩)))
      all_goals
        rename_i hHeld
        obtain ⟨_, _, b3⟩ := hHeld
        go_wp2_with fail
        refine (HF.out _ (HR.out.call b3)).mono ?_
        rintro e w4 ⟨rfl, b4⟩
        have b4 := b3.trans (b4.mono b3.size)
        have hc5 := cell_later b4 HC5.out
        go_wp2_with fail
        refine (HEN.out _ (HV.out.call b4)).mono ?_
        rintro e w5 ⟨rfl, b5⟩
        have b5 := b4.trans (b5.mono b4.size)
        go_wp2_with fail
        go_ret2
        exact ⟨ret_err HE2.out rfl, b5⟩
  · have he := HHE.out
    rw [if_neg z] at he
    obtain ⟨rfl, rfl⟩ : 0 = r ∧ c' = c := by simpa using he
    have zp : 0 < c' := by omega
    clear he HFN HHE
    go_enter Tryz.func13, Tryz.ntmps13
    go_wp2_with fail
    go_region_held3 (fun w' => w'.cell? ⟨w.heap.size, 0, none⟩ = some (.int .u64 pa) ∧ w'.cell? ⟨w.heap.size, 1, none⟩ = some (.int .u64 pb) ∧ Below w.heap.size w w')
      (first | exact HS0.out | exact HST.out _ _ (by assumption) hbA | assumption)
      ((first
        | (go_at_call 17; refine (HTO.out _ (HR.out.call (And.right (And.right (by assumption))))).mono ?_; rintro e wA ⟨rfl, hbA⟩)
        | (go_at_call 16; refine (HPL.out _).mono ?_; rintro e wA ⟨rfl, hbA⟩)))
    all_goals
      rename_i hHeld
      obtain ⟨_, _, b3⟩ := hHeld
      go_wp2_with fail
      go_ret2
      exact ⟨rfl, b3⟩
end Go.Proofs.YtcijflakldggaaaGreat

/-
  Walks: package logsk: Put, Join, Set, Reset, Quantile, New; nil ones.
-/
namespace Go.Proofs.YtcijflakldggaaaGreat
set_option linter.unusedVariables false
set_option linter.unusedSimpArgs false
open Go.RowKit

theorem ende_some (st : St) (lo hi : Int) {sm : Bool} (h : (!(st.all == 0)) = sm) : ∃ a b, endE st lo hi = (a, b, sm) := by
  unfold endE
  by_cases z : st.all = 0
  · rw [if_pos z]; rw [z] at h; exact ⟨0, 0, by rw [← h]; rfl⟩
  · have : (st.all == 0) = false := by simp [z]
    rw [this] at h
    rw [if_neg z]; exact ⟨lo, hi, by rw [← h]; rfl⟩
/-- Which of two a reach leaves. -/
theorem reachl_i64 {b : Bool} {x lo : Int} (hx : I64 x) (hl : I64 lo) : I64 (reachL b x lo) := by unfold reachL; unfold I64 at *; split <;> omega
theorem reachh_i64 {b : Bool} {x hi : Int} (hx : I64 x) (hl : I64 hi) : I64 (reachH b x hi) := by unfold reachH; unfold I64 at *; split <;> omega

set_option maxRecDepth 100000 in
set_option maxHeartbeats 1000000 in
theorem kput_any {Bn : BnT} (D : BinsDoes Bn) {w : World} {B C : Nat} {S R : Nat → Prop} {P : Pt} {u v : Int} {s : Bool} {m : Int} {st : St} {lo hi : Int} (h : SkX Bn w B C S R P u v s m st lo hi) (l1 : st.k1.length ≤ 500) (l2 : st.k2.length ≤ 500) (x c : Int) (hx : I64 x) (hc : Word c) (sm : Bool) (hs : (!(st.all == 0)) = sm) (E x' y' : Int) (hE : binErr st c = E) (ex : (if E = 0 then reachL sm x lo else lo) = x') (ey : (if E = 0 then reachH sm x hi else hi) = y') :
    Calls Tryz.prog 25 #[.pointer (some ⟨B, 0, none⟩), .int .i64 x, .int .u64 c] w fun e w' => ∃ S', e = .returned (.int .i64 E) ∧ SkX Bn w' B C S' R P u v s m (binSt P s m st x c) x' y' ∧ Keeps (skB B S) w w' ∧ ∀ k, S' k → S k ∨ w.heap.size ≤ k := by
  have HX := Lib.hid h
  have HD := Lib.hid D
  obtain ⟨a, b, hab⟩ := ende_some st lo hi hs
  have HEN := Lib.hid (kends_any D h l1 l2 a b sm hab)
  have HAD := Lib.hid (fun W (hb : Below w.heap.size w W) => D.add W C S R P s m st x c (D.call h.bins hb) l1 l2 hx hc)
  rw [hE] at HAD
  have HXI := Lib.hid hx
  have HEX := Lib.hid ex
  have HEY := Lib.hid ey
  clear h hs hE hab ex ey
  by_cases z : E = 0
  · subst z
    have hex := HEX.out
    have hey := HEY.out
    rw [if_pos rfl] at hex hey
    go_enter Tryz.func25, Tryz.ntmps25
    go_wp2_with fail
    refine HEN.out.mono ?_
    rintro e w2 ⟨rfl, b2⟩
    go_wp2_with fail
    refine (kbins_at (cell_later b2 HX.out.cells.c4)).mono ?_
    rintro e w3 ⟨rfl, b3⟩
    have b3 := b2.trans (b3.mono b2.size)
    go_wp2_with fail
    refine (HAD.out _ b3).mono ?_
    rintro e w4 ⟨S', rfl, hbn, hk, hS⟩
    have HX4 := Lib.hid ((HX.out.call HD.out b3).turn hk hbn hS)
    have hz3 := b3.size
    have HS' : Hid (∀ k, S' k → S k ∨ w.heap.size ≤ k) := Lib.hid (fun k hk => by rcases hS k hk with a | a; exact Or.inl a; exact Or.inr (by omega))
    have HK4 : Hid (Keeps (skB B S) w w4) := Lib.hid (keeps_trans (Keeps.of_below b3) hk (fun k _ hk => Or.inr hk))
    clear hbn hk hS
    go_wp2_with fail
    refine (kreach_any HD.out HX4.out x x sm HXI.out HXI.out x' y' hex hey).mono ?_
    rintro e w5 ⟨rfl, hx5, hk5⟩
    have HX5 := Lib.hid hx5
    have hk6 : Keeps (skB B S) w w5 := keeps_trans HK4.out hk5 (fun k hlt hk => by
      rcases hk with rfl | a
      · exact Or.inl rfl
      · rcases HS'.out k a with a | a
        · exact Or.inr a
        · omega)
    clear hx5 hk5
    go_wp2_with fail
    go_ret
    exact ⟨S', rfl, HX5.out, hk6, HS'.out⟩
  · have hex := HEX.out
    have hey := HEY.out
    rw [if_neg z] at hex hey
    subst hex hey
    have z1 : (E == 0) = false := by simp [z]
    go_enter Tryz.func25, Tryz.ntmps25
    go_wp2_with fail
    refine HEN.out.mono ?_
    rintro e w2 ⟨rfl, b2⟩
    go_wp2_with fail
    refine (kbins_at (cell_later b2 HX.out.cells.c4)).mono ?_
    rintro e w3 ⟨rfl, b3⟩
    have b3 := b2.trans (b3.mono b2.size)
    go_wp2_with fail
    refine (HAD.out _ b3).mono ?_
    rintro e w4 ⟨S', rfl, hbn, hk, hS⟩
    have HX4 := Lib.hid ((HX.out.call HD.out b3).turn hk hbn hS)
    have hz3 := b3.size
    have HS' : Hid (∀ k, S' k → S k ∨ w.heap.size ≤ k) := Lib.hid (fun k hk => by rcases hS k hk with a | a; exact Or.inl a; exact Or.inr (by omega))
    have HK4 : Hid (Keeps (skB B S) w w4) := Lib.hid (keeps_trans (Keeps.of_below b3) hk (fun k _ hk => Or.inr hk))
    clear hbn hk hS
    go_wp2_with fail
    go_ret
    exact ⟨S', rfl, HX4.out, HK4.out, HS'.out⟩

set_option maxHeartbeats 1000000 in
theorem kput_nil (NB : BinsNil) (w : World) (x c : Int) (hx : I64 x) (hc : Word c) :
    Calls Tryz.prog 25 #[.pointer none, .int .i64 x, .int .u64 c] w fun e w' => e = .returned (.int .i64 2) ∧ Below w.heap.size w w' := by
  have HN := Lib.hid NB
  have HAD := Lib.hid (fun W => NB.add W x c hx hc)
  go_enter Tryz.func25, Tryz.ntmps25
  go_wp2_with fail
  refine (kends_nil HN.out _).mono ?_
  rintro e w2 ⟨rfl, b2⟩
  go_wp2_with fail
  refine (kbins_nil _).mono ?_
  rintro e w3 ⟨rfl, b3⟩
  have b3 := b2.trans (b3.mono b2.size)
  go_wp2_with fail
  refine (HAD.out _).mono ?_
  rintro e w4 ⟨rfl, b4⟩
  go_wp2_with fail
  go_ret
  exact ⟨rfl, b3.trans (b4.mono b3.size)⟩

set_option maxRecDepth 100000 in
set_option maxHeartbeats 1000000 in
theorem kquan_any {Bn : BnT} (D : BinsDoes Bn) {w : World} {B C : Nat} {S R : Nat → Prop} {P : Pt} {u v : Int} {s : Bool} {m : Int} {st : St} {lo hi : Int} (h : SkX Bn w B C S R P u v s m st lo hi) (l1 : st.k1.length ≤ 500) (l2 : st.k2.length ≤ 500) (pa pb r c : Int) (wa : Word pa) (wb : Word pb) (wn : Word st.all) (he : quanE P s st lo hi pa pb = (r, c)) :
    Calls Tryz.prog 12 #[.pointer (some ⟨B, 0, none⟩), .agg #[.int .u64 pa, .int .u64 pb]] w fun e w' => e = .returned (.tuple #[.int .i64 r, .int .i64 c]) ∧ Below w.heap.size w w' := by
  have HX := Lib.hid h
  have HC := Lib.hid h.cells
  have HD := Lib.hid D
  have HTO := Lib.hid (fun W (hb : Below w.heap.size w W) => D.total W C S R P s m st (D.call h.bins hb) l1 l2)
  have HPL := Lib.hid (fun W => place_any pa pb st.all wa wb wn W)
  have HFN := Lib.hid (fun W (hb : Below w.heap.size w W) t (wt : Word t) => D.find W C S R P s m st t (D.call h.bins hb) l1 l2 wt)
  have hwv := pl_word (n := st.all) wa wb wn
  obtain ⟨⟨q0, q1⟩, q2, q3⟩ := h.ends
  unfold quanE at he
  generalize st.all = n at *
  generalize plV pa pb n = t at *
  generalize plE pa pb n = c' at *
  have HHE := Lib.hid he
  obtain ⟨c0, c1, c2, c3, c4, c5, c6⟩ := h.cells
  have b1 : Below w.heap.size w (w.alloc (.cells #[.int .u64 pa, .int .u64 pb] 24)) := (Below.refl _ _).alloc (Nat.le_refl _) _
  have c4' : (w.alloc (.cells #[.int .u64 pa, .int .u64 pb] 24)).cell? ⟨B, 4, none⟩ = some (.pointer (some ⟨C, 0, none⟩)) := cell_later b1 c4
  have HS0 : Hid ((w.alloc (.cells #[.int .u64 pa, .int .u64 pb] 24)).drew.cell? ⟨w.heap.size, 0, none⟩ = some (.int .u64 pa) ∧ (w.alloc (.cells #[.int .u64 pa, .int .u64 pb] 24)).drew.cell? ⟨w.heap.size, 1, none⟩ = some (.int .u64 pb) ∧ (w.alloc (.cells #[.int .u64 pa, .int .u64 pb] 24)).drew.cell? ⟨B, 4, none⟩ = some (.pointer (some ⟨C, 0, none⟩)) ∧ Below w.heap.size w (w.alloc (.cells #[.int .u64 pa, .int .u64 pb] 24)).drew) := Lib.hid ⟨by go_simp, by go_simp, cell_later (Below.refl _ _).drew c4', b1.drew⟩
  have HST := Lib.hid (fun (W W' : World) (h : W.cell? ⟨w.heap.size, 0, none⟩ = some (.int .u64 pa) ∧ W.cell? ⟨w.heap.size, 1, none⟩ = some (.int .u64 pb) ∧ W.cell? ⟨B, 4, none⟩ = some (.pointer (some ⟨C, 0, none⟩)) ∧ Below w.heap.size w W) (hb : Below W.heap.size W W') => (⟨cell_later hb h.1, cell_later hb h.2.1, cell_later hb h.2.2.1, h.2.2.2.trans (hb.mono h.2.2.2.size)⟩ : W'.cell? ⟨w.heap.size, 0, none⟩ = some (.int .u64 pa) ∧ W'.cell? ⟨w.heap.size, 1, none⟩ = some (.int .u64 pb) ∧ W'.cell? ⟨B, 4, none⟩ = some (.pointer (some ⟨C, 0, none⟩)) ∧ Below w.heap.size w W'))
  clear h he b1
  by_cases z : c' = 0
  · subst z
    have he := HHE.out
    rw [if_pos rfl] at he
    cases hq : findSt P s st t with
    | none =>
      rw [hq] at he
      obtain ⟨rfl, rfl⟩ : 0 = r ∧ 9 = c := by simpa using he
      have HF := Lib.hid (fun W hb => HFN.out W hb t hwv)
      rw [hq] at HF
      have g0 : (none : Option Int).getD 0 = 0 := rfl
      have g1 : (none : Option Int).isSome = false := rfl
      rw [g0, g1] at HF
      clear he hq HFN HHE
      go_enter Tryz.func12, Tryz.ntmps12
      go_wp2_with fail
      go_region_held3 (fun w' => w'.cell? ⟨w.heap.size, 0, none⟩ = some (.int .u64 pa) ∧ w'.cell? ⟨w.heap.size, 1, none⟩ = some (.int .u64 pb) ∧ w'.cell? ⟨B, 4, none⟩ = some (.pointer (some ⟨C, 0, none⟩)) ∧ Below w.heap.size w w')
        (first | exact HS0.out | exact HST.out _ _ (by assumption) hbA | assumption)
        ((first
          | (go_at_call 31; refine (HTO.out _ (And.right (And.right (And.right (by assumption))))).mono ?_; rintro e wA ⟨rfl, hbA⟩)
          | (go_at_call 36; refine (HPL.out _).mono ?_; rintro e wA ⟨rfl, hbA⟩)))
      all_goals
        rename_i hHeld
        obtain ⟨_, _, _, b3⟩ := hHeld
        have x4 := cell_later b3 c4
        have x5 := cell_later b3 c5
        have x6 := cell_later b3 c6
        have HB3 := Lib.hid b3
        go_wp2_with fail
        refine (HF.out _ HB3.out).mono ?_
        rintro e w4 ⟨rfl, b4⟩
        go_wp2_with fail
        go_ret2
        exact ⟨rfl, HB3.out.trans (b4.mono HB3.out.size)⟩
    | some x =>
      rw [hq] at he
      have he : (clampV lo hi x, 0) = (r, c) := he
      obtain ⟨h2, rfl⟩ : clampV lo hi x = r ∧ 0 = c := by simpa using he
      have HE2 : Hid (min (max x lo) hi = r) := Lib.hid h2
      have HF := Lib.hid (fun W hb => HFN.out W hb t hwv)
      rw [hq] at HF
      have g0 : (some x : Option Int).getD 0 = x := rfl
      have g1 : (some x : Option Int).isSome = true := rfl
      rw [g0, g1] at HF
      clear he hq HFN HHE h2 g0 g1
      go_enter Tryz.func12, Tryz.ntmps12
      go_wp2_with fail
      go_region_held3 (fun w' => w'.cell? ⟨w.heap.size, 0, none⟩ = some (.int .u64 pa) ∧ w'.cell? ⟨w.heap.size, 1, none⟩ = some (.int .u64 pb) ∧ w'.cell? ⟨B, 4, none⟩ = some (.pointer (some ⟨C, 0, none⟩)) ∧ Below w.heap.size w w')
        (first | exact HS0.out | exact HST.out _ _ (by assumption) hbA | assumption)
        ((first
          | (go_at_call 31; refine (HTO.out _ (And.right (And.right (And.right (by assumption))))).mono ?_; rintro e wA ⟨rfl, hbA⟩)
          | (go_at_call 36; refine (HPL.out _).mono ?_; rintro e wA ⟨rfl, hbA⟩)))
      all_goals
        rename_i hHeld
        obtain ⟨_, _, _, b3⟩ := hHeld
        have x4 := cell_later b3 c4
        have x5 := cell_later b3 c5
        have x6 := cell_later b3 c6
        have HB3 := Lib.hid b3
        go_wp2_with fail
        refine (HF.out _ HB3.out).mono ?_
        rintro e w4 ⟨rfl, b4⟩
        have x5 := cell_later b4 x5
        have x6 := cell_later b4 x6
        have HB4 := Lib.hid (HB3.out.trans (b4.mono HB3.out.size))
        go_wp2_with fail
        go_quiet (fail)
        go_wp2_with fail
        go_ret2
        exact ⟨ret_err HE2.out rfl, below_drewN HB4.out _⟩
  · have he := HHE.out
    rw [if_neg z] at he
    have z1 : (c' == 0) = false := by simp [z]
    obtain ⟨rfl, rfl⟩ : 0 = r ∧ c' = c := by simpa using he
    clear he HFN HHE
    go_enter Tryz.func12, Tryz.ntmps12
    go_wp2_with fail
    go_region_held3 (fun w' => w'.cell? ⟨w.heap.size, 0, none⟩ = some (.int .u64 pa) ∧ w'.cell? ⟨w.heap.size, 1, none⟩ = some (.int .u64 pb) ∧ w'.cell? ⟨B, 4, none⟩ = some (.pointer (some ⟨C, 0, none⟩)) ∧ Below w.heap.size w w')
      (first | exact HS0.out | exact HST.out _ _ (by assumption) hbA | assumption)
      ((first
        | (go_at_call 31; refine (HTO.out _ (And.right (And.right (And.right (by assumption))))).mono ?_; rintro e wA ⟨rfl, hbA⟩)
        | (go_at_call 36; refine (HPL.out _).mono ?_; rintro e wA ⟨rfl, hbA⟩)))
    all_goals
      rename_i hHeld
      obtain ⟨_, _, _, b3⟩ := hHeld
      have x4 := cell_later b3 c4
      have x5 := cell_later b3 c5
      have x6 := cell_later b3 c6
      have HB3 := Lib.hid b3
      go_wp2_with fail
      go_ret2
      exact ⟨rfl, HB3.out⟩

set_option maxHeartbeats 1000000 in
theorem kquan_nil (w : World) (pa pb : Int) : Calls Tryz.prog 12 #[.pointer none, .agg #[.int .u64 pa, .int .u64 pb]] w fun e w' => e = .returned (.tuple #[.int .i64 0, .int .i64 2]) ∧ Below w.heap.size w w' := by
  go_enter Tryz.func12, Tryz.ntmps12
  go_wp2_with fail
  go_ret2
  exact ⟨rfl, (Below.refl _ _).alloc (Nat.le_refl _) _⟩

theorem cfg_neq (a b c d a' b' c' d' : Int) (w : World) : (binOp .neq 64 (.agg #[.int .u64 a, .int .u64 b, .int .i64 c, .int .i64 d]) (.agg #[.int .u64 a', .int .u64 b', .int .i64 c', .int .i64 d'])).run Tryz.prog w = .ok (.bool (!(a == a' && b == b' && c == c' && d == d'))) w := by
  by_cases h1 : a = a'
  · subst h1
    by_cases h2 : b = b'
    · subst h2
      by_cases h3 : c = c'
      · subst h3
        by_cases h4 : d = d'
        · subst h4; simp [go_sem]
        · have : (d == d') = false := by simp [h4]
          simp [go_sem, this]
      · have : (c == c') = false := by simp [h3]
        simp [go_sem, this]
    · have : (b == b') = false := by simp [h2]
      simp [go_sem, this]
  · have : (a == a') = false := by simp [h1]
    simp [go_sem, this]

set_option maxHeartbeats 1000000 in
theorem kjoin_nil (w : World) : Calls Tryz.prog 22 #[.pointer none, .pointer none] w fun e w' => e = .returned (.int .i64 2) ∧ Below w.heap.size w w' := by
  go_enter Tryz.func22, Tryz.ntmps22
  go_wp2_with fail
  go_ret
  exact ⟨rfl, Below.refl _ _⟩

set_option maxHeartbeats 1000000 in
theorem kjoin_none (w : World) (B : Nat) : Calls Tryz.prog 22 #[.pointer (some ⟨B, 0, none⟩), .pointer none] w fun e w' => e = .returned (.int .i64 2) ∧ Below w.heap.size w w' := by
  go_enter Tryz.func22, Tryz.ntmps22
  go_wp2_with fail
  go_ret
  exact ⟨rfl, Below.refl _ _⟩

set_option maxRecDepth 100000 in
set_option maxHeartbeats 1000000 in
theorem kjoin_other {w : World} {B C B' C' : Nat} {u v u' v' : Int} {s s' : Bool} {m m' lo hi lo' hi' : Int} (h : SkC w B C u v s m lo hi) (h' : SkC w B' C' u' v' s' m' lo' hi') (hne : (u == u' && v == v' && sideI s == sideI s' && m == m') = false) :
    Calls Tryz.prog 22 #[.pointer (some ⟨B, 0, none⟩), .pointer (some ⟨B', 0, none⟩)] w fun e w' => e = .returned (.int .i64 8) ∧ Below w.heap.size w w' := by
  obtain ⟨c0, c1, c2, c3, _, _, _⟩ := h
  obtain ⟨d0, d1, d2, d3, _, _, _⟩ := h'
  have hq := fun W => cfg_neq u v (sideI s) m u' v' (sideI s') m' W
  rw [hne] at hq
  have hnb : (!false) = true := rfl
  rw [hnb] at hq
  generalize sideI s = sd at *
  generalize sideI s' = sd' at *
  clear hne hnb
  go_enter Tryz.func22, Tryz.ntmps22
  go_wp2_with fail
  go_quiet (fail)
  go_wp2_with fail
  go_ret
  exact ⟨rfl, below_drewN (Below.refl _ _) _⟩

set_option maxRecDepth 100000 in
set_option maxHeartbeats 2000000 in
theorem kjoin_any {Bn : BnT} (D : BinsDoes Bn) {w : World} {B C : Nat} {S R : Nat → Prop} {P : Pt} {u v : Int} {s : Bool} {m : Int} {st : St} {lo hi : Int} (h : SkX Bn w B C S R P u v s m st lo hi) {B' C' : Nat} {S' R' : Nat → Prop} {st' : St} {lo' hi' : Int} (h' : SkX Bn w B' C' S' R' P u v s m st' lo' hi')
    (hd : ∀ k, skB B S k → ¬ skB B' S' k ∧ ¬ R' k) (l1 : st.k1.length ≤ 200) (l2 : st.k2.length ≤ 200) (l3 : st'.k1.length ≤ 200) (l4 : st'.k2.length ≤ 200) (hs : st.all + st'.all ≤ 9223372036854775807) (sm mr : Bool) (hsm : (!(st.all == 0)) = sm) (hmr : (!(st'.all == 0)) = mr) (x' y' : Int) (ex : (if mr = true then reachL sm lo' lo else lo) = x') (ey : (if mr = true then reachH sm hi' hi else hi) = y') :
    Calls Tryz.prog 22 #[.pointer (some ⟨B, 0, none⟩), .pointer (some ⟨B', 0, none⟩)] w fun e w' => ∃ S2, e = .returned (.int .i64 0) ∧ SkX Bn w' B C S2 R P u v s m (mergeSt s m st st') x' y' ∧ Keeps (skB B S) w w' ∧ ∀ k, S2 k → S k ∨ w.heap.size ≤ k := by
  have HX := Lib.hid h
  have HX' := Lib.hid h'
  have HD := Lib.hid D
  obtain ⟨c0, c1, c2, c3, c4, c5, c6⟩ := h.cells
  obtain ⟨d0, d1, d2, d3, d4, d5, d6⟩ := h'.cells
  have hq := fun W => cfg_neq u v (sideI s) m u v (sideI s) m W
  have hnb : (!(u == u && v == v && sideI s == sideI s && m == m)) = false := by simp
  rw [hnb] at hq
  generalize sideI s = sd at *
  obtain ⟨a, b, hab⟩ := ende_some st lo hi hsm
  have HEN := Lib.hid (fun W (hb : Below w.heap.size w W) => kends_any D (h.call D hb) (by omega) (by omega) a b sm hab)
  have hab' : ∃ a' b', endE st' lo' hi' = (a', b', mr) ∧ (mr = true → a' = lo' ∧ b' = hi') := by
    unfold endE
    by_cases z : st'.all = 0
    · rw [if_pos z]; rw [z] at hmr; exact ⟨0, 0, by rw [← hmr]; rfl, fun x => by rw [← hmr] at x; cases x⟩
    · have : (st'.all == 0) = false := by simp [z]
      rw [this] at hmr
      rw [if_neg z]; exact ⟨lo', hi', by rw [← hmr]; rfl, fun _ => ⟨rfl, rfl⟩⟩
  obtain ⟨a', b', hab', hmm⟩ := hab'
  have HEN' := Lib.hid (fun W (hb : Below w.heap.size w W) => kends_any D (h'.call D hb) (by omega) (by omega) a' b' mr hab')
  have HME := Lib.hid (fun W (hb : Below w.heap.size w W) => D.merge W C S R P s m st C' S' R' st' (D.call h.bins hb) (D.call h'.bins hb) (fun k hk => ⟨fun x => (hd k (Or.inr hk)).1 (Or.inr x), (hd k (Or.inr hk)).2⟩) l1 l2 l3 l4 hs)
  have HEX := Lib.hid ex
  have HEY := Lib.hid ey
  have HMM := Lib.hid hmm
  have HI' := Lib.hid h'.ends
  clear h h' hsm hmr hab hab' hd hs ex ey hnb hmm
  go_enter Tryz.func22, Tryz.ntmps22
  go_wp2_with fail
  go_quiet (fail)
  clear c0 c1 c2 c3 d0 d1 d2 d3 hq
  have hdr : Below w.heap.size w (w.drewN nq) := below_drewN (Below.refl _ _) nq
  generalize w.drewN nq = w1 at *
  go_wp2_with fail
  refine (HEN.out _ hdr).mono ?_
  rintro e w2 ⟨rfl, b2⟩
  have b2 := hdr.trans (b2.mono hdr.size)
  go_wp2_with fail
  refine (HEN'.out _ b2).mono ?_
  rintro e w3 ⟨rfl, b3⟩
  have b3 := b2.trans (b3.mono b2.size)
  have q4 := cell_later b3 c4
  have r4 := cell_later b3 d4
  have HB3 := Lib.hid b3
  clear c4 c5 c6 d4 d5 d6 b2 b3 hdr
  go_wp2_with fail
  go_still_tail 8, (by kernel_rfl)
  have b4 := HB3.out.trans ((Below.refl w3.heap.size w3).drew.mono HB3.out.size)
  change wpList _ _ _ _ _ w3.drew
  generalize w3.drew = w4 at *
  have HB4 := Lib.hid b4
  clear b4 q4 r4
  go_wp2_with fail
  refine (HME.out _ HB4.out).mono ?_
  rintro e w5 ⟨S2, rfl, hbn, hk, hS⟩
  have HX5 := Lib.hid ((HX.out.call HD.out HB4.out).turn hk hbn hS)
  have hz4 := HB4.out.size
  have HS2 : Hid (∀ k, S2 k → S k ∨ w.heap.size ≤ k) := Lib.hid (fun k hk => by rcases hS k hk with a | a; exact Or.inl a; exact Or.inr (by omega))
  have HK5 : Hid (Keeps (skB B S) w w5) := Lib.hid (keeps_trans (Keeps.of_below HB4.out) hk (fun k _ hk => Or.inr hk))
  clear hbn hk hS
  cases mr with
  | false =>
    have hex := HEX.out
    have hey := HEY.out
    rw [if_neg (by decide)] at hex hey
    subst hex hey
    go_wp2_with fail
    go_ret
    exact ⟨S2, rfl, HX5.out, HK5.out, HS2.out⟩
  | true =>
    have hex := HEX.out
    have hey := HEY.out
    rw [if_pos rfl] at hex hey
    obtain ⟨rfl, rfl⟩ := HMM.out rfl
    have HR := Lib.hid (kreach_any HD.out HX5.out a' b' sm HI'.out.1 HI'.out.2 x' y' hex hey)
    clear hex hey
    go_wp2_with fail
    refine HR.out.mono ?_
    rintro e w6 ⟨rfl, hx6, hk6⟩
    have HX6 := Lib.hid hx6
    have hk7 : Keeps (skB B S) w w6 := keeps_trans HK5.out hk6 (fun k hlt hk => by
      rcases hk with rfl | a
      · exact Or.inl rfl
      · rcases HS2.out k a with a | a
        · exact Or.inr a
        · omega)
    clear hx6 hk6
    go_wp2_with fail
    go_ret
    exact ⟨S2, rfl, HX6.out, hk7, HS2.out⟩

set_option maxRecDepth 100000 in
set_option maxHeartbeats 1000000 in
theorem kreset_any {Bn : BnT} (D : BinsDoes Bn) {w : World} {B C : Nat} {S R : Nat → Prop} {P : Pt} {u v : Int} {s : Bool} {m : Int} {st : St} {lo hi : Int} (h : SkX Bn w B C S R P u v s m st lo hi) (m1 : 1 ≤ m) (m2 : m ≤ 4096) :
    Calls Tryz.prog 23 #[.pointer (some ⟨B, 0, none⟩)] w fun e w' => ∃ S2, e = .returned (.tuple #[]) ∧ SkX Bn w' B C S2 R P u v s m stNil 0 0 ∧ Keeps (skB B S) w w' ∧ ∀ k, S2 k → S k ∨ w.heap.size ≤ k := by
  have HX := Lib.hid h
  have HD := Lib.hid D
  obtain ⟨c0, c1, c2, c3, c4, c5, c6⟩ := h.cells
  have hld : loadB m [] 0 = true := by unfold loadB; simp [sumP_nil]; exact ⟨rfl, by omega⟩
  have hfit : fitsSt P s m [] 0 [] 0 0 = true := by unfold fitsSt; rw [hld]; simp [sumP_nil]
  have HL : Hid (Calls Tryz.prog 49 #[.pointer (some ⟨C, 0, none⟩), .agg #[.slice none 0 0, .slice none 0 0], .agg #[.int .u64 0, .int .u64 0], .int .u64 0] w fun e w' => ∃ S', e = .returned (.int .i64 0) ∧ Bn w' C S' R P s m stNil ∧ Keeps S w w' ∧ (∀ k, S' k → S k ∨ w.heap.size ≤ k)) := Lib.hid (D.load w C S R P s m st none none 0 0 [] [] 0 0 0 h.bins ⟨fun p h => (by cases h), fun i p h => by simp at h⟩ ⟨fun p h => (by cases h), fun i p h => by simp at h⟩ (by decide) (by decide) ⟨by decide, by decide⟩ ⟨by decide, by decide⟩ ⟨by decide, by decide⟩ hfit)
  clear h hfit
  go_enter Tryz.func23, Tryz.ntmps23
  go_wp2_with fail
  refine HL.out.mono ?_
  rintro e w2 ⟨S2, rfl, hbn, hk, hS⟩
  have hx2 := HX.out.turn hk hbn hS
  have HX2 := Lib.hid hx2
  obtain ⟨e0, e1, e2, e3, e4, e5, e6⟩ := hx2.cells
  have f5 : w2.frozen? ⟨B, 5, none⟩ = false := Joins.unfrozen_of_block hx2.blk 5
  have f6 : w2.frozen? ⟨B, 6, none⟩ = false := Joins.unfrozen_of_block hx2.blk 6
  have hx3 : SkX Bn ((w2.setCell ⟨B, 5, none⟩ (.int .i64 0)).setCell ⟨B, 6, none⟩ (.int .i64 0)) B C S2 R P u v s m stNil 0 0 := by
    refine ⟨sk_block hx2.blk, HD.out.keep _ _ _ _ _ _ _ _ _ hx2.bins fun k hk' => ?_, hx2.sep, ⟨by decide, by decide⟩, ⟨by decide, by decide⟩⟩
    have hne : k ≠ B := by
      rintro rfl
      rcases hk' with a | a
      · exact hx2.sep.1 a
      · exact hx2.sep.2 a
    rw [Below.heap_setCell _ _ _ k hne, Below.heap_setCell _ _ _ k hne]
  have HX3 := Lib.hid hx3
  have HK3 : Hid (Keeps (skB B S) w ((w2.setCell ⟨B, 5, none⟩ (.int .i64 0)).setCell ⟨B, 6, none⟩ (.int .i64 0))) := Lib.hid (keeps_trans (keeps_wide (T := skB B S) hk (fun k _ hk => Or.inr hk)) (keeps_trans (keeps_set (S := skB B S) (Or.inl rfl)) (keeps_set (S := skB B S) (Or.inl rfl)) (fun k _ hk => hk)) (fun k _ hk => hk))
  have HS2 := Lib.hid hS
  clear hx2 hx3 hbn hk hS e0 e1 e2 e3 e4 c0 c1 c2 c3 c4 c5 c6
  go_wp2_with fail
  first | exact bodyPost_ret (results_none rfl _ _ _) rfl ⟨S2, rfl, HX3.out, HK3.out, HS2.out⟩ | exact bodyPost_end (results_none rfl _ _ _) rfl ⟨S2, rfl, HX3.out, HK3.out, HS2.out⟩

set_option maxHeartbeats 1000000 in
theorem kreset_nil (w : World) : Calls Tryz.prog 23 #[.pointer none] w fun e w' => e = .returned (.tuple #[]) ∧ Below w.heap.size w w' := by
  go_enter Tryz.func23, Tryz.ntmps23
  go_wp2_with fail
  first | exact bodyPost_ret (results_none rfl _ _ _) rfl ⟨rfl, Below.refl _ _⟩ | exact bodyPost_end (results_none rfl _ _ _) rfl ⟨rfl, Below.refl _ _⟩

/-- Can these be the ends? -/
def canK (st : St) (x y : Int) : Bool := decide (x ≤ y) && (!(st.all == 0) || (x == 0 && y == 0))

set_option maxRecDepth 100000 in
set_option maxHeartbeats 2000000 in
theorem kset_any {Bn : BnT} (D : BinsDoes Bn) {w : World} {B C : Nat} {S R : Nat → Prop} {P : Pt} {u v : Int} {s : Bool} {m : Int} {st : St} {lo hi : Int} (h : SkX Bn w B C S R P u v s m st lo hi) (l1 : st.k1.length ≤ 500) (l2 : st.k2.length ≤ 500) (x y : Int) (hx : I64 x) (hy : I64 y) :
    Calls Tryz.prog 28 #[.pointer (some ⟨B, 0, none⟩), .int .i64 x, .int .i64 y] w fun e w' => e = .returned (.bool (canK st x y)) ∧ (if canK st x y = true then SkX Bn w' B C S R P u v s m st x y else SkX Bn w' B C S R P u v s m st lo hi) ∧ Keeps (skB B S) w w' := by
  have HX := Lib.hid h
  have HD := Lib.hid D
  obtain ⟨sm, hsm⟩ : ∃ sm, (!(st.all == 0)) = sm := ⟨_, rfl⟩
  obtain ⟨a, b, hab⟩ := ende_some st lo hi hsm
  have HEN := Lib.hid (kends_any D h l1 l2 a b sm hab)
  have HIX := Lib.hid hx
  have HIY := Lib.hid hy
  obtain ⟨x0, x1⟩ := hx
  obtain ⟨y0, y1⟩ := hy
  obtain ⟨cc, hcc⟩ : ∃ cc, canK st x y = cc := ⟨_, rfl⟩
  rw [hcc]
  unfold canK at hcc
  rw [hsm] at hcc
  have HCC := Lib.hid hcc
  have key : ∀ W : World, Below w.heap.size w W → SkX Bn ((W.setCell ⟨B, 5, none⟩ (.int .i64 x)).setCell ⟨B, 6, none⟩ (.int .i64 y)) B C S R P u v s m st x y ∧ Keeps (skB B S) w ((W.setCell ⟨B, 5, none⟩ (.int .i64 x)).setCell ⟨B, 6, none⟩ (.int .i64 y)) ∧ W.frozen? ⟨B, 5, none⟩ = false ∧ W.frozen? ⟨B, 6, none⟩ = false ∧ W.cell? ⟨B, 5, none⟩ = some (.int .i64 lo) ∧ W.cell? ⟨B, 6, none⟩ = some (.int .i64 hi) := fun W hb => by
    have hx2 := HX.out.call HD.out hb
    refine ⟨⟨sk_block hx2.blk, HD.out.keep _ _ _ _ _ _ _ _ _ hx2.bins fun k hk' => ?_, hx2.sep, HIX.out, HIY.out⟩, keeps_trans (Keeps.of_below hb) (keeps_trans (keeps_set (S := skB B S) (Or.inl rfl)) (keeps_set (S := skB B S) (Or.inl rfl)) (fun k _ hk => hk)) (fun k _ hk => hk), Joins.unfrozen_of_block hx2.blk 5, Joins.unfrozen_of_block hx2.blk 6, hx2.cells.c5, hx2.cells.c6⟩
    have hne : k ≠ B := by
      rintro rfl
      rcases hk' with a | a
      · exact hx2.sep.1 a
      · exact hx2.sep.2 a
    rw [Below.heap_setCell _ _ _ k hne, Below.heap_setCell _ _ _ k hne]
  have HK := Lib.hid key
  clear h hsm hab key hcc
  go_enter Tryz.func28, Tryz.ntmps28
  go_wp2_with fail
  refine HEN.out.mono ?_
  rintro e w2 ⟨rfl, b2⟩
  obtain ⟨k1, k2, f5, f6, q5, q6⟩ := HK.out w2 b2
  have HX2 := Lib.hid (HX.out.call HD.out b2)
  have HB2 := Lib.hid b2
  have K1 := Lib.hid k1
  have K2 := Lib.hid k2
  clear k1 k2 HK b2
  by_cases h1 : x ≤ y
  · have d1 : decide (x ≤ y) = true := decide_eq_true h1
    have n1 : ¬ y < x := by omega
    have n2 : decide (y < x) = false := decide_eq_false n1
    cases sm with
    | true =>
      obtain rfl : cc = true := by rw [← HCC.out, d1]; simp
      go_wp2_with fail
      go_ret
      exact ⟨rfl, by first | exact K1.out | (rw [if_pos rfl]; exact K1.out), K2.out⟩
    | false =>
      by_cases h2 : x = 0
      · subst h2
        by_cases h3 : y = 0
        · subst h3
          obtain rfl : cc = true := by rw [← HCC.out, d1]; simp
          go_wp2_with fail
          go_ret
          exact ⟨rfl, by first | exact K1.out | (rw [if_pos rfl]; exact K1.out), K2.out⟩
        · have e3 : (y == 0) = false := by simp [h3]
          obtain rfl : cc = false := by rw [← HCC.out, d1, e3]; simp
          go_wp2_with fail
          go_ret
          exact ⟨rfl, by first | exact HX2.out | (rw [if_neg (by decide)]; exact HX2.out), Keeps.of_below HB2.out⟩
      · have e2 : (x == 0) = false := by simp [h2]
        obtain rfl : cc = false := by rw [← HCC.out, d1, e2]; simp
        go_wp2_with fail
        go_ret
        exact ⟨rfl, by first | exact HX2.out | (rw [if_neg (by decide)]; exact HX2.out), Keeps.of_below HB2.out⟩
  · have d1 : decide (x ≤ y) = false := decide_eq_false h1
    have n1 : y < x := by omega
    have n2 : decide (y < x) = true := decide_eq_true n1
    obtain rfl : cc = false := by rw [← HCC.out, d1]; simp
    go_wp2_with fail
    go_ret
    exact ⟨rfl, by first | exact HX2.out | (rw [if_neg (by decide)]; exact HX2.out), Keeps.of_below HB2.out⟩

set_option maxHeartbeats 1000000 in
theorem kset_nil (NB : BinsNil) (w : World) : Calls Tryz.prog 28 #[.pointer none, .int .i64 0, .int .i64 0] w fun e w' => e = .returned (.bool false) ∧ Below w.heap.size w w' := by
  have HN := Lib.hid NB
  go_enter Tryz.func28, Tryz.ntmps28
  go_wp2_with fail
  refine (kends_nil HN.out _).mono ?_
  rintro e w2 ⟨rfl, b2⟩
  go_wp2_with fail
  go_ret
  exact ⟨rfl, b2⟩

/-- What New tells. -/
def NewK (Bn : BnT) (w : World) (u v sd m : Int) (e : Ending) (w' : World) : Prop :=
  (∃ B C S R P s, sideI s = sd ∧ P.ok ∧ PtOf 0 u v P ∧ 1 ≤ m ∧ m ≤ 4096 ∧ e = .returned (.tuple #[.pointer (some ⟨B, 0, none⟩), .int .i64 0]) ∧ SkX Bn w' B C S R P u v s m stNil 0 0 ∧ (∀ k, skB B S k ∨ R k → w.heap.size ≤ k) ∧ Below w.heap.size w w') ∨
  (∃ c, e = .returned (.tuple #[.pointer none, .int .i64 c]) ∧ 0 < c ∧ (goodC u v = false → c = 1) ∧ ((c = 1 ∧ (goodC u v = false ∨ ¬ (0 ≤ sd ∧ sd ≤ 1 ∧ 1 ≤ m ∧ m ≤ 4096))) ∨ (c = 6 ∧ lowC u v 4096 ≤ 9223372036854775808)) ∧ Below w.heap.size w w')

set_option maxRecDepth 100000 in
set_option maxHeartbeats 2000000 in
theorem knew_any {Bn : BnT} (D : BinsDoes Bn) (w : World) (u v sd m : Int) (wu : Word u) (wv : Word v) (ws : I64 sd) (wm : I64 m) :
    Calls Tryz.prog 29 #[.agg #[.int .u64 u, .int .u64 v, .int .i64 sd, .int .i64 m]] w (NewK Bn w u v sd m) := by
  have HD := Lib.hid D
  have BC := ((Below.refl w.heap.size w).alloc (Nat.le_refl _) (.cells #[.int .u64 u, .int .u64 v, .int .i64 sd, .int .i64 m] 64))
  have hsz : (w.alloc (.cells #[.int .u64 u, .int .u64 v, .int .i64 sd, .int .i64 m] 64)).heap.size = w.heap.size + 1 := by simp
  have p0 : (w.alloc (.cells #[.int .u64 u, .int .u64 v, .int .i64 sd, .int .i64 m] 64)).cell? ⟨w.heap.size, 0, none⟩ = some (.int .u64 u) := by go_simp
  have p1 : (w.alloc (.cells #[.int .u64 u, .int .u64 v, .int .i64 sd, .int .i64 m] 64)).cell? ⟨w.heap.size, 1, none⟩ = some (.int .u64 v) := by go_simp
  have p2 : (w.alloc (.cells #[.int .u64 u, .int .u64 v, .int .i64 sd, .int .i64 m] 64)).cell? ⟨w.heap.size, 2, none⟩ = some (.int .i64 sd) := by go_simp
  have p3 : (w.alloc (.cells #[.int .u64 u, .int .u64 v, .int .i64 sd, .int .i64 m] 64)).cell? ⟨w.heap.size, 3, none⟩ = some (.int .i64 m) := by go_simp
  have HWS := Lib.hid ws
  have HWM := Lib.hid wm
  obtain ⟨s0, s1⟩ := ws
  obtain ⟨m0, m1⟩ := wm
  by_cases hg : goodC u v = true
  · have g := goodC_iff.1 hg
    have HNC := Lib.hid (fun W => cnew_good u v g W)
    have HG := Lib.hid hg
    have HGG := Lib.hid g
    clear hg g D
    go_enter Tryz.func29, Tryz.ntmps29
    go_wp2_with fail
    generalize (w.alloc (.cells #[.int .u64 u, .int .u64 v, .int .i64 sd, .int .i64 m] 64)) = wC at *
    refine (HNC.out _).mono ?_
    rintro e w2 (⟨T, S0, n, rfl, htab, hS0, hb2⟩ | ⟨rfl, hl, hb2⟩)
    · have b2 := BC.trans (hb2.mono (by omega))
      have HPX : Hid (PtX w2 (.iface 103 (.pointer (some ⟨T, 0, none⟩))) S0 (.cells u v n)) := Lib.hid ⟨T, rfl, htab⟩
      have HPO : Hid ((Pt.cells u v n).ok) := Lib.hid ⟨htab.1, htab.2.1, htab.2.2.1⟩
      have HTL := Lib.hid (tabx_lt htab)
      have r0 := cell_later hb2 p0
      have r1 := cell_later hb2 p1
      have r2 := cell_later hb2 p2
      have r3 := cell_later hb2 p3
      have hz2 := hb2.size
      clear htab p0 p1 p2 p3
      by_cases hok : 0 ≤ sd ∧ sd ≤ 1 ∧ 1 ≤ m ∧ m ≤ 4096
      · obtain ⟨k1, k2, k3, k4⟩ := hok
        obtain ⟨s, hs⟩ : ∃ s, sideI s = sd := by
          by_cases c : sd = 1
          · exact ⟨true, by rw [c]; rfl⟩
          · exact ⟨false, by have : sd = 0 := by omega
                             rw [this]; rfl⟩
        have HNB := Lib.hid (HD.out.new w2 _ S0 _ s m HPX.out k3 k4)
        rw [hs] at HNB
        have HSI := Lib.hid hs
        clear hs
        go_wp2_with fail
        refine HNB.out.mono ?_
        rintro e w3 ⟨C, S, rfl, hbn, hS, hb3⟩
        have b3 := b2.trans (hb3.mono b2.size)
        have t0 := cell_later hb3 r0
        have t1 := cell_later hb3 r1
        have t2 := cell_later hb3 r2
        have t3 := cell_later hb3 r3
        have HBN := Lib.hid hbn
        have HSS := Lib.hid hS
        have hz3 := hb3.size
        clear hbn hS r0 r1 r2 r3 hb3
        go_wp2_with fail
        go_ret2
        have hnw := heap_new w3 (.cells #[.int .u64 u, .int .u64 v, .int .i64 sd, .int .i64 m, .pointer (some ⟨C, 0, none⟩), .int .i64 0, .int .i64 0] 84)
        rw [← HSI.out] at hnw ⊢
        refine Or.inl ⟨w3.heap.size, C, S, S0, .cells u v n, s, rfl, HPO.out, ⟨rfl, rfl, rfl⟩, k3, k4, rfl, ⟨hnw, HD.out.call HBN.out ((Below.refl _ _).alloc (Nat.le_refl _) _), ⟨fun x => ?_, fun x => ?_⟩, ⟨by decide, by decide⟩, ⟨by decide, by decide⟩⟩, fun k hk => ?_, b3.alloc b3.size _⟩
        · have := HD.out.lt _ _ _ _ _ _ _ _ HBN.out _ (Or.inl x); omega
        · have := HD.out.lt _ _ _ _ _ _ _ _ HBN.out _ (Or.inr x); omega
        · rcases hk with (rfl | hk) | hk
          · exact b3.size
          · have := HSS.out k hk; omega
          · have := hS0 k hk; omega
      · have HBD := Lib.hid (HD.out.bad w2 _ S0 _ sd m HPX.out HWS.out HWM.out (by omega))
        go_wp2_with fail
        refine HBD.out.mono ?_
        rintro e w3 ⟨rfl, hb3⟩
        have b3 := b2.trans (hb3.mono b2.size)
        go_wp2_with fail
        go_ret2
        exact Or.inr ⟨1, rfl, by omega, fun _ => rfl, Or.inl ⟨rfl, Or.inr hok⟩, b3⟩
    · have b2 := BC.trans (hb2.mono (by omega))
      go_wp2_with fail
      go_ret2
      exact Or.inr ⟨6, rfl, by omega, (fun x => by rw [HG.out] at x; cases x), Or.inr ⟨rfl, hl⟩, b2⟩
  · have hg' : goodC u v = false := by simpa using hg
    have HNC := Lib.hid (fun W => cnew_bad u v wu wv hg' W)
    have HG := Lib.hid hg'
    clear hg hg'
    go_enter Tryz.func29, Tryz.ntmps29
    go_wp2_with fail
    generalize (w.alloc (.cells #[.int .u64 u, .int .u64 v, .int .i64 sd, .int .i64 m] 64)) = wC at *
    refine (HNC.out _).mono ?_
    rintro e w2 ⟨rfl, hb2⟩
    have b2 := BC.trans (hb2.mono (by omega))
    go_wp2_with fail
    go_ret2
    exact Or.inr ⟨1, rfl, by omega, fun _ => rfl, Or.inl ⟨rfl, Or.inl HG.out⟩, b2⟩
end Go.Proofs.YtcijflakldggaaaGreat

/-
  Walks: a sketch of values; the laws' build of layer 14.
-/
namespace Go.Proofs.YtcijflakldggaaaGreat
set_option linter.unusedVariables false
set_option linter.unusedSimpArgs false
open Go.RowKit

/-- A sketch of all these values. -/
structure SkV (Bn : BnT) (w : World) (B C : Nat) (S R : Nat → Prop) (P : Pt) (u v : Int) (s : Bool) (m : Int) (A : List PairV) (lo hi : Int) : Prop where
  x : SkX Bn w B C S R P u v s m (stV P s m A) lo hi
  e : A ≠ [] → lo = loV A ∧ hi = hiV A
theorem sum_zero {A : List PairV} (h : FineV A) : sumP A = 0 ↔ A = [] := by
  constructor
  · intro e
    cases A with
    | nil => rfl
    | cons v r =>
      have h1 := h v (by simp)
      have h2 := (fine_sum (A := r) (fun q hq => h q (by simp [hq]))).1
      have e : sumP ([v] ++ r) = 0 := e
      rw [sumP_app] at e
      have : sumP [v] = v.2 := by
        have := cnt_one (fun _ => true) v
        rw [cnt_all] at this; simpa using this
      omega
  · rintro rfl; rfl
theorem take_ne {A : List PairV} {k : Nat} {p : PairV} (h : A[k]? = some p) : A.take (k + 1) ≠ [] := by
  rw [take_snocP h]; simp
/-- One value more: what reach leaves are the ends. -/
theorem reach_ends {A : List PairV} {k : Nat} {p : PairV} {lo hi : Int} (h : A[k]? = some p) (hf : FineV (A.take k)) (he : A.take k ≠ [] → lo = loV (A.take k) ∧ hi = hiV (A.take k)) :
    reachL (!(sumP (A.take k) == 0)) p.1 lo = loV (A.take (k + 1)) ∧ reachH (!(sumP (A.take k) == 0)) p.1 hi = hiV (A.take (k + 1)) := by
  rw [take_snocP h]
  by_cases z : A.take k = []
  · have : (sumP (A.take k) == 0) = true := by simp [(sum_zero hf).2 z]
    rw [this, z]
    exact ⟨(ends_one p).1.symm, (ends_one p).2.symm⟩
  · have : (sumP (A.take k) == 0) = false := beq_eq_false_iff_ne.2 (fun e => z ((sum_zero hf).1 e))
    rw [this]
    obtain ⟨e1, e2⟩ := he z
    obtain ⟨e3, e4⟩ := ends_snoc z p
    rw [e3, e4, e1, e2]
    unfold reachL reachH
    exact ⟨by show min p.1 (loV _) = _; omega, by show max p.1 (hiV _) = _; omega⟩
theorem kput_v {Bn : BnT} (D : BinsDoes Bn) {w : World} {B C : Nat} {S R : Nat → Prop} {P : Pt} {u v : Int} {s : Bool} {m : Int} {A : List PairV} {lo hi : Int} {k : Nat} (hP : P.ok) (hm : 0 < m) (h : SkV Bn w B C S R P u v s m (A.take k) lo hi) (hf : FineV (A.take k)) (hk : k ≤ 400) (x c : Int) (hq : A[k]? = some (x, c)) (hp : I64 x ∧ 0 < c ∧ c ≤ 1125899906842624) :
    Calls Tryz.prog 25 #[.pointer (some ⟨B, 0, none⟩), .int .i64 x, .int .u64 c] w fun e w' => ∃ S' lo' hi', e = .returned (.int .i64 0) ∧ SkV Bn w' B C S' R P u v s m (A.take (k + 1)) lo' hi' ∧ Keeps (skB B S) w w' ∧ ∀ k, S' k → S k ∨ w.heap.size ≤ k := by
  obtain ⟨h1, h2, h3⟩ := bin_step hP s hm hq hf (by omega) hp
  have hsl := stv_len hP s m hf (by have := List.length_take_le k A; omega)
  have hln := List.length_take_le k A
  have hall := stv_all hP s m hf (by omega)
  obtain ⟨r1, r2⟩ := reach_ends hq hf h.e
  refine (kput_any D h.x (by omega) (by omega) x c hp.1 (by unfold Word; omega) _ rfl 0 _ _ h2 (if_pos rfl) (if_pos rfl)).mono ?_
  rintro e w' ⟨S', rfl, hx, hk', hS'⟩
  refine ⟨S', reachL (!((stV P s m (A.take k)).all == 0)) x lo, reachH (!((stV P s m (A.take k)).all == 0)) x hi, rfl, ⟨?_, fun _ => ?_⟩, hk', hS'⟩
  · have e3 : binSt P s m (stV P s m (A.take k)) x c = stV P s m (A.take (k + 1)) := h3
    rw [← e3]; exact hx
  · rw [hall]; exact ⟨r1, r2⟩
theorem SkV.call {Bn : BnT} (D : BinsDoes Bn) {w w' : World} {B C : Nat} {S R : Nat → Prop} {P : Pt} {u v : Int} {s : Bool} {m : Int} {A : List PairV} {lo hi : Int} (h : SkV Bn w B C S R P u v s m A lo hi) (hb : Below w.heap.size w w') : SkV Bn w' B C S R P u v s m A lo hi := ⟨h.x.call D hb, h.e⟩
theorem SkV.keep {Bn : BnT} (D : BinsDoes Bn) {w w' : World} {B C : Nat} {S R : Nat → Prop} {P : Pt} {u v : Int} {s : Bool} {m : Int} {A : List PairV} {lo hi : Int} (h : SkV Bn w B C S R P u v s m A lo hi) (hk : ∀ k, skB B S k ∨ R k → w'.heap[k]? = w.heap[k]?) : SkV Bn w' B C S R P u v s m A lo hi := ⟨h.x.keep D hk, h.e⟩
theorem SkV.past {Bn : BnT} (D : BinsDoes Bn) {w w' : World} {B C : Nat} {S R S0 : Nat → Prop} {P : Pt} {u v : Int} {s : Bool} {m : Int} {A : List PairV} {lo hi : Int} (h : SkV Bn w B C S R P u v s m A lo hi) (hk : Keeps S0 w w') (hS : ∀ k, skB B S k ∨ R k → ¬ S0 k) : SkV Bn w' B C S R P u v s m A lo hi :=
  h.keep D fun k hk' => hk.block k (h.x.all_lt D k hk') (hS k hk')
theorem side_inj {s s' : Bool} (h : sideI s = sideI s') : s = s' := by cases s <;> cases s' <;> first | rfl | (exfalso; revert h; decide)

/-- What build tells: a sketch of all values, and what it must be; or that such aren't played. -/
def BuildK (Bn : BnT) (w : World) (u v sd m : Int) (A : List PairV) (a : Option Addr) (cap : Nat) (e : Ending) (w' : World) : Prop :=
  (∃ B C S R M P s n lo hi, e = .returned (.tuple #[.pointer (some ⟨B, 0, none⟩), .pointer (some ⟨M, 0, none⟩), .bool true]) ∧ sideI s = sd ∧ P.ok ∧ PtOf 0 u v P ∧ 1 ≤ m ∧ m ≤ 4096 ∧ FineV A ∧ A.length ≤ 60 ∧ SkV Bn w' B C S R P u v s m A lo hi ∧ RefK n w' M P s m A ∧ (∀ k, skB B S k ∨ R k → n ≤ k) ∧ w.heap.size ≤ n ∧ n ≤ w'.heap.size ∧ v ≤ 100 ∧ Below w.heap.size w w' ∧ Far w.heap.size w' M ∧ w'.cell? ⟨M, 5, none⟩ = some (.slice a A.length cap) ∧ w.heap.size ≤ M) ∨
  (e = .returned (.tuple #[.pointer none, .pointer none, .bool false]) ∧ Below w.heap.size w w')

set_option maxRecDepth 100000 in
set_option maxHeartbeats 4000000 in
theorem build14_any {Bn : BnT} (D : BinsDoes Bn) (w : World) (u v sd m : Int) (A : List PairV) (a : Option Addr) (cap : Nat) (wu : Word u) (wv : Word v) (ws : I64 sd) (wm : I64 m) (hA : Pairs w a A) (hl : A.length ≤ 140737488351232) :
    Calls Tryz.prog 11 #[.agg #[.int .u64 u, .int .u64 v, .int .i64 sd, .int .i64 m, .slice a A.length cap]] w (BuildK Bn w u v sd m A a cap) := by
  have HD := Lib.hid D
  have HA := Lib.hid hA
  obtain ⟨u0, u1⟩ := id wu
  obtain ⟨v0, v1⟩ := id wv
  obtain ⟨sd0, sd1⟩ := ws
  obtain ⟨m0, m1⟩ := wm
  clear hA D
  have BC := ((Below.refl w.heap.size w).alloc (Nat.le_refl _) (.cells #[.int .u64 u, .int .u64 v, .int .i64 sd, .int .i64 m, .slice a A.length cap] 27))
  have hsz : (w.alloc (.cells #[.int .u64 u, .int .u64 v, .int .i64 sd, .int .i64 m, .slice a A.length cap] 27)).heap.size = w.heap.size + 1 := by simp
  by_cases q1 : 60 < A.length
  · have kk : (60 : Int) < A.length := by omega
    go_enter Tryz.func11, Tryz.ntmps11
    go_wp2_with fail
    go_ret3
    exact Or.inr ⟨rfl, BC⟩
  have kk : ¬ (60 : Int) < A.length := by omega
  by_cases q2 : 100 < v
  · go_enter Tryz.func11, Tryz.ntmps11
    go_wp2_with fail
    go_ret3
    exact Or.inr ⟨rfl, BC⟩
  by_cases q5 : sd < 0
  · go_enter Tryz.func11, Tryz.ntmps11
    go_wp2_with fail
    go_ret3
    exact Or.inr ⟨rfl, BC⟩
  by_cases q6 : 1 < sd
  · go_enter Tryz.func11, Tryz.ntmps11
    go_wp2_with fail
    go_ret3
    exact Or.inr ⟨rfl, BC⟩
  obtain ⟨s, hs⟩ : ∃ s, sideI s = sd := by
    by_cases c : sd = 1
    · exact ⟨true, by rw [c]; rfl⟩
    · exact ⟨false, by have : sd = 0 := by omega
                       rw [this]; rfl⟩
  have HSI := Lib.hid hs
  have HNW := Lib.hid (fun W => rnew13_any u v 0 s m wu wv (by omega) (by omega) (by unfold I64; omega) W)
  have HKN := Lib.hid (fun W => knew_any HD.out W u v (sideI s) m wu wv (by unfold I64; cases s <;> decide) (by unfold I64; omega))
  rw [hs] at HNW HKN
  clear hs
  have p0 : (w.alloc (.cells #[.int .u64 u, .int .u64 v, .int .i64 sd, .int .i64 m, .slice a A.length cap] 27)).cell? ⟨w.heap.size, 0, none⟩ = some (.int .u64 u) := by go_simp
  have p1 : (w.alloc (.cells #[.int .u64 u, .int .u64 v, .int .i64 sd, .int .i64 m, .slice a A.length cap] 27)).cell? ⟨w.heap.size, 1, none⟩ = some (.int .u64 v) := by go_simp
  have p3 : (w.alloc (.cells #[.int .u64 u, .int .u64 v, .int .i64 sd, .int .i64 m, .slice a A.length cap] 27)).cell? ⟨w.heap.size, 2, none⟩ = some (.int .i64 sd) := by go_simp
  have p4 : (w.alloc (.cells #[.int .u64 u, .int .u64 v, .int .i64 sd, .int .i64 m, .slice a A.length cap] 27)).cell? ⟨w.heap.size, 3, none⟩ = some (.int .i64 m) := by go_simp
  have p5 : (w.alloc (.cells #[.int .u64 u, .int .u64 v, .int .i64 sd, .int .i64 m, .slice a A.length cap] 27)).cell? ⟨w.heap.size, 4, none⟩ = some (.slice a A.length cap) := by go_simp
  go_enter Tryz.func11, Tryz.ntmps11
  go_wp2_with fail
  have HSZ := Lib.hid hsz
  generalize (w.alloc (.cells #[.int .u64 u, .int .u64 v, .int .i64 sd, .int .i64 m, .slice a A.length cap] 27)) = wC at *
  clear hsz
  refine (HNW.out _).mono ?_
  rintro e w2 (⟨M, P, hP, hof, rfl, hrn, hM, hb2, hfar⟩ | ⟨hno, rfl, hb2⟩)
  · have b2 := BC.trans (hb2.mono (by rw [HSZ.out]; omega))
    have HPP := Lib.hid hP
    have HOF := Lib.hid hof
    have HRN := Lib.hid hrn
    have HFAR := Lib.hid hfar
    clear hfar
    have r0 := cell_later hb2 p0
    have r1 := cell_later hb2 p1
    have r3 := cell_later hb2 p3
    have r4 := cell_later hb2 p4
    have r5 := cell_later hb2 p5
    have hz2 : w.heap.size < w2.heap.size := by have := hb2.size; rw [HSZ.out] at this; omega
    have hM1 : w.heap.size + 1 ≤ M := by rw [HSZ.out] at hM; exact hM
    have hMlt := hrn.lt
    clear hP hof hrn p0 p1 p3 p4 p5 hb2 HNW hM
    go_wp2_with fail
    refine (HKN.out w2).mono ?_
    rintro e w3 (⟨B, C, S, R, P', s', hsi', hP', hof', m1', m2', rfl, hsk, hSR, hb3⟩ | ⟨ec, rfl, hec, _, _, hb3⟩)
    case inr =>
      have b3 := b2.trans (hb3.mono b2.size)
      have hz : (ec == 0) = false := by simp; omega
      go_wp2_with fail
      go_ret3
      exact Or.inr ⟨rfl, b3⟩
    obtain rfl : P' = P := pt_one hP' HPP.out hof' HOF.out
    obtain rfl : s' = s := side_inj (hsi'.trans HSI.out.symm)
    have HSK := Lib.hid hsk
    have HSR := Lib.hid hSR
    have t5 := cell_later hb3 r5
    have hz3 := hb3.size
    clear hsk hSR HKN r0 r1 r3 r4 hP' hof' hsi'
    go_wp2_with fail
    go_loopw [61] (fun j wr => ∃ (k : Nat) (Sk : Nat → Prop) (lo hi : Int), k ≤ A.length ∧ j = .int .i64 k ∧ FineV (A.take k) ∧ SkV Bn wr B C Sk R P' u v s' m (A.take k) lo hi ∧ (∀ i, skB B Sk i ∨ R i → w2.heap.size ≤ i) ∧ Below w2.heap.size w2 wr) (fun j _ => A.length - (intOf j).toNat)
    case atStart => exact ⟨0, S, 0, 0, Nat.zero_le _, rfl, fun v hv => (by cases hv), ⟨by rw [List.take_zero, stv_nil]; exact HSK.out, fun h => absurd List.take_zero h⟩, HSR.out, hb3⟩
    case round =>
      obtain ⟨k, Sk, lo, hi, hk, rfl, hf, hbn, hsr, hb4⟩ := hrel
      have HBK := Lib.hid hbn
      have HSRK := Lib.hid hsr
      have HFK := Lib.hid hf
      have hbs4 := hb4.size
      clear hbn hsr hf
      by_cases hlt : k < A.length
      · have kl : (k : Int) < A.length := by omega
        have hxk : A[k]? = some A[k] := List.getElem?_eq_getElem hlt
        generalize hit : A[k] = p at *
        obtain ⟨px, pc⟩ := p
        have HXK := Lib.hid hxk
        have hA2 := HA.out.call (b2.trans (hb4.mono (by omega)))
        obtain ⟨bb, off, rfl, hbl, c0, c1⟩ := hA2.at_ k _ hxk
        have hok := HA.out.ok _ (List.mem_of_getElem? hxk)
        have HOK := Lib.hid hok.1
        obtain ⟨⟨o1, o2⟩, o3, o4⟩ := hok
        simp only at c0 c1 o1 o2 o3 o4 HOK
        have HB5 := Lib.hid (hb4.alloc hbs4 (.cells #[.int .i64 px, .int .u64 pc] 52))
        have HBK5 := Lib.hid (HBK.out.call HD.out ((Below.refl wr.heap.size wr).alloc (Nat.le_refl _) (.cells #[.int .i64 px, .int .u64 pc] 52)))
        have hz5 : (wr.alloc (.cells #[.int .i64 px, .int .u64 pc] 52)).heap.size = wr.heap.size + 1 := by simp
        clear hxk hit hA2
        by_cases z0 : pc = 0
        · subst z0
          go_wp2_with fail
          go_ret3
          exact Or.inr ⟨rfl, b2.trans (HB5.out.mono (by omega))⟩
        have z1 : (pc == 0) = false := by simp [z0]
        by_cases z2 : 1125899906842624 < pc
        · go_wp2_with fail
          go_ret3
          exact Or.inr ⟨rfl, b2.trans (HB5.out.mono (by omega))⟩
        have hst := bin_step HPP.out s' (show 0 < m by omega) HXK.out HFK.out (by omega) ⟨HOK.out, by show 0 < pc; omega, by show pc ≤ 1125899906842624; omega⟩
        have HST := Lib.hid hst
        have HAD := Lib.hid (kput_v HD.out HPP.out (show 0 < m by omega) HBK5.out HFK.out (by omega) px pc HXK.out ⟨HOK.out, by omega, by omega⟩)
        clear hst
        go_wp2_with fail
        refine HAD.out.mono ?_
        rintro e w6 ⟨S6, lo6, hi6, rfl, hbn6, hk6, hS6⟩
        have HBN6 := Lib.hid hbn6
        have b6 : Below w2.heap.size w2 w6 := Keeps.below HB5.out hk6 (by rw [hz5]; omega) fun i hi => HSRK.out i (Or.inl hi)
        have hs6 : ∀ i, skB B S6 i ∨ R i → w2.heap.size ≤ i := fun i hi => by
          rcases hi with (h | h) | h
          · exact HSRK.out i (Or.inl (Or.inl h))
          · rcases hS6 i h with h | h
            · exact HSRK.out i (Or.inl (Or.inr h))
            · rw [hz5] at h; omega
          · exact HSRK.out i (Or.inr h)
        have HS6 := Lib.hid hs6
        clear hbn6 hs6 hS6 hk6 HAD HBK HBK5
        go_wp2_with fail
        go_roundw
        case rel => exact ⟨k + 1, S6, lo6, hi6, by omega, by go_num, HST.out.1, HBN6.out, HS6.out, b6⟩
        case measure => simp [intOf]; omega
      · obtain rfl : k = A.length := by omega
        have kl : ¬ (A.length : Int) < A.length := by omega
        rw [List.take_length] at HBK HFK
        have t6 := cell_later hb4 r5
        have hMB := HRN.out.lt
        obtain ⟨loM, re, dgx, a0, cap0, _, _, h3⟩ := HRN.out.ex
        have h3' := (hb4.block M hMB).trans h3
        have hfz : Far w.heap.size (wr.setCell ⟨M, 5, none⟩ (.slice a A.length cap)) M := by
          refine far_block (by rw [Joins.block_setCell h3']; rfl) (fun g l c e => ?_) (fun g l c e => ?_)
          · have := HFAR.out 0 g l c (Or.inl rfl) (by rw [Joins.cell_of_block h3, e]; rfl); rw [HSZ.out] at this; omega
          · have := HFAR.out 1 g l c (Or.inr rfl) (by rw [Joins.cell_of_block h3, e]; rfl); rw [HSZ.out] at this; omega
        have hv5 : (wr.setCell ⟨M, 5, none⟩ (.slice a A.length cap)).cell? ⟨M, 5, none⟩ = some (.slice a A.length cap) := by
          have hbb : (wr.setCell ⟨M, 5, none⟩ (.slice a A.length cap)).heap[M]? = _ := Joins.block_setCell h3' _
          rw [Joins.cell_of_block hbb]; rfl
        have HFZ := Lib.hid hfz
        have HV5 := Lib.hid hv5
        clear hfz hv5
        have y5 : wr.cell? ⟨M, 5, none⟩ = some (.slice a0 ([] : List PairV).length cap0) := by rw [Joins.cell_of_block h3']; rfl
        have f5 : wr.frozen? ⟨M, 5, none⟩ = false := Joins.unfrozen_of_block h3' 5
        have HVL := Lib.hid (refk_vals (cap := cap) HRN.out HA.out b2 (by omega) hb4)
        have HBZ : Hid (SkV Bn (wr.setCell ⟨M, 5, none⟩ (.slice a A.length cap)) B C Sk R P' u v s' m A lo hi) := Lib.hid (HBK.out.keep HD.out fun i hi => Below.heap_setCell wr _ _ i (by have := HSRK.out i hi; show i ≠ M; omega))
        have hbz : Below w.heap.size w (wr.setCell ⟨M, 5, none⟩ (.slice a A.length cap)) := (b2.trans (hb4.mono (by omega))).setCell (p := ⟨M, 5, none⟩) (by show w.heap.size ≤ M; omega) _
        have hsz : (wr.setCell ⟨M, 5, none⟩ (.slice a A.length cap)).heap.size = wr.heap.size := by simp [World.setCell]
        clear h3 h3' HBK
        go_wp2_with fail
        go_ret3
        exact Or.inl ⟨B, C, Sk, R, M, P', s', w2.heap.size, lo, hi, rfl, HSI.out, HPP.out, HOF.out, by omega, by omega, HFK.out, by omega, HBZ.out, HVL.out, HSRK.out, by omega, by rw [hsz]; omega, by omega, hbz, HFZ.out, HV5.out, by omega⟩
  · have b2 := BC.trans (hb2.mono (by rw [HSZ.out]; omega))
    have r0 := cell_later hb2 p0
    have r1 := cell_later hb2 p1
    have r3 := cell_later hb2 p3
    have r4 := cell_later hb2 p4
    go_wp2_with fail
    refine (HKN.out w2).mono ?_
    rintro e w3 (⟨B, C, S, R, P', s', hsi', hP', hof', m1', m2', rfl, hsk, hSR, hb3⟩ | ⟨ec, rfl, hec, _, _, hb3⟩)
    all_goals
      have b3 := b2.trans (hb3.mono b2.size)
      go_wp2_with fail
      go_ret3
      exact Or.inr ⟨rfl, b3⟩
end Go.Proofs.YtcijflakldggaaaGreat

/-
  Walks: the laws' alive and same of layer 14.
-/
namespace Go.Proofs.YtcijflakldggaaaGreat
set_option linter.unusedVariables false
set_option linter.unusedSimpArgs false
open Go.RowKit

theorem alive_quan : quanA (.cells 1 10 215) false 100 [(7, 3)] 1 2 = (7, 0) := by decide +kernel
set_option maxRecDepth 100000 in
set_option maxHeartbeats 1000000 in
theorem alive14_any {Bn : BnT} (D : BinsDoes Bn) (w : World) : Calls Tryz.prog 10 #[] w fun e w' => e = .returned (.bool true) ∧ Below w.heap.size w w' := by
  have HD := Lib.hid D
  have HNW := Lib.hid (knew_any D w 1 10 0 100 ⟨by decide, by decide⟩ ⟨by decide, by decide⟩ ⟨by decide, by decide⟩ ⟨by decide, by decide⟩)
  have g : GoodC 1 10 := by unfold GoodC; omega
  have hPok : (Pt.cells 1 10 215).ok := ⟨g, tab_ten, by omega⟩
  have HG := Lib.hid g
  have HPO := Lib.hid hPok
  clear D g hPok
  go_enter Tryz.func10, Tryz.ntmps10
  go_wp2_with fail
  refine HNW.out.mono ?_
  rintro e w2 (⟨B, C, S, R, P, s, hsi, hP, hof, m1, m2, rfl, hsk, hSR, hb2⟩ | ⟨c, rfl, hc, _, hcc, hb2⟩)
  case inr =>
    exfalso
    rcases hcc with ⟨_, h | h⟩ | ⟨_, h⟩
    · rw [goodC_iff.2 HG.out] at h; cases h
    · exact h (by omega)
    · have hh := low_mono HG.out (show 215 ≤ 4096 by omega)
      rw [tab_ten.2] at hh
      exact absurd h (by omega)
  obtain rfl : P = .cells 1 10 215 := pt_one hP HPO.out hof ⟨rfl, rfl, rfl⟩
  obtain rfl : s = false := side_inj hsi
  have hf1 : FineV [(7, 3)] := fun v hv => by
    have : v = (7, 3) := by simpa using hv
    subst this; exact ⟨⟨by decide, by decide⟩, by decide, by decide⟩
  have hv0 : SkV Bn w2 B C S R (.cells 1 10 215) 1 10 false 100 (([(7, 3)] : List PairV).take 0) 0 0 := ⟨by rw [List.take_zero, stv_nil]; exact hsk, fun h => absurd List.take_zero h⟩
  have HPU := Lib.hid (kput_v HD.out HPO.out (by omega) hv0 (fun v hv => by cases hv) (by omega) 7 3 rfl ⟨⟨by decide, by decide⟩, by decide, by decide⟩)
  have HF1 := Lib.hid hf1
  have HSR := Lib.hid hSR
  have hz2 := hb2.size
  clear hP hof hsk hSR hv0 hf1 hsi HNW
  go_wp2_with fail
  refine HPU.out.mono ?_
  rintro e w3 ⟨S', lo, hi, rfl, hv1, hk, hS'⟩
  have b3 : Below w.heap.size w w3 := hk.below hb2 hz2 (fun i hi => HSR.out i (Or.inl hi))
  have hv1' : SkV Bn w3 B C S' R (.cells 1 10 215) 1 10 false 100 [(7, 3)] lo hi := hv1
  have hq : quanE (.cells 1 10 215) false (stV (.cells 1 10 215) false 100 [(7, 3)]) lo hi 1 2 = (7, 0) := by rw [quan_same HPO.out false (by omega) HF1.out (by simp) hv1'.e]; exact alive_quan
  have hall := stv_all HPO.out false 100 HF1.out (by simp)
  have hsl := stv_len HPO.out false 100 HF1.out (by simp)
  have hs3 : sumP [(7, 3)] = 3 := by decide
  have HQ := Lib.hid (kquan_any HD.out hv1'.x (by simp at hsl; omega) (by simp at hsl; omega) 1 2 7 0 ⟨by decide, by decide⟩ ⟨by decide, by decide⟩ (by rw [hall, hs3]; exact ⟨by decide, by decide⟩) hq)
  clear hv1 hv1' hk hS' hq hall hsl hs3 HPU
  go_wp2_with fail
  refine HQ.out.mono ?_
  rintro e w4 ⟨rfl, b4⟩
  go_wp2_with fail
  go_ret
  exact ⟨rfl, b3.trans (b4.mono b3.size)⟩

theorem ende_a {P : Pt} (hP : P.ok) (s : Bool) (m : Int) {A : List PairV} (h : FineV A) (hl : A.length ≤ 1000) {lo hi : Int} (he : A ≠ [] → lo = loV A ∧ hi = hiV A) : endE (stV P s m A) lo hi = endA A := by
  unfold endE endA
  rw [stv_all hP s m h hl]
  by_cases z : A = []
  · rw [if_pos z, if_pos ((sum_zero h).2 z)]
  · obtain ⟨rfl, rfl⟩ := he z
    rw [if_neg z, if_neg (fun e => z ((sum_zero h).1 e))]

set_option maxRecDepth 100000 in
set_option maxHeartbeats 4000000 in
theorem same14_any {Bn : BnT} (D : BinsDoes Bn) (w : World) (B C M : Nat) (S R : Nat → Prop) (P : Pt) (u v : Int) (s : Bool) (m : Int) (A : List PairV) (lo hi : Int) (hB : SkV Bn w B C S R P u v s m A lo hi) (hR : RefN w M P s m A) (hP : P.ok) (hf : FineV A) (hl : A.length ≤ 300) (m1 : 1 ≤ m) (m2 : m ≤ 4096) :
    Calls Tryz.prog 14 #[.pointer (some ⟨B, 0, none⟩), .pointer (some ⟨M, 0, none⟩)] w fun e w' => e = .returned (.bool true) ∧ Below w.heap.size w w' := by
  have HD := Lib.hid D
  have HB := Lib.hid hB
  have HR := Lib.hid hR
  obtain ⟨_, _, _, av, cap, _, hvv, hcn⟩ := hR.cells
  have HV := Lib.hid hvv
  have HCN := Lib.hid hcn
  have S1 := row_sum50 hP true hf (by omega)
  have S2 := row_sum50 hP false hf (by omega)
  have hsl := stv_len hP s m hf (by omega)
  have hall := stv_all hP s m hf (by omega)
  have hsum := fine_fit hf (by omega)
  have hk1 := keeps_ok (s := s) (m := m) S1.ok
  have hk2 := keeps_ok (s := s) (m := m) S2.ok
  have f1 := S1.len
  have f2 := S2.len
  have kl1 := keeps_le s m (rowV P true A)
  have kl2 := keeps_le s m (rowV P false A)
  have HBI := Lib.hid (fun W (hb : Below w.heap.size w W) => kbins_at (cell_later hb hB.x.cells.c4))
  have HRW := Lib.hid (fun W (hb : Below w.heap.size w W) => D.rows W C S R P s m (stV P s m A) (D.call hB.x.bins hb) (by omega) (by omega))
  have HTO := Lib.hid (fun W (hb : Below w.heap.size w W) => D.total W C S R P s m (stV P s m A) (D.call hB.x.bins hb) (by omega) (by omega))
  obtain ⟨x, y, b, hab⟩ : ∃ x y b, endA A = (x, y, b) := ⟨_, _, _, rfl⟩
  have HEN := Lib.hid (fun W (hb : Below w.heap.size w W) => kends_any D (hB.x.call D hb) (by omega) (by omega) x y b ((ende_a hP s m hf (by omega) hB.e).trans hab))
  have HRE := Lib.hid (fun W (hb : Below w.heap.size w W) => rends_any W av cap A x y b (hvv.call hb) (by omega) hab)
  obtain ⟨l1, hl1⟩ : ∃ l1, sumP (rowV P true A) - sumP (keepS s m (rowV P true A)) = l1 := ⟨_, rfl⟩
  obtain ⟨l2, hl2⟩ : ∃ l2, sumP (rowV P false A) - sumP (keepS s m (rowV P false A)) = l2 := ⟨_, rfl⟩
  have HK1 := Lib.hid (fun W hW => rkept13_any W M P s m A true l1 hW hP hf (by omega) m1 m2 hl1)
  have HK2 := Lib.hid (fun W hW => rkept13_any W M P s m A false l2 hW hP hf (by omega) m1 m2 hl2)
  obtain ⟨tt, htt⟩ : ∃ tt, sumP A = tt := ⟨_, rfl⟩
  have HMT := Lib.hid (fun W hW => rtotal13_any W M P s m A tt hW (by omega) htt (by omega))
  rw [hall, htt] at HTO
  have e1 : (stV P s m A).k1 = keepS s m (rowV P true A) := rfl
  have e2 : (stV P s m A).k2 = keepS s m (rowV P false A) := rfl
  rw [e1, e2] at HRW
  generalize keepS s m (rowV P true A) = K1 at *
  generalize keepS s m (rowV P false A) = K2 at *
  have HS1 := Lib.hid (fun W x x' cx cx' (h : Pairs W x K1) (h' : Pairs W x' K1) => same_any W x x' cx cx' K1 K1 true (by simp) h h' (by omega) (by omega))
  have HS2 := Lib.hid (fun W x x' cx cx' (h : Pairs W x K2) (h' : Pairs W x' K2) => same_any W x x' cx cx' K2 K2 true (by simp) h h' (by omega) (by omega))
  have HKO1 := Lib.hid hk1
  have HKO2 := Lib.hid hk2
  have htte : (tt == tt) = true := by simp
  have hxx : (x == x) = true := by simp
  have hyy : (y == y) = true := by simp
  have hbb : (b == b) = true := by simp
  obtain ⟨a1, ha1⟩ : ∃ a1 : Nat, K1.length = a1 := ⟨_, rfl⟩
  obtain ⟨a2, ha2⟩ : ∃ a2 : Nat, K2.length = a2 := ⟨_, rfl⟩
  obtain ⟨a3, ha3⟩ : ∃ a3 : Nat, A.length = a3 := ⟨_, rfl⟩
  rw [ha1] at HS1
  rw [ha2] at HS2
  rw [ha3] at HRE
  have hc5 := hcn.c5
  rw [ha3] at hc5
  have HC5 := Lib.hid hc5
  have HA1 := Lib.hid ha1
  have HA2 := Lib.hid ha2
  clear hB hR hf D hP S1 S2 hsl hall hsum hk1 hk2 f1 f2 e1 e2 hl1 hl2 htt kl1 kl2 ha1 ha2 ha3 hvv hcn hab hc5 HCN
  go_enter Tryz.func14, Tryz.ntmps14
  go_wp2_with fail
  refine (HBI.out _ (Below.refl _ _)).mono ?_
  rintro e w1 ⟨rfl, b1⟩
  go_wp2_with fail
  refine (HRW.out _ b1).mono ?_
  rintro e w2 ⟨v1, v2, rfl, ho1, ho2, b2⟩
  obtain ⟨x1, c1, rfl, hp1⟩ := ho1.pairs HKO1.out
  obtain ⟨x2, c2, rfl, hp2⟩ := ho2.pairs HKO2.out
  rw [HA1.out, HA2.out]
  have b2 := b1.trans (b2.mono b1.size)
  have P1 := Lib.hid hp1
  have P2 := Lib.hid hp2
  clear hp1 hp2 ho1 ho2 HRW b1
  go_wp2_with fail
  refine (HK1.out _ (HR.out.call b2)).mono ?_
  rintro e w4 ⟨v3, rfl, ho3, b4'⟩
  obtain ⟨x3, c3, rfl, hp3⟩ := ho3.pairs HKO1.out
  rw [HA1.out]
  have P3 := Lib.hid hp3
  have P1 := Lib.hid (P1.out.call b4')
  have P2 := Lib.hid (P2.out.call b4')
  have b4 := b2.trans (b4'.mono b2.size)
  clear hp3 ho3
  go_wp2_with fail
  refine (HK2.out _ (HR.out.call b4)).mono ?_
  rintro e w5 ⟨v4, rfl, ho4, b5'⟩
  obtain ⟨x4, c4, rfl, hp4⟩ := ho4.pairs HKO2.out
  rw [HA2.out]
  have P4 := Lib.hid hp4
  have P1 := Lib.hid (P1.out.call b5')
  have P2 := Lib.hid (P2.out.call b5')
  have P3 := Lib.hid (P3.out.call b5')
  have b5 := b4.trans (b5'.mono b4.size)
  clear hp4 ho4 b2 b4' b5' b4
  go_wp2_with fail
  refine (HEN.out _ b5).mono ?_
  rintro e w6 ⟨rfl, b6'⟩
  have b6 := b5.trans (b6'.mono b5.size)
  have P1 := Lib.hid (P1.out.call b6')
  have P2 := Lib.hid (P2.out.call b6')
  have P3 := Lib.hid (P3.out.call b6')
  have P4 := Lib.hid (P4.out.call b6')
  have hc5 := cell_later b6 HC5.out
  clear b5 b6'
  go_wp2_with fail
  refine (HRE.out _ b6).mono ?_
  rintro e w7 ⟨rfl, b7'⟩
  have b7 := b6.trans (b7'.mono b6.size)
  have P1 := Lib.hid (P1.out.call b7')
  have P2 := Lib.hid (P2.out.call b7')
  have P3 := Lib.hid (P3.out.call b7')
  have P4 := Lib.hid (P4.out.call b7')
  clear b6 b7' hc5
  go_wp2_with fail
  refine (HS1.out _ _ _ _ _ P1.out P3.out).mono ?_
  rintro e w8 ⟨rfl, b8'⟩
  have b8 := b7.trans (b8'.mono b7.size)
  have P2 := Lib.hid (P2.out.call b8')
  have P4 := Lib.hid (P4.out.call b8')
  clear b7 b8' P1 P3
  go_wp2_with fail
  refine (HS2.out _ _ _ _ _ P2.out P4.out).mono ?_
  rintro e w9 ⟨rfl, b9'⟩
  have b9 := b8.trans (b9'.mono b8.size)
  clear b8 b9' P2 P4
  go_wp2_with fail
  refine (HBI.out _ b9).mono ?_
  rintro e w10 ⟨rfl, b10'⟩
  have b10 := b9.trans (b10'.mono b9.size)
  clear b9 b10'
  go_wp2_with fail
  refine (HTO.out _ b10).mono ?_
  rintro e w11 ⟨rfl, b11'⟩
  have b11 := b10.trans (b11'.mono b10.size)
  clear b10 b11'
  go_wp2_with fail
  refine (HMT.out _ (HR.out.call b11)).mono ?_
  rintro e w12 ⟨rfl, b12'⟩
  have b12 := b11.trans (b12'.mono b11.size)
  clear b11 b12'
  go_wp2_with fail
  go_ret
  exact ⟨rfl, b12⟩

/-- The five cells of a case. -/
structure CaseK (w : World) (C : Nat) (u v sd m : Int) (x : Value) : Prop where
  c0 : w.cell? ⟨C, 0, none⟩ = some (.int .u64 u)
  c1 : w.cell? ⟨C, 1, none⟩ = some (.int .u64 v)
  c2 : w.cell? ⟨C, 2, none⟩ = some (.int .i64 sd)
  c3 : w.cell? ⟨C, 3, none⟩ = some (.int .i64 m)
  c4 : w.cell? ⟨C, 4, none⟩ = some x
theorem CaseK.call {w w' : World} {C : Nat} {u v sd m : Int} {x : Value} (h : CaseK w C u v sd m x) (hb : Below w.heap.size w w') : CaseK w' C u v sd m x :=
  ⟨cell_later hb h.c0, cell_later hb h.c1, cell_later hb h.c2, cell_later hb h.c3, cell_later hb h.c4⟩
theorem casek_new (w : World) (u v sd m : Int) (x : Value) (t : TypeId) : CaseK (w.alloc (.cells #[.int .u64 u, .int .u64 v, .int .i64 sd, .int .i64 m, x] t)) w.heap.size u v sd m x :=
  ⟨by go_simp, by go_simp, by go_simp, by go_simp, by go_simp⟩
theorem below_new {w w' : World} (h : Below w.heap.size w w') (o : Obj) : Below w.heap.size w (w'.alloc o) := h.alloc h.size o
theorem grew_one (w : World) (o : Obj) : Below w.heap.size w (w.alloc o) := (Below.refl _ _).alloc (Nat.le_refl _) _
theorem size_new (w : World) (o : Obj) : (w.alloc o).heap.size = w.heap.size + 1 := by simp
end Go.Proofs.YtcijflakldggaaaGreat

/-
  Plain mathematics of the laws of layer 14: how close, how it rises, what is lost; a row in another order, in other pieces.
-/
namespace Go.Proofs.YtcijflakldggaaaGreat
set_option linter.unusedVariables false
set_option linter.unusedSimpArgs false

theorem pt_cells {u v : Int} {P : Pt} (hP : P.ok) (h : PtOf 0 u v P) : ∃ n, P = .cells u v n := by
  cases P with
  | cells a b n => obtain ⟨_, rfl, rfl⟩ := h; exact ⟨n, rfl⟩
  | spans d L T =>
    exfalso
    have h' : d = 0 := h
    have hs : SpanP d L T := hP
    unfold SpanP at hs; omega
theorem ask_some {P : Pt} {s : Bool} {m : Int} {A : List PairV} {t x : Int} (h : askV P s m A t = some x) : ∃ y, exactV A t = some y ∧ x = standV P y := by
  unfold askV at h
  cases hx : exactV A t with
  | none => rw [hx] at h; cases h
  | some y =>
    rw [hx] at h
    dsimp only at h
    split at h
    · cases h
    · exact ⟨y, rfl, (Option.some.inj h).symm⟩
theorem ask_none {P : Pt} {s : Bool} {m : Int} {A : List PairV} {t x : Int} (hx : exactV A t = some x) (h : askV P s m A t = none) : x ≠ 0 ∧ countP (keepS s m (rowV P (decide (x < 0)) A)) (P.idx (mag x)) = 0 := by
  unfold askV at h
  rw [hx] at h
  dsimp only at h
  split at h
  · assumption
  · cases h
theorem quan_ok {P : Pt} {s : Bool} {m : Int} {A : List PairV} {a b r : Int} (h : quanA P s m A a b = (r, 0)) : ∃ x, askV P s m A (plV a b (sumP A)) = some x ∧ r = clampV (loV A) (hiV A) x := by
  unfold quanA at h
  split at h
  · cases hq : askV P s m A (plV a b (sumP A)) with
    | none => rw [hq] at h; simp at h
    | some x => rw [hq] at h; exact ⟨x, rfl, by simpa using (Prod.mk.inj h).1.symm⟩
  · rename_i hne
    exact absurd (Prod.mk.inj h).2 hne
theorem quan_in {P : Pt} {s : Bool} {m : Int} {A : List PairV} {a b r : Int} (hA : A ≠ []) (h : quanA P s m A a b = (r, 0)) : loV A ≤ r ∧ r ≤ hiV A := by
  obtain ⟨x, _, rfl⟩ := quan_ok h
  obtain ⟨⟨v, hv, e⟩, hl⟩ := lov_facts hA
  have := (hiv_facts hA).2 v hv
  exact clamp_in (by omega) x
theorem exact_i64 {A : List PairV} (hf : FineV A) {t x : Int} (h : exactV A t = some x) : I64 x := by
  obtain ⟨v, hv, e, _⟩ := exact_of h
  exact e ▸ (hf v hv).1
theorem quan_rise {u v : Int} {P : Pt} (hP : P.ok) (hof : PtOf 0 u v P) {s : Bool} {m : Int} {A : List PairV} (hf : FineV A) {a b c d r q : Int} (h : quanA P s m A a b = (r, 0)) (k : quanA P s m A c d = (q, 0)) (hle : plV a b (sumP A) ≤ plV c d (sumP A)) : r ≤ q := by
  obtain ⟨x, hx, rfl⟩ := quan_ok h
  obtain ⟨y, hy, rfl⟩ := quan_ok k
  obtain ⟨x', hx', rfl⟩ := ask_some hx
  obtain ⟨y', hy', rfl⟩ := ask_some hy
  obtain ⟨n, rfl⟩ := pt_cells hP hof
  exact clamp_mono (stand_rise hP (exact_i64 hf hx') (exact_i64 hf hy') (exact_rise hf hx' hy' hle))
theorem quan_near {u v : Int} {P : Pt} (hP : P.ok) (hof : PtOf 0 u v P) (wv : 0 ≤ v) {s : Bool} {m : Int} {A : List PairV} (hf : FineV A) {a b r x : Int} (h : quanA P s m A a b = (r, 0)) (hx : exactV A (plV a b (sumP A)) = some x) : nearB r x u v = true := by
  obtain ⟨y, hy, rfl⟩ := quan_ok h
  obtain ⟨y', hy', rfl⟩ := ask_some hy
  obtain rfl : x = y' := Option.some.inj (hx.symm.trans hy')
  obtain ⟨n, rfl⟩ := pt_cells hP hof
  obtain ⟨w, hw, e, _⟩ := exact_of hx
  have hA : A ≠ [] := by rintro rfl; cases hw
  exact clamp_near (by have := (lov_facts hA).2 w hw; omega) (by have := (hiv_facts hA).2 w hw; omega) wv (stand_near hP (exact_i64 hf hx))
theorem quan_lost {P : Pt} {s : Bool} {m : Int} {A : List PairV} {a b r c x : Int} (h : quanA P s m A a b = (r, c)) (hc : c ≠ 0) (hp : plE a b (sumP A) = 0) (hx : exactV A (plV a b (sumP A)) = some x) : c = 9 ∧ x ≠ 0 ∧ countP (keepS s m (rowV P (decide (x < 0)) A)) (P.idx (mag x)) = 0 := by
  unfold quanA at h
  rw [if_pos hp] at h
  cases hq : askV P s m A (plV a b (sumP A)) with
  | none => rw [hq] at h; exact ⟨(Prod.mk.inj h).2.symm, ask_none hx hq⟩
  | some y => rw [hq] at h; exact absurd (Prod.mk.inj h).2.symm hc
theorem place_in {A : List PairV} (hf : FineV A) (hl : A.length ≤ 1000) (hA : A ≠ []) {a b : Int} (wa : Word a) (wb : Word b) (hg : gdB a b = true) : plE a b (sumP A) = 0 ∧ ∃ x, exactV A (plV a b (sumP A)) = some x := by
  have h0 := (fine_sum hf).1
  have h1 := fine_fit hf hl
  have hn : ¬ sumP A = 0 := fun e => by
    cases A with
    | nil => exact hA rfl
    | cons v r =>
      have h2 := hf v (by simp)
      have h3 := (fine_sum (A := r) (fun q hq => hf q (by simp [hq]))).1
      have e : sumP ([v] ++ r) = 0 := e
      rw [sumP_app] at e
      have h4 := cnt_one (fun _ => true) v
      rw [cnt_all] at h4
      simp at h4
      omega
  have hs := pl_spec wa wb (show Word (sumP A) by unfold Word; omega) hg hn
  exact ⟨(pl_good hg hn).2, exact_is hf (by omega) (by omega)⟩
end Go.Proofs.YtcijflakldggaaaGreat

/-
  Rows of values of the call's own, and how one is appended to one.
-/
namespace Go.Proofs.YtcijflakldggaaaGreat
set_option linter.unusedVariables false
set_option linter.unusedSimpArgs false
set_option maxRecDepth 100000
open Go.RowKit

theorem own_vals {w : World} {base : Nat} {v : Value} {L : List PairV} (h : w.ownsRow base 52 2 v L.length (cellsQ L)) (hok : ∀ p, p ∈ L → okP p) :
    ∃ A cap, v = .slice A L.length cap ∧ Pairs w A L := by
  have hh := h
  rcases h.2 with ⟨rfl, h0⟩ | ⟨g, cap, cur, rfl, _, hg, _⟩
  · have e : L = [] := List.eq_nil_of_length_eq_zero h0
    subst e
    exact ⟨none, 0, rfl, hok, fun i p hi => by simp at hi⟩
  · refine ⟨some ⟨g, 0, none⟩, cap, rfl, hok, fun i p hi => ?_⟩
    have hc := hh.cells (g := g) rfl
    obtain ⟨c0, c1⟩ := cellsQ_at L i p hi
    refine ⟨g, 0, rfl, lt_of_block hg, ?_, ?_⟩
    · rw [← add_flat]; exact hc _ _ c0
    · rw [Nat.add_assoc, ← add_flat]; exact hc _ _ c1
theorem Tryz.infoVal : (Tryz.prog.info? 52).map (fun i => (i.zero, i.size, i.bytes)) = some (some (.agg #[.int .i64 0, .int .u64 0]), 2, 16) := by kernel_rfl
def OwnV (w : World) (base : Nat) (v : Value) (L : List PairV) : Prop := w.ownsRow base 52 2 v L.length (cellsQ L)
theorem OwnV.nil (w : World) (base : Nat) : OwnV w base (.slice none 0 0) [] := World.ownsRow_nil _ _ _ _
theorem OwnV.call {w w' : World} {base : Nat} {v : Value} {L : List PairV} (h : OwnV w base v L) (hb : Below w.heap.size w w') : OwnV w' base v L :=
  World.ownsRow.kept (row := none) h ⟨hb.os, hb.tape, hb.output, hb.size, fun i hi _ => hb.block i hi⟩ (by cases v.ownBlock <;> simp)
theorem OwnV.pairs {w : World} {base : Nat} {v : Value} {L : List PairV} (h : OwnV w base v L) (hok : ∀ p, p ∈ L → okP p) : ∃ A cap, v = .slice A L.length cap ∧ Pairs w A L := own_vals h hok
theorem OwnV.lt {w : World} {base : Nat} {v : Value} {L : List PairV} (h : OwnV w base v L) : ∀ k, v.ownBlock = some k → base ≤ k ∧ k < w.heap.size := World.ownsRow.lt h

theorem OwnV.form {w : World} {base : Nat} {v : Value} {L : List PairV} (h : OwnV w base v L) : ∃ A cap, v = .slice A L.length cap := by
  have h' : w.ownsRow base 52 2 v L.length (cellsQ L) := h
  rcases h'.2 with ⟨rfl, h0⟩ | ⟨g, cap, cur, rfl, _⟩
  · exact ⟨none, 0, by rw [h0]⟩
  · exact ⟨_, _, rfl⟩
/-- Appending a whole row of pairs, a nil one too, to one of the call's own. -/
theorem wpList_append_vals {w : World} {ops : Array Oper} {rest : List Oper} {o : Oper} {a : Act} {Q : Exit → Act → World → Prop} (hgd : o.guard = none) (s x : Operand)
    (ho : o.op = .call { callee := .builtin .append, args := #[s, x], argTypes := #[25, 25] })
    (base : Nat) (v : Value) (M : List PairV) (A : Option Addr) (cap : Nat) (L : List PairV) (hs : a.eval s = v) (hown : OwnV w base v M)
    (hx : a.eval x = .slice A L.length cap) (hsrc : Pairs w A L) (hn : M.length + L.length ≤ 100000) (hbase : base ≤ w.heap.size)
    (h : ∀ v' w', OwnV w' base v' (M ++ L) → w.grownBy w' v.ownBlock → wpList Tryz.prog ops Q rest (a.put o.dst v') w') : wpList Tryz.prog ops Q (o :: rest) a w := by
  obtain ⟨i0, hi, hz0, hz1, hz2⟩ := info_parts Tryz.infoVal
  by_cases hL : L = []
  · subst hL
    have hx' : a.eval x = .slice A 0 cap := hx
    have hrun : (Builtin.append_ #[25, 25] o.type #[v, .slice A 0 cap]).run Tryz.prog w = .ok v w := by
      have hl : ∀ (b : Option Addr) (n c : Nat), (Builtin.firstCells 2 0 (.slice A 0 cap)).run Tryz.prog w = .ok #[] w := by
        intro b n c
        cases A with
        | none => exact run_firstCells_none w 2 0 0 cap
        | some ad => exact run_firstCells_some w 2 0 ad 0 cap [] rfl (fun j v hj => by simp at hj)
      rcases hown.2 with ⟨rfl, h0⟩ | ⟨g, c2, cur, rfl, _, _, hnc, _⟩
      · rw [show (0 : Nat) = 0 from rfl] at *
        simp [Builtin.append_, run_underlying Tryz.underlying25, sizeOf, typeInfo, hi, hz1, Builtin.lenOf, hl none 0 0]
      · simp [Builtin.append_, run_underlying Tryz.underlying25, sizeOf, typeInfo, hi, hz1, Builtin.lenOf, hnc, storeCells, hl none 0 0]
    refine wpList_plain hgd fun K hK => ?_
    unfold Oper.wp
    simp [execOp, ho, resolve, invoke, builtin, hs, hx', hrun, Result.andThen]
    exact hK _ _ (h v w (by rw [List.append_nil]; exact hown) (World.grownBy.refl _ _))
  · obtain ⟨p, hp⟩ : ∃ p, L[0]? = some p := by
      cases L with
      | nil => exact absurd rfl hL
      | cons p r => exact ⟨p, rfl⟩
    obtain ⟨b, off, rfl, _, _, _⟩ := hsrc.at_ 0 p hp
    refine wpList_append_own w hgd s x _ ho base _ i0 _ 2 16 Tryz.underlying25 hi hz0 hz1 hz2 rfl (by decide) v M.length (cellsQ M) hs hown ⟨b, off, none⟩ L.length cap (cellsQ L) hx (cellsQ_len L) ?_ (cellsQ_one L)
      (by unfold maxLen; omega) (by omega) hbase (fun v' w' h1 h2 _ => h v' w' ?_ h2)
    · intro j u hu
      rw [add_flat]
      have hj : j < L.length * 2 := by
        rcases Nat.lt_or_ge j (L.length * 2) with h1 | h1
        · exact h1
        · rw [List.getElem?_eq_none (by rw [cellsQ_len]; exact h1)] at hu; cases hu
      have hq := List.getElem?_eq_getElem (l := L) (i := j / 2) (by omega)
      obtain ⟨b', off', e, _, c0, c1⟩ := hsrc.at_ (j / 2) _ hq
      obtain ⟨rfl, rfl⟩ : b = b' ∧ off = off' := by
        have := Option.some.inj e
        exact ⟨(Addr.mk.inj this).1, (Addr.mk.inj this).2.1⟩
      obtain ⟨q0, q1⟩ := cellsQ_at L (j / 2) _ hq
      rcases Nat.mod_two_eq_zero_or_one j with h2 | h2
      · have e1 : j / 2 * 2 = j := by omega
        rw [e1] at q0 c0; rw [q0] at hu; rw [c0, ← Option.some.inj hu]
      · have e1 : j / 2 * 2 + 1 = j := by omega
        rw [Nat.add_assoc, e1] at c1; rw [e1] at q1; rw [q1] at hu; rw [c1, ← Option.some.inj hu]
    · unfold OwnV
      rw [cellsQ_app, List.length_append]
      exact h1


theorem OwnV.below {a w w' : World} {base : Nat} {v : Value} {L : List PairV} (h : OwnV w base v L) (hb : Below base a w) (hg : w.grownBy w' v.ownBlock) (hs : base ≤ w.heap.size) : Below base a w' := hb.grown hg hs (fun k hk => (h.lt k hk).1)

/-- The reference's bins with a row of the call's own set. -/
theorem RefN.own {w : World} {M : Nat} {P : Pt} {s : Bool} {m : Int} {A : List PairV} {g cap : Nat} (h : RefN w M P s m []) (hv : Pairs w (some ⟨g, 0, none⟩) A) (hg : g ≠ M) :
    RefN (w.setCell ⟨M, 5, none⟩ (.slice (some ⟨g, 0, none⟩) A.length cap)) M P s m A := by
  obtain ⟨lo, re, dg, a0, cap0, h1, h2, h3⟩ := h.ex
  have hsz : (w.setCell ⟨M, 5, none⟩ (.slice (some ⟨g, 0, none⟩) A.length cap)).heap.size = w.heap.size := by simp [World.setCell]
  refine ⟨lo, re, dg, some ⟨g, 0, none⟩, cap, ?_, ⟨hv.ok, fun i p hp => ?_⟩, ?_⟩
  · cases P with
    | cells u v n =>
      obtain ⟨h0, g, k, c, c', e1, e2, n1, n2, e3, e4⟩ := h1
      exact ⟨h0, g, k, c, c', e1, e2, n1, n2, fun i hi => (setCell_other_heap n1 i).trans (e3 i hi), fun i hi => (setCell_other_heap n2 i).trans (e4 i hi)⟩
    | spans d L T => exact h1
  · obtain ⟨b, off, hb, hl, c0, c1⟩ := hv.at_ i p hp
    obtain ⟨rfl, rfl⟩ : g = b ∧ 0 = off := by
      have := Option.some.inj hb
      exact ⟨(Addr.mk.inj this).1, (Addr.mk.inj this).2.1⟩
    exact ⟨g, 0, rfl, by rw [hsz]; exact hl, (setCell_other_heap hg _).trans c0, (setCell_other_heap hg _).trans c1⟩
  · rw [Joins.block_setCell h3]; rfl
theorem RefN.void {w : World} {M : Nat} {P : Pt} {s : Bool} {m : Int} {a : Option Addr} {cap : Nat} (h : RefN w M P s m []) : RefN (w.setCell ⟨M, 5, none⟩ (.slice a 0 cap)) M P s m [] := by
  obtain ⟨lo, re, dg, a0, cap0, h1, h2, h3⟩ := h.ex
  refine ⟨lo, re, dg, a, cap, ?_, ⟨fun p h => (by cases h), fun i p hp => by simp at hp⟩, ?_⟩
  · cases P with
    | cells u v n =>
      obtain ⟨h0, g, k, c, c', e1, e2, n1, n2, e3, e4⟩ := h1
      exact ⟨h0, g, k, c, c', e1, e2, n1, n2, fun i hi => (setCell_other_heap n1 i).trans (e3 i hi), fun i hi => (setCell_other_heap n2 i).trans (e4 i hi)⟩
    | spans d L T => exact h1
  · rw [Joins.block_setCell h3]; rfl
end Go.Proofs.YtcijflakldggaaaGreat

/-
  Appending a row of values, as one step of a region that draws.
-/
namespace Go.Proofs.YtcijflakldggaaaGreat
set_option linter.unusedVariables false
set_option linter.unusedSimpArgs false
open Go.RowKit

/-- append of a row of values, as one step of a region that draws. -/
theorem step_append_vals {w : World} {ops : Array Oper} {o : Oper} {a : Act} {K : Act → World → Prop} {Q : Exit → Act → World → Prop} {E : Prop} (hgd : o.guard = none) (s x : Operand)
    (ho : o.op = .call { callee := .builtin .append, args := #[s, x], argTypes := #[25, 25] })
    (base : Nat) (v : Value) (M : List PairV) (A : Option Addr) (n cap : Nat) (L : List PairV) (hs : a.eval s = v) (hown : OwnV w base v M)
    (hx : a.eval x = .slice A n cap) (hl : L.length = n) (hsrc : Pairs w A L) (hn : M.length + n ≤ 100000) (hbase : base ≤ w.heap.size)
    (h : ∀ v' w', OwnV w' base v' (M ++ L) → w.grownBy w' v.ownBlock → K (a.put o.dst v') w') : if Region.wanted o (yielded ops a.tmps) = true then Oper.wp Tryz.prog o a w K Q else E := by
  have hw : Region.wanted o (yielded ops a.tmps) = true := by simp [Region.wanted, hgd]
  rw [if_pos hw]
  subst hl
  obtain ⟨i0, hi, hz0, hz1, hz2⟩ := info_parts Tryz.infoVal
  by_cases hL : L = []
  · subst hL
    have hx' : a.eval x = .slice A 0 cap := hx
    have hrun : (Builtin.append_ #[25, 25] o.type #[v, .slice A 0 cap]).run Tryz.prog w = .ok v w := by
      have hl : ∀ (b : Option Addr) (n c : Nat), (Builtin.firstCells 2 0 (.slice A 0 cap)).run Tryz.prog w = .ok #[] w := by
        intro b n c
        cases A with
        | none => exact run_firstCells_none w 2 0 0 cap
        | some ad => exact run_firstCells_some w 2 0 ad 0 cap [] rfl (fun j v hj => by simp at hj)
      rcases hown.2 with ⟨rfl, h0⟩ | ⟨g, c2, cur, rfl, _, _, hnc, _⟩
      · rw [show (0 : Nat) = 0 from rfl] at *
        simp [Builtin.append_, run_underlying Tryz.underlying25, sizeOf, typeInfo, hi, hz1, Builtin.lenOf, hl none 0 0]
      · simp [Builtin.append_, run_underlying Tryz.underlying25, sizeOf, typeInfo, hi, hz1, Builtin.lenOf, hnc, storeCells, hl none 0 0]
    unfold Oper.wp
    simp [execOp, ho, resolve, invoke, builtin, hs, hx', hrun, Result.andThen]
    exact h v w (by rw [List.append_nil]; exact hown) (World.grownBy.refl _ _)
  · obtain ⟨p, hp⟩ : ∃ p, L[0]? = some p := by
      cases L with
      | nil => exact absurd rfl hL
      | cons p r => exact ⟨p, rfl⟩
    obtain ⟨b, off, rfl, _, _, _⟩ := hsrc.at_ 0 p hp
    refine wp_append_own w s x _ ho base _ i0 _ 2 16 Tryz.underlying25 hi hz0 hz1 hz2 rfl (by decide) v M.length (cellsQ M) hs hown ⟨b, off, none⟩ L.length cap (cellsQ L) hx (cellsQ_len L) ?_ (cellsQ_one L)
      (by unfold maxLen; omega) (by omega) hbase (fun v' w' h1 h2 _ => h v' w' ?_ h2)
    · intro j u hu
      rw [add_flat]
      have hj : j < L.length * 2 := by
        rcases Nat.lt_or_ge j (L.length * 2) with h1 | h1
        · exact h1
        · rw [List.getElem?_eq_none (by rw [cellsQ_len]; exact h1)] at hu; cases hu
      have hq := List.getElem?_eq_getElem (l := L) (i := j / 2) (by omega)
      obtain ⟨b', off', e, _, c0, c1⟩ := hsrc.at_ (j / 2) _ hq
      obtain ⟨rfl, rfl⟩ : b = b' ∧ off = off' := by
        have := Option.some.inj e
        exact ⟨(Addr.mk.inj this).1, (Addr.mk.inj this).2.1⟩
      obtain ⟨q0, q1⟩ := cellsQ_at L (j / 2) _ hq
      rcases Nat.mod_two_eq_zero_or_one j with h2 | h2
      · have e1 : j / 2 * 2 = j := by omega
        rw [e1] at q0 c0; rw [q0] at hu; rw [c0, ← Option.some.inj hu]
      · have e1 : j / 2 * 2 + 1 = j := by omega
        rw [Nat.add_assoc, e1] at c1; rw [e1] at q1; rw [q1] at hu; rw [c1, ← Option.some.inj hu]
    · unfold OwnV
      rw [cellsQ_app, List.length_append]
      exact h1

theorem OwnV.lies {w : World} {base n cap : Nat} {a : Option Addr} {L : List PairV} (h : OwnV w base (.slice a n cap) L) : ∀ (i : Nat) (p : PairV), L[i]? = some p → ∃ b off, a = some ⟨b, off, none⟩ ∧ base ≤ b := by
  intro i p hi
  have h' : w.ownsRow base 52 2 (.slice a n cap) L.length (cellsQ L) := h
  rcases h'.2 with ⟨_, h0⟩ | ⟨g, cap, cur, e, hb, _⟩
  · have : L = [] := List.eq_nil_of_length_eq_zero h0
    rw [this] at hi; simp at hi
  · injection e with e1 e2 e3
    exact ⟨g, 0, e1, hb⟩
theorem OwnV.row {w : World} {base n cap : Nat} {a : Option Addr} {L : List PairV} (h : OwnV w base (.slice a n cap) L) (hok : ∀ p, p ∈ L → okP p) : Pairs w a L := by
  obtain ⟨a', c', e, hP⟩ := h.pairs hok
  injection e with e1 e2 e3
  rw [e1]; exact hP
end Go.Proofs.YtcijflakldggaaaGreat
