/-
  Walks: layer 7's reference: Add of a crate.
-/
import Derived.Test.YtggdmlldolaojaaRef7
import Derived.Deep.Onto
namespace Go.Proofs.Ytggdmlldolaojaa
set_option linter.unusedVariables false
set_option linter.unusedSimpArgs false
open Go.RowKit

def headP (R : List PairV) : Int := ((R.head?).map fun p => p.1).getD 0
def lastP (R : List PairV) : Int := ((R.getLast?).map fun p => p.1).getD 0
/-- How far apart a row's ends lie. -/
def spreadP (R : List PairV) : Int := lastP R - headP R
theorem good_ends {R : List PairV} (h : GoodP R) : headP R ≤ lastP R := by
  cases R with
  | nil => exact Int.le_refl _
  | cons p r =>
    cases hl : (p :: r).getLast? with
    | none => simp at hl
    | some z =>
      have hz := List.mem_of_getLast? hl
      unfold headP lastP
      rw [hl]
      show p.1 ≤ z.1
      rcases List.mem_cons.1 hz with rfl | hz
      · exact Int.le_refl _
      · have := (List.pairwise_cons.1 h.2).1 z hz; omega
theorem head_i64 {R : List PairV} (h : ∀ p, p ∈ R → okP p) : I64 (headP R) := by
  cases R with
  | nil => exact ⟨by decide, by decide⟩
  | cons p r => exact (h p (by simp)).1
theorem last_i64 {R : List PairV} (h : ∀ p, p ∈ R → okP p) : I64 (lastP R) := by
  unfold lastP
  cases hl : R.getLast? with
  | none => exact ⟨by decide, by decide⟩
  | some z => exact (h z (List.mem_of_getLast? hl)).1
/-- What adding to a crate tells; what is kept then. -/
def crErr (L : List PairV) (i c : Int) : Int := if c = 0 then 1 else if 9223372036854775807 - sumP L < c then 6 else if 4095 < spreadP (addP L i c) then 6 else 0
def crRow (L : List PairV) (i c : Int) : List PairV := if crErr L i c = 0 then addP L i c else L
theorem add_pos {L : List PairV} {i c : Int} (h0 : 0 ≤ countP L i) (hc : 0 < c) : 0 < (addP L i c).length := by
  unfold addP midP; rw [if_pos (by omega)]; simp; omega
theorem sum_part (L : List PairV) (i : Int) : sumP (lowP L i) + (countP L i + sumP (highP L i)) = sumP L := by
  induction L with
  | nil => rfl
  | cons p r ih =>
    rw [sumP_cons, count_cons]
    unfold lowP highP at *
    rw [List.filter_cons, List.filter_cons]
    rcases Int.lt_trichotomy p.1 i with h | h | h
    · have h2 : ¬ i < p.1 := by omega
      have h3 : ¬ p.1 = i := by omega
      simp only [h, h2, h3, decide_true, decide_false, if_true, Bool.false_eq_true, if_false, sumP_cons]; omega
    · have h1 : ¬ p.1 < i := by omega
      have h2 : ¬ i < p.1 := by omega
      simp only [h, h1, h2, Int.lt_irrefl, decide_false, Bool.false_eq_true, if_true, if_false]; omega
    · have h1 : ¬ p.1 < i := by omega
      have h3 : ¬ p.1 = i := by omega
      simp only [h, h1, h3, decide_true, decide_false, if_true, Bool.false_eq_true, if_false, sumP_cons]; omega
theorem add_sum {L : List PairV} {i c : Int} (h0 : 0 ≤ countP L i + c) : sumP (addP L i c) = sumP L + c := by
  unfold addP
  rw [sumP_app, sumP_app]
  have hm : sumP (midP i (countP L i + c)) = countP L i + c := by
    unfold midP
    split
    · rw [sumP_one]
    · rw [sumP_nil]; omega
  have := sum_part L i
  rw [hm]; omega
theorem count_le_sum {L : List PairV} (i : Int) (h : ∀ p, p ∈ L → 0 ≤ p.2) : 0 ≤ countP L i ∧ countP L i ≤ sumP L := by
  have h1 := sum_part L i
  have h2 : 0 ≤ sumP (lowP L i) := sumP_pos fun p hp => h p (lowP_mem hp).1
  have h3 : 0 ≤ sumP (highP L i) := sumP_pos fun p hp => h p (highP_mem hp).1
  have h4 : 0 ≤ countP L i := sumP_pos fun p hp => h p (List.mem_filter.1 hp).1
  omega
/-- A row that a crate can have. -/
structure Crt (L : List PairV) : Prop where
  good : GoodP L
  ok : ∀ p, p ∈ L → okP p
  sum : sumP L ≤ 9223372036854775807
  far : spreadP L ≤ 4095
theorem Crt.nil : Crt [] := ⟨good_nil, fun p h => (by cases h), by decide, by decide⟩
theorem Crt.cnt {L : List PairV} (h : Crt L) (i : Int) : 0 ≤ countP L i ∧ countP L i ≤ sumP L := count_le_sum i (ok_pos h.ok)
theorem crErr_cases {L : List PairV} {i c : Int} (hc : Word c) : (c = 0 ∧ crErr L i c = 1) ∨ (0 < c ∧ 9223372036854775807 - sumP L < c ∧ crErr L i c = 6) ∨
    (0 < c ∧ c ≤ 9223372036854775807 - sumP L ∧ 4095 < spreadP (addP L i c) ∧ crErr L i c = 6) ∨ (0 < c ∧ c ≤ 9223372036854775807 - sumP L ∧ spreadP (addP L i c) ≤ 4095 ∧ crErr L i c = 0) := by
  unfold Word at hc
  unfold crErr
  by_cases h0 : c = 0
  · exact Or.inl ⟨h0, by rw [if_pos h0]⟩
  · rw [if_neg h0]
    by_cases h1 : 9223372036854775807 - sumP L < c
    · exact Or.inr (Or.inl ⟨by omega, h1, by rw [if_pos h1]⟩)
    · rw [if_neg h1]
      by_cases h2 : 4095 < spreadP (addP L i c)
      · exact Or.inr (Or.inr (Or.inl ⟨by omega, by omega, h2, by rw [if_pos h2]⟩))
      · exact Or.inr (Or.inr (Or.inr ⟨by omega, by omega, by omega, by rw [if_neg h2]⟩))
theorem crt_add {L : List PairV} {i c : Int} (h : Crt L) (hi : I64 i) (hc : Word c) : Crt (crRow L i c) := by
  have hw := hc
  unfold Word at hw
  unfold crRow
  rcases crErr_cases (L := L) (i := i) hc with ⟨_, e⟩ | ⟨_, _, e⟩ | ⟨_, _, _, e⟩ | ⟨h1, h2, h3, e⟩
  · rw [if_neg (by omega)]; exact h
  · rw [if_neg (by omega)]; exact h
  · rw [if_neg (by omega)]; exact h
  · rw [if_pos e]
    have h4 := h.cnt i
    exact ⟨add_good h.good (by omega), add_ok h.ok hi (by omega), by rw [add_sum (by omega)]; omega, h3⟩
theorem crRow_len (L : List PairV) (i c : Int) : (crRow L i c).length ≤ L.length + 1 := by
  unfold crRow
  split
  · exact add_len L i c
  · omega

/-- The reference's crate at block M, its row v. -/
def RefC (w : World) (M : Nat) (v : Value) (L : List PairV) : Prop := w.heap[M]? = some (.cells #[v] 28 (0, 0)) ∧ OwnP w (M + 1) v L
theorem RefC.lt {w : World} {M : Nat} {v : Value} {L : List PairV} (h : RefC w M v L) : M < w.heap.size := lt_of_block h.1
theorem RefC.call {w w' : World} {M : Nat} {v : Value} {L : List PairV} (h : RefC w M v L) (hb : Below w.heap.size w w') : RefC w' M v L :=
  ⟨by rw [hb.block M (lt_of_block h.1)]; exact h.1, h.2.call hb⟩
theorem RefC.past {w w' : World} {M : Nat} {v : Value} {L : List PairV} {S : Nat → Prop} (h : RefC w M v L) (hk : Keeps S w w') (h1 : ¬ S M) (h2 : ∀ g, v.ownBlock = some g → ¬ S g) : RefC w' M v L :=
  ⟨by rw [hk.block M (lt_of_block h.1) h1]; exact h.1, hk.own h.2 h2⟩
theorem RefC.new (w : World) : RefC (w.alloc (.cells #[.slice none 0 0] 28)) w.heap.size (.slice none 0 0) [] := ⟨heap_alloc_new _ _, OwnP.nil _ _⟩
theorem own_mono7 {w : World} {base base' : Nat} {v : Value} {L : List PairV} (h : OwnP w base v L) (hb : base' ≤ base) : OwnP w base' v L := World.ownsRow.mono h hb
theorem own_set {w : World} {base : Nat} {v : Value} {L : List PairV} (h : OwnP w base v L) {M o : Nat} (hM : M < base) (u : Value) : OwnP (w.setCell ⟨M, o, none⟩ u) base v L :=
  OwnP.other h (grown_setCell w M o u) (by
    cases hb : v.ownBlock with
    | none => exact Or.inl rfl
    | some g => exact Or.inr fun e => by have h1 := (h.lt g hb).1; have h2 := Option.some.inj e; omega)
theorem grown_of_below {w w' : World} {r : Option Nat} (h : Below w.heap.size w w') : w.grownBy w' r := ⟨h.os, h.tape, h.output, h.size, fun k hk _ => h.block k hk⟩

set_option maxRecDepth 100000 in
set_option maxHeartbeats 2000000 in
theorem rcadd_any (w : World) (M : Nat) (v : Value) (L : List PairV) (i c : Int) (h : RefC w M v L) (hL : Crt L) (hl : L.length ≤ 900) (hi : I64 i) (hc : Word c) :
    Calls Try.prog 11 #[.pointer (some ⟨M, 0, none⟩), .int .i64 i, .int .u64 c] w fun e w' =>
      e = .returned (.int .i64 (crErr L i c)) ∧ (∃ v', RefC w' M v' (crRow L i c) ∧ (v' = v ∨ ∀ g, v'.ownBlock = some g → w.heap.size ≤ g)) ∧ w.grownBy w' (some M) := by
  have HR := Lib.hid h
  have hlt := h.lt
  obtain ⟨hv, ho⟩ := h
  have c0 := cell_of_one hv
  have f0 := free_of_one hv
  obtain ⟨A, cap, rfl, hP⟩ := ho.pairs hL.ok
  have HP := Lib.hid hP
  have HO := Lib.hid ho
  have HV := Lib.hid hv
  have HL := Lib.hid hL
  have HI := Lib.hid hi
  have HC := Lib.hid hc
  obtain ⟨w0, w1⟩ := hc
  obtain ⟨n, hn⟩ : ∃ n, sumP L = n := ⟨_, rfl⟩
  have hs0 := sumP_pos (ok_pos hL.ok)
  have hs1 := hL.sum
  rw [hn] at hs0 hs1
  have HN := Lib.hid hn
  have hcases := crErr_cases (L := L) (i := i) HC.out
  rw [hn] at hcases
  clear hv ho hP hL hi hn
  rcases hcases with ⟨rfl, e⟩ | ⟨h1, h2, e⟩ | hbig
  · have E := Lib.hid e
    have HRW : Hid (crRow L i 0 = L) := Lib.hid (by unfold crRow; rw [e]; rfl)
    clear e
    go_enter Try.func11, Try.ntmps11
    go_wp2_with fail
    go_ret
    exact ⟨ret_int E.out.symm, ⟨_, by rw [HRW.out]; exact HR.out, Or.inl rfl⟩, grown_refl _ _⟩
  · have E := Lib.hid e
    have HRW : Hid (crRow L i c = L) := Lib.hid (by unfold crRow; rw [e]; rfl)
    have c00 : (c == 0) = false := by simp; omega
    clear e
    go_enter Try.func11, Try.ntmps11
    go_wp2_with fail
    refine (rtotal_any _ A cap L n HP.out (by omega) HN.out (by omega)).mono ?_
    rintro e w2 ⟨rfl, hb2⟩
    go_wp2_with fail
    go_ret
    exact ⟨ret_int E.out.symm, ⟨_, by rw [HRW.out]; exact HR.out.call hb2, Or.inl rfl⟩, grown_of_below hb2⟩
  · have h1 : 0 < c := by rcases hbig with h | h <;> exact h.1
    have h2 : c ≤ 9223372036854775807 - n := by rcases hbig with h | h <;> exact h.2.1
    have h3 : ¬ 9223372036854775807 - n < c := by omega
    have c00 : (c == 0) = false := by simp; omega
    have hcn := HL.out.cnt i
    rw [HN.out] at hcn
    obtain ⟨m, hm⟩ : ∃ m, countP L i + c = m := ⟨_, rfl⟩
    have HM := Lib.hid hm
    have HML : Hid (m < 18446744073709551616) := Lib.hid (by omega)
    have hok2 := add_ok (L := L) (c := c) HL.out.ok HI.out (by omega)
    have hgood2 := add_good (L := L) (i := i) (c := c) HL.out.good (by omega)
    have hpos := add_pos (L := L) (i := i) (c := c) hcn.1 h1
    have hlen := add_len L i c
    have HK2 := Lib.hid hok2
    have hends := good_ends hgood2
    obtain ⟨ha0, ha1⟩ := head_i64 hok2
    obtain ⟨hz0, hz1⟩ := last_i64 hok2
    have HRW : Hid (crErr L i c = 0 → crRow L i c = addP L i c) := Lib.hid (fun h => by unfold crRow; rw [if_pos h])
    have HRX : Hid (¬ crErr L i c = 0 → crRow L i c = L) := Lib.hid (fun h => by unfold crRow; rw [if_neg h])
    have hhead : ∃ pc, (addP L i c)[0]? = some (headP (addP L i c), pc) := by
      cases hA : addP L i c with
      | nil => rw [hA] at hpos; cases hpos
      | cons p r => exact ⟨p.2, rfl⟩
    have hlast : ∃ pc, (addP L i c)[(addP L i c).length - 1]? = some (lastP (addP L i c), pc) := by
      cases hl' : (addP L i c).getLast? with
      | none => rw [List.getLast?_eq_none_iff] at hl'; rw [hl'] at hpos; cases hpos
      | some z =>
        refine ⟨z.2, ?_⟩
        unfold lastP
        rw [← List.getLast?_eq_getElem?, hl']; rfl
    obtain ⟨pc0, e0⟩ := hhead
    obtain ⟨pc1, e1⟩ := hlast
    have hsp : spreadP (addP L i c) = lastP (addP L i c) - headP (addP L i c) := rfl
    rw [hsp] at hbig
    obtain ⟨a, hha⟩ : ∃ a, headP (addP L i c) = a := ⟨_, rfl⟩
    obtain ⟨z, hzz⟩ : ∃ z, lastP (addP L i c) = z := ⟨_, rfl⟩
    rw [hha] at hends ha0 ha1 e0 hbig
    rw [hzz] at hends hz0 hz1 e1 hbig
    obtain ⟨R, hR⟩ : ∃ R, addP L i c = R := ⟨_, rfl⟩
    rw [hR] at hpos hlen e0 e1 hok2
    have HR2 := Lib.hid hR
    have HE0 := Lib.hid e0
    have HE1 := Lib.hid e1
    have HOK2 := Lib.hid hok2
    obtain ⟨u, hu⟩ : ∃ u, R.length - 1 = u := ⟨_, rfl⟩
    rw [hu] at HE1
    have u1 : IntKind.i64.wrap ((R.length : Int) - 1) = (u : Int) := by rw [IntKind.wrap_i64]; omega
    have u2 : (R.length : Int) - 1 = (u : Int) := by omega
    have u3 : (u : Int) < R.length := by omega
    have u4 : (0 : Int) ≤ (u : Int) := by omega
    have u5 : (0 : Int) < (R.length : Int) := by omega
    have u6 : IntKind.i64.wrap (u : Int) = (u : Int) := by rw [IntKind.wrap_i64]; omega
    have hdf : IntKind.u64.wrap (IntKind.u64.wrap z - IntKind.u64.wrap a) = z - a := by simp only [IntKind.wrap_u64]; omega
    clear hm hok2 hgood2 hsp hha hzz hR e0 e1
    rcases hbig with ⟨_, _, hf, e⟩ | ⟨_, _, hf, e⟩
    · have E := Lib.hid e
      have hf' : 4095 < z - a := hf
      clear e hf
      go_enter Try.func11, Try.ntmps11
      go_wp2_with fail
      refine (rtotal_any _ A cap L n HP.out (by omega) HN.out (by omega)).mono ?_
      rintro e w2 ⟨rfl, hb2⟩
      have g0 := cell_later hb2 c0
      go_wp2_with fail
      refine (radd_any _ A cap L i c m (HP.out.call hb2) (by omega) HI.out HC.out HM.out HML.out).mono ?_
      rintro e w3 ⟨v3, rfl, ho3, hb3⟩
      rw [HR2.out] at ho3
      have hb4 := hb2.trans (hb3.mono hb2.size)
      obtain ⟨A3, c3, rfl, hP3⟩ := ho3.pairs HOK2.out
      obtain ⟨b1, o1, ea, hlb, d0, d1⟩ := hP3.at_ 0 _ HE0.out
      subst ea
      obtain ⟨b2, o2, eb, hlb2, d2, d3⟩ := hP3.at_ u _ HE1.out
      obtain ⟨rfl, rfl⟩ : b1 = b2 ∧ o1 = o2 := by
        have := Option.some.inj eb
        exact ⟨(Addr.mk.inj this).1, (Addr.mk.inj this).2.1⟩
      simp only [Nat.zero_mul, Nat.add_zero] at d0 d2
      clear eb d1 d3 hP3 hb2 hb3 g0
      go_wp2_with fail
      go_quiet (fail)
      go_wp2_with fail
      go_ret
      exact ⟨ret_int E.out.symm, ⟨_, by rw [HRX.out (by rw [E.out]; decide)]; exact HR.out.call (below_drewM hb4 _), Or.inl rfl⟩, grown_of_below (below_drewM hb4 _)⟩
    · have E := Lib.hid e
      have hf' : ¬ 4095 < z - a := by omega
      clear e hf
      go_enter Try.func11, Try.ntmps11
      go_wp2_with fail
      refine (rtotal_any _ A cap L n HP.out (by omega) HN.out (by omega)).mono ?_
      rintro e w2 ⟨rfl, hb2⟩
      have g0 := cell_later hb2 c0
      go_wp2_with fail
      refine (radd_any _ A cap L i c m (HP.out.call hb2) (by omega) HI.out HC.out HM.out HML.out).mono ?_
      rintro e w3 ⟨v3, rfl, ho3, hb3⟩
      rw [HR2.out] at ho3
      have hb4 := hb2.trans (hb3.mono hb2.size)
      have HO3 := Lib.hid ho3
      have hv4 := (HR.out.call hb4)
      obtain ⟨A3, c3, rfl, hP3⟩ := ho3.pairs HOK2.out
      obtain ⟨b1, o1, ea, hlb, d0, d1⟩ := hP3.at_ 0 _ HE0.out
      subst ea
      obtain ⟨b2, o2, eb, hlb2, d2, d3⟩ := hP3.at_ u _ HE1.out
      obtain ⟨rfl, rfl⟩ : b1 = b2 ∧ o1 = o2 := by
        have := Option.some.inj eb
        exact ⟨(Addr.mk.inj this).1, (Addr.mk.inj this).2.1⟩
      simp only [Nat.zero_mul, Nat.add_zero] at d0 d2
      have hws := hb4.size
      have hw2s : w.heap.size ≤ w2.heap.size := hb2.size
      have g1 : w3.cell? ⟨M, 0, none⟩ = some (.slice A L.length cap) := cell_later hb4 c0
      have g2 : w3.frozen? ⟨M, 0, none⟩ = false := ((bcell hb4).2 _ _ hlt).trans f0
      clear eb d1 d3 hP3 hb2 hb3 g0 ho3 hv4
      go_wp2_with fail
      go_quiet (fail)
      go_wp2_with fail
      go_ret
      have hb5 := below_drewM hb4 nq
      have hM5 : (w3.drewN nq).heap[M]? = some (.cells #[.slice A L.length cap] 28 (0, 0)) := by rw [hb5.block M hlt]; exact HV.out
      have ho5 : OwnP (w3.drewN nq) (M + 1) (.slice (some ⟨b1, o1, none⟩) R.length c3) R := own_mono7 (HO3.out.call (below_drewM (Below.refl _ _) nq)) (by omega)
      refine ⟨ret_int E.out.symm, ⟨.slice (some ⟨b1, o1, none⟩) R.length c3, ?_, Or.inr fun g hg => Nat.le_trans hw2s (HO3.out.lt g hg).1⟩, grown_trans (grown_of_below hb5) (grown_setCell _ _ _ _)⟩
      rw [HRW.out E.out, HR2.out]
      exact ⟨one_setCell hM5, own_set ho5 (by omega) _⟩
end Go.Proofs.Ytggdmlldolaojaa
