/-
  Walks: layer 8's reference: a strip's Add, First, Last.
-/
import Derived.Test.YtnhhehinbobknaaStripC
import Derived.Test.YtnhhehinbobknaaPairW
import Derived.Test.YtnhhehinbobknaaRunsK
namespace Go.Proofs.Ytnhhehinbobknaa
set_option linter.unusedVariables false
set_option linter.unusedSimpArgs false
open Go.RowKit

theorem Two.block {w w' : World} {B : Nat} {x y : Value} (h : Two w B x y) (hb : w'.heap[B]? = w.heap[B]?) : Two w' B x y :=
  ⟨(World.cell?_of_block (a := ⟨B, 0, none⟩) hb).trans h.c0, (World.cell?_of_block (a := ⟨B, 1, none⟩) hb).trans h.c1, (World.frozen?_of_block (a := ⟨B, 0, none⟩) hb).trans h.f0, (World.frozen?_of_block (a := ⟨B, 1, none⟩) hb).trans h.f1⟩
theorem Two.put1 {w : World} {B : Nat} {x y : Value} (h : Two w B x y) (y' : Value) : Two (w.setCell ⟨B, 1, none⟩ y') B x y' := by
  refine ⟨?_, World.cell?_setCell_same _ _ _ h.c1, ?_, ?_⟩
  · rw [World.cell?_setCell_other _ _ _ _ (two_off (by omega))]; exact h.c0
  · rw [World.frozen?_setCell]; exact h.f0
  · rw [World.frozen?_setCell]; exact h.f1
/-- The reference's strip at block M, its row v. -/
def RefS (w : World) (M : Nat) (m : Int) (v : Value) (L : List PairV) : Prop := Two w M (.int .i64 m) v ∧ OwnP w (M + 1) v L
theorem RefS.lt {w : World} {M : Nat} {m : Int} {v : Value} {L : List PairV} (h : RefS w M m v L) : M < w.heap.size := h.1.lt
theorem RefS.call {w w' : World} {M : Nat} {m : Int} {v : Value} {L : List PairV} (h : RefS w M m v L) (hb : Below w.heap.size w w') : RefS w' M m v L := ⟨h.1.call hb, h.2.call hb⟩
theorem RefS.past {w w' : World} {M : Nat} {m : Int} {v : Value} {L : List PairV} {S : Nat → Prop} (h : RefS w M m v L) (hk : Keeps S w w') (h1 : ¬ S M) (h2 : ∀ g, v.ownBlock = some g → ¬ S g) : RefS w' M m v L :=
  ⟨h.1.block (hk.block M h.lt h1), hk.own h.2 h2⟩
theorem RefS.mk_new (w : World) (m : Int) (t : TypeId) : RefS (w.alloc (.cells #[.int .i64 m, .slice none 0 0] t)) w.heap.size m (.slice none 0 0) [] := ⟨Two.new _ _ _ _, OwnP.nil _ _⟩
theorem two_new9 (w : World) (x y : Value) (t : TypeId) : (w.alloc (.cells #[x, y] t)).cell? ⟨w.heap.size, 0, none⟩ = some x ∧ (w.alloc (.cells #[x, y] t)).cell? ⟨w.heap.size, 1, none⟩ = some y := ⟨(Two.new w x y t).c0, (Two.new w x y t).c1⟩
theorem RefS.row {w : World} {M : Nat} {m : Int} {v : Value} {A : List PairV} (h : RefS w M m v A) (ho : ∀ p, p ∈ A → okP p) : ∃ g cap, v = .slice g A.length cap ∧ Pairs w g A ∧ w.cell? ⟨M, 0, none⟩ = some (.int .i64 m) ∧ w.cell? ⟨M, 1, none⟩ = some (.slice g A.length cap) := by
  obtain ⟨g, cap, rfl, hp⟩ := h.2.pairs ho
  exact ⟨g, cap, rfl, hp, h.1.c0, h.1.c1⟩
theorem own_mono8 {w : World} {base base' : Nat} {v : Value} {L : List PairV} (h : OwnP w base v L) (hb : base' ≤ base) : OwnP w base' v L := World.ownsRow.mono h hb
theorem own_set8 {w : World} {base : Nat} {v : Value} {L : List PairV} (h : OwnP w base v L) {M o : Nat} (hM : M < base) (u : Value) : OwnP (w.setCell ⟨M, o, none⟩ u) base v L :=
  OwnP.other h (grown_setCell w M o u) (by
    cases hb : v.ownBlock with
    | none => exact Or.inl rfl
    | some g => exact Or.inr fun e => by have h1 := (h.lt g hb).1; have h2 := Option.some.inj e; omega)
theorem grown_of_below8 {w w' : World} {r : Option Nat} (h : Below w.heap.size w w') : w.grownBy w' r := ⟨h.os, h.tape, h.output, h.size, fun k hk _ => h.block k hk⟩
/-- What has become of the reference's strip. -/
def Done8 (w : World) (M : Nat) (m : Int) (v : Value) (L' : List PairV) (w' : World) : Prop :=
  (∃ v', RefS w' M m v' L' ∧ (v' = v ∨ ∀ g, v'.ownBlock = some g → w.heap.size ≤ g)) ∧ w.grownBy w' (some M)
theorem Done8.same {w w' : World} {M : Nat} {m : Int} {v : Value} {L : List PairV} (h : RefS w M m v L) (hb : Below w.heap.size w w') : Done8 w M m v L w' := ⟨⟨v, h.call hb, Or.inl rfl⟩, grown_of_below8 hb⟩
theorem Done8.put {w w1 : World} {M : Nat} {m : Int} {v v' : Value} {L' : List PairV} {L : List PairV} (h : RefS w M m v L) (hb : Below w.heap.size w w1) (ho : OwnP w1 w.heap.size v' L') : Done8 w M m v L' (w1.setCell ⟨M, 1, none⟩ v') :=
  ⟨⟨v', ⟨(h.1.call hb).put1 v', own_set8 (own_mono8 ho (by have := h.lt; omega)) (by omega) _⟩, Or.inr fun g hg => (ho.lt g hg).1⟩, grown_trans (grown_of_below8 hb) (grown_setCell _ _ _ _)⟩
theorem grown_own8 {a b c : World} {r r' : Option Nat} (h : a.grownBy b r) (k : b.grownBy c r') (hr : ∀ g, r' = some g → a.heap.size ≤ g) : a.grownBy c r :=
  ⟨k.os.trans h.os, k.tape.trans h.tape, k.output.trans h.output, Nat.le_trans h.size k.size, fun i hi hne => (k.block i (Nat.lt_of_lt_of_le hi h.size) (fun e => by have := hr i e.symm; omega)).trans (h.block i hi hne)⟩
theorem Done8.put2 {w w1 : World} {M : Nat} {m : Int} {v v' : Value} {L' : List PairV} {L : List PairV} (h : RefS w M m v L) (hb : Below w.heap.size w w1) (ho : OwnP w1 (w.heap.size + 1) v' L') (x y : Value) :
    Done8 w M m v L' (((w1.setCell ⟨M, 1, none⟩ v').setCell ⟨w.heap.size, 0, none⟩ x).setCell ⟨w.heap.size, 1, none⟩ y) := by
  have hM := h.lt
  refine ⟨⟨v', ⟨((h.1.call hb).put1 v').past (by omega) x y, own_mono8 (own_set8 (own_set8 (own_set8 ho (by omega) _) (by omega) _) (by omega) _) (by omega)⟩, Or.inr fun g hg => by have := (ho.lt g hg).1; omega⟩, ?_⟩
  exact grown_own8 (grown_own8 (grown_trans (grown_of_below8 hb) (grown_setCell _ _ _ _)) (grown_setCell _ w.heap.size 0 _) (fun g e => by have := Option.some.inj e; omega)) (grown_setCell _ w.heap.size 1 _) (fun g e => by have := Option.some.inj e; omega)

theorem RefS.new (w : World) (m : Int) : RefS (w.alloc (.cells #[.int .i64 m, .slice none 0 0] 45)) w.heap.size m (.slice none 0 0) [] := ⟨Two.new _ _ _ _, OwnP.nil _ _⟩

set_option maxRecDepth 100000 in
set_option maxHeartbeats 2000000 in
theorem rsadd_any (w : World) (M : Nat) (m : Int) (v : Value) (L : List PairV) (i c : Int) (h : RefS w M m v L) (hL : Stp m L) (hl : L.length ≤ 900) (hm : I64 m) (hi : I64 i) (hc : Word c) :
    Calls Try.prog 20 #[.pointer (some ⟨M, 0, none⟩), .int .i64 i, .int .u64 c] w fun e w' =>
      e = .returned (.int .i64 (stErr m L i c)) ∧ Done8 w M m v (stRow m L i c) w' := by
  have HR := Lib.hid h
  have hlt := h.lt
  obtain ⟨hv, ho⟩ := h
  obtain ⟨c0, c1, f0, f1⟩ := hv
  obtain ⟨A, cap, rfl, hP⟩ := ho.pairs hL.ok
  have HP := Lib.hid hP
  have HI := Lib.hid hi
  have HC := Lib.hid hc
  obtain ⟨w0, w1⟩ := hc
  obtain ⟨m0, m1⟩ := hm
  obtain ⟨n, hn⟩ : ∃ n, sumP L = n := ⟨_, rfl⟩
  have hs0 := sumP_pos (ok_pos hL.ok)
  have hs1 := hL.sum
  have hcn := hL.cnt i
  rw [hn] at hs0 hs1 hcn
  have HN := Lib.hid hn
  have hcases := stErr_cases (m := m) (L := L) (i := i) HC.out
  rw [hn] at hcases
  obtain ⟨q, hq⟩ : ∃ q, IntKind.u64.wrap (countP L i + c) = q := ⟨_, rfl⟩
  have HQ := Lib.hid hq
  have HCL : Hid (countP L i < 18446744073709551616) := Lib.hid (by omega)
  obtain ⟨R, hR⟩ : ∃ R, lowP L i ++ (midP i q ++ highP L i) = R := ⟨_, rfl⟩
  have hRl : R.length ≤ 2000 := by
    rw [← hR, List.length_append, List.length_append]
    have h1 : (midP i q).length ≤ 1 := by unfold midP; split <;> simp
    have h2 : (lowP L i).length ≤ L.length := List.length_filter_le _ _
    have h3 : (highP L i).length ≤ L.length := List.length_filter_le _ _
    omega
  have HRE := Lib.hid hR
  have HRA : Hid (c ≤ 9223372036854775807 - n → addP L i c = R) := Lib.hid fun hle => by
    have : q = countP L i + c := by rw [← hq, IntKind.wrap_u64]; omega
    rw [← hR, this]; rfl
  clear ho hP hL hi hn hq hR
  rcases hcases with ⟨rfl, e⟩ | ⟨h1, h2, e⟩ | hbig
  · have E := Lib.hid e
    have HRW : Hid (stRow m L i 0 = L) := Lib.hid (by unfold stRow; rw [e]; rfl)
    clear e
    go_enter Try.func20, Try.ntmps20
    go_wp2_with fail
    go_ret
    exact ⟨ret_int E.out.symm, by rw [HRW.out]; exact Done8.same HR.out (Below.refl _ _)⟩
  · have E := Lib.hid e
    have HRW : Hid (stRow m L i c = L) := Lib.hid (by unfold stRow; rw [e]; rfl)
    have c00 : (c == 0) = false := by simp; omega
    clear e
    go_enter Try.func20, Try.ntmps20
    go_wp2_with fail
    refine (radd_wrap _ A cap L i c q HP.out (by omega) HI.out HC.out HQ.out HCL.out).mono ?_
    rintro e w3 ⟨v3, rfl, ho3, hb3⟩
    rw [HRE.out] at ho3
    obtain ⟨A3, c3, rfl⟩ := ho3.form
    have g0 := cell_later hb3 c0
    have g1 := cell_later hb3 c1
    clear ho3
    go_wp2_with fail
    refine (rtotal_any _ A cap L n (HP.out.call hb3) (by omega) HN.out (by omega)).mono ?_
    rintro e w4 ⟨rfl, hb4⟩
    have hb5 := hb3.trans (hb4.mono hb3.size)
    have d0 := cell_later hb4 g0
    have d1 := cell_later hb4 g1
    clear hb3 hb4 g0 g1
    go_wp2_with fail
    go_ret
    exact ⟨ret_int E.out.symm, by rw [HRW.out]; exact Done8.same HR.out hb5⟩
  · have h1 : 0 < c := by rcases hbig with h | h <;> exact h.1
    have h2 : c ≤ 9223372036854775807 - n := by rcases hbig with h | h <;> exact h.2.1
    have h3 : ¬ 9223372036854775807 - n < c := by omega
    have c00 : (c == 0) = false := by simp; omega
    have hRA := HRA.out h2
    rw [hRA] at hbig
    have HA := Lib.hid hRA
    clear hRA
    have HRW : Hid (stErr m L i c = 0 → stRow m L i c = R) := Lib.hid (fun h => by unfold stRow; rw [if_pos h, HA.out])
    have HRX : Hid (¬ stErr m L i c = 0 → stRow m L i c = L) := Lib.hid (fun h => by unfold stRow; rw [if_neg h])
    rcases hbig with ⟨_, _, hf, e⟩ | ⟨_, _, hf, e⟩
    · have E := Lib.hid e
      clear e
      go_enter Try.func20, Try.ntmps20
      go_wp2_with fail
      refine (radd_wrap _ A cap L i c q HP.out (by omega) HI.out HC.out HQ.out HCL.out).mono ?_
      rintro e w3 ⟨v3, rfl, ho3, hb3⟩
      rw [HRE.out] at ho3
      obtain ⟨A3, c3, rfl⟩ := ho3.form
      have g0 := cell_later hb3 c0
      have g1 := cell_later hb3 c1
      clear ho3
      go_wp2_with fail
      refine (rtotal_any _ A cap L n (HP.out.call hb3) (by omega) HN.out (by omega)).mono ?_
      rintro e w4 ⟨rfl, hb4⟩
      have hb5 := hb3.trans (hb4.mono hb3.size)
      have d0 := cell_later hb4 g0
      have d1 := cell_later hb4 g1
      clear hb3 hb4 g0 g1
      go_wp2_with fail
      go_ret
      exact ⟨ret_int E.out.symm, by rw [HRX.out (by rw [E.out]; decide)]; exact Done8.same HR.out hb5⟩
    · have E := Lib.hid e
      have hf' : ¬ m < (R.length : Int) := by omega
      clear e
      go_enter Try.func20, Try.ntmps20
      go_wp2_with fail
      refine (radd_wrap _ A cap L i c q HP.out (by omega) HI.out HC.out HQ.out HCL.out).mono ?_
      rintro e w3 ⟨v3, rfl, ho3, hb3⟩
      rw [HRE.out] at ho3
      obtain ⟨A3, c3, rfl⟩ := ho3.form
      have g0 := cell_later hb3 c0
      have g1 := cell_later hb3 c1
      have HO3 := Lib.hid ho3
      clear ho3
      go_wp2_with fail
      refine (rtotal_any _ A cap L n (HP.out.call hb3) (by omega) HN.out (by omega)).mono ?_
      rintro e w4 ⟨rfl, hb4⟩
      have HO4 := Lib.hid (HO3.out.call hb4)
      have hb5 := hb3.trans (hb4.mono hb3.size)
      have d0 := cell_later hb4 g0
      have d1 := cell_later hb4 g1
      have d2 : w4.frozen? ⟨M, 1, none⟩ = false := ((bcell hb5).2 _ _ hlt).trans f1
      clear hb3 hb4 g0 g1
      go_wp2_with fail
      go_ret
      exact ⟨ret_int E.out.symm, by rw [HRW.out E.out]; exact Done8.put HR.out hb5 HO4.out⟩

theorem Pairs.shift {w : World} {b off : Nat} {L : List PairV} (h : Pairs w (some ⟨b, off, none⟩) L) (k : Nat) : Pairs w (some ⟨b, off + k * 2, none⟩) (L.drop k) :=
  ⟨fun p hp => h.ok p (List.mem_of_mem_drop hp), fun i p hi => by
    rw [List.getElem?_drop] at hi
    obtain ⟨b', off', e, hlt, c0, c1⟩ := h.at_ (k + i) p hi
    have := Addr.mk.inj (Option.some.inj e)
    obtain ⟨rfl, rfl, _⟩ := this
    refine ⟨b, off + k * 2, rfl, hlt, ?_, ?_⟩
    · rw [show off + k * 2 + i * 2 = off + (k + i) * 2 by omega]; exact c0
    · rw [show off + k * 2 + i * 2 + 1 = off + (k + i) * 2 + 1 by omega]; exact c1⟩

set_option maxRecDepth 100000 in
set_option maxHeartbeats 2000000 in
theorem rsfirst_any (w : World) (M : Nat) (m : Int) (v : Value) (L : List PairV) (h : RefS w M m v L) (hL : Stp m L) (hl : L.length ≤ 900) :
    Calls Try.prog 21 #[.pointer (some ⟨M, 0, none⟩)] w fun e w' =>
      e = .returned (.tuple #[.agg #[.int .i64 (firP L).1, .int .u64 (firP L).2], .bool (!L.isEmpty)]) ∧ Done8 w M m v L.tail w' := by
  have HR := Lib.hid h
  have hlt := h.lt
  obtain ⟨hv, ho⟩ := h
  obtain ⟨c0, c1, f0, f1⟩ := hv
  obtain ⟨A, cap, rfl, hP⟩ := ho.pairs hL.ok
  by_cases hne : L = []
  · subst hne
    have HF : Hid (firP [] = (0, 0) ∧ (!([] : List PairV).isEmpty) = false ∧ ([] : List PairV).tail = []) := Lib.hid ⟨rfl, rfl, rfl⟩
    rw [HF.out.1, HF.out.2.1, HF.out.2.2]
    have hB := (Below.refl w.heap.size w).alloc (Nat.le_refl _) (.cells #[.int .i64 0, .int .u64 0] 30)
    have HB := Lib.hid hB
    clear ho hP hB
    go_enter Try.func21, Try.ntmps21
    go_wp2_with fail
    refine bodyPost_ret (v := .tuple #[.agg #[.int .i64 0, .int .u64 0], .bool false]) (by simp [results, Try.results21, go_sem]) rfl ⟨rfl, ?_⟩
    exact Done8.same HR.out HB.out
  · obtain ⟨px, pc, hx0⟩ : ∃ px pc, L[0]? = some (px, pc) := by
      cases L with
      | nil => exact absurd rfl hne
      | cons p r => exact ⟨p.1, p.2, rfl⟩
    have hpos : 0 < L.length := by cases L with
      | nil => exact absurd rfl hne
      | cons p r => simp
    have kk : (0 : Int) < L.length := by omega
    have kk1 : ((L.length : Int) == 0) = false := by simp; omega
    obtain ⟨b0, off, rfl, hbl, d0, d1⟩ := hP.at_ 0 _ hx0
    obtain ⟨n, hn⟩ : ∃ n, L.length - 1 = n := ⟨_, rfl⟩
    have htl : L.drop 1 = L.tail := List.drop_one
    have HF : Hid (firP L = (px, pc) ∧ (!L.isEmpty) = true) := Lib.hid (by
      cases L with
      | nil => exact absurd rfl hne
      | cons p r => exact ⟨Option.some.inj hx0, rfl⟩)
    rw [HF.out.1, HF.out.2]
    have hT := hP.shift 1
    rw [htl] at hT
    have HT := Lib.hid hT
    have HTL : Hid (L.tail.length = n) := Lib.hid (by rw [List.length_tail]; exact hn)
    simp only [Nat.zero_mul, Nat.add_zero] at d0 d1
    have bW : Below w.heap.size w (((w.alloc (.cells #[.int .i64 0, .int .u64 0] 30)).alloc (.cells #[.int .i64 px, .int .u64 pc] 30)).alloc (.cells #[] 30)) := (((Below.refl _ _).alloc (Nat.le_refl _) _).alloc (by simp) _).alloc (by simp; omega) _
    have e1 := cell_later bW c1
    have HBW := Lib.hid bW
    have hO := World.ownsRow_made (base := w.heap.size + 1) (e := 30) (size := 2) ((w.alloc (.cells #[.int .i64 0, .int .u64 0] 30)).alloc (.cells #[.int .i64 px, .int .u64 pc] 30)) #[] 0 (by simp) (by decide) rfl
    rw [World.size_alloc, World.size_alloc] at hO
    have HO0 : Hid (OwnP (((w.alloc (.cells #[.int .i64 0, .int .u64 0] 30)).alloc (.cells #[.int .i64 px, .int .u64 pc] 30)).alloc (.cells #[] 30)) (w.heap.size + 1) (.slice (some ⟨w.heap.size + 1 + 1, 0, none⟩) 0 0) []) := Lib.hid hO
    have HT3 := Lib.hid (HT.out.call bW)
    have HS3 : Hid (w.heap.size + 1 ≤ (((w.alloc (.cells #[.int .i64 0, .int .u64 0] 30)).alloc (.cells #[.int .i64 px, .int .u64 pc] 30)).alloc (.cells #[] 30)).heap.size) := Lib.hid (by simp)
    have HC0 : Hid (∀ w', (((w.alloc (.cells #[.int .i64 0, .int .u64 0] 30)).alloc (.cells #[.int .i64 px, .int .u64 pc] 30)).alloc (.cells #[] 30)).grownBy w' (some (w.heap.size + 1 + 1)) →
        Below w.heap.size w w' ∧ w'.cell? ⟨w.heap.size + 1, 0, none⟩ = some (.int .i64 px) ∧ w'.cell? ⟨w.heap.size + 1, 1, none⟩ = some (.int .u64 pc) ∧ w'.frozen? ⟨M, 1, none⟩ = false ∧ Two w' w.heap.size (.int .i64 0) (.int .u64 0) ∧ (∀ u, ((w'.setCell ⟨M, 1, none⟩ u).setCell ⟨w.heap.size, 0, none⟩ (.int .i64 px)).cell? ⟨w.heap.size, 0, none⟩ = some (.int .i64 px)) ∧ (∀ u, (((w'.setCell ⟨M, 1, none⟩ u).setCell ⟨w.heap.size, 0, none⟩ (.int .i64 px)).setCell ⟨w.heap.size, 1, none⟩ (.int .u64 pc)).cell? ⟨w.heap.size, 1, none⟩ = some (.int .u64 pc))) := Lib.hid fun w' hg => by
      have hb := HBW.out.grown hg HBW.out.size (fun k hk => by have := Option.some.inj hk; omega)
      have hT2 : Two w' w.heap.size (.int .i64 0) (.int .u64 0) := (((Two.new w _ _ _).alloc _).alloc _).block (hg.block w.heap.size (by simp; omega) (fun e => by have := Option.some.inj e; omega))
      have hq : ∀ u o x, w'.cell? ⟨w.heap.size, o, none⟩ = some x → (w'.setCell ⟨M, 1, none⟩ u).cell? ⟨w.heap.size, o, none⟩ = some x := fun u o x h => by rw [World.cell?_setCell_other _ _ _ _ (two_far (by omega))]; exact h
      refine ⟨hb, ?_, ?_, ((bcell hb).2 _ _ hlt).trans f1, hT2, fun u => World.cell?_setCell_same _ _ _ (hq u 0 _ hT2.c0), fun u => World.cell?_setCell_same _ _ _ (u := .int .u64 0) (by rw [World.cell?_setCell_other _ _ _ _ (two_off (by omega))]; exact hq u 1 _ hT2.c1)⟩
      · rw [World.cell?_of_block (a := ⟨w.heap.size + 1, 0, none⟩) (hg.block (w.heap.size + 1) (by simp) (fun e => by have := Option.some.inj e; omega))]; go_simp
      · rw [World.cell?_of_block (a := ⟨w.heap.size + 1, 1, none⟩) (hg.block (w.heap.size + 1) (by simp) (fun e => by have := Option.some.inj e; omega))]; go_simp
    have hn9 : n ≤ 899 := by omega
    clear ho hP hT htl hne hx0 bW hO
    go_enter Try.func21, Try.ntmps21
    by_cases hc1 : cap = 1
    · have hn0 : n = 0 := by
        obtain ⟨_, h2⟩ := HR.out
        rcases h2.2 with ⟨e, _⟩ | ⟨g, cp, cur, e, _, _, hle, _⟩
        · injection e with e1; cases e1
        · injection e with _ _ e3; omega
      subst hc1 hn0
      have HT0 : Hid (L.tail = []) := Lib.hid (List.eq_nil_of_length_eq_zero HTL.out)
      go_wp2_with (at_builtin; refine wpList_append_pairs rfl (.tmp 19) (.tmp 24) rfl (w.heap.size + 1) _ [] (some ⟨b0, off, none⟩) 0 [] rfl HO0.out rfl ?c3 ?c1 ?c2 ?_)
      case c3 => exact ⟨fun p h => (by cases h), fun i p h => by simp at h⟩
      case c1 => simp
      case c2 => exact HS3.out
      intro v5 w5 hown5 hg5
      obtain ⟨hb5, g0, g1, g2, ⟨j0, j1, j2, j3⟩, q5, q6⟩ := HC0.out w5 hg5
      have h5 := cell_later hb5 c1
      obtain ⟨A5, k5, rfl⟩ := hown5.form
      have HO5 := Lib.hid hown5
      have HB5 := Lib.hid hb5
      have Q5 := Lib.hid q5
      have Q6 := Lib.hid q6
      clear hown5 hg5 hb5 q5 q6
      go_wp2_with fail
      refine bodyPost_ret (v := .tuple #[.agg #[.int .i64 px, .int .u64 pc], .bool true]) (by simp [results, Try.results21, go_sem, Q5.out, Q6.out]) rfl ⟨rfl, ?_⟩
      rw [show L.tail = [] from HT0.out]
      exact Done8.put2 HR.out HB5.out HO5.out _ _
    · go_wp2_with (at_builtin; refine wpList_append_pairs rfl (.tmp 19) (.tmp 24) rfl (w.heap.size + 1) _ [] (some ⟨b0, off + 2, none⟩) (cap - 1) L.tail rfl HO0.out ?c0 HT3.out ?c1 ?c2 ?_)
      case c0 => rw [HTL.out]; rfl
      case c1 => have := HTL.out; simp; omega
      case c2 => exact HS3.out
      intro v5 w5 hown5 hg5
      obtain ⟨hb5, g0, g1, g2, ⟨j0, j1, j2, j3⟩, q5, q6⟩ := HC0.out w5 hg5
      have h5 := cell_later hb5 c1
      obtain ⟨A5, k5, rfl⟩ := hown5.form
      have HO5 : Hid (OwnP w5 (w.heap.size + 1) (.slice A5 n k5) L.tail) := Lib.hid (by rw [← HTL.out]; exact hown5)
      have HB5 := Lib.hid hb5
      have Q5 := Lib.hid q5
      have Q6 := Lib.hid q6
      clear hown5 hg5 hb5 q5 q6
      go_wp2_with fail
      refine bodyPost_ret (v := .tuple #[.agg #[.int .i64 px, .int .u64 pc], .bool true]) (by simp [results, Try.results21, go_sem, Q5.out, Q6.out]) rfl ⟨rfl, ?_⟩
      exact Done8.put2 HR.out HB5.out HO5.out _ _
end Go.Proofs.Ytnhhehinbobknaa
