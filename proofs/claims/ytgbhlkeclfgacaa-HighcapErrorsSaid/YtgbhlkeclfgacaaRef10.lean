/-
  Walks: layer 9's reference: end, keeps, Kept, Lost, Find.
-/
import Derived.Test.YtgbhlkeclfgacaaHighC
import Derived.Test.YtgbhlkeclfgacaaRef8
import Derived.Deep.QuietTactic
import Derived.BigQuiet
namespace Go.Proofs.Ytgbhlkeclfgacaa
set_option linter.unusedVariables false
set_option linter.unusedSimpArgs false
open Go.RowKit

set_option maxRecDepth 100000 in
set_option maxHeartbeats 1000000 in
theorem hrend_any (w : World) (M cap : Nat) (A : List PairV) (a : Option Addr) (e : Int) (hc : w.cell? ⟨M, 1, none⟩ = some (.slice a A.length cap)) (hP : Pairs w a A) (hne : A ≠ []) (hl : A.length ≤ 1000) (he : begP A = e) :
    Calls Try.prog 46 #[.pointer (some ⟨M, 0, none⟩)] w fun e' w' => e' = .returned (.int .i64 e) ∧ ∃ n, w' = w.drewN n := by
  have hpos : 0 < A.length := by cases A with
    | nil => exact absurd rfl hne
    | cons p r => simp
  obtain ⟨qx, qc, hx1⟩ : ∃ qx qc, A[0]? = some (qx, qc) := ⟨A[0].1, A[0].2, List.getElem?_eq_getElem hpos⟩
  have h2 : qx = e := by rw [← he]; unfold begP firP; rw [List.head?_eq_getElem?, hx1]; rfl
  subst h2
  obtain ⟨g, off, rfl, hbl, d0, _⟩ := hP.at_ 0 _ hx1
  simp only [Nat.zero_mul, Nat.add_zero] at d0
  obtain ⟨N, hN⟩ : ∃ N, A.length = N := ⟨_, rfl⟩
  rw [hN] at hc hpos hl
  have u3 : (0 : Int) < (N : Int) := by omega
  clear hP hne hN hx1 hbl he hl
  go_enter Try.func46, Try.ntmps46
  go_wp2_with fail
  go_ret
  exact ⟨rfl, 0, rfl⟩

set_option maxRecDepth 100000 in
set_option maxHeartbeats 1000000 in
theorem hrkeeps_any (w : World) (M cap : Nat) (m : Int) (A : List PairV) (a : Option Addr) (i : Int) (b : Bool) (h0 : w.cell? ⟨M, 0, none⟩ = some (.int .i64 m)) (hc : w.cell? ⟨M, 1, none⟩ = some (.slice a A.length cap)) (hP : Pairs w a A) (hne : A ≠ []) (hl : A.length ≤ 1000) (m0 : 0 ≤ m) (m1 : m ≤ 4096) (hi : I64 i) (hle : begP A ≤ i) (hb : decide (i - begP A < m) = b) :
    Calls Try.prog 35 #[.pointer (some ⟨M, 0, none⟩), .int .i64 i] w fun e' w' => e' = .returned (.bool b) ∧ ∃ n, w' = w.drewN n := by
  have he := beg_i64 hP.ok
  have HE : Hid (∀ n, Calls Try.prog 46 #[.pointer (some ⟨M, 0, none⟩)] (w.drewN n) fun e' w' => e' = .returned (.int .i64 (begP A)) ∧ ∃ k, w' = (w.drewN n).drewN k) := Lib.hid (fun n => by
    have hb := below_drewN (Below.refl w.heap.size w) n
    exact hrend_any _ M cap A a _ (cell_later hb hc) (hP.call hb) hne hl rfl)
  obtain ⟨e, hee⟩ : ∃ e, begP A = e := ⟨_, rfl⟩
  rw [hee] at he hle hb HE
  obtain ⟨e0, e1⟩ := he
  obtain ⟨i0, i1⟩ := hi
  obtain ⟨ue, hue⟩ : ∃ u, IntKind.u64.wrap e = u := ⟨_, rfl⟩
  obtain ⟨ui, hui⟩ : ∃ u, IntKind.u64.wrap i = u := ⟨_, rfl⟩
  have hsub : IntKind.u64.wrap (ui - ue) = i - e := by rw [← hue, ← hui, IntKind.wrap_u64, IntKind.wrap_u64, IntKind.wrap_u64]; omega
  have hm : IntKind.u64.wrap m = m := by rw [IntKind.wrap_u64]; omega
  have HB := Lib.hid hb
  clear hc hP hne hl hee hb
  go_enter Try.func35, Try.ntmps35
  go_wp2_with fail
  go_quiet ((go_at_call 46; exact Calls.quiet_of (HE.out _)))
  go_wp2_with fail
  go_ret
  exact ⟨by rw [← HB.out]; rfl, nq, rfl⟩

set_option maxRecDepth 100000 in
set_option maxHeartbeats 2000000 in
theorem hrkept_of (w : World) (M : Nat) (m : Int) (a : Option Addr) (cap : Nat) (A : List PairV) (hP : Pairs w a A) (c0 : w.cell? ⟨M, 0, none⟩ = some (.int .i64 m)) (c1 : w.cell? ⟨M, 1, none⟩ = some (.slice a A.length cap)) (hg : GoodP A) (hl : A.length ≤ 1000) (m0 : 0 ≤ m) (m1 : m ≤ 4096) :
    Calls Try.prog 13 #[.pointer (some ⟨M, 0, none⟩)] w fun e' w' => ∃ u, e' = .returned u ∧ OwnP w' w.heap.size u (keepH m A) ∧ Below w.heap.size w w' := by
  have ho := hP.ok
  have HI := Lib.hid hP
  have HG := Lib.hid hg
  have HC0 := Lib.hid c0
  have HC1 := Lib.hid c1
  have HL := Lib.hid hl
  obtain ⟨x, hx⟩ : ∃ x, begP A + m = x := ⟨_, rfl⟩
  have HX := Lib.hid hx
  have HKP : Hid (keepH m A = lowP A x) := Lib.hid (by unfold keepH; rw [hx])
  rw [HKP.out]
  clear hP hg ho c0 hx
  go_enter Try.func13, Try.ntmps13
  go_wp2_with fail
  go_loopw [3, 11] (fun s j wr => ∃ (k : Nat), k ≤ A.length ∧ j = .int .i64 k ∧ OwnP wr w.heap.size s (lowP (A.take k) x) ∧ Below w.heap.size w wr) (fun _ j _ => A.length - (intOf j).toNat)
  case atStart => exact ⟨0, Nat.zero_le _, rfl, OwnP.nil _ _, Below.refl _ _⟩
  case round =>
    clear c1
    obtain ⟨k, hk, rfl, hown, hb2⟩ := hrel
    have hbs := hb2.size
    by_cases hlt : k < A.length
    · have kk : (k : Int) < A.length := by omega
      have hxk : A[k]? = some A[k] := List.getElem?_eq_getElem hlt
      generalize hit : A[k] = p at *
      obtain ⟨px, pc⟩ := p
      obtain ⟨b0, off, rfl, hbl, c0, c1⟩ := (HI.out.call hb2).at_ k _ hxk
      simp only at c0 c1
      have HS := Lib.hid (low_step hxk x)
      have HLL := Lib.hid (low_len A x k)
      have hok := HI.out.ok _ (List.mem_of_getElem? hxk)
      have hle := beg_le HG.out _ (List.mem_of_getElem? hxk)
      have hne : A ≠ [] := by intro h; rw [h] at hlt; exact absurd hlt (Nat.not_lt_zero _)
      simp only at HS hle
      have hba : Below w.heap.size w (wr.alloc (.cells #[.int .i64 px, .int .u64 pc] 34)) := hb2.alloc hbs _
      have HKS : Hid (∀ b, decide (px < x) = b → Calls Try.prog 35 #[.pointer (some ⟨M, 0, none⟩), .int .i64 px] (wr.alloc (.cells #[.int .i64 px, .int .u64 pc] 34)) fun e' w' => e' = .returned (.bool b) ∧ ∃ n, w' = (wr.alloc (.cells #[.int .i64 px, .int .u64 pc] 34)).drewN n) := Lib.hid (fun b hb =>
        hrkeeps_any _ M cap m A _ px b (cell_later hba HC0.out) (cell_later hba HC1.out) (HI.out.call hba) hne HL.out m0 m1 hok.1 hle (by
          rw [← hb]; have := HX.out
          by_cases h : px < x
          · rw [decide_eq_true h, decide_eq_true (by omega)]
          · rw [decide_eq_false h, decide_eq_false (by omega)]))
      obtain ⟨⟨o1, o2⟩, o3, o4⟩ := hok
      have HBA := Lib.hid hba
      clear hxk hit hba hle hne
      by_cases hc : px < x
      · rw [if_pos hc] at HS
        have HK2 := Lib.hid (HKS.out true (decide_eq_true hc))
        obtain ⟨vA, vk, rfl⟩ := hown.form
        have HO := Lib.hid hown
        clear hown HKS
        go_wp2_with fail
        refine HK2.out.mono ?_
        rintro e' w2 ⟨rfl, n, rfl⟩
        have hb3 : Below w.heap.size w ((wr.alloc (.cells #[.int .i64 px, .int .u64 pc] 34)).drewN n) := below_drewN HBA.out n
        have hO3 : OwnP ((wr.alloc (.cells #[.int .i64 px, .int .u64 pc] 34)).drewN n) w.heap.size (.slice vA (lowP (A.take k) x).length vk) (lowP (A.take k) x) := (HO.out.alloc _).call (below_drewN (Below.refl _ _) n)
        obtain ⟨q0, q1⟩ : ((wr.alloc (.cells #[.int .i64 px, .int .u64 pc] 34)).drewN n).cell? ⟨wr.heap.size, 0, none⟩ = some (.int .i64 px) ∧ ((wr.alloc (.cells #[.int .i64 px, .int .u64 pc] 34)).drewN n).cell? ⟨wr.heap.size, 1, none⟩ = some (.int .u64 pc) := by
          have h := two_new9 wr (.int .i64 px) (.int .u64 pc) 34
          exact ⟨cell_later (below_drewN (Below.refl _ _) n) h.1, cell_later (below_drewN (Below.refl _ _) n) h.2⟩
        have hsz : ((wr.alloc (.cells #[.int .i64 px, .int .u64 pc] 34)).drewN n).heap.size = wr.heap.size + 1 := by
          show (wr.alloc _).heap.size = _; simp
        generalize (wr.alloc (.cells #[.int .i64 px, .int .u64 pc] 34)).drewN n = wY at *
        have HO3 := Lib.hid hO3
        have HB3 := Lib.hid hb3
        have HSZ := Lib.hid hsz
        clear hO3 hb3 hsz
        go_wp2_with (at_builtin; refine wpList_append_pair rfl _ _ rfl w.heap.size _ _ wY.heap.size (px, pc) rfl (HO3.out.alloc _) rfl ?c1 ?c2 ?c3 ?c4 ?_)
        case c3 => have := HLL.out; omega
        case c4 => have := HB3.out.size; simp; omega
        intro v' w1 hown' hgrow
        have hb4 := OwnP.below (HO3.out.alloc _) (HB3.out.alloc HB3.out.size _) hgrow (by have := HB3.out.size; simp; omega)
        rw [← HS.out] at hown'
        clear hgrow
        go_wp2_with fail
        go_roundw
        case rel => exact ⟨k + 1, by omega, by go_num, hown', hb4⟩
        case measure => simp [intOf]; omega
      · rw [if_neg hc, List.append_nil] at HS
        have HK2 := Lib.hid (HKS.out false (decide_eq_false hc))
        rw [← HS.out] at hown
        have HO := Lib.hid hown
        clear hown HKS
        go_wp2_with fail
        refine HK2.out.mono ?_
        rintro e' w2 ⟨rfl, n, rfl⟩
        go_wp2_with fail
        go_roundw
        case rel => exact ⟨k + 1, by omega, by go_num, (HO.out.alloc _).call (below_drewN (Below.refl _ _) n), below_drewN HBA.out n⟩
        case measure => simp [intOf]; omega
    · obtain rfl : k = A.length := by omega
      rw [List.take_length] at hown
      have kk : ¬ (A.length : Int) < A.length := by omega
      obtain ⟨vA, vk, rfl⟩ := hown.form
      have HO := Lib.hid hown
      clear hown
      go_wp2_with fail
      go_ret
      exact ⟨_, rfl, HO.out, hb2⟩

set_option maxRecDepth 100000 in
set_option maxHeartbeats 2000000 in
theorem hrlost_of (w : World) (M : Nat) (m : Int) (a : Option Addr) (cap : Nat) (A : List PairV) (t : Int) (hP : Pairs w a A) (c0 : w.cell? ⟨M, 0, none⟩ = some (.int .i64 m)) (c1 : w.cell? ⟨M, 1, none⟩ = some (.slice a A.length cap)) (hg : GoodP A) (hl : A.length ≤ 1000) (m0 : 0 ≤ m) (m1 : m ≤ 4096) (hs : sumP A ≤ 9223372036854775807) (ht : sumP A - sumP (keepH m A) = t) :
    Calls Try.prog 17 #[.pointer (some ⟨M, 0, none⟩)] w fun e' w' => e' = .returned (.int .u64 t) ∧ Below w.heap.size w w' := by
  have ho := hP.ok
  have HI := Lib.hid hP
  have HG := Lib.hid hg
  have HC0 := Lib.hid c0
  have HC1 := Lib.hid c1
  have HL := Lib.hid hl
  obtain ⟨x, hx⟩ : ∃ x, begP A + m = x := ⟨_, rfl⟩
  have HX := Lib.hid hx
  have HKP : Hid (sumP A - sumP (lowP A x) = t) := Lib.hid (by rw [← ht]; unfold keepH; rw [hx])
  have HTK : Hid (∀ k, 0 ≤ sumP (A.take k) - sumP (lowP (A.take k) x) ∧ sumP (A.take k) - sumP (lowP (A.take k) x) ≤ 9223372036854775807) := Lib.hid (fun k => by
    have h1 := sumP_take (L := A) k (ok_pos ho)
    have h2 := sumP_filter (fun p : PairV => decide (p.1 < x)) (L := A.take k) (fun p hp => ok_pos ho p (List.mem_of_mem_take hp))
    have h3 : sumP (lowP (A.take k) x) = sumP ((A.take k).filter fun p : PairV => decide (p.1 < x)) := rfl
    omega)
  clear hP hg ho c0 hx ht
  go_enter Try.func17, Try.ntmps17
  go_wp2_with fail
  go_loopw [3, 11] (fun s j wr => ∃ (k : Nat) (n : Int), k ≤ A.length ∧ j = .int .i64 k ∧ s = .int .u64 n ∧ n = sumP (A.take k) - sumP (lowP (A.take k) x) ∧ Below w.heap.size w wr) (fun _ j _ => A.length - (intOf j).toNat)
  case atStart => exact ⟨0, 0, Nat.zero_le _, rfl, rfl, rfl, Below.refl _ _⟩
  case round =>
    clear c1
    obtain ⟨k, n, hk, rfl, rfl, hn, hb2⟩ := hrel
    have hbs := hb2.size
    have HN := Lib.hid hn
    by_cases hlt : k < A.length
    · have kk : (k : Int) < A.length := by omega
      have hxk : A[k]? = some A[k] := List.getElem?_eq_getElem hlt
      generalize hit : A[k] = p at *
      obtain ⟨px, pc⟩ := p
      obtain ⟨b0, off, rfl, hbl, c0, c1⟩ := (HI.out.call hb2).at_ k _ hxk
      simp only at c0 c1
      have HS := Lib.hid (low_step hxk x)
      have HSS : Hid (sumP (A.take (k + 1)) = sumP (A.take k) + pc) := Lib.hid (by rw [take_snocP hxk, sumP_app, sumP_one])
      have hok := HI.out.ok _ (List.mem_of_getElem? hxk)
      have hle := beg_le HG.out _ (List.mem_of_getElem? hxk)
      have hne : A ≠ [] := by intro h; rw [h] at hlt; exact absurd hlt (Nat.not_lt_zero _)
      simp only at HS hle
      have hba : Below w.heap.size w (wr.alloc (.cells #[.int .i64 px, .int .u64 pc] 34)) := hb2.alloc hbs _
      have HKS : Hid (∀ b, decide (px < x) = b → Calls Try.prog 35 #[.pointer (some ⟨M, 0, none⟩), .int .i64 px] (wr.alloc (.cells #[.int .i64 px, .int .u64 pc] 34)) fun e' w' => e' = .returned (.bool b) ∧ ∃ n, w' = (wr.alloc (.cells #[.int .i64 px, .int .u64 pc] 34)).drewN n) := Lib.hid (fun b hb =>
        hrkeeps_any _ M cap m A _ px b (cell_later hba HC0.out) (cell_later hba HC1.out) (HI.out.call hba) hne HL.out m0 m1 hok.1 hle (by
          rw [← hb]; have := HX.out
          by_cases h : px < x
          · rw [decide_eq_true h, decide_eq_true (by omega)]
          · rw [decide_eq_false h, decide_eq_false (by omega)]))
      obtain ⟨⟨o1, o2⟩, o3, o4⟩ := hok
      simp only at o3 o4
      have HBA := Lib.hid hba
      have t0 := HTK.out k
      have t1 := HTK.out (k + 1)
      have hnn : n = sumP (A.take k) - sumP (lowP (A.take k) x) := HN.out
      clear hxk hit hba hle hne hn
      by_cases hc : px < x
      · rw [if_pos hc] at HS
        have HK2 := Lib.hid (HKS.out true (decide_eq_true hc))
        have HE : Hid (n = sumP (A.take (k + 1)) - sumP (lowP (A.take (k + 1)) x)) := Lib.hid (by rw [HS.out, HSS.out, sumP_app, sumP_one]; omega)
        clear HKS t0 t1 hnn
        go_wp2_with fail
        refine HK2.out.mono ?_
        rintro e' w2 ⟨rfl, d, rfl⟩
        go_wp2_with fail
        go_roundw
        case rel => exact ⟨k + 1, n, by omega, by go_num, rfl, HE.out, below_drewN HBA.out d⟩
        case measure => simp [intOf]; omega
      · rw [if_neg hc, List.append_nil] at HS
        have HK2 := Lib.hid (HKS.out false (decide_eq_false hc))
        rw [HS.out, HSS.out] at t1
        have hw : IntKind.u64.wrap (n + pc) = n + pc := by rw [IntKind.wrap_u64]; omega
        have HE : Hid (n + pc = sumP (A.take (k + 1)) - sumP (lowP (A.take (k + 1)) x)) := Lib.hid (by rw [HS.out, HSS.out]; omega)
        have q0 : ((wr.alloc (.cells #[.int .i64 px, .int .u64 pc] 34))).cell? ⟨wr.heap.size, 1, none⟩ = some (.int .u64 pc) := (two_new9 wr _ _ _).2
        clear HKS t0 t1 hnn
        go_wp2_with fail
        refine HK2.out.mono ?_
        rintro e' w2 ⟨rfl, d, rfl⟩
        have q1 := cell_later (below_drewN (Below.refl (wr.alloc (.cells #[.int .i64 px, .int .u64 pc] 34)).heap.size (wr.alloc (.cells #[.int .i64 px, .int .u64 pc] 34))) d) q0
        go_wp2_with fail
        go_roundw
        case rel => exact ⟨k + 1, n + pc, by omega, by go_num, by first | rfl | rw [hw], HE.out, below_drewN HBA.out d⟩
        case measure => simp [intOf]; omega
    · obtain rfl : k = A.length := by omega
      have kk : ¬ (A.length : Int) < A.length := by omega
      have HE : Hid (n = t) := Lib.hid (by rw [HN.out, List.take_length]; exact HKP.out)
      clear hn
      go_wp2_with fail
      go_ret
      exact ⟨ret_int HE.out, hb2⟩

theorem hrkept_any (w : World) (M : Nat) (m : Int) (v : Value) (A : List PairV) (h : RefS w M m v A) (hg : GoodP A) (ho : ∀ p, p ∈ A → okP p) (hl : A.length ≤ 1000) (m0 : 0 ≤ m) (m1 : m ≤ 4096) :
    Calls Try.prog 13 #[.pointer (some ⟨M, 0, none⟩)] w fun e' w' => ∃ u, e' = .returned u ∧ OwnP w' w.heap.size u (keepH m A) ∧ Below w.heap.size w w' := by
  obtain ⟨a, cap, rfl, hP, c0, c1⟩ := h.row ho
  exact hrkept_of w M m a cap A hP c0 c1 hg hl m0 m1
theorem hrlost_any (w : World) (M : Nat) (m : Int) (v : Value) (A : List PairV) (t : Int) (h : RefS w M m v A) (hg : GoodP A) (ho : ∀ p, p ∈ A → okP p) (hl : A.length ≤ 1000) (m0 : 0 ≤ m) (m1 : m ≤ 4096) (hs : sumP A ≤ 9223372036854775807) (ht : sumP A - sumP (keepH m A) = t) :
    Calls Try.prog 17 #[.pointer (some ⟨M, 0, none⟩)] w fun e' w' => e' = .returned (.int .u64 t) ∧ Below w.heap.size w w' := by
  obtain ⟨a, cap, rfl, hP, c0, c1⟩ := h.row ho
  exact hrlost_of w M m a cap A t hP c0 c1 hg hl m0 m1 hs ht

set_option maxRecDepth 100000 in
set_option maxHeartbeats 2000000 in
theorem hrlfind_any (w : World) (M : Nat) (m : Int) (v : Value) (A : List PairV) (t x : Int) (fb : Bool) (h : RefS w M m v A) (hg : GoodP A) (ho : ∀ p, p ∈ A → okP p) (hl : A.length ≤ 1000) (m0 : 0 ≤ m) (m1 : m ≤ 4096) (hs : sumP A < 18446744073709551616) (ht : Word t)
    (hx : (match findP A t with | none => none | some x => if x - begP A < m then some x else none).getD 0 = x) (hb : (match findP A t with | none => none | some x => if x - begP A < m then some x else none).isSome = fb) :
    Calls Try.prog 25 #[.pointer (some ⟨M, 0, none⟩), .int .u64 t] w fun e' w' => e' = .returned (.tuple #[.int .i64 x, .bool fb]) ∧ Below w.heap.size w w' := by
  obtain ⟨a, cap, rfl, hP, c0, c1⟩ := h.row ho
  have HC0 := Lib.hid c0
  have HC1 := Lib.hid c1
  have HI := Lib.hid hP
  have HL := Lib.hid hl
  have hseek : ∀ (L : List PairV) (s x : Int), seekP t s L = some x → ∃ p, p ∈ L ∧ p.1 = x := by
    intro L
    induction L with
    | nil => intro s x h; cases h
    | cons p r ih =>
      intro s x h
      rw [seek_cons] at h
      split at h
      · exact ⟨p, by simp, Option.some.inj h⟩
      · obtain ⟨q, hq, e⟩ := ih _ x h
        exact ⟨q, List.mem_cons_of_mem _ hq, e⟩
  cases hf : findP A t with
  | none =>
    rw [hf] at hx hb
    have h1 : x = 0 := hx.symm
    have h2 : fb = false := hb.symm
    subst h1 h2
    have HF := Lib.hid (rfind_any w a cap A t 0 false hP hl ht hs (by rw [hf]; rfl) (by rw [hf]; rfl))
    clear h hP hg ho hl hs hx hb hf hseek c0
    go_enter Try.func25, Try.ntmps25
    go_wp2_with fail
    refine HF.out.mono ?_
    rintro e' w2 ⟨rfl, b2⟩
    go_wp2_with fail
    go_ret2
    exact ⟨rfl, b2⟩
  | some y =>
    rw [hf] at hx hb
    obtain ⟨p, hp, hpy⟩ : ∃ p, p ∈ A ∧ p.1 = y := by
      unfold findP at hf
      split at hf
      · exact hseek A 0 y hf
      · cases hf
    have hne : A ≠ [] := by rintro rfl; cases hp
    have hyi : I64 y := by rw [← hpy]; exact (ho p hp).1
    have hyl : begP A ≤ y := by rw [← hpy]; exact beg_le hg p hp
    have HF := Lib.hid (rfind_any w a cap A t y true hP hl ht hs (by rw [hf]; rfl) (by rw [hf]; rfl))
    have HK : Hid (∀ w', Below w.heap.size w w' → ∀ b, decide (y - begP A < m) = b → Calls Try.prog 35 #[.pointer (some ⟨M, 0, none⟩), .int .i64 y] w' fun e' w'' => e' = .returned (.bool b) ∧ ∃ n, w'' = w'.drewN n) := Lib.hid (fun w' hw b hb =>
      hrkeeps_any w' M cap m A _ y b (cell_later hw HC0.out) (cell_later hw HC1.out) (HI.out.call hw) hne HL.out m0 m1 hyi hyl hb)
    by_cases hc : y - begP A < m
    · have h1 : x = y := by rw [← hx]; show (if y - begP A < m then some y else none).getD 0 = y; rw [if_pos hc]; rfl
      have h2 : fb = true := by rw [← hb]; show (if y - begP A < m then some y else none).isSome = true; rw [if_pos hc]; rfl
      subst h1 h2
      have HK2 := Lib.hid (fun w' hw => HK.out w' hw true (decide_eq_true hc))
      clear h hP hg ho hl hs hx hb hf hseek c0 hp hpy hne hyi hyl HK hc
      go_enter Try.func25, Try.ntmps25
      go_wp2_with fail
      refine HF.out.mono ?_
      rintro e' w2 ⟨rfl, b2⟩
      go_wp2_with fail
      refine (HK2.out _ b2).mono ?_
      rintro e' w3 ⟨rfl, n, rfl⟩
      go_wp2_with fail
      go_ret2
      exact ⟨rfl, below_drewN b2 n⟩
    · have h1 : x = 0 := by rw [← hx]; show (if y - begP A < m then some y else none).getD 0 = 0; rw [if_neg hc]; rfl
      have h2 : fb = false := by rw [← hb]; show (if y - begP A < m then some y else none).isSome = false; rw [if_neg hc]; rfl
      subst h1 h2
      have HK2 := Lib.hid (fun w' hw => HK.out w' hw false (decide_eq_false hc))
      clear h hP hg ho hl hs hx hb hf hseek c0 hp hpy hne hyi hyl HK hc
      go_enter Try.func25, Try.ntmps25
      go_wp2_with fail
      refine HF.out.mono ?_
      rintro e' w2 ⟨rfl, b2⟩
      go_wp2_with fail
      refine (HK2.out _ b2).mono ?_
      rintro e' w3 ⟨rfl, n, rfl⟩
      go_wp2_with fail
      go_ret2
      exact ⟨rfl, below_drewN b2 n⟩
end Go.Proofs.Ytgbhlkeclfgacaa
