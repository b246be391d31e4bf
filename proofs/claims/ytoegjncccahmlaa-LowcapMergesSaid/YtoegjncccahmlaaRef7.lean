/-
  Walks: layer 7's reference: Total, Find, Below of a row.
-/
import Derived.Test.YtoegjncccahmlaaPairS
import Derived.Test.YtoegjncccahmlaaObj
namespace Go.Proofs.Ytoegjncccahmlaa
set_option linter.unusedVariables false
set_option linter.unusedSimpArgs false
open Go.RowKit

theorem sum_step' {L : List PairV} {k : Nat} {p : PairV} (h : L[k]? = some p) : sumP (L.take (k + 1)) = sumP (L.take k) + p.2 := by rw [take_snocP h, sumP_app, sumP_one]

set_option maxRecDepth 100000 in
set_option maxHeartbeats 1000000 in
theorem rtotal_any (w : World) (A : Option Addr) (cap : Nat) (L : List PairV) (n : Int) (h : Pairs w A L) (hl : L.length ≤ 1000) (hn : sumP L = n) (hb : n < 18446744073709551616) :
    Calls Try.prog 19 #[.slice A L.length cap] w fun e w' => e = .returned (.int .u64 n) ∧ Below w.heap.size w w' := by
  have HI := Lib.hid h
  have HN := Lib.hid hn
  have HP := Lib.hid (fun k => sumP_take (L := L) k (ok_pos h.ok))
  clear h hn
  go_enter Try.func19, Try.ntmps19
  go_wp2_with fail
  go_loopw [3, 8] (fun s j wr => ∃ (k : Nat) (m : Int), k ≤ L.length ∧ j = .int .i64 k ∧ s = .int .u64 m ∧ m = sumP (L.take k) ∧ Below w.heap.size w wr) (fun _ j _ => L.length - (intOf j).toNat)
  case atStart => exact ⟨0, 0, Nat.zero_le _, rfl, rfl, rfl, Below.refl _ _⟩
  case round =>
    obtain ⟨k, m, hk, rfl, rfl, hm, hb2⟩ := hrel
    have HM := Lib.hid hm
    by_cases hlt : k < L.length
    · have kk : (k : Int) < L.length := by omega
      have hxk : L[k]? = some L[k] := List.getElem?_eq_getElem hlt
      generalize hit : L[k] = p at *
      obtain ⟨px, pc⟩ := p
      obtain ⟨b, off, rfl, hbl, c0, c1⟩ := (HI.out.call hb2).at_ k _ hxk
      have HS := Lib.hid (sum_step' hxk)
      have hok := HI.out.ok _ (List.mem_of_getElem? hxk)
      have p1 := HP.out (k + 1)
      have p0 := HP.out k
      rw [HN.out] at p1
      rw [HS.out] at p1
      rw [← hm] at p0 p1
      have hbs := hb2.size
      obtain ⟨⟨o1, o2⟩, o3, o4⟩ := hok
      simp only at c0 c1 o1 o2 o3 o4 p1 HS
      obtain ⟨p2, p3⟩ := p1
      obtain ⟨p4, _⟩ := p0
      clear hxk hit hm
      go_wp2_with fail
      go_roundw
      case rel => exact ⟨k + 1, m + pc, by omega, by go_num, rfl, by rw [HS.out, HM.out], hb2.alloc hbs _⟩
      case measure => simp [intOf]; omega
    · obtain rfl : k = L.length := by omega
      rw [List.take_length, HN.out] at HM
      have kk : ¬ (L.length : Int) < L.length := by omega
      clear hm
      go_wp2_with fail
      go_ret
      exact ⟨ret_int HM.out, hb2⟩

/-- How many there are up to an index. -/
def belowP (L : List PairV) (i : Int) : Int := sumP (L.filter fun p => decide (p.1 ≤ i))
theorem below_app (A B : List PairV) (i : Int) : belowP (A ++ B) i = belowP A i + belowP B i := by unfold belowP; rw [List.filter_append, sumP_app]
theorem below_one (p : PairV) (i : Int) : belowP [p] i = if p.1 ≤ i then p.2 else 0 := by
  unfold belowP
  by_cases h : p.1 ≤ i
  · rw [if_pos h, List.filter_cons_of_pos (by simpa using h)]; simp [sumP_one]
  · rw [if_neg h, List.filter_cons_of_neg (by simpa using h)]; rfl
theorem below_step {L : List PairV} {k : Nat} {p : PairV} (h : L[k]? = some p) (i : Int) : belowP (L.take (k + 1)) i = belowP (L.take k) i + if p.1 ≤ i then p.2 else 0 := by
  rw [take_snocP h, below_app, below_one]
theorem below_take {L : List PairV} (k : Nat) (i : Int) (h : ∀ p, p ∈ L → 0 ≤ p.2) : 0 ≤ belowP (L.take k) i ∧ belowP (L.take k) i ≤ belowP L i := by
  have e := below_app (L.take k) (L.drop k) i
  rw [List.take_append_drop] at e
  have h1 : 0 ≤ belowP (L.take k) i := sumP_pos fun p hp => h p (List.mem_of_mem_take (List.mem_filter.1 hp).1)
  have h2 : 0 ≤ belowP (L.drop k) i := sumP_pos fun p hp => h p (List.mem_of_mem_drop (List.mem_filter.1 hp).1)
  omega
theorem below_le : ∀ {L : List PairV} (i : Int), (∀ p, p ∈ L → 0 ≤ p.2) → belowP L i ≤ sumP L := by
  intro L
  induction L with
  | nil => intro i _; exact Int.le_refl _
  | cons p r ih =>
    intro i h
    have h1 := h p (by simp)
    have h2 := ih i fun q hq => h q (List.mem_cons_of_mem _ hq)
    have e := below_app [p] r i
    rw [below_one] at e
    rw [sumP_cons]
    show belowP ([p] ++ r) i ≤ _
    rw [e]; split <;> omega

set_option maxRecDepth 100000 in
set_option maxHeartbeats 1000000 in
theorem rbelow_any (w : World) (A : Option Addr) (cap : Nat) (L : List PairV) (i n : Int) (h : Pairs w A L) (hl : L.length ≤ 1000) (hi : I64 i) (hn : belowP L i = n) (hb : n < 18446744073709551616) :
    Calls Try.prog 27 #[.slice A L.length cap, .int .i64 i] w fun e w' => e = .returned (.int .u64 n) ∧ Below w.heap.size w w' := by
  have HI := Lib.hid h
  have HN := Lib.hid hn
  have HP := Lib.hid (fun k => below_take (L := L) k i (ok_pos h.ok))
  obtain ⟨i0, i1⟩ := hi
  clear h hn
  go_enter Try.func27, Try.ntmps27
  go_wp2_with fail
  go_loopw [5, 10] (fun s j wr => ∃ (k : Nat) (m : Int), k ≤ L.length ∧ j = .int .i64 k ∧ s = .int .u64 m ∧ m = belowP (L.take k) i ∧ Below w.heap.size w wr) (fun _ j _ => L.length - (intOf j).toNat)
  case atStart => exact ⟨0, 0, Nat.zero_le _, rfl, rfl, rfl, Below.refl _ _⟩
  case round =>
    obtain ⟨k, m, hk, rfl, rfl, hm, hb2⟩ := hrel
    have HM := Lib.hid hm
    by_cases hlt : k < L.length
    · have kk : (k : Int) < L.length := by omega
      have hxk : L[k]? = some L[k] := List.getElem?_eq_getElem hlt
      generalize hit : L[k] = p at *
      obtain ⟨px, pc⟩ := p
      obtain ⟨b, off, rfl, hbl, c0, c1⟩ := (HI.out.call hb2).at_ k _ hxk
      have HS := Lib.hid (below_step hxk i)
      have hok := HI.out.ok _ (List.mem_of_getElem? hxk)
      have p1 := HP.out (k + 1)
      have p0 := HP.out k
      rw [HN.out] at p1
      rw [HS.out] at p1
      rw [← hm] at p0 p1
      have hbs := hb2.size
      obtain ⟨⟨o1, o2⟩, o3, o4⟩ := hok
      simp only at c0 c1 o1 o2 o3 o4 p1 HS
      clear hxk hit hm
      by_cases he : px ≤ i
      · rw [if_pos he] at p1 HS
        obtain ⟨p2, p3⟩ := p1
        obtain ⟨p4, _⟩ := p0
        go_wp2_with fail
        go_roundw
        case rel => exact ⟨k + 1, m + pc, by omega, by go_num, rfl, by rw [HS.out, HM.out], hb2.alloc hbs _⟩
        case measure => simp [intOf]; omega
      · rw [if_neg he] at p1 HS
        clear p0 p1
        go_wp2_with fail
        go_roundw
        case rel => exact ⟨k + 1, m, by omega, by go_num, rfl, by rw [HS.out, HM.out, Int.add_zero], hb2.alloc hbs _⟩
        case measure => simp [intOf]; omega
    · obtain rfl : k = L.length := by omega
      rw [List.take_length, HN.out] at HM
      have kk : ¬ (L.length : Int) < L.length := by omega
      clear hm
      go_wp2_with fail
      go_ret
      exact ⟨ret_int HM.out, hb2⟩

/-- The index of the t-th one, from some count on. -/
def seekP (t : Int) : Int → List PairV → Option Int
  | _, [] => none
  | s, p :: r => if t ≤ s + p.2 then some p.1 else seekP t (s + p.2) r
def findP (L : List PairV) (t : Int) : Option Int := if 0 < t then seekP t 0 L else none
theorem seek_at (t : Int) : ∀ (L : List PairV) (s : Int) (k : Nat) (p : PairV), (∀ q, q ∈ L → 0 ≤ q.2) → L[k]? = some p → s + sumP (L.take k) < t → t ≤ s + sumP (L.take k) + p.2 → seekP t s L = some p.1 := by
  intro L
  induction L with
  | nil => intro s k p _ h; simp at h
  | cons q r ih =>
    intro s k p hp h h1 h2
    cases k with
    | zero =>
      simp at h; subst h
      rw [List.take_zero, sumP_nil] at h1 h2
      unfold seekP; rw [if_pos (by omega)]
    | succ k =>
      rw [List.take_succ_cons, sumP_cons] at h1 h2
      have hq := hp q (by simp)
      have hr := sumP_take (L := r) k fun z hz => hp z (List.mem_cons_of_mem _ hz)
      unfold seekP
      rw [if_neg (by omega)]
      exact ih (s + q.2) k p (fun z hz => hp z (List.mem_cons_of_mem _ hz)) (by simpa using h) (by omega) (by omega)
theorem seek_none (t : Int) : ∀ (L : List PairV) (s : Int), (∀ q, q ∈ L → 0 ≤ q.2) → s + sumP L < t → seekP t s L = none := by
  intro L
  induction L with
  | nil => intro s _ _; rfl
  | cons q r ih =>
    intro s hp h
    rw [sumP_cons] at h
    have hr := sumP_pos (L := r) fun z hz => hp z (List.mem_cons_of_mem _ hz)
    unfold seekP
    rw [if_neg (by omega)]
    exact ih (s + q.2) (fun z hz => hp z (List.mem_cons_of_mem _ hz)) (by omega)

set_option maxRecDepth 100000 in
set_option maxHeartbeats 1000000 in
theorem rfind_any (w : World) (A : Option Addr) (cap : Nat) (L : List PairV) (t x : Int) (fb : Bool) (h : Pairs w A L) (hl : L.length ≤ 1000) (ht : Word t) (hb : sumP L < 18446744073709551616) (hf : (findP L t).getD 0 = x) (hs : (findP L t).isSome = fb) :
    Calls Try.prog 28 #[.slice A L.length cap, .int .u64 t] w fun e w' => e = .returned (.tuple #[.int .i64 x, .bool fb]) ∧ Below w.heap.size w w' := by
  have HI := Lib.hid h
  have HX := Lib.hid hf
  have HB := Lib.hid hs
  have HP := Lib.hid (fun k => sumP_take (L := L) k (ok_pos h.ok))
  have HSL := Lib.hid hb
  have HAT := Lib.hid (fun k p => seek_at t L 0 k p (ok_pos h.ok))
  have HNO := Lib.hid (seek_none t L 0 (ok_pos h.ok))
  obtain ⟨t0, t1⟩ := ht
  clear h hf hs hb
  go_enter Try.func28, Try.ntmps28
  go_wp2_with fail
  go_loopw [6, 11] (fun s j wr => ∃ (k : Nat) (m : Int), k ≤ L.length ∧ j = .int .i64 k ∧ s = .int .u64 m ∧ m = sumP (L.take k) ∧ (0 < t → m < t) ∧ Below w.heap.size w wr) (fun _ j _ => L.length - (intOf j).toNat)
  case atStart => exact ⟨0, 0, Nat.zero_le _, rfl, rfl, rfl, fun h => h, Below.refl _ _⟩
  case round =>
    obtain ⟨k, m, hk, rfl, rfl, hm, hlow, hb2⟩ := hrel
    have HM := Lib.hid hm
    have HLW := Lib.hid hlow
    by_cases hlt : k < L.length
    · have kk : (k : Int) < L.length := by omega
      have hxk : L[k]? = some L[k] := List.getElem?_eq_getElem hlt
      generalize hit : L[k] = p at *
      obtain ⟨px, pc⟩ := p
      obtain ⟨b, off, rfl, hbl, c0, c1⟩ := (HI.out.call hb2).at_ k _ hxk
      have HS := Lib.hid (sum_step' hxk)
      have HXK := Lib.hid hxk
      have hok := HI.out.ok _ (List.mem_of_getElem? hxk)
      have p1 := HP.out (k + 1)
      have p0 := HP.out k
      rw [HS.out] at p1
      rw [← hm] at p0 p1
      have hbs := hb2.size
      obtain ⟨⟨o1, o2⟩, o3, o4⟩ := hok
      simp only at c0 c1 o1 o2 o3 o4 p1 HS HXK
      obtain ⟨p2, p3⟩ := p1
      obtain ⟨p4, _⟩ := p0
      have p5 : m + pc < 18446744073709551616 := by have := HSL.out; omega
      clear hxk hit hm hlow p3
      by_cases h0 : 0 < t
      · by_cases hge : t ≤ m + pc
        · have HF : Hid (findP L t = some px) := Lib.hid (by
            unfold findP; rw [if_pos h0]
            exact HAT.out k (px, pc) HXK.out (by have := HLW.out h0; rw [← HM.out]; omega) (by rw [← HM.out]; omega))
          have HE : Hid (px = x ∧ true = fb) := Lib.hid (by
            have h1 := HX.out; have h2 := HB.out
            rw [HF.out] at h1 h2
            exact ⟨h1, h2⟩)
          go_wp2_with fail
          go_ret2
          exact ⟨by rw [← HE.out.1, ← HE.out.2]; rfl, hb2.alloc hbs _⟩
        · go_wp2_with fail
          go_roundw
          case rel => exact ⟨k + 1, m + pc, by omega, by go_num, rfl, by rw [HS.out, HM.out], fun _ => by omega, hb2.alloc hbs _⟩
          case measure => simp [intOf]; omega
      · go_wp2_with fail
        go_roundw
        case rel => exact ⟨k + 1, m + pc, by omega, by go_num, rfl, by rw [HS.out, HM.out], fun h => absurd h h0, hb2.alloc hbs _⟩
        case measure => simp [intOf]; omega
    · obtain rfl : k = L.length := by omega
      rw [List.take_length] at HM
      have HF : Hid (findP L t = none) := Lib.hid (by
        unfold findP
        split
        · rename_i h0
          exact HNO.out (by have := HLW.out h0; rw [← HM.out]; omega)
        · rfl)
      have HE : Hid (0 = x ∧ false = fb) := Lib.hid (by
        have h1 := HX.out; have h2 := HB.out
        rw [HF.out] at h1 h2
        exact ⟨h1, h2⟩)
      have kk : ¬ (L.length : Int) < L.length := by omega
      clear hm hlow
      go_wp2_with fail
      go_ret2
      exact ⟨by rw [← HE.out.1, ← HE.out.2]; rfl, hb2⟩
end Go.Proofs.Ytoegjncccahmlaa
