/-
  Walks: layer 7's reference: Total, Find, Below of a row.
  Walks: layer 7's reference: Add of a crate.
-/
import Derived.Test.YtnhhehinbobknaaPairS
import Derived.Test.YtnhhehinbobknaaObj
import Derived.Deep.Onto
namespace Go.Proofs.Ytnhhehinbobknaa
set_option linter.unusedVariables false
set_option linter.unusedSimpArgs false
open Go.RowKit

theorem sum_step' {L : List PairV} {k : Nat} {p : PairV} (h : L[k]? = some p) : sumP (L.take (k + 1)) = sumP (L.take k) + p.2 := by rw [take_snocP h, sumP_app, sumP_one]

set_option maxRecDepth 100000 in
set_option maxHeartbeats 1000000 in
theorem rtotal_any (w : World) (A : Option Addr) (cap : Nat) (L : List PairV) (n : Int) (h : Pairs w A L) (hl : L.length ≤ 1000) (hn : sumP L = n) (hb : n < 18446744073709551616) :
    Calls Try.prog 24 #[.slice A L.length cap] w fun e w' => e = .returned (.int .u64 n) ∧ Below w.heap.size w w' := by
  have HI := Lib.hid h
  have HN := Lib.hid hn
  have HP := Lib.hid (fun k => sumP_take (L := L) k (ok_pos h.ok))
  clear h hn
  go_enter Try.func24, Try.ntmps24
  go_wp2_with fail
  go_loopw [3, 8] (fun s j wr => ∃ (k : Nat) (m : Int), k ≤ L.length ∧ j = .int .i64 k ∧ s = .int .u64 m ∧ m = sumP (L.take k) ∧ Below w.heap.size w wr) (fun _ j _ => L.length - (intOf j).toNat)
  case atStart => exact ⟨0, 0, Nat.zero_le _, rfl, rfl, rfl, Below.refl _ _⟩
  case round =>
    obtain ⟨k, m, hk, rfl, rfl, hm, hb2⟩ := hrel
    have HM := Lib.hid hm
    by_cases hlt : k < L.length
    · have kk : (k : Int) < L.length := by omega
      have hxk : L[k]? = some L[k] := List.getElem?_eq_getElem hlt
      generalize hit : L[k] = p at *
      obtain ⟨px, pc⟩ := p
      obtain ⟨b, off, rfl, hbl, c0, c1⟩ := (HI.out.call hb2).at_ k _ hxk
      have HS := Lib.hid (sum_step' hxk)
      have hok := HI.out.ok _ (List.mem_of_getElem? hxk)
      have p1 := HP.out (k + 1)
      have p0 := HP.out k
      rw [HN.out] at p1
      rw [HS.out] at p1
      rw [← hm] at p0 p1
      have hbs := hb2.size
      obtain ⟨⟨o1, o2⟩, o3, o4⟩ := hok
      simp only at c0 c1 o1 o2 o3 o4 p1 HS
      obtain ⟨p2, p3⟩ := p1
      obtain ⟨p4, _⟩ := p0
      clear hxk hit hm
      go_wp2_with fail
      go_roundw
      case rel => exact ⟨k + 1, m + pc, by omega, by go_num, rfl, by rw [HS.out, HM.out], hb2.alloc hbs _⟩
      case measure => simp [intOf]; omega
    · obtain rfl : k = L.length := by omega
      rw [List.take_length, HN.out] at HM
      have kk : ¬ (L.length : Int) < L.length := by omega
      clear hm
      go_wp2_with fail
      go_ret
      exact ⟨ret_int HM.out, hb2⟩

/-- How many there are up to an index. -/
def belowP (L : List PairV) (i : Int) : Int := sumP (L.filter fun p => decide (p.1 ≤ i))
theorem below_app (A B : List PairV) (i : Int) : belowP (A ++ B) i = belowP A i + belowP B i := by unfold belowP; rw [List.filter_append, sumP_app]
theorem below_one (p : PairV) (i : Int) : belowP [p] i = if p.1 ≤ i then p.2 else 0 := by
  unfold belowP
  by_cases h : p.1 ≤ i
  · rw [if_pos h, List.filter_cons_of_pos (by simpa using h)]; simp [sumP_one]
  · rw [if_neg h, List.filter_cons_of_neg (by simpa using h)]; rfl
theorem below_step {L : List PairV} {k : Nat} {p : PairV} (h : L[k]? = some p) (i : Int) : belowP (L.take (k + 1)) i = belowP (L.take k) i + if p.1 ≤ i then p.2 else 0 := by
  rw [take_snocP h, below_app, below_one]
theorem below_take {L : List PairV} (k : Nat) (i : Int) (h : ∀ p, p ∈ L → 0 ≤ p.2) : 0 ≤ belowP (L.take k) i ∧ belowP (L.take k) i ≤ belowP L i := by
  have e := below_app (L.take k) (L.drop k) i
  rw [List.take_append_drop] at e
  have h1 : 0 ≤ belowP (L.take k) i := sumP_pos fun p hp => h p (List.mem_of_mem_take (List.mem_filter.1 hp).1)
  have h2 : 0 ≤ belowP (L.drop k) i := sumP_pos fun p hp => h p (List.mem_of_mem_drop (List.mem_filter.1 hp).1)
  omega
theorem below_le : ∀ {L : List PairV} (i : Int), (∀ p, p ∈ L → 0 ≤ p.2) → belowP L i ≤ sumP L := by
  intro L
  induction L with
  | nil => intro i _; exact Int.le_refl _
  | cons p r ih =>
    intro i h
    have h1 := h p (by simp)
    have h2 := ih i fun q hq => h q (List.mem_cons_of_mem _ hq)
    have e := below_app [p] r i
    rw [below_one] at e
    rw [sumP_cons]
    show belowP ([p] ++ r) i ≤ _
    rw [e]; split <;> omega

set_option maxRecDepth 100000 in
set_option maxHeartbeats 1000000 in
theorem rbelow_any (w : World) (A : Option Addr) (cap : Nat) (L : List PairV) (i n : Int) (h : Pairs w A L) (hl : L.length ≤ 1000) (hi : I64 i) (hn : belowP L i = n) (hb : n < 18446744073709551616) :
    Calls Try.prog 27 #[.slice A L.length cap, .int .i64 i] w fun e w' => e = .returned (.int .u64 n) ∧ Below w.heap.size w w' := by
  have HI := Lib.hid h
  have HN := Lib.hid hn
  have HP := Lib.hid (fun k => below_take (L := L) k i (ok_pos h.ok))
  obtain ⟨i0, i1⟩ := hi
  clear h hn
  go_enter Try.func27, Try.ntmps27
  go_wp2_with fail
  go_loopw [5, 10] (fun s j wr => ∃ (k : Nat) (m : Int), k ≤ L.length ∧ j = .int .i64 k ∧ s = .int .u64 m ∧ m = belowP (L.take k) i ∧ Below w.heap.size w wr) (fun _ j _ => L.length - (intOf j).toNat)
  case atStart => exact ⟨0, 0, Nat.zero_le _, rfl, rfl, rfl, Below.refl _ _⟩
  case round =>
    obtain ⟨k, m, hk, rfl, rfl, hm, hb2⟩ := hrel
    have HM := Lib.hid hm
    by_cases hlt : k < L.length
    · have kk : (k : Int) < L.length := by omega
      have hxk : L[k]? = some L[k] := List.getElem?_eq_getElem hlt
      generalize hit : L[k] = p at *
      obtain ⟨px, pc⟩ := p
      obtain ⟨b, off, rfl, hbl, c0, c1⟩ := (HI.out.call hb2).at_ k _ hxk
      have HS := Lib.hid (below_step hxk i)
      have hok := HI.out.ok _ (List.mem_of_getElem? hxk)
      have p1 := HP.out (k + 1)
      have p0 := HP.out k
      rw [HN.out] at p1
      rw [HS.out] at p1
      rw [← hm] at p0 p1
      have hbs := hb2.size
      obtain ⟨⟨o1, o2⟩, o3, o4⟩ := hok
      simp only at c0 c1 o1 o2 o3 o4 p1 HS
      clear hxk hit hm
      by_cases he : px ≤ i
      · rw [if_pos he] at p1 HS
        obtain ⟨p2, p3⟩ := p1
        obtain ⟨p4, _⟩ := p0
        go_wp2_with fail
        go_roundw
        case rel => exact ⟨k + 1, m + pc, by omega, by go_num, rfl, by rw [HS.out, HM.out], hb2.alloc hbs _⟩
        case measure => simp [intOf]; omega
      · rw [if_neg he] at p1 HS
        clear p0 p1
        go_wp2_with fail
        go_roundw
        case rel => exact ⟨k + 1, m, by omega, by go_num, rfl, by rw [HS.out, HM.out, Int.add_zero], hb2.alloc hbs _⟩
        case measure => simp [intOf]; omega
    · obtain rfl : k = L.length := by omega
      rw [List.take_length, HN.out] at HM
      have kk : ¬ (L.length : Int) < L.length := by omega
      clear hm
      go_wp2_with fail
      go_ret
      exact ⟨ret_int HM.out, hb2⟩

/-- The index of the t-th one, from some count on. -/
def seekP (t : Int) : Int → List PairV → Option Int
  | _, [] => none
  | s, p :: r => if t ≤ s + p.2 then some p.1 else seekP t (s + p.2) r
def findP (L : List PairV) (t : Int) : Option Int := if 0 < t then seekP t 0 L else none
theorem seek_at (t : Int) : ∀ (L : List PairV) (s : Int) (k : Nat) (p : PairV), (∀ q, q ∈ L → 0 ≤ q.2) → L[k]? = some p → s + sumP (L.take k) < t → t ≤ s + sumP (L.take k) + p.2 → seekP t s L = some p.1 := by
  intro L
  induction L with
  | nil => intro s k p _ h; simp at h
  | cons q r ih =>
    intro s k p hp h h1 h2
    cases k with
    | zero =>
      simp at h; subst h
      rw [List.take_zero, sumP_nil] at h1 h2
      unfold seekP; rw [if_pos (by omega)]
    | succ k =>
      rw [List.take_succ_cons, sumP_cons] at h1 h2
      have hq := hp q (by simp)
      have hr := sumP_take (L := r) k fun z hz => hp z (List.mem_cons_of_mem _ hz)
      unfold seekP
      rw [if_neg (by omega)]
      exact ih (s + q.2) k p (fun z hz => hp z (List.mem_cons_of_mem _ hz)) (by simpa using h) (by omega) (by omega)
theorem seek_none (t : Int) : ∀ (L : List PairV) (s : Int), (∀ q, q ∈ L → 0 ≤ q.2) → s + sumP L < t → seekP t s L = none := by
  intro L
  induction L with
  | nil => intro s _ _; rfl
  | cons q r ih =>
    intro s hp h
    rw [sumP_cons] at h
    have hr := sumP_pos (L := r) fun z hz => hp z (List.mem_cons_of_mem _ hz)
    unfold seekP
    rw [if_neg (by omega)]
    exact ih (s + q.2) (fun z hz => hp z (List.mem_cons_of_mem _ hz)) (by omega)

set_option maxRecDepth 100000 in
set_option maxHeartbeats 1000000 in
theorem rfind_any (w : World) (A : Option Addr) (cap : Nat) (L : List PairV) (t x : Int) (fb : Bool) (h : Pairs w A L) (hl : L.length ≤ 1000) (ht : Word t) (hb : sumP L < 18446744073709551616) (hf : (findP L t).getD 0 = x) (hs : (findP L t).isSome = fb) :
    Calls Try.prog 26 #[.slice A L.length cap, .int .u64 t] w fun e w' => e = .returned (.tuple #[.int .i64 x, .bool fb]) ∧ Below w.heap.size w w' := by
  have HI := Lib.hid h
  have HX := Lib.hid hf
  have HB := Lib.hid hs
  have HP := Lib.hid (fun k => sumP_take (L := L) k (ok_pos h.ok))
  have HSL := Lib.hid hb
  have HAT := Lib.hid (fun k p => seek_at t L 0 k p (ok_pos h.ok))
  have HNO := Lib.hid (seek_none t L 0 (ok_pos h.ok))
  obtain ⟨t0, t1⟩ := ht
  clear h hf hs hb
  go_enter Try.func26, Try.ntmps26
  go_wp2_with fail
  go_loopw [6, 11] (fun s j wr => ∃ (k : Nat) (m : Int), k ≤ L.length ∧ j = .int .i64 k ∧ s = .int .u64 m ∧ m = sumP (L.take k) ∧ (0 < t → m < t) ∧ Below w.heap.size w wr) (fun _ j _ => L.length - (intOf j).toNat)
  case atStart => exact ⟨0, 0, Nat.zero_le _, rfl, rfl, rfl, fun h => h, Below.refl _ _⟩
  case round =>
    obtain ⟨k, m, hk, rfl, rfl, hm, hlow, hb2⟩ := hrel
    have HM := Lib.hid hm
    have HLW := Lib.hid hlow
    by_cases hlt : k < L.length
    · have kk : (k : Int) < L.length := by omega
      have hxk : L[k]? = some L[k] := List.getElem?_eq_getElem hlt
      generalize hit : L[k] = p at *
      obtain ⟨px, pc⟩ := p
      obtain ⟨b, off, rfl, hbl, c0, c1⟩ := (HI.out.call hb2).at_ k _ hxk
      have HS := Lib.hid (sum_step' hxk)
      have HXK := Lib.hid hxk
      have hok := HI.out.ok _ (List.mem_of_getElem? hxk)
      have p1 := HP.out (k + 1)
      have p0 := HP.out k
      rw [HS.out] at p1
      rw [← hm] at p0 p1
      have hbs := hb2.size
      obtain ⟨⟨o1, o2⟩, o3, o4⟩ := hok
      simp only at c0 c1 o1 o2 o3 o4 p1 HS HXK
      obtain ⟨p2, p3⟩ := p1
      obtain ⟨p4, _⟩ := p0
      have p5 : m + pc < 18446744073709551616 := by have := HSL.out; omega
      clear hxk hit hm hlow p3
      by_cases h0 : 0 < t
      · by_cases hge : t ≤ m + pc
        · have HF : Hid (findP L t = some px) := Lib.hid (by
            unfold findP; rw [if_pos h0]
            exact HAT.out k (px, pc) HXK.out (by have := HLW.out h0; rw [← HM.out]; omega) (by rw [← HM.out]; omega))
          have HE : Hid (px = x ∧ true = fb) := Lib.hid (by
            have h1 := HX.out; have h2 := HB.out
            rw [HF.out] at h1 h2
            exact ⟨h1, h2⟩)
          go_wp2_with fail
          go_ret2
          exact ⟨by rw [← HE.out.1, ← HE.out.2]; rfl, hb2.alloc hbs _⟩
        · go_wp2_with fail
          go_roundw
          case rel => exact ⟨k + 1, m + pc, by omega, by go_num, rfl, by rw [HS.out, HM.out], fun _ => by omega, hb2.alloc hbs _⟩
          case measure => simp [intOf]; omega
      · go_wp2_with fail
        go_roundw
        case rel => exact ⟨k + 1, m + pc, by omega, by go_num, rfl, by rw [HS.out, HM.out], fun h => absurd h h0, hb2.alloc hbs _⟩
        case measure => simp [intOf]; omega
    · obtain rfl : k = L.length := by omega
      rw [List.take_length] at HM
      have HF : Hid (findP L t = none) := Lib.hid (by
        unfold findP
        split
        · rename_i h0
          exact HNO.out (by have := HLW.out h0; rw [← HM.out]; omega)
        · rfl)
      have HE : Hid (0 = x ∧ false = fb) := Lib.hid (by
        have h1 := HX.out; have h2 := HB.out
        rw [HF.out] at h1 h2
        exact ⟨h1, h2⟩)
      have kk : ¬ (L.length : Int) < L.length := by omega
      clear hm hlow
      go_wp2_with fail
      go_ret2
      exact ⟨by rw [← HE.out.1, ← HE.out.2]; rfl, hb2⟩
end Go.Proofs.Ytnhhehinbobknaa

namespace Go.Proofs.Ytnhhehinbobknaa
set_option linter.unusedVariables false
set_option linter.unusedSimpArgs false
open Go.RowKit

def headP (R : List PairV) : Int := ((R.head?).map fun p => p.1).getD 0
def lastP (R : List PairV) : Int := ((R.getLast?).map fun p => p.1).getD 0
/-- How far apart a row's ends lie. -/
def spreadP (R : List PairV) : Int := lastP R - headP R
theorem good_ends {R : List PairV} (h : GoodP R) : headP R ≤ lastP R := by
  cases R with
  | nil => exact Int.le_refl _
  | cons p r =>
    cases hl : (p :: r).getLast? with
    | none => simp at hl
    | some z =>
      have hz := List.mem_of_getLast? hl
      unfold headP lastP
      rw [hl]
      show p.1 ≤ z.1
      rcases List.mem_cons.1 hz with rfl | hz
      · exact Int.le_refl _
      · have := (List.pairwise_cons.1 h.2).1 z hz; omega
theorem head_i64 {R : List PairV} (h : ∀ p, p ∈ R → okP p) : I64 (headP R) := by
  cases R with
  | nil => exact ⟨by decide, by decide⟩
  | cons p r => exact (h p (by simp)).1
theorem last_i64 {R : List PairV} (h : ∀ p, p ∈ R → okP p) : I64 (lastP R) := by
  unfold lastP
  cases hl : R.getLast? with
  | none => exact ⟨by decide, by decide⟩
  | some z => exact (h z (List.mem_of_getLast? hl)).1
/-- What adding to a crate tells; what is kept then. -/
def crErr (L : List PairV) (i c : Int) : Int := if c = 0 then 1 else if 9223372036854775807 - sumP L < c then 6 else if 4095 < spreadP (addP L i c) then 6 else 0
def crRow (L : List PairV) (i c : Int) : List PairV := if crErr L i c = 0 then addP L i c else L
theorem add_pos {L : List PairV} {i c : Int} (h0 : 0 ≤ countP L i) (hc : 0 < c) : 0 < (addP L i c).length := by
  unfold addP midP; rw [if_pos (by omega)]; simp; omega
theorem sum_part (L : List PairV) (i : Int) : sumP (lowP L i) + (countP L i + sumP (highP L i)) = sumP L := by
  induction L with
  | nil => rfl
  | cons p r ih =>
    rw [sumP_cons, count_cons]
    unfold lowP highP at *
    rw [List.filter_cons, List.filter_cons]
    rcases Int.lt_trichotomy p.1 i with h | h | h
    · have h2 : ¬ i < p.1 := by omega
      have h3 : ¬ p.1 = i := by omega
      simp only [h, h2, h3, decide_true, decide_false, if_true, Bool.false_eq_true, if_false, sumP_cons]; omega
    · have h1 : ¬ p.1 < i := by omega
      have h2 : ¬ i < p.1 := by omega
      simp only [h, h1, h2, Int.lt_irrefl, decide_false, Bool.false_eq_true, if_true, if_false]; omega
    · have h1 : ¬ p.1 < i := by omega
      have h3 : ¬ p.1 = i := by omega
      simp only [h, h1, h3, decide_true, decide_false, if_true, Bool.false_eq_true, if_false, sumP_cons]; omega
theorem add_sum {L : List PairV} {i c : Int} (h0 : 0 ≤ countP L i + c) : sumP (addP L i c) = sumP L + c := by
  unfold addP
  rw [sumP_app, sumP_app]
  have hm : sumP (midP i (countP L i + c)) = countP L i + c := by
    unfold midP
    split
    · rw [sumP_one]
    · rw [sumP_nil]; omega
  have := sum_part L i
  rw [hm]; omega
theorem count_le_sum {L : List PairV} (i : Int) (h : ∀ p, p ∈ L → 0 ≤ p.2) : 0 ≤ countP L i ∧ countP L i ≤ sumP L := by
  have h1 := sum_part L i
  have h2 : 0 ≤ sumP (lowP L i) := sumP_pos fun p hp => h p (lowP_mem hp).1
  have h3 : 0 ≤ sumP (highP L i) := sumP_pos fun p hp => h p (highP_mem hp).1
  have h4 : 0 ≤ countP L i := sumP_pos fun p hp => h p (List.mem_filter.1 hp).1
  omega
/-- A row that a crate can have. -/
structure Crt (L : List PairV) : Prop where
  good : GoodP L
  ok : ∀ p, p ∈ L → okP p
  sum : sumP L ≤ 9223372036854775807
  far : spreadP L ≤ 4095
theorem Crt.nil : Crt [] := ⟨good_nil, fun p h => (by cases h), by decide, by decide⟩
theorem Crt.cnt {L : List PairV} (h : Crt L) (i : Int) : 0 ≤ countP L i ∧ countP L i ≤ sumP L := count_le_sum i (ok_pos h.ok)
theorem crErr_cases {L : List PairV} {i c : Int} (hc : Word c) : (c = 0 ∧ crErr L i c = 1) ∨ (0 < c ∧ 9223372036854775807 - sumP L < c ∧ crErr L i c = 6) ∨
    (0 < c ∧ c ≤ 9223372036854775807 - sumP L ∧ 4095 < spreadP (addP L i c) ∧ crErr L i c = 6) ∨ (0 < c ∧ c ≤ 9223372036854775807 - sumP L ∧ spreadP (addP L i c) ≤ 4095 ∧ crErr L i c = 0) := by
  unfold Word at hc
  unfold crErr
  by_cases h0 : c = 0
  · exact Or.inl ⟨h0, by rw [if_pos h0]⟩
  · rw [if_neg h0]
    by_cases h1 : 9223372036854775807 - sumP L < c
    · exact Or.inr (Or.inl ⟨by omega, h1, by rw [if_pos h1]⟩)
    · rw [if_neg h1]
      by_cases h2 : 4095 < spreadP (addP L i c)
      · exact Or.inr (Or.inr (Or.inl ⟨by omega, by omega, h2, by rw [if_pos h2]⟩))
      · exact Or.inr (Or.inr (Or.inr ⟨by omega, by omega, by omega, by rw [if_neg h2]⟩))
theorem crt_add {L : List PairV} {i c : Int} (h : Crt L) (hi : I64 i) (hc : Word c) : Crt (crRow L i c) := by
  have hw := hc
  unfold Word at hw
  unfold crRow
  rcases crErr_cases (L := L) (i := i) hc with ⟨_, e⟩ | ⟨_, _, e⟩ | ⟨_, _, _, e⟩ | ⟨h1, h2, h3, e⟩
  · rw [if_neg (by omega)]; exact h
  · rw [if_neg (by omega)]; exact h
  · rw [if_neg (by omega)]; exact h
  · rw [if_pos e]
    have h4 := h.cnt i
    exact ⟨add_good h.good (by omega), add_ok h.ok hi (by omega), by rw [add_sum (by omega)]; omega, h3⟩
theorem crRow_len (L : List PairV) (i c : Int) : (crRow L i c).length ≤ L.length + 1 := by
  unfold crRow
  split
  · exact add_len L i c
  · omega

end Go.Proofs.Ytnhhehinbobknaa