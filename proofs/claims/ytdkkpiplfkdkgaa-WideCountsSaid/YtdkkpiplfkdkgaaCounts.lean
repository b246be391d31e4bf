/-
  The walk of WideCounts.
-/
import Derived.Test.YtdkkpiplfkdkgaaSmall
import Derived.Test.YtdkkpiplfkdkgaaOpen
namespace Go.Proofs.Ytdkkpiplfkdkgaa
set_option linter.unusedVariables false
set_option linter.unusedSimpArgs false
open Go.RowKit Go.Shelf

theorem bits_top {a : Int} (wa : Word a) (j : Nat) (hj : j < 64) : 0 < a / 2 ^ j ↔ j < Lib.bitLen a.toNat := by
  obtain ⟨n, rfl⟩ := Int.eq_ofNat_of_zero_le wa.1
  have hn : n < 2 ^ 64 := by have := wa.2; omega
  simp only [Int.toNat_natCast]
  have e : (n : Int) / 2 ^ j = ((n / 2 ^ j : Nat) : Int) := by simp
  have hp : 0 < 2 ^ j := Nat.pow_pos (by omega)
  rw [e]
  have h1 : 0 < ((n / 2 ^ j : Nat) : Int) ↔ 2 ^ j ≤ n := by
    rw [Int.natCast_pos, Nat.div_pos_iff]
    constructor
    · intro h; exact h.2
    · intro h; exact ⟨hp, h⟩
  rw [h1]
  by_cases h0 : n = 0
  · subst h0
    have : Lib.bitLen 0 = 0 := by decide
    rw [this]; omega
  · obtain ⟨x, y, z⟩ := Lib.bitLenAux_bounds 64 n hn h0
    have e2 : Lib.bitLen n = Lib.bitLenAux 64 n := rfl
    rw [e2]
    generalize Lib.bitLenAux 64 n = L at *
    constructor
    · intro h
      rcases Nat.lt_or_ge j L with g | g
      · exact g
      · have := Nat.pow_le_pow_right (show 0 < 2 by omega) g; omega
    · intro h
      have := Nat.pow_le_pow_right (show 0 < 2 by omega) (show j ≤ L - 1 by omega); omega

set_option maxHeartbeats 400000 in
theorem plus_empty (p : Option Addr) (cap : Nat) (w : World) : Calls Try.prog 25 #[.slice p 0 cap] w fun e w' =>
      e = .returned (.tuple #[.int .u64 0, .bool true]) ∧ w = w' := by
  go_enter Try.func25, Try.ntmps25
  go_wp2_with fail
  go_loop [4, 9] (fun s i => s = .int .u64 0 ∧ i = .int .i64 0) (fun _ _ => 0)
  case atStart => exact ⟨rfl, rfl⟩
  case round =>
    obtain ⟨rfl, rfl⟩ := hrel
    go_wp2_with fail
    exact bodyPost_ret (v := .tuple #[.int .u64 0, .bool true]) (by simp [results, Try.results25, go_sem]) rfl ⟨rfl, rfl⟩

theorem plus_all (xs : List Int) (p : Option Addr) (cap : Nat) (w : World) (hm : xs.length ≤ maxLen) (hw : ∀ x ∈ xs, Word x)
    (hcell : ∀ i x, xs[i]? = some x → ∃ b off, p = some ⟨b, off, none⟩ ∧ w.cell? ⟨b, off + i, none⟩ = some (.int .u64 x)) :
    Calls Try.prog 25 #[.slice p xs.length cap] w fun e w' =>
      e = .returned (.tuple #[.int .u64 (plQ xs), .bool (plB xs)]) ∧ w = w' := by
  cases xs with
  | nil => exact plus_empty p cap w
  | cons x r =>
    obtain ⟨b, off, rfl, h0⟩ := hcell 0 x rfl
    refine plus_any (x :: r) b off cap w hm hw fun i y hi => ?_
    obtain ⟨b', off', e, h⟩ := hcell i y hi
    cases e
    exact h

theorem plB_less {xs : List Int} {k : Nat} {x : Int} (h0 : 0 ≤ x) (hx : xs[k]? = some x) (h : plB (xs.take k) = false) : plB (xs.take (k + 1)) = false := by
  unfold plB at *; rw [sumI_take hx]
  rw [decide_eq_false_iff_not] at *
  omega
theorem plQ_of {xs : List Int} : (plB xs = true → plQ xs = sumI xs) ∧ (plB xs = false → plQ xs = 0) := by
  unfold plQ
  constructor
  · intro h; rw [if_pos h]
  · intro h; rw [h]; rfl
theorem not_zero {a : Int} (h : 0 ≤ a) : ((a != 0) == decide (0 < a)) = true := by
  rw [beq_iff_eq, Bool.eq_iff_iff]; simp only [bne_iff_ne, decide_eq_true_eq]; omega
theorem plB_next {xs : List Int} {k : Nat} {x : Int} (hpos : ∀ x ∈ xs, 0 ≤ x) (hx : xs[k]? = some x) : plB (xs.take (k + 1)) = decide (sumI (xs.take k) + x ≤ 9223372036854775807) := by
  unfold plB; rw [sumI_take hx]

set_option maxHeartbeats 1000000 in
theorem counts_walk (a : Int) (xs : List Int) (p : Option Addr) (cap : Nat) (w : World) (wa : Word a) (hm : xs.length ≤ maxLen) (hw : ∀ x ∈ xs, Word x)
    (hcell : ∀ i x, xs[i]? = some x → ∃ b off, p = some ⟨b, off, none⟩ ∧ w.cell? ⟨b, off + i, none⟩ = some (.int .u64 x)) :
    Calls Try.prog 7 #[.int .u64 a, .slice p xs.length cap] w fun e w' =>
      e = .returned (.bool true) ∧ Below w.heap.size w w' := by
  have HM := Lib.hid hm
  unfold maxLen at hm
  by_cases h40 : 40 < xs.length
  · have hc40 : (40 : Int) < (xs.length : Int) := by omega
    go_enter Try.func7, Try.ntmps7
    go_wp2_with fail
    refine (alive_any _).mono ?_
    rintro e wA ⟨rfl, hbA⟩
    go_wp2_with fail
    refine bodyPost_ret (v := .bool true) (by simp [results, Try.results7, go_sem]) rfl ⟨rfl, ?_⟩
    exact hbA
  · have hc40 : ¬ (40 : Int) < (xs.length : Int) := by omega
    have hpos : ∀ x ∈ xs, 0 ≤ x := fun x hx => (hw x hx).1
    have Hpos := Lib.hid hpos
    have Hw := Lib.hid hw
    have Top := Lib.hid (bits_top wa)
    have hL := Lib.bitLen_le a.toNat 64 (Nat.le_refl _) (by have := wa.1; have := wa.2; omega)
    have hlog := fun w' => log_any a wa w'
    have Log := Lib.hid hlog
    have a0 := wa.1
    have a1 := wa.2
    clear hpos hlog h40
    go_enter Try.func7, Try.ntmps7
    go_wp2_with fail
    refine (alive_any _).mono ?_
    rintro e wA ⟨rfl, hbA⟩
    have Hcell : ∀ i x, xs[i]? = some x → ∃ b off, p = some ⟨b, off, none⟩ ∧ wA.cell? ⟨b, off + i, none⟩ = some (.int .u64 x) := fun i x hi => by
      obtain ⟨b, off, e, h⟩ := hcell i x hi
      exact ⟨b, off, e, cell_later hbA h⟩
    have HC := Lib.hid Hcell
    clear hcell hw Hcell
    have HB := Lib.hid hbA
    clear hbA
    generalize Lib.bitLen a.toNat = L at *
    go_wp2_with fail
    go_loop [5, 6] (fun t i => ∃ j : Nat, j ≤ 64 ∧ i = .int .i64 j ∧ t = .int .i64 (((min j L : Nat) : Int) - 1)) (fun _ i => 64 - (intOf i).toNat)
    case atStart => exact ⟨0, by omega, rfl, by simp⟩
    case round =>
      obtain ⟨j, hj, rfl, rfl⟩ := hrel
      by_cases hlt : j < 64
      · have hT := Top.out j hlt
        have pp : (0 : Int) < 2 ^ j := Int.pow_pos (by omega)
        have g0 : 0 ≤ a / 2 ^ j := Int.ediv_nonneg a0 (by omega)
        by_cases hjl : j < L
        · have ht : 0 < a / 2 ^ j := hT.2 hjl
          have he : (j : Int) = ((min (j + 1) L : Nat) : Int) - 1 := by omega
          have HE := Lib.hid he
          clear hT he
          go_wp2_with fail
          go_round
          case rel => exact ⟨j + 1, by omega, by go_num, by rw [← HE.out]⟩
          case measure => simp [intOf]; omega
        · have ht : ¬ 0 < a / 2 ^ j := fun h => hjl (hT.1 h)
          have he : (min j L : Nat) = min (j + 1) L := by omega
          have HE := Lib.hid he
          clear hT he
          go_wp2_with fail
          go_round
          case rel => exact ⟨j + 1, by omega, by go_num, by rw [HE.out]⟩
          case measure => simp [intOf]; omega
      · obtain rfl : j = 64 := by omega
        have eL : min 64 L = L := by omega
        rw [eL]
        clear eL hj hlt Top
        go_wp2_with fail
        refine (Log.out _).mono ?_
        rintro e w' ⟨rfl, rfl⟩
        go_wp2_with fail
        have hA := not_zero a0
        have Plus := Lib.hid (fun w'' (hx : w'' = wA) => plus_all xs p cap w'' HM.out Hw.out (by subst hx; exact HC.out))
        go_loop [9, 10, 37] (fun s f i => ∃ (k : Nat) (q : Int), k ≤ xs.length ∧ i = .int .i64 k ∧ s = .int .u64 q ∧ f = .bool (plB (xs.take k)) ∧ 0 ≤ q ∧ q ≤ 9223372036854775807 ∧ (plB (xs.take k) = true → q = sumI (xs.take k))) (fun _ _ i => xs.length - (intOf i).toNat)
        case atStart => exact ⟨0, 0, Nat.zero_le _, rfl, rfl, by rw [List.take_zero]; rfl, by omega, by omega, fun _ => by rw [List.take_zero]; rfl⟩
        case round =>
          obtain ⟨k, q, hk, rfl, rfl, rfl, q0, q1, hq⟩ := hrel
          have HQ := Lib.hid hq
          clear hq
          by_cases hlt : k < xs.length
          · obtain ⟨x, hx⟩ : ∃ x, xs[k]? = some x := ⟨_, List.getElem?_eq_getElem hlt⟩
            obtain ⟨b, off, rfl, hc⟩ := HC.out k x hx
            obtain ⟨x0, x1⟩ := Hw.out x (List.mem_of_getElem? hx)
            cases hf : plB (xs.take k) with
            | false =>
              have N := Lib.hid (plB_less x0 hx hf)
              clear hf hx
              go_wp2_with fail
              go_round
              case rel => exact ⟨k + 1, q, by omega, by go_num, rfl, by rw [N.out], q0, q1, fun h => by rw [N.out] at h; cases h⟩
              case measure => simp [intOf]; omega
            | true =>
              have N := Lib.hid (plB_next Hpos.out hx)
              have S := Lib.hid (sumI_take hx)
              have e := HQ.out hf
              rw [← e] at N S
              clear hf hx e HQ
              by_cases hx3 : x < 9223372036854775808
              · by_cases hs3 : q + x < 9223372036854775808
                · have M := Lib.hid (N.out.trans (decide_eq_true (show q + x ≤ 9223372036854775807 by omega)))
                  go_wp2_with fail
                  go_round
                  case rel => exact ⟨k + 1, q + x, by omega, by go_num, rfl, by rw [M.out], by omega, by omega, fun _ => S.out.symm⟩
                  case measure => simp [intOf]; omega
                · have M := Lib.hid (N.out.trans (decide_eq_false (show ¬ q + x ≤ 9223372036854775807 by omega)))
                  go_wp2_with fail
                  go_round
                  case rel => exact ⟨k + 1, q, by omega, by go_num, rfl, by rw [M.out], q0, q1, fun h => by rw [M.out] at h; cases h⟩
                  case measure => simp [intOf]; omega
              · have M := Lib.hid (N.out.trans (decide_eq_false (show ¬ q + x ≤ 9223372036854775807 by omega)))
                go_wp2_with fail
                go_round
                case rel => exact ⟨k + 1, q, by omega, by go_num, rfl, by rw [M.out], q0, q1, fun h => by rw [M.out] at h; cases h⟩
                case measure => simp [intOf]; omega
          · obtain rfl : k = xs.length := by omega
            rw [List.take_length] at *
            cases hf : plB xs with
            | false =>
              have PQ := Lib.hid ((plQ_of (xs := xs)).2 hf)
              go_wp2_with fail
              refine (Plus.out _ rfl).mono ?_
              rw [PQ.out, hf]
              rintro e w' ⟨rfl, rfl⟩
              go_wp2_with fail
              refine bodyPost_ret (v := .bool true) (by simp [results, Try.results7, go_sem]) rfl ⟨rfl, ?_⟩
              exact HB.out
            | true =>
              have PQ := Lib.hid ((plQ_of (xs := xs)).1 hf)
              have e := HQ.out hf
              have EQ := Lib.hid e
              clear e
              go_wp2_with fail
              refine (Plus.out _ rfl).mono ?_
              rw [PQ.out, hf, ← EQ.out]
              rintro e w' ⟨rfl, rfl⟩
              go_wp2_with fail
              refine bodyPost_ret (v := .bool true) (by simp [results, Try.results7, go_sem]) rfl ⟨rfl, ?_⟩
              exact HB.out
end Go.Proofs.Ytdkkpiplfkdkgaa
