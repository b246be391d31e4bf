/-
  The reference of layer 18: Same, moved.
-/
import Derived.Test.YtjmkkglmckiknaaTupR
import Derived.Deep.RegionWith
import Derived.RegionTactic
namespace Go.Proofs.Ytjmkkglmckiknaa
set_option linter.unusedVariables false
set_option linter.unusedSimpArgs false
open Go.RowKit

theorem tup_neq (a b c a' b' c' : Int) (w : World) : (binOp .neq 71 (.agg #[.int .i64 a, .int .u64 b, .int .u64 c]) (.agg #[.int .i64 a', .int .u64 b', .int .u64 c'])).run Try.prog w = .ok (.bool (!(a == a' && (b == b' && c == c')))) w := by
  by_cases h : a = a'
  · subst h
    by_cases h' : b = b'
    · subst h'
      by_cases h2 : c = c'
      · subst h2; simp [go_sem]
      · have : (c == c') = false := by simp [h2]
        simp [go_sem, this]
    · have : (b == b') = false := by simp [h']
      simp [go_sem, this]
  · have : (a == a') = false := by simp [h]
    simp [go_sem, this]
theorem ne_atT {L M : List TupV} {k : Nat} {p q : TupV} (hp : L[k]? = some p) (hq : M[k]? = some q) (h : p ≠ q) : L ≠ M := by
  rintro rfl; rw [hp] at hq; exact h (Option.some.inj hq)
theorem same_takeT {L M : List TupV} {k : Nat} {p q : TupV} (hp : L[k]? = some p) (hq : M[k]? = some q) (h : p = q) (ht : L.take k = M.take k) : L.take (k + 1) = M.take (k + 1) := by
  rw [snocS hp, snocS hq, ht, h]

set_option maxRecDepth 100000 in
set_option maxHeartbeats 1000000 in
theorem same18_any (w : World) (A A' : Option Addr) (cap cap' : Nat) (L M : List TupV) (b : Bool) (hbb : decide (L = M) = b) (h : Tups w A L) (h' : Tups w A' M) (hl : L.length ≤ 200) (hl' : M.length ≤ 200) :
    Calls Try.prog 11 #[.slice A L.length cap, .slice A' M.length cap'] w fun e w' => e = .returned (.bool b) ∧ Below w.heap.size w w' := by
  have HB := Lib.hid hbb
  have HI := Lib.hid h
  have HJ := Lib.hid h'
  clear hbb h h'
  by_cases hlen : L.length = M.length
  · have e1 : ((L.length : Int) == (M.length : Int)) = true := by simp [hlen]
    have e2 : (!(L.length : Int) == (M.length : Int)) = false := by rw [e1]; rfl
    have HL := Lib.hid hlen
    clear hlen
    go_enter Try.func11, Try.ntmps11
    go_wp2_with fail
    go_loopw [13] (fun j wr => ∃ k : Nat, k ≤ L.length ∧ j = .int .i64 k ∧ L.take k = M.take k ∧ Below w.heap.size w wr) (fun j _ => L.length - (intOf j).toNat)
    case atStart => exact ⟨0, Nat.zero_le _, rfl, rfl, Below.refl _ _⟩
    case round =>
      obtain ⟨k, hk, rfl, ht, hb2⟩ := hrel
      have HT := Lib.hid ht
      clear ht
      by_cases hlt : k < L.length
      · have kk : (k : Int) < L.length := by omega
        have hlt' : k < M.length := by have := HL.out; omega
        have kk' : (k : Int) < M.length := by omega
        have hxk : L[k]? = some L[k] := List.getElem?_eq_getElem hlt
        have hyk : M[k]? = some M[k] := List.getElem?_eq_getElem hlt'
        generalize hit : L[k] = p at *
        generalize hjt : M[k] = q at *
        obtain ⟨px, pc, pd⟩ := p
        obtain ⟨qx, qc, qd⟩ := q
        obtain ⟨b0, off, rfl, hbl, c0, c1, c2⟩ := (HI.out.call hb2).at_ k _ hxk
        obtain ⟨b1, off', rfl, hbl', d0, d1, d2⟩ := (HJ.out.call hb2).at_ k _ hyk
        simp only at c0 c1 c2 d0 d1 d2
        have hcmp := tup_neq px pc pd qx qc qd
        have HXK := Lib.hid hxk
        have HYK := Lib.hid hyk
        clear hxk hyk hit hjt
        by_cases hc : px = qx ∧ pc = qc ∧ pd = qd
        · have e3 : (!(px == qx && (pc == qc && pd == qd))) = false := by simp [hc.1, hc.2.1, hc.2.2]
          rw [e3] at hcmp
          have HC := Lib.hid hc
          clear hc e3
          go_wp2_with fail
          go_quiet (fail)
          go_wp2_with fail
          go_roundw
          case rel => exact ⟨k + 1, by omega, by go_num, same_takeT HXK.out HYK.out (by rw [HC.out.1, HC.out.2.1, HC.out.2.2]) HT.out, below_drewT hb2 _⟩
          case measure => simp [intOf]; omega
        · have e3 : (!(px == qx && (pc == qc && pd == qd))) = true := by
            by_cases h1 : px = qx
            · by_cases h2 : pc = qc
              · have h3 : ¬ pd = qd := fun h => hc ⟨h1, h2, h⟩
                simp [h3]
              · simp [h2]
            · simp [h1]
          rw [e3] at hcmp
          have HE : Hid (b = false) := Lib.hid (by rw [← HB.out]; exact decide_eq_false (ne_atT HXK.out HYK.out (fun h => hc ⟨(TupV.mk.inj h).1, (TupV.mk.inj h).2.1, (TupV.mk.inj h).2.2⟩)))
          clear hc e3
          go_wp2_with fail
          go_quiet (fail)
          go_wp2_with fail
          go_ret
          exact ⟨by rw [HE.out]; rfl, below_drewT hb2 _⟩
      · obtain rfl : k = L.length := by omega
        have HE : Hid (b = true) := Lib.hid (by
          have h1 := HT.out
          rw [List.take_length, HL.out, List.take_length] at h1
          rw [← HB.out]; exact decide_eq_true h1)
        have kk : ¬ (L.length : Int) < L.length := by omega
        go_wp2_with fail
        go_ret
        exact ⟨by rw [HE.out]; rfl, hb2⟩
  · have e1 : ((L.length : Int) == (M.length : Int)) = false := by rw [beq_eq_false_iff_ne]; omega
    have e2 : (!(L.length : Int) == (M.length : Int)) = true := by rw [e1]; rfl
    have HE : Hid (b = false) := Lib.hid (by rw [← HB.out]; exact decide_eq_false (fun h => hlen (by rw [h])))
    clear hlen
    go_enter Try.func11, Try.ntmps11
    go_wp2_with fail
    go_ret
    exact ⟨by rw [HE.out]; rfl, Below.refl _ _⟩

set_option maxRecDepth 100000 in
set_option maxHeartbeats 2000000 in
theorem rmoved_in (w : World) (A : Option Addr) (cap : Nat) (S : List SpotV) (k : Nat) (x lo hi : Int) (p q : SpotV) (h : Spts w A S) (hl : S.length ≤ 200) (hk : 0 < k) (hp : S[k - 1]? = some p) (hq : S[k]? = some q)
    (l0 : 0 ≤ lo ∧ lo ≤ 4611686018427387904) (h0 : 0 ≤ hi ∧ hi ≤ 4611686018427387904) (p0 : 0 ≤ p.lo ∧ p.lo ≤ 4611686018427387904) (q0 : 1 ≤ q.hi ∧ q.hi ≤ 4611686018427387904) :
    Calls Try.prog 34 #[.agg #[.int .i64 x, .int .u64 lo, .int .u64 hi], .slice A S.length cap, .int .i64 k] w fun e w' => e = .returned (.agg #[.int .i64 x, .int .u64 (lo + p.lo), .int .u64 (hi + q.hi - 1)]) ∧ Below w.heap.size w w' := by
  obtain ⟨px, pl, ph⟩ := p
  obtain ⟨qx, ql, qh⟩ := q
  have hlt : k < S.length := by
    rcases Nat.lt_or_ge k S.length with h1 | h1
    · exact h1
    · rw [List.getElem?_eq_none h1] at hq; cases hq
  obtain ⟨b0, off, rfl, hbl, c0, c1, c2⟩ := h.at_ _ _ hp
  obtain ⟨b1, off', e1, hbl', d0, d1, d2⟩ := h.at_ _ _ hq
  obtain ⟨rfl, rfl⟩ : b0 = b1 ∧ off = off' := by
    have := Option.some.inj e1
    exact ⟨(Addr.mk.inj this).1, (Addr.mk.inj this).2.1⟩
  simp only at c0 c1 c2 d0 d1 d2 p0 q0
  have g1 : (0 : Int) < k := by omega
  have g2 : (k : Int) < S.length := by omega
  have g3 : IntKind.i64.wrap ((k : Int) - 1) = ((k - 1 : Nat) : Int) := by rw [IntKind.wrap_i64]; omega
  have g4 : ((k - 1 : Nat) : Int) < S.length := by omega
  have g5 : IntKind.u64.wrap (lo + pl) = lo + pl := by rw [IntKind.wrap_u64]; omega
  have g6 : IntKind.u64.wrap (hi + qh) = hi + qh := by rw [IntKind.wrap_u64]; omega
  have g7 : IntKind.u64.wrap (hi + qh - 1) = hi + qh - 1 := by rw [IntKind.wrap_u64]; omega
  clear h hp hq e1 hl c0 c2 d0 d1 hk hlt
  go_enter Try.func34, Try.ntmps34
  go_wp2_with fail
  go_region
  go_wp2_with fail
  go_region
  go_wp2_with fail
  refine bodyPost_ret (v := .agg #[.int .i64 x, .int .u64 (lo + pl), .int .u64 (hi + qh - 1)]) (by simp [results, Try.results34, go_sem]) rfl ⟨rfl, ?_⟩
  exact ((((Below.refl _ _).alloc (Nat.le_refl _) _).alloc (by simp) _).drew).drew

set_option maxRecDepth 100000 in
set_option maxHeartbeats 2000000 in
theorem rmoved_first (w : World) (A : Option Addr) (cap : Nat) (S : List SpotV) (x lo hi : Int) (q : SpotV) (h : Spts w A S) (hl : S.length ≤ 200) (hq : S[0]? = some q)
    (h0 : 0 ≤ hi ∧ hi ≤ 4611686018427387904) (q0 : 1 ≤ q.hi ∧ q.hi ≤ 4611686018427387904) :
    Calls Try.prog 34 #[.agg #[.int .i64 x, .int .u64 lo, .int .u64 hi], .slice A S.length cap, .int .i64 0] w fun e w' => e = .returned (.agg #[.int .i64 x, .int .u64 lo, .int .u64 (hi + q.hi - 1)]) ∧ Below w.heap.size w w' := by
  obtain ⟨qx, ql, qh⟩ := q
  have hlt : 0 < S.length := by
    rcases Nat.lt_or_ge 0 S.length with h1 | h1
    · exact h1
    · rw [List.getElem?_eq_none h1] at hq; cases hq
  obtain ⟨b0, off, rfl, hbl, d0, d1, d2⟩ := h.at_ _ _ hq
  simp only [Nat.zero_mul, Nat.add_zero] at d0 d1 d2 q0
  have g2 : (0 : Int) < S.length := by omega
  have g6 : IntKind.u64.wrap (hi + qh) = hi + qh := by rw [IntKind.wrap_u64]; omega
  have g7 : IntKind.u64.wrap (hi + qh - 1) = hi + qh - 1 := by rw [IntKind.wrap_u64]; omega
  clear h hq hl d0 d1 hlt
  go_enter Try.func34, Try.ntmps34
  go_wp2_with fail
  go_region
  go_wp2_with fail
  refine bodyPost_ret (v := .agg #[.int .i64 x, .int .u64 lo, .int .u64 (hi + qh - 1)]) (by simp [results, Try.results34, go_sem]) rfl ⟨rfl, ?_⟩
  exact (((Below.refl _ _).alloc (Nat.le_refl _) _).alloc (by simp) _).drew

set_option maxRecDepth 100000 in
set_option maxHeartbeats 2000000 in
theorem rmoved_end (w : World) (A : Option Addr) (cap : Nat) (S : List SpotV) (k : Nat) (x lo hi : Int) (p : SpotV) (h : Spts w A S) (hl : S.length ≤ 200) (hk : 0 < k) (hn : S.length = k) (hp : S[k - 1]? = some p)
    (l0 : 0 ≤ lo ∧ lo ≤ 4611686018427387904) (h0 : 0 ≤ hi ∧ hi ≤ 4611686018427387904) (p0 : 0 ≤ p.lo ∧ p.lo ≤ 4611686018427387904) :
    Calls Try.prog 34 #[.agg #[.int .i64 x, .int .u64 lo, .int .u64 hi], .slice A k cap, .int .i64 k] w fun e w' => e = .returned (.agg #[.int .i64 x, .int .u64 (lo + p.lo), .int .u64 (hi + p.lo)]) ∧ Below w.heap.size w w' := by
  have ht : totS S = p.lo := by
    obtain ⟨s, hs, e⟩ := tot_at S (by omega)
    rw [hn, hp] at hs
    rw [e, Option.some.inj hs]
  obtain ⟨px, pl, ph⟩ := p
  have HT : Hid (∀ W, Spts W A S → Calls Try.prog 24 #[.slice A k cap] W fun e w' => e = .returned (.int .u64 pl) ∧ w' = W) := Lib.hid fun W hW => by
    have := rtot18_any W A cap S pl hW hl ht
    rwa [hn] at this
  have HI := Lib.hid h
  obtain ⟨b0, off, rfl, hbl, c0, c1, c2⟩ := h.at_ _ _ hp
  simp only at c0 c1 c2 p0
  have g1 : (0 : Int) < k := by omega
  have g2 : ¬ (k : Int) < k := by omega
  have g3 : IntKind.i64.wrap ((k : Int) - 1) = ((k - 1 : Nat) : Int) := by rw [IntKind.wrap_i64]; omega
  have g4 : ((k - 1 : Nat) : Int) < k := by omega
  have g5 : IntKind.u64.wrap (lo + pl) = lo + pl := by rw [IntKind.wrap_u64]; omega
  have g6 : IntKind.u64.wrap (hi + pl) = hi + pl := by rw [IntKind.wrap_u64]; omega
  clear h hp hl hn ht c0 c2 hk
  go_enter Try.func34, Try.ntmps34
  go_wp2_with fail
  go_region
  go_wp2_with fail
  go_region_with (go_at_call 24; refine (HT.out _ (HI.out.call ((((Below.refl _ _).alloc (Nat.le_refl _) _).alloc (by simp) _).drew).drew)).mono ?_; rintro e w' ⟨rfl, rfl⟩)
  all_goals
    go_wp2_with fail
    refine bodyPost_ret (v := .agg #[.int .i64 x, .int .u64 (lo + pl), .int .u64 (hi + pl)]) (by simp [results, Try.results34, go_sem, g6]) rfl ⟨rfl, ?_⟩
    exact ((((Below.refl _ _).alloc (Nat.le_refl _) _).alloc (by simp) _).drew).drew

set_option maxRecDepth 100000 in
set_option maxHeartbeats 2000000 in
theorem rmoved_none (w : World) (A : Option Addr) (cap : Nat) (x lo hi : Int) (h0 : 0 ≤ hi ∧ hi ≤ 4611686018427387904) :
    Calls Try.prog 34 #[.agg #[.int .i64 x, .int .u64 lo, .int .u64 hi], .slice A 0 cap, .int .i64 0] w fun e w' => e = .returned (.agg #[.int .i64 x, .int .u64 lo, .int .u64 hi]) ∧ Below w.heap.size w w' := by
  have HT : Hid (∀ W, Calls Try.prog 24 #[.slice A 0 cap] W fun e w' => e = .returned (.int .u64 0) ∧ w' = W) := Lib.hid fun W => rtot18_any W A cap [] 0 (Spts.nil W A) (by simp) rfl
  have g6 : IntKind.u64.wrap (hi + 0) = hi := by rw [IntKind.wrap_u64]; omega
  have g7 : IntKind.u64.wrap hi = hi := by rw [IntKind.wrap_u64]; omega
  go_enter Try.func34, Try.ntmps34
  go_wp2_with fail
  go_region_with (go_at_call 24; refine (HT.out _).mono ?_; rintro e w' ⟨rfl, rfl⟩)
  all_goals
    go_wp2_with fail
    refine bodyPost_ret (v := .agg #[.int .i64 x, .int .u64 lo, .int .u64 hi]) (by simp [results, Try.results34, go_sem, g6, g7]) rfl ⟨rfl, ?_⟩
    exact (((Below.refl _ _).alloc (Nat.le_refl _) _).alloc (by simp) _).drew
end Go.Proofs.Ytjmkkglmckiknaa
