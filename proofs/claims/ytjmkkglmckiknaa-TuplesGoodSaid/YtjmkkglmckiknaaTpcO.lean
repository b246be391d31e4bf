/-
  Walks: the landed package tuples: Find, Rank.
-/
import Derived.Test.YtjmkkglmckiknaaTpcJ
namespace Go.Proofs.Ytjmkkglmckiknaa
set_option linter.unusedVariables false
set_option linter.unusedSimpArgs false
open Go.RowKit

/-- The closest one so far. -/
structure FindI (t : Int) (L : List TupV) (k : Nat) (x l : Int) : Prop where
  none_ : k = 0 → x = 0 ∧ l = 0
  some_ : 0 < k → ∃ c, closeS t none (spotsT 0 (L.take k)) = some c ∧ x = c.x ∧ l = farS t c
theorem FindI.zero (t : Int) (L : List TupV) : FindI t L 0 0 0 := ⟨fun _ => ⟨rfl, rfl⟩, fun h => absurd h (Nat.lt_irrefl _)⟩
theorem find_close {t : Int} {L : List TupV} {k : Nat} {p : TupV} (hp : L[k]? = some p) : closeS t none (spotsT 0 (L.take (k + 1))) = pickS t (closeS t none (spotsT 0 (L.take k))) ⟨p.x, sumT (L.take k) + p.st, sumT (L.take k) + p.st + p.sl⟩ := by
  rw [(spots_step hp).1, bef_lo, close_snoc]
theorem FindI.first {t : Int} {L : List TupV} {p : TupV} (hp : L[0]? = some p) {d : Int} (hd : max (t - (sumT (L.take 0) + p.st)) (sumT (L.take 0) + p.st + p.sl - t) = d) : FindI t L 1 p.x d := by
  refine ⟨fun h => absurd h (by omega), fun _ => ⟨⟨p.x, sumT (L.take 0) + p.st, sumT (L.take 0) + p.st + p.sl⟩, ?_, rfl, hd.symm⟩⟩
  rw [find_close hp]
  rfl
theorem FindI.better {t x l d : Int} {L : List TupV} {k : Nat} {p : TupV} (h : FindI t L k x l) (hk : 0 < k) (hp : L[k]? = some p) (hd : max (t - (sumT (L.take k) + p.st)) (sumT (L.take k) + p.st + p.sl - t) = d) (hlt : d < l) : FindI t L (k + 1) p.x d := by
  obtain ⟨c, h1, h2, h3⟩ := h.some_ hk
  refine ⟨fun h => absurd h (by omega), fun _ => ⟨⟨p.x, sumT (L.take k) + p.st, sumT (L.take k) + p.st + p.sl⟩, ?_, rfl, hd.symm⟩⟩
  rw [find_close hp, h1]
  show some (if farS t ⟨p.x, sumT (L.take k) + p.st, sumT (L.take k) + p.st + p.sl⟩ < farS t c then _ else _) = _
  have e : farS t ⟨p.x, sumT (L.take k) + p.st, sumT (L.take k) + p.st + p.sl⟩ = d := hd
  rw [if_pos (by rw [e]; omega)]
theorem FindI.worse {t x l d : Int} {L : List TupV} {k : Nat} {p : TupV} (h : FindI t L k x l) (hk : 0 < k) (hp : L[k]? = some p) (hd : max (t - (sumT (L.take k) + p.st)) (sumT (L.take k) + p.st + p.sl - t) = d) (hlt : ¬ d < l) : FindI t L (k + 1) x l := by
  obtain ⟨c, h1, h2, h3⟩ := h.some_ hk
  refine ⟨fun h => absurd h (by omega), fun _ => ⟨c, ?_, h2, h3⟩⟩
  rw [find_close hp, h1]
  show some (if farS t ⟨p.x, sumT (L.take k) + p.st, sumT (L.take k) + p.st + p.sl⟩ < farS t c then _ else _) = _
  have e : farS t ⟨p.x, sumT (L.take k) + p.st, sumT (L.take k) + p.st + p.sl⟩ = d := hd
  rw [if_neg (by rw [e]; omega)]
theorem FindI.end_ {t x l : Int} {L : List TupV} {n : Nat} (h : FindI t L n x l) (hn : L.length = n) : x = findX t L := by
  unfold findX
  rcases Nat.eq_zero_or_pos n with e | e
  · have h1 := (h.none_ e).1
    have : L = [] := List.eq_nil_of_length_eq_zero (by omega)
    rw [this, h1]; rfl
  · obtain ⟨c, h1, h2, _⟩ := h.some_ e
    rw [List.take_of_length_le (by omega)] at h1
    rw [h1, h2]
theorem gap_max {a b t : Int} (hab : a ≤ b) : max (if t < a then 0 else t - a) (if b < t then 0 else b - t) = max (t - a) (b - t) := by
  by_cases c : t < a
  · rw [if_pos c]
    by_cases d : b < t
    · omega
    · rw [if_neg d]; omega
  · rw [if_neg c]
    by_cases d : b < t
    · rw [if_pos d]; omega
    · rw [if_neg d]

set_option maxRecDepth 100000 in
set_option maxHeartbeats 2000000 in
theorem tfind_any (w : World) (A : Option Addr) (cap : Nat) (L : List TupV) (t : Int) (h : Tups w A L) (hl : L.length ≤ 200) (hg : GoodT L) (ht : Word t) :
    Calls Try.prog 23 #[.slice A L.length cap, .int .u64 t] w fun e w' => e = .returned (.tuple #[.int .i64 (findX t L), .bool (!L.isEmpty)]) ∧ Below w.heap.size w w' := by
  have HI := Lib.hid h
  have HG := Lib.hid hg
  obtain ⟨N, hN⟩ : ∃ N, L.length = N := ⟨_, rfl⟩
  obtain ⟨fx, hfx⟩ : ∃ x, findX t L = x := ⟨_, rfl⟩
  obtain ⟨ok, hok⟩ : ∃ b, (!L.isEmpty) = b := ⟨_, rfl⟩
  have HOK : Hid (decide (0 < N) = ok) := Lib.hid (by
    rw [← hok, ← hN]
    cases L with
    | nil => rfl
    | cons p r => simp)
  rw [hfx, hok, hN]
  have HN := Lib.hid hN
  have HFX := Lib.hid hfx
  have hl2 : N ≤ 200 := by omega
  obtain ⟨t0, t1⟩ := ht
  clear h hg hl hN hfx hok
  go_enter Try.func23, Try.ntmps23
  go_wp2_with fail
  go_loopw [6, 7, 8, 14] (fun xv pv lv jv wr => ∃ (k : Nat) (x m l : Int), k ≤ N ∧ jv = .int .i64 k ∧ xv = .int .i64 x ∧ pv = .int .u64 m ∧ lv = .int .u64 l ∧ sumT (L.take k) = m ∧ FindI t L k x l ∧ Word l ∧ Below w.heap.size w wr) (fun _ _ _ jv _ => N - (intOf jv).toNat)
  case atStart => exact ⟨0, 0, 0, 0, Nat.zero_le _, rfl, rfl, rfl, rfl, rfl, FindI.zero t L, by unfold Word; omega, Below.refl _ _⟩
  case round =>
    obtain ⟨k, x, m, l, hk, rfl, rfl, rfl, rfl, hm, hf, hlw, hb2⟩ := hrel
    have HM := Lib.hid hm
    have HF := Lib.hid hf
    have HB := Lib.hid hb2
    have hbs := hb2.size
    have HLW := Lib.hid hlw
    obtain ⟨lw0, lw1⟩ := hlw
    clear hm hf hb2
    by_cases hlt : k < N
    · have kk : (k : Int) < N := by omega
      have hxk := List.getElem?_eq_getElem (l := L) (i := k) (by rw [HN.out]; exact hlt)
      generalize L[k]'(by rw [HN.out]; exact hlt) = p at hxk
      obtain ⟨px, ps, pl⟩ := p
      obtain ⟨b0, off, rfl, hbl, c0, c1, c2⟩ := (HI.out.call HB.out).at_ k _ hxk
      obtain ⟨g1, g2, g3, g4, g5⟩ := good_at HG.out hxk
      have hst := sumT_step hxk
      simp only at c0 c1 c2 g1 g2 g3 g4 hst
      rw [HM.out] at g1 g2 g5 hst
      have HST := Lib.hid hst
      have HXK := Lib.hid hxk
      have HBN : Hid (Below w.heap.size w (wr.alloc (.cells #[.int .i64 px, .int .u64 ps, .int .u64 pl] 52))) := Lib.hid (HB.out.alloc hbs _)
      have u1 : IntKind.u64.wrap (m + ps) = m + ps := by rw [IntKind.wrap_u64]; omega
      have u2 : IntKind.u64.wrap (m + ps + pl) = m + ps + pl := by rw [IntKind.wrap_u64]; omega
      obtain ⟨ga, hga⟩ : ∃ g, (if t < m + ps then 0 else t - (m + ps)) = g := ⟨_, rfl⟩
      obtain ⟨gb, hgb⟩ : ∃ g, (if m + ps + pl < t then 0 else m + ps + pl - t) = g := ⟨_, rfl⟩
      have HA := Lib.hid (fun W => tgap_any W (m + ps) t ga ⟨by omega, by omega⟩ ⟨t0, t1⟩ hga)
      have HBB := Lib.hid (fun W => tgap_any W t (m + ps + pl) gb ⟨t0, t1⟩ ⟨by omega, by omega⟩ hgb)
      obtain ⟨d, hd⟩ : ∃ d, max ga gb = d := ⟨_, rfl⟩
      have hdd : max (t - (sumT (L.take k) + ps)) (sumT (L.take k) + ps + pl - t) = d := by rw [HM.out, ← hd, ← hga, ← hgb, gap_max (by omega)]
      have hdw : 0 ≤ d ∧ d < 18446744073709551616 := by rw [HM.out] at hdd; omega
      have HD := Lib.hid hdd
      obtain ⟨d0, d1⟩ := hdw
      clear hst hxk hdd hga hgb
      go_wp2_with fail
      go_quiet ((go_at_call 37; first | (with_reducible exact Calls.quiet_of_same (HA.out _)) | (with_reducible exact Calls.quiet_of_same (HBB.out _))))
      rename_i nq
      have HBQ : Hid (Below w.heap.size w ((wr.alloc (.cells #[.int .i64 px, .int .u64 ps, .int .u64 pl] 52)).drewN nq)) := Lib.hid (below_drewT HBN.out _)
      by_cases k0 : k = 0
      · have e1 : ((k : Int) == 0) = true := by simp [k0]
        have HF1 : Hid (FindI t L (k + 1) px d) := Lib.hid (by
          subst k0
          exact FindI.first HXK.out HD.out)
        clear k0
        go_wp2_with fail
        go_roundw
        case rel => exact ⟨k + 1, px, m + ps, d, by omega, by go_num, rfl, rfl, rfl, HST.out, HF1.out, ⟨d0, d1⟩, HBQ.out⟩
        case measure => simp [intOf]; omega
      · have e1 : ((k : Int) == 0) = false := by rw [beq_eq_false_iff_ne]; omega
        by_cases hdl : d < l
        · have e2 : decide (d < l) = true := decide_eq_true hdl
          have HF1 : Hid (FindI t L (k + 1) px d) := Lib.hid (HF.out.better (by omega) HXK.out HD.out hdl)
          clear k0
          go_wp2_with fail
          go_roundw
          case rel => exact ⟨k + 1, px, m + ps, d, by omega, by go_num, rfl, rfl, rfl, HST.out, HF1.out, ⟨d0, d1⟩, HBQ.out⟩
          case measure => simp [intOf]; omega
        · have e2 : decide (d < l) = false := decide_eq_false hdl
          have HF1 : Hid (FindI t L (k + 1) x l) := Lib.hid (HF.out.worse (by omega) HXK.out HD.out hdl)
          clear k0
          go_wp2_with fail
          go_roundw
          case rel => exact ⟨k + 1, x, m + ps, l, by omega, by go_num, rfl, rfl, rfl, HST.out, HF1.out, HLW.out, HBQ.out⟩
          case measure => simp [intOf]; omega
    · obtain rfl : k = N := by omega
      have HE : Hid (x = fx) := Lib.hid (by rw [← HFX.out]; exact HF.out.end_ HN.out)
      have kk : ¬ (k : Int) < k := by omega
      by_cases k0 : 0 < k
      · have e1 : decide (0 < k) = true := decide_eq_true k0
        have e2 : decide ((0 : Int) < (k : Int)) = true := decide_eq_true (by omega)
        have HO : Hid (true = ok) := Lib.hid (by rw [← HOK.out, e1])
        go_wp2_with fail
        go_ret2
        exact ⟨ret_pair HE.out HO.out, HB.out⟩
      · have e1 : decide (0 < k) = false := decide_eq_false k0
        have e2 : decide ((0 : Int) < (k : Int)) = false := decide_eq_false (by omega)
        have HO : Hid (false = ok) := Lib.hid (by rw [← HOK.out, e1])
        go_wp2_with fail
        go_ret2
        exact ⟨ret_pair HE.out HO.out, HB.out⟩

set_option maxRecDepth 100000 in
set_option maxHeartbeats 2000000 in
theorem trank_any (w : World) (A : Option Addr) (cap : Nat) (L : List TupV) (x : Int) (h : Tups w A L) (hc : L.length ≤ cap) (hl : L.length ≤ 200) (hg : GoodT L) (hx : I64 x) :
    Calls Try.prog 22 #[.slice A L.length cap, .int .i64 x] w fun e w' => e = .returned (.tuple #[.int .u64 (rankLo (spotsT 0 L) x), .int .u64 (rankHi (spotsT 0 L) (sumT L) x)]) ∧ Below w.heap.size w w' := by
  have hsort := hg.sort
  rw [rank_lo hsort, rank_hi hsort]
  obtain ⟨n, hn⟩ : ∃ n, L.length = n := ⟨_, rfl⟩
  obtain ⟨k, hk⟩ : ∃ k, fromT false x L = k := ⟨_, rfl⟩
  have hkn : k ≤ n := by rw [← hk, ← hn]; exact from_le _ _ _
  rw [hk]
  rw [hn] at hc ⊢
  have heg : ∀ args w, (callFunc 45 args).run Try.prog w = .ok (.enter 45 args) w := enters_of Try.func45 (by kernel_rfl) rfl
  have HBH := Lib.hid (tbehind_any w A n cap false)
  have HFR := Lib.hid (fun (W : World) (hW : Below w.heap.size w W) (hX : BoxT W w.heap.size (w.heap.size + 1) A n cap false) => tfrom_any W w.heap.size (w.heap.size + 1) cap n k A L x false hn (by omega) hx (h.call hW) hsort hX hk)
  obtain ⟨r, hr⟩ : ∃ r, roomT L k = r := ⟨_, rfl⟩
  have HRO := Lib.hid (fun (W : World) (hW : Below w.heap.size w W) => troom_any W A cap n k L r (h.call hW) hn hkn (by omega) (room_bd hg) hr)
  obtain ⟨s, hs⟩ : ∃ s, sumT (L.take k) = s := ⟨_, rfl⟩
  rw [hs, hr]
  have HS := Lib.hid hs
  have HI := Lib.hid h
  have HG := Lib.hid hg
  have HN := Lib.hid hn
  have hrr := room_range hg k
  rw [hr] at hrr
  have hsr : 0 ≤ s ∧ s ≤ 9223372036854775807 := by
    have := sumT_take (st_all h) k
    have := hg.max
    omega
  obtain ⟨r0, r1⟩ := hrr
  obtain ⟨s0, s1⟩ := hsr
  have u0 : IntKind.u64.wrap (s + r) = s + r := by rw [IntKind.wrap_u64]; omega
  have hl2 : n ≤ 200 := by omega
  have hkc : k ≤ cap := by omega
  have hkc2 : (k : Int) ≤ (cap : Int) := by omega
  have HE := Lib.hid heg
  clear h hg hn hk hr hs hsort heg
  go_enter Try.func22, Try.ntmps22
  go_wp2_with fail
  refine HBH.out.mono ?_
  rintro e w1 ⟨rfl, hX, hb1⟩
  have HX := Lib.hid hX
  have HB1 := Lib.hid hb1
  clear hX hb1
  have heg := HE.out
  go_wp2_with fail
  refine (HFR.out w1 HB1.out HX.out).mono ?_
  rintro e w2 ⟨rfl, hb2⟩
  have HB2 : Hid (Below w.heap.size w w2) := Lib.hid (HB1.out.trans (hb2.mono HB1.out.size))
  clear hb2 heg
  go_wp2_with fail
  go_loopw [7, 18] (fun sv jv wr => ∃ (i : Nat) (m : Int), i ≤ k ∧ jv = .int .i64 i ∧ sv = .int .u64 m ∧ sumT (L.take i) = m ∧ Below w.heap.size w wr) (fun _ jv _ => k - (intOf jv).toNat)
  case atStart => exact ⟨0, 0, Nat.zero_le _, rfl, rfl, rfl, HB2.out⟩
  case round =>
    obtain ⟨i, m, hi, rfl, rfl, hm, hb3⟩ := hrel
    have HM := Lib.hid hm
    have HB := Lib.hid hb3
    have hbs := hb3.size
    clear hm hb3
    by_cases hlt : i < k
    · have kk : (i : Int) < k := by omega
      have hxk := List.getElem?_eq_getElem (l := L) (i := i) (by rw [HN.out]; omega)
      generalize L[i]'(by rw [HN.out]; omega) = p at hxk
      obtain ⟨px, ps, pl⟩ := p
      obtain ⟨b0, off, rfl, hbl, c0, c1, c2⟩ := (HI.out.call HB.out).at_ i _ hxk
      obtain ⟨g1, g2, g3, g4, g5⟩ := good_at HG.out hxk
      have hst := sumT_step hxk
      simp only at c0 c1 c2 g1 g2 g3 g4 hst
      rw [HM.out] at g1 g2 g5 hst
      have HST := Lib.hid hst
      have u1 : IntKind.u64.wrap (m + ps) = m + ps := by rw [IntKind.wrap_u64]; omega
      have HBN : Hid (Below w.heap.size w (wr.alloc (.cells #[.int .i64 px, .int .u64 ps, .int .u64 pl] 52))) := Lib.hid (HB.out.alloc hbs _)
      clear hst hxk
      go_wp2_with fail
      go_roundw
      case rel => exact ⟨i + 1, m + ps, by omega, by go_num, rfl, HST.out, HBN.out⟩
      case measure => simp [intOf]; omega
    · obtain rfl : i = k := by omega
      have HE2 : Hid (m = s) := Lib.hid (by rw [← HM.out, HS.out])
      have kk : ¬ (i : Int) < i := by omega
      obtain rfl := HE2.out
      go_wp2_with fail
      refine (HRO.out wr HB.out).mono ?_
      rintro e w4 ⟨rfl, hb4⟩
      have HB4 := Lib.hid hb4
      clear hb4
      go_wp2_with fail
      go_ret2
      exact ⟨rfl, HB.out.trans (HB4.out.mono HB.out.size)⟩
end Go.Proofs.Ytjmkkglmckiknaa
