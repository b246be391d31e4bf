/-
  Texts joined, in build order: TpcO, TpcX, GwcX, PairA, Open, TupB, GwO, GwB, TreeM, DigM, GwE, GwD, GwS, GwL, GwN, GwK.
-/
import Derived.Test.YtfmlkohijkalbaaK3
import Derived.Test.YtfmlkohijkalbaaRows
import Derived.WalkKit
import Derived.WalkSpells
import Derived.WalkLawsBesides
import Derived.WalkMore
import Derived.LoopTactic
import Derived.OwnWalk
import Derived.OneCell
import Derived.Outline
import Derived.Lib.Strings
import Derived.Deep.Slices
import Derived.Deep.Fields
import Derived.SizedLaws
import Derived.Carry
import Derived.Laws.AppendOwnNone
import Derived.StillTailTactics
import Derived.Deep.QuietTactic
import Derived.BigQuiet
import Derived.ProofKit
import Derived.OpenShut
import Derived.Lib.SmallJoins
/-
  Walks: the landed package tuples: Find, Rank.
-/
namespace Go.Proofs.Ytfmlkohijkalbaa
set_option linter.unusedVariables false
set_option linter.unusedSimpArgs false
open Go.RowKit

/-- The closest one so far. -/
structure FindI (t : Int) (L : List TupV) (k : Nat) (x l : Int) : Prop where
  none_ : k = 0 → x = 0 ∧ l = 0
  some_ : 0 < k → ∃ c, closeS t none (spotsT 0 (L.take k)) = some c ∧ x = c.x ∧ l = farS t c
theorem FindI.zero (t : Int) (L : List TupV) : FindI t L 0 0 0 := ⟨fun _ => ⟨rfl, rfl⟩, fun h => absurd h (Nat.lt_irrefl _)⟩
theorem find_close {t : Int} {L : List TupV} {k : Nat} {p : TupV} (hp : L[k]? = some p) : closeS t none (spotsT 0 (L.take (k + 1))) = pickS t (closeS t none (spotsT 0 (L.take k))) ⟨p.x, sumT (L.take k) + p.st, sumT (L.take k) + p.st + p.sl⟩ := by
  rw [(spots_step hp).1, bef_lo, close_snoc]
theorem FindI.first {t : Int} {L : List TupV} {p : TupV} (hp : L[0]? = some p) {d : Int} (hd : max (t - (sumT (L.take 0) + p.st)) (sumT (L.take 0) + p.st + p.sl - t) = d) : FindI t L 1 p.x d := by
  refine ⟨fun h => absurd h (by omega), fun _ => ⟨⟨p.x, sumT (L.take 0) + p.st, sumT (L.take 0) + p.st + p.sl⟩, ?_, rfl, hd.symm⟩⟩
  rw [find_close hp]
  rfl
theorem FindI.better {t x l d : Int} {L : List TupV} {k : Nat} {p : TupV} (h : FindI t L k x l) (hk : 0 < k) (hp : L[k]? = some p) (hd : max (t - (sumT (L.take k) + p.st)) (sumT (L.take k) + p.st + p.sl - t) = d) (hlt : d < l) : FindI t L (k + 1) p.x d := by
  obtain ⟨c, h1, h2, h3⟩ := h.some_ hk
  refine ⟨fun h => absurd h (by omega), fun _ => ⟨⟨p.x, sumT (L.take k) + p.st, sumT (L.take k) + p.st + p.sl⟩, ?_, rfl, hd.symm⟩⟩
  rw [find_close hp, h1]
  show some (if farS t ⟨p.x, sumT (L.take k) + p.st, sumT (L.take k) + p.st + p.sl⟩ < farS t c then _ else _) = _
  have e : farS t ⟨p.x, sumT (L.take k) + p.st, sumT (L.take k) + p.st + p.sl⟩ = d := hd
  rw [if_pos (by rw [e]; omega)]
theorem FindI.worse {t x l d : Int} {L : List TupV} {k : Nat} {p : TupV} (h : FindI t L k x l) (hk : 0 < k) (hp : L[k]? = some p) (hd : max (t - (sumT (L.take k) + p.st)) (sumT (L.take k) + p.st + p.sl - t) = d) (hlt : ¬ d < l) : FindI t L (k + 1) x l := by
  obtain ⟨c, h1, h2, h3⟩ := h.some_ hk
  refine ⟨fun h => absurd h (by omega), fun _ => ⟨c, ?_, h2, h3⟩⟩
  rw [find_close hp, h1]
  show some (if farS t ⟨p.x, sumT (L.take k) + p.st, sumT (L.take k) + p.st + p.sl⟩ < farS t c then _ else _) = _
  have e : farS t ⟨p.x, sumT (L.take k) + p.st, sumT (L.take k) + p.st + p.sl⟩ = d := hd
  rw [if_neg (by rw [e]; omega)]
theorem FindI.end_ {t x l : Int} {L : List TupV} {n : Nat} (h : FindI t L n x l) (hn : L.length = n) : x = findX t L := by
  unfold findX
  rcases Nat.eq_zero_or_pos n with e | e
  · have h1 := (h.none_ e).1
    have : L = [] := List.eq_nil_of_length_eq_zero (by omega)
    rw [this, h1]; rfl
  · obtain ⟨c, h1, h2, _⟩ := h.some_ e
    rw [List.take_of_length_le (by omega)] at h1
    rw [h1, h2]
theorem gap_max {a b t : Int} (hab : a ≤ b) : max (if t < a then 0 else t - a) (if b < t then 0 else b - t) = max (t - a) (b - t) := by
  by_cases c : t < a
  · rw [if_pos c]
    by_cases d : b < t
    · omega
    · rw [if_neg d]; omega
  · rw [if_neg c]
    by_cases d : b < t
    · rw [if_pos d]; omega
    · rw [if_neg d]

set_option maxRecDepth 100000 in
set_option maxHeartbeats 2000000 in
theorem tfind_any (w : World) (A : Option Addr) (cap : Nat) (L : List TupV) (t : Int) (h : Tups w A L) (hl : L.length ≤ 20000) (hg : GoodT L) (ht : Word t) :
    Calls Try.prog 43 #[.slice A L.length cap, .int .u64 t] w fun e w' => e = .returned (.tuple #[.int .i64 (findX t L), .bool (!L.isEmpty)]) ∧ Below w.heap.size w w' := by
  have HI := Lib.hid h
  have HG := Lib.hid hg
  obtain ⟨N, hN⟩ : ∃ N, L.length = N := ⟨_, rfl⟩
  obtain ⟨fx, hfx⟩ : ∃ x, findX t L = x := ⟨_, rfl⟩
  obtain ⟨ok, hok⟩ : ∃ b, (!L.isEmpty) = b := ⟨_, rfl⟩
  have HOK : Hid (decide (0 < N) = ok) := Lib.hid (by
    rw [← hok, ← hN]
    cases L with
    | nil => rfl
    | cons p r => simp)
  rw [hfx, hok, hN]
  have HN := Lib.hid hN
  have HFX := Lib.hid hfx
  have hl2 : N ≤ 20000 := by omega
  obtain ⟨t0, t1⟩ := ht
  clear h hg hl hN hfx hok
  go_enter Try.func43, Try.ntmps43
  go_wp2_with fail
  go_loopw [6, 7, 8, 14] (fun xv pv lv jv wr => ∃ (k : Nat) (x m l : Int), k ≤ N ∧ jv = .int .i64 k ∧ xv = .int .i64 x ∧ pv = .int .u64 m ∧ lv = .int .u64 l ∧ sumT (L.take k) = m ∧ FindI t L k x l ∧ Word l ∧ Below w.heap.size w wr) (fun _ _ _ jv _ => N - (intOf jv).toNat)
  case atStart => exact ⟨0, 0, 0, 0, Nat.zero_le _, rfl, rfl, rfl, rfl, rfl, FindI.zero t L, by unfold Word; omega, Below.refl _ _⟩
  case round =>
    obtain ⟨k, x, m, l, hk, rfl, rfl, rfl, rfl, hm, hf, hlw, hb2⟩ := hrel
    have HM := Lib.hid hm
    have HF := Lib.hid hf
    have HB := Lib.hid hb2
    have hbs := hb2.size
    have HLW := Lib.hid hlw
    obtain ⟨lw0, lw1⟩ := hlw
    clear hm hf hb2
    by_cases hlt : k < N
    · have kk : (k : Int) < N := by omega
      have hxk := List.getElem?_eq_getElem (l := L) (i := k) (by rw [HN.out]; exact hlt)
      generalize L[k]'(by rw [HN.out]; exact hlt) = p at hxk
      obtain ⟨px, ps, pl⟩ := p
      obtain ⟨b0, off, rfl, hbl, c0, c1, c2⟩ := (HI.out.call HB.out).at_ k _ hxk
      obtain ⟨g1, g2, g3, g4, g5⟩ := good_at HG.out hxk
      have hst := sumT_step hxk
      simp only at c0 c1 c2 g1 g2 g3 g4 hst
      rw [HM.out] at g1 g2 g5 hst
      have HST := Lib.hid hst
      have HXK := Lib.hid hxk
      have HBN : Hid (Below w.heap.size w (wr.alloc (.cells #[.int .i64 px, .int .u64 ps, .int .u64 pl] 68))) := Lib.hid (HB.out.alloc hbs _)
      have u1 : IntKind.u64.wrap (m + ps) = m + ps := by rw [IntKind.wrap_u64]; omega
      have u2 : IntKind.u64.wrap (m + ps + pl) = m + ps + pl := by rw [IntKind.wrap_u64]; omega
      obtain ⟨ga, hga⟩ : ∃ g, (if t < m + ps then 0 else t - (m + ps)) = g := ⟨_, rfl⟩
      obtain ⟨gb, hgb⟩ : ∃ g, (if m + ps + pl < t then 0 else m + ps + pl - t) = g := ⟨_, rfl⟩
      have HA := Lib.hid (fun W => tgap_any W (m + ps) t ga ⟨by omega, by omega⟩ ⟨t0, t1⟩ hga)
      have HBB := Lib.hid (fun W => tgap_any W t (m + ps + pl) gb ⟨t0, t1⟩ ⟨by omega, by omega⟩ hgb)
      obtain ⟨d, hd⟩ : ∃ d, max ga gb = d := ⟨_, rfl⟩
      have hdd : max (t - (sumT (L.take k) + ps)) (sumT (L.take k) + ps + pl - t) = d := by rw [HM.out, ← hd, ← hga, ← hgb, gap_max (by omega)]
      have hdw : 0 ≤ d ∧ d < 18446744073709551616 := by rw [HM.out] at hdd; omega
      have HD := Lib.hid hdd
      obtain ⟨d0, d1⟩ := hdw
      clear hst hxk hdd hga hgb
      go_wp2_with fail
      go_quiet ((go_at_call 65; first | (with_reducible exact Calls.quiet_of_same (HA.out _)) | (with_reducible exact Calls.quiet_of_same (HBB.out _))))
      rename_i nq
      have HBQ : Hid (Below w.heap.size w ((wr.alloc (.cells #[.int .i64 px, .int .u64 ps, .int .u64 pl] 68)).drewN nq)) := Lib.hid (below_drewT HBN.out _)
      by_cases k0 : k = 0
      · have e1 : ((k : Int) == 0) = true := by simp [k0]
        have HF1 : Hid (FindI t L (k + 1) px d) := Lib.hid (by
          subst k0
          exact FindI.first HXK.out HD.out)
        clear k0
        go_wp2_with fail
        go_roundw
        case rel => exact ⟨k + 1, px, m + ps, d, by omega, by go_num, rfl, rfl, rfl, HST.out, HF1.out, ⟨d0, d1⟩, HBQ.out⟩
        case measure => simp [intOf]; omega
      · have e1 : ((k : Int) == 0) = false := by rw [beq_eq_false_iff_ne]; omega
        by_cases hdl : d < l
        · have e2 : decide (d < l) = true := decide_eq_true hdl
          have HF1 : Hid (FindI t L (k + 1) px d) := Lib.hid (HF.out.better (by omega) HXK.out HD.out hdl)
          clear k0
          go_wp2_with fail
          go_roundw
          case rel => exact ⟨k + 1, px, m + ps, d, by omega, by go_num, rfl, rfl, rfl, HST.out, HF1.out, ⟨d0, d1⟩, HBQ.out⟩
          case measure => simp [intOf]; omega
        · have e2 : decide (d < l) = false := decide_eq_false hdl
          have HF1 : Hid (FindI t L (k + 1) x l) := Lib.hid (HF.out.worse (by omega) HXK.out HD.out hdl)
          clear k0
          go_wp2_with fail
          go_roundw
          case rel => exact ⟨k + 1, x, m + ps, l, by omega, by go_num, rfl, rfl, rfl, HST.out, HF1.out, HLW.out, HBQ.out⟩
          case measure => simp [intOf]; omega
    · obtain rfl : k = N := by omega
      have HE : Hid (x = fx) := Lib.hid (by rw [← HFX.out]; exact HF.out.end_ HN.out)
      have kk : ¬ (k : Int) < k := by omega
      by_cases k0 : 0 < k
      · have e1 : decide (0 < k) = true := decide_eq_true k0
        have e2 : decide ((0 : Int) < (k : Int)) = true := decide_eq_true (by omega)
        have HO : Hid (true = ok) := Lib.hid (by rw [← HOK.out, e1])
        go_wp2_with fail
        go_ret2
        exact ⟨ret_pair HE.out HO.out, HB.out⟩
      · have e1 : decide (0 < k) = false := decide_eq_false k0
        have e2 : decide ((0 : Int) < (k : Int)) = false := decide_eq_false (by omega)
        have HO : Hid (false = ok) := Lib.hid (by rw [← HOK.out, e1])
        go_wp2_with fail
        go_ret2
        exact ⟨ret_pair HE.out HO.out, HB.out⟩

set_option maxRecDepth 100000 in
set_option maxHeartbeats 2000000 in
theorem trank_any (w : World) (A : Option Addr) (cap : Nat) (L : List TupV) (x : Int) (h : Tups w A L) (hc : L.length ≤ cap) (hl : L.length ≤ 20000) (hg : GoodT L) (hx : I64 x) :
    Calls Try.prog 45 #[.slice A L.length cap, .int .i64 x] w fun e w' => e = .returned (.tuple #[.int .u64 (rankLo (spotsT 0 L) x), .int .u64 (rankHi (spotsT 0 L) (sumT L) x)]) ∧ Below w.heap.size w w' := by
  have hsort := hg.sort
  rw [rank_lo hsort, rank_hi hsort]
  obtain ⟨n, hn⟩ : ∃ n, L.length = n := ⟨_, rfl⟩
  obtain ⟨k, hk⟩ : ∃ k, fromT false x L = k := ⟨_, rfl⟩
  have hkn : k ≤ n := by rw [← hk, ← hn]; exact from_le _ _ _
  rw [hk]
  rw [hn] at hc ⊢
  have heg : ∀ args w, (callFunc 82 args).run Try.prog w = .ok (.enter 82 args) w := enters_of Try.func82 (by kernel_rfl) rfl
  have HBH := Lib.hid (tbehind_any w A n cap false)
  have HFR := Lib.hid (fun (W : World) (hW : Below w.heap.size w W) (hX : BoxT W w.heap.size (w.heap.size + 1) A n cap false) => tfrom_any W w.heap.size (w.heap.size + 1) cap n k A L x false hn (by omega) hx (h.call hW) hsort hX hk)
  obtain ⟨r, hr⟩ : ∃ r, roomT L k = r := ⟨_, rfl⟩
  have HRO := Lib.hid (fun (W : World) (hW : Below w.heap.size w W) => troom_any W A cap n k L r (h.call hW) hn hkn (by omega) (room_bd hg) hr)
  obtain ⟨s, hs⟩ : ∃ s, sumT (L.take k) = s := ⟨_, rfl⟩
  rw [hs, hr]
  have HS := Lib.hid hs
  have HI := Lib.hid h
  have HG := Lib.hid hg
  have HN := Lib.hid hn
  have hrr := room_range hg k
  rw [hr] at hrr
  have hsr : 0 ≤ s ∧ s ≤ 9223372036854775807 := by
    have := sumT_take (st_all h) k
    have := hg.max
    omega
  obtain ⟨r0, r1⟩ := hrr
  obtain ⟨s0, s1⟩ := hsr
  have u0 : IntKind.u64.wrap (s + r) = s + r := by rw [IntKind.wrap_u64]; omega
  have hl2 : n ≤ 20000 := by omega
  have hkc : k ≤ cap := by omega
  have hkc2 : (k : Int) ≤ (cap : Int) := by omega
  have HE := Lib.hid heg
  clear h hg hn hk hr hs hsort heg
  go_enter Try.func45, Try.ntmps45
  go_wp2_with fail
  refine HBH.out.mono ?_
  rintro e w1 ⟨rfl, hX, hb1⟩
  have HX := Lib.hid hX
  have HB1 := Lib.hid hb1
  clear hX hb1
  have heg := HE.out
  go_wp2_with fail
  refine (HFR.out w1 HB1.out HX.out).mono ?_
  rintro e w2 ⟨rfl, hb2⟩
  have HB2 : Hid (Below w.heap.size w w2) := Lib.hid (HB1.out.trans (hb2.mono HB1.out.size))
  clear hb2 heg
  go_wp2_with fail
  go_loopw [7, 18] (fun sv jv wr => ∃ (i : Nat) (m : Int), i ≤ k ∧ jv = .int .i64 i ∧ sv = .int .u64 m ∧ sumT (L.take i) = m ∧ Below w.heap.size w wr) (fun _ jv _ => k - (intOf jv).toNat)
  case atStart => exact ⟨0, 0, Nat.zero_le _, rfl, rfl, rfl, HB2.out⟩
  case round =>
    obtain ⟨i, m, hi, rfl, rfl, hm, hb3⟩ := hrel
    have HM := Lib.hid hm
    have HB := Lib.hid hb3
    have hbs := hb3.size
    clear hm hb3
    by_cases hlt : i < k
    · have kk : (i : Int) < k := by omega
      have hxk := List.getElem?_eq_getElem (l := L) (i := i) (by rw [HN.out]; omega)
      generalize L[i]'(by rw [HN.out]; omega) = p at hxk
      obtain ⟨px, ps, pl⟩ := p
      obtain ⟨b0, off, rfl, hbl, c0, c1, c2⟩ := (HI.out.call HB.out).at_ i _ hxk
      obtain ⟨g1, g2, g3, g4, g5⟩ := good_at HG.out hxk
      have hst := sumT_step hxk
      simp only at c0 c1 c2 g1 g2 g3 g4 hst
      rw [HM.out] at g1 g2 g5 hst
      have HST := Lib.hid hst
      have u1 : IntKind.u64.wrap (m + ps) = m + ps := by rw [IntKind.wrap_u64]; omega
      have HBN : Hid (Below w.heap.size w (wr.alloc (.cells #[.int .i64 px, .int .u64 ps, .int .u64 pl] 68))) := Lib.hid (HB.out.alloc hbs _)
      clear hst hxk
      go_wp2_with fail
      go_roundw
      case rel => exact ⟨i + 1, m + ps, by omega, by go_num, rfl, HST.out, HBN.out⟩
      case measure => simp [intOf]; omega
    · obtain rfl : i = k := by omega
      have HE2 : Hid (m = s) := Lib.hid (by rw [← HM.out, HS.out])
      have kk : ¬ (i : Int) < i := by omega
      obtain rfl := HE2.out
      go_wp2_with fail
      refine (HRO.out wr HB.out).mono ?_
      rintro e w4 ⟨rfl, hb4⟩
      have HB4 := Lib.hid hb4
      clear hb4
      go_wp2_with fail
      go_ret2
      exact ⟨rfl, HB.out.trans (HB4.out.mono HB.out.size)⟩
end Go.Proofs.Ytfmlkohijkalbaa

/-
  The landed package tuples does what it is to do.
-/
namespace Go.Proofs.Ytfmlkohijkalbaa
set_option linter.unusedVariables false
set_option linter.unusedSimpArgs false
open Go.RowKit

theorem tup_does : TupDoes where
  good := tgood_any
  total := ttotal_any
  limit := tlimit_any
  insert := tinsert_any
  squeeze := tsqueeze_any
  merge := tmerge_any
  find := tfind_any
  rank := trank_any
end Go.Proofs.Ytfmlkohijkalbaa

/-
  The landed package greenwald does what it is to do.
-/
namespace Go.Proofs.Ytfmlkohijkalbaa
set_option linter.unusedVariables false
set_option linter.unusedSimpArgs false
open Go.RowKit

theorem gwx_of {w w' : World} {B : Nat} {u v n : Int} {vr vw : Value} {s : GwV} {e : Int × Int × Bool} (ha : GoodA u v) (ok : OkX s) (hf : s.2.length < 16) (he : EndG s e) (hn : totG s = n) (h : LeftX w B u v vr vw s.1 s.2 n w') : ∃ S', GwX w' B S' u v s e ∧ Keeps (rgS B vr vw) w w' ∧ ∀ i, S' i → rgS B vr vw i ∨ w.heap.size ≤ i := by
  obtain ⟨v1, v2, h1, h2, h3⟩ := h
  exact ⟨_, ⟨ha, ok, hf, he, v1, v2, by rw [hn]; exact h1, rfl⟩, h2, h3⟩
theorem flush_few {u v : Int} {s : GwV} (ok : OkX s) : (flushG u v s).2.length < 16 := by rw [(OkX.flush (u := u) (v := v) ok).2.2.2]; decide

theorem gw_does : GwDoes GwX where
  keep w w' B S u v s e h hk := by
    obtain ⟨h1, h2, h3, h4, vr, vw, h5, rfl⟩ := h
    exact ⟨h1, h2, h3, h4, vr, vw, h5.at_ hk, rfl⟩
  lt w B S u v s e h := by
    obtain ⟨h1, h2, h3, h4, vr, vw, h5, rfl⟩ := h
    exact h5.blocks
  good := gw_good
  new w u v ha := by
    have u1 := ha.u1
    have uv := ha.uv
    have v2 := ha.v2
    refine gw_new_to w u v _ ?_
    refine (gw_load tup_does (w.alloc (.cells #[.int .u64 u, .int .u64 v] 24)) u v none 0 [] none 0 [] (by unfold Word; omega) (by unfold Word; omega) (Tups.nil _ _) (Nums.nil _ _) (by decide) (by decide) (fun _ => by decide) ⟨ha, ⟨by decide, rfl, FirstS.nil⟩, by decide, fun p hp => by cases hp⟩).mono ?_
    rintro r w' ⟨B, S, e, rfl, hx, hS, hb⟩
    have b0 : Below w.heap.size w (w.alloc (.cells #[.int .u64 u, .int .u64 v] 24)) := (Below.refl _ _).alloc (Nat.le_refl _) _
    have he : e = (0, 0, false) := by
      rcases hx.2.2.2.1 with ⟨_, h⟩ | ⟨h, _⟩
      · exact h
      · cases h
    rw [he] at hx
    exact ⟨_, _, rfl, B, S, rfl, hx, fun i hi => Nat.le_trans b0.size (hS i hi), b0.trans (hb.mono b0.size)⟩
  bad w a b ha hb h := by
    refine gw_new_to w a b _ ?_
    refine (gw_load_c1 (w.alloc (.cells #[.int .u64 a, .int .u64 b] 24)) a b _ _ ha hb h).mono ?_
    rintro e w' ⟨rfl, hb⟩
    have b0 : Below w.heap.size w (w.alloc (.cells #[.int .u64 a, .int .u64 b] 24)) := (Below.refl _ _).alloc (Nat.le_refl _) _
    exact ⟨_, _, rfl, rfl, b0.trans (hb.mono b0.size)⟩
  total w B S u v s e h := by
    obtain ⟨h1, h2, h3, h4, vr, vw, h5, rfl⟩ := h
    exact gw_total h5.c4
  part w B S u v s e h := by
    obtain ⟨h1, h2, h3, h4, vr, vw, h5, rfl⟩ := h
    exact gw_part h5.c0 h5.c1
  flush w B S u v s e h := by
    obtain ⟨h1, h2, h3, h4, vr, vw, h5, rfl⟩ := h
    refine (gw_flush tup_does h5 h2 rfl h1).mono ?_
    rintro r w' ⟨rfl, hL⟩
    have ho := OkX.flush (u := u) (v := v) h2
    obtain ⟨S', k1, k2, k3⟩ := gwx_of h1 ho.1 (flush_few h2) (h4.flush h2.can) ho.2.1 hL
    exact ⟨S', rfl, k1, k2, k3⟩
  put w B S u v s e x c h hx c0 c1 hl ht := by
    obtain ⟨h1, h2, h3, h4, vr, vw, h5, rfl⟩ := h
    refine (gw_put tup_does h5 h2 rfl h3 h1 hx c0 c1 hl (by omega)).mono ?_
    rintro r w' ⟨rfl, hL⟩
    have ho := OkX.put (u := u) (v := v) h2 hx h3 c hl (by omega)
    obtain ⟨d, rfl⟩ : ∃ d, c = d + 1 := ⟨c - 1, by omega⟩
    obtain ⟨S', k1, k2, k3⟩ := gwx_of h1 ho.1 ho.2.2.2 (h4.put h2 hx h3 d hl (by omega)) ho.2.1 hL
    exact ⟨S', rfl, k1, k2, k3⟩
  zero w B S u v s e x h hx := gw_put_zero w B x
  long w B S u v s e x c h hx hc hl := gw_put_long w B x c hc hl
  join w B S u v s e B' S' s' e' h h' hd hl ht := by
    obtain ⟨h1, h2, h3, h4, vr, vw, h5, rfl⟩ := h
    obtain ⟨k1, k2, k3, k4, vr', vw', k5, rfl⟩ := h'
    refine (gw_join tup_does h5 k5 h2 k2 rfl rfl h1 hd hl (by omega)).mono ?_
    rintro r w' ⟨rfl, hL⟩
    have ho := OkX.join (u := u) (v := v) h2 k2 hl (by omega)
    obtain ⟨S', j1, j2, j3⟩ := gwx_of h1 ho.1 (by rw [ho.2.2.2]; decide) (h4.joinX k4 h2 k2) ho.2.1 hL
    exact ⟨S', rfl, j1, j2, j3⟩
  match_ w B S u v s e B' S' u' v' s' e' h h' hne := by
    obtain ⟨h1, h2, h3, h4, vr, vw, h5, rfl⟩ := h
    obtain ⟨k1, k2, k3, k4, vr', vw', k5, rfl⟩ := h'
    exact gw_join_match h5.c0 h5.c1 k5.c0 k5.c1 hne
  join_nil w B S u v s e h := gw_join_nil w B
  quantile w B S u v s e pa pb h wa wb := by
    obtain ⟨h1, h2, h3, h4, vr, vw, h5, rfl⟩ := h
    refine (gw_quan tup_does h5 h2 rfl h1 wa wb).mono ?_
    rintro r w' ⟨rfl, hL⟩
    have ho := OkX.flush (u := u) (v := v) h2
    have hx : OkX (leftW u v pa pb s) ∧ (leftW u v pa pb s).2.length < 16 ∧ EndG (leftW u v pa pb s) e ∧ totG (leftW u v pa pb s) = totG s := by
      unfold leftW
      split
      · exact ⟨h2, h3, h4, rfl⟩
      · exact ⟨ho.1, flush_few h2, h4.flush h2.can, ho.2.1⟩
    obtain ⟨S', j1, j2, j3⟩ := gwx_of h1 hx.1 hx.2.1 hx.2.2.1 hx.2.2.2 hL
    exact ⟨S', rfl, j1, j2, j3⟩
  rank w B S u v s e x h hx := by
    obtain ⟨h1, h2, h3, h4, vr, vw, h5, rfl⟩ := h
    refine (gw_rank tup_does h5 h2 rfl h1 hx).mono ?_
    rintro r w' ⟨rfl, hL⟩
    have ho := OkX.flush (u := u) (v := v) h2
    obtain ⟨S', j1, j2, j3⟩ := gwx_of h1 ho.1 (flush_few h2) (h4.flush h2.can) ho.2.1 hL
    exact ⟨S', rfl, j1, j2, j3⟩
  ends w B S u v s x y z h := by
    obtain ⟨h1, h2, h3, h4, vr, vw, h5, rfl⟩ := h
    exact gw_ends h5 h2 rfl h4
  row w B S u v s e h := by
    obtain ⟨h1, h2, h3, h4, vr, vw, h5, rfl⟩ := h
    have hle := h2.le
    have htt := h2.tot
    have hsl := h2.sl
    refine (gw_row h5 h2.can (by omega) h2.sp h2.wt (by omega) (by omega)).mono ?_
    rintro r w' ⟨v1, v2, rfl, o1, o2, _, hb⟩
    obtain ⟨A1, c1, rfl, hT⟩ := o1.rows (row_okX h2.can (by omega) h2.sp)
    obtain ⟨A2, c2, rfl, hN⟩ := o2.rows h2.wt
    rw [row_len]
    exact ⟨A1, c1, A2, c2, rfl, hT, hN, hb⟩
  load := gw_load tup_does
  unfit := gw_unfit tup_does
theorem gw_nil : GwNil where
  flush := gw_flush_nil
  ends := gw_ends_nil
  quantile w pa pb _ _ := gw_quan_nil w pa pb
  rank w x _ := gw_rank_nil w x
  row w := (gw_row_nil w).mono fun e w' ⟨h, hb⟩ => ⟨none, 0, none, 0, h, hb⟩
  put w x c _ _ := gw_put_nil w x c
  join := gw_join_nil0
  total := gw_total_nil
  part := gw_part_nil
end Go.Proofs.Ytfmlkohijkalbaa

/-
  Rows of pairs in memory, as they are read: what hangs on no type of the program (taken out of PairS).
-/
namespace Go.Proofs.Ytfmlkohijkalbaa
set_option linter.unusedVariables false
set_option linter.unusedSimpArgs false
open Go.RowKit

/-- A row of pairs in memory. -/
structure Pairs (w : World) (A : Option Addr) (L : List PairV) : Prop where
  ok : ∀ p, p ∈ L → okP p
  at_ : ∀ (i : Nat) (p : PairV), L[i]? = some p → ∃ b off, A = some ⟨b, off, none⟩ ∧ b < w.heap.size ∧ w.cell? ⟨b, off + i * 2, none⟩ = some (.int .i64 p.1) ∧ w.cell? ⟨b, off + i * 2 + 1, none⟩ = some (.int .u64 p.2)
theorem Pairs.call {w w' : World} {A : Option Addr} {L : List PairV} (h : Pairs w A L) (hb : Below w.heap.size w w') : Pairs w' A L :=
  ⟨h.ok, fun i it hi => by
    obtain ⟨b, off, hA, hlt, c0, c1⟩ := h.at_ i it hi
    exact ⟨b, off, hA, Nat.lt_of_lt_of_le hlt hb.size, cell_later hb c0, cell_later hb c1⟩⟩
theorem Pairs.nil (w : World) : Pairs w none [] := ⟨fun p h => (by cases h), fun i p h => by simp at h⟩
/-- A row's cells. -/
def cellsP (p : PairV) : List Value := [.int .i64 p.1, .int .u64 p.2]
def cellsQ (L : List PairV) : List Value := L.flatMap cellsP
theorem cellsQ_cons (p : PairV) (r : List PairV) : cellsQ (p :: r) = cellsP p ++ cellsQ r := by unfold cellsQ; rw [List.flatMap_cons]
theorem cellsQ_app (a b : List PairV) : cellsQ (a ++ b) = cellsQ a ++ cellsQ b := by unfold cellsQ; rw [List.flatMap_append]
theorem cellsQ_one' (p : PairV) : cellsQ [p] = [.int .i64 p.1, .int .u64 p.2] := by unfold cellsQ cellsP; simp
theorem cellsQ_len (L : List PairV) : (cellsQ L).length = L.length * 2 := by
  induction L with
  | nil => rfl
  | cons p r ih => rw [cellsQ_cons, List.length_append, ih, List.length_cons]; simp [cellsP]; omega
theorem cellsQ_one (L : List PairV) : ∀ u ∈ cellsQ L, u.oneCell' = true := by
  intro u hu
  unfold cellsQ at hu
  obtain ⟨p, _, h⟩ := List.mem_flatMap.1 hu
  simp only [cellsP, List.mem_cons, List.not_mem_nil, or_false] at h
  rcases h with rfl | rfl <;> rfl
theorem cellsQ_at : ∀ (L : List PairV) (i : Nat) (p : PairV), L[i]? = some p → (cellsQ L)[i * 2]? = some (.int .i64 p.1) ∧ (cellsQ L)[i * 2 + 1]? = some (.int .u64 p.2) := by
  intro L
  induction L with
  | nil => intro i p h; simp at h
  | cons q r ih =>
    intro i p h
    rw [cellsQ_cons]
    cases i with
    | zero => simp at h; subst h; simp [cellsP]
    | succ i =>
      have hr := ih i p (by simpa using h)
      have e : ∀ j, (cellsP q ++ cellsQ r)[(i + 1) * 2 + j]? = (cellsQ r)[i * 2 + j]? := by
        intro j
        rw [List.getElem?_append_right (by simp [cellsP]; omega)]
        congr 1
        simp [cellsP]; omega
      exact ⟨(e 0).trans hr.1, (e 1).trans hr.2⟩
theorem add_flat (b off j : Nat) : (⟨b, off, none⟩ : Addr).add j = ⟨b, off + j, none⟩ := by unfold Addr.add; split <;> simp_all
theorem ok_pos {L : List PairV} (h : ∀ p, p ∈ L → okP p) : ∀ p, p ∈ L → 0 ≤ p.2 := fun p hp => (h p hp).2.1
end Go.Proofs.Ytfmlkohijkalbaa

/-
  How an argument of the laws is opened, and shut again: a wide number, a fraction, a word.
-/
namespace Go.Proofs.Ytfmlkohijkalbaa
set_option linter.unusedVariables false
set_option maxRecDepth 100000
open Go.ChangeShapes Go.WideShapes Go.ChangeAt Go.RowKit Go.Joins

theorem own : ownKnob Try.prog.godebug = none := by kernel_rfl
theorem laidOut : laidOutB Try.prog = true := by kernel_rfl
theorem word_of_wf {x : Int} (h : (Lit.int .u64 x).wf = true) : Word x := by
  simp [Lit.wf, IntKind.min, IntKind.max, IntKind.signed, IntKind.bits] at h
  exact ⟨by omega, by omega⟩
theorem cellsWide : Try.prog.cellsOf 65 = 2 := by kernel_rfl
theorem wide_reads {H : Type} {enc : TypeId × Value → H} {a b : Int} (wa : (Lit.int .u64 a).wf = true) (wb : (Lit.int .u64 b).wf = true) (W' : World) (sp : Nat → Bool) :
    DataW.Trod enc Try.prog W' 0 sp true 65 (.agg #[.int .u64 a, .int .u64 b]) (.agg [.lit (.int .u64 a), .lit (.int .u64 b)]) [] :=
  shut_agg2 (y0 := (.lit (.int .u64 a), [])) (y1 := (.lit (.int .u64 b), [])) Try.underlying65 (by kernel_rfl) cellsWide ⟨1, by simp [DataW.trod, Try.underlying22, wa]⟩ ⟨1, by simp [DataW.trod, Try.underlying22, wb]⟩
theorem wide_opens {H : Type} {enc : TypeId × Value → H} {W : World} {r : Reach} {b0 : Nat} {sp : Nat → Bool} {v : Value} {d : DataW H} {p : List MemPlace} (hv : Value.okWide Try.prog W r b0 65 v) (h : DataW.Trod enc Try.prog W 0 sp true 65 v d p) :
    ∃ a b : Int, v = .agg #[.int .u64 a, .int .u64 b] ∧ d = .agg [.lit (.int .u64 a), .lit (.int .u64 b)] ∧ p = [] ∧ (Lit.int .u64 a).wf = true ∧ (Lit.int .u64 b).wf = true := by
  obtain ⟨c0, c1, y0, y1, m, rfl, rfl, rfl, hy0, hy1⟩ := open_agg2 Try.underlying65 (by kernel_rfl) cellsWide hv h
  obtain ⟨a, e0, rfl, wa⟩ := DataW.trod_int Try.underlying22 hy0
  obtain ⟨b, e1, rfl, wb⟩ := DataW.trod_int Try.underlying22 hy1
  simp at e0 e1
  subst e0 e1
  exact ⟨a, b, rfl, rfl, rfl, wa, wb⟩
theorem cellsRatio : Try.prog.cellsOf 24 = 2 := by kernel_rfl
theorem ratio_reads {H : Type} {enc : TypeId × Value → H} {a b : Int} (wa : (Lit.int .u64 a).wf = true) (wb : (Lit.int .u64 b).wf = true) (W' : World) (sp : Nat → Bool) :
    DataW.Trod enc Try.prog W' 0 sp true 24 (.agg #[.int .u64 a, .int .u64 b]) (.agg [.lit (.int .u64 a), .lit (.int .u64 b)]) [] :=
  shut_agg2 (y0 := (.lit (.int .u64 a), [])) (y1 := (.lit (.int .u64 b), [])) Try.underlying24 (by kernel_rfl) cellsRatio ⟨1, by simp [DataW.trod, Try.underlying22, wa]⟩ ⟨1, by simp [DataW.trod, Try.underlying22, wb]⟩
theorem ratio_opens {H : Type} {enc : TypeId × Value → H} {W : World} {r : Reach} {b0 : Nat} {sp : Nat → Bool} {v : Value} {d : DataW H} {p : List MemPlace} (hv : Value.okWide Try.prog W r b0 24 v) (h : DataW.Trod enc Try.prog W 0 sp true 24 v d p) :
    ∃ a b : Int, v = .agg #[.int .u64 a, .int .u64 b] ∧ d = .agg [.lit (.int .u64 a), .lit (.int .u64 b)] ∧ p = [] ∧ (Lit.int .u64 a).wf = true ∧ (Lit.int .u64 b).wf = true := by
  obtain ⟨c0, c1, y0, y1, m, rfl, rfl, rfl, hy0, hy1⟩ := open_agg2 Try.underlying24 (by kernel_rfl) cellsRatio hv h
  obtain ⟨a, e0, rfl, wa⟩ := DataW.trod_int Try.underlying22 hy0
  obtain ⟨b, e1, rfl, wb⟩ := DataW.trod_int Try.underlying22 hy1
  simp at e0 e1
  subst e0 e1
  exact ⟨a, b, rfl, rfl, rfl, wa, wb⟩
end Go.Proofs.Ytfmlkohijkalbaa

/-
  Arguments of stage 18 opened: rows of steps, rows of tuples.
-/
namespace Go.Proofs.Ytfmlkohijkalbaa
set_option linter.unusedVariables false
set_option linter.unusedSimpArgs false
set_option maxRecDepth 100000
open Go.ChangeShapes Go.WideShapes Go.ChangeAt Go.RowKit Go.Joins

theorem deep18 (a : Addr) (i j : Nat) : (a.add i).add j = a.add (i + j) := Go.Deep.add_add a i j
def okSt (x : StepV) : Prop := I64 x.x ∧ Word x.lim
/-- A row of steps in memory. -/
structure Stps (w : World) (A : Option Addr) (L : List StepV) : Prop where
  ok : ∀ x, x ∈ L → okSt x
  at_ : ∀ (i : Nat) (x : StepV), L[i]? = some x → ∃ b off, A = some ⟨b, off, none⟩ ∧ b < w.heap.size ∧ w.cell? ⟨b, off + i * 3, none⟩ = some (.int .i64 x.x) ∧ w.cell? ⟨b, off + i * 3 + 1, none⟩ = some (.int .u64 x.lim) ∧ w.cell? ⟨b, off + i * 3 + 2, none⟩ = some (.bool x.sq)
theorem Stps.call {w w' : World} {A : Option Addr} {L : List StepV} (h : Stps w A L) (hb : Below w.heap.size w w') : Stps w' A L :=
  ⟨h.ok, fun i it hi => by
    obtain ⟨b, off, hA, hlt, c0, c1, c2⟩ := h.at_ i it hi
    exact ⟨b, off, hA, Nat.lt_of_lt_of_le hlt hb.size, cell_later hb c0, cell_later hb c1, cell_later hb c2⟩⟩
theorem Stps.grown {w w' : World} {A : Option Addr} {L : List StepV} (h : Stps w A L) {base : Nat} {r : Option Nat} (hb : ∀ b off s, A = some ⟨b, off, s⟩ → b < base) (hr : ∀ g, r = some g → base ≤ g) (hg : w.grownBy w' r) : Stps w' A L :=
  ⟨h.ok, fun i it hi => by
    obtain ⟨b, off, hA, hlt, c0, c1, c2⟩ := h.at_ i it hi
    have e := hg.block b hlt (fun e => by have h1 := hb b off none hA; have h2 := hr b e.symm; omega)
    exact ⟨b, off, hA, Nat.lt_of_lt_of_le hlt hg.size, (World.cell?_of_block (a := ⟨b, off + i * 3, none⟩) e).trans c0, (World.cell?_of_block (a := ⟨b, off + i * 3 + 1, none⟩) e).trans c1, (World.cell?_of_block (a := ⟨b, off + i * 3 + 2, none⟩) e).trans c2⟩⟩
theorem Stps.nil (w : World) : Stps w none [] := ⟨fun p h => (by cases h), fun i p h => by simp at h⟩

theorem cellsTup18 : Try.prog.cellsOf 68 = 3 := by kernel_rfl
theorem bytesTup18 : Try.prog.bytesOf 68 = 24 := by kernel_rfl
/-- Three cells that read as a call. -/
theorem open_tup18 {H : Type} {enc : TypeId × Value → H} {W : World} {base n : Nat} {spare : Nat → Bool} {held : Bool} {ad : Addr} {cs : List Value} {d : DataW H} {pl : List MemPlace}
    (hc : W.cells? base ad 3 = some cs) (h : DataW.trod enc Try.prog W base spare held n 68 cs = some (d, pl)) :
    ∃ x : TupV, okTu x ∧ W.cell? (ad.add 0) = some (.int .i64 x.x) ∧ W.cell? (ad.add 1) = some (.int .u64 x.st) ∧ W.cell? (ad.add 2) = some (.int .u64 x.sl) := by
  obtain ⟨_, hl, hat⟩ := World.cells?_some hc
  obtain ⟨ys, m, _, hx, _, hyl, hf⟩ := DataW.trod_struct Try.underlying68 h
  match cs, hl with
  | [x0, x1, x2], _ =>
    have h0 := hf 0 _ rfl
    have h1 := hf 1 _ rfl
    have h2 := hf 2 _ rfl
    match ys, hyl with
    | [y0, y1, y2], _ =>
      obtain ⟨k, e0, r0, w0⟩ := DataW.trod_int Try.underlying2 h0
      obtain ⟨i, e1, r1, w1⟩ := DataW.trod_int Try.underlying22 h1
      obtain ⟨c, e2, r2, w2⟩ := DataW.trod_int Try.underlying22 h2
      have g0 : [x0] = [.int .i64 k] := e0
      have g1 : [x1] = [.int .u64 i] := e1
      have g2 : [x2] = [.int .u64 c] := e2
      simp only [List.cons.injEq, and_true] at g0 g1 g2
      subst g0 g1 g2
      exact ⟨⟨k, i, c⟩, ⟨i64_of_wf w0, word_of_wf w1, word_of_wf w2⟩, hat 0 (by omega), hat 1 (by omega), hat 2 (by omega)⟩

theorem open_tups18 {H : Type} {enc : TypeId × Value → H} {W : World} {base : Nat} {v : Value} {d : DataW H} {p : List MemPlace}
    (hv : Value.okWide Try.prog W .any base 56 v) (h : DataW.Trod enc Try.prog W 0 (fun _ => true) true 56 v d p)
    (hz : ∀ n ∈ DataW.weights Try.prog 56 d, n ≤ reachBytes) :
    ∃ A cap L, v = .slice A (List.length L) cap ∧ Tups W A L ∧ L.length ≤ 140737488351232 ∧ L.length ≤ cap := by
  obtain ⟨a0, len, cap, rfl⟩ := okWide_slice Try.underlying56 hv
  obtain ⟨fuel, hf⟩ := h
  rcases Go.Deep.open_slice Try.underlying56 hf with ⟨hcs, hx⟩ | ⟨a, len', cap', m, n, D, Pl, hcs, _, hl, hm, hmm, hx, hi⟩
  · simp [Value.cells] at hcs
    obtain ⟨rfl, rfl, rfl⟩ := hcs
    exact ⟨none, 0, [], rfl, Tups.nil W none, Nat.zero_le _, Nat.le_refl _⟩
  · simp [Value.cells] at hcs
    obtain ⟨rfl, rfl, rfl⟩ := hcs
    simp only [if_true] at hmm
    obtain rfl : cap = m := hmm.symm
    simp only [Prod.mk.injEq] at hx
    obtain ⟨rfl, rfl⟩ := hx
    have hw : DataW.weights Try.prog 56 (.slice ((List.range len).map D) ((List.range (cap - len)).map fun j => D (len + j))) =
        (((List.range len).map D).length + ((List.range (cap - len)).map fun j => D (len + j)).length) * Try.prog.bytesOf 68 ::
        (DataW.weightsAll Try.prog 68 ((List.range len).map D) ++ DataW.weightsAll Try.prog 68 ((List.range (cap - len)).map fun j => D (len + j))) := by
      conv => lhs; unfold DataW.weights
      rw [Try.underlying56]
    have hlen : len ≤ 140737488351232 := by
      have := hz _ (by rw [hw]; exact List.mem_cons_self)
      rw [bytesTup18] at this
      simp only [List.length_map, List.length_range, reachBytes] at this
      omega
    have hall : ∀ i, i < len → ∃ x : TupV, okTu x ∧ W.cell? (a.add (i * 3)) = some (.int .i64 x.x) ∧ W.cell? (a.add (i * 3 + 1)) = some (.int .u64 x.st) ∧ W.cell? (a.add (i * 3 + 2)) = some (.int .u64 x.sl) := by
      intro i hi'
      obtain ⟨cs', hc, ht⟩ := hi i (by omega)
      rw [cellsTup18] at hc
      obtain ⟨x, i1, c0, c1, c2⟩ := open_tup18 hc ht
      rw [deep18] at c0 c1 c2
      exact ⟨x, i1, c0, c1, c2⟩
    obtain ⟨f, hf'⟩ := Go.Deep.choose_lt hall
    refine ⟨some a, cap, (List.range len).map f, by simp, ⟨?_, ?_⟩, by simpa using hlen, by simpa using hl⟩
    · intro x hx
      obtain ⟨i, hi1, rfl⟩ := List.mem_map.1 hx
      exact (hf' i (List.mem_range.1 hi1)).1
    · intro i x hx
      have hil : i < len := by
        rcases Nat.lt_or_ge i len with h | h
        · exact h
        · rw [List.getElem?_eq_none (by simpa using h)] at hx; cases hx
      simp only [List.getElem?_map, List.getElem?_range hil, Option.map_some, Option.some.injEq] at hx
      subst hx
      obtain ⟨_, c0, c1, c2⟩ := hf' i hil
      obtain ⟨b, off, spot⟩ := a
      have hspot : spot = none := by
        have z0 := (hf' 0 (by omega)).2.1
        simpa [Addr.add] using World.cell?_spot z0
      subst hspot
      have hb : b < W.heap.size := by
        have := World.block_lt_of_cell? W _ c0
        revert this; unfold Addr.add; split <;> simp
      refine ⟨b, off, rfl, hb, ?_, ?_, ?_⟩
      · rw [← flat3]; exact c0
      · rw [Nat.add_assoc, ← flat3]; exact c1
      · rw [Nat.add_assoc, ← flat3]; exact c2
end Go.Proofs.Ytfmlkohijkalbaa

/-
  Arguments of stage 19 opened: rows of values, rows of whole numbers. (tools/gen_gw_o.py, out of ValO)
-/
namespace Go.Proofs.Ytfmlkohijkalbaa
set_option linter.unusedVariables false
set_option linter.unusedSimpArgs false
set_option maxRecDepth 100000
open Go.ChangeShapes Go.WideShapes Go.ChangeAt Go.RowKit Go.Joins

theorem cellsVal19 : Try.prog.cellsOf 54 = 2 := by kernel_rfl
theorem bytesVal19 : Try.prog.bytesOf 54 = 16 := by kernel_rfl
/-- Two cells that read as a pair. -/
theorem open_val19 {H : Type} {enc : TypeId × Value → H} {W : World} {base n : Nat} {spare : Nat → Bool} {held : Bool} {ad : Addr} {cs : List Value} {d : DataW H} {pl : List MemPlace}
    (hc : W.cells? base ad 2 = some cs) (h : DataW.trod enc Try.prog W base spare held n 54 cs = some (d, pl)) :
    ∃ p : PairV, okP p ∧ W.cell? (ad.add 0) = some (.int .i64 p.1) ∧ W.cell? (ad.add 1) = some (.int .u64 p.2) := by
  obtain ⟨_, hl, hat⟩ := World.cells?_some hc
  obtain ⟨ys, m, _, hx, _, hyl, hf⟩ := DataW.trod_struct Try.underlying54 h
  match cs, hl with
  | [x0, x1], _ =>
    have h0 := hf 0 _ rfl
    have h1 := hf 1 _ rfl
    match ys, hyl with
    | [y0, y1], _ =>
      obtain ⟨i, e0, r0, w0⟩ := DataW.trod_int Try.underlying2 h0
      obtain ⟨c, e1, r1, w1⟩ := DataW.trod_int Try.underlying22 h1
      have g0 : [x0] = [.int .i64 i] := e0
      have g1 : [x1] = [.int .u64 c] := e1
      simp only [List.cons.injEq, and_true] at g0 g1
      subst g0 g1
      exact ⟨(i, c), ⟨i64_of_wf w0, word_of_wf w1⟩, hat 0 (by omega), hat 1 (by omega)⟩
/-- Cells that read as a row of pairs. -/
theorem open_vrow19 {H : Type} {enc : TypeId × Value → H} {W : World} {n : Nat} {cs : List Value} {d : DataW H} {pl : List MemPlace}
    (hf : DataW.trod enc Try.prog W 0 (fun _ => true) true n 25 cs = some (d, pl)) (hz : ∀ n ∈ DataW.weights Try.prog 25 d, n ≤ reachBytes) :
    ∃ A cap L, cs = [.slice A (List.length L) cap] ∧ Pairs W A L ∧ L.length ≤ 140737488351232 := by
  rcases Go.Deep.open_slice Try.underlying25 hf with ⟨hcs, hx⟩ | ⟨a, len, cap, m, n, D, Pl, hcs, _, hl, hm, hmm, hx, hi⟩
  · exact ⟨none, 0, [], hcs, Pairs.nil W, Nat.zero_le _⟩
  · simp only [if_true] at hmm
    obtain rfl : cap = m := hmm.symm
    simp only [Prod.mk.injEq] at hx
    obtain ⟨rfl, rfl⟩ := hx
    have hw : DataW.weights Try.prog 25 (.slice ((List.range len).map D) ((List.range (cap - len)).map fun j => D (len + j))) =
        (((List.range len).map D).length + ((List.range (cap - len)).map fun j => D (len + j)).length) * Try.prog.bytesOf 54 ::
        (DataW.weightsAll Try.prog 54 ((List.range len).map D) ++ DataW.weightsAll Try.prog 54 ((List.range (cap - len)).map fun j => D (len + j))) := by
      conv => lhs; unfold DataW.weights
      rw [Try.underlying25]
    have hlen : len ≤ 140737488351232 := by
      have := hz _ (by rw [hw]; exact List.mem_cons_self)
      rw [bytesVal19] at this
      simp only [List.length_map, List.length_range, reachBytes] at this
      omega
    have hall : ∀ i, i < len → ∃ p : PairV, okP p ∧ W.cell? (a.add (i * 2)) = some (.int .i64 p.1) ∧ W.cell? (a.add (i * 2 + 1)) = some (.int .u64 p.2) := by
      intro i hi'
      obtain ⟨cs', hc, ht⟩ := hi i (by omega)
      rw [cellsVal19] at hc
      obtain ⟨p, i1, c0, c1⟩ := open_val19 hc ht
      rw [deep18] at c0 c1
      exact ⟨p, i1, c0, c1⟩
    obtain ⟨f, hf'⟩ := Go.Deep.choose_lt hall
    refine ⟨some a, cap, (List.range len).map f, by rw [hcs]; simp, ⟨?_, ?_⟩, by simpa using hlen⟩
    · intro p hp
      obtain ⟨i, hi1, rfl⟩ := List.mem_map.1 hp
      exact (hf' i (List.mem_range.1 hi1)).1
    · intro i p hp
      have hil : i < len := by
        rcases Nat.lt_or_ge i len with h | h
        · exact h
        · rw [List.getElem?_eq_none (by simpa using h)] at hp; cases hp
      simp only [List.getElem?_map, List.getElem?_range hil, Option.map_some, Option.some.injEq] at hp
      subst hp
      obtain ⟨_, c0, c1⟩ := hf' i hil
      obtain ⟨b, off, spot⟩ := a
      have hspot : spot = none := by
        have z0 := (hf' 0 (by omega)).2.1
        simpa [Addr.add] using World.cell?_spot z0
      subst hspot
      have hb : b < W.heap.size := by
        have := World.block_lt_of_cell? W _ c0
        revert this; unfold Addr.add; split <;> simp
      refine ⟨b, off, rfl, hb, ?_, ?_⟩
      · rw [← add_flat]; exact c0
      · rw [Nat.add_assoc, ← add_flat]; exact c1

theorem open_vals19 {H : Type} {enc : TypeId × Value → H} {W : World} {base : Nat} {v : Value} {d : DataW H} {p : List MemPlace}
    (hv : Value.okWide Try.prog W .any base 25 v) (h : DataW.Trod enc Try.prog W 0 (fun _ => true) true 25 v d p)
    (hz : ∀ n ∈ DataW.weights Try.prog 25 d, n ≤ reachBytes) :
    ∃ A cap L, v = .slice A (List.length L) cap ∧ Pairs W A L ∧ L.length ≤ 140737488351232 := by
  obtain ⟨a0, len, cap, rfl⟩ := okWide_slice Try.underlying25 hv
  obtain ⟨fuel, hf⟩ := h
  obtain ⟨A, cap', L, hcs, hP, hl⟩ := open_vrow19 hf hz
  simp [Value.cells] at hcs
  obtain ⟨rfl, rfl, rfl⟩ := hcs
  exact ⟨_, _, L, rfl, hP, hl⟩

theorem cellsInt19 : Try.prog.cellsOf 2 = 1 := by kernel_rfl
theorem bytesInt19 : Try.prog.bytesOf 2 = 8 := by kernel_rfl
/-- A cell that reads as a whole number. -/
theorem open_num19 {H : Type} {enc : TypeId × Value → H} {W : World} {base n : Nat} {spare : Nat → Bool} {held : Bool} {ad : Addr} {cs : List Value} {d : DataW H} {pl : List MemPlace}
    (hc : W.cells? base ad 1 = some cs) (h : DataW.trod enc Try.prog W base spare held n 2 cs = some (d, pl)) :
    ∃ x : Int, I64 x ∧ W.cell? (ad.add 0) = some (.int .i64 x) := by
  obtain ⟨_, hl, hat⟩ := World.cells?_some hc
  obtain ⟨x, e0, r0, w0⟩ := DataW.trod_int Try.underlying2 h
  subst e0
  exact ⟨x, i64_of_wf w0, hat 0 (by omega)⟩
/-- Cells that read as a row of whole numbers. -/
theorem open_nrow19 {H : Type} {enc : TypeId × Value → H} {W : World} {n : Nat} {cs : List Value} {d : DataW H} {pl : List MemPlace}
    (hf : DataW.trod enc Try.prog W 0 (fun _ => true) true n 57 cs = some (d, pl)) (hz : ∀ n ∈ DataW.weights Try.prog 57 d, n ≤ reachBytes) :
    ∃ A cap L, cs = [.slice A (List.length L) cap] ∧ Nums W A L ∧ L.length ≤ 140737488351232 := by
  rcases Go.Deep.open_slice Try.underlying57 hf with ⟨hcs, hx⟩ | ⟨a, len, cap, m, n, D, Pl, hcs, _, hl, hm, hmm, hx, hi⟩
  · exact ⟨none, 0, [], hcs, Nums.nil W none, Nat.zero_le _⟩
  · simp only [if_true] at hmm
    obtain rfl : cap = m := hmm.symm
    simp only [Prod.mk.injEq] at hx
    obtain ⟨rfl, rfl⟩ := hx
    have hw : DataW.weights Try.prog 57 (.slice ((List.range len).map D) ((List.range (cap - len)).map fun j => D (len + j))) =
        (((List.range len).map D).length + ((List.range (cap - len)).map fun j => D (len + j)).length) * Try.prog.bytesOf 2 ::
        (DataW.weightsAll Try.prog 2 ((List.range len).map D) ++ DataW.weightsAll Try.prog 2 ((List.range (cap - len)).map fun j => D (len + j))) := by
      conv => lhs; unfold DataW.weights
      rw [Try.underlying57]
    have hlen : len ≤ 140737488351232 := by
      have := hz _ (by rw [hw]; exact List.mem_cons_self)
      rw [bytesInt19] at this
      simp only [List.length_map, List.length_range, reachBytes] at this
      omega
    have hall : ∀ i, i < len → ∃ x : Int, I64 x ∧ W.cell? (a.add i) = some (.int .i64 x) := by
      intro i hi'
      obtain ⟨cs', hc, ht⟩ := hi i (by omega)
      rw [cellsInt19] at hc
      obtain ⟨x, i1, c0⟩ := open_num19 hc ht
      rw [deep18, Nat.mul_one] at c0
      exact ⟨x, i1, c0⟩
    obtain ⟨f, hf'⟩ := Go.Deep.choose_lt hall
    refine ⟨some a, cap, (List.range len).map f, by rw [hcs]; simp, ⟨?_, ?_⟩, by simpa using hlen⟩
    · intro p hp
      obtain ⟨i, hi1, rfl⟩ := List.mem_map.1 hp
      exact (hf' i (List.mem_range.1 hi1)).1
    · intro i p hp
      have hil : i < len := by
        rcases Nat.lt_or_ge i len with h | h
        · exact h
        · rw [List.getElem?_eq_none (by simpa using h)] at hp; cases hp
      simp only [List.getElem?_map, List.getElem?_range hil, Option.map_some, Option.some.injEq] at hp
      subst hp
      obtain ⟨_, c0⟩ := hf' i hil
      obtain ⟨b, off, spot⟩ := a
      have hspot : spot = none := by
        have z0 := (hf' 0 (by omega)).2
        simpa [Addr.add] using World.cell?_spot z0
      subst hspot
      have hb : b < W.heap.size := by
        have := World.block_lt_of_cell? W _ c0
        revert this; unfold Addr.add; split <;> simp
      refine ⟨b, off, rfl, hb, ?_⟩
      rw [← flat3]; exact c0

theorem open_nums19 {H : Type} {enc : TypeId × Value → H} {W : World} {base : Nat} {v : Value} {d : DataW H} {p : List MemPlace}
    (hv : Value.okWide Try.prog W .any base 57 v) (h : DataW.Trod enc Try.prog W 0 (fun _ => true) true 57 v d p)
    (hz : ∀ n ∈ DataW.weights Try.prog 57 d, n ≤ reachBytes) :
    ∃ A cap L, v = .slice A (List.length L) cap ∧ Nums W A L ∧ L.length ≤ 140737488351232 := by
  obtain ⟨a0, len, cap, rfl⟩ := okWide_slice Try.underlying57 hv
  obtain ⟨fuel, hf⟩ := h
  obtain ⟨A, cap', L, hcs, hP, hl⟩ := open_nrow19 hf hz
  simp [Value.cells] at hcs
  obtain ⟨rfl, rfl, rfl⟩ := hcs
  exact ⟨_, _, L, rfl, hP, hl⟩
end Go.Proofs.Ytfmlkohijkalbaa

/-
  The laws of layer 19: alive, plain, good.
-/
namespace Go.Proofs.Ytfmlkohijkalbaa
set_option linter.unusedVariables false
set_option linter.unusedSimpArgs false
open Go.RowKit

theorem al19_quan : quanW 1 10 1 2 (putG 1 10 ([], []) 5 2) = (5, 0) := by decide +kernel
theorem al19_tot : totG (leftW 1 10 1 2 (putG 1 10 ([], []) 5 2)) = 2 := by decide +kernel
theorem al19_one : GoodA 1 10 := ⟨by decide, by decide, by decide⟩

set_option maxRecDepth 100000 in
set_option maxHeartbeats 1000000 in
theorem alive19_any {Gw : GwT} (D : GwDoes Gw) (w : World) : Calls Try.prog 8 #[] w fun e w' => e = .returned (.bool true) ∧ Below w.heap.size w w' := by
  have HD := Lib.hid D
  have HN := Lib.hid (D.new w 1 10 al19_one)
  have C2 := Lib.hid al19_tot
  have C3 := Lib.hid al19_quan
  clear D
  go_enter Try.func8, Try.ntmps8
  go_wp2_with fail
  refine HN.out.mono ?_
  rintro e w1 ⟨B, S, rfl, h1, hs1, b1⟩
  have z1 := b1.size
  have HP := Lib.hid (HD.out.put w1 B S 1 10 ([], []) (0, 0, false) 5 2 h1 ⟨by decide, by decide⟩ (by decide) (by decide) (by decide) (by decide))
  clear HN
  go_wp2_with fail
  refine HP.out.mono ?_
  rintro e w2 ⟨S2, rfl, h2, k2, hs2⟩
  have b2 := k2.below b1 z1 hs1
  have z2 := b2.size
  have HS2 : Hid (∀ i, S2 i → w.heap.size ≤ i) := Lib.hid fun i hi => by
    rcases hs2 i hi with h | h
    · exact hs1 i h
    · omega
  have HQ := Lib.hid (HD.out.quantile w2 B S2 1 10 _ _ 1 2 h2 ⟨by decide, by decide⟩ ⟨by decide, by decide⟩)
  rw [C3.out] at HQ
  clear h1 hs1 b1 k2 hs2 h2 HP
  go_wp2_with fail
  refine HQ.out.mono ?_
  rintro e w3 ⟨S3, rfl, h3, k3, hs3⟩
  have b3 := k3.below b2 z2 HS2.out
  have z3 := b3.size
  have HT := Lib.hid (HD.out.total w3 B S3 1 10 _ _ h3)
  rw [C2.out] at HT
  clear k3 hs3 h3 HQ
  go_wp2_with fail
  refine HT.out.mono ?_
  rintro e w4 ⟨rfl, b4'⟩
  have b4 := b3.trans (b4'.mono b3.size)
  go_wp2_with fail
  go_ret
  exact ⟨rfl, b4⟩

set_option maxRecDepth 100000 in
set_option maxHeartbeats 1000000 in
theorem good19_any (w : World) (a b : Int) (ha : Word a) (hb : Word b) : Calls Try.prog 11 #[.agg #[.int .u64 a, .int .u64 b]] w fun e w' => e = .returned (.bool (goodG a b)) ∧ Below w.heap.size w w' := by
  obtain ⟨a0, a1⟩ := ha
  obtain ⟨b0, b1⟩ := hb
  have h2 : b / 2 ≤ b ∧ 0 ≤ b / 2 := by omega
  obtain ⟨q, hq⟩ : ∃ q, b / 2 = q := ⟨_, rfl⟩
  have HG : Hid (goodG a b = (decide (0 < a) && decide (b ≤ 2147483648) && decide (a ≤ q))) := Lib.hid (by unfold goodG; rw [hq])
  by_cases c1 : 0 < a
  · by_cases c2 : b ≤ 2147483648
    · have HB : Hid (goodG a b = decide (a ≤ q)) := Lib.hid (by rw [HG.out, decide_eq_true c1, decide_eq_true c2]; rfl)
      go_enter Try.func11, Try.ntmps11
      go_wp2_with fail
      go_ret
      refine ⟨?_, (Below.refl _ _).alloc (Nat.le_refl _) _⟩
      rw [HB.out]; rfl
    · have HB : Hid (goodG a b = false) := Lib.hid (by rw [HG.out, decide_eq_true c1, decide_eq_false c2]; rfl)
      go_enter Try.func11, Try.ntmps11
      go_wp2_with fail
      go_ret
      exact ⟨by rw [HB.out]; rfl, (Below.refl _ _).alloc (Nat.le_refl _) _⟩
  · have HB : Hid (goodG a b = false) := Lib.hid (by rw [HG.out, decide_eq_false c1]; rfl)
    go_enter Try.func11, Try.ntmps11
    go_wp2_with fail
    go_ret
    exact ⟨by rw [HB.out]; rfl, (Below.refl _ _).alloc (Nat.le_refl _) _⟩

set_option maxRecDepth 100000 in
set_option maxHeartbeats 2000000 in
theorem plain19_any (w : World) (A : Option Addr) (cap : Nat) (L : List TupV) (h : Tups w A L) (hl : L.length ≤ 20000) :
    Calls Try.prog 39 #[.slice A L.length cap] w fun e w' => ∃ v, e = .returned v ∧ OwnTr w' w.heap.size v L ∧ Below w.heap.size w w' := by
  have HI := Lib.hid h
  have HL := Lib.hid hl
  clear h
  go_enter Try.func39, Try.ntmps39
  go_wp2_with fail
  go_loopw [3, 8] (fun s j wr => ∃ (k : Nat), k ≤ L.length ∧ j = .int .i64 k ∧ OwnTr wr w.heap.size s (L.take k) ∧ Below w.heap.size w wr) (fun _ j _ => L.length - (intOf j).toNat)
  case atStart => exact ⟨0, Nat.zero_le _, rfl, OwnTr.nil _ _, Below.refl _ _⟩
  case round =>
    obtain ⟨k, hk, rfl, hown, hb2⟩ := hrel
    have hbs := hb2.size
    by_cases hlt : k < L.length
    · have kk : (k : Int) < L.length := by omega
      have hxk : L[k]? = some L[k] := List.getElem?_eq_getElem hlt
      generalize hit : L[k] = p at *
      obtain ⟨px, ps, pl⟩ := p
      obtain ⟨b0, off, rfl, hbl, c0, c1, c2⟩ := (HI.out.call hb2).at_ k _ hxk
      have HS := Lib.hid (snocS hxk)
      simp only at c0 c1 c2 HS
      obtain ⟨vA, vk, hv⟩ := hown.form
      rw [show (L.take k).length = k by rw [List.length_take]; omega] at hv
      subst hv
      have HO := Lib.hid hown
      have HB := Lib.hid hb2
      clear hxk hit hown
      go_wp2_with (at_builtin; refine wpList_append_tr rfl _ _ rfl w.heap.size _ _ _ rfl (wr.heap.size + 1) ⟨px, ps, pl⟩ rfl ((HO.out.alloc _).alloc _) rfl ?c1 ?c2 ?c3 ?c4 ?c5 ?_)
      case c4 => have := HL.out; rw [List.length_take]; omega
      case c5 => have := HB.out.size; simp; omega
      intro g' cp w1 hown' hgrow _
      have hb4 := OwnTr.below ((HO.out.alloc _).alloc _) ((HB.out.alloc HB.out.size _).alloc (by have := HB.out.size; simp; omega) _) hgrow (by have := HB.out.size; simp; omega)
      rw [← HS.out] at hown'
      clear hgrow
      go_wp2_with fail
      go_roundw
      case rel => exact ⟨k + 1, by omega, by go_num, hown', hb4⟩
      case measure => simp [intOf]; omega
    · obtain rfl : k = L.length := by omega
      rw [List.take_length] at hown
      have kk : ¬ (L.length : Int) < L.length := by omega
      obtain ⟨vA, vk, rfl⟩ := hown.form
      have HO := Lib.hid hown
      clear hown
      go_wp2_with fail
      go_ret
      exact ⟨_, rfl, HO.out, hb2⟩
end Go.Proofs.Ytfmlkohijkalbaa

/-
  Plain mathematics of a tree over values, by numbers: no program in sight.
-/
namespace Go.Proofs.Ytfmlkohijkalbaa
set_option linter.unusedVariables false
set_option linter.unusedSimpArgs false

/-- How many nodes lie above one: v's level; 2 ^ level ≤ v < 2 ^ (level + 1). -/
def lvlT (v : Nat) : Nat := Nat.log2 v
theorem lvl_bd {v : Nat} (h : 1 ≤ v) : 2 ^ lvlT v ≤ v ∧ v < 2 ^ (lvlT v + 1) := ⟨Nat.log2_self_le (by omega), Nat.lt_log2_self⟩
theorem lvl_is {v l : Nat} (h1 : 2 ^ l ≤ v) (h2 : v < 2 ^ (l + 1)) : lvlT v = l := by
  have hv : 1 ≤ v := Nat.le_trans (Nat.pos_of_ne_zero (by have := Nat.pow_pos (n := l) (show 0 < 2 by omega); omega)) h1
  obtain ⟨a, b⟩ := lvl_bd hv
  have c1 : ¬ l < lvlT v := fun h => by
    have := Nat.pow_le_pow_right (show 0 < 2 by omega) (show l + 1 ≤ lvlT v by omega); omega
  have c2 : ¬ lvlT v < l := fun h => by
    have := Nat.pow_le_pow_right (show 0 < 2 by omega) (show lvlT v + 1 ≤ l by omega); omega
  omega
theorem lvl_le {v b : Nat} (h : 1 ≤ v) (h2 : v < 2 ^ (b + 1)) : lvlT v ≤ b := by
  obtain ⟨a, _⟩ := lvl_bd h
  by_cases c : lvlT v ≤ b
  · exact c
  · have := Nat.pow_le_pow_right (show 0 < 2 by omega) (show b + 1 ≤ lvlT v by omega); omega
theorem lvl_one : lvlT 1 = 0 := lvl_is (by decide) (by decide)
theorem lvl_up {v : Nat} (h : 2 ≤ v) : lvlT v = lvlT (v / 2) + 1 := by
  obtain ⟨a, b⟩ := lvl_bd (show 1 ≤ v / 2 by omega)
  refine lvl_is ?_ ?_
  · rw [Nat.pow_succ]; omega
  · rw [Nat.pow_succ]; omega
theorem lvl_down {v : Nat} (h : 1 ≤ v) : lvlT (2 * v) = lvlT v + 1 ∧ lvlT (2 * v + 1) = lvlT v + 1 := by
  have a := lvl_up (v := 2 * v) (by omega)
  have b := lvl_up (v := 2 * v + 1) (by omega)
  rw [show 2 * v / 2 = v by omega] at a
  rw [show (2 * v + 1) / 2 = v by omega] at b
  exact ⟨a, b⟩
theorem lvl_div {v : Nat} (k : Nat) (h : 1 ≤ v) (hk : k ≤ lvlT v) : 1 ≤ v / 2 ^ k ∧ lvlT (v / 2 ^ k) = lvlT v - k := by
  obtain ⟨a, b⟩ := lvl_bd h
  have hp := Nat.pow_pos (n := k) (show 0 < 2 by omega)
  have e1 : 2 ^ (lvlT v - k) * 2 ^ k = 2 ^ lvlT v := by rw [← Nat.pow_add]; congr 1; omega
  have e2 : 2 ^ (lvlT v - k + 1) * 2 ^ k = 2 ^ (lvlT v + 1) := by rw [← Nat.pow_add]; congr 1; omega
  have l1 : 2 ^ (lvlT v - k) ≤ v / 2 ^ k := (Nat.le_div_iff_mul_le hp).2 (by rw [e1]; exact a)
  have l2 : v / 2 ^ k < 2 ^ (lvlT v - k + 1) := (Nat.div_lt_iff_lt_mul hp).2 (by rw [e2]; exact b)
  have p1 := Nat.pow_pos (n := lvlT v - k) (show 0 < 2 by omega)
  exact ⟨by omega, lvl_is l1 l2⟩

/-- The least and the greatest of the values below a node, counted on from 2 ^ b (the values' own nodes). -/
def loT (b v : Nat) : Nat := v * 2 ^ (b - lvlT v)
def upT (b v : Nat) : Nat := (v + 1) * 2 ^ (b - lvlT v)
theorem range_in {b v : Nat} (h : 1 ≤ v) (h2 : v < 2 ^ (b + 1)) : 2 ^ b ≤ loT b v ∧ loT b v < upT b v ∧ upT b v ≤ 2 ^ (b + 1) := by
  have hl := lvl_le h h2
  obtain ⟨a, c⟩ := lvl_bd h
  have hp := Nat.pow_pos (n := b - lvlT v) (show 0 < 2 by omega)
  have e1 : 2 ^ lvlT v * 2 ^ (b - lvlT v) = 2 ^ b := by rw [← Nat.pow_add]; congr 1; omega
  have e2 : 2 ^ (lvlT v + 1) * 2 ^ (b - lvlT v) = 2 ^ (b + 1) := by rw [← Nat.pow_add]; congr 1; omega
  unfold loT upT
  refine ⟨by rw [← e1]; exact Nat.mul_le_mul_right _ a, by rw [Nat.add_mul]; omega, by rw [← e2]; exact Nat.mul_le_mul_right _ (by omega)⟩
/-- A node that lies above another one, or is it. -/
def aboveT (v w : Nat) : Prop := lvlT v ≤ lvlT w ∧ w / 2 ^ (lvlT w - lvlT v) = v
instance (v w : Nat) : Decidable (aboveT v w) := by unfold aboveT; infer_instance
theorem above_self (v : Nat) : aboveT v v := ⟨Nat.le_refl _, by simp⟩
/-- What lies at a level: below it the same values. -/
theorem range_div {b w k : Nat} (h : 1 ≤ w) (h2 : w < 2 ^ (b + 1)) (hk : k ≤ lvlT w) : loT b (w / 2 ^ k) ≤ loT b w ∧ upT b w ≤ upT b (w / 2 ^ k) := by
  obtain ⟨u1, u2⟩ := lvl_div k h hk
  have hl := lvl_le h h2
  have hp := Nat.pow_pos (n := k) (show 0 < 2 by omega)
  have e : 2 ^ (b - lvlT (w / 2 ^ k)) = 2 ^ k * 2 ^ (b - lvlT w) := by rw [u2, ← Nat.pow_add]; congr 1; omega
  have d1 := Nat.div_mul_le_self w (2 ^ k)
  have d2 : w < (w / 2 ^ k + 1) * 2 ^ k := by
    have := Nat.lt_div_mul_add (a := w) hp
    rw [Nat.add_mul]; omega
  unfold loT upT
  rw [e]
  constructor
  · rw [← Nat.mul_assoc]; exact Nat.mul_le_mul_right _ d1
  · rw [← Nat.mul_assoc]; exact Nat.mul_le_mul_right _ d2
theorem above_range {b v w : Nat} (hw : 1 ≤ w) (hw2 : w < 2 ^ (b + 1)) (h : aboveT v w) : loT b v ≤ loT b w ∧ upT b w ≤ upT b v := by
  have := range_div (k := lvlT w - lvlT v) hw hw2 (by omega)
  rwa [h.2] at this
/-- Of one level: apart, or the same. -/
theorem same_level {b v w : Nat} (he : lvlT v = lvlT w) (h : v < w) : upT b v ≤ loT b w := by
  unfold upT loT; rw [he]; exact Nat.mul_le_mul_right _ h
/-- Of two nodes one lies above the other one, or no value lies below both. -/
theorem above_or {b v w : Nat} (hv : 1 ≤ v) (hv2 : v < 2 ^ (b + 1)) (hw : 1 ≤ w) (hw2 : w < 2 ^ (b + 1)) :
    (upT b v ≤ loT b w ∨ upT b w ≤ loT b v) ↔ ¬ (aboveT v w ∨ aboveT w v) := by
  obtain ⟨a1, a2, a3⟩ := range_in hv hv2
  obtain ⟨b1, b2, b3⟩ := range_in hw hw2
  constructor
  · rintro h (k | k)
    · have := above_range hw hw2 k; omega
    · have := above_range hv hv2 k; omega
  · intro h
    have key : ∀ x y : Nat, 1 ≤ x → x < 2 ^ (b + 1) → 1 ≤ y → y < 2 ^ (b + 1) → lvlT x ≤ lvlT y → ¬ aboveT x y → upT b x ≤ loT b y ∨ upT b y ≤ loT b x := by
      intro x y hx hx2 hy hy2 hl hn
      obtain ⟨u1, u2⟩ := lvl_div (lvlT y - lvlT x) hy (by omega)
      have hr := range_div (b := b) (k := lvlT y - lvlT x) hy hy2 (by omega)
      have hne : y / 2 ^ (lvlT y - lvlT x) ≠ x := fun e => hn ⟨hl, e⟩
      have hle : lvlT (y / 2 ^ (lvlT y - lvlT x)) = lvlT x := by omega
      rcases Nat.lt_or_gt_of_ne hne with c | c
      · have := same_level (b := b) hle c; exact Or.inr (by omega)
      · have := same_level (b := b) hle.symm c; exact Or.inl (by omega)
    rcases Nat.le_total (lvlT v) (lvlT w) with c | c
    · exact key v w hv hv2 hw hw2 c (fun k => h (Or.inl k))
    · rcases key w v hw hw2 hv hv2 c (fun k => h (Or.inr k)) with k | k
      · exact Or.inr k
      · exact Or.inl k
/-- Told ahead. -/
def beforeT (b v w : Nat) : Bool := decide (upT b v < upT b w) || (decide (upT b v = upT b w) && decide (lvlT w < lvlT v))
theorem before_or {b v w : Nat} (hv : 1 ≤ v) (hw : 1 ≤ w) : (beforeT b v w || beforeT b w v) = !(v == w) ∧ (beforeT b v w && beforeT b w v) = false := by
  by_cases e : v = w
  · subst e; unfold beforeT; simp
  · have hne : (v == w) = false := by simp [e]
    rw [hne]
    unfold beforeT
    rcases Nat.lt_trichotomy (upT b v) (upT b w) with c | c | c
    · have : ¬ upT b w < upT b v := by omega
      have d : ¬ upT b w = upT b v := by omega
      simp [c, this, d]
    · have hl : lvlT v ≠ lvlT w := fun hl => by
        rcases Nat.lt_or_gt_of_ne e with k | k
        · have := same_level (b := b) hl k
          have hp := Nat.pow_pos (n := b - lvlT w) (show 0 < 2 by omega)
          have : loT b w < upT b w := by unfold loT upT; rw [Nat.add_mul]; omega
          omega
        · have := same_level (b := b) hl.symm k
          have hp := Nat.pow_pos (n := b - lvlT v) (show 0 < 2 by omega)
          have : loT b v < upT b v := by unfold loT upT; rw [Nat.add_mul]; omega
          omega
      rcases Nat.lt_or_gt_of_ne hl with k | k
      · have : ¬ lvlT w < lvlT v := by omega
        simp [c, k, this]
      · have : ¬ lvlT v < lvlT w := by omega
        simp [c, k, this]
    · have : ¬ upT b v < upT b w := by omega
      have d : ¬ upT b v = upT b w := by omega
      simp [c, this, d]
theorem before_trans {b v w x : Nat} (h : beforeT b v w = true) (k : beforeT b w x = true) : beforeT b v x = true := by
  unfold beforeT at *
  simp only [Bool.or_eq_true, Bool.and_eq_true, decide_eq_true_eq] at *
  omega
/-- Both nodes below one. -/
theorem halves {b v : Nat} (h : 1 ≤ v) (hb : lvlT v < b) : loT b (2 * v) = loT b v ∧ upT b (2 * v) = loT b (2 * v + 1) ∧ upT b (2 * v + 1) = upT b v := by
  obtain ⟨d1, d2⟩ := lvl_down h
  have e : 2 ^ (b - lvlT v) = 2 * 2 ^ (b - (lvlT v + 1)) := by rw [← Nat.pow_succ']; congr 1; omega
  unfold loT upT
  rw [d1, d2, e]
  refine ⟨?_, rfl, ?_⟩
  · rw [Nat.mul_comm 2 v, Nat.mul_assoc]
  · rw [show 2 * v + 1 + 1 = (v + 1) * 2 by omega, Nat.mul_assoc]
/-- A value's own node. -/
theorem leaf_is {b x : Nat} (h : x < 2 ^ b) : lvlT (2 ^ b + x) = b ∧ loT b (2 ^ b + x) = 2 ^ b + x ∧ upT b (2 ^ b + x) = 2 ^ b + x + 1 := by
  have hl : lvlT (2 ^ b + x) = b := lvl_is (by omega) (by rw [Nat.pow_succ]; omega)
  unfold loT upT
  rw [hl, Nat.sub_self, Nat.pow_zero, Nat.mul_one, Nat.mul_one]
  exact ⟨rfl, rfl, rfl⟩
/-- The nodes down to one: the last k of them. -/
def pathT (v k : Nat) : List Nat := (List.range k).map fun i => v / 2 ^ (k - 1 - i)
theorem path_len (v k : Nat) : (pathT v k).length = k := by unfold pathT; simp
theorem path_succ (v k : Nat) : pathT v (k + 1) = (v / 2 ^ k) :: pathT v k := by
  unfold pathT
  rw [List.range_succ_eq_map, List.map_cons, List.map_map]
  congr 1
  refine List.map_congr_left fun i hi => ?_
  show v / 2 ^ (k + 1 - 1 - (i + 1)) = v / 2 ^ (k - 1 - i)
  congr 2
  omega
theorem path_at (v k i : Nat) (h : i < k) : (pathT v k)[i]? = some (v / 2 ^ (k - 1 - i)) := by
  unfold pathT
  rw [List.getElem?_map, List.getElem?_range h]; rfl
theorem path_above {v w : Nat} (hw : 1 ≤ w) : v ∈ pathT w (lvlT w + 1) ↔ aboveT v w := by
  unfold pathT
  rw [List.mem_map]
  constructor
  · rintro ⟨i, hi, rfl⟩
    have hi := List.mem_range.1 hi
    obtain ⟨a, b⟩ := lvl_div (lvlT w + 1 - 1 - i) hw (by omega)
    refine ⟨by omega, ?_⟩
    rw [b, show lvlT w - (lvlT w - (lvlT w + 1 - 1 - i)) = lvlT w + 1 - 1 - i by omega]
  · rintro ⟨hl, e⟩
    refine ⟨lvlT v, List.mem_range.2 (by omega), ?_⟩
    rw [show lvlT w + 1 - 1 - lvlT v = lvlT w - lvlT v by omega]; exact e
theorem path_ends {v : Nat} (h : 1 ≤ v) {k : Nat} : 1 ≤ v / 2 ^ k ↔ k ≤ lvlT v := by
  obtain ⟨a, b⟩ := lvl_bd h
  constructor
  · intro hk
    by_cases c : k ≤ lvlT v
    · exact c
    · exfalso
      have := Nat.pow_le_pow_right (show 0 < 2 by omega) (show lvlT v + 1 ≤ k by omega)
      rw [Nat.div_eq_of_lt (by omega)] at hk; omega
  · intro hk; exact (lvl_div k h hk).1
/-- One node further down: the least value below it. -/
theorem range_step {b i u t : Nat} (h : i < b) : (2 * u + t) * 2 ^ (b - (i + 1)) = u * 2 ^ (b - i) + t * 2 ^ (b - (i + 1)) := by
  have e : 2 ^ (b - i) = 2 * 2 ^ (b - (i + 1)) := by rw [← Nat.pow_succ']; congr 1; omega
  rw [e, Nat.add_mul, ← Nat.mul_assoc, Nat.mul_comm u 2]
theorem div_step (v k : Nat) : v / 2 ^ k = 2 * (v / 2 ^ (k + 1)) + v / 2 ^ k % 2 := by
  have : v / 2 ^ (k + 1) = v / 2 ^ k / 2 := by rw [Nat.pow_succ, Nat.div_div_eq_div_mul]
  omega
end Go.Proofs.Ytfmlkohijkalbaa

/-
  Plain mathematics of a digest by a tree: no program in sight.
-/
namespace Go.Proofs.Ytfmlkohijkalbaa
set_option linter.unusedVariables false
set_option linter.unusedSimpArgs false

/-- What a row counts where a test holds. -/
def whereP (f : Int → Bool) (L : List PairV) : Int := sumP (L.filter fun p => f p.1)
theorem where_nil (f : Int → Bool) : whereP f [] = 0 := rfl
theorem where_cons (f : Int → Bool) (p : PairV) (r : List PairV) : whereP f (p :: r) = (if f p.1 = true then p.2 else 0) + whereP f r := by
  unfold whereP
  cases h : f p.1 with
  | true => rw [List.filter_cons_of_pos (by simpa using h), sumP_cons]; simp
  | false => rw [List.filter_cons_of_neg (by simp [h])]; simp
theorem where_app (f : Int → Bool) (A B : List PairV) : whereP f (A ++ B) = whereP f A + whereP f B := by unfold whereP; rw [List.filter_append, sumP_app]
theorem where_one (L : List PairV) (i : Int) : whereP (fun j => j == i) L = countP L i := rfl
theorem where_all (L : List PairV) : whereP (fun _ => true) L = sumP L := by
  unfold whereP; rw [List.filter_eq_self.2 (fun p _ => rfl)]
theorem where_pos {f : Int → Bool} {L : List PairV} (h : ∀ p, p ∈ L → 0 ≤ p.2) : 0 ≤ whereP f L := sumP_pos fun p hp => h p (List.mem_filter.1 hp).1
theorem where_le {f g : Int → Bool} {L : List PairV} (h : ∀ p, p ∈ L → 0 ≤ p.2) (k : ∀ p, p ∈ L → f p.1 = true → g p.1 = true) : whereP f L ≤ whereP g L := by
  induction L with
  | nil => exact Int.le_refl _
  | cons p r ih =>
    rw [where_cons, where_cons]
    have h1 := ih (fun q hq => h q (List.mem_cons_of_mem _ hq)) (fun q hq => k q (List.mem_cons_of_mem _ hq))
    have h2 := h p List.mem_cons_self
    have h3 := k p List.mem_cons_self
    cases hf : f p.1 with
    | true => rw [h3 hf]; simp; omega
    | false => simp only [Bool.false_eq_true, if_false]; split <;> omega
theorem where_sum {f : Int → Bool} {L : List PairV} (h : ∀ p, p ∈ L → 0 ≤ p.2) : whereP f L ≤ sumP L := by
  rw [← where_all]; exact where_le h fun _ _ _ => rfl
theorem where_add {L : List PairV} (f : Int → Bool) {i c : Int} (h : GoodP L) (h0 : 0 ≤ c) : whereP f (addP L i c) = whereP f L + if f i = true then c else 0 := by
  unfold addP
  rw [where_app, where_app]
  have hm : ∀ n : Int, 0 ≤ n → whereP f (midP i n) = if f i = true then n else 0 := fun n hn => by
    unfold midP
    by_cases c0 : 0 < n
    · rw [if_pos c0, where_cons, where_nil]; simp
    · rw [if_neg c0, where_nil]; split <;> omega
  rcases good_part i h with ⟨n, e, hc, h1⟩ | ⟨e, hc⟩
  · rw [hc, hm _ (by omega)]
    conv => rhs; rw [← e]
    rw [where_app, where_cons]
    split <;> omega
  · rw [hc, hm _ (by omega)]
    conv => rhs; rw [← e]
    rw [where_app]
    split <;> omega
/-- Three indices put aside. -/
def restD (L : List PairV) (a b c : Int) : List PairV := L.filter fun p => !(p.1 == a) && !(p.1 == b) && !(p.1 == c)
theorem where_rest (f : Int → Bool) {a b c : Int} (hab : a ≠ b) (hac : a ≠ c) (hbc : b ≠ c) (L : List PairV) :
    whereP f L = whereP f (restD L a b c) + (if f a = true then countP L a else 0) + (if f b = true then countP L b else 0) + (if f c = true then countP L c else 0) := by
  induction L with
  | nil => simp [restD, where_nil, countP, sumP_nil]
  | cons p r ih =>
    obtain ⟨i, n⟩ := p
    rw [where_cons, count_cons, count_cons, count_cons, ih]
    unfold restD
    simp only
    by_cases ea : i = a
    · subst ea
      rw [List.filter_cons_of_neg (by simp)]
      rw [if_pos rfl, if_neg hab, if_neg hac]
      cases f i <;> cases f b <;> cases f c <;> simp <;> omega
    · by_cases eb : i = b
      · subst eb
        rw [List.filter_cons_of_neg (by simp)]
        rw [if_neg ea, if_pos rfl, if_neg hbc]
        cases f i <;> cases f a <;> cases f c <;> simp <;> omega
      · by_cases ec : i = c
        · subst ec
          rw [List.filter_cons_of_neg (by simp)]
          rw [if_neg ea, if_neg eb, if_pos rfl]
          cases f i <;> cases f a <;> cases f b <;> simp <;> omega
        · rw [List.filter_cons_of_pos (by simp [ea, eb, ec]), where_cons, if_neg ea, if_neg eb, if_neg ec]
          simp only
          cases f i <;> cases f a <;> cases f b <;> cases f c <;> simp <;> omega
/-- The node beside one. -/
def sibD (v : Int) : Int := if v % 2 = 1 then v - 1 else v + 1
theorem sib_apart {v : Int} (h : 2 ≤ v) : v ≠ sibD v ∧ v ≠ v / 2 ∧ sibD v ≠ v / 2 ∧ sibD v / 2 = v / 2 ∧ 2 ≤ sibD v := by unfold sibD; split <;> omega
/-- A node, the one beside it, the one above: their counts. -/
def triD (R : List PairV) (v : Int) : Int := countP R v + countP R (sibD v) + countP R (v / 2)
def liftB (q : Int) (R : List PairV) (v : Int) : Bool := !(v == 1) && !(countP R v == 0) && decide (triD R v ≤ q)
/-- Counts that go up from a node. -/
def liftD (q : Int) (R : List PairV) (v : Int) : List PairV := if liftB q R v = true then addP (restD R v (sibD v) (v / 2)) (v / 2) (triD R v) else R
theorem lift_no {q : Int} {R : List PairV} {v : Int} (h : liftB q R v = false) : liftD q R v = R := by unfold liftD; rw [h]; rfl
theorem count_posD {L : List PairV} (h : GoodP L) (i : Int) : 0 ≤ countP L i := sumP_pos fun p hp => by have := h.1 p (List.mem_filter.1 hp).1; omega
theorem tri_pos {L : List PairV} (h : GoodP L) (v : Int) : 0 ≤ triD L v := by
  unfold triD
  have := count_posD h v; have := count_posD h (sibD v); have := count_posD h (v / 2); omega
theorem count_rest (L : List PairV) {a b c : Int} : countP (restD L a b c) c = 0 := by
  unfold countP restD
  rw [List.filter_filter, List.filter_eq_nil_iff.2, sumP_nil]
  intro p _
  simp
  intro h; simp [h]
theorem liftB_is {q : Int} {R : List PairV} {v : Int} (h : liftB q R v = true) : v ≠ 1 ∧ countP R v ≠ 0 ∧ triD R v ≤ q := by
  unfold liftB at h
  simpa [and_assoc] using h
/-- What a lift does to a sum. -/
theorem lift_where {q : Int} {R : List PairV} {v : Int} (f : Int → Bool) (hg : GoodP R) (hv : 1 ≤ v) (h : liftB q R v = true) :
    whereP f (liftD q R v) = whereP f R + ((if f (v / 2) = true then countP R v else 0) - (if f v = true then countP R v else 0)) + ((if f (v / 2) = true then countP R (sibD v) else 0) - (if f (sibD v) = true then countP R (sibD v) else 0)) := by
  obtain ⟨h1, _, _⟩ := liftB_is h
  obtain ⟨a, b, c, _, _⟩ := sib_apart (show 2 ≤ v by omega)
  unfold liftD
  rw [if_pos h, where_add f (show GoodP (restD R v (sibD v) (v / 2)) from good_filter _ hg) (tri_pos hg v), where_rest f a b c R]
  unfold triD
  cases f v <;> cases f (sibD v) <;> cases f (v / 2) <;> simp <;> omega
theorem lift_sum {q : Int} {R : List PairV} {v : Int} (hg : GoodP R) (hv : 1 ≤ v) : sumP (liftD q R v) = sumP R := by
  cases h : liftB q R v with
  | false => rw [lift_no h]
  | true => rw [← where_all, lift_where _ hg hv h, where_all]; simp
theorem lift_up {q : Int} {R : List PairV} {v : Int} {f : Int → Bool} (hg : GoodP R) (hv : 1 ≤ v) (h1 : f v = true → f (v / 2) = true) (h2 : f (sibD v) = true → f (v / 2) = true) : whereP f R ≤ whereP f (liftD q R v) := by
  cases h : liftB q R v with
  | false => rw [lift_no h]; exact Int.le_refl _
  | true =>
    rw [lift_where _ hg hv h]
    have c1 := count_posD hg v
    have c2 := count_posD hg (sibD v)
    cases e : f (v / 2) with
    | true => simp; split <;> split <;> omega
    | false =>
      have n1 : f v = false := by cases k : f v with | false => rfl | true => rw [h1 k] at e; cases e
      have n2 : f (sibD v) = false := by cases k : f (sibD v) with | false => rfl | true => rw [h2 k] at e; cases e
      rw [n1, n2]; simp
theorem lift_down {q : Int} {R : List PairV} {v : Int} {f : Int → Bool} (hg : GoodP R) (hv : 1 ≤ v) (h1 : f (v / 2) = true → f v = true ∧ f (sibD v) = true) : whereP f (liftD q R v) ≤ whereP f R := by
  cases h : liftB q R v with
  | false => rw [lift_no h]; exact Int.le_refl _
  | true =>
    rw [lift_where _ hg hv h]
    have c1 := count_posD hg v
    have c2 := count_posD hg (sibD v)
    cases e : f (v / 2) with
    | true => rw [(h1 e).1, (h1 e).2]; simp
    | false => simp; split <;> split <;> omega
theorem lift_good {q : Int} {R : List PairV} {v : Int} (hg : GoodP R) (hs : sumP R ≤ 9223372036854775807) (hv : 1 ≤ v) : GoodP (liftD q R v) := by
  cases h : liftB q R v with
  | false => rw [lift_no h]; exact hg
  | true =>
    obtain ⟨h1, _, _⟩ := liftB_is h
    obtain ⟨a, b, c, _, _⟩ := sib_apart (show 2 ≤ v by omega)
    unfold liftD
    rw [if_pos h]
    refine add_good (good_filter _ hg) ?_
    have hw := where_rest (fun _ => true) a b c R
    rw [where_all, where_all] at hw
    have hp : 0 ≤ sumP (restD R v (sibD v) (v / 2)) := sumP_pos fun p hp => by have := hg.1 p (List.mem_filter.1 hp).1; omega
    have hc := count_rest R (a := v) (b := sibD v) (c := v / 2)
    simp at hw
    show countP (restD R v (sibD v) (v / 2)) (v / 2) + triD R v ≤ _
    rw [hc]
    unfold triD; omega
theorem add_memD {L : List PairV} {i c : Int} {p : PairV} (h : p ∈ addP L i c) : p ∈ L ∨ (p.1 = i ∧ p.2 = countP L i + c) := by
  unfold addP at h
  rcases List.mem_append.1 h with h | h
  · exact Or.inl (lowP_mem h).1
  · rcases List.mem_append.1 h with h | h
    · unfold midP at h
      split at h
      · have := List.mem_singleton.1 h; subst this; exact Or.inr ⟨rfl, rfl⟩
      · cases h
    · exact Or.inl (highP_mem h).1
/-- Where a lift's pairs come from. -/
theorem lift_mem {q : Int} {R : List PairV} {v : Int} {p : PairV} (h : p ∈ liftD q R v) : p ∈ R ∨ (p.1 = v / 2 ∧ p.2 ≤ q ∧ liftB q R v = true) := by
  cases hb : liftB q R v with
  | false => rw [lift_no hb] at h; exact Or.inl h
  | true =>
    unfold liftD at h
    rw [if_pos hb] at h
    rcases add_memD h with h | ⟨h1, h2⟩
    · exact Or.inl (List.mem_filter.1 h).1
    · have := count_rest R (a := v) (b := sibD v) (c := v / 2)
      rw [this] at h2
      exact Or.inr ⟨h1, by have := (liftB_is hb).2.2; omega, rfl⟩
/-- What goes down with each lift. -/
def idxSum (L : List PairV) : Int := (L.map fun p => p.1).sum
theorem idx_cons (p : PairV) (r : List PairV) : idxSum (p :: r) = p.1 + idxSum r := by unfold idxSum; simp
theorem idx_app (A B : List PairV) : idxSum (A ++ B) = idxSum A + idxSum B := by unfold idxSum; rw [List.map_append, List.sum_append]
theorem idx_pos {L : List PairV} (h : ∀ p, p ∈ L → 0 ≤ p.1) : 0 ≤ idxSum L := by
  induction L with
  | nil => exact Int.le_refl _
  | cons p r ih => rw [idx_cons]; have := h p List.mem_cons_self; have := ih fun q hq => h q (List.mem_cons_of_mem _ hq); omega
theorem idx_le {L : List PairV} (f : PairV → Bool) (h : ∀ p, p ∈ L → 0 ≤ p.1) : idxSum (L.filter f) ≤ idxSum L := by
  induction L with
  | nil => exact Int.le_refl _
  | cons p r ih =>
    have h0 := h p List.mem_cons_self
    have h1 := ih fun q hq => h q (List.mem_cons_of_mem _ hq)
    rw [List.filter_cons]
    split
    · rw [idx_cons, idx_cons]; omega
    · rw [idx_cons]; omega
theorem idx_filter {L : List PairV} (f : PairV → Bool) (h : ∀ p, p ∈ L → 0 ≤ p.1) {v : PairV} (hv : v ∈ L) (hf : f v = false) : idxSum (L.filter f) + v.1 ≤ idxSum L := by
  induction L with
  | nil => cases hv
  | cons p r ih =>
    have h' := fun q hq => h q (List.mem_cons_of_mem p hq)
    have h0 := h p List.mem_cons_self
    have hle := idx_le (L := r) f h'
    rcases List.mem_cons.1 hv with e | e
    · subst e
      rw [List.filter_cons_of_neg (by simp [hf]), idx_cons]; omega
    · have := ih h' e
      rw [List.filter_cons]
      split
      · rw [idx_cons, idx_cons]; omega
      · rw [idx_cons]; omega
theorem idx_low (L : List PairV) (i : Int) (hc : ∀ p, p ∈ L → p.1 ≠ i) : idxSum (lowP L i) + idxSum (highP L i) = idxSum L := by
  induction L with
  | nil => rfl
  | cons p r ih =>
    have h := ih fun q hq => hc q (List.mem_cons_of_mem _ hq)
    have h0 := hc p List.mem_cons_self
    unfold lowP highP at *
    by_cases c : p.1 < i
    · rw [List.filter_cons_of_pos (by simpa using c), List.filter_cons_of_neg (by simp; omega), idx_cons, idx_cons]; omega
    · rw [List.filter_cons_of_neg (by simpa using c), List.filter_cons_of_pos (by simp; omega), idx_cons, idx_cons]; omega
theorem count_memD {L : List PairV} {i : Int} (h : countP L i ≠ 0) : ∃ p, p ∈ L ∧ p.1 = i := by
  unfold countP at h
  cases e : L.filter fun p => p.1 == i with
  | nil => rw [e] at h; exact absurd rfl h
  | cons p r =>
    have : p ∈ L.filter fun p => p.1 == i := by rw [e]; exact List.mem_cons_self
    obtain ⟨a, b⟩ := List.mem_filter.1 this
    exact ⟨p, a, by simpa using b⟩
theorem lift_idx {q : Int} {R : List PairV} {v : Int} (hi : ∀ p, p ∈ R → 1 ≤ p.1) (hv : 1 ≤ v) (h : liftB q R v = true) : idxSum (liftD q R v) < idxSum R := by
  obtain ⟨h1, h2, _⟩ := liftB_is h
  obtain ⟨⟨i, n⟩, hp, e⟩ := count_memD h2
  simp only at e
  subst e
  have hf := idx_filter (fun p : PairV => !(p.1 == i) && !(p.1 == sibD i) && !(p.1 == i / 2)) (fun p hp => by have := hi p hp; omega) hp (by simp)
  unfold liftD
  rw [if_pos h]
  unfold addP
  have hr := idx_low (restD R i (sibD i) (i / 2)) (i / 2) (fun p hp => by
    have := (List.mem_filter.1 hp).2
    simp at this
    exact this.2)
  have hm : idxSum (midP (i / 2) (countP (restD R i (sibD i) (i / 2)) (i / 2) + triD R i)) ≤ i / 2 := by
    unfold midP; split
    · rw [idx_cons]; show i / 2 + 0 ≤ i / 2; omega
    · show (0 : Int) ≤ i / 2; omega
  rw [idx_app, idx_app]
  have hf' : idxSum (restD R i (sibD i) (i / 2)) + i ≤ idxSum R := hf
  omega
end Go.Proofs.Ytfmlkohijkalbaa

/-
  The ends of values, and how many lie up to one: mathematics, and the reference's Ends and Up. (tools/gen_gw_e.py, out of DigW)
-/
namespace Go.Proofs.Ytfmlkohijkalbaa
set_option linter.unusedVariables false
set_option linter.unusedSimpArgs false
open Go.RowKit

theorem where_snocW {L : List PairV} {i : Nat} {p : PairV} (f : Int → Bool) (h : L[i]? = some p) : whereP f (L.take (i + 1)) = whereP f (L.take i) + if f p.1 = true then p.2 else 0 := by
  rw [take_snocP h, where_app, where_cons, where_nil, Int.add_zero]
theorem where_partW {L : List PairV} (f : Int → Bool) (h : ∀ p, p ∈ L → 0 ≤ p.2) (i : Nat) : 0 ≤ whereP f (L.take i) ∧ whereP f (L.take i) ≤ sumP L := by
  have h' : ∀ p, p ∈ L.take i → 0 ≤ p.2 := fun p hp => h p (List.mem_of_mem_take hp)
  exact ⟨where_pos h', Int.le_trans (where_sum h') (sumP_take i h).2⟩
/-- How many values lie up to one, and below it: of all of them. -/
theorem where_up {A : List PairV} (h : ∀ p, p ∈ A → 0 ≤ p.2) (x : Int) : whereP (fun y => decide (y ≤ x)) A = upV (allG A) x ∧ whereP (fun y => decide (y < x)) A = unV (allG A) x ∧ sumP A = (allG A).length := by
  induction A with
  | nil => exact ⟨rfl, rfl, rfl⟩
  | cons p r ih =>
    obtain ⟨i1, i2, i3⟩ := ih fun q hq => h q (List.mem_cons_of_mem _ hq)
    have h0 := h p List.mem_cons_self
    have e : allG (p :: r) = List.replicate p.2.toNat p.1 ++ allG r := by unfold allG; rw [List.flatMap_cons]
    have t : ((p.2.toNat : Nat) : Int) = p.2 := Int.toNat_of_nonneg h0
    rw [e, where_cons, where_cons, upV_app, unV_app, up_rep, un_rep, i1, i2, sumP_cons, i3, List.length_append, List.length_replicate, t, Int.natCast_add, t]
    simp only [decide_eq_true_eq]
    exact ⟨trivial, trivial, trivial⟩
/-- The least and the greatest of values, from one on. -/
def loFD (x : Int) (A : List PairV) : Int := A.foldl (fun a v => min a v.1) x
def hiFD (x : Int) (A : List PairV) : Int := A.foldl (fun a v => max a v.1) x
theorem lof_snocD (x : Int) (A : List PairV) (v : PairV) : loFD x (A ++ [v]) = min (loFD x A) v.1 := by unfold loFD; rw [List.foldl_append]; rfl
theorem hif_snocD (x : Int) (A : List PairV) (v : PairV) : hiFD x (A ++ [v]) = max (hiFD x A) v.1 := by unfold hiFD; rw [List.foldl_append]; rfl
theorem lof_appD (x : Int) (A B : List PairV) : loFD x (A ++ B) = loFD (loFD x A) B := by unfold loFD; rw [List.foldl_append]
theorem hif_appD (x : Int) (A B : List PairV) : hiFD x (A ++ B) = hiFD (hiFD x A) B := by unfold hiFD; rw [List.foldl_append]
theorem lof_leD : ∀ (A : List PairV) (x : Int), loFD x A ≤ x ∧ ∀ v, v ∈ A → loFD x A ≤ v.1 := by
  intro A
  induction A with
  | nil => intro x; exact ⟨Int.le_refl _, fun v h => (by cases h)⟩
  | cons a r ih =>
    intro x
    obtain ⟨h1, h2⟩ := ih (min x a.1)
    have e : loFD x (a :: r) = loFD (min x a.1) r := rfl
    rw [e]
    refine ⟨by omega, fun v hv => ?_⟩
    rcases List.mem_cons.1 hv with rfl | hv
    · omega
    · exact h2 v hv
theorem hif_geD : ∀ (A : List PairV) (x : Int), x ≤ hiFD x A ∧ ∀ v, v ∈ A → v.1 ≤ hiFD x A := by
  intro A
  induction A with
  | nil => intro x; exact ⟨Int.le_refl _, fun v h => (by cases h)⟩
  | cons a r ih =>
    intro x
    obtain ⟨h1, h2⟩ := ih (max x a.1)
    have e : hiFD x (a :: r) = hiFD (max x a.1) r := rfl
    rw [e]
    refine ⟨by omega, fun v hv => ?_⟩
    rcases List.mem_cons.1 hv with rfl | hv
    · omega
    · exact h2 v hv
theorem lof_memD : ∀ (A : List PairV) (x : Int), loFD x A = x ∨ ∃ v, v ∈ A ∧ v.1 = loFD x A := by
  intro A
  induction A with
  | nil => intro x; exact Or.inl rfl
  | cons a r ih =>
    intro x
    have e : loFD x (a :: r) = loFD (min x a.1) r := rfl
    rw [e]
    rcases ih (min x a.1) with h | ⟨v, hv, h⟩
    · by_cases c : x ≤ a.1
      · exact Or.inl (by omega)
      · exact Or.inr ⟨a, by simp, by omega⟩
    · exact Or.inr ⟨v, by simp [hv], h⟩
theorem hif_memD : ∀ (A : List PairV) (x : Int), hiFD x A = x ∨ ∃ v, v ∈ A ∧ v.1 = hiFD x A := by
  intro A
  induction A with
  | nil => intro x; exact Or.inl rfl
  | cons a r ih =>
    intro x
    have e : hiFD x (a :: r) = hiFD (max x a.1) r := rfl
    rw [e]
    rcases ih (max x a.1) with h | ⟨v, hv, h⟩
    · by_cases c : a.1 ≤ x
      · exact Or.inl (by omega)
      · exact Or.inr ⟨a, by simp, by omega⟩
    · exact Or.inr ⟨v, by simp [hv], h⟩
/-- The ends of all values: noughts, if there are none. -/
def loVD (A : List PairV) : Int := match A with | [] => 0 | v :: r => loFD v.1 (v :: r)
def hiVD (A : List PairV) : Int := match A with | [] => 0 | v :: r => hiFD v.1 (v :: r)
theorem lov_ofD {A : List PairV} {x : Int} (h : ∃ v, v ∈ A ∧ v.1 = x) (hx : ∀ v, v ∈ A → x ≤ v.1) : loVD A = x := by
  obtain ⟨v, hv, e⟩ := h
  cases A with
  | nil => cases hv
  | cons a r =>
    show loFD a.1 (a :: r) = x
    have h1 := (lof_leD (a :: r) a.1).2 v hv
    rcases lof_memD (a :: r) a.1 with h | ⟨u, hu, h⟩
    · have := hx a (by simp); omega
    · have := hx u hu; omega
theorem hiv_ofD {A : List PairV} {x : Int} (h : ∃ v, v ∈ A ∧ v.1 = x) (hx : ∀ v, v ∈ A → v.1 ≤ x) : hiVD A = x := by
  obtain ⟨v, hv, e⟩ := h
  cases A with
  | nil => cases hv
  | cons a r =>
    show hiFD a.1 (a :: r) = x
    have h1 := (hif_geD (a :: r) a.1).2 v hv
    rcases hif_memD (a :: r) a.1 with h | ⟨u, hu, h⟩
    · have := hx a (by simp); omega
    · have := hx u hu; omega
theorem lov_factsD {A : List PairV} (h : A ≠ []) : (∃ v, v ∈ A ∧ v.1 = loVD A) ∧ ∀ v, v ∈ A → loVD A ≤ v.1 := by
  cases A with
  | nil => exact absurd rfl h
  | cons a r =>
    refine ⟨?_, (lof_leD (a :: r) a.1).2⟩
    rcases lof_memD (a :: r) a.1 with h | ⟨u, hu, h⟩
    · exact ⟨a, by simp, h.symm⟩
    · exact ⟨u, hu, h⟩
theorem hiv_factsD {A : List PairV} (h : A ≠ []) : (∃ v, v ∈ A ∧ v.1 = hiVD A) ∧ ∀ v, v ∈ A → v.1 ≤ hiVD A := by
  cases A with
  | nil => exact absurd rfl h
  | cons a r =>
    refine ⟨?_, (hif_geD (a :: r) a.1).2⟩
    rcases hif_memD (a :: r) a.1 with h | ⟨u, hu, h⟩
    · exact ⟨a, by simp, h.symm⟩
    · exact ⟨u, hu, h⟩
theorem ends_appD {A B : List PairV} (hA : A ≠ []) (hB : B ≠ []) : loVD (A ++ B) = min (loVD A) (loVD B) ∧ hiVD (A ++ B) = max (hiVD A) (hiVD B) := by
  obtain ⟨⟨a, ha, ea⟩, la⟩ := lov_factsD hA
  obtain ⟨⟨b, hb, eb⟩, lb⟩ := lov_factsD hB
  obtain ⟨⟨c, hc, ec⟩, hc'⟩ := hiv_factsD hA
  obtain ⟨⟨d, hd, ed⟩, hd'⟩ := hiv_factsD hB
  constructor
  · refine lov_ofD ?_ fun v hv => ?_
    · by_cases h : loVD A ≤ loVD B
      · exact ⟨a, by simp [ha], by omega⟩
      · exact ⟨b, by simp [hb], by omega⟩
    · rcases List.mem_append.1 hv with h | h
      · have := la v h; omega
      · have := lb v h; omega
  · refine hiv_ofD ?_ fun v hv => ?_
    · by_cases h : hiVD B ≤ hiVD A
      · exact ⟨c, by simp [hc], by omega⟩
      · exact ⟨d, by simp [hd], by omega⟩
    · rcases List.mem_append.1 hv with h | h
      · have := hc' v h; omega
      · have := hd' v h; omega
theorem ends_oneD (v : PairV) : loVD [v] = v.1 ∧ hiVD [v] = v.1 := by
  constructor
  · show min v.1 v.1 = v.1; omega
  · show max v.1 v.1 = v.1; omega
theorem ends_snocD {A : List PairV} (hA : A ≠ []) (v : PairV) : loVD (A ++ [v]) = min (loVD A) v.1 ∧ hiVD (A ++ [v]) = max (hiVD A) v.1 := by
  have h := ends_appD hA (B := [v]) (by simp)
  rw [(ends_oneD v).1, (ends_oneD v).2] at h
  exact h
/-- What Ends tells of values. -/
def endAD (A : List PairV) : Int × Int × Bool := if A = [] then (0, 0, false) else (loVD A, hiVD A, true)
theorem ret_endsD {a b x y : Int} {c : Bool} (h : a = x) (h' : b = y) : Ending.returned (.tuple #[.int .i64 a, .int .i64 b, .bool c]) = .returned (.tuple #[.int .i64 x, .int .i64 y, .bool c]) := by rw [h, h']
theorem lof_bdD {A : List PairV} (h : ∀ p, p ∈ A → okP p) {x : Int} (hx : I64 x) : I64 (loFD x A) := by
  rcases lof_memD A x with e | ⟨v, hv, e⟩
  · rw [e]; exact hx
  · rw [← e]; exact (h v hv).1
theorem hif_bdD {A : List PairV} (h : ∀ p, p ∈ A → okP p) {x : Int} (hx : I64 x) : I64 (hiFD x A) := by
  rcases hif_memD A x with e | ⟨v, hv, e⟩
  · rw [e]; exact hx
  · rw [← e]; exact (h v hv).1

set_option maxRecDepth 100000 in
set_option maxHeartbeats 1000000 in
theorem rends19_any (w : World) (a : Option Addr) (cap : Nat) (A : List PairV) (x y : Int) (b : Bool) (h : Pairs w a A) (hl : A.length ≤ 1000) (he : endAD A = (x, y, b)) :
    Calls Try.prog 13 #[.slice a A.length cap] w fun e w' => e = .returned (.tuple #[.int .i64 x, .int .i64 y, .bool b]) ∧ Below w.heap.size w w' := by
  have HI := Lib.hid h
  cases A with
  | nil =>
    have e : endAD [] = (0, 0, false) := rfl
    rw [e] at he
    obtain ⟨rfl, rfl, rfl⟩ : 0 = x ∧ 0 = y ∧ false = b := by simpa using he
    clear h he e
    go_enter Try.func13, Try.ntmps13
    go_wp2_with fail
    go_ret3
    exact ⟨rfl, Below.refl _ _⟩
  | cons p0 r =>
    have e : endAD (p0 :: r) = (loFD p0.1 (p0 :: r), hiFD p0.1 (p0 :: r), true) := by unfold endAD; rw [if_neg (by simp)]; rfl
    rw [e] at he
    obtain ⟨h1, h2, rfl⟩ : loFD p0.1 (p0 :: r) = x ∧ hiFD p0.1 (p0 :: r) = y ∧ true = b := by simpa using he
    have HX := Lib.hid h1
    have HY := Lib.hid h2
    have h0 : (p0 :: r)[0]? = some p0 := rfl
    have n0 : 0 < (p0 :: r).length := by simp
    have HLB := Lib.hid (fun k => lof_bdD (A := (p0 :: r).take k) (fun p hp => h.ok p (List.mem_of_mem_take hp)) (h.ok _ (List.mem_of_getElem? h0)).1)
    have HHB := Lib.hid (fun k => hif_bdD (A := (p0 :: r).take k) (fun p hp => h.ok p (List.mem_of_mem_take hp)) (h.ok _ (List.mem_of_getElem? h0)).1)
    generalize p0 :: r = A at *
    obtain ⟨x0, n0'⟩ := p0
    obtain ⟨b0, off0, rfl, hbl0, d0, d1⟩ := HI.out.at_ 0 _ h0
    have hk0 := HI.out.ok _ (List.mem_of_getElem? h0)
    obtain ⟨⟨z1, z2⟩, z3, z4⟩ := hk0
    simp only [Nat.zero_mul, Nat.mul_zero, Nat.add_zero] at d0 d1 z1 z2 z3 z4 HX HY HLB HHB
    have nz : ((A.length : Int) == 0) = false := by rw [beq_eq_false_iff_ne]; omega
    clear h he e h1 h2 h0
    go_enter Try.func13, Try.ntmps13
    go_wp2_with fail
    go_loopw [5, 6, 22] (fun l g j wr => ∃ k : Nat, k ≤ A.length ∧ j = .int .i64 k ∧ l = .int .i64 (loFD x0 (A.take k)) ∧ g = .int .i64 (hiFD x0 (A.take k)) ∧ Below w.heap.size w wr) (fun _ _ j _ => A.length - (intOf j).toNat)
    case atStart => exact ⟨0, Nat.zero_le _, rfl, rfl, rfl, Below.refl _ _⟩
    case round =>
      obtain ⟨k, hk, rfl, rfl, rfl, hb2⟩ := hrel
      have hlb := HLB.out k
      have hhb := HHB.out k
      obtain ⟨LO, hLO⟩ : ∃ LO, loFD x0 (A.take k) = LO := ⟨_, rfl⟩
      obtain ⟨HI2, hHI2⟩ : ∃ HI2, hiFD x0 (A.take k) = HI2 := ⟨_, rfl⟩
      rw [hLO] at hlb
      rw [hHI2] at hhb
      rw [hLO, hHI2]
      obtain ⟨y0, y1⟩ := hlb
      obtain ⟨y2, y3⟩ := hhb
      have HLO := Lib.hid hLO
      have HHI := Lib.hid hHI2
      clear hLO hHI2
      by_cases hlt : k < A.length
      · have kk : (k : Int) < A.length := by omega
        have hxk : A[k]? = some A[k] := List.getElem?_eq_getElem hlt
        generalize hit : A[k] = p at *
        obtain ⟨px, pc⟩ := p
        obtain ⟨b, off, e2, hbl, c0, c1⟩ := (HI.out.call hb2).at_ k _ hxk
        obtain ⟨rfl, rfl⟩ : b0 = b ∧ off0 = off := by simpa using e2
        have HS1 : Hid (loFD x0 (A.take (k + 1)) = min LO px) := Lib.hid (by rw [take_snocP hxk, lof_snocD, HLO.out])
        have HS2 : Hid (hiFD x0 (A.take (k + 1)) = max HI2 px) := Lib.hid (by rw [take_snocP hxk, hif_snocD, HHI.out])
        have hok := HI.out.ok _ (List.mem_of_getElem? hxk)
        obtain ⟨⟨o1, o2⟩, o3, o4⟩ := hok
        have hbs := hb2.size
        simp only at c0 c1 o1 o2 o3 o4 HS1 HS2
        clear hxk hit e2
        go_wp2_with fail
        all_goals
          go_roundw
          case rel => exact ⟨k + 1, by omega, by go_num, by rw [HS1.out], by rw [HS2.out], hb2.alloc hbs _⟩
          case measure => simp [intOf]; omega
      · obtain rfl : k = A.length := by omega
        rw [List.take_length] at HLO HHI
        have kk : ¬ (A.length : Int) < A.length := by omega
        have E : Hid (LO = x ∧ HI2 = y) := Lib.hid ⟨by rw [← HLO.out]; exact HX.out, by rw [← HHI.out]; exact HY.out⟩
        go_wp2_with fail
        go_ret3
        exact ⟨ret_endsD E.out.1 E.out.2, hb2⟩

set_option maxRecDepth 100000 in
set_option maxHeartbeats 1000000 in
theorem rup19_any (w : World) (a : Option Addr) (cap : Nat) (A : List PairV) (x n : Int) (h : Pairs w a A) (hx : I64 x) (hl : A.length ≤ 1000) (hb : sumP A < 18446744073709551616) (hn : whereP (fun y => decide (y ≤ x)) A = n) :
    Calls Try.prog 19 #[.slice a A.length cap, .int .i64 x] w fun e w' => e = .returned (.int .u64 n) ∧ Below w.heap.size w w' := by
  have HI := Lib.hid h
  have HN := Lib.hid hn
  have HP := Lib.hid (fun k => where_partW (L := A) (fun y => decide (y ≤ x)) (ok_pos h.ok) k)
  obtain ⟨x0, x1⟩ := hx
  clear h hn
  go_enter Try.func19, Try.ntmps19
  go_wp2_with fail
  go_loopw [5, 10] (fun s j wr => ∃ (k : Nat) (m : Int), k ≤ A.length ∧ j = .int .i64 k ∧ s = .int .u64 m ∧ m = whereP (fun y => decide (y ≤ x)) (A.take k) ∧ Below w.heap.size w wr) (fun _ j _ => A.length - (intOf j).toNat)
  case atStart => exact ⟨0, 0, Nat.zero_le _, rfl, rfl, rfl, Below.refl _ _⟩
  case round =>
    obtain ⟨k, m, hk, rfl, rfl, hm, hb2⟩ := hrel
    have HM := Lib.hid hm
    by_cases hlt : k < A.length
    · have kk : (k : Int) < A.length := by omega
      have hxk : A[k]? = some A[k] := List.getElem?_eq_getElem hlt
      generalize hit : A[k] = p at *
      obtain ⟨px, pc⟩ := p
      obtain ⟨b, off, rfl, hbl, c0, c1⟩ := (HI.out.call hb2).at_ k _ hxk
      have HS := Lib.hid (where_snocW (fun y => decide (y ≤ x)) hxk)
      have hok := HI.out.ok _ (List.mem_of_getElem? hxk)
      have p1 := HP.out (k + 1)
      have p0 := HP.out k
      rw [HS.out] at p1
      rw [← hm] at p0 p1
      have hbs := hb2.size
      obtain ⟨⟨o1, o2⟩, o3, o4⟩ := hok
      simp only [decide_eq_true_eq] at c0 c1 o1 o2 o3 o4 p1 HS
      clear hxk hit hm
      by_cases he : px ≤ x
      · rw [if_pos he] at p1 HS
        obtain ⟨p2, p3⟩ := p1
        obtain ⟨p4, _⟩ := p0
        go_wp2_with fail
        go_roundw
        case rel => exact ⟨k + 1, m + pc, by omega, by go_num, rfl, by rw [HS.out, HM.out], hb2.alloc hbs _⟩
        case measure => simp [intOf]; omega
      · rw [if_neg he] at p1 HS
        clear p0 p1
        go_wp2_with fail
        go_roundw
        case rel => exact ⟨k + 1, m, by omega, by go_num, rfl, by rw [HS.out, HM.out, Int.add_zero], hb2.alloc hbs _⟩
        case measure => simp [intOf]; omega
    · obtain rfl : k = A.length := by omega
      rw [List.take_length] at HM
      have E : Hid (m = n) := Lib.hid (by rw [HM.out]; exact HN.out)
      have kk : ¬ (A.length : Int) < A.length := by omega
      clear hm
      go_wp2_with fail
      go_ret
      exact ⟨ret_int E.out, hb2⟩

theorem endA_snoc (A : List PairV) (v : PairV) : endAD (A ++ [v]) = addW (endAD A) v.1 := by
  unfold endAD addW
  rw [if_neg (by simp)]
  by_cases h : A = []
  · subst h
    rw [if_pos rfl]
    simp only [List.nil_append, Bool.false_eq_true, if_false]
    rw [(ends_oneD v).1, (ends_oneD v).2]
  · rw [if_neg h]
    simp only [if_true]
    rw [(ends_snocD h v).1, (ends_snocD h v).2]
theorem endA_app (A B : List PairV) : endAD (A ++ B) = joinW (endAD A) (endAD B) := by
  unfold joinW
  by_cases hB : B = []
  · subst hB
    have : endAD [] = (0, 0, false) := rfl
    rw [this, List.append_nil]; rfl
  · have eB : endAD B = (loVD B, hiVD B, true) := by unfold endAD; rw [if_neg hB]
    rw [eB]
    simp only [if_true]
    by_cases hA : A = []
    · subst hA
      have : endAD [] = (0, 0, false) := rfl
      rw [this, List.nil_append, eB]; rfl
    · have eA : endAD A = (loVD A, hiVD A, true) := by unfold endAD; rw [if_neg hA]
      rw [eA]
      simp only [if_true]
      unfold endAD
      rw [if_neg (by simp [hA]), (ends_appD hA hB).1, (ends_appD hA hB).2]
end Go.Proofs.Ytfmlkohijkalbaa

/-
  The laws of layer 19: build.
-/
namespace Go.Proofs.Ytfmlkohijkalbaa
set_option linter.unusedVariables false
set_option linter.unusedSimpArgs false
open Go.RowKit

/-- Of a few values: each counted, and not too often. -/
def OneG (A : List PairV) : Prop := ∀ p, p ∈ A → 1 ≤ p.2 ∧ p.2 ≤ 150
theorem one_sum {A : List PairV} (h : OneG A) : (A.length : Int) ≤ sumP A ∧ sumP A ≤ 150 * A.length := by
  induction A with
  | nil => exact ⟨by simp [sumP_nil], by simp [sumP_nil]⟩
  | cons p r ih =>
    obtain ⟨h1, h2⟩ := ih fun q hq => h q (List.mem_cons_of_mem _ hq)
    have h3 := h p List.mem_cons_self
    rw [sumP_cons, List.length_cons, Int.natCast_add]
    omega
theorem OneG.take {A : List PairV} (h : OneG A) (k : Nat) : OneG (A.take k) := fun p hp => h p (List.mem_of_mem_take hp)
/-- What can be played. -/
structure FewG (A : List PairV) : Prop where
  one : OneG A
  len : A.length ≤ 60
  sum : sumP A ≤ 150
theorem build_facts (u v : Int) : ∀ (n : Nat) (A : List PairV), A.length = n → (∀ p, p ∈ A → okP p) → sumP A ≤ 5000 →
    OkGw (buildG u v A) ∧ (buildG u v A).2.length < 16 ∧ (lenG (buildG u v A) : Int) ≤ sumP A ∧ totG (buildG u v A) = sumP A
  | 0, A, hn, hk, hs => by
    rw [List.eq_nil_of_length_eq_zero hn, show buildG u v [] = ([], []) from rfl]
    exact ⟨⟨fun x hx => (by cases hx), fun x hx => (by cases hx), rfl, by decide, by decide, by decide⟩, by decide, by decide, by decide⟩
  | n + 1, A, hn, hk, hs => by
    have hne : A ≠ [] := fun e => by rw [e] at hn; cases hn
    have e := List.dropLast_concat_getLast hne
    obtain ⟨p, hp⟩ : ∃ p, A.getLast hne = p := ⟨_, rfl⟩
    obtain ⟨R, hR⟩ : ∃ R, A.dropLast = R := ⟨_, rfl⟩
    rw [hp, hR] at e
    subst e
    have hl : R.length = n := by rw [List.length_append] at hn; simpa using hn
    have hkp := hk p (by simp)
    have hkR : ∀ q, q ∈ R → okP q := fun q hq => hk q (by simp [hq])
    have h0 := sumP_pos (ok_pos hkR)
    obtain ⟨⟨x0, x1⟩, c0, c1⟩ := hkp
    rw [sumP_app, sumP_one] at hs ⊢
    obtain ⟨i1, i2, i3, i4⟩ := build_facts u v n R hl hkR (by omega)
    obtain ⟨c, hc⟩ : ∃ c : Nat, p.2 = c := ⟨p.2.toNat, by omega⟩
    rw [build_snoc, hc, Int.toNat_natCast]
    obtain ⟨j1, j2, j3, j4⟩ := put_ok (u := u) (v := v) i1 ⟨x0, x1⟩ i2 c (by omega) (by omega)
    exact ⟨j1, j4, by omega, by omega⟩
/-- A sketch that was built, and what it must be. -/
structure BuiltG (Gw : GwT) (w : World) (u v : Int) (A : List PairV) (B : Nat) (S : Nat → Prop) (M : Nat) (vs vw : Value) (w' : World) : Prop where
  gw : Gw w' B S u v (buildG u v A) (endAD A)
  ref : RefGw w' M u v vs vw (buildG u v A)
  sep : ∀ k, rgS M vs vw k → ¬ S k
  newS : ∀ k, S k → w.heap.size ≤ k
  newR : ∀ k, rgS M vs vw k → w.heap.size ≤ k
  below : Below w.heap.size w w'
def Build19 (Gw : GwT) (w : World) (u v : Int) (A : List PairV) (e : Ending) (w' : World) : Prop :=
  (∃ B S M vs vw, e = .returned (.tuple #[.pointer (some ⟨B, 0, none⟩), .pointer (some ⟨M, 0, none⟩), .bool true]) ∧ GoodA u v ∧ FewG A ∧ BuiltG Gw w u v A B S M vs vw w') ∨
  (e = .returned (.tuple #[.pointer none, .pointer none, .bool false]) ∧ ¬ (GoodA u v ∧ FewG A) ∧ Below w.heap.size w w')
theorem size_boxW (w : World) (o : Obj) : (w.alloc o).heap.size = w.heap.size + 1 := by unfold World.alloc; exact Array.size_push _
theorem two_boxW (w : World) (x y : Value) (t : TypeId) : (w.alloc (.cells #[x, y] t)).cell? ⟨w.heap.size, 0, none⟩ = some x ∧ (w.alloc (.cells #[x, y] t)).cell? ⟨w.heap.size, 1, none⟩ = some y := ⟨(Two.new w x y t).c0, (Two.new w x y t).c1⟩
theorem gw_new (w : World) (u v : Int) : RefGw (w.alloc (.cells #[.int .u64 u, .int .u64 v, .slice none 0 0, .slice none 0 0] 77)) w.heap.size u v (.slice none 0 0) (.slice none 0 0) ([], []) := by
  refine ⟨?_, ?_, ?_, ?_, ?_, OwnSp.nil _ _, OwnN.nil _ _, ?_, ?_, ?_⟩
  · go_simp
  · go_simp
  · go_simp
  · go_simp
  · intro o; go_simp
  · intro h; cases h
  · intro h; cases h
  · intro g h; cases h

set_option maxRecDepth 100000 in
set_option maxHeartbeats 8000000 in
theorem build19_any {Gw : GwT} (D : GwDoes Gw) (w : World) (u v : Int) (A : List PairV) (a : Option Addr) (cap : Nat) (hu : Word u) (hv : Word v) (hA : Pairs w a A) (hl : A.length ≤ 140737488351232) :
    Calls Try.prog 9 #[.agg #[.int .u64 u, .int .u64 v], .slice a A.length cap] w (Build19 Gw w u v A) := by
  have HD := Lib.hid D
  have HA := Lib.hid hA
  have HU := Lib.hid hu
  have HV := Lib.hid hv
  obtain ⟨u0, u1⟩ := hu
  obtain ⟨v0, v1⟩ := hv
  obtain ⟨bx0, bx1⟩ := two_boxW w (.int .u64 u) (.int .u64 v) 24
  have HX0 := Lib.hid bx0
  have HX1 := Lib.hid bx1
  have HB0 : Hid (Below w.heap.size w (w.alloc (.cells #[.int .u64 u, .int .u64 v] 24))) := Lib.hid ((Below.refl _ _).alloc (Nat.le_refl _) _)
  have HWA : Hid ((w.alloc (.cells #[.int .u64 u, .int .u64 v] 24)).heap.size = w.heap.size + 1) := Lib.hid (size_boxW _ _)
  clear hA D bx0 bx1
  go_enter Try.func9, Try.ntmps9
  go_wp2_with fail
  go_loopw [7, 17] (fun nv jv wr => ∃ (k : Nat) (n : Int), k ≤ A.length ∧ jv = .int .i64 k ∧ nv = .int .u64 n ∧ n = sumP (A.take k) ∧ OneG (A.take k) ∧ Below w.heap.size w wr ∧ w.heap.size + 1 ≤ wr.heap.size ∧ wr.cell? ⟨w.heap.size, 0, none⟩ = some (.int .u64 u) ∧ wr.cell? ⟨w.heap.size, 1, none⟩ = some (.int .u64 v)) (fun _ jv _ => A.length - (intOf jv).toNat)
  case atStart => exact ⟨0, 0, Nat.zero_le _, rfl, rfl, rfl, (fun p h => (by cases h)), HB0.out, Nat.le_of_eq HWA.out.symm, HX0.out, HX1.out⟩
  case round =>
    obtain ⟨k, n, hk, rfl, rfl, hn, hone, hb2, hsz, hc0, hc1⟩ := hrel
    have HN := Lib.hid hn
    have HO := Lib.hid hone
    have HB := Lib.hid hb2
    have HC0 := Lib.hid hc0
    have HC1 := Lib.hid hc1
    have HSZ := Lib.hid hsz
    have hbs := hb2.size
    by_cases hlt : k < A.length
    · have kk : (k : Int) < A.length := by omega
      have hxk : A[k]? = some A[k] := List.getElem?_eq_getElem hlt
      generalize hit : A[k] = p at *
      obtain ⟨px, pc⟩ := p
      obtain ⟨b, off, rfl, hbl, c0, c1⟩ := (HA.out.call hb2).at_ k _ hxk
      have HS := Lib.hid (take_snocP hxk)
      have HMEM := Lib.hid (List.mem_of_getElem? hxk)
      have hok := HA.out.ok _ (List.mem_of_getElem? hxk)
      obtain ⟨⟨o1, o2⟩, o3, o4⟩ := hok
      have hsum := one_sum hone
      rw [← hn, List.length_take] at hsum
      obtain ⟨s1, s2⟩ : 0 ≤ n ∧ n ≤ 150 * 140737488351232 := by omega
      have HAL : Hid (Below wr.heap.size wr (wr.alloc (.cells #[.int .i64 px, .int .u64 pc] 54))) := Lib.hid ((Below.refl _ _).alloc (Nat.le_refl _) _)
      have HB4 := Lib.hid (hb2.trans (HAL.out.mono hbs))
      simp only at c0 c1 o1 o2 o3 o4
      clear hxk hit hn hone hsum hb2 hc0 hc1
      by_cases z1 : pc = 0
      · have HNO : Hid (¬ OneG A) := Lib.hid fun h => by have := (h _ HMEM.out).1; simp only at this; omega
        have g1 : (pc == 0) = true := by rw [z1]; rfl
        clear z1
        go_wp2_with fail
        go_ret3
        exact Or.inr ⟨rfl, fun h => HNO.out h.2.one, HB4.out⟩
      have g1 : (pc == 0) = false := by simpa using z1
      by_cases z2 : 150 < pc
      · have HNO : Hid (¬ OneG A) := Lib.hid fun h => by have := (h _ HMEM.out).2; simp only at this; omega
        have g2 : decide (150 < pc) = true := decide_eq_true z2
        clear z1
        go_wp2_with fail
        go_ret3
        exact Or.inr ⟨rfl, fun h => HNO.out h.2.one, HB4.out⟩
      have g2 : decide (150 < pc) = false := decide_eq_false z2
      have HP1 : Hid (1 ≤ pc ∧ pc ≤ 150) := Lib.hid (by omega)
      obtain ⟨s3, s4⟩ : 0 ≤ n + pc ∧ n + pc < 18446744073709551616 := by omega
      go_wp2_with fail
      go_roundw
      case rel =>
        refine ⟨k + 1, n + pc, by omega, by go_num, rfl, by rw [HS.out, sumP_app, sumP_one, HN.out], ?_, HB4.out, Nat.le_trans HSZ.out HAL.out.size, cell_later HAL.out HC0.out, cell_later HAL.out HC1.out⟩
        rw [HS.out]
        intro p hp
        rcases List.mem_append.1 hp with h | h
        · exact HO.out p h
        · rw [List.mem_singleton.1 h]; exact HP1.out
      case measure => simp [intOf]; omega
    · obtain rfl : k = A.length := by omega
      rw [List.take_length] at HN HO
      have kk : ¬ (A.length : Int) < A.length := by omega
      have hsum := one_sum HO.out
      rw [← HN.out] at hsum
      obtain ⟨s1, s2⟩ : 0 ≤ n ∧ n ≤ 150 * 140737488351232 := by omega
      clear hn hone hsum
      by_cases q1 : 60 < A.length
      · have q1' : (60 : Int) < A.length := by omega
        clear hb2
        go_wp2_with fail
        go_ret3
        exact Or.inr ⟨rfl, fun h => by have := h.2.len; omega, HB.out⟩
      have q1' : ¬ (60 : Int) < A.length := by omega
      by_cases q2 : 150 < n
      · clear hb2
        go_wp2_with fail
        go_ret3
        exact Or.inr ⟨rfl, fun h => by have := h.2.sum; rw [← HN.out] at this; omega, HB.out⟩
      have HF : Hid (FewG A) := Lib.hid ⟨HO.out, by omega, by rw [← HN.out]; omega⟩
      have HGD := Lib.hid (good19_any wr u v HU.out HV.out)
      clear hb2
      go_wp2_with fail
      refine HGD.out.mono ?_
      rintro e w1 ⟨rfl, b1⟩
      have HB1 := Lib.hid (HB.out.trans (b1.mono hbs))
      have d0 := cell_later b1 hc0
      have d1 := cell_later b1 hc1
      have HZ1 : Hid (w.heap.size + 1 ≤ w1.heap.size) := Lib.hid (Nat.le_trans HSZ.out b1.size)
      clear hc0 hc1 HGD
      cases hg : goodG u v with
      | false =>
        have HNO : Hid (¬ GoodA u v) := Lib.hid fun h => by have := goodG_iff.2 h; rw [hg] at this; cases this
        go_wp2_with fail
        go_ret3
        exact Or.inr ⟨rfl, fun h => HNO.out h.1, HB1.out⟩
      | true =>
      have HGA := Lib.hid (goodG_iff.1 hg)
      have HNW := Lib.hid (HD.out.new w1 u v HGA.out)
      clear hg b1
      go_wp2_with fail
      refine HNW.out.mono ?_
      rintro e w2 ⟨B, S, rfl, hx, hS, b2⟩
      have HB2 := Lib.hid (HB1.out.trans (b2.mono HB1.out.size))
      have e0 := cell_later b2 d0
      have e1 := cell_later b2 d1
      have hnw : Below w2.heap.size w2 (w2.alloc (.cells #[.int .u64 u, .int .u64 v, .slice none 0 0, .slice none 0 0] 77)) := (Below.refl _ _).alloc (Nat.le_refl _) _
      have HX := Lib.hid (HD.out.call hx hnw)
      have HRG := Lib.hid (gw_new w2 u v)
      have HLS := Lib.hid (HD.out.lt _ _ _ _ _ _ _ hx)
      have HS : Hid (∀ i, S i → w.heap.size ≤ i) := Lib.hid fun i hi => by have := hS i hi; have := HZ1.out; omega
      have HB3 := Lib.hid (HB2.out.trans (hnw.mono HB2.out.size))
      have HZ2 := Lib.hid HB2.out.size
      have HWS : Hid ((w2.alloc (.cells #[.int .u64 u, .int .u64 v, .slice none 0 0, .slice none 0 0] 77)).heap.size = w2.heap.size + 1) := Lib.hid (size_boxW _ _)
      clear hx hS b2 hnw HNW d0 d1
      go_wp2_with fail
      go_loopw [56] (fun jv wr => ∃ (i : Nat) (Sk : Nat → Prop) (vs vw : Value), i ≤ A.length ∧ jv = .int .i64 i ∧ BuiltG Gw w u v (A.take i) B Sk w2.heap.size vs vw wr) (fun jv _ => A.length - (intOf jv).toNat)
      case atStart =>
        refine ⟨0, S, .slice none 0 0, .slice none 0 0, Nat.zero_le _, rfl, ⟨HX.out, HRG.out, ?_, HS.out, ?_, HB3.out⟩⟩
        · rintro k (rfl | h | h)
          · exact fun h => by have := HLS.out _ h; omega
          · cases h
          · cases h
        · rintro k (rfl | h | h)
          · exact HZ2.out
          · cases h
          · cases h
      case round =>
        obtain ⟨i, Sk, vs, vw, hi, rfl, hbt⟩ := hrel
        have HBT := Lib.hid hbt
        have hz3 := hbt.below.size
        by_cases hlt : i < A.length
        · have kl : (i : Int) < A.length := by omega
          have hxk : A[i]? = some A[i] := List.getElem?_eq_getElem hlt
          generalize hit : A[i] = p at *
          obtain ⟨px, pc⟩ := p
          obtain ⟨bb, off, rfl, hbl, c0, c1⟩ := (HA.out.call hbt.below).at_ i _ hxk
          have hok := HA.out.ok _ (List.mem_of_getElem? hxk)
          have hpc := HF.out.one _ (List.mem_of_getElem? hxk)
          have HKT := Lib.hid (take_snocP hxk)
          have HOKT : Hid (∀ p, p ∈ A.take i → okP p) := Lib.hid fun p hp => HA.out.ok p (List.mem_of_mem_take hp)
          have HSUM : Hid (sumP (A.take i) ≤ 150) := Lib.hid (by have := (sumP_take i (ok_pos HA.out.ok)).2; have := HF.out.sum; omega)
          obtain ⟨⟨o1, o2⟩, o3, o4⟩ := hok
          simp only at c0 c1 o1 o2 o3 o4 hpc
          obtain ⟨p1, p2⟩ := hpc
          obtain ⟨c, rfl⟩ : ∃ c : Nat, pc = c := ⟨pc.toNat, by omega⟩
          obtain ⟨f1, f2, f3, f4⟩ := build_facts u v _ (A.take i) rfl HOKT.out (by have := HSUM.out; omega)
          have HOK := Lib.hid f1
          have HF2 := Lib.hid f2
          have HLN : Hid (lenG (buildG u v (A.take i)) + c ≤ 5000) := Lib.hid (by have := HSUM.out; omega)
          have HTT : Hid (totG (buildG u v (A.take i)) + c ≤ 4611686018427387904) := Lib.hid (by have := HSUM.out; omega)
          have HE1 : Hid (buildG u v (A.take (i + 1)) = putG u v (buildG u v (A.take i)) px c) := Lib.hid (by rw [HKT.out, build_snoc, Int.toNat_natCast])
          have HE2 : Hid (endAD (A.take (i + 1)) = addW (endAD (A.take i)) px) := Lib.hid (by rw [HKT.out, endA_snoc])
          have HAL : Hid (Below wr.heap.size wr (wr.alloc (.cells #[.int .i64 px, .int .u64 c] 54))) := Lib.hid ((Below.refl _ _).alloc (Nat.le_refl _) _)
          have HB4 := Lib.hid (hbt.below.trans (HAL.out.mono hz3))
          have HX4 := Lib.hid (HD.out.call hbt.gw HAL.out)
          have HR4 : Hid (RefGw (wr.alloc (.cells #[.int .i64 px, .int .u64 c] 54)) w2.heap.size u v vs vw (buildG u v (A.take i))) := Lib.hid (hbt.ref.keep (Keeps.of_below (S := fun _ => False) HAL.out) fun k _ h => h)
          obtain ⟨y0, y1⟩ := two_boxW wr (.int .i64 px) (.int .u64 c) 54
          have HW4 := Lib.hid (size_boxW wr (.cells #[.int .i64 px, .int .u64 c] 54))
          have HPU := Lib.hid (HD.out.put _ B Sk u v _ _ px c HX4.out ⟨o1, o2⟩ (by omega) (by omega) HLN.out HTT.out)
          have HLR := Lib.hid hbt.ref.blocks
          have HLK := Lib.hid (HD.out.lt _ _ _ _ _ _ _ hbt.gw)
          have HI64 : Hid (I64 px) := Lib.hid ⟨o1, o2⟩
          clear hxk hit hbt f1 f2 f3 f4 e0 e1
          have HY0 := Lib.hid y0
          have HY1 := Lib.hid y1
          clear y0 y1
          go_wp2_with fail
          refine HPU.out.mono ?_
          rintro e w5 ⟨S5, rfl, hx5, hk5, hs5⟩
          have HX5 := Lib.hid hx5
          have HK5 := Lib.hid hk5
          have HS5 := Lib.hid hs5
          have HB5 : Hid (Below w.heap.size w w5) := Lib.hid (Keeps.below HB4.out hk5 HB4.out.size HBT.out.newS)
          have q0 := hk5.cell (fun h => by have := HLK.out _ h; omega) HY0.out
          have q1 := hk5.cell (fun h => by have := HLK.out _ h; omega) HY1.out
          have HR5 := Lib.hid (HR4.out.keep hk5 HBT.out.sep)
          have HRP := Lib.hid (rput19_any w5 w2.heap.size u v vs vw _ px c HR5.out HOK.out HF2.out HGA.out HI64.out (by omega) HLN.out HTT.out)
          have HL5 := Lib.hid (HD.out.lt _ _ _ _ _ _ _ hx5)
          clear hx5 hk5 hs5 HPU
          go_wp2_with fail
          refine HRP.out.mono ?_
          rintro e w7 ⟨rfl, vs', vw', hr7⟩
          have HR7 := Lib.hid hr7
          clear hr7 HRP
          go_wp2_with fail
          go_roundw
          case rel =>
            have hz4 := HW4.out
            have hz5 := HK5.out.size
            rw [hz4] at hz5
            have hsep : ∀ k, rgS w2.heap.size vs vw k → ¬ S5 k := fun k hk h => by
              rcases HS5.out k h with h | h
              · exact HBT.out.sep k hk h
              · have := HLR.out k hk; omega
            refine ⟨i + 1, S5, vs', vw', by omega, by go_num, ⟨?_, ?_, ?_, ?_, ?_, ?_⟩⟩
            · rw [HE1.out, HE2.out]; exact HD.out.past HX5.out HR7.out.keeps fun k hk h => hsep k h hk
            · rw [HE1.out]; exact HR7.out.ref
            · intro k hk h
              rcases HR7.out.blocks k hk with h1 | h1
              · exact hsep k h1 h
              · have := HL5.out k h; omega
            · intro k h
              rcases HS5.out k h with h | h
              · exact HBT.out.newS k h
              · omega
            · intro k h
              rcases HR7.out.blocks k h with h | h
              · exact HBT.out.newR k h
              · have := HB5.out.size; omega
            · exact Keeps.below HB5.out HR7.out.keeps HB5.out.size HBT.out.newR
          case measure => simp [intOf]; omega
        · obtain rfl : i = A.length := by omega
          rw [List.take_length] at HBT
          have kl : ¬ (A.length : Int) < A.length := by omega
          clear hbt
          go_wp2_with fail
          go_ret3
          exact Or.inl ⟨B, Sk, w2.heap.size, vs, vw, rfl, HGA.out, HF.out, HBT.out⟩
end Go.Proofs.Ytfmlkohijkalbaa

/-
  The laws of layer 19: same.
-/
namespace Go.Proofs.Ytfmlkohijkalbaa
set_option linter.unusedVariables false
set_option linter.unusedSimpArgs false
open Go.RowKit

set_option maxRecDepth 100000 in
set_option maxHeartbeats 8000000 in
theorem same19_any {Gw : GwT} (D : GwDoes Gw) (w : World) (B : Nat) (S : Nat → Prop) (u v : Int) (s : GwV) (e : Int × Int × Bool) (M : Nat) (vs vw : Value) (hx : Gw w B S u v s e) (h : RefGw w M u v vs vw s) (ok : OkGw s) :
    Calls Try.prog 14 #[.pointer (some ⟨B, 0, none⟩), .pointer (some ⟨M, 0, none⟩)] w fun e w' => e = .returned (.bool true) ∧ Below w.heap.size w w' := by
  have HR := Lib.hid h
  have HROW := Lib.hid (D.row w B S u v s e hx)
  have HTO := Lib.hid (fun W (hb : Below w.heap.size w W) => D.total W B S u v s e (D.call hx hb))
  have HTM := Lib.hid (fun W (hb : Below w.heap.size w W) => rtotal19_any W M u v vs vw s (totG s) (h.call hb) ok rfl)
  obtain ⟨A, cap, hvs, hS⟩ := h.spots.rows ok.sp
  obtain ⟨C, capw, hvw, hW⟩ := h.waits.rows ok.wt
  have HSP := Lib.hid hS
  have HWT := Lib.hid hW
  have hsl := ok.sl
  have hwl := ok.wl
  have htb := ok.tot
  have hle := ok.can.le
  obtain ⟨N, hN⟩ : ∃ N, s.1.length = N := ⟨_, rfl⟩
  obtain ⟨K, hK⟩ : ∃ K, s.2.length = K := ⟨_, rfl⟩
  obtain ⟨R, hR⟩ : ∃ R, rowT 0 s.1 = R := ⟨_, rfl⟩
  obtain ⟨T, hT⟩ : ∃ T, totG s = T := ⟨_, rfl⟩
  have hRN : R.length = N := by rw [← hR, row_len, hN]
  have hts : totS s.1 ≤ 9223372036854775807 := by unfold totG at htb; omega
  have CL := Lib.hid (fun (W : World) (Z : Option Addr) (c : Nat) (hZ : Tups W Z R) => (plain19_any W Z c R hZ (by omega)).mono (R' := fun e w' => ∃ A4 k4, e = .returned (.slice A4 N k4) ∧ Tups w' A4 R ∧ Below W.heap.size W w') fun e w' ⟨v4, he, ho, hb⟩ => by
    obtain ⟨A4, k4, rfl, h4⟩ := ho.rows hZ.ok
    rw [hRN] at he
    exact ⟨A4, k4, he, h4, hb⟩)
  have CR := Lib.hid (fun (W : World) (hRo : ∀ p, p ∈ R → okTu p) (hb : Below w.heap.size w W) => (rrow18_any W A cap s.1 _ (hS.call hb) (by omega) ok.can hts).mono (R' := fun e w' => ∃ A4 k4, e = .returned (.slice A4 N k4) ∧ Tups w' A4 R ∧ Below W.heap.size W w') fun e w' ⟨v4, he, ho, hb⟩ => by
    rw [hR] at ho
    obtain ⟨A4, k4, rfl, h4⟩ := ho.rows hRo
    rw [hRN] at he
    exact ⟨A4, k4, he, h4, hb⟩)
  have CS := Lib.hid (fun (W : World) (Z Z' : Option Addr) (c c' : Nat) (hZ : Tups W Z R) (hZ' : Tups W Z' R) => same18_any W Z Z' c c' R R true (decide_eq_true rfl) hZ hZ' (by omega) (by omega))
  have hc2 := h.c2
  have hc3 := h.c3
  rw [hvs] at hc2
  rw [hvw] at hc3
  rw [hT] at HTM HTO
  rw [hN] at CR hc2
  rw [hK] at hc3
  rw [hRN] at CL CS
  rw [hN, hR, hK] at HROW
  have HC2 := Lib.hid hc2
  have HC3 := Lib.hid hc3
  have HK : Hid (s.2.length = K) := Lib.hid hK
  have hkb : K ≤ 16 := by omega
  have f1 : ((K : Int) != (K : Int)) = false := by simp
  have f2 : (!((K : Int) == (K : Int))) = false := by simp
  have f3 : (T != T) = false := by simp
  have f4 : (!(T == T)) = false := by simp
  have f5 : ((K : Int) == (K : Int)) = true := by simp
  have f6 : (T == T) = true := by simp
  clear hx h ok hS hW hvs hvw hsl hwl htb hle hR hRN hT hN hK hts hc2 hc3 D
  go_enter Try.func14, Try.ntmps14
  go_wp2_with fail
  refine HROW.out.mono ?_
  rintro e w2 ⟨A1, k1, A2, k2, rfl, hT1, hN2, b2⟩
  have HT1 := Lib.hid hT1
  have HN2 := Lib.hid hN2
  have HB2 := Lib.hid b2
  have HS0 : Hid (w2.drew.cell? ⟨M, 2, none⟩ = some (.slice A N cap) ∧ w2.drew.cell? ⟨M, 3, none⟩ = some (.slice C K capw) ∧ Below w2.heap.size w2 w2.drew) := Lib.hid ⟨cell_later (b2.trans (((Below.refl _ _).drew).mono b2.size)) HC2.out, cell_later (b2.trans (((Below.refl _ _).drew).mono b2.size)) HC3.out, (Below.refl _ _).drew⟩
  have HST := Lib.hid (fun (W W' : World) (h : W.cell? ⟨M, 2, none⟩ = some (.slice A N cap) ∧ W.cell? ⟨M, 3, none⟩ = some (.slice C K capw) ∧ Below w2.heap.size w2 W) (hb : Below W.heap.size W W') => (⟨cell_later hb h.1, cell_later hb h.2.1, h.2.2.trans (hb.mono h.2.2.size)⟩ : W'.cell? ⟨M, 2, none⟩ = some (.slice A N cap) ∧ W'.cell? ⟨M, 3, none⟩ = some (.slice C K capw) ∧ Below w2.heap.size w2 W'))
  have HTW := Lib.hid (fun (W : World) (h : W.cell? ⟨M, 2, none⟩ = some (.slice A N cap) ∧ W.cell? ⟨M, 3, none⟩ = some (.slice C K capw) ∧ Below w2.heap.size w2 W) => HB2.out.trans (h.2.2.mono HB2.out.size))
  have HTT := Lib.hid (fun (W : World) (h : W.cell? ⟨M, 2, none⟩ = some (.slice A N cap) ∧ W.cell? ⟨M, 3, none⟩ = some (.slice C K capw) ∧ Below w2.heap.size w2 W) => HT1.out.call h.2.2)
  clear hT1 hN2 b2 HROW
  go_wp2_with fail
  go_region_held3 (fun w' => w'.cell? ⟨M, 2, none⟩ = some (.slice A N cap) ∧ w'.cell? ⟨M, 3, none⟩ = some (.slice C K capw) ∧ Below w2.heap.size w2 w')
    (first | exact HS0.out | exact HST.out _ _ (by assumption) hbA | exact HST.out _ _ (by assumption) hbB | exact HST.out _ _ (by assumption) hbC | exact HST.out _ _ (by assumption) hbD | exact HST.out _ _ (by assumption) hbE | assumption)
    ((first
      | (go_at_call 39; refine (CL.out _ A1 k1 (HTT.out _ (by assumption))).mono ?_; rintro e wA ⟨A4, k4, rfl, hP4, hbA⟩)
      | (go_at_call 40; refine (CR.out _ HT1.out.ok (HTW.out _ (by assumption))).mono ?_; rintro e wB ⟨A5, k5, rfl, hP5, hbB⟩; have hP45 := hP4.call hbB)
      | (go_at_call 38; refine (CS.out _ A4 A5 k4 k5 hP45 hP5).mono ?_; rintro e wC ⟨rfl, hbC⟩)
      | (go_at_call 22; refine (HTO.out _ (HTW.out _ (by assumption))).mono ?_; rintro e wD ⟨rfl, hbD⟩)
      | (go_at_call 41; refine (HTM.out _ (HTW.out _ (by assumption))).mono ?_; rintro e wE ⟨rfl, hbE⟩)))
  rename_i hHeld
  have HBH := Lib.hid (HTW.out _ hHeld)
  have HNH := Lib.hid (HN2.out.call hHeld.2.2)
  clear hHeld HS0 HST HTW HTT
  go_wp2_with fail
  go_loopw [41] (fun j wr => ∃ k : Nat, k ≤ K ∧ j = .int .i64 k ∧ Below w.heap.size w wr ∧ Nums wr A2 s.2) (fun j _ => K - (intOf j).toNat)
  case atStart => exact ⟨0, Nat.zero_le _, rfl, HBH.out, HNH.out⟩
  case round =>
    obtain ⟨k, hk, rfl, hb2, hn2⟩ := hrel
    have HNR := Lib.hid hn2
    have HBR := Lib.hid hb2
    by_cases hlt : k < K
    · have kk : (k : Int) < K := by omega
      have kk0 : (0 : Int) ≤ (k : Int) := by omega
      have hlt' : k < s.2.length := by rw [HK.out]; exact hlt
      have hxk : s.2[k]? = some s.2[k] := List.getElem?_eq_getElem hlt'
      obtain ⟨x, hx⟩ : ∃ x, s.2[k] = x := ⟨_, rfl⟩
      rw [hx] at hxk
      obtain ⟨b0, off, rfl, hbl, c0⟩ := hn2.at_ k _ hxk
      obtain ⟨b1, off', rfl, hbl', d0⟩ := (HWT.out.call hb2).at_ k _ hxk
      have d3 := cell_later hb2 HC3.out
      have g1 : (!(x == x)) = false := by simp
      have g2 : (x != x) = false := by simp
      have g3 : (x == x) = true := by simp
      clear hn2 hx hxk hlt'
      go_wp2_with fail
      go_quiet (fail)
      go_wp2_with fail
      go_roundw
      case rel => exact ⟨k + 1, by omega, by go_num, below_drewN HBR.out _, HNR.out.call (below_drewN (Below.refl _ _) _)⟩
      case measure => simp [intOf]; omega
    · obtain rfl : k = K := by omega
      have kk : ¬ (k : Int) < k := by omega
      clear hn2
      go_wp2_with fail
      go_ret
      exact ⟨rfl, HBR.out⟩
end Go.Proofs.Ytfmlkohijkalbaa

/-
  The law GreenwaldDoes, walked from the contract. (tools/gen_gw_l.py)
-/
namespace Go.Proofs.Ytfmlkohijkalbaa
set_option linter.unusedVariables false
set_option linter.unusedSimpArgs false
open Go.RowKit

/-- What two boxes hold. -/
abbrev BoxW (s : Nat) (x y u v : Value) (W : World) : Prop := W.cell? ⟨s, 0, none⟩ = some x ∧ W.cell? ⟨s, 1, none⟩ = some y ∧ W.cell? ⟨s + 1, 0, none⟩ = some u ∧ W.cell? ⟨s + 1, 1, none⟩ = some v
theorem boxw_later {s : Nat} {x y u v : Value} {W W' : World} (h : BoxW s x y u v W) (hb : Below W.heap.size W W') : BoxW s x y u v W' :=
  ⟨cell_later hb h.1, cell_later hb h.2.1, cell_later hb h.2.2.1, cell_later hb h.2.2.2⟩
theorem boxw_keeps {s : Nat} {x y u v : Value} {W W' : World} {S : Nat → Prop} (h : BoxW s x y u v W) (hk : Keeps S W W') (h0 : ∀ k, S k → s + 2 ≤ k) : BoxW s x y u v W' :=
  have n0 : ¬ S s := fun h => by have := h0 _ h; omega
  have n1 : ¬ S (s + 1) := fun h => by have := h0 _ h; omega
  ⟨hk.cell n0 h.1, hk.cell n0 h.2.1, hk.cell n1 h.2.2.1, hk.cell n1 h.2.2.2⟩
theorem boxw_new (w : World) (x y u v : Value) (t t' : TypeId) : BoxW w.heap.size x y u v ((w.alloc (.cells #[x, y] t)).alloc (.cells #[u, v] t')) ∧ Below w.heap.size w ((w.alloc (.cells #[x, y] t)).alloc (.cells #[u, v] t')) := by
  obtain ⟨a0, a1⟩ := two_boxW w x y t
  obtain ⟨b0, b1⟩ := two_boxW (w.alloc (.cells #[x, y] t)) u v t'
  rw [size_boxW] at b0 b1
  have hn : Below (w.alloc (.cells #[x, y] t)).heap.size (w.alloc (.cells #[x, y] t)) ((w.alloc (.cells #[x, y] t)).alloc (.cells #[u, v] t')) := (Below.refl _ _).alloc (Nat.le_refl _) _
  have h0 : Below w.heap.size w (w.alloc (.cells #[x, y] t)) := (Below.refl _ _).alloc (Nat.le_refl _) _
  exact ⟨⟨cell_later hn a0, cell_later hn a1, b0, b1⟩, h0.trans (hn.mono h0.size)⟩

set_option maxRecDepth 100000 in
set_option maxHeartbeats 8000000 in
theorem gw_does_walk {Gw : GwT} (D : GwDoes Gw) (u v : Int) (A : List PairV) (a : Option Addr) (cap : Nat) (pa pb : Int) (hu : Word u) (hv : Word v) (wa : Word pa) (wb : Word pb) (w : World) (hA : Pairs w a A) (hl : A.length ≤ 140737488351232) :
    Calls Try.prog 3 #[.agg #[.int .u64 u, .int .u64 v], .slice a A.length cap, .agg #[.int .u64 pa, .int .u64 pb]] w fun e w' => e = .returned (.bool true) ∧ Below w.heap.size w w' := by
  have HD := Lib.hid D
  have HA := Lib.hid hA
  have HAL := Lib.hid (fun W => alive19_any D W)
  have HBD := Lib.hid (fun W hW => build19_any D W u v A a cap hu hv hW hl)
  obtain ⟨bx, bw⟩ := boxw_new w (.int .u64 u) (.int .u64 v) (.int .u64 pa) (.int .u64 pb) 24 24
  have HBX := Lib.hid bx
  have HB0 := Lib.hid bw
  have HGO := Lib.hid (fun W => D.good W u v hu hv)
  have HGR := Lib.hid (fun W => good19_any W u v hu hv)
  have HWA := Lib.hid wa
  have HWB := Lib.hid wb
  obtain ⟨g, hg⟩ : ∃ g, goodG u v = g := ⟨_, rfl⟩
  have HG := Lib.hid hg
  rw [hg] at HGO HGR
  have g1 : (g != g) = false := by cases g <;> rfl
  have g2 : (!(g == g)) = false := by cases g <;> rfl
  have g3 : (g == g) = true := by cases g <;> rfl
  clear hA D bx bw hg
  go_enter Try.func3, Try.ntmps3
  go_wp2_with fail
  refine (HAL.out _).mono ?_
  rintro e w1 ⟨rfl, b1'⟩
  have HX1 := Lib.hid (boxw_later HBX.out b1')
  have HB1 := Lib.hid (HB0.out.trans (b1'.mono HB0.out.size))
  have HZ1 : Hid (w.heap.size + 2 ≤ w1.heap.size) := Lib.hid (World.block_lt_of_cell? (a := ⟨w.heap.size + 1, 0, none⟩) w1 HX1.out.2.2.1)
  obtain ⟨c0, c1, p0, p1⟩ := HX1.out
  clear b1' HBX HAL
  go_wp2_with fail
  refine (HBD.out _ (HA.out.call HB1.out)).mono ?_
  rintro e w2 (⟨B, S, M, vs, vw, rfl, hga, hfe, hbt⟩ | ⟨rfl, _, b2'⟩)
  case inr =>
    have HX2 := Lib.hid (boxw_later HX1.out b2')
    have HB2 := Lib.hid (HB1.out.trans (b2'.mono HB1.out.size))
    clear b2' c0 c1 p0 p1
    have HS0 : Hid (w2.drew.cell? ⟨w.heap.size, 0, none⟩ = some (.int .u64 u) ∧ w2.drew.cell? ⟨w.heap.size, 1, none⟩ = some (.int .u64 v) ∧ Below w2.heap.size w2 w2.drew) := Lib.hid ⟨cell_later ((Below.refl _ _).drew) HX2.out.1, cell_later ((Below.refl _ _).drew) HX2.out.2.1, (Below.refl _ _).drew⟩
    have HST := Lib.hid (fun (W W' : World) (h : W.cell? ⟨w.heap.size, 0, none⟩ = some (.int .u64 u) ∧ W.cell? ⟨w.heap.size, 1, none⟩ = some (.int .u64 v) ∧ Below w2.heap.size w2 W) (hb : Below W.heap.size W W') => (⟨cell_later hb h.1, cell_later hb h.2.1, h.2.2.trans (hb.mono h.2.2.size)⟩ : W'.cell? ⟨w.heap.size, 0, none⟩ = some (.int .u64 u) ∧ W'.cell? ⟨w.heap.size, 1, none⟩ = some (.int .u64 v) ∧ Below w2.heap.size w2 W'))
    go_wp2_with fail
    go_region_held3 (fun w' => w'.cell? ⟨w.heap.size, 0, none⟩ = some (.int .u64 u) ∧ w'.cell? ⟨w.heap.size, 1, none⟩ = some (.int .u64 v) ∧ Below w2.heap.size w2 w')
      (first | exact HS0.out | exact HST.out _ _ (by assumption) hbA | exact HST.out _ _ (by assumption) hbB | assumption)
      ((first
        | (go_at_call 10; refine (HGO.out _).mono ?_; rintro e wA ⟨rfl, hbA⟩)
        | (go_at_call 11; refine (HGR.out _).mono ?_; rintro e wB ⟨rfl, hbB⟩)))
    rename_i hHeld
    have HB3 := Lib.hid hHeld.2.2
    clear hHeld HS0 HST
    go_wp2_with fail
    go_ret
    exact ⟨rfl, HB2.out.trans (HB3.out.mono HB2.out.size)⟩
  have HX2 := Lib.hid (boxw_later HX1.out hbt.below)
  have HB2 := Lib.hid (HB1.out.trans (hbt.below.mono HB1.out.size))
  have HBT := Lib.hid hbt
  have HGA := Lib.hid hga
  have HFE := Lib.hid hfe
  obtain ⟨f1, f2, f3, f4⟩ := build_facts u v _ A rfl HA.out.ok (by have := hfe.sum; omega)
  have HOK := Lib.hid f1
  obtain ⟨s, hs⟩ : ∃ s, buildG u v A = s := ⟨_, rfl⟩
  rw [hs] at HOK
  have hgw := hbt.gw
  have hrf := hbt.ref
  rw [hs] at hgw hrf
  obtain ⟨ex, ey, ez, hee⟩ : ∃ ex ey ez, endAD A = (ex, ey, ez) := ⟨_, _, _, rfl⟩
  rw [hee] at hgw
  have HGW := Lib.hid hgw
  have HRF := Lib.hid hrf
  have HEE := Lib.hid hee
  clear hbt hga hfe f1 f2 f3 f4 hs hgw hrf hee c0 c1 p0 p1
  have HS0 : Hid (w2.drew.cell? ⟨w.heap.size, 0, none⟩ = some (.int .u64 u) ∧ w2.drew.cell? ⟨w.heap.size, 1, none⟩ = some (.int .u64 v) ∧ Below w2.heap.size w2 w2.drew) := Lib.hid ⟨cell_later ((Below.refl _ _).drew) HX2.out.1, cell_later ((Below.refl _ _).drew) HX2.out.2.1, (Below.refl _ _).drew⟩
  have HST := Lib.hid (fun (W W' : World) (h : W.cell? ⟨w.heap.size, 0, none⟩ = some (.int .u64 u) ∧ W.cell? ⟨w.heap.size, 1, none⟩ = some (.int .u64 v) ∧ Below w2.heap.size w2 W) (hb : Below W.heap.size W W') => (⟨cell_later hb h.1, cell_later hb h.2.1, h.2.2.trans (hb.mono h.2.2.size)⟩ : W'.cell? ⟨w.heap.size, 0, none⟩ = some (.int .u64 u) ∧ W'.cell? ⟨w.heap.size, 1, none⟩ = some (.int .u64 v) ∧ Below w2.heap.size w2 W'))
  go_wp2_with fail
  go_region_held3 (fun w' => w'.cell? ⟨w.heap.size, 0, none⟩ = some (.int .u64 u) ∧ w'.cell? ⟨w.heap.size, 1, none⟩ = some (.int .u64 v) ∧ Below w2.heap.size w2 w')
    (first | exact HS0.out | exact HST.out _ _ (by assumption) hbA | exact HST.out _ _ (by assumption) hbB | assumption)
    ((first
      | (go_at_call 10; refine (HGO.out _).mono ?_; rintro e wA ⟨rfl, hbA⟩)
      | (go_at_call 11; refine (HGR.out _).mono ?_; rintro e wB ⟨rfl, hbB⟩)))
  rename_i hHeld
  have HB3 := Lib.hid hHeld.2.2
  clear hHeld HS0 HST
  have HB23 := Lib.hid (HB2.out.trans (HB3.out.mono HB2.out.size))
  have HGW3 := Lib.hid (HD.out.call HGW.out HB3.out)
  have HRF3 := Lib.hid (HRF.out.call HB3.out)
  have HX3 := Lib.hid (boxw_later HX2.out HB3.out)
  have HEN := Lib.hid (fun W (h : Below wB.heap.size wB W) => HD.out.ends W B S u v s ex ey ez (HD.out.call HGW3.out h))
  have HER := Lib.hid (fun W (h : Below wB.heap.size wB W) => rends19_any W a cap A ex ey ez ((HA.out.call HB23.out).call h) (by have := HFE.out.len; omega) HEE.out)
  have HSA := Lib.hid (fun W (h : Below wB.heap.size wB W) => same19_any HD.out W B S u v s _ M vs vw (HD.out.call HGW3.out h) (HRF3.out.call h) HOK.out)
  have HQU := Lib.hid (fun W (h : Below wB.heap.size wB W) => HD.out.quantile W B S u v s _ pa pb (HD.out.call HGW3.out h) HWA.out HWB.out)
  obtain ⟨qx, qe, hq⟩ : ∃ qx qe, quanW u v pa pb s = (qx, qe) := ⟨_, _, rfl⟩
  have t1 : (ex != ex) = false := by simp
  have t2 : (ey != ey) = false := by simp
  have t3 : (ez != ez) = false := by simp
  have t4 : (!(ex == ex)) = false := by simp
  have t5 : (!(ey == ey)) = false := by simp
  have t6 : (!(ez == ez)) = false := by simp
  have t7 : (ex == ex) = true := by simp
  have t8 : (ey == ey) = true := by simp
  have t9 : (ez == ez) = true := by simp
  rw [hq] at HQU
  have HQ := Lib.hid hq
  clear hq HBD
  go_wp2_with fail
  refine (HEN.out _ (Below.refl _ _)).mono ?_
  rintro e w4 ⟨rfl, b4⟩
  have HB4 := Lib.hid b4
  clear b4
  go_wp2_with fail
  refine (HER.out _ HB4.out).mono ?_
  rintro e w5 ⟨rfl, b5⟩
  have HB5 := Lib.hid (HB4.out.trans (b5.mono HB4.out.size))
  clear b5
  go_wp2_with fail
  refine (HSA.out _ HB5.out).mono ?_
  rintro e w6 ⟨rfl, b6⟩
  have HB6 := Lib.hid (HB5.out.trans (b6.mono HB5.out.size))
  obtain ⟨c0, c1, p0, p1⟩ := boxw_later HX3.out HB6.out
  clear b6
  go_wp2_with fail
  refine (HQU.out _ HB6.out).mono ?_
  rintro e w7 ⟨S7, rfl, hx7, hk7, hs7⟩
  have HX7 := Lib.hid hx7
  have HK7 := Lib.hid hk7
  have HS7 := Lib.hid hs7
  have HW1 := Lib.hid (fun k hk => (Nat.le_trans HZ1.out (HBT.out.newS k hk) : w.heap.size + 2 ≤ k))
  have HW2 := Lib.hid (fun k hk => (Nat.le_trans HZ1.out (HBT.out.newR k hk) : w.heap.size + 2 ≤ k))
  have HRF6 := Lib.hid (HRF3.out.call HB6.out)
  have HR7 := Lib.hid (HRF6.out.keep hk7 HBT.out.sep)
  have HXB7 := Lib.hid (boxw_keeps (boxw_later HX3.out HB6.out) hk7 HW1.out)
  have HB36 := Lib.hid (HB23.out.trans (HB6.out.mono HB23.out.size))
  have HB7 := Lib.hid (Keeps.below HB36.out hk7 HB36.out.size (fun k hk => by have := HW1.out k hk; omega))
  have HQR := Lib.hid (rquan19_any w7 M u v vs vw s pa pb HR7.out HOK.out HGA.out HWA.out HWB.out)
  rw [HQ.out] at HQR
  clear hx7 hk7 hs7 c0 c1 p0 p1
  obtain ⟨c0, c1, p0, p1⟩ := HXB7.out
  go_wp2_with fail
  refine HQR.out.mono ?_
  rintro e w8 ⟨rfl, vs', vw', hr8⟩
  have HR8 := Lib.hid hr8
  have HX8 := Lib.hid (boxw_keeps HXB7.out hr8.keeps HW2.out)
  have HB8 := Lib.hid (Keeps.below HB7.out hr8.keeps HB7.out.size (fun k hk => by have := HW2.out k hk; omega))
  have HGW8 := Lib.hid (HD.out.past HX7.out hr8.keeps (fun k hk hr => by
    rcases HS7.out k hk with h | h
    · exact HBT.out.sep k hr h
    · have := HRF6.out.blocks k hr; omega))
  have HOK8 : Hid (OkGw (leftW u v pa pb s)) := Lib.hid (by
    unfold leftW
    split
    · exact HOK.out
    · exact (flush_ok HOK.out).1)
  have HSA8 := Lib.hid (fun W (h : Below w8.heap.size w8 W) => same19_any HD.out W B S7 u v _ _ M vs' vw' (HD.out.call HGW8.out h) (HR8.out.ref.call h) HOK8.out)
  have HPA8 := Lib.hid (fun W (h : Below w8.heap.size w8 W) => HD.out.part W B S7 u v _ _ (HD.out.call HGW8.out h))
  have HS0 : Hid (w8.drew.cell? ⟨w.heap.size, 0, none⟩ = some (.int .u64 u) ∧ w8.drew.cell? ⟨w.heap.size, 1, none⟩ = some (.int .u64 v) ∧ Below w8.heap.size w8 w8.drew) := Lib.hid ⟨cell_later ((Below.refl _ _).drew) HX8.out.1, cell_later ((Below.refl _ _).drew) HX8.out.2.1, (Below.refl _ _).drew⟩
  have HST := Lib.hid (fun (W W' : World) (h : W.cell? ⟨w.heap.size, 0, none⟩ = some (.int .u64 u) ∧ W.cell? ⟨w.heap.size, 1, none⟩ = some (.int .u64 v) ∧ Below w8.heap.size w8 W) (hb : Below W.heap.size W W') => (⟨cell_later hb h.1, cell_later hb h.2.1, h.2.2.trans (hb.mono h.2.2.size)⟩ : W'.cell? ⟨w.heap.size, 0, none⟩ = some (.int .u64 u) ∧ W'.cell? ⟨w.heap.size, 1, none⟩ = some (.int .u64 v) ∧ Below w8.heap.size w8 W'))
  have r1 : (qx == qx) = true := by simp
  have r2 : (qe == qe) = true := by simp
  have r3 : (u == u) = true := by simp
  have r4 : (v == v) = true := by simp
  clear hr8 HQR c0 c1 p0 p1
  go_wp2_with fail
  go_region_held3 (fun w' => w'.cell? ⟨w.heap.size, 0, none⟩ = some (.int .u64 u) ∧ w'.cell? ⟨w.heap.size, 1, none⟩ = some (.int .u64 v) ∧ Below w8.heap.size w8 w')
    (first | exact HS0.out | exact HST.out _ _ (by assumption) hbC | exact HST.out _ _ (by assumption) hbD | assumption)
    ((first
      | (go_at_call 14; refine (HSA8.out _ (And.right (And.right (by assumption)))).mono ?_; rintro e wC ⟨rfl, hbC⟩)
      | (go_at_call 17; refine (HPA8.out _ (And.right (And.right (by assumption)))).mono ?_; rintro e wD ⟨rfl, hbD⟩)))
  rename_i hHeld
  have HB9 := Lib.hid (HB8.out.trans (hHeld.2.2.mono HB8.out.size))
  clear hHeld HS0 HST
  go_wp2_with fail
  go_ret
  exact ⟨rfl, HB9.out⟩
end Go.Proofs.Ytfmlkohijkalbaa

/-
  The laws of layer 19: near. (tools/gen_gw_n.py)
-/
namespace Go.Proofs.Ytfmlkohijkalbaa
set_option linter.unusedVariables false
set_option linter.unusedSimpArgs false
open Go.RowKit

theorem where_whole {A : List PairV} (h : ∀ p, p ∈ A → okP p) : whereP (fun y => decide (y ≤ 9223372036854775807)) A = sumP A := by
  unfold whereP
  rw [List.filter_eq_self.2 fun p hp => decide_eq_true (by have := (h p hp).1; unfold I64 at this; omega)]
theorem where_bd {A : List PairV} (h : ∀ p, p ∈ A → 0 ≤ p.2) (f : Int → Bool) : 0 ≤ whereP f A ∧ whereP f A ≤ sumP A := ⟨where_pos h, where_sum h⟩

set_option maxRecDepth 100000 in
set_option maxHeartbeats 8000000 in
theorem near19_any (w : World) (a : Option Addr) (cap : Nat) (A : List PairV) (x t u v G : Int) (hA : Pairs w a A) (hl : A.length ≤ 1000) (hs : sumP A ≤ 4611686018427387904) (hx : I64 x) (ht : 0 ≤ t ∧ t ≤ 4611686018427387904) (hu : Word u) (hv : Word v)
    (hor : whereP (fun y => decide (y < x)) A + 1 ≤ whereP (fun y => decide (y ≤ x)) A) (h0 : 0 ≤ G) (h1 : whereP (fun y => decide (y < x)) A + 1 ≤ t + G) (h2 : t ≤ whereP (fun y => decide (y ≤ x)) A + G) (h3 : G * v ≤ u * sumP A) :
    Calls Try.prog 23 #[.slice a A.length cap, .int .i64 x, .int .u64 t, .agg #[.int .u64 u, .int .u64 v]] w fun e w' => e = .returned (.bool true) ∧ Below w.heap.size w w' := by
  have HA := Lib.hid hA
  have hpos := ok_pos hA.ok
  have HU1 := Lib.hid (fun W hW => rup19_any W a cap A 9223372036854775807 _ hW ⟨by decide, by decide⟩ hl (by omega) (where_whole hA.ok))
  obtain ⟨l, hlast⟩ : ∃ l, whereP (fun y => decide (y ≤ x)) A = l := ⟨_, rfl⟩
  have HU2 := Lib.hid (fun W hW => rup19_any W a cap A x l hW hx hl (by omega) hlast)
  obtain ⟨f, hf⟩ : ∃ f, whereP (fun y => decide (y < x)) A = f := ⟨_, rfl⟩
  obtain ⟨n, hn⟩ : ∃ n, sumP A = n := ⟨_, rfl⟩
  have hlb := where_bd hpos (fun y => decide (y ≤ x))
  have hfb := where_bd hpos (fun y => decide (y < x))
  have HP := Lib.hid (fun k => where_partW (L := A) (fun y => decide (y < x)) hpos k)
  have HF := Lib.hid hf
  rw [hlast, hn] at hlb
  rw [hf, hn] at hfb
  rw [hlast, hf] at hor
  rw [hf] at h1
  rw [hlast] at h2
  rw [hn] at h3 hs HU1 HP
  have HGAP := Lib.hid (fun (g : Int) (g0 : 0 ≤ g) (g1 : g < 18446744073709551616) (g2 : g ≤ G) => (⟨g0, g1, Int.le_trans (Int.mul_le_mul_of_nonneg_right g2 hv.1) h3⟩ : 0 ≤ g ∧ g < 18446744073709551616 ∧ g * v ≤ u * n))
  have HWV := Lib.hid hv
  have HWU := Lib.hid hu
  have hm1 := mul_bd (a := u) (b := n) hu ⟨by omega, by omega⟩
  have CM1 := Lib.hid (fun W => rtimes_any u n hu ⟨by omega, by omega⟩ W)
  obtain ⟨k1, hh1⟩ : ∃ v', hiW (u * n) = v' := ⟨_, rfl⟩
  obtain ⟨l1, hl1⟩ : ∃ v', loW (u * n) = v' := ⟨_, rfl⟩
  obtain ⟨bx0, bx1⟩ := two_boxW w (.int .u64 u) (.int .u64 v) 24
  have HBX := Lib.hid (And.intro bx0 bx1)
  have HB0 : Hid (Below w.heap.size w (w.alloc (.cells #[.int .u64 u, .int .u64 v] 24))) := Lib.hid ((Below.refl _ _).alloc (Nat.le_refl _) _)
  obtain ⟨t0, t1⟩ := ht
  obtain ⟨x0, x1⟩ := hx
  clear hA hpos hlast hf hn hu hv h3 bx0 bx1
  go_enter Try.func23, Try.ntmps23
  go_wp2_with fail
  refine (HU1.out _ (HA.out.call HB0.out)).mono ?_
  rintro e w1 ⟨rfl, b1⟩
  have HB1 := Lib.hid (HB0.out.trans (b1.mono HB0.out.size))
  have HBX1 := Lib.hid (And.intro (cell_later b1 HBX.out.1) (cell_later b1 HBX.out.2))
  clear b1
  go_wp2_with fail
  refine (HU2.out _ (HA.out.call HB1.out)).mono ?_
  rintro e w2 ⟨rfl, b2⟩
  have HB2 := Lib.hid (HB1.out.trans (b2.mono HB1.out.size))
  have HBX2 := Lib.hid (And.intro (cell_later b2 HBX1.out.1) (cell_later b2 HBX1.out.2))
  clear b2 HU1 HU2 HBX HBX1 HB0 HB1
  go_wp2_with fail
  go_loopw [11, 22] (fun s j wr => ∃ (k : Nat) (m : Int), k ≤ A.length ∧ j = .int .i64 k ∧ s = .int .u64 (m + 1) ∧ m = whereP (fun y => decide (y < x)) (A.take k) ∧ Below w2.heap.size w2 wr) (fun _ j _ => A.length - (intOf j).toNat)
  case atStart => exact ⟨0, 0, Nat.zero_le _, rfl, rfl, rfl, Below.refl _ _⟩
  case round =>
    obtain ⟨k, m, hk, rfl, rfl, hm, hb2⟩ := hrel
    have HM := Lib.hid hm
    have hbs := hb2.size
    by_cases hlt : k < A.length
    · have kk : (k : Int) < A.length := by omega
      have hxk : A[k]? = some A[k] := List.getElem?_eq_getElem hlt
      generalize hit : A[k] = p at *
      obtain ⟨px, pc⟩ := p
      obtain ⟨b, off, rfl, hbl, c0, c1⟩ := (HA.out.call (HB2.out.trans (hb2.mono HB2.out.size))).at_ k _ hxk
      have HS := Lib.hid (where_snocW (fun y => decide (y < x)) hxk)
      have hok := HA.out.ok _ (List.mem_of_getElem? hxk)
      have p1 := HP.out (k + 1)
      have p0 := HP.out k
      rw [HS.out] at p1
      rw [← hm] at p0 p1
      obtain ⟨⟨o1, o2⟩, o3, o4⟩ := hok
      simp only [decide_eq_true_eq] at c0 c1 o1 o2 o3 o4 p1 HS
      clear hxk hit hm
      by_cases he : px < x
      · rw [if_pos he] at p1 HS
        obtain ⟨p2, p3⟩ := p1
        obtain ⟨p4, _⟩ := p0
        have e1 : m + 1 + pc = m + pc + 1 := by omega
        go_wp2_with fail
        go_roundw
        case rel => exact ⟨k + 1, m + pc, by omega, by go_num, rfl, by rw [HS.out, HM.out], hb2.alloc hbs _⟩
        case measure => simp [intOf]; omega
      · rw [if_neg he] at p1 HS
        clear p0 p1
        go_wp2_with fail
        go_roundw
        case rel => exact ⟨k + 1, m, by omega, by go_num, rfl, by rw [HS.out, HM.out, Int.add_zero], hb2.alloc hbs _⟩
        case measure => simp [intOf]; omega
    · obtain rfl : k = A.length := by omega
      rw [List.take_length, HF.out] at hm
      subst hm
      have kk : ¬ (A.length : Int) < A.length := by omega
      have HB5 := Lib.hid (HB2.out.trans (hb2.mono HB2.out.size))
      have HBX5 := Lib.hid (And.intro (cell_later hb2 HBX2.out.1) (cell_later hb2 HBX2.out.2))
      have d1 : decide (m + 1 ≤ l) = true := decide_eq_true hor
      clear hb2 HM
      obtain ⟨w5, hw5⟩ : ∃ w5, wr = w5 := ⟨_, rfl⟩
      rw [hw5] at HB5 HBX5
      rw [hw5]
      clear hw5 hbs
      by_cases y1 : t < m + 1
      · have y2 : ¬ l < t := by omega
        have HGP : Hid (0 ≤ (m + 1 - t) ∧ (m + 1 - t) < 18446744073709551616 ∧ (m + 1 - t) * v ≤ u * n) := Lib.hid (HGAP.out (m + 1 - t) (by omega) (by omega) (by omega))
        have CM2 := Lib.hid (fun W => rtimes_any (m + 1 - t) v ⟨HGP.out.1, HGP.out.2.1⟩ HWV.out W)
        have hm2 := mul_bd (a := (m + 1 - t)) (b := v) ⟨HGP.out.1, HGP.out.2.1⟩ HWV.out
        have CL := Lib.hid (fun W => less_two (u * n) ((m + 1 - t) * v) hm1.1 hm1.2 hm2.1 hm2.2 W)
        have hdl : decide (u * n < (m + 1 - t) * v) = false := decide_eq_false (Int.not_lt.2 HGP.out.2.2)
        rw [hdl] at CL
        obtain ⟨k2, hh2⟩ : ∃ v', hiW ((m + 1 - t) * v) = v' := ⟨_, rfl⟩
        obtain ⟨l2, hl2⟩ : ∃ v', loW ((m + 1 - t) * v) = v' := ⟨_, rfl⟩
        rw [hh2, hl2] at CM2 CL
        rw [hh1, hl1] at CM1 CL
        clear hh2 hl2 hdl hm1 hm2 HGAP HGP hh1 hl1
        have HS0 : Hid (w5.drew.cell? ⟨w.heap.size, 0, none⟩ = some (.int .u64 u) ∧ w5.drew.cell? ⟨w.heap.size, 1, none⟩ = some (.int .u64 v) ∧ Below w5.heap.size w5 w5.drew) := Lib.hid ⟨cell_later ((Below.refl _ _).drew) HBX5.out.1, cell_later ((Below.refl _ _).drew) HBX5.out.2, (Below.refl _ _).drew⟩
        have HST := Lib.hid (fun (W W' : World) (h : W.cell? ⟨w.heap.size, 0, none⟩ = some (.int .u64 u) ∧ W.cell? ⟨w.heap.size, 1, none⟩ = some (.int .u64 v) ∧ Below w5.heap.size w5 W) (hb : Below W.heap.size W W') => (⟨cell_later hb h.1, cell_later hb h.2.1, h.2.2.trans (hb.mono h.2.2.size)⟩ : W'.cell? ⟨w.heap.size, 0, none⟩ = some (.int .u64 u) ∧ W'.cell? ⟨w.heap.size, 1, none⟩ = some (.int .u64 v) ∧ Below w5.heap.size w5 W'))
        go_wp2_with fail
        go_region_held3 (fun w' => w'.cell? ⟨w.heap.size, 0, none⟩ = some (.int .u64 u) ∧ w'.cell? ⟨w.heap.size, 1, none⟩ = some (.int .u64 v) ∧ Below w5.heap.size w5 w')
          (first | exact HS0.out | exact HST.out _ _ (by assumption) hbA | exact HST.out _ _ (by assumption) hbB | exact HST.out _ _ (by assumption) hbC | assumption)
          ((first
            | (go_at_call 29; with_reducible refine (CM1.out _).mono ?_; rintro e wA ⟨rfl, hbA⟩)
            | (go_at_call 29; with_reducible refine (CM2.out _).mono ?_; rintro e wB ⟨rfl, hbB⟩)
            | (go_at_call 47; with_reducible refine (CL.out _).mono ?_; rintro e wC ⟨rfl, hbC⟩)))
        rename_i hHeld
        have HB9 := Lib.hid (HB5.out.trans (hHeld.2.2.mono HB5.out.size))
        clear hHeld HS0 HST
        go_wp2_with fail
        go_ret
        exact ⟨rfl, HB9.out⟩
      by_cases y2 : l < t
      · skip
        have HGP : Hid (0 ≤ (t - l) ∧ (t - l) < 18446744073709551616 ∧ (t - l) * v ≤ u * n) := Lib.hid (HGAP.out (t - l) (by omega) (by omega) (by omega))
        have CM2 := Lib.hid (fun W => rtimes_any (t - l) v ⟨HGP.out.1, HGP.out.2.1⟩ HWV.out W)
        have hm2 := mul_bd (a := (t - l)) (b := v) ⟨HGP.out.1, HGP.out.2.1⟩ HWV.out
        have CL := Lib.hid (fun W => less_two (u * n) ((t - l) * v) hm1.1 hm1.2 hm2.1 hm2.2 W)
        have hdl : decide (u * n < (t - l) * v) = false := decide_eq_false (Int.not_lt.2 HGP.out.2.2)
        rw [hdl] at CL
        obtain ⟨k2, hh2⟩ : ∃ v', hiW ((t - l) * v) = v' := ⟨_, rfl⟩
        obtain ⟨l2, hl2⟩ : ∃ v', loW ((t - l) * v) = v' := ⟨_, rfl⟩
        rw [hh2, hl2] at CM2 CL
        rw [hh1, hl1] at CM1 CL
        clear hh2 hl2 hdl hm1 hm2 HGAP HGP hh1 hl1
        have HS0 : Hid (w5.drew.cell? ⟨w.heap.size, 0, none⟩ = some (.int .u64 u) ∧ w5.drew.cell? ⟨w.heap.size, 1, none⟩ = some (.int .u64 v) ∧ Below w5.heap.size w5 w5.drew) := Lib.hid ⟨cell_later ((Below.refl _ _).drew) HBX5.out.1, cell_later ((Below.refl _ _).drew) HBX5.out.2, (Below.refl _ _).drew⟩
        have HST := Lib.hid (fun (W W' : World) (h : W.cell? ⟨w.heap.size, 0, none⟩ = some (.int .u64 u) ∧ W.cell? ⟨w.heap.size, 1, none⟩ = some (.int .u64 v) ∧ Below w5.heap.size w5 W) (hb : Below W.heap.size W W') => (⟨cell_later hb h.1, cell_later hb h.2.1, h.2.2.trans (hb.mono h.2.2.size)⟩ : W'.cell? ⟨w.heap.size, 0, none⟩ = some (.int .u64 u) ∧ W'.cell? ⟨w.heap.size, 1, none⟩ = some (.int .u64 v) ∧ Below w5.heap.size w5 W'))
        go_wp2_with fail
        go_region_held3 (fun w' => w'.cell? ⟨w.heap.size, 0, none⟩ = some (.int .u64 u) ∧ w'.cell? ⟨w.heap.size, 1, none⟩ = some (.int .u64 v) ∧ Below w5.heap.size w5 w')
          (first | exact HS0.out | exact HST.out _ _ (by assumption) hbA | exact HST.out _ _ (by assumption) hbB | exact HST.out _ _ (by assumption) hbC | assumption)
          ((first
            | (go_at_call 29; with_reducible refine (CM1.out _).mono ?_; rintro e wA ⟨rfl, hbA⟩)
            | (go_at_call 29; with_reducible refine (CM2.out _).mono ?_; rintro e wB ⟨rfl, hbB⟩)
            | (go_at_call 47; with_reducible refine (CL.out _).mono ?_; rintro e wC ⟨rfl, hbC⟩)))
        rename_i hHeld
        have HB9 := Lib.hid (HB5.out.trans (hHeld.2.2.mono HB5.out.size))
        clear hHeld HS0 HST
        go_wp2_with fail
        go_ret
        exact ⟨rfl, HB9.out⟩
      have HGP0 : Hid ((0 : Int) ≤ 0) := Lib.hid (Int.le_refl _)
      have HGP : Hid (0 ≤ ((0 : Int)) ∧ ((0 : Int)) < 18446744073709551616 ∧ ((0 : Int)) * v ≤ u * n) := Lib.hid (HGAP.out ((0 : Int)) (by omega) (by omega) (by omega))
      have CM2 := Lib.hid (fun W => rtimes_any ((0 : Int)) v ⟨HGP.out.1, HGP.out.2.1⟩ HWV.out W)
      have hm2 := mul_bd (a := ((0 : Int))) (b := v) ⟨HGP.out.1, HGP.out.2.1⟩ HWV.out
      have CL := Lib.hid (fun W => less_two (u * n) (((0 : Int)) * v) hm1.1 hm1.2 hm2.1 hm2.2 W)
      have hdl : decide (u * n < ((0 : Int)) * v) = false := decide_eq_false (Int.not_lt.2 HGP.out.2.2)
      rw [hdl] at CL
      obtain ⟨k2, hh2⟩ : ∃ v', hiW (((0 : Int)) * v) = v' := ⟨_, rfl⟩
      obtain ⟨l2, hl2⟩ : ∃ v', loW (((0 : Int)) * v) = v' := ⟨_, rfl⟩
      rw [hh2, hl2] at CM2 CL
      rw [hh1, hl1] at CM1 CL
      clear hh2 hl2 hdl hm1 hm2 HGAP HGP hh1 hl1
      have HS0 : Hid (w5.drew.cell? ⟨w.heap.size, 0, none⟩ = some (.int .u64 u) ∧ w5.drew.cell? ⟨w.heap.size, 1, none⟩ = some (.int .u64 v) ∧ Below w5.heap.size w5 w5.drew) := Lib.hid ⟨cell_later ((Below.refl _ _).drew) HBX5.out.1, cell_later ((Below.refl _ _).drew) HBX5.out.2, (Below.refl _ _).drew⟩
      have HST := Lib.hid (fun (W W' : World) (h : W.cell? ⟨w.heap.size, 0, none⟩ = some (.int .u64 u) ∧ W.cell? ⟨w.heap.size, 1, none⟩ = some (.int .u64 v) ∧ Below w5.heap.size w5 W) (hb : Below W.heap.size W W') => (⟨cell_later hb h.1, cell_later hb h.2.1, h.2.2.trans (hb.mono h.2.2.size)⟩ : W'.cell? ⟨w.heap.size, 0, none⟩ = some (.int .u64 u) ∧ W'.cell? ⟨w.heap.size, 1, none⟩ = some (.int .u64 v) ∧ Below w5.heap.size w5 W'))
      go_wp2_with fail
      go_region_held3 (fun w' => w'.cell? ⟨w.heap.size, 0, none⟩ = some (.int .u64 u) ∧ w'.cell? ⟨w.heap.size, 1, none⟩ = some (.int .u64 v) ∧ Below w5.heap.size w5 w')
        (first | exact HS0.out | exact HST.out _ _ (by assumption) hbA | exact HST.out _ _ (by assumption) hbB | exact HST.out _ _ (by assumption) hbC | assumption)
        ((first
          | (go_at_call 29; with_reducible refine (CM1.out _).mono ?_; rintro e wA ⟨rfl, hbA⟩)
          | (go_at_call 29; with_reducible refine (CM2.out _).mono ?_; rintro e wB ⟨rfl, hbB⟩)
          | (go_at_call 47; with_reducible refine (CL.out _).mono ?_; rintro e wC ⟨rfl, hbC⟩)))
      rename_i hHeld
      have HB9 := Lib.hid (HB5.out.trans (hHeld.2.2.mono HB5.out.size))
      clear hHeld HS0 HST
      go_wp2_with fail
      go_ret
      exact ⟨rfl, HB9.out⟩
end Go.Proofs.Ytfmlkohijkalbaa

/-
  The law GreenwaldClose, walked from the contract.
-/
namespace Go.Proofs.Ytfmlkohijkalbaa
set_option linter.unusedVariables false
set_option linter.unusedSimpArgs false
open Go.RowKit

theorem flush_none {u v : Int} {s : GwV} (h : s.2 = []) : flushG u v s = s := by unfold flushG; rw [if_pos h]
/-- What Quantile answers is close to the place. -/
theorem near_place {u v : Int} {V : List Int} {s : GwV} (ha : GoodA u v) (h : GwOk u v V s) {t : Int} (t1 : 1 ≤ t) (t2 : t ≤ V.length) :
    (∃ p, p ∈ (flushG u v s).1 ∧ p.x = nearX t (flushG u v s).1) ∧ unV V (nearX t (flushG u v s).1) + 1 ≤ upV V (nearX t (flushG u v s).1) ∧
    ∃ G, 0 ≤ G ∧ unV V (nearX t (flushG u v s).1) + 1 ≤ t + G ∧ t ≤ upV V (nearX t (flushG u v s).1) + G ∧ G * v ≤ u * V.length := by
  obtain ⟨h1, h2, h3⟩ := h.flush (by have := ha.u1; omega) ha.v0
  obtain ⟨c, c1, c2, c3, c4, c5⟩ := close_told h3 h1.tight t1 t2
  have e : nearX t (flushG u v s).1 = c.x := by unfold nearX; rw [c1]
  have hl : 1 ≤ limG u v (totS (flushG u v s).1) := by unfold limG; omega
  rw [e]
  refine ⟨⟨c, c2, rfl⟩, c5, limG u v (totS (flushG u v s).1) / 2, by omega, c3, c4, ?_⟩
  rw [← tot_told h3]
  exact half_close (by have := ha.u1; omega) ha.v0 (by rw [tot_told h3]; omega) (by omega) (Int.le_refl _)

set_option maxRecDepth 100000 in
set_option maxHeartbeats 8000000 in
theorem gw_close_walk {Gw : GwT} (D : GwDoes Gw) (u v : Int) (A : List PairV) (a : Option Addr) (cap : Nat) (pa pb x : Int) (hu : Word u) (hv : Word v) (wa : Word pa) (wb : Word pb) (hx : I64 x) (w : World) (hA : Pairs w a A) (hl : A.length ≤ 140737488351232) :
    Calls Try.prog 4 #[.agg #[.int .u64 u, .int .u64 v], .slice a A.length cap, .agg #[.int .u64 pa, .int .u64 pb], .int .i64 x] w fun e w' => e = .returned (.bool true) ∧ Below w.heap.size w w' := by
  have HD := Lib.hid D
  have HA := Lib.hid hA
  have HAL := Lib.hid (fun W => alive19_any D W)
  have HBD := Lib.hid (fun W hW => build19_any D W u v A a cap hu hv hW hl)
  obtain ⟨bx, bw⟩ := boxw_new w (.int .u64 u) (.int .u64 v) (.int .u64 pa) (.int .u64 pb) 24 24
  have HBX := Lib.hid bx
  have HB0 := Lib.hid bw
  have HWU := Lib.hid hu
  have HWV := Lib.hid hv
  have HWA := Lib.hid wa
  have HWB := Lib.hid wb
  have HX := Lib.hid hx
  clear hA D bx bw
  go_enter Try.func4, Try.ntmps4
  go_wp2_with fail
  refine (HAL.out _).mono ?_
  rintro e w1 ⟨rfl, b1'⟩
  have HX1 := Lib.hid (boxw_later HBX.out b1')
  have HB1 := Lib.hid (HB0.out.trans (b1'.mono HB0.out.size))
  have HZ1 : Hid (w.heap.size + 2 ≤ w1.heap.size) := Lib.hid (World.block_lt_of_cell? (a := ⟨w.heap.size + 1, 0, none⟩) w1 HX1.out.2.2.1)
  obtain ⟨c0, c1, p0, p1⟩ := HX1.out
  clear b1' HBX HAL
  go_wp2_with fail
  refine (HBD.out _ (HA.out.call HB1.out)).mono ?_
  rintro e w2 (⟨B, S, M, vs, vw, rfl, hga, hfe, hbt⟩ | ⟨rfl, _, b2'⟩)
  case inr =>
    have HB2 := Lib.hid (HB1.out.trans (b2'.mono HB1.out.size))
    clear b2' c0 c1 p0 p1
    go_wp2_with fail
    go_ret
    exact ⟨rfl, HB2.out⟩
  have HX2 := Lib.hid (boxw_later HX1.out hbt.below)
  have HB2 := Lib.hid (HB1.out.trans (hbt.below.mono HB1.out.size))
  have HGA := Lib.hid hga
  have HFE := Lib.hid hfe
  have HNS : Hid (∀ k, S k → w.heap.size + 2 ≤ k) := Lib.hid fun k hk => Nat.le_trans HZ1.out (hbt.newS k hk)
  obtain ⟨f1, f2, f3, f4⟩ := build_facts u v _ A rfl HA.out.ok (by have := hfe.sum; omega)
  have hgok := build_ok (u := u) (v := v) (by have := hga.u1; omega) hga.v0 _ A rfl
  obtain ⟨wu, wn, wl⟩ := where_up (ok_pos HA.out.ok) x
  have hgw := hbt.gw
  obtain ⟨s, hs⟩ : ∃ s, buildG u v A = s := ⟨_, rfl⟩
  rw [hs] at f1 f2 f3 f4 hgok hgw
  obtain ⟨k1, k2, k3, k4⟩ := flush_ok (u := u) (v := v) f1
  have hfl := hgok.flush (by have := hga.u1; omega) hga.v0
  have hrb := rank_between hfl.2.2.placed x
  have HNP := Lib.hid (fun (t : Int) => near_place (t := t) hga hgok)
  obtain ⟨s1, hs1⟩ : ∃ s1, flushG u v s = s1 := ⟨_, rfl⟩
  obtain ⟨T, hT⟩ : ∃ T, sumP A = T := ⟨_, rfl⟩
  have hTb : 0 ≤ T ∧ T ≤ 150 := by rw [← hT]; exact ⟨sumP_pos (ok_pos HA.out.ok), hfe.sum⟩
  have HRK := Lib.hid (HD.out.rank w2 B S u v s (endAD A) x hgw HX.out)
  have HT := Lib.hid hT
  have HAG : Hid (((allG A).length : Int) = T) := Lib.hid (by rw [← hT, wl])
  rw [f4, hT] at k2 HRK
  rw [hs1] at k1 k2 k4 hrb HRK HNP
  have hn : (((allG A).length : Nat) : Int) = T := HAG.out
  rw [hn] at hrb
  have HNE : Hid (s1.2 = []) := Lib.hid k4
  have HFN : Hid (flushG u v s1 = s1) := Lib.hid (flush_none k4)
  have HOK1 := Lib.hid k1
  have HT1 := Lib.hid k2
  obtain ⟨lo, hlo⟩ : ∃ lo, rankLo s1.1 x = lo := ⟨_, rfl⟩
  obtain ⟨hi, hhi⟩ : ∃ hi, rankHi s1.1 T x = hi := ⟨_, rfl⟩
  obtain ⟨up, hup⟩ : ∃ up, whereP (fun y => decide (y ≤ x)) A = up := ⟨_, rfl⟩
  rw [hlo, hhi, ← wu, hup] at hrb
  rw [hlo, hhi] at HRK
  have HUP := Lib.hid (fun W hW => rup19_any W a cap A x up hW HX.out (by have := HFE.out.len; omega) (by rw [HT.out]; omega) hup)
  have HGD := Lib.hid (fun W => rgood_any pa pb HWA.out HWB.out W)
  obtain ⟨gd, hgd⟩ : ∃ gd, gdB pa pb = gd := ⟨_, rfl⟩
  rw [hgd] at HGD
  have r1 : ¬ up < lo := by omega
  have r2 : ¬ hi < up := by omega
  clear hga hfe hbt f1 f2 f3 f4 hgok wu wn wl hgw hs k1 k2 k3 k4 hfl hrb hs1 hlo hhi hup hT hn c0 c1 p0 p1 HBD
  go_wp2_with fail
  refine HRK.out.mono ?_
  rintro e w3 ⟨S3, rfl, hx3, hk3, hs3⟩
  have HX3 := Lib.hid hx3
  have HB3 := Lib.hid (Keeps.below HB2.out hk3 HB2.out.size (fun k hk => by have := HNS.out k hk; omega))
  have HBX3 := Lib.hid (boxw_keeps HX2.out hk3 HNS.out)
  have HNS3 : Hid (∀ k, S3 k → w.heap.size + 2 ≤ k) := Lib.hid fun k hk => by
    rcases hs3 k hk with h | h
    · exact HNS.out k h
    · have := World.block_lt_of_cell? (a := ⟨w.heap.size + 1, 0, none⟩) w2 HX2.out.2.2.1; simp only at this; omega
  clear hx3 hk3 hs3 HRK
  go_wp2_with fail
  refine (HUP.out _ (HA.out.call HB3.out)).mono ?_
  rintro e w4 ⟨rfl, b4⟩
  have HB4 := Lib.hid (HB3.out.trans (b4.mono HB3.out.size))
  have HX4 := Lib.hid (HD.out.call HX3.out b4)
  have HBX4 := Lib.hid (boxw_later HBX3.out b4)
  obtain ⟨c0, c1, p0, p1⟩ := HBX4.out
  clear b4 HUP
  go_wp2_with fail
  refine (HGD.out _).mono ?_
  rintro e w5 ⟨rfl, b5⟩
  have HB5 := Lib.hid (HB4.out.trans (b5.mono HB4.out.size))
  have HX5 := Lib.hid (HD.out.call HX4.out b5)
  have HBX5 := Lib.hid (boxw_later HBX4.out b5)
  clear b5 HGD c0 c1 p0 p1
  cases gd with
  | false =>
    go_wp2_with fail
    go_ret
    exact ⟨rfl, HB5.out⟩
  | true =>
  by_cases hA0 : A.length = 0
  · have hz : ((A.length : Int) == 0) = true := by rw [hA0]; rfl
    clear hA0
    go_wp2_with fail
    go_ret
    exact ⟨rfl, HB5.out⟩
  have hz : ((A.length : Int) == 0) = false := by rw [beq_eq_false_iff_ne]; omega
  have hT0 : ¬ T = 0 := fun h => by have := (one_sum HFE.out.one).1; rw [HT.out] at this; omega
  have hTw : Word T := ⟨by omega, by omega⟩
  obtain ⟨g1, g2, g3⟩ : plE pa pb T = 0 ∧ 1 ≤ plV pa pb T ∧ plV pa pb T ≤ T := by
    have := pl_spec HWA.out HWB.out hTw hgd hT0
    exact ⟨(pl_good hgd hT0).2, this.1, this.2.1⟩
  have HPL := Lib.hid (fun W => rplace_any pa pb T HWA.out HWB.out hTw W)
  obtain ⟨t, ht⟩ : ∃ t, plV pa pb T = t := ⟨_, rfl⟩
  rw [g1, ht] at HPL
  rw [ht] at g2 g3
  obtain ⟨⟨pc, pc1, pc2⟩, n1, G, n2, n3, n4, n5⟩ := HNP.out t g2 (by rw [HAG.out]; exact g3)
  obtain ⟨y, hy⟩ : ∃ y, nearX t s1.1 = y := ⟨_, rfl⟩
  have hyi : I64 y := by rw [← hy, ← pc2]; exact (HOK1.out.sp pc pc1).1
  rw [hy] at n1 n3 n4
  have hqw : quanW u v pa pb s1 = (y, 0) := by
    unfold quanW
    rw [HT1.out, HFN.out, g1, if_neg (by decide), ht, hy]
  obtain ⟨wu, wn, wl⟩ := where_up (ok_pos HA.out.ok) y
  rw [← wu, ← wn] at n1
  rw [← wn] at n3
  rw [← wu] at n4
  have HNE2 := Lib.hid (fun W hW => near19_any W a cap A y t u v G hW (by have := HFE.out.len; omega) (by rw [HT.out]; omega) hyi ⟨by omega, by omega⟩ HWU.out HWV.out n1 n2 n3 n4 (by rw [wl]; exact n5))
  have HTO := Lib.hid (fun W (h : Below w5.heap.size w5 W) => HD.out.total W B S3 u v s1 _ (HD.out.call HX5.out h))
  rw [HT1.out] at HTO
  have HQU := Lib.hid (fun W (h : Below w5.heap.size w5 W) => HD.out.quantile W B S3 u v s1 _ pa pb (HD.out.call HX5.out h) HWA.out HWB.out)
  rw [hqw] at HQU
  have HS0 : Hid (w5.drew.cell? ⟨w.heap.size + 1, 0, none⟩ = some (.int .u64 pa) ∧ w5.drew.cell? ⟨w.heap.size + 1, 1, none⟩ = some (.int .u64 pb) ∧ Below w5.heap.size w5 w5.drew) := Lib.hid ⟨cell_later ((Below.refl _ _).drew) HBX5.out.2.2.1, cell_later ((Below.refl _ _).drew) HBX5.out.2.2.2, (Below.refl _ _).drew⟩
  have HST := Lib.hid (fun (W W' : World) (h : W.cell? ⟨w.heap.size + 1, 0, none⟩ = some (.int .u64 pa) ∧ W.cell? ⟨w.heap.size + 1, 1, none⟩ = some (.int .u64 pb) ∧ Below w5.heap.size w5 W) (hb : Below W.heap.size W W') => (⟨cell_later hb h.1, cell_later hb h.2.1, h.2.2.trans (hb.mono h.2.2.size)⟩ : W'.cell? ⟨w.heap.size + 1, 0, none⟩ = some (.int .u64 pa) ∧ W'.cell? ⟨w.heap.size + 1, 1, none⟩ = some (.int .u64 pb) ∧ Below w5.heap.size w5 W'))
  clear hA0 hgd ht g1 n1 n2 n3 n4 n5 wu wn wl hqw hy pc1 pc2 HNP
  go_wp2_with fail
  go_region_held3 (fun w' => w'.cell? ⟨w.heap.size + 1, 0, none⟩ = some (.int .u64 pa) ∧ w'.cell? ⟨w.heap.size + 1, 1, none⟩ = some (.int .u64 pb) ∧ Below w5.heap.size w5 w')
    (first | exact HS0.out | exact HST.out _ _ (by assumption) hbA | exact HST.out _ _ (by assumption) hbB | assumption)
    ((first
      | (go_at_call 22; refine (HTO.out _ (And.right (And.right (by assumption)))).mono ?_; rintro e wA ⟨rfl, hbA⟩)
      | (go_at_call 21; refine (HPL.out _).mono ?_; rintro e wB ⟨rfl, hbB⟩)))
  rename_i hHeld
  have HB6 := Lib.hid hHeld.2.2
  have HB56 := Lib.hid (HB5.out.trans (hHeld.2.2.mono HB5.out.size))
  have HBX6 := Lib.hid (boxw_later HBX5.out hHeld.2.2)
  clear hHeld HS0 HST HPL HTO
  obtain ⟨c0, c1, p0, p1⟩ := HBX6.out
  go_wp2_with fail
  refine (HQU.out _ HB6.out).mono ?_
  rintro e w7 ⟨S7, rfl, hx7, hk7, hs7⟩
  have HB7 := Lib.hid (Keeps.below HB56.out hk7 HB56.out.size (fun k hk => by have := HNS3.out k hk; omega))
  have HBX7 := Lib.hid (boxw_keeps HBX6.out hk7 HNS3.out)
  clear hx7 hk7 hs7 HQU c0 c1 p0 p1
  obtain ⟨c0, c1, p0, p1⟩ := HBX7.out
  go_wp2_with fail
  refine (HNE2.out _ (HA.out.call HB7.out)).mono ?_
  rintro e w8 ⟨rfl, b8⟩
  have HB8 := Lib.hid (HB7.out.trans (b8.mono HB7.out.size))
  clear b8
  go_wp2_with fail
  go_ret
  exact ⟨rfl, HB8.out⟩
end Go.Proofs.Ytfmlkohijkalbaa
