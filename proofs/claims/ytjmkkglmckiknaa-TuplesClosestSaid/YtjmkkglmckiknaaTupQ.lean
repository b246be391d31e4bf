/-
  The law TuplesClosest, from the contracts.
-/
import Derived.Test.YtjmkkglmckiknaaTupZ
namespace Go.Proofs.Ytjmkkglmckiknaa
set_option linter.unusedVariables false
set_option linter.unusedSimpArgs false
open Go.RowKit

/-- The closest one so far, as the law keeps it. -/
structure PickW (t : Int) (S : List SpotV) (k : Nat) (b w : Int) : Prop where
  none_ : k = 0 → b = 18446744073709551615 ∧ w = 0
  some_ : 0 < k → ∃ c, closeS t none (S.take k) = some c ∧ w = c.x ∧ b = farS t c
theorem PickW.zero (t : Int) (S : List SpotV) : PickW t S 0 18446744073709551615 0 := ⟨fun _ => ⟨rfl, rfl⟩, fun h => absurd h (Nat.lt_irrefl _)⟩
theorem PickW.yes {t b w d : Int} {S : List SpotV} {k : Nat} {s : SpotV} (h : PickW t S k b w) (hs : S[k]? = some s) (hd : farS t s = d) (hlt : d < b) : PickW t S (k + 1) d s.x := by
  refine ⟨fun e => absurd e (by omega), fun _ => ⟨s, ?_, rfl, hd.symm⟩⟩
  rw [close_step hs]
  rcases Nat.eq_zero_or_pos k with e | e
  · subst e; rfl
  · obtain ⟨c, h1, h2, h3⟩ := h.some_ e
    rw [h1]
    show some (if farS t s < farS t c then s else c) = some s
    rw [if_pos (by omega)]
theorem PickW.no {t b w d : Int} {S : List SpotV} {k : Nat} {s : SpotV} (h : PickW t S k b w) (hs : S[k]? = some s) (hd : farS t s = d) (hm : d < 18446744073709551615) (hlt : ¬ d < b) : PickW t S (k + 1) b w := by
  rcases Nat.eq_zero_or_pos k with e | e
  · have := (h.none_ e).1
    omega
  · obtain ⟨c, h1, h2, h3⟩ := h.some_ e
    refine ⟨fun e => absurd e (by omega), fun _ => ⟨c, ?_, h2, h3⟩⟩
    rw [close_step hs, h1]
    show some (if farS t s < farS t c then s else c) = some c
    rw [if_neg (by omega)]
theorem PickW.end_ {t b w : Int} {L : List TupV} {n : Nat} (h : PickW t (spotsT 0 L) n b w) (hn : (spotsT 0 L).length = n) : w = findX t L := by
  unfold findX
  rcases Nat.eq_zero_or_pos n with e | e
  · have h1 := (h.none_ e).2
    have : spotsT 0 L = [] := List.eq_nil_of_length_eq_zero (by omega)
    rw [this, h1]; rfl
  · obtain ⟨c, h1, h2, _⟩ := h.some_ e
    rw [List.take_of_length_le (by omega)] at h1
    rw [h1, h2]

set_option maxRecDepth 100000 in
set_option maxHeartbeats 8000000 in
theorem closest18_walk (D : TupDoes) (w : World) (A : Option Addr) (cap : Nat) (L : List TupV) (t x : Int) (h : Tups w A L) (hl : L.length ≤ 140737488351232) (hcap : L.length ≤ cap) (ht : Word t) (hx : I64 x) :
    Calls Try.prog 6 #[.slice A L.length cap, .int .u64 t, .int .i64 x] w fun e w' => e = .returned (.bool true) ∧ Below w.heap.size w w' := by
  have CA := Lib.hid (alive18_any D w)
  have HI := Lib.hid h
  have HD := Lib.hid D
  obtain ⟨N, hN⟩ : ∃ N, L.length = N := ⟨_, rfl⟩
  have HN := Lib.hid hN
  clear D h
  rw [hN]
  have hl2 : N ≤ 140737488351232 := by omega
  by_cases hmx : sumT L ≤ 9223372036854775807
  · obtain ⟨n, hn⟩ : ∃ n, sumT L = n := ⟨_, rfl⟩
    have CT := Lib.hid (fun (W : World) (hW : Tups W A L) => HD.out.total W A cap L n true hW hl (Or.inl ⟨hmx, hn.symm, rfl⟩))
    rw [hN] at CT
    by_cases h60 : (60 : Int) < (N : Int)
    · have f1 : decide ((60 : Int) < (N : Int)) = true := decide_eq_true h60
      have f2 : decide (60 < N) = true := decide_eq_true (by omega)
      clear hl hmx hn hN
      go_enter Try.func6, Try.ntmps6
      go_wp2_with fail
      refine CA.out.mono ?_
      rintro e w1 ⟨rfl, b1⟩
      have HB1 := Lib.hid b1
      clear b1
      go_wp2_with fail
      refine (CT.out w1 (HI.out.call HB1.out)).mono ?_
      rintro e w2 ⟨rfl, b2⟩
      have HB2 := Lib.hid (HB1.out.trans (b2.mono HB1.out.size))
      clear b2
      go_wp2_with fail
      go_ret
      exact ⟨rfl, HB2.out⟩
    · have f1 : decide ((60 : Int) < (N : Int)) = false := decide_eq_false h60
      have f2 : decide (60 < N) = false := decide_eq_false (by omega)
      by_cases h62 : 4611686018427387904 < n
      · have f3 : decide (4611686018427387904 < n) = true := decide_eq_true h62
        clear hl hmx hn hN
        go_enter Try.func6, Try.ntmps6
        go_wp2_with fail
        refine CA.out.mono ?_
        rintro e w1 ⟨rfl, b1⟩
        have HB1 := Lib.hid b1
        clear b1
        go_wp2_with fail
        refine (CT.out w1 (HI.out.call HB1.out)).mono ?_
        rintro e w2 ⟨rfl, b2⟩
        have HB2 := Lib.hid (HB1.out.trans (b2.mono HB1.out.size))
        clear b2
        go_wp2_with fail
        go_ret
        exact ⟨rfl, HB2.out⟩
      · have f3 : decide (4611686018427387904 < n) = false := decide_eq_false h62
        by_cases hg : GoodT L
        · have hsp := hg.can
          have hno := Lib.hid hn
          rw [hn] at hsp
          obtain ⟨S, hS⟩ : ∃ S, spotsT 0 L = S := ⟨_, rfl⟩
          have hSl : S.length = N := by rw [← hS, spots_len, hN]
          rw [hS] at hsp
          have CG := Lib.hid (fun (W : World) (hW : Tups W A L) => HD.out.good W A cap L true hW (by omega) ⟨fun _ => hg, fun _ => rfl⟩)
          rw [hN] at CG
          have CL := Lib.hid (fun (W : World) (hW : Tups W A L) => plain18_any W A cap L hW (by omega))
          rw [hN] at CL
          have hok : ∀ p, p ∈ L → okTu p := HI.out.ok
          have HOK := Lib.hid hok
          have hsok : ∀ s, s ∈ S → okSp s := fun s hs => by
            have hb := hsp.mem s hs
            obtain ⟨p, hp, e⟩ := spots_x L 0 s (by rw [hS]; exact hs)
            exact ⟨by rw [e]; exact (hok p hp).1, ⟨by omega, by omega⟩, by omega, by omega⟩
          have HSO := Lib.hid hsok
          have CS := Lib.hid (fun (W : World) B c (hW : Tups W B L) => rspots_any W B c L hW (by omega) hg)
          rw [hS, hN] at CS
          have htot : totS S = n := by rw [← hS, tot_last, last_sum]; omega
          have CO := Lib.hid (fun (W : World) B c (hW : Spts W B S) => rtot18_any W B c S n hW (by omega) htot)
          rw [hSl] at CO
          obtain ⟨fx, hfx⟩ : ∃ y, findX t L = y := ⟨_, rfl⟩
          obtain ⟨lo, hlo⟩ : ∃ y, rankLo S x = y := ⟨_, rfl⟩
          obtain ⟨hi, hhi⟩ : ∃ y, rankHi S n x = y := ⟨_, rfl⟩
          obtain ⟨ok, hok2⟩ : ∃ b, (!L.isEmpty) = b := ⟨_, rfl⟩
          have hoke : ok = decide (0 < N) := by
            rw [← hok2, ← hN]
            cases L with
            | nil => rfl
            | cons p r => simp
          have CF := Lib.hid (fun (W : World) (hW : Tups W A L) => HD.out.find W A cap L t hW (by omega) hg ht)
          rw [hfx, hN, hok2] at CF
          have CR := Lib.hid (fun (W : World) (hW : Tups W A L) => HD.out.rank W A cap L x hW hcap (by omega) hg hx)
          rw [hS, hn, hlo, hhi, hN] at CR
          have HFX : Hid (∀ b w, PickW t S N b w → w = fx) := Lib.hid fun b w hp => by rw [← hfx]; exact PickW.end_ (by rw [hS]; exact hp) (by rw [hS]; exact hSl)
          have HLO := Lib.hid hlo
          have HHI := Lib.hid hhi
          have HSL := Lib.hid hSl
          have HSP := Lib.hid hsp
          have n62 : n ≤ 4611686018427387904 := by omega
          have n00 : 0 ≤ n := by have := sumT_pos (L := L) (fun p hp => (hok p hp).2.1.1); omega
          obtain ⟨t0, t1⟩ := ht
          have hN60 : N ≤ 60 := by omega
          have kz : IntKind.i64.wrap ((N : Int) - 1) = (N : Int) - 1 := by rw [IntKind.wrap_i64]; omega
          clear hl hmx hn hN hg hS hSl hsp hok hsok htot hfx hlo hhi hok2 h62 h60 hcap hx
          go_enter Try.func6, Try.ntmps6
          go_wp2_with fail
          refine CA.out.mono ?_
          rintro e w1 ⟨rfl, b1⟩
          have HB1 := Lib.hid b1
          clear b1
          go_wp2_with fail
          refine (CT.out w1 (HI.out.call HB1.out)).mono ?_
          rintro e w2 ⟨rfl, b2⟩
          have HB2 := Lib.hid (HB1.out.trans (b2.mono HB1.out.size))
          clear b2
          go_wp2_with fail
          refine (CG.out w2 (HI.out.call HB2.out)).mono ?_
          rintro e w3 ⟨rfl, b3⟩
          have HB3 := Lib.hid (HB2.out.trans (b3.mono HB2.out.size))
          clear b3
          go_wp2_with fail
          refine (CL.out w3 (HI.out.call HB3.out)).mono ?_
          rintro e w4 ⟨v4, rfl, ho4, b4⟩
          have HB4 := Lib.hid (HB3.out.trans (b4.mono HB3.out.size))
          obtain ⟨A4, k4, rfl, hP4⟩ := ho4.rows HOK.out
          rw [HN.out]
          have HP4 := Lib.hid hP4
          clear ho4 b4 hP4
          go_wp2_with fail
          refine (CS.out w4 A4 k4 HP4.out).mono ?_
          rintro e w5 ⟨v5, rfl, ho5, b5⟩
          have HB5 := Lib.hid (HB4.out.trans (b5.mono HB4.out.size))
          obtain ⟨A5, k5, rfl, hP5⟩ := ho5.rows HSO.out
          rw [HSL.out]
          have HP5 := Lib.hid hP5
          clear ho5 b5 hP5
          go_wp2_with fail
          refine (CO.out w5 A5 k5 HP5.out).mono ?_
          rintro e w6 ⟨rfl, rfl⟩
          go_wp2_with fail
          go_loopw [10, 11, 12, 52] (fun bv wv lv jv wr => ∃ (k : Nat) (b y l : Int), k ≤ N ∧ jv = .int .i64 k ∧ bv = .int .u64 b ∧ wv = .int .i64 y ∧ lv = .int .u64 l ∧ PickW t S k b y ∧ rankLo (S.take k) x = l ∧ Below w6.heap.size w6 wr) (fun _ _ _ jv _ => N - (intOf jv).toNat)
          case atStart => exact ⟨0, 18446744073709551615, 0, 0, Nat.zero_le _, rfl, rfl, rfl, rfl, PickW.zero t S, rfl, Below.refl _ _⟩
          case round =>
            obtain ⟨k, b, y, l, hk, rfl, rfl, rfl, rfl, hpk, hrl, hb7⟩ := hrel
            have HPK := Lib.hid hpk
            have HRL := Lib.hid hrl
            have HB7 := Lib.hid hb7
            have hbs := hb7.size
            clear hpk hrl hb7
            by_cases hlt : k < N
            · have kk : (k : Int) < N := by omega
              have hxk := List.getElem?_eq_getElem (l := S) (i := k) (by rw [HSL.out]; exact hlt)
              generalize S[k]'(by rw [HSL.out]; exact hlt) = s at hxk
              have hsa := spots_at HSP.out hxk
              have hso := HSO.out _ (List.mem_of_getElem? hxk)
              have hrs := rankLo_step (x := x) hxk
              obtain ⟨sx, sl, sh⟩ := s
              obtain ⟨b0, off, rfl, hbl, c0, c1, c2⟩ := (HP5.out.call HB7.out).at_ k _ hxk
              obtain ⟨g1, g2, g3, g4⟩ := hsa
              obtain ⟨⟨x0, x1⟩, _⟩ := hso
              simp only at c0 c1 c2 g1 g2 g3 g4 x0 x1 hrs
              rw [HRL.out] at hrs
              obtain ⟨d, hd⟩ : ∃ d, farS t ⟨sx, sl, sh⟩ = d := ⟨_, rfl⟩
              have hdm : max (t - sl) (sh - t) = d := hd
              have hd1 : 0 ≤ d ∧ d < 18446744073709551615 := by omega
              obtain ⟨d0, d1⟩ := hd1
              have HX := Lib.hid hxk
              have HDD := Lib.hid hd
              have HRS := Lib.hid hrs
              have HDM := Lib.hid hdm
              have HBN : Hid (Below w6.heap.size w6 (wr.alloc (.cells #[.int .i64 sx, .int .u64 sl, .int .u64 sh] 44))) := Lib.hid (HB7.out.alloc hbs _)
              clear hxk hd hrs hdm
              by_cases h1 : sl < t
              · have f5 : decide (sl < t) = true := decide_eq_true h1
                have u1 : IntKind.u64.wrap (t - sl) = t - sl := by rw [IntKind.wrap_u64]; omega
                by_cases h2 : t < sh
                · have f6 : decide (t < sh) = true := decide_eq_true h2
                  have u2 : IntKind.u64.wrap (sh - t) = sh - t := by rw [IntKind.wrap_u64]; omega
                  have z1 : max (t - sl) (sh - t) = d := HDM.out
                  by_cases h3 : d < b
                  · have f7 : decide (d < b) = true := decide_eq_true h3
                    have HPN := Lib.hid (HPK.out.yes HX.out HDD.out h3)
                    by_cases h4 : sx ≤ x
                    · have f8 : decide (sx ≤ x) = true := decide_eq_true h4
                      have HRN : Hid (rankLo (S.take (k + 1)) x = sl) := Lib.hid (by rw [HRS.out, if_pos h4])
                      clear HPK HX HDD HRS HDM
                      go_wp2_with fail
                      go_roundw
                      case rel => exact ⟨k + 1, _, _, _, by omega, by go_num, rfl, rfl, rfl, HPN.out, HRN.out, HBN.out⟩
                      case measure => simp [intOf]; omega
                    · have f8 : decide (sx ≤ x) = false := decide_eq_false h4
                      have HRN : Hid (rankLo (S.take (k + 1)) x = l) := Lib.hid (by rw [HRS.out, if_neg h4])
                      clear HPK HX HDD HRS HDM
                      go_wp2_with fail
                      go_roundw
                      case rel => exact ⟨k + 1, _, _, _, by omega, by go_num, rfl, rfl, rfl, HPN.out, HRN.out, HBN.out⟩
                      case measure => simp [intOf]; omega
                  · have f7 : decide (d < b) = false := decide_eq_false h3
                    have HPN := Lib.hid (HPK.out.no HX.out HDD.out d1 h3)
                    by_cases h4 : sx ≤ x
                    · have f8 : decide (sx ≤ x) = true := decide_eq_true h4
                      have HRN : Hid (rankLo (S.take (k + 1)) x = sl) := Lib.hid (by rw [HRS.out, if_pos h4])
                      clear HPK HX HDD HRS HDM
                      go_wp2_with fail
                      go_roundw
                      case rel => exact ⟨k + 1, _, _, _, by omega, by go_num, rfl, rfl, rfl, HPN.out, HRN.out, HBN.out⟩
                      case measure => simp [intOf]; omega
                    · have f8 : decide (sx ≤ x) = false := decide_eq_false h4
                      have HRN : Hid (rankLo (S.take (k + 1)) x = l) := Lib.hid (by rw [HRS.out, if_neg h4])
                      clear HPK HX HDD HRS HDM
                      go_wp2_with fail
                      go_roundw
                      case rel => exact ⟨k + 1, _, _, _, by omega, by go_num, rfl, rfl, rfl, HPN.out, HRN.out, HBN.out⟩
                      case measure => simp [intOf]; omega
                · have f6 : decide (t < sh) = false := decide_eq_false h2
                  have z1 : t - sl = d := by have := HDM.out; omega
                  subst z1
                  by_cases h3 : (t - sl) < b
                  · have f7 : decide ((t - sl) < b) = true := decide_eq_true h3
                    have HPN := Lib.hid (HPK.out.yes HX.out HDD.out h3)
                    by_cases h4 : sx ≤ x
                    · have f8 : decide (sx ≤ x) = true := decide_eq_true h4
                      have HRN : Hid (rankLo (S.take (k + 1)) x = sl) := Lib.hid (by rw [HRS.out, if_pos h4])
                      clear HPK HX HDD HRS HDM
                      go_wp2_with fail
                      go_roundw
                      case rel => exact ⟨k + 1, _, _, _, by omega, by go_num, rfl, rfl, rfl, HPN.out, HRN.out, HBN.out⟩
                      case measure => simp [intOf]; omega
                    · have f8 : decide (sx ≤ x) = false := decide_eq_false h4
                      have HRN : Hid (rankLo (S.take (k + 1)) x = l) := Lib.hid (by rw [HRS.out, if_neg h4])
                      clear HPK HX HDD HRS HDM
                      go_wp2_with fail
                      go_roundw
                      case rel => exact ⟨k + 1, _, _, _, by omega, by go_num, rfl, rfl, rfl, HPN.out, HRN.out, HBN.out⟩
                      case measure => simp [intOf]; omega
                  · have f7 : decide ((t - sl) < b) = false := decide_eq_false h3
                    have HPN := Lib.hid (HPK.out.no HX.out HDD.out d1 h3)
                    by_cases h4 : sx ≤ x
                    · have f8 : decide (sx ≤ x) = true := decide_eq_true h4
                      have HRN : Hid (rankLo (S.take (k + 1)) x = sl) := Lib.hid (by rw [HRS.out, if_pos h4])
                      clear HPK HX HDD HRS HDM
                      go_wp2_with fail
                      go_roundw
                      case rel => exact ⟨k + 1, _, _, _, by omega, by go_num, rfl, rfl, rfl, HPN.out, HRN.out, HBN.out⟩
                      case measure => simp [intOf]; omega
                    · have f8 : decide (sx ≤ x) = false := decide_eq_false h4
                      have HRN : Hid (rankLo (S.take (k + 1)) x = l) := Lib.hid (by rw [HRS.out, if_neg h4])
                      clear HPK HX HDD HRS HDM
                      go_wp2_with fail
                      go_roundw
                      case rel => exact ⟨k + 1, _, _, _, by omega, by go_num, rfl, rfl, rfl, HPN.out, HRN.out, HBN.out⟩
                      case measure => simp [intOf]; omega
              · have f5 : decide (sl < t) = false := decide_eq_false h1
                by_cases h2 : t < sh
                · have f6 : decide (t < sh) = true := decide_eq_true h2
                  have u2 : IntKind.u64.wrap (sh - t) = sh - t := by rw [IntKind.wrap_u64]; omega
                  have z1 : max 0 (sh - t) = d := by have := HDM.out; omega
                  by_cases h3 : d < b
                  · have f7 : decide (d < b) = true := decide_eq_true h3
                    have HPN := Lib.hid (HPK.out.yes HX.out HDD.out h3)
                    by_cases h4 : sx ≤ x
                    · have f8 : decide (sx ≤ x) = true := decide_eq_true h4
                      have HRN : Hid (rankLo (S.take (k + 1)) x = sl) := Lib.hid (by rw [HRS.out, if_pos h4])
                      clear HPK HX HDD HRS HDM
                      go_wp2_with fail
                      go_roundw
                      case rel => exact ⟨k + 1, _, _, _, by omega, by go_num, rfl, rfl, rfl, HPN.out, HRN.out, HBN.out⟩
                      case measure => simp [intOf]; omega
                    · have f8 : decide (sx ≤ x) = false := decide_eq_false h4
                      have HRN : Hid (rankLo (S.take (k + 1)) x = l) := Lib.hid (by rw [HRS.out, if_neg h4])
                      clear HPK HX HDD HRS HDM
                      go_wp2_with fail
                      go_roundw
                      case rel => exact ⟨k + 1, _, _, _, by omega, by go_num, rfl, rfl, rfl, HPN.out, HRN.out, HBN.out⟩
                      case measure => simp [intOf]; omega
                  · have f7 : decide (d < b) = false := decide_eq_false h3
                    have HPN := Lib.hid (HPK.out.no HX.out HDD.out d1 h3)
                    by_cases h4 : sx ≤ x
                    · have f8 : decide (sx ≤ x) = true := decide_eq_true h4
                      have HRN : Hid (rankLo (S.take (k + 1)) x = sl) := Lib.hid (by rw [HRS.out, if_pos h4])
                      clear HPK HX HDD HRS HDM
                      go_wp2_with fail
                      go_roundw
                      case rel => exact ⟨k + 1, _, _, _, by omega, by go_num, rfl, rfl, rfl, HPN.out, HRN.out, HBN.out⟩
                      case measure => simp [intOf]; omega
                    · have f8 : decide (sx ≤ x) = false := decide_eq_false h4
                      have HRN : Hid (rankLo (S.take (k + 1)) x = l) := Lib.hid (by rw [HRS.out, if_neg h4])
                      clear HPK HX HDD HRS HDM
                      go_wp2_with fail
                      go_roundw
                      case rel => exact ⟨k + 1, _, _, _, by omega, by go_num, rfl, rfl, rfl, HPN.out, HRN.out, HBN.out⟩
                      case measure => simp [intOf]; omega
                · have f6 : decide (t < sh) = false := decide_eq_false h2
                  have z1 : (0 : Int) = d := by have := HDM.out; omega
                  subst z1
                  by_cases h3 : 0 < b
                  · have f7 : decide (0 < b) = true := decide_eq_true h3
                    have HPN := Lib.hid (HPK.out.yes HX.out HDD.out h3)
                    by_cases h4 : sx ≤ x
                    · have f8 : decide (sx ≤ x) = true := decide_eq_true h4
                      have HRN : Hid (rankLo (S.take (k + 1)) x = sl) := Lib.hid (by rw [HRS.out, if_pos h4])
                      clear HPK HX HDD HRS HDM
                      go_wp2_with fail
                      go_roundw
                      case rel => exact ⟨k + 1, _, _, _, by omega, by go_num, rfl, rfl, rfl, HPN.out, HRN.out, HBN.out⟩
                      case measure => simp [intOf]; omega
                    · have f8 : decide (sx ≤ x) = false := decide_eq_false h4
                      have HRN : Hid (rankLo (S.take (k + 1)) x = l) := Lib.hid (by rw [HRS.out, if_neg h4])
                      clear HPK HX HDD HRS HDM
                      go_wp2_with fail
                      go_roundw
                      case rel => exact ⟨k + 1, _, _, _, by omega, by go_num, rfl, rfl, rfl, HPN.out, HRN.out, HBN.out⟩
                      case measure => simp [intOf]; omega
                  · have f7 : decide (0 < b) = false := decide_eq_false h3
                    have HPN := Lib.hid (HPK.out.no HX.out HDD.out d1 h3)
                    by_cases h4 : sx ≤ x
                    · have f8 : decide (sx ≤ x) = true := decide_eq_true h4
                      have HRN : Hid (rankLo (S.take (k + 1)) x = sl) := Lib.hid (by rw [HRS.out, if_pos h4])
                      clear HPK HX HDD HRS HDM
                      go_wp2_with fail
                      go_roundw
                      case rel => exact ⟨k + 1, _, _, _, by omega, by go_num, rfl, rfl, rfl, HPN.out, HRN.out, HBN.out⟩
                      case measure => simp [intOf]; omega
                    · have f8 : decide (sx ≤ x) = false := decide_eq_false h4
                      have HRN : Hid (rankLo (S.take (k + 1)) x = l) := Lib.hid (by rw [HRS.out, if_neg h4])
                      clear HPK HX HDD HRS HDM
                      go_wp2_with fail
                      go_roundw
                      case rel => exact ⟨k + 1, _, _, _, by omega, by go_num, rfl, rfl, rfl, HPN.out, HRN.out, HBN.out⟩
                      case measure => simp [intOf]; omega
            · obtain rfl : k = N := by omega
              have kk : ¬ (k : Int) < k := by omega
              have HWF : Hid (y = fx) := Lib.hid (HFX.out _ _ HPK.out)
              have HLL : Hid (l = lo) := Lib.hid (by rw [← HLO.out, ← HRL.out, List.take_of_length_le (by rw [HSL.out]; exact Nat.le_refl _)])
              obtain rfl := HWF.out
              obtain rfl := HLL.out
              go_wp2_with fail
              go_loopw [13, 17] (fun hv iv w8 => ∃ (q : Nat) (hh z : Int), q ≤ k ∧ iv = .int .i64 z ∧ z = (q : Int) - 1 ∧ hv = .int .u64 hh ∧ rankHi (S.drop q) n x = hh ∧ Below w6.heap.size w6 w8) (fun _ iv _ => (intOf iv + 1).toNat)
              case atStart =>
                refine ⟨k, n, (k : Int) - 1, Nat.le_refl _, rfl, rfl, rfl, ?_, HB7.out⟩
                rw [List.drop_of_length_le (by rw [HSL.out]; exact Nat.le_refl _)]
                rfl
              case round =>
                obtain ⟨q, hh, z, hq, rfl, hz, rfl, hrh, hb8⟩ := hrel
                have HRH := Lib.hid hrh
                have HB8 := Lib.hid hb8
                clear hrh hb8
                by_cases q0 : q = 0
                · have z1 : ¬ 0 ≤ z := by omega
                  have z2 : decide (0 ≤ z) = false := decide_eq_false z1
                  have HHH : Hid (hh = hi) := Lib.hid (by rw [← HHI.out, ← HRH.out, q0, List.drop_zero])
                  obtain rfl := HHH.out
                  clear hz q0
                  have e1 : (y == y) = true := by simp
                  have e2 : (l == l) = true := by simp
                  have e3 : (hh == hh) = true := by simp
                  have e4 : (ok == decide (0 < k)) = true := by rw [hoke]; simp
                  have e5 : (ok == decide ((0 : Int) < (k : Int))) = true := by
                    rw [hoke]
                    have : decide (0 < k) = decide ((0 : Int) < (k : Int)) := by
                      by_cases c : 0 < k
                      · rw [decide_eq_true c, decide_eq_true (by omega)]
                      · rw [decide_eq_false c, decide_eq_false (by omega)]
                    rw [this]; simp
                  clear hoke
                  go_wp2_with fail
                  refine (CF.out _ (HI.out.call (HB5.out.trans (HB8.out.mono HB5.out.size)))).mono ?_
                  rintro e w9 ⟨rfl, b9⟩
                  have HB9 := Lib.hid ((HB5.out.trans (HB8.out.mono HB5.out.size)).trans (b9.mono (HB5.out.trans (HB8.out.mono HB5.out.size)).size))
                  clear b9
                  go_wp2_with fail
                  refine (CR.out _ (HI.out.call HB9.out)).mono ?_
                  rintro e w10 ⟨rfl, b10⟩
                  have HB10 := Lib.hid (HB9.out.trans (b10.mono HB9.out.size))
                  clear b10
                  go_wp2_with fail
                  go_ret
                  exact ⟨rfl, HB10.out⟩
                · obtain ⟨j, rfl⟩ : ∃ j, q = j + 1 := ⟨q - 1, by omega⟩
                  obtain rfl : z = (j : Int) := by omega
                  have z1 : (0 : Int) ≤ (j : Int) := by omega
                  have z2 : decide ((0 : Int) ≤ (j : Int)) = true := decide_eq_true z1
                  have kj : (j : Int) < (k : Int) := by omega
                  have hxk := List.getElem?_eq_getElem (l := S) (i := j) (by rw [HSL.out]; omega)
                  generalize S[j]'(by rw [HSL.out]; omega) = s at hxk
                  have hsa := spots_at HSP.out hxk
                  have hrs := rankHi_step (x := x) (n := n) hxk
                  obtain ⟨sx, sl, sh⟩ := s
                  obtain ⟨b0, off, rfl, hbl, c0, c1, c2⟩ := (HP5.out.call HB8.out).at_ j _ hxk
                  obtain ⟨g1, g2, g3, g4⟩ := hsa
                  simp only at c0 c1 c2 g1 g2 g3 g4 hrs
                  rw [HRH.out] at hrs
                  have u1 : IntKind.u64.wrap (sh - 1) = sh - 1 := by rw [IntKind.wrap_u64]; omega
                  have u2 : IntKind.i64.wrap ((j : Int) - 1) = (j : Int) - 1 := by rw [IntKind.wrap_i64]; omega
                  have HRS := Lib.hid hrs
                  clear hxk hrs hz q0
                  by_cases h4 : x < sx
                  · have f8 : decide (x < sx) = true := decide_eq_true h4
                    have HRN : Hid (rankHi (S.drop j) n x = sh - 1) := Lib.hid (by rw [HRS.out, if_pos h4])
                    go_wp2_with fail
                    exact ⟨⟨j, sh - 1, (j : Int) - 1, by omega, rfl, rfl, rfl, HRN.out, HB8.out⟩, by simp [intOf]⟩
                  · have f8 : decide (x < sx) = false := decide_eq_false h4
                    have HRN : Hid (rankHi (S.drop j) n x = hh) := Lib.hid (by rw [HRS.out, if_neg h4])
                    go_wp2_with fail
                    exact ⟨⟨j, hh, (j : Int) - 1, by omega, rfl, rfl, rfl, HRN.out, HB8.out⟩, by simp [intOf]⟩
        · have CG := Lib.hid (fun (W : World) (hW : Tups W A L) => HD.out.good W A cap L false hW (by omega) ⟨fun e => (by cases e), fun e => absurd e hg⟩)
          rw [hN] at CG
          clear hl hmx hn hN hg
          go_enter Try.func6, Try.ntmps6
          go_wp2_with fail
          refine CA.out.mono ?_
          rintro e w1 ⟨rfl, b1⟩
          have HB1 := Lib.hid b1
          clear b1
          go_wp2_with fail
          refine (CT.out w1 (HI.out.call HB1.out)).mono ?_
          rintro e w2 ⟨rfl, b2⟩
          have HB2 := Lib.hid (HB1.out.trans (b2.mono HB1.out.size))
          clear b2
          go_wp2_with fail
          refine (CG.out w2 (HI.out.call HB2.out)).mono ?_
          rintro e w3 ⟨rfl, b3⟩
          have HB3 := Lib.hid (HB2.out.trans (b3.mono HB2.out.size))
          clear b3
          go_wp2_with fail
          go_ret
          exact ⟨rfl, HB3.out⟩
  · have CT := Lib.hid (fun (W : World) (hW : Tups W A L) => HD.out.total W A cap L 0 false hW hl (Or.inr ⟨by omega, rfl, rfl⟩))
    rw [hN] at CT
    clear hl hmx hN
    go_enter Try.func6, Try.ntmps6
    go_wp2_with fail
    refine CA.out.mono ?_
    rintro e w1 ⟨rfl, b1⟩
    have HB1 := Lib.hid b1
    clear b1
    go_wp2_with fail
    refine (CT.out w1 (HI.out.call HB1.out)).mono ?_
    rintro e w2 ⟨rfl, b2⟩
    have HB2 := Lib.hid (HB1.out.trans (b2.mono HB1.out.size))
    clear b2
    go_wp2_with fail
    go_ret
    exact ⟨rfl, HB2.out⟩
end Go.Proofs.Ytjmkkglmckiknaa
