/-
  The law ReqFull, from the contracts.
-/
import Derived.Test.YtbdfmnlfdhhnjaaK5
namespace Go.Proofs.Ytbdfmnlfdhhnjaa
set_option linter.unusedVariables false
set_option linter.unusedSimpArgs false
open Go.RowKit

/-- The values that are put. -/
def valsF (x st : Int) : Nat → List Int
  | 0 => []
  | j + 1 => valsF x st j ++ List.replicate 512 (x + 512 * (j : Int) * st)
theorem valsF_len (x st : Int) : ∀ j, (valsF x st j).length = 512 * j
  | 0 => rfl
  | j + 1 => by
    show (valsF x st j ++ List.replicate 512 _).length = _
    rw [List.length_append, List.length_replicate, valsF_len x st j]; omega
theorem stepF {st i : Int} (hs : -1048576 ≤ st ∧ st ≤ 1048576) (hi : 0 ≤ i ∧ i ≤ 8192) : -8589934592 ≤ i * st ∧ i * st ≤ 8589934592 := by
  have h1 := Int.mul_le_mul_of_nonneg_left hs.2 hi.1
  have h2 := Int.mul_le_mul_of_nonneg_left hs.1 hi.1
  omega
theorem valsF_ok {x st : Int} (hx : -1099511627776 ≤ x ∧ x ≤ 1099511627776) (hs : -1048576 ≤ st ∧ st ≤ 1048576) : ∀ j, j ≤ 16 → ∀ y, y ∈ valsF x st j → I64 y
  | 0, _, y, h => by cases h
  | j + 1, hj, y, h => by
    rcases List.mem_append.1 (show y ∈ valsF x st j ++ List.replicate 512 (x + 512 * (j : Int) * st) from h) with h | h
    · exact valsF_ok hx hs j (by omega) y h
    · have e := (List.mem_replicate.1 h).2
      have := stepF (i := 512 * (j : Int)) hs (by omega)
      rw [e]
      exact ⟨by omega, by omega⟩

set_option maxRecDepth 100000 in
set_option maxHeartbeats 8000000 in
theorem full21_walk {Rq : RqT} (D : RqDoes Rq) (w : World) (B word x st : Int) (hB : I64 B) (hw : Word word) (hx : I64 x) (hst : I64 st) :
    Calls Try.prog 9 #[.agg #[.int .i64 B, .int .u64 word], .int .i64 x, .int .i64 st] w fun e w' => e = .returned (.bool true) ∧ Below w.heap.size w w' := by
  have HD := Lib.hid D
  have HWD := Lib.hid hw
  obtain ⟨x0, x1⟩ := hx
  obtain ⟨s0, s1⟩ := hst
  have HAL := Lib.hid (fun W => alive21_any D W)
  obtain ⟨bx0, bx1⟩ := two_boxQ w (.int .i64 B) (.int .u64 word) 24
  have HBX : Hid (Below w.heap.size w (w.alloc (.cells #[.int .i64 B, .int .u64 word] 24))) := Lib.hid ((Below.refl _ _).alloc (Nat.le_refl _) _)
  have HX0 := Lib.hid bx0
  have HX1 := Lib.hid bx1
  have key : ∀ g : Bool, g = (!(decide (B = 4)) && !(decide (B = 8)) || decide (st < -1048576) || decide (1048576 < st) || decide (x < -1099511627776) || decide (1099511627776 < x)) → True := fun _ _ => trivial
  clear D hw bx0 bx1 key
  by_cases hbb : B = 4 ∨ B = 8
  case neg =>
    have n1 : (B != 4) = true := by simpa using fun h => hbb (Or.inl h)
    have n2 : (B != 8) = true := by simpa using fun h => hbb (Or.inr h)
    have n3 : (B == 4) = false := by simpa using fun h => hbb (Or.inl h)
    have n4 : (B == 8) = false := by simpa using fun h => hbb (Or.inr h)
    clear hbb
    go_enter Try.func9, Try.ntmps9
    go_wp2_with fail
    with_reducible (refine (HAL.out _).mono ?_)
    rintro e w1 ⟨rfl, b1⟩
    have HB1 := Lib.hid (HBX.out.trans (b1.mono HBX.out.size))
    have c0 := cell_later b1 HX0.out
    clear b1
    go_wp2_with fail
    go_ret
    exact ⟨rfl, HB1.out⟩
  case pos =>
  have gb : goodQ B = true := by rcases hbb with h | h <;> (rw [h]; decide)
  obtain ⟨g, hgv⟩ : ∃ g : Bool, ((B != 4) && (B != 8)) = g := ⟨_, rfl⟩
  have hg0 : g = false := by rw [← hgv]; rcases hbb with h | h <;> (rw [h]; rfl)
  by_cases q1 : st < -1048576
  case pos =>
    go_enter Try.func9, Try.ntmps9
    go_wp2_with fail
    with_reducible (refine (HAL.out _).mono ?_)
    rintro e w1 ⟨rfl, b1⟩
    have HB1 := Lib.hid (HBX.out.trans (b1.mono HBX.out.size))
    have c0 := cell_later b1 HX0.out
    clear b1
    rcases hbb with rfl | rfl <;> (go_wp2_with fail; go_ret; exact ⟨rfl, HB1.out⟩)
  by_cases q2 : 1048576 < st
  case pos =>
    go_enter Try.func9, Try.ntmps9
    go_wp2_with fail
    with_reducible (refine (HAL.out _).mono ?_)
    rintro e w1 ⟨rfl, b1⟩
    have HB1 := Lib.hid (HBX.out.trans (b1.mono HBX.out.size))
    have c0 := cell_later b1 HX0.out
    clear b1
    rcases hbb with rfl | rfl <;> (go_wp2_with fail; go_ret; exact ⟨rfl, HB1.out⟩)
  by_cases q3 : x < -1099511627776
  case pos =>
    go_enter Try.func9, Try.ntmps9
    go_wp2_with fail
    with_reducible (refine (HAL.out _).mono ?_)
    rintro e w1 ⟨rfl, b1⟩
    have HB1 := Lib.hid (HBX.out.trans (b1.mono HBX.out.size))
    have c0 := cell_later b1 HX0.out
    clear b1
    rcases hbb with rfl | rfl <;> (go_wp2_with fail; go_ret; exact ⟨rfl, HB1.out⟩)
  by_cases q4 : 1099511627776 < x
  case pos =>
    go_enter Try.func9, Try.ntmps9
    go_wp2_with fail
    with_reducible (refine (HAL.out _).mono ?_)
    rintro e w1 ⟨rfl, b1⟩
    have HB1 := Lib.hid (HBX.out.trans (b1.mono HBX.out.size))
    have c0 := cell_later b1 HX0.out
    clear b1
    rcases hbb with rfl | rfl <;> (go_wp2_with fail; go_ret; exact ⟨rfl, HB1.out⟩)
  have HXB : Hid (-1099511627776 ≤ x ∧ x ≤ 1099511627776) := Lib.hid (by omega)
  have HSB : Hid (-1048576 ≤ st ∧ st ≤ 1048576) := Lib.hid (by omega)
  obtain ⟨gb1, gb2, gb3⟩ := goodQ_iff.1 gb
  have HGB := Lib.hid gb
  obtain ⟨N, hN⟩ : ∃ N : Nat, B * 2 = N := ⟨(B * 2).toNat, by omega⟩
  have hN16 : N ≤ 16 := by omega
  have HNB := Lib.hid hN
  have HTP := Lib.hid (fun j => tow_P (B := B) word gb3 gb1 (valsF x st j))
  have HWT : Hid (∀ j : Nat, wtR (towQ B word (valsF x st j)).1 = 512 * (j : Int)) := Lib.hid fun j => by rw [(HTP.out j).wt, valsF_len]; omega
  have HTL : Hid (∀ j, j ≤ N → (towQ B word (valsF x st j)).2 ≤ 1000000000) := Lib.hid fun j hj => by
    have h := tow_less (B := B) word gb3 gb1 gb2 (valsF x st j) (by rw [valsF_len]; omega)
    rw [valsF_len] at h
    omega
  have HNX : Hid (∀ j : Nat, towQ B word (valsF x st (j + 1)) = playT B (coinB word) (towQ B word (valsF x st j)) (List.replicate 512 (x + 512 * (j : Int) * st))) := Lib.hid fun j => by
    show towQ B word (valsF x st j ++ _) = _
    rw [tow_app]
  have HNW := Lib.hid (fun W => HD.out.new W B word gb HWD.out)
  have HB48 := Lib.hid hbb
  clear gb hgv hg0 hN
  go_enter Try.func9, Try.ntmps9
  go_wp2_with fail
  with_reducible (refine (HAL.out _).mono ?_)
  rintro e w1 ⟨rfl, b1⟩
  have HB1 := Lib.hid (HBX.out.trans (b1.mono HBX.out.size))
  have HZ1 : Hid (w.heap.size + 1 ≤ w1.heap.size) := Lib.hid (by have h := b1.size; rw [size_boxQ] at h; exact h)
  have HC0 := Lib.hid (cell_later b1 HX0.out)
  have HC1 := Lib.hid (cell_later b1 HX1.out)
  have c0 := HC0.out
  have c1 := HC1.out
  have n1 : (B != 4) = true ∨ (B != 4) = false := by cases (B != 4) <;> simp
  clear b1
  rcases hbb with hb4 | hb8
  · have hBv : B = 4 := hb4
    subst hBv
    go_wp2_with fail
    with_reducible (refine (HNW.out _).mono ?_)
    rintro e w2 ⟨P, S, rfl, hq, hs, b2⟩
    have HB2 := Lib.hid (HB1.out.trans (b2.mono HB1.out.size))
    have HD0 := Lib.hid (cell_later b2 HC0.out)
    have HQ := Lib.hid hq
    have HS : Hid (∀ i, S i → w1.heap.size ≤ i) := Lib.hid hs
    obtain rfl : N = 8 := by have := HNB.out; omega
    have HZ2 := Lib.hid b2.size
    clear hq hs b2 c0 c1 n1
    go_wp2_with fail
    go_loopg [9] 8 (fun g iv wr => ∃ (j : Nat) (Sj : Nat → Prop) (ej : Int × Int × Bool), j ≤ 8 ∧ g = 8 - j ∧ iv = .int .u64 (512 * (j : Int)) ∧ Rq wr P Sj 4 word (towQ 4 word (valsF x st j)) ej ∧ (∀ i, Sj i → w1.heap.size ≤ i) ∧ wr.cell? ⟨w.heap.size, 0, none⟩ = some (.int .i64 4) ∧ w1.heap.size ≤ wr.heap.size ∧ Below w.heap.size w wr)
    case atStart => exact ⟨0, S, _, Nat.zero_le _, rfl, rfl, HQ.out, HS.out, HD0.out, HZ2.out, HB2.out⟩
    case round =>
      obtain ⟨j, Sj, ej, hj, hgk, rfl, hq, hs, hc, hz, hb⟩ := hrel
      have HZW := Lib.hid hz
      clear hz
      have HQJ := Lib.hid hq
      have HSJ := Lib.hid hs
      have HCJ := Lib.hid hc
      have HBJ := Lib.hid hb
      have HMO := Lib.hid (HD.out.most wr P Sj 4 word _ _ hq)
      rw [show ((4 : Int) * 1024) = 4096 from rfl] at HMO
      obtain ⟨i, hi⟩ : ∃ i : Int, 512 * (j : Int) = i := ⟨_, rfl⟩
      rw [hi]
      have HIE := Lib.hid hi
      obtain ⟨i0, i1⟩ : 0 ≤ i ∧ i ≤ 4096 := by omega
      clear hq hs hc hb
      by_cases hlt : j < 8
      · have kk : i < 4096 := by omega
        obtain ⟨p, hp⟩ : ∃ p, i * st = p := ⟨_, rfl⟩
        have hpb := stepF (i := i) HSB.out (by omega)
        rw [hp] at hpb
        obtain ⟨pb0, pb1⟩ := hpb
        have hpx : I64 (x + p) := ⟨by omega, by omega⟩
        have z1 : wrap64 (i * st) = p := by rw [hp]; unfold wrap64; omega
        have z2 : IntKind.i64.wrap (i * st) = p := by rw [hp, IntKind.wrap_i64]; omega
        have HNJ : Hid (towQ 4 word (valsF x st (j + 1)) = playT 4 (coinB word) (towQ 4 word (valsF x st j)) (List.replicate 512 (x + p))) := Lib.hid (by rw [HNX.out, HIE.out, hp])
        have HPU := Lib.hid (fun W (hb : Below wr.heap.size wr W) => HD.out.put W P Sj 4 word _ _ (x + p) 512 (HD.out.call HQJ.out hb) hpx (by decide) (by decide) (by rw [HWT.out]; show 512 * (j : Int) + 512 ≤ 4 * 1024; omega) (HTL.out j (by omega)))
        rw [show ((512 : Nat) : Int) = 512 from rfl] at HPU
        clear hp hi
        go_wp2_with fail
        with_reducible (refine HMO.out.mono ?_)
        rintro e w3 ⟨rfl, b3⟩
        have HB3 := Lib.hid (HBJ.out.trans (b3.mono HBJ.out.size))
        have HC3 := Lib.hid (cell_later b3 HCJ.out)
        have HZR := Lib.hid b3.size
        have HPW := Lib.hid (HPU.out w3 b3)
        clear b3
        go_wp2_with fail
        with_reducible (refine HPW.out.mono ?_)
        rintro e w4 ⟨S4, rfl, hq4, hk4, hs4⟩
        have HQ4 : Hid (Rq w4 P S4 4 word (towQ 4 word (valsF x st (j + 1))) (addW ej (x + p))) := Lib.hid (by rw [HNJ.out]; exact hq4)
        have HB4 := Lib.hid (hk4.below HB3.out HB3.out.size (fun k h => by have := HSJ.out k h; have := HZ1.out; omega))
        have HS4 : Hid (∀ k, S4 k → w1.heap.size ≤ k) := Lib.hid fun k h => by
          rcases hs4 k h with h | h
          · exact HSJ.out k h
          · have h1 := HZR.out; have h2 := HZW.out; omega
        have HC4 := Lib.hid (hk4.cell (fun h => by have := HSJ.out _ h; have := HZ1.out; omega) HC3.out)
        have HZ4 : Hid (w1.heap.size ≤ w4.heap.size) := Lib.hid (by have h1 := HZR.out; have h2 := HZW.out; have h3 := hk4.size; omega)
        clear hq4 hk4 hs4
        go_wp2_with fail
        go_roundg (8 - (j + 1))
        case measure => omega
        case rel => exact ⟨j + 1, S4, _, by omega, rfl, by have := HIE.out; first | go_num | (congr 1; omega), HQ4.out, HS4.out, HC4.out, HZ4.out, HB4.out⟩
      · obtain rfl : j = 8 := by omega
        have kk : ¬ i < 4096 := by omega
        have hiT : i = 4096 := by omega
        subst hiT
        have HRO := Lib.hid (fun W (hb : Below wr.heap.size wr W) => HD.out.rows W P Sj 4 word _ _ (HD.out.call HQJ.out hb))
        clear hi hgk
        go_wp2_with fail
        with_reducible (refine HMO.out.mono ?_)
        rintro e w3 ⟨rfl, b3⟩
        have HB3 := Lib.hid (HBJ.out.trans (b3.mono HBJ.out.size))
        have HE3 := Lib.hid b3
        have HRW := Lib.hid (HRO.out w3 b3)
        clear b3
        go_wp2_with fail
        with_reducible (refine HRW.out.mono ?_)
        rintro e w4 ⟨A, c, R, rfl, hr, hl, b4⟩
        have HB4 := Lib.hid (HB3.out.trans (b4.mono HB3.out.size))
        have HE4 := Lib.hid (HE3.out.trans (b4.mono HE3.out.size))
        have HR := Lib.hid hr
        have HLS := Lib.hid hl
        have d0 := cell_later HE4.out HCJ.out
        obtain ⟨m, hm⟩ : ∃ m, R.length = m := ⟨_, rfl⟩
        rw [hm]
        have HM := Lib.hid hm
        have hm13 : m ≤ 13 := by
          have h := ((HTP.out 8).fuel (by decide) (by decide) (by rw [valsF_len]; decide)).1
          rw [← hl, ls_len, hm] at h
          exact h
        clear hr hl b4 hm
        go_wp2_with fail
        go_loopw [63] (fun kv wq => ∃ k : Nat, k ≤ m ∧ kv = .int .i64 k ∧ w4 = wq) (fun kv _ => m - (intOf kv).toNat)
        case atStart => exact ⟨0, Nat.zero_le _, rfl, rfl⟩
        case round =>
          obtain ⟨k, hk, rfl, rfl⟩ := hrel
          by_cases hkm : k < m
          · have kk2 : (k : Int) < m := by omega
            obtain ⟨r, hr⟩ : ∃ r, R[k]? = some r := ⟨_, List.getElem?_eq_getElem (by rw [HM.out]; exact hkm)⟩
            obtain ⟨ba, oa, rfl, _, e0⟩ := HR.out.at_ k r hr
            obtain ⟨l, hl⟩ : ∃ l, r.l.length = l := ⟨_, rfl⟩
            rw [hl] at e0
            have hls : (l : Int) < 4 := by
              have := (HTP.out 8).short r.l (by rw [← HLS.out]; exact List.mem_map.2 ⟨r, List.mem_of_getElem? hr, rfl⟩)
              rw [hl] at this
              exact this
            have hls2 : ¬ (4 : Int) ≤ l := by omega
            clear hr hl
            go_wp2_with fail
            go_roundw
            case rel => exact ⟨k + 1, by omega, by go_num, by first | rfl | trivial⟩
            case measure => simp [intOf]; omega
          · have kk2 : ¬ (k : Int) < m := by omega
            have HQ4 := Lib.hid (HD.out.call HQJ.out HE4.out)
            have HPF := Lib.hid (HD.out.full w4 P Sj 4 word _ _ x 1 HQ4.out ⟨by omega, by omega⟩ (by decide) (by decide) (by rw [HWT.out]; decide))
            have HTO := Lib.hid (fun W (hb : Below w4.heap.size w4 W) => HD.out.total W P Sj 4 word _ _ (HD.out.call HQ4.out hb))
            have HMX := Lib.hid (fun W (hb : Below w4.heap.size w4 W) => HD.out.most W P Sj 4 word _ _ (HD.out.call HQ4.out hb))
            have HRK := Lib.hid (fun W (hb : Below w4.heap.size w4 W) => HD.out.rank W P Sj 4 word _ _ 9223372036854775807 (HD.out.call HQ4.out hb) ⟨by decide, by decide⟩)
            rw [HWT.out, show (512 * ((8 : Nat) : Int)) = 4096 from rfl] at HTO
            rw [rank_all (fun r hr y hy => (valsF_ok HXB.out HSB.out 8 (by decide) y ((HTP.out 8).mem r hr y hy)).2), HWT.out, show (512 * ((8 : Nat) : Int)) = 4096 from rfl] at HRK
            rw [show ((4 : Int) * 1024) = 4096 from rfl] at HMX
            have hm16 : (m : Int) ≤ 16 := by omega
            clear d0
            go_wp2_with fail
            with_reducible (refine HPF.out.mono ?_)
            rintro e w5 ⟨rfl, b5⟩
            have HE5 := Lib.hid b5
            clear b5
            go_wp2_with fail
            with_reducible (refine (HTO.out _ HE5.out).mono ?_)
            rintro e w6 ⟨rfl, b6⟩
            have HE6 := Lib.hid (HE5.out.trans (b6.mono HE5.out.size))
            clear b6
            go_wp2_with fail
            with_reducible (refine (HMX.out _ HE6.out).mono ?_)
            rintro e w7 ⟨rfl, b7⟩
            have HE7 := Lib.hid (HE6.out.trans (b7.mono HE6.out.size))
            clear b7
            go_wp2_with fail
            with_reducible (refine (HRK.out _ HE7.out).mono ?_)
            rintro e w8 ⟨rfl, b8⟩
            have HE8 := Lib.hid (HE7.out.trans (b8.mono HE7.out.size))
            clear b8
            go_wp2_with fail
            with_reducible (refine (HMX.out _ HE8.out).mono ?_)
            rintro e w9 ⟨rfl, b9⟩
            have HE9 := Lib.hid (HB4.out.trans ((HE8.out.trans (b9.mono HE8.out.size)).mono HB4.out.size))
            clear b9
            go_wp2_with fail
            go_ret
            exact ⟨rfl, HE9.out⟩
  · have hBv : B = 8 := hb8
    subst hBv
    go_wp2_with fail
    with_reducible (refine (HNW.out _).mono ?_)
    rintro e w2 ⟨P, S, rfl, hq, hs, b2⟩
    have HB2 := Lib.hid (HB1.out.trans (b2.mono HB1.out.size))
    have HD0 := Lib.hid (cell_later b2 HC0.out)
    have HQ := Lib.hid hq
    have HS : Hid (∀ i, S i → w1.heap.size ≤ i) := Lib.hid hs
    obtain rfl : N = 16 := by have := HNB.out; omega
    have HZ2 := Lib.hid b2.size
    clear hq hs b2 c0 c1 n1
    go_wp2_with fail
    go_loopg [9] 16 (fun g iv wr => ∃ (j : Nat) (Sj : Nat → Prop) (ej : Int × Int × Bool), j ≤ 16 ∧ g = 16 - j ∧ iv = .int .u64 (512 * (j : Int)) ∧ Rq wr P Sj 8 word (towQ 8 word (valsF x st j)) ej ∧ (∀ i, Sj i → w1.heap.size ≤ i) ∧ wr.cell? ⟨w.heap.size, 0, none⟩ = some (.int .i64 8) ∧ w1.heap.size ≤ wr.heap.size ∧ Below w.heap.size w wr)
    case atStart => exact ⟨0, S, _, Nat.zero_le _, rfl, rfl, HQ.out, HS.out, HD0.out, HZ2.out, HB2.out⟩
    case round =>
      obtain ⟨j, Sj, ej, hj, hgk, rfl, hq, hs, hc, hz, hb⟩ := hrel
      have HZW := Lib.hid hz
      clear hz
      have HQJ := Lib.hid hq
      have HSJ := Lib.hid hs
      have HCJ := Lib.hid hc
      have HBJ := Lib.hid hb
      have HMO := Lib.hid (HD.out.most wr P Sj 8 word _ _ hq)
      rw [show ((8 : Int) * 1024) = 8192 from rfl] at HMO
      obtain ⟨i, hi⟩ : ∃ i : Int, 512 * (j : Int) = i := ⟨_, rfl⟩
      rw [hi]
      have HIE := Lib.hid hi
      obtain ⟨i0, i1⟩ : 0 ≤ i ∧ i ≤ 8192 := by omega
      clear hq hs hc hb
      by_cases hlt : j < 16
      · have kk : i < 8192 := by omega
        obtain ⟨p, hp⟩ : ∃ p, i * st = p := ⟨_, rfl⟩
        have hpb := stepF (i := i) HSB.out (by omega)
        rw [hp] at hpb
        obtain ⟨pb0, pb1⟩ := hpb
        have hpx : I64 (x + p) := ⟨by omega, by omega⟩
        have z1 : wrap64 (i * st) = p := by rw [hp]; unfold wrap64; omega
        have z2 : IntKind.i64.wrap (i * st) = p := by rw [hp, IntKind.wrap_i64]; omega
        have HNJ : Hid (towQ 8 word (valsF x st (j + 1)) = playT 8 (coinB word) (towQ 8 word (valsF x st j)) (List.replicate 512 (x + p))) := Lib.hid (by rw [HNX.out, HIE.out, hp])
        have HPU := Lib.hid (fun W (hb : Below wr.heap.size wr W) => HD.out.put W P Sj 8 word _ _ (x + p) 512 (HD.out.call HQJ.out hb) hpx (by decide) (by decide) (by rw [HWT.out]; show 512 * (j : Int) + 512 ≤ 8 * 1024; omega) (HTL.out j (by omega)))
        rw [show ((512 : Nat) : Int) = 512 from rfl] at HPU
        clear hp hi
        go_wp2_with fail
        with_reducible (refine HMO.out.mono ?_)
        rintro e w3 ⟨rfl, b3⟩
        have HB3 := Lib.hid (HBJ.out.trans (b3.mono HBJ.out.size))
        have HC3 := Lib.hid (cell_later b3 HCJ.out)
        have HZR := Lib.hid b3.size
        have HPW := Lib.hid (HPU.out w3 b3)
        clear b3
        go_wp2_with fail
        with_reducible (refine HPW.out.mono ?_)
        rintro e w4 ⟨S4, rfl, hq4, hk4, hs4⟩
        have HQ4 : Hid (Rq w4 P S4 8 word (towQ 8 word (valsF x st (j + 1))) (addW ej (x + p))) := Lib.hid (by rw [HNJ.out]; exact hq4)
        have HB4 := Lib.hid (hk4.below HB3.out HB3.out.size (fun k h => by have := HSJ.out k h; have := HZ1.out; omega))
        have HS4 : Hid (∀ k, S4 k → w1.heap.size ≤ k) := Lib.hid fun k h => by
          rcases hs4 k h with h | h
          · exact HSJ.out k h
          · have h1 := HZR.out; have h2 := HZW.out; omega
        have HC4 := Lib.hid (hk4.cell (fun h => by have := HSJ.out _ h; have := HZ1.out; omega) HC3.out)
        have HZ4 : Hid (w1.heap.size ≤ w4.heap.size) := Lib.hid (by have h1 := HZR.out; have h2 := HZW.out; have h3 := hk4.size; omega)
        clear hq4 hk4 hs4
        go_wp2_with fail
        go_roundg (16 - (j + 1))
        case measure => omega
        case rel => exact ⟨j + 1, S4, _, by omega, rfl, by have := HIE.out; first | go_num | (congr 1; omega), HQ4.out, HS4.out, HC4.out, HZ4.out, HB4.out⟩
      · obtain rfl : j = 16 := by omega
        have kk : ¬ i < 8192 := by omega
        have hiT : i = 8192 := by omega
        subst hiT
        have HRO := Lib.hid (fun W (hb : Below wr.heap.size wr W) => HD.out.rows W P Sj 8 word _ _ (HD.out.call HQJ.out hb))
        clear hi hgk
        go_wp2_with fail
        with_reducible (refine HMO.out.mono ?_)
        rintro e w3 ⟨rfl, b3⟩
        have HB3 := Lib.hid (HBJ.out.trans (b3.mono HBJ.out.size))
        have HE3 := Lib.hid b3
        have HRW := Lib.hid (HRO.out w3 b3)
        clear b3
        go_wp2_with fail
        with_reducible (refine HRW.out.mono ?_)
        rintro e w4 ⟨A, c, R, rfl, hr, hl, b4⟩
        have HB4 := Lib.hid (HB3.out.trans (b4.mono HB3.out.size))
        have HE4 := Lib.hid (HE3.out.trans (b4.mono HE3.out.size))
        have HR := Lib.hid hr
        have HLS := Lib.hid hl
        have d0 := cell_later HE4.out HCJ.out
        obtain ⟨m, hm⟩ : ∃ m, R.length = m := ⟨_, rfl⟩
        rw [hm]
        have HM := Lib.hid hm
        have hm13 : m ≤ 13 := by
          have h := ((HTP.out 16).fuel (by decide) (by decide) (by rw [valsF_len]; decide)).1
          rw [← hl, ls_len, hm] at h
          exact h
        clear hr hl b4 hm
        go_wp2_with fail
        go_loopw [63] (fun kv wq => ∃ k : Nat, k ≤ m ∧ kv = .int .i64 k ∧ w4 = wq) (fun kv _ => m - (intOf kv).toNat)
        case atStart => exact ⟨0, Nat.zero_le _, rfl, rfl⟩
        case round =>
          obtain ⟨k, hk, rfl, rfl⟩ := hrel
          by_cases hkm : k < m
          · have kk2 : (k : Int) < m := by omega
            obtain ⟨r, hr⟩ : ∃ r, R[k]? = some r := ⟨_, List.getElem?_eq_getElem (by rw [HM.out]; exact hkm)⟩
            obtain ⟨ba, oa, rfl, _, e0⟩ := HR.out.at_ k r hr
            obtain ⟨l, hl⟩ : ∃ l, r.l.length = l := ⟨_, rfl⟩
            rw [hl] at e0
            have hls : (l : Int) < 8 := by
              have := (HTP.out 16).short r.l (by rw [← HLS.out]; exact List.mem_map.2 ⟨r, List.mem_of_getElem? hr, rfl⟩)
              rw [hl] at this
              exact this
            have hls2 : ¬ (8 : Int) ≤ l := by omega
            clear hr hl
            go_wp2_with fail
            go_roundw
            case rel => exact ⟨k + 1, by omega, by go_num, by first | rfl | trivial⟩
            case measure => simp [intOf]; omega
          · have kk2 : ¬ (k : Int) < m := by omega
            have HQ4 := Lib.hid (HD.out.call HQJ.out HE4.out)
            have HPF := Lib.hid (HD.out.full w4 P Sj 8 word _ _ x 1 HQ4.out ⟨by omega, by omega⟩ (by decide) (by decide) (by rw [HWT.out]; decide))
            have HTO := Lib.hid (fun W (hb : Below w4.heap.size w4 W) => HD.out.total W P Sj 8 word _ _ (HD.out.call HQ4.out hb))
            have HMX := Lib.hid (fun W (hb : Below w4.heap.size w4 W) => HD.out.most W P Sj 8 word _ _ (HD.out.call HQ4.out hb))
            have HRK := Lib.hid (fun W (hb : Below w4.heap.size w4 W) => HD.out.rank W P Sj 8 word _ _ 9223372036854775807 (HD.out.call HQ4.out hb) ⟨by decide, by decide⟩)
            rw [HWT.out, show (512 * ((16 : Nat) : Int)) = 8192 from rfl] at HTO
            rw [rank_all (fun r hr y hy => (valsF_ok HXB.out HSB.out 16 (by decide) y ((HTP.out 16).mem r hr y hy)).2), HWT.out, show (512 * ((16 : Nat) : Int)) = 8192 from rfl] at HRK
            rw [show ((8 : Int) * 1024) = 8192 from rfl] at HMX
            have hm16 : (m : Int) ≤ 16 := by omega
            clear d0
            go_wp2_with fail
            with_reducible (refine HPF.out.mono ?_)
            rintro e w5 ⟨rfl, b5⟩
            have HE5 := Lib.hid b5
            clear b5
            go_wp2_with fail
            with_reducible (refine (HTO.out _ HE5.out).mono ?_)
            rintro e w6 ⟨rfl, b6⟩
            have HE6 := Lib.hid (HE5.out.trans (b6.mono HE5.out.size))
            clear b6
            go_wp2_with fail
            with_reducible (refine (HMX.out _ HE6.out).mono ?_)
            rintro e w7 ⟨rfl, b7⟩
            have HE7 := Lib.hid (HE6.out.trans (b7.mono HE6.out.size))
            clear b7
            go_wp2_with fail
            with_reducible (refine (HRK.out _ HE7.out).mono ?_)
            rintro e w8 ⟨rfl, b8⟩
            have HE8 := Lib.hid (HE7.out.trans (b8.mono HE7.out.size))
            clear b8
            go_wp2_with fail
            with_reducible (refine (HMX.out _ HE8.out).mono ?_)
            rintro e w9 ⟨rfl, b9⟩
            have HE9 := Lib.hid (HB4.out.trans ((HE8.out.trans (b9.mono HE8.out.size)).mono HB4.out.size))
            clear b9
            go_wp2_with fail
            go_ret
            exact ⟨rfl, HE9.out⟩
end Go.Proofs.Ytbdfmnlfdhhnjaa
