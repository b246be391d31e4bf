/-
  The law TuplesFinds, from the contracts.
-/
import Derived.Test.YtjmkkglmckiknaaTupK
namespace Go.Proofs.Ytjmkkglmckiknaa
set_option linter.unusedVariables false
set_option linter.unusedSimpArgs false
open Go.RowKit

theorem most_le {B : Int} (hB : 0 ≤ B) : ∀ {L : List TupV}, (∀ p, p ∈ L → p.st + p.sl ≤ B) → mostT L ≤ B
  | [], _ => hB
  | p :: r, h => by
    have h1 := h p List.mem_cons_self
    have h2 := most_le hB (L := r) fun q hq => h q (List.mem_cons_of_mem _ hq)
    show max _ (mostT r) ≤ B
    omega
/-- What Find answers, of a row that tells of values. -/
theorem find_known {S : List SpotV} {V : List Int} {R : List TupV} (h : KnownP S V R) {t : Int} (t1 : 1 ≤ t) (t2 : t ≤ V.length) : ∃ c, c ∈ S ∧ findX t R = c.x ∧ unV V c.x + 1 ≤ t + mostT R / 2 ∧ t ≤ upV V c.x + mostT R / 2 ∧ unV V c.x + 1 ≤ upV V c.x := by
  have hst := most_steps S 0 (mostT R) (by rw [h.row]; exact Int.le_refl _)
  obtain ⟨c, c1, c2, c3⟩ := close_half h.told.can h.told.first hst t1 t2
  obtain ⟨p1, p2⟩ := h.told.placed c c2
  refine ⟨c, c2, ?_, ?_, ?_, mem_un (h.told.has c c2)⟩
  · unfold findX
    rw [← h.row, spots_row, c1]
  · unfold farS at c3; omega
  · unfold farS at c3; omega

set_option maxRecDepth 100000 in
set_option maxHeartbeats 8000000 in
theorem finds18_walk (D : TupDoes) (w : World) (A : Option Addr) (cap : Nat) (L : List StepV) (B : Option Addr) (cap' : Nat) (L' : List StepV) (t x : Int) (h : Stps w A L) (h' : Stps w B L') (wt : Word t) (wx : I64 x) (hl : L.length ≤ 140737488351232) (hl' : L'.length ≤ 140737488351232) :
    Calls Try.prog 5 #[.slice A L.length cap, .slice B L'.length cap', .int .u64 t, .int .i64 x] w fun e w' => e = .returned (.bool true) ∧ Below w.heap.size w w' := by
  have CA := Lib.hid (alive18_any D w)
  have HI := Lib.hid h
  have HJ := Lib.hid h'
  have HD := Lib.hid D
  clear D h h'
  by_cases h80 : L.length ≤ 80 ∧ L'.length ≤ 80
  · obtain ⟨n1, n2⟩ := h80
    have CP := Lib.hid (fun W hW => play18_any HD.out W A cap L hW n1)
    have CQ := Lib.hid (fun W hW => play18_any HD.out W B cap' L' hW n2)
    have o1 := play_ok HI.out.ok n1
    have o2 := play_ok HJ.out.ok n2
    have k1 := known_of (play_told L).1 o1.2.2.1 (by have := o1.2.2.2.2.2.2; omega)
    have k2 := known_of (play_told L').1 o2.2.2.1 (by have := o2.2.2.2.2.2.2; omega)
    have v1 := o1.2.2.2.2.2.2
    have v2 := o2.2.2.2.2.2.2
    generalize (playS L).1 = S1 at *
    generalize (playS L).2 = V1 at *
    generalize (playS L').1 = S2 at *
    generalize (playS L').2 = V2 at *
    have km := known_of (k1.told.merge k2.told) (fun x hx => by
      rcases List.mem_append.1 hx with e | e
      · exact k1.nu x e
      · exact k2.nu x e) (by rw [List.length_append]; omega)
    have eM : mergeT (rowT 0 S1) (rowT 0 S2) = rowT 0 (mergeS S1 S2) := merge_row _ _
    have p1 : spotsT 0 (rowT 0 S1) = S1 := spots_row _ _
    have pz : spotsT 0 (rowT 0 (mergeS S1 S2)) = mergeS S1 S2 := spots_row _ _
    obtain ⟨V, hV⟩ : ∃ V, V1 ++ V2 = V := ⟨_, rfl⟩
    have hVl : V.length = V1.length + V2.length := by rw [← hV, List.length_append]
    rw [hV] at km
    generalize hM : mergeS S1 S2 = M at *
    have hlm : M.length = S1.length + S2.length := by rw [← hM, merge_len]
    generalize rowT 0 S1 = R1 at *
    generalize rowT 0 S2 = R2 at *
    generalize rowT 0 M = RM at *
    have a1 : R1.length ≤ 100 := by rw [k1.lr]; have := k1.ls; omega
    have a2 : R2.length ≤ 100 := by rw [k2.lr]; have := k2.ls; omega
    have s1 : S1.length ≤ 100 := by have := k1.ls; omega
    have s2 : S2.length ≤ 100 := by have := k2.ls; omega
    have rm : RM.length ≤ 200 := by rw [km.lr]; have := km.ls; omega
    have ml : M.length ≤ 200 := by have := km.ls; omega
    have vl : V.length ≤ 160 := by omega
    have K1 := Lib.hid k1
    have K2 := Lib.hid k2
    have KM := Lib.hid km
    have EM := Lib.hid eM
    have E1 := Lib.hid p1
    have E9 := Lib.hid pz
    have HV := Lib.hid hV
    have HVL := Lib.hid hVl
    have HMM := Lib.hid hM
    clear k1 k2 km eM p1 pz hV hVl hM hlm o1 o2 hl hl' n1 n2
    go_enter Try.func5, Try.ntmps5
    go_wp2_with fail
    refine CA.out.mono ?_
    rintro e w1 ⟨rfl, b1⟩
    have HB1 := Lib.hid b1
    clear b1
    go_wp2_with fail
    refine (CP.out w1 (HI.out.call HB1.out)).mono ?_
    rintro e w2 ⟨vr1, vs1, va1, rfl, hp1, b2⟩
    have HP1 := Lib.hid hp1
    have HB2 := Lib.hid (HB1.out.trans (b2.mono HB1.out.size))
    clear hp1 b2
    go_wp2_with fail
    refine (CQ.out w2 (HJ.out.call HB2.out)).mono ?_
    rintro e w3 ⟨vr2, vs2, va2, rfl, hp2, b3⟩
    have HB3 := Lib.hid (HB2.out.trans (b3.mono HB2.out.size))
    have hq := HP1.out.call b3
    obtain ⟨A1, c1, rfl, hr1⟩ := hq.row.rows K1.out.tu
    obtain ⟨A2, c2, rfl, hs1⟩ := hq.spots.rows K1.out.sp
    obtain ⟨A3, c3, rfl, hn1⟩ := hq.all.rows K1.out.nu
    obtain ⟨A4, c4, rfl, hr2⟩ := hp2.row.rows K2.out.tu
    obtain ⟨A5, c5, rfl, hs2⟩ := hp2.spots.rows K2.out.sp
    obtain ⟨A6, c6, rfl, hn2⟩ := hp2.all.rows K2.out.nu
    have HR1 := Lib.hid hr1
    have HS1 := Lib.hid hs1
    have HN1 := Lib.hid hn1
    have HR2 := Lib.hid hr2
    have HS2 := Lib.hid hs2
    have HN2 := Lib.hid hn2
    have C3 := Lib.hid (Below.refl w3.heap.size w3)
    clear hq hr1 hs1 hn1 hr2 hs2 hn2 hp2 b3 HP1
    go_wp2_with fail
    refine (HD.out.merge w3 A1 A4 c1 c4 R1 R2 HR1.out HR2.out K1.out.good K2.out.good (by rw [K1.out.sum, K2.out.sum]; omega) a1 a2).mono ?_
    rintro e w4 ⟨vm, rfl, h7, b4⟩
    rw [EM.out] at h7
    have C4 := Lib.hid (C3.out.trans (b4.mono C3.out.size))
    obtain ⟨A9, c9, rfl, q7⟩ := h7.rows KM.out.tu
    have HFIT := Lib.hid h7.fit
    have Q4 := Lib.hid q7
    clear h7 b4 q7
    have hO := World.ownsRow_made (base := w4.heap.size) (e := 2) (size := 1) w4 #[] 0 (by simp) (by decide) rfl
    have HE0 : Hid (OwnN (w4.alloc (.cells #[] 2)) w4.heap.size (.slice (some ⟨w4.heap.size, 0, none⟩) 0 0) []) := Lib.hid hO
    have HBE : Hid (Below w4.heap.size w4 (w4.alloc (.cells #[] 2))) := Lib.hid ((Below.refl _ _).alloc (Nat.le_refl _) _)
    have CE := Lib.hid (C4.out.trans (HBE.out.mono C4.out.size))
    clear hO
    go_wp2_with (at_builtin; refine wpList_append_nums rfl (.tmp 54) (.tmp 55) rfl w4.heap.size _ [] A3 c3 V1 rfl HE0.out rfl (HN1.out.call CE.out) ?f1 ?f2 ?_)
    case f1 => simp; omega
    case f2 => exact HBE.out.size
    intro v5 w5 h5 g5
    have h5' : OwnN w5 w4.heap.size v5 V1 := h5
    have B5 := Lib.hid (HBE.out.grown g5 HBE.out.size (fun g h => (HE0.out.lt g h).1))
    have C5 := Lib.hid (C4.out.trans (B5.out.mono C4.out.size))
    obtain ⟨A19, c19, rfl⟩ := h5'.form
    have H5 := Lib.hid h5'
    clear h5 h5' g5
    go_wp2_with (at_builtin; refine wpList_append_nums rfl (.tmp 56) (.tmp 57) rfl w4.heap.size _ V1 A6 c6 V2 rfl H5.out rfl (HN2.out.call C5.out) ?g1 ?g2 ?_)
    case g1 => omega
    case g2 => exact B5.out.size
    intro v6 w6 h6 g6
    rw [HV.out] at h6
    have B6 := Lib.hid (B5.out.grown g6 B5.out.size (fun g h => (H5.out.lt g h).1))
    have C6 := Lib.hid (C4.out.trans (B6.out.mono C4.out.size))
    obtain ⟨A20, c20, rfl, n6⟩ := h6.rows KM.out.nu
    have N6 := Lib.hid n6
    clear h6 g6 n6
    have Q6 := Lib.hid (Q4.out.call B6.out)
    have hrb := rank_between KM.out.told.placed x
    obtain ⟨nl, hnl⟩ : ∃ n, rankLo M x = n := ⟨_, rfl⟩
    obtain ⟨nh, hnh⟩ : ∃ n, rankHi M V.length x = n := ⟨_, rfl⟩
    obtain ⟨nu, hnu⟩ : ∃ n, upV V x = n := ⟨_, rfl⟩
    obtain ⟨fx, hfx⟩ : ∃ n, findX t RM = n := ⟨_, rfl⟩
    have hub := upV_bd V x
    rw [hnl, hnh, hnu] at hrb
    rw [hnu] at hub
    have CR : Hid (∀ W, Tups W A9 RM → Calls Try.prog 22 #[.slice A9 RM.length c9, .int .i64 x] W fun e w' => e = .returned (.tuple #[.int .u64 nl, .int .u64 nh]) ∧ Below W.heap.size W w') := Lib.hid fun W hW => by
      have := HD.out.rank W A9 c9 RM x hW HFIT.out rm KM.out.good wx
      rwa [E9.out, KM.out.sum, hnl, hnh] at this
    have CF : Hid (∀ W, Tups W A9 RM → Calls Try.prog 23 #[.slice A9 RM.length c9, .int .u64 t] W fun e w' => e = .returned (.tuple #[.int .i64 fx, .bool (!RM.isEmpty)]) ∧ Below W.heap.size W w') := Lib.hid fun W hW => by
      have := HD.out.find W A9 c9 RM t hW rm KM.out.good wt
      rwa [hfx] at this
    have CU := Lib.hid (fun (W : World) (hW : Nums W A20 V) => up18_any W A20 c20 V x nu hW (by omega) wx hnu)
    have HFX := Lib.hid hfx
    clear hnl hnh hnu hfx
    go_wp2_with fail
    refine (CR.out w6 Q6.out).mono ?_
    rintro e w7 ⟨rfl, b7⟩
    have C7 := Lib.hid (C6.out.trans (b7.mono C6.out.size))
    have Q7 := Lib.hid (Q6.out.call b7)
    have N7 := Lib.hid (N6.out.call b7)
    clear b7
    go_wp2_with fail
    refine (CU.out w7 N7.out).mono ?_
    rintro e w8 ⟨rfl, e8⟩
    have e8 := e8.symm
    subst e8
    go_wp2_with fail
    refine (CF.out w7 Q7.out).mono ?_
    rintro e w9 ⟨rfl, b9⟩
    have Q9 := Lib.hid (Q7.out.call b9)
    have N9 := Lib.hid (N7.out.call b9)
    have C9 := Lib.hid (C7.out.trans (b9.mono C7.out.size))
    have HF := Lib.hid (HB3.out.trans (C9.out.mono HB3.out.size))
    obtain ⟨r1, r2⟩ := hrb
    have d1 : ¬ nu < nl := by omega
    have d2 : ¬ nh < nu := by omega
    clear b9
    by_cases hv0 : V.length = 0
    · have e1 : RM = [] := List.eq_nil_of_length_eq_zero (by have h1 := KM.out.lr; have h2 := KM.out.ls; omega)
      have e2 : (!RM.isEmpty) = false := by rw [e1]; rfl
      have e3 : decide ((0 : Int) < (V.length : Int)) = false := decide_eq_false (by omega)
      have e4 : ¬ 0 < V.length := by omega
      have e5 : ¬ (0 : Int) < V.length := by omega
      have e6 : V = [] := List.eq_nil_of_length_eq_zero hv0
      rw [e2]
      clear e1 e2 hv0
      go_wp2_with fail
      go_ret
      exact ⟨rfl, HF.out⟩
    · have hmn : M ≠ [] := fun e => hv0 (by rw [(KM.out.told.none_iff).1 e]; rfl)
      have hrn : RM ≠ [] := fun e => hmn (List.eq_nil_of_length_eq_zero (by rw [← KM.out.lr, e]; rfl))
      have e2 : (!RM.isEmpty) = true := by cases RM with
        | nil => exact absurd rfl hrn
        | cons p r => rfl
      have e3 : decide ((0 : Int) < (V.length : Int)) = true := decide_eq_true (by omega)
      have hcv : IntKind.u64.wrap (V.length : Int) = (V.length : Int) := by rw [IntKind.wrap_u64]; omega
      have e4 : 0 < V.length := by omega
      have e5 : (0 : Int) < V.length := by omega
      have e6 : V ≠ [] := fun e => hv0 (by rw [e]; rfl)
      rw [e2]
      clear e2
      by_cases t1 : t < 1
      · go_wp2_with fail
        go_ret
        exact ⟨rfl, HF.out⟩
      · by_cases t2 : (V.length : Int) < t
        · go_wp2_with fail
          go_ret
          exact ⟨rfl, HF.out⟩
        · obtain ⟨c, k1, k2, k3, k4, k5⟩ := find_known KM.out (show 1 ≤ t by omega) (show t ≤ V.length by omega)
          have hcx : fx = c.x := by rw [← HFX.out, k2]
          rw [← hcx] at k3 k4 k5
          have ixx := (KM.out.sp c k1).1
          rw [← hcx] at ixx
          have hub2 := upV_bd V fx
          have hun2 := unV_bd V fx
          obtain ⟨g, hg⟩ : ∃ g, mostT RM = g := ⟨_, rfl⟩
          rw [hg] at k3 k4
          have hrb := fun p hp => row_bd KM.out.told.can (Int.le_refl 0) p (by rw [KM.out.row]; exact hp)
          have HBD := Lib.hid hrb
          have HMB : Hid (∀ k, 0 ≤ mostT (RM.take k) ∧ mostT (RM.take k) ≤ 320) := Lib.hid fun k => ⟨most_pos _, most_le (by decide) fun p hp => by have := HBD.out p (List.mem_of_mem_take hp); omega⟩
          have hg3 : 0 ≤ g ∧ g ≤ 320 := by have := HMB.out RM.length; rw [List.take_length, hg] at this; exact this
          obtain ⟨hg4, hg5⟩ := hg3
          have HG := Lib.hid hg
          obtain ⟨uu, huu⟩ : ∃ u, unV V fx = u := ⟨_, rfl⟩
          obtain ⟨uv, huv⟩ : ∃ u, upV V fx = u := ⟨_, rfl⟩
          have CY := Lib.hid (fun (W : World) (hW : Nums W A20 V) => un18_any W A20 c20 V fx uu hW (by omega) ixx huu)
          have CX := Lib.hid (fun (W : World) (hW : Nums W A20 V) => up18_any W A20 c20 V fx uv hW (by omega) ixx huv)
          rw [huu] at k3 k5 hun2
          rw [huv] at k4 k5 hub2
          have HK := Lib.hid (show uu + 1 ≤ t + g / 2 ∧ t ≤ uv + g / 2 ∧ uu + 1 ≤ uv ∧ 0 ≤ uu ∧ 0 ≤ uv ∧ uu ≤ 160 ∧ uv ≤ 160 ∧ t ≤ 160 from ⟨k3, k4, k5, by omega, by omega, by omega, by omega, by omega⟩)
          have gq : g.tdiv 2 = g / 2 := Int.tdiv_eq_ediv_of_nonneg hg4
          clear k1 k2 k3 k4 k5 hcx ixx hub2 hun2 hg hrb huu huv hrn hmn e6
          go_wp2_with fail
          go_loopw [24, 104] (fun s j wr => ∃ (k : Nat) (m : Int), k ≤ RM.length ∧ j = .int .i64 k ∧ s = .int .u64 m ∧ m = mostT (RM.take k) ∧ Below w9.heap.size w9 wr) (fun _ j _ => RM.length - (intOf j).toNat)
          case atStart => exact ⟨0, 0, Nat.zero_le _, rfl, rfl, rfl, Below.refl _ _⟩
          case round =>
            obtain ⟨k, m, hk, rfl, rfl, hm, hbr⟩ := hrel
            have HM9 := Lib.hid hm
            have HBR := Lib.hid hbr
            have hbrs := hbr.size
            by_cases hlt : k < RM.length
            · have kk : (k : Int) < RM.length := by omega
              have hxk : RM[k]? = some RM[k] := List.getElem?_eq_getElem hlt
              generalize hit : RM[k] = p at *
              obtain ⟨b0, off, rfl, hbl, q0, q1, q2⟩ := (Q9.out.call hbr).at_ k _ hxk
              have hpb := HBD.out p (List.mem_of_getElem? hxk)
              have hvl9 : (V.length : Int) ≤ 160 := by omega
              have HS := Lib.hid (most_step hxk (by omega))
              have hmb := HMB.out k
              rw [← hm] at hmb
              obtain ⟨m0, m1⟩ := hmb
              obtain ⟨px, ps, pl⟩ := p
              simp only at q0 q1 q2 hpb HS
              have j1 : IntKind.u64.wrap (ps + pl) = ps + pl := by rw [IntKind.wrap_u64]; omega
              clear hxk hit hm hpb
              go_wp2_with fail
              go_roundw
              case rel => exact ⟨k + 1, _, by omega, by go_num, rfl, by rw [HS.out, ← HM9.out], hbr.alloc hbrs _⟩
              case measure => simp [intOf]; omega
            · obtain rfl : k = RM.length := by omega
              have hmg : m = g := by rw [hm, List.take_length, HG.out]
              subst hmg
              have kk : ¬ (RM.length : Int) < RM.length := by omega
              have N10 := Lib.hid (N9.out.call hbr)
              have HF10 := Lib.hid (HF.out.trans (hbr.mono HF.out.size))
              have CY4 := Lib.hid (CY.out wr N10.out)
              have CX4 := Lib.hid (CX.out wr N10.out)
              obtain ⟨z1, z2, z3, z4, z5, z6, z7, z8⟩ := HK.out
              have w1' : IntKind.u64.wrap (uu + 1) = uu + 1 := by rw [IntKind.wrap_u64]; omega
              have w2' : IntKind.u64.wrap (t + m / 2) = t + m / 2 := by rw [IntKind.wrap_u64]; omega
              have w3' : IntKind.u64.wrap (uv + m / 2) = uv + m / 2 := by rw [IntKind.wrap_u64]; omega
              have w4' : IntKind.u64.wrap (m / 2) = m / 2 := by rw [IntKind.wrap_u64]; omega
              clear hm
              go_wp2_with fail
              refine CY4.out.mono ?_
              rintro e w11 ⟨rfl, e11⟩
              have e11 := e11.symm
              subst e11
              go_wp2_with fail
              refine CX4.out.mono ?_
              rintro e w12 ⟨rfl, e12⟩
              have e12 := e12.symm
              subst e12
              go_wp2_with fail
              go_ret
              exact ⟨by first | rfl | simp, HF10.out⟩
  · by_cases m1 : L.length ≤ 80
    · have m2 : 80 < L'.length := by omega
      have P1 := Lib.hid (fun W hW => play18_any HD.out W A cap L hW m1)
      have P2 := Lib.hid (fun W => play18_long W B cap' L'.length m2)
      clear m1 m2 hl hl' h80
      go_enter Try.func5, Try.ntmps5
      go_wp2_with fail
      refine CA.out.mono ?_
      rintro e w1 ⟨rfl, b1⟩
      have HB1 := Lib.hid b1
      clear b1
      go_wp2_with fail
      refine (P1.out w1 (HI.out.call HB1.out)).mono ?_
      rintro e w2 ⟨x1, x2, x3, rfl, _, b2⟩
      have HB2 := Lib.hid (HB1.out.trans (b2.mono HB1.out.size))
      clear b2
      go_wp2_with fail
      refine (P2.out w2).mono ?_
      rintro e w3 ⟨rfl, b3⟩
      have HB3 := Lib.hid (HB2.out.trans (b3.mono HB2.out.size))
      clear b3
      go_wp2_with fail
      go_ret
      exact ⟨rfl, HB3.out⟩
    · have m1 : 80 < L.length := by omega
      by_cases m2 : L'.length ≤ 80
      · have P1 := Lib.hid (fun W => play18_long W A cap L.length m1)
        have P2 := Lib.hid (fun W hW => play18_any HD.out W B cap' L' hW m2)
        clear m1 m2 hl hl' h80
        go_enter Try.func5, Try.ntmps5
        go_wp2_with fail
        refine CA.out.mono ?_
        rintro e w1 ⟨rfl, b1⟩
        have HB1 := Lib.hid b1
        clear b1
        go_wp2_with fail
        refine (P1.out w1).mono ?_
        rintro e w2 ⟨rfl, b2⟩
        have HB2 := Lib.hid (HB1.out.trans (b2.mono HB1.out.size))
        clear b2
        go_wp2_with fail
        refine (P2.out w2 (HJ.out.call HB2.out)).mono ?_
        rintro e w3 ⟨y1, y2, y3, rfl, _, b3⟩
        have HB3 := Lib.hid (HB2.out.trans (b3.mono HB2.out.size))
        clear b3
        go_wp2_with fail
        go_ret
        exact ⟨rfl, HB3.out⟩
      · have m2 : 80 < L'.length := by omega
        have P1 := Lib.hid (fun W => play18_long W A cap L.length m1)
        have P2 := Lib.hid (fun W => play18_long W B cap' L'.length m2)
        clear m1 m2 hl hl' h80
        go_enter Try.func5, Try.ntmps5
        go_wp2_with fail
        refine CA.out.mono ?_
        rintro e w1 ⟨rfl, b1⟩
        have HB1 := Lib.hid b1
        clear b1
        go_wp2_with fail
        refine (P1.out w1).mono ?_
        rintro e w2 ⟨rfl, b2⟩
        have HB2 := Lib.hid (HB1.out.trans (b2.mono HB1.out.size))
        clear b2
        go_wp2_with fail
        refine (P2.out w2).mono ?_
        rintro e w3 ⟨rfl, b3⟩
        have HB3 := Lib.hid (HB2.out.trans (b3.mono HB2.out.size))
        clear b3
        go_wp2_with fail
        go_ret
        exact ⟨rfl, HB3.out⟩
end Go.Proofs.Ytjmkkglmckiknaa
