/-
  The law TuplesPlaces, from the contracts.
-/
import Derived.Test.YtjmkkglmckiknaaTupRows
import Derived.Test.YtjmkkglmckiknaaTupJ
namespace Go.Proofs.Ytjmkkglmckiknaa
set_option linter.unusedVariables false
set_option linter.unusedSimpArgs false
open Go.RowKit

/-- What is known of steps that were played. -/
structure KnownP (S : List SpotV) (V : List Int) (R : List TupV) : Prop where
  told : ToldS V S
  row : rowT 0 S = R
  sp : ∀ s, s ∈ S → okSp s
  tu : ∀ p, p ∈ R → okTu p
  nu : ∀ x, x ∈ V → I64 x
  good : GoodT R
  sum : sumT R = V.length
  ls : S.length ≤ V.length
  lr : R.length = S.length
theorem told_len {V : List Int} {S : List SpotV} (h : ToldS V S) : S.length ≤ V.length := by
  have : ∀ (S : List SpotV) (a n : Int), SpotsP a n S → (S.length : Int) ≤ n - a := by
    intro S
    induction S with
    | nil => intro a n h; have h : a = n := h; simp; omega
    | cons s r ih =>
      intro a n h
      have h1 := h.1
      have h2 := ih s.lo n h.2.2.2.2
      rw [List.length_cons]; omega
  have := this S 0 V.length h.can
  omega
theorem known_of {V : List Int} {S : List SpotV} (h : ToldS V S) (hv : ∀ x, x ∈ V → I64 x) (hl : V.length ≤ 400) : KnownP S V (rowT 0 S) := by
  refine ⟨h, rfl, fun s hs => ?_, fun p hp => ?_, hv, h.good (by omega), sum_told h, told_len h, row_len _ _⟩
  · have hb := h.can.mem s hs
    exact ⟨hv _ (h.has s hs), ⟨by omega, by omega⟩, by omega, by omega⟩
  · have hb := row_bd h.can (Int.le_refl 0) p hp
    exact ⟨hv _ (h.x_mem p hp), ⟨by omega, by omega⟩, by omega, by omega⟩

set_option maxRecDepth 100000 in
set_option maxHeartbeats 8000000 in
theorem places18_walk (D : TupDoes) (w : World) (A : Option Addr) (cap : Nat) (L : List StepV) (B : Option Addr) (cap' : Nat) (L' : List StepV) (lim : Int) (h : Stps w A L) (h' : Stps w B L') (wl : Word lim) (hl : L.length ≤ 140737488351232) (hl' : L'.length ≤ 140737488351232) :
    Calls Try.prog 4 #[.slice A L.length cap, .slice B L'.length cap', .int .u64 lim] w fun e w' => e = .returned (.bool true) ∧ Below w.heap.size w w' := by
  have CA := Lib.hid (alive18_any D w)
  have HI := Lib.hid h
  have HJ := Lib.hid h'
  have HD := Lib.hid D
  have HWL := Lib.hid wl
  clear D h h' wl
  by_cases h80 : L.length ≤ 80 ∧ L'.length ≤ 80
  · obtain ⟨n1, n2⟩ := h80
    have CP := Lib.hid (fun W hW => play18_any HD.out W A cap L hW n1)
    have CQ := Lib.hid (fun W hW => play18_any HD.out W B cap' L' hW n2)
    have o1 := play_ok HI.out.ok n1
    have o2 := play_ok HJ.out.ok n2
    have k1 := known_of (play_told L).1 o1.2.2.1 (by have := o1.2.2.2.2.2.2; omega)
    have k2 := known_of (play_told L').1 o2.2.2.1 (by have := o2.2.2.2.2.2.2; omega)
    have v1 := o1.2.2.2.2.2.2
    have v2 := o2.2.2.2.2.2.2
    generalize (playS L).1 = S1 at *
    generalize (playS L).2 = V1 at *
    generalize (playS L').1 = S2 at *
    generalize (playS L').2 = V2 at *
    have km := known_of (k1.told.merge k2.told) (fun x hx => by
      rcases List.mem_append.1 hx with e | e
      · exact k1.nu x e
      · exact k2.nu x e) (by rw [List.length_append]; omega)
    have kz := known_of ((k1.told.merge k2.told).sqz lim) km.nu (by rw [List.length_append]; omega)
    have eM : mergeT (rowT 0 S1) (rowT 0 S2) = rowT 0 (mergeS S1 S2) := merge_row _ _
    have eZ : sqzT lim (rowT 0 (mergeS S1 S2)) = rowT 0 (sqzS lim (mergeS S1 S2)) := sqz_row _ _
    have p1 : spotsT 0 (rowT 0 S1) = S1 := spots_row _ _
    have pz : spotsT 0 (rowT 0 (sqzS lim (mergeS S1 S2))) = sqzS lim (mergeS S1 S2) := spots_row _ _
    obtain ⟨V, hV⟩ : ∃ V, V1 ++ V2 = V := ⟨_, rfl⟩
    have hVl : V.length = V1.length + V2.length := by rw [← hV, List.length_append]
    rw [hV] at km kz
    generalize hM : mergeS S1 S2 = M at *
    generalize hZ : sqzS lim M = Z at *
    have hlm : M.length = S1.length + S2.length := by rw [← hM, merge_len]
    generalize rowT 0 S1 = R1 at *
    generalize rowT 0 S2 = R2 at *
    generalize rowT 0 M = RM at *
    generalize rowT 0 Z = RZ at *
    have a1 : R1.length ≤ 100 := by rw [k1.lr]; have := k1.ls; omega
    have a2 : R2.length ≤ 100 := by rw [k2.lr]; have := k2.ls; omega
    have s1 : S1.length ≤ 100 := by have := k1.ls; omega
    have s2 : S2.length ≤ 100 := by have := k2.ls; omega
    have rm : RM.length ≤ 200 := by rw [km.lr]; have := km.ls; omega
    have rz : RZ.length ≤ 200 := by rw [kz.lr]; have := kz.ls; omega
    have zl : Z.length ≤ 200 := by have := kz.ls; omega
    have ml : M.length ≤ 200 := by have := km.ls; omega
    have vl : V.length ≤ 160 := by omega
    have K1 := Lib.hid k1
    have K2 := Lib.hid k2
    have KM := Lib.hid km
    have KZ := Lib.hid kz
    have EM := Lib.hid eM
    have EZ := Lib.hid eZ
    have E1 := Lib.hid p1
    have E9 := Lib.hid pz
    have HV := Lib.hid hV
    have HVL := Lib.hid hVl
    have HMM := Lib.hid hM
    clear k1 k2 km kz eM eZ p1 pz hV hVl hM hZ hlm o1 o2 hl hl' n1 n2
    go_enter Try.func4, Try.ntmps4
    go_wp2_with fail
    refine CA.out.mono ?_
    rintro e w1 ⟨rfl, b1⟩
    have HB1 := Lib.hid b1
    clear b1
    go_wp2_with fail
    refine (CP.out w1 (HI.out.call HB1.out)).mono ?_
    rintro e w2 ⟨vr1, vs1, va1, rfl, hp1, b2⟩
    have HP1 := Lib.hid hp1
    have HB2 := Lib.hid (HB1.out.trans (b2.mono HB1.out.size))
    clear hp1 b2
    go_wp2_with fail
    refine (CQ.out w2 (HJ.out.call HB2.out)).mono ?_
    rintro e w3 ⟨vr2, vs2, va2, rfl, hp2, b3⟩
    have HB3 := Lib.hid (HB2.out.trans (b3.mono HB2.out.size))
    have hq := HP1.out.call b3
    obtain ⟨A1, c1, rfl, hr1⟩ := hq.row.rows K1.out.tu
    obtain ⟨A2, c2, rfl, hs1⟩ := hq.spots.rows K1.out.sp
    obtain ⟨A3, c3, rfl, hn1⟩ := hq.all.rows K1.out.nu
    obtain ⟨A4, c4, rfl, hr2⟩ := hp2.row.rows K2.out.tu
    obtain ⟨A5, c5, rfl, hs2⟩ := hp2.spots.rows K2.out.sp
    obtain ⟨A6, c6, rfl, hn2⟩ := hp2.all.rows K2.out.nu
    have HR1 := Lib.hid hr1
    have HS1 := Lib.hid hs1
    have HN1 := Lib.hid hn1
    have HR2 := Lib.hid hr2
    have HS2 := Lib.hid hs2
    have HN2 := Lib.hid hn2
    have C3 := Lib.hid (Below.refl w3.heap.size w3)
    clear hq hr1 hs1 hn1 hr2 hs2 hn2 hp2 b3 HP1
    go_wp2_with fail
    refine (plain18_any w3 A1 c1 R1 HR1.out (by omega)).mono ?_
    rintro e w4 ⟨v4, rfl, h4, b4⟩
    have C4 := Lib.hid (C3.out.trans (b4.mono C3.out.size))
    obtain ⟨A7, c7, rfl, q4⟩ := h4.rows K1.out.tu
    have Q4 := Lib.hid q4
    clear h4 b4 q4
    go_wp2_with fail
    refine (rspots_any w4 A7 c7 R1 Q4.out (by omega) K1.out.good).mono ?_
    rintro e w5 ⟨v5, rfl, h5, b5⟩
    rw [E1.out] at h5
    have C5 := Lib.hid (C4.out.trans (b5.mono C4.out.size))
    obtain ⟨A8, c8, rfl, q5⟩ := h5.rows K1.out.sp
    have Q5 := Lib.hid q5
    clear h5 b5 q5
    go_wp2_with fail
    refine (placed18_any w5 A8 A3 c8 c3 S1 V1 Q5.out (HN1.out.call C5.out) (by omega) (by omega) K1.out.told).mono ?_
    rintro e w6 ⟨rfl, b6⟩
    have C6 := Lib.hid (C5.out.trans (b6.mono C5.out.size))
    clear b6
    go_wp2_with fail
    refine (HD.out.merge w6 A1 A4 c1 c4 R1 R2 (HR1.out.call C6.out) (HR2.out.call C6.out) K1.out.good K2.out.good (by rw [K1.out.sum, K2.out.sum]; omega) a1 a2).mono ?_
    rintro e w7 ⟨vm, rfl, h7, b7⟩
    rw [EM.out] at h7
    have C7 := Lib.hid (C6.out.trans (b7.mono C6.out.size))
    have M7 := Lib.hid h7
    have D7 := Lib.hid (Below.refl w7.heap.size w7)
    have G7 := Lib.hid b7.size
    obtain ⟨A9, c9, rfl, q7⟩ := h7.rows KM.out.tu
    have Q7 := Lib.hid q7
    clear h7 b7 q7
    go_wp2_with fail
    refine (plain18_any w7 A9 c9 RM Q7.out (by omega)).mono ?_
    rintro e w8 ⟨v8, rfl, h8, b8⟩
    have C8 := Lib.hid (C7.out.trans (b8.mono C7.out.size))
    have D8 := Lib.hid (D7.out.trans (b8.mono D7.out.size))
    obtain ⟨A10, c10, rfl, q8⟩ := h8.rows KM.out.tu
    have Q8 := Lib.hid q8
    clear h8 b8 q8
    go_wp2_with fail
    refine (rmerge18_any w8 A2 A5 c2 c5 S1 S2 V1.length V2.length (HS1.out.call C8.out) (HS2.out.call C8.out) s1 s2 K1.out.told.can K2.out.told.can (by omega) (by omega)).mono ?_
    rintro e w9 ⟨v9, rfl, h9, b9⟩
    rw [HMM.out] at h9
    have C9 := Lib.hid (C8.out.trans (b9.mono C8.out.size))
    have D9 := Lib.hid (D8.out.trans (b9.mono D8.out.size))
    have Q89 := Lib.hid (Q8.out.call b9)
    obtain ⟨A11, c11, rfl, q9⟩ := h9.rows KM.out.sp
    have Q9 := Lib.hid q9
    clear h9 b9 q9
    go_wp2_with fail
    refine (rrow18_any w9 A11 c11 M V.length Q9.out ml KM.out.told.can (by omega)).mono ?_
    rintro e w10 ⟨v10, rfl, h10, b10⟩
    rw [KM.out.row] at h10
    have C10 := Lib.hid (C9.out.trans (b10.mono C9.out.size))
    have D10 := Lib.hid (D9.out.trans (b10.mono D9.out.size))
    have Q810 := Lib.hid (Q89.out.call b10)
    obtain ⟨A12, c12, rfl, q10⟩ := h10.rows KM.out.tu
    have Q10 := Lib.hid q10
    clear h10 b10 q10
    go_wp2_with fail
    refine (same18_any w10 A10 A12 c10 c12 RM RM true (decide_eq_true rfl) Q810.out Q10.out (by omega) (by omega)).mono ?_
    rintro e w11 ⟨rfl, b11⟩
    have C11 := Lib.hid (C10.out.trans (b11.mono C10.out.size))
    have D11 := Lib.hid (D10.out.trans (b11.mono D10.out.size))
    clear b11
    go_wp2_with fail
    refine (plain18_any w11 A1 c1 R1 (HR1.out.call C11.out) (by omega)).mono ?_
    rintro e w12 ⟨v12, rfl, h12, b12⟩
    have C12 := Lib.hid (C11.out.trans (b12.mono C11.out.size))
    have D12 := Lib.hid (D11.out.trans (b12.mono D11.out.size))
    obtain ⟨X12, y12, rfl, q12⟩ := h12.rows K1.out.tu
    have Q12 := Lib.hid q12
    clear h12 b12 q12
    go_wp2_with fail
    refine (rrow18_any w12 A2 c2 S1 _ (HS1.out.call C12.out) (by omega) K1.out.told.can (by omega)).mono ?_
    rintro e w13 ⟨v13, rfl, h13, b13⟩
    rw [K1.out.row] at h13
    have C13 := Lib.hid (C12.out.trans (b13.mono C12.out.size))
    have D13 := Lib.hid (D12.out.trans (b13.mono D12.out.size))
    have Z12 := Lib.hid (Q12.out.call b13)
    obtain ⟨X13, y13, rfl, q13⟩ := h13.rows K1.out.tu
    have Q13 := Lib.hid q13
    clear h13 b13 q13
    go_wp2_with fail
    refine (same18_any w13 X12 X13 y12 y13 R1 R1 true (decide_eq_true rfl) Z12.out Q13.out (by omega) (by omega)).mono ?_
    rintro e w14 ⟨rfl, b14⟩
    have C14 := Lib.hid (C13.out.trans (b14.mono C13.out.size))
    have D14 := Lib.hid (D13.out.trans (b14.mono D13.out.size))
    clear b14
    go_wp2_with fail
    refine (plain18_any w14 A4 c4 R2 (HR2.out.call C14.out) (by omega)).mono ?_
    rintro e w15 ⟨v15, rfl, h15, b15⟩
    have C15 := Lib.hid (C14.out.trans (b15.mono C14.out.size))
    have D15 := Lib.hid (D14.out.trans (b15.mono D14.out.size))
    obtain ⟨X15, y15, rfl, q15⟩ := h15.rows K2.out.tu
    have Q15 := Lib.hid q15
    clear h15 b15 q15
    go_wp2_with fail
    refine (rrow18_any w15 A5 c5 S2 _ (HS2.out.call C15.out) (by omega) K2.out.told.can (by omega)).mono ?_
    rintro e w16 ⟨v16, rfl, h16, b16⟩
    rw [K2.out.row] at h16
    have C16 := Lib.hid (C15.out.trans (b16.mono C15.out.size))
    have D16 := Lib.hid (D15.out.trans (b16.mono D15.out.size))
    have Z15 := Lib.hid (Q15.out.call b16)
    obtain ⟨X16, y16, rfl, q16⟩ := h16.rows K2.out.tu
    have Q16 := Lib.hid q16
    clear h16 b16 q16
    go_wp2_with fail
    refine (same18_any w16 X15 X16 y15 y16 R2 R2 true (decide_eq_true rfl) Z15.out Q16.out (by omega) (by omega)).mono ?_
    rintro e w17 ⟨rfl, b17⟩
    have C17 := Lib.hid (C16.out.trans (b17.mono C16.out.size))
    have D17 := Lib.hid (D16.out.trans (b17.mono D16.out.size))
    clear b17
    go_wp2_with fail
    have HOM := Lib.hid (M7.out.call D17.out)
    have HG6 := Lib.hid (Nat.le_trans G7.out D17.out.size)
    refine (HD.out.squeeze w17 w6.heap.size _ RM lim HG6.out HOM.out KM.out.tu KM.out.good rm HWL.out).mono ?_
    rintro e w18 ⟨vz, rfl, hz, hg, _⟩
    rw [EZ.out] at hz
    have C18 := Lib.hid (C17.out.grown hg C17.out.size (fun g h => by have h1 := (HOM.out.lt g h).1; have h2 := C6.out.size; omega))
    obtain ⟨Az, cz, rfl, hz2⟩ := hz.rows KZ.out.tu
    have HZ := Lib.hid hz2
    clear hz hg hz2
    have hO := World.ownsRow_made (base := w18.heap.size) (e := 2) (size := 1) w18 #[] 0 (by simp) (by decide) rfl
    have HE0 : Hid (OwnN (w18.alloc (.cells #[] 2)) w18.heap.size (.slice (some ⟨w18.heap.size, 0, none⟩) 0 0) []) := Lib.hid hO
    have HBE : Hid (Below w18.heap.size w18 (w18.alloc (.cells #[] 2))) := Lib.hid ((Below.refl _ _).alloc (Nat.le_refl _) _)
    have CE := Lib.hid (C18.out.trans (HBE.out.mono C18.out.size))
    clear hO
    go_wp2_with (at_builtin; refine wpList_append_nums rfl (.tmp 77) (.tmp 78) rfl w18.heap.size _ [] A3 c3 V1 rfl HE0.out rfl (HN1.out.call CE.out) ?f1 ?f2 ?_)
    case f1 => simp; omega
    case f2 => exact HBE.out.size
    intro v19 w19 h19 g19
    have h19' : OwnN w19 w18.heap.size v19 V1 := h19
    have B19 := Lib.hid (HBE.out.grown g19 HBE.out.size (fun g h => (HE0.out.lt g h).1))
    have C19 := Lib.hid (C18.out.trans (B19.out.mono C18.out.size))
    obtain ⟨A19, c19, rfl⟩ := h19'.form
    have H19 := Lib.hid h19'
    clear h19 h19' g19
    go_wp2_with (at_builtin; refine wpList_append_nums rfl (.tmp 79) (.tmp 80) rfl w18.heap.size _ V1 A6 c6 V2 rfl H19.out rfl (HN2.out.call C19.out) ?g1 ?g2 ?_)
    case g1 => omega
    case g2 => exact B19.out.size
    intro v20 w20 h20 g20
    rw [HV.out] at h20
    have B20 := Lib.hid (B19.out.grown g20 B19.out.size (fun g h => (H19.out.lt g h).1))
    have C20 := Lib.hid (C18.out.trans (B20.out.mono C18.out.size))
    obtain ⟨A20, c20, rfl, n20⟩ := h20.rows KM.out.nu
    have N20 := Lib.hid n20
    clear h20 g20 n20
    have HZ20 := Lib.hid (HZ.out.call B20.out)
    go_wp2_with fail
    refine (plain18_any w20 Az cz RZ HZ20.out (by omega)).mono ?_
    rintro e w21 ⟨v21, rfl, h21, b21⟩
    have C21 := Lib.hid (C20.out.trans (b21.mono C20.out.size))
    have HZ21 := Lib.hid (HZ20.out.call b21)
    have N21 := Lib.hid (N20.out.call b21)
    obtain ⟨A21, c21, rfl, q21⟩ := h21.rows KZ.out.tu
    have Q21 := Lib.hid q21
    clear h21 b21 q21
    go_wp2_with fail
    refine (rspots_any w21 A21 c21 RZ Q21.out (by omega) KZ.out.good).mono ?_
    rintro e w22 ⟨v22, rfl, h22, b22⟩
    rw [E9.out] at h22
    have C22 := Lib.hid (C21.out.trans (b22.mono C21.out.size))
    have HZ22 := Lib.hid (HZ21.out.call b22)
    have N22 := Lib.hid (N21.out.call b22)
    obtain ⟨A22, c22, rfl, q22⟩ := h22.rows KZ.out.sp
    have Q22 := Lib.hid q22
    have HF := Lib.hid (HB3.out.trans (C22.out.mono HB3.out.size))
    clear h22 b22 q22
    by_cases hv0 : V.length = 0
    · have g1 : ((V.length : Int) == 0) = true := by rw [hv0]; rfl
      have g2 : ((RZ.length : Int) == 0) = true := by
        have h1 := KZ.out.lr
        have h2 := KZ.out.ls
        rw [beq_iff_eq]; omega
      clear hv0
      go_wp2_with fail
      go_ret
      exact ⟨by first | rfl | simp, HF.out⟩
    · have g1 : ((V.length : Int) == 0) = false := by rw [beq_eq_false_iff_ne]; omega
      have hzn : Z ≠ [] := fun e => hv0 (by rw [(KZ.out.told.none_iff).1 e]; rfl)
      have hz0 : Z.length ≠ 0 := fun e => hzn (List.eq_nil_of_length_eq_zero e)
      obtain ⟨zt, ht1, ht2⟩ := tot_at Z hz0
      rw [KZ.out.told.can.tot hzn] at ht2
      obtain ⟨zf, hf1⟩ : ∃ z, Z[0]? = some z := ⟨Z[0]'(by omega), List.getElem?_eq_getElem _⟩
      obtain ⟨hf2, hf3⟩ := KZ.out.told.first zf (by rw [List.head?_eq_getElem?]; exact hf1)
      have u1 : unV V zf.x = 0 := by
        have h1 := (KZ.out.told.placed zf (List.mem_of_getElem? hf1)).2
        have h2 := unV_bd V zf.x
        omega
      have u2 : upV V zt.x = V.length := by
        have h1 := (KZ.out.told.placed zt (List.mem_of_getElem? ht1)).1
        have h2 := upV_bd V zt.x
        omega
      have i1 := (KZ.out.sp zf (List.mem_of_getElem? hf1)).1
      have i2 := (KZ.out.sp zt (List.mem_of_getElem? ht1)).1
      have CU := Lib.hid (fun (W : World) (hW : Nums W A20 V) => un18_any W A20 c20 V zf.x 0 hW (by omega) i1 u1)
      have CV := Lib.hid (fun (W : World) (hW : Nums W A20 V) => up18_any W A20 c20 V zt.x V.length hW (by omega) i2 u2)
      obtain ⟨fx, fl, fh⟩ := zf
      obtain ⟨tx, tl, th⟩ := zt
      simp only at hf2 hf3 ht2 CU CV
      subst hf2 hf3
      have hcv : IntKind.u64.wrap (V.length : Int) = (V.length : Int) := by rw [IntKind.wrap_u64]; omega
      have HT1 := Lib.hid ht1
      have HF1 := Lib.hid hf1
      have HT2 := Lib.hid ht2
      clear ht1 hf1 ht2 u1 u2 i1 i2 hzn
      go_wp2_with fail
      refine (HD.out.good w22 Az cz RZ true HZ22.out rz ⟨fun _ => KZ.out.good, fun _ => rfl⟩).mono ?_
      rintro e w23 ⟨rfl, b23⟩
      have HF23 := Lib.hid (HF.out.trans (b23.mono HF.out.size))
      have N23 := Lib.hid (N22.out.call b23)
      have Q23 := Lib.hid (Q22.out.call b23)
      clear b23
      go_wp2_with fail
      refine (placed18_any w23 A22 A20 c22 c20 Z V Q23.out N23.out zl (by omega) KZ.out.told).mono ?_
      rintro e w24 ⟨rfl, b24⟩
      have HF24 := Lib.hid (HF23.out.trans (b24.mono HF23.out.size))
      have N24 := Lib.hid (N23.out.call b24)
      have Q24 := Lib.hid (Q23.out.call b24)
      obtain ⟨b0, off, rfl, hbl, d0, d1, d2⟩ := Q24.out.at_ 0 _ HF1.out
      obtain ⟨b9, o9, e9, hbl9, m0, m1, m2⟩ := Q24.out.at_ (Z.length - 1) _ HT1.out
      obtain ⟨rfl, rfl⟩ : b0 = b9 ∧ off = o9 := by
        have := Option.some.inj e9
        exact ⟨(Addr.mk.inj this).1, (Addr.mk.inj this).2.1⟩
      simp only [Nat.zero_mul, Nat.add_zero] at d0 d1 d2
      simp only at m0 m1 m2
      have j1 : (0 : Int) < Z.length := by omega
      have j2 : IntKind.i64.wrap ((Z.length : Int) - 1) = ((Z.length - 1 : Nat) : Int) := by rw [IntKind.wrap_i64]; omega
      have j3 : ((Z.length - 1 : Nat) : Int) < Z.length := by omega
      have j4 : ((tl : Int) == (V.length : Int)) = true := by rw [HT2.out]; simp
      have CU4 := Lib.hid (CU.out w24 N24.out)
      have CV4 := Lib.hid (CV.out w24 N24.out)
      clear b24 e9
      go_wp2_with fail
      refine CU4.out.mono ?_
      rintro e w25 ⟨rfl, rfl⟩
      go_wp2_with fail
      refine CV4.out.mono ?_
      rintro e w26 ⟨rfl, rfl⟩
      go_wp2_with fail
      go_ret
      exact ⟨by first | rfl | simp, HF24.out⟩
  · by_cases m1 : L.length ≤ 80
    · have m2 : 80 < L'.length := by omega
      have P1 := Lib.hid (fun W hW => play18_any HD.out W A cap L hW m1)
      have P2 := Lib.hid (fun W => play18_long W B cap' L'.length m2)
      clear m1 m2 hl hl' h80
      go_enter Try.func4, Try.ntmps4
      go_wp2_with fail
      refine CA.out.mono ?_
      rintro e w1 ⟨rfl, b1⟩
      have HB1 := Lib.hid b1
      clear b1
      go_wp2_with fail
      refine (P1.out w1 (HI.out.call HB1.out)).mono ?_
      rintro e w2 ⟨x1, x2, x3, rfl, _, b2⟩
      have HB2 := Lib.hid (HB1.out.trans (b2.mono HB1.out.size))
      clear b2
      go_wp2_with fail
      refine (P2.out w2).mono ?_
      rintro e w3 ⟨rfl, b3⟩
      have HB3 := Lib.hid (HB2.out.trans (b3.mono HB2.out.size))
      clear b3
      go_wp2_with fail
      go_ret
      exact ⟨rfl, HB3.out⟩
    · have m1 : 80 < L.length := by omega
      by_cases m2 : L'.length ≤ 80
      · have P1 := Lib.hid (fun W => play18_long W A cap L.length m1)
        have P2 := Lib.hid (fun W hW => play18_any HD.out W B cap' L' hW m2)
        clear m1 m2 hl hl' h80
        go_enter Try.func4, Try.ntmps4
        go_wp2_with fail
        refine CA.out.mono ?_
        rintro e w1 ⟨rfl, b1⟩
        have HB1 := Lib.hid b1
        clear b1
        go_wp2_with fail
        refine (P1.out w1).mono ?_
        rintro e w2 ⟨rfl, b2⟩
        have HB2 := Lib.hid (HB1.out.trans (b2.mono HB1.out.size))
        clear b2
        go_wp2_with fail
        refine (P2.out w2 (HJ.out.call HB2.out)).mono ?_
        rintro e w3 ⟨y1, y2, y3, rfl, _, b3⟩
        have HB3 := Lib.hid (HB2.out.trans (b3.mono HB2.out.size))
        clear b3
        go_wp2_with fail
        go_ret
        exact ⟨rfl, HB3.out⟩
      · have m2 : 80 < L'.length := by omega
        have P1 := Lib.hid (fun W => play18_long W A cap L.length m1)
        have P2 := Lib.hid (fun W => play18_long W B cap' L'.length m2)
        clear m1 m2 hl hl' h80
        go_enter Try.func4, Try.ntmps4
        go_wp2_with fail
        refine CA.out.mono ?_
        rintro e w1 ⟨rfl, b1⟩
        have HB1 := Lib.hid b1
        clear b1
        go_wp2_with fail
        refine (P1.out w1).mono ?_
        rintro e w2 ⟨rfl, b2⟩
        have HB2 := Lib.hid (HB1.out.trans (b2.mono HB1.out.size))
        clear b2
        go_wp2_with fail
        refine (P2.out w2).mono ?_
        rintro e w3 ⟨rfl, b3⟩
        have HB3 := Lib.hid (HB2.out.trans (b3.mono HB2.out.size))
        clear b3
        go_wp2_with fail
        go_ret
        exact ⟨rfl, HB3.out⟩
end Go.Proofs.Ytjmkkglmckiknaa
