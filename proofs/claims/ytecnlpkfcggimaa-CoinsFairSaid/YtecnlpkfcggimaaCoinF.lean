/-
  The law CoinsFair, from the contracts.
-/
import Derived.Test.YtecnlpkfcggimaaCoinC
namespace Go.Proofs.Ytecnlpkfcggimaa
set_option linter.unusedVariables false
set_option linter.unusedSimpArgs false
open Go.RowKit

theorem OwnN.full {w : World} {base : Nat} {v : Value} {L : List Int} (h : OwnN w base v L) (hok : ∀ p, p ∈ L → I64 p) : ∃ A cap, v = .slice A L.length cap ∧ Nums w A L ∧ L.length ≤ cap := by
  rcases h.either hok with ⟨rfl, rfl⟩ | ⟨g, off, cap, rfl, hN, _, _, hc⟩
  · exact ⟨_, _, rfl, Nums.nil _ _, Nat.le_refl _⟩
  · exact ⟨_, _, rfl, hN, hc⟩
theorem halv_sub : ∀ (b : Bool) (L : List Int), (halvB b L).Sublist L
  | b, [] => by cases b <;> exact List.Sublist.refl _
  | false, x :: r => (halv_sub true r).cons_cons x
  | true, x :: r => (halv_sub false r).cons x

set_option maxRecDepth 100000 in
set_option maxHeartbeats 2000000 in
theorem fair20_walk {Tp : TapT} (D : TapDoes Tp) (H : RowDoes) (w : World) (A : Option Addr) (cap : Nat) (L : List Int) (x : Int) (h : Nums w A L) (hl : L.length ≤ 140737488351232) (hx : I64 x) :
    Calls Try.prog 5 #[.slice A L.length cap, .int .i64 x] w fun e w' => e = .returned (.bool true) ∧ Below w.heap.size w w' := by
  have CA := Lib.hid (alive20_any D H w)
  have HI := Lib.hid h
  have HH := Lib.hid H
  have HX := Lib.hid hx
  obtain ⟨x0, x1⟩ := hx
  clear D H h
  obtain ⟨n, hn⟩ : ∃ n, L.length = n := ⟨_, rfl⟩
  rw [hn] at hl ⊢
  have HN := Lib.hid hn
  clear hn
  by_cases h100 : (100 : Int) < n
  · go_enter Try.func5, Try.ntmps5
    go_wp2_with fail
    refine CA.out.mono ?_
    rintro e w1 ⟨rfl, b1⟩
    go_wp2_with fail
    go_ret
    exact ⟨rfl, b1⟩
  by_cases hpar : ¬ (n % 2 = 0)
  · have t1 : (n : Int).tmod 2 = 1 := by rw [Int.tmod_eq_emod_of_nonneg (by omega)]; omega
    have t2 : (n : Int) % 2 = 1 := by omega
    go_enter Try.func5, Try.ntmps5
    go_wp2_with fail
    refine CA.out.mono ?_
    rintro e w1 ⟨rfl, b1⟩
    go_wp2_with fail
    go_ret
    exact ⟨rfl, b1⟩
  have hpar0 : n % 2 = 0 := by omega
  have t1 : (n : Int).tmod 2 = 0 := by rw [Int.tmod_eq_emod_of_nonneg (by omega)]; omega
  have t2 : (n : Int) % 2 = 0 := by omega
  have hn1 : n ≤ 100 := by omega
  have CS := Lib.hid (fun W hW => rsorted20_any W A n cap L hW HN.out (by omega))
  obtain ⟨S, hS⟩ : ∃ S, sortI L = S := ⟨_, rfl⟩
  have hso : S.Pairwise fun a b => a ≤ b := by rw [← hS]; exact sortI_sorted20 L
  have hSl : S.length = n := by rw [← hS, sortI_len]; exact HN.out
  have hSo : ∀ p, p ∈ S → I64 p := fun p hp => by rw [← hS] at hp; exact HI.out.ok p (sortI_mem.1 hp)
  have hup : upV S x = upV L x := by rw [← hS]; exact upV_perm (sortI_perm L) x
  have hfair := halv_up x hso
  have hboth := halv_both x S
  have hbd := upV_bd S x
  obtain ⟨F, hF⟩ : ∃ F, halvB false S = F := ⟨_, rfl⟩
  obtain ⟨G, hG⟩ : ∃ G, halvB true S = G := ⟨_, rfl⟩
  obtain ⟨m, hm⟩ : ∃ m, upV S x = m := ⟨_, rfl⟩
  obtain ⟨p, hp⟩ : ∃ p, upV F x = p := ⟨_, rfl⟩
  obtain ⟨q, hq⟩ : ∃ q, upV G x = q := ⟨_, rfl⟩
  have hbf := upV_bd F x
  have hbg := upV_bd G x
  rw [hF, hG, hm, hp, hq] at hfair
  rw [hF, hG, hm, hp, hq] at hboth
  rw [hm, hSl] at hbd
  rw [hp] at hbf
  rw [hq] at hbg
  obtain ⟨hf1, hf2⟩ := hfair
  have HSO := Lib.hid hso
  have HSI := Lib.hid hSo
  have HSL := Lib.hid hSl
  have HM := Lib.hid hm
  have HP := Lib.hid hp
  have HQ := Lib.hid hq
  have HF := Lib.hid hF
  have HG := Lib.hid hG
  have hFl : F.length ≤ 100 := by rw [← hF, halv_len]; split <;> omega
  have hGl : G.length ≤ 100 := by rw [← hG, halv_len]; split <;> omega
  have CR := Lib.hid (fun W hW => rup20_any W A n cap L x m hW HN.out (by omega) HX.out (by rw [← hup, hm]))
  have CU := Lib.hid (fun W (B : Option Addr) c (hW : Nums W B S) (hc : n ≤ c) => HH.out.up W B n c S x m hW HSO.out HSL.out hc (by omega) HX.out HM.out)
  have CH := Lib.hid (fun W (B : Option Addr) c b (hW : Nums W B S) => HH.out.halve W B n c S b hW HSL.out (by omega))
  have CF := Lib.hid (fun W (B : Option Addr) c (hW : Nums W B F) (hc : F.length ≤ c) => HH.out.up W B F.length c F x p hW (by rw [← HF.out]; exact HSO.out.sublist (halv_sub _ _)) rfl hc (by omega) HX.out HP.out)
  have CG := Lib.hid (fun W (B : Option Addr) c (hW : Nums W B G) (hc : G.length ≤ c) => HH.out.up W B G.length c G x q hW (by rw [← HG.out]; exact HSO.out.sublist (halv_sub _ _)) rfl hc (by omega) HX.out HQ.out)
  rw [hS] at CS
  clear hso hSo hS hup hm hp hq hSl hF hG hFl hGl
  go_enter Try.func5, Try.ntmps5
  go_wp2_with fail
  refine CA.out.mono ?_
  rintro e w1 ⟨rfl, b1⟩
  have HB1 := Lib.hid b1
  clear b1
  go_wp2_with fail
  refine (CS.out w1 (HI.out.call HB1.out)).mono ?_
  rintro e w2 ⟨v, rfl, ho, b2⟩
  obtain ⟨A2, k2, rfl, hN2, hc2⟩ := ho.full HSI.out
  rw [HSL.out] at hc2 ⊢
  have HS2 := Lib.hid hN2
  have HB2 := Lib.hid (HB1.out.trans (b2.mono HB1.out.size))
  clear ho b2 hN2
  go_wp2_with fail
  refine (CU.out w2 A2 k2 HS2.out hc2).mono ?_
  rintro e w3 ⟨rfl, b3⟩
  have HB3 := Lib.hid (HB2.out.trans (b3.mono HB2.out.size))
  have HS3 := Lib.hid (HS2.out.call b3)
  clear b3
  go_wp2_with fail
  refine (CH.out w3 A2 k2 false HS3.out).mono ?_
  rintro e w4 ⟨v4, rfl, ho, b4⟩
  rw [HF.out] at ho
  obtain ⟨A4, k4, rfl, hN4, hc4⟩ := ho.full (fun p hp => HSI.out p ((halv_sub _ _).subset (by rw [HF.out]; exact hp)))
  have HS4 := Lib.hid hN4
  have HT4 := Lib.hid (HS3.out.call b4)
  have HB4 := Lib.hid (HB3.out.trans (b4.mono HB3.out.size))
  have HC4 := Lib.hid hc4
  clear ho b4 hN4 hc4
  go_wp2_with fail
  refine (CF.out w4 A4 k4 HS4.out HC4.out).mono ?_
  rintro e w5 ⟨rfl, b5⟩
  have HB5 := Lib.hid (HB4.out.trans (b5.mono HB4.out.size))
  have HS5 := Lib.hid (HT4.out.call b5)
  clear b5
  go_wp2_with fail
  refine (CH.out w5 A2 k2 true HS5.out).mono ?_
  rintro e w6 ⟨v6, rfl, ho, b6⟩
  rw [HG.out] at ho
  obtain ⟨A6, k6, rfl, hN6, hc6⟩ := ho.full (fun p hp => HSI.out p ((halv_sub _ _).subset (by rw [HG.out]; exact hp)))
  have HS6 := Lib.hid hN6
  have HB6 := Lib.hid (HB5.out.trans (b6.mono HB5.out.size))
  have HC6 := Lib.hid hc6
  clear ho b6 hN6 hc6
  go_wp2_with fail
  refine (CG.out w6 A6 k6 HS6.out HC6.out).mono ?_
  rintro e w7 ⟨rfl, b7⟩
  have HB7 := Lib.hid (HB6.out.trans (b7.mono HB6.out.size))
  clear b7
  have f1 : ((p + q) == m) = true := by simp [hboth]
  have e1 : p + q = m := hboth
  have f2 : m ≤ 2 * p := by omega
  have f3 : 2 * p ≤ m + 1 := by omega
  have f4 : 2 * q ≤ m := by omega
  have f5 : m - 1 ≤ 2 * q := by omega
  have d0 : 0 ≤ m ∧ m ≤ 100 := by omega
  have d1 : 0 ≤ p ∧ p ≤ 100 := by omega
  have d2 : 0 ≤ q ∧ q ≤ 100 := by omega
  obtain ⟨d0, d0'⟩ := d0
  obtain ⟨d1, d1'⟩ := d1
  obtain ⟨d2, d2'⟩ := d2
  clear hf1 hf2 hboth hbd hbf hbg
  go_wp2_with fail
  refine (CR.out w7 (HI.out.call HB7.out)).mono ?_
  rintro e w8 ⟨rfl, rfl⟩
  go_wp2_with fail
  go_ret
  exact ⟨rfl, HB7.out⟩
end Go.Proofs.Ytecnlpkfcggimaa
