/-
  Texts joined, in build order: GwU.
-/
import Derived.Test.YtfmlkohijkalbaaGreatK4
/-
  The law GreenwaldJoins, walked from the contracts. (tools/gen_gw_u.py)
-/
namespace Go.Proofs.YtfmlkohijkalbaaGreat
set_option linter.unusedVariables false
set_option linter.unusedSimpArgs false
open Go.RowKit

theorem all_app (A B : List PairV) : allG (A ++ B) = allG A ++ allG B := by unfold allG; rw [List.flatMap_append]
theorem join_empty (u v : Int) (s t : GwV) : (joinG u v s t).2 = [] := rfl
/-- What build answers, whatever it is. -/
theorem build19_some {Gw : GwT} (D : GwDoes Gw) (w : World) (u v : Int) (A : List PairV) (a : Option Addr) (cap : Nat) (hu : Word u) (hv : Word v) (hA : Pairs w a A) (hl : A.length ≤ 140737488351232) :
    Calls Tryz.prog 5 #[.agg #[.int .u64 u, .int .u64 v], .slice a A.length cap] w fun e w' => (∃ p q z, e = .returned (.tuple #[.pointer p, .pointer q, .bool z])) ∧ Below w.heap.size w w' := by
  refine (build19_any D w u v A a cap hu hv hA hl).mono ?_
  rintro e w' (⟨B, S, M, vs, vw, rfl, _, _, hbt⟩ | ⟨rfl, _, hb⟩)
  · exact ⟨⟨_, _, _, rfl⟩, hbt.below⟩
  · exact ⟨⟨_, _, _, rfl⟩, hb⟩
/-- A built sketch's blocks lie between the worlds. -/
theorem built_in {Gw : GwT} (D : GwDoes Gw) {w w' : World} {u v : Int} {A : List PairV} {B : Nat} {S : Nat → Prop} {M : Nat} {vs vw : Value} (h : BuiltG Gw w u v A B S M vs vw w') : (∀ k, S k → w.heap.size ≤ k ∧ k < w'.heap.size) ∧ ∀ k, rgS M vs vw k → w.heap.size ≤ k ∧ k < w'.heap.size :=
  ⟨fun k hk => ⟨h.newS k hk, D.lt _ _ _ _ _ _ _ h.gw k hk⟩, fun k hk => ⟨h.newR k hk, h.ref.blocks k hk⟩⟩

set_option maxRecDepth 100000 in
set_option maxHeartbeats 32000000 in
theorem gw_joins_walk {Gw : GwT} (D : GwDoes Gw) (u v : Int) (A1 : List PairV) (a1 : Option Addr) (cap1 : Nat) (A2 : List PairV) (a2 : Option Addr) (cap2 : Nat) (A3 : List PairV) (a3 : Option Addr) (cap3 : Nat) (pa pb : Int) (hu : Word u) (hv : Word v) (wa : Word pa) (wb : Word pb) (w : World)
    (hA1 : Pairs w a1 A1) (hl1 : A1.length ≤ 140737488351232) (hA2 : Pairs w a2 A2) (hl2 : A2.length ≤ 140737488351232) (hA3 : Pairs w a3 A3) (hl3 : A3.length ≤ 140737488351232) :
    Calls Tryz.prog 3 #[.agg #[.int .u64 u, .int .u64 v], .slice a1 A1.length cap1, .slice a2 A2.length cap2, .slice a3 A3.length cap3, .agg #[.int .u64 pa, .int .u64 pb]] w fun e w' => e = .returned (.bool true) ∧ Below w.heap.size w w' := by
  have HD := Lib.hid D
  have HAL := Lib.hid (fun W => alive19_any D W)
  obtain ⟨bx, bw⟩ := boxw_new w (.int .u64 u) (.int .u64 v) (.int .u64 pa) (.int .u64 pb) 24 24
  have HBX := Lib.hid bx
  have HB0 := Lib.hid bw
  have HA1 := Lib.hid (hA1.call bw)
  have HBD1 := Lib.hid (fun W hW => build19_any D W u v A1 a1 cap1 hu hv hW hl1)
  have HA2 := Lib.hid (hA2.call bw)
  have HBD2 := Lib.hid (fun W hW => build19_any D W u v A2 a2 cap2 hu hv hW hl2)
  have HBW2 := Lib.hid (fun W hW => build19_some D W u v A2 a2 cap2 hu hv hW hl2)
  have HA3 := Lib.hid (hA3.call bw)
  have HBD3 := Lib.hid (fun W hW => build19_any D W u v A3 a3 cap3 hu hv hW hl3)
  have HBW3 := Lib.hid (fun W hW => build19_some D W u v A3 a3 cap3 hu hv hW hl3)
  have HU := Lib.hid hu
  have HV := Lib.hid hv
  have HWA := Lib.hid wa
  have HWB := Lib.hid wb
  have HFI := Lib.hid (fun W (h : Below ((w.alloc (.cells #[.int .u64 u, .int .u64 v] 24)).alloc (.cells #[.int .u64 pa, .int .u64 pb] 24)).heap.size ((w.alloc (.cells #[.int .u64 u, .int .u64 v] 24)).alloc (.cells #[.int .u64 pa, .int .u64 pb] 24)) W) => HB0.out.trans (h.mono HB0.out.size))
  clear hA1 hA2 hA3 D bx bw
  go_enter Tryz.func3, Tryz.ntmps3
  go_wp2_with fail
  refine (HAL.out _).mono ?_
  rintro e w1 ⟨rfl, b1⟩
  have HB1 := Lib.hid b1
  obtain ⟨c0, c1, p0, p1⟩ := boxw_later HBX.out HB1.out
  clear b1 HAL
  go_wp2_with fail
  refine (HBD1.out _ (HA1.out.call HB1.out)).mono ?_
  rintro e w2 (⟨B1, S1, M1, vs1, vw1, rfl, hga1, hfe1, hbt1⟩ | ⟨rfl, _, b2⟩)
  case inr =>
    have HB2 := Lib.hid (HB1.out.trans (b2.mono HB1.out.size))
    clear b2 c0 c1 p0 p1
    obtain ⟨c0, c1, p0, p1⟩ := boxw_later HBX.out HB2.out
    go_wp2_with fail
    refine (HBW2.out _ (HA2.out.call HB2.out)).mono ?_
    rintro e w3 ⟨⟨p2, q2, z2, rfl⟩, b3⟩
    have HB3 := Lib.hid (HB2.out.trans (b3.mono HB2.out.size))
    clear b3 c0 c1 p0 p1
    obtain ⟨c0, c1, p0, p1⟩ := boxw_later HBX.out HB3.out
    go_wp2_with fail
    refine (HBW3.out _ (HA3.out.call HB3.out)).mono ?_
    rintro e w4 ⟨⟨p3, q3, z3, rfl⟩, b4⟩
    have HB4 := Lib.hid (HB3.out.trans (b4.mono HB3.out.size))
    clear b4 c0 c1 p0 p1
    obtain ⟨c0, c1, p0, p1⟩ := boxw_later HBX.out HB4.out
    go_wp2_with fail
    go_ret
    exact ⟨rfl, HFI.out _ HB4.out⟩
  have HB2 := Lib.hid (HB1.out.trans (hbt1.below.mono HB1.out.size))
  have HIN1 := Lib.hid (built_in HD.out hbt1)
  have HSP1 := Lib.hid hbt1.sep
  have HFE1 := Lib.hid hfe1
  have HZ1 : Hid (w1.heap.size ≤ w2.heap.size) := Lib.hid hbt1.below.size
  have HGA1 := Lib.hid hga1
  have HG1 := Lib.hid hbt1.gw
  have HR1 := Lib.hid hbt1.ref
  have HBB1 := Lib.hid hbt1.below
  clear hbt1 hga1 hfe1 c0 c1 p0 p1
  obtain ⟨c0, c1, p0, p1⟩ := boxw_later HBX.out HB2.out
  go_wp2_with fail
  refine (HBD2.out _ (HA2.out.call HB2.out)).mono ?_
  rintro e w3 (⟨B2, S2, M2, vs2, vw2, rfl, hga2, hfe2, hbt2⟩ | ⟨rfl, _, b3⟩)
  case inr =>
    have HB3 := Lib.hid (HB2.out.trans (b3.mono HB2.out.size))
    clear b3 c0 c1 p0 p1
    obtain ⟨c0, c1, p0, p1⟩ := boxw_later HBX.out HB3.out
    go_wp2_with fail
    refine (HBW3.out _ (HA3.out.call HB3.out)).mono ?_
    rintro e w4 ⟨⟨p3, q3, z3, rfl⟩, b4⟩
    have HB4 := Lib.hid (HB3.out.trans (b4.mono HB3.out.size))
    clear b4 c0 c1 p0 p1
    obtain ⟨c0, c1, p0, p1⟩ := boxw_later HBX.out HB4.out
    go_wp2_with fail
    go_ret
    exact ⟨rfl, HFI.out _ HB4.out⟩
  have HB3 := Lib.hid (HB2.out.trans (hbt2.below.mono HB2.out.size))
  have HIN2 := Lib.hid (built_in HD.out hbt2)
  have HSP2 := Lib.hid hbt2.sep
  have HFE2 := Lib.hid hfe2
  have HZ2 : Hid (w2.heap.size ≤ w3.heap.size) := Lib.hid hbt2.below.size
  have HGA2 := Lib.hid hga2
  have HG2 := Lib.hid hbt2.gw
  have HR2 := Lib.hid hbt2.ref
  have HBB2 := Lib.hid hbt2.below
  clear hbt2 hga2 hfe2 c0 c1 p0 p1
  obtain ⟨c0, c1, p0, p1⟩ := boxw_later HBX.out HB3.out
  go_wp2_with fail
  refine (HBD3.out _ (HA3.out.call HB3.out)).mono ?_
  rintro e w4 (⟨B3, S3, M3, vs3, vw3, rfl, hga3, hfe3, hbt3⟩ | ⟨rfl, _, b4⟩)
  case inr =>
    have HB4 := Lib.hid (HB3.out.trans (b4.mono HB3.out.size))
    clear b4 c0 c1 p0 p1
    obtain ⟨c0, c1, p0, p1⟩ := boxw_later HBX.out HB4.out
    go_wp2_with fail
    go_ret
    exact ⟨rfl, HFI.out _ HB4.out⟩
  have HB4 := Lib.hid (HB3.out.trans (hbt3.below.mono HB3.out.size))
  have HIN3 := Lib.hid (built_in HD.out hbt3)
  have HSP3 := Lib.hid hbt3.sep
  have HFE3 := Lib.hid hfe3
  have HZ3 : Hid (w3.heap.size ≤ w4.heap.size) := Lib.hid hbt3.below.size
  have HGA3 := Lib.hid hga3
  have HG3 := Lib.hid hbt3.gw
  have HR3 := Lib.hid hbt3.ref
  have HBB3 := Lib.hid hbt3.below
  clear hbt3 hga3 hfe3 c0 c1 p0 p1
  obtain ⟨c0, c1, p0, p1⟩ := boxw_later HBX.out HB4.out
  obtain ⟨f11, f12, f13, f14⟩ := build_facts u v _ A1 rfl HA1.out.ok (by have := HFE1.out.sum; omega)
  have hgok1 := build_ok (u := u) (v := v) (by have := HGA1.out.u1; omega) HGA1.out.v0 _ A1 rfl
  obtain ⟨s1, hs1⟩ : ∃ s, buildG u v A1 = s := ⟨_, rfl⟩
  obtain ⟨e1, he1⟩ : ∃ s, endAD A1 = s := ⟨_, rfl⟩
  have HE1 := Lib.hid he1
  rw [hs1] at f11 f12 f13 f14 hgok1 HG1 HR1
  rw [he1] at HG1
  have hsm1 := HFE1.out.sum
  have hp1 := sumP_pos (ok_pos HA1.out.ok)
  obtain ⟨f21, f22, f23, f24⟩ := build_facts u v _ A2 rfl HA2.out.ok (by have := HFE2.out.sum; omega)
  have hgok2 := build_ok (u := u) (v := v) (by have := HGA1.out.u1; omega) HGA1.out.v0 _ A2 rfl
  obtain ⟨s2, hs2⟩ : ∃ s, buildG u v A2 = s := ⟨_, rfl⟩
  obtain ⟨e2, he2⟩ : ∃ s, endAD A2 = s := ⟨_, rfl⟩
  have HE2 := Lib.hid he2
  rw [hs2] at f21 f22 f23 f24 hgok2 HG2 HR2
  rw [he2] at HG2
  have hsm2 := HFE2.out.sum
  have hp2 := sumP_pos (ok_pos HA2.out.ok)
  obtain ⟨f31, f32, f33, f34⟩ := build_facts u v _ A3 rfl HA3.out.ok (by have := HFE3.out.sum; omega)
  have hgok3 := build_ok (u := u) (v := v) (by have := HGA1.out.u1; omega) HGA1.out.v0 _ A3 rfl
  obtain ⟨s3, hs3⟩ : ∃ s, buildG u v A3 = s := ⟨_, rfl⟩
  obtain ⟨e3, he3⟩ : ∃ s, endAD A3 = s := ⟨_, rfl⟩
  have HE3 := Lib.hid he3
  rw [hs3] at f31 f32 f33 f34 hgok3 HG3 HR3
  rw [he3] at HG3
  have hsm3 := HFE3.out.sum
  have hp3 := sumP_pos (ok_pos HA3.out.ok)
  have hj23 := join_okG (u := u) (v := v) f21 f31 (by omega) (by omega)
  have hgj23 := (hgok2.join (by have := HGA1.out.u1; omega) HGA1.out.v0 hgok3).1
  obtain ⟨s23, hs23⟩ : ∃ s, joinG u v s2 s3 = s := ⟨_, rfl⟩
  have he23 : s23.2 = [] := by rw [← hs23]; rfl
  rw [hs23] at hj23 hgj23
  have hj123 := join_okG (u := u) (v := v) f11 hj23.1 (by omega) (by omega)
  have hgj123 := (hgok1.join (by have := HGA1.out.u1; omega) HGA1.out.v0 hgj23).1
  obtain ⟨sJ, hsJ⟩ : ∃ s, joinG u v s1 s23 = s := ⟨_, rfl⟩
  have heJ : sJ.2 = [] := by rw [← hsJ]; rfl
  rw [hsJ] at hj123 hgj123
  obtain ⟨AA, hAA⟩ : ∃ AA, (A1 ++ A2) ++ A3 = AA := ⟨_, rfl⟩
  have hall : allG AA = allG A1 ++ (allG A2 ++ allG A3) := by rw [← hAA, all_app, all_app, List.append_assoc]
  rw [← hall] at hgj123
  have hendJ : joinW e1 (joinW e2 e3) = endAD AA := by rw [← HE1.out, ← HE2.out, ← HE3.out, ← endA_app, ← endA_app, ← hAA, List.append_assoc]
  have hokAA : ∀ p, p ∈ AA → okP p := fun p hp => by
    rw [← hAA] at hp
    rcases List.mem_append.1 hp with h | h
    · rcases List.mem_append.1 h with h | h
      · exact HA1.out.ok p h
      · exact HA2.out.ok p h
    · exact HA3.out.ok p h
  have honeAA : OneG AA := fun p hp => by
    rw [← hAA] at hp
    rcases List.mem_append.1 hp with h | h
    · rcases List.mem_append.1 h with h | h
      · exact HFE1.out.one p h
      · exact HFE2.out.one p h
    · exact HFE3.out.one p h
  have hlAA : AA.length ≤ 180 := by rw [← hAA, List.length_append, List.length_append]; have := HFE1.out.len; have := HFE2.out.len; have := HFE3.out.len; omega
  have hsAA : sumP AA = sumP A1 + sumP A2 + sumP A3 := by rw [← hAA, sumP_app, sumP_app]
  obtain ⟨T, hT⟩ : ∃ T, sumP AA = T := ⟨_, rfl⟩
  have hTb : 0 ≤ T ∧ T ≤ 450 := by omega
  have htJ : totG sJ = T := by rw [hj123.2.1, hj23.2.1]; omega
  have HJ2 := Lib.hid hs23
  have HJ1 := Lib.hid hsJ
  have HNJ := Lib.hid heJ
  have HOKJ := Lib.hid hj123.1
  have HOK23 := Lib.hid hj23.1
  have HOK1 := Lib.hid f11
  have HOK2 := Lib.hid f21
  have HOK3 := Lib.hid f31
  have HL23 : Hid (lenG s2 + lenG s3 ≤ 5000 ∧ totG s2 + totG s3 ≤ 4611686018427387904) := Lib.hid ⟨by omega, by omega⟩
  have HL1 : Hid (lenG s1 + lenG s23 ≤ 5000 ∧ totG s1 + totG s23 ≤ 4611686018427387904) := Lib.hid ⟨by omega, by omega⟩
  have HGJ := Lib.hid hgj123
  have HEJ := Lib.hid hendJ
  have HAA := Lib.hid hAA
  have HOA := Lib.hid hokAA
  have HON := Lib.hid honeAA
  have HLA := Lib.hid hlAA
  have HT := Lib.hid hT
  have HTT := Lib.hid htJ
  clear f11 f12 f13 f14 f21 f22 f23 f24 f31 f32 f33 f34 hgok1 hgok2 hgok3 hs1 hs2 hs3 he1 he2 he3 hsm1 hsm2 hsm3 hp1 hp2 hp3 hj23 hgj23 hs23 he23 hj123 hgj123 hsJ heJ hall hendJ hokAA honeAA hlAA hsAA hT htJ hAA
  -- all three at w4
  have b24 := HBB2.out.trans (HBB3.out.mono HZ2.out)
  have HG1' := Lib.hid (HD.out.call HG1.out b24)
  have HG2' := Lib.hid (HD.out.call HG2.out HBB3.out)
  have HR1' := Lib.hid (HR1.out.call b24)
  have HR2' := Lib.hid (HR2.out.call HBB3.out)
  clear b24 HG1 HG2 HR1 HR2 HBD1 HBD2 HBD3 HBW2 HBW3
  have HS12 : Hid (∀ k, S1 k → ¬ S2 k) := Lib.hid fun k h h' => by have := HIN1.out.1 k h; have := HIN2.out.1 k h'; omega
  have HJO := Lib.hid (HD.out.join w4 B2 S2 u v s2 e2 B3 S3 s3 e3 HG2'.out HG3.out (fun k h h' => by have := HIN2.out.1 k h; have := HIN3.out.1 k h'; omega) HL23.out.1 HL23.out.2)
  rw [HJ2.out] at HJO
  go_wp2_with fail
  refine HJO.out.mono ?_
  rintro e w5 ⟨T2, rfl, hx5, hk5, hs5⟩
  have HT2 : Hid (∀ k, T2 k → (w2.heap.size ≤ k ∧ k < w3.heap.size ∧ S2 k) ∨ w4.heap.size ≤ k) := Lib.hid fun k hk => by
    rcases hs5 k hk with h | h
    · exact Or.inl ⟨(HIN2.out.1 k h).1, (HIN2.out.1 k h).2, h⟩
    · exact Or.inr h
  have HX25 := Lib.hid hx5
  have HX15 := Lib.hid (HD.out.past HG1'.out hk5 HS12.out)
  have HX35 := Lib.hid (HD.out.past HG3.out hk5 (fun k h h' => by have := HIN3.out.1 k h; have := HIN2.out.1 k h'; omega))
  have HR15 := Lib.hid (HR1'.out.keep hk5 (fun k h h' => by have := HIN1.out.2 k h; have := HIN2.out.1 k h'; omega))
  have HR25 := Lib.hid (HR2'.out.keep hk5 HSP2.out)
  have HR35 := Lib.hid (HR3.out.keep hk5 (fun k h h' => by have := HIN3.out.2 k h; have := HIN2.out.1 k h'; omega))
  have HB5 := Lib.hid (Keeps.below HB4.out hk5 HB4.out.size (fun k hk => by have := HIN2.out.1 k hk; have := HB2.out.size; omega))
  have HZ45 : Hid (w4.heap.size ≤ w5.heap.size) := Lib.hid hk5.size
  have HRJ := Lib.hid (rjoin19_any w5 M2 M3 u v vs2 vw2 vs3 vw3 s2 s3 HR25.out HR35.out (fun k h h' => by have := HIN3.out.2 k h; have := HIN2.out.2 k h'; omega) HOK2.out HOK3.out HGA1.out HL23.out.2)
  rw [HJ2.out] at HRJ
  clear hx5 hk5 hs5 HJO c0 c1 p0 p1
  go_wp2_with fail
  refine HRJ.out.mono ?_
  rintro e w6 ⟨rfl, vt, vz, hr6, hg6, hv6, hz6⟩
  have hk6 : Keeps (fun k => k = M2) w5 w6 := keeps_grown hg6 rfl
  have HM2 : Hid (w2.heap.size ≤ M2 ∧ M2 < w3.heap.size ∧ ¬ S2 M2) := Lib.hid ⟨(HIN2.out.2 M2 (Or.inl rfl)).1, (HIN2.out.2 M2 (Or.inl rfl)).2, HSP2.out M2 (Or.inl rfl)⟩
  have HRG : Hid (∀ k, rgS M2 vt vz k → (w2.heap.size ≤ k ∧ k < w3.heap.size ∧ ¬ S2 k) ∨ w5.heap.size ≤ k) := Lib.hid fun k hk => by
    rcases hk with h | h | h
    · rw [h]; exact Or.inl HM2.out
    · exact Or.inr (hv6 k h)
    · rcases hz6 with e | e
      · rw [e] at h
        have h2 := HIN2.out.2 k (Or.inr (Or.inr h))
        exact Or.inl ⟨h2.1, h2.2, HSP2.out k (Or.inr (Or.inr h))⟩
      · rw [e] at h; cases h
  have HR26 := Lib.hid hr6
  have HX16 := Lib.hid (HD.out.past HX15.out hk6 (fun k h e => by have := HIN1.out.1 k h; have := HM2.out; omega))
  have HX26 := Lib.hid (HD.out.past HX25.out hk6 (fun k h e => by
    subst e
    rcases HT2.out _ h with h | h
    · exact HM2.out.2.2 h.2.2
    · have := HM2.out; have := HZ3.out; omega))
  have HX36 := Lib.hid (HD.out.past HX35.out hk6 (fun k h e => by have := HIN3.out.1 k h; have := HM2.out; omega))
  have HR16 := Lib.hid (HR15.out.keep hk6 (fun k h e => by have := HIN1.out.2 k h; have := HM2.out; omega))
  have HR36 := Lib.hid (HR35.out.keep hk6 (fun k h e => by have := HIN3.out.2 k h; have := HM2.out; omega))
  have HB6 := Lib.hid (Keeps.below HB5.out hk6 HB5.out.size (fun k hk => by have := HM2.out; have := HB2.out.size; omega))
  have HZ56 : Hid (w5.heap.size ≤ w6.heap.size) := Lib.hid hk6.size
  have HSA := Lib.hid (same19_any HD.out w6 B3 S3 u v s3 e3 M3 vs3 vw3 HX36.out HR36.out HOK3.out)
  clear hr6 hg6 hv6 hz6 hk6 HRJ
  go_wp2_with fail
  refine HSA.out.mono ?_
  rintro e w7 ⟨rfl, b7⟩
  have HB7 := Lib.hid (HB6.out.trans (b7.mono HB6.out.size))
  have HX17 := Lib.hid (HD.out.call HX16.out b7)
  have HX27 := Lib.hid (HD.out.call HX26.out b7)
  have HR17 := Lib.hid (HR16.out.call b7)
  have HR27 := Lib.hid (HR26.out.call b7)
  have HZ67 : Hid (w6.heap.size ≤ w7.heap.size) := Lib.hid b7.size
  have HS1T : Hid (∀ k, S1 k → ¬ T2 k) := Lib.hid fun k h h' => by
    have := HIN1.out.1 k h
    rcases HT2.out k h' with h2 | h2
    · omega
    · have := HZ2.out; have := HZ3.out; omega
  have HJP := Lib.hid (HD.out.join w7 B1 S1 u v s1 e1 B2 T2 s23 (joinW e2 e3) HX17.out HX27.out HS1T.out HL1.out.1 HL1.out.2)
  rw [HJ1.out] at HJP
  clear b7 HSA HX36 HR36 HX35 HR35 HX16 HX26 HR16 HR26
  go_wp2_with fail
  refine HJP.out.mono ?_
  rintro e w8 ⟨T1, rfl, hx8, hk8, hs8⟩
  have HT1 : Hid (∀ k, T1 k → (w1.heap.size ≤ k ∧ k < w2.heap.size ∧ S1 k) ∨ w7.heap.size ≤ k) := Lib.hid fun k hk => by
    rcases hs8 k hk with h | h
    · exact Or.inl ⟨(HIN1.out.1 k h).1, (HIN1.out.1 k h).2, h⟩
    · exact Or.inr h
  have HX18 := Lib.hid hx8
  have HX28 := Lib.hid (HD.out.past HX27.out hk8 (fun k h h' => HS1T.out k h' h))
  have HR18 := Lib.hid (HR17.out.keep hk8 HSP1.out)
  have HR28 := Lib.hid (HR27.out.keep hk8 (fun k h h' => by
    have := HIN1.out.1 k h'
    rcases HRG.out k h with h2 | h2
    · omega
    · have := HZ2.out; have := HZ3.out; have := HZ45.out; omega))
  have HB8 := Lib.hid (Keeps.below HB7.out hk8 HB7.out.size (fun k hk => by have := HIN1.out.1 k hk; have := HB1.out.size; omega))
  have HZ78 : Hid (w7.heap.size ≤ w8.heap.size) := Lib.hid hk8.size
  have HRK := Lib.hid (rjoin19_any w8 M1 M2 u v vs1 vw1 vt vz s1 s23 HR18.out HR28.out (fun k h h' => by
    have := HIN1.out.2 k h'
    rcases HRG.out k h with h2 | h2
    · omega
    · have := HZ2.out; have := HZ3.out; have := HZ45.out; omega) HOK1.out HOK23.out HGA1.out HL1.out.2)
  rw [HJ1.out] at HRK
  clear hx8 hk8 hs8 HJP
  go_wp2_with fail
  refine HRK.out.mono ?_
  rintro e w9 ⟨rfl, vt1, vz1, hr9, hg9, hv9, hz9⟩
  have hk9 : Keeps (fun k => k = M1) w8 w9 := keeps_grown hg9 rfl
  have HM1 : Hid (w1.heap.size ≤ M1 ∧ M1 < w2.heap.size ∧ ¬ S1 M1) := Lib.hid ⟨(HIN1.out.2 M1 (Or.inl rfl)).1, (HIN1.out.2 M1 (Or.inl rfl)).2, HSP1.out M1 (Or.inl rfl)⟩
  have HR19 := Lib.hid hr9
  have HX19 := Lib.hid (HD.out.past HX18.out hk9 (fun k h e => by
    subst e
    rcases HT1.out _ h with h | h
    · exact HM1.out.2.2 h.2.2
    · have := HM1.out; have := HZ2.out; have := HZ3.out; have := HZ45.out; have := HZ56.out; have := HZ67.out; omega))
  have HX29 := Lib.hid (HD.out.past HX28.out hk9 (fun k h e => by
    have := HM1.out
    rcases HT2.out k h with h | h
    · omega
    · have := HZ2.out; have := HZ3.out; omega))
  have HR29 := Lib.hid (HR28.out.keep hk9 (fun k h e => by
    have := HM1.out
    rcases HRG.out k h with h | h
    · omega
    · have := HZ2.out; have := HZ3.out; have := HZ45.out; omega))
  have HB9 := Lib.hid (Keeps.below HB8.out hk9 HB8.out.size (fun k hk => by have := HM1.out; have := HB1.out.size; omega))
  have HNT1 : Hid (∀ k, T1 k → ((w.alloc (.cells #[.int .u64 u, .int .u64 v] 24)).alloc (.cells #[.int .u64 pa, .int .u64 pb] 24)).heap.size ≤ k) := Lib.hid fun k hk => by
    have := HB1.out.size
    rcases HT1.out k hk with h | h
    · omega
    · have := HB7.out.size; omega
  clear hr9 hg9 hv9 hz9 hk9 HRK HX15 HX25 HR15 HR25 HX17 HX27 HR17 HR27 HX18 HX28 HR18 HR28
  have hO6 := World.ownsRow_made (base := w9.heap.size) (e := 50) (size := 2) w9 #[] 0 (by simp) (by decide) rfl
  have HO6 : Hid (OwnVG (w9.alloc (.cells #[] 50)) w9.heap.size (.slice (some ⟨w9.heap.size, 0, none⟩) 0 0) []) := Lib.hid hO6
  have HC6 : Hid (Below w9.heap.size w9 (w9.alloc (.cells #[] 50))) := Lib.hid ((Below.refl _ _).alloc (Nat.le_refl _) _)
  have HP6 := Lib.hid (HA1.out.call (HB9.out.trans (HC6.out.mono HB9.out.size)))
  have hla1 := HFE1.out.len
  have hla2 := HFE2.out.len
  have hla3 := HFE3.out.len
  clear hO6
  go_wp2_with (at_builtin; refine wpList_append_valsG rfl (.tmp 84) (.tmp 85) rfl w9.heap.size _ [] a1 cap1 A1 rfl HO6.out rfl HP6.out ?c1 ?c2 ?_)
  case c1 => simp; omega
  case c2 => exact HC6.out.size
  intro v7 w10 hown7' hg7
  have hown7 : OwnVG w10 w9.heap.size v7 A1 := hown7'
  clear hown7'
  have hb7 : Below w9.heap.size w9 w10 := HC6.out.grown hg7 HC6.out.size (fun k hk => by cases hk; exact Nat.le_refl _)
  obtain ⟨A7, k7, rfl⟩ := hown7.form
  have HO7 := Lib.hid hown7
  have HC7 := Lib.hid hb7
  have HP7 := Lib.hid (HA2.out.call (HB9.out.trans (hb7.mono HB9.out.size)))
  clear hown7 hg7 hb7 HO6 HP6 HC6
  go_wp2_with (at_builtin; refine wpList_append_valsG rfl (.tmp 86) (.tmp 87) rfl w9.heap.size _ A1 a2 cap2 A2 rfl HO7.out rfl HP7.out ?d1 ?d2 ?_)
  case d1 => omega
  case d2 => exact HC7.out.size
  intro v8 w11 hown8 hg8
  have hb8 : Below w9.heap.size w9 w11 := OwnVG.below HO7.out HC7.out hg8 HC7.out.size
  obtain ⟨A12, h12⟩ : ∃ x, A1 ++ A2 = x := ⟨_, rfl⟩
  have hl12 : A12.length ≤ 120 := by rw [← h12, List.length_append]; omega
  rw [h12] at hown8 HAA
  obtain ⟨A8, k8, rfl⟩ := hown8.form
  have HO8 := Lib.hid hown8
  have HC8 := Lib.hid hb8
  have HP8 := Lib.hid (HA3.out.call (HB9.out.trans (hb8.mono HB9.out.size)))
  clear hown8 hg8 hb8 HO7 HP7 HC7 h12
  go_wp2_with (at_builtin; refine wpList_append_valsG rfl (.tmp 88) (.tmp 89) rfl w9.heap.size _ A12 a3 cap3 A3 rfl HO8.out rfl HP8.out ?g1 ?g2 ?_)
  case g1 => omega
  case g2 => exact HC8.out.size
  intro v9 w12 hown9 hg9
  have hb9 : Below w9.heap.size w9 w12 := OwnVG.below HO8.out HC8.out hg9 HC8.out.size
  rw [HAA.out] at hown9
  obtain ⟨a9, k9, rfl⟩ := hown9.form
  have HPA := Lib.hid (hown9.row HOA.out)
  have HLT1 := Lib.hid (HD.out.lt _ _ _ _ _ _ _ HX19.out)
  have HLIE := Lib.hid (OwnVG.lies hown9)
  have HPK : Hid (∀ W' {W : World}, Keeps T1 W W' → Pairs W a9 AA → Pairs W' a9 AA) := Lib.hid fun W' W hk h => ⟨h.ok, fun i p hi => by
    obtain ⟨b, off, e1, e2⟩ := HLIE.out i p hi
    obtain ⟨b', off', e3, e4, k0, k1⟩ := h.at_ i p hi
    have hb : b = b' := by rw [e1] at e3; exact (Addr.mk.inj (Option.some.inj e3)).1
    have hn : ¬ T1 b' := fun hT => by have := HLT1.out b' hT; omega
    exact ⟨b', off', e3, Nat.lt_of_lt_of_le e4 hk.size, hk.cell hn k0, hk.cell hn k1⟩⟩
  have HB12 := Lib.hid (HB9.out.trans (hb9.mono HB9.out.size))
  have HX1 := Lib.hid (HD.out.call HX19.out hb9)
  have HX2 := Lib.hid (HD.out.call HX29.out hb9)
  have HRA := Lib.hid (HR19.out.call hb9)
  have HRB := Lib.hid (HR29.out.call hb9)
  clear hown9 hg9 hb9 HO8 HP8 HC8 HX19 HX29 HR19 HR29
  obtain ⟨ex, ey, ez, hee⟩ : ∃ ex ey ez, endAD AA = (ex, ey, ez) := ⟨_, _, _, rfl⟩
  have hx1 := HX1.out
  rw [HEJ.out, hee] at hx1
  have HX1E := Lib.hid hx1
  have HEN := Lib.hid (HD.out.ends w12 B1 T1 u v sJ ex ey ez hx1)
  have HER := Lib.hid (fun W (h : Below w12.heap.size w12 W) => rends19_any W a9 k9 AA ex ey ez (HPA.out.call h) (by have := HLA.out; omega) hee)
  have HS1 := Lib.hid (fun W (h : Below w12.heap.size w12 W) => same19_any HD.out W B1 T1 u v sJ _ M1 vt1 vz1 (HD.out.call HX1.out h) (HRA.out.call h) HOKJ.out)
  have HS2 := Lib.hid (fun W (h : Below w12.heap.size w12 W) => same19_any HD.out W B2 T2 u v s23 _ M2 vt vz (HD.out.call HX2.out h) (HRB.out.call h) HOK23.out)
  have t1 : (ex != ex) = false := by simp
  have t2 : (ey != ey) = false := by simp
  clear hx1 hee
  go_wp2_with fail
  refine HEN.out.mono ?_
  rintro e wa1 ⟨rfl, ba1⟩
  have HW1 := Lib.hid ba1
  clear ba1
  go_wp2_with fail
  refine (HER.out _ HW1.out).mono ?_
  rintro e wa2 ⟨rfl, ba2⟩
  have HW2 := Lib.hid (HW1.out.trans (ba2.mono HW1.out.size))
  clear ba2
  go_wp2_with fail
  refine (HS1.out _ HW2.out).mono ?_
  rintro e wa3 ⟨rfl, ba3⟩
  have HW3 := Lib.hid (HW2.out.trans (ba3.mono HW2.out.size))
  clear ba3
  go_wp2_with fail
  refine (HS2.out _ HW3.out).mono ?_
  rintro e w4' ⟨rfl, ba4⟩
  have HW4 := Lib.hid (HW3.out.trans (ba4.mono HW3.out.size))
  clear ba4
  have HB14 := Lib.hid (HB12.out.trans (HW4.out.mono HB12.out.size))
  have HX4 := Lib.hid (HD.out.call HX1.out HW4.out)
  have HBX4 := Lib.hid (boxw_later HBX.out HB14.out)
  have HPA4 := Lib.hid (HPA.out.call HW4.out)
  have HAG : Hid (((allG AA).length : Int) = T) := Lib.hid (by rw [← HT.out, (where_up (ok_pos HOA.out) 0).2.2])
  have HNP := Lib.hid (fun (t : Int) => near_place (t := t) HGA1.out HGJ.out)
  have HFN : Hid (flushG u v sJ = sJ) := Lib.hid (flush_none HNJ.out)
  rw [HFN.out] at HNP
  have HGD := Lib.hid (fun W => rgood_any pa pb HWA.out HWB.out W)
  obtain ⟨gd, hgd⟩ : ∃ gd, gdB pa pb = gd := ⟨_, rfl⟩
  rw [hgd] at HGD
  obtain ⟨c0, c1, p0, p1⟩ := HBX4.out
  go_wp2_with fail
  refine (HGD.out _).mono ?_
  rintro e w5' ⟨rfl, b5⟩
  have HB15 := Lib.hid (HB14.out.trans (b5.mono HB14.out.size))
  have HX5 := Lib.hid (HD.out.call HX4.out b5)
  have HBX5 := Lib.hid (boxw_later HBX4.out b5)
  have HPA5 := Lib.hid (HPA4.out.call b5)
  clear b5 HGD c0 c1 p0 p1
  cases gd with
  | false =>
    go_wp2_with fail
    go_ret
    exact ⟨rfl, HFI.out _ HB15.out⟩
  | true =>
  by_cases hA0 : AA.length = 0
  · have hz : ((AA.length : Int) == 0) = true := by rw [hA0]; rfl
    clear hA0
    go_wp2_with fail
    go_ret
    exact ⟨rfl, HFI.out _ HB15.out⟩
  have hz : ((AA.length : Int) == 0) = false := by rw [beq_eq_false_iff_ne]; omega
  have hT0 : ¬ T = 0 := fun h => by have := (one_sum HON.out).1; rw [HT.out] at this; omega
  have hTw : Word T := ⟨by omega, by omega⟩
  obtain ⟨g1, g2, g3⟩ : plE pa pb T = 0 ∧ 1 ≤ plV pa pb T ∧ plV pa pb T ≤ T := by
    have := pl_spec HWA.out HWB.out hTw hgd hT0
    exact ⟨(pl_good hgd hT0).2, this.1, this.2.1⟩
  have HPL := Lib.hid (fun W => rplace_any pa pb T HWA.out HWB.out hTw W)
  obtain ⟨t, ht⟩ : ∃ t, plV pa pb T = t := ⟨_, rfl⟩
  rw [g1, ht] at HPL
  rw [ht] at g2 g3
  obtain ⟨⟨pc, pc1, pc2⟩, n1, G, n2, n3, n4, n5⟩ := HNP.out t g2 (by rw [HAG.out]; exact g3)
  obtain ⟨y, hy⟩ : ∃ y, nearX t sJ.1 = y := ⟨_, rfl⟩
  have hyi : I64 y := by rw [← hy, ← pc2]; exact (HOKJ.out.sp pc pc1).1
  rw [hy] at n1 n3 n4
  have hqw : quanW u v pa pb sJ = (y, 0) := by
    unfold quanW
    rw [HTT.out, HFN.out, g1, if_neg (by decide), ht, hy]
  obtain ⟨wu, wn, wl⟩ := where_up (ok_pos HOA.out) y
  rw [← wu, ← wn] at n1
  rw [← wn] at n3
  rw [← wu] at n4
  have HNE2 := Lib.hid (fun W hW => near19_any W a9 k9 AA y t u v G hW (by have := HLA.out; omega) (by rw [HT.out]; omega) hyi ⟨by omega, by omega⟩ HU.out HV.out n1 n2 n3 n4 (by rw [wl]; exact n5))
  have HTO := Lib.hid (fun W (h : Below w5'.heap.size w5' W) => HD.out.total W B1 T1 u v sJ _ (HD.out.call HX5.out h))
  rw [HTT.out] at HTO
  have HQU := Lib.hid (fun W (h : Below w5'.heap.size w5' W) => HD.out.quantile W B1 T1 u v sJ _ pa pb (HD.out.call HX5.out h) HWA.out HWB.out)
  rw [hqw] at HQU
  have HS0 : Hid (w5'.drew.cell? ⟨w.heap.size + 1, 0, none⟩ = some (.int .u64 pa) ∧ w5'.drew.cell? ⟨w.heap.size + 1, 1, none⟩ = some (.int .u64 pb) ∧ Below w5'.heap.size w5' w5'.drew) := Lib.hid ⟨cell_later ((Below.refl _ _).drew) HBX5.out.2.2.1, cell_later ((Below.refl _ _).drew) HBX5.out.2.2.2, (Below.refl _ _).drew⟩
  have HST := Lib.hid (fun (W W' : World) (h : W.cell? ⟨w.heap.size + 1, 0, none⟩ = some (.int .u64 pa) ∧ W.cell? ⟨w.heap.size + 1, 1, none⟩ = some (.int .u64 pb) ∧ Below w5'.heap.size w5' W) (hb : Below W.heap.size W W') => (⟨cell_later hb h.1, cell_later hb h.2.1, h.2.2.trans (hb.mono h.2.2.size)⟩ : W'.cell? ⟨w.heap.size + 1, 0, none⟩ = some (.int .u64 pa) ∧ W'.cell? ⟨w.heap.size + 1, 1, none⟩ = some (.int .u64 pb) ∧ Below w5'.heap.size w5' W'))
  clear hA0 hgd ht g1 n1 n2 n3 n4 n5 wu wn wl hqw hy pc1 pc2 HNP
  go_wp2_with fail
  go_region_held3 (fun w' => w'.cell? ⟨w.heap.size + 1, 0, none⟩ = some (.int .u64 pa) ∧ w'.cell? ⟨w.heap.size + 1, 1, none⟩ = some (.int .u64 pb) ∧ Below w5'.heap.size w5' w')
    (first | exact HS0.out | exact HST.out _ _ (by assumption) hbA | exact HST.out _ _ (by assumption) hbB | assumption)
    ((first
      | (go_at_call 13; refine (HTO.out _ (And.right (And.right (by assumption)))).mono ?_; rintro e wA ⟨rfl, hbA⟩)
      | (go_at_call 12; refine (HPL.out _).mono ?_; rintro e wB ⟨rfl, hbB⟩)))
  rename_i hHeld
  have HC6 := Lib.hid hHeld.2.2
  have HB16 := Lib.hid (HB15.out.trans (hHeld.2.2.mono HB15.out.size))
  have HBX6 := Lib.hid (boxw_later HBX5.out hHeld.2.2)
  have HPA6 := Lib.hid (HPA5.out.call hHeld.2.2)
  have HLQ := Lib.hid (HD.out.lt _ _ _ _ _ _ _ (HD.out.call HX5.out hHeld.2.2))
  have HOV : Hid (∀ k, T1 k → w.heap.size + 2 ≤ k) := Lib.hid fun k hk => by
    have h1 := HNT1.out k hk
    have h2 := World.block_lt_of_cell? (a := ⟨w.heap.size + 1, 0, none⟩) _ HBX.out.2.2.1
    simp only at h2
    omega
  clear hHeld HS0 HST HPL HTO
  obtain ⟨c0, c1, p0, p1⟩ := HBX6.out
  -- the appended row lies apart from the sketch
  go_wp2_with fail
  refine (HQU.out _ HC6.out).mono ?_
  rintro e w7' ⟨S7, rfl, hx7, hk7, hs7⟩
  have HB17 := Lib.hid (Keeps.below HB16.out hk7 HB16.out.size HNT1.out)
  have HBX7 := Lib.hid (boxw_keeps HBX6.out hk7 HOV.out)
  have HPA7 : Hid (Pairs w7' a9 AA) := Lib.hid (HPK.out _ hk7 HPA6.out)
  clear hx7 hk7 hs7 HQU c0 c1 p0 p1
  obtain ⟨c0, c1, p0, p1⟩ := HBX7.out
  go_wp2_with fail
  refine (HNE2.out _ HPA7.out).mono ?_
  rintro e w8' ⟨rfl, b8⟩
  have HE := Lib.hid (HFI.out _ (HB17.out.trans (b8.mono HB17.out.size)))
  clear b8
  go_wp2_with fail
  go_ret
  exact ⟨rfl, HE.out⟩
end Go.Proofs.YtfmlkohijkalbaaGreat
