/-
  The reference of layer 18: Merge.
-/
import Derived.Test.YtjmkkglmckiknaaTupS
namespace Go.Proofs.Ytjmkkglmckiknaa
set_option linter.unusedVariables false
set_option linter.unusedSimpArgs false
open Go.RowKit

theorem last_bd {n : Int} {S : List SpotV} (h : SpotsP 0 n S) (k : Nat) : 0 ≤ lastLo 0 (S.take k) ∧ lastLo 0 (S.take k) ≤ n := by
  unfold lastLo
  cases hl : (S.take k).getLast? with
  | none => have := h.le; simp only; omega
  | some p => have := h.mem p (List.mem_of_mem_take (List.mem_of_getLast? hl)); simp only; omega
theorem last_tot (S : List SpotV) : lastLo 0 (S.take S.length) = totS S := by rw [List.take_length, tot_last]
theorem take_last {S : List SpotV} {k : Nat} (hk : 0 < k) (hl : k ≤ S.length) : ∃ p, S[k - 1]? = some p ∧ lastLo 0 (S.take k) = p.lo := by
  have hx := List.getElem?_eq_getElem (l := S) (i := k - 1) (by omega)
  refine ⟨_, hx, ?_⟩
  have := last_takeS hx
  rwa [show k - 1 + 1 = k by omega] at this
/-- A spot among those of another list, some of which stand behind. -/
theorem rmoved_lt (w : World) (A : Option Addr) (cap : Nat) (S : List SpotV) (n : Int) (k : Nat) (x lo hi a b : Int) (q : SpotV) (h : Spts w A S) (hl : S.length ≤ 200) (hs : SpotsP 0 n S) (hn : n ≤ 4611686018427387904) (hq : S[k]? = some q)
    (l0 : 0 ≤ lo ∧ lo ≤ 4611686018427387904) (h0 : 0 ≤ hi ∧ hi ≤ 4611686018427387904) (ha : lo + lastLo 0 (S.take k) = a) (hb : hi + q.hi - 1 = b) :
    Calls Try.prog 34 #[.agg #[.int .i64 x, .int .u64 lo, .int .u64 hi], .slice A S.length cap, .int .i64 k] w fun e w' => e = .returned (.agg #[.int .i64 x, .int .u64 a, .int .u64 b]) ∧ Below w.heap.size w w' := by
  subst ha hb
  have hqb := spots_at hs hq
  rcases Nat.eq_zero_or_pos k with h1 | h1
  · subst h1
    have e : lo + lastLo 0 (S.take 0) = lo := by rw [last_zero]; omega
    rw [e]
    exact rmoved_first w A cap S x lo hi q h hl hq h0 ⟨by omega, by omega⟩
  · have hk : k < S.length := by
      rcases Nat.lt_or_ge k S.length with h2 | h2
      · exact h2
      · rw [List.getElem?_eq_none h2] at hq; cases hq
    obtain ⟨p, hp, e⟩ := take_last (S := S) h1 (by omega)
    have hpb := spots_at hs hp
    rw [e]
    exact rmoved_in w A cap S k x lo hi p q h hl h1 hp hq l0 h0 ⟨by omega, by omega⟩ ⟨by omega, by omega⟩
/-- A spot behind all those of another list. -/
theorem rmoved_ge (w : World) (A : Option Addr) (cap : Nat) (S : List SpotV) (n : Int) (x lo hi a b : Int) (h : Spts w A S) (hl : S.length ≤ 200) (hs : SpotsP 0 n S) (hn : n ≤ 4611686018427387904)
    (l0 : 0 ≤ lo ∧ lo ≤ 4611686018427387904) (h0 : 0 ≤ hi ∧ hi ≤ 4611686018427387904) (ha : lo + lastLo 0 (S.take S.length) = a) (hb : hi + totS S = b) :
    Calls Try.prog 34 #[.agg #[.int .i64 x, .int .u64 lo, .int .u64 hi], .slice A S.length cap, .int .i64 S.length] w fun e w' => e = .returned (.agg #[.int .i64 x, .int .u64 a, .int .u64 b]) ∧ Below w.heap.size w w' := by
  subst ha hb
  rcases Nat.eq_zero_or_pos S.length with h1 | h1
  · have hS := List.eq_nil_of_length_eq_zero h1
    subst hS
    have e1 : lo + lastLo 0 (([] : List SpotV).take ([] : List SpotV).length) = lo := by show lo + 0 = lo; omega
    have e2 : hi + totS [] = hi := by rw [totS_nil]; omega
    rw [e1, e2]
    exact rmoved_none w A cap x lo hi h0
  · obtain ⟨p, hp, e⟩ := take_last (S := S) h1 (Nat.le_refl _)
    have hpb := spots_at hs hp
    have e2 : totS S = p.lo := by rw [← last_tot, e]
    rw [e, e2]
    exact rmoved_end w A cap S S.length x lo hi p h hl h1 rfl hp l0 h0 ⟨by omega, by omega⟩

set_option maxRecDepth 100000 in
set_option maxHeartbeats 4000000 in
theorem rmerge18_any (w : World) (A B : Option Addr) (ca cb : Nat) (S T : List SpotV) (na nb : Int) (hA : Spts w A S) (hB : Spts w B T) (ls : S.length ≤ 100) (lt : T.length ≤ 100) (hs : SpotsP 0 na S) (ht : SpotsP 0 nb T) (ha : na ≤ 4611686018427387904) (hb : nb ≤ 4611686018427387904) :
    Calls Try.prog 18 #[.slice A S.length ca, .slice B T.length cb] w fun e w' => ∃ v, e = .returned v ∧ OwnSp w' w.heap.size v (mergeS S T) ∧ Below w.heap.size w w' := by
  have HA := Lib.hid hA
  have HB := Lib.hid hB
  have HS := Lib.hid hs
  have HT := Lib.hid ht
  have HLA := Lib.hid ls
  have HLB := Lib.hid lt
  have HNA := Lib.hid ha
  have HNB := Lib.hid hb
  clear hA hB hs ht ha hb
  go_enter Try.func18, Try.ntmps18
  go_wp2_with fail
  go_loopw [5, 6, 7] (fun s iv kv wr => ∃ (i k : Nat) (M : List SpotV), i ≤ S.length ∧ k ≤ T.length ∧ iv = .int .i64 i ∧ kv = .int .i64 k ∧ M.length = i + k ∧ M ++ leftS S T i k = mergeS S T ∧ OwnSp wr w.heap.size s M ∧ Below w.heap.size w wr) (fun _ iv kv _ => (S.length - (intOf iv).toNat) + (T.length - (intOf kv).toNat))
  case atStart => exact ⟨0, 0, [], Nat.zero_le _, Nat.zero_le _, rfl, rfl, rfl, by rw [List.nil_append, left_all], OwnSp.nil _ _, Below.refl _ _⟩
  case round =>
    obtain ⟨i, k, M, hi, hk, rfl, rfl, hm, he, hown, hb2⟩ := hrel
    have hbs := hb2.size
    have HE := Lib.hid he
    have HM := Lib.hid hm
    obtain ⟨vA, vk, rfl⟩ := hown.form
    have HO := Lib.hid hown
    have HW := Lib.hid hb2
    have HBS := Lib.hid hbs
    clear hown he hm
    by_cases h1 : k < T.length
    · by_cases h2 : i < S.length
      · have hsi : S[i]? = some S[i] := List.getElem?_eq_getElem h2
        have htk : T[k]? = some T[k] := List.getElem?_eq_getElem h1
        generalize hes : S[i] = s at *
        generalize het : T[k] = t at *
        obtain ⟨sx, sl, sh⟩ := s
        obtain ⟨tx, tl, th⟩ := t
        obtain ⟨b0, off, rfl, hbl, c0, c1, c2⟩ := (HA.out.call hb2).at_ i _ hsi
        obtain ⟨b1, off', rfl, hbl', d0, d1, d2⟩ := (HB.out.call hb2).at_ k _ htk
        simp only at c0 c1 c2 d0 d1 d2
        have bs0 := spots_at HS.out hsi
        have bt0 := spots_at HT.out htk
        simp only at bs0 bt0
        have bs := Lib.hid bs0
        have bt := Lib.hid bt0
        clear bs0 bt0
        have HSI := Lib.hid hsi
        have HTK := Lib.hid htk
        have q1 : (i : Int) < S.length := by omega
        have q2 : (k : Int) < T.length := by omega
        have q3 : ((k : Int) == T.length) = false := by rw [beq_eq_false_iff_ne]; omega
        have HI := Lib.hid hi
        have HK := Lib.hid hk
        have H1 := Lib.hid h1
        have H2 := Lib.hid h2
        have q4 : decide ((i : Int) < S.length) = true := decide_eq_true q1
        clear hsi htk hes het
        by_cases hx : sx ≤ tx
        · have q5 : decide (sx ≤ tx) = true := decide_eq_true hx
          obtain ⟨a, ha⟩ : ∃ a, sl + lastLo 0 (T.take k) = a := ⟨_, rfl⟩
          obtain ⟨b, hb⟩ : ∃ b, sh + th - 1 = b := ⟨_, rfl⟩
          have HMV : Hid (∀ W, Below w.heap.size w W → Calls Try.prog 34 #[.agg #[.int .i64 sx, .int .u64 sl, .int .u64 sh], .slice (some ⟨b1, off', none⟩) T.length cb, .int .i64 k] W fun e w' => e = .returned (.agg #[.int .i64 sx, .int .u64 a, .int .u64 b]) ∧ Below W.heap.size W w') := Lib.hid fun W hW =>
            rmoved_lt W (some ⟨b1, off', none⟩) cb T nb k sx sl sh a b ⟨tx, tl, th⟩ (HB.out.call hW) (by have := HLB.out; omega) HT.out HNB.out HTK.out (by have := bs.out; have := HNA.out; exact ⟨by omega, by omega⟩) (by have := bs.out; have := HNA.out; exact ⟨by omega, by omega⟩) ha hb
          have HNX : Hid (M ++ [⟨sx, a, b⟩] ++ leftS S T (i + 1) (k) = mergeS S T) := Lib.hid (by
            rw [← HE.out, left_le HSI.out HTK.out hx, List.append_assoc, ← ha, ← hb]; rfl)
          clear ha hb
          go_wp2_with fail
          go_quiet (fail)
          rename_i nq
          have HW2 := Lib.hid (below_drewT HW.out nq)
          have HO2 := Lib.hid (HO.out.call (below_drewT (Below.refl _ _) nq))
          go_wp2_with fail
          refine (HMV.out _ HW2.out).mono ?_
          rintro e w3 ⟨rfl, hb3⟩
          have HO3 := Lib.hid (HO2.out.call hb3)
          have HW3 := Lib.hid (HW2.out.trans (hb3.mono HW2.out.size))
          clear hb3
          go_wp2_with (at_builtin; refine wpList_append_sp rfl _ _ rfl w.heap.size _ _ (i + k) ?alt0 w3.heap.size ⟨sx, a, b⟩ rfl (HO3.out.alloc _) rfl ?alt1 ?alt2 ?alt3 ?alt4 ?alt5 ?_)
          case alt0 => exact HM.out
          case alt4 => have := HLA.out; have := HLB.out; omega
          case alt5 => have := HW3.out.size; simp; omega
          intro g' cp w5 hown' hgrow _
          have hb4 := OwnSp.below (HO3.out.alloc _) (HW3.out.alloc HW3.out.size _) hgrow (by have := HW3.out.size; simp; omega)
          clear hgrow
          go_wp2_with fail
          go_roundw
          case rel => exact ⟨i + 1, k, _, by omega, by omega, by go_num, by go_num, by rw [List.length_append, HM.out, List.length_singleton]; omega, HNX.out, hown', hb4⟩
          case measure => simp [intOf]; omega
        · have q5 : decide (sx ≤ tx) = false := decide_eq_false hx
          obtain ⟨a, ha⟩ : ∃ a, tl + lastLo 0 (S.take i) = a := ⟨_, rfl⟩
          obtain ⟨b, hb⟩ : ∃ b, th + sh - 1 = b := ⟨_, rfl⟩
          have HMV : Hid (∀ W, Below w.heap.size w W → Calls Try.prog 34 #[.agg #[.int .i64 tx, .int .u64 tl, .int .u64 th], .slice (some ⟨b0, off, none⟩) S.length ca, .int .i64 i] W fun e w' => e = .returned (.agg #[.int .i64 tx, .int .u64 a, .int .u64 b]) ∧ Below W.heap.size W w') := Lib.hid fun W hW =>
            rmoved_lt W (some ⟨b0, off, none⟩) ca S na i tx tl th a b ⟨sx, sl, sh⟩ (HA.out.call hW) (by have := HLA.out; omega) HS.out HNA.out HSI.out (by have := bt.out; have := HNB.out; exact ⟨by omega, by omega⟩) (by have := bt.out; have := HNB.out; exact ⟨by omega, by omega⟩) ha hb
          have HNX : Hid (M ++ [⟨tx, a, b⟩] ++ leftS S T (i) (k + 1) = mergeS S T) := Lib.hid (by
            rw [← HE.out, left_gt HSI.out HTK.out hx, List.append_assoc, ← ha, ← hb]; rfl)
          clear ha hb
          go_wp2_with fail
          go_quiet (fail)
          rename_i nq
          have HW2 := Lib.hid (below_drewT HW.out nq)
          have HO2 := Lib.hid (HO.out.call (below_drewT (Below.refl _ _) nq))
          go_wp2_with fail
          refine (HMV.out _ HW2.out).mono ?_
          rintro e w3 ⟨rfl, hb3⟩
          have HO3 := Lib.hid (HO2.out.call hb3)
          have HW3 := Lib.hid (HW2.out.trans (hb3.mono HW2.out.size))
          clear hb3
          go_wp2_with (at_builtin; refine wpList_append_sp rfl _ _ rfl w.heap.size _ _ (i + k) ?blt0 w3.heap.size ⟨tx, a, b⟩ rfl (HO3.out.alloc _) rfl ?blt1 ?blt2 ?blt3 ?blt4 ?blt5 ?_)
          case blt0 => exact HM.out
          case blt4 => have := HLA.out; have := HLB.out; omega
          case blt5 => have := HW3.out.size; simp; omega
          intro g' cp w5 hown' hgrow _
          have hb4 := OwnSp.below (HO3.out.alloc _) (HW3.out.alloc HW3.out.size _) hgrow (by have := HW3.out.size; simp; omega)
          clear hgrow
          go_wp2_with fail
          go_roundw
          case rel => exact ⟨i, k + 1, _, by omega, by omega, by go_num, by go_num, by rw [List.length_append, HM.out, List.length_singleton]; omega, HNX.out, hown', hb4⟩
          case measure => simp [intOf]; omega
      · obtain rfl : i = S.length := by omega
        have hx1 : T[k]? = some T[k] := List.getElem?_eq_getElem h1
        generalize hes : T[k] = s at *
        obtain ⟨tx, tl, th⟩ := s
        obtain ⟨b0, off, rfl, hbl, c0, c1, c2⟩ := (HB.out.call hb2).at_ k _ hx1
        simp only at c0 c1 c2
        have bs0 := spots_at HT.out hx1
        simp only at bs0
        have bs := Lib.hid bs0
        clear bs0
        have HX1 := Lib.hid hx1
        have q1 : (k : Int) < T.length := by omega
        have q2 : ¬ (S.length : Int) < S.length := by omega
        have q3 : ((k : Int) == T.length) = false := by rw [beq_eq_false_iff_ne]; omega
        have q4 : decide ((S.length : Int) < S.length) = false := decide_eq_false q2
        clear hx1 hes
        obtain ⟨a, ha⟩ : ∃ a, tl + lastLo 0 (S.take S.length) = a := ⟨_, rfl⟩
        obtain ⟨b, hb⟩ : ∃ b, th + totS S = b := ⟨_, rfl⟩
        have HMV : Hid (∀ W, Below w.heap.size w W → Calls Try.prog 34 #[.agg #[.int .i64 tx, .int .u64 tl, .int .u64 th], .slice A S.length ca, .int .i64 S.length] W fun e w' => e = .returned (.agg #[.int .i64 tx, .int .u64 a, .int .u64 b]) ∧ Below W.heap.size W w') := Lib.hid fun W hW =>
          rmoved_ge W A ca S na tx tl th a b (HA.out.call hW) (by have := HLA.out; omega) HS.out HNA.out (by have := bs.out; have := HNB.out; exact ⟨by omega, by omega⟩) (by have := bs.out; have := HNB.out; exact ⟨by omega, by omega⟩) ha hb
        have HNX : Hid (M ++ [⟨tx, a, b⟩] ++ leftS S T (S.length) (k + 1) = mergeS S T) := Lib.hid (by
          rw [← HE.out, left_b HX1.out, List.append_assoc, ← ha, ← hb]; rfl)
        clear ha hb
        go_wp2_with fail
        go_quiet (fail)
        rename_i nq
        have HW2 := Lib.hid (below_drewT HW.out nq)
        have HO2 := Lib.hid (HO.out.call (below_drewT (Below.refl _ _) nq))
        go_wp2_with fail
        refine (HMV.out _ HW2.out).mono ?_
        rintro e w3 ⟨rfl, hb3⟩
        have HO3 := Lib.hid (HO2.out.call hb3)
        have HW3 := Lib.hid (HW2.out.trans (hb3.mono HW2.out.size))
        clear hb3
        go_wp2_with (at_builtin; refine wpList_append_sp rfl _ _ rfl w.heap.size _ _ (S.length + k) ?bge0 w3.heap.size ⟨tx, a, b⟩ rfl (HO3.out.alloc _) rfl ?bge1 ?bge2 ?bge3 ?bge4 ?bge5 ?_)
        case bge0 => exact HM.out
        case bge4 => have := HLA.out; have := HLB.out; omega
        case bge5 => have := HW3.out.size; simp; omega
        intro g' cp w5 hown' hgrow _
        have hb4 := OwnSp.below (HO3.out.alloc _) (HW3.out.alloc HW3.out.size _) hgrow (by have := HW3.out.size; simp; omega)
        clear hgrow
        go_wp2_with fail
        go_roundw
        case rel => exact ⟨S.length, k + 1, _, by omega, by omega, by go_num, by go_num, by rw [List.length_append, HM.out, List.length_singleton]; omega, HNX.out, hown', hb4⟩
        case measure => simp [intOf]; omega
    · obtain rfl : k = T.length := by omega
      by_cases h2 : i < S.length
      · have hx1 : S[i]? = some S[i] := List.getElem?_eq_getElem h2
        generalize hes : S[i] = s at *
        obtain ⟨sx, sl, sh⟩ := s
        obtain ⟨b0, off, rfl, hbl, c0, c1, c2⟩ := (HA.out.call hb2).at_ i _ hx1
        simp only at c0 c1 c2
        have bs0 := spots_at HS.out hx1
        simp only at bs0
        have bs := Lib.hid bs0
        clear bs0
        have HX1 := Lib.hid hx1
        have q1 : (i : Int) < S.length := by omega
        have q2 : ¬ (T.length : Int) < T.length := by omega
        have q3 : ((T.length : Int) == T.length) = true := by simp
        clear hx1 hes
        obtain ⟨a, ha⟩ : ∃ a, sl + lastLo 0 (T.take T.length) = a := ⟨_, rfl⟩
        obtain ⟨b, hb⟩ : ∃ b, sh + totS T = b := ⟨_, rfl⟩
        have HMV : Hid (∀ W, Below w.heap.size w W → Calls Try.prog 34 #[.agg #[.int .i64 sx, .int .u64 sl, .int .u64 sh], .slice B T.length cb, .int .i64 T.length] W fun e w' => e = .returned (.agg #[.int .i64 sx, .int .u64 a, .int .u64 b]) ∧ Below W.heap.size W w') := Lib.hid fun W hW =>
          rmoved_ge W B cb T nb sx sl sh a b (HB.out.call hW) (by have := HLB.out; omega) HT.out HNB.out (by have := bs.out; have := HNA.out; exact ⟨by omega, by omega⟩) (by have := bs.out; have := HNA.out; exact ⟨by omega, by omega⟩) ha hb
        have HNX : Hid (M ++ [⟨sx, a, b⟩] ++ leftS S T (i + 1) (T.length) = mergeS S T) := Lib.hid (by
          rw [← HE.out, left_a HX1.out, List.append_assoc, ← ha, ← hb]; rfl)
        clear ha hb
        go_wp2_with fail
        go_quiet (fail)
        rename_i nq
        have HW2 := Lib.hid (below_drewT HW.out nq)
        have HO2 := Lib.hid (HO.out.call (below_drewT (Below.refl _ _) nq))
        go_wp2_with fail
        refine (HMV.out _ HW2.out).mono ?_
        rintro e w3 ⟨rfl, hb3⟩
        have HO3 := Lib.hid (HO2.out.call hb3)
        have HW3 := Lib.hid (HW2.out.trans (hb3.mono HW2.out.size))
        clear hb3
        go_wp2_with (at_builtin; refine wpList_append_sp rfl _ _ rfl w.heap.size _ _ (i + T.length) ?age0 w3.heap.size ⟨sx, a, b⟩ rfl (HO3.out.alloc _) rfl ?age1 ?age2 ?age3 ?age4 ?age5 ?_)
        case age0 => exact HM.out
        case age4 => have := HLA.out; have := HLB.out; omega
        case age5 => have := HW3.out.size; simp; omega
        intro g' cp w5 hown' hgrow _
        have hb4 := OwnSp.below (HO3.out.alloc _) (HW3.out.alloc HW3.out.size _) hgrow (by have := HW3.out.size; simp; omega)
        clear hgrow
        go_wp2_with fail
        go_roundw
        case rel => exact ⟨i + 1, T.length, _, by omega, by omega, by go_num, by go_num, by rw [List.length_append, HM.out, List.length_singleton]; omega, HNX.out, hown', hb4⟩
        case measure => simp [intOf]; omega
      · obtain rfl : i = S.length := by omega
        have HF : Hid (M = mergeS S T) := Lib.hid (by rw [← HE.out, left_none, List.append_nil])
        have q1 : ¬ (S.length : Int) < S.length := by omega
        have q2 : ¬ (T.length : Int) < T.length := by omega
        go_wp2_with fail
        go_ret
        exact ⟨_, rfl, by rw [← HF.out]; exact HO.out, hb2⟩
end Go.Proofs.Ytjmkkglmckiknaa
