/-
  The law RunsJoins, walked.
-/
import Derived.Test.YtllnbbfeplgjjaaPairJ
import Derived.Test.YtllnbbfeplgjjaaRunsB
namespace Go.Proofs.Ytllnbbfeplgjjaa
set_option linter.unusedVariables false
set_option linter.unusedSimpArgs false
open Go.RowKit

theorem OwnP.mono' {w : World} {base base' : Nat} {v : Value} {L : List PairV} (h : OwnP w base v L) (hb : base' ≤ base) : OwnP w base' v L := World.ownsRow.mono h hb
/-- Rows that the law goes on with. -/
def Fine (Q : List RowV) : Prop := ∀ r, r ∈ Q → r.l.length ≤ 40 ∧ GoodP r.l ∧ (∀ p, p ∈ r.l → okP p ∧ p.2 ≤ 1099511627776)
theorem fine_nil : Fine [] := fun r h => by cases h
theorem fine_snoc {Q : List RowV} {r : RowV} (h : Fine Q) (h1 : r.l.length ≤ 40) (h2 : GoodP r.l) (h3 : ∀ p, p ∈ r.l → okP p ∧ p.2 ≤ 1099511627776) : Fine (Q ++ [r]) := fun x hx => by
  rcases List.mem_append.1 hx with hx | hx
  · exact h x hx
  · simp at hx; subst hx; exact ⟨h1, h2, h3⟩
theorem fine_all {Q : List RowV} (h : Fine Q) : ∀ p, p ∈ allP Q → okP p ∧ p.2 ≤ 1099511627776 := fun p hp => by
  obtain ⟨r, hr, hq⟩ := all_mem hp
  exact (h r hr).2.2 p hq
theorem fine_len {Q : List RowV} (h : Fine Q) : (allP Q).length ≤ 40 * Q.length := all_len Q 40 fun r hr => (h r hr).1
def bytesR (Q : List RowV) : List UInt8 := Q.flatMap fun r => rowB r.l
theorem bytesR_snoc (Q : List RowV) (r : RowV) : bytesR (Q ++ [r]) = bytesR Q ++ rowB r.l := by unfold bytesR; rw [List.flatMap_append]; simp
theorem bytesR_len : ∀ (Q : List RowV), Fine Q → (bytesR Q).length ≤ 810 * Q.length := by
  intro Q
  induction Q with
  | nil => intro _; exact Nat.zero_le _
  | cons r t ih =>
    intro h
    have h1 := h r (by simp)
    have h2 := ih fun x hx => h x (List.mem_cons_of_mem _ hx)
    have h3 := rowB_len (fun p hp => (h1.2.2 p hp).1) (by omega)
    unfold bytesR at *
    rw [List.flatMap_cons, List.length_append, List.length_cons]; omega
theorem rev_at {R : List RowV} {k : Nat} (hk : k < R.length) : R.reverse[k]? = R[R.length - 1 - k]? := by rw [List.getElem?_reverse hk]
theorem OwnS.below {a w w' : World} {base : Nat} {v : Value} {R : List RowV} (h : OwnS w base v R) (hb : Below base a w) (hg : w.grownBy w' v.ownBlock) (hs : base ≤ w.heap.size) : Below base a w' := hb.grown hg hs (fun k hk => (h.lt k hk).1)

set_option maxRecDepth 100000 in
set_option maxHeartbeats 4000000 in
theorem rjoins_walk (CP : PutDoes) (CG : GoodDoes) (CJ : JoinDoes) (w : World) (A : Option Addr) (cap : Nat) (R : List RowV) (h : Rows2 w A R) (hl : R.length ≤ 140737488351232) :
    Calls Try.prog 5 #[.slice A R.length cap] w fun e w' => e = .returned (.bool true) ∧ Below w.heap.size w w' := by
  have HI := Lib.hid h
  have HP := Lib.hid CP
  have HG := Lib.hid CG
  have HJ := Lib.hid CJ
  clear CP CG CJ h
  by_cases hll : R.length ≤ 10
  · have q0 : ¬ (10 : Int) < R.length := by omega
    go_enter Try.func5, Try.ntmps5
    go_wp2_with fail
    refine (ralive_any HP.out HG.out _).mono ?_
    rintro e w0 ⟨rfl, b0⟩
    go_wp2_with fail
    go_loopw [3, 4, 5, 22] (fun a b s j wr => ∃ (k : Nat) (t : ByteArray), k ≤ R.length ∧ j = .int .i64 k ∧ s = .string t ∧ t.data.toList = bytesR (R.take k) ∧ OwnP wr w.heap.size a (foldP (allP (R.take k))) ∧ OwnS wr w.heap.size b (R.reverse.take k) ∧ Fine (R.take k) ∧ Below w.heap.size w wr) (fun _ _ _ j _ => R.length - (intOf j).toNat)
    case atStart => exact ⟨0, ⟨#[]⟩, Nat.zero_le _, rfl, rfl, rfl, OwnP.nil _ _, OwnS.nil _ _, fine_nil, b0⟩
    case round =>
      clear b0
      obtain ⟨k, t, hk, rfl, rfl, ht, hu, hv, hfine, hb2⟩ := hrel
      have hbs := hb2.size
      have HT := Lib.hid ht
      have HU := Lib.hid hu
      have HV := Lib.hid hv
      have HFI := Lib.hid hfine
      have htz : t.size ≤ 8100 := by
        rw [Lib.size_eq, ht]; have h1 := bytesR_len _ hfine; rw [List.length_take] at h1; omega
      clear ht hu hv hfine
      by_cases hlt : k < R.length
      · have kk : (k : Int) < R.length := by omega
        have hxk : R[k]? = some R[k] := List.getElem?_eq_getElem hlt
        generalize hit : R[k] = r at *
        obtain ⟨ra, rc, rl⟩ := r
        obtain ⟨b1, off, rfl, hbl, c0⟩ := (HI.out.call hb2).at_ k _ hxk
        have hmem := List.mem_of_getElem? hxk
        obtain ⟨hpr, hrl⟩ := HI.out.each _ hmem
        have HPR := Lib.hid hpr
        have HXK := Lib.hid hxk
        simp only at c0 hrl HPR
        clear hxk hit hmem hpr
        by_cases h40 : (40 : Int) < rl.length
        · go_wp2_with fail
          go_ret
          exact ⟨rfl, hb2⟩
        · obtain ⟨g, hg⟩ : ∃ g, goodB rl = g := ⟨_, rfl⟩
          have HGG := Lib.hid hg
          clear hg
          cases g
          · go_wp2_with fail
            refine (rgood_row _ ra rc rl false HGG.out (HPR.out.call hb2) hrl).mono ?_
            rintro e w3 ⟨rfl, b3⟩
            go_wp2_with fail
            go_ret
            exact ⟨rfl, hb2.trans (b3.mono hbs)⟩
          · have HGD := Lib.hid (goodB_true.1 HGG.out)
            go_wp2_with fail
            refine (rgood_row _ ra rc rl true HGG.out (HPR.out.call hb2) hrl).mono ?_
            rintro e w3 ⟨rfl, b3⟩
            have hb3 := hb2.trans (b3.mono hbs)
            have hbs3 := hb3.size
            have HU3 := Lib.hid (HU.out.call b3)
            have HV3 := Lib.hid (HV.out.call b3)
            have HI3 := Lib.hid (HI.out.call hb3)
            clear b3 HU HV
            go_wp2_with fail
            go_loopw [3, 37] (fun a j wq => ∃ (q : Nat), q ≤ rl.length ∧ j = .int .i64 q ∧ OwnP wq w.heap.size a (foldP (allP (R.take k) ++ rl.take q)) ∧ (∀ p, p ∈ rl.take q → p.2 ≤ 1099511627776) ∧ Below w3.heap.size w3 wq) (fun _ j _ => rl.length - (intOf j).toNat)
            case atStart => exact ⟨0, Nat.zero_le _, rfl, by rw [List.take_zero, List.append_nil]; exact HU3.out, fun p h => by simp at h, Below.refl _ _⟩
            case round =>
              obtain ⟨q, hq, rfl, hu, hsm, hbq⟩ := hrel
              have hbqs := hbq.size
              have hbq' := hb3.trans (hbq.mono hbs3)
              have hbqs' := hbq'.size
              have HUQ := Lib.hid hu
              have HSM := Lib.hid hsm
              clear hu hsm
              have hall : ∀ p, p ∈ allP (R.take k) ++ rl.take q → okP p ∧ p.2 ≤ 1099511627776 := fun p hp => by
                rcases List.mem_append.1 hp with h | h
                · exact fine_all HFI.out p h
                · exact ⟨HPR.out.ok p (List.mem_of_mem_take h), HSM.out p h⟩
              have hlen : (allP (R.take k) ++ rl.take q).length ≤ 500 := by
                have h1 := fine_len HFI.out
                rw [List.length_take] at h1
                rw [List.length_append, List.length_take]; omega
              obtain ⟨hs1, hs2⟩ := fold_sums _ hall (by omega)
              have HSU := Lib.hid hs1
              have HALL := Lib.hid hall
              have hlen1 := hs1.len
              have HLEN := Lib.hid hlen
              by_cases hqlt : q < rl.length
              · have kq : (q : Int) < rl.length := by omega
                have hxq : rl[q]? = some rl[q] := List.getElem?_eq_getElem hqlt
                generalize hit : rl[q] = p at *
                obtain ⟨px, pc⟩ := p
                obtain ⟨b2, off2, rfl, hbl2, d0, d1⟩ := (HPR.out.call hbq').at_ q _ hxq
                have hok := HPR.out.ok _ (List.mem_of_getElem? hxq)
                have HOK := Lib.hid hok
                have HFS : Hid (foldP (allP (R.take k) ++ rl.take (q + 1)) = addP (foldP (allP (R.take k) ++ rl.take q)) px pc) := Lib.hid (by rw [take_snocP hxq, ← List.append_assoc, fold_snoc])
                have HTQ : Hid (pc ≤ 1099511627776 → ∀ p, p ∈ rl.take (q + 1) → p.2 ≤ 1099511627776) := Lib.hid (fun h p hp => by
                  rw [take_snocP hxq] at hp
                  rcases List.mem_append.1 hp with hp | hp
                  · exact HSM.out p hp
                  · simp at hp; subst hp; exact h)
                obtain ⟨⟨o1, o2⟩, o3, o4⟩ := hok
                simp only at d0 d1 o1 o2 o3 o4
                obtain ⟨R1, hR1⟩ : ∃ R1, foldP (allP (R.take k) ++ rl.take q) = R1 := ⟨_, rfl⟩
                rw [hR1] at HUQ HFS HSU hlen1
                clear hxq hit hs1 hs2 hall hlen hR1
                by_cases hbig : 1099511627776 < pc
                · go_wp2_with fail
                  go_ret
                  exact ⟨rfl, hbq'.alloc hbqs' _⟩
                · obtain ⟨n, hn⟩ : ∃ n, countP R1 px + pc = n := ⟨_, rfl⟩
                  have HN := Lib.hid hn
                  have HNL : Hid (n < 18446744073709551616) := Lib.hid (by have := HSU.out.cnt px; have := HLEN.out; omega)
                  have HTQ2 := Lib.hid (HTQ.out (by omega))
                  obtain ⟨A3, c3, rfl, hP3⟩ := HUQ.out.pairs HSU.out.ok
                  have HP3 := Lib.hid hP3
                  have hR1l : R1.length ≤ 1000 := by have := HLEN.out; omega
                  clear hn hP3 HTQ
                  go_wp2_with fail
                  refine (radd_any _ A3 c3 R1 px pc n (HP3.out.call ((Below.refl _ _).alloc (Nat.le_refl _) _)) hR1l HOK.out.1 HOK.out.2 HN.out HNL.out).mono ?_
                  rintro e w5 ⟨v5, rfl, ho5, hb5⟩
                  have ho6 := ho5.mono' (show w.heap.size ≤ _ by simp; omega)
                  rw [← HFS.out] at ho6
                  have hb6 := (hbq.alloc hbqs _).trans (hb5.mono (by simp; omega))
                  clear ho5 hb5 d0 d1
                  go_wp2_with fail
                  go_roundw
                  case rel => exact ⟨q + 1, by omega, by go_num, ho6, HTQ2.out, hb6⟩
                  case measure => simp [intOf]; omega
              · obtain rfl : q = rl.length := by omega
                have kq : ¬ (rl.length : Int) < rl.length := by omega
                rw [List.take_length] at HUQ HSM HALL
                have HTK := Lib.hid (take_snocP HXK.out)
                have HFK : Hid (foldP (allP (R.take k) ++ rl) = foldP (allP (R.take (k + 1)))) := Lib.hid (by rw [HTK.out, allP_app, allP_one])
                have HFN : Hid (Fine (R.take (k + 1))) := Lib.hid (by
                  rw [HTK.out]
                  exact fine_snoc HFI.out (by show rl.length ≤ 40; omega) HGD.out (fun p hp => ⟨HPR.out.ok p hp, HSM.out p hp⟩))
                rw [HFK.out] at HUQ
                have HV4 := Lib.hid (HV3.out.call hbq)
                obtain ⟨u, hu⟩ : ∃ u, R.length - 1 - k = u := ⟨_, rfl⟩
                have hxu : R[u]? = some R[u] := List.getElem?_eq_getElem (by omega)
                generalize hiu : R[u] = r2 at *
                have HRK : Hid (R.reverse.take k ++ [r2] = R.reverse.take (k + 1)) := Lib.hid (by
                  refine (take_snocP ?_).symm
                  rw [rev_at hlt, hu]; exact hxu)
                obtain ⟨r2a, r2c, r2l⟩ := r2
                obtain ⟨b2, off2, ea, hbl2, d0⟩ := (HI.out.call hbq').at_ u _ hxu
                obtain ⟨rfl, rfl⟩ : b1 = b2 ∧ off = off2 := by
                  have := Option.some.inj ea
                  exact ⟨(Addr.mk.inj this).1, (Addr.mk.inj this).2.1⟩
                simp only at d0
                have u1 : (R.length : Int) - 1 - (k : Int) = (u : Int) := by omega
                have u2 : (u : Int) < R.length := by omega
                have hRl : (R.reverse.take k).length ≤ 10 := by rw [List.length_take, List.length_reverse]; omega
                obtain ⟨A4, c4, rfl⟩ := HV4.out.form
                obtain ⟨f, hf⟩ : ∃ f : ByteArray, f.data.toList = rowB rl := ⟨⟨(rowB rl).toArray⟩, rfl⟩
                have HF := Lib.hid hf
                have hfz : f.size ≤ 810 := by rw [Lib.size_eq, hf]; have := rowB_len HPR.out.ok (by omega); omega
                have HTF : Hid ((t ++ f).data.toList = bytesR (R.take (k + 1))) := Lib.hid (by rw [HTK.out, bytesR_snoc, app_str, HT.out, hf])
                generalize hRR : R.reverse.take k = RR at *
                have HRR := Lib.hid hRR
                clear hs1 hs2 hall hlen hu hxu hiu ea HV3 hf hRR
                go_wp2_with (at_builtin; refine wpList_append_row rfl _ _ rfl w.heap.size _ _ wr.heap.size ⟨r2a, r2c, r2l⟩ rfl (HV4.out.alloc _) rfl ?g1 ?g2 ?g3 ?_)
                case g2 => omega
                case g3 => first | omega | (simp; omega)
                intro v6 w6 hown6 hg6
                rw [HRK.out] at hown6
                have hb6 := OwnS.below (HV4.out.alloc _) (hbq'.alloc hbqs' _) hg6 (by simp; omega)
                have hbs6 := hb6.size
                have hu6 := OwnP.other (HUQ.out.alloc _) hg6 (own_apart HUQ.out HV4.out)
                have HO6 := Lib.hid hown6
                have HU6 := Lib.hid hu6
                have HP6 := Lib.hid (HPR.out.call hb6)
                clear hg6 hown6 hu6 d0
                go_wp2_with fail
                refine (rbytes_any _ ra rc rl f HF.out HP6.out (by omega)).mono ?_
                rintro e w7 ⟨rfl, hb7⟩
                have hb8 := hb6.trans (hb7.mono hbs6)
                have ho7 := HO6.out.call hb7
                have hu7 := HU6.out.call hb7
                clear hb7
                go_wp2_with fail
                go_roundw
                case rel => exact ⟨k + 1, t ++ f, by omega, by go_num, rfl, HTF.out, hu7, ho7, HFN.out, hb8⟩
                case measure => simp [intOf]; omega
      · obtain rfl : k = R.length := by omega
        have kk : ¬ (R.length : Int) < R.length := by omega
        have hrev : R.reverse.take R.length = R.reverse := by rw [← List.length_reverse, List.take_length]
        rw [List.take_length] at HU HFI HT
        rw [hrev] at HV
        have HR2 := Lib.hid (HI.out.call hb2)
        have hgood : ∀ r, r ∈ R → GoodP r.l ∧ r.l.length ≤ 100 := fun r hr => ⟨(HFI.out r hr).2.1, by have := (HFI.out r hr).1; omega⟩
        have HGO := Lib.hid hgood
        have hal : (allP R).length ≤ 1000 := by have := fine_len HFI.out; omega
        have HAL := Lib.hid hal
        have HREV := Lib.hid (fold_rev (fine_all HFI.out) hal)
        have HSU := Lib.hid (fold_sums _ (fine_all HFI.out) hal).1
        have hfineR : Fine R.reverse := fun r hr => HFI.out r (List.mem_reverse.1 hr)
        have halr : (allP R.reverse).length ≤ 1000 := by have := fine_len hfineR; rw [List.length_reverse] at this; omega
        have HFR := Lib.hid hfineR
        have HALR := Lib.hid halr
        have hFl : (foldP (allP R)).length ≤ 1000 := by have := HSU.out.len; omega
        obtain ⟨F, hF⟩ : ∃ F, foldP (allP R) = F := ⟨_, rfl⟩
        have HFF := Lib.hid hF
        rw [hF] at HU HSU HREV hFl
        clear hrev hgood hal hfineR halr hF
        go_wp2_with fail
        refine (HJ.out _ _ cap R HR2.out (by omega) HGO.out (fine_all HFI.out) HAL.out).mono ?_
        rintro e w3 ⟨va, rfl, hoa, hb3⟩
        rw [HFF.out] at hoa
        have hb4 := hb2.trans (hb3.mono hbs)
        have hbs4 := hb4.size
        have HOA := Lib.hid (hoa.mono' (show w.heap.size ≤ _ by omega))
        have HU4 := Lib.hid (HU.out.call hb3)
        have HV4 := Lib.hid (HV.out.call hb3)
        have HR4 := Lib.hid (HR2.out.call hb3)
        obtain ⟨A4, c4, rfl, hR5⟩ := HV4.out.rows (fun r hr => HR4.out.each r (List.mem_reverse.1 hr))
        have HR5 := Lib.hid hR5
        clear hoa hb3 HU HV hR5
        go_wp2_with fail
        have HJ2 := HJ.out w3 A4 c4 R.reverse HR5.out (by rw [List.length_reverse]; omega) (fun r hr => HGO.out r (List.mem_reverse.1 hr)) (fine_all HFR.out) HALR.out
        rw [List.length_reverse] at HJ2
        refine HJ2.mono ?_
        rintro e w5 ⟨vb, rfl, hob, hb5⟩
        rw [HREV.out] at hob
        have hb6 := hb4.trans (hb5.mono hbs4)
        have hbs6 := hb6.size
        have HOB := Lib.hid (hob.mono' (show w.heap.size ≤ _ by omega))
        have HOA6 := Lib.hid (HOA.out.call hb5)
        have HU6 := Lib.hid (HU4.out.call hb5)
        have HR6 := Lib.hid (HR4.out.call hb5)
        clear hob hb5 HOA HU4 HV4 HR4 HR5 HJ2 HR2
        go_wp2_with fail
        go_loopw [12, 73] (fun s j wz => ∃ (q : Nat) (z : ByteArray), q ≤ R.length ∧ j = .int .i64 q ∧ s = .string z ∧ z.data.toList = bytesR (R.take q) ∧ Below w5.heap.size w5 wz) (fun _ j _ => R.length - (intOf j).toNat)
        case atStart => exact ⟨0, ⟨#[]⟩, Nat.zero_le _, rfl, rfl, rfl, Below.refl _ _⟩
        case round =>
          obtain ⟨q, z, hq, rfl, rfl, hz, hbz⟩ := hrel
          have hbzs := hbz.size
          have HZ := Lib.hid hz
          have hzz : z.size ≤ 8100 := by
            have h1 := bytesR_len (R.take q) (fun r hr => HFI.out r (List.mem_of_mem_take hr))
            rw [List.length_take] at h1
            rw [Lib.size_eq, hz]; omega
          clear hz
          by_cases hqlt : q < R.length
          · have kq : (q : Int) < R.length := by omega
            have hxq : R[q]? = some R[q] := List.getElem?_eq_getElem hqlt
            generalize hit : R[q] = r at *
            have HTK := Lib.hid (take_snocP hxq)
            obtain ⟨ra, rc, rl⟩ := r
            have hmem := List.mem_of_getElem? hxq
            obtain ⟨b1, off, rfl, hbl, c0⟩ := (HR6.out.call hbz).at_ q _ hxq
            obtain ⟨hpr, hrl⟩ := (HR6.out.call hbz).each _ hmem
            have HPR := Lib.hid hpr
            have hfi := HFI.out _ hmem
            obtain ⟨f, hf⟩ : ∃ f : ByteArray, f.data.toList = rowB rl := ⟨⟨(rowB rl).toArray⟩, rfl⟩
            have HF := Lib.hid hf
            have hrl40 : rl.length ≤ 40 := hfi.1
            have hfz : f.size ≤ 810 := by rw [Lib.size_eq, hf]; have h9 := rowB_len (L := rl) (fun p hp => (hfi.2.2 p hp).1) (by omega); omega
            have HTF : Hid ((z ++ f).data.toList = bytesR (R.take (q + 1))) := Lib.hid (by rw [HTK.out, bytesR_snoc, app_str, HZ.out, hf])
            simp only at c0 hrl HPR
            clear hxq hit hmem hpr hfi hf
            go_wp2_with fail
            refine (rbytes_any _ ra rc rl f HF.out HPR.out (by omega)).mono ?_
            rintro e w7 ⟨rfl, hb7⟩
            have hb8 := hbz.trans (hb7.mono hbzs)
            clear hb7
            go_wp2_with fail
            go_roundw
            case rel => exact ⟨q + 1, z ++ f, by omega, by go_num, rfl, HTF.out, hb8⟩
            case measure => simp [intOf]; omega
          · obtain rfl : q = R.length := by omega
            have kq : ¬ (R.length : Int) < R.length := by omega
            have E : z = t := bytes_same' (by have h1 := HZ.out; rw [List.take_length] at h1; rw [h1, HT.out])
            subst E
            have hb8 := hb6.trans (hbz.mono hbs6)
            have hbs8 := hb8.size
            have HOA8 := Lib.hid (HOA6.out.call hbz)
            have HOB8 := Lib.hid (HOB.out.call hbz)
            have HU8 := Lib.hid (HU6.out.call hbz)
            obtain ⟨Aa, ca, rfl, hPa⟩ := HOA8.out.pairs HSU.out.ok
            obtain ⟨Ab, cb, rfl, hPb⟩ := HOB8.out.pairs HSU.out.ok
            obtain ⟨Au, cu, rfl, hPu⟩ := HU8.out.pairs HSU.out.ok
            have HPa := Lib.hid hPa
            have HPb := Lib.hid hPb
            have HPu := Lib.hid hPu
            clear hPa hPb hPu
            go_wp2_with fail
            refine (same_any _ Aa Au ca cu F F true (decide_eq_true rfl) HPa.out HPu.out hFl hFl).mono ?_
            rintro e w9 ⟨rfl, hb9⟩
            have hb10 := hb8.trans (hb9.mono hbs8)
            have hbs10 := hb10.size
            have HPb9 := Lib.hid (HPb.out.call hb9)
            have HPu9 := Lib.hid (HPu.out.call hb9)
            clear hb9
            go_wp2_with fail
            refine (same_any _ Ab Au cb cu F F true (decide_eq_true rfl) HPb9.out HPu9.out hFl hFl).mono ?_
            rintro e w11 ⟨rfl, hb11⟩
            have hb12 := hb10.trans (hb11.mono hbs10)
            clear hb11
            go_wp2_with fail
            go_ret
            exact ⟨rfl, hb12⟩
  · have q0 : (10 : Int) < R.length := by omega
    go_enter Try.func5, Try.ntmps5
    go_wp2_with fail
    refine (ralive_any HP.out HG.out _).mono ?_
    rintro e w0 ⟨rfl, b0⟩
    go_wp2_with fail
    go_ret
    exact ⟨rfl, b0⟩
end Go.Proofs.Ytllnbbfeplgjjaa
