/-
  Walks: the reference's Bytes of rows of pairs.
-/
import Derived.Test.YtllnbbfeplgjjaaPairR
import Derived.Test.YtllnbbfeplgjjaaQuillR
import Derived.Deep.RegionHeld3
namespace Go.Proofs.Ytllnbbfeplgjjaa
set_option linter.unusedVariables false
set_option linter.unusedSimpArgs false
open Go.RowKit

theorem str_mk' {f : ByteArray} {l : List UInt8} (h : f.data.toList = l) : (⟨l.toArray⟩ : ByteArray) = f := by subst h; rfl
theorem rnat_str' (n : Int) (hn : Word n) (r : ByteArray) (hr : r.data.toList = natB n.toNat) (w : World) :
    Calls Try.prog 31 #[.int .u64 n] w fun e w' => e = .returned (.string r) ∧ Below w.heap.size w w' := by
  rw [← str_mk' hr]; exact rnat_any n hn w
theorem rint_str' (x : Int) (hx : I64 x) (r : ByteArray) (hr : r.data.toList = natB (zig x).toNat) (w : World) :
    Calls Try.prog 32 #[.int .i64 x] w fun e w' => e = .returned (.string r) ∧ Below w.heap.size w w' := by
  rw [← str_mk' hr]; exact rint_any x hx w
theorem app_str (a b : ByteArray) : (a ++ b).data.toList = a.data.toList ++ b.data.toList := by rw [ByteArray.data_append]; simp
/-- The bytes of the first k pairs of a row, behind its number. -/
def toB (L : List PairV) (k : Nat) : List UInt8 := natB L.length ++ bodyB (L.take k)
theorem toB_len {L : List PairV} (h : ∀ p, p ∈ L → okP p) (hl : L.length ≤ 1000) (k : Nat) : (toB L k).length ≤ 20010 := by
  unfold toB
  have h1 := natB_len10 (n := L.length) (by omega)
  have h2 := bodyB_len (L := L.take k) (fun p hp => h p (List.mem_of_mem_take hp))
  rw [List.length_take] at h2
  rw [List.length_append]; omega
theorem toB_step {L : List PairV} {k : Nat} {p : PairV} (h : L[k]? = some p) : toB L (k + 1) = toB L k ++ ((if k = 0 then natB (zig p.1).toNat else natB (farP (idxAt L (k - 1)) p.1)) ++ natB p.2.toNat) := by
  unfold toB; rw [body_step h, List.append_assoc]
theorem toB_all (L : List PairV) : toB L L.length = rowB L := by unfold toB rowB; rw [List.take_length]

set_option maxRecDepth 100000 in
set_option maxHeartbeats 2000000 in
theorem rbytes_any (w : World) (A : Option Addr) (cap : Nat) (L : List PairV) (f : ByteArray) (hf : f.data.toList = rowB L) (h : Pairs w A L) (hl : L.length ≤ 1000) :
    Calls Try.prog 16 #[.slice A L.length cap] w fun e w' => e = .returned (.string f) ∧ Below w.heap.size w w' := by
  have HI := Lib.hid h
  have HF := Lib.hid hf
  have HLZ := Lib.hid (toB_len h.ok hl)
  obtain ⟨t0, ht0⟩ : ∃ t : ByteArray, t.data.toList = natB ((L.length : Int)).toNat := ⟨⟨(natB ((L.length : Int)).toNat).toArray⟩, rfl⟩
  have HT0 := Lib.hid ht0
  clear h hf ht0
  go_enter Try.func16, Try.ntmps16
  go_wp2_with fail
  refine (rnat_str' (L.length : Int) ⟨by omega, by omega⟩ t0 HT0.out _).mono ?_
  rintro e w0 ⟨rfl, hb0⟩
  go_wp2_with fail
  go_loopw [3, 12] (fun s j wr => ∃ (k : Nat) (t : ByteArray), k ≤ L.length ∧ j = .int .i64 k ∧ s = .string t ∧ t.data.toList = toB L k ∧ Below w.heap.size w wr) (fun _ j _ => L.length - (intOf j).toNat)
  case atStart => exact ⟨0, t0, Nat.zero_le _, rfl, rfl, by rw [HT0.out, Int.toNat_natCast]; unfold toB; simp [bodyB], hb0⟩
  case round =>
    clear hb0
    obtain ⟨k, t, hk, rfl, rfl, ht, hb2⟩ := hrel
    have HT := Lib.hid ht
    have hbs := hb2.size
    have htz : t.size ≤ 20010 := by rw [Lib.size_eq, ht]; exact HLZ.out k
    clear ht
    by_cases hlt : k < L.length
    · have kk : (k : Int) < L.length := by omega
      have hxk : L[k]? = some L[k] := List.getElem?_eq_getElem hlt
      generalize hit : L[k] = p at *
      obtain ⟨px, pc⟩ := p
      obtain ⟨b0, off, rfl, hbl, c0, c1⟩ := (HI.out.call hb2).at_ k _ hxk
      simp only at c0 c1
      have HS := Lib.hid (toB_step hxk)
      have hok := HI.out.ok _ (List.mem_of_getElem? hxk)
      obtain ⟨hpx, hpc⟩ := hok
      have HPX := Lib.hid hpx
      have HPC := Lib.hid hpc
      obtain ⟨o1, o2⟩ := hpx
      obtain ⟨o3, o4⟩ := hpc
      simp only at HS o1 o2 o3 o4 HPX HPC
      obtain ⟨tc, htc⟩ : ∃ t : ByteArray, t.data.toList = natB pc.toNat := ⟨⟨(natB pc.toNat).toArray⟩, rfl⟩
      have HTC := Lib.hid htc
      have htcz : tc.size ≤ 10 := by rw [Lib.size_eq, htc]; exact natB_len10 (by omega)
      clear hxk hit htc
      by_cases h0 : k = 0
      · subst h0
        obtain ⟨ti, hti⟩ : ∃ t : ByteArray, t.data.toList = natB (zig px).toNat := ⟨⟨(natB (zig px).toNat).toArray⟩, rfl⟩
        have HTI := Lib.hid hti
        have htiz : ti.size ≤ 10 := by rw [Lib.size_eq, hti]; have := zig_word HPX.out; unfold Word at this; exact natB_len10 (by omega)
        have HE : Hid ((t ++ ti ++ tc).data.toList = toB L (0 + 1)) := Lib.hid (by rw [HS.out, if_pos rfl, app_str, app_str, HT.out, hti, HTC.out, List.append_assoc])
        clear hti
        simp only [Nat.zero_mul, Nat.add_zero, Nat.zero_add] at c0 c1
        go_wp2_with fail
        refine (rint_str' px HPX.out ti HTI.out _).mono ?_
        rintro e w1 ⟨rfl, hb1⟩
        have g1 : w1.cell? ⟨wr.heap.size, 1, none⟩ = some (.int .u64 pc) := cell_later hb1 (by go_simp)
        have hb3 := (hb2.alloc hbs _).trans (hb1.mono (by simp; omega))
        have hbs3 := hb3.size
        clear hb1
        go_wp2_with fail
        refine (rnat_str' pc HPC.out tc HTC.out _).mono ?_
        rintro e w2 ⟨rfl, hb4⟩
        have hb5 := hb3.trans (hb4.mono hbs3)
        clear hb4 g1
        go_wp2_with fail
        go_roundw
        case rel => exact ⟨0 + 1, t ++ ti ++ tc, by omega, by go_num, rfl, HE.out, hb5⟩
        case measure => simp [intOf]; omega
      · obtain ⟨u, hu⟩ : ∃ u, k = u + 1 := ⟨k - 1, by omega⟩
        have hxu : L[u]? = some L[u] := List.getElem?_eq_getElem (by omega)
        generalize hiu : L[u] = q at *
        obtain ⟨qx, qc⟩ := q
        obtain ⟨b1, off1, ea, hbl1, d0, d1⟩ := (HI.out.call hb2).at_ u _ hxu
        obtain ⟨rfl, rfl⟩ : b0 = b1 ∧ off = off1 := by
          have := Option.some.inj ea
          exact ⟨(Addr.mk.inj this).1, (Addr.mk.inj this).2.1⟩
        simp only at d0 d1
        have hok := HI.out.ok _ (List.mem_of_getElem? hxu)
        obtain ⟨⟨o5, o6⟩, _⟩ := hok
        simp only at o5 o6
        have hd : idxAt L (k - 1) = qx := by unfold idxAt; rw [hu, Nat.add_sub_cancel, hxu]; rfl
        have hfar : IntKind.u64.wrap (IntKind.u64.wrap (IntKind.u64.wrap px - IntKind.u64.wrap qx) - 1) = (farP qx px : Nat) := by
          simp only [IntKind.wrap_u64]; unfold farP; omega
        obtain ⟨fr, hfr⟩ : ∃ fr : Int, ((farP qx px : Nat) : Int) = fr := ⟨_, rfl⟩
        have hfw : Word fr := by have := farP_lt qx px; unfold Word; omega
        have hfn : natB (farP qx px) = natB fr.toNat := by rw [← hfr, Int.toNat_natCast]
        rw [hfr] at hfar
        obtain ⟨ti, hti⟩ : ∃ t : ByteArray, t.data.toList = natB fr.toNat := ⟨⟨(natB fr.toNat).toArray⟩, rfl⟩
        have HTI := Lib.hid hti
        have htiz : ti.size ≤ 10 := by rw [Lib.size_eq, hti]; unfold Word at hfw; exact natB_len10 (by omega)
        have HE : Hid ((t ++ ti ++ tc).data.toList = toB L (k + 1)) := Lib.hid (by rw [HS.out, if_neg h0, hd, hfn, app_str, app_str, HT.out, hti, HTC.out, List.append_assoc])
        have HFW := Lib.hid hfw
        have u1 : IntKind.i64.wrap ((k : Int) - 1) = (u : Int) := by rw [IntKind.wrap_i64]; omega
        have u2 : (k : Int) - 1 = (u : Int) := by omega
        have u3 : (u : Int) < L.length := by omega
        have u4 : (0 : Int) ≤ (u : Int) := by omega
        have u5 : u < L.length := by omega
        have u6 : IntKind.i64.wrap (u : Int) = (u : Int) := by rw [IntKind.wrap_i64]; omega
        have k1 : ((k : Int) == 0) = false := by simp [h0]
        clear ea hxu hiu h0 hu hti hd hfn hfr hfw
        have hB : Below w.heap.size w (wr.alloc (.cells #[.int .i64 px, .int .u64 pc] 26)) := hb2.alloc hbs _
        have e1 : (wr.alloc (.cells #[.int .i64 px, .int .u64 pc] 26)).cell? ⟨b0, off + u * 2, none⟩ = some (.int .i64 qx) := cell_later ((Below.refl _ _).alloc (Nat.le_refl _) _) d0
        have hS : ∀ w', Below w.heap.size w w' → w.heap.size ≤ w'.heap.size := fun w' h => h.size
        clear d0 d1
        have h7 : ¬ 9223372036854775807 < t.size + ti.size := by omega
        go_wp2_with fail
        clear c0 c1
        go_region_held3 (fun w' => w'.cell? ⟨wr.heap.size, 0, none⟩ = some (.int .i64 px) ∧ w'.cell? ⟨wr.heap.size, 1, none⟩ = some (.int .u64 pc) ∧ w'.cell? ⟨b0, off + u * 2, none⟩ = some (.int .i64 qx) ∧ Below w.heap.size w w')
          (first | exact ⟨by go_simp, by go_simp, e1, hB.drew⟩ | exact ⟨cell_later hbC (by go_simp), cell_later hbC (by go_simp), cell_later hbC e1, hB.drew.trans (hbC.mono (hS _ hB.drew))⟩)
          ((go_at_call 31; refine (rnat_str' fr HFW.out ti HTI.out _).mono ?_; rintro e wC ⟨rfl, hbC⟩))
        have hB3 : Below w.heap.size w wC := hB.drew.trans (hbC.mono (hS _ hB.drew))
        have hbs3 := hB3.size
        have g1 : wC.cell? ⟨wr.heap.size, 1, none⟩ = some (.int .u64 pc) := cell_later hbC (by go_simp)
        rename_i hHeld
        clear hbC hHeld hB e1 hS hfar u1 u2 u6 k1 h7
        go_wp2_with fail
        refine (rnat_str' pc HPC.out tc HTC.out _).mono ?_
        rintro e w2 ⟨rfl, hb4⟩
        have hb5 := hB3.trans (hb4.mono hbs3)
        clear hb4 g1
        go_wp2_with fail
        go_roundw
        case rel => exact ⟨k + 1, t ++ ti ++ tc, by omega, by go_num, rfl, HE.out, hb5⟩
        case measure => simp [intOf]; omega
    · obtain rfl : k = L.length := by omega
      have HE : Hid (t = f) := Lib.hid (by
        have h1 := HT.out
        rw [toB_all, ← HF.out] at h1
        obtain ⟨⟨a⟩⟩ := t; obtain ⟨⟨b⟩⟩ := f
        exact congrArg (fun x => (⟨⟨x⟩⟩ : ByteArray)) h1)
      have kk : ¬ (L.length : Int) < L.length := by omega
      go_wp2_with fail
      go_ret
      exact ⟨by rw [← HE.out]; rfl, hb2⟩
end Go.Proofs.Ytllnbbfeplgjjaa
