/-
  Walks: the law BinsMerges, from what package bins is to do.
-/
import Derived.Test.YtcijflakldggaaaGreatQBinE
import Derived.Test.YtcijflakldggaaaGreatK7
import Derived.Test.YtcijflakldggaaaGreatQBinR
import Derived.Deep.DeepCutAuto
import Derived.Deep.CutBlock
namespace Go.Proofs.YtcijflakldggaaaGreat
set_option linter.unusedVariables false
set_option linter.unusedSimpArgs false
open Go.RowKit

/-- The reference's bins, and where their rows lie. -/
structure RefG (w : World) (M n : Nat) (P : Pt) (s : Bool) (m : Int) (A : List PairV) (a : Option Addr) (cap : Nat) : Prop where
  ref : RefN w M P s m A
  far : Far n w M
  v5 : w.cell? ⟨M, 5, none⟩ = some (.slice a A.length cap)
/-- What they are read of, when other blocks turn. -/
theorem RefG.skip {w w' : World} {M n : Nat} {P : Pt} {s : Bool} {m : Int} {A : List PairV} {a : Option Addr} {cap : Nat} {X : Nat → Prop} (h : RefG w M n P s m A a cap) (hX : ∀ k, X k → k < n) (hM : ¬ X M)
    (ha : ∀ (i : Nat) (p : PairV), A[i]? = some p → ∃ b off, a = some ⟨b, off, none⟩ ∧ ¬ X b) (hk : ∀ k, k < w.heap.size → ¬ X k → w'.heap[k]? = w.heap[k]?) (hs : w.heap.size ≤ w'.heap.size) : RefG w' M n P s m A a cap := by
  have hlt := h.ref.lt
  have hMs := hk M hlt hM
  obtain ⟨lo, re, dg, a0, cap0, h1, h2, h3⟩ := h.ref.ex
  have e5 : a0 = a := by
    have hv := h.v5
    rw [Joins.cell_of_block h3] at hv
    have : Value.slice a0 A.length cap0 = .slice a A.length cap := Option.some.inj hv
    injection this
  subst e5
  have hc : ∀ b o v, ¬ X b → w.cell? ⟨b, o, none⟩ = some v → w'.cell? ⟨b, o, none⟩ = some v := fun b o v hb hv => by
    have hl := World.block_lt_of_cell? (a := ⟨b, o, none⟩) w hv
    rw [cell_same (hk b hl hb) o]; exact hv
  refine ⟨⟨lo, re, dg, a0, cap0, ?_, ⟨h2.ok, fun i p hp => ?_⟩, hMs.trans h3⟩, far_same h.far hMs, by rw [cell_same hMs]; exact h.v5⟩
  · cases P with
    | cells u v k =>
      obtain ⟨h0, g, q, c, c', e1, e2, n1, n2, e3, e4⟩ := h1
      have fg : n ≤ g := h.far 0 g k c (Or.inl rfl) (by rw [Joins.cell_of_block h3, e1]; rfl)
      have fq : n ≤ q := h.far 1 q k c' (Or.inr rfl) (by rw [Joins.cell_of_block h3, e2]; rfl)
      exact ⟨h0, g, q, c, c', e1, e2, n1, n2, fun i hi => hc g i _ (fun x => by have := hX g x; omega) (e3 i hi), fun i hi => hc q i _ (fun x => by have := hX q x; omega) (e4 i hi)⟩
    | spans d L T => exact h1
  · obtain ⟨b, off, hb, hl, c0, c1⟩ := h2.at_ i p hp
    obtain ⟨b', off', hb', hne⟩ := ha i p hp
    obtain ⟨rfl, rfl⟩ : b = b' ∧ off = off' := by
      have := Option.some.inj (hb.symm.trans hb')
      exact ⟨(Addr.mk.inj this).1, (Addr.mk.inj this).2.1⟩
    exact ⟨b, off, hb, by omega, hc b _ _ hne c0, hc b _ _ hne c1⟩
theorem RefG.call {w w' : World} {M n : Nat} {P : Pt} {s : Bool} {m : Int} {A : List PairV} {a : Option Addr} {cap : Nat} (h : RefG w M n P s m A a cap) (hb : Below w.heap.size w w') : RefG w' M n P s m A a cap :=
  ⟨h.ref.call hb, far_same h.far (hb.block M h.ref.lt), by rw [cell_same (hb.block M h.ref.lt)]; exact h.v5⟩
/-- The reference's bins with a row of the call's own set. -/
theorem RefN.ownv {w : World} {M base n : Nat} {P : Pt} {s : Bool} {m : Int} {A : List PairV} {v : Value} (h : RefN w M P s m []) (hf : Far n w M) (hv : OwnV w base v A) (hok : ∀ p, p ∈ A → okP p) (hM : M < base) :
    ∃ a cap, v = .slice a A.length cap ∧ RefG (w.setCell ⟨M, 5, none⟩ v) M n P s m A a cap ∧ (∀ (i : Nat) (p : PairV), A[i]? = some p → ∃ b off, a = some ⟨b, off, none⟩ ∧ base ≤ b) := by
  have hp := hv.pairs hok
  obtain ⟨lo, re, dg, a0, cap0, h1, h2, h3⟩ := h.ex
  have hfar : Far n (w.setCell ⟨M, 5, none⟩ v) M := by
    refine far_block (by rw [Joins.block_setCell h3]; rfl) (fun g l c e => ?_) (fun g l c e => ?_)
    · exact hf 0 g l c (Or.inl rfl) (by rw [Joins.cell_of_block h3, e]; rfl)
    · exact hf 1 g l c (Or.inr rfl) (by rw [Joins.cell_of_block h3, e]; rfl)
  have h5 : (w.setCell ⟨M, 5, none⟩ v).cell? ⟨M, 5, none⟩ = some v := by
    have hbb : (w.setCell ⟨M, 5, none⟩ v).heap[M]? = _ := Joins.block_setCell h3 _
    rw [Joins.cell_of_block hbb]; rfl
  have hh : w.ownsRow base 52 2 v A.length (cellsQ A) := hv
  rcases hh.2 with ⟨rfl, h0⟩ | ⟨g, cap, cur, rfl, hb, _⟩
  · have : A = [] := List.eq_nil_of_length_eq_zero h0
    subst this
    exact ⟨_, _, rfl, ⟨RefN.void h, hfar, h5⟩, fun i p hi => by simp at hi⟩
  · obtain ⟨a, c, e, hP⟩ := hp
    injection e with e1 e2 e3
    subst e1
    exact ⟨_, _, rfl, ⟨RefN.own h hP (by omega), hfar, h5⟩, fun i p hi => ⟨g, 0, rfl, hb⟩⟩

end Go.Proofs.YtcijflakldggaaaGreat