/-
  The reference of layer 18: Insert, of rows of the call's own.
-/
import Derived.Test.YtjmkkglmckiknaaTupV
namespace Go.Proofs.Ytjmkkglmckiknaa
set_option linter.unusedVariables false
set_option linter.unusedSimpArgs false
open Go.RowKit

set_option maxRecDepth 100000 in
set_option maxHeartbeats 4000000 in
theorem rins18_none (w : World) (x : Int) (hx : I64 x) :
    Calls Try.prog 30 #[.slice none 0 0, .int .i64 x] w fun e w' => ∃ v, e = .returned v ∧ OwnSp w' w.heap.size v [⟨x, 1, 1⟩] ∧ Below w.heap.size w w' := by
  obtain ⟨x0, x1⟩ := hx
  have CT := Lib.hid (rtot18_any w none 0 [] 0 (Spts.nil w none) (by simp) rfl)
  have HO : Hid (OwnSp w w.heap.size (.slice none 0 0) []) := Lib.hid (OwnSp.nil _ _)
  go_enter Try.func30, Try.ntmps30
  go_wp2_with fail
  refine CT.out.mono ?_
  rintro e w' ⟨rfl, e2⟩
  have e2 := e2.symm
  subst e2
  go_wp2_with fail
  go_loopw [5, 17] (fun s j wr => s = .slice none 0 0 ∧ j = .int .i64 0 ∧ w = wr) (fun _ _ _ => 0)
  case atStart => exact ⟨rfl, rfl, rfl⟩
  case round =>
    obtain ⟨rfl, rfl, rfl⟩ := hrel
    go_wp2_with (at_builtin; refine wpList_append_sp rfl _ _ rfl w.heap.size _ _ 0 rfl (w.heap.size + 1) ⟨x, 1, 1⟩ rfl ((HO.out.alloc _).alloc _) rfl ?c1 ?c2 ?c3 ?c4 ?c5 ?_)
    case c4 => exact Nat.zero_le _
    case c5 => simp; omega
    intro g' cp w5 hown' hgrow _
    have hb4 := OwnSp.below ((HO.out.alloc _).alloc _) ((((Below.refl _ _).alloc (Nat.le_refl _) _)).alloc (by simp <;> omega) _) hgrow (by simp <;> omega)
    have HO5 := Lib.hid hown'
    have HB5 := Lib.hid hb4
    clear hgrow hown' hb4
    go_wp2_with fail
    go_loopw [5, 79] (fun s j wr => s = .slice (some ⟨g', 0, none⟩) 1 cp ∧ j = .int .i64 0 ∧ w5 = wr) (fun _ _ _ => 0)
    case atStart => exact ⟨rfl, rfl, rfl⟩
    case round =>
      obtain ⟨rfl, rfl, rfl⟩ := hrel
      go_wp2_with fail
      go_ret
      exact ⟨_, rfl, HO5.out, HB5.out⟩
/-- Of a row of the call's own. -/
theorem rins18_any (w : World) (base : Nat) (v : Value) (S : List SpotV) (n x : Int) (h : OwnSp w base v S) (hok : ∀ p, p ∈ S → okSp p) (hl : S.length ≤ 200) (hs : SpotsP 0 n S) (hn : n < 9223372036854775807) (hx : I64 x) :
    Calls Try.prog 30 #[v, .int .i64 x] w fun e w' => ∃ v', e = .returned v' ∧ OwnSp w' w.heap.size v' (insS S x) ∧ Below w.heap.size w w' := by
  have h' : w.ownsRow base 44 3 v S.length (cellsSp S) := h
  rcases h'.2 with ⟨rfl, h0⟩ | ⟨g, cap, cur, rfl, hb, hg, hle, _⟩
  · have e := List.eq_nil_of_length_eq_zero h0
    subst e
    exact rins18_none w x hx
  · exact rins18_some w g 0 cap S n x (h.row hok) hle hl hs hn hx
/-- Squeezed, of a row of the call's own. -/
theorem rsqz18_own (w : World) (base : Nat) (v : Value) (S : List SpotV) (n lim : Int) (h : OwnSp w base v S) (hok : ∀ p, p ∈ S → okSp p) (hl : S.length ≤ 200) (hs : SpotsP 0 n S) (hn : n ≤ 9223372036854775807) (hlim : Word lim) :
    Calls Try.prog 29 #[v, .int .u64 lim] w fun e w' => ∃ v', e = .returned v' ∧ OwnSp w' w.heap.size v' (sqzS lim S) ∧ Below w.heap.size w w' := by
  obtain ⟨A, cap, rfl, hP⟩ := h.rows hok
  exact rsqz18_any w A cap S n lim hP hl hs hn hlim
end Go.Proofs.Ytjmkkglmckiknaa
