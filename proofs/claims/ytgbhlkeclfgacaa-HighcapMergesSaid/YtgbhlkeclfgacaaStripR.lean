/-
  How package strip's row lies in memory (anywhere in its block); walk: runs.Add of such a row.
-/
import Derived.Test.YtgbhlkeclfgacaaRunsI
import Derived.Test.YtgbhlkeclfgacaaRef8
namespace Go.Proofs.Ytgbhlkeclfgacaa
set_option linter.unusedVariables false
set_option linter.unusedSimpArgs false
open Go.RowKit

theorem set_cells8 {w : World} {b : Nat} {cs : Array Value} {t : TypeId} (h : w.heap[b]? = some (.cells cs t (0, 0))) (o : Nat) (u : Value) : (w.setCell ⟨b, o, none⟩ u).heap[b]? = some (.cells (cs.setIfInBounds o u) t (0, 0)) := by
  have hlt := lt_of_block h
  have h' : w.heap[b] = .cells cs t (0, 0) := by simpa [Array.getElem?_eq_getElem hlt] using h
  show (w.heap.modify b _)[b]? = _
  rw [Array.getElem?_eq_getElem (by simpa using hlt), Array.getElem_modify_self, h']
  rfl
theorem free8 {w : World} {b : Nat} {cs : Array Value} {t : TypeId} (h : w.heap[b]? = some (.cells cs t (0, 0))) (o : Nat) : w.frozen? ⟨b, o, none⟩ = false := by simp [World.frozen?, h]

/-- A row of pairs that may be written; its first pair may lie anywhere in its block. -/
structure Slab (w : World) (A : Option Addr) (cap : Nat) (L : List PairV) : Prop where
  pairs : Pairs w A L
  fit : L.length ≤ cap
  blk : (A = none ∧ cap = 0) ∨ ∃ g off cs, A = some ⟨g, off, none⟩ ∧ w.heap[g]? = some (.cells cs 34 (0, 0))
/-- The block of such a row. -/
def blkA (A : Option Addr) : Option Nat := A.map fun a => a.block
theorem blk_slice (A : Option Addr) (n cap : Nat) : (Value.slice A n cap).ownBlock = blkA A := by cases A <;> rfl
theorem Slab.nil (w : World) : Slab w none 0 [] := ⟨Pairs.nil w, by simp, Or.inl ⟨rfl, rfl⟩⟩
theorem Slab.form {w : World} {A : Option Addr} {cap : Nat} {L : List PairV} (h : Slab w A cap L) : (A = none ∧ L = [] ∧ cap = 0) ∨ ∃ g off, A = some ⟨g, off, none⟩ := by
  rcases h.blk with ⟨rfl, rfl⟩ | ⟨g, off, cs, rfl, _⟩
  · exact Or.inl ⟨rfl, List.eq_nil_of_length_eq_zero (by have := h.fit; omega), rfl⟩
  · exact Or.inr ⟨g, off, rfl⟩
theorem Slab.lt {w : World} {A : Option Addr} {cap : Nat} {L : List PairV} (h : Slab w A cap L) {k : Nat} (hk : blkA A = some k) : k < w.heap.size := by
  rcases h.blk with ⟨rfl, _⟩ | ⟨g, off, cs, rfl, hb⟩
  · cases hk
  · cases hk; exact lt_of_block hb
theorem Slab.keep {w w' : World} {A : Option Addr} {cap : Nat} {L : List PairV} (h : Slab w A cap L) (hk : ∀ k, blkA A = some k → w'.heap[k]? = w.heap[k]?) : Slab w' A cap L := by
  refine ⟨⟨h.pairs.ok, fun i p hi => ?_⟩, h.fit, ?_⟩
  · obtain ⟨b, off, rfl, hlt, c0, c1⟩ := h.pairs.at_ i p hi
    have hb := hk b rfl
    refine ⟨b, off, rfl, ?_, (World.cell?_of_block (a := ⟨b, off + i * 2, none⟩) hb).trans c0, (World.cell?_of_block (a := ⟨b, off + i * 2 + 1, none⟩) hb).trans c1⟩
    exact World.block_lt_of_cell? (a := ⟨b, off + i * 2, none⟩) _ ((World.cell?_of_block (a := ⟨b, off + i * 2, none⟩) hb).trans c0)
  · rcases h.blk with h0 | ⟨g, off, cs, rfl, hb⟩
    · exact Or.inl h0
    · exact Or.inr ⟨g, off, cs, rfl, (hk g rfl).trans hb⟩
theorem Slab.call {w w' : World} {A : Option Addr} {cap : Nat} {L : List PairV} (h : Slab w A cap L) (hb : Below w.heap.size w w') : Slab w' A cap L := h.keep fun k hk => hb.block k (h.lt hk)
theorem Slab.of_own {w : World} {base : Nat} {v : Value} {L : List PairV} (h : OwnP w base v L) (ok : ∀ p, p ∈ L → okP p) : ∃ A cap, v = .slice A L.length cap ∧ Slab w A cap L ∧ ∀ k, blkA A = some k → base ≤ k := by
  obtain ⟨A, cap, rfl, hP⟩ := h.pairs ok
  refine ⟨A, cap, rfl, ?_, fun k hk => (h.lt k (by rw [blk_slice]; exact hk)).1⟩
  rcases h.2 with ⟨e, e0⟩ | ⟨g, cap', cur, e, _, hg, hnc, _⟩
  · injection e with e1 e2 e3
    exact ⟨hP, by omega, Or.inl ⟨e1, e3⟩⟩
  · injection e with e1 _ e3
    exact ⟨hP, by omega, Or.inr ⟨g, 0, cur, e1, hg⟩⟩
/-- A count is written. -/
theorem Slab.put {w : World} {g off cap n : Nat} {L lo hi : List PairV} {i m m' : Int} (h : Slab w (some ⟨g, off, none⟩) cap L) (hp : lo ++ ((i, m) :: hi) = L) (hn : lo.length = n) (hi' : I64 i) (hm : Word m') :
    Slab (w.setCell ⟨g, off + n * 2 + 1, none⟩ (.int .u64 m')) (some ⟨g, off, none⟩) cap (lo ++ ((i, m') :: hi)) := by
  subst hn hp
  have hsz : (lo ++ ((i, m') :: hi)).length = (lo ++ ((i, m) :: hi)).length := by simp
  refine ⟨⟨fun p hp' => ?_, fun j p hj => ?_⟩, by rw [hsz]; exact h.fit, ?_⟩
  · rcases List.mem_append.1 hp' with h1 | h1
    · exact h.pairs.ok p (List.mem_append_left _ h1)
    · rcases List.mem_cons.1 h1 with rfl | h2
      · exact ⟨hi', hm⟩
      · exact h.pairs.ok p (List.mem_append_right _ (List.mem_cons_of_mem _ h2))
  · obtain ⟨b0, o0, e0, hlt, x0, x1⟩ := h.pairs.at_ lo.length (i, m) (by rw [List.getElem?_append_right (Nat.le_refl _), Nat.sub_self]; rfl)
    obtain ⟨rfl, rfl, _⟩ := Addr.mk.inj (Option.some.inj e0)
    by_cases hjn : j = lo.length
    · subst hjn
      rw [List.getElem?_append_right (Nat.le_refl _), Nat.sub_self] at hj
      obtain rfl := Option.some.inj hj
      refine ⟨g, off, rfl, by simpa [World.setCell] using hlt, ?_, World.cell?_setCell_same _ _ _ x1⟩
      rw [World.cell?_setCell_other _ _ _ _ (two_off (by omega))]; exact x0
    · have hj' : (lo ++ ((i, m) :: hi))[j]? = some p := by
        rcases Nat.lt_or_ge j lo.length with h1 | h1
        · rw [List.getElem?_append_left h1] at hj ⊢; exact hj
        · rw [List.getElem?_append_right h1] at hj ⊢
          obtain ⟨t, ht⟩ : ∃ t, j - lo.length = t + 1 := ⟨j - lo.length - 1, by omega⟩
          rw [ht] at hj ⊢
          exact hj
      obtain ⟨b0, o0, e0, hlt', c0, c1⟩ := h.pairs.at_ j p hj'
      obtain ⟨rfl, rfl, _⟩ := Addr.mk.inj (Option.some.inj e0)
      refine ⟨g, off, rfl, by simpa [World.setCell] using hlt, ?_, ?_⟩
      · rw [World.cell?_setCell_other _ _ _ _ (two_off (by omega))]; exact c0
      · rw [World.cell?_setCell_other _ _ _ _ (two_off (by omega))]; exact c1
  · rcases h.blk with ⟨e, _⟩ | ⟨g', off', cs, e, hb⟩
    · cases e
    · obtain ⟨rfl, rfl, _⟩ := Addr.mk.inj (Option.some.inj e)
      exact Or.inr ⟨g, off, _, rfl, set_cells8 hb _ _⟩

/-- What has become of a row. -/
def AddedV (w : World) (A : Option Addr) (L : List PairV) (e : Ending) (w' : World) : Prop :=
  ∃ A' cap', e = .returned (.slice A' L.length cap') ∧ Slab w' A' cap' L ∧ w.grownBy w' (blkA A) ∧ (A' = A ∨ ∀ k, blkA A' = some k → w.heap.size ≤ k)

set_option maxRecDepth 100000 in
set_option maxHeartbeats 1000000 in
theorem addv_in (w : World) (A : Option Addr) (cap : Nat) (L : List PairV) (i c m : Int) (h : Slab w A cap L) (hg : GoodP L) (hl : L.length ≤ 1000) (hi : I64 i) (hc : Word c) (c0 : 0 < c)
    (hm : countP L i = m) (hmc : m + c ≤ 9223372036854775807) (hp : lowP L i ++ ((i, m) :: highP L i) = L) (hm1 : 1 ≤ m) :
    Calls Try.prog 55 #[.slice A L.length cap, .int .i64 i, .int .u64 c] w (AddedV w A (addP L i c)) := by
  obtain ⟨n, hn⟩ : ∃ n, (lowP L i).length = n := ⟨_, rfl⟩
  have his : isP L i = true := by rw [← hp]; exact (is_part (L := L)).2 m
  have hF := find_big w A cap L i n true h.pairs (by omega) hg hi hn his
  have hxn : L[n]? = some (i, m) := by
    have : (lowP L i ++ ((i, m) :: highP L i))[n]? = some (i, m) := by rw [List.getElem?_append_right (by omega), hn, Nat.sub_self]; rfl
    rwa [hp] at this
  have hnl : n < L.length := by
    rcases Nat.lt_or_ge n L.length with h1 | h1
    · exact h1
    · rw [List.getElem?_eq_none h1] at hxn; cases hxn
  obtain ⟨g, off, rfl, hbl, d0, d1⟩ := h.pairs.at_ n _ hxn
  have hadd : addP L i c = lowP L i ++ ((i, m + c) :: highP L i) := by unfold addP; rw [hm]; unfold midP; rw [if_pos (by omega)]; rfl
  have hlen : (addP L i c).length = L.length := by rw [hadd]; have := congrArg List.length hp; simp only [List.length_append, List.length_cons] at this ⊢; exact this
  have HS : Hid (∀ w1, Below w.heap.size w w1 → AddedV w (some ⟨g, off, none⟩) (addP L i c) (.returned (.slice (some ⟨g, off, none⟩) L.length cap)) (w1.setCell ⟨g, off + n * 2 + 1, none⟩ (.int .u64 (m + c)))) := Lib.hid fun w1 hb1 => by
    have h1 := (h.call hb1).put hp hn hi (m' := m + c) ⟨by omega, by omega⟩
    rw [← hadd] at h1
    exact ⟨some ⟨g, off, none⟩, cap, by rw [hlen], h1, grown_trans (grown_call (grown_refl w _) hb1) (grown_setCell _ _ _ _), Or.inl rfl⟩
  have HF0 : Hid (∀ w1, Below w.heap.size w w1 → w1.frozen? ⟨g, off + n * 2 + 1, none⟩ = false) := Lib.hid fun w1 hb1 => by
    rcases (h.call hb1).blk with ⟨e, _⟩ | ⟨g', off', cs, e, hb⟩
    · cases e
    · obtain ⟨rfl, rfl, _⟩ := Addr.mk.inj (Option.some.inj e)
      exact free8 hb _
  have hm64 : m < 18446744073709551616 := by omega
  have hmc2 : IntKind.u64.wrap (m + c) = m + c := by rw [IntKind.wrap_u64]; omega
  have cz : (c == 0) = false := by simp; omega
  have HFF := Lib.hid hF
  obtain ⟨hc1, hc2⟩ := hc
  have nn : (n : Int) < L.length := by omega
  clear hF hxn h hadd hm hp hn his hg d0 hlen
  go_enter Try.func55, Try.ntmps55
  go_wp2_with fail
  refine HFF.out.mono ?_
  rintro e w1 ⟨rfl, hb1⟩
  have d2 : w1.cell? ⟨g, off + n * 2 + 1, none⟩ = some (.int .u64 m) := cell_later hb1 d1
  have f2 := HF0.out _ hb1
  clear d1
  go_wp2_with fail
  go_ret
  exact HS.out _ hb1

theorem pairs_from {w : World} {g off : Nat} {lo hi : List PairV} (h : Pairs w (some ⟨g, off, none⟩) (lo ++ hi)) (n : Nat) (hn : lo.length = n) : Pairs w (some ⟨g, off + n * 2, none⟩) hi := by
  have h1 := h.shift n
  rw [List.drop_append_of_le_length (by omega), List.drop_of_length_le (by omega), List.nil_append] at h1
  exact h1

set_option maxRecDepth 100000 in
set_option maxHeartbeats 1000000 in
theorem addv_new (w : World) (A : Option Addr) (cap : Nat) (L : List PairV) (i c : Int) (h : Slab w A cap L) (hg : GoodP L) (hl : L.length ≤ 1000) (hi : I64 i) (hc : Word c) (c0 : 0 < c)
    (hm : countP L i = 0) (hp : lowP L i ++ highP L i = L) :
    Calls Try.prog 55 #[.slice A L.length cap, .int .i64 i, .int .u64 c] w (AddedV w A (addP L i c)) := by
  have hP := h.pairs
  obtain ⟨n, hn⟩ : ∃ n, (lowP L i).length = n := ⟨_, rfl⟩
  have hnl : n ≤ L.length := by rw [← hn]; exact List.length_filter_le _ _
  have his : isP L i = false := by rw [← hp]; exact (is_part (L := L)).1
  have hF := find_big w A cap L i n false hP (by omega) hg hi hn his
  have hh : (highP L i).length = L.length - n := by have := congrArg List.length hp; rw [List.length_append] at this; omega
  have cz : (c == 0) = false := by simp; omega
  have hcap := h.fit
  have hadd : addP L i c = lowP L i ++ ((i, c) :: highP L i) := by unfold addP; rw [hm, Int.zero_add]; unfold midP; rw [if_pos c0]; rfl
  have hok : ∀ p, p ∈ addP L i c → okP p := by
    intro p hp'
    rw [hadd] at hp'
    rcases List.mem_append.1 hp' with h1 | h1
    · exact hP.ok p (by rw [← hp]; exact List.mem_append_left _ h1)
    · rcases List.mem_cons.1 h1 with rfl | h2
      · exact ⟨hi, hc⟩
      · exact hP.ok p (by rw [← hp]; exact List.mem_append_right _ h2)
  have HFF := Lib.hid hF
  have HC := Lib.hid hc
  have HIX := Lib.hid hi
  obtain ⟨hc1, hc2⟩ := hc
  have hP2 : Pairs w A (lowP L i ++ highP L i) := by rw [hp]; exact hP
  have HP2 := Lib.hid hP2
  have HH := Lib.hid hh
  have HN := Lib.hid hn
  have hform := h.form
  have fin : ∀ w1 w2 v2, Below w.heap.size w w1 → OwnP w2 w1.heap.size v2 (lowP L i ++ ((i, c) :: highP L i)) → Below w1.heap.size w1 w2 → AddedV w A (addP L i c) (.returned v2) w2 := fun w1 w2 v2 hb1 ho hb2 => by
    rw [← hadd] at ho
    obtain ⟨A2, cap2, rfl, hr, hl2⟩ := Slab.of_own ho hok
    exact ⟨A2, cap2, rfl, hr, grown_call (grown_call (grown_refl w _) hb1) hb2, Or.inr fun k hk => Nat.le_trans hb1.size (hl2 k hk)⟩
  have FIN := Lib.hid fin
  clear fin hF hp hn his hg hP h hm hadd hP2 hh hok
  rcases hform with ⟨rfl, hl0, rfl⟩ | ⟨g, off, rfl⟩
  · subst hl0
    obtain rfl : n = 0 := by simp at hnl; omega
    have HN2 : Hid (highP [] i = []) := Lib.hid rfl
    have hl0 : ([] : List PairV).length = 0 := rfl
    rw [hl0] at *
    clear hl0
    go_enter Try.func55, Try.ntmps55
    go_wp2_with fail
    refine HFF.out.mono ?_
    rintro e w1 ⟨rfl, hb1⟩
    have hC := add_concat w1 none none 0 0 0 0 (lowP [] i) (highP [] i) i c ((pairs_low HP2.out).call hb1) HN.out (by rw [HN2.out]; exact Pairs.nil _) (by rw [HN2.out]; rfl) HIX.out HC.out (by omega) (by omega)
    have HCC := Lib.hid hC
    clear hC
    go_wp2_with fail
    go_region_with (go_at_call 61; refine HCC.out.mono ?_; rintro e w2 ⟨v2, rfl, ho2, hb2⟩)
    all_goals
      go_wp2_with fail
      go_ret
      exact FIN.out _ _ _ hb1 ho2 hb2
  have n1 : (n : Int) ≤ cap := by omega
  have n2 : (n : Int) ≤ L.length := by omega
  have n3 : n ≤ cap := by omega
  by_cases hcn : cap = n
  · have e1 : L.length - n = 0 := by omega
    have HN2 : Hid (highP L i = []) := Lib.hid (List.eq_nil_of_length_eq_zero (by rw [HH.out]; omega))
    subst hcn
    have HE1 := Lib.hid e1
    clear e1
    go_enter Try.func55, Try.ntmps55
    go_wp2_with fail
    refine HFF.out.mono ?_
    rintro e w1 ⟨rfl, hb1⟩
    have hC := add_concat w1 (some ⟨g, off, none⟩) (some ⟨g, off, none⟩) cap cap 0 0 (lowP L i) (highP L i) i c ((pairs_low HP2.out).call hb1) HN.out (by rw [HN2.out]; exact ⟨fun p hp => (by cases hp), fun j p hj => by simp at hj⟩) (by rw [HN2.out]; rfl) HIX.out HC.out (by omega) (by omega)
    have HCC := Lib.hid hC
    clear hC
    go_wp2_with fail
    go_region_with (go_at_call 61; refine HCC.out.mono ?_; rintro e w2 ⟨v2, rfl, ho2, hb2⟩)
    all_goals
      go_wp2_with fail
      go_ret
      exact FIN.out _ _ _ hb1 ho2 hb2
  · go_enter Try.func55, Try.ntmps55
    go_wp2_with fail
    refine HFF.out.mono ?_
    rintro e w1 ⟨rfl, hb1⟩
    have hC := add_concat w1 (some ⟨g, off, none⟩) (some ⟨g, off + n * 2, none⟩) n cap (L.length - n) (cap - n) (lowP L i) (highP L i) i c ((pairs_low HP2.out).call hb1) HN.out ((pairs_from HP2.out n HN.out).call hb1) HH.out HIX.out HC.out (by omega) (by omega)
    have HCC := Lib.hid hC
    clear hC
    go_wp2_with fail
    go_region_with (go_at_call 61; refine HCC.out.mono ?_; rintro e w2 ⟨v2, rfl, ho2, hb2⟩)
    all_goals
      go_wp2_with fail
      go_ret
      exact FIN.out _ _ _ hb1 ho2 hb2

theorem addv_any (w : World) (A : Option Addr) (cap : Nat) (L : List PairV) (i c : Int) (h : Slab w A cap L) (hg : GoodP L) (hl : L.length ≤ 1000) (hi : I64 i) (hc : Word c) (c0 : 0 < c) (hn : countP L i + c ≤ 9223372036854775807) :
    Calls Try.prog 55 #[.slice A L.length cap, .int .i64 i, .int .u64 c] w (AddedV w A (addP L i c)) := by
  rcases good_part i hg with ⟨m, e1, e2, e3⟩ | ⟨e1, e2⟩
  · exact addv_in w A cap L i c m h hg hl hi hc c0 e2 (by omega) e1 e3
  · exact addv_new w A cap L i c h hg hl hi hc c0 e2 e1
end Go.Proofs.Ytgbhlkeclfgacaa
