/-
  The law DigestFew, walked from the contract.
-/
import Derived.Test.YthjcdbnjmpjikaaGreatQDigG
namespace Go.Proofs.YthjcdbnjmpjikaaGreat
set_option linter.unusedVariables false
set_option linter.unusedSimpArgs false
open Go.RowKit

theorem good16_node (W : World) {b : Nat} (hb : b ≤ 24) {v : Int} (h : nodeD b v) :
    Calls Tryz.prog 27 #[.int .i64 b, .int .i64 v] W fun e w' => e = .returned (.bool true) ∧ Below W.heap.size W w' := by
  obtain ⟨n, rfl, n1, n2⟩ := node_nat h
  have hp := (pow_bdD hb).2
  rw [Nat.pow_succ] at n2
  exact rgood16_any W b hb n ⟨by omega, by omega⟩ true (nat_good n1 (by rw [Nat.pow_succ]; exact n2))
theorem one_box (w : World) (x y : Value) (t : TypeId) : (w.alloc (.cells #[x, y] t)).cell? ⟨w.heap.size, 0, none⟩ = some x ∧ (w.alloc (.cells #[x, y] t)).cell? ⟨w.heap.size, 1, none⟩ = some y ∧ Below w.heap.size w (w.alloc (.cells #[x, y] t)) :=
  ⟨(two_box w x y t).1, (two_box w x y t).2, (Below.refl _ _).alloc (Nat.le_refl _) _⟩
/-- What holds behind each value: a digest of some values, and the other one beside it. -/
structure FewG (Dg : DgT) (w0 W : World) (B B' b k : Nat) (S' : Nat → Prop) (R' : List PairV) (e' : Int × Int × Bool) (n : Nat) (S : Nat → Prop) (R V : List PairV) (e : Int × Int × Bool) : Prop where
  dig : Dg W B S b k R e
  oth : Dg W B' S' b k R' e'
  has : HasG b k R V
  fine : FineG b V
  len : V.length ≤ n
  past : ∀ i, S i → w0.heap.size < i
  apart : ∀ i, S i → ¬ S' i
  bel : Below w0.heap.size w0 W
  c0 : W.cell? ⟨w0.heap.size, 0, none⟩ = some (.int .i64 b)
  c1 : W.cell? ⟨w0.heap.size, 1, none⟩ = some (.int .i64 k)
theorem FewG.call {Dg : DgT} (D : DigDoes Dg) {w0 W W' : World} {B B' b k n : Nat} {S S' : Nat → Prop} {R R' V : List PairV} {e e' : Int × Int × Bool} (h : FewG Dg w0 W B B' b k S' R' e' n S R V e) (hb : Below W.heap.size W W') : FewG Dg w0 W' B B' b k S' R' e' n S R V e :=
  ⟨D.call h.dig hb, D.call h.oth hb, h.has, h.fine, h.len, h.past, h.apart, h.bel.trans (hb.mono h.bel.size), cell_later hb h.c0, cell_later hb h.c1⟩
theorem FewG.mono {Dg : DgT} {w0 W : World} {B B' b k n m : Nat} {S S' : Nat → Prop} {R R' V : List PairV} {e e' : Int × Int × Bool} (h : FewG Dg w0 W B B' b k S' R' e' n S R V e) (hn : n ≤ m) : FewG Dg w0 W B B' b k S' R' e' m S R V e :=
  ⟨h.dig, h.oth, h.has, h.fine, Nat.le_trans h.len hn, h.past, h.apart, h.bel, h.c0, h.c1⟩
/-- Behind a call that has changed the digest. -/
theorem FewG.next {Dg : DgT} (D : DigDoes Dg) {w0 W W' : World} {B B' b k n m : Nat} {S S2 S' : Nat → Prop} {R R2 R' V V2 : List PairV} {e e2 e' : Int × Int × Bool} (h : FewG Dg w0 W B B' b k S' R' e' n S R V e) (hd : Dg W' B S2 b k R2 e2) (hk : Keeps S W W') (hS : ∀ i, S2 i → S i ∨ W.heap.size ≤ i) (hh : HasG b k R2 V2) (hf : FineG b V2) (hl : V2.length ≤ m) : FewG Dg w0 W' B B' b k S' R' e' m S2 R2 V2 e2 := by
  have h0 : w0.heap.size < W.heap.size := World.block_lt_of_cell? (a := ⟨w0.heap.size, 0, none⟩) W h.c0
  have nS : ¬ S w0.heap.size := fun hs => by have := h.past _ hs; omega
  refine ⟨hd, D.past h.oth hk (fun i hi hs => h.apart i hs hi), hh, hf, hl, fun i hi => ?_, fun i hi hs => ?_, Keeps.below h.bel hk h.bel.size (fun i hi => by have := h.past i hi; omega), hk.cell nS h.c0, hk.cell nS h.c1⟩
  · rcases hS i hi with k1 | k1
    · exact h.past i k1
    · omega
  · rcases hS i hi with k1 | k1
    · exact h.apart i k1 hs
    · have := D.lt _ _ _ _ _ _ _ h.oth i hs; omega
/-- What a row of a digest is. -/
theorem few_node {b k : Nat} {R V : List PairV} (h : HasG b k R V) {p : PairV} (hp : p ∈ R) : nodeD b p.1 ∧ (p.1 < ((2 ^ b : Nat) : Int) → p.2 ≤ sumP R / k) := ⟨h.dig.node p hp, h.dig.small p hp⟩

/-- One box and a world behind. -/
abbrev Box2 (s : Nat) (x y : Value) (w2 W : World) : Prop := W.cell? ⟨s, 0, none⟩ = some x ∧ W.cell? ⟨s, 1, none⟩ = some y ∧ Below w2.heap.size w2 W
theorem box2_later {s : Nat} {x y : Value} {w2 W W' : World} (h : Box2 s x y w2 W) (hb : Below W.heap.size W W') : Box2 s x y w2 W' :=
  ⟨cell_later hb h.1, cell_later hb h.2.1, h.2.2.trans (hb.mono h.2.2.size)⟩
theorem box2_calls {P : Program} {f : FuncId} {args : Array Value} {s : Nat} {x y : Value} {w2 W : World} {r : Ending} (h : Calls P f args W fun e w' => e = r ∧ Below W.heap.size W w') (hb : Box2 s x y w2 W) : Calls P f args W fun e w' => e = r ∧ Box2 s x y w2 w' :=
  h.mono fun e w' ⟨he, hw⟩ => ⟨he, box2_later hb hw⟩

set_option maxRecDepth 100000 in
set_option maxHeartbeats 16000000 in
theorem digest_few_walk {Dg : DgT} (D : DigDoes Dg) (d f : Int) (A : List PairV) (a : Option Addr) (cap : Nat) (A2 : List PairV) (a2 : Option Addr) (cap2 : Nat) (hd : I64 d) (hf : I64 f) (w : World) (hA : Pairs w a A) (hl : A.length ≤ 140737488351232) (hA2 : Pairs w a2 A2) (hl2 : A2.length ≤ 140737488351232) :
    Calls Tryz.prog 5 #[.agg #[.int .i64 d, .int .i64 f], .slice a A.length cap, .slice a2 A2.length cap2] w fun e w' => e = .returned (.bool true) ∧ Below w.heap.size w w' := by
  have HD := Lib.hid D
  have HA := Lib.hid hA
  have HA2 := Lib.hid hA2
  have HAL := Lib.hid (fun W => alive17_any D W)
  have HBN : Hid (∀ W, Calls Tryz.prog 10 #[.agg #[.int .i64 d, .int .i64 f], .slice none 0 0] W (Build17 Dg W d f [])) := Lib.hid fun W => build17_any D W d f [] none 0 hd hf (Pairs.nil W) (by decide)
  have HBE := Lib.hid (fun W hW => build17_any D W d f A2 a2 cap2 hd hf hW hl2)
  have HBX := Lib.hid (one_box w (.int .i64 d) (.int .i64 f) 23)
  obtain ⟨c0, c1, b0⟩ := HBX.out
  clear hA hA2 D
  go_enter Tryz.func5, Tryz.ntmps5
  go_wp2_with fail
  refine (HAL.out _).mono ?_
  rintro e w1 ⟨rfl, b1'⟩
  have HB1 := Lib.hid (box2_later HBX.out b1')
  have HZ1 := Lib.hid (World.block_lt_of_cell? (a := ⟨w.heap.size, 0, none⟩) w1 HB1.out.1)
  clear c0 c1 b0 b1' HBX HAL
  obtain ⟨c0, c1, b1⟩ := HB1.out
  go_wp2_with fail
  refine (HBN.out _).mono ?_
  rintro e w2 (⟨B, S, M, b, k, v, rfl, rfl, rfl, q1, q2, q3, q4, _, _, hdg, hrg, hS, hM, hSM, hvS, b2'⟩ | ⟨rfl, b2'⟩)
  case inr =>
    have HB2 := Lib.hid (box2_later HB1.out b2')
    clear c0 c1 b1 b2'
    obtain ⟨c0, c1, b2⟩ := HB2.out
    go_wp2_with fail
    refine (HBE.out _ (HA2.out.call b2)).mono ?_
    rintro e w3 (⟨B', S', M', b', k', v', rfl, _, _, _, _, _, _, _, _, _, _, _, _, _, _, b3'⟩ | ⟨rfl, b3'⟩)
    · have b3 := b2.trans (b3'.mono b2.size)
      clear b3'
      go_wp2_with fail
      go_ret
      exact ⟨rfl, b3⟩
    · have b3 := b2.trans (b3'.mono b2.size)
      clear b3'
      go_wp2_with fail
      go_ret
      exact ⟨rfl, b3⟩
  have HB2 := Lib.hid (box2_later HB1.out b2')
  have HDG : Hid (Dg w2 B S b k [] (0, 0, false)) := Lib.hid hdg
  have HS := Lib.hid hS
  clear c0 c1 b1 b2' hdg hrg hS hM hSM hvS HBN
  obtain ⟨c0, c1, b2⟩ := HB2.out
  go_wp2_with fail
  refine (HBE.out _ (HA2.out.call b2)).mono ?_
  rintro e w3 (⟨B', S', M', b', k', v', rfl, e1, e2, t1, t2, t3, t4, hfi', hl60', hdg', hrg', hS', hM', hSM', hvS', b3'⟩ | ⟨rfl, b3'⟩)
  case inr =>
    have b3 := b2.trans (b3'.mono b2.size)
    clear b3'
    go_wp2_with fail
    go_ret
    exact ⟨rfl, b3⟩
  obtain rfl : b = b' := by omega
  obtain rfl : k = k' := by omega
  have HB3 := Lib.hid (box2_later HB2.out b3')
  have HH' := Lib.hid (hfi'.has (k := k) q3 (by omega))
  have HFI' := Lib.hid hfi'
  have hs2 := fineG_sum hfi'
  have HF0 : Hid (FewG Dg w w3 B B' b k S' (rowD b k A2) (endAD A2) 0 S [] [] (0, 0, false)) := Lib.hid
    ⟨HD.out.call HDG.out b3', hdg', HasG.nil b k, FineG.nil b, Nat.le_refl _, fun i hi => by have := HS.out i hi; have := HZ1.out; omega, fun i hi h => by
      have := HD.out.lt _ _ _ _ _ _ _ HDG.out i hi
      have := hS' i h
      omega, HB3.out.2.2, HB3.out.1, HB3.out.2.1⟩
  have HNIL : Hid (rowD b k A2 = [] → (endAD A2).2.2 = false) := Lib.hid fun h => end_nil (has_nil HH'.out hfi' h)
  have hm2 := HH'.out.dig.sum
  have hs2b : sumP (rowD b k A2) ≤ 70000000000000000 := by omega
  have HS2B := Lib.hid hs2b
  generalize rowD b k A2 = R2 at *
  generalize endAD A2 = E2 at *
  obtain ⟨lv, hlv⟩ : ∃ lv : Nat, 2 ^ b = lv := ⟨_, rfl⟩
  have hlv1 := pow_bdD q2
  have hlv3 : (2 : Int) ^ b = (lv : Int) := by rw [← hlv, Int.natCast_pow]; rfl
  rw [hlv] at hlv1
  have W1 : IntKind.i64.wrap ((2 : Int) ^ b) = (lv : Int) := by rw [hlv3, IntKind.wrap_i64]; omega
  have W2 : wrap64 ((2 : Int) ^ b) = (lv : Int) := by rw [hlv3]; unfold wrap64; omega
  have b0' : (0 : Int) ≤ (b : Int) := by omega
  have HLV := Lib.hid hlv
  clear c0 c1 b2 b3' e1 e2 t1 t2 t3 t4 hfi' hdg' hrg' hS' hM' hSM' hvS' hs2 hm2 hs2b hlv hlv3 HBE HB2 HB1
  obtain ⟨c0, c1, b3⟩ := HB3.out
  by_cases hbig : 60 < A.length
  · have kk : (60 : Int) < A.length := by omega
    go_wp2_with fail
    go_ret
    exact ⟨rfl, b3⟩
  have kk : ¬ (60 : Int) < A.length := by omega
  go_wp2_with fail
  go_loopg [13] (A.length + 1) (fun g j wr => ∃ (i : Nat), i ≤ A.length + 1 ∧ g = A.length + 1 - i ∧ j = .int .i64 i ∧ Below w.heap.size w wr ∧ (i ≤ A.length → ∃ (Sx : Nat → Prop) (Rx Vx : List PairV) (ex : Int × Int × Bool), FewG Dg w wr B B' b k S' R2 E2 i Sx Rx Vx ex))
  case atStart => exact ⟨0, Nat.zero_le _, rfl, rfl, b3, fun _ => ⟨S, [], [], _, HF0.out⟩⟩
  case round =>
    clear c0 c1 b3
    obtain ⟨i, hi, rfl, rfl, hbw, hfw⟩ := hrel
    by_cases hend : A.length < i
    · obtain rfl : i = A.length + 1 := by omega
      have kl : ¬ (((A.length + 1 : Nat)) : Int) ≤ A.length := by omega
      clear hfw
      go_wp2_with fail
      go_ret
      exact ⟨rfl, hbw⟩
    obtain ⟨Sx, Rx, Vx, ex, hfx⟩ := hfw (by omega)
    have HFX := Lib.hid hfx
    have kl : (i : Int) ≤ A.length := by omega
    clear hfw
    have hsx := fineG_sum hfx.fine
    have hlx := hfx.len
    have hmx := hfx.has.dig.sum
    have HMX : Hid (0 ≤ sumP Rx ∧ sumP Rx ≤ 70000000000000000) := Lib.hid (by rw [hmx]; omega)
    clear hfx hsx hmx
    by_cases hlast : i = A.length
    · have e1 : ((i : Int) == A.length) = true := by rw [hlast]; simp
      have HJN := Lib.hid (djoin_any HD.out wr B Sx b k Rx ex B' S' R2 E2 HFX.out.dig HFX.out.oth HFX.out.apart HNIL.out (by have := HMX.out; have := HS2B.out; omega))
      go_wp2_with fail
      refine HJN.out.mono ?_
      rintro e wq ⟨S5, rfl, hx5, hk5, hs5⟩
      have HK : Hid (∃ (S2 : Nat → Prop) (R3 V3 : List PairV) (e3 : Int × Int × Bool), FewG Dg w wq B B' b k S' R2 E2 130 S2 R3 V3 e3 ∧ (i + 1 ≤ A.length → V3.length ≤ i + 1)) := Lib.hid ⟨S5, _, _, _, HFX.out.next HD.out hx5 hk5 hs5 (HFX.out.has.join HH'.out q3 (by have := HMX.out; have := HS2B.out; omega)) (HFX.out.fine.app HFI'.out) (by have := HFX.out.len; rw [List.length_append]; omega), fun h => by omega⟩
      clear hx5 hk5 hs5 HJN
      obtain ⟨S2, R3, V3, e3, hf3, hl3⟩ := HK.out
      have HF3 := Lib.hid hf3
      have HL3 := Lib.hid hl3
      have hsx := fineG_sum hf3.fine
      have hlx := hf3.len
      have hmx := hf3.has.dig.sum
      have hT : 0 ≤ sumP R3 ∧ sumP R3 ≤ 150000000000000000 := by rw [hmx]; omega
      have hrow := hf3.has.row (by omega)
      have hfew := hf3.has.few
      have hgd : goodB R3 = true := goodB_true.2 hrow.good
      have HND := Lib.hid (fun p (hp : p ∈ R3) => few_node hf3.has hp)
      obtain ⟨T, hTT⟩ : ∃ T, sumP R3 = T := ⟨_, rfl⟩
      rw [hTT] at hT HND
      have HNO := Lib.hid (HD.out.nodes wq B S2 b k R3 e3 hf3.dig)
      have c1 := hf3.c1
      have HOKR := Lib.hid (hrow.ok q2)
      clear hf3 hl3 HK hsx hlx hmx
      go_wp2_with fail
      refine HNO.out.mono ?_
      rintro e w8 ⟨a1, k1', rfl, hp1, b8⟩
      have HP8 := Lib.hid hp1
      have HF8 := Lib.hid (HF3.out.call HD.out b8)
      have G1 := Lib.hid (fun W (h : Box2 w.heap.size (.int .i64 b) (.int .i64 k) w8 W) => box2_calls (rgood_row W a1 k1' R3 true hgd (HP8.out.call h.2.2) (by omega)) h)
      have G2 := Lib.hid (fun W (h : Box2 w.heap.size (.int .i64 b) (.int .i64 k) w8 W) => box2_calls (rtotal_any W a1 k1' R3 T (HP8.out.call h.2.2) (by omega) hTT (by omega)) h)
      have G3 := Lib.hid (fun W (h : Box2 w.heap.size (.int .i64 b) (.int .i64 k) w8 W) => box2_calls (HD.out.total W B S2 b k R3 e3 (HD.out.call HF8.out.dig h.2.2)) h)
      rw [hTT] at G3
      have HTO := Lib.hid (fun W (h : Below w8.heap.size w8 W) => HD.out.total W B S2 b k R3 e3 (HD.out.call HF8.out.dig h))
      rw [hTT] at HTO
      clear c1
      obtain ⟨c0, c1⟩ : w8.cell? ⟨w.heap.size, 0, none⟩ = some (.int .i64 b) ∧ w8.cell? ⟨w.heap.size, 1, none⟩ = some (.int .i64 k) := ⟨HF8.out.c0, HF8.out.c1⟩
      have bz : Below w8.heap.size w8 w8 := Below.refl _ _
      have u1 : IntKind.i64.wrap (4 * (k : Int)) = 4 * (k : Int) := by rw [IntKind.wrap_i64]; omega
      have u2 : ¬ 4 * (k : Int) < (R3.length : Int) := by omega
      have t1 : (!T == T) = false := by simp
      have t2 : (T != T) = false := by simp
      have HFE := Lib.hid hfew
      clear hp1 b8 HNO hrow hgd hTT
      go_wp2_with ((first
        | (go_at_call 25; with_reducible refine (G1.out _ ⟨by assumption, by assumption, by assumption⟩).mono ?_; rintro e w' ⟨rfl, x0', x1', x2'⟩)
        | (go_at_call 26; with_reducible refine (G2.out _ ⟨by assumption, by assumption, by assumption⟩).mono ?_; rintro e w' ⟨rfl, x0', x1', x2'⟩)
        | (go_at_call 19; with_reducible refine (G3.out _ ⟨by assumption, by assumption, by assumption⟩).mono ?_; rintro e w' ⟨rfl, x0', x1', x2'⟩)))
      have HX2 := Lib.hid x2'
      go_loopg [104] R3.length (fun g j wr => ∃ (n : Nat), n ≤ R3.length ∧ g = R3.length - n ∧ j = .int .i64 n ∧ Below w8.heap.size w8 wr)
      case atStart => exact ⟨0, Nat.zero_le _, rfl, rfl, HX2.out⟩
      case round =>
        clear x0' x1' x2' bz c0 c1
        obtain ⟨n, hn, rfl, rfl, hb9⟩ := hrel
        by_cases hlt2 : n < R3.length
        · have kl2 : (n : Int) < R3.length := by omega
          have hyk : R3[n]? = some R3[n] := List.getElem?_eq_getElem hlt2
          generalize hit2 : R3[n] = y at *
          obtain ⟨yx, yc⟩ := y
          obtain ⟨bb9, off9, rfl, hbl9, y0, y1⟩ := (HP8.out.call hb9).at_ n _ hyk
          have hmem := List.mem_of_getElem? hyk
          obtain ⟨hnd, hsm⟩ := HND.out _ hmem
          obtain ⟨⟨o1, o2⟩, o3, o4⟩ := HOKR.out _ hmem
          simp only at y0 y1 o1 o2 o3 o4
          have HGO := Lib.hid (fun W => good16_node W q2 hnd)
          obtain ⟨q, hq⟩ : ∃ q, T / (k : Int) = q := ⟨_, rfl⟩
          have hq0 : 0 ≤ q ∧ q ≤ T := by rw [← hq]; exact ⟨Int.ediv_nonneg (by omega) (by omega), Int.ediv_le_self _ (by omega)⟩
          have v1 : T.tdiv (k : Int) = q := by rw [Int.tdiv_eq_ediv_of_nonneg (by omega)]; exact hq
          have v2 : IntKind.u64.wrap q = q := by rw [IntKind.wrap_u64]; omega
          have v3 : IntKind.u64.wrap (k : Int) = k := by rw [IntKind.wrap_u64]; omega
          have v4 : ¬ (k : Int) = 0 := by omega
          have v5 : ¬ k = 0 := by omega
          have v6 : ((k : Int) == 0) = false := by simp; omega
          have hsm2 : yx < (lv : Int) → yc ≤ q := fun h => by rw [← hq]; exact hsm (by rw [HLV.out]; exact h)
          have hal : Below wr.heap.size wr (wr.alloc (.cells #[.int .i64 yx, .int .u64 yc] 61)) := (Below.refl _ _).alloc (Nat.le_refl _) _
          have HB0 := Lib.hid (hb9.trans (hal.mono hb9.size)).drew
          have HS0 : Hid ((wr.alloc (.cells #[.int .i64 yx, .int .u64 yc] 61)).drew.cell? ⟨wr.heap.size, 0, none⟩ = some (.int .i64 yx) ∧ (wr.alloc (.cells #[.int .i64 yx, .int .u64 yc] 61)).drew.cell? ⟨wr.heap.size, 1, none⟩ = some (.int .u64 yc) ∧ Box2 w.heap.size (.int .i64 b) (.int .i64 k) w8 (wr.alloc (.cells #[.int .i64 yx, .int .u64 yc] 61)).drew) := Lib.hid ⟨by go_simp, by go_simp, cell_later HB0.out HF8.out.c0, cell_later HB0.out HF8.out.c1, HB0.out⟩
          have HST := Lib.hid (fun (W W' : World) (h : W.cell? ⟨wr.heap.size, 0, none⟩ = some (.int .i64 yx) ∧ W.cell? ⟨wr.heap.size, 1, none⟩ = some (.int .u64 yc) ∧ Box2 w.heap.size (.int .i64 b) (.int .i64 k) w8 W) (hb : Below W.heap.size W W') => (⟨cell_later hb h.1, cell_later hb h.2.1, box2_later h.2.2 hb⟩ : W'.cell? ⟨wr.heap.size, 0, none⟩ = some (.int .i64 yx) ∧ W'.cell? ⟨wr.heap.size, 1, none⟩ = some (.int .u64 yc) ∧ Box2 w.heap.size (.int .i64 b) (.int .i64 k) w8 W'))
          clear hyk hit2 hmem hnd hsm hq hal hb9
          by_cases hlow : yx < (lv : Int)
          · have z1 : decide (yx < (lv : Int)) = true := decide_eq_true hlow
            have z2 : decide (q < yc) = false := decide_eq_false (by have := hsm2 hlow; omega)
            clear hsm2
            go_wp2_with fail
            go_region_held3 (fun w' => w'.cell? ⟨wr.heap.size, 0, none⟩ = some (.int .i64 yx) ∧ w'.cell? ⟨wr.heap.size, 1, none⟩ = some (.int .u64 yc) ∧ w'.cell? ⟨w.heap.size, 0, none⟩ = some (.int .i64 b) ∧ w'.cell? ⟨w.heap.size, 1, none⟩ = some (.int .i64 k) ∧ Below w8.heap.size w8 w')
              (first | exact HS0.out | exact HST.out _ _ (by assumption) hbA | exact HST.out _ _ (by assumption) hbB | assumption)
              ((first
                | (go_at_call 27; with_reducible refine (HGO.out _).mono ?_; rintro e wA ⟨rfl, hbA⟩)
                | (go_at_call 19; with_reducible refine (HTO.out _ (And.right (And.right (And.right (And.right (by assumption)))))).mono ?_; rintro e wB ⟨rfl, hbB⟩)))
            all_goals
              rename_i hHeld
              obtain ⟨_, _, _, _, hbz⟩ := hHeld
              go_wp2_with fail
              go_roundg (R3.length - (n + 1))
              case measure => omega
              case rel => exact ⟨n + 1, by omega, rfl, by go_num, hbz⟩
          · have z1 : decide (yx < (lv : Int)) = false := decide_eq_false hlow
            clear hsm2
            go_wp2_with fail
            refine wp_region_noPanic ?_
            refine wp_region_held_drew (S := (fun w' => w'.cell? ⟨wr.heap.size, 0, none⟩ = some (.int .i64 yx) ∧ w'.cell? ⟨wr.heap.size, 1, none⟩ = some (.int .u64 yc) ∧ w'.cell? ⟨w.heap.size, 0, none⟩ = some (.int .i64 b) ∧ w'.cell? ⟨w.heap.size, 1, none⟩ = some (.int .i64 k) ∧ Below w8.heap.size w8 w')) (by kernel_rfl) (HS0.out) (fun hHeld => ?_)
            refine wpAnyH_take (i := 0) (oi := _) (v := ?vq1_0) (by simp only [List.getElem?_toArray, List.getElem?_cons_succ, List.getElem?_cons_zero]; rfl) (by kernel_rfl) (by kernel_rfl) (by kernel_rfl) (fun _ _ _ h => h) (Or.inl ⟨by rfl, ?yq1_0⟩) hHeld ?rq1_0
            case yq1_0 => (intro w hSw; (try dsimp only at hSw); go_simp; try with_reducible rfl)
            try simp only [Act.put, List.setIfInBounds_toArray, List.set_cons_zero, List.set_cons_succ]
            refine wpAnyH_take (i := 1) (oi := _) (v := ?vq1_1) (by simp only [List.getElem?_toArray, List.getElem?_cons_succ, List.getElem?_cons_zero]; rfl) (by kernel_rfl) (by kernel_rfl) (by kernel_rfl) (fun _ _ _ h => h) (Or.inl ⟨by rfl, ?yq1_1⟩) hHeld ?rq1_1
            case yq1_1 => (intro w hSw; (try dsimp only at hSw); go_simp; try with_reducible rfl)
            try simp only [Act.put, List.setIfInBounds_toArray, List.set_cons_zero, List.set_cons_succ]
            refine wpAnyH_take (i := 2) (oi := _) (v := ?vq1_2) (by simp only [List.getElem?_toArray, List.getElem?_cons_succ, List.getElem?_cons_zero]; rfl) (by kernel_rfl) (by kernel_rfl) (by kernel_rfl) (fun _ _ _ h => h) (Or.inl ⟨by rfl, ?yq1_2⟩) hHeld ?rq1_2
            case yq1_2 => (intro w hSw; (try dsimp only at hSw); go_simp; try with_reducible rfl)
            try simp only [Act.put, List.setIfInBounds_toArray, List.set_cons_zero, List.set_cons_succ]
            refine wpAnyH_take (i := 3) (oi := _) (v := ?vq1_3) (by simp only [List.getElem?_toArray, List.getElem?_cons_succ, List.getElem?_cons_zero]; rfl) (by kernel_rfl) (by kernel_rfl) (by kernel_rfl) (fun _ _ _ h => h) (Or.inl ⟨by rfl, ?yq1_3⟩) hHeld ?rq1_3
            case yq1_3 => (intro w hSw; (try dsimp only at hSw); go_simp; try with_reducible rfl)
            try simp only [Act.put, List.setIfInBounds_toArray, List.set_cons_zero, List.set_cons_succ]
            refine wpAnyH_ready (rs := [4]) (by kernel_rfl) (by simp) ?_
            refine AllReadyH.cons (o := _) (by simp only [List.getElem?_toArray, List.getElem?_cons_succ, List.getElem?_cons_zero]; rfl) (fun K hK => ?_) AllReadyH.nil
            go_simp
            with_reducible refine (HGO.out _).mono ?_; rintro e wA ⟨rfl, hbA⟩
            try (go_wp2_with fail)
            refine hK.out _ _ (HST.out _ _ hHeld hbA) (fun hHeld => ?_)
            clear hK K
            try simp only [Act.put, List.setIfInBounds_toArray, List.set_cons_zero, List.set_cons_succ]
            refine wpAnyH_take (i := 5) (oi := _) (v := ?vq1_5) (by simp only [List.getElem?_toArray, List.getElem?_cons_succ, List.getElem?_cons_zero]; rfl) (by kernel_rfl) (by kernel_rfl) (by kernel_rfl) (fun _ _ _ h => h) (Or.inl ⟨by rfl, ?yq1_5⟩) hHeld ?rq1_5
            case yq1_5 => (intro w hSw; (try dsimp only at hSw); go_simp; try with_reducible rfl)
            try simp only [Act.put, List.setIfInBounds_toArray, List.set_cons_zero, List.set_cons_succ]
            refine wpAnyH_take (i := 6) (oi := _) (v := ?vq1_6) (by simp only [List.getElem?_toArray, List.getElem?_cons_succ, List.getElem?_cons_zero]; rfl) (by kernel_rfl) (by kernel_rfl) (by kernel_rfl) (fun _ _ _ h => h) (Or.inl ⟨by rfl, ?yq1_6⟩) hHeld ?rq1_6
            case yq1_6 => (intro w hSw; (try dsimp only at hSw); go_simp; try with_reducible rfl)
            try simp only [Act.put, List.setIfInBounds_toArray, List.set_cons_zero, List.set_cons_succ]
            refine wpAnyH_take (i := 7) (oi := _) (v := ?vq1_7) (by simp only [List.getElem?_toArray, List.getElem?_cons_succ, List.getElem?_cons_zero]; rfl) (by kernel_rfl) (by kernel_rfl) (by kernel_rfl) (fun _ _ _ h => h) (Or.inl ⟨by rfl, ?yq1_7⟩) hHeld ?rq1_7
            case yq1_7 => (intro w hSw; (try dsimp only at hSw); go_simp; try with_reducible rfl)
            try simp only [Act.put, List.setIfInBounds_toArray, List.set_cons_zero, List.set_cons_succ]
            refine wpAnyH_take (i := 8) (oi := _) (v := ?vq1_8) (by simp only [List.getElem?_toArray, List.getElem?_cons_succ, List.getElem?_cons_zero]; rfl) (by kernel_rfl) (by kernel_rfl) (by kernel_rfl) (fun _ _ _ h => h) (Or.inl ⟨by rfl, ?yq1_8⟩) hHeld ?rq1_8
            case yq1_8 => (intro w hSw; (try dsimp only at hSw); go_simp; try with_reducible rfl)
            try simp only [Act.put, List.setIfInBounds_toArray, List.set_cons_zero, List.set_cons_succ]
            refine wpAnyH_take (i := 9) (oi := _) (v := ?vq1_9) (by simp only [List.getElem?_toArray, List.getElem?_cons_succ, List.getElem?_cons_zero]; rfl) (by kernel_rfl) (by kernel_rfl) (by kernel_rfl) (fun _ _ _ h => h) (Or.inl ⟨by rfl, ?yq1_9⟩) hHeld ?rq1_9
            case yq1_9 => (intro w hSw; (try dsimp only at hSw); go_simp; try with_reducible rfl)
            try simp only [Act.put, List.setIfInBounds_toArray, List.set_cons_zero, List.set_cons_succ]
            refine wpAnyH_take (i := 10) (oi := _) (v := ?vq1_10) (by simp only [List.getElem?_toArray, List.getElem?_cons_succ, List.getElem?_cons_zero]; rfl) (by kernel_rfl) (by kernel_rfl) (by kernel_rfl) (fun _ _ _ h => h) (Or.inl ⟨by rfl, ?yq1_10⟩) hHeld ?rq1_10
            case yq1_10 => (intro w hSw; (try dsimp only at hSw); go_simp; try with_reducible rfl)
            try simp only [Act.put, List.setIfInBounds_toArray, List.set_cons_zero, List.set_cons_succ]
            refine wpAnyH_take (i := 11) (oi := _) (v := ?vq1_11) (by simp only [List.getElem?_toArray, List.getElem?_cons_succ, List.getElem?_cons_zero]; rfl) (by kernel_rfl) (by kernel_rfl) (by kernel_rfl) (fun _ _ _ h => h) (Or.inl ⟨by rfl, ?yq1_11⟩) hHeld ?rq1_11
            case yq1_11 => (intro w hSw; (try dsimp only at hSw); go_simp; try with_reducible rfl)
            try simp only [Act.put, List.setIfInBounds_toArray, List.set_cons_zero, List.set_cons_succ]
            refine wpAnyH_take (i := 12) (oi := _) (v := ?vq1_12) (by simp only [List.getElem?_toArray, List.getElem?_cons_succ, List.getElem?_cons_zero]; rfl) (by kernel_rfl) (by kernel_rfl) (by kernel_rfl) (fun _ _ _ h => h) (Or.inl ⟨by rfl, ?yq1_12⟩) hHeld ?rq1_12
            case yq1_12 => (intro w hSw; (try dsimp only at hSw); go_simp; try with_reducible rfl)
            try simp only [Act.put, List.setIfInBounds_toArray, List.set_cons_zero, List.set_cons_succ]
            refine wpAnyH_take (i := 13) (oi := _) (v := ?vq1_13) (by simp only [List.getElem?_toArray, List.getElem?_cons_succ, List.getElem?_cons_zero]; rfl) (by kernel_rfl) (by kernel_rfl) (by kernel_rfl) (fun _ _ _ h => h) (Or.inl ⟨by rfl, ?yq1_13⟩) hHeld ?rq1_13
            case yq1_13 => (intro w hSw; (try dsimp only at hSw); go_simp; try with_reducible rfl)
            try simp only [Act.put, List.setIfInBounds_toArray, List.set_cons_zero, List.set_cons_succ]
            refine wpAnyH_take (i := 14) (oi := _) (v := _) (by simp only [List.getElem?_toArray, List.getElem?_cons_succ, List.getElem?_cons_zero]; rfl) (by kernel_rfl) (by kernel_rfl) (by kernel_rfl) (fun _ _ _ h => h) (Or.inr ⟨by rfl, rfl⟩) hHeld ?_
            try simp only [Act.put, List.setIfInBounds_toArray, List.set_cons_zero, List.set_cons_succ]
            refine wpAnyH_take (i := 15) (oi := _) (v := _) (by simp only [List.getElem?_toArray, List.getElem?_cons_succ, List.getElem?_cons_zero]; rfl) (by kernel_rfl) (by kernel_rfl) (by kernel_rfl) (fun _ _ _ h => h) (Or.inr ⟨by rfl, rfl⟩) hHeld ?_
            try simp only [Act.put, List.setIfInBounds_toArray, List.set_cons_zero, List.set_cons_succ]
            refine wpAnyH_take (i := 16) (oi := _) (v := _) (by simp only [List.getElem?_toArray, List.getElem?_cons_succ, List.getElem?_cons_zero]; rfl) (by kernel_rfl) (by kernel_rfl) (by kernel_rfl) (fun _ _ _ h => h) (Or.inr ⟨by rfl, rfl⟩) hHeld ?_
            try simp only [Act.put, List.setIfInBounds_toArray, List.set_cons_zero, List.set_cons_succ]
            refine wpAnyH_take (i := 17) (oi := _) (v := _) (by simp only [List.getElem?_toArray, List.getElem?_cons_succ, List.getElem?_cons_zero]; rfl) (by kernel_rfl) (by kernel_rfl) (by kernel_rfl) (fun _ _ _ h => h) (Or.inr ⟨by rfl, rfl⟩) hHeld ?_
            try simp only [Act.put, List.setIfInBounds_toArray, List.set_cons_zero, List.set_cons_succ]
            refine wpAnyH_take (i := 18) (oi := _) (v := _) (by simp only [List.getElem?_toArray, List.getElem?_cons_succ, List.getElem?_cons_zero]; rfl) (by kernel_rfl) (by kernel_rfl) (by kernel_rfl) (fun _ _ _ h => h) (Or.inr ⟨by rfl, rfl⟩) hHeld ?_
            try simp only [Act.put, List.setIfInBounds_toArray, List.set_cons_zero, List.set_cons_succ]
            refine wpAnyH_take (i := 19) (oi := _) (v := _) (by simp only [List.getElem?_toArray, List.getElem?_cons_succ, List.getElem?_cons_zero]; rfl) (by kernel_rfl) (by kernel_rfl) (by kernel_rfl) (fun _ _ _ h => h) (Or.inr ⟨by rfl, rfl⟩) hHeld ?_
            try simp only [Act.put, List.setIfInBounds_toArray, List.set_cons_zero, List.set_cons_succ]
            refine wpAnyH_take (i := 20) (oi := _) (v := _) (by simp only [List.getElem?_toArray, List.getElem?_cons_succ, List.getElem?_cons_zero]; rfl) (by kernel_rfl) (by kernel_rfl) (by kernel_rfl) (fun _ _ _ h => h) (Or.inr ⟨by rfl, rfl⟩) hHeld ?_
            try simp only [Act.put, List.setIfInBounds_toArray, List.set_cons_zero, List.set_cons_succ]
            refine wpAnyH_take (i := 21) (oi := _) (v := _) (by simp only [List.getElem?_toArray, List.getElem?_cons_succ, List.getElem?_cons_zero]; rfl) (by kernel_rfl) (by kernel_rfl) (by kernel_rfl) (fun _ _ _ h => h) (Or.inr ⟨by rfl, rfl⟩) hHeld ?_
            try simp only [Act.put, List.setIfInBounds_toArray, List.set_cons_zero, List.set_cons_succ]
            refine wpAnyH_take (i := 22) (oi := _) (v := _) (by simp only [List.getElem?_toArray, List.getElem?_cons_succ, List.getElem?_cons_zero]; rfl) (by kernel_rfl) (by kernel_rfl) (by kernel_rfl) (fun _ _ _ h => h) (Or.inr ⟨by rfl, rfl⟩) hHeld ?_
            try simp only [Act.put, List.setIfInBounds_toArray, List.set_cons_zero, List.set_cons_succ]
            refine wpAnyH_take (i := 23) (oi := _) (v := ?vq1_23) (by simp only [List.getElem?_toArray, List.getElem?_cons_succ, List.getElem?_cons_zero]; rfl) (by kernel_rfl) (by kernel_rfl) (by kernel_rfl) (fun _ _ _ h => h) (Or.inl ⟨by rfl, ?yq1_23⟩) hHeld ?rq1_23
            case yq1_23 => (intro w hSw; (try dsimp only at hSw); go_simp; try with_reducible rfl)
            try simp only [Act.put, List.setIfInBounds_toArray, List.set_cons_zero, List.set_cons_succ]
            refine wpAnyH_take (i := 24) (oi := _) (v := ?vq1_24) (by simp only [List.getElem?_toArray, List.getElem?_cons_succ, List.getElem?_cons_zero]; rfl) (by kernel_rfl) (by kernel_rfl) (by kernel_rfl) (fun _ _ _ h => h) (Or.inl ⟨by rfl, ?yq1_24⟩) hHeld ?rq1_24
            case yq1_24 => (intro w hSw; (try dsimp only at hSw); go_simp; try with_reducible rfl)
            try simp only [Act.put, List.setIfInBounds_toArray, List.set_cons_zero, List.set_cons_succ]
            refine wpAnyH_done (by kernel_rfl) ?_ _
            refine NoPanic.normal ?_
            go_wp2_with fail
            go_roundg (R3.length - (n + 1))
            case measure => omega
            case rel => exact ⟨n + 1, by omega, rfl, by go_num, hHeld.2.2.2.2⟩
        · obtain rfl : n = R3.length := by omega
          have kl2 : ¬ (R3.length : Int) < R3.length := by omega
          have HB9 := Lib.hid hb9
          have HFB := Lib.hid (HF8.out.call HD.out hb9)
          clear hb9
          go_wp2_with fail
          go_roundg (A.length + 1 - (i + 1))
          case measure => omega
          case rel =>
            refine ⟨i + 1, by omega, rfl, by go_num, HFB.out.bel, fun h => ⟨S2, R3, V3, e3, ?_⟩⟩
            have h1 := HFB.out
            exact ⟨h1.dig, h1.oth, h1.has, h1.fine, HL3.out h, h1.past, h1.apart, h1.bel, h1.c0, h1.c1⟩
    · have e1 : ((i : Int) == A.length) = false := by simp; omega
      have il : i < A.length := by omega
      have il2 : (i : Int) < A.length := by omega
      have hxk : A[i]? = some A[i] := List.getElem?_eq_getElem il
      generalize hit : A[i] = p at *
      obtain ⟨px, pc⟩ := p
      obtain ⟨bb, off, rfl, hbl, c0', c1'⟩ := (HA.out.call hbw).at_ i _ hxk
      have hok := HA.out.ok _ (List.mem_of_getElem? hxk)
      obtain ⟨⟨o1, o2⟩, o3, o4⟩ := hok
      simp only at c0' c1' o1 o2 o3 o4
      clear hxk hit
      by_cases g1 : 0 < pc
      case neg =>
        obtain ⟨wq, hwq⟩ : ∃ wq, wq = wr := ⟨_, rfl⟩
        subst hwq
        have HK : Hid (∃ (S2 : Nat → Prop) (R3 V3 : List PairV) (e3 : Int × Int × Bool), FewG Dg w wq B B' b k S' R2 E2 130 S2 R3 V3 e3 ∧ (i + 1 ≤ A.length → V3.length ≤ i + 1)) := Lib.hid ⟨Sx, Rx, Vx, ex, HFX.out.mono (by have := HFX.out.len; omega), fun h => by have := HFX.out.len; omega⟩
        obtain ⟨S2, R3, V3, e3, hf3, hl3⟩ := HK.out
        have HF3 := Lib.hid hf3
        have HL3 := Lib.hid hl3
        have hsx := fineG_sum hf3.fine
        have hlx := hf3.len
        have hmx := hf3.has.dig.sum
        have hT : 0 ≤ sumP R3 ∧ sumP R3 ≤ 150000000000000000 := by rw [hmx]; omega
        have hrow := hf3.has.row (by omega)
        have hfew := hf3.has.few
        have hgd : goodB R3 = true := goodB_true.2 hrow.good
        have HND := Lib.hid (fun p (hp : p ∈ R3) => few_node hf3.has hp)
        obtain ⟨T, hTT⟩ : ∃ T, sumP R3 = T := ⟨_, rfl⟩
        rw [hTT] at hT HND
        have HNO := Lib.hid (HD.out.nodes wq B S2 b k R3 e3 hf3.dig)
        have c1 := hf3.c1
        have HOKR := Lib.hid (hrow.ok q2)
        clear hf3 hl3 HK hsx hlx hmx
        go_wp2_with fail
        refine HNO.out.mono ?_
        rintro e w8 ⟨a1, k1', rfl, hp1, b8⟩
        have HP8 := Lib.hid hp1
        have HF8 := Lib.hid (HF3.out.call HD.out b8)
        have G1 := Lib.hid (fun W (h : Box2 w.heap.size (.int .i64 b) (.int .i64 k) w8 W) => box2_calls (rgood_row W a1 k1' R3 true hgd (HP8.out.call h.2.2) (by omega)) h)
        have G2 := Lib.hid (fun W (h : Box2 w.heap.size (.int .i64 b) (.int .i64 k) w8 W) => box2_calls (rtotal_any W a1 k1' R3 T (HP8.out.call h.2.2) (by omega) hTT (by omega)) h)
        have G3 := Lib.hid (fun W (h : Box2 w.heap.size (.int .i64 b) (.int .i64 k) w8 W) => box2_calls (HD.out.total W B S2 b k R3 e3 (HD.out.call HF8.out.dig h.2.2)) h)
        rw [hTT] at G3
        have HTO := Lib.hid (fun W (h : Below w8.heap.size w8 W) => HD.out.total W B S2 b k R3 e3 (HD.out.call HF8.out.dig h))
        rw [hTT] at HTO
        clear c1
        obtain ⟨c0, c1⟩ : w8.cell? ⟨w.heap.size, 0, none⟩ = some (.int .i64 b) ∧ w8.cell? ⟨w.heap.size, 1, none⟩ = some (.int .i64 k) := ⟨HF8.out.c0, HF8.out.c1⟩
        have bz : Below w8.heap.size w8 w8 := Below.refl _ _
        have u1 : IntKind.i64.wrap (4 * (k : Int)) = 4 * (k : Int) := by rw [IntKind.wrap_i64]; omega
        have u2 : ¬ 4 * (k : Int) < (R3.length : Int) := by omega
        have t1 : (!T == T) = false := by simp
        have t2 : (T != T) = false := by simp
        have HFE := Lib.hid hfew
        clear hp1 b8 HNO hrow hgd hTT
        go_wp2_with ((first
          | (go_at_call 25; with_reducible refine (G1.out _ ⟨by assumption, by assumption, by assumption⟩).mono ?_; rintro e w' ⟨rfl, x0', x1', x2'⟩)
          | (go_at_call 26; with_reducible refine (G2.out _ ⟨by assumption, by assumption, by assumption⟩).mono ?_; rintro e w' ⟨rfl, x0', x1', x2'⟩)
          | (go_at_call 19; with_reducible refine (G3.out _ ⟨by assumption, by assumption, by assumption⟩).mono ?_; rintro e w' ⟨rfl, x0', x1', x2'⟩)))
        have HX2 := Lib.hid x2'
        go_loopg [104] R3.length (fun g j wr => ∃ (n : Nat), n ≤ R3.length ∧ g = R3.length - n ∧ j = .int .i64 n ∧ Below w8.heap.size w8 wr)
        case atStart => exact ⟨0, Nat.zero_le _, rfl, rfl, HX2.out⟩
        case round =>
          clear x0' x1' x2' bz c0 c1
          obtain ⟨n, hn, rfl, rfl, hb9⟩ := hrel
          by_cases hlt2 : n < R3.length
          · have kl2 : (n : Int) < R3.length := by omega
            have hyk : R3[n]? = some R3[n] := List.getElem?_eq_getElem hlt2
            generalize hit2 : R3[n] = y at *
            obtain ⟨yx, yc⟩ := y
            obtain ⟨bb9, off9, rfl, hbl9, y0, y1⟩ := (HP8.out.call hb9).at_ n _ hyk
            have hmem := List.mem_of_getElem? hyk
            obtain ⟨hnd, hsm⟩ := HND.out _ hmem
            obtain ⟨⟨o1, o2⟩, o3, o4⟩ := HOKR.out _ hmem
            simp only at y0 y1 o1 o2 o3 o4
            have HGO := Lib.hid (fun W => good16_node W q2 hnd)
            obtain ⟨q, hq⟩ : ∃ q, T / (k : Int) = q := ⟨_, rfl⟩
            have hq0 : 0 ≤ q ∧ q ≤ T := by rw [← hq]; exact ⟨Int.ediv_nonneg (by omega) (by omega), Int.ediv_le_self _ (by omega)⟩
            have v1 : T.tdiv (k : Int) = q := by rw [Int.tdiv_eq_ediv_of_nonneg (by omega)]; exact hq
            have v2 : IntKind.u64.wrap q = q := by rw [IntKind.wrap_u64]; omega
            have v3 : IntKind.u64.wrap (k : Int) = k := by rw [IntKind.wrap_u64]; omega
            have v4 : ¬ (k : Int) = 0 := by omega
            have v5 : ¬ k = 0 := by omega
            have v6 : ((k : Int) == 0) = false := by simp; omega
            have hsm2 : yx < (lv : Int) → yc ≤ q := fun h => by rw [← hq]; exact hsm (by rw [HLV.out]; exact h)
            have hal : Below wr.heap.size wr (wr.alloc (.cells #[.int .i64 yx, .int .u64 yc] 61)) := (Below.refl _ _).alloc (Nat.le_refl _) _
            have HB0 := Lib.hid (hb9.trans (hal.mono hb9.size)).drew
            have HS0 : Hid ((wr.alloc (.cells #[.int .i64 yx, .int .u64 yc] 61)).drew.cell? ⟨wr.heap.size, 0, none⟩ = some (.int .i64 yx) ∧ (wr.alloc (.cells #[.int .i64 yx, .int .u64 yc] 61)).drew.cell? ⟨wr.heap.size, 1, none⟩ = some (.int .u64 yc) ∧ Box2 w.heap.size (.int .i64 b) (.int .i64 k) w8 (wr.alloc (.cells #[.int .i64 yx, .int .u64 yc] 61)).drew) := Lib.hid ⟨by go_simp, by go_simp, cell_later HB0.out HF8.out.c0, cell_later HB0.out HF8.out.c1, HB0.out⟩
            have HST := Lib.hid (fun (W W' : World) (h : W.cell? ⟨wr.heap.size, 0, none⟩ = some (.int .i64 yx) ∧ W.cell? ⟨wr.heap.size, 1, none⟩ = some (.int .u64 yc) ∧ Box2 w.heap.size (.int .i64 b) (.int .i64 k) w8 W) (hb : Below W.heap.size W W') => (⟨cell_later hb h.1, cell_later hb h.2.1, box2_later h.2.2 hb⟩ : W'.cell? ⟨wr.heap.size, 0, none⟩ = some (.int .i64 yx) ∧ W'.cell? ⟨wr.heap.size, 1, none⟩ = some (.int .u64 yc) ∧ Box2 w.heap.size (.int .i64 b) (.int .i64 k) w8 W'))
            clear hyk hit2 hmem hnd hsm hq hal hb9
            by_cases hlow : yx < (lv : Int)
            · have z1 : decide (yx < (lv : Int)) = true := decide_eq_true hlow
              have z2 : decide (q < yc) = false := decide_eq_false (by have := hsm2 hlow; omega)
              clear hsm2
              go_wp2_with fail
              go_region_held3 (fun w' => w'.cell? ⟨wr.heap.size, 0, none⟩ = some (.int .i64 yx) ∧ w'.cell? ⟨wr.heap.size, 1, none⟩ = some (.int .u64 yc) ∧ w'.cell? ⟨w.heap.size, 0, none⟩ = some (.int .i64 b) ∧ w'.cell? ⟨w.heap.size, 1, none⟩ = some (.int .i64 k) ∧ Below w8.heap.size w8 w')
                (first | exact HS0.out | exact HST.out _ _ (by assumption) hbA | exact HST.out _ _ (by assumption) hbB | assumption)
                ((first
                  | (go_at_call 27; with_reducible refine (HGO.out _).mono ?_; rintro e wA ⟨rfl, hbA⟩)
                  | (go_at_call 19; with_reducible refine (HTO.out _ (And.right (And.right (And.right (And.right (by assumption)))))).mono ?_; rintro e wB ⟨rfl, hbB⟩)))
              all_goals
                rename_i hHeld
                obtain ⟨_, _, _, _, hbz⟩ := hHeld
                go_wp2_with fail
                go_roundg (R3.length - (n + 1))
                case measure => omega
                case rel => exact ⟨n + 1, by omega, rfl, by go_num, hbz⟩
            · have z1 : decide (yx < (lv : Int)) = false := decide_eq_false hlow
              clear hsm2
              go_wp2_with fail
              refine wp_region_noPanic ?_
              refine wp_region_held_drew (S := (fun w' => w'.cell? ⟨wr.heap.size, 0, none⟩ = some (.int .i64 yx) ∧ w'.cell? ⟨wr.heap.size, 1, none⟩ = some (.int .u64 yc) ∧ w'.cell? ⟨w.heap.size, 0, none⟩ = some (.int .i64 b) ∧ w'.cell? ⟨w.heap.size, 1, none⟩ = some (.int .i64 k) ∧ Below w8.heap.size w8 w')) (by kernel_rfl) (HS0.out) (fun hHeld => ?_)
              refine wpAnyH_take (i := 0) (oi := _) (v := ?vq2_0) (by simp only [List.getElem?_toArray, List.getElem?_cons_succ, List.getElem?_cons_zero]; rfl) (by kernel_rfl) (by kernel_rfl) (by kernel_rfl) (fun _ _ _ h => h) (Or.inl ⟨by rfl, ?yq2_0⟩) hHeld ?rq2_0
              case yq2_0 => (intro w hSw; (try dsimp only at hSw); go_simp; try with_reducible rfl)
              try simp only [Act.put, List.setIfInBounds_toArray, List.set_cons_zero, List.set_cons_succ]
              refine wpAnyH_take (i := 1) (oi := _) (v := ?vq2_1) (by simp only [List.getElem?_toArray, List.getElem?_cons_succ, List.getElem?_cons_zero]; rfl) (by kernel_rfl) (by kernel_rfl) (by kernel_rfl) (fun _ _ _ h => h) (Or.inl ⟨by rfl, ?yq2_1⟩) hHeld ?rq2_1
              case yq2_1 => (intro w hSw; (try dsimp only at hSw); go_simp; try with_reducible rfl)
              try simp only [Act.put, List.setIfInBounds_toArray, List.set_cons_zero, List.set_cons_succ]
              refine wpAnyH_take (i := 2) (oi := _) (v := ?vq2_2) (by simp only [List.getElem?_toArray, List.getElem?_cons_succ, List.getElem?_cons_zero]; rfl) (by kernel_rfl) (by kernel_rfl) (by kernel_rfl) (fun _ _ _ h => h) (Or.inl ⟨by rfl, ?yq2_2⟩) hHeld ?rq2_2
              case yq2_2 => (intro w hSw; (try dsimp only at hSw); go_simp; try with_reducible rfl)
              try simp only [Act.put, List.setIfInBounds_toArray, List.set_cons_zero, List.set_cons_succ]
              refine wpAnyH_take (i := 3) (oi := _) (v := ?vq2_3) (by simp only [List.getElem?_toArray, List.getElem?_cons_succ, List.getElem?_cons_zero]; rfl) (by kernel_rfl) (by kernel_rfl) (by kernel_rfl) (fun _ _ _ h => h) (Or.inl ⟨by rfl, ?yq2_3⟩) hHeld ?rq2_3
              case yq2_3 => (intro w hSw; (try dsimp only at hSw); go_simp; try with_reducible rfl)
              try simp only [Act.put, List.setIfInBounds_toArray, List.set_cons_zero, List.set_cons_succ]
              refine wpAnyH_ready (rs := [4]) (by kernel_rfl) (by simp) ?_
              refine AllReadyH.cons (o := _) (by simp only [List.getElem?_toArray, List.getElem?_cons_succ, List.getElem?_cons_zero]; rfl) (fun K hK => ?_) AllReadyH.nil
              go_simp
              with_reducible refine (HGO.out _).mono ?_; rintro e wA ⟨rfl, hbA⟩
              try (go_wp2_with fail)
              refine hK.out _ _ (HST.out _ _ hHeld hbA) (fun hHeld => ?_)
              clear hK K
              try simp only [Act.put, List.setIfInBounds_toArray, List.set_cons_zero, List.set_cons_succ]
              refine wpAnyH_take (i := 5) (oi := _) (v := ?vq2_5) (by simp only [List.getElem?_toArray, List.getElem?_cons_succ, List.getElem?_cons_zero]; rfl) (by kernel_rfl) (by kernel_rfl) (by kernel_rfl) (fun _ _ _ h => h) (Or.inl ⟨by rfl, ?yq2_5⟩) hHeld ?rq2_5
              case yq2_5 => (intro w hSw; (try dsimp only at hSw); go_simp; try with_reducible rfl)
              try simp only [Act.put, List.setIfInBounds_toArray, List.set_cons_zero, List.set_cons_succ]
              refine wpAnyH_take (i := 6) (oi := _) (v := ?vq2_6) (by simp only [List.getElem?_toArray, List.getElem?_cons_succ, List.getElem?_cons_zero]; rfl) (by kernel_rfl) (by kernel_rfl) (by kernel_rfl) (fun _ _ _ h => h) (Or.inl ⟨by rfl, ?yq2_6⟩) hHeld ?rq2_6
              case yq2_6 => (intro w hSw; (try dsimp only at hSw); go_simp; try with_reducible rfl)
              try simp only [Act.put, List.setIfInBounds_toArray, List.set_cons_zero, List.set_cons_succ]
              refine wpAnyH_take (i := 7) (oi := _) (v := ?vq2_7) (by simp only [List.getElem?_toArray, List.getElem?_cons_succ, List.getElem?_cons_zero]; rfl) (by kernel_rfl) (by kernel_rfl) (by kernel_rfl) (fun _ _ _ h => h) (Or.inl ⟨by rfl, ?yq2_7⟩) hHeld ?rq2_7
              case yq2_7 => (intro w hSw; (try dsimp only at hSw); go_simp; try with_reducible rfl)
              try simp only [Act.put, List.setIfInBounds_toArray, List.set_cons_zero, List.set_cons_succ]
              refine wpAnyH_take (i := 8) (oi := _) (v := ?vq2_8) (by simp only [List.getElem?_toArray, List.getElem?_cons_succ, List.getElem?_cons_zero]; rfl) (by kernel_rfl) (by kernel_rfl) (by kernel_rfl) (fun _ _ _ h => h) (Or.inl ⟨by rfl, ?yq2_8⟩) hHeld ?rq2_8
              case yq2_8 => (intro w hSw; (try dsimp only at hSw); go_simp; try with_reducible rfl)
              try simp only [Act.put, List.setIfInBounds_toArray, List.set_cons_zero, List.set_cons_succ]
              refine wpAnyH_take (i := 9) (oi := _) (v := ?vq2_9) (by simp only [List.getElem?_toArray, List.getElem?_cons_succ, List.getElem?_cons_zero]; rfl) (by kernel_rfl) (by kernel_rfl) (by kernel_rfl) (fun _ _ _ h => h) (Or.inl ⟨by rfl, ?yq2_9⟩) hHeld ?rq2_9
              case yq2_9 => (intro w hSw; (try dsimp only at hSw); go_simp; try with_reducible rfl)
              try simp only [Act.put, List.setIfInBounds_toArray, List.set_cons_zero, List.set_cons_succ]
              refine wpAnyH_take (i := 10) (oi := _) (v := ?vq2_10) (by simp only [List.getElem?_toArray, List.getElem?_cons_succ, List.getElem?_cons_zero]; rfl) (by kernel_rfl) (by kernel_rfl) (by kernel_rfl) (fun _ _ _ h => h) (Or.inl ⟨by rfl, ?yq2_10⟩) hHeld ?rq2_10
              case yq2_10 => (intro w hSw; (try dsimp only at hSw); go_simp; try with_reducible rfl)
              try simp only [Act.put, List.setIfInBounds_toArray, List.set_cons_zero, List.set_cons_succ]
              refine wpAnyH_take (i := 11) (oi := _) (v := ?vq2_11) (by simp only [List.getElem?_toArray, List.getElem?_cons_succ, List.getElem?_cons_zero]; rfl) (by kernel_rfl) (by kernel_rfl) (by kernel_rfl) (fun _ _ _ h => h) (Or.inl ⟨by rfl, ?yq2_11⟩) hHeld ?rq2_11
              case yq2_11 => (intro w hSw; (try dsimp only at hSw); go_simp; try with_reducible rfl)
              try simp only [Act.put, List.setIfInBounds_toArray, List.set_cons_zero, List.set_cons_succ]
              refine wpAnyH_take (i := 12) (oi := _) (v := ?vq2_12) (by simp only [List.getElem?_toArray, List.getElem?_cons_succ, List.getElem?_cons_zero]; rfl) (by kernel_rfl) (by kernel_rfl) (by kernel_rfl) (fun _ _ _ h => h) (Or.inl ⟨by rfl, ?yq2_12⟩) hHeld ?rq2_12
              case yq2_12 => (intro w hSw; (try dsimp only at hSw); go_simp; try with_reducible rfl)
              try simp only [Act.put, List.setIfInBounds_toArray, List.set_cons_zero, List.set_cons_succ]
              refine wpAnyH_take (i := 13) (oi := _) (v := ?vq2_13) (by simp only [List.getElem?_toArray, List.getElem?_cons_succ, List.getElem?_cons_zero]; rfl) (by kernel_rfl) (by kernel_rfl) (by kernel_rfl) (fun _ _ _ h => h) (Or.inl ⟨by rfl, ?yq2_13⟩) hHeld ?rq2_13
              case yq2_13 => (intro w hSw; (try dsimp only at hSw); go_simp; try with_reducible rfl)
              try simp only [Act.put, List.setIfInBounds_toArray, List.set_cons_zero, List.set_cons_succ]
              refine wpAnyH_take (i := 14) (oi := _) (v := _) (by simp only [List.getElem?_toArray, List.getElem?_cons_succ, List.getElem?_cons_zero]; rfl) (by kernel_rfl) (by kernel_rfl) (by kernel_rfl) (fun _ _ _ h => h) (Or.inr ⟨by rfl, rfl⟩) hHeld ?_
              try simp only [Act.put, List.setIfInBounds_toArray, List.set_cons_zero, List.set_cons_succ]
              refine wpAnyH_take (i := 15) (oi := _) (v := _) (by simp only [List.getElem?_toArray, List.getElem?_cons_succ, List.getElem?_cons_zero]; rfl) (by kernel_rfl) (by kernel_rfl) (by kernel_rfl) (fun _ _ _ h => h) (Or.inr ⟨by rfl, rfl⟩) hHeld ?_
              try simp only [Act.put, List.setIfInBounds_toArray, List.set_cons_zero, List.set_cons_succ]
              refine wpAnyH_take (i := 16) (oi := _) (v := _) (by simp only [List.getElem?_toArray, List.getElem?_cons_succ, List.getElem?_cons_zero]; rfl) (by kernel_rfl) (by kernel_rfl) (by kernel_rfl) (fun _ _ _ h => h) (Or.inr ⟨by rfl, rfl⟩) hHeld ?_
              try simp only [Act.put, List.setIfInBounds_toArray, List.set_cons_zero, List.set_cons_succ]
              refine wpAnyH_take (i := 17) (oi := _) (v := _) (by simp only [List.getElem?_toArray, List.getElem?_cons_succ, List.getElem?_cons_zero]; rfl) (by kernel_rfl) (by kernel_rfl) (by kernel_rfl) (fun _ _ _ h => h) (Or.inr ⟨by rfl, rfl⟩) hHeld ?_
              try simp only [Act.put, List.setIfInBounds_toArray, List.set_cons_zero, List.set_cons_succ]
              refine wpAnyH_take (i := 18) (oi := _) (v := _) (by simp only [List.getElem?_toArray, List.getElem?_cons_succ, List.getElem?_cons_zero]; rfl) (by kernel_rfl) (by kernel_rfl) (by kernel_rfl) (fun _ _ _ h => h) (Or.inr ⟨by rfl, rfl⟩) hHeld ?_
              try simp only [Act.put, List.setIfInBounds_toArray, List.set_cons_zero, List.set_cons_succ]
              refine wpAnyH_take (i := 19) (oi := _) (v := _) (by simp only [List.getElem?_toArray, List.getElem?_cons_succ, List.getElem?_cons_zero]; rfl) (by kernel_rfl) (by kernel_rfl) (by kernel_rfl) (fun _ _ _ h => h) (Or.inr ⟨by rfl, rfl⟩) hHeld ?_
              try simp only [Act.put, List.setIfInBounds_toArray, List.set_cons_zero, List.set_cons_succ]
              refine wpAnyH_take (i := 20) (oi := _) (v := _) (by simp only [List.getElem?_toArray, List.getElem?_cons_succ, List.getElem?_cons_zero]; rfl) (by kernel_rfl) (by kernel_rfl) (by kernel_rfl) (fun _ _ _ h => h) (Or.inr ⟨by rfl, rfl⟩) hHeld ?_
              try simp only [Act.put, List.setIfInBounds_toArray, List.set_cons_zero, List.set_cons_succ]
              refine wpAnyH_take (i := 21) (oi := _) (v := _) (by simp only [List.getElem?_toArray, List.getElem?_cons_succ, List.getElem?_cons_zero]; rfl) (by kernel_rfl) (by kernel_rfl) (by kernel_rfl) (fun _ _ _ h => h) (Or.inr ⟨by rfl, rfl⟩) hHeld ?_
              try simp only [Act.put, List.setIfInBounds_toArray, List.set_cons_zero, List.set_cons_succ]
              refine wpAnyH_take (i := 22) (oi := _) (v := _) (by simp only [List.getElem?_toArray, List.getElem?_cons_succ, List.getElem?_cons_zero]; rfl) (by kernel_rfl) (by kernel_rfl) (by kernel_rfl) (fun _ _ _ h => h) (Or.inr ⟨by rfl, rfl⟩) hHeld ?_
              try simp only [Act.put, List.setIfInBounds_toArray, List.set_cons_zero, List.set_cons_succ]
              refine wpAnyH_take (i := 23) (oi := _) (v := ?vq2_23) (by simp only [List.getElem?_toArray, List.getElem?_cons_succ, List.getElem?_cons_zero]; rfl) (by kernel_rfl) (by kernel_rfl) (by kernel_rfl) (fun _ _ _ h => h) (Or.inl ⟨by rfl, ?yq2_23⟩) hHeld ?rq2_23
              case yq2_23 => (intro w hSw; (try dsimp only at hSw); go_simp; try with_reducible rfl)
              try simp only [Act.put, List.setIfInBounds_toArray, List.set_cons_zero, List.set_cons_succ]
              refine wpAnyH_take (i := 24) (oi := _) (v := ?vq2_24) (by simp only [List.getElem?_toArray, List.getElem?_cons_succ, List.getElem?_cons_zero]; rfl) (by kernel_rfl) (by kernel_rfl) (by kernel_rfl) (fun _ _ _ h => h) (Or.inl ⟨by rfl, ?yq2_24⟩) hHeld ?rq2_24
              case yq2_24 => (intro w hSw; (try dsimp only at hSw); go_simp; try with_reducible rfl)
              try simp only [Act.put, List.setIfInBounds_toArray, List.set_cons_zero, List.set_cons_succ]
              refine wpAnyH_done (by kernel_rfl) ?_ _
              refine NoPanic.normal ?_
              go_wp2_with fail
              go_roundg (R3.length - (n + 1))
              case measure => omega
              case rel => exact ⟨n + 1, by omega, rfl, by go_num, hHeld.2.2.2.2⟩
          · obtain rfl : n = R3.length := by omega
            have kl2 : ¬ (R3.length : Int) < R3.length := by omega
            have HB9 := Lib.hid hb9
            have HFB := Lib.hid (HF8.out.call HD.out hb9)
            clear hb9
            go_wp2_with fail
            go_roundg (A.length + 1 - (i + 1))
            case measure => omega
            case rel =>
              refine ⟨i + 1, by omega, rfl, by go_num, HFB.out.bel, fun h => ⟨S2, R3, V3, e3, ?_⟩⟩
              have h1 := HFB.out
              exact ⟨h1.dig, h1.oth, h1.has, h1.fine, HL3.out h, h1.past, h1.apart, h1.bel, h1.c0, h1.c1⟩
      by_cases g2 : pc ≤ 1125899906842624
      case neg =>
        obtain ⟨wq, hwq⟩ : ∃ wq, wq = wr := ⟨_, rfl⟩
        subst hwq
        have HK : Hid (∃ (S2 : Nat → Prop) (R3 V3 : List PairV) (e3 : Int × Int × Bool), FewG Dg w wq B B' b k S' R2 E2 130 S2 R3 V3 e3 ∧ (i + 1 ≤ A.length → V3.length ≤ i + 1)) := Lib.hid ⟨Sx, Rx, Vx, ex, HFX.out.mono (by have := HFX.out.len; omega), fun h => by have := HFX.out.len; omega⟩
        obtain ⟨S2, R3, V3, e3, hf3, hl3⟩ := HK.out
        have HF3 := Lib.hid hf3
        have HL3 := Lib.hid hl3
        have hsx := fineG_sum hf3.fine
        have hlx := hf3.len
        have hmx := hf3.has.dig.sum
        have hT : 0 ≤ sumP R3 ∧ sumP R3 ≤ 150000000000000000 := by rw [hmx]; omega
        have hrow := hf3.has.row (by omega)
        have hfew := hf3.has.few
        have hgd : goodB R3 = true := goodB_true.2 hrow.good
        have HND := Lib.hid (fun p (hp : p ∈ R3) => few_node hf3.has hp)
        obtain ⟨T, hTT⟩ : ∃ T, sumP R3 = T := ⟨_, rfl⟩
        rw [hTT] at hT HND
        have HNO := Lib.hid (HD.out.nodes wq B S2 b k R3 e3 hf3.dig)
        have c1 := hf3.c1
        have HOKR := Lib.hid (hrow.ok q2)
        clear hf3 hl3 HK hsx hlx hmx
        go_wp2_with fail
        refine HNO.out.mono ?_
        rintro e w8 ⟨a1, k1', rfl, hp1, b8⟩
        have HP8 := Lib.hid hp1
        have HF8 := Lib.hid (HF3.out.call HD.out b8)
        have G1 := Lib.hid (fun W (h : Box2 w.heap.size (.int .i64 b) (.int .i64 k) w8 W) => box2_calls (rgood_row W a1 k1' R3 true hgd (HP8.out.call h.2.2) (by omega)) h)
        have G2 := Lib.hid (fun W (h : Box2 w.heap.size (.int .i64 b) (.int .i64 k) w8 W) => box2_calls (rtotal_any W a1 k1' R3 T (HP8.out.call h.2.2) (by omega) hTT (by omega)) h)
        have G3 := Lib.hid (fun W (h : Box2 w.heap.size (.int .i64 b) (.int .i64 k) w8 W) => box2_calls (HD.out.total W B S2 b k R3 e3 (HD.out.call HF8.out.dig h.2.2)) h)
        rw [hTT] at G3
        have HTO := Lib.hid (fun W (h : Below w8.heap.size w8 W) => HD.out.total W B S2 b k R3 e3 (HD.out.call HF8.out.dig h))
        rw [hTT] at HTO
        clear c1
        obtain ⟨c0, c1⟩ : w8.cell? ⟨w.heap.size, 0, none⟩ = some (.int .i64 b) ∧ w8.cell? ⟨w.heap.size, 1, none⟩ = some (.int .i64 k) := ⟨HF8.out.c0, HF8.out.c1⟩
        have bz : Below w8.heap.size w8 w8 := Below.refl _ _
        have u1 : IntKind.i64.wrap (4 * (k : Int)) = 4 * (k : Int) := by rw [IntKind.wrap_i64]; omega
        have u2 : ¬ 4 * (k : Int) < (R3.length : Int) := by omega
        have t1 : (!T == T) = false := by simp
        have t2 : (T != T) = false := by simp
        have HFE := Lib.hid hfew
        clear hp1 b8 HNO hrow hgd hTT
        go_wp2_with ((first
          | (go_at_call 25; with_reducible refine (G1.out _ ⟨by assumption, by assumption, by assumption⟩).mono ?_; rintro e w' ⟨rfl, x0', x1', x2'⟩)
          | (go_at_call 26; with_reducible refine (G2.out _ ⟨by assumption, by assumption, by assumption⟩).mono ?_; rintro e w' ⟨rfl, x0', x1', x2'⟩)
          | (go_at_call 19; with_reducible refine (G3.out _ ⟨by assumption, by assumption, by assumption⟩).mono ?_; rintro e w' ⟨rfl, x0', x1', x2'⟩)))
        have HX2 := Lib.hid x2'
        go_loopg [104] R3.length (fun g j wr => ∃ (n : Nat), n ≤ R3.length ∧ g = R3.length - n ∧ j = .int .i64 n ∧ Below w8.heap.size w8 wr)
        case atStart => exact ⟨0, Nat.zero_le _, rfl, rfl, HX2.out⟩
        case round =>
          clear x0' x1' x2' bz c0 c1
          obtain ⟨n, hn, rfl, rfl, hb9⟩ := hrel
          by_cases hlt2 : n < R3.length
          · have kl2 : (n : Int) < R3.length := by omega
            have hyk : R3[n]? = some R3[n] := List.getElem?_eq_getElem hlt2
            generalize hit2 : R3[n] = y at *
            obtain ⟨yx, yc⟩ := y
            obtain ⟨bb9, off9, rfl, hbl9, y0, y1⟩ := (HP8.out.call hb9).at_ n _ hyk
            have hmem := List.mem_of_getElem? hyk
            obtain ⟨hnd, hsm⟩ := HND.out _ hmem
            obtain ⟨⟨o1, o2⟩, o3, o4⟩ := HOKR.out _ hmem
            simp only at y0 y1 o1 o2 o3 o4
            have HGO := Lib.hid (fun W => good16_node W q2 hnd)
            obtain ⟨q, hq⟩ : ∃ q, T / (k : Int) = q := ⟨_, rfl⟩
            have hq0 : 0 ≤ q ∧ q ≤ T := by rw [← hq]; exact ⟨Int.ediv_nonneg (by omega) (by omega), Int.ediv_le_self _ (by omega)⟩
            have v1 : T.tdiv (k : Int) = q := by rw [Int.tdiv_eq_ediv_of_nonneg (by omega)]; exact hq
            have v2 : IntKind.u64.wrap q = q := by rw [IntKind.wrap_u64]; omega
            have v3 : IntKind.u64.wrap (k : Int) = k := by rw [IntKind.wrap_u64]; omega
            have v4 : ¬ (k : Int) = 0 := by omega
            have v5 : ¬ k = 0 := by omega
            have v6 : ((k : Int) == 0) = false := by simp; omega
            have hsm2 : yx < (lv : Int) → yc ≤ q := fun h => by rw [← hq]; exact hsm (by rw [HLV.out]; exact h)
            have hal : Below wr.heap.size wr (wr.alloc (.cells #[.int .i64 yx, .int .u64 yc] 61)) := (Below.refl _ _).alloc (Nat.le_refl _) _
            have HB0 := Lib.hid (hb9.trans (hal.mono hb9.size)).drew
            have HS0 : Hid ((wr.alloc (.cells #[.int .i64 yx, .int .u64 yc] 61)).drew.cell? ⟨wr.heap.size, 0, none⟩ = some (.int .i64 yx) ∧ (wr.alloc (.cells #[.int .i64 yx, .int .u64 yc] 61)).drew.cell? ⟨wr.heap.size, 1, none⟩ = some (.int .u64 yc) ∧ Box2 w.heap.size (.int .i64 b) (.int .i64 k) w8 (wr.alloc (.cells #[.int .i64 yx, .int .u64 yc] 61)).drew) := Lib.hid ⟨by go_simp, by go_simp, cell_later HB0.out HF8.out.c0, cell_later HB0.out HF8.out.c1, HB0.out⟩
            have HST := Lib.hid (fun (W W' : World) (h : W.cell? ⟨wr.heap.size, 0, none⟩ = some (.int .i64 yx) ∧ W.cell? ⟨wr.heap.size, 1, none⟩ = some (.int .u64 yc) ∧ Box2 w.heap.size (.int .i64 b) (.int .i64 k) w8 W) (hb : Below W.heap.size W W') => (⟨cell_later hb h.1, cell_later hb h.2.1, box2_later h.2.2 hb⟩ : W'.cell? ⟨wr.heap.size, 0, none⟩ = some (.int .i64 yx) ∧ W'.cell? ⟨wr.heap.size, 1, none⟩ = some (.int .u64 yc) ∧ Box2 w.heap.size (.int .i64 b) (.int .i64 k) w8 W'))
            clear hyk hit2 hmem hnd hsm hq hal hb9
            by_cases hlow : yx < (lv : Int)
            · have z1 : decide (yx < (lv : Int)) = true := decide_eq_true hlow
              have z2 : decide (q < yc) = false := decide_eq_false (by have := hsm2 hlow; omega)
              clear hsm2
              go_wp2_with fail
              go_region_held3 (fun w' => w'.cell? ⟨wr.heap.size, 0, none⟩ = some (.int .i64 yx) ∧ w'.cell? ⟨wr.heap.size, 1, none⟩ = some (.int .u64 yc) ∧ w'.cell? ⟨w.heap.size, 0, none⟩ = some (.int .i64 b) ∧ w'.cell? ⟨w.heap.size, 1, none⟩ = some (.int .i64 k) ∧ Below w8.heap.size w8 w')
                (first | exact HS0.out | exact HST.out _ _ (by assumption) hbA | exact HST.out _ _ (by assumption) hbB | assumption)
                ((first
                  | (go_at_call 27; with_reducible refine (HGO.out _).mono ?_; rintro e wA ⟨rfl, hbA⟩)
                  | (go_at_call 19; with_reducible refine (HTO.out _ (And.right (And.right (And.right (And.right (by assumption)))))).mono ?_; rintro e wB ⟨rfl, hbB⟩)))
              all_goals
                rename_i hHeld
                obtain ⟨_, _, _, _, hbz⟩ := hHeld
                go_wp2_with fail
                go_roundg (R3.length - (n + 1))
                case measure => omega
                case rel => exact ⟨n + 1, by omega, rfl, by go_num, hbz⟩
            · have z1 : decide (yx < (lv : Int)) = false := decide_eq_false hlow
              clear hsm2
              go_wp2_with fail
              refine wp_region_noPanic ?_
              refine wp_region_held_drew (S := (fun w' => w'.cell? ⟨wr.heap.size, 0, none⟩ = some (.int .i64 yx) ∧ w'.cell? ⟨wr.heap.size, 1, none⟩ = some (.int .u64 yc) ∧ w'.cell? ⟨w.heap.size, 0, none⟩ = some (.int .i64 b) ∧ w'.cell? ⟨w.heap.size, 1, none⟩ = some (.int .i64 k) ∧ Below w8.heap.size w8 w')) (by kernel_rfl) (HS0.out) (fun hHeld => ?_)
              refine wpAnyH_take (i := 0) (oi := _) (v := ?vq3_0) (by simp only [List.getElem?_toArray, List.getElem?_cons_succ, List.getElem?_cons_zero]; rfl) (by kernel_rfl) (by kernel_rfl) (by kernel_rfl) (fun _ _ _ h => h) (Or.inl ⟨by rfl, ?yq3_0⟩) hHeld ?rq3_0
              case yq3_0 => (intro w hSw; (try dsimp only at hSw); go_simp; try with_reducible rfl)
              try simp only [Act.put, List.setIfInBounds_toArray, List.set_cons_zero, List.set_cons_succ]
              refine wpAnyH_take (i := 1) (oi := _) (v := ?vq3_1) (by simp only [List.getElem?_toArray, List.getElem?_cons_succ, List.getElem?_cons_zero]; rfl) (by kernel_rfl) (by kernel_rfl) (by kernel_rfl) (fun _ _ _ h => h) (Or.inl ⟨by rfl, ?yq3_1⟩) hHeld ?rq3_1
              case yq3_1 => (intro w hSw; (try dsimp only at hSw); go_simp; try with_reducible rfl)
              try simp only [Act.put, List.setIfInBounds_toArray, List.set_cons_zero, List.set_cons_succ]
              refine wpAnyH_take (i := 2) (oi := _) (v := ?vq3_2) (by simp only [List.getElem?_toArray, List.getElem?_cons_succ, List.getElem?_cons_zero]; rfl) (by kernel_rfl) (by kernel_rfl) (by kernel_rfl) (fun _ _ _ h => h) (Or.inl ⟨by rfl, ?yq3_2⟩) hHeld ?rq3_2
              case yq3_2 => (intro w hSw; (try dsimp only at hSw); go_simp; try with_reducible rfl)
              try simp only [Act.put, List.setIfInBounds_toArray, List.set_cons_zero, List.set_cons_succ]
              refine wpAnyH_take (i := 3) (oi := _) (v := ?vq3_3) (by simp only [List.getElem?_toArray, List.getElem?_cons_succ, List.getElem?_cons_zero]; rfl) (by kernel_rfl) (by kernel_rfl) (by kernel_rfl) (fun _ _ _ h => h) (Or.inl ⟨by rfl, ?yq3_3⟩) hHeld ?rq3_3
              case yq3_3 => (intro w hSw; (try dsimp only at hSw); go_simp; try with_reducible rfl)
              try simp only [Act.put, List.setIfInBounds_toArray, List.set_cons_zero, List.set_cons_succ]
              refine wpAnyH_ready (rs := [4]) (by kernel_rfl) (by simp) ?_
              refine AllReadyH.cons (o := _) (by simp only [List.getElem?_toArray, List.getElem?_cons_succ, List.getElem?_cons_zero]; rfl) (fun K hK => ?_) AllReadyH.nil
              go_simp
              with_reducible refine (HGO.out _).mono ?_; rintro e wA ⟨rfl, hbA⟩
              try (go_wp2_with fail)
              refine hK.out _ _ (HST.out _ _ hHeld hbA) (fun hHeld => ?_)
              clear hK K
              try simp only [Act.put, List.setIfInBounds_toArray, List.set_cons_zero, List.set_cons_succ]
              refine wpAnyH_take (i := 5) (oi := _) (v := ?vq3_5) (by simp only [List.getElem?_toArray, List.getElem?_cons_succ, List.getElem?_cons_zero]; rfl) (by kernel_rfl) (by kernel_rfl) (by kernel_rfl) (fun _ _ _ h => h) (Or.inl ⟨by rfl, ?yq3_5⟩) hHeld ?rq3_5
              case yq3_5 => (intro w hSw; (try dsimp only at hSw); go_simp; try with_reducible rfl)
              try simp only [Act.put, List.setIfInBounds_toArray, List.set_cons_zero, List.set_cons_succ]
              refine wpAnyH_take (i := 6) (oi := _) (v := ?vq3_6) (by simp only [List.getElem?_toArray, List.getElem?_cons_succ, List.getElem?_cons_zero]; rfl) (by kernel_rfl) (by kernel_rfl) (by kernel_rfl) (fun _ _ _ h => h) (Or.inl ⟨by rfl, ?yq3_6⟩) hHeld ?rq3_6
              case yq3_6 => (intro w hSw; (try dsimp only at hSw); go_simp; try with_reducible rfl)
              try simp only [Act.put, List.setIfInBounds_toArray, List.set_cons_zero, List.set_cons_succ]
              refine wpAnyH_take (i := 7) (oi := _) (v := ?vq3_7) (by simp only [List.getElem?_toArray, List.getElem?_cons_succ, List.getElem?_cons_zero]; rfl) (by kernel_rfl) (by kernel_rfl) (by kernel_rfl) (fun _ _ _ h => h) (Or.inl ⟨by rfl, ?yq3_7⟩) hHeld ?rq3_7
              case yq3_7 => (intro w hSw; (try dsimp only at hSw); go_simp; try with_reducible rfl)
              try simp only [Act.put, List.setIfInBounds_toArray, List.set_cons_zero, List.set_cons_succ]
              refine wpAnyH_take (i := 8) (oi := _) (v := ?vq3_8) (by simp only [List.getElem?_toArray, List.getElem?_cons_succ, List.getElem?_cons_zero]; rfl) (by kernel_rfl) (by kernel_rfl) (by kernel_rfl) (fun _ _ _ h => h) (Or.inl ⟨by rfl, ?yq3_8⟩) hHeld ?rq3_8
              case yq3_8 => (intro w hSw; (try dsimp only at hSw); go_simp; try with_reducible rfl)
              try simp only [Act.put, List.setIfInBounds_toArray, List.set_cons_zero, List.set_cons_succ]
              refine wpAnyH_take (i := 9) (oi := _) (v := ?vq3_9) (by simp only [List.getElem?_toArray, List.getElem?_cons_succ, List.getElem?_cons_zero]; rfl) (by kernel_rfl) (by kernel_rfl) (by kernel_rfl) (fun _ _ _ h => h) (Or.inl ⟨by rfl, ?yq3_9⟩) hHeld ?rq3_9
              case yq3_9 => (intro w hSw; (try dsimp only at hSw); go_simp; try with_reducible rfl)
              try simp only [Act.put, List.setIfInBounds_toArray, List.set_cons_zero, List.set_cons_succ]
              refine wpAnyH_take (i := 10) (oi := _) (v := ?vq3_10) (by simp only [List.getElem?_toArray, List.getElem?_cons_succ, List.getElem?_cons_zero]; rfl) (by kernel_rfl) (by kernel_rfl) (by kernel_rfl) (fun _ _ _ h => h) (Or.inl ⟨by rfl, ?yq3_10⟩) hHeld ?rq3_10
              case yq3_10 => (intro w hSw; (try dsimp only at hSw); go_simp; try with_reducible rfl)
              try simp only [Act.put, List.setIfInBounds_toArray, List.set_cons_zero, List.set_cons_succ]
              refine wpAnyH_take (i := 11) (oi := _) (v := ?vq3_11) (by simp only [List.getElem?_toArray, List.getElem?_cons_succ, List.getElem?_cons_zero]; rfl) (by kernel_rfl) (by kernel_rfl) (by kernel_rfl) (fun _ _ _ h => h) (Or.inl ⟨by rfl, ?yq3_11⟩) hHeld ?rq3_11
              case yq3_11 => (intro w hSw; (try dsimp only at hSw); go_simp; try with_reducible rfl)
              try simp only [Act.put, List.setIfInBounds_toArray, List.set_cons_zero, List.set_cons_succ]
              refine wpAnyH_take (i := 12) (oi := _) (v := ?vq3_12) (by simp only [List.getElem?_toArray, List.getElem?_cons_succ, List.getElem?_cons_zero]; rfl) (by kernel_rfl) (by kernel_rfl) (by kernel_rfl) (fun _ _ _ h => h) (Or.inl ⟨by rfl, ?yq3_12⟩) hHeld ?rq3_12
              case yq3_12 => (intro w hSw; (try dsimp only at hSw); go_simp; try with_reducible rfl)
              try simp only [Act.put, List.setIfInBounds_toArray, List.set_cons_zero, List.set_cons_succ]
              refine wpAnyH_take (i := 13) (oi := _) (v := ?vq3_13) (by simp only [List.getElem?_toArray, List.getElem?_cons_succ, List.getElem?_cons_zero]; rfl) (by kernel_rfl) (by kernel_rfl) (by kernel_rfl) (fun _ _ _ h => h) (Or.inl ⟨by rfl, ?yq3_13⟩) hHeld ?rq3_13
              case yq3_13 => (intro w hSw; (try dsimp only at hSw); go_simp; try with_reducible rfl)
              try simp only [Act.put, List.setIfInBounds_toArray, List.set_cons_zero, List.set_cons_succ]
              refine wpAnyH_take (i := 14) (oi := _) (v := _) (by simp only [List.getElem?_toArray, List.getElem?_cons_succ, List.getElem?_cons_zero]; rfl) (by kernel_rfl) (by kernel_rfl) (by kernel_rfl) (fun _ _ _ h => h) (Or.inr ⟨by rfl, rfl⟩) hHeld ?_
              try simp only [Act.put, List.setIfInBounds_toArray, List.set_cons_zero, List.set_cons_succ]
              refine wpAnyH_take (i := 15) (oi := _) (v := _) (by simp only [List.getElem?_toArray, List.getElem?_cons_succ, List.getElem?_cons_zero]; rfl) (by kernel_rfl) (by kernel_rfl) (by kernel_rfl) (fun _ _ _ h => h) (Or.inr ⟨by rfl, rfl⟩) hHeld ?_
              try simp only [Act.put, List.setIfInBounds_toArray, List.set_cons_zero, List.set_cons_succ]
              refine wpAnyH_take (i := 16) (oi := _) (v := _) (by simp only [List.getElem?_toArray, List.getElem?_cons_succ, List.getElem?_cons_zero]; rfl) (by kernel_rfl) (by kernel_rfl) (by kernel_rfl) (fun _ _ _ h => h) (Or.inr ⟨by rfl, rfl⟩) hHeld ?_
              try simp only [Act.put, List.setIfInBounds_toArray, List.set_cons_zero, List.set_cons_succ]
              refine wpAnyH_take (i := 17) (oi := _) (v := _) (by simp only [List.getElem?_toArray, List.getElem?_cons_succ, List.getElem?_cons_zero]; rfl) (by kernel_rfl) (by kernel_rfl) (by kernel_rfl) (fun _ _ _ h => h) (Or.inr ⟨by rfl, rfl⟩) hHeld ?_
              try simp only [Act.put, List.setIfInBounds_toArray, List.set_cons_zero, List.set_cons_succ]
              refine wpAnyH_take (i := 18) (oi := _) (v := _) (by simp only [List.getElem?_toArray, List.getElem?_cons_succ, List.getElem?_cons_zero]; rfl) (by kernel_rfl) (by kernel_rfl) (by kernel_rfl) (fun _ _ _ h => h) (Or.inr ⟨by rfl, rfl⟩) hHeld ?_
              try simp only [Act.put, List.setIfInBounds_toArray, List.set_cons_zero, List.set_cons_succ]
              refine wpAnyH_take (i := 19) (oi := _) (v := _) (by simp only [List.getElem?_toArray, List.getElem?_cons_succ, List.getElem?_cons_zero]; rfl) (by kernel_rfl) (by kernel_rfl) (by kernel_rfl) (fun _ _ _ h => h) (Or.inr ⟨by rfl, rfl⟩) hHeld ?_
              try simp only [Act.put, List.setIfInBounds_toArray, List.set_cons_zero, List.set_cons_succ]
              refine wpAnyH_take (i := 20) (oi := _) (v := _) (by simp only [List.getElem?_toArray, List.getElem?_cons_succ, List.getElem?_cons_zero]; rfl) (by kernel_rfl) (by kernel_rfl) (by kernel_rfl) (fun _ _ _ h => h) (Or.inr ⟨by rfl, rfl⟩) hHeld ?_
              try simp only [Act.put, List.setIfInBounds_toArray, List.set_cons_zero, List.set_cons_succ]
              refine wpAnyH_take (i := 21) (oi := _) (v := _) (by simp only [List.getElem?_toArray, List.getElem?_cons_succ, List.getElem?_cons_zero]; rfl) (by kernel_rfl) (by kernel_rfl) (by kernel_rfl) (fun _ _ _ h => h) (Or.inr ⟨by rfl, rfl⟩) hHeld ?_
              try simp only [Act.put, List.setIfInBounds_toArray, List.set_cons_zero, List.set_cons_succ]
              refine wpAnyH_take (i := 22) (oi := _) (v := _) (by simp only [List.getElem?_toArray, List.getElem?_cons_succ, List.getElem?_cons_zero]; rfl) (by kernel_rfl) (by kernel_rfl) (by kernel_rfl) (fun _ _ _ h => h) (Or.inr ⟨by rfl, rfl⟩) hHeld ?_
              try simp only [Act.put, List.setIfInBounds_toArray, List.set_cons_zero, List.set_cons_succ]
              refine wpAnyH_take (i := 23) (oi := _) (v := ?vq3_23) (by simp only [List.getElem?_toArray, List.getElem?_cons_succ, List.getElem?_cons_zero]; rfl) (by kernel_rfl) (by kernel_rfl) (by kernel_rfl) (fun _ _ _ h => h) (Or.inl ⟨by rfl, ?yq3_23⟩) hHeld ?rq3_23
              case yq3_23 => (intro w hSw; (try dsimp only at hSw); go_simp; try with_reducible rfl)
              try simp only [Act.put, List.setIfInBounds_toArray, List.set_cons_zero, List.set_cons_succ]
              refine wpAnyH_take (i := 24) (oi := _) (v := ?vq3_24) (by simp only [List.getElem?_toArray, List.getElem?_cons_succ, List.getElem?_cons_zero]; rfl) (by kernel_rfl) (by kernel_rfl) (by kernel_rfl) (fun _ _ _ h => h) (Or.inl ⟨by rfl, ?yq3_24⟩) hHeld ?rq3_24
              case yq3_24 => (intro w hSw; (try dsimp only at hSw); go_simp; try with_reducible rfl)
              try simp only [Act.put, List.setIfInBounds_toArray, List.set_cons_zero, List.set_cons_succ]
              refine wpAnyH_done (by kernel_rfl) ?_ _
              refine NoPanic.normal ?_
              go_wp2_with fail
              go_roundg (R3.length - (n + 1))
              case measure => omega
              case rel => exact ⟨n + 1, by omega, rfl, by go_num, hHeld.2.2.2.2⟩
          · obtain rfl : n = R3.length := by omega
            have kl2 : ¬ (R3.length : Int) < R3.length := by omega
            have HB9 := Lib.hid hb9
            have HFB := Lib.hid (HF8.out.call HD.out hb9)
            clear hb9
            go_wp2_with fail
            go_roundg (A.length + 1 - (i + 1))
            case measure => omega
            case rel =>
              refine ⟨i + 1, by omega, rfl, by go_num, HFB.out.bel, fun h => ⟨S2, R3, V3, e3, ?_⟩⟩
              have h1 := HFB.out
              exact ⟨h1.dig, h1.oth, h1.has, h1.fine, HL3.out h, h1.past, h1.apart, h1.bel, h1.c0, h1.c1⟩
      have d0 := cell_later (Below.refl wr.heap.size wr).drew c0'
      have d1 := cell_later (Below.refl wr.heap.size wr).drew c1'
      have HDR := Lib.hid (HFX.out.call HD.out (Below.refl wr.heap.size wr).drew)
      by_cases g3 : 0 ≤ px ∧ px < ((2 ^ b : Nat) : Int)
      · have HPU := Lib.hid (HD.out.put wr.drew B Sx b k Rx ex px pc HDR.out.dig g3.1 g3.2 g1 (by have := HMX.out; omega))
        have HG3 := Lib.hid g3
        clear g3
        go_wp2_with fail
        go_region_with (go_at_call 24; refine HPU.out.mono ?_; rintro e wq ⟨S5, rfl, hx5, hk5, hs5⟩)
        · have HK : Hid (∃ (S2 : Nat → Prop) (R3 V3 : List PairV) (e3 : Int × Int × Bool), FewG Dg w wq B B' b k S' R2 E2 130 S2 R3 V3 e3 ∧ (i + 1 ≤ A.length → V3.length ≤ i + 1)) := Lib.hid ⟨S5, _, _, _, HDR.out.next HD.out hx5 hk5 hs5 (HFX.out.has.put q3 HG3.out.1 HG3.out.2 g1 (by have := HMX.out; omega)) (HFX.out.fine.app (FineG.one ⟨HG3.out, g1, g2⟩)) (by have := HFX.out.len; rw [List.length_append]; simp; omega), fun h => by have := HFX.out.len; rw [List.length_append]; simp; omega⟩
          clear hx5 hk5 hs5 HPU c0' c1' d0 d1
          obtain ⟨S2, R3, V3, e3, hf3, hl3⟩ := HK.out
          have HF3 := Lib.hid hf3
          have HL3 := Lib.hid hl3
          have hsx := fineG_sum hf3.fine
          have hlx := hf3.len
          have hmx := hf3.has.dig.sum
          have hT : 0 ≤ sumP R3 ∧ sumP R3 ≤ 150000000000000000 := by rw [hmx]; omega
          have hrow := hf3.has.row (by omega)
          have hfew := hf3.has.few
          have hgd : goodB R3 = true := goodB_true.2 hrow.good
          have HND := Lib.hid (fun p (hp : p ∈ R3) => few_node hf3.has hp)
          obtain ⟨T, hTT⟩ : ∃ T, sumP R3 = T := ⟨_, rfl⟩
          rw [hTT] at hT HND
          have HNO := Lib.hid (HD.out.nodes wq B S2 b k R3 e3 hf3.dig)
          have c1 := hf3.c1
          have HOKR := Lib.hid (hrow.ok q2)
          clear hf3 hl3 HK hsx hlx hmx
          go_wp2_with fail
          refine HNO.out.mono ?_
          rintro e w8 ⟨a1, k1', rfl, hp1, b8⟩
          have HP8 := Lib.hid hp1
          have HF8 := Lib.hid (HF3.out.call HD.out b8)
          have G1 := Lib.hid (fun W (h : Box2 w.heap.size (.int .i64 b) (.int .i64 k) w8 W) => box2_calls (rgood_row W a1 k1' R3 true hgd (HP8.out.call h.2.2) (by omega)) h)
          have G2 := Lib.hid (fun W (h : Box2 w.heap.size (.int .i64 b) (.int .i64 k) w8 W) => box2_calls (rtotal_any W a1 k1' R3 T (HP8.out.call h.2.2) (by omega) hTT (by omega)) h)
          have G3 := Lib.hid (fun W (h : Box2 w.heap.size (.int .i64 b) (.int .i64 k) w8 W) => box2_calls (HD.out.total W B S2 b k R3 e3 (HD.out.call HF8.out.dig h.2.2)) h)
          rw [hTT] at G3
          have HTO := Lib.hid (fun W (h : Below w8.heap.size w8 W) => HD.out.total W B S2 b k R3 e3 (HD.out.call HF8.out.dig h))
          rw [hTT] at HTO
          clear c1
          obtain ⟨c0, c1⟩ : w8.cell? ⟨w.heap.size, 0, none⟩ = some (.int .i64 b) ∧ w8.cell? ⟨w.heap.size, 1, none⟩ = some (.int .i64 k) := ⟨HF8.out.c0, HF8.out.c1⟩
          have bz : Below w8.heap.size w8 w8 := Below.refl _ _
          have u1 : IntKind.i64.wrap (4 * (k : Int)) = 4 * (k : Int) := by rw [IntKind.wrap_i64]; omega
          have u2 : ¬ 4 * (k : Int) < (R3.length : Int) := by omega
          have t1 : (!T == T) = false := by simp
          have t2 : (T != T) = false := by simp
          have HFE := Lib.hid hfew
          clear hp1 b8 HNO hrow hgd hTT
          go_wp2_with ((first
            | (go_at_call 25; with_reducible refine (G1.out _ ⟨by assumption, by assumption, by assumption⟩).mono ?_; rintro e w' ⟨rfl, x0', x1', x2'⟩)
            | (go_at_call 26; with_reducible refine (G2.out _ ⟨by assumption, by assumption, by assumption⟩).mono ?_; rintro e w' ⟨rfl, x0', x1', x2'⟩)
            | (go_at_call 19; with_reducible refine (G3.out _ ⟨by assumption, by assumption, by assumption⟩).mono ?_; rintro e w' ⟨rfl, x0', x1', x2'⟩)))
          have HX2 := Lib.hid x2'
          go_loopg [104] R3.length (fun g j wr => ∃ (n : Nat), n ≤ R3.length ∧ g = R3.length - n ∧ j = .int .i64 n ∧ Below w8.heap.size w8 wr)
          case atStart => exact ⟨0, Nat.zero_le _, rfl, rfl, HX2.out⟩
          case round =>
            clear x0' x1' x2' bz c0 c1
            obtain ⟨n, hn, rfl, rfl, hb9⟩ := hrel
            by_cases hlt2 : n < R3.length
            · have kl2 : (n : Int) < R3.length := by omega
              have hyk : R3[n]? = some R3[n] := List.getElem?_eq_getElem hlt2
              generalize hit2 : R3[n] = y at *
              obtain ⟨yx, yc⟩ := y
              obtain ⟨bb9, off9, rfl, hbl9, y0, y1⟩ := (HP8.out.call hb9).at_ n _ hyk
              have hmem := List.mem_of_getElem? hyk
              obtain ⟨hnd, hsm⟩ := HND.out _ hmem
              obtain ⟨⟨o1, o2⟩, o3, o4⟩ := HOKR.out _ hmem
              simp only at y0 y1 o1 o2 o3 o4
              have HGO := Lib.hid (fun W => good16_node W q2 hnd)
              obtain ⟨q, hq⟩ : ∃ q, T / (k : Int) = q := ⟨_, rfl⟩
              have hq0 : 0 ≤ q ∧ q ≤ T := by rw [← hq]; exact ⟨Int.ediv_nonneg (by omega) (by omega), Int.ediv_le_self _ (by omega)⟩
              have v1 : T.tdiv (k : Int) = q := by rw [Int.tdiv_eq_ediv_of_nonneg (by omega)]; exact hq
              have v2 : IntKind.u64.wrap q = q := by rw [IntKind.wrap_u64]; omega
              have v3 : IntKind.u64.wrap (k : Int) = k := by rw [IntKind.wrap_u64]; omega
              have v4 : ¬ (k : Int) = 0 := by omega
              have v5 : ¬ k = 0 := by omega
              have v6 : ((k : Int) == 0) = false := by simp; omega
              have hsm2 : yx < (lv : Int) → yc ≤ q := fun h => by rw [← hq]; exact hsm (by rw [HLV.out]; exact h)
              have hal : Below wr.heap.size wr (wr.alloc (.cells #[.int .i64 yx, .int .u64 yc] 61)) := (Below.refl _ _).alloc (Nat.le_refl _) _
              have HB0 := Lib.hid (hb9.trans (hal.mono hb9.size)).drew
              have HS0 : Hid ((wr.alloc (.cells #[.int .i64 yx, .int .u64 yc] 61)).drew.cell? ⟨wr.heap.size, 0, none⟩ = some (.int .i64 yx) ∧ (wr.alloc (.cells #[.int .i64 yx, .int .u64 yc] 61)).drew.cell? ⟨wr.heap.size, 1, none⟩ = some (.int .u64 yc) ∧ Box2 w.heap.size (.int .i64 b) (.int .i64 k) w8 (wr.alloc (.cells #[.int .i64 yx, .int .u64 yc] 61)).drew) := Lib.hid ⟨by go_simp, by go_simp, cell_later HB0.out HF8.out.c0, cell_later HB0.out HF8.out.c1, HB0.out⟩
              have HST := Lib.hid (fun (W W' : World) (h : W.cell? ⟨wr.heap.size, 0, none⟩ = some (.int .i64 yx) ∧ W.cell? ⟨wr.heap.size, 1, none⟩ = some (.int .u64 yc) ∧ Box2 w.heap.size (.int .i64 b) (.int .i64 k) w8 W) (hb : Below W.heap.size W W') => (⟨cell_later hb h.1, cell_later hb h.2.1, box2_later h.2.2 hb⟩ : W'.cell? ⟨wr.heap.size, 0, none⟩ = some (.int .i64 yx) ∧ W'.cell? ⟨wr.heap.size, 1, none⟩ = some (.int .u64 yc) ∧ Box2 w.heap.size (.int .i64 b) (.int .i64 k) w8 W'))
              clear hyk hit2 hmem hnd hsm hq hal hb9
              by_cases hlow : yx < (lv : Int)
              · have z1 : decide (yx < (lv : Int)) = true := decide_eq_true hlow
                have z2 : decide (q < yc) = false := decide_eq_false (by have := hsm2 hlow; omega)
                clear hsm2
                go_wp2_with fail
                go_region_held3 (fun w' => w'.cell? ⟨wr.heap.size, 0, none⟩ = some (.int .i64 yx) ∧ w'.cell? ⟨wr.heap.size, 1, none⟩ = some (.int .u64 yc) ∧ w'.cell? ⟨w.heap.size, 0, none⟩ = some (.int .i64 b) ∧ w'.cell? ⟨w.heap.size, 1, none⟩ = some (.int .i64 k) ∧ Below w8.heap.size w8 w')
                  (first | exact HS0.out | exact HST.out _ _ (by assumption) hbA | exact HST.out _ _ (by assumption) hbB | assumption)
                  ((first
                    | (go_at_call 27; with_reducible refine (HGO.out _).mono ?_; rintro e wA ⟨rfl, hbA⟩)
                    | (go_at_call 19; with_reducible refine (HTO.out _ (And.right (And.right (And.right (And.right (by assumption)))))).mono ?_; rintro e wB ⟨rfl, hbB⟩)))
                all_goals
                  rename_i hHeld
                  obtain ⟨_, _, _, _, hbz⟩ := hHeld
                  go_wp2_with fail
                  go_roundg (R3.length - (n + 1))
                  case measure => omega
                  case rel => exact ⟨n + 1, by omega, rfl, by go_num, hbz⟩
              · have z1 : decide (yx < (lv : Int)) = false := decide_eq_false hlow
                clear hsm2
                go_wp2_with fail
                refine wp_region_noPanic ?_
                refine wp_region_held_drew (S := (fun w' => w'.cell? ⟨wr.heap.size, 0, none⟩ = some (.int .i64 yx) ∧ w'.cell? ⟨wr.heap.size, 1, none⟩ = some (.int .u64 yc) ∧ w'.cell? ⟨w.heap.size, 0, none⟩ = some (.int .i64 b) ∧ w'.cell? ⟨w.heap.size, 1, none⟩ = some (.int .i64 k) ∧ Below w8.heap.size w8 w')) (by kernel_rfl) (HS0.out) (fun hHeld => ?_)
                refine wpAnyH_take (i := 0) (oi := _) (v := ?vq4_0) (by simp only [List.getElem?_toArray, List.getElem?_cons_succ, List.getElem?_cons_zero]; rfl) (by kernel_rfl) (by kernel_rfl) (by kernel_rfl) (fun _ _ _ h => h) (Or.inl ⟨by rfl, ?yq4_0⟩) hHeld ?rq4_0
                case yq4_0 => (intro w hSw; (try dsimp only at hSw); go_simp; try with_reducible rfl)
                try simp only [Act.put, List.setIfInBounds_toArray, List.set_cons_zero, List.set_cons_succ]
                refine wpAnyH_take (i := 1) (oi := _) (v := ?vq4_1) (by simp only [List.getElem?_toArray, List.getElem?_cons_succ, List.getElem?_cons_zero]; rfl) (by kernel_rfl) (by kernel_rfl) (by kernel_rfl) (fun _ _ _ h => h) (Or.inl ⟨by rfl, ?yq4_1⟩) hHeld ?rq4_1
                case yq4_1 => (intro w hSw; (try dsimp only at hSw); go_simp; try with_reducible rfl)
                try simp only [Act.put, List.setIfInBounds_toArray, List.set_cons_zero, List.set_cons_succ]
                refine wpAnyH_take (i := 2) (oi := _) (v := ?vq4_2) (by simp only [List.getElem?_toArray, List.getElem?_cons_succ, List.getElem?_cons_zero]; rfl) (by kernel_rfl) (by kernel_rfl) (by kernel_rfl) (fun _ _ _ h => h) (Or.inl ⟨by rfl, ?yq4_2⟩) hHeld ?rq4_2
                case yq4_2 => (intro w hSw; (try dsimp only at hSw); go_simp; try with_reducible rfl)
                try simp only [Act.put, List.setIfInBounds_toArray, List.set_cons_zero, List.set_cons_succ]
                refine wpAnyH_take (i := 3) (oi := _) (v := ?vq4_3) (by simp only [List.getElem?_toArray, List.getElem?_cons_succ, List.getElem?_cons_zero]; rfl) (by kernel_rfl) (by kernel_rfl) (by kernel_rfl) (fun _ _ _ h => h) (Or.inl ⟨by rfl, ?yq4_3⟩) hHeld ?rq4_3
                case yq4_3 => (intro w hSw; (try dsimp only at hSw); go_simp; try with_reducible rfl)
                try simp only [Act.put, List.setIfInBounds_toArray, List.set_cons_zero, List.set_cons_succ]
                refine wpAnyH_ready (rs := [4]) (by kernel_rfl) (by simp) ?_
                refine AllReadyH.cons (o := _) (by simp only [List.getElem?_toArray, List.getElem?_cons_succ, List.getElem?_cons_zero]; rfl) (fun K hK => ?_) AllReadyH.nil
                go_simp
                with_reducible refine (HGO.out _).mono ?_; rintro e wA ⟨rfl, hbA⟩
                try (go_wp2_with fail)
                refine hK.out _ _ (HST.out _ _ hHeld hbA) (fun hHeld => ?_)
                clear hK K
                try simp only [Act.put, List.setIfInBounds_toArray, List.set_cons_zero, List.set_cons_succ]
                refine wpAnyH_take (i := 5) (oi := _) (v := ?vq4_5) (by simp only [List.getElem?_toArray, List.getElem?_cons_succ, List.getElem?_cons_zero]; rfl) (by kernel_rfl) (by kernel_rfl) (by kernel_rfl) (fun _ _ _ h => h) (Or.inl ⟨by rfl, ?yq4_5⟩) hHeld ?rq4_5
                case yq4_5 => (intro w hSw; (try dsimp only at hSw); go_simp; try with_reducible rfl)
                try simp only [Act.put, List.setIfInBounds_toArray, List.set_cons_zero, List.set_cons_succ]
                refine wpAnyH_take (i := 6) (oi := _) (v := ?vq4_6) (by simp only [List.getElem?_toArray, List.getElem?_cons_succ, List.getElem?_cons_zero]; rfl) (by kernel_rfl) (by kernel_rfl) (by kernel_rfl) (fun _ _ _ h => h) (Or.inl ⟨by rfl, ?yq4_6⟩) hHeld ?rq4_6
                case yq4_6 => (intro w hSw; (try dsimp only at hSw); go_simp; try with_reducible rfl)
                try simp only [Act.put, List.setIfInBounds_toArray, List.set_cons_zero, List.set_cons_succ]
                refine wpAnyH_take (i := 7) (oi := _) (v := ?vq4_7) (by simp only [List.getElem?_toArray, List.getElem?_cons_succ, List.getElem?_cons_zero]; rfl) (by kernel_rfl) (by kernel_rfl) (by kernel_rfl) (fun _ _ _ h => h) (Or.inl ⟨by rfl, ?yq4_7⟩) hHeld ?rq4_7
                case yq4_7 => (intro w hSw; (try dsimp only at hSw); go_simp; try with_reducible rfl)
                try simp only [Act.put, List.setIfInBounds_toArray, List.set_cons_zero, List.set_cons_succ]
                refine wpAnyH_take (i := 8) (oi := _) (v := ?vq4_8) (by simp only [List.getElem?_toArray, List.getElem?_cons_succ, List.getElem?_cons_zero]; rfl) (by kernel_rfl) (by kernel_rfl) (by kernel_rfl) (fun _ _ _ h => h) (Or.inl ⟨by rfl, ?yq4_8⟩) hHeld ?rq4_8
                case yq4_8 => (intro w hSw; (try dsimp only at hSw); go_simp; try with_reducible rfl)
                try simp only [Act.put, List.setIfInBounds_toArray, List.set_cons_zero, List.set_cons_succ]
                refine wpAnyH_take (i := 9) (oi := _) (v := ?vq4_9) (by simp only [List.getElem?_toArray, List.getElem?_cons_succ, List.getElem?_cons_zero]; rfl) (by kernel_rfl) (by kernel_rfl) (by kernel_rfl) (fun _ _ _ h => h) (Or.inl ⟨by rfl, ?yq4_9⟩) hHeld ?rq4_9
                case yq4_9 => (intro w hSw; (try dsimp only at hSw); go_simp; try with_reducible rfl)
                try simp only [Act.put, List.setIfInBounds_toArray, List.set_cons_zero, List.set_cons_succ]
                refine wpAnyH_take (i := 10) (oi := _) (v := ?vq4_10) (by simp only [List.getElem?_toArray, List.getElem?_cons_succ, List.getElem?_cons_zero]; rfl) (by kernel_rfl) (by kernel_rfl) (by kernel_rfl) (fun _ _ _ h => h) (Or.inl ⟨by rfl, ?yq4_10⟩) hHeld ?rq4_10
                case yq4_10 => (intro w hSw; (try dsimp only at hSw); go_simp; try with_reducible rfl)
                try simp only [Act.put, List.setIfInBounds_toArray, List.set_cons_zero, List.set_cons_succ]
                refine wpAnyH_take (i := 11) (oi := _) (v := ?vq4_11) (by simp only [List.getElem?_toArray, List.getElem?_cons_succ, List.getElem?_cons_zero]; rfl) (by kernel_rfl) (by kernel_rfl) (by kernel_rfl) (fun _ _ _ h => h) (Or.inl ⟨by rfl, ?yq4_11⟩) hHeld ?rq4_11
                case yq4_11 => (intro w hSw; (try dsimp only at hSw); go_simp; try with_reducible rfl)
                try simp only [Act.put, List.setIfInBounds_toArray, List.set_cons_zero, List.set_cons_succ]
                refine wpAnyH_take (i := 12) (oi := _) (v := ?vq4_12) (by simp only [List.getElem?_toArray, List.getElem?_cons_succ, List.getElem?_cons_zero]; rfl) (by kernel_rfl) (by kernel_rfl) (by kernel_rfl) (fun _ _ _ h => h) (Or.inl ⟨by rfl, ?yq4_12⟩) hHeld ?rq4_12
                case yq4_12 => (intro w hSw; (try dsimp only at hSw); go_simp; try with_reducible rfl)
                try simp only [Act.put, List.setIfInBounds_toArray, List.set_cons_zero, List.set_cons_succ]
                refine wpAnyH_take (i := 13) (oi := _) (v := ?vq4_13) (by simp only [List.getElem?_toArray, List.getElem?_cons_succ, List.getElem?_cons_zero]; rfl) (by kernel_rfl) (by kernel_rfl) (by kernel_rfl) (fun _ _ _ h => h) (Or.inl ⟨by rfl, ?yq4_13⟩) hHeld ?rq4_13
                case yq4_13 => (intro w hSw; (try dsimp only at hSw); go_simp; try with_reducible rfl)
                try simp only [Act.put, List.setIfInBounds_toArray, List.set_cons_zero, List.set_cons_succ]
                refine wpAnyH_take (i := 14) (oi := _) (v := _) (by simp only [List.getElem?_toArray, List.getElem?_cons_succ, List.getElem?_cons_zero]; rfl) (by kernel_rfl) (by kernel_rfl) (by kernel_rfl) (fun _ _ _ h => h) (Or.inr ⟨by rfl, rfl⟩) hHeld ?_
                try simp only [Act.put, List.setIfInBounds_toArray, List.set_cons_zero, List.set_cons_succ]
                refine wpAnyH_take (i := 15) (oi := _) (v := _) (by simp only [List.getElem?_toArray, List.getElem?_cons_succ, List.getElem?_cons_zero]; rfl) (by kernel_rfl) (by kernel_rfl) (by kernel_rfl) (fun _ _ _ h => h) (Or.inr ⟨by rfl, rfl⟩) hHeld ?_
                try simp only [Act.put, List.setIfInBounds_toArray, List.set_cons_zero, List.set_cons_succ]
                refine wpAnyH_take (i := 16) (oi := _) (v := _) (by simp only [List.getElem?_toArray, List.getElem?_cons_succ, List.getElem?_cons_zero]; rfl) (by kernel_rfl) (by kernel_rfl) (by kernel_rfl) (fun _ _ _ h => h) (Or.inr ⟨by rfl, rfl⟩) hHeld ?_
                try simp only [Act.put, List.setIfInBounds_toArray, List.set_cons_zero, List.set_cons_succ]
                refine wpAnyH_take (i := 17) (oi := _) (v := _) (by simp only [List.getElem?_toArray, List.getElem?_cons_succ, List.getElem?_cons_zero]; rfl) (by kernel_rfl) (by kernel_rfl) (by kernel_rfl) (fun _ _ _ h => h) (Or.inr ⟨by rfl, rfl⟩) hHeld ?_
                try simp only [Act.put, List.setIfInBounds_toArray, List.set_cons_zero, List.set_cons_succ]
                refine wpAnyH_take (i := 18) (oi := _) (v := _) (by simp only [List.getElem?_toArray, List.getElem?_cons_succ, List.getElem?_cons_zero]; rfl) (by kernel_rfl) (by kernel_rfl) (by kernel_rfl) (fun _ _ _ h => h) (Or.inr ⟨by rfl, rfl⟩) hHeld ?_
                try simp only [Act.put, List.setIfInBounds_toArray, List.set_cons_zero, List.set_cons_succ]
                refine wpAnyH_take (i := 19) (oi := _) (v := _) (by simp only [List.getElem?_toArray, List.getElem?_cons_succ, List.getElem?_cons_zero]; rfl) (by kernel_rfl) (by kernel_rfl) (by kernel_rfl) (fun _ _ _ h => h) (Or.inr ⟨by rfl, rfl⟩) hHeld ?_
                try simp only [Act.put, List.setIfInBounds_toArray, List.set_cons_zero, List.set_cons_succ]
                refine wpAnyH_take (i := 20) (oi := _) (v := _) (by simp only [List.getElem?_toArray, List.getElem?_cons_succ, List.getElem?_cons_zero]; rfl) (by kernel_rfl) (by kernel_rfl) (by kernel_rfl) (fun _ _ _ h => h) (Or.inr ⟨by rfl, rfl⟩) hHeld ?_
                try simp only [Act.put, List.setIfInBounds_toArray, List.set_cons_zero, List.set_cons_succ]
                refine wpAnyH_take (i := 21) (oi := _) (v := _) (by simp only [List.getElem?_toArray, List.getElem?_cons_succ, List.getElem?_cons_zero]; rfl) (by kernel_rfl) (by kernel_rfl) (by kernel_rfl) (fun _ _ _ h => h) (Or.inr ⟨by rfl, rfl⟩) hHeld ?_
                try simp only [Act.put, List.setIfInBounds_toArray, List.set_cons_zero, List.set_cons_succ]
                refine wpAnyH_take (i := 22) (oi := _) (v := _) (by simp only [List.getElem?_toArray, List.getElem?_cons_succ, List.getElem?_cons_zero]; rfl) (by kernel_rfl) (by kernel_rfl) (by kernel_rfl) (fun _ _ _ h => h) (Or.inr ⟨by rfl, rfl⟩) hHeld ?_
                try simp only [Act.put, List.setIfInBounds_toArray, List.set_cons_zero, List.set_cons_succ]
                refine wpAnyH_take (i := 23) (oi := _) (v := ?vq4_23) (by simp only [List.getElem?_toArray, List.getElem?_cons_succ, List.getElem?_cons_zero]; rfl) (by kernel_rfl) (by kernel_rfl) (by kernel_rfl) (fun _ _ _ h => h) (Or.inl ⟨by rfl, ?yq4_23⟩) hHeld ?rq4_23
                case yq4_23 => (intro w hSw; (try dsimp only at hSw); go_simp; try with_reducible rfl)
                try simp only [Act.put, List.setIfInBounds_toArray, List.set_cons_zero, List.set_cons_succ]
                refine wpAnyH_take (i := 24) (oi := _) (v := ?vq4_24) (by simp only [List.getElem?_toArray, List.getElem?_cons_succ, List.getElem?_cons_zero]; rfl) (by kernel_rfl) (by kernel_rfl) (by kernel_rfl) (fun _ _ _ h => h) (Or.inl ⟨by rfl, ?yq4_24⟩) hHeld ?rq4_24
                case yq4_24 => (intro w hSw; (try dsimp only at hSw); go_simp; try with_reducible rfl)
                try simp only [Act.put, List.setIfInBounds_toArray, List.set_cons_zero, List.set_cons_succ]
                refine wpAnyH_done (by kernel_rfl) ?_ _
                refine NoPanic.normal ?_
                go_wp2_with fail
                go_roundg (R3.length - (n + 1))
                case measure => omega
                case rel => exact ⟨n + 1, by omega, rfl, by go_num, hHeld.2.2.2.2⟩
            · obtain rfl : n = R3.length := by omega
              have kl2 : ¬ (R3.length : Int) < R3.length := by omega
              have HB9 := Lib.hid hb9
              have HFB := Lib.hid (HF8.out.call HD.out hb9)
              clear hb9
              go_wp2_with fail
              go_roundg (A.length + 1 - (i + 1))
              case measure => omega
              case rel =>
                refine ⟨i + 1, by omega, rfl, by go_num, HFB.out.bel, fun h => ⟨S2, R3, V3, e3, ?_⟩⟩
                have h1 := HFB.out
                exact ⟨h1.dig, h1.oth, h1.has, h1.fine, HL3.out h, h1.past, h1.apart, h1.bel, h1.c0, h1.c1⟩
        · have HK : Hid (∃ (S2 : Nat → Prop) (R3 V3 : List PairV) (e3 : Int × Int × Bool), FewG Dg w wq B B' b k S' R2 E2 130 S2 R3 V3 e3 ∧ (i + 1 ≤ A.length → V3.length ≤ i + 1)) := Lib.hid ⟨S5, _, _, _, HDR.out.next HD.out hx5 hk5 hs5 (HFX.out.has.put q3 HG3.out.1 HG3.out.2 g1 (by have := HMX.out; omega)) (HFX.out.fine.app (FineG.one ⟨HG3.out, g1, g2⟩)) (by have := HFX.out.len; rw [List.length_append]; simp; omega), fun h => by have := HFX.out.len; rw [List.length_append]; simp; omega⟩
          clear hx5 hk5 hs5 HPU c0' c1' d0 d1
          obtain ⟨S2, R3, V3, e3, hf3, hl3⟩ := HK.out
          have HF3 := Lib.hid hf3
          have HL3 := Lib.hid hl3
          have hsx := fineG_sum hf3.fine
          have hlx := hf3.len
          have hmx := hf3.has.dig.sum
          have hT : 0 ≤ sumP R3 ∧ sumP R3 ≤ 150000000000000000 := by rw [hmx]; omega
          have hrow := hf3.has.row (by omega)
          have hfew := hf3.has.few
          have hgd : goodB R3 = true := goodB_true.2 hrow.good
          have HND := Lib.hid (fun p (hp : p ∈ R3) => few_node hf3.has hp)
          obtain ⟨T, hTT⟩ : ∃ T, sumP R3 = T := ⟨_, rfl⟩
          rw [hTT] at hT HND
          have HNO := Lib.hid (HD.out.nodes wq B S2 b k R3 e3 hf3.dig)
          have c1 := hf3.c1
          have HOKR := Lib.hid (hrow.ok q2)
          clear hf3 hl3 HK hsx hlx hmx
          go_wp2_with fail
          refine HNO.out.mono ?_
          rintro e w8 ⟨a1, k1', rfl, hp1, b8⟩
          have HP8 := Lib.hid hp1
          have HF8 := Lib.hid (HF3.out.call HD.out b8)
          have G1 := Lib.hid (fun W (h : Box2 w.heap.size (.int .i64 b) (.int .i64 k) w8 W) => box2_calls (rgood_row W a1 k1' R3 true hgd (HP8.out.call h.2.2) (by omega)) h)
          have G2 := Lib.hid (fun W (h : Box2 w.heap.size (.int .i64 b) (.int .i64 k) w8 W) => box2_calls (rtotal_any W a1 k1' R3 T (HP8.out.call h.2.2) (by omega) hTT (by omega)) h)
          have G3 := Lib.hid (fun W (h : Box2 w.heap.size (.int .i64 b) (.int .i64 k) w8 W) => box2_calls (HD.out.total W B S2 b k R3 e3 (HD.out.call HF8.out.dig h.2.2)) h)
          rw [hTT] at G3
          have HTO := Lib.hid (fun W (h : Below w8.heap.size w8 W) => HD.out.total W B S2 b k R3 e3 (HD.out.call HF8.out.dig h))
          rw [hTT] at HTO
          clear c1
          obtain ⟨c0, c1⟩ : w8.cell? ⟨w.heap.size, 0, none⟩ = some (.int .i64 b) ∧ w8.cell? ⟨w.heap.size, 1, none⟩ = some (.int .i64 k) := ⟨HF8.out.c0, HF8.out.c1⟩
          have bz : Below w8.heap.size w8 w8 := Below.refl _ _
          have u1 : IntKind.i64.wrap (4 * (k : Int)) = 4 * (k : Int) := by rw [IntKind.wrap_i64]; omega
          have u2 : ¬ 4 * (k : Int) < (R3.length : Int) := by omega
          have t1 : (!T == T) = false := by simp
          have t2 : (T != T) = false := by simp
          have HFE := Lib.hid hfew
          clear hp1 b8 HNO hrow hgd hTT
          go_wp2_with ((first
            | (go_at_call 25; with_reducible refine (G1.out _ ⟨by assumption, by assumption, by assumption⟩).mono ?_; rintro e w' ⟨rfl, x0', x1', x2'⟩)
            | (go_at_call 26; with_reducible refine (G2.out _ ⟨by assumption, by assumption, by assumption⟩).mono ?_; rintro e w' ⟨rfl, x0', x1', x2'⟩)
            | (go_at_call 19; with_reducible refine (G3.out _ ⟨by assumption, by assumption, by assumption⟩).mono ?_; rintro e w' ⟨rfl, x0', x1', x2'⟩)))
          have HX2 := Lib.hid x2'
          go_loopg [104] R3.length (fun g j wr => ∃ (n : Nat), n ≤ R3.length ∧ g = R3.length - n ∧ j = .int .i64 n ∧ Below w8.heap.size w8 wr)
          case atStart => exact ⟨0, Nat.zero_le _, rfl, rfl, HX2.out⟩
          case round =>
            clear x0' x1' x2' bz c0 c1
            obtain ⟨n, hn, rfl, rfl, hb9⟩ := hrel
            by_cases hlt2 : n < R3.length
            · have kl2 : (n : Int) < R3.length := by omega
              have hyk : R3[n]? = some R3[n] := List.getElem?_eq_getElem hlt2
              generalize hit2 : R3[n] = y at *
              obtain ⟨yx, yc⟩ := y
              obtain ⟨bb9, off9, rfl, hbl9, y0, y1⟩ := (HP8.out.call hb9).at_ n _ hyk
              have hmem := List.mem_of_getElem? hyk
              obtain ⟨hnd, hsm⟩ := HND.out _ hmem
              obtain ⟨⟨o1, o2⟩, o3, o4⟩ := HOKR.out _ hmem
              simp only at y0 y1 o1 o2 o3 o4
              have HGO := Lib.hid (fun W => good16_node W q2 hnd)
              obtain ⟨q, hq⟩ : ∃ q, T / (k : Int) = q := ⟨_, rfl⟩
              have hq0 : 0 ≤ q ∧ q ≤ T := by rw [← hq]; exact ⟨Int.ediv_nonneg (by omega) (by omega), Int.ediv_le_self _ (by omega)⟩
              have v1 : T.tdiv (k : Int) = q := by rw [Int.tdiv_eq_ediv_of_nonneg (by omega)]; exact hq
              have v2 : IntKind.u64.wrap q = q := by rw [IntKind.wrap_u64]; omega
              have v3 : IntKind.u64.wrap (k : Int) = k := by rw [IntKind.wrap_u64]; omega
              have v4 : ¬ (k : Int) = 0 := by omega
              have v5 : ¬ k = 0 := by omega
              have v6 : ((k : Int) == 0) = false := by simp; omega
              have hsm2 : yx < (lv : Int) → yc ≤ q := fun h => by rw [← hq]; exact hsm (by rw [HLV.out]; exact h)
              have hal : Below wr.heap.size wr (wr.alloc (.cells #[.int .i64 yx, .int .u64 yc] 61)) := (Below.refl _ _).alloc (Nat.le_refl _) _
              have HB0 := Lib.hid (hb9.trans (hal.mono hb9.size)).drew
              have HS0 : Hid ((wr.alloc (.cells #[.int .i64 yx, .int .u64 yc] 61)).drew.cell? ⟨wr.heap.size, 0, none⟩ = some (.int .i64 yx) ∧ (wr.alloc (.cells #[.int .i64 yx, .int .u64 yc] 61)).drew.cell? ⟨wr.heap.size, 1, none⟩ = some (.int .u64 yc) ∧ Box2 w.heap.size (.int .i64 b) (.int .i64 k) w8 (wr.alloc (.cells #[.int .i64 yx, .int .u64 yc] 61)).drew) := Lib.hid ⟨by go_simp, by go_simp, cell_later HB0.out HF8.out.c0, cell_later HB0.out HF8.out.c1, HB0.out⟩
              have HST := Lib.hid (fun (W W' : World) (h : W.cell? ⟨wr.heap.size, 0, none⟩ = some (.int .i64 yx) ∧ W.cell? ⟨wr.heap.size, 1, none⟩ = some (.int .u64 yc) ∧ Box2 w.heap.size (.int .i64 b) (.int .i64 k) w8 W) (hb : Below W.heap.size W W') => (⟨cell_later hb h.1, cell_later hb h.2.1, box2_later h.2.2 hb⟩ : W'.cell? ⟨wr.heap.size, 0, none⟩ = some (.int .i64 yx) ∧ W'.cell? ⟨wr.heap.size, 1, none⟩ = some (.int .u64 yc) ∧ Box2 w.heap.size (.int .i64 b) (.int .i64 k) w8 W'))
              clear hyk hit2 hmem hnd hsm hq hal hb9
              by_cases hlow : yx < (lv : Int)
              · have z1 : decide (yx < (lv : Int)) = true := decide_eq_true hlow
                have z2 : decide (q < yc) = false := decide_eq_false (by have := hsm2 hlow; omega)
                clear hsm2
                go_wp2_with fail
                go_region_held3 (fun w' => w'.cell? ⟨wr.heap.size, 0, none⟩ = some (.int .i64 yx) ∧ w'.cell? ⟨wr.heap.size, 1, none⟩ = some (.int .u64 yc) ∧ w'.cell? ⟨w.heap.size, 0, none⟩ = some (.int .i64 b) ∧ w'.cell? ⟨w.heap.size, 1, none⟩ = some (.int .i64 k) ∧ Below w8.heap.size w8 w')
                  (first | exact HS0.out | exact HST.out _ _ (by assumption) hbA | exact HST.out _ _ (by assumption) hbB | assumption)
                  ((first
                    | (go_at_call 27; with_reducible refine (HGO.out _).mono ?_; rintro e wA ⟨rfl, hbA⟩)
                    | (go_at_call 19; with_reducible refine (HTO.out _ (And.right (And.right (And.right (And.right (by assumption)))))).mono ?_; rintro e wB ⟨rfl, hbB⟩)))
                all_goals
                  rename_i hHeld
                  obtain ⟨_, _, _, _, hbz⟩ := hHeld
                  go_wp2_with fail
                  go_roundg (R3.length - (n + 1))
                  case measure => omega
                  case rel => exact ⟨n + 1, by omega, rfl, by go_num, hbz⟩
              · have z1 : decide (yx < (lv : Int)) = false := decide_eq_false hlow
                clear hsm2
                go_wp2_with fail
                refine wp_region_noPanic ?_
                refine wp_region_held_drew (S := (fun w' => w'.cell? ⟨wr.heap.size, 0, none⟩ = some (.int .i64 yx) ∧ w'.cell? ⟨wr.heap.size, 1, none⟩ = some (.int .u64 yc) ∧ w'.cell? ⟨w.heap.size, 0, none⟩ = some (.int .i64 b) ∧ w'.cell? ⟨w.heap.size, 1, none⟩ = some (.int .i64 k) ∧ Below w8.heap.size w8 w')) (by kernel_rfl) (HS0.out) (fun hHeld => ?_)
                refine wpAnyH_take (i := 0) (oi := _) (v := ?vq5_0) (by simp only [List.getElem?_toArray, List.getElem?_cons_succ, List.getElem?_cons_zero]; rfl) (by kernel_rfl) (by kernel_rfl) (by kernel_rfl) (fun _ _ _ h => h) (Or.inl ⟨by rfl, ?yq5_0⟩) hHeld ?rq5_0
                case yq5_0 => (intro w hSw; (try dsimp only at hSw); go_simp; try with_reducible rfl)
                try simp only [Act.put, List.setIfInBounds_toArray, List.set_cons_zero, List.set_cons_succ]
                refine wpAnyH_take (i := 1) (oi := _) (v := ?vq5_1) (by simp only [List.getElem?_toArray, List.getElem?_cons_succ, List.getElem?_cons_zero]; rfl) (by kernel_rfl) (by kernel_rfl) (by kernel_rfl) (fun _ _ _ h => h) (Or.inl ⟨by rfl, ?yq5_1⟩) hHeld ?rq5_1
                case yq5_1 => (intro w hSw; (try dsimp only at hSw); go_simp; try with_reducible rfl)
                try simp only [Act.put, List.setIfInBounds_toArray, List.set_cons_zero, List.set_cons_succ]
                refine wpAnyH_take (i := 2) (oi := _) (v := ?vq5_2) (by simp only [List.getElem?_toArray, List.getElem?_cons_succ, List.getElem?_cons_zero]; rfl) (by kernel_rfl) (by kernel_rfl) (by kernel_rfl) (fun _ _ _ h => h) (Or.inl ⟨by rfl, ?yq5_2⟩) hHeld ?rq5_2
                case yq5_2 => (intro w hSw; (try dsimp only at hSw); go_simp; try with_reducible rfl)
                try simp only [Act.put, List.setIfInBounds_toArray, List.set_cons_zero, List.set_cons_succ]
                refine wpAnyH_take (i := 3) (oi := _) (v := ?vq5_3) (by simp only [List.getElem?_toArray, List.getElem?_cons_succ, List.getElem?_cons_zero]; rfl) (by kernel_rfl) (by kernel_rfl) (by kernel_rfl) (fun _ _ _ h => h) (Or.inl ⟨by rfl, ?yq5_3⟩) hHeld ?rq5_3
                case yq5_3 => (intro w hSw; (try dsimp only at hSw); go_simp; try with_reducible rfl)
                try simp only [Act.put, List.setIfInBounds_toArray, List.set_cons_zero, List.set_cons_succ]
                refine wpAnyH_ready (rs := [4]) (by kernel_rfl) (by simp) ?_
                refine AllReadyH.cons (o := _) (by simp only [List.getElem?_toArray, List.getElem?_cons_succ, List.getElem?_cons_zero]; rfl) (fun K hK => ?_) AllReadyH.nil
                go_simp
                with_reducible refine (HGO.out _).mono ?_; rintro e wA ⟨rfl, hbA⟩
                try (go_wp2_with fail)
                refine hK.out _ _ (HST.out _ _ hHeld hbA) (fun hHeld => ?_)
                clear hK K
                try simp only [Act.put, List.setIfInBounds_toArray, List.set_cons_zero, List.set_cons_succ]
                refine wpAnyH_take (i := 5) (oi := _) (v := ?vq5_5) (by simp only [List.getElem?_toArray, List.getElem?_cons_succ, List.getElem?_cons_zero]; rfl) (by kernel_rfl) (by kernel_rfl) (by kernel_rfl) (fun _ _ _ h => h) (Or.inl ⟨by rfl, ?yq5_5⟩) hHeld ?rq5_5
                case yq5_5 => (intro w hSw; (try dsimp only at hSw); go_simp; try with_reducible rfl)
                try simp only [Act.put, List.setIfInBounds_toArray, List.set_cons_zero, List.set_cons_succ]
                refine wpAnyH_take (i := 6) (oi := _) (v := ?vq5_6) (by simp only [List.getElem?_toArray, List.getElem?_cons_succ, List.getElem?_cons_zero]; rfl) (by kernel_rfl) (by kernel_rfl) (by kernel_rfl) (fun _ _ _ h => h) (Or.inl ⟨by rfl, ?yq5_6⟩) hHeld ?rq5_6
                case yq5_6 => (intro w hSw; (try dsimp only at hSw); go_simp; try with_reducible rfl)
                try simp only [Act.put, List.setIfInBounds_toArray, List.set_cons_zero, List.set_cons_succ]
                refine wpAnyH_take (i := 7) (oi := _) (v := ?vq5_7) (by simp only [List.getElem?_toArray, List.getElem?_cons_succ, List.getElem?_cons_zero]; rfl) (by kernel_rfl) (by kernel_rfl) (by kernel_rfl) (fun _ _ _ h => h) (Or.inl ⟨by rfl, ?yq5_7⟩) hHeld ?rq5_7
                case yq5_7 => (intro w hSw; (try dsimp only at hSw); go_simp; try with_reducible rfl)
                try simp only [Act.put, List.setIfInBounds_toArray, List.set_cons_zero, List.set_cons_succ]
                refine wpAnyH_take (i := 8) (oi := _) (v := ?vq5_8) (by simp only [List.getElem?_toArray, List.getElem?_cons_succ, List.getElem?_cons_zero]; rfl) (by kernel_rfl) (by kernel_rfl) (by kernel_rfl) (fun _ _ _ h => h) (Or.inl ⟨by rfl, ?yq5_8⟩) hHeld ?rq5_8
                case yq5_8 => (intro w hSw; (try dsimp only at hSw); go_simp; try with_reducible rfl)
                try simp only [Act.put, List.setIfInBounds_toArray, List.set_cons_zero, List.set_cons_succ]
                refine wpAnyH_take (i := 9) (oi := _) (v := ?vq5_9) (by simp only [List.getElem?_toArray, List.getElem?_cons_succ, List.getElem?_cons_zero]; rfl) (by kernel_rfl) (by kernel_rfl) (by kernel_rfl) (fun _ _ _ h => h) (Or.inl ⟨by rfl, ?yq5_9⟩) hHeld ?rq5_9
                case yq5_9 => (intro w hSw; (try dsimp only at hSw); go_simp; try with_reducible rfl)
                try simp only [Act.put, List.setIfInBounds_toArray, List.set_cons_zero, List.set_cons_succ]
                refine wpAnyH_take (i := 10) (oi := _) (v := ?vq5_10) (by simp only [List.getElem?_toArray, List.getElem?_cons_succ, List.getElem?_cons_zero]; rfl) (by kernel_rfl) (by kernel_rfl) (by kernel_rfl) (fun _ _ _ h => h) (Or.inl ⟨by rfl, ?yq5_10⟩) hHeld ?rq5_10
                case yq5_10 => (intro w hSw; (try dsimp only at hSw); go_simp; try with_reducible rfl)
                try simp only [Act.put, List.setIfInBounds_toArray, List.set_cons_zero, List.set_cons_succ]
                refine wpAnyH_take (i := 11) (oi := _) (v := ?vq5_11) (by simp only [List.getElem?_toArray, List.getElem?_cons_succ, List.getElem?_cons_zero]; rfl) (by kernel_rfl) (by kernel_rfl) (by kernel_rfl) (fun _ _ _ h => h) (Or.inl ⟨by rfl, ?yq5_11⟩) hHeld ?rq5_11
                case yq5_11 => (intro w hSw; (try dsimp only at hSw); go_simp; try with_reducible rfl)
                try simp only [Act.put, List.setIfInBounds_toArray, List.set_cons_zero, List.set_cons_succ]
                refine wpAnyH_take (i := 12) (oi := _) (v := ?vq5_12) (by simp only [List.getElem?_toArray, List.getElem?_cons_succ, List.getElem?_cons_zero]; rfl) (by kernel_rfl) (by kernel_rfl) (by kernel_rfl) (fun _ _ _ h => h) (Or.inl ⟨by rfl, ?yq5_12⟩) hHeld ?rq5_12
                case yq5_12 => (intro w hSw; (try dsimp only at hSw); go_simp; try with_reducible rfl)
                try simp only [Act.put, List.setIfInBounds_toArray, List.set_cons_zero, List.set_cons_succ]
                refine wpAnyH_take (i := 13) (oi := _) (v := ?vq5_13) (by simp only [List.getElem?_toArray, List.getElem?_cons_succ, List.getElem?_cons_zero]; rfl) (by kernel_rfl) (by kernel_rfl) (by kernel_rfl) (fun _ _ _ h => h) (Or.inl ⟨by rfl, ?yq5_13⟩) hHeld ?rq5_13
                case yq5_13 => (intro w hSw; (try dsimp only at hSw); go_simp; try with_reducible rfl)
                try simp only [Act.put, List.setIfInBounds_toArray, List.set_cons_zero, List.set_cons_succ]
                refine wpAnyH_take (i := 14) (oi := _) (v := _) (by simp only [List.getElem?_toArray, List.getElem?_cons_succ, List.getElem?_cons_zero]; rfl) (by kernel_rfl) (by kernel_rfl) (by kernel_rfl) (fun _ _ _ h => h) (Or.inr ⟨by rfl, rfl⟩) hHeld ?_
                try simp only [Act.put, List.setIfInBounds_toArray, List.set_cons_zero, List.set_cons_succ]
                refine wpAnyH_take (i := 15) (oi := _) (v := _) (by simp only [List.getElem?_toArray, List.getElem?_cons_succ, List.getElem?_cons_zero]; rfl) (by kernel_rfl) (by kernel_rfl) (by kernel_rfl) (fun _ _ _ h => h) (Or.inr ⟨by rfl, rfl⟩) hHeld ?_
                try simp only [Act.put, List.setIfInBounds_toArray, List.set_cons_zero, List.set_cons_succ]
                refine wpAnyH_take (i := 16) (oi := _) (v := _) (by simp only [List.getElem?_toArray, List.getElem?_cons_succ, List.getElem?_cons_zero]; rfl) (by kernel_rfl) (by kernel_rfl) (by kernel_rfl) (fun _ _ _ h => h) (Or.inr ⟨by rfl, rfl⟩) hHeld ?_
                try simp only [Act.put, List.setIfInBounds_toArray, List.set_cons_zero, List.set_cons_succ]
                refine wpAnyH_take (i := 17) (oi := _) (v := _) (by simp only [List.getElem?_toArray, List.getElem?_cons_succ, List.getElem?_cons_zero]; rfl) (by kernel_rfl) (by kernel_rfl) (by kernel_rfl) (fun _ _ _ h => h) (Or.inr ⟨by rfl, rfl⟩) hHeld ?_
                try simp only [Act.put, List.setIfInBounds_toArray, List.set_cons_zero, List.set_cons_succ]
                refine wpAnyH_take (i := 18) (oi := _) (v := _) (by simp only [List.getElem?_toArray, List.getElem?_cons_succ, List.getElem?_cons_zero]; rfl) (by kernel_rfl) (by kernel_rfl) (by kernel_rfl) (fun _ _ _ h => h) (Or.inr ⟨by rfl, rfl⟩) hHeld ?_
                try simp only [Act.put, List.setIfInBounds_toArray, List.set_cons_zero, List.set_cons_succ]
                refine wpAnyH_take (i := 19) (oi := _) (v := _) (by simp only [List.getElem?_toArray, List.getElem?_cons_succ, List.getElem?_cons_zero]; rfl) (by kernel_rfl) (by kernel_rfl) (by kernel_rfl) (fun _ _ _ h => h) (Or.inr ⟨by rfl, rfl⟩) hHeld ?_
                try simp only [Act.put, List.setIfInBounds_toArray, List.set_cons_zero, List.set_cons_succ]
                refine wpAnyH_take (i := 20) (oi := _) (v := _) (by simp only [List.getElem?_toArray, List.getElem?_cons_succ, List.getElem?_cons_zero]; rfl) (by kernel_rfl) (by kernel_rfl) (by kernel_rfl) (fun _ _ _ h => h) (Or.inr ⟨by rfl, rfl⟩) hHeld ?_
                try simp only [Act.put, List.setIfInBounds_toArray, List.set_cons_zero, List.set_cons_succ]
                refine wpAnyH_take (i := 21) (oi := _) (v := _) (by simp only [List.getElem?_toArray, List.getElem?_cons_succ, List.getElem?_cons_zero]; rfl) (by kernel_rfl) (by kernel_rfl) (by kernel_rfl) (fun _ _ _ h => h) (Or.inr ⟨by rfl, rfl⟩) hHeld ?_
                try simp only [Act.put, List.setIfInBounds_toArray, List.set_cons_zero, List.set_cons_succ]
                refine wpAnyH_take (i := 22) (oi := _) (v := _) (by simp only [List.getElem?_toArray, List.getElem?_cons_succ, List.getElem?_cons_zero]; rfl) (by kernel_rfl) (by kernel_rfl) (by kernel_rfl) (fun _ _ _ h => h) (Or.inr ⟨by rfl, rfl⟩) hHeld ?_
                try simp only [Act.put, List.setIfInBounds_toArray, List.set_cons_zero, List.set_cons_succ]
                refine wpAnyH_take (i := 23) (oi := _) (v := ?vq5_23) (by simp only [List.getElem?_toArray, List.getElem?_cons_succ, List.getElem?_cons_zero]; rfl) (by kernel_rfl) (by kernel_rfl) (by kernel_rfl) (fun _ _ _ h => h) (Or.inl ⟨by rfl, ?yq5_23⟩) hHeld ?rq5_23
                case yq5_23 => (intro w hSw; (try dsimp only at hSw); go_simp; try with_reducible rfl)
                try simp only [Act.put, List.setIfInBounds_toArray, List.set_cons_zero, List.set_cons_succ]
                refine wpAnyH_take (i := 24) (oi := _) (v := ?vq5_24) (by simp only [List.getElem?_toArray, List.getElem?_cons_succ, List.getElem?_cons_zero]; rfl) (by kernel_rfl) (by kernel_rfl) (by kernel_rfl) (fun _ _ _ h => h) (Or.inl ⟨by rfl, ?yq5_24⟩) hHeld ?rq5_24
                case yq5_24 => (intro w hSw; (try dsimp only at hSw); go_simp; try with_reducible rfl)
                try simp only [Act.put, List.setIfInBounds_toArray, List.set_cons_zero, List.set_cons_succ]
                refine wpAnyH_done (by kernel_rfl) ?_ _
                refine NoPanic.normal ?_
                go_wp2_with fail
                go_roundg (R3.length - (n + 1))
                case measure => omega
                case rel => exact ⟨n + 1, by omega, rfl, by go_num, hHeld.2.2.2.2⟩
            · obtain rfl : n = R3.length := by omega
              have kl2 : ¬ (R3.length : Int) < R3.length := by omega
              have HB9 := Lib.hid hb9
              have HFB := Lib.hid (HF8.out.call HD.out hb9)
              clear hb9
              go_wp2_with fail
              go_roundg (A.length + 1 - (i + 1))
              case measure => omega
              case rel =>
                refine ⟨i + 1, by omega, rfl, by go_num, HFB.out.bel, fun h => ⟨S2, R3, V3, e3, ?_⟩⟩
                have h1 := HFB.out
                exact ⟨h1.dig, h1.oth, h1.has, h1.fine, HL3.out h, h1.past, h1.apart, h1.bel, h1.c0, h1.c1⟩
      · have HPU := Lib.hid (HD.out.out wr.drew B Sx b k Rx ex px pc HDR.out.dig ⟨o1, o2⟩ ⟨o3, o4⟩ g1 g3)
        clear g3
        go_wp2_with fail
        go_region_with (go_at_call 24; refine HPU.out.mono ?_; rintro e wq ⟨rfl, hbq⟩)
        · have HFQ := Lib.hid (HDR.out.call HD.out hbq)
          have HK : Hid (∃ (S2 : Nat → Prop) (R3 V3 : List PairV) (e3 : Int × Int × Bool), FewG Dg w wq B B' b k S' R2 E2 130 S2 R3 V3 e3 ∧ (i + 1 ≤ A.length → V3.length ≤ i + 1)) := Lib.hid ⟨Sx, Rx, Vx, ex, HFQ.out.mono (by have := HFX.out.len; omega), fun h => by have := HFX.out.len; omega⟩
          clear hbq HPU c0' c1' d0 d1
          obtain ⟨S2, R3, V3, e3, hf3, hl3⟩ := HK.out
          have HF3 := Lib.hid hf3
          have HL3 := Lib.hid hl3
          have hsx := fineG_sum hf3.fine
          have hlx := hf3.len
          have hmx := hf3.has.dig.sum
          have hT : 0 ≤ sumP R3 ∧ sumP R3 ≤ 150000000000000000 := by rw [hmx]; omega
          have hrow := hf3.has.row (by omega)
          have hfew := hf3.has.few
          have hgd : goodB R3 = true := goodB_true.2 hrow.good
          have HND := Lib.hid (fun p (hp : p ∈ R3) => few_node hf3.has hp)
          obtain ⟨T, hTT⟩ : ∃ T, sumP R3 = T := ⟨_, rfl⟩
          rw [hTT] at hT HND
          have HNO := Lib.hid (HD.out.nodes wq B S2 b k R3 e3 hf3.dig)
          have c1 := hf3.c1
          have HOKR := Lib.hid (hrow.ok q2)
          clear hf3 hl3 HK hsx hlx hmx
          go_wp2_with fail
          refine HNO.out.mono ?_
          rintro e w8 ⟨a1, k1', rfl, hp1, b8⟩
          have HP8 := Lib.hid hp1
          have HF8 := Lib.hid (HF3.out.call HD.out b8)
          have G1 := Lib.hid (fun W (h : Box2 w.heap.size (.int .i64 b) (.int .i64 k) w8 W) => box2_calls (rgood_row W a1 k1' R3 true hgd (HP8.out.call h.2.2) (by omega)) h)
          have G2 := Lib.hid (fun W (h : Box2 w.heap.size (.int .i64 b) (.int .i64 k) w8 W) => box2_calls (rtotal_any W a1 k1' R3 T (HP8.out.call h.2.2) (by omega) hTT (by omega)) h)
          have G3 := Lib.hid (fun W (h : Box2 w.heap.size (.int .i64 b) (.int .i64 k) w8 W) => box2_calls (HD.out.total W B S2 b k R3 e3 (HD.out.call HF8.out.dig h.2.2)) h)
          rw [hTT] at G3
          have HTO := Lib.hid (fun W (h : Below w8.heap.size w8 W) => HD.out.total W B S2 b k R3 e3 (HD.out.call HF8.out.dig h))
          rw [hTT] at HTO
          clear c1
          obtain ⟨c0, c1⟩ : w8.cell? ⟨w.heap.size, 0, none⟩ = some (.int .i64 b) ∧ w8.cell? ⟨w.heap.size, 1, none⟩ = some (.int .i64 k) := ⟨HF8.out.c0, HF8.out.c1⟩
          have bz : Below w8.heap.size w8 w8 := Below.refl _ _
          have u1 : IntKind.i64.wrap (4 * (k : Int)) = 4 * (k : Int) := by rw [IntKind.wrap_i64]; omega
          have u2 : ¬ 4 * (k : Int) < (R3.length : Int) := by omega
          have t1 : (!T == T) = false := by simp
          have t2 : (T != T) = false := by simp
          have HFE := Lib.hid hfew
          clear hp1 b8 HNO hrow hgd hTT
          go_wp2_with ((first
            | (go_at_call 25; with_reducible refine (G1.out _ ⟨by assumption, by assumption, by assumption⟩).mono ?_; rintro e w' ⟨rfl, x0', x1', x2'⟩)
            | (go_at_call 26; with_reducible refine (G2.out _ ⟨by assumption, by assumption, by assumption⟩).mono ?_; rintro e w' ⟨rfl, x0', x1', x2'⟩)
            | (go_at_call 19; with_reducible refine (G3.out _ ⟨by assumption, by assumption, by assumption⟩).mono ?_; rintro e w' ⟨rfl, x0', x1', x2'⟩)))
          have HX2 := Lib.hid x2'
          go_loopg [104] R3.length (fun g j wr => ∃ (n : Nat), n ≤ R3.length ∧ g = R3.length - n ∧ j = .int .i64 n ∧ Below w8.heap.size w8 wr)
          case atStart => exact ⟨0, Nat.zero_le _, rfl, rfl, HX2.out⟩
          case round =>
            clear x0' x1' x2' bz c0 c1
            obtain ⟨n, hn, rfl, rfl, hb9⟩ := hrel
            by_cases hlt2 : n < R3.length
            · have kl2 : (n : Int) < R3.length := by omega
              have hyk : R3[n]? = some R3[n] := List.getElem?_eq_getElem hlt2
              generalize hit2 : R3[n] = y at *
              obtain ⟨yx, yc⟩ := y
              obtain ⟨bb9, off9, rfl, hbl9, y0, y1⟩ := (HP8.out.call hb9).at_ n _ hyk
              have hmem := List.mem_of_getElem? hyk
              obtain ⟨hnd, hsm⟩ := HND.out _ hmem
              obtain ⟨⟨o1, o2⟩, o3, o4⟩ := HOKR.out _ hmem
              simp only at y0 y1 o1 o2 o3 o4
              have HGO := Lib.hid (fun W => good16_node W q2 hnd)
              obtain ⟨q, hq⟩ : ∃ q, T / (k : Int) = q := ⟨_, rfl⟩
              have hq0 : 0 ≤ q ∧ q ≤ T := by rw [← hq]; exact ⟨Int.ediv_nonneg (by omega) (by omega), Int.ediv_le_self _ (by omega)⟩
              have v1 : T.tdiv (k : Int) = q := by rw [Int.tdiv_eq_ediv_of_nonneg (by omega)]; exact hq
              have v2 : IntKind.u64.wrap q = q := by rw [IntKind.wrap_u64]; omega
              have v3 : IntKind.u64.wrap (k : Int) = k := by rw [IntKind.wrap_u64]; omega
              have v4 : ¬ (k : Int) = 0 := by omega
              have v5 : ¬ k = 0 := by omega
              have v6 : ((k : Int) == 0) = false := by simp; omega
              have hsm2 : yx < (lv : Int) → yc ≤ q := fun h => by rw [← hq]; exact hsm (by rw [HLV.out]; exact h)
              have hal : Below wr.heap.size wr (wr.alloc (.cells #[.int .i64 yx, .int .u64 yc] 61)) := (Below.refl _ _).alloc (Nat.le_refl _) _
              have HB0 := Lib.hid (hb9.trans (hal.mono hb9.size)).drew
              have HS0 : Hid ((wr.alloc (.cells #[.int .i64 yx, .int .u64 yc] 61)).drew.cell? ⟨wr.heap.size, 0, none⟩ = some (.int .i64 yx) ∧ (wr.alloc (.cells #[.int .i64 yx, .int .u64 yc] 61)).drew.cell? ⟨wr.heap.size, 1, none⟩ = some (.int .u64 yc) ∧ Box2 w.heap.size (.int .i64 b) (.int .i64 k) w8 (wr.alloc (.cells #[.int .i64 yx, .int .u64 yc] 61)).drew) := Lib.hid ⟨by go_simp, by go_simp, cell_later HB0.out HF8.out.c0, cell_later HB0.out HF8.out.c1, HB0.out⟩
              have HST := Lib.hid (fun (W W' : World) (h : W.cell? ⟨wr.heap.size, 0, none⟩ = some (.int .i64 yx) ∧ W.cell? ⟨wr.heap.size, 1, none⟩ = some (.int .u64 yc) ∧ Box2 w.heap.size (.int .i64 b) (.int .i64 k) w8 W) (hb : Below W.heap.size W W') => (⟨cell_later hb h.1, cell_later hb h.2.1, box2_later h.2.2 hb⟩ : W'.cell? ⟨wr.heap.size, 0, none⟩ = some (.int .i64 yx) ∧ W'.cell? ⟨wr.heap.size, 1, none⟩ = some (.int .u64 yc) ∧ Box2 w.heap.size (.int .i64 b) (.int .i64 k) w8 W'))
              clear hyk hit2 hmem hnd hsm hq hal hb9
              by_cases hlow : yx < (lv : Int)
              · have z1 : decide (yx < (lv : Int)) = true := decide_eq_true hlow
                have z2 : decide (q < yc) = false := decide_eq_false (by have := hsm2 hlow; omega)
                clear hsm2
                go_wp2_with fail
                go_region_held3 (fun w' => w'.cell? ⟨wr.heap.size, 0, none⟩ = some (.int .i64 yx) ∧ w'.cell? ⟨wr.heap.size, 1, none⟩ = some (.int .u64 yc) ∧ w'.cell? ⟨w.heap.size, 0, none⟩ = some (.int .i64 b) ∧ w'.cell? ⟨w.heap.size, 1, none⟩ = some (.int .i64 k) ∧ Below w8.heap.size w8 w')
                  (first | exact HS0.out | exact HST.out _ _ (by assumption) hbA | exact HST.out _ _ (by assumption) hbB | assumption)
                  ((first
                    | (go_at_call 27; with_reducible refine (HGO.out _).mono ?_; rintro e wA ⟨rfl, hbA⟩)
                    | (go_at_call 19; with_reducible refine (HTO.out _ (And.right (And.right (And.right (And.right (by assumption)))))).mono ?_; rintro e wB ⟨rfl, hbB⟩)))
                all_goals
                  rename_i hHeld
                  obtain ⟨_, _, _, _, hbz⟩ := hHeld
                  go_wp2_with fail
                  go_roundg (R3.length - (n + 1))
                  case measure => omega
                  case rel => exact ⟨n + 1, by omega, rfl, by go_num, hbz⟩
              · have z1 : decide (yx < (lv : Int)) = false := decide_eq_false hlow
                clear hsm2
                go_wp2_with fail
                refine wp_region_noPanic ?_
                refine wp_region_held_drew (S := (fun w' => w'.cell? ⟨wr.heap.size, 0, none⟩ = some (.int .i64 yx) ∧ w'.cell? ⟨wr.heap.size, 1, none⟩ = some (.int .u64 yc) ∧ w'.cell? ⟨w.heap.size, 0, none⟩ = some (.int .i64 b) ∧ w'.cell? ⟨w.heap.size, 1, none⟩ = some (.int .i64 k) ∧ Below w8.heap.size w8 w')) (by kernel_rfl) (HS0.out) (fun hHeld => ?_)
                refine wpAnyH_take (i := 0) (oi := _) (v := ?vq6_0) (by simp only [List.getElem?_toArray, List.getElem?_cons_succ, List.getElem?_cons_zero]; rfl) (by kernel_rfl) (by kernel_rfl) (by kernel_rfl) (fun _ _ _ h => h) (Or.inl ⟨by rfl, ?yq6_0⟩) hHeld ?rq6_0
                case yq6_0 => (intro w hSw; (try dsimp only at hSw); go_simp; try with_reducible rfl)
                try simp only [Act.put, List.setIfInBounds_toArray, List.set_cons_zero, List.set_cons_succ]
                refine wpAnyH_take (i := 1) (oi := _) (v := ?vq6_1) (by simp only [List.getElem?_toArray, List.getElem?_cons_succ, List.getElem?_cons_zero]; rfl) (by kernel_rfl) (by kernel_rfl) (by kernel_rfl) (fun _ _ _ h => h) (Or.inl ⟨by rfl, ?yq6_1⟩) hHeld ?rq6_1
                case yq6_1 => (intro w hSw; (try dsimp only at hSw); go_simp; try with_reducible rfl)
                try simp only [Act.put, List.setIfInBounds_toArray, List.set_cons_zero, List.set_cons_succ]
                refine wpAnyH_take (i := 2) (oi := _) (v := ?vq6_2) (by simp only [List.getElem?_toArray, List.getElem?_cons_succ, List.getElem?_cons_zero]; rfl) (by kernel_rfl) (by kernel_rfl) (by kernel_rfl) (fun _ _ _ h => h) (Or.inl ⟨by rfl, ?yq6_2⟩) hHeld ?rq6_2
                case yq6_2 => (intro w hSw; (try dsimp only at hSw); go_simp; try with_reducible rfl)
                try simp only [Act.put, List.setIfInBounds_toArray, List.set_cons_zero, List.set_cons_succ]
                refine wpAnyH_take (i := 3) (oi := _) (v := ?vq6_3) (by simp only [List.getElem?_toArray, List.getElem?_cons_succ, List.getElem?_cons_zero]; rfl) (by kernel_rfl) (by kernel_rfl) (by kernel_rfl) (fun _ _ _ h => h) (Or.inl ⟨by rfl, ?yq6_3⟩) hHeld ?rq6_3
                case yq6_3 => (intro w hSw; (try dsimp only at hSw); go_simp; try with_reducible rfl)
                try simp only [Act.put, List.setIfInBounds_toArray, List.set_cons_zero, List.set_cons_succ]
                refine wpAnyH_ready (rs := [4]) (by kernel_rfl) (by simp) ?_
                refine AllReadyH.cons (o := _) (by simp only [List.getElem?_toArray, List.getElem?_cons_succ, List.getElem?_cons_zero]; rfl) (fun K hK => ?_) AllReadyH.nil
                go_simp
                with_reducible refine (HGO.out _).mono ?_; rintro e wA ⟨rfl, hbA⟩
                try (go_wp2_with fail)
                refine hK.out _ _ (HST.out _ _ hHeld hbA) (fun hHeld => ?_)
                clear hK K
                try simp only [Act.put, List.setIfInBounds_toArray, List.set_cons_zero, List.set_cons_succ]
                refine wpAnyH_take (i := 5) (oi := _) (v := ?vq6_5) (by simp only [List.getElem?_toArray, List.getElem?_cons_succ, List.getElem?_cons_zero]; rfl) (by kernel_rfl) (by kernel_rfl) (by kernel_rfl) (fun _ _ _ h => h) (Or.inl ⟨by rfl, ?yq6_5⟩) hHeld ?rq6_5
                case yq6_5 => (intro w hSw; (try dsimp only at hSw); go_simp; try with_reducible rfl)
                try simp only [Act.put, List.setIfInBounds_toArray, List.set_cons_zero, List.set_cons_succ]
                refine wpAnyH_take (i := 6) (oi := _) (v := ?vq6_6) (by simp only [List.getElem?_toArray, List.getElem?_cons_succ, List.getElem?_cons_zero]; rfl) (by kernel_rfl) (by kernel_rfl) (by kernel_rfl) (fun _ _ _ h => h) (Or.inl ⟨by rfl, ?yq6_6⟩) hHeld ?rq6_6
                case yq6_6 => (intro w hSw; (try dsimp only at hSw); go_simp; try with_reducible rfl)
                try simp only [Act.put, List.setIfInBounds_toArray, List.set_cons_zero, List.set_cons_succ]
                refine wpAnyH_take (i := 7) (oi := _) (v := ?vq6_7) (by simp only [List.getElem?_toArray, List.getElem?_cons_succ, List.getElem?_cons_zero]; rfl) (by kernel_rfl) (by kernel_rfl) (by kernel_rfl) (fun _ _ _ h => h) (Or.inl ⟨by rfl, ?yq6_7⟩) hHeld ?rq6_7
                case yq6_7 => (intro w hSw; (try dsimp only at hSw); go_simp; try with_reducible rfl)
                try simp only [Act.put, List.setIfInBounds_toArray, List.set_cons_zero, List.set_cons_succ]
                refine wpAnyH_take (i := 8) (oi := _) (v := ?vq6_8) (by simp only [List.getElem?_toArray, List.getElem?_cons_succ, List.getElem?_cons_zero]; rfl) (by kernel_rfl) (by kernel_rfl) (by kernel_rfl) (fun _ _ _ h => h) (Or.inl ⟨by rfl, ?yq6_8⟩) hHeld ?rq6_8
                case yq6_8 => (intro w hSw; (try dsimp only at hSw); go_simp; try with_reducible rfl)
                try simp only [Act.put, List.setIfInBounds_toArray, List.set_cons_zero, List.set_cons_succ]
                refine wpAnyH_take (i := 9) (oi := _) (v := ?vq6_9) (by simp only [List.getElem?_toArray, List.getElem?_cons_succ, List.getElem?_cons_zero]; rfl) (by kernel_rfl) (by kernel_rfl) (by kernel_rfl) (fun _ _ _ h => h) (Or.inl ⟨by rfl, ?yq6_9⟩) hHeld ?rq6_9
                case yq6_9 => (intro w hSw; (try dsimp only at hSw); go_simp; try with_reducible rfl)
                try simp only [Act.put, List.setIfInBounds_toArray, List.set_cons_zero, List.set_cons_succ]
                refine wpAnyH_take (i := 10) (oi := _) (v := ?vq6_10) (by simp only [List.getElem?_toArray, List.getElem?_cons_succ, List.getElem?_cons_zero]; rfl) (by kernel_rfl) (by kernel_rfl) (by kernel_rfl) (fun _ _ _ h => h) (Or.inl ⟨by rfl, ?yq6_10⟩) hHeld ?rq6_10
                case yq6_10 => (intro w hSw; (try dsimp only at hSw); go_simp; try with_reducible rfl)
                try simp only [Act.put, List.setIfInBounds_toArray, List.set_cons_zero, List.set_cons_succ]
                refine wpAnyH_take (i := 11) (oi := _) (v := ?vq6_11) (by simp only [List.getElem?_toArray, List.getElem?_cons_succ, List.getElem?_cons_zero]; rfl) (by kernel_rfl) (by kernel_rfl) (by kernel_rfl) (fun _ _ _ h => h) (Or.inl ⟨by rfl, ?yq6_11⟩) hHeld ?rq6_11
                case yq6_11 => (intro w hSw; (try dsimp only at hSw); go_simp; try with_reducible rfl)
                try simp only [Act.put, List.setIfInBounds_toArray, List.set_cons_zero, List.set_cons_succ]
                refine wpAnyH_take (i := 12) (oi := _) (v := ?vq6_12) (by simp only [List.getElem?_toArray, List.getElem?_cons_succ, List.getElem?_cons_zero]; rfl) (by kernel_rfl) (by kernel_rfl) (by kernel_rfl) (fun _ _ _ h => h) (Or.inl ⟨by rfl, ?yq6_12⟩) hHeld ?rq6_12
                case yq6_12 => (intro w hSw; (try dsimp only at hSw); go_simp; try with_reducible rfl)
                try simp only [Act.put, List.setIfInBounds_toArray, List.set_cons_zero, List.set_cons_succ]
                refine wpAnyH_take (i := 13) (oi := _) (v := ?vq6_13) (by simp only [List.getElem?_toArray, List.getElem?_cons_succ, List.getElem?_cons_zero]; rfl) (by kernel_rfl) (by kernel_rfl) (by kernel_rfl) (fun _ _ _ h => h) (Or.inl ⟨by rfl, ?yq6_13⟩) hHeld ?rq6_13
                case yq6_13 => (intro w hSw; (try dsimp only at hSw); go_simp; try with_reducible rfl)
                try simp only [Act.put, List.setIfInBounds_toArray, List.set_cons_zero, List.set_cons_succ]
                refine wpAnyH_take (i := 14) (oi := _) (v := _) (by simp only [List.getElem?_toArray, List.getElem?_cons_succ, List.getElem?_cons_zero]; rfl) (by kernel_rfl) (by kernel_rfl) (by kernel_rfl) (fun _ _ _ h => h) (Or.inr ⟨by rfl, rfl⟩) hHeld ?_
                try simp only [Act.put, List.setIfInBounds_toArray, List.set_cons_zero, List.set_cons_succ]
                refine wpAnyH_take (i := 15) (oi := _) (v := _) (by simp only [List.getElem?_toArray, List.getElem?_cons_succ, List.getElem?_cons_zero]; rfl) (by kernel_rfl) (by kernel_rfl) (by kernel_rfl) (fun _ _ _ h => h) (Or.inr ⟨by rfl, rfl⟩) hHeld ?_
                try simp only [Act.put, List.setIfInBounds_toArray, List.set_cons_zero, List.set_cons_succ]
                refine wpAnyH_take (i := 16) (oi := _) (v := _) (by simp only [List.getElem?_toArray, List.getElem?_cons_succ, List.getElem?_cons_zero]; rfl) (by kernel_rfl) (by kernel_rfl) (by kernel_rfl) (fun _ _ _ h => h) (Or.inr ⟨by rfl, rfl⟩) hHeld ?_
                try simp only [Act.put, List.setIfInBounds_toArray, List.set_cons_zero, List.set_cons_succ]
                refine wpAnyH_take (i := 17) (oi := _) (v := _) (by simp only [List.getElem?_toArray, List.getElem?_cons_succ, List.getElem?_cons_zero]; rfl) (by kernel_rfl) (by kernel_rfl) (by kernel_rfl) (fun _ _ _ h => h) (Or.inr ⟨by rfl, rfl⟩) hHeld ?_
                try simp only [Act.put, List.setIfInBounds_toArray, List.set_cons_zero, List.set_cons_succ]
                refine wpAnyH_take (i := 18) (oi := _) (v := _) (by simp only [List.getElem?_toArray, List.getElem?_cons_succ, List.getElem?_cons_zero]; rfl) (by kernel_rfl) (by kernel_rfl) (by kernel_rfl) (fun _ _ _ h => h) (Or.inr ⟨by rfl, rfl⟩) hHeld ?_
                try simp only [Act.put, List.setIfInBounds_toArray, List.set_cons_zero, List.set_cons_succ]
                refine wpAnyH_take (i := 19) (oi := _) (v := _) (by simp only [List.getElem?_toArray, List.getElem?_cons_succ, List.getElem?_cons_zero]; rfl) (by kernel_rfl) (by kernel_rfl) (by kernel_rfl) (fun _ _ _ h => h) (Or.inr ⟨by rfl, rfl⟩) hHeld ?_
                try simp only [Act.put, List.setIfInBounds_toArray, List.set_cons_zero, List.set_cons_succ]
                refine wpAnyH_take (i := 20) (oi := _) (v := _) (by simp only [List.getElem?_toArray, List.getElem?_cons_succ, List.getElem?_cons_zero]; rfl) (by kernel_rfl) (by kernel_rfl) (by kernel_rfl) (fun _ _ _ h => h) (Or.inr ⟨by rfl, rfl⟩) hHeld ?_
                try simp only [Act.put, List.setIfInBounds_toArray, List.set_cons_zero, List.set_cons_succ]
                refine wpAnyH_take (i := 21) (oi := _) (v := _) (by simp only [List.getElem?_toArray, List.getElem?_cons_succ, List.getElem?_cons_zero]; rfl) (by kernel_rfl) (by kernel_rfl) (by kernel_rfl) (fun _ _ _ h => h) (Or.inr ⟨by rfl, rfl⟩) hHeld ?_
                try simp only [Act.put, List.setIfInBounds_toArray, List.set_cons_zero, List.set_cons_succ]
                refine wpAnyH_take (i := 22) (oi := _) (v := _) (by simp only [List.getElem?_toArray, List.getElem?_cons_succ, List.getElem?_cons_zero]; rfl) (by kernel_rfl) (by kernel_rfl) (by kernel_rfl) (fun _ _ _ h => h) (Or.inr ⟨by rfl, rfl⟩) hHeld ?_
                try simp only [Act.put, List.setIfInBounds_toArray, List.set_cons_zero, List.set_cons_succ]
                refine wpAnyH_take (i := 23) (oi := _) (v := ?vq6_23) (by simp only [List.getElem?_toArray, List.getElem?_cons_succ, List.getElem?_cons_zero]; rfl) (by kernel_rfl) (by kernel_rfl) (by kernel_rfl) (fun _ _ _ h => h) (Or.inl ⟨by rfl, ?yq6_23⟩) hHeld ?rq6_23
                case yq6_23 => (intro w hSw; (try dsimp only at hSw); go_simp; try with_reducible rfl)
                try simp only [Act.put, List.setIfInBounds_toArray, List.set_cons_zero, List.set_cons_succ]
                refine wpAnyH_take (i := 24) (oi := _) (v := ?vq6_24) (by simp only [List.getElem?_toArray, List.getElem?_cons_succ, List.getElem?_cons_zero]; rfl) (by kernel_rfl) (by kernel_rfl) (by kernel_rfl) (fun _ _ _ h => h) (Or.inl ⟨by rfl, ?yq6_24⟩) hHeld ?rq6_24
                case yq6_24 => (intro w hSw; (try dsimp only at hSw); go_simp; try with_reducible rfl)
                try simp only [Act.put, List.setIfInBounds_toArray, List.set_cons_zero, List.set_cons_succ]
                refine wpAnyH_done (by kernel_rfl) ?_ _
                refine NoPanic.normal ?_
                go_wp2_with fail
                go_roundg (R3.length - (n + 1))
                case measure => omega
                case rel => exact ⟨n + 1, by omega, rfl, by go_num, hHeld.2.2.2.2⟩
            · obtain rfl : n = R3.length := by omega
              have kl2 : ¬ (R3.length : Int) < R3.length := by omega
              have HB9 := Lib.hid hb9
              have HFB := Lib.hid (HF8.out.call HD.out hb9)
              clear hb9
              go_wp2_with fail
              go_roundg (A.length + 1 - (i + 1))
              case measure => omega
              case rel =>
                refine ⟨i + 1, by omega, rfl, by go_num, HFB.out.bel, fun h => ⟨S2, R3, V3, e3, ?_⟩⟩
                have h1 := HFB.out
                exact ⟨h1.dig, h1.oth, h1.has, h1.fine, HL3.out h, h1.past, h1.apart, h1.bel, h1.c0, h1.c1⟩
        · have HFQ := Lib.hid (HDR.out.call HD.out hbq)
          have HK : Hid (∃ (S2 : Nat → Prop) (R3 V3 : List PairV) (e3 : Int × Int × Bool), FewG Dg w wq B B' b k S' R2 E2 130 S2 R3 V3 e3 ∧ (i + 1 ≤ A.length → V3.length ≤ i + 1)) := Lib.hid ⟨Sx, Rx, Vx, ex, HFQ.out.mono (by have := HFX.out.len; omega), fun h => by have := HFX.out.len; omega⟩
          clear hbq HPU c0' c1' d0 d1
          obtain ⟨S2, R3, V3, e3, hf3, hl3⟩ := HK.out
          have HF3 := Lib.hid hf3
          have HL3 := Lib.hid hl3
          have hsx := fineG_sum hf3.fine
          have hlx := hf3.len
          have hmx := hf3.has.dig.sum
          have hT : 0 ≤ sumP R3 ∧ sumP R3 ≤ 150000000000000000 := by rw [hmx]; omega
          have hrow := hf3.has.row (by omega)
          have hfew := hf3.has.few
          have hgd : goodB R3 = true := goodB_true.2 hrow.good
          have HND := Lib.hid (fun p (hp : p ∈ R3) => few_node hf3.has hp)
          obtain ⟨T, hTT⟩ : ∃ T, sumP R3 = T := ⟨_, rfl⟩
          rw [hTT] at hT HND
          have HNO := Lib.hid (HD.out.nodes wq B S2 b k R3 e3 hf3.dig)
          have c1 := hf3.c1
          have HOKR := Lib.hid (hrow.ok q2)
          clear hf3 hl3 HK hsx hlx hmx
          go_wp2_with fail
          refine HNO.out.mono ?_
          rintro e w8 ⟨a1, k1', rfl, hp1, b8⟩
          have HP8 := Lib.hid hp1
          have HF8 := Lib.hid (HF3.out.call HD.out b8)
          have G1 := Lib.hid (fun W (h : Box2 w.heap.size (.int .i64 b) (.int .i64 k) w8 W) => box2_calls (rgood_row W a1 k1' R3 true hgd (HP8.out.call h.2.2) (by omega)) h)
          have G2 := Lib.hid (fun W (h : Box2 w.heap.size (.int .i64 b) (.int .i64 k) w8 W) => box2_calls (rtotal_any W a1 k1' R3 T (HP8.out.call h.2.2) (by omega) hTT (by omega)) h)
          have G3 := Lib.hid (fun W (h : Box2 w.heap.size (.int .i64 b) (.int .i64 k) w8 W) => box2_calls (HD.out.total W B S2 b k R3 e3 (HD.out.call HF8.out.dig h.2.2)) h)
          rw [hTT] at G3
          have HTO := Lib.hid (fun W (h : Below w8.heap.size w8 W) => HD.out.total W B S2 b k R3 e3 (HD.out.call HF8.out.dig h))
          rw [hTT] at HTO
          clear c1
          obtain ⟨c0, c1⟩ : w8.cell? ⟨w.heap.size, 0, none⟩ = some (.int .i64 b) ∧ w8.cell? ⟨w.heap.size, 1, none⟩ = some (.int .i64 k) := ⟨HF8.out.c0, HF8.out.c1⟩
          have bz : Below w8.heap.size w8 w8 := Below.refl _ _
          have u1 : IntKind.i64.wrap (4 * (k : Int)) = 4 * (k : Int) := by rw [IntKind.wrap_i64]; omega
          have u2 : ¬ 4 * (k : Int) < (R3.length : Int) := by omega
          have t1 : (!T == T) = false := by simp
          have t2 : (T != T) = false := by simp
          have HFE := Lib.hid hfew
          clear hp1 b8 HNO hrow hgd hTT
          go_wp2_with ((first
            | (go_at_call 25; with_reducible refine (G1.out _ ⟨by assumption, by assumption, by assumption⟩).mono ?_; rintro e w' ⟨rfl, x0', x1', x2'⟩)
            | (go_at_call 26; with_reducible refine (G2.out _ ⟨by assumption, by assumption, by assumption⟩).mono ?_; rintro e w' ⟨rfl, x0', x1', x2'⟩)
            | (go_at_call 19; with_reducible refine (G3.out _ ⟨by assumption, by assumption, by assumption⟩).mono ?_; rintro e w' ⟨rfl, x0', x1', x2'⟩)))
          have HX2 := Lib.hid x2'
          go_loopg [104] R3.length (fun g j wr => ∃ (n : Nat), n ≤ R3.length ∧ g = R3.length - n ∧ j = .int .i64 n ∧ Below w8.heap.size w8 wr)
          case atStart => exact ⟨0, Nat.zero_le _, rfl, rfl, HX2.out⟩
          case round =>
            clear x0' x1' x2' bz c0 c1
            obtain ⟨n, hn, rfl, rfl, hb9⟩ := hrel
            by_cases hlt2 : n < R3.length
            · have kl2 : (n : Int) < R3.length := by omega
              have hyk : R3[n]? = some R3[n] := List.getElem?_eq_getElem hlt2
              generalize hit2 : R3[n] = y at *
              obtain ⟨yx, yc⟩ := y
              obtain ⟨bb9, off9, rfl, hbl9, y0, y1⟩ := (HP8.out.call hb9).at_ n _ hyk
              have hmem := List.mem_of_getElem? hyk
              obtain ⟨hnd, hsm⟩ := HND.out _ hmem
              obtain ⟨⟨o1, o2⟩, o3, o4⟩ := HOKR.out _ hmem
              simp only at y0 y1 o1 o2 o3 o4
              have HGO := Lib.hid (fun W => good16_node W q2 hnd)
              obtain ⟨q, hq⟩ : ∃ q, T / (k : Int) = q := ⟨_, rfl⟩
              have hq0 : 0 ≤ q ∧ q ≤ T := by rw [← hq]; exact ⟨Int.ediv_nonneg (by omega) (by omega), Int.ediv_le_self _ (by omega)⟩
              have v1 : T.tdiv (k : Int) = q := by rw [Int.tdiv_eq_ediv_of_nonneg (by omega)]; exact hq
              have v2 : IntKind.u64.wrap q = q := by rw [IntKind.wrap_u64]; omega
              have v3 : IntKind.u64.wrap (k : Int) = k := by rw [IntKind.wrap_u64]; omega
              have v4 : ¬ (k : Int) = 0 := by omega
              have v5 : ¬ k = 0 := by omega
              have v6 : ((k : Int) == 0) = false := by simp; omega
              have hsm2 : yx < (lv : Int) → yc ≤ q := fun h => by rw [← hq]; exact hsm (by rw [HLV.out]; exact h)
              have hal : Below wr.heap.size wr (wr.alloc (.cells #[.int .i64 yx, .int .u64 yc] 61)) := (Below.refl _ _).alloc (Nat.le_refl _) _
              have HB0 := Lib.hid (hb9.trans (hal.mono hb9.size)).drew
              have HS0 : Hid ((wr.alloc (.cells #[.int .i64 yx, .int .u64 yc] 61)).drew.cell? ⟨wr.heap.size, 0, none⟩ = some (.int .i64 yx) ∧ (wr.alloc (.cells #[.int .i64 yx, .int .u64 yc] 61)).drew.cell? ⟨wr.heap.size, 1, none⟩ = some (.int .u64 yc) ∧ Box2 w.heap.size (.int .i64 b) (.int .i64 k) w8 (wr.alloc (.cells #[.int .i64 yx, .int .u64 yc] 61)).drew) := Lib.hid ⟨by go_simp, by go_simp, cell_later HB0.out HF8.out.c0, cell_later HB0.out HF8.out.c1, HB0.out⟩
              have HST := Lib.hid (fun (W W' : World) (h : W.cell? ⟨wr.heap.size, 0, none⟩ = some (.int .i64 yx) ∧ W.cell? ⟨wr.heap.size, 1, none⟩ = some (.int .u64 yc) ∧ Box2 w.heap.size (.int .i64 b) (.int .i64 k) w8 W) (hb : Below W.heap.size W W') => (⟨cell_later hb h.1, cell_later hb h.2.1, box2_later h.2.2 hb⟩ : W'.cell? ⟨wr.heap.size, 0, none⟩ = some (.int .i64 yx) ∧ W'.cell? ⟨wr.heap.size, 1, none⟩ = some (.int .u64 yc) ∧ Box2 w.heap.size (.int .i64 b) (.int .i64 k) w8 W'))
              clear hyk hit2 hmem hnd hsm hq hal hb9
              by_cases hlow : yx < (lv : Int)
              · have z1 : decide (yx < (lv : Int)) = true := decide_eq_true hlow
                have z2 : decide (q < yc) = false := decide_eq_false (by have := hsm2 hlow; omega)
                clear hsm2
                go_wp2_with fail
                go_region_held3 (fun w' => w'.cell? ⟨wr.heap.size, 0, none⟩ = some (.int .i64 yx) ∧ w'.cell? ⟨wr.heap.size, 1, none⟩ = some (.int .u64 yc) ∧ w'.cell? ⟨w.heap.size, 0, none⟩ = some (.int .i64 b) ∧ w'.cell? ⟨w.heap.size, 1, none⟩ = some (.int .i64 k) ∧ Below w8.heap.size w8 w')
                  (first | exact HS0.out | exact HST.out _ _ (by assumption) hbA | exact HST.out _ _ (by assumption) hbB | assumption)
                  ((first
                    | (go_at_call 27; with_reducible refine (HGO.out _).mono ?_; rintro e wA ⟨rfl, hbA⟩)
                    | (go_at_call 19; with_reducible refine (HTO.out _ (And.right (And.right (And.right (And.right (by assumption)))))).mono ?_; rintro e wB ⟨rfl, hbB⟩)))
                all_goals
                  rename_i hHeld
                  obtain ⟨_, _, _, _, hbz⟩ := hHeld
                  go_wp2_with fail
                  go_roundg (R3.length - (n + 1))
                  case measure => omega
                  case rel => exact ⟨n + 1, by omega, rfl, by go_num, hbz⟩
              · have z1 : decide (yx < (lv : Int)) = false := decide_eq_false hlow
                clear hsm2
                go_wp2_with fail
                refine wp_region_noPanic ?_
                refine wp_region_held_drew (S := (fun w' => w'.cell? ⟨wr.heap.size, 0, none⟩ = some (.int .i64 yx) ∧ w'.cell? ⟨wr.heap.size, 1, none⟩ = some (.int .u64 yc) ∧ w'.cell? ⟨w.heap.size, 0, none⟩ = some (.int .i64 b) ∧ w'.cell? ⟨w.heap.size, 1, none⟩ = some (.int .i64 k) ∧ Below w8.heap.size w8 w')) (by kernel_rfl) (HS0.out) (fun hHeld => ?_)
                refine wpAnyH_take (i := 0) (oi := _) (v := ?vq7_0) (by simp only [List.getElem?_toArray, List.getElem?_cons_succ, List.getElem?_cons_zero]; rfl) (by kernel_rfl) (by kernel_rfl) (by kernel_rfl) (fun _ _ _ h => h) (Or.inl ⟨by rfl, ?yq7_0⟩) hHeld ?rq7_0
                case yq7_0 => (intro w hSw; (try dsimp only at hSw); go_simp; try with_reducible rfl)
                try simp only [Act.put, List.setIfInBounds_toArray, List.set_cons_zero, List.set_cons_succ]
                refine wpAnyH_take (i := 1) (oi := _) (v := ?vq7_1) (by simp only [List.getElem?_toArray, List.getElem?_cons_succ, List.getElem?_cons_zero]; rfl) (by kernel_rfl) (by kernel_rfl) (by kernel_rfl) (fun _ _ _ h => h) (Or.inl ⟨by rfl, ?yq7_1⟩) hHeld ?rq7_1
                case yq7_1 => (intro w hSw; (try dsimp only at hSw); go_simp; try with_reducible rfl)
                try simp only [Act.put, List.setIfInBounds_toArray, List.set_cons_zero, List.set_cons_succ]
                refine wpAnyH_take (i := 2) (oi := _) (v := ?vq7_2) (by simp only [List.getElem?_toArray, List.getElem?_cons_succ, List.getElem?_cons_zero]; rfl) (by kernel_rfl) (by kernel_rfl) (by kernel_rfl) (fun _ _ _ h => h) (Or.inl ⟨by rfl, ?yq7_2⟩) hHeld ?rq7_2
                case yq7_2 => (intro w hSw; (try dsimp only at hSw); go_simp; try with_reducible rfl)
                try simp only [Act.put, List.setIfInBounds_toArray, List.set_cons_zero, List.set_cons_succ]
                refine wpAnyH_take (i := 3) (oi := _) (v := ?vq7_3) (by simp only [List.getElem?_toArray, List.getElem?_cons_succ, List.getElem?_cons_zero]; rfl) (by kernel_rfl) (by kernel_rfl) (by kernel_rfl) (fun _ _ _ h => h) (Or.inl ⟨by rfl, ?yq7_3⟩) hHeld ?rq7_3
                case yq7_3 => (intro w hSw; (try dsimp only at hSw); go_simp; try with_reducible rfl)
                try simp only [Act.put, List.setIfInBounds_toArray, List.set_cons_zero, List.set_cons_succ]
                refine wpAnyH_ready (rs := [4]) (by kernel_rfl) (by simp) ?_
                refine AllReadyH.cons (o := _) (by simp only [List.getElem?_toArray, List.getElem?_cons_succ, List.getElem?_cons_zero]; rfl) (fun K hK => ?_) AllReadyH.nil
                go_simp
                with_reducible refine (HGO.out _).mono ?_; rintro e wA ⟨rfl, hbA⟩
                try (go_wp2_with fail)
                refine hK.out _ _ (HST.out _ _ hHeld hbA) (fun hHeld => ?_)
                clear hK K
                try simp only [Act.put, List.setIfInBounds_toArray, List.set_cons_zero, List.set_cons_succ]
                refine wpAnyH_take (i := 5) (oi := _) (v := ?vq7_5) (by simp only [List.getElem?_toArray, List.getElem?_cons_succ, List.getElem?_cons_zero]; rfl) (by kernel_rfl) (by kernel_rfl) (by kernel_rfl) (fun _ _ _ h => h) (Or.inl ⟨by rfl, ?yq7_5⟩) hHeld ?rq7_5
                case yq7_5 => (intro w hSw; (try dsimp only at hSw); go_simp; try with_reducible rfl)
                try simp only [Act.put, List.setIfInBounds_toArray, List.set_cons_zero, List.set_cons_succ]
                refine wpAnyH_take (i := 6) (oi := _) (v := ?vq7_6) (by simp only [List.getElem?_toArray, List.getElem?_cons_succ, List.getElem?_cons_zero]; rfl) (by kernel_rfl) (by kernel_rfl) (by kernel_rfl) (fun _ _ _ h => h) (Or.inl ⟨by rfl, ?yq7_6⟩) hHeld ?rq7_6
                case yq7_6 => (intro w hSw; (try dsimp only at hSw); go_simp; try with_reducible rfl)
                try simp only [Act.put, List.setIfInBounds_toArray, List.set_cons_zero, List.set_cons_succ]
                refine wpAnyH_take (i := 7) (oi := _) (v := ?vq7_7) (by simp only [List.getElem?_toArray, List.getElem?_cons_succ, List.getElem?_cons_zero]; rfl) (by kernel_rfl) (by kernel_rfl) (by kernel_rfl) (fun _ _ _ h => h) (Or.inl ⟨by rfl, ?yq7_7⟩) hHeld ?rq7_7
                case yq7_7 => (intro w hSw; (try dsimp only at hSw); go_simp; try with_reducible rfl)
                try simp only [Act.put, List.setIfInBounds_toArray, List.set_cons_zero, List.set_cons_succ]
                refine wpAnyH_take (i := 8) (oi := _) (v := ?vq7_8) (by simp only [List.getElem?_toArray, List.getElem?_cons_succ, List.getElem?_cons_zero]; rfl) (by kernel_rfl) (by kernel_rfl) (by kernel_rfl) (fun _ _ _ h => h) (Or.inl ⟨by rfl, ?yq7_8⟩) hHeld ?rq7_8
                case yq7_8 => (intro w hSw; (try dsimp only at hSw); go_simp; try with_reducible rfl)
                try simp only [Act.put, List.setIfInBounds_toArray, List.set_cons_zero, List.set_cons_succ]
                refine wpAnyH_take (i := 9) (oi := _) (v := ?vq7_9) (by simp only [List.getElem?_toArray, List.getElem?_cons_succ, List.getElem?_cons_zero]; rfl) (by kernel_rfl) (by kernel_rfl) (by kernel_rfl) (fun _ _ _ h => h) (Or.inl ⟨by rfl, ?yq7_9⟩) hHeld ?rq7_9
                case yq7_9 => (intro w hSw; (try dsimp only at hSw); go_simp; try with_reducible rfl)
                try simp only [Act.put, List.setIfInBounds_toArray, List.set_cons_zero, List.set_cons_succ]
                refine wpAnyH_take (i := 10) (oi := _) (v := ?vq7_10) (by simp only [List.getElem?_toArray, List.getElem?_cons_succ, List.getElem?_cons_zero]; rfl) (by kernel_rfl) (by kernel_rfl) (by kernel_rfl) (fun _ _ _ h => h) (Or.inl ⟨by rfl, ?yq7_10⟩) hHeld ?rq7_10
                case yq7_10 => (intro w hSw; (try dsimp only at hSw); go_simp; try with_reducible rfl)
                try simp only [Act.put, List.setIfInBounds_toArray, List.set_cons_zero, List.set_cons_succ]
                refine wpAnyH_take (i := 11) (oi := _) (v := ?vq7_11) (by simp only [List.getElem?_toArray, List.getElem?_cons_succ, List.getElem?_cons_zero]; rfl) (by kernel_rfl) (by kernel_rfl) (by kernel_rfl) (fun _ _ _ h => h) (Or.inl ⟨by rfl, ?yq7_11⟩) hHeld ?rq7_11
                case yq7_11 => (intro w hSw; (try dsimp only at hSw); go_simp; try with_reducible rfl)
                try simp only [Act.put, List.setIfInBounds_toArray, List.set_cons_zero, List.set_cons_succ]
                refine wpAnyH_take (i := 12) (oi := _) (v := ?vq7_12) (by simp only [List.getElem?_toArray, List.getElem?_cons_succ, List.getElem?_cons_zero]; rfl) (by kernel_rfl) (by kernel_rfl) (by kernel_rfl) (fun _ _ _ h => h) (Or.inl ⟨by rfl, ?yq7_12⟩) hHeld ?rq7_12
                case yq7_12 => (intro w hSw; (try dsimp only at hSw); go_simp; try with_reducible rfl)
                try simp only [Act.put, List.setIfInBounds_toArray, List.set_cons_zero, List.set_cons_succ]
                refine wpAnyH_take (i := 13) (oi := _) (v := ?vq7_13) (by simp only [List.getElem?_toArray, List.getElem?_cons_succ, List.getElem?_cons_zero]; rfl) (by kernel_rfl) (by kernel_rfl) (by kernel_rfl) (fun _ _ _ h => h) (Or.inl ⟨by rfl, ?yq7_13⟩) hHeld ?rq7_13
                case yq7_13 => (intro w hSw; (try dsimp only at hSw); go_simp; try with_reducible rfl)
                try simp only [Act.put, List.setIfInBounds_toArray, List.set_cons_zero, List.set_cons_succ]
                refine wpAnyH_take (i := 14) (oi := _) (v := _) (by simp only [List.getElem?_toArray, List.getElem?_cons_succ, List.getElem?_cons_zero]; rfl) (by kernel_rfl) (by kernel_rfl) (by kernel_rfl) (fun _ _ _ h => h) (Or.inr ⟨by rfl, rfl⟩) hHeld ?_
                try simp only [Act.put, List.setIfInBounds_toArray, List.set_cons_zero, List.set_cons_succ]
                refine wpAnyH_take (i := 15) (oi := _) (v := _) (by simp only [List.getElem?_toArray, List.getElem?_cons_succ, List.getElem?_cons_zero]; rfl) (by kernel_rfl) (by kernel_rfl) (by kernel_rfl) (fun _ _ _ h => h) (Or.inr ⟨by rfl, rfl⟩) hHeld ?_
                try simp only [Act.put, List.setIfInBounds_toArray, List.set_cons_zero, List.set_cons_succ]
                refine wpAnyH_take (i := 16) (oi := _) (v := _) (by simp only [List.getElem?_toArray, List.getElem?_cons_succ, List.getElem?_cons_zero]; rfl) (by kernel_rfl) (by kernel_rfl) (by kernel_rfl) (fun _ _ _ h => h) (Or.inr ⟨by rfl, rfl⟩) hHeld ?_
                try simp only [Act.put, List.setIfInBounds_toArray, List.set_cons_zero, List.set_cons_succ]
                refine wpAnyH_take (i := 17) (oi := _) (v := _) (by simp only [List.getElem?_toArray, List.getElem?_cons_succ, List.getElem?_cons_zero]; rfl) (by kernel_rfl) (by kernel_rfl) (by kernel_rfl) (fun _ _ _ h => h) (Or.inr ⟨by rfl, rfl⟩) hHeld ?_
                try simp only [Act.put, List.setIfInBounds_toArray, List.set_cons_zero, List.set_cons_succ]
                refine wpAnyH_take (i := 18) (oi := _) (v := _) (by simp only [List.getElem?_toArray, List.getElem?_cons_succ, List.getElem?_cons_zero]; rfl) (by kernel_rfl) (by kernel_rfl) (by kernel_rfl) (fun _ _ _ h => h) (Or.inr ⟨by rfl, rfl⟩) hHeld ?_
                try simp only [Act.put, List.setIfInBounds_toArray, List.set_cons_zero, List.set_cons_succ]
                refine wpAnyH_take (i := 19) (oi := _) (v := _) (by simp only [List.getElem?_toArray, List.getElem?_cons_succ, List.getElem?_cons_zero]; rfl) (by kernel_rfl) (by kernel_rfl) (by kernel_rfl) (fun _ _ _ h => h) (Or.inr ⟨by rfl, rfl⟩) hHeld ?_
                try simp only [Act.put, List.setIfInBounds_toArray, List.set_cons_zero, List.set_cons_succ]
                refine wpAnyH_take (i := 20) (oi := _) (v := _) (by simp only [List.getElem?_toArray, List.getElem?_cons_succ, List.getElem?_cons_zero]; rfl) (by kernel_rfl) (by kernel_rfl) (by kernel_rfl) (fun _ _ _ h => h) (Or.inr ⟨by rfl, rfl⟩) hHeld ?_
                try simp only [Act.put, List.setIfInBounds_toArray, List.set_cons_zero, List.set_cons_succ]
                refine wpAnyH_take (i := 21) (oi := _) (v := _) (by simp only [List.getElem?_toArray, List.getElem?_cons_succ, List.getElem?_cons_zero]; rfl) (by kernel_rfl) (by kernel_rfl) (by kernel_rfl) (fun _ _ _ h => h) (Or.inr ⟨by rfl, rfl⟩) hHeld ?_
                try simp only [Act.put, List.setIfInBounds_toArray, List.set_cons_zero, List.set_cons_succ]
                refine wpAnyH_take (i := 22) (oi := _) (v := _) (by simp only [List.getElem?_toArray, List.getElem?_cons_succ, List.getElem?_cons_zero]; rfl) (by kernel_rfl) (by kernel_rfl) (by kernel_rfl) (fun _ _ _ h => h) (Or.inr ⟨by rfl, rfl⟩) hHeld ?_
                try simp only [Act.put, List.setIfInBounds_toArray, List.set_cons_zero, List.set_cons_succ]
                refine wpAnyH_take (i := 23) (oi := _) (v := ?vq7_23) (by simp only [List.getElem?_toArray, List.getElem?_cons_succ, List.getElem?_cons_zero]; rfl) (by kernel_rfl) (by kernel_rfl) (by kernel_rfl) (fun _ _ _ h => h) (Or.inl ⟨by rfl, ?yq7_23⟩) hHeld ?rq7_23
                case yq7_23 => (intro w hSw; (try dsimp only at hSw); go_simp; try with_reducible rfl)
                try simp only [Act.put, List.setIfInBounds_toArray, List.set_cons_zero, List.set_cons_succ]
                refine wpAnyH_take (i := 24) (oi := _) (v := ?vq7_24) (by simp only [List.getElem?_toArray, List.getElem?_cons_succ, List.getElem?_cons_zero]; rfl) (by kernel_rfl) (by kernel_rfl) (by kernel_rfl) (fun _ _ _ h => h) (Or.inl ⟨by rfl, ?yq7_24⟩) hHeld ?rq7_24
                case yq7_24 => (intro w hSw; (try dsimp only at hSw); go_simp; try with_reducible rfl)
                try simp only [Act.put, List.setIfInBounds_toArray, List.set_cons_zero, List.set_cons_succ]
                refine wpAnyH_done (by kernel_rfl) ?_ _
                refine NoPanic.normal ?_
                go_wp2_with fail
                go_roundg (R3.length - (n + 1))
                case measure => omega
                case rel => exact ⟨n + 1, by omega, rfl, by go_num, hHeld.2.2.2.2⟩
            · obtain rfl : n = R3.length := by omega
              have kl2 : ¬ (R3.length : Int) < R3.length := by omega
              have HB9 := Lib.hid hb9
              have HFB := Lib.hid (HF8.out.call HD.out hb9)
              clear hb9
              go_wp2_with fail
              go_roundg (A.length + 1 - (i + 1))
              case measure => omega
              case rel =>
                refine ⟨i + 1, by omega, rfl, by go_num, HFB.out.bel, fun h => ⟨S2, R3, V3, e3, ?_⟩⟩
                have h1 := HFB.out
                exact ⟨h1.dig, h1.oth, h1.has, h1.fine, HL3.out h, h1.past, h1.apart, h1.bel, h1.c0, h1.c1⟩
end Go.Proofs.YthjcdbnjmpjikaaGreat
