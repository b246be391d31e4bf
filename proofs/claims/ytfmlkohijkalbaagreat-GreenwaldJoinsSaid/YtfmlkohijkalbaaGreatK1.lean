/-
  Texts joined, in build order: Shelf, Carry, WideA, DivMath, DivA, Over, TupC, TupR, TupS, TupT, TupU, TupV, TupW, TupJ, WideB, WideD, ROver, GwR, GwA.
-/
import Derived.Test.YtfmlkohijkalbaaGreatK0
import Derived.Shelf.Small.Bits
import Derived.Shelf.Strconv.Itoa0
import Derived.Shelf.Bits.Mul64
import Derived.Ground.SlgnProg
import Derived.Shelf.SlicesG.Turned
import Derived.Shelf.SlicesE.Clone
import Derived.Ground.SlgmProg
import Derived.Shelf.SortM.Plain
import Derived.Shelf.SortM.SortNone
import Derived.Test.YtfmlkohijkalbaaGreatProg
import Derived.Shelf.Spec.BitsCarry
import Derived.WalkKit
import Derived.Test.YtfmlkohijkalbaaGreatRows
import Derived.WalkSpells
import Derived.WalkLawsBesides
import Derived.Deep.QuietTactic
import Derived.BigQuiet
import Derived.Deep.RegionHeld3
import Derived.Lib.ItoaNum
import Derived.Laws.Bits64b
import Derived.Deep.DeepCutAuto
import Derived.Deep.CutBlock
import Derived.WalkSmall
import Derived.Deep.RegionWith
import Derived.RegionTactic
import Derived.Deep.RegionLaw
import Derived.Deep.CutRange
/-
  The library contracts that the proofs lean on, laid at this translation by program.
-/
namespace Go.Proofs
open Go.Shelf
def Tryz.lays128_ren : Go.Shelf.Ren := ⟨fun | 128 => 90 | n => n, fun | 51 => 135 | 3 => 3 | 4 => 4 | 46 => 112 | 5 => 5 | 9 => 9 | n => n, fun | n => n⟩
theorem Tryz.lays128 : Go.Proofs.Lays.n128 Tryz.prog Tryz.lays128_ren := {
  mixed := by kernel_rfl
  f128 := Tryz.func90.trans (congrArg some (by kernel_rfl))
  t3 := Tryz.underlying3
  a3 := Tryz.isAgg3
  z3 := Tryz.sizeOf3
  v3 := Tryz.zeroValue3
  t4 := Tryz.underlying4
  a4 := Tryz.isAgg4
  z4 := Tryz.sizeOf4
  v4 := Tryz.zeroValue4
  t5 := Tryz.underlying5
  a5 := Tryz.isAgg5
  z5 := Tryz.sizeOf5
  v5 := Tryz.zeroValue5
  t9 := Tryz.underlying9
  a9 := Tryz.isAgg9
  z9 := Tryz.sizeOf9
  v9 := Tryz.zeroValue9
  t46 := Tryz.underlying112
  a46 := Tryz.isAgg112
  z46 := Tryz.sizeOf112
  v46 := Tryz.zeroValue112
  t51 := Tryz.underlying135
  a51 := Tryz.isAgg135
  z51 := Tryz.sizeOf135
  v51 := Tryz.zeroValue135 }
theorem Tryz.bits_Len32 (x : Int) (w : World) (h0 : 0 ≤ x) (h1 : x ≤ 4294967295) :
    Calls Tryz.prog 90 #[.int .u32 x] w fun e w' => e = .returned (.int .i64 (Lib.bitLen x.toNat)) ∧ w' = w := Any.bits_Len32 Tryz.lays128 x w h0 h1
def Tryz.lays125_ren : Go.Shelf.Ren := ⟨fun | 125 => 65 | 128 => 90 | 129 => 91 | n => n, fun | 46 => 112 | 3 => 3 | 51 => 135 | 53 => 22 | 4 => 4 | 5 => 5 | 9 => 9 | n => n, fun | n => n⟩
theorem Tryz.lays125 : Go.Proofs.Lays.n125 Tryz.prog Tryz.lays125_ren := {
  mixed := by kernel_rfl
  f125 := Tryz.func65.trans (congrArg some (by kernel_rfl))
  f128 := Tryz.func90.trans (congrArg some (by kernel_rfl))
  f129 := Tryz.func91.trans (congrArg some (by kernel_rfl))
  t3 := Tryz.underlying3
  a3 := Tryz.isAgg3
  z3 := Tryz.sizeOf3
  v3 := Tryz.zeroValue3
  t4 := Tryz.underlying4
  a4 := Tryz.isAgg4
  z4 := Tryz.sizeOf4
  v4 := Tryz.zeroValue4
  t5 := Tryz.underlying5
  a5 := Tryz.isAgg5
  z5 := Tryz.sizeOf5
  v5 := Tryz.zeroValue5
  t9 := Tryz.underlying9
  a9 := Tryz.isAgg9
  z9 := Tryz.sizeOf9
  v9 := Tryz.zeroValue9
  t46 := Tryz.underlying112
  a46 := Tryz.isAgg112
  z46 := Tryz.sizeOf112
  v46 := Tryz.zeroValue112
  t51 := Tryz.underlying135
  a51 := Tryz.isAgg135
  z51 := Tryz.sizeOf135
  v51 := Tryz.zeroValue135
  t53 := Tryz.underlying22
  a53 := Tryz.isAgg22
  z53 := Tryz.sizeOf22
  v53 := Tryz.zeroValue22 }
theorem Tryz.bits_Len (x : Int) (w : World) (h0 : 0 ≤ x) (h1 : x ≤ 18446744073709551615) :
    Calls Tryz.prog 65 #[.int .u64 x] w fun e w' => e = .returned (.int .i64 (Lib.bitLen x.toNat)) ∧ w' = w := Any.bits_Len Tryz.lays125 x w h0 h1
def Tryz.lays134_ren : Go.Shelf.Ren := ⟨fun | 134 => 104 | 129 => 91 | n => n, fun | 53 => 22 | 3 => 3 | 4 => 4 | 46 => 112 | 5 => 5 | 9 => 9 | n => n, fun | n => n⟩
theorem Tryz.lays134 : Go.Proofs.Lays.n134 Tryz.prog Tryz.lays134_ren := {
  mixed := by kernel_rfl
  f129 := Tryz.func91.trans (congrArg some (by kernel_rfl))
  f134 := Tryz.func104.trans (congrArg some (by kernel_rfl))
  t3 := Tryz.underlying3
  a3 := Tryz.isAgg3
  z3 := Tryz.sizeOf3
  v3 := Tryz.zeroValue3
  t4 := Tryz.underlying4
  a4 := Tryz.isAgg4
  z4 := Tryz.sizeOf4
  v4 := Tryz.zeroValue4
  t5 := Tryz.underlying5
  a5 := Tryz.isAgg5
  z5 := Tryz.sizeOf5
  v5 := Tryz.zeroValue5
  t9 := Tryz.underlying9
  a9 := Tryz.isAgg9
  z9 := Tryz.sizeOf9
  v9 := Tryz.zeroValue9
  t46 := Tryz.underlying112
  a46 := Tryz.isAgg112
  z46 := Tryz.sizeOf112
  v46 := Tryz.zeroValue112
  t53 := Tryz.underlying22
  a53 := Tryz.isAgg22
  z53 := Tryz.sizeOf22
  v53 := Tryz.zeroValue22 }
theorem Tryz.bits_LeadingZeros64 (x : Int) (w : World) (h0 : 0 ≤ x) (h1 : x ≤ 18446744073709551615) :
    Calls Tryz.prog 104 #[.int .u64 x] w fun e w' => e = .returned (.int .i64 (64 - (Lib.bitLen x.toNat : Int))) ∧ w' = w := Any.bits_LeadingZeros64 Tryz.lays134 x w h0 h1
def Tryz.lays129_ren : Go.Shelf.Ren := ⟨fun | 129 => 91 | n => n, fun | 53 => 22 | 3 => 3 | 4 => 4 | 46 => 112 | 5 => 5 | 9 => 9 | n => n, fun | n => n⟩
theorem Tryz.lays129 : Go.Proofs.Lays.n129 Tryz.prog Tryz.lays129_ren := {
  mixed := by kernel_rfl
  f129 := Tryz.func91.trans (congrArg some (by kernel_rfl))
  t3 := Tryz.underlying3
  a3 := Tryz.isAgg3
  z3 := Tryz.sizeOf3
  v3 := Tryz.zeroValue3
  t4 := Tryz.underlying4
  a4 := Tryz.isAgg4
  z4 := Tryz.sizeOf4
  v4 := Tryz.zeroValue4
  t5 := Tryz.underlying5
  a5 := Tryz.isAgg5
  z5 := Tryz.sizeOf5
  v5 := Tryz.zeroValue5
  t9 := Tryz.underlying9
  a9 := Tryz.isAgg9
  z9 := Tryz.sizeOf9
  v9 := Tryz.zeroValue9
  t46 := Tryz.underlying112
  a46 := Tryz.isAgg112
  z46 := Tryz.sizeOf112
  v46 := Tryz.zeroValue112
  t53 := Tryz.underlying22
  a53 := Tryz.isAgg22
  z53 := Tryz.sizeOf22
  v53 := Tryz.zeroValue22 }
theorem Tryz.bits_Len64 (x : Int) (w : World) (h0 : 0 ≤ x) (h1 : x ≤ 18446744073709551615) :
    Calls Tryz.prog 91 #[.int .u64 x] w fun e w' => e = .returned (.int .i64 (Lib.bitLen x.toNat)) ∧ w' = w := Any.bits_Len64 Tryz.lays129 x w h0 h1
def Tryz.lays264_ren : Go.Shelf.Ren := ⟨fun | 264 => 95 | n => n, fun | 53 => 22 | 46 => 112 | n => n, fun | n => n⟩
theorem Tryz.lays264 : Go.Proofs.Lays.n264 Tryz.prog Tryz.lays264_ren := {
  mixed := by kernel_rfl
  f264 := Tryz.func95.trans (congrArg some (by kernel_rfl))
  t46 := Tryz.underlying112
  a46 := Tryz.isAgg112
  z46 := Tryz.sizeOf112
  v46 := Tryz.zeroValue112
  t53 := Tryz.underlying22
  a53 := Tryz.isAgg22
  z53 := Tryz.sizeOf22
  v53 := Tryz.zeroValue22 }
open Go.RowKit Go.Lib in
theorem Tryz.bits_Mul64 (x y : Nat) (hx : x < 18446744073709551616) (hy : y < 18446744073709551616) (w : World) :
    Calls Tryz.prog 95 #[.int .u64 x, .int .u64 y] w fun e w' => e = .returned (.tuple #[.int .u64 ((x * y / 18446744073709551616 : Nat) : Int), .int .u64 ((x * y % 18446744073709551616 : Nat) : Int)]) ∧ w' = w := Any.bits_Mul64 Tryz.lays264 x y hx hy w
def Tryz.laysSlN37_f37_ren : Go.Shelf.Ren := ⟨fun | 37 => 37 | n => n, fun | 22 => 52 | 23 => 2 | 3 => 3 | 4 => 4 | 9 => 9 | 20 => 20 | 0 => 0 | n => n, fun | n => n⟩
theorem Tryz.laysSlN37_f37 : Go.Proofs.SlLaysN.n37 Tryz.prog Tryz.laysSlN37_f37_ren := {
  mixed := by kernel_rfl
  f37 := ⟨Tryz.f37.name, by decide, Tryz.func37.trans (congrArg some (by kernel_rfl))⟩
  t0 := Tryz.underlying0
  a0 := Tryz.isAgg0
  z0 := Tryz.sizeOf0
  v0 := Tryz.zeroValue0
  t3 := Tryz.underlying3
  a3 := Tryz.isAgg3
  z3 := Tryz.sizeOf3
  v3 := Tryz.zeroValue3
  t4 := Tryz.underlying4
  a4 := Tryz.isAgg4
  z4 := Tryz.sizeOf4
  v4 := Tryz.zeroValue4
  t9 := Tryz.underlying9
  a9 := Tryz.isAgg9
  z9 := Tryz.sizeOf9
  v9 := Tryz.zeroValue9
  t20 := Tryz.underlying20
  a20 := Tryz.isAgg20
  z20 := Tryz.sizeOf20
  v20 := Tryz.zeroValue20
  t22 := Tryz.underlying52
  a22 := Tryz.isAgg52
  z22 := Tryz.sizeOf52
  v22 := Tryz.zeroValue52
  t23 := Tryz.underlying2
  a23 := Tryz.isAgg2
  z23 := Tryz.sizeOf2
  v23 := Tryz.zeroValue2 }
open Go.Lib in
theorem Tryz.slices_Max_int (b off n c : Nat) (zs : List Int) (w : World) (hn : 0 < n) (hz : n ≤ zs.length) (hbig : n ≤ 9223372036854775807) (hc : ∀ j, j < zs.length → w.cell? ⟨b, off + j, none⟩ = some (.int .i64 (zs.getD j 0))) :
    Calls Tryz.prog 37 #[.slice (some ⟨b, off, none⟩) n c] w fun e w' => e = .returned (.int .i64 (Lib.maxOf (zs.take n))) ∧ w' = w := AnyG.slices_Max_int Tryz.laysSlN37_f37 b off n c zs w hn hz hbig hc
def Tryz.laysSlN39_f36_ren : Go.Shelf.Ren := ⟨fun | 39 => 36 | n => n, fun | 22 => 52 | 23 => 2 | 3 => 3 | 4 => 4 | 9 => 9 | 20 => 20 | 0 => 0 | n => n, fun | n => n⟩
theorem Tryz.laysSlN39_f36 : Go.Proofs.SlLaysN.n39 Tryz.prog Tryz.laysSlN39_f36_ren := {
  mixed := by kernel_rfl
  f39 := ⟨Tryz.f36.name, by decide, Tryz.func36.trans (congrArg some (by kernel_rfl))⟩
  t0 := Tryz.underlying0
  a0 := Tryz.isAgg0
  z0 := Tryz.sizeOf0
  v0 := Tryz.zeroValue0
  t3 := Tryz.underlying3
  a3 := Tryz.isAgg3
  z3 := Tryz.sizeOf3
  v3 := Tryz.zeroValue3
  t4 := Tryz.underlying4
  a4 := Tryz.isAgg4
  z4 := Tryz.sizeOf4
  v4 := Tryz.zeroValue4
  t9 := Tryz.underlying9
  a9 := Tryz.isAgg9
  z9 := Tryz.sizeOf9
  v9 := Tryz.zeroValue9
  t20 := Tryz.underlying20
  a20 := Tryz.isAgg20
  z20 := Tryz.sizeOf20
  v20 := Tryz.zeroValue20
  t22 := Tryz.underlying52
  a22 := Tryz.isAgg52
  z22 := Tryz.sizeOf52
  v22 := Tryz.zeroValue52
  t23 := Tryz.underlying2
  a23 := Tryz.isAgg2
  z23 := Tryz.sizeOf2
  v23 := Tryz.zeroValue2 }
open Go.Lib in
theorem Tryz.slices_Min_int (b off n c : Nat) (zs : List Int) (w : World) (hn : 0 < n) (hz : n ≤ zs.length) (hbig : n ≤ 9223372036854775807) (hc : ∀ j, j < zs.length → w.cell? ⟨b, off + j, none⟩ = some (.int .i64 (zs.getD j 0))) :
    Calls Tryz.prog 36 #[.slice (some ⟨b, off, none⟩) n c] w fun e w' => e = .returned (.int .i64 (Lib.minOf (zs.take n))) ∧ w' = w := AnyG.slices_Min_int Tryz.laysSlN39_f36 b off n c zs w hn hz hbig hc
def Tryz.laysSlE041_f35_ren : Go.Shelf.Ren := ⟨fun | 41 => 35 | n => n, fun | 22 => 52 | 23 => 2 | 4 => 4 | n => n, fun | n => n⟩
theorem Tryz.laysSlE041_f35 : Go.Proofs.SlLaysE0.n41 Tryz.prog Tryz.laysSlE041_f35_ren := {
  mixed := by kernel_rfl
  f41 := ⟨Tryz.f35.name, by decide, Tryz.func35.trans (congrArg some (by kernel_rfl))⟩
  t4 := Tryz.underlying4
  a4 := Tryz.isAgg4
  z4 := Tryz.sizeOf4
  v4 := Tryz.zeroValue4
  t22 := Tryz.underlying52
  a22 := Tryz.isAgg52
  z22 := Tryz.sizeOf52
  v22 := Tryz.zeroValue52 }
open Go.RowKit Go.Lib in
theorem Tryz.slices_Clone (i0 : TypeInfo) (z : Value) (size bytes : Nat) (hi : Tryz.prog.info? 2 = some i0) (hz0 : i0.zero = some z) (hz1 : i0.size = size) (hz2 : i0.bytes = bytes) (hzs : z.cells.size = size) (hsz : 0 < size) (z23 : ∀ w, (Go.sizeOf 2).run Tryz.prog w = .ok size w) (b off n c : Nat) (news : List Value) (w : World) (hl : news.length = n * size) (hn : n ≤ maxLen) (hbig : n * bytes ≤ 140737488355328) (hc : ∀ j u, news[j]? = some u → w.cell? ⟨b, off + j, none⟩ = some u) (h1 : ∀ u ∈ news, u.oneCell' = true) :
    Calls Tryz.prog 35 #[.slice (some ⟨b, off, none⟩) n c] w fun e w' => ∃ v', e = .returned v' ∧ w'.ownsRow w.heap.size 2 size v' n news ∧ v' ≠ .slice none 0 0 ∧ Below w.heap.size w w' := AnyE.slices_Clone Tryz.laysSlE041_f35 i0 z size bytes hi hz0 hz1 hz2 hzs hsz z23 b off n c news w hl hn hbig hc h1
open Go.RowKit Go.Lib in
theorem Tryz.slices_Clone_nil (n c : Nat) (w : World) :
    Calls Tryz.prog 35 #[.slice none n c] w fun e w' => e = .returned (.slice none 0 0) ∧ w' = w := AnyE.slices_Clone_nil Tryz.laysSlE041_f35 n c w
def Tryz.laysSlM5_f46_ren : Go.Shelf.Ren := ⟨fun | 5 => 46 | 8 => 65 | 7 => 64 | 19 => 90 | 20 => 91 | 10 => 81 | 11 => 82 | 12 => 83 | 13 => 84 | 14 => 85 | 15 => 86 | 16 => 87 | 17 => 88 | 18 => 89 | 30 => 97 | 31 => 98 | 32 => 99 | 33 => 100 | 34 => 101 | 35 => 102 | 40 => 105 | n => n, fun | 23 => 52 | 25 => 2 | 3 => 3 | 32 => 112 | 22 => 52 | 0 => 0 | 44 => 135 | 46 => 22 | 4 => 4 | 36 => 127 | 35 => 126 | 41 => 132 | 5 => 5 | 9 => 9 | 53 => 141 | 57 => 144 | 63 => 149 | 64 => 150 | n => n, fun | n => n⟩
theorem Tryz.laysSlM5_f46 : Go.Proofs.SlLaysM.n5 Tryz.prog Tryz.laysSlM5_f46_ren := {
  mixed := by kernel_rfl
  f5 := ⟨Tryz.f46.name, by decide, Tryz.func46.trans (congrArg some (by kernel_rfl))⟩
  f7 := ⟨Tryz.f64.name, by decide, Tryz.func64.trans (congrArg some (by kernel_rfl))⟩
  f8 := Tryz.func65.trans (congrArg some (by kernel_rfl))
  f10 := ⟨Tryz.f81.name, by decide, Tryz.func81.trans (congrArg some (by kernel_rfl))⟩
  f11 := ⟨Tryz.f82.name, by decide, Tryz.func82.trans (congrArg some (by kernel_rfl))⟩
  f12 := ⟨Tryz.f83.name, by decide, Tryz.func83.trans (congrArg some (by kernel_rfl))⟩
  f13 := ⟨Tryz.f84.name, by decide, Tryz.func84.trans (congrArg some (by kernel_rfl))⟩
  f14 := ⟨Tryz.f85.name, by decide, Tryz.func85.trans (congrArg some (by kernel_rfl))⟩
  f15 := ⟨Tryz.f86.name, by decide, Tryz.func86.trans (congrArg some (by kernel_rfl))⟩
  f16 := ⟨Tryz.f87.name, by decide, Tryz.func87.trans (congrArg some (by kernel_rfl))⟩
  f17 := ⟨Tryz.f88.name, by decide, Tryz.func88.trans (congrArg some (by kernel_rfl))⟩
  f18 := ⟨Tryz.f89.name, by decide, Tryz.func89.trans (congrArg some (by kernel_rfl))⟩
  f19 := Tryz.func90.trans (congrArg some (by kernel_rfl))
  f20 := Tryz.func91.trans (congrArg some (by kernel_rfl))
  f30 := ⟨Tryz.f97.name, by decide, Tryz.func97.trans (congrArg some (by kernel_rfl))⟩
  f31 := Tryz.func98.trans (congrArg some (by kernel_rfl))
  f32 := Tryz.func99.trans (congrArg some (by kernel_rfl))
  f33 := ⟨Tryz.f100.name, by decide, Tryz.func100.trans (congrArg some (by kernel_rfl))⟩
  f34 := ⟨Tryz.f101.name, by decide, Tryz.func101.trans (congrArg some (by kernel_rfl))⟩
  f35 := ⟨Tryz.f102.name, by decide, Tryz.func102.trans (congrArg some (by kernel_rfl))⟩
  f40 := ⟨Tryz.f105.name, by decide, Tryz.func105.trans (congrArg some (by kernel_rfl))⟩
  t0 := Tryz.underlying0
  a0 := Tryz.isAgg0
  z0 := Tryz.sizeOf0
  v0 := Tryz.zeroValue0
  t3 := Tryz.underlying3
  a3 := Tryz.isAgg3
  z3 := Tryz.sizeOf3
  v3 := Tryz.zeroValue3
  t4 := Tryz.underlying4
  a4 := Tryz.isAgg4
  z4 := Tryz.sizeOf4
  v4 := Tryz.zeroValue4
  t5 := Tryz.underlying5
  a5 := Tryz.isAgg5
  z5 := Tryz.sizeOf5
  v5 := Tryz.zeroValue5
  t9 := Tryz.underlying9
  a9 := Tryz.isAgg9
  z9 := Tryz.sizeOf9
  v9 := Tryz.zeroValue9
  t22 := Tryz.underlying52
  a22 := Tryz.isAgg52
  z22 := Tryz.sizeOf52
  v22 := Tryz.zeroValue52
  t23 := Tryz.underlying52
  a23 := Tryz.isAgg52
  z23 := Tryz.sizeOf52
  v23 := Tryz.zeroValue52
  t25 := Tryz.underlying2
  a25 := Tryz.isAgg2
  z25 := Tryz.sizeOf2
  v25 := Tryz.zeroValue2
  t32 := Tryz.underlying112
  a32 := Tryz.isAgg112
  z32 := Tryz.sizeOf112
  v32 := Tryz.zeroValue112
  t35 := Tryz.underlying126
  a35 := Tryz.isAgg126
  z35 := Tryz.sizeOf126
  v35 := Tryz.zeroValue126
  t36 := Tryz.underlying127
  a36 := Tryz.isAgg127
  z36 := Tryz.sizeOf127
  v36 := Tryz.zeroValue127
  t41 := Tryz.underlying132
  a41 := Tryz.isAgg132
  z41 := Tryz.sizeOf132
  v41 := Tryz.zeroValue132
  t44 := Tryz.underlying135
  a44 := Tryz.isAgg135
  z44 := Tryz.sizeOf135
  v44 := Tryz.zeroValue135
  t46 := Tryz.underlying22
  a46 := Tryz.isAgg22
  z46 := Tryz.sizeOf22
  v46 := Tryz.zeroValue22
  t53 := Tryz.underlying141
  a53 := Tryz.isAgg141
  z53 := Tryz.sizeOf141
  v53 := Tryz.zeroValue141
  t57 := Tryz.underlying144
  a57 := Tryz.isAgg144
  z57 := Tryz.sizeOf144
  v57 := Tryz.zeroValue144
  t63 := Tryz.underlying149
  a63 := Tryz.isAgg149
  z63 := Tryz.sizeOf149
  v63 := Tryz.zeroValue149
  t64 := Tryz.underlying150
  a64 := Tryz.isAgg150
  z64 := Tryz.sizeOf150
  v64 := Tryz.zeroValue150 }
open Go.Sort Go.RowKit in
theorem Tryz.slices_Sort_int (blk off cap : Nat) (zs : List Int) (w : World) (hH : Holds (Value.int .i64) w blk off zs.toArray) (hblk : blk < w.heap.size) (hsz : zs.length < 4611686018427387904) :
    Calls Tryz.prog 46 #[.slice (some ⟨blk, off, none⟩) zs.length cap] w fun e w' =>
      e = .returned (.tuple #[]) ∧ ∃ n os, w' = grow (putRow (Value.int .i64) (Sort.ahead w n) blk off (zs.mergeSort fun x y => decide (x ≤ y)).toArray) os := AnyM.slices_Sort_int Tryz.laysSlM5_f46 blk off cap zs w hH hblk hsz
open Go.RowKit Go.Sort in
theorem Tryz.slices_Sort_int_none (p : Option Addr) (cap : Nat) (w : World) :
    Calls Tryz.prog 46 #[.slice p 0 cap] w fun e w' => e = .returned (.tuple #[]) ∧ w' = w := AnyM.slices_Sort_int_none Tryz.laysSlM5_f46 p cap w
end Go.Proofs

/-
  math/bits.Add64 and Sub64 at this translation: equations on a call, over whole numbers; Mul64 and Len64 likewise as contracts over whole numbers.
-/
namespace Go.Proofs.YtfmlkohijkalbaaGreat
set_option linter.unusedVariables false
open Go.RowKit Go.Shelf

theorem add64 (x y c : Int) (hx : 0 ≤ x) (hy : 0 ≤ y) (hc0 : 0 ≤ c) (hc : c ≤ 1) (w : World) : (callFunc 78 #[.int .u64 x, .int .u64 y, .int .u64 c]).run Tryz.prog w =
    .ok (.value (.tuple #[.int .u64 ((x + y + c) % 18446744073709551616), .int .u64 ((x + y + c) / 18446744073709551616)])) w := by
  rw [run_callFunc_extern Tryz.func78 (by kernel_rfl) (by kernel_rfl) (by kernel_rfl) (e := add64Entry) (by kernel_rfl), run_add64 x y c hx hy hc0 hc]
  rfl
theorem add64_0 (x y : Int) (hx : 0 ≤ x) (hy : 0 ≤ y) (w : World) : (callFunc 78 #[.int .u64 x, .int .u64 y, .int .u64 0]).run Tryz.prog w =
    .ok (.value (.tuple #[.int .u64 ((x + y) % 18446744073709551616), .int .u64 ((x + y) / 18446744073709551616)])) w := by
  simpa using add64 x y 0 hx hy (Int.le_refl 0) (by decide) w
theorem mul64_any (x y : Int) (wx : Word x) (wy : Word y) (w : World) :
    Calls Tryz.prog 95 #[.int .u64 x, .int .u64 y] w fun e w' => e = .returned (.tuple #[.int .u64 (hiW (x * y)), .int .u64 (loW (x * y))]) ∧ w' = w := by
  obtain ⟨hx, hx'⟩ := wx; obtain ⟨hy, hy'⟩ := wy
  obtain ⟨x, rfl⟩ := Int.eq_ofNat_of_zero_le hx
  obtain ⟨y, rfl⟩ := Int.eq_ofNat_of_zero_le hy
  have hb : x * y < 18446744073709551616 * 18446744073709551616 := Nat.mul_lt_mul'' (by omega) (by omega)
  refine (Tryz.bits_Mul64 x y (by omega) (by omega) w).mono fun e w' h => ?_
  rw [h.1]
  refine ⟨?_, h.2⟩
  have e1 : hiW ((x : Int) * y) = ((x * y / 18446744073709551616 : Nat) : Int) := by
    unfold hiW; rw [← Int.natCast_mul]; generalize x * y = n at *; omega
  have e2 : loW ((x : Int) * y) = ((x * y % 18446744073709551616 : Nat) : Int) := by
    unfold loW; rw [← Int.natCast_mul]; generalize x * y = n at *; omega
  rw [e1, e2]
end Go.Proofs.YtfmlkohijkalbaaGreat

/-
  Walks: wide.Times, Compare, Sub; the reference's Less and Add.
-/
namespace Go.Proofs.YtfmlkohijkalbaaGreat
set_option linter.unusedVariables false
open Go.RowKit Go.Shelf

set_option maxHeartbeats 400000 in
theorem times_any (a b : Int) (wa : Word a) (wb : Word b) (w : World) :
    Calls Tryz.prog 77 #[.int .u64 a, .int .u64 b] w fun e w' =>
      e = .returned (.agg #[.int .u64 (hiW (a * b)), .int .u64 (loW (a * b))]) ∧ Below w.heap.size w w' := by
  go_enter Tryz.func77, Tryz.ntmps77
  go_wp2_with (go_at_call 95; refine (mul64_any _ _ wa wb _).mono ?_; rintro e w' ⟨rfl, rfl⟩)
  refine bodyPost_ret (v := .agg #[.int .u64 (hiW (a * b)), .int .u64 (loW (a * b))]) (by simp [results, Tryz.results77, go_sem]) rfl ⟨rfl, ?_⟩
  exact (Below.refl _ _).alloc (Nat.le_refl _) _

set_option maxHeartbeats 400000 in
theorem less_any (ah al bh bl : Int) (w1 : Word ah) (w2 : Word al) (w3 : Word bh) (w4 : Word bl) (w : World) :
    Calls Tryz.prog 42 #[.agg #[.int .u64 ah, .int .u64 al], .agg #[.int .u64 bh, .int .u64 bl]] w fun e w' =>
      e = .returned (.bool (belowB (wval ah al - wval bh bl))) ∧ Below w.heap.size w w' := by
  by_cases h : ah = bh
  · subst h
    have e1 := less_lo ah al bl
    have hb : (!(ah == ah)) = false := by simp
    go_enter Tryz.func42, Tryz.ntmps42
    go_wp2
    refine bodyPost_ret (v := .bool (decide (al < bl))) (by simp [results, Tryz.results42, go_sem]) rfl ⟨by rw [e1], ?_⟩
    exact ((Below.refl _ _).alloc (Nat.le_refl _) _).alloc (by simp) _
  · have e1 := less_hi ah al bh bl w2 w4 h
    have hb' : (ah != bh) = true := by simp [h]
    clear h
    go_enter Tryz.func42, Tryz.ntmps42
    go_wp2
    refine bodyPost_ret (v := .bool (decide (ah < bh))) (by simp [results, Tryz.results42, go_sem]) rfl ⟨by rw [e1], ?_⟩
    exact ((Below.refl _ _).alloc (Nat.le_refl _) _).alloc (by simp) _

set_option maxHeartbeats 400000 in
theorem rwadd_any (ah al bh bl : Int) (w1 : Word ah) (w2 : Word al) (w3 : Word bh) (w4 : Word bl) (w : World) :
    Calls Tryz.prog 59 #[.agg #[.int .u64 ah, .int .u64 al], .agg #[.int .u64 bh, .int .u64 bl]] w fun e w' =>
      e = .returned (.tuple #[.agg #[.int .u64 (hiW (wval ah al + wval bh bl)), .int .u64 (loW (wval ah al + wval bh bl))], .bool (carryB (wval ah al + wval bh bl))]) ∧ Below w.heap.size w w' := by
  have EL := Lib.hid (radd_lo ah al bh bl)
  by_cases h : IntKind.u64.wrap (al + bl) < al
  · have EH := Lib.hid (radd_hiB (ah := ah) (bh := bh) w2 w4 h)
    by_cases h2 : IntKind.u64.wrap (ah + bh) < ah
    · have EC := Lib.hid (radd_cB1 w1 w2 w3 w4 h h2)
      clear w1 w2 w3 w4
      go_enter Tryz.func59, Tryz.ntmps59
      go_wp2
      refine bodyPost_ret (v := .tuple #[.agg #[.int .u64 (IntKind.u64.wrap (IntKind.u64.wrap (ah + bh) + 1)), .int .u64 (IntKind.u64.wrap (al + bl))], .bool true]) (by simp [results, Tryz.results59, go_sem]) rfl ⟨by rw [EL.out, EH.out, EC.out], ?_⟩
      exact (((Below.refl _ _).alloc (Nat.le_refl _) _).alloc (by simp) _).alloc (by simp; omega) _
    · have EC := Lib.hid (radd_cB2 w1 w2 w3 w4 h h2)
      clear w1 w2 w3 w4
      go_enter Tryz.func59, Tryz.ntmps59
      go_wp2
      refine bodyPost_ret (v := .tuple #[.agg #[.int .u64 (IntKind.u64.wrap (IntKind.u64.wrap (ah + bh) + 1)), .int .u64 (IntKind.u64.wrap (al + bl))], .bool (IntKind.u64.wrap (IntKind.u64.wrap (ah + bh) + 1) == 0)]) (by simp [results, Tryz.results59, go_sem]) rfl ⟨by rw [EC.out, EL.out, EH.out], ?_⟩
      exact (((Below.refl _ _).alloc (Nat.le_refl _) _).alloc (by simp) _).alloc (by simp; omega) _
  · have EH := Lib.hid (radd_hiA (ah := ah) (bh := bh) w2 w4 h)
    have EC := Lib.hid (radd_cA w1 w2 w3 w4 h)
    clear w1 w2 w3 w4
    go_enter Tryz.func59, Tryz.ntmps59
    go_wp2
    refine bodyPost_ret (v := .tuple #[.agg #[.int .u64 (IntKind.u64.wrap (ah + bh)), .int .u64 (IntKind.u64.wrap (al + bl))], .bool (decide (IntKind.u64.wrap (ah + bh) < ah))]) (by simp [results, Tryz.results59, go_sem]) rfl ⟨by rw [EC.out, EL.out, EH.out], ?_⟩
    exact (((Below.refl _ _).alloc (Nat.le_refl _) _).alloc (by simp) _).alloc (by simp; omega) _
end Go.Proofs.YtfmlkohijkalbaaGreat

/-
  Plain mathematics of a long division by two digits of 32 bits (Knuth's, of a divisor that fills 64 bits).
-/
namespace Go.Proofs.YtfmlkohijkalbaaGreat
set_option linter.unusedVariables false
open Go.RowKit

/-- The divisor's parts. -/
theorem digit_le_iff {u v1 v0 d q r : Int} (hr : r = u - q * v1) (hv : 0 < v1 * 4294967296 + v0) :
    q ≤ (u * 4294967296 + d) / (v1 * 4294967296 + v0) ↔ q * v0 ≤ 4294967296 * r + d := by
  rw [Int.le_ediv_iff_mul_le hv, Int.mul_add, ← Int.mul_assoc]
  subst hr
  generalize q * v1 = a
  generalize q * v0 = b
  omega
theorem digit_lt {u v d : Int} (hu : u < v) (h0 : 0 ≤ u) (hd : d < 4294967296) : (u * 4294967296 + d) / v < 4294967296 := by
  refine Int.ediv_lt_of_lt_mul (by omega) ?_
  omega
theorem digit_nonneg {u v d : Int} (hu : 0 ≤ u) (hv : 0 < v) (hd : 0 ≤ d) : 0 ≤ (u * 4294967296 + d) / v := Int.ediv_nonneg (by omega) (by omega)

/-- The first guess. -/
theorem digit_start {u v1 v0 d : Int} (hu : 0 ≤ u) (hv1 : 0 < v1) (hv0 : 0 ≤ v0) (hd : d < 4294967296) (hd0 : 0 ≤ d) :
    (u * 4294967296 + d) / (v1 * 4294967296 + v0) ≤ u / v1 := by
  rw [Int.le_ediv_iff_mul_le hv1]
  have hv : 0 < v1 * 4294967296 + v0 := by omega
  have h1 := Int.ediv_mul_le (u * 4294967296 + d) (b := v1 * 4294967296 + v0) (by omega)
  have hq := digit_nonneg (u := u) (v := v1 * 4294967296 + v0) (d := d) hu hv hd0
  generalize (u * 4294967296 + d) / (v1 * 4294967296 + v0) = q at *
  rw [Int.mul_add, ← Int.mul_assoc] at h1
  have h2 := Int.mul_nonneg hq hv0
  generalize q * v1 = a at *
  generalize q * v0 = b at *
  omega
theorem digit_most {u v1 v0 : Int} (hu : u < v1 * 4294967296 + v0) (hv1 : 2147483648 ≤ v1) (hv0 : v0 < 4294967296) : u / v1 ≤ 4294967297 := by
  have h := Int.ediv_lt_of_lt_mul (a := u) (b := 4294967298) (c := v1) (by omega) (by omega)
  omega
/-- The guess is too great: one less will do. -/
theorem digit_down {u v1 v0 d q r : Int} (hr : r = u - q * v1) (hv : 0 < v1 * 4294967296 + v0) (hlt : (u * 4294967296 + d) / (v1 * 4294967296 + v0) < 4294967296)
    (h : 4294967296 ≤ q ∨ 4294967296 * r + d < q * v0) : (u * 4294967296 + d) / (v1 * 4294967296 + v0) ≤ q - 1 := by
  rcases h with h | h
  · omega
  · have := (not_congr (digit_le_iff (d := d) hr hv)).2 (by omega)
    omega
/-- The guess is right: what is left is great enough. -/
theorem digit_done {u v1 v0 d q r : Int} (hr : r = u - q * v1) (hv : 0 < v1 * 4294967296 + v0) (hq : (u * 4294967296 + d) / (v1 * 4294967296 + v0) ≤ q)
    (h : q * v0 ≤ 4294967296 * r + d) : q = (u * 4294967296 + d) / (v1 * 4294967296 + v0) := by
  have := (digit_le_iff (d := d) hr hv).2 h
  omega
theorem digit_break {u v1 v0 d q r : Int} (hr : r = u - q * v1) (hv : 0 < v1 * 4294967296 + v0) (hv0 : 0 ≤ v0) (hv0' : v0 < 4294967296) (hd : 0 ≤ d) (hq : (u * 4294967296 + d) / (v1 * 4294967296 + v0) ≤ q)
    (h0 : 0 ≤ q) (h1 : q ≤ 4294967296) (h2 : 4294967296 ≤ r) : q = (u * 4294967296 + d) / (v1 * 4294967296 + v0) := by
  refine digit_done hr hv hq ?_
  have := Int.mul_le_mul h1 (show v0 ≤ 4294967295 by omega) hv0 (by omega)
  omega
theorem step_left {u v1 q r : Int} (hr : r = u - q * v1) : r + v1 = u - (q - 1) * v1 := by
  rw [Int.sub_mul]; omega

/-- What is left behind a digit, by numbers that go round. -/
theorem left_over {u d v : Int} (hv : 0 < v) (hv' : v < 18446744073709551616) :
    (u * 4294967296 + d - (u * 4294967296 + d) / v * v) % 18446744073709551616 = (u * 4294967296 + d) % v := by
  have h1 := Int.ediv_mul_add_emod (u * 4294967296 + d) v
  have h2 := Int.emod_nonneg (u * 4294967296 + d) (show v ≠ 0 by omega)
  have h3 := Int.emod_lt_of_pos (u * 4294967296 + d) hv
  generalize (u * 4294967296 + d) / v * v = a at *
  omega

/-- Two digits are the whole quotient. -/
theorem two_digits {u d1 d0 v : Int} (hv : 0 < v) :
    (u * 4294967296 + d1) / v * 4294967296 + ((u * 4294967296 + d1) % v * 4294967296 + d0) / v = (u * 18446744073709551616 + d1 * 4294967296 + d0) / v ∧
    ((u * 4294967296 + d1) % v * 4294967296 + d0) % v = (u * 18446744073709551616 + d1 * 4294967296 + d0) % v := by
  have h1 := Int.ediv_mul_add_emod (u * 4294967296 + d1) v
  generalize (u * 4294967296 + d1) / v = q1 at *
  generalize (u * 4294967296 + d1) % v = r1 at *
  have h4 := Int.ediv_mul_add_emod (r1 * 4294967296 + d0) v
  have h5 := Int.emod_nonneg (r1 * 4294967296 + d0) (show v ≠ 0 by omega)
  have h6 := Int.emod_lt_of_pos (r1 * 4294967296 + d0) hv
  generalize (r1 * 4294967296 + d0) / v = q0 at *
  generalize (r1 * 4294967296 + d0) % v = r0 at *
  have h := (Int.ediv_emod_unique (a := u * 18446744073709551616 + d1 * 4294967296 + d0) (r := r0) (q := q1 * 4294967296 + q0) hv).2 ⟨by
    rw [Int.mul_add, ← Int.mul_assoc, Int.mul_comm v q1, Int.mul_comm v q0]
    generalize q1 * v = a at *
    generalize q0 * v = b at *
    omega, h5, h6⟩
  exact ⟨h.1.symm, h.2.symm⟩

/-- The divisor is moved up till it fills 64 bits. -/
theorem div_norm {y : Int} (h0 : 0 < y) (h1 : y < 18446744073709551616) :
    ∃ s : Nat, s < 64 ∧ 64 - (Lib.bitLen y.toNat : Int) = s ∧ 9223372036854775808 ≤ y * 2 ^ s ∧ y * 2 ^ s < 18446744073709551616 := by
  obtain ⟨Y, rfl⟩ := Int.eq_ofNat_of_zero_le (show 0 ≤ y by omega)
  obtain ⟨a, b, c⟩ := Lib.bitLenAux_bounds 64 Y (by omega) (by omega)
  have hL : Lib.bitLenAux 64 Y ≤ 64 := Lib.bitLen_le Y 64 (Nat.le_refl _) (by omega)
  simp only [Int.toNat_natCast]
  unfold Lib.bitLen
  generalize Lib.bitLenAux 64 Y = L at a b c hL ⊢
  refine ⟨64 - L, by omega, by omega, ?_, ?_⟩
  · have h := Nat.mul_le_mul_right (2 ^ (64 - L)) b
    rw [← Nat.pow_add, show L - 1 + (64 - L) = 63 by omega] at h
    have e : ((Y : Int) * 2 ^ (64 - L)) = ((Y * 2 ^ (64 - L) : Nat) : Int) := by simp
    rw [e]; omega
  · have h := Nat.mul_lt_mul_of_pos_right c (Nat.pow_pos (n := 64 - L) (show 0 < 2 by omega))
    rw [← Nat.pow_add, show L + (64 - L) = 64 by omega] at h
    have e : ((Y : Int) * 2 ^ (64 - L)) = ((Y * 2 ^ (64 - L) : Nat) : Int) := by simp
    rw [e]; omega

theorem pow_parts {s : Nat} (h : s < 64) : ((2 : Int) ^ s) * 2 ^ (64 - s) = 18446744073709551616 ∧ 1 ≤ (2 : Int) ^ s ∧ 1 ≤ (2 : Int) ^ (64 - s) := by
  refine ⟨?_, ?_, ?_⟩
  · rw [← Int.pow_add, show s + (64 - s) = 64 by omega]; rfl
  · have : 0 < (2 : Int) ^ s := Int.pow_pos (by omega); omega
  · have : 0 < (2 : Int) ^ (64 - s) := Int.pow_pos (by omega); omega
/-- The lower half of a word. -/
theorem mask32 {a : Int} (h0 : 0 ≤ a) (h1 : a < 18446744073709551616) : bits .and .u64 a 4294967295 = a % 4294967296 := by
  obtain ⟨n, rfl⟩ := Int.eq_ofNat_of_zero_le h0
  have h := bits_and_u64_nat n 4294967295 (by omega) (by omega)
  have e : n &&& 4294967295 = n % 4294967296 := Nat.and_two_pow_sub_one_eq_mod n 32
  rw [e] at h
  exact h
/-- Two parts that don't meet. -/
theorem or_parts {a b : Int} {s : Nat} (ha : 0 ≤ a) (hb : 0 ≤ b) (hb' : b < 2 ^ s) (h1 : a * 2 ^ s + b < 18446744073709551616) :
    bits .or .u64 (a * 2 ^ s) b = a * 2 ^ s + b := by
  obtain ⟨a, rfl⟩ := Int.eq_ofNat_of_zero_le ha
  obtain ⟨b, rfl⟩ := Int.eq_ofNat_of_zero_le hb
  have e1 : (a : Int) * 2 ^ s = ((a * 2 ^ s : Nat) : Int) := by simp
  have e2 : b < 2 ^ s := by
    have e : ((2 : Int) ^ s) = ((2 ^ s : Nat) : Int) := by simp
    rw [e] at hb'; omega
  rw [e1] at h1 ⊢
  rw [bits_or_u64_nat _ _ (by omega) (by omega), Nat.mul_comm a, ← Nat.two_pow_add_eq_or_of_lt e2 a]
  simp
/-- A number moved up by so many bits, in words. -/
theorem norm_parts {hi lo y : Int} {s : Nat} (hs : s < 64) (h0 : 0 ≤ hi) (hy : hi < y) (l0 : 0 ≤ lo) (l1 : lo < 18446744073709551616) (hv : y * 2 ^ s < 18446744073709551616) :
    IntKind.u64.wrap (y * 2 ^ s) = y * 2 ^ s ∧ IntKind.u64.wrap (hi * 2 ^ s) = hi * 2 ^ s ∧ bits .or .u64 (hi * 2 ^ s) (lo / 2 ^ (64 - s)) = hi * 2 ^ s + lo / 2 ^ (64 - s) ∧
    0 ≤ hi * 2 ^ s + lo / 2 ^ (64 - s) ∧ hi * 2 ^ s + lo / 2 ^ (64 - s) < y * 2 ^ s ∧
    (hi * 2 ^ s + lo / 2 ^ (64 - s)) * 18446744073709551616 + IntKind.u64.wrap (lo * 2 ^ s) = wval hi lo * 2 ^ s := by
  obtain ⟨p1, p2, p3⟩ := pow_parts hs
  have q1 : lo / 2 ^ (64 - s) < 2 ^ s := Int.ediv_lt_of_lt_mul (by omega) (by rw [p1]; exact l1)
  have q0 : 0 ≤ lo / 2 ^ (64 - s) := Int.ediv_nonneg l0 (by omega)
  have g0 : 0 ≤ hi * 2 ^ s := Int.mul_nonneg h0 (by omega)
  have g1 : hi * 2 ^ s + 2 ^ s ≤ y * 2 ^ s := by
    have := Int.mul_le_mul_of_nonneg_right (show hi + 1 ≤ y by omega) (show (0 : Int) ≤ 2 ^ s by omega)
    rw [Int.add_mul] at this; omega
  have e6 : (hi * 2 ^ s + lo / 2 ^ (64 - s)) * 18446744073709551616 + IntKind.u64.wrap (lo * 2 ^ s) = wval hi lo * 2 ^ s := by
    have d1 : lo * 2 ^ s / 18446744073709551616 = lo / 2 ^ (64 - s) := by
      rw [← p1, Int.mul_comm ((2 : Int) ^ s), Int.mul_ediv_mul_of_pos_left _ _ (by omega)]
    rw [IntKind.wrap_u64, ← d1]
    unfold wval
    rw [Int.add_mul (hi * 18446744073709551616), Int.mul_assoc hi, Int.mul_comm 18446744073709551616, ← Int.mul_assoc hi]
    generalize hi * 2 ^ s = a
    generalize lo * 2 ^ s = b
    omega
  refine ⟨?_, ?_, or_parts h0 q0 q1 (by omega), by omega, by omega, e6⟩
  · rw [IntKind.wrap_u64]; omega
  · rw [IntKind.wrap_u64]; omega
/-- The quotient, and what is left, of numbers that were both moved up. -/
theorem moved_back {n y : Int} {s : Nat} (hs : s < 64) : n * 2 ^ s / (y * 2 ^ s) = n / y ∧ n * 2 ^ s % (y * 2 ^ s) / 2 ^ s = n % y := by
  obtain ⟨p1, p2, p3⟩ := pow_parts hs
  refine ⟨Int.mul_ediv_mul_of_pos_left _ _ (by omega), ?_⟩
  have e : n * 2 ^ s % (y * 2 ^ s) = n % y * 2 ^ s := by
    rw [Int.mul_comm n, Int.mul_comm y, Int.mul_emod_mul_of_pos _ _ (by omega), Int.mul_comm]
  rw [e, Int.mul_ediv_cancel _ (by omega)]
/-- The first loop's and the second loop's relation: the guess, and what is left by it. -/
structure DigRel (u v v1 v0 d a b : Int) : Prop where
  low : (u * 4294967296 + d) / v ≤ a
  high : a ≤ 4294967297
  left : b = u - a * v1
  b0 : 0 ≤ b
  b1 : b < 4294967296
/-- What the loop is over: a divisor of two halves, an upper part that is less, one more half. -/
structure DigOver (u v v1 v0 d : Int) : Prop where
  u0 : 0 ≤ u
  uv : u < v
  parts : v = v1 * 4294967296 + v0
  v1lo : 2147483648 ≤ v1
  v1hi : v1 < 4294967296
  v0lo : 0 ≤ v0
  v0hi : v0 < 4294967296
  d0 : 0 ≤ d
  d1 : d < 4294967296
theorem DigOver.start {u v v1 v0 d : Int} (o : DigOver u v v1 v0 d) : DigRel u v v1 v0 d (u / v1) (u - u / v1 * v1) := by
  obtain ⟨u0, uv, rfl, v1lo, v1hi, v0lo, v0hi, d0, d1⟩ := o
  have h1 := Int.ediv_mul_le u (b := v1) (by omega)
  have h2 := Int.ediv_mul_add_emod u v1
  have h3 := Int.emod_lt_of_pos u (show 0 < v1 by omega)
  exact ⟨digit_start u0 (by omega) v0lo d1 d0, digit_most uv v1lo v0hi, rfl, by omega, by omega⟩
theorem DigOver.pos {u v v1 v0 d : Int} (o : DigOver u v v1 v0 d) : 0 ≤ (u * 4294967296 + d) / v ∧ (u * 4294967296 + d) / v < 4294967296 := by
  have hp := o.parts; have h1 := o.v1lo; have h2 := o.v0lo
  exact ⟨digit_nonneg o.u0 (by omega) o.d0, digit_lt o.uv o.u0 o.d1⟩
theorem DigOver.prod {u v v1 v0 d a b : Int} (o : DigOver u v v1 v0 d) (r : DigRel u v v1 v0 d a b) : 0 ≤ a * v0 ∧ a * v0 ≤ 18446744073709551615 := by
  have h0 := o.pos.1; have h1 := r.low; have h2 := o.v0lo; have h3 := o.v0hi
  refine ⟨Int.mul_nonneg (by omega) h2, ?_⟩
  have := Int.mul_le_mul r.high (show v0 ≤ 4294967295 by omega) h2 (by omega)
  omega
theorem DigOver.next {u v v1 v0 d a b : Int} (o : DigOver u v v1 v0 d) (r : DigRel u v v1 v0 d a b) (h : 4294967296 ≤ a ∨ 4294967296 * b + d < a * v0) (g : ¬ 4294967296 ≤ b + v1) : DigRel u v v1 v0 d (a - 1) (b + v1) := by
  obtain ⟨u0, uv, rfl, v1lo, v1hi, v0lo, v0hi, d0, d1⟩ := o
  obtain ⟨low, high, left, b0, b1⟩ := r
  exact ⟨digit_down left (by omega) (digit_lt uv u0 d1) h, by omega, step_left left, by omega, by omega⟩
theorem DigOver.brk {u v v1 v0 d a b : Int} (o : DigOver u v v1 v0 d) (r : DigRel u v v1 v0 d a b) (h : 4294967296 ≤ a ∨ 4294967296 * b + d < a * v0) (g : 4294967296 ≤ b + v1) : a - 1 = (u * 4294967296 + d) / v := by
  have hp := o.pos.1
  obtain ⟨u0, uv, rfl, v1lo, v1hi, v0lo, v0hi, d0, d1⟩ := o
  obtain ⟨low, high, left, b0, b1⟩ := r
  have := digit_down left (by omega) (digit_lt uv u0 d1) h
  exact digit_break (step_left left) (by omega) v0lo v0hi d0 this (by omega) (by omega) g
theorem DigOver.done {u v v1 v0 d a b : Int} (o : DigOver u v v1 v0 d) (r : DigRel u v v1 v0 d a b) (h : ¬ 4294967296 * b + d < a * v0) : a = (u * 4294967296 + d) / v := by
  obtain ⟨u0, uv, rfl, v1lo, v1hi, v0lo, v0hi, d0, d1⟩ := o
  obtain ⟨low, high, left, b0, b1⟩ := r
  exact digit_done left (by omega) low (by omega)
theorem DigOver.one {u v v1 v0 d a b : Int} (o : DigOver u v v1 v0 d) (r : DigRel u v v1 v0 d a b) (h : 4294967296 ≤ a ∨ 4294967296 * b + d < a * v0) : 1 ≤ a := by
  have hp := o.pos.1
  obtain ⟨u0, uv, rfl, v1lo, v1hi, v0lo, v0hi, d0, d1⟩ := o
  have := digit_down r.left (by omega) (digit_lt uv u0 d1) h
  omega
theorem DigOver.guess {u v v1 v0 d : Int} (o : DigOver u v v1 v0 d) : 0 ≤ u / v1 ∧ u / v1 ≤ 4294967297 ∧ u / v1 * v1 ≤ u ∧ 0 ≤ u / v1 * v1 ∧ u - u / v1 * v1 < v1 := by
  obtain ⟨u0, uv, rfl, v1lo, v1hi, v0lo, v0hi, d0, d1⟩ := o
  have k0 : 0 ≤ u / v1 := Int.ediv_nonneg u0 (by omega)
  have h2 := Int.ediv_mul_add_emod u v1
  have h3 := Int.emod_lt_of_pos u (show 0 < v1 by omega)
  exact ⟨k0, digit_most uv v1lo v0hi, Int.ediv_mul_le u (by omega), Int.mul_nonneg k0 (by omega), by omega⟩
/-- What is left behind a digit, as the program reckons it. -/
theorem DigOver.wraps {u v v1 v0 d : Int} (o : DigOver u v v1 v0 d) (hv : v < 18446744073709551616) :
    IntKind.u64.wrap (IntKind.u64.wrap (IntKind.u64.wrap (u * 4294967296) + d) - IntKind.u64.wrap ((u * 4294967296 + d) / v * v)) = (u * 4294967296 + d) % v := by
  have hp := o.parts; have h1 := o.v1lo; have h2 := o.v0lo
  have h := left_over (u := u) (d := d) (v := v) (by omega) hv
  rw [← h]
  simp only [IntKind.wrap_u64]
  generalize (u * 4294967296 + d) / v * v = a
  omega
theorem DigOver.left {u v v1 v0 d : Int} (o : DigOver u v v1 v0 d) : 0 ≤ (u * 4294967296 + d) % v ∧ (u * 4294967296 + d) % v < v := by
  have hp := o.parts; have h1 := o.v1lo; have h2 := o.v0lo
  exact ⟨Int.emod_nonneg _ (by omega), Int.emod_lt_of_pos _ (by omega)⟩

end Go.Proofs.YtfmlkohijkalbaaGreat

/-
  Walks: bits.Div64.
-/
namespace Go.Proofs.YtfmlkohijkalbaaGreat
set_option linter.unusedVariables false
open Go.RowKit Go.Shelf

theorem lz_any (y : Int) (s : Nat) (h0 : 0 ≤ y) (h1 : y ≤ 18446744073709551615) (hs : 64 - (Lib.bitLen y.toNat : Int) = s) (w : World) :
    Calls Tryz.prog 104 #[.int .u64 y] w fun e w' => e = .returned (.int .i64 s) ∧ w = w' := by
  rw [← hs]; exact (Tryz.bits_LeadingZeros64 y w h0 h1).mono fun e w' h => ⟨h.1, h.2.symm⟩

set_option maxHeartbeats 400000 in
theorem div64_zero (lo y : Int) (wl : Word lo) (wy : Word y) (hy : 0 < y) (w : World) :
    Calls Tryz.prog 94 #[.int .u64 0, .int .u64 lo, .int .u64 y] w fun e w' =>
      e = .returned (.tuple #[.int .u64 (lo / y), .int .u64 (lo % y)]) ∧ Below w.heap.size w w' := by
  obtain ⟨l1, l2⟩ := wl
  obtain ⟨y1, y2⟩ := wy
  have hy0 : (y == 0) = false := by simp; omega
  have hy0' : ¬ y = 0 := by omega
  go_enter Tryz.func94, Tryz.ntmps94
  go_wp2_with fail
  go_quiet (fail)
  go_wp2
  refine bodyPost_ret (v := .tuple #[.int .u64 (lo / y), .int .u64 (lo % y)]) (by simp [results, Tryz.results94, go_sem]) rfl ⟨rfl, ?_⟩
  exact below_drewN (Below.refl _ _) _

set_option maxHeartbeats 400000 in
theorem div64_more (hi lo y : Int) (wh : Word hi) (wl : Word lo) (wy : Word y) (hh : 0 < hi) (hy : hi < y) (w : World) :
    Calls Tryz.prog 94 #[.int .u64 hi, .int .u64 lo, .int .u64 y] w fun e w' =>
      e = .returned (.tuple #[.int .u64 (wval hi lo / y), .int .u64 (wval hi lo % y)]) ∧ Below w.heap.size w w' := by
  obtain ⟨l1, l2⟩ := wl
  obtain ⟨y1, y2⟩ := wy
  obtain ⟨h1, h2⟩ := wh
  have hy0 : (y == 0) = false := by simp; omega
  have hh0 : (hi == 0) = false := by simp; omega
  obtain ⟨s, hs, hz, n1, n2⟩ := div_norm (show 0 < y by omega) y2
  obtain ⟨R1, R4, R5, u0, uv, HN⟩ := norm_parts (lo := lo) hs h1 hy l1 l2 n2
  have RES := Lib.hid (moved_back (n := wval hi lo) (y := y) hs)
  rw [← HN] at RES
  have HZ := Lib.hid hz
  clear hz HN
  have ll0 : 0 ≤ IntKind.u64.wrap (lo * 2 ^ s) ∧ IntKind.u64.wrap (lo * 2 ^ s) < 18446744073709551616 := by rw [IntKind.wrap_u64]; omega
  generalize hl : IntKind.u64.wrap (lo * 2 ^ s) = l at *
  generalize hu : hi * 2 ^ s + lo / 2 ^ (64 - s) = u at *
  generalize hv : y * 2 ^ s = v at *
  generalize hh' : hi * 2 ^ s = h' at *
  have hu' : bits .or .u64 h' (lo / 2 ^ (64 - s)) = u := by rw [R5]
  go_enter Tryz.func94, Tryz.ntmps94
  go_wp2_with fail
  refine (lz_any y s y1 (by omega) HZ.out _).mono ?_
  rintro e w' ⟨rfl, rfl⟩
  clear hu R5 HZ hh
  obtain ⟨ll1, ll2⟩ := ll0
  have M1 := mask32 (a := v) (by omega) n2
  have M2 := mask32 ll1 ll2
  have S1 := Lib.hid (Int.ediv_mul_add_emod v 4294967296)
  have S2 := Lib.hid (Int.ediv_mul_add_emod l 4294967296)
  have b1 : v / 4294967296 < 4294967296 := by omega
  have b2 : 2147483648 ≤ v / 4294967296 := by omega
  have b3 : 0 ≤ v % 4294967296 := by omega
  have b4 : v % 4294967296 < 4294967296 := by omega
  have c1 : l / 4294967296 < 4294967296 := by omega
  have c2 : 0 ≤ l / 4294967296 := by omega
  have c3 : 0 ≤ l % 4294967296 := by omega
  have c4 : l % 4294967296 < 4294967296 := by omega
  generalize v % 4294967296 = v0 at *
  generalize l % 4294967296 = d0 at *
  generalize hv1 : v / 4294967296 = v1 at *
  generalize hd1 : l / 4294967296 = d1 at *
  have o1 : DigOver u v v1 v0 d1 := ⟨u0, uv, S1.out.symm, b2, b1, b3, b4, c2, c1⟩
  have st_o1 := DigOver.start o1
  obtain ⟨k0, k1, k2, k3, k4⟩ := DigOver.guess o1
  go_upto_block 0 with fail
  go_cut [15, 16] (fun q r wx => ∃ z : Int, q = .int .u64 ((u * 4294967296 + d1) / v) ∧ r = .int .u64 z ∧ w = wx)
  case first =>
    go_wp2_with fail
    go_loop [15, 16] (fun q r => ∃ a b : Int, DigRel u v v1 v0 d1 a b ∧ q = .int .u64 a ∧ r = .int .u64 b) (fun q _ => (intOf q).toNat)
    case atStart => exact ⟨_, _, st_o1, rfl, rfl⟩
    case round =>
      obtain ⟨a, b, hr, rfl, rfl⟩ := hrel
      have a0 := hr.low; have a1 := hr.high; have bb0 := hr.b0; have bb1 := hr.b1
      obtain ⟨p0, p1⟩ := DigOver.prod o1 hr
      obtain ⟨z0, z1⟩ := DigOver.pos o1
      clear k0 k1 k2 k3 k4 st_o1
      generalize hQ : (u * 4294967296 + d1) / v = Q at a0 z0 z1
      have HQ := Lib.hid hQ
      clear hQ
      by_cases g1 : 4294967296 ≤ a
      · have a2 := DigOver.one o1 hr (.inl g1)
        by_cases g3 : 4294967296 ≤ b + v1
        · have HE := Lib.hid (DigOver.brk o1 hr (.inl g1) g3)
          go_wp2_with fail
          go_meet
          exact ⟨_, by rw [HE.out], rfl, rfl⟩
        · have HN := DigOver.next o1 hr (.inl g1) g3
          go_wp2_with fail
          go_round
          case rel => exact ⟨_, _, HN, rfl, rfl⟩
          case measure => simp [intOf]; omega
      · by_cases g2 : 4294967296 * b + d1 < a * v0
        · have a2 := DigOver.one o1 hr (.inr g2)
          by_cases g3 : 4294967296 ≤ b + v1
          · have HE := Lib.hid (DigOver.brk o1 hr (.inr g2) g3)
            go_wp2_with fail
            go_meet
            exact ⟨_, by rw [HE.out], rfl, rfl⟩
          · have HN := DigOver.next o1 hr (.inr g2) g3
            go_wp2_with fail
            go_round
            case rel => exact ⟨_, _, HN, rfl, rfl⟩
            case measure => simp [intOf]; omega
        · have HE := Lib.hid (DigOver.done o1 hr g2)
          go_wp2_with fail
          go_meet
          exact ⟨_, by rw [HE.out], rfl, rfl⟩
  case rest =>
    obtain ⟨z, rfl, rfl, rfl⟩ := hcut
    clear st_o1 k0 k1 k2 k3 k4
    have WR := DigOver.wraps o1 n2
    obtain ⟨e0, e1⟩ := DigOver.left o1
    obtain ⟨z0, z1⟩ := DigOver.pos o1
    have T := Lib.hid (two_digits (u := u) (d1 := d1) (d0 := d0) (v := v) (by omega))
    generalize (u * 4294967296 + d1) % v = u2 at *
    generalize (u * 4294967296 + d1) / v = Q1 at *
    have o2 : DigOver u2 v v1 v0 d0 := ⟨e0, e1, S1.out.symm, b2, b1, b3, b4, c3, c4⟩
    have st_o2 := DigOver.start o2
    obtain ⟨k0, k1, k2, k3, k4⟩ := DigOver.guess o2
    go_upto_block 2 with fail
    go_cut [18, 16] (fun q r wx => ∃ z : Int, q = .int .u64 ((u2 * 4294967296 + d0) / v) ∧ r = .int .u64 z ∧ w = wx)
    case first =>
      go_wp2_with fail
      go_loop [18, 16] (fun q r => ∃ a b : Int, DigRel u2 v v1 v0 d0 a b ∧ q = .int .u64 a ∧ r = .int .u64 b) (fun q _ => (intOf q).toNat)
      case atStart => exact ⟨_, _, st_o2, rfl, rfl⟩
      case round =>
        obtain ⟨a, b, hr, rfl, rfl⟩ := hrel
        have a0 := hr.low; have a1 := hr.high; have bb0 := hr.b0; have bb1 := hr.b1
        obtain ⟨p0, p1⟩ := DigOver.prod o2 hr
        obtain ⟨z0, z1⟩ := DigOver.pos o2
        clear k0 k1 k2 k3 k4 st_o2
        generalize hQ : (u2 * 4294967296 + d0) / v = Q at a0 z0 z1
        have HQ := Lib.hid hQ
        clear hQ
        by_cases g1 : 4294967296 ≤ a
        · have a2 := DigOver.one o2 hr (.inl g1)
          by_cases g3 : 4294967296 ≤ b + v1
          · have HE := Lib.hid (DigOver.brk o2 hr (.inl g1) g3)
            go_wp2_with fail
            go_meet
            exact ⟨_, by rw [HE.out], rfl, rfl⟩
          · have HN := DigOver.next o2 hr (.inl g1) g3
            go_wp2_with fail
            go_round
            case rel => exact ⟨_, _, HN, rfl, rfl⟩
            case measure => simp [intOf]; omega
        · by_cases g2 : 4294967296 * b + d0 < a * v0
          · have a2 := DigOver.one o2 hr (.inr g2)
            by_cases g3 : 4294967296 ≤ b + v1
            · have HE := Lib.hid (DigOver.brk o2 hr (.inr g2) g3)
              go_wp2_with fail
              go_meet
              exact ⟨_, by rw [HE.out], rfl, rfl⟩
            · have HN := DigOver.next o2 hr (.inr g2) g3
              go_wp2_with fail
              go_round
              case rel => exact ⟨_, _, HN, rfl, rfl⟩
              case measure => simp [intOf]; omega
          · have HE := Lib.hid (DigOver.done o2 hr g2)
            go_wp2_with fail
            go_meet
            exact ⟨_, by rw [HE.out], rfl, rfl⟩
    case rest =>
      obtain ⟨z, rfl, rfl, rfl⟩ := hcut
      clear st_o2 k0 k1 k2 k3 k4
      have WR2 := DigOver.wraps o2 n2
      obtain ⟨f0, f1⟩ := DigOver.left o2
      obtain ⟨y0, y1⟩ := DigOver.pos o2
      generalize (u2 * 4294967296 + d0) % v = r2 at *
      generalize (u2 * 4294967296 + d0) / v = Q2 at *
      go_wp2_with fail
      have e : u * 18446744073709551616 + d1 * 4294967296 + d0 = u * 18446744073709551616 + l := by have := S2.out; omega
      obtain ⟨t1, t2⟩ := T.out
      obtain ⟨r1, r3⟩ := RES.out
      rw [e] at t1 t2
      rw [← t1] at r1
      rw [← t2] at r3
      refine bodyPost_ret (v := .tuple #[.int .u64 (Q1 * 4294967296 + Q2), .int .u64 (r2 / 2 ^ s)]) (by simp [results, Tryz.results94, go_sem]) rfl ⟨by rw [r1, r3], ?_⟩
      exact Below.refl _ _

/-- math/bits.Div64, wherever it doesn't panic. -/
theorem div64_any (hi lo y : Int) (wh : Word hi) (wl : Word lo) (wy : Word y) (hy : hi < y) (w : World) :
    Calls Tryz.prog 94 #[.int .u64 hi, .int .u64 lo, .int .u64 y] w fun e w' =>
      e = .returned (.tuple #[.int .u64 (wval hi lo / y), .int .u64 (wval hi lo % y)]) ∧ Below w.heap.size w w' := by
  by_cases h : hi = 0
  · subst h
    have e : wval 0 lo = lo := by unfold wval; omega
    rw [e]
    exact div64_zero lo y wl wy hy w
  · exact div64_more hi lo y wh wl wy (by have := wh.1; omega) hy w
end Go.Proofs.YtfmlkohijkalbaaGreat

/-
  Walks: wide.Over, Floor and Ceil.
-/
namespace Go.Proofs.YtfmlkohijkalbaaGreat
set_option linter.unusedVariables false
open Go.RowKit Go.Shelf

/-- A number divided, where the quotient has room; noughts, where it hasn't. -/
def ovB (n by' : Int) : Bool := decide (0 < by' ∧ n / by' < 18446744073709551616)
def ovQ (n by' : Int) : Int := if ovB n by' = true then n / by' else 0
def ovR (n by' : Int) : Int := if ovB n by' = true then n % by' else 0
theorem ov_iff {h l y : Int} (wh : Word h) (wl : Word l) (wy : Word y) : ovB (wval h l) y = true ↔ h < y := by
  unfold ovB Word at *
  rw [decide_eq_true_iff]
  constructor
  · rintro ⟨a, b⟩
    rw [Int.ediv_lt_iff_lt_mul a] at b
    unfold wval at b; omega
  · intro a
    refine ⟨by omega, ?_⟩
    rw [Int.ediv_lt_iff_lt_mul (by omega)]
    unfold wval; omega
theorem ov_yes {h l y : Int} (wh : Word h) (wl : Word l) (wy : Word y) (hy : h < y) : ovB (wval h l) y = true ∧ ovQ (wval h l) y = wval h l / y ∧ ovR (wval h l) y = wval h l % y := by
  have e := (ov_iff (l := l) wh wl wy).2 hy
  refine ⟨e, ?_, ?_⟩
  · unfold ovQ; rw [if_pos e]
  · unfold ovR; rw [if_pos e]
theorem ov_no {h l y : Int} (wh : Word h) (wl : Word l) (wy : Word y) (hy : ¬ h < y) : ovB (wval h l) y = false ∧ ovQ (wval h l) y = 0 ∧ ovR (wval h l) y = 0 := by
  have e : ovB (wval h l) y = false := by
    cases hb : ovB (wval h l) y with
    | false => rfl
    | true => exact absurd ((ov_iff wh wl wy).1 hb) hy
  refine ⟨e, ?_, ?_⟩
  · unfold ovQ; rw [e]; rfl
  · unfold ovR; rw [e]; rfl
theorem ov_word {n y : Int} (h0 : 0 ≤ n) (wy : Word y) : Word (ovQ n y) ∧ Word (ovR n y) := by
  unfold ovQ ovR Word at *
  split
  · rename_i h
    unfold ovB at h
    rw [decide_eq_true_iff] at h
    obtain ⟨a, b⟩ := h
    have h1 := Int.ediv_nonneg h0 (show 0 ≤ y by omega)
    have h2 := Int.emod_nonneg n (show y ≠ 0 by omega)
    have h3 := Int.emod_lt_of_pos n a
    omega
  · omega

set_option maxHeartbeats 400000 in
theorem over_any (h l y : Int) (wh : Word h) (wl : Word l) (wy : Word y) (w : World) :
    Calls Tryz.prog 76 #[.agg #[.int .u64 h, .int .u64 l], .int .u64 y] w fun e w' =>
      e = .returned (.tuple #[.int .u64 (ovQ (wval h l) y), .int .u64 (ovR (wval h l) y), .bool (ovB (wval h l) y)]) ∧ Below w.heap.size w w' := by
  by_cases hy : h < y
  · obtain ⟨e1, e2, e3⟩ := ov_yes wh wl wy hy
    have E1 := Lib.hid e1; have E2 := Lib.hid e2; have E3 := Lib.hid e3
    clear e1 e2 e3
    go_enter Tryz.func76, Tryz.ntmps76
    go_wp2_with fail
    refine (div64_any h l y wh wl wy hy _).mono ?_
    rintro e wA ⟨rfl, hbA⟩
    go_wp2_with fail
    refine bodyPost_ret (v := .tuple #[.int .u64 (wval h l / y), .int .u64 (wval h l % y), .bool true]) (by simp [results, Tryz.results76, go_sem]) rfl ⟨by rw [E1.out, E2.out, E3.out], ?_⟩
    exact ((Below.refl _ _).alloc (Nat.le_refl _) _).trans (hbA.mono (by simp))
  · obtain ⟨e1, e2, e3⟩ := ov_no (l := l) wh wl wy hy
    have E1 := Lib.hid e1; have E2 := Lib.hid e2; have E3 := Lib.hid e3
    clear e1 e2 e3
    go_enter Tryz.func76, Tryz.ntmps76
    go_wp2_with fail
    refine bodyPost_ret (v := .tuple #[.int .u64 0, .int .u64 0, .bool false]) (by simp [results, Tryz.results76, go_sem]) rfl ⟨by rw [E1.out, E2.out, E3.out], ?_⟩
    exact (Below.refl _ _).alloc (Nat.le_refl _) _

/-- The same, of a number that two words tell. -/
theorem over_num (n y : Int) (h0 : 0 ≤ n) (h1 : n < 340282366920938463463374607431768211456) (wy : Word y) (w : World) :
    Calls Tryz.prog 76 #[.agg #[.int .u64 (hiW n), .int .u64 (loW n)], .int .u64 y] w fun e w' =>
      e = .returned (.tuple #[.int .u64 (ovQ n y), .int .u64 (ovR n y), .bool (ovB n y)]) ∧ Below w.heap.size w w' := by
  have h := over_any (hiW n) (loW n) y (word_hi n) (word_lo n) wy w
  rw [wval_split h0 h1] at h
  exact h

set_option maxHeartbeats 400000 in
theorem floor_any (a b y : Int) (wa : Word a) (wb : Word b) (wy : Word y) (w : World) :
    Calls Tryz.prog 72 #[.int .u64 a, .int .u64 b, .int .u64 y] w fun e w' =>
      e = .returned (.tuple #[.int .u64 (ovQ (a * b) y), .bool (ovB (a * b) y)]) ∧ Below w.heap.size w w' := by
  obtain ⟨n0, n1⟩ := mul_bd wa wb
  go_enter Tryz.func72, Tryz.ntmps72
  go_wp2_with fail
  refine (times_any a b wa wb _).mono ?_
  rintro e wA ⟨rfl, hbA⟩
  go_wp2_with fail
  refine (over_num (a * b) y n0 n1 wy _).mono ?_
  rintro e wB ⟨rfl, hbB⟩
  go_wp2_with fail
  refine bodyPost_ret (v := .tuple #[.int .u64 (ovQ (a * b) y), .bool (ovB (a * b) y)]) (by simp [results, Tryz.results72, go_sem]) rfl ⟨rfl, ?_⟩
  exact hbA.trans (hbB.mono hbA.size)

/-- A product divided, rounded up. -/
def clB (n y : Int) : Bool := ovB n y && !(decide (0 < ovR n y) && ovQ n y == 18446744073709551615)
def clQ (n y : Int) : Int := if clB n y = true then (if 0 < ovR n y then ovQ n y + 1 else ovQ n y) else 0
theorem cl_zero {n y : Int} (h : ovR n y = 0) : clB n y = ovB n y ∧ clQ n y = ovQ n y := by
  have e : clB n y = ovB n y := by unfold clB; rw [h]; simp
  refine ⟨e, ?_⟩
  unfold clQ; rw [e, h]; simp only [Int.lt_irrefl, if_false]
  split
  · rfl
  · rename_i hn; unfold ovQ; rw [if_neg hn]
theorem ovR_pos {n y : Int} (h0 : 0 ≤ n) (wy : Word y) (h : ¬ ovR n y = 0) : 0 < ovR n y ∧ ovB n y = true := by
  have := (ov_word h0 wy).2.1
  refine ⟨by omega, ?_⟩
  cases hb : ovB n y with
  | true => rfl
  | false => exfalso; apply h; unfold ovR; rw [hb]; rfl
theorem cl_more {n y : Int} (h0 : 0 ≤ n) (wy : Word y) (h : ¬ ovR n y = 0) : ((ovQ n y + 1) / 18446744073709551616 == 0) = clB n y ∧ (ovQ n y + 1) % 18446744073709551616 = clQ n y := by
  obtain ⟨hp, hb⟩ := ovR_pos h0 wy h
  obtain ⟨q0, q1⟩ := (ov_word h0 wy).1
  have e : clB n y = ((ovQ n y + 1) / 18446744073709551616 == 0) := by
    unfold clB; rw [hb, decide_eq_true hp, Bool.true_and, Bool.true_and, Bool.eq_iff_iff]
    simp only [Bool.not_eq_true', beq_eq_false_iff_ne, beq_iff_eq, ne_eq]; omega
  refine ⟨e.symm, ?_⟩
  unfold clQ; rw [if_pos hp, e]
  split <;> simp_all <;> omega

set_option maxHeartbeats 400000 in
theorem ceil_any (a b y : Int) (wa : Word a) (wb : Word b) (wy : Word y) (w : World) :
    Calls Tryz.prog 57 #[.int .u64 a, .int .u64 b, .int .u64 y] w fun e w' =>
      e = .returned (.tuple #[.int .u64 (clQ (a * b) y), .bool (clB (a * b) y)]) ∧ Below w.heap.size w w' := by
  obtain ⟨n0, n1⟩ := mul_bd wa wb
  by_cases hr : ovR (a * b) y = 0
  · obtain ⟨e1, e2⟩ := cl_zero hr
    have E1 := Lib.hid e1; have E2 := Lib.hid e2
    have hr0 : (ovR (a * b) y == 0) = true := by simp [hr]
    clear e1 e2 hr
    go_enter Tryz.func57, Tryz.ntmps57
    go_wp2_with fail
    refine (times_any a b wa wb _).mono ?_
    rintro e wA ⟨rfl, hbA⟩
    go_wp2_with fail
    refine (over_num (a * b) y n0 n1 wy _).mono ?_
    rintro e wB ⟨rfl, hbB⟩
    go_wp2_with fail
    refine bodyPost_ret (v := .tuple #[.int .u64 (ovQ (a * b) y), .bool (ovB (a * b) y)]) (by simp [results, Tryz.results57, go_sem]) rfl ⟨by rw [E1.out, E2.out], ?_⟩
    exact hbA.trans (hbB.mono hbA.size)
  · obtain ⟨e1, e2⟩ := cl_more n0 wy hr
    obtain ⟨q0, q1⟩ := (ov_word (n := a * b) n0 wy).1
    have E1 := Lib.hid e1; have E2 := Lib.hid e2
    have hr0 : (ovR (a * b) y == 0) = false := by simp [hr]
    clear e1 e2 hr
    go_enter Tryz.func57, Tryz.ntmps57
    go_wp2_with fail
    refine (times_any a b wa wb _).mono ?_
    rintro e wA ⟨rfl, hbA⟩
    go_wp2_with fail
    refine (over_num (a * b) y n0 n1 wy _).mono ?_
    rintro e wB ⟨rfl, hbB⟩
    go_wp2_with (simp only [add64_0 (ovQ (a * b) y) 1 q0 (by decide)])
    refine bodyPost_ret (v := .tuple #[.int .u64 ((ovQ (a * b) y + 1) % 18446744073709551616), .bool ((ovQ (a * b) y + 1) / 18446744073709551616 == 0)]) (by simp [results, Tryz.results57, go_sem]) rfl ⟨by rw [E1.out, E2.out], ?_⟩
    exact hbA.trans (hbB.mono hbA.size)
end Go.Proofs.YtfmlkohijkalbaaGreat

/-
  What package tuples is to do, told as properties of its calls.
-/
namespace Go.Proofs.YtfmlkohijkalbaaGreat
set_option linter.unusedVariables false
set_option linter.unusedSimpArgs false
open Go.RowKit

/-- The limit of a closeness. -/
def limT (a b n : Int) : Int := if ovB (2 * a * n) b = true then max (ovQ (2 * a * n) b) 1 else n
/-- What the closest one's value is; whether there is one. -/
def findX (t : Int) (L : List TupV) : Int := match closeS t none (spotsT 0 L) with | none => 0 | some s => s.x
theorem OwnTu.fit {w : World} {base n cap : Nat} {A : Option Addr} {L : List TupV} (h : OwnTu w base (.slice A n cap) L) : L.length ≤ cap := by
  rcases h.2 with ⟨e, e0⟩ | ⟨g, cap', cur, e, _, _, hnc, _⟩
  · omega
  · injection e with _ e2 e3
    omega
/-- What package tuples does. -/
structure TupDoes : Prop where
  good : ∀ (w : World) (A : Option Addr) (cap : Nat) (L : List TupV) (b : Bool), Tups w A L → L.length ≤ 20000 → (b = true ↔ GoodT L) → Calls Tryz.prog 61 #[.slice A L.length cap] w fun e w' => e = .returned (.bool b) ∧ Below w.heap.size w w'
  total : ∀ (w : World) (A : Option Addr) (cap : Nat) (L : List TupV) (n : Int) (b : Bool), Tups w A L → L.length ≤ 140737488351232 → (sumT L ≤ 9223372036854775807 ∧ n = sumT L ∧ b = true ∨ 9223372036854775807 < sumT L ∧ n = 0 ∧ b = false) → Calls Tryz.prog 62 #[.slice A L.length cap] w fun e w' => e = .returned (.tuple #[.int .u64 n, .bool b]) ∧ Below w.heap.size w w'
  limit : ∀ (w : World) (a b n m : Int), 0 ≤ a → a ≤ 2147483648 → Word b → Word n → limT a b n = m → Calls Tryz.prog 51 #[.agg #[.int .u64 a, .int .u64 b], .int .u64 n] w fun e w' => e = .returned (.int .u64 m) ∧ Below w.heap.size w w'
  insert : ∀ (w : World) (base : Nat) (v : Value) (L : List TupV) (x : Int), base ≤ w.heap.size → OwnTu w base v L → (∀ p, p ∈ L → okTu p) → GoodT L → sumT L < 9223372036854775807 → L.length ≤ 20000 → I64 x →
    Calls Tryz.prog 47 #[v, .int .i64 x] w fun e w' => ∃ v', e = .returned v' ∧ OwnTu w' base v' (insT L x) ∧ w.grownBy w' v.ownBlock ∧ (v'.ownBlock = v.ownBlock ∨ ∀ g, v'.ownBlock = some g → w.heap.size ≤ g)
  squeeze : ∀ (w : World) (base : Nat) (v : Value) (L : List TupV) (lim : Int), base ≤ w.heap.size → OwnTu w base v L → (∀ p, p ∈ L → okTu p) → GoodT L → L.length ≤ 20000 → Word lim →
    Calls Tryz.prog 50 #[v, .int .u64 lim] w fun e w' => ∃ v', e = .returned v' ∧ OwnTu w' base v' (sqzT lim L) ∧ w.grownBy w' v.ownBlock ∧ (v'.ownBlock = v.ownBlock ∨ ∀ g, v'.ownBlock = some g → w.heap.size ≤ g)
  merge : ∀ (w : World) (A B : Option Addr) (cap cap' : Nat) (L M : List TupV), Tups w A L → Tups w B M → GoodT L → GoodT M → sumT L + sumT M ≤ 9223372036854775807 → L.length ≤ 10000 → M.length ≤ 10000 →
    Calls Tryz.prog 22 #[.slice A L.length cap, .slice B M.length cap'] w fun e w' => ∃ v', e = .returned v' ∧ OwnTu w' w.heap.size v' (mergeT L M) ∧ Below w.heap.size w w'
  find : ∀ (w : World) (A : Option Addr) (cap : Nat) (L : List TupV) (t : Int), Tups w A L → L.length ≤ 20000 → GoodT L → Word t → Calls Tryz.prog 40 #[.slice A L.length cap, .int .u64 t] w fun e w' => e = .returned (.tuple #[.int .i64 (findX t L), .bool (!L.isEmpty)]) ∧ Below w.heap.size w w'
end Go.Proofs.YtfmlkohijkalbaaGreat

/-
  The reference of layer 18: Spots, Row, Total, Same; the laws' own plain, up, under.
-/
namespace Go.Proofs.YtfmlkohijkalbaaGreat
set_option linter.unusedVariables false
set_option linter.unusedSimpArgs false
open Go.RowKit

theorem three_new (w : World) (x y z : Value) (t : TypeId) : (w.alloc (.cells #[x, y, z] t)).cell? ⟨w.heap.size, 0, none⟩ = some x ∧ (w.alloc (.cells #[x, y, z] t)).cell? ⟨w.heap.size, 1, none⟩ = some y ∧ (w.alloc (.cells #[x, y, z] t)).cell? ⟨w.heap.size, 2, none⟩ = some z :=
  ⟨(Three.new w x y z t).c0, (Three.new w x y z t).c1, (Three.new w x y z t).c2⟩
theorem grown_new {w w1 : World} {r : Option Nat} {o1 o2 : Obj} {j : Nat} {v : Value} (hg : ((w.alloc o1).alloc o2).grownBy w1 r) (hr : ∀ g, r = some g → g < w.heap.size) (hc : (w.alloc o1).cell? ⟨w.heap.size, j, none⟩ = some v) : w1.cell? ⟨w.heap.size, j, none⟩ = some v := by
  have h1 := cell_later ((Below.refl _ _).alloc (Nat.le_refl _) o2) hc
  exact (World.cell?_of_block (a := ⟨w.heap.size, j, none⟩) (hg.block _ (World.block_lt_of_cell? (a := ⟨w.heap.size, j, none⟩) _ h1) (fun e => Nat.lt_irrefl _ (hr _ e.symm)))).trans h1
/-- Spots of places that have room. -/
theorem good_at {L : List TupV} (hg : GoodT L) {k : Nat} {p : TupV} (h : L[k]? = some p) : 0 < sumT (L.take k) + p.st ∧ sumT (L.take k) + p.st + p.sl ≤ 9223372036854775807 ∧ 0 < p.st ∧ 0 ≤ p.sl ∧ 0 ≤ sumT (L.take k) := by
  have hs := spots_step h
  have hls := last_sum (L.take k) 0
  have hm : (⟨p.x, lastLo 0 (spotsT 0 (L.take k)) + p.st, lastLo 0 (spotsT 0 (L.take k)) + p.st + p.sl⟩ : SpotV) ∈ spotsT 0 L := by
    have : spotsT 0 L = spotsT 0 (L.take (k + 1)) ++ spotsT (lastLo 0 (spotsT 0 (L.take (k + 1)))) (L.drop (k + 1)) := by rw [← spots_app, List.take_append_drop]
    rw [this, hs.1]
    exact List.mem_append_left _ (List.mem_append_right _ List.mem_cons_self)
  have hb := hg.can.mem _ hm
  have hmx := hg.max
  simp only at hb
  have hr := hg.can
  have hL : L = L.take k ++ p :: L.drop (k + 1) := by
    have : L.drop k = p :: L.drop (k + 1) := drop_is h
    rw [← this, List.take_append_drop]
  rw [hL, spots_app] at hr
  have h2 := hr.right
  have h3 : lastLo 0 (spotsT 0 (L.take k)) < lastLo 0 (spotsT 0 (L.take k)) + p.st := h2.1
  have h4 : lastLo 0 (spotsT 0 (L.take k)) + p.st ≤ lastLo 0 (spotsT 0 (L.take k)) + p.st + p.sl := h2.2.1
  have h5 : 0 ≤ lastLo 0 (spotsT 0 (L.take k)) := by
    have hp : ∀ q, q ∈ L.take k → 0 ≤ q.st := fun q hq => by
      have := row_bd hg.can (Int.le_refl 0) q (by rw [row_spots]; exact List.mem_of_mem_take hq)
      omega
    have := sumT_pos hp
    omega
  omega

/-- Where a spot of such a list lies. -/
theorem spots_at {n : Int} {S : List SpotV} (h : SpotsP 0 n S) {k : Nat} {s : SpotV} (hk : S[k]? = some s) : 0 ≤ lastLo 0 (S.take k) ∧ lastLo 0 (S.take k) < s.lo ∧ s.lo ≤ s.hi ∧ s.hi ≤ n := by
  have e : S = S.take k ++ s :: S.drop (k + 1) := by rw [← drop_is hk, List.take_append_drop]
  have h' := h
  rw [e] at h'
  have h2 := h'.right
  have h3 : lastLo 0 (S.take k) < s.lo := h2.1
  have h4 := h2.2.1
  have h5 : s.hi ≤ n := h2.2.2.1
  refine ⟨?_, h3, h4, h5⟩
  unfold lastLo
  cases hl : (S.take k).getLast? with
  | none => exact Int.le_refl _
  | some p =>
    have := (h.mem p (List.mem_of_mem_take (List.mem_of_getLast? hl))).1
    simp only
    omega

set_option maxRecDepth 100000 in
set_option maxHeartbeats 2000000 in
theorem rrow18_any (w : World) (A : Option Addr) (cap : Nat) (S : List SpotV) (n : Int) (h : Spts w A S) (hl : S.length ≤ 20000) (hs : SpotsP 0 n S) (hn : n ≤ 9223372036854775807) :
    Calls Tryz.prog 33 #[.slice A S.length cap] w fun e w' => ∃ v, e = .returned v ∧ OwnTr w' w.heap.size v (rowT 0 S) ∧ Below w.heap.size w w' := by
  have HI := Lib.hid h
  have HG := Lib.hid hs
  have HL := Lib.hid hl
  clear h hs
  go_enter Tryz.func33, Tryz.ntmps33
  go_wp2_with fail
  go_loopw [3, 4, 9] (fun s a j wr => ∃ (k : Nat) (m : Int), k ≤ S.length ∧ j = .int .i64 k ∧ a = .int .u64 m ∧ m = lastLo 0 (S.take k) ∧ OwnTr wr w.heap.size s (rowT 0 (S.take k)) ∧ Below w.heap.size w wr) (fun _ _ j _ => S.length - (intOf j).toNat)
  case atStart => exact ⟨0, 0, Nat.zero_le _, rfl, rfl, rfl, OwnTr.nil _ _, Below.refl _ _⟩
  case round =>
    obtain ⟨k, m, hk, rfl, rfl, hm, hown, hb2⟩ := hrel
    have hbs := hb2.size
    by_cases hlt : k < S.length
    · have kk : (k : Int) < S.length := by omega
      have hxk : S[k]? = some S[k] := List.getElem?_eq_getElem hlt
      generalize hit : S[k] = p at *
      obtain ⟨px, pl, ph⟩ := p
      obtain ⟨b0, off, rfl, hbl, c0, c1, c2⟩ := (HI.out.call hb2).at_ k _ hxk
      have HS := Lib.hid (row_step hxk)
      obtain ⟨g1, g2, g3, g4⟩ := spots_at HG.out hxk
      simp only at c0 c1 c2 HS g1 g2 g3 g4
      rw [← hm] at g1 g2
      have HM := Lib.hid hm
      have u1 : IntKind.u64.wrap (pl - m) = pl - m := by rw [IntKind.wrap_u64]; omega
      have u2 : IntKind.u64.wrap (ph - pl) = ph - pl := by rw [IntKind.wrap_u64]; omega
      obtain ⟨vA, vk, rfl⟩ := hown.form
      have HO := Lib.hid hown
      have HB := Lib.hid hb2
      clear hxk hit hown hm
      go_wp2_with (at_builtin; refine wpList_append_tr rfl _ _ rfl w.heap.size _ _ _ rfl (wr.heap.size + 1) ⟨px, pl - m, ph - pl⟩ rfl ((HO.out.alloc _).alloc _) rfl ?c1 ?c2 ?c3 ?c4 ?c5 ?_)
      case c4 => have := HL.out; rw [row_len, List.length_take]; omega
      case c5 => have := HB.out.size; simp; omega
      intro g' cp w1 hown' hgrow _
      have c9 := grown_new hgrow (fun g hg => (HO.out.lt g hg).2) (three_new wr _ _ _ _).2.1
      have hb4 := OwnTr.below ((HO.out.alloc _).alloc _) ((HB.out.alloc HB.out.size _).alloc (by have := HB.out.size; simp; omega) _) hgrow (by have := HB.out.size; simp; omega)
      rw [show rowT 0 (S.take k) ++ [⟨px, pl - m, ph - pl⟩] = rowT 0 (S.take (k + 1)) by rw [HS.out.1, HM.out]] at hown'
      go_wp2_with fail
      go_roundw
      case rel => exact ⟨k + 1, pl, by omega, by go_num, rfl, HS.out.2.symm, hown', hb4⟩
      case measure => simp [intOf]; omega
    · obtain rfl : k = S.length := by omega
      rw [List.take_length] at hown
      have kk : ¬ (S.length : Int) < S.length := by omega
      obtain ⟨vA, vk, rfl⟩ := hown.form
      have HO := Lib.hid hown
      clear hown
      go_wp2_with fail
      go_ret
      exact ⟨_, rfl, HO.out, hb2⟩

theorem tot_at (S : List SpotV) (hn : S.length ≠ 0) : ∃ s, S[S.length - 1]? = some s ∧ totS S = s.lo := by
  have hx := List.getElem?_eq_getElem (l := S) (i := S.length - 1) (by omega)
  refine ⟨_, hx, ?_⟩
  unfold totS
  rw [List.getLast?_eq_getElem?, hx]

set_option maxRecDepth 100000 in
set_option maxHeartbeats 1000000 in
theorem rtot18_any (w : World) (A : Option Addr) (cap : Nat) (S : List SpotV) (t : Int) (h : Spts w A S) (hl : S.length ≤ 20000) (ht : totS S = t) :
    Calls Tryz.prog 29 #[.slice A S.length cap] w fun e w' => e = .returned (.int .u64 t) ∧ w' = w := by
  have HT := Lib.hid ht
  by_cases hz : S.length = 0
  · have e1 : ((S.length : Int) == 0) = true := by simp [hz]
    have HE : Hid (t = 0) := Lib.hid (by rw [← ht, List.eq_nil_of_length_eq_zero hz]; rfl)
    clear h hl ht hz
    go_enter Tryz.func29, Tryz.ntmps29
    go_wp2_with fail
    go_ret
    exact ⟨by rw [HE.out]; rfl, rfl⟩
  · have e1 : ((S.length : Int) == 0) = false := by rw [beq_eq_false_iff_ne]; omega
    obtain ⟨s, hx, hs⟩ := tot_at S hz
    obtain ⟨b0, off, rfl, hbl, c0, c1, c2⟩ := h.at_ _ s hx
    have hw : IntKind.i64.wrap ((S.length : Int) - 1) = ((S.length - 1 : Nat) : Int) := by rw [IntKind.wrap_i64]; omega
    have kk : ((S.length - 1 : Nat) : Int) < S.length := by omega
    have HE : Hid (s.lo = t) := Lib.hid (by rw [← ht, hs])
    clear h ht hx hs
    go_enter Tryz.func29, Tryz.ntmps29
    go_wp2_with fail
    go_ret
    exact ⟨ret_int HE.out, rfl⟩

end Go.Proofs.YtfmlkohijkalbaaGreat

/-
  The reference of layer 18: Same, moved.
-/
namespace Go.Proofs.YtfmlkohijkalbaaGreat
set_option linter.unusedVariables false
set_option linter.unusedSimpArgs false
open Go.RowKit

theorem tup_neq (a b c a' b' c' : Int) (w : World) : (binOp .neq 103 (.agg #[.int .i64 a, .int .u64 b, .int .u64 c]) (.agg #[.int .i64 a', .int .u64 b', .int .u64 c'])).run Tryz.prog w = .ok (.bool (!(a == a' && (b == b' && c == c')))) w := by
  by_cases h : a = a'
  · subst h
    by_cases h' : b = b'
    · subst h'
      by_cases h2 : c = c'
      · subst h2; simp [go_sem]
      · have : (c == c') = false := by simp [h2]
        simp [go_sem, this]
    · have : (b == b') = false := by simp [h']
      simp [go_sem, this]
  · have : (a == a') = false := by simp [h]
    simp [go_sem, this]
theorem ne_atT {L M : List TupV} {k : Nat} {p q : TupV} (hp : L[k]? = some p) (hq : M[k]? = some q) (h : p ≠ q) : L ≠ M := by
  rintro rfl; rw [hp] at hq; exact h (Option.some.inj hq)
theorem same_takeT {L M : List TupV} {k : Nat} {p q : TupV} (hp : L[k]? = some p) (hq : M[k]? = some q) (h : p = q) (ht : L.take k = M.take k) : L.take (k + 1) = M.take (k + 1) := by
  rw [snocS hp, snocS hq, ht, h]

set_option maxRecDepth 100000 in
set_option maxHeartbeats 1000000 in
theorem same18_any (w : World) (A A' : Option Addr) (cap cap' : Nat) (L M : List TupV) (b : Bool) (hbb : decide (L = M) = b) (h : Tups w A L) (h' : Tups w A' M) (hl : L.length ≤ 20000) (hl' : M.length ≤ 20000) :
    Calls Tryz.prog 31 #[.slice A L.length cap, .slice A' M.length cap'] w fun e w' => e = .returned (.bool b) ∧ Below w.heap.size w w' := by
  have HB := Lib.hid hbb
  have HI := Lib.hid h
  have HJ := Lib.hid h'
  clear hbb h h'
  by_cases hlen : L.length = M.length
  · have e1 : ((L.length : Int) == (M.length : Int)) = true := by simp [hlen]
    have e2 : (!(L.length : Int) == (M.length : Int)) = false := by rw [e1]; rfl
    have HL := Lib.hid hlen
    clear hlen
    go_enter Tryz.func31, Tryz.ntmps31
    go_wp2_with fail
    go_loopw [13] (fun j wr => ∃ k : Nat, k ≤ L.length ∧ j = .int .i64 k ∧ L.take k = M.take k ∧ Below w.heap.size w wr) (fun j _ => L.length - (intOf j).toNat)
    case atStart => exact ⟨0, Nat.zero_le _, rfl, rfl, Below.refl _ _⟩
    case round =>
      obtain ⟨k, hk, rfl, ht, hb2⟩ := hrel
      have HT := Lib.hid ht
      clear ht
      by_cases hlt : k < L.length
      · have kk : (k : Int) < L.length := by omega
        have hlt' : k < M.length := by have := HL.out; omega
        have kk' : (k : Int) < M.length := by omega
        have hxk : L[k]? = some L[k] := List.getElem?_eq_getElem hlt
        have hyk : M[k]? = some M[k] := List.getElem?_eq_getElem hlt'
        generalize hit : L[k] = p at *
        generalize hjt : M[k] = q at *
        obtain ⟨px, pc, pd⟩ := p
        obtain ⟨qx, qc, qd⟩ := q
        obtain ⟨b0, off, rfl, hbl, c0, c1, c2⟩ := (HI.out.call hb2).at_ k _ hxk
        obtain ⟨b1, off', rfl, hbl', d0, d1, d2⟩ := (HJ.out.call hb2).at_ k _ hyk
        simp only at c0 c1 c2 d0 d1 d2
        have hcmp := tup_neq px pc pd qx qc qd
        have HXK := Lib.hid hxk
        have HYK := Lib.hid hyk
        clear hxk hyk hit hjt
        by_cases hc : px = qx ∧ pc = qc ∧ pd = qd
        · have e3 : (!(px == qx && (pc == qc && pd == qd))) = false := by simp [hc.1, hc.2.1, hc.2.2]
          rw [e3] at hcmp
          have HC := Lib.hid hc
          clear hc e3
          go_wp2_with fail
          go_quiet (fail)
          go_wp2_with fail
          go_roundw
          case rel => exact ⟨k + 1, by omega, by go_num, same_takeT HXK.out HYK.out (by rw [HC.out.1, HC.out.2.1, HC.out.2.2]) HT.out, below_drewT hb2 _⟩
          case measure => simp [intOf]; omega
        · have e3 : (!(px == qx && (pc == qc && pd == qd))) = true := by
            by_cases h1 : px = qx
            · by_cases h2 : pc = qc
              · have h3 : ¬ pd = qd := fun h => hc ⟨h1, h2, h⟩
                simp [h3]
              · simp [h2]
            · simp [h1]
          rw [e3] at hcmp
          have HE : Hid (b = false) := Lib.hid (by rw [← HB.out]; exact decide_eq_false (ne_atT HXK.out HYK.out (fun h => hc ⟨(TupV.mk.inj h).1, (TupV.mk.inj h).2.1, (TupV.mk.inj h).2.2⟩)))
          clear hc e3
          go_wp2_with fail
          go_quiet (fail)
          go_wp2_with fail
          go_ret
          exact ⟨by rw [HE.out]; rfl, below_drewT hb2 _⟩
      · obtain rfl : k = L.length := by omega
        have HE : Hid (b = true) := Lib.hid (by
          have h1 := HT.out
          rw [List.take_length, HL.out, List.take_length] at h1
          rw [← HB.out]; exact decide_eq_true h1)
        have kk : ¬ (L.length : Int) < L.length := by omega
        go_wp2_with fail
        go_ret
        exact ⟨by rw [HE.out]; rfl, hb2⟩
  · have e1 : ((L.length : Int) == (M.length : Int)) = false := by rw [beq_eq_false_iff_ne]; omega
    have e2 : (!(L.length : Int) == (M.length : Int)) = true := by rw [e1]; rfl
    have HE : Hid (b = false) := Lib.hid (by rw [← HB.out]; exact decide_eq_false (fun h => hlen (by rw [h])))
    clear hlen
    go_enter Tryz.func31, Tryz.ntmps31
    go_wp2_with fail
    go_ret
    exact ⟨by rw [HE.out]; rfl, Below.refl _ _⟩

set_option maxRecDepth 100000 in
set_option maxHeartbeats 2000000 in
theorem rmoved_in (w : World) (A : Option Addr) (cap : Nat) (S : List SpotV) (k : Nat) (x lo hi : Int) (p q : SpotV) (h : Spts w A S) (hl : S.length ≤ 20000) (hk : 0 < k) (hp : S[k - 1]? = some p) (hq : S[k]? = some q)
    (l0 : 0 ≤ lo ∧ lo ≤ 4611686018427387904) (h0 : 0 ≤ hi ∧ hi ≤ 4611686018427387904) (p0 : 0 ≤ p.lo ∧ p.lo ≤ 4611686018427387904) (q0 : 1 ≤ q.hi ∧ q.hi ≤ 4611686018427387904) :
    Calls Tryz.prog 53 #[.agg #[.int .i64 x, .int .u64 lo, .int .u64 hi], .slice A S.length cap, .int .i64 k] w fun e w' => e = .returned (.agg #[.int .i64 x, .int .u64 (lo + p.lo), .int .u64 (hi + q.hi - 1)]) ∧ Below w.heap.size w w' := by
  obtain ⟨px, pl, ph⟩ := p
  obtain ⟨qx, ql, qh⟩ := q
  have hlt : k < S.length := by
    rcases Nat.lt_or_ge k S.length with h1 | h1
    · exact h1
    · rw [List.getElem?_eq_none h1] at hq; cases hq
  obtain ⟨b0, off, rfl, hbl, c0, c1, c2⟩ := h.at_ _ _ hp
  obtain ⟨b1, off', e1, hbl', d0, d1, d2⟩ := h.at_ _ _ hq
  obtain ⟨rfl, rfl⟩ : b0 = b1 ∧ off = off' := by
    have := Option.some.inj e1
    exact ⟨(Addr.mk.inj this).1, (Addr.mk.inj this).2.1⟩
  simp only at c0 c1 c2 d0 d1 d2 p0 q0
  have g1 : (0 : Int) < k := by omega
  have g2 : (k : Int) < S.length := by omega
  have g3 : IntKind.i64.wrap ((k : Int) - 1) = ((k - 1 : Nat) : Int) := by rw [IntKind.wrap_i64]; omega
  have g4 : ((k - 1 : Nat) : Int) < S.length := by omega
  have g5 : IntKind.u64.wrap (lo + pl) = lo + pl := by rw [IntKind.wrap_u64]; omega
  have g6 : IntKind.u64.wrap (hi + qh) = hi + qh := by rw [IntKind.wrap_u64]; omega
  have g7 : IntKind.u64.wrap (hi + qh - 1) = hi + qh - 1 := by rw [IntKind.wrap_u64]; omega
  clear h hp hq e1 hl c0 c2 d0 d1 hk hlt
  go_enter Tryz.func53, Tryz.ntmps53
  go_wp2_with fail
  go_region
  go_wp2_with fail
  go_region
  go_wp2_with fail
  refine bodyPost_ret (v := .agg #[.int .i64 x, .int .u64 (lo + pl), .int .u64 (hi + qh - 1)]) (by simp [results, Tryz.results53, go_sem]) rfl ⟨rfl, ?_⟩
  exact ((((Below.refl _ _).alloc (Nat.le_refl _) _).alloc (by simp) _).drew).drew

set_option maxRecDepth 100000 in
set_option maxHeartbeats 2000000 in
theorem rmoved_first (w : World) (A : Option Addr) (cap : Nat) (S : List SpotV) (x lo hi : Int) (q : SpotV) (h : Spts w A S) (hl : S.length ≤ 20000) (hq : S[0]? = some q)
    (h0 : 0 ≤ hi ∧ hi ≤ 4611686018427387904) (q0 : 1 ≤ q.hi ∧ q.hi ≤ 4611686018427387904) :
    Calls Tryz.prog 53 #[.agg #[.int .i64 x, .int .u64 lo, .int .u64 hi], .slice A S.length cap, .int .i64 0] w fun e w' => e = .returned (.agg #[.int .i64 x, .int .u64 lo, .int .u64 (hi + q.hi - 1)]) ∧ Below w.heap.size w w' := by
  obtain ⟨qx, ql, qh⟩ := q
  have hlt : 0 < S.length := by
    rcases Nat.lt_or_ge 0 S.length with h1 | h1
    · exact h1
    · rw [List.getElem?_eq_none h1] at hq; cases hq
  obtain ⟨b0, off, rfl, hbl, d0, d1, d2⟩ := h.at_ _ _ hq
  simp only [Nat.zero_mul, Nat.add_zero] at d0 d1 d2 q0
  have g2 : (0 : Int) < S.length := by omega
  have g6 : IntKind.u64.wrap (hi + qh) = hi + qh := by rw [IntKind.wrap_u64]; omega
  have g7 : IntKind.u64.wrap (hi + qh - 1) = hi + qh - 1 := by rw [IntKind.wrap_u64]; omega
  clear h hq hl d0 d1 hlt
  go_enter Tryz.func53, Tryz.ntmps53
  go_wp2_with fail
  go_region
  go_wp2_with fail
  refine bodyPost_ret (v := .agg #[.int .i64 x, .int .u64 lo, .int .u64 (hi + qh - 1)]) (by simp [results, Tryz.results53, go_sem]) rfl ⟨rfl, ?_⟩
  exact (((Below.refl _ _).alloc (Nat.le_refl _) _).alloc (by simp) _).drew

set_option maxRecDepth 100000 in
set_option maxHeartbeats 2000000 in
theorem rmoved_end (w : World) (A : Option Addr) (cap : Nat) (S : List SpotV) (k : Nat) (x lo hi : Int) (p : SpotV) (h : Spts w A S) (hl : S.length ≤ 20000) (hk : 0 < k) (hn : S.length = k) (hp : S[k - 1]? = some p)
    (l0 : 0 ≤ lo ∧ lo ≤ 4611686018427387904) (h0 : 0 ≤ hi ∧ hi ≤ 4611686018427387904) (p0 : 0 ≤ p.lo ∧ p.lo ≤ 4611686018427387904) :
    Calls Tryz.prog 53 #[.agg #[.int .i64 x, .int .u64 lo, .int .u64 hi], .slice A k cap, .int .i64 k] w fun e w' => e = .returned (.agg #[.int .i64 x, .int .u64 (lo + p.lo), .int .u64 (hi + p.lo)]) ∧ Below w.heap.size w w' := by
  have ht : totS S = p.lo := by
    obtain ⟨s, hs, e⟩ := tot_at S (by omega)
    rw [hn, hp] at hs
    rw [e, Option.some.inj hs]
  obtain ⟨px, pl, ph⟩ := p
  have HT : Hid (∀ W, Spts W A S → Calls Tryz.prog 29 #[.slice A k cap] W fun e w' => e = .returned (.int .u64 pl) ∧ w' = W) := Lib.hid fun W hW => by
    have := rtot18_any W A cap S pl hW hl ht
    rwa [hn] at this
  have HI := Lib.hid h
  obtain ⟨b0, off, rfl, hbl, c0, c1, c2⟩ := h.at_ _ _ hp
  simp only at c0 c1 c2 p0
  have g1 : (0 : Int) < k := by omega
  have g2 : ¬ (k : Int) < k := by omega
  have g3 : IntKind.i64.wrap ((k : Int) - 1) = ((k - 1 : Nat) : Int) := by rw [IntKind.wrap_i64]; omega
  have g4 : ((k - 1 : Nat) : Int) < k := by omega
  have g5 : IntKind.u64.wrap (lo + pl) = lo + pl := by rw [IntKind.wrap_u64]; omega
  have g6 : IntKind.u64.wrap (hi + pl) = hi + pl := by rw [IntKind.wrap_u64]; omega
  clear h hp hl hn ht c0 c2 hk
  go_enter Tryz.func53, Tryz.ntmps53
  go_wp2_with fail
  go_region
  go_wp2_with fail
  go_region_with (go_at_call 29; refine (HT.out _ (HI.out.call ((((Below.refl _ _).alloc (Nat.le_refl _) _).alloc (by simp) _).drew).drew)).mono ?_; rintro e w' ⟨rfl, rfl⟩)
  all_goals
    go_wp2_with fail
    refine bodyPost_ret (v := .agg #[.int .i64 x, .int .u64 (lo + pl), .int .u64 (hi + pl)]) (by simp [results, Tryz.results53, go_sem, g6]) rfl ⟨rfl, ?_⟩
    exact ((((Below.refl _ _).alloc (Nat.le_refl _) _).alloc (by simp) _).drew).drew

set_option maxRecDepth 100000 in
set_option maxHeartbeats 2000000 in
theorem rmoved_none (w : World) (A : Option Addr) (cap : Nat) (x lo hi : Int) (h0 : 0 ≤ hi ∧ hi ≤ 4611686018427387904) :
    Calls Tryz.prog 53 #[.agg #[.int .i64 x, .int .u64 lo, .int .u64 hi], .slice A 0 cap, .int .i64 0] w fun e w' => e = .returned (.agg #[.int .i64 x, .int .u64 lo, .int .u64 hi]) ∧ Below w.heap.size w w' := by
  have HT : Hid (∀ W, Calls Tryz.prog 29 #[.slice A 0 cap] W fun e w' => e = .returned (.int .u64 0) ∧ w' = W) := Lib.hid fun W => rtot18_any W A cap [] 0 (Spts.nil W A) (by simp) rfl
  have g6 : IntKind.u64.wrap (hi + 0) = hi := by rw [IntKind.wrap_u64]; omega
  have g7 : IntKind.u64.wrap hi = hi := by rw [IntKind.wrap_u64]; omega
  go_enter Tryz.func53, Tryz.ntmps53
  go_wp2_with fail
  go_region_with (go_at_call 29; refine (HT.out _).mono ?_; rintro e w' ⟨rfl, rfl⟩)
  all_goals
    go_wp2_with fail
    refine bodyPost_ret (v := .agg #[.int .i64 x, .int .u64 lo, .int .u64 hi]) (by simp [results, Tryz.results53, go_sem, g6, g7]) rfl ⟨rfl, ?_⟩
    exact (((Below.refl _ _).alloc (Nat.le_refl _) _).alloc (by simp) _).drew
end Go.Proofs.YtfmlkohijkalbaaGreat

/-
  The reference of layer 18: Merge.
-/
namespace Go.Proofs.YtfmlkohijkalbaaGreat
set_option linter.unusedVariables false
set_option linter.unusedSimpArgs false
open Go.RowKit

theorem last_bd {n : Int} {S : List SpotV} (h : SpotsP 0 n S) (k : Nat) : 0 ≤ lastLo 0 (S.take k) ∧ lastLo 0 (S.take k) ≤ n := by
  unfold lastLo
  cases hl : (S.take k).getLast? with
  | none => have := h.le; simp only; omega
  | some p => have := h.mem p (List.mem_of_mem_take (List.mem_of_getLast? hl)); simp only; omega
theorem last_tot (S : List SpotV) : lastLo 0 (S.take S.length) = totS S := by rw [List.take_length, tot_last]
theorem take_last {S : List SpotV} {k : Nat} (hk : 0 < k) (hl : k ≤ S.length) : ∃ p, S[k - 1]? = some p ∧ lastLo 0 (S.take k) = p.lo := by
  have hx := List.getElem?_eq_getElem (l := S) (i := k - 1) (by omega)
  refine ⟨_, hx, ?_⟩
  have := last_takeS hx
  rwa [show k - 1 + 1 = k by omega] at this
/-- A spot among those of another list, some of which stand behind. -/
theorem rmoved_lt (w : World) (A : Option Addr) (cap : Nat) (S : List SpotV) (n : Int) (k : Nat) (x lo hi a b : Int) (q : SpotV) (h : Spts w A S) (hl : S.length ≤ 20000) (hs : SpotsP 0 n S) (hn : n ≤ 4611686018427387904) (hq : S[k]? = some q)
    (l0 : 0 ≤ lo ∧ lo ≤ 4611686018427387904) (h0 : 0 ≤ hi ∧ hi ≤ 4611686018427387904) (ha : lo + lastLo 0 (S.take k) = a) (hb : hi + q.hi - 1 = b) :
    Calls Tryz.prog 53 #[.agg #[.int .i64 x, .int .u64 lo, .int .u64 hi], .slice A S.length cap, .int .i64 k] w fun e w' => e = .returned (.agg #[.int .i64 x, .int .u64 a, .int .u64 b]) ∧ Below w.heap.size w w' := by
  subst ha hb
  have hqb := spots_at hs hq
  rcases Nat.eq_zero_or_pos k with h1 | h1
  · subst h1
    have e : lo + lastLo 0 (S.take 0) = lo := by rw [last_zero]; omega
    rw [e]
    exact rmoved_first w A cap S x lo hi q h hl hq h0 ⟨by omega, by omega⟩
  · have hk : k < S.length := by
      rcases Nat.lt_or_ge k S.length with h2 | h2
      · exact h2
      · rw [List.getElem?_eq_none h2] at hq; cases hq
    obtain ⟨p, hp, e⟩ := take_last (S := S) h1 (by omega)
    have hpb := spots_at hs hp
    rw [e]
    exact rmoved_in w A cap S k x lo hi p q h hl h1 hp hq l0 h0 ⟨by omega, by omega⟩ ⟨by omega, by omega⟩
/-- A spot behind all those of another list. -/
theorem rmoved_ge (w : World) (A : Option Addr) (cap : Nat) (S : List SpotV) (n : Int) (x lo hi a b : Int) (h : Spts w A S) (hl : S.length ≤ 20000) (hs : SpotsP 0 n S) (hn : n ≤ 4611686018427387904)
    (l0 : 0 ≤ lo ∧ lo ≤ 4611686018427387904) (h0 : 0 ≤ hi ∧ hi ≤ 4611686018427387904) (ha : lo + lastLo 0 (S.take S.length) = a) (hb : hi + totS S = b) :
    Calls Tryz.prog 53 #[.agg #[.int .i64 x, .int .u64 lo, .int .u64 hi], .slice A S.length cap, .int .i64 S.length] w fun e w' => e = .returned (.agg #[.int .i64 x, .int .u64 a, .int .u64 b]) ∧ Below w.heap.size w w' := by
  subst ha hb
  rcases Nat.eq_zero_or_pos S.length with h1 | h1
  · have hS := List.eq_nil_of_length_eq_zero h1
    subst hS
    have e1 : lo + lastLo 0 (([] : List SpotV).take ([] : List SpotV).length) = lo := by show lo + 0 = lo; omega
    have e2 : hi + totS [] = hi := by rw [totS_nil]; omega
    rw [e1, e2]
    exact rmoved_none w A cap x lo hi h0
  · obtain ⟨p, hp, e⟩ := take_last (S := S) h1 (Nat.le_refl _)
    have hpb := spots_at hs hp
    have e2 : totS S = p.lo := by rw [← last_tot, e]
    rw [e, e2]
    exact rmoved_end w A cap S S.length x lo hi p h hl h1 rfl hp l0 h0 ⟨by omega, by omega⟩

set_option maxRecDepth 100000 in
set_option maxHeartbeats 4000000 in
theorem rmerge18_any (w : World) (A B : Option Addr) (ca cb : Nat) (S T : List SpotV) (na nb : Int) (hA : Spts w A S) (hB : Spts w B T) (ls : S.length ≤ 10000) (lt : T.length ≤ 10000) (hs : SpotsP 0 na S) (ht : SpotsP 0 nb T) (ha : na ≤ 4611686018427387904) (hb : nb ≤ 4611686018427387904) :
    Calls Tryz.prog 27 #[.slice A S.length ca, .slice B T.length cb] w fun e w' => ∃ v, e = .returned v ∧ OwnSp w' w.heap.size v (mergeS S T) ∧ Below w.heap.size w w' := by
  have HA := Lib.hid hA
  have HB := Lib.hid hB
  have HS := Lib.hid hs
  have HT := Lib.hid ht
  have HLA := Lib.hid ls
  have HLB := Lib.hid lt
  have HNA := Lib.hid ha
  have HNB := Lib.hid hb
  clear hA hB hs ht ha hb
  go_enter Tryz.func27, Tryz.ntmps27
  go_wp2_with fail
  go_loopw [5, 6, 7] (fun s iv kv wr => ∃ (i k : Nat) (M : List SpotV), i ≤ S.length ∧ k ≤ T.length ∧ iv = .int .i64 i ∧ kv = .int .i64 k ∧ M.length = i + k ∧ M ++ leftS S T i k = mergeS S T ∧ OwnSp wr w.heap.size s M ∧ Below w.heap.size w wr) (fun _ iv kv _ => (S.length - (intOf iv).toNat) + (T.length - (intOf kv).toNat))
  case atStart => exact ⟨0, 0, [], Nat.zero_le _, Nat.zero_le _, rfl, rfl, rfl, by rw [List.nil_append, left_all], OwnSp.nil _ _, Below.refl _ _⟩
  case round =>
    obtain ⟨i, k, M, hi, hk, rfl, rfl, hm, he, hown, hb2⟩ := hrel
    have hbs := hb2.size
    have HE := Lib.hid he
    have HM := Lib.hid hm
    obtain ⟨vA, vk, rfl⟩ := hown.form
    have HO := Lib.hid hown
    have HW := Lib.hid hb2
    have HBS := Lib.hid hbs
    clear hown he hm
    by_cases h1 : k < T.length
    · by_cases h2 : i < S.length
      · have hsi : S[i]? = some S[i] := List.getElem?_eq_getElem h2
        have htk : T[k]? = some T[k] := List.getElem?_eq_getElem h1
        generalize hes : S[i] = s at *
        generalize het : T[k] = t at *
        obtain ⟨sx, sl, sh⟩ := s
        obtain ⟨tx, tl, th⟩ := t
        obtain ⟨b0, off, rfl, hbl, c0, c1, c2⟩ := (HA.out.call hb2).at_ i _ hsi
        obtain ⟨b1, off', rfl, hbl', d0, d1, d2⟩ := (HB.out.call hb2).at_ k _ htk
        simp only at c0 c1 c2 d0 d1 d2
        have bs0 := spots_at HS.out hsi
        have bt0 := spots_at HT.out htk
        simp only at bs0 bt0
        have bs := Lib.hid bs0
        have bt := Lib.hid bt0
        clear bs0 bt0
        have HSI := Lib.hid hsi
        have HTK := Lib.hid htk
        have q1 : (i : Int) < S.length := by omega
        have q2 : (k : Int) < T.length := by omega
        have q3 : ((k : Int) == T.length) = false := by rw [beq_eq_false_iff_ne]; omega
        have HI := Lib.hid hi
        have HK := Lib.hid hk
        have H1 := Lib.hid h1
        have H2 := Lib.hid h2
        have q4 : decide ((i : Int) < S.length) = true := decide_eq_true q1
        clear hsi htk hes het
        by_cases hx : sx ≤ tx
        · have q5 : decide (sx ≤ tx) = true := decide_eq_true hx
          obtain ⟨a, ha⟩ : ∃ a, sl + lastLo 0 (T.take k) = a := ⟨_, rfl⟩
          obtain ⟨b, hb⟩ : ∃ b, sh + th - 1 = b := ⟨_, rfl⟩
          have HMV : Hid (∀ W, Below w.heap.size w W → Calls Tryz.prog 53 #[.agg #[.int .i64 sx, .int .u64 sl, .int .u64 sh], .slice (some ⟨b1, off', none⟩) T.length cb, .int .i64 k] W fun e w' => e = .returned (.agg #[.int .i64 sx, .int .u64 a, .int .u64 b]) ∧ Below W.heap.size W w') := Lib.hid fun W hW =>
            rmoved_lt W (some ⟨b1, off', none⟩) cb T nb k sx sl sh a b ⟨tx, tl, th⟩ (HB.out.call hW) (by have := HLB.out; omega) HT.out HNB.out HTK.out (by have := bs.out; have := HNA.out; exact ⟨by omega, by omega⟩) (by have := bs.out; have := HNA.out; exact ⟨by omega, by omega⟩) ha hb
          have HNX : Hid (M ++ [⟨sx, a, b⟩] ++ leftS S T (i + 1) (k) = mergeS S T) := Lib.hid (by
            rw [← HE.out, left_le HSI.out HTK.out hx, List.append_assoc, ← ha, ← hb]; rfl)
          clear ha hb
          go_wp2_with fail
          go_quiet (fail)
          rename_i nq
          have HW2 := Lib.hid (below_drewT HW.out nq)
          have HO2 := Lib.hid (HO.out.call (below_drewT (Below.refl _ _) nq))
          go_wp2_with fail
          refine (HMV.out _ HW2.out).mono ?_
          rintro e w3 ⟨rfl, hb3⟩
          have HO3 := Lib.hid (HO2.out.call hb3)
          have HW3 := Lib.hid (HW2.out.trans (hb3.mono HW2.out.size))
          clear hb3
          go_wp2_with (at_builtin; refine wpList_append_sp rfl _ _ rfl w.heap.size _ _ (i + k) ?alt0 w3.heap.size ⟨sx, a, b⟩ rfl (HO3.out.alloc _) rfl ?alt1 ?alt2 ?alt3 ?alt4 ?alt5 ?_)
          case alt0 => exact HM.out
          case alt4 => have := HLA.out; have := HLB.out; omega
          case alt5 => have := HW3.out.size; simp; omega
          intro g' cp w5 hown' hgrow _
          have hb4 := OwnSp.below (HO3.out.alloc _) (HW3.out.alloc HW3.out.size _) hgrow (by have := HW3.out.size; simp; omega)
          clear hgrow
          go_wp2_with fail
          go_roundw
          case rel => exact ⟨i + 1, k, _, by omega, by omega, by go_num, by go_num, by rw [List.length_append, HM.out, List.length_singleton]; omega, HNX.out, hown', hb4⟩
          case measure => simp [intOf]; omega
        · have q5 : decide (sx ≤ tx) = false := decide_eq_false hx
          obtain ⟨a, ha⟩ : ∃ a, tl + lastLo 0 (S.take i) = a := ⟨_, rfl⟩
          obtain ⟨b, hb⟩ : ∃ b, th + sh - 1 = b := ⟨_, rfl⟩
          have HMV : Hid (∀ W, Below w.heap.size w W → Calls Tryz.prog 53 #[.agg #[.int .i64 tx, .int .u64 tl, .int .u64 th], .slice (some ⟨b0, off, none⟩) S.length ca, .int .i64 i] W fun e w' => e = .returned (.agg #[.int .i64 tx, .int .u64 a, .int .u64 b]) ∧ Below W.heap.size W w') := Lib.hid fun W hW =>
            rmoved_lt W (some ⟨b0, off, none⟩) ca S na i tx tl th a b ⟨sx, sl, sh⟩ (HA.out.call hW) (by have := HLA.out; omega) HS.out HNA.out HSI.out (by have := bt.out; have := HNB.out; exact ⟨by omega, by omega⟩) (by have := bt.out; have := HNB.out; exact ⟨by omega, by omega⟩) ha hb
          have HNX : Hid (M ++ [⟨tx, a, b⟩] ++ leftS S T (i) (k + 1) = mergeS S T) := Lib.hid (by
            rw [← HE.out, left_gt HSI.out HTK.out hx, List.append_assoc, ← ha, ← hb]; rfl)
          clear ha hb
          go_wp2_with fail
          go_quiet (fail)
          rename_i nq
          have HW2 := Lib.hid (below_drewT HW.out nq)
          have HO2 := Lib.hid (HO.out.call (below_drewT (Below.refl _ _) nq))
          go_wp2_with fail
          refine (HMV.out _ HW2.out).mono ?_
          rintro e w3 ⟨rfl, hb3⟩
          have HO3 := Lib.hid (HO2.out.call hb3)
          have HW3 := Lib.hid (HW2.out.trans (hb3.mono HW2.out.size))
          clear hb3
          go_wp2_with (at_builtin; refine wpList_append_sp rfl _ _ rfl w.heap.size _ _ (i + k) ?blt0 w3.heap.size ⟨tx, a, b⟩ rfl (HO3.out.alloc _) rfl ?blt1 ?blt2 ?blt3 ?blt4 ?blt5 ?_)
          case blt0 => exact HM.out
          case blt4 => have := HLA.out; have := HLB.out; omega
          case blt5 => have := HW3.out.size; simp; omega
          intro g' cp w5 hown' hgrow _
          have hb4 := OwnSp.below (HO3.out.alloc _) (HW3.out.alloc HW3.out.size _) hgrow (by have := HW3.out.size; simp; omega)
          clear hgrow
          go_wp2_with fail
          go_roundw
          case rel => exact ⟨i, k + 1, _, by omega, by omega, by go_num, by go_num, by rw [List.length_append, HM.out, List.length_singleton]; omega, HNX.out, hown', hb4⟩
          case measure => simp [intOf]; omega
      · obtain rfl : i = S.length := by omega
        have hx1 : T[k]? = some T[k] := List.getElem?_eq_getElem h1
        generalize hes : T[k] = s at *
        obtain ⟨tx, tl, th⟩ := s
        obtain ⟨b0, off, rfl, hbl, c0, c1, c2⟩ := (HB.out.call hb2).at_ k _ hx1
        simp only at c0 c1 c2
        have bs0 := spots_at HT.out hx1
        simp only at bs0
        have bs := Lib.hid bs0
        clear bs0
        have HX1 := Lib.hid hx1
        have q1 : (k : Int) < T.length := by omega
        have q2 : ¬ (S.length : Int) < S.length := by omega
        have q3 : ((k : Int) == T.length) = false := by rw [beq_eq_false_iff_ne]; omega
        have q4 : decide ((S.length : Int) < S.length) = false := decide_eq_false q2
        clear hx1 hes
        obtain ⟨a, ha⟩ : ∃ a, tl + lastLo 0 (S.take S.length) = a := ⟨_, rfl⟩
        obtain ⟨b, hb⟩ : ∃ b, th + totS S = b := ⟨_, rfl⟩
        have HMV : Hid (∀ W, Below w.heap.size w W → Calls Tryz.prog 53 #[.agg #[.int .i64 tx, .int .u64 tl, .int .u64 th], .slice A S.length ca, .int .i64 S.length] W fun e w' => e = .returned (.agg #[.int .i64 tx, .int .u64 a, .int .u64 b]) ∧ Below W.heap.size W w') := Lib.hid fun W hW =>
          rmoved_ge W A ca S na tx tl th a b (HA.out.call hW) (by have := HLA.out; omega) HS.out HNA.out (by have := bs.out; have := HNB.out; exact ⟨by omega, by omega⟩) (by have := bs.out; have := HNB.out; exact ⟨by omega, by omega⟩) ha hb
        have HNX : Hid (M ++ [⟨tx, a, b⟩] ++ leftS S T (S.length) (k + 1) = mergeS S T) := Lib.hid (by
          rw [← HE.out, left_b HX1.out, List.append_assoc, ← ha, ← hb]; rfl)
        clear ha hb
        go_wp2_with fail
        go_quiet (fail)
        rename_i nq
        have HW2 := Lib.hid (below_drewT HW.out nq)
        have HO2 := Lib.hid (HO.out.call (below_drewT (Below.refl _ _) nq))
        go_wp2_with fail
        refine (HMV.out _ HW2.out).mono ?_
        rintro e w3 ⟨rfl, hb3⟩
        have HO3 := Lib.hid (HO2.out.call hb3)
        have HW3 := Lib.hid (HW2.out.trans (hb3.mono HW2.out.size))
        clear hb3
        go_wp2_with (at_builtin; refine wpList_append_sp rfl _ _ rfl w.heap.size _ _ (S.length + k) ?bge0 w3.heap.size ⟨tx, a, b⟩ rfl (HO3.out.alloc _) rfl ?bge1 ?bge2 ?bge3 ?bge4 ?bge5 ?_)
        case bge0 => exact HM.out
        case bge4 => have := HLA.out; have := HLB.out; omega
        case bge5 => have := HW3.out.size; simp; omega
        intro g' cp w5 hown' hgrow _
        have hb4 := OwnSp.below (HO3.out.alloc _) (HW3.out.alloc HW3.out.size _) hgrow (by have := HW3.out.size; simp; omega)
        clear hgrow
        go_wp2_with fail
        go_roundw
        case rel => exact ⟨S.length, k + 1, _, by omega, by omega, by go_num, by go_num, by rw [List.length_append, HM.out, List.length_singleton]; omega, HNX.out, hown', hb4⟩
        case measure => simp [intOf]; omega
    · obtain rfl : k = T.length := by omega
      by_cases h2 : i < S.length
      · have hx1 : S[i]? = some S[i] := List.getElem?_eq_getElem h2
        generalize hes : S[i] = s at *
        obtain ⟨sx, sl, sh⟩ := s
        obtain ⟨b0, off, rfl, hbl, c0, c1, c2⟩ := (HA.out.call hb2).at_ i _ hx1
        simp only at c0 c1 c2
        have bs0 := spots_at HS.out hx1
        simp only at bs0
        have bs := Lib.hid bs0
        clear bs0
        have HX1 := Lib.hid hx1
        have q1 : (i : Int) < S.length := by omega
        have q2 : ¬ (T.length : Int) < T.length := by omega
        have q3 : ((T.length : Int) == T.length) = true := by simp
        clear hx1 hes
        obtain ⟨a, ha⟩ : ∃ a, sl + lastLo 0 (T.take T.length) = a := ⟨_, rfl⟩
        obtain ⟨b, hb⟩ : ∃ b, sh + totS T = b := ⟨_, rfl⟩
        have HMV : Hid (∀ W, Below w.heap.size w W → Calls Tryz.prog 53 #[.agg #[.int .i64 sx, .int .u64 sl, .int .u64 sh], .slice B T.length cb, .int .i64 T.length] W fun e w' => e = .returned (.agg #[.int .i64 sx, .int .u64 a, .int .u64 b]) ∧ Below W.heap.size W w') := Lib.hid fun W hW =>
          rmoved_ge W B cb T nb sx sl sh a b (HB.out.call hW) (by have := HLB.out; omega) HT.out HNB.out (by have := bs.out; have := HNA.out; exact ⟨by omega, by omega⟩) (by have := bs.out; have := HNA.out; exact ⟨by omega, by omega⟩) ha hb
        have HNX : Hid (M ++ [⟨sx, a, b⟩] ++ leftS S T (i + 1) (T.length) = mergeS S T) := Lib.hid (by
          rw [← HE.out, left_a HX1.out, List.append_assoc, ← ha, ← hb]; rfl)
        clear ha hb
        go_wp2_with fail
        go_quiet (fail)
        rename_i nq
        have HW2 := Lib.hid (below_drewT HW.out nq)
        have HO2 := Lib.hid (HO.out.call (below_drewT (Below.refl _ _) nq))
        go_wp2_with fail
        refine (HMV.out _ HW2.out).mono ?_
        rintro e w3 ⟨rfl, hb3⟩
        have HO3 := Lib.hid (HO2.out.call hb3)
        have HW3 := Lib.hid (HW2.out.trans (hb3.mono HW2.out.size))
        clear hb3
        go_wp2_with (at_builtin; refine wpList_append_sp rfl _ _ rfl w.heap.size _ _ (i + T.length) ?age0 w3.heap.size ⟨sx, a, b⟩ rfl (HO3.out.alloc _) rfl ?age1 ?age2 ?age3 ?age4 ?age5 ?_)
        case age0 => exact HM.out
        case age4 => have := HLA.out; have := HLB.out; omega
        case age5 => have := HW3.out.size; simp; omega
        intro g' cp w5 hown' hgrow _
        have hb4 := OwnSp.below (HO3.out.alloc _) (HW3.out.alloc HW3.out.size _) hgrow (by have := HW3.out.size; simp; omega)
        clear hgrow
        go_wp2_with fail
        go_roundw
        case rel => exact ⟨i + 1, T.length, _, by omega, by omega, by go_num, by go_num, by rw [List.length_append, HM.out, List.length_singleton]; omega, HNX.out, hown', hb4⟩
        case measure => simp [intOf]; omega
      · obtain rfl : i = S.length := by omega
        have HF : Hid (M = mergeS S T) := Lib.hid (by rw [← HE.out, left_none, List.append_nil])
        have q1 : ¬ (S.length : Int) < S.length := by omega
        have q2 : ¬ (T.length : Int) < T.length := by omega
        go_wp2_with fail
        go_ret
        exact ⟨_, rfl, by rw [← HF.out]; exact HO.out, hb2⟩
end Go.Proofs.YtfmlkohijkalbaaGreat

/-
  The reference of layer 18: Squeeze.
-/
namespace Go.Proofs.YtfmlkohijkalbaaGreat
set_option linter.unusedVariables false
set_option linter.unusedSimpArgs false
open Go.RowKit

/-- append of a row of spots, as one step of a region that draws. -/
theorem step_append_sps {w : World} {ops : Array Oper} {o : Oper} {a : Act} {K : Act → World → Prop} {Q : Exit → Act → World → Prop} {E : Prop} (hgd : o.guard = none) (s x : Operand)
    (ho : o.op = .call { callee := .builtin .append, args := #[s, x], argTypes := #[51, 51] })
    (base : Nat) (v : Value) (M : List SpotV) (A : Option Addr) (n cap : Nat) (L : List SpotV) (hs : a.eval s = v) (hown : OwnSp w base v M)
    (hx : a.eval x = .slice A n cap) (hl : L.length = n) (hsrc : Spts w A L) (hn : M.length + n ≤ 100000) (hbase : base ≤ w.heap.size)
    (h : ∀ v' w', OwnSp w' base v' (M ++ L) → w.grownBy w' v.ownBlock → K (a.put o.dst v') w') : if Region.wanted o (yielded ops a.tmps) = true then Oper.wp Tryz.prog o a w K Q else E := by
  have hw : Region.wanted o (yielded ops a.tmps) = true := by simp [Region.wanted, hgd]
  rw [if_pos hw]
  subst hl
  obtain ⟨i0, hi, hz0, hz1, hz2⟩ := info_parts Tryz.infoOwnSp
  by_cases hL : L = []
  · subst hL
    have hx' : a.eval x = .slice A 0 cap := hx
    have hrun : (Builtin.append_ #[51, 51] o.type #[v, .slice A 0 cap]).run Tryz.prog w = .ok v w := by
      have hl : ∀ (b : Option Addr) (n c : Nat), (Builtin.firstCells 3 0 (.slice A 0 cap)).run Tryz.prog w = .ok #[] w := by
        intro b n c
        cases A with
        | none => exact run_firstCells_none w 3 0 0 cap
        | some ad => exact run_firstCells_some w 3 0 ad 0 cap [] rfl (fun j v hj => by simp at hj)
      rcases hown.2 with ⟨rfl, h0⟩ | ⟨g, c2, cur, rfl, _, _, hnc, _⟩
      · rw [show (0 : Nat) = 0 from rfl] at *
        simp [Builtin.append_, run_underlying Tryz.underlying51, sizeOf, typeInfo, hi, hz1, Builtin.lenOf, hl none 0 0]
      · simp [Builtin.append_, run_underlying Tryz.underlying51, sizeOf, typeInfo, hi, hz1, Builtin.lenOf, hnc, storeCells, hl none 0 0]
    unfold Oper.wp
    simp [execOp, ho, resolve, invoke, builtin, hs, hx', hrun, Result.andThen]
    exact h v w (by rw [List.append_nil]; exact hown) (World.grownBy.refl _ _)
  · obtain ⟨p, hp⟩ : ∃ p, L[0]? = some p := by
      cases L with
      | nil => exact absurd rfl hL
      | cons p r => exact ⟨p, rfl⟩
    obtain ⟨b, off, rfl, _, _, _, _⟩ := hsrc.at_ 0 p hp
    refine wp_append_own w s x _ ho base _ i0 _ 3 24 Tryz.underlying51 hi hz0 hz1 hz2 rfl (by decide) v M.length (cellsSp M) hs hown ⟨b, off, none⟩ L.length cap (cellsSp L) hx (cellsSp_len L) ?_ (cellsSp_one L)
      (by unfold maxLen; omega) (by omega) hbase (fun v' w' h1 h2 _ => h v' w' ?_ h2)
    · intro j u hu
      rw [flat3]
      exact hsrc.cell j u hu
    · unfold OwnSp
      rw [cellsSp_app, List.length_append]
      exact h1

theorem step_append_spf {w : World} {ops : Array Oper} {o : Oper} {a : Act} {K : Act → World → Prop} {Q : Exit → Act → World → Prop} {E : Prop} (hgd : o.guard = none) (s x : Operand)
    (ho : o.op = .call { callee := .builtin .append, args := #[s, x], argTypes := #[51, 51] })
    (base : Nat) (v : Value) (A : Option Addr) (n cap : Nat) (L : List SpotV) (hs : a.eval s = v) (hown : OwnSp w base v [])
    (hx : a.eval x = .slice A n cap) (hl : L.length = n) (hsrc : Spts w A L) (hn : n ≤ 50000) (hbase : base ≤ w.heap.size)
    (h : ∀ A' c' w', OwnSp w' base (.slice A' n c') L → w.grownBy w' v.ownBlock → K (a.put o.dst (.slice A' n c')) w') : if Region.wanted o (yielded ops a.tmps) = true then Oper.wp Tryz.prog o a w K Q else E := by
  refine step_append_sps hgd s x ho base v [] A n cap L hs hown hx hl hsrc (by simp; omega) hbase fun v' w' h1 h2 => ?_
  obtain ⟨A', c', rfl⟩ := h1.form
  have e : ([] ++ L : List SpotV).length = n := hl
  rw [e] at h1 ⊢
  exact h A' c' w' h1 h2

theorem OwnSp.some_ {w : World} {base : Nat} {v : Value} {L : List SpotV} (h : OwnSp w base v L) (hn : 1 ≤ L.length) : ∃ g cap, v = .slice (some ⟨g, 0, none⟩) L.length cap ∧ base ≤ g ∧ g < w.heap.size ∧ L.length ≤ cap := by
  have h' : w.ownsRow base 98 3 v L.length (cellsSp L) := h
  rcases h'.2 with ⟨rfl, h0⟩ | ⟨g, cap, cur, rfl, hb, hg, hle, _⟩
  · omega
  · exact ⟨_, _, rfl, hb, lt_of_block hg, hle⟩
theorem OwnSp.read_ {w : World} {base : Nat} {v : Value} {L : List SpotV} (h : OwnSp w base v L) (hok : ∀ p, p ∈ L → okSp p) (hn : 1 ≤ L.length) : ∃ g off cap, v = .slice (some ⟨g, off, none⟩) L.length cap ∧ Spts w (some ⟨g, off, none⟩) L ∧ base ≤ g ∧ g < w.heap.size ∧ L.length ≤ cap := by
  obtain ⟨g, cap, rfl, h1, h2, h3⟩ := h.some_ hn
  exact ⟨g, 0, cap, rfl, h.row hok, h1, h2, h3⟩
/-- What a round has: the spots ahead, and what is left behind. -/
def restS (lim : Int) (S : List SpotV) (j : Nat) (p : SpotV) : List SpotV := S.take (j + 1) ++ sqzR lim p (S.drop (j + 1))
theorem rest_first {lim : Int} {S : List SpotV} {j : Nat} {p : SpotV} (h : S.length = j + 2) : restS lim S j p = S := by
  have hx := List.getElem?_eq_getElem (l := S) (i := j + 1) (by omega)
  have e : S.drop (j + 1) = [S[j + 1]] := by
    rw [drop_is hx, List.drop_eq_nil_of_le (by omega)]
  unfold restS
  rw [e, sqz_end, ← e, List.take_append_drop]
theorem rest_last {lim : Int} {S : List SpotV} {p : SpotV} (h : S[0]? = some p) : restS lim S 0 p = sqzS lim S := (sqzS_is h).symm
theorem rest_mem {lim : Int} {S : List SpotV} {j : Nat} {p : SpotV} : ∀ q, q ∈ restS lim S j p → q ∈ S := fun q hq => by
  unfold restS at hq
  rcases List.mem_append.1 hq with h | h
  · exact List.mem_of_mem_take h
  · exact List.mem_of_mem_drop ((sqzR_sub lim _ p).subset h)
/-- A round: the spot at j + 1 goes, or stays. -/
theorem rest_step {n lim : Int} {S : List SpotV} {j : Nat} {p s : SpotV} (hs : SpotsP 0 n S) (hp : S[j]? = some p) (hq : S[j + 1]? = some s) (hl : j + 2 < S.length) :
    ∃ q, (restS lim S (j + 1) s)[j]? = some p ∧ (restS lim S (j + 1) s)[j + 2]? = some q ∧ p.lo ≤ q.hi ∧ q.hi ≤ n ∧ (restS lim S (j + 1) s).length ≤ S.length ∧ j + 2 < (restS lim S (j + 1) s).length ∧
      restS lim S j p = if q.hi - p.lo ≤ lim then (restS lim S (j + 1) s).take (j + 1) ++ (restS lim S (j + 1) s).drop (j + 2) else restS lim S (j + 1) s := by
  have hne : S.drop (j + 2) ≠ [] := fun e => by
    have := congrArg List.length e
    rw [List.length_drop, List.length_nil] at this
    omega
  obtain ⟨q, t, e1, e2, e3⟩ := sqz_head (lim := lim) (p := s) hne
  have hlt : (S.take (j + 2)).length = j + 2 := by rw [List.length_take]; omega
  have hqS : q ∈ S := List.mem_of_mem_drop e3
  have hqb := hs.mem q hqS
  have hr : SpotsP (lastLo 0 (S.take (j + 2))) n (S.drop (j + 2)) := by
    have h' := hs
    rw [← List.take_append_drop (j + 2) S] at h'
    exact h'.right
  have h1 := hr.mem q e3
  have h2 : lastLo 0 (S.take (j + 2)) = s.lo := last_takeS hq
  have h3 := spots_at hs hq
  have h4 : lastLo 0 (S.take (j + 1)) = p.lo := last_takeS hp
  have hsl := sqz_len lim s (S.drop (j + 2))
  rw [List.length_drop] at hsl
  have hR : restS lim S (j + 1) s = S.take (j + 2) ++ (q :: t) := by unfold restS; rw [e1]
  have hlen : (q :: t).length ≤ S.length - (j + 2) := by rw [← e1]; exact hsl
  refine ⟨q, ?_, ?_, by omega, hqb.2.2, ?_, ?_, ?_⟩
  · rw [hR, List.getElem?_append_left (by omega), List.getElem?_take, if_pos (by omega)]; exact hp
  · rw [hR, List.getElem?_append_right (by omega), hlt, Nat.sub_self]; rfl
  · rw [hR, List.length_append, hlt]; omega
  · rw [hR, List.length_append, hlt, List.length_cons]; omega
  · have hst := sqz_at (lim := lim) hp hq hl
    rw [e2] at hst
    have hT1 : (restS lim S (j + 1) s).take (j + 1) = S.take (j + 1) := by
      rw [hR, List.take_append_of_le_length (by omega), List.take_take]
      congr 1; omega
    have hD1 : (restS lim S (j + 1) s).drop (j + 2) = sqzR lim s (S.drop (j + 2)) := by
      rw [hR, List.drop_append_of_le_length (by omega), List.drop_eq_nil_of_le (by omega), List.nil_append, e1]
    rw [hT1, hD1]
    unfold restS
    rw [hst]
    split
    · rfl
    · rw [snocS hq, List.append_assoc]; rfl

set_option maxRecDepth 100000 in
set_option maxHeartbeats 4000000 in
theorem rsqz18_any (w : World) (A : Option Addr) (cap : Nat) (S : List SpotV) (n lim : Int) (h : Spts w A S) (hl : S.length ≤ 20000) (hs : SpotsP 0 n S) (hn : n ≤ 9223372036854775807) (hlim : Word lim) :
    Calls Tryz.prog 26 #[.slice A S.length cap, .int .u64 lim] w fun e w' => ∃ v, e = .returned v ∧ OwnSp w' w.heap.size v (sqzS lim S) ∧ Below w.heap.size w w' := by
  have HI := Lib.hid h
  have HS := Lib.hid hs
  have HL := Lib.hid hl
  have HNN := Lib.hid hn
  have HOK := Lib.hid h.ok
  obtain ⟨lm0, lm1⟩ := hlim
  have hO := World.ownsRow_made (base := w.heap.size) (e := 98) (size := 3) w #[] 0 (by simp) (by decide) rfl
  have HO0 : Hid (OwnSp (w.alloc (.cells #[] 98)) w.heap.size (.slice (some ⟨w.heap.size, 0, none⟩) 0 0) []) := Lib.hid hO
  have HB0 : Hid (Below w.heap.size w (w.alloc (.cells #[] 98))) := Lib.hid ((Below.refl _ _).alloc (Nat.le_refl _) _)
  clear h hs hO hn
  go_enter Tryz.func26, Tryz.ntmps26
  go_wp2_with (at_builtin; refine wpList_append_sps rfl (.tmp 7) (.tmp 8) rfl w.heap.size _ [] A cap S rfl HO0.out rfl (HI.out.call HB0.out) ?c1 ?c2 ?_)
  case c1 => simp; omega
  case c2 => exact HB0.out.size
  intro v1 w1 hown1 hg1
  have hb1 := HO0.out.below HB0.out hg1 HB0.out.size
  obtain ⟨vA, vk, rfl⟩ := hown1.form
  have HO1 := Lib.hid hown1
  have HB1 := Lib.hid hb1
  clear hown1 hb1 hg1
  by_cases hs1 : S.length ≤ 1
  · have HF : Hid (sqzS lim S = S) := Lib.hid (sqzS_short hs1)
    obtain ⟨z, hz⟩ : ∃ z, (S.length : Int) - 2 = z := ⟨_, rfl⟩
    have zw : IntKind.i64.wrap z = z := by rw [IntKind.wrap_i64]; omega
    have z1 : z < 1 := by omega
    go_wp2_with fail
    rw [hz] at *
    go_loopw [5, 6] (fun s iv wr => s = .slice vA S.length vk ∧ iv = .int .i64 z ∧ OwnSp wr w.heap.size (.slice vA S.length vk) S ∧ Below w.heap.size w wr) (fun _ _ _ => 0)
    case atStart => exact ⟨rfl, by first | rfl | rw [zw], HO1.out, HB1.out⟩
    case round =>
      obtain ⟨rfl, rfl, hown, hb2⟩ := hrel
      have HO := Lib.hid hown
      have z2 : ¬ 1 ≤ z := by omega
      clear hown hz
      go_wp2_with fail
      go_ret
      exact ⟨_, rfl, by rw [HF.out]; exact HO.out, hb2⟩
  · obtain ⟨m, hm⟩ : ∃ m, S.length = m + 2 := ⟨S.length - 2, by omega⟩
    have HM := Lib.hid hm
    have zw : IntKind.i64.wrap ((S.length : Int) - 2) = (m : Int) := by rw [IntKind.wrap_i64]; omega
    have hm2 : m < S.length := by omega
    have hx := List.getElem?_eq_getElem (l := S) (i := m) hm2
    have HST : Hid (restS lim S m S[m] = S) := Lib.hid (rest_first hm)
    have HX := Lib.hid hx
    generalize S[m] = pm at *
    clear hx hm2 hm hs1
    go_wp2_with fail
    go_loopw [5, 6] (fun s iv wr => ∃ (j : Nat) (p : SpotV), iv = .int .i64 j ∧ j ≤ m ∧ S[j]? = some p ∧ OwnSp wr w.heap.size s (restS lim S j p) ∧ Below w.heap.size w wr) (fun _ iv _ => (intOf iv).toNat)
    case atStart => exact ⟨m, pm, by first | rfl | rw [zw], Nat.le_refl _, HX.out, by rw [HST.out]; exact HO1.out, HB1.out⟩
    case round =>
      obtain ⟨j, s, rfl, hj, hsj, hown, hb2⟩ := hrel
      have HSJ := Lib.hid hsj
      have HJ := Lib.hid hj
      clear zw hsj
      by_cases hz : j = 0
      · subst hz
        have HF : Hid (restS lim S 0 s = sqzS lim S) := Lib.hid (rest_last HSJ.out)
        obtain ⟨vA', vk', rfl⟩ := hown.form
        have HO := Lib.hid hown
        clear hown
        go_wp2_with fail
        go_ret
        exact ⟨_, rfl, by rw [← HF.out]; exact HO.out, hb2⟩
      · obtain ⟨i, hi⟩ : ∃ i, j - 1 = i := ⟨_, rfl⟩
        obtain ⟨k, hk⟩ : ∃ k, j + 1 = k := ⟨_, rfl⟩
        have e1 : i + 1 = j := by omega
        have e2 : i + 2 = k := by omega
        have hil : i < S.length := by have := HM.out; omega
        obtain ⟨p, hx⟩ : ∃ p, S[i]? = some p := ⟨S[i], List.getElem?_eq_getElem hil⟩
        obtain ⟨q, r1, r2, r3, r4, r5, r6, r7⟩ := rest_step (lim := lim) HS.out hx (by rw [e1]; exact HSJ.out) (by have := HM.out; omega)
        rw [e1] at r1 r2 r5 r6 r7
        rw [e2] at r2 r6 r7
        have hrm : ∀ u, u ∈ restS lim S j s → okSp u := fun u hu => HOK.out u (rest_mem u hu)
        obtain ⟨R, hR⟩ : ∃ R, restS lim S j s = R := ⟨_, rfl⟩
        rw [hR] at r1 r2 r5 r6 r7 hown hrm
        obtain ⟨rl, hrl⟩ : ∃ l, R.length = l := ⟨_, rfl⟩
        obtain ⟨g0, off, vk', hv, hrow, hg0, hg1, hck⟩ := hown.read_ hrm (by omega)
        subst hv
        rw [hrl] at r5 r6 hown hck
        rw [hrl]
        obtain ⟨b1, o1, x1, hb1, c0, c1, c2⟩ := hrow.at_ i p r1
        obtain ⟨rfl, rfl⟩ : g0 = b1 ∧ off = o1 := by
          have := Option.some.inj x1
          exact ⟨(Addr.mk.inj this).1, (Addr.mk.inj this).2.1⟩
        obtain ⟨b1, o1, x2, hb1', d0, d1, d2⟩ := hrow.at_ k q r2
        obtain ⟨rfl, rfl⟩ : g0 = b1 ∧ off = o1 := by
          have := Option.some.inj x2
          exact ⟨(Addr.mk.inj this).1, (Addr.mk.inj this).2.1⟩
        obtain ⟨px, pl, ph⟩ := p
        obtain ⟨qx, ql, qh⟩ := q
        simp only at c0 c1 c2 d0 d1 d2 r3 r4 r7
        have hpb := spots_at HS.out hx
        simp only at hpb
        have HROW := Lib.hid hrow
        have HO := Lib.hid hown
        have HW := Lib.hid hb2
        have HRL := Lib.hid hrl
        have f1 : IntKind.i64.wrap ((j : Int) + 1) = (k : Int) := by rw [IntKind.wrap_i64]; omega
        have f2 : IntKind.i64.wrap ((j : Int) - 1) = (i : Int) := by rw [IntKind.wrap_i64]; omega
        have f3 : (k : Int) < rl := by omega
        have f4 : (i : Int) < rl := by omega
        have f5 : IntKind.u64.wrap (qh - pl) = qh - pl := by have := HNN.out; rw [IntKind.wrap_u64]; omega
        have f6 : (1 : Int) ≤ j := by omega
        by_cases hc : qh - pl ≤ lim
        · rw [if_pos hc] at r7
          have HX := Lib.hid hx
          have HN : Hid (restS lim S i ⟨px, pl, ph⟩ = R.take j ++ R.drop k) := Lib.hid r7
          have f7 : decide (qh - pl ≤ lim) = true := decide_eq_true hc
          have HII : Hid (j = i + 1) := Lib.hid e1.symm
          have HL1 : Hid ((R.take j).length = j) := Lib.hid (by rw [List.length_take]; omega)
          have HL2 : Hid ((R.drop k).length = rl - k) := Lib.hid (by rw [List.length_drop]; omega)
          have HN1 : Hid (j ≤ 50000) := Lib.hid (by omega)
          have HN2 : Hid ((R.take j).length + (rl - k) ≤ 100000) := Lib.hid (by rw [HL1.out]; omega)
          have f8 : (0 : Int) ≤ j := by omega
          have f9 : (j : Int) ≤ vk' := by omega
          have f10 : (k : Int) ≤ rl := by omega
          have f11 : ¬ vk' = k := by omega
          clear hrl hown hrow x1 x2 r7 hR c0 c2 d0 d1 r1 r2 hx hpb e1 e2 hi hk
          go_wp2_with fail
          go_quiet (fail)
          rename_i nq
          have HW2 := Lib.hid (below_drewT HW.out nq)
          have HR2 := Lib.hid (HROW.out.call (below_drewT (Below.refl _ _) nq))
          generalize wr.drewN nq = wq at *
          have bD : Below w.heap.size w (wq.drew.alloc (.cells #[] 98)) := HW2.out.drew.alloc HW2.out.size _
          have bQ : Below wq.heap.size wq (wq.drew.alloc (.cells #[] 98)) := (Below.refl _ _).drew.alloc (Nat.le_refl _) _
          have hO := World.ownsRow_made (base := w.heap.size) (e := 98) (size := 3) wq.drew #[] 0 (by have := HW2.out.size; simp; omega) (by decide) rfl
          have HE0 : Hid (OwnSp (wq.drew.alloc (.cells #[] 98)) w.heap.size (.slice (some ⟨wq.heap.size, 0, none⟩) 0 0) []) := Lib.hid hO
          have HBD := Lib.hid bD
          have HT1 := Lib.hid ((HR2.out.call bQ).take j)
          have HS1 := Lib.hid bD.size
          have HD2 : Hid (∀ w', (wq.drew.alloc (.cells #[] 98)).grownBy w' (Value.slice (some ⟨wq.heap.size, 0, none⟩) 0 0).ownBlock → Spts w' (some ⟨g0, off + k * 3, none⟩) (R.drop k) ∧ Below w.heap.size w w') := Lib.hid fun w' hg =>
            ⟨(HR2.out.call (bQ.grown hg bQ.size (fun x hx => by have := (HE0.out.lt x hx).1; have h2 : wq.heap.size = x := Option.some.inj hx; omega))).drop k, HE0.out.below HBD.out hg HBD.out.size⟩
          clear bD bQ hO hb2 hb1 hb1' hg0 hg1
          go_wp2_with fail
          go_region_law (first
            | (refine step_append_spf rfl (.tmp 32) (.tmp 35) rfl w.heap.size _ (some ⟨g0, off, none⟩) j vk' (R.take j) rfl HE0.out rfl HL1.out HT1.out HN1.out HS1.out ?_; intro A5 k5 w5 hown5 hg5; have HO5 := Lib.hid hown5; have HG5 := Lib.hid (HD2.out _ hg5); clear hown5 hg5)
            | (refine step_append_sps rfl (.tmp 36) (.tmp 40) rfl w.heap.size _ (R.take j) (some ⟨g0, off + k * 3, none⟩) (rl - k) (vk' - k) (R.drop k) rfl HO5.out rfl HL2.out HG5.out.1 HN2.out HG5.out.2.size ?_; intro v6 w6 hown6 hg6; have HO6 := Lib.hid hown6; have HB6 := Lib.hid (HO5.out.below HG5.out.2 hg6 HG5.out.2.size); clear hown6 hg6))
          go_wp2_with fail
          go_roundw
          case rel => exact ⟨i, ⟨px, pl, ph⟩, by first | rfl | (rw [f2]), by have := HII.out; have := HJ.out; omega, HX.out, by rw [HN.out]; exact HO6.out, HB6.out⟩
          case measure => have := HII.out; simp [intOf]; omega
        · rw [if_neg hc] at r7
          have HX := Lib.hid hx
          have HN : Hid (restS lim S i ⟨px, pl, ph⟩ = R) := Lib.hid r7
          have f7 : decide (qh - pl ≤ lim) = false := decide_eq_false hc
          have HII : Hid (j = i + 1) := Lib.hid e1.symm
          clear hrl hown hrow x1 x2 r7 hR c0 c2 d0 d1 r1 r2 hx hpb e1 e2 hi hk
          go_wp2_with fail
          go_quiet (fail)
          rename_i nq
          go_wp2_with fail
          go_roundw
          case rel => exact ⟨i, ⟨px, pl, ph⟩, by first | rfl | (rw [f2]), by have := HII.out; omega, HX.out, by rw [HN.out]; exact (by first | exact HO.out.call (below_drewT (Below.refl _ _) nq)), below_drewT HW.out nq⟩
          case measure => have := HII.out; simp [intOf]; omega
end Go.Proofs.YtfmlkohijkalbaaGreat

/-
  The reference of layer 18: Insert.
-/
namespace Go.Proofs.YtfmlkohijkalbaaGreat
set_option linter.unusedVariables false
set_option linter.unusedSimpArgs false
open Go.RowKit

theorem ah_step {S : List SpotV} {k : Nat} {s : SpotV} (h : S[k]? = some s) (x : Int) : ahS (S.take (k + 1)) x = ahS (S.take k) x ++ (if s.x ≤ x then [s] else []) := by
  rw [snocS h]; unfold ahS; rw [List.filter_append]
  congr 1
  by_cases c : s.x ≤ x
  · rw [List.filter_cons_of_pos (by simpa using c), if_pos c]; rfl
  · rw [List.filter_cons_of_neg (by simpa using c), if_neg c]; rfl
theorem ah_len (S : List SpotV) (k : Nat) (x : Int) : (ahS (S.take k) x).length ≤ S.length := Nat.le_trans (List.length_filter_le _ _) (List.length_take_le' _ _)
theorem up_step {S : List SpotV} {k : Nat} {s : SpotV} (h : S[k]? = some s) : upS (S.take (k + 1)) = upS (S.take k) ++ [⟨s.x, s.lo + 1, s.hi + 1⟩] := by
  rw [snocS h]; unfold upS; rw [List.map_append]; rfl
theorem up_len (S : List SpotV) (k : Nat) : (upS (S.take k)).length ≤ S.length := by unfold upS; rw [List.length_map]; exact List.length_take_le' _ _
/-- How the new value's spot comes about. -/
theorem new_way {n : Int} {S : List SpotV} (hs : SpotsP 0 n S) (x : Int) :
    ∃ kk, (ahS S x).length = kk ∧ kk ≤ S.length ∧ S.drop kk = bhS S x ∧
      ((kk = 0 ∧ S.length = 0 ∧ totS S = 0 ∧ newS (ahS S x) (bhS S x) x = ⟨x, 1, 1⟩) ∨ (kk = 0 ∧ 0 < S.length ∧ newS (ahS S x) (bhS S x) x = ⟨x, 1, 1⟩) ∨
        (0 < kk ∧ kk < S.length ∧ ∃ p q, (ahS S x)[kk - 1]? = some p ∧ S[kk]? = some q ∧ 0 < p.lo ∧ p.lo ≤ n ∧ newS (ahS S x) (bhS S x) x = ⟨x, p.lo + 1, q.hi⟩) ∨
        (0 < kk ∧ kk = S.length ∧ ∃ p, (ahS S x)[kk - 1]? = some p ∧ 0 < p.lo ∧ p.lo ≤ n ∧ totS S = p.lo ∧ newS (ahS S x) (bhS S x) x = ⟨x, p.lo + 1, p.lo + 1⟩)) := by
  have hp := part_x x hs
  have hlen := congrArg List.length hp
  rw [List.length_append] at hlen
  have hdr' : ∀ k, k = (ahS S x).length → S.drop k = bhS S x := fun k hk => by
    conv => lhs; rw [hp]
    rw [hk, List.drop_append_of_le_length (Nat.le_refl _), List.drop_length, List.nil_append]
  have hdr := hdr' _ rfl
  clear hdr'
  refine ⟨_, rfl, by omega, hdr, ?_⟩
  generalize hP : ahS S x = P at *
  generalize hQ : bhS S x = Q at *
  rcases Nat.eq_zero_or_pos P.length with h0 | h0
  · have e := List.eq_nil_of_length_eq_zero h0
    rcases Nat.eq_zero_or_pos S.length with h1 | h1
    · have e1 := List.eq_nil_of_length_eq_zero h1
      refine Or.inl ⟨h0, h1, by rw [e1]; rfl, ?_⟩
      rw [e]; rfl
    · refine Or.inr (Or.inl ⟨h0, h1, ?_⟩)
      rw [e]; rfl
  · have hx := List.getElem?_eq_getElem (l := P) (i := P.length - 1) (by omega)
    have hgl : P.getLast? = P[P.length - 1]? := List.getLast?_eq_getElem?
    have hm : P[P.length - 1] ∈ S := by
      rw [hp]; exact List.mem_append_left _ (List.getElem_mem _)
    have hb := hs.mem _ hm
    rcases Nat.lt_or_ge P.length S.length with h1 | h1
    · refine Or.inr (Or.inr (Or.inl ⟨h0, h1, P[P.length - 1], S[P.length], hx, List.getElem?_eq_getElem h1, by omega, by omega, ?_⟩))
      have hq : Q = S[P.length] :: S.drop (P.length + 1) := by rw [← hdr]; exact drop_is (List.getElem?_eq_getElem h1)
      unfold newS
      rw [hgl, hx, hq]
    · have hQ0 : Q = [] := List.eq_nil_of_length_eq_zero (by omega)
      refine Or.inr (Or.inr (Or.inr ⟨h0, by omega, P[P.length - 1], hx, by omega, by omega, ?_, ?_⟩))
      · have : S = P := by rw [hp, hQ0, List.append_nil]
        unfold totS
        rw [this, hgl, hx]
      · unfold newS
        rw [hgl, hx, hQ0]

set_option maxRecDepth 100000 in
set_option maxHeartbeats 4000000 in
theorem rins18_some (w : World) (bA oA : Nat) (cap : Nat) (S : List SpotV) (n x : Int) (h : Spts w (some ⟨bA, oA, none⟩) S) (hc : S.length ≤ cap) (hl : S.length ≤ 20000) (hs : SpotsP 0 n S) (hn : n < 9223372036854775807) (hx : I64 x) :
    Calls Tryz.prog 52 #[.slice (some ⟨bA, oA, none⟩) S.length cap, .int .i64 x] w fun e w' => ∃ v, e = .returned v ∧ OwnSp w' w.heap.size v (insS S x) ∧ Below w.heap.size w w' := by
  have HI := Lib.hid h
  have HS := Lib.hid hs
  have HL := Lib.hid hl
  have HC := Lib.hid hc
  have HN := Lib.hid hn
  obtain ⟨x0, x1⟩ := hx
  obtain ⟨t, ht⟩ : ∃ t, totS S = t := ⟨_, rfl⟩
  have HT := Lib.hid ht
  have CT := Lib.hid (rtot18_any w _ cap S t h hl ht)
  clear h hc hs hn ht
  go_enter Tryz.func52, Tryz.ntmps52
  go_wp2_with fail
  refine CT.out.mono ?_
  rintro e w' ⟨rfl, e2⟩
  have e2 := e2.symm
  subst e2
  go_upto_block 0 with fail
  go_cut [5] (fun s wx => ∃ vA vk, s = .slice vA (ahS S x).length vk ∧ OwnSp wx w.heap.size (.slice vA (ahS S x).length vk) (ahS S x) ∧ Below w.heap.size w wx)
  case first =>
    go_wp2_with fail
    go_loopw [5, 17] (fun s j wr => ∃ (k : Nat), k ≤ S.length ∧ j = .int .i64 k ∧ OwnSp wr w.heap.size s (ahS (S.take k) x) ∧ Below w.heap.size w wr) (fun _ j _ => S.length - (intOf j).toNat)
    case atStart => exact ⟨0, Nat.zero_le _, rfl, OwnSp.nil _ _, Below.refl _ _⟩
    case round =>
      obtain ⟨k, hk, rfl, hown, hb2⟩ := hrel
      have hbs := hb2.size
      by_cases hlt : k < S.length
      · have kk : (k : Int) < S.length := by omega
        have hxk : S[k]? = some S[k] := List.getElem?_eq_getElem hlt
        generalize hit : S[k] = p at *
        obtain ⟨px, pl, ph⟩ := p
        obtain ⟨b0, off, e0, hbl, c0, c1, c2⟩ := (HI.out.call hb2).at_ k _ hxk
        obtain ⟨rfl, rfl⟩ : bA = b0 ∧ oA = off := by
          have := Option.some.inj e0
          exact ⟨(Addr.mk.inj this).1, (Addr.mk.inj this).2.1⟩
        have HST := Lib.hid (ah_step hxk x)
        have HLL := Lib.hid (ah_len S k x)
        simp only at c0 c1 c2 HST
        have HB := Lib.hid hb2
        clear hxk hit
        by_cases hcx : px ≤ x
        · rw [if_pos hcx] at HST
          obtain ⟨vA, vk, rfl⟩ := hown.form
          have HO := Lib.hid hown
          clear hown
          go_wp2_with (at_builtin; refine wpList_append_sp rfl _ _ rfl w.heap.size _ _ _ rfl (wr.heap.size + 1) ⟨px, pl, ph⟩ rfl ((HO.out.alloc _).alloc _) rfl ?c1 ?c2 ?c3 ?c4 ?c5 ?_)
          case c4 => have := HL.out; have := HLL.out; omega
          case c5 => have := HB.out.size; simp; omega
          intro g' cp w1 hown' hgrow _
          have hb4 := OwnSp.below ((HO.out.alloc _).alloc _) ((HB.out.alloc HB.out.size _).alloc (by have := HB.out.size; simp; omega) _) hgrow (by have := HB.out.size; simp; omega)
          rw [← HST.out] at hown'
          clear hgrow
          go_wp2_with fail
          go_roundw
          case rel => exact ⟨k + 1, by omega, by go_num, hown', hb4⟩
          case measure => simp [intOf]; omega
        · rw [if_neg hcx, List.append_nil] at HST
          rw [← HST.out] at hown
          have HO := Lib.hid hown
          have hcd : decide (px ≤ x) = false := decide_eq_false hcx
          clear hown
          go_wp2_with fail
          go_roundw
          case rel => exact ⟨k + 1, by omega, by go_num, HO.out.alloc _, HB.out.alloc HB.out.size _⟩
          case measure => simp [intOf]; omega
      · obtain rfl : k = S.length := by omega
        rw [List.take_length] at hown
        have kk : ¬ (S.length : Int) < S.length := by omega
        obtain ⟨vA, vk, rfl⟩ := hown.form
        have HO := Lib.hid hown
        clear hown
        go_wp2_with fail
        go_meet
        exact ⟨vA, vk, rfl, HO.out, hb2⟩
  case rest =>
    obtain ⟨vA, vk, rfl, hown, hb2⟩ := hcut
    obtain ⟨kk, hkk, hkl, hdr, hway⟩ := new_way HS.out x
    have hPok : ∀ p, p ∈ ahS S x → okSp p := fun p hp => HI.out.ok p (ah_mem hp).1
    obtain ⟨P, hP⟩ : ∃ P, ahS S x = P := ⟨_, rfl⟩
    obtain ⟨z, hz⟩ : ∃ z, newS (ahS S x) (bhS S x) x = z := ⟨_, rfl⟩
    have HINS : Hid (insS S x = P ++ z :: upS (S.drop kk)) := Lib.hid (by unfold insS; rw [hdr, hz, hP])
    rw [hz, hP] at hway
    rw [hP] at hown hPok hkk
    rw [hP]
    have hsp : Spts wc vA P := hown.row hPok
    rw [hkk] at hown
    rw [hkk]
    have HO := Lib.hid hown
    have HP := Lib.hid hsp
    have HW := Lib.hid hb2
    have HKL := Lib.hid hkl
    have HKK := Lib.hid hkk
    clear hown hsp hdr hz hP hPok hkk
    have HZX := Lib.hid hway
    clear hway
    have HQ : Hid (∀ W, Below w.heap.size w W → Spts W (some ⟨bA, oA + kk * 3, none⟩) (S.drop kk)) := Lib.hid fun W hW => (HI.out.call hW).drop kk
    have HB1 := Lib.hid hb2.size
    rcases HZX.out with ⟨w1, w2, w3, rfl⟩ | ⟨w1, w2, rfl⟩ | ⟨w1, w2, p, q, p1, q1, p2, p3, rfl⟩ | ⟨w1, w2, p, p1, p2, p3, p4, rfl⟩
    · subst w1
      have g0 : t = 0 := by rw [← HT.out, w3]
      subst g0
      have g1 : ((0 : Int) == (S.length : Int)) = true := by rw [w2]; rfl
      have g2 : ¬ (0 : Int) < S.length := by omega
      have f0 : (0 : Int) ≤ S.length := by omega
      clear w3
      have f8 : (0 : Int) ≤ 0 := by omega
      go_wp2_with (at_builtin; refine wpList_append_sp rfl _ _ rfl w.heap.size _ _ 0 ?v1c0 (wc.heap.size + 1) ⟨x, 1, 1⟩ rfl ((HO.out.alloc _).alloc _) rfl ?v1c1 ?v1c2 ?v1c3 ?v1c4 ?v1c5 ?_)
      case v1c0 => first | exact HKK.out | exact List.eq_nil_of_length_eq_zero HKK.out
      case v1c5 => have := HB1.out; simp; omega
      intro g' cp w5 hown' hgrow _
      have hb4 := OwnSp.below ((HO.out.alloc _).alloc _) ((HW.out.alloc HW.out.size _).alloc (by have := HB1.out; simp; omega) _) hgrow (by have := HB1.out; simp; omega)
      have HO5 := Lib.hid hown'
      have HB5 := Lib.hid hb4
      have HB6 := Lib.hid hb4.size
      clear hgrow hown' hb4
      go_wp2_with fail
      go_loopw [5, 79] (fun s j wr => j = .int .i64 0 ∧ OwnSp wr w.heap.size s (P ++ [(⟨x, 1, 1⟩ : SpotV)]) ∧ Below w.heap.size w wr) (fun _ _ _ => 0)
      case atStart => exact ⟨rfl, HO5.out, HB5.out⟩
      case round =>
        obtain ⟨rfl, hown, hb7⟩ := hrel
        have HF : Hid (P ++ [(⟨x, 1, 1⟩ : SpotV)] = insS S x) := Lib.hid (by
          rw [HINS.out, List.drop_eq_nil_of_le (by have := w2; omega)]; rfl)
        obtain ⟨vB, vl, rfl⟩ := hown.form
        have HO7 := Lib.hid hown
        have hz9 : S.length = 0 := by have := w2; omega
        clear hown
        go_wp2_with fail
        go_ret
        exact ⟨_, rfl, by rw [← HF.out]; exact HO7.out, hb7⟩
    · subst w1
      have g1 : ((0 : Int) == (S.length : Int)) = false := by rw [beq_eq_false_iff_ne]; omega
      have g2 : (0 : Int) < S.length := by omega
      have g7 : ¬ cap = 0 := by have := HC.out; omega
      have f0 : (0 : Int) ≤ S.length := by omega
      have f8 : (0 : Int) ≤ 0 := by omega
      go_wp2_with (at_builtin; refine wpList_append_sp rfl _ _ rfl w.heap.size _ _ 0 ?v2c0 (wc.heap.size + 1) ⟨x, 1, 1⟩ rfl ((HO.out.alloc _).alloc _) rfl ?v2c1 ?v2c2 ?v2c3 ?v2c4 ?v2c5 ?_)
      case v2c0 => first | exact HKK.out | exact List.eq_nil_of_length_eq_zero HKK.out
      case v2c5 => have := HB1.out; simp; omega
      intro g' cp w5 hown' hgrow _
      have hb4 := OwnSp.below ((HO.out.alloc _).alloc _) ((HW.out.alloc HW.out.size _).alloc (by have := HB1.out; simp; omega) _) hgrow (by have := HB1.out; simp; omega)
      have HO5 := Lib.hid hown'
      have HB5 := Lib.hid hb4
      have HB6 := Lib.hid hb4.size
      clear hgrow hown' hb4
      go_wp2_with fail
      have HQL : Hid (S.length = S.length) := Lib.hid rfl
      have HQ2 : Hid (S.length ≤ 20000) := HL
      go_loopw [5, 79] (fun s j wr => ∃ (i : Nat), i ≤ S.length ∧ j = .int .i64 i ∧ OwnSp wr w.heap.size s (P ++ [(⟨x, 1, 1⟩ : SpotV)] ++ upS (S.take i)) ∧ Below w.heap.size w wr) (fun _ j _ => S.length - (intOf j).toNat)
      case atStart => exact ⟨0, Nat.zero_le _, rfl, by rw [List.take_zero]; show OwnSp _ _ _ (P ++ [(⟨x, 1, 1⟩ : SpotV)] ++ []); rw [List.append_nil]; exact HO5.out, HB5.out⟩
      case round =>
        obtain ⟨i, hi, rfl, hown, hb7⟩ := hrel
        have hb7s := hb7.size
        by_cases hlt : i < S.length
        · have hix : i < S.length := by exact hlt
          obtain ⟨s, hsx⟩ : ∃ s, S[i]? = some s := ⟨S[i], List.getElem?_eq_getElem hix⟩
          obtain ⟨b9, o9, e9, hb9, m0, m1, m2⟩ := (HI.out.call hb7).at_ i _ hsx
          obtain ⟨rfl, rfl⟩ : bA = b9 ∧ oA = o9 := by
            have := Option.some.inj e9
            exact ⟨(Addr.mk.inj this).1, (Addr.mk.inj this).2.1⟩
          have hsb := HS.out.mem s (List.mem_of_getElem? hsx)
          obtain ⟨sx, sl, sh⟩ := s
          simp only at m0 m1 m2 hsb
          have j1 : IntKind.u64.wrap (sl + 1) = sl + 1 := by have := HN.out; rw [IntKind.wrap_u64]; omega
          have j2 : IntKind.u64.wrap (sh + 1) = sh + 1 := by have := HN.out; rw [IntKind.wrap_u64]; omega
          have j5 : i < 30000 := by have := HQ2.out; omega
          have j3 : (i : Int) < S.length := by omega
          have j4 : (i : Int) < S.length := by have := HQL.out; omega
          have HUS := Lib.hid (up_step hsx)
          have HUL : Hid ((P ++ [(⟨x, 1, 1⟩ : SpotV)] ++ upS (S.take i)).length ≤ 60000) := Lib.hid (by
            have a1 := up_len S i

            rw [List.length_append, List.length_append, HKK.out, List.length_singleton]
            have := HL.out; have := HKL.out; have := HQ2.out; omega)
          obtain ⟨vB, vl, rfl⟩ := hown.form
          have HO7 := Lib.hid hown
          have HB7 := Lib.hid hb7
          clear hown hsx e9 hix hsb
          obtain ⟨R, hR⟩ : ∃ R, P ++ [(⟨x, 1, 1⟩ : SpotV)] ++ upS (S.take i) = R := ⟨_, rfl⟩
          have HRR := Lib.hid hR
          rw [hR] at HO7 HUL
          rw [hR]
          clear hR
          obtain ⟨ln, hln⟩ : ∃ n, R.length = n := ⟨_, rfl⟩
          have HLN := Lib.hid hln
          rw [hln] at HO7 HUL
          rw [hln]
          clear hln
          go_wp2_with (at_builtin; refine wpList_append_sp rfl _ _ rfl w.heap.size _ _ ln ?v2e0 (wr.heap.size + 1) ⟨sx, sl + 1, sh + 1⟩ rfl ((HO7.out.alloc _).alloc _) rfl ?v2e1 ?v2e2 ?v2e3 ?v2e4 ?v2e5 ?_)
          case v2e0 => exact HLN.out
          case v2e4 => have := HUL.out; omega
          case v2e5 => have := HB7.out.size; simp; omega
          intro g9 cp9 w9 hown9 hgrow9 _
          have hb9' := OwnSp.below ((HO7.out.alloc _).alloc _) ((HB7.out.alloc HB7.out.size _).alloc (by have := HB7.out.size; simp; omega) _) hgrow9 (by have := HB7.out.size; simp; omega)
          have HO9 := Lib.hid hown9
          have HB9 := Lib.hid hb9'
          clear hgrow9 hown9 hb9'
          go_wp2_with fail
          go_roundw
          case rel => exact ⟨i + 1, by omega, by go_num, by rw [HUS.out, ← List.append_assoc, HRR.out]; exact HO9.out, HB9.out⟩
          case measure => simp [intOf]; omega
        · obtain rfl : i = S.length := by omega
          have HF : Hid (P ++ [(⟨x, 1, 1⟩ : SpotV)] ++ upS (S.take S.length) = insS S x) := Lib.hid (by
            rw [HINS.out, List.take_of_length_le (by exact Nat.le_refl _), List.append_assoc]; rfl)
          rw [HF.out] at hown
          obtain ⟨vB, vl, rfl⟩ := hown.form
          have HO7 := Lib.hid hown
          have hz9 : ¬ ((S.length : Nat) : Int) < S.length := by omega
          clear hown
          go_wp2_with fail
          go_ret
          exact ⟨_, rfl, HO7.out, hb7⟩
    · obtain ⟨b0, off, rfl, hbl, c0, c1, c2⟩ := HP.out.at_ _ _ p1
      obtain ⟨b1, o1, e1, hbl', d0, d1, d2⟩ := (HI.out.call hb2).at_ _ _ q1
      obtain ⟨rfl, rfl⟩ : bA = b1 ∧ oA = o1 := by
        have := Option.some.inj e1
        exact ⟨(Addr.mk.inj this).1, (Addr.mk.inj this).2.1⟩
      clear e1
      obtain ⟨px, pl, ph⟩ := p
      obtain ⟨qx, qlo, qh⟩ := q
      simp only at c0 c1 c2 p2 p3 d0 d1 d2
      have g1 : (0 : Int) < kk := by omega
      have g3 : IntKind.i64.wrap ((kk : Int) - 1) = ((kk - 1 : Nat) : Int) := by rw [IntKind.wrap_i64]; omega
      have g4 : ((kk - 1 : Nat) : Int) < kk := by omega
      have g5 : IntKind.u64.wrap (pl + 1) = pl + 1 := by have := HN.out; rw [IntKind.wrap_u64]; omega
      have f0 : (kk : Int) ≤ S.length := by omega
      have g2 : (kk : Int) < S.length := by omega
      have g6 : ((kk : Int) == (S.length : Int)) = false := by rw [beq_eq_false_iff_ne]; omega
      have g7 : ¬ cap = kk := by have := HC.out; omega
      clear p1 q1 d0 d1 c0 c2
      have f8 : (0 : Int) ≤ kk := by omega
      go_wp2_with (at_builtin; refine wpList_append_sp rfl _ _ rfl w.heap.size _ _ kk ?v3c0 (wc.heap.size + 1) ⟨x, pl + 1, qh⟩ rfl ((HO.out.alloc _).alloc _) rfl ?v3c1 ?v3c2 ?v3c3 ?v3c4 ?v3c5 ?_)
      case v3c0 => first | exact HKK.out | exact List.eq_nil_of_length_eq_zero HKK.out
      case v3c4 => have := HL.out; omega
      case v3c5 => have := HB1.out; simp; omega
      intro g' cp w5 hown' hgrow _
      have hb4 := OwnSp.below ((HO.out.alloc _).alloc _) ((HW.out.alloc HW.out.size _).alloc (by have := HB1.out; simp; omega) _) hgrow (by have := HB1.out; simp; omega)
      have HO5 := Lib.hid hown'
      have HB5 := Lib.hid hb4
      have HB6 := Lib.hid hb4.size
      clear hgrow hown' hb4
      go_wp2_with fail
      obtain ⟨ql, hql⟩ : ∃ q : Nat, (S.length - kk) = q := ⟨_, rfl⟩
      have HQL : Hid ((S.drop kk).length = ql) := Lib.hid (by rw [List.length_drop]; exact hql)
      have HQ2 : Hid (ql ≤ 20000) := Lib.hid (by have := HL.out; omega)
      rw [hql]
      clear hql
      go_loopw [5, 79] (fun s j wr => ∃ (i : Nat), i ≤ ql ∧ j = .int .i64 i ∧ OwnSp wr w.heap.size s (P ++ [(⟨x, pl + 1, qh⟩ : SpotV)] ++ upS ((S.drop kk).take i)) ∧ Below w.heap.size w wr) (fun _ j _ => ql - (intOf j).toNat)
      case atStart => exact ⟨0, Nat.zero_le _, rfl, by rw [List.take_zero]; show OwnSp _ _ _ (P ++ [(⟨x, pl + 1, qh⟩ : SpotV)] ++ []); rw [List.append_nil]; exact HO5.out, HB5.out⟩
      case round =>
        obtain ⟨i, hi, rfl, hown, hb7⟩ := hrel
        have hb7s := hb7.size
        by_cases hlt : i < ql
        · have hix : i < (S.drop kk).length := by rw [HQL.out]; exact hlt
          obtain ⟨s, hsx⟩ : ∃ s, (S.drop kk)[i]? = some s := ⟨(S.drop kk)[i], List.getElem?_eq_getElem hix⟩
          obtain ⟨b9, o9, e9, hb9, m0, m1, m2⟩ := (HQ.out _ hb7).at_ i _ hsx
          obtain ⟨rfl, rfl⟩ : bA = b9 ∧ oA + kk * 3 = o9 := by
            have := Option.some.inj e9
            exact ⟨(Addr.mk.inj this).1, (Addr.mk.inj this).2.1⟩
          have hsb := HS.out.mem s (List.mem_of_mem_drop (List.mem_of_getElem? hsx))
          obtain ⟨sx, sl, sh⟩ := s
          simp only at m0 m1 m2 hsb
          have j1 : IntKind.u64.wrap (sl + 1) = sl + 1 := by have := HN.out; rw [IntKind.wrap_u64]; omega
          have j2 : IntKind.u64.wrap (sh + 1) = sh + 1 := by have := HN.out; rw [IntKind.wrap_u64]; omega
          have j5 : i < 30000 := by have := HQ2.out; omega
          have j3 : (i : Int) < ql := by omega
          skip
          have HUS := Lib.hid (up_step hsx)
          have HUL : Hid ((P ++ [(⟨x, pl + 1, qh⟩ : SpotV)] ++ upS ((S.drop kk).take i)).length ≤ 60000) := Lib.hid (by
            have a1 := up_len (S.drop kk) i
            rw [HQL.out] at a1
            rw [List.length_append, List.length_append, HKK.out, List.length_singleton]
            have := HL.out; have := HKL.out; have := HQ2.out; omega)
          obtain ⟨vB, vl, rfl⟩ := hown.form
          have HO7 := Lib.hid hown
          have HB7 := Lib.hid hb7
          clear hown hsx e9 hix hsb
          obtain ⟨R, hR⟩ : ∃ R, P ++ [(⟨x, pl + 1, qh⟩ : SpotV)] ++ upS ((S.drop kk).take i) = R := ⟨_, rfl⟩
          have HRR := Lib.hid hR
          rw [hR] at HO7 HUL
          rw [hR]
          clear hR
          obtain ⟨ln, hln⟩ : ∃ n, R.length = n := ⟨_, rfl⟩
          have HLN := Lib.hid hln
          rw [hln] at HO7 HUL
          rw [hln]
          clear hln
          go_wp2_with (at_builtin; refine wpList_append_sp rfl _ _ rfl w.heap.size _ _ ln ?v3e0 (wr.heap.size + 1) ⟨sx, sl + 1, sh + 1⟩ rfl ((HO7.out.alloc _).alloc _) rfl ?v3e1 ?v3e2 ?v3e3 ?v3e4 ?v3e5 ?_)
          case v3e0 => exact HLN.out
          case v3e4 => have := HUL.out; omega
          case v3e5 => have := HB7.out.size; simp; omega
          intro g9 cp9 w9 hown9 hgrow9 _
          have hb9' := OwnSp.below ((HO7.out.alloc _).alloc _) ((HB7.out.alloc HB7.out.size _).alloc (by have := HB7.out.size; simp; omega) _) hgrow9 (by have := HB7.out.size; simp; omega)
          have HO9 := Lib.hid hown9
          have HB9 := Lib.hid hb9'
          clear hgrow9 hown9 hb9'
          go_wp2_with fail
          go_roundw
          case rel => exact ⟨i + 1, by omega, by go_num, by rw [HUS.out, ← List.append_assoc, HRR.out]; exact HO9.out, HB9.out⟩
          case measure => simp [intOf]; omega
        · obtain rfl : i = ql := by omega
          have HF : Hid (P ++ [(⟨x, pl + 1, qh⟩ : SpotV)] ++ upS ((S.drop kk).take i) = insS S x) := Lib.hid (by
            rw [HINS.out, List.take_of_length_le (by rw [HQL.out]; exact Nat.le_refl _), List.append_assoc]; rfl)
          rw [HF.out] at hown
          obtain ⟨vB, vl, rfl⟩ := hown.form
          have HO7 := Lib.hid hown
          have hz9 : ¬ ((i : Nat) : Int) < i := by omega
          clear hown
          go_wp2_with fail
          go_ret
          exact ⟨_, rfl, HO7.out, hb7⟩
    · obtain ⟨b0, off, rfl, hbl, c0, c1, c2⟩ := HP.out.at_ _ _ p1
      obtain ⟨px, pl, ph⟩ := p
      simp only at c0 c1 c2 p2 p3 p4
      have g1 : (0 : Int) < kk := by omega
      have g3 : IntKind.i64.wrap ((kk : Int) - 1) = ((kk - 1 : Nat) : Int) := by rw [IntKind.wrap_i64]; omega
      have g4 : ((kk - 1 : Nat) : Int) < kk := by omega
      have g5 : IntKind.u64.wrap (pl + 1) = pl + 1 := by have := HN.out; rw [IntKind.wrap_u64]; omega
      have f0 : (kk : Int) ≤ S.length := by omega
      have g0 : t = pl := by rw [← HT.out, p4]
      subst g0
      have g2 : ¬ (kk : Int) < S.length := by omega
      have g6 : ((kk : Int) == (S.length : Int)) = true := by rw [← w2]; simp
      have HW2 := Lib.hid w2
      clear p1 p4 c0 c2 w2
      by_cases hcz : cap = kk
      · have f8 : (0 : Int) ≤ kk := by omega
        go_wp2_with (at_builtin; refine wpList_append_sp rfl _ _ rfl w.heap.size _ _ kk ?v4c0 (wc.heap.size + 1) ⟨x, t + 1, t + 1⟩ rfl ((HO.out.alloc _).alloc _) rfl ?v4c1 ?v4c2 ?v4c3 ?v4c4 ?v4c5 ?_)
        case v4c0 => first | exact HKK.out | exact List.eq_nil_of_length_eq_zero HKK.out
        case v4c4 => have := HL.out; omega
        case v4c5 => have := HB1.out; simp; omega
        intro g' cp w5 hown' hgrow _
        have hb4 := OwnSp.below ((HO.out.alloc _).alloc _) ((HW.out.alloc HW.out.size _).alloc (by have := HB1.out; simp; omega) _) hgrow (by have := HB1.out; simp; omega)
        have HO5 := Lib.hid hown'
        have HB5 := Lib.hid hb4
        have HB6 := Lib.hid hb4.size
        clear hgrow hown' hb4
        go_wp2_with fail
        go_loopw [5, 79] (fun s j wr => j = .int .i64 0 ∧ OwnSp wr w.heap.size s (P ++ [(⟨x, t + 1, t + 1⟩ : SpotV)]) ∧ Below w.heap.size w wr) (fun _ _ _ => 0)
        case atStart => exact ⟨rfl, HO5.out, HB5.out⟩
        case round =>
          obtain ⟨rfl, hown, hb7⟩ := hrel
          have HF : Hid (P ++ [(⟨x, t + 1, t + 1⟩ : SpotV)] = insS S x) := Lib.hid (by
            rw [HINS.out, List.drop_eq_nil_of_le (by have := HW2.out; omega)]; rfl)
          obtain ⟨vB, vl, rfl⟩ := hown.form
          have HO7 := Lib.hid hown
          have hz9 : S.length - kk = 0 := by have := HW2.out; omega
          clear hown
          go_wp2_with fail
          go_ret
          exact ⟨_, rfl, by rw [← HF.out]; exact HO7.out, hb7⟩
      · have f8 : (0 : Int) ≤ kk := by omega
        go_wp2_with (at_builtin; refine wpList_append_sp rfl _ _ rfl w.heap.size _ _ kk ?v5c0 (wc.heap.size + 1) ⟨x, t + 1, t + 1⟩ rfl ((HO.out.alloc _).alloc _) rfl ?v5c1 ?v5c2 ?v5c3 ?v5c4 ?v5c5 ?_)
        case v5c0 => first | exact HKK.out | exact List.eq_nil_of_length_eq_zero HKK.out
        case v5c4 => have := HL.out; omega
        case v5c5 => have := HB1.out; simp; omega
        intro g' cp w5 hown' hgrow _
        have hb4 := OwnSp.below ((HO.out.alloc _).alloc _) ((HW.out.alloc HW.out.size _).alloc (by have := HB1.out; simp; omega) _) hgrow (by have := HB1.out; simp; omega)
        have HO5 := Lib.hid hown'
        have HB5 := Lib.hid hb4
        have HB6 := Lib.hid hb4.size
        clear hgrow hown' hb4
        go_wp2_with fail
        go_loopw [5, 79] (fun s j wr => j = .int .i64 0 ∧ OwnSp wr w.heap.size s (P ++ [(⟨x, t + 1, t + 1⟩ : SpotV)]) ∧ Below w.heap.size w wr) (fun _ _ _ => 0)
        case atStart => exact ⟨rfl, HO5.out, HB5.out⟩
        case round =>
          obtain ⟨rfl, hown, hb7⟩ := hrel
          have HF : Hid (P ++ [(⟨x, t + 1, t + 1⟩ : SpotV)] = insS S x) := Lib.hid (by
            rw [HINS.out, List.drop_eq_nil_of_le (by have := HW2.out; omega)]; rfl)
          obtain ⟨vB, vl, rfl⟩ := hown.form
          have HO7 := Lib.hid hown
          have hz9 : S.length - kk = 0 := by have := HW2.out; omega
          clear hown
          go_wp2_with fail
          go_ret
          exact ⟨_, rfl, by rw [← HF.out]; exact HO7.out, hb7⟩
end Go.Proofs.YtfmlkohijkalbaaGreat

/-
  The reference of layer 18: Insert, of rows of the call's own.
-/
namespace Go.Proofs.YtfmlkohijkalbaaGreat
set_option linter.unusedVariables false
set_option linter.unusedSimpArgs false
open Go.RowKit

set_option maxRecDepth 100000 in
set_option maxHeartbeats 4000000 in
theorem rins18_none (w : World) (x : Int) (hx : I64 x) :
    Calls Tryz.prog 52 #[.slice none 0 0, .int .i64 x] w fun e w' => ∃ v, e = .returned v ∧ OwnSp w' w.heap.size v [⟨x, 1, 1⟩] ∧ Below w.heap.size w w' := by
  obtain ⟨x0, x1⟩ := hx
  have CT := Lib.hid (rtot18_any w none 0 [] 0 (Spts.nil w none) (by simp) rfl)
  have HO : Hid (OwnSp w w.heap.size (.slice none 0 0) []) := Lib.hid (OwnSp.nil _ _)
  go_enter Tryz.func52, Tryz.ntmps52
  go_wp2_with fail
  refine CT.out.mono ?_
  rintro e w' ⟨rfl, e2⟩
  have e2 := e2.symm
  subst e2
  go_wp2_with fail
  go_loopw [5, 17] (fun s j wr => s = .slice none 0 0 ∧ j = .int .i64 0 ∧ w = wr) (fun _ _ _ => 0)
  case atStart => exact ⟨rfl, rfl, rfl⟩
  case round =>
    obtain ⟨rfl, rfl, rfl⟩ := hrel
    go_wp2_with (at_builtin; refine wpList_append_sp rfl _ _ rfl w.heap.size _ _ 0 rfl (w.heap.size + 1) ⟨x, 1, 1⟩ rfl ((HO.out.alloc _).alloc _) rfl ?c1 ?c2 ?c3 ?c4 ?c5 ?_)
    case c4 => exact Nat.zero_le _
    case c5 => simp; omega
    intro g' cp w5 hown' hgrow _
    have hb4 := OwnSp.below ((HO.out.alloc _).alloc _) ((((Below.refl _ _).alloc (Nat.le_refl _) _)).alloc (by simp <;> omega) _) hgrow (by simp <;> omega)
    have HO5 := Lib.hid hown'
    have HB5 := Lib.hid hb4
    clear hgrow hown' hb4
    go_wp2_with fail
    go_loopw [5, 79] (fun s j wr => s = .slice (some ⟨g', 0, none⟩) 1 cp ∧ j = .int .i64 0 ∧ w5 = wr) (fun _ _ _ => 0)
    case atStart => exact ⟨rfl, rfl, rfl⟩
    case round =>
      obtain ⟨rfl, rfl, rfl⟩ := hrel
      go_wp2_with fail
      go_ret
      exact ⟨_, rfl, HO5.out, HB5.out⟩
/-- Of a row of the call's own. -/
theorem rins18_any (w : World) (base : Nat) (v : Value) (S : List SpotV) (n x : Int) (h : OwnSp w base v S) (hok : ∀ p, p ∈ S → okSp p) (hl : S.length ≤ 20000) (hs : SpotsP 0 n S) (hn : n < 9223372036854775807) (hx : I64 x) :
    Calls Tryz.prog 52 #[v, .int .i64 x] w fun e w' => ∃ v', e = .returned v' ∧ OwnSp w' w.heap.size v' (insS S x) ∧ Below w.heap.size w w' := by
  have h' : w.ownsRow base 98 3 v S.length (cellsSp S) := h
  rcases h'.2 with ⟨rfl, h0⟩ | ⟨g, cap, cur, rfl, hb, hg, hle, _⟩
  · have e := List.eq_nil_of_length_eq_zero h0
    subst e
    exact rins18_none w x hx
  · exact rins18_some w g 0 cap S n x (h.row hok) hle hl hs hn hx
/-- Squeezed, of a row of the call's own. -/
theorem rsqz18_own (w : World) (base : Nat) (v : Value) (S : List SpotV) (n lim : Int) (h : OwnSp w base v S) (hok : ∀ p, p ∈ S → okSp p) (hl : S.length ≤ 20000) (hs : SpotsP 0 n S) (hn : n ≤ 9223372036854775807) (hlim : Word lim) :
    Calls Tryz.prog 26 #[v, .int .u64 lim] w fun e w' => ∃ v', e = .returned v' ∧ OwnSp w' w.heap.size v' (sqzS lim S) ∧ Below w.heap.size w w' := by
  obtain ⟨A, cap, rfl, hP⟩ := h.rows hok
  exact rsqz18_any w A cap S n lim hP hl hs hn hlim
end Go.Proofs.YtfmlkohijkalbaaGreat

/-
  Appending a whole row of whole numbers to one of the call's own.
-/
namespace Go.Proofs.YtfmlkohijkalbaaGreat
set_option linter.unusedVariables false
set_option linter.unusedSimpArgs false
set_option maxRecDepth 100000
open Go.RowKit

/-- Appending a whole row, a nil one too, to one of the call's own. -/
theorem wpList_append_nums {w : World} {ops : Array Oper} {rest : List Oper} {o : Oper} {a : Act} {Q : Exit → Act → World → Prop} (hgd : o.guard = none) (s x : Operand)
    (ho : o.op = .call { callee := .builtin .append, args := #[s, x], argTypes := #[52, 52] })
    (base : Nat) (v : Value) (M : List Int) (A : Option Addr) (cap : Nat) (L : List Int) (hs : a.eval s = v) (hown : OwnN w base v M)
    (hx : a.eval x = .slice A L.length cap) (hsrc : Nums w A L) (hn : M.length + L.length ≤ 100000) (hbase : base ≤ w.heap.size)
    (h : ∀ v' w', OwnN w' base v' (M ++ L) → w.grownBy w' v.ownBlock → wpList Tryz.prog ops Q rest (a.put o.dst v') w') : wpList Tryz.prog ops Q (o :: rest) a w := by
  obtain ⟨i0, hi, hz0, hz1, hz2⟩ := info_parts Tryz.infoInt18
  by_cases hL : L = []
  · subst hL
    have hx' : a.eval x = .slice A 0 cap := hx
    have hrun : (Builtin.append_ #[52, 52] o.type #[v, .slice A 0 cap]).run Tryz.prog w = .ok v w := by
      have hl : ∀ (b : Option Addr) (n c : Nat), (Builtin.firstCells 1 0 (.slice A 0 cap)).run Tryz.prog w = .ok #[] w := by
        intro b n c
        cases A with
        | none => exact run_firstCells_none w 1 0 0 cap
        | some ad => exact run_firstCells_some w 1 0 ad 0 cap [] rfl (fun j v hj => by simp at hj)
      rcases hown.2 with ⟨rfl, h0⟩ | ⟨g, c2, cur, rfl, _, _, hnc, _⟩
      · rw [show (0 : Nat) = 0 from rfl] at *
        simp [Builtin.append_, run_underlying Tryz.underlying52, sizeOf, typeInfo, hi, hz1, Builtin.lenOf, hl none 0 0]
      · simp [Builtin.append_, run_underlying Tryz.underlying52, sizeOf, typeInfo, hi, hz1, Builtin.lenOf, hnc, storeCells, hl none 0 0]
    refine wpList_plain hgd fun K hK => ?_
    unfold Oper.wp
    simp [execOp, ho, resolve, invoke, builtin, hs, hx', hrun, Result.andThen]
    exact hK _ _ (h v w (by rw [List.append_nil]; exact hown) (World.grownBy.refl _ _))
  · obtain ⟨p, hp⟩ : ∃ p, L[0]? = some p := by
      cases L with
      | nil => exact absurd rfl hL
      | cons p r => exact ⟨p, rfl⟩
    obtain ⟨b, off, rfl, _, _⟩ := hsrc.at_ 0 p hp
    refine wpList_append_own w hgd s x _ ho base _ i0 _ 1 8 Tryz.underlying52 hi hz0 hz1 hz2 rfl (by decide) v M.length (intsL M) hs hown ⟨b, off, none⟩ L.length cap (intsL L) hx (by unfold intsL; rw [List.length_map, Nat.mul_one]) ?_ (fun u hu => by
        unfold intsL at hu
        obtain ⟨z, _, rfl⟩ := List.mem_map.1 hu
        rfl)
      (by unfold maxLen; omega) (by omega) hbase (fun v' w' h1 h2 _ => h v' w' ?_ h2)
    · intro j u hu
      rw [flat3]
      unfold intsL at hu
      rw [List.getElem?_map] at hu
      cases hL2 : L[j]? with
      | none => rw [hL2] at hu; cases hu
      | some z =>
        rw [hL2] at hu
        obtain ⟨b', off', e, _, c0⟩ := hsrc.at_ j z hL2
        obtain ⟨rfl, rfl⟩ : b = b' ∧ off = off' := by
          have := Option.some.inj e
          exact ⟨(Addr.mk.inj this).1, (Addr.mk.inj this).2.1⟩
        rw [c0]; exact hu
    · unfold OwnN
      rw [show intsL (M ++ L) = intsL M ++ intsL L by unfold intsL; rw [List.map_append], List.length_append]
      exact h1

end Go.Proofs.YtfmlkohijkalbaaGreat

/-
  Walks: the reference's Sub.
-/
namespace Go.Proofs.YtfmlkohijkalbaaGreat
set_option linter.unusedVariables false
open Go.RowKit Go.Shelf

set_option maxHeartbeats 400000 in
theorem rsub_any (ah al bh bl : Int) (w1 : Word ah) (w2 : Word al) (w3 : Word bh) (w4 : Word bl) (w : World) :
    Calls Tryz.prog 75 #[.agg #[.int .u64 ah, .int .u64 al], .agg #[.int .u64 bh, .int .u64 bl]] w fun e w' =>
      e = .returned (.tuple #[.agg #[.int .u64 (hiW (wval ah al - wval bh bl)), .int .u64 (loW (wval ah al - wval bh bl))], .bool (belowB (wval ah al - wval bh bl))]) ∧ Below w.heap.size w w' := by
  have n3 := word_comp w3; have n4 := word_comp w4
  have hq := w3.1; have hq' := w3.2; have hr := w4.1; have hr' := w4.2
  go_enter Tryz.func75, Tryz.ntmps75
  go_wp2_with fail
  refine (rwadd_any ah al _ _ w1 w2 n3 n4 _).mono ?_
  rintro e wA ⟨rfl, hbA⟩
  obtain ⟨hcA, hfA⟩ := bcell hbA
  have hzA : w.heap.size + 1 + 1 + 1 + 1 ≤ wA.heap.size := by have := hbA.size; simp at this; omega
  have g0 : w.heap.size < wA.heap.size := by omega
  have g1 : w.heap.size + 1 < wA.heap.size := by omega
  have g2 : w.heap.size + 1 + 1 < wA.heap.size := by omega
  have g0' : w.heap.size ≤ wA.heap.size := by omega
  have g1' : w.heap.size + 1 ≤ wA.heap.size := by omega
  have g2' : w.heap.size + 1 + 1 ≤ wA.heap.size := by omega
  go_wp2_with fail
  refine (rwadd_any _ _ 0 1 (word_hi _) (word_lo _) (by unfold Word; omega) (by unfold Word; omega) _).mono ?_
  rintro e wB ⟨rfl, hbB⟩
  obtain ⟨hcB, hfB⟩ := bcell hbB
  have hzB : wA.heap.size + 1 ≤ wB.heap.size := by have := hbB.size; simp at this; omega
  go_wp2_with fail
  simp only [comp_wval, rsub_hi, rsub_lo]
  generalize hx : hiW (wval ah al - wval bh bl) = x
  generalize hy : loW (wval ah al - wval bh bl) = y
  have HX := Lib.hid hx; have HY := Lib.hid hy
  clear hx hy
  have ne1 : wA.heap.size ≠ w.heap.size := by omega
  have ne2 : wA.heap.size ≠ w.heap.size + 1 := by omega
  have ne3 : wA.heap.size ≠ w.heap.size + 1 + 1 := by omega
  have ne3' : w.heap.size + 1 + 1 ≠ wA.heap.size := by omega
  obtain ⟨W, hW⟩ : ∃ W : World, W = (wB.setCell ⟨wA.heap.size, 0, none⟩ (.int .u64 x)).setCell ⟨wA.heap.size, 1, none⟩ (.int .u64 y) := ⟨_, rfl⟩
  have s1 : W.cell? ⟨wA.heap.size, 0, none⟩ = some (.int .u64 x) := by subst hW; go_simp
  have s2 : W.cell? ⟨wA.heap.size, 1, none⟩ = some (.int .u64 y) := by subst hW; go_simp
  have s3 : W.cell? ⟨w.heap.size, 0, none⟩ = some (.int .u64 ah) := by subst hW; go_simp
  have s4 : W.cell? ⟨w.heap.size, 1, none⟩ = some (.int .u64 al) := by subst hW; go_simp
  have s5 : W.cell? ⟨w.heap.size + 1, 0, none⟩ = some (.int .u64 bh) := by subst hW; go_simp
  have s6 : W.cell? ⟨w.heap.size + 1, 1, none⟩ = some (.int .u64 bl) := by subst hW; go_simp
  have s7 : (W.cell? ⟨w.heap.size + 1 + 1, 0, none⟩) = some (.int .u64 0) := by subst hW; go_simp
  have s8 : (W.cell? ⟨w.heap.size + 1 + 1, 1, none⟩) = some (.int .u64 0) := by subst hW; go_simp
  have f7 : (W.frozen? ⟨w.heap.size + 1 + 1, 0, none⟩) = false := by subst hW; go_simp
  have f8 : (W.frozen? ⟨w.heap.size + 1 + 1, 1, none⟩) = false := by subst hW; go_simp
  have hz : wA.heap.size < W.heap.size := by subst hW; simp; omega
  have hBel : Below w.heap.size w W := by
    subst hW
    refine Below.setCell (Below.setCell ?_ (by simp; omega) _) (by simp; omega) _
    refine Below.trans ?_ (hbB.mono (by simp; omega))
    refine Below.alloc ?_ (by omega) _
    refine Below.trans ?_ (hbA.mono (by simp; omega))
    refine Below.alloc ?_ (by simp; omega) _
    refine Below.alloc ?_ (by simp; omega) _
    refine Below.alloc ?_ (by simp) _
    exact Below.alloc (Below.refl _ _) (Nat.le_refl _) _
  rw [← hW]
  clear hW hcA hfA hcB hfB hbA hbB
  go_region_held3 (fun w' => w'.cell? ⟨wA.heap.size, 0, none⟩ = some (.int .u64 x) ∧ w'.cell? ⟨wA.heap.size, 1, none⟩ = some (.int .u64 y) ∧ w'.cell? ⟨w.heap.size, 0, none⟩ = some (.int .u64 ah) ∧ w'.cell? ⟨w.heap.size, 1, none⟩ = some (.int .u64 al) ∧ w'.cell? ⟨w.heap.size + 1, 0, none⟩ = some (.int .u64 bh) ∧ w'.cell? ⟨w.heap.size + 1, 1, none⟩ = some (.int .u64 bl)) (go_simp)
    (first
      | (go_at_call 42; refine (less_any ah al bh bl w1 w2 w3 w4 _).mono ?_; rintro e wC ⟨rfl, hbC⟩; have t1 := cell_later hbC s1; have t2 := cell_later hbC s2; have t3 := cell_later hbC s3; have t4 := cell_later hbC s4; have t5 := cell_later hbC s5; have t6 := cell_later hbC s6; have t7 := cell_later hbC s7; have t8 := cell_later hbC s8; have u7 := (bcell hbC).2 (w.heap.size + 1 + 1) 0 (by simp; omega); have u8 := (bcell hbC).2 (w.heap.size + 1 + 1) 1 (by simp; omega)))
  go_wp2
  refine bodyPost_ret (v := .tuple #[.agg #[.int .u64 x, .int .u64 y], .bool (belowB (wval ah al - wval bh bl))]) (by simp [results, Tryz.results75, go_sem, t7, t8]) rfl ⟨by rw [HX.out, HY.out], ?_⟩
  exact Below.setCell (Below.setCell ((Below.drew hBel).trans (hbC.mono (by simp; omega))) (by simp; omega) _) (by simp; omega) _
end Go.Proofs.YtfmlkohijkalbaaGreat

/-
  Walks: the reference's Times.
-/
namespace Go.Proofs.YtfmlkohijkalbaaGreat
set_option linter.unusedVariables false
open Go.RowKit Go.Shelf

/-- What the reference's product has come to, behind so many of its two middle parts. -/
def tmsTo (a b : Int) (k : Nat) : Int :=
  if k = 0 then wval (a / 4294967296 * (b / 4294967296)) (a % 4294967296 * (b % 4294967296))
  else if k = 1 then wval (a / 4294967296 * (b / 4294967296)) (a % 4294967296 * (b % 4294967296)) + (a / 4294967296 * (b % 4294967296)) * 4294967296
  else a * b
theorem tms0 (a b : Int) : tmsTo a b 0 = wval (a / 4294967296 * (b / 4294967296)) (a % 4294967296 * (b % 4294967296)) := rfl
theorem tms1 (a b : Int) : tmsTo a b 0 + (a / 4294967296 * (b % 4294967296)) * 4294967296 = tmsTo a b 1 := rfl
theorem tms2 (a b : Int) : tmsTo a b 1 + (a % 4294967296 * (b / 4294967296)) * 4294967296 = tmsTo a b 2 := times_parts a b
theorem tmsE (a b : Int) : tmsTo a b 2 = a * b := rfl

set_option maxHeartbeats 400000 in
theorem rtimes_any (a b : Int) (wa : Word a) (wb : Word b) (w : World) :
    Calls Tryz.prog 43 #[.int .u64 a, .int .u64 b] w fun e w' =>
      e = .returned (.agg #[.int .u64 (hiW (a * b)), .int .u64 (loW (a * b))]) ∧ Below w.heap.size w w' := by
  obtain ⟨a1, a2⟩ := wa
  obtain ⟨b1, b2⟩ := wb
  obtain ⟨p1, p2⟩ := half_mul (x := a / 4294967296) (y := b / 4294967296) (by omega) (by omega) (by omega) (by omega)
  obtain ⟨q1, q2⟩ := half_mul (x := a % 4294967296) (y := b % 4294967296) (by omega) (by omega) (by omega) (by omega)
  obtain ⟨r1, r2⟩ := half_mul (x := a / 4294967296) (y := b % 4294967296) (by omega) (by omega) (by omega) (by omega)
  obtain ⟨s1, s2⟩ := half_mul (x := a % 4294967296) (y := b / 4294967296) (by omega) (by omega) (by omega) (by omega)
  have E0 := Lib.hid (tms0 a b); have E1 := Lib.hid (tms1 a b); have E2 := Lib.hid (tms2 a b)
  go_enter Tryz.func43, Tryz.ntmps43
  go_wp2_with fail
  generalize a / 4294967296 * (b % 4294967296) = m0 at *
  generalize a % 4294967296 * (b / 4294967296) = m1 at *
  generalize a / 4294967296 * (b / 4294967296) = x0 at *
  generalize a % 4294967296 * (b % 4294967296) = y0 at *
  have X0 : hiW (tmsTo a b 0) = x0 := by rw [E0.out]; exact hi_wval ⟨by omega, by omega⟩ ⟨by omega, by omega⟩
  have Y0 : loW (tmsTo a b 0) = y0 := by rw [E0.out]; exact lo_wval ⟨by omega, by omega⟩
  have HX0 := Lib.hid X0; have HY0 := Lib.hid Y0
  clear X0 Y0 E0
  go_loopw [35] (fun i wr => ∃ k : Nat, k ≤ 2 ∧ i = .int .i64 k ∧
      wr.cell? ⟨w.heap.size + 1, 0, none⟩ = some (.int .u64 (hiW (tmsTo a b k))) ∧ wr.cell? ⟨w.heap.size + 1, 1, none⟩ = some (.int .u64 (loW (tmsTo a b k))) ∧
      wr.cell? ⟨w.heap.size, 0, none⟩ = some (.int .u64 0) ∧ wr.cell? ⟨w.heap.size, 1, none⟩ = some (.int .u64 0) ∧
      wr.cell? ⟨w.heap.size + 1 + 1, 0, none⟩ = some (.int .u64 m0) ∧ wr.cell? ⟨w.heap.size + 1 + 1, 1, none⟩ = some (.int .u64 m1) ∧
      wr.frozen? ⟨w.heap.size + 1, 0, none⟩ = false ∧ wr.frozen? ⟨w.heap.size + 1, 1, none⟩ = false ∧ wr.frozen? ⟨w.heap.size, 0, none⟩ = false ∧ wr.frozen? ⟨w.heap.size, 1, none⟩ = false ∧
      w.heap.size + 1 + 1 < wr.heap.size ∧ Below w.heap.size w wr) (fun i _ => 2 - (intOf i).toNat)
  case atStart => exact ⟨0, Nat.zero_le _, rfl, by go_simp; rw [HX0.out], by go_simp; rw [HY0.out], by go_simp, by go_simp, by go_simp, by go_simp, by go_simp, by go_simp, by go_simp, by go_simp, by simp, (((Below.refl _ _).alloc (Nat.le_refl _) _).alloc (by simp) _).alloc (by simp; omega) _⟩
  case round =>
    obtain ⟨k, hk, rfl, c1, c2, c3, c4, c5, c6, f1, f2, f3, f4, hz, hb⟩ := hrel
    have hz0 : w.heap.size < wr.heap.size := by omega
    have hz1 : w.heap.size + 1 < wr.heap.size := by omega
    have k3 : k = 0 ∨ k = 1 ∨ k = 2 := by omega
    rcases k3 with rfl | rfl | rfl
    · clear E2
      go_wp2_with fail
      refine (rwadd_any (hiW (tmsTo a b 0)) (loW (tmsTo a b 0)) _ _ (word_hi _) (word_lo _) ⟨by omega, by omega⟩ ⟨by omega, by omega⟩ _).mono ?_
      rintro e wA ⟨rfl, hbA⟩
      have d1 := cell_later hbA c1; have d2 := cell_later hbA c2; have d3 := cell_later hbA c3; have d4 := cell_later hbA c4; have d5 := cell_later hbA c5; have d6 := cell_later hbA c6
      have g1 := ((bcell hbA).2 (w.heap.size + 1) 0 (by omega)).trans f1; have g2 := ((bcell hbA).2 (w.heap.size + 1) 1 (by omega)).trans f2; have g3 := ((bcell hbA).2 w.heap.size 0 (by omega)).trans f3; have g4 := ((bcell hbA).2 w.heap.size 1 (by omega)).trans f4
      have hbS := hbA.size
      clear c1 c2 c3 c4 c5 c6 f1 f2 f3 f4
      go_wp2_with fail
      go_roundw
      case rel =>
        refine ⟨1, by omega, rfl, by go_simp; rw [shift_wval, hi_add, E1.out], by go_simp; rw [shift_wval, lo_add, E1.out], by go_simp, by go_simp, by go_simp, by go_simp, by go_simp, by go_simp, by go_simp, by go_simp, by simp; omega, ?_⟩
        exact (((hb.trans (hbA.mono (by omega))).setCell (p := ⟨w.heap.size + 1, 0, none⟩) (Nat.le_succ _) _).setCell (p := ⟨w.heap.size + 1, 1, none⟩) (Nat.le_succ _) _)
      case measure => simp [intOf]
    · clear E1
      go_wp2_with fail
      refine (rwadd_any (hiW (tmsTo a b 1)) (loW (tmsTo a b 1)) _ _ (word_hi _) (word_lo _) ⟨by omega, by omega⟩ ⟨by omega, by omega⟩ _).mono ?_
      rintro e wA ⟨rfl, hbA⟩
      have d1 := cell_later hbA c1; have d2 := cell_later hbA c2; have d3 := cell_later hbA c3; have d4 := cell_later hbA c4; have d5 := cell_later hbA c5; have d6 := cell_later hbA c6
      have g1 := ((bcell hbA).2 (w.heap.size + 1) 0 (by omega)).trans f1; have g2 := ((bcell hbA).2 (w.heap.size + 1) 1 (by omega)).trans f2; have g3 := ((bcell hbA).2 w.heap.size 0 (by omega)).trans f3; have g4 := ((bcell hbA).2 w.heap.size 1 (by omega)).trans f4
      have hbS := hbA.size
      clear c1 c2 c3 c4 c5 c6 f1 f2 f3 f4
      go_wp2_with fail
      go_roundw
      case rel =>
        refine ⟨2, by omega, rfl, by go_simp; rw [shift_wval, hi_add, E2.out], by go_simp; rw [shift_wval, lo_add, E2.out], by go_simp, by go_simp, by go_simp, by go_simp, by go_simp, by go_simp, by go_simp, by go_simp, by simp; omega, ?_⟩
        exact (((hb.trans (hbA.mono (by omega))).setCell (p := ⟨w.heap.size + 1, 0, none⟩) (Nat.le_succ _) _).setCell (p := ⟨w.heap.size + 1, 1, none⟩) (Nat.le_succ _) _)
      case measure => simp [intOf]
    · go_wp2_with fail
      refine bodyPost_ret (v := .agg #[.int .u64 (hiW (tmsTo a b 2)), .int .u64 (loW (tmsTo a b 2))]) (by simp [results, Tryz.results43, go_sem, c3, c4]) rfl ⟨by rw [tmsE], ?_⟩
      exact (hb.setCell (p := ⟨w.heap.size, 0, none⟩) (Nat.le_refl _) _).setCell (p := ⟨w.heap.size, 1, none⟩) (Nat.le_refl _) _
end Go.Proofs.YtfmlkohijkalbaaGreat

/-
  Walks: the reference's Double, Bit, Over, Ceil.
-/
namespace Go.Proofs.YtfmlkohijkalbaaGreat
set_option linter.unusedVariables false
open Go.RowKit Go.Shelf

set_option maxHeartbeats 400000 in
theorem double_any (h l : Int) (wh : Word h) (wl : Word l) (w : World) :
    Calls Tryz.prog 73 #[.agg #[.int .u64 h, .int .u64 l]] w fun e w' =>
      e = .returned (.tuple #[.agg #[.int .u64 (hiW (wval h l + wval h l)), .int .u64 (loW (wval h l + wval h l))], .bool (carryB (wval h l + wval h l))]) ∧ Below w.heap.size w w' := by
  go_enter Tryz.func73, Tryz.ntmps73
  go_wp2_with fail
  refine (rwadd_any h l h l wh wl wh wl _).mono ?_
  rintro e wA ⟨rfl, hbA⟩
  have d1 := (bcell hbA).1 (w.heap.size + 1) 0 (by simp)
  have d2 := (bcell hbA).1 (w.heap.size + 1) 1 (by simp)
  have f1 := (bcell hbA).2 (w.heap.size + 1) 0 (by simp)
  have f2 := (bcell hbA).2 (w.heap.size + 1) 1 (by simp)
  have hz : w.heap.size + 1 + 1 ≤ wA.heap.size := by have := hbA.size; simp at this; omega
  go_wp2_with fail
  refine bodyPost_ret (v := .tuple #[.agg #[.int .u64 (hiW (wval h l + wval h l)), .int .u64 (loW (wval h l + wval h l))], .bool (carryB (wval h l + wval h l))]) (by simp [results, Tryz.results73, go_sem, d1, d2]) rfl ⟨rfl, ?_⟩
  have k := ((((Below.refl w.heap.size w).alloc (Nat.le_refl _) (.cells #[.int .u64 h, .int .u64 l] 85)).alloc (by simp) (.cells #[.int .u64 0, .int .u64 0] 85)).trans (hbA.mono (by simp; omega)))
  exact (k.setCell (p := ⟨w.heap.size + 1, 0, none⟩) (Nat.le_succ _) _).setCell (p := ⟨w.heap.size + 1, 1, none⟩) (Nat.le_succ _) _

/-- The same, of a number that two words tell. -/
theorem double_num (n : Int) (h0 : 0 ≤ n) (h1 : n < 340282366920938463463374607431768211456) (w : World) :
    Calls Tryz.prog 73 #[.agg #[.int .u64 (hiW n), .int .u64 (loW n)]] w fun e w' =>
      e = .returned (.tuple #[.agg #[.int .u64 (hiW (n + n)), .int .u64 (loW (n + n))], .bool (carryB (n + n))]) ∧ Below w.heap.size w w' := by
  have h := double_any (hiW n) (loW n) (word_hi n) (word_lo n) w
  rw [wval_split h0 h1] at h
  exact h
theorem less_num (n y : Int) (h0 : 0 ≤ n) (h1 : n < 340282366920938463463374607431768211456) (wy : Word y) (w : World) :
    Calls Tryz.prog 42 #[.agg #[.int .u64 (hiW n), .int .u64 (loW n)], .agg #[.int .u64 0, .int .u64 y]] w fun e w' =>
      e = .returned (.bool (decide (n < y))) ∧ Below w.heap.size w w' := by
  have h := less_any (hiW n) (loW n) 0 y (word_hi n) (word_lo n) (by unfold Word; omega) wy w
  have e : belowB (wval (hiW n) (loW n) - wval 0 y) = decide (n < y) := by
    rw [wval_split h0 h1]; unfold belowB wval; apply decide_eq_decide.2; omega
  rw [e] at h
  exact h
theorem rsub_num (n y : Int) (h0 : 0 ≤ n) (h1 : n < 340282366920938463463374607431768211456) (wy : Word y) (w : World) :
    Calls Tryz.prog 75 #[.agg #[.int .u64 (hiW n), .int .u64 (loW n)], .agg #[.int .u64 0, .int .u64 y]] w fun e w' =>
      e = .returned (.tuple #[.agg #[.int .u64 (hiW (n - y)), .int .u64 (loW (n - y))], .bool (belowB (n - y))]) ∧ Below w.heap.size w w' := by
  have h := rsub_any (hiW n) (loW n) 0 y (word_hi n) (word_lo n) (by unfold Word; omega) wy w
  have e : wval (hiW n) (loW n) - wval 0 y = n - y := by
    rw [wval_split h0 h1]; unfold wval; omega
  rw [e] at h
  exact h
/-- A step of the long division, bit by bit. -/
theorem ov_step {M y : Int} (hy : 0 < y) :
    (M / 2 % y + M / 2 % y + M % 2 < y → M % y = M / 2 % y + M / 2 % y + M % 2 ∧ M / y = M / 2 / y + M / 2 / y) ∧
    (¬ M / 2 % y + M / 2 % y + M % 2 < y → M % y = M / 2 % y + M / 2 % y + M % 2 - y ∧ M / y = M / 2 / y + M / 2 / y + 1) := by
  have h1 := Int.ediv_mul_add_emod (M / 2) y
  have h2 := Int.emod_nonneg (M / 2) (show y ≠ 0 by omega)
  have h3 := Int.emod_lt_of_pos (M / 2) hy
  generalize M / 2 % y = R at *
  generalize M / 2 / y = Q at *
  constructor
  · intro h
    have := (Int.ediv_emod_unique (a := M) (r := R + R + M % 2) (q := Q + Q) hy).2 ⟨by
      rw [Int.mul_add, Int.mul_comm y Q]; generalize Q * y = a at *; omega, by omega, h⟩
    exact ⟨this.2, this.1⟩
  · intro h
    have := (Int.ediv_emod_unique (a := M) (r := R + R + M % 2 - y) (q := Q + Q + 1) hy).2 ⟨by
      rw [Int.mul_add, Int.mul_add, Int.mul_comm y Q]; generalize Q * y = a at *; omega, by omega, by omega⟩
    exact ⟨this.2, this.1⟩
theorem ov_big {n y : Int} (h0 : 0 ≤ n) (h1 : n < 340282366920938463463374607431768211456) (hy : 0 < y) (h : 0 < hiW (n / y)) : ovQ n y = 0 ∧ ovR n y = 0 ∧ ovB n y = false := by
  have a := Int.ediv_nonneg h0 (show 0 ≤ y by omega)
  have b := Int.ediv_le_self y h0
  have e : ovB n y = false := by
    unfold ovB; apply decide_eq_false; unfold hiW at h; omega
  refine ⟨?_, ?_, e⟩
  · unfold ovQ; rw [e]; rfl
  · unfold ovR; rw [e]; rfl
theorem ov_small {n y : Int} (h0 : 0 ≤ n) (h1 : n < 340282366920938463463374607431768211456) (hy : 0 < y) (hy1 : y < 18446744073709551616) (h : ¬ 0 < hiW (n / y)) : ovQ n y = loW (n / y) ∧ ovR n y = loW (n % y) ∧ ovB n y = true := by
  have a := Int.ediv_nonneg h0 (show 0 ≤ y by omega)
  have b := Int.ediv_le_self y h0
  have c := Int.emod_nonneg n (show y ≠ 0 by omega)
  have d := Int.emod_lt_of_pos n hy
  have e : ovB n y = true := by
    unfold ovB; apply decide_eq_true; unfold hiW at h; omega
  refine ⟨?_, ?_, e⟩
  · unfold ovQ; rw [if_pos e]; unfold hiW at h; unfold loW; omega
  · unfold ovR; rw [if_pos e]; unfold loW; omega
theorem hi_bit {n b : Int} (hb : 0 ≤ b) (hb' : b ≤ 1) : hiW (n + n) = hiW (n + n + b) := by unfold hiW; omega
theorem lo_bit {n b : Int} (hb : 0 ≤ b) (hb' : b ≤ 1) : loW (n + n) + b = loW (n + n + b) := by unfold loW; omega
theorem lo_even (n : Int) : loW (n + n) ≤ 18446744073709551614 := by unfold loW; omega

theorem bit_lo {h l : Int} {k : Nat} (hk : k < 64) (wh : Word h) : l / 2 ^ k % 2 = wval h l / 2 ^ k % 2 := by
  unfold wval
  have e : (18446744073709551616 : Int) = 2 * 2 ^ (63 - k) * 2 ^ k := by
    rw [Int.mul_assoc, ← Int.pow_add, show 63 - k + k = 63 by omega]; rfl
  have hp : (0 : Int) < 2 ^ k := Int.pow_pos (by omega)
  rw [e, ← Int.mul_assoc, Int.add_comm, Int.add_mul_ediv_right _ _ (by omega), ← Int.mul_assoc, Int.mul_comm h 2, Int.mul_assoc]
  omega
theorem bit_hi {h l : Int} {k : Nat} (hk : ¬ k < 64) (wl : Word l) : h / 2 ^ (k - 64) % 2 = wval h l / 2 ^ k % 2 := by
  have e : (2 : Int) ^ k = 18446744073709551616 * 2 ^ (k - 64) := by
    have : (2 : Int) ^ (64 + (k - 64)) = 2 ^ 64 * 2 ^ (k - 64) := Int.pow_add ..
    rw [show 64 + (k - 64) = k by omega, show (2 : Int) ^ 64 = 18446744073709551616 by rfl] at this
    exact this
  have e2 : wval h l / 18446744073709551616 = h := by unfold wval; unfold Word at wl; omega
  rw [e, ← Int.ediv_ediv_of_nonneg (by omega), e2]

set_option maxHeartbeats 400000 in
theorem bit_any (h l : Int) (k : Nat) (wh : Word h) (wl : Word l) (hk : k < 128) (w : World) :
    Calls Tryz.prog 74 #[.agg #[.int .u64 h, .int .u64 l], .int .i64 (k : Int)] w fun e w' =>
      e = .returned (.int .u64 (wval h l / 2 ^ k % 2)) ∧ Below w.heap.size w w' := by
  by_cases h64 : k < 64
  · have E := Lib.hid (bit_lo (l := l) h64 wh)
    obtain ⟨l0, l1⟩ := wl
    have hp : (0 : Int) < 2 ^ k := Int.pow_pos (by omega)
    have g0 : 0 ≤ l / 2 ^ k := Int.ediv_nonneg l0 (by omega)
    go_enter Tryz.func74, Tryz.ntmps74
    go_wp2_with fail
    refine bodyPost_ret (v := .int .u64 (l / 2 ^ k % 2)) (by simp [results, Tryz.results74, go_sem]) rfl ⟨by rw [E.out], ?_⟩
    exact (Below.refl _ _).alloc (Nat.le_refl _) _
  · have E := Lib.hid (bit_hi (h := h) h64 wl)
    obtain ⟨h0, h1⟩ := wh
    have hp : (0 : Int) < 2 ^ (k - 64) := Int.pow_pos (by omega)
    have g0 : 0 ≤ h / 2 ^ (k - 64) := Int.ediv_nonneg h0 (by omega)
    go_enter Tryz.func74, Tryz.ntmps74
    go_wp2_with fail
    refine bodyPost_ret (v := .int .u64 (h / 2 ^ (k - 64) % 2)) (by simp [results, Tryz.results74, go_sem]) rfl ⟨by rw [E.out], ?_⟩
    exact (Below.refl _ _).alloc (Nat.le_refl _) _

/-- The memory of the reference's Over: the number, the divisor, what rests, the quotient. -/
structure OvW (B : Nat) (W w : World) (h l y rh rl qh ql : Int) : Prop where
  a0 : w.cell? ⟨B, 0, none⟩ = some (.int .u64 h)
  a1 : w.cell? ⟨B, 1, none⟩ = some (.int .u64 l)
  d0 : w.cell? ⟨B + 1, 0, none⟩ = some (.int .u64 0)
  d1 : w.cell? ⟨B + 1, 1, none⟩ = some (.int .u64 y)
  r0 : w.cell? ⟨B + 1 + 1, 0, none⟩ = some (.int .u64 rh)
  r1 : w.cell? ⟨B + 1 + 1, 1, none⟩ = some (.int .u64 rl)
  q0 : w.cell? ⟨B + 1 + 1 + 1, 0, none⟩ = some (.int .u64 qh)
  q1 : w.cell? ⟨B + 1 + 1 + 1, 1, none⟩ = some (.int .u64 ql)
  fr0 : w.frozen? ⟨B + 1 + 1, 0, none⟩ = false
  fr1 : w.frozen? ⟨B + 1 + 1, 1, none⟩ = false
  fq0 : w.frozen? ⟨B + 1 + 1 + 1, 0, none⟩ = false
  fq1 : w.frozen? ⟨B + 1 + 1 + 1, 1, none⟩ = false
  sz : B + 1 + 1 + 1 < w.heap.size
  bel : Below B W w
theorem OvW.call {B : Nat} {W w w' : World} {h l y rh rl qh ql : Int} (s : OvW B W w h l y rh rl qh ql) (hb : Below w.heap.size w w') : OvW B W w' h l y rh rl qh ql := by
  have hz := s.sz
  have hs := hb.size
  exact ⟨cell_later hb s.a0, cell_later hb s.a1, cell_later hb s.d0, cell_later hb s.d1, cell_later hb s.r0, cell_later hb s.r1, cell_later hb s.q0, cell_later hb s.q1,
    ((bcell hb).2 _ _ (by omega)).trans s.fr0, ((bcell hb).2 _ _ (by omega)).trans s.fr1, ((bcell hb).2 _ _ (by omega)).trans s.fq0, ((bcell hb).2 _ _ (by omega)).trans s.fq1, by omega, s.bel.trans (hb.mono (by omega))⟩
theorem addr_far {b o b' o' : Nat} (h : b ≠ b') : (⟨b, o, none⟩ : Addr) ≠ ⟨b', o', none⟩ := fun e => h (Addr.mk.inj e).1
theorem addr_off {b o o' : Nat} (h : o ≠ o') : (⟨b, o, none⟩ : Addr) ≠ ⟨b, o', none⟩ := fun e => h (Addr.mk.inj e).2.1
theorem OvW.restLo {B : Nat} {W w : World} {h l y rh rl qh ql : Int} (s : OvW B W w h l y rh rl qh ql) (x : Int) : OvW B W (w.setCell ⟨B + 1 + 1, 1, none⟩ (.int .u64 x)) h l y rh x qh ql := by
  have hz := s.sz
  refine ⟨?_, ?_, ?_, ?_, ?_, ?_, ?_, ?_, ?_, ?_, ?_, ?_, ?_, ?_⟩
  · rw [World.cell?_setCell_other _ _ _ _ (addr_far (by omega))]; exact s.a0
  · rw [World.cell?_setCell_other _ _ _ _ (addr_far (by omega))]; exact s.a1
  · rw [World.cell?_setCell_other _ _ _ _ (addr_far (by omega))]; exact s.d0
  · rw [World.cell?_setCell_other _ _ _ _ (addr_far (by omega))]; exact s.d1
  · rw [World.cell?_setCell_other _ _ _ _ (addr_off (by omega))]; exact s.r0
  · exact World.cell?_setCell_same _ _ _ s.r1
  · rw [World.cell?_setCell_other _ _ _ _ (addr_far (by omega))]; exact s.q0
  · rw [World.cell?_setCell_other _ _ _ _ (addr_far (by omega))]; exact s.q1
  · rw [World.frozen?_setCell]; exact s.fr0
  · rw [World.frozen?_setCell]; exact s.fr1
  · rw [World.frozen?_setCell]; exact s.fq0
  · rw [World.frozen?_setCell]; exact s.fq1
  · simp [World.setCell]; omega
  · exact s.bel.setCell (p := ⟨B + 1 + 1, 1, none⟩) (by show B ≤ B + 1 + 1; omega) _
theorem OvW.restHi {B : Nat} {W w : World} {h l y rh rl qh ql : Int} (s : OvW B W w h l y rh rl qh ql) (x : Int) : OvW B W (w.setCell ⟨B + 1 + 1, 0, none⟩ (.int .u64 x)) h l y x rl qh ql := by
  have hz := s.sz
  refine ⟨?_, ?_, ?_, ?_, ?_, ?_, ?_, ?_, ?_, ?_, ?_, ?_, ?_, ?_⟩
  · rw [World.cell?_setCell_other _ _ _ _ (addr_far (by omega))]; exact s.a0
  · rw [World.cell?_setCell_other _ _ _ _ (addr_far (by omega))]; exact s.a1
  · rw [World.cell?_setCell_other _ _ _ _ (addr_far (by omega))]; exact s.d0
  · rw [World.cell?_setCell_other _ _ _ _ (addr_far (by omega))]; exact s.d1
  · exact World.cell?_setCell_same _ _ _ s.r0
  · rw [World.cell?_setCell_other _ _ _ _ (addr_off (by omega))]; exact s.r1
  · rw [World.cell?_setCell_other _ _ _ _ (addr_far (by omega))]; exact s.q0
  · rw [World.cell?_setCell_other _ _ _ _ (addr_far (by omega))]; exact s.q1
  · rw [World.frozen?_setCell]; exact s.fr0
  · rw [World.frozen?_setCell]; exact s.fr1
  · rw [World.frozen?_setCell]; exact s.fq0
  · rw [World.frozen?_setCell]; exact s.fq1
  · simp [World.setCell]; omega
  · exact s.bel.setCell (p := ⟨B + 1 + 1, 0, none⟩) (by show B ≤ B + 1 + 1; omega) _
theorem OvW.quoLo {B : Nat} {W w : World} {h l y rh rl qh ql : Int} (s : OvW B W w h l y rh rl qh ql) (x : Int) : OvW B W (w.setCell ⟨B + 1 + 1 + 1, 1, none⟩ (.int .u64 x)) h l y rh rl qh x := by
  have hz := s.sz
  refine ⟨?_, ?_, ?_, ?_, ?_, ?_, ?_, ?_, ?_, ?_, ?_, ?_, ?_, ?_⟩
  · rw [World.cell?_setCell_other _ _ _ _ (addr_far (by omega))]; exact s.a0
  · rw [World.cell?_setCell_other _ _ _ _ (addr_far (by omega))]; exact s.a1
  · rw [World.cell?_setCell_other _ _ _ _ (addr_far (by omega))]; exact s.d0
  · rw [World.cell?_setCell_other _ _ _ _ (addr_far (by omega))]; exact s.d1
  · rw [World.cell?_setCell_other _ _ _ _ (addr_far (by omega))]; exact s.r0
  · rw [World.cell?_setCell_other _ _ _ _ (addr_far (by omega))]; exact s.r1
  · rw [World.cell?_setCell_other _ _ _ _ (addr_off (by omega))]; exact s.q0
  · exact World.cell?_setCell_same _ _ _ s.q1
  · rw [World.frozen?_setCell]; exact s.fr0
  · rw [World.frozen?_setCell]; exact s.fr1
  · rw [World.frozen?_setCell]; exact s.fq0
  · rw [World.frozen?_setCell]; exact s.fq1
  · simp [World.setCell]; omega
  · exact s.bel.setCell (p := ⟨B + 1 + 1 + 1, 1, none⟩) (by show B ≤ B + 1 + 1 + 1; omega) _
theorem OvW.quoHi {B : Nat} {W w : World} {h l y rh rl qh ql : Int} (s : OvW B W w h l y rh rl qh ql) (x : Int) : OvW B W (w.setCell ⟨B + 1 + 1 + 1, 0, none⟩ (.int .u64 x)) h l y rh rl x ql := by
  have hz := s.sz
  refine ⟨?_, ?_, ?_, ?_, ?_, ?_, ?_, ?_, ?_, ?_, ?_, ?_, ?_, ?_⟩
  · rw [World.cell?_setCell_other _ _ _ _ (addr_far (by omega))]; exact s.a0
  · rw [World.cell?_setCell_other _ _ _ _ (addr_far (by omega))]; exact s.a1
  · rw [World.cell?_setCell_other _ _ _ _ (addr_far (by omega))]; exact s.d0
  · rw [World.cell?_setCell_other _ _ _ _ (addr_far (by omega))]; exact s.d1
  · rw [World.cell?_setCell_other _ _ _ _ (addr_far (by omega))]; exact s.r0
  · rw [World.cell?_setCell_other _ _ _ _ (addr_far (by omega))]; exact s.r1
  · exact World.cell?_setCell_same _ _ _ s.q0
  · rw [World.cell?_setCell_other _ _ _ _ (addr_off (by omega))]; exact s.q1
  · rw [World.frozen?_setCell]; exact s.fr0
  · rw [World.frozen?_setCell]; exact s.fr1
  · rw [World.frozen?_setCell]; exact s.fq0
  · rw [World.frozen?_setCell]; exact s.fq1
  · simp [World.setCell]; omega
  · exact s.bel.setCell (p := ⟨B + 1 + 1 + 1, 0, none⟩) (by show B ≤ B + 1 + 1 + 1; omega) _
theorem OvW.drew {B : Nat} {W w : World} {h l y rh rl qh ql : Int} (s : OvW B W w h l y rh rl qh ql) : OvW B W w.drew h l y rh rl qh ql :=
  ⟨s.a0, s.a1, s.d0, s.d1, s.r0, s.r1, s.q0, s.q1, s.fr0, s.fr1, s.fq0, s.fq1, s.sz, s.bel.drew⟩

set_option maxHeartbeats 400000 in
theorem rover_zero (h l : Int) (w : World) :
    Calls Tryz.prog 54 #[.agg #[.int .u64 h, .int .u64 l], .int .u64 0] w fun e w' =>
      e = .returned (.tuple #[.int .u64 0, .int .u64 0, .bool false]) ∧ Below w.heap.size w w' := by
  go_enter Tryz.func54, Tryz.ntmps54
  go_wp2_with fail
  refine bodyPost_ret (v := .tuple #[.int .u64 0, .int .u64 0, .bool false]) (by simp [results, Tryz.results54, go_sem]) rfl ⟨rfl, ?_⟩
  exact (Below.refl _ _).alloc (Nat.le_refl _) _

set_option maxHeartbeats 400000 in
theorem rover_more (h l y : Int) (wh : Word h) (wl : Word l) (wy : Word y) (hy : 0 < y) (w : World) :
    Calls Tryz.prog 54 #[.agg #[.int .u64 h, .int .u64 l], .int .u64 y] w fun e w' =>
      e = .returned (.tuple #[.int .u64 (ovQ (wval h l) y), .int .u64 (ovR (wval h l) y), .bool (ovB (wval h l) y)]) ∧ Below w.heap.size w w' := by
  have hy0 : (y == 0) = false := by simp; omega
  have hy1 := wy.2
  go_enter Tryz.func54, Tryz.ntmps54
  go_wp2_with fail
  go_loopw [10] (fun i wr => ∃ k : Nat, k ≤ 128 ∧ i = .int .i64 ((k : Int) - 1) ∧ OvW w.heap.size w wr h l y (hiW (wval h l / 2 ^ k % y)) (loW (wval h l / 2 ^ k % y)) (hiW (wval h l / 2 ^ k / y)) (loW (wval h l / 2 ^ k / y))) (fun i _ => (intOf i + 1).toNat)
  case atStart =>
    have hn := wval_bd wh wl
    have e : wval h l / 2 ^ 128 = 0 := by
      rw [show (2 : Int) ^ 128 = 340282366920938463463374607431768211456 by rfl]; omega
    have e1 : (0 : Int) % y = 0 := Int.zero_emod y
    have e2 : (0 : Int) / y = 0 := Int.zero_ediv y
    refine ⟨128, Nat.le_refl _, rfl, ?_⟩
    rw [e, e1, e2]
    exact ⟨by go_simp, by go_simp, by go_simp, by go_simp, by go_simp; decide, by go_simp; decide, by go_simp; decide, by go_simp; decide, by go_simp, by go_simp, by go_simp, by go_simp, by simp, ((((Below.refl _ _).alloc (Nat.le_refl _) _).alloc (by simp) _).alloc (by simp; omega) _).alloc (by simp; omega) _⟩
  case round =>
    obtain ⟨k, hk, rfl, S⟩ := hrel
    cases k with
    | zero =>
      obtain ⟨a0, a1, d0, d1, r0, r1, q0, q1, fr0, fr1, fq0, fq1, sz, bel⟩ := id S
      have e : wval h l / 2 ^ 0 = wval h l := by rw [Int.pow_zero, Int.ediv_one]
      rw [e] at *
      have hn := wval_bd wh wl
      have sz1 : w.heap.size + 1 < wr.heap.size := by omega
      have sz2 : w.heap.size + 1 + 1 < wr.heap.size := by omega
      clear S e
      by_cases hq : 0 < hiW (wval h l / y)
      · have E := Lib.hid (ov_big (n := wval h l) hn.1 hn.2 hy hq)
        go_wp2_with fail
        refine bodyPost_ret (v := .tuple #[.int .u64 0, .int .u64 0, .bool false]) (by simp [results, Tryz.results54, go_sem]) rfl ⟨by rw [E.out.1, E.out.2.1, E.out.2.2], ?_⟩
        exact bel
      · have E := Lib.hid (ov_small (n := wval h l) hn.1 hn.2 hy hy1 hq)
        go_wp2_with fail
        go_quiet (fail)
        go_wp2
        refine bodyPost_ret (v := .tuple #[.int .u64 (loW (wval h l / y)), .int .u64 (loW (wval h l % y)), .bool true]) (by simp [results, Tryz.results54, go_sem]) rfl ⟨by rw [E.out.1, E.out.2.1, E.out.2.2], ?_⟩
        exact below_drewN bel _
    | succ j =>
      have ej : ((j + 1 : Nat) : Int) - 1 = j := by omega
      rw [ej]
      have hn := wval_bd wh wl
      have hp : (0 : Int) < 2 ^ j := Int.pow_pos (by omega)
      have M0 : 0 ≤ wval h l / 2 ^ j := Int.ediv_nonneg hn.1 (by omega)
      have M1 : wval h l / 2 ^ j ≤ wval h l := Int.ediv_le_self _ hn.1
      have M2 : wval h l / 2 ^ j < 340282366920938463463374607431768211456 := by omega
      have hm : wval h l / 2 ^ (j + 1) = wval h l / 2 ^ j / 2 := by rw [Int.pow_succ, Int.ediv_ediv_of_nonneg (by omega)]
      rw [hm] at S
      clear hm M1 hn hp
      obtain ⟨t1, t2⟩ := ov_step (M := wval h l / 2 ^ j) hy
      have T1 := Lib.hid t1; have T2 := Lib.hid t2
      clear t1 t2
      have bit := bit_any h l j wh wl (by omega)
      generalize hM : wval h l / 2 ^ j = M at *
      have HM := Lib.hid hM
      clear hM
      have R0 := Int.emod_nonneg (M / 2) (show y ≠ 0 by omega)
      have R1 := Int.emod_lt_of_pos (M / 2) hy
      have Q0 := Int.ediv_nonneg (show 0 ≤ M / 2 by omega) (show 0 ≤ y by omega)
      have Q1 := Int.ediv_le_self y (show 0 ≤ M / 2 by omega)
      have b0 : 0 ≤ M % 2 := by omega
      have b1 : M % 2 ≤ 1 := by omega
      have Q2 : M / 2 / y < 170141183460469231731687303715884105728 := by omega
      clear M0 M2 Q1
      generalize M / 2 % y = R at *
      generalize M / 2 / y = Q at *
      generalize M % 2 = b at *
      have ev := lo_even R
      have ev0 := (word_lo (R + R)).1
      obtain ⟨a0, a1, d0, d1, r0, r1, q0, q1, fr0, fr1, fq0, fq1, sz, bel⟩ := id S
      have sz1 : w.heap.size + 1 < wr.heap.size := by omega
      have sz2 : w.heap.size + 1 + 1 < wr.heap.size := by omega
      have Bit := Lib.hid bit
      have hwr : IntKind.u64.wrap (loW (R + R) + b) = loW (R + R) + b := by rw [IntKind.wrap_u64]; omega
      have HW := Lib.hid hwr
      clear hwr
      clear bit
      go_wp2_with fail
      refine (double_num R R0 (by omega) _).mono ?_
      rintro e wA ⟨rfl, hbA⟩
      have SA := S.call hbA
      clear a0 a1 d0 d1 r0 r1 q0 q1 fr0 fr1 fq0 fq1 sz bel S hbA
      obtain ⟨a0, a1, d0, d1, r0, r1, q0, q1, fr0, fr1, fq0, fq1, sz, bel⟩ := id SA
      go_upto_region 10 with fail
      have SB := (SA.restHi (hiW (R + R))).restLo (loW (R + R))
      generalize (wA.setCell ⟨w.heap.size + 1 + 1, 0, none⟩ (.int .u64 (hiW (R + R)))).setCell ⟨w.heap.size + 1 + 1, 1, none⟩ (.int .u64 (loW (R + R))) = wB at *
      clear a0 a1 d0 d1 r0 r1 q0 q1 fr0 fr1 fq0 fq1 sz bel SA
      obtain ⟨a0, a1, d0, d1, r0, r1, q0, q1, fr0, fr1, fq0, fq1, sz, bel⟩ := id SB
      go_cut [31] (fun s wx => OvW w.heap.size w wx h l y (hiW (R + R)) (loW (R + R) + b) (hiW Q) (loW Q))
      case first =>
        go_region_with (go_at_call 74; refine (Bit.out _).mono ?_; rintro e wC ⟨rfl, hbC⟩; have SC := OvW.call SB.drew hbC; obtain ⟨a0, a1, d0, d1, r0, r1, q0, q1, fr0, fr1, fq0, fq1, sz, bel⟩ := id SC)
        all_goals (go_wp2_with fail; go_meet; rw [HW.out]; exact SC.restLo _)
      case rest =>
        clear a0 a1 d0 d1 r0 r1 q0 q1 fr0 fr1 fq0 fq1 sz bel SB Bit
        rename_i wC _
        have SC := hcut
        rw [lo_bit b0 b1, hi_bit b0 b1] at SC
        clear hcut ev ev0
        obtain ⟨a0, a1, d0, d1, r0, r1, q0, q1, fr0, fr1, fq0, fq1, sz, bel⟩ := id SC
        go_wp2_with fail
        refine (double_num Q Q0 (by omega) _).mono ?_
        rintro e wD ⟨rfl, hbD⟩
        have SD := SC.call hbD
        clear a0 a1 d0 d1 r0 r1 q0 q1 fr0 fr1 fq0 fq1 sz bel SC hbD
        obtain ⟨a0, a1, d0, d1, r0, r1, q0, q1, fr0, fr1, fq0, fq1, sz, bel⟩ := id SD
        go_upto_region 12 with fail
        have SE := (SD.quoHi (hiW (Q + Q))).quoLo (loW (Q + Q))
        generalize (wD.setCell ⟨w.heap.size + 1 + 1 + 1, 0, none⟩ (.int .u64 (hiW (Q + Q)))).setCell ⟨w.heap.size + 1 + 1 + 1, 1, none⟩ (.int .u64 (loW (Q + Q))) = wE at *
        clear a0 a1 d0 d1 r0 r1 q0 q1 fr0 fr1 fq0 fq1 sz bel SD
        obtain ⟨a0, a1, d0, d1, r0, r1, q0, q1, fr0, fr1, fq0, fq1, sz, bel⟩ := id SE
        go_wp2_with fail
        refine (less_num (R + R + b) y (by omega) (by omega) wy _).mono ?_
        rintro e wF ⟨rfl, hbF⟩
        have SF := SE.call hbF
        clear a0 a1 d0 d1 r0 r1 q0 q1 fr0 fr1 fq0 fq1 sz bel SE hbF
        obtain ⟨a0, a1, d0, d1, r0, r1, q0, q1, fr0, fr1, fq0, fq1, sz, bel⟩ := id SF
        by_cases hX : R + R + b < y
        · obtain ⟨g1, g2⟩ := T1.out (by omega)
          have G1 := Lib.hid g1; have G2 := Lib.hid g2
          clear g1 g2
          go_wp2_with fail
          go_roundw
          case rel => 
            refine ⟨j, by omega, rfl, ?_⟩
            rw [HM.out, G1.out, G2.out]
            exact SF
          case measure => simp [intOf]
        · obtain ⟨g1, g2⟩ := T2.out (by omega)
          have G1 := Lib.hid g1; have G2 := Lib.hid g2
          clear g1 g2
          have hXf : decide (R + R + b < y) = false := decide_eq_false hX
          go_wp2_with fail
          refine (rsub_num (R + R + b) y (by omega) (by omega) wy _).mono ?_
          rintro e wG ⟨rfl, hbG⟩
          have SG := SF.call hbG
          clear a0 a1 d0 d1 r0 r1 q0 q1 fr0 fr1 fq0 fq1 sz bel SF hbG
          obtain ⟨a0, a1, d0, d1, r0, r1, q0, q1, fr0, fr1, fq0, fq1, sz, bel⟩ := id SG
          have ev := lo_even Q
          have ev0 := (word_lo (Q + Q)).1
          have SH := ((SG.restHi (hiW (R + R + b - y))).restLo (loW (R + R + b - y))).quoLo (loW (Q + Q) + 1)
          rw [lo_bit (n := Q) (b := 1) (by omega) (by omega), hi_bit (n := Q) (b := 1) (by omega) (by omega)] at SH
          have HL := Lib.hid (lo_bit (n := Q) (b := 1) (by omega) (by omega))
          go_wp2_with fail
          go_roundw
          case rel =>
            refine ⟨j, by omega, rfl, ?_⟩
            rw [HM.out, G1.out, G2.out]
            rw [HL.out]
            exact SH
          case measure => simp [intOf]

/-- The reference's Over, of all numbers. -/
theorem rover_any (h l y : Int) (wh : Word h) (wl : Word l) (wy : Word y) (w : World) :
    Calls Tryz.prog 54 #[.agg #[.int .u64 h, .int .u64 l], .int .u64 y] w fun e w' =>
      e = .returned (.tuple #[.int .u64 (ovQ (wval h l) y), .int .u64 (ovR (wval h l) y), .bool (ovB (wval h l) y)]) ∧ Below w.heap.size w w' := by
  by_cases hy : y = 0
  · subst hy
    have e : ovB (wval h l) 0 = false := by unfold ovB; apply decide_eq_false; omega
    have e1 : ovQ (wval h l) 0 = 0 := by unfold ovQ; rw [e]; rfl
    have e2 : ovR (wval h l) 0 = 0 := by unfold ovR; rw [e]; rfl
    rw [e, e1, e2]
    exact rover_zero h l w
  · exact rover_more h l y wh wl wy (by have := wy.1; omega) w
theorem rover_num (n y : Int) (h0 : 0 ≤ n) (h1 : n < 340282366920938463463374607431768211456) (wy : Word y) (w : World) :
    Calls Tryz.prog 54 #[.agg #[.int .u64 (hiW n), .int .u64 (loW n)], .int .u64 y] w fun e w' =>
      e = .returned (.tuple #[.int .u64 (ovQ n y), .int .u64 (ovR n y), .bool (ovB n y)]) ∧ Below w.heap.size w w' := by
  have h := rover_any (hiW n) (loW n) y (word_hi n) (word_lo n) wy w
  rw [wval_split h0 h1] at h
  exact h

end Go.Proofs.YtfmlkohijkalbaaGreat

/-
  The reference of layer 19: a sketch in memory; limit, Total, Flush.
-/
namespace Go.Proofs.YtfmlkohijkalbaaGreat
set_option linter.unusedVariables false
set_option linter.unusedSimpArgs false
open Go.RowKit

/-- A closeness that can be. -/
structure GoodA (u v : Int) : Prop where
  u1 : 1 ≤ u
  uv : 2 * u ≤ v
  v2 : v ≤ 2147483648
theorem GoodA.v0 {u v : Int} (h : GoodA u v) : 0 < v := by have := h.u1; have := h.uv; omega
theorem GoodA.ovB {u v n : Int} (h : GoodA u v) (h0 : 0 ≤ n) (h1 : n < 18446744073709551616) : ovB (2 * u * n) v = true ∧ ovQ (2 * u * n) v = 2 * u * n / v ∧ max (2 * u * n / v) 1 = limG u v n := by
  have hv := h.v0
  have hq := quo_le hv h.uv h0
  have hb : Go.Proofs.YtfmlkohijkalbaaGreat.ovB (2 * u * n) v = true := by unfold Go.Proofs.YtfmlkohijkalbaaGreat.ovB; exact decide_eq_true ⟨hv, by omega⟩
  exact ⟨hb, by unfold ovQ; rw [if_pos hb], rfl⟩
theorem GoodA.lim {u v n : Int} (h : GoodA u v) (h0 : 0 ≤ n) (h1 : n < 18446744073709551616) : limT u v n = limG u v n := by
  obtain ⟨b1, b2, b3⟩ := h.ovB h0 h1
  unfold limT
  rw [if_pos b1, b2, b3]
theorem GoodA.limw {u v n : Int} (h : GoodA u v) (h0 : 0 ≤ n) (h1 : n < 18446744073709551616) : 1 ≤ limG u v n ∧ limG u v n < 18446744073709551616 := by
  have hq := quo_le h.v0 h.uv h0
  unfold limG; omega

/-- The reference's sketch, in memory: its block; its rows, of its own. -/
structure RefGw (w : World) (M : Nat) (u v : Int) (vs vw : Value) (s : GwV) : Prop where
  c0 : w.cell? ⟨M, 0, none⟩ = some (.int .u64 u)
  c1 : w.cell? ⟨M, 1, none⟩ = some (.int .u64 v)
  c2 : w.cell? ⟨M, 2, none⟩ = some vs
  c3 : w.cell? ⟨M, 3, none⟩ = some vw
  f0 : ∀ o, w.frozen? ⟨M, o, none⟩ = false
  spots : OwnSp w 0 vs s.1
  waits : OwnN w 0 vw s.2
  ns : vs.ownBlock ≠ some M
  nw : vw.ownBlock ≠ some M
  ap : ∀ g, vw.ownBlock = some g → vs.ownBlock ≠ some g
theorem RefGw.lt {w : World} {M : Nat} {u v : Int} {vs vw : Value} {s : GwV} (h : RefGw w M u v vs vw s) : M < w.heap.size := World.block_lt_of_cell? (a := ⟨M, 0, none⟩) w h.c0
theorem RefGw.call {w w' : World} {M : Nat} {u v : Int} {vs vw : Value} {s : GwV} (h : RefGw w M u v vs vw s) (hb : Below w.heap.size w w') : RefGw w' M u v vs vw s :=
  ⟨cell_later hb h.c0, cell_later hb h.c1, cell_later hb h.c2, cell_later hb h.c3, fun o => ((bcell hb).2 _ _ h.lt).trans (h.f0 o), h.spots.call hb, h.waits.call hb, h.ns, h.nw, h.ap⟩
/-- Its bounds. -/
structure OkGw (s : GwV) : Prop where
  sp : ∀ x, x ∈ s.1 → okSp x
  wt : ∀ x, x ∈ s.2 → I64 x
  can : SpotsP 0 (totS s.1) s.1
  sl : s.1.length + s.2.length ≤ 5000
  wl : s.2.length ≤ 16
  tot : totG s ≤ 4611686018427387904

set_option maxRecDepth 100000 in
set_option maxHeartbeats 1000000 in
theorem rlimit19_any (w : World) (u v n : Int) (ha : GoodA u v) (hn : Word n) :
    Calls Tryz.prog 28 #[.agg #[.int .u64 u, .int .u64 v], .int .u64 n] w fun e w' => e = .returned (.int .u64 (limG u v n)) ∧ Below w.heap.size w w' := by
  obtain ⟨n0, n1⟩ := hn
  have hu1 := ha.u1
  have huv := ha.uv
  have hv2 := ha.v2
  have hv0 := ha.v0
  obtain ⟨b1, b2, b3⟩ := ha.ovB n0 n1
  obtain ⟨q, hq⟩ : ∃ q, 2 * u * n / v = q := ⟨_, rfl⟩
  have hqn := quo_le hv0 huv n0
  have hq0 := quo_nn (u := u) (by omega) hv0 n0
  rw [hq] at b2 b3 hqn hq0
  obtain ⟨lm, hlm⟩ : ∃ m, limG u v n = m := ⟨_, rfl⟩
  rw [hlm] at b3 ⊢
  have hmul : 0 ≤ 2 * u * n ∧ 2 * u * n < 340282366920938463463374607431768211456 := mul_bd (by unfold Word; omega) ⟨n0, n1⟩
  obtain ⟨rr, hrr⟩ : ∃ q, ovR (2 * u * n) v = q := ⟨_, rfl⟩
  obtain ⟨ph, hph⟩ : ∃ x, hiW (2 * u * n) = x := ⟨_, rfl⟩
  obtain ⟨pl', hpl'⟩ : ∃ x, loW (2 * u * n) = x := ⟨_, rfl⟩
  have CM := Lib.hid (fun W => rtimes_any (2 * u) n (by unfold Word; omega) ⟨n0, n1⟩ W)
  have CO := Lib.hid (fun W => rover_num (2 * u * n) v hmul.1 hmul.2 ⟨by omega, by omega⟩ W)
  rw [hph, hpl'] at CM CO
  rw [b1, b2, hrr] at CO
  have u2 : IntKind.u64.wrap (2 * u) = 2 * u := by rw [IntKind.wrap_u64]; omega
  obtain ⟨w0, hw0⟩ : ∃ w0, w.alloc (.cells #[.int .u64 u, .int .u64 v] 24) = w0 := ⟨_, rfl⟩
  have hb0 : Below w.heap.size w w0 := by rw [← hw0]; exact (Below.refl _ _).alloc (Nat.le_refl _) _
  have htw : Two w0 w.heap.size (.int .u64 u) (.int .u64 v) := by rw [← hw0]; exact Two.new w _ _ _
  have HB0 := Lib.hid hb0
  have HS0 : Hid (w0.drew.cell? ⟨w.heap.size, 0, none⟩ = some (.int .u64 u) ∧ w0.drew.cell? ⟨w.heap.size, 1, none⟩ = some (.int .u64 v) ∧ Below w0.heap.size w0 w0.drew) := Lib.hid ⟨htw.c0, htw.c1, (Below.refl _ _).drew⟩
  have HST := Lib.hid (fun (W W' : World) (h : W.cell? ⟨w.heap.size, 0, none⟩ = some (.int .u64 u) ∧ W.cell? ⟨w.heap.size, 1, none⟩ = some (.int .u64 v) ∧ Below w0.heap.size w0 W) (hb : Below W.heap.size W W') => (⟨cell_later hb h.1, cell_later hb h.2.1, h.2.2.trans (hb.mono h.2.2.size)⟩ : W'.cell? ⟨w.heap.size, 0, none⟩ = some (.int .u64 u) ∧ W'.cell? ⟨w.heap.size, 1, none⟩ = some (.int .u64 v) ∧ Below w0.heap.size w0 W'))
  clear hb0 htw hmul hph hpl' hrr b1 b2 hq ha hlm
  go_enter Tryz.func28, Tryz.ntmps28
  go_wp2_with fail
  go_region_held3 (fun w' => w'.cell? ⟨w.heap.size, 0, none⟩ = some (.int .u64 u) ∧ w'.cell? ⟨w.heap.size, 1, none⟩ = some (.int .u64 v) ∧ Below w0.heap.size w0 w')
    (first | exact HS0.out | exact HST.out _ _ (by assumption) hbA | exact HST.out _ _ (by assumption) hbB | assumption)
    ((first
      | (go_at_call 43; with_reducible refine (CM.out _).mono ?_; rintro e wA ⟨rfl, hbA⟩)
      | (go_at_call 54; with_reducible refine (CO.out _).mono ?_; rintro e wB ⟨rfl, hbB⟩)))
  all_goals
    rename_i hHeld
    have HF := Lib.hid (HB0.out.trans (hHeld.2.2.mono HB0.out.size))
    clear hHeld HS0 HST
    go_wp2_with fail
    go_ret
    exact ⟨rfl, HF.out⟩

set_option maxRecDepth 100000 in
set_option maxHeartbeats 1000000 in
theorem rtotal19_any (w : World) (M : Nat) (u v : Int) (vs vw : Value) (s : GwV) (n : Int) (h : RefGw w M u v vs vw s) (ok : OkGw s) (hn : totG s = n) :
    Calls Tryz.prog 34 #[.pointer (some ⟨M, 0, none⟩)] w fun e w' => e = .returned (.int .u64 n) ∧ Below w.heap.size w w' := by
  obtain ⟨A, cap, rfl, hS⟩ := h.spots.rows ok.sp
  obtain ⟨B, cap', rfl⟩ := h.waits.form
  have c2 := h.c2
  have c3 := h.c3
  obtain ⟨k, hk⟩ : ∃ k, s.2.length = k := ⟨_, rfl⟩
  obtain ⟨m, hm⟩ : ∃ m, s.1.length = m := ⟨_, rfl⟩
  have h0 := ok.tot
  have h1 := ok.wl
  have hle := ok.can.le
  have hT := fun W (hb : Below w.heap.size w W) => rtot18_any W A cap s.1 _ (hS.call hb) (by have := ok.sl; omega) rfl
  unfold totG at hn h0
  obtain ⟨t, ht⟩ : ∃ t, totS s.1 = t := ⟨_, rfl⟩
  rw [ht, hk] at hn h0
  rw [ht] at hle
  rw [hk] at c3 h1
  rw [hm] at c2
  rw [hm, ht] at hT
  have HT := Lib.hid hT
  have HN := Lib.hid hn
  have u1 : IntKind.u64.wrap (k : Int) = (k : Int) := by rw [IntKind.wrap_u64]; omega
  have u2 : IntKind.u64.wrap (t + (k : Int)) = t + (k : Int) := by rw [IntKind.wrap_u64]; omega
  clear hT h hS ok hn hm hk ht
  go_enter Tryz.func34, Tryz.ntmps34
  go_wp2_with fail
  go_quiet ((go_at_call 29; with_reducible exact Calls.quiet_of_same (HT.out _ (below_drewT (Below.refl _ _) _))))
  go_wp2_with fail
  go_ret
  exact ⟨ret_int HN.out, below_drewT (Below.refl _ _) _⟩
end Go.Proofs.YtfmlkohijkalbaaGreat

/-
  Rows of whole numbers of the call's own: appended to, as steps of a region that draws; read.
-/
namespace Go.Proofs.YtfmlkohijkalbaaGreat
set_option linter.unusedVariables false
set_option linter.unusedSimpArgs false
open Go.RowKit

/-- append of a row of whole numbers, as one step of a region that draws. -/
theorem step_append_nums {w : World} {ops : Array Oper} {o : Oper} {a : Act} {K : Act → World → Prop} {Q : Exit → Act → World → Prop} {E : Prop} (hgd : o.guard = none) (s x : Operand)
    (ho : o.op = .call { callee := .builtin .append, args := #[s, x], argTypes := #[52, 52] })
    (base : Nat) (v : Value) (M : List Int) (A : Option Addr) (n cap : Nat) (L : List Int) (hs : a.eval s = v) (hown : OwnN w base v M)
    (hx : a.eval x = .slice A n cap) (hl : L.length = n) (hsrc : Nums w A L) (hn : M.length + n ≤ 100000) (hbase : base ≤ w.heap.size)
    (h : ∀ v' w', OwnN w' base v' (M ++ L) → w.grownBy w' v.ownBlock → K (a.put o.dst v') w') : if Region.wanted o (yielded ops a.tmps) = true then Oper.wp Tryz.prog o a w K Q else E := by
  have hw : Region.wanted o (yielded ops a.tmps) = true := by simp [Region.wanted, hgd]
  rw [if_pos hw]
  subst hl
  obtain ⟨i0, hi, hz0, hz1, hz2⟩ := info_parts Tryz.infoInt18
  by_cases hL : L = []
  · subst hL
    have hx' : a.eval x = .slice A 0 cap := hx
    have hrun : (Builtin.append_ #[52, 52] o.type #[v, .slice A 0 cap]).run Tryz.prog w = .ok v w := by
      have hl : ∀ (b : Option Addr) (n c : Nat), (Builtin.firstCells 1 0 (.slice A 0 cap)).run Tryz.prog w = .ok #[] w := by
        intro b n c
        cases A with
        | none => exact run_firstCells_none w 1 0 0 cap
        | some ad => exact run_firstCells_some w 1 0 ad 0 cap [] rfl (fun j v hj => by simp at hj)
      rcases hown.2 with ⟨rfl, h0⟩ | ⟨g, c2, cur, rfl, _, _, hnc, _⟩
      · rw [show (0 : Nat) = 0 from rfl] at *
        simp [Builtin.append_, run_underlying Tryz.underlying52, sizeOf, typeInfo, hi, hz1, Builtin.lenOf, hl none 0 0]
      · simp [Builtin.append_, run_underlying Tryz.underlying52, sizeOf, typeInfo, hi, hz1, Builtin.lenOf, hnc, storeCells, hl none 0 0]
    unfold Oper.wp
    simp [execOp, ho, resolve, invoke, builtin, hs, hx', hrun, Result.andThen]
    exact h v w (by rw [List.append_nil]; exact hown) (World.grownBy.refl _ _)
  · obtain ⟨p, hp⟩ : ∃ p, L[0]? = some p := by
      cases L with
      | nil => exact absurd rfl hL
      | cons p r => exact ⟨p, rfl⟩
    obtain ⟨b, off, rfl, _, _⟩ := hsrc.at_ 0 p hp
    refine wp_append_own w s x _ ho base _ i0 _ 1 8 Tryz.underlying52 hi hz0 hz1 hz2 rfl (by decide) v M.length (intsL M) hs hown ⟨b, off, none⟩ L.length cap (intsL L) hx (by unfold intsL; rw [List.length_map, Nat.mul_one]) ?_ (fun u hu => by
        unfold intsL at hu
        obtain ⟨z, _, rfl⟩ := List.mem_map.1 hu
        rfl)
      (by unfold maxLen; omega) (by omega) hbase (fun v' w' h1 h2 _ => h v' w' ?_ h2)
    · intro j u hu
      rw [flat3]
      unfold intsL at hu
      rw [List.getElem?_map] at hu
      cases hL2 : L[j]? with
      | none => rw [hL2] at hu; cases hu
      | some z =>
        rw [hL2] at hu
        obtain ⟨b', off', e, _, c0⟩ := hsrc.at_ j z hL2
        obtain ⟨rfl, rfl⟩ : b = b' ∧ off = off' := by
          have := Option.some.inj e
          exact ⟨(Addr.mk.inj this).1, (Addr.mk.inj this).2.1⟩
        rw [c0]; exact hu
    · unfold OwnN
      rw [show intsL (M ++ L) = intsL M ++ intsL L by unfold intsL; rw [List.map_append], List.length_append]
      exact h1

/-- Nothing, in a block of its own. -/
theorem own_emptyN {W : World} {base g : Nat} (h : W.heap[g]? = some (.cells #[] 2 (0, 0))) (hb : base ≤ g) : OwnN W base (.slice (some ⟨g, 0, none⟩) 0 0) [] :=
  ⟨rfl, Or.inr ⟨g, 0, #[], rfl, hb, h, Nat.le_refl _, Nat.zero_le _, rfl, rfl⟩⟩
theorem one_num {W : World} {g : Nat} {x : Int} (hx : I64 x) (h : W.cell? ⟨g, 0, none⟩ = some (.int .i64 x)) : Nums W (some ⟨g, 0, none⟩) [x] :=
  ⟨fun p hp => by rw [List.mem_singleton.1 hp]; exact hx, fun i p hi => by
    match i, hi with
    | 0, hi =>
      have e : x = p := Option.some.inj hi
      subst e
      exact ⟨g, 0, rfl, World.block_lt_of_cell? (a := ⟨g, 0, none⟩) W h, h⟩⟩
theorem Nums.nil (w : World) (A : Option Addr) : Nums w A [] := ⟨fun p h => (by cases h), fun i p h => by simp at h⟩
theorem Nums.take {w : World} {A : Option Addr} {L : List Int} (h : Nums w A L) (k : Nat) : Nums w A (L.take k) :=
  ⟨fun p hp => h.ok p (List.mem_of_mem_take hp), fun i p hi => by
    have : L[i]? = some p := by
      rw [List.getElem?_take] at hi
      split at hi
      · exact hi
      · cases hi
    exact h.at_ i p this⟩
theorem Nums.drop {w : World} {b off : Nat} {L : List Int} (h : Nums w (some ⟨b, off, none⟩) L) (k : Nat) : Nums w (some ⟨b, off + k, none⟩) (L.drop k) :=
  ⟨fun p hp => h.ok p (List.mem_of_mem_drop hp), fun i p hi => by
    rw [List.getElem?_drop] at hi
    obtain ⟨b', off', e, hlt, c0⟩ := h.at_ (k + i) p hi
    obtain ⟨rfl, rfl⟩ : b = b' ∧ off = off' := by
      have := Option.some.inj e
      exact ⟨(Addr.mk.inj this).1, (Addr.mk.inj this).2.1⟩
    rw [← Nat.add_assoc] at c0
    exact ⟨b, _, rfl, hlt, c0⟩⟩
theorem OwnN.some_ {w : World} {base : Nat} {v : Value} {L : List Int} (h : OwnN w base v L) (hok : ∀ p, p ∈ L → I64 p) (hn : 1 ≤ L.length) : ∃ g off cap, v = .slice (some ⟨g, off, none⟩) L.length cap ∧ Nums w (some ⟨g, off, none⟩) L ∧ base ≤ g ∧ g < w.heap.size ∧ L.length ≤ cap := by
  obtain ⟨A, cap, rfl, hN⟩ := h.rows hok
  have h' : w.ownsRow base 2 1 (.slice A L.length cap) L.length (intsL L) := h
  rcases h'.2 with ⟨e, h0⟩ | ⟨g, cap', cur, e, hb, hg, hle, _⟩
  · omega
  · injection e with e1 e2 e3
    subst e1 e3
    exact ⟨g, 0, cap, rfl, hN, hb, lt_of_block hg, hle⟩
/-- Blocks of one's own that another row's growing leaves alone. -/
theorem Nums.grown {w w' : World} {A : Option Addr} {L : List Int} {r : Option Nat} (h : Nums w A L) (hg : w.grownBy w' r) (hne : ∀ a, A = some a → some a.block ≠ r) : Nums w' A L :=
  ⟨h.ok, fun i p hi => by
    obtain ⟨b, off, rfl, hlt, c0⟩ := h.at_ i p hi
    exact ⟨b, off, rfl, Nat.lt_of_lt_of_le hlt hg.size, hg.cell c0 (show some b ≠ r from hne ⟨b, off, none⟩ rfl)⟩⟩
end Go.Proofs.YtfmlkohijkalbaaGreat
