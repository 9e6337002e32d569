import Derived.Shelf.Small.Bits
import Derived.Shelf.Small.Wraps
import Derived.Shelf.Strconv.Itoa0
import Derived.Shelf.Sort.Plain
import Derived.Shelf.Slices.Turned
import Derived.Shelf.Slices.Equal
import Derived.Ground.Names2Prog
import Derived.Shelf.Slices.Clone
import Derived.Shelf.Slices.CompactI
import Derived.Shelf.Slices.SearchI
import Derived.Shelf.Slices.Cells
import Derived.Shelf.Slices.In.SortNone
import Derived.Shelf.Slices.Empties
import Derived.Shelf.Slices.Empties2
import Derived.Test.YthnhacncnhknnaaDoorProg
import Derived.Test.YthnhacncnhknnaaDoorZ01
import Derived.Lib.TrailingZeros
import Derived.RangeFuncNested
import Derived.RangeFuncBound
import Derived.RangeFuncCalls
import Derived.RangeFuncLeaves
import Derived.WalkKit
import Derived.WalkSpells
import Derived.Lib.Hide
import Derived.Shelf.Spec.TrailingZeros
import Derived.IntWalk
import Derived.OwnWalkIn
import Derived.Laws.StructEq
import Derived.Deep.MidRow
import Derived.Laws.Rows
import Derived.Shelf.Abstract
import Derived.Shelf.RegionOpen
import Derived.TacticsInMore
import Derived.LoopNIn
import Derived.LoopIn
import Derived.Sort.CutIn
import Derived.Deep.RegionHeld3
import Derived.Deep.AppendLies
import Derived.Deep.DeepCutAuto
import Derived.Deep.RegionLaw
import Derived.Deep.RegionLawGrows
import Derived.BigQuiet
import Derived.ArgAppend
import Derived.LoopTactic
import Derived.Outline
/-
  DERIVED: THE SHELF's CONTRACTS AT THIS DUMP, IN PLAIN WORDS (tools/lay-plain.mjs out of 'TrydShelf.lean', which tools/lay-shelf.mjs wrote): THE SAME DECLARATIONS UNDER THE SAME NAMES: 'import', 'namespace', 'open', 'def', 'theorem' AND NOTHING ELSE: no command of the shelf's: FOR A HAND-IN. Each laying: the table of numbers ('.._ren') and one theorem, a field a fact of the dump's own or the kernel's comparison; each contract: ONE APPLICATION.
-/
namespace Go.Proofs
open Go.Shelf
def Tryd.lays128_ren : Go.Shelf.Ren := ⟨fun | 128 => 116 | n => n, fun | 51 => 114 | 3 => 3 | 4 => 4 | 46 => 88 | 5 => 5 | 9 => 9 | n => n, fun | n => n⟩
theorem Tryd.lays128 : Go.Proofs.Lays.n128 Tryd.prog Tryd.lays128_ren := {
  mixed := by kernel_rfl
  f128 := Tryd.func116.trans (congrArg some (by kernel_rfl))
  t3 := Tryd.underlying3
  a3 := Tryd.isAgg3
  z3 := Tryd.sizeOf3
  v3 := Tryd.zeroValue3
  t4 := Tryd.underlying4
  a4 := Tryd.isAgg4
  z4 := Tryd.sizeOf4
  v4 := Tryd.zeroValue4
  t5 := Tryd.underlying5
  a5 := Tryd.isAgg5
  z5 := Tryd.sizeOf5
  v5 := Tryd.zeroValue5
  t9 := Tryd.underlying9
  a9 := Tryd.isAgg9
  z9 := Tryd.sizeOf9
  v9 := Tryd.zeroValue9
  t46 := Tryd.underlying88
  a46 := Tryd.isAgg88
  z46 := Tryd.sizeOf88
  v46 := Tryd.zeroValue88
  t51 := Tryd.underlying114
  a51 := Tryd.isAgg114
  z51 := Tryd.sizeOf114
  v51 := Tryd.zeroValue114 }
/-- bits.Len32: "Len32 returns the minimum number of bits required tq represent x; the result is 0 for x == 0.": IT RETURNS 'Lib.bitLen x'; the world is as it was. ('h0', 'h1': x is a uint32.) (LAID: no walk: one application.) -/
theorem Tryd.bits_Len32 (x : Int) (w : World) (h0 : 0 ≤ x) (h1 : x ≤ 4294967295) :
    Calls Tryd.prog 116 #[.int .u32 x] w fun e w' => e = .returned (.int .i64 (Lib.bitLen x.toNat)) ∧ w' = w := Any.bits_Len32 Tryd.lays128 x w h0 h1
def Tryd.lays125_ren : Go.Shelf.Ren := ⟨fun | 125 => 95 | 128 => 116 | 129 => 117 | n => n, fun | 46 => 88 | 3 => 3 | 51 => 114 | 53 => 28 | 4 => 4 | 5 => 5 | 9 => 9 | n => n, fun | n => n⟩
theorem Tryd.lays125 : Go.Proofs.Lays.n125 Tryd.prog Tryd.lays125_ren := {
  mixed := by kernel_rfl
  f125 := Tryd.func95.trans (congrArg some (by kernel_rfl))
  f128 := Tryd.func116.trans (congrArg some (by kernel_rfl))
  f129 := Tryd.func117.trans (congrArg some (by kernel_rfl))
  t3 := Tryd.underlying3
  a3 := Tryd.isAgg3
  z3 := Tryd.sizeOf3
  v3 := Tryd.zeroValue3
  t4 := Tryd.underlying4
  a4 := Tryd.isAgg4
  z4 := Tryd.sizeOf4
  v4 := Tryd.zeroValue4
  t5 := Tryd.underlying5
  a5 := Tryd.isAgg5
  z5 := Tryd.sizeOf5
  v5 := Tryd.zeroValue5
  t9 := Tryd.underlying9
  a9 := Tryd.isAgg9
  z9 := Tryd.sizeOf9
  v9 := Tryd.zeroValue9
  t46 := Tryd.underlying88
  a46 := Tryd.isAgg88
  z46 := Tryd.sizeOf88
  v46 := Tryd.zeroValue88
  t51 := Tryd.underlying114
  a51 := Tryd.isAgg114
  z51 := Tryd.sizeOf114
  v51 := Tryd.zeroValue114
  t53 := Tryd.underlying28
  a53 := Tryd.isAgg28
  z53 := Tryd.sizeOf28
  v53 := Tryd.zeroValue28 }
/-- bits.Len: "Len returns the minimum number of bits required tq represent x; the result is 0 for x == 0.": IT RETURNS 'Lib.bitLen x'; the world is as it was. (A uint has 64 bits in the model.) ITS CALLEE bits.Len64 IS MET BY ITS OWN CONTRACT OFF THE SHELF (lay that first). (LAID: no walk: one application.) -/
theorem Tryd.bits_Len (x : Int) (w : World) (h0 : 0 ≤ x) (h1 : x ≤ 18446744073709551615) :
    Calls Tryd.prog 95 #[.int .u64 x] w fun e w' => e = .returned (.int .i64 (Lib.bitLen x.toNat)) ∧ w' = w := Any.bits_Len Tryd.lays125 x w h0 h1
def Tryd.lays215_ren : Go.Shelf.Ren := ⟨fun | 215 => 118 | n => n, fun | 3 => 3 | 4 => 4 | n => n, fun | n => n⟩
theorem Tryd.lays215 : Go.Proofs.Lays.n215 Tryd.prog Tryd.lays215_ren := {
  mixed := by kernel_rfl
  f215 := Tryd.func118.trans (congrArg some (by kernel_rfl))
  t3 := Tryd.underlying3
  a3 := Tryd.isAgg3
  z3 := Tryd.sizeOf3
  v3 := Tryd.zeroValue3
  t4 := Tryd.underlying4
  a4 := Tryd.isAgg4
  z4 := Tryd.sizeOf4
  v4 := Tryd.zeroValue4 }
open Go.RowKit in
/-- cmp.isNaN at int: 'x != x': false. (LAID: no walk: one application.) -/
theorem Tryd.cmp_isNaN_int (x : Int) (w : World) :
    Calls Tryd.prog 118 #[.int .i64 x] w fun e w' => e = .returned (.bool false) ∧ w' = w := Any.cmp_isNaN_int Tryd.lays215 x w
def Tryd.lays122_ren : Go.Shelf.Ren := ⟨fun | 122 => 97 | 215 => 118 | n => n, fun | 3 => 3 | 4 => 4 | n => n, fun | n => n⟩
theorem Tryd.lays122 : Go.Proofs.Lays.n122 Tryd.prog Tryd.lays122_ren := {
  mixed := by kernel_rfl
  f122 := Tryd.func97.trans (congrArg some (by kernel_rfl))
  f215 := Tryd.func118.trans (congrArg some (by kernel_rfl))
  t3 := Tryd.underlying3
  a3 := Tryd.isAgg3
  z3 := Tryd.sizeOf3
  v3 := Tryd.zeroValue3
  t4 := Tryd.underlying4
  a4 := Tryd.isAgg4
  z4 := Tryd.sizeOf4
  v4 := Tryd.zeroValue4 }
open Go.RowKit in
/-- cmp.Compare at int: "Compare returns -1 if x is less than y, 0 if x equals y, +1 if x is greater than y.": IT RETURNS 'Lib.compareInt x y'; the world is as it was. (LAID: no walk: one application.) -/
theorem Tryd.cmp_Compare_int (x y : Int) (w : World) :
    Calls Tryd.prog 97 #[.int .i64 x, .int .i64 y] w fun e w' => e = .returned (.int .i64 (Lib.compareInt x y)) ∧ w' = w := Any.cmp_Compare_int Tryd.lays122 x y w
def Tryd.lays129_ren : Go.Shelf.Ren := ⟨fun | 129 => 117 | n => n, fun | 53 => 28 | 3 => 3 | 4 => 4 | 46 => 88 | 5 => 5 | 9 => 9 | n => n, fun | n => n⟩
theorem Tryd.lays129 : Go.Proofs.Lays.n129 Tryd.prog Tryd.lays129_ren := {
  mixed := by kernel_rfl
  f129 := Tryd.func117.trans (congrArg some (by kernel_rfl))
  t3 := Tryd.underlying3
  a3 := Tryd.isAgg3
  z3 := Tryd.sizeOf3
  v3 := Tryd.zeroValue3
  t4 := Tryd.underlying4
  a4 := Tryd.isAgg4
  z4 := Tryd.sizeOf4
  v4 := Tryd.zeroValue4
  t5 := Tryd.underlying5
  a5 := Tryd.isAgg5
  z5 := Tryd.sizeOf5
  v5 := Tryd.zeroValue5
  t9 := Tryd.underlying9
  a9 := Tryd.isAgg9
  z9 := Tryd.sizeOf9
  v9 := Tryd.zeroValue9
  t46 := Tryd.underlying88
  a46 := Tryd.isAgg88
  z46 := Tryd.sizeOf88
  v46 := Tryd.zeroValue88
  t53 := Tryd.underlying28
  a53 := Tryd.isAgg28
  z53 := Tryd.sizeOf28
  v53 := Tryd.zeroValue28 }
/-- bits.Len64: "Len64 returns the minimum number of bits required tq represent x; the result is 0 for x == 0.": IT RETURNS 'Lib.bitLen x'; the world is as it was. ('h0', 'h1': x is a uint64.) (LAID: no walk: one application.) -/
theorem Tryd.bits_Len64 (x : Int) (w : World) (h0 : 0 ≤ x) (h1 : x ≤ 18446744073709551615) :
    Calls Tryd.prog 117 #[.int .u64 x] w fun e w' => e = .returned (.int .i64 (Lib.bitLen x.toNat)) ∧ w' = w := Any.bits_Len64 Tryd.lays129 x w h0 h1
def Tryd.lays189_ren : Go.Shelf.Ren := ⟨fun | 189 => 101 | 125 => 95 | 257 => 122 | 128 => 116 | 129 => 117 | 294 => 129 | 295 => 130 | 296 => 131 | 297 => 132 | 298 => 133 | 299 => 134 | 216 => 119 | 300 => 135 | 301 => 136 | 328 => 138 | 329 => 125 | 330 => 126 | 331 => 139 | 332 => 140 | 215 => 118 | 343 => 141 | n => n, fun | 28 => 22 | 3 => 3 | 46 => 88 | 0 => 0 | 51 => 114 | 53 => 28 | 4 => 4 | 183 => 118 | 182 => 117 | 131 => 109 | 5 => 5 | 9 => 9 | 218 => 128 | 222 => 132 | 228 => 139 | 229 => 140 | n => n, fun | n => n⟩
theorem Tryd.lays189 : Go.Proofs.Lays.n189 Tryd.prog Tryd.lays189_ren := {
  mixed := by kernel_rfl
  f125 := Tryd.func95.trans (congrArg some (by kernel_rfl))
  f128 := Tryd.func116.trans (congrArg some (by kernel_rfl))
  f129 := Tryd.func117.trans (congrArg some (by kernel_rfl))
  f189 := Tryd.func101.trans (congrArg some (by kernel_rfl))
  f215 := Tryd.func118.trans (congrArg some (by kernel_rfl))
  f216 := Tryd.func119.trans (congrArg some (by kernel_rfl))
  f257 := Tryd.func122.trans (congrArg some (by kernel_rfl))
  f294 := Tryd.func129.trans (congrArg some (by kernel_rfl))
  f295 := Tryd.func130.trans (congrArg some (by kernel_rfl))
  f296 := Tryd.func131.trans (congrArg some (by kernel_rfl))
  f297 := Tryd.func132.trans (congrArg some (by kernel_rfl))
  f298 := Tryd.func133.trans (congrArg some (by kernel_rfl))
  f299 := Tryd.func134.trans (congrArg some (by kernel_rfl))
  f300 := Tryd.func135.trans (congrArg some (by kernel_rfl))
  f301 := Tryd.func136.trans (congrArg some (by kernel_rfl))
  f328 := Tryd.func138.trans (congrArg some (by kernel_rfl))
  f329 := Tryd.func125.trans (congrArg some (by kernel_rfl))
  f330 := Tryd.func126.trans (congrArg some (by kernel_rfl))
  f331 := Tryd.func139.trans (congrArg some (by kernel_rfl))
  f332 := Tryd.func140.trans (congrArg some (by kernel_rfl))
  f343 := Tryd.func141.trans (congrArg some (by kernel_rfl))
  t0 := Tryd.underlying0
  a0 := Tryd.isAgg0
  z0 := Tryd.sizeOf0
  v0 := Tryd.zeroValue0
  t3 := Tryd.underlying3
  a3 := Tryd.isAgg3
  z3 := Tryd.sizeOf3
  v3 := Tryd.zeroValue3
  t4 := Tryd.underlying4
  a4 := Tryd.isAgg4
  z4 := Tryd.sizeOf4
  v4 := Tryd.zeroValue4
  t5 := Tryd.underlying5
  a5 := Tryd.isAgg5
  z5 := Tryd.sizeOf5
  v5 := Tryd.zeroValue5
  t9 := Tryd.underlying9
  a9 := Tryd.isAgg9
  z9 := Tryd.sizeOf9
  v9 := Tryd.zeroValue9
  t28 := Tryd.underlying22
  a28 := Tryd.isAgg22
  z28 := Tryd.sizeOf22
  v28 := Tryd.zeroValue22
  t46 := Tryd.underlying88
  a46 := Tryd.isAgg88
  z46 := Tryd.sizeOf88
  v46 := Tryd.zeroValue88
  t51 := Tryd.underlying114
  a51 := Tryd.isAgg114
  z51 := Tryd.sizeOf114
  v51 := Tryd.zeroValue114
  t53 := Tryd.underlying28
  a53 := Tryd.isAgg28
  z53 := Tryd.sizeOf28
  v53 := Tryd.zeroValue28
  t131 := Tryd.underlying109
  a131 := Tryd.isAgg109
  z131 := Tryd.sizeOf109
  v131 := Tryd.zeroValue109
  t182 := Tryd.underlying117
  a182 := Tryd.isAgg117
  z182 := Tryd.sizeOf117
  v182 := Tryd.zeroValue117
  t183 := Tryd.underlying118
  a183 := Tryd.isAgg118
  z183 := Tryd.sizeOf118
  v183 := Tryd.zeroValue118
  t218 := Tryd.underlying128
  a218 := Tryd.isAgg128
  z218 := Tryd.sizeOf128
  v218 := Tryd.zeroValue128
  t222 := Tryd.underlying132
  a222 := Tryd.isAgg132
  z222 := Tryd.sizeOf132
  v222 := Tryd.zeroValue132
  t228 := Tryd.underlying139
  a228 := Tryd.isAgg139
  z228 := Tryd.sizeOf139
  v228 := Tryd.zeroValue139
  t229 := Tryd.underlying140
  a229 := Tryd.isAgg140
  z229 := Tryd.sizeOf140
  v229 := Tryd.zeroValue140 }
open Go.Sort Go.RowKit in
theorem Tryd.slices_Sort_int (blk off cap : Nat) (zs : List Int) (w : World) (hH : Holds (Value.int .i64) w blk off zs.toArray) (hblk : blk < w.heap.size) (hsz : zs.length < 4611686018427387904) :
    Calls Tryd.prog 101 #[.slice (some ⟨blk, off, none⟩) zs.length cap] w fun e w' =>
      e = .returned (.tuple #[]) ∧ ∃ n os, w' = grow (putRow (Value.int .i64) (Sort.ahead w n) blk off (zs.mergeSort fun x y => decide (x ≤ y)).toArray) os := Any.slices_Sort_int Tryd.lays189 blk off cap zs w hH hblk hsz
def Tryd.lays108_ren : Go.Shelf.Ren := ⟨fun | 108 => 123 | n => n, fun | 28 => 22 | 3 => 3 | 0 => 0 | 4 => 4 | n => n, fun | n => n⟩
theorem Tryd.lays108 : Go.Proofs.Lays.n108 Tryd.prog Tryd.lays108_ren := {
  mixed := by kernel_rfl
  f108 := Tryd.func123.trans (congrArg some (by kernel_rfl))
  t0 := Tryd.underlying0
  a0 := Tryd.isAgg0
  z0 := Tryd.sizeOf0
  v0 := Tryd.zeroValue0
  t3 := Tryd.underlying3
  a3 := Tryd.isAgg3
  z3 := Tryd.sizeOf3
  v3 := Tryd.zeroValue3
  t4 := Tryd.underlying4
  a4 := Tryd.isAgg4
  z4 := Tryd.sizeOf4
  v4 := Tryd.zeroValue4
  t28 := Tryd.underlying22
  a28 := Tryd.isAgg22
  z28 := Tryd.sizeOf22
  v28 := Tryd.zeroValue22 }
open Go.Lib in
/-- slices.Index at []int: "Index returns the index of the first occurrence of v in s, or -1 if not present.": IT RETURNS 'Lib.idxOf (the elements) v'; the world is as it was. 'zs': what the cells behind the slice's address hold (its spare capacity too, if you have it); 'zs.take n': its elements. (LAID: no walk: one application.) -/
theorem Tryd.slices_Index_int (b off n c : Nat) (zs : List Int) (x : Int) (w : World) (hz : n ≤ zs.length) (hbig : n ≤ 9223372036854775807) (hc : ∀ j, j < zs.length → w.cell? ⟨b, off + j, none⟩ = some (.int .i64 (zs.getD j 0))) :
    Calls Tryd.prog 123 #[.slice (some ⟨b, off, none⟩) n c, .int .i64 x] w fun e w' => e = .returned (.int .i64 (Lib.idxOf (zs.take n) x)) ∧ w' = w := Any.slices_Index_int Tryd.lays108 b off n c zs x w hz hbig hc
open Go.Lib in
/-- The same at a slice of length 0, a nil one too: no cell is known, none is asked for. (LAID: no walk: one application.) -/
theorem Tryd.slices_Index_int_empty (a : Option Addr) (c : Nat) (x : Int) (w : World) :
    Calls Tryd.prog 123 #[.slice a 0 c, .int .i64 x] w fun e w' => e = .returned (.int .i64 (Lib.idxOf [] x)) ∧ w' = w := Any.slices_Index_int_empty Tryd.lays108 a c x w
def Tryd.lays107_ren : Go.Shelf.Ren := ⟨fun | 107 => 105 | 108 => 123 | n => n, fun | 28 => 22 | 3 => 3 | 4 => 4 | 0 => 0 | n => n, fun | n => n⟩
theorem Tryd.lays107 : Go.Proofs.Lays.n107 Tryd.prog Tryd.lays107_ren := {
  mixed := by kernel_rfl
  f107 := Tryd.func105.trans (congrArg some (by kernel_rfl))
  f108 := Tryd.func123.trans (congrArg some (by kernel_rfl))
  t0 := Tryd.underlying0
  a0 := Tryd.isAgg0
  z0 := Tryd.sizeOf0
  v0 := Tryd.zeroValue0
  t3 := Tryd.underlying3
  a3 := Tryd.isAgg3
  z3 := Tryd.sizeOf3
  v3 := Tryd.zeroValue3
  t4 := Tryd.underlying4
  a4 := Tryd.isAgg4
  z4 := Tryd.sizeOf4
  v4 := Tryd.zeroValue4
  t28 := Tryd.underlying22
  a28 := Tryd.isAgg22
  z28 := Tryd.sizeOf22
  v28 := Tryd.zeroValue22 }
open Go.Lib in
/-- slices.Contains at []int: "Contains reports whether v is present in s.": IT RETURNS 'elements.contains v'; the world is as it was. ITS CALLEE slices.Index IS MET BY ITS OWN CONTRACT OFF THE SHELF (lay that first): no loop is walked here. (LAID: no walk: one application.) -/
theorem Tryd.slices_Contains_int (b off n c : Nat) (zs : List Int) (x : Int) (w : World) (hz : n ≤ zs.length) (hbig : n ≤ 9223372036854775807) (hc : ∀ j, j < zs.length → w.cell? ⟨b, off + j, none⟩ = some (.int .i64 (zs.getD j 0))) :
    Calls Tryd.prog 105 #[.slice (some ⟨b, off, none⟩) n c, .int .i64 x] w fun e w' => e = .returned (.bool ((zs.take n).contains x)) ∧ w' = w := Any.slices_Contains_int Tryd.lays107 b off n c zs x w hz hbig hc
open Go.Lib in
/-- The same at a slice of length 0, a nil one too. (LAID: no walk: one application.) -/
theorem Tryd.slices_Contains_int_empty (a : Option Addr) (c : Nat) (x : Int) (w : World) :
    Calls Tryd.prog 105 #[.slice a 0 c, .int .i64 x] w fun e w' => e = .returned (.bool false) ∧ w' = w := Any.slices_Contains_int_empty Tryd.lays107 a c x w
def Tryd.lays111_ren : Go.Shelf.Ren := ⟨fun | 111 => 43 | n => n, fun | 28 => 22 | 3 => 3 | 4 => 4 | 0 => 0 | n => n, fun | n => n⟩
theorem Tryd.lays111 : Go.Proofs.Lays.n111 Tryd.prog Tryd.lays111_ren := {
  mixed := by kernel_rfl
  f111 := Tryd.func43.trans (congrArg some (by kernel_rfl))
  t0 := Tryd.underlying0
  a0 := Tryd.isAgg0
  z0 := Tryd.sizeOf0
  v0 := Tryd.zeroValue0
  t3 := Tryd.underlying3
  a3 := Tryd.isAgg3
  z3 := Tryd.sizeOf3
  v3 := Tryd.zeroValue3
  t4 := Tryd.underlying4
  a4 := Tryd.isAgg4
  z4 := Tryd.sizeOf4
  v4 := Tryd.zeroValue4
  t28 := Tryd.underlying22
  a28 := Tryd.isAgg22
  z28 := Tryd.sizeOf22
  v28 := Tryd.zeroValue22 }
open Go.RowKit Go.Lib in
/-- slices.Equal at []int: "Equal reports whether two slices are equal: the same length and all elements equal. If the lengths are different, Equal returns false. Otherwise, the elements are compared in increasing index order, and the comparison stops at the first unequal pair. Empty and nil slices are considered equal.": IT RETURNS WHETHER THE TWO LISTS OF ELEMENTS ARE ONE; the world is as it was but for the count of draws (the test 's1[i] != s2[i]' has two reads, whose order the model draws, once a round). 'xs', 'ys': what the cells behind the two addresses hold (the spare capacity too, if you have it); 'xs.take n', 'ys.take m': the elements. THE TWO SLICES MAY OVERLAP. (LAID: no walk: one application.) -/
theorem Tryd.slices_Equal_int (b1 o1 n c b2 o2 m d : Nat) (xs ys : List Int) (w : World) (hx : n ≤ xs.length) (hy : m ≤ ys.length) (hbig : n ≤ 9223372036854775807) (hbig2 : m ≤ 9223372036854775807) (hc1 : ∀ j, j < xs.length → w.cell? ⟨b1, o1 + j, none⟩ = some (.int .i64 (xs.getD j 0))) (hc2 : ∀ j, j < ys.length → w.cell? ⟨b2, o2 + j, none⟩ = some (.int .i64 (ys.getD j 0))) :
    Calls Tryd.prog 43 #[.slice (some ⟨b1, o1, none⟩) n c, .slice (some ⟨b2, o2, none⟩) m d] w fun e w' => e = .returned (.bool (xs.take n == ys.take m)) ∧ ∃ q, w' = w.drewN q := Any.slices_Equal_int Tryd.lays111 b1 o1 n c b2 o2 m d xs ys w hx hy hbig hbig2 hc1 hc2
open Go.RowKit Go.Lib in
/-- The same where the first is of length 0 (a nil one too): no cell is asked for. (LAID: no walk: one application.) -/
theorem Tryd.slices_Equal_int_empty (a1 a2 : Option Addr) (c m d : Nat) (w : World) (hbig2 : m ≤ 9223372036854775807) :
    Calls Tryd.prog 43 #[.slice a1 0 c, .slice a2 m d] w fun e w' => e = .returned (.bool (decide (m = 0))) ∧ w' = w := Any.slices_Equal_int_empty Tryd.lays111 a1 a2 c m d w hbig2
def Tryd.laysNm215_ren : Go.Shelf.Ren := ⟨fun | 15 => 14 | n => n, fun | 22 => 22 | 3 => 3 | 4 => 4 | n => n, fun | n => n⟩
theorem Tryd.laysNm215 : Go.Proofs.Lays2.n15 Tryd.prog Tryd.laysNm215_ren := {
  mixed := by kernel_rfl
  f15 := Tryd.func14.trans (congrArg some (by kernel_rfl))
  t3 := Tryd.underlying3
  a3 := Tryd.isAgg3
  z3 := Tryd.sizeOf3
  v3 := Tryd.zeroValue3
  t4 := Tryd.underlying4
  a4 := Tryd.isAgg4
  z4 := Tryd.sizeOf4
  v4 := Tryd.zeroValue4
  t22 := Tryd.underlying22
  a22 := Tryd.isAgg22
  z22 := Tryd.sizeOf22
  v22 := Tryd.zeroValue22
  i3 := by kernel_rfl }
open Go.RowKit Go.Lib in
/-- slices.Clone at []int: "Clone returns a copy of the slice. The elements are copied using assignment, so this is a shallow clone. The result may have additional unused capacity. The result preserves the nilness of s.": OF A SLICE THAT IS NOT nil IT RETURNS A SLICE THAT IS NOT nil, OF THE SAME ELEMENTS, IN MEMORY OF THE CALL's OWN: in the how-to's words (6f): 'w'.ownsRow B e 1 v' n cells': v' begins at the head of a row among the blocks from B on (B: the heap's size at the call), not frozen, whose first cells are the elements · 'Below B w w'': below B all is as it was. The capacity is whatever the run-time gives. 'zs': what the cells behind the slice's address hold; 'zs.take n': its elements. (LAID: no walk: one application.) -/
theorem Tryd.slices_Clone_int (b off n c : Nat) (zs : List Int) (w : World) (hz : n ≤ zs.length) (hbig : n * 8 ≤ 140737488355328) (hc : ∀ j, j < zs.length → w.cell? ⟨b, off + j, none⟩ = some (.int .i64 (zs.getD j 0))) :
    Calls Tryd.prog 14 #[.slice (some ⟨b, off, none⟩) n c] w fun e w' => ∃ v', e = .returned v' ∧ w'.ownsRow w.heap.size 3 1 v' n ((zs.take n).map (Value.int .i64)) ∧ v' ≠ .slice none 0 0 ∧ Below w.heap.size w w' := Any.slices_Clone_int Tryd.laysNm215 b off n c zs w hz hbig hc
open Go.RowKit Go.Lib in
/-- The same at nil: nil comes back; the world is as it was. (LAID: no walk: one application.) -/
theorem Tryd.slices_Clone_int_nil (n c : Nat) (w : World) :
    Calls Tryd.prog 14 #[.slice none n c] w fun e w' => e = .returned (.slice none 0 0) ∧ w' = w := Any.slices_Clone_int_nil Tryd.laysNm215 n c w
open Go.RowKit Go.Lib in
/-- The same at a slice of length 0 that is not nil, WHATEVER ITS ADDRESS (no cell is asked for): a slice that is not nil and owns nothing comes back. (LAID: no walk: one application.) -/
theorem Tryd.slices_Clone_int_zero (a : Addr) (c : Nat) (w : World) :
    Calls Tryd.prog 14 #[.slice (some a) 0 c] w fun e w' => ∃ v', e = .returned v' ∧ w'.ownsRow w.heap.size 3 1 v' 0 [] ∧ v' ≠ .slice none 0 0 ∧ Below w.heap.size w w' := Any.slices_Clone_int_zero Tryd.laysNm215 a c w
def Tryd.laysNm220_ren : Go.Shelf.Ren := ⟨fun | 20 => 78 | n => n, fun | 22 => 22 | 3 => 3 | 4 => 4 | 0 => 0 | n => n, fun | n => n⟩
theorem Tryd.laysNm220 : Go.Proofs.Lays2.n20 Tryd.prog Tryd.laysNm220_ren := {
  mixed := by kernel_rfl
  f20 := Tryd.func78.trans (congrArg some (by kernel_rfl))
  t0 := Tryd.underlying0
  a0 := Tryd.isAgg0
  z0 := Tryd.sizeOf0
  v0 := Tryd.zeroValue0
  t3 := Tryd.underlying3
  a3 := Tryd.isAgg3
  z3 := Tryd.sizeOf3
  v3 := Tryd.zeroValue3
  t4 := Tryd.underlying4
  a4 := Tryd.isAgg4
  z4 := Tryd.sizeOf4
  v4 := Tryd.zeroValue4
  t22 := Tryd.underlying22
  a22 := Tryd.isAgg22
  z22 := Tryd.sizeOf22
  v22 := Tryd.zeroValue22
  i3 := by kernel_rfl }
open Go.RowKit Go.Lib Go.Sort in
/-- slices.Compact at []int, over an array: the library's two loops are walked. (LAID: no walk: one application.) -/
theorem Tryd.slices_Compact_int_arr (blk off cap : Nat) (d : Array Int) (w : World) (hH : Holds encI w blk off d) (hsz : d.size ≤ 9223372036854775807) (hcap : d.size ≤ cap) :
    Calls Tryd.prog 78 #[.slice (some ⟨blk, off, none⟩) d.size cap] w fun e w' => e = .returned (.slice (some ⟨blk, off, none⟩) (compactUpTo d d.size).length cap) ∧ ∃ q, w' = putRow encI (Sort.ahead w q) blk off (compactUpTo d d.size ++ List.replicate (d.size - (compactUpTo d d.size).length) 0).toArray := Any.slices_Compact_int_arr Tryd.laysNm220 blk off cap d w hH hsz hcap
open Go.RowKit Go.Lib Go.Sort in
/-- slices.Compact at []int: "Compact replaces consecutive runs of equal elements with a single copy. This is like the uniq command found on Unix. Compact modifies the contents of the slice s and returns the modified slice, which may have a smaller length. Compact zeroes the elements between the new length and the original length. The result preserves the nilness of s.": IT RETURNS THE SLICE CUT TO 'Lib.compact zs'; ITS CELLS HOLD 'Lib.compact zs', THEN ZERO VALUES up tq the old length; all else is as it was, but for the count of draws. IN THE WORDS OF slices.Sort's CONTRACT ('Holds', 'putRow'): so the everyday 'slices.Sort(xs); xs = slices.Compact(xs)' goes from the one contract tq the other. It asks 'zs.length ≤ cap' (every slice's: the reslicing 's[:k]' looks at it). Length 0, nil: '.._empty'. (LAID: no walk: one application.) -/
theorem Tryd.slices_Compact_int (blk off cap : Nat) (zs : List Int) (w : World) (hH : Holds (Value.int .i64) w blk off zs.toArray) (hsz : zs.length ≤ 9223372036854775807) (hcap : zs.length ≤ cap) :
    Calls Tryd.prog 78 #[.slice (some ⟨blk, off, none⟩) zs.length cap] w fun e w' => e = .returned (.slice (some ⟨blk, off, none⟩) (Lib.compact zs).length cap) ∧ ∃ q, w' = putRow (Value.int .i64) (Sort.ahead w q) blk off (Lib.compact zs ++ List.replicate (zs.length - (Lib.compact zs).length) 0).toArray := Any.slices_Compact_int Tryd.laysNm220 blk off cap zs w hH hsz hcap
open Go.RowKit Go.Lib Go.Sort in
/-- The same at a slice of length 0, a nil one too: it comes back as it is. (LAID: no walk: one application.) -/
theorem Tryd.slices_Compact_int_empty (a : Option Addr) (cap : Nat) (w : World) :
    Calls Tryd.prog 78 #[.slice a 0 cap] w fun e w' => e = .returned (.slice a 0 cap) ∧ w' = w := Any.slices_Compact_int_empty Tryd.laysNm220 a cap w
def Tryd.laysNm237_ren : Go.Shelf.Ren := ⟨fun | 37 => 118 | n => n, fun | 3 => 3 | 4 => 4 | n => n, fun | n => n⟩
theorem Tryd.laysNm237 : Go.Proofs.Lays2.n37 Tryd.prog Tryd.laysNm237_ren := {
  mixed := by kernel_rfl
  f37 := Tryd.func118.trans (congrArg some (by kernel_rfl))
  t3 := Tryd.underlying3
  a3 := Tryd.isAgg3
  z3 := Tryd.sizeOf3
  v3 := Tryd.zeroValue3
  t4 := Tryd.underlying4
  a4 := Tryd.isAgg4
  z4 := Tryd.sizeOf4
  v4 := Tryd.zeroValue4 }
open Go.RowKit Go.Lib in
/-- cmp.isNaN[int]: 'x != x': false. (LAID: no walk: one application.) -/
theorem Tryd.cmp_isNaN_int2 (x : Int) (w : World) :
    Calls Tryd.prog 118 #[.int .i64 x] w fun e w' => e = .returned (.bool false) ∧ w' = w := Any.cmp_isNaN_int2 Tryd.laysNm237 x w
def Tryd.laysNm232_ren : Go.Shelf.Ren := ⟨fun | 32 => 120 | n => n, fun | 3 => 3 | 4 => 4 | n => n, fun | n => n⟩
theorem Tryd.laysNm232 : Go.Proofs.Lays2.n32 Tryd.prog Tryd.laysNm232_ren := {
  mixed := by kernel_rfl
  f32 := Tryd.func120.trans (congrArg some (by kernel_rfl))
  t3 := Tryd.underlying3
  a3 := Tryd.isAgg3
  z3 := Tryd.sizeOf3
  v3 := Tryd.zeroValue3
  t4 := Tryd.underlying4
  a4 := Tryd.isAgg4
  z4 := Tryd.sizeOf4
  v4 := Tryd.zeroValue4 }
open Go.RowKit Go.Lib in
/-- slices.isNaN[int]: 'x != x': false. (LAID: no walk: one application.) -/
theorem Tryd.slices_isNaN_int2 (x : Int) (w : World) :
    Calls Tryd.prog 120 #[.int .i64 x] w fun e w' => e = .returned (.bool false) ∧ w' = w := Any.slices_isNaN_int2 Tryd.laysNm232 x w
def Tryd.laysNm231_ren : Go.Shelf.Ren := ⟨fun | 31 => 119 | 37 => 118 | n => n, fun | 3 => 3 | 4 => 4 | n => n, fun | n => n⟩
theorem Tryd.laysNm231 : Go.Proofs.Lays2.n31 Tryd.prog Tryd.laysNm231_ren := {
  mixed := by kernel_rfl
  f31 := Tryd.func119.trans (congrArg some (by kernel_rfl))
  f37 := Tryd.func118.trans (congrArg some (by kernel_rfl))
  t3 := Tryd.underlying3
  a3 := Tryd.isAgg3
  z3 := Tryd.sizeOf3
  v3 := Tryd.zeroValue3
  t4 := Tryd.underlying4
  a4 := Tryd.isAgg4
  z4 := Tryd.sizeOf4
  v4 := Tryd.zeroValue4 }
open Go.RowKit Go.Lib in
/-- cmp.Less[int]: "Less reports whether x is less than y.": 'x < y'; the world is as it was. (LAID: no walk: one application.) -/
theorem Tryd.cmp_Less_int2 (x y : Int) (w : World) :
    Calls Tryd.prog 119 #[.int .i64 x, .int .i64 y] w fun e w' => e = .returned (.bool (decide (x < y))) ∧ w' = w := Any.cmp_Less_int2 Tryd.laysNm231 x y w
def Tryd.laysNm225_ren : Go.Shelf.Ren := ⟨fun | 25 => 99 | 31 => 119 | 32 => 120 | 37 => 118 | n => n, fun | 22 => 22 | 3 => 3 | 4 => 4 | 40 => 88 | 0 => 0 | n => n, fun | n => n⟩
theorem Tryd.laysNm225 : Go.Proofs.Lays2.n25 Tryd.prog Tryd.laysNm225_ren := {
  mixed := by kernel_rfl
  f25 := Tryd.func99.trans (congrArg some (by kernel_rfl))
  f31 := Tryd.func119.trans (congrArg some (by kernel_rfl))
  f32 := Tryd.func120.trans (congrArg some (by kernel_rfl))
  f37 := Tryd.func118.trans (congrArg some (by kernel_rfl))
  t0 := Tryd.underlying0
  a0 := Tryd.isAgg0
  z0 := Tryd.sizeOf0
  v0 := Tryd.zeroValue0
  t3 := Tryd.underlying3
  a3 := Tryd.isAgg3
  z3 := Tryd.sizeOf3
  v3 := Tryd.zeroValue3
  t4 := Tryd.underlying4
  a4 := Tryd.isAgg4
  z4 := Tryd.sizeOf4
  v4 := Tryd.zeroValue4
  t22 := Tryd.underlying22
  a22 := Tryd.isAgg22
  z22 := Tryd.sizeOf22
  v22 := Tryd.zeroValue22
  t40 := Tryd.underlying88
  a40 := Tryd.isAgg88
  z40 := Tryd.sizeOf88
  v40 := Tryd.zeroValue88 }
open Go.RowKit Go.Lib in
/-- slices.BinarySearch at []int: "BinarySearch searches for target in a sorted slice and returns the earliest position where target is found, or the position where target would appear in the sort order; it also returns a bool saying whether the target is really found in the slice. The slice must be sorted in increasing order.": OF A SORTED SLICE IT RETURNS how many elements are less than the target, and whether the target is among the elements; the world is as it was but for the count of draws. 'zs': what the cells behind the slice's address hold; 'zs.take n': its elements. (Of a slice that is not sorted: no contract here.) (LAID: no walk: one application.) -/
theorem Tryd.slices_BinarySearch_int (b off n c : Nat) (zs : List Int) (x : Int) (w : World) (hz : n ≤ zs.length) (hbig : n < 4611686018427387904) (hc : ∀ j, j < zs.length → w.cell? ⟨b, off + j, none⟩ = some (.int .i64 (zs.getD j 0))) (hs : (zs.take n).Pairwise (· ≤ ·)) :
    Calls Tryd.prog 99 #[.slice (some ⟨b, off, none⟩) n c, .int .i64 x] w fun e w' => e = .returned (.tuple #[.int .i64 ((zs.take n).countP (· < x) : Nat), .bool ((zs.take n).contains x)]) ∧ ∃ q, w' = w.drewN q := Any.slices_BinarySearch_int Tryd.laysNm225 b off n c zs x w hz hbig hc hs
open Go.RowKit Go.Lib Go.Sort in
/-- slices.Compact at []int, of an argument: the slice cut tq 'Lib.compact (elements)'; the n cells hold that, then zeros. (LAID: no walk: one application.) -/
theorem Tryd.slices_Compact_int_cells (b off n c : Nat) (zs : List Int) (w : World) (hz : n ≤ zs.length) (hbig : n ≤ 9223372036854775807) (hcap : n ≤ c) (hc : ∀ j, j < zs.length → w.cell? ⟨b, off + j, none⟩ = some (.int .i64 (zs.getD j 0))) (hf : ∀ j, j < n → w.frozen? ⟨b, off + j, none⟩ = false) :
    Calls Tryd.prog 78 #[.slice (some ⟨b, off, none⟩) n c] w fun e w' => e = .returned (.slice (some ⟨b, off, none⟩) (Lib.compact (zs.take n)).length c) ∧ ∃ q, w' = (w.drewN q).setCells b off ((Lib.compact (zs.take n) ++ List.replicate (n - (Lib.compact (zs.take n)).length) 0).map (Value.int .i64)) := Any.slices_Compact_int_cells Tryd.laysNm220 b off n c zs w hz hbig hcap hc hf
open Go.RowKit Go.Sort in
/-- .. and plain. (LAID: no walk: one application.) -/
theorem Tryd.slices_Sort_int_none (p : Option Addr) (cap : Nat) (w : World) :
    Calls Tryd.prog 101 #[.slice p 0 cap] w fun e w' => e = .returned (.tuple #[]) ∧ w' = w := Any.slices_Sort_int_none Tryd.lays189 p cap w
open Go.RowKit Go.Lib in
/-- slices.BinarySearch at []int of no element: position 0, not found; the world is as it was. (LAID: no walk: one application.) -/
theorem Tryd.slices_BinarySearch_int_empty (a : Option Addr) (c : Nat) (x : Int) (w : World) :
    Calls Tryd.prog 99 #[.slice a 0 c, .int .i64 x] w fun e w' => e = .returned (.tuple #[.int .i64 0, .bool false]) ∧ w' = w := Any.slices_BinarySearch_int_empty Tryd.laysNm225 a c x w
open Go.RowKit Go.Lib in
theorem Tryd.slices_Equal_int_lens (a1 a2 : Option Addr) (n c m d : Nat) (w : World) (hnm : n ≠ m) :
    Calls Tryd.prog 43 #[.slice a1 n c, .slice a2 m d] w fun e w' => e = .returned (.bool false) ∧ w' = w := Any.slices_Equal_int_lens Tryd.lays111 a1 a2 n c m d w hnm
end Go.Proofs

/-
  Graphs: Same of the program and the reference, same of the law, Few, Copied, slices.Clip, Contains, BinarySearch.
-/
namespace Go.Proofs.YthnhacncnhknnaaDoor
open Go.RowKit

theorem mo_eq (a b : Mo) : decide (a = b) = (decide (a.ns = b.ns) && decide (a.es = b.es)) := by
  cases a; cases b
  simp only [Mo.mk.injEq, Bool.decide_and]

/-- a small graph -/
def fewB (g : Gr) : Bool := decide (g.ns.length ≤ 45) && decide (g.es.length ≤ 90)
theorem few_iff {g : Gr} : fewB g = true ↔ g.ns.length ≤ 45 ∧ g.es.length ≤ 90 := by simp [fewB]
theorem few_any (g : Gr) (An : Option Addr) (cn : Nat) (Ae : Option Addr) (ce : Nat) (w : World) (hT : GrAt w An cn Ae ce g) :
    Calls Tryd.prog 44 #[gval An g.ns.length cn Ae g.es.length ce] w fun e w' => e = .returned (.bool (fewB g)) ∧ Below w.heap.size w w' := by
  have H : Hid (fewB g = (decide (g.ns.length ≤ 45) && decide (g.es.length ≤ 90))) := Lib.hid rfl
  have l1 := Nat.le_trans hT.cn.1 hT.cn.2
  have l2 := Nat.le_trans hT.ce.1 hT.ce.2
  clear hT
  unfold maxLen at l1 l2
  generalize fewB g = z at H ⊢
  generalize g.ns.length = a at *
  generalize g.es.length = b at *
  by_cases h1 : a ≤ 45
  · by_cases h2 : b ≤ 90
    · have HR := Lib.hid (show z = true by rw [H.out, decide_eq_true h1, decide_eq_true h2]; rfl)
      have t1 : decide ((a : Int) ≤ 45) = true := decide_eq_true (by omega)
      have t2 : decide ((b : Int) ≤ 90) = true := decide_eq_true (by omega)
      go_enter Tryd.func44, Tryd.ntmps44
      go_wp2_with fail
      go_ret
      exact ⟨ret_bool (by rw [HR.out]), (Below.refl _ _).alloc (Nat.le_refl _) _⟩
    · have HR := Lib.hid (show z = false by rw [H.out, decide_eq_true h1, decide_eq_false h2]; rfl)
      have t1 : decide ((a : Int) ≤ 45) = true := decide_eq_true (by omega)
      have t2 : decide ((b : Int) ≤ 90) = false := decide_eq_false (by omega)
      go_enter Tryd.func44, Tryd.ntmps44
      go_wp2_with fail
      go_ret
      exact ⟨ret_bool (by rw [HR.out]), (Below.refl _ _).alloc (Nat.le_refl _) _⟩
  · have HR := Lib.hid (show z = false by rw [H.out, decide_eq_false h1]; rfl)
    have t1 : decide ((a : Int) ≤ 45) = false := decide_eq_false (by omega)
    go_enter Tryd.func44, Tryd.ntmps44
    go_wp2_with fail
    go_ret
    exact ⟨ret_bool (by rw [HR.out]), (Below.refl _ _).alloc (Nat.le_refl _) _⟩

/-- slices.Contains -/
theorem contains_any (xs : List Int) (x : Int) (A : Option Addr) (B c : Nat) (w : World) (hl : xs.length ≤ maxLen) (hA : Ints w B A xs) :
    Calls Tryd.prog 105 #[.slice A xs.length c, .int .i64 x] w fun e w' => e = .returned (.bool (decide (x ∈ xs))) ∧ w = w' := by
  rcases Nat.eq_zero_or_pos xs.length with h | h
  · have e : xs = [] := List.eq_nil_of_length_eq_zero h
    subst e
    refine (Tryd.slices_Contains_int_empty A c x w).mono ?_
    rintro e w' ⟨rfl, rfl⟩
    exact ⟨ret_bool (by simp), rfl⟩
  · obtain ⟨b, off, rfl, _, hc⟩ := Ints.cells hA h
    refine (Tryd.slices_Contains_int b off xs.length c xs x w (Nat.le_refl _) (by unfold maxLen at hl; omega) hc).mono ?_
    rintro e w' ⟨rfl, rfl⟩
    refine ⟨ret_bool ?_, rfl⟩
    rw [List.take_length, List.contains_eq_mem]
/-- slices.BinarySearch in an ascending list -/
theorem bin_any (xs : List Int) (i : Nat) (A : Option Addr) (B c : Nat) (w : World) (hl : xs.length ≤ 1000000) (hA : Ints w B A xs) (hs : Asc xs) :
    Calls Tryd.prog 99 #[.slice A xs.length c, .int .i64 (i : Int)] w fun e w' => e = .returned (.tuple #[.int .i64 (cntL xs i : Nat), .bool (decide ((i : Int) ∈ xs))]) ∧ ∃ q, w' = w.drewN q := by
  rcases Nat.eq_zero_or_pos xs.length with h | h
  · have e : xs = [] := List.eq_nil_of_length_eq_zero h
    subst e
    refine (Tryd.slices_BinarySearch_int_empty A c i w).mono ?_
    rintro e w' ⟨rfl, rfl⟩
    exact ⟨by simp [cntL], 0, rfl⟩
  · obtain ⟨b, off, rfl, _, hc⟩ := Ints.cells hA h
    refine (Tryd.slices_BinarySearch_int b off xs.length c xs i w (Nat.le_refl _) (by omega) hc (by rw [List.take_length]; exact hs.imp fun h => Int.le_of_lt h)).mono ?_
    rintro e w' ⟨rfl, hq⟩
    refine ⟨?_, hq⟩
    rw [List.take_length, List.contains_eq_mem]
    rfl

end Go.Proofs.YthnhacncnhknnaaDoor

/-
  Graphs: numbers, Numbers, placesWithout, places, checkAscending, ascending.
-/
namespace Go.Proofs.YthnhacncnhknnaaDoor
open Go.RowKit

theorem wpList_make_Z {w : World} {ops : Array Oper} {rest : List Oper} {o : Oper} {a : Act} {Q : Exit → Act → World → Prop} (hgd : o.guard = none) (l c : Operand)
    (ho : o.op = Op.makeSlice 22 l c) (base n : Nat) (hl : a.eval l = .int .i64 (n : Int)) (hc : a.eval c = .int .i64 (n : Int)) (hn : n ≤ 1000000) (hbase : base ≤ w.heap.size)
    (hK : ∀ w', OwnI w' base (.slice (some ⟨w.heap.size, 0, none⟩) n n) (List.replicate n 0) → Below w.heap.size w w' → w.heap.size < w'.heap.size → wpList Tryd.prog ops Q rest (a.put o.dst (.slice (some ⟨w.heap.size, 0, none⟩) n n)) w') : wpList Tryd.prog ops Q (o :: rest) a w := by
  obtain ⟨i0, hi, hz0, hz1, hz2⟩ := info_parts infoInt
  refine wpList_make_full w hgd l c 22 ho base 3 i0 (.int .i64 0) 1 Tryd.underlying22 hi hz0 hz1 .i64 .i64 _ _ n hl hc rfl rfl (by rw [hz2]; omega) (by unfold maxLen; omega) hbase ?_
  intro w' h1 h2
  have h3 : OwnI w' base (.slice (some ⟨w.heap.size, 0, none⟩) n n) (List.replicate n 0) := by
    unfold OwnI OwnE
    rw [cellsE_int, List.length_replicate]
    have e : (madeCells (Value.int .i64 0).cells (n * 1)).toList = (List.replicate n (0 : Int)).map (Value.int .i64) := by
      rw [Nat.mul_one]
      refine (toList_madeCells_one _ _).trans ?_
      rw [List.map_replicate]
    rw [e] at h1
    exact h1
  exact hK w' h3 ((Below.refl _ w).grown h2 (Nat.le_refl _) (by intro k hk; cases hk)) (OwnE.lt h3 _ rfl).2

set_option maxHeartbeats 1000000 in
theorem numbersR_any (a : Int) (n : Nat) (w : World) (ha0 : 0 ≤ a) (ha : a ≤ 1000) (hn : n ≤ 1000) :
    Calls Tryd.prog 67 #[.int .i64 a, .int .i64 (n : Int)] w fun e w' => ∃ v, e = .returned v ∧ OwnI w' w.heap.size v (numS a n) ∧ Below w.heap.size w w' := by
  have HN : Hid (∀ k, coll (fun i => [a + (i : Int)]) (k + 1) = coll (fun i => [a + (i : Int)]) k ++ [a + (k : Int)]) := Lib.hid fun k => rfl
  have HNL := Lib.hid (coll_len (fun i : Nat => a + (i : Int)))
  have H0 : Hid (coll (fun i => [a + (i : Int)]) 0 = []) := Lib.hid rfl
  have HR : Hid (numS a n = coll (fun i => [a + (i : Int)]) n) := Lib.hid rfl
  generalize numS a n = R at HR ⊢
  generalize coll (fun i => [a + (i : Int)]) = P at HN HNL H0 HR
  go_enter Tryd.func67, Tryd.ntmps67
  go_wp2_with fail
  go_loopw [5, 6] (fun v x wr => ∃ k : Nat, k ≤ n ∧ x = .int .i64 k ∧ OwnI wr w.heap.size v (P k) ∧ Below w.heap.size w wr) (fun _ x _ => n - (intOf x).toNat)
  case atStart => exact ⟨0, Nat.zero_le _, rfl, by rw [H0.out]; exact OwnE.nil _ _ _, Below.refl _ _⟩
  case round =>
    obtain ⟨k, hk, rfl, hown, hbel⟩ := hrel
    have HG := Lib.hid hbel
    have hsz := hbel.size
    have HLN := Lib.hid (HNL.out k)
    obtain ⟨ao, cap, rfl⟩ := OwnE.slice hown
    have HW := Lib.hid hown
    clear hown hbel
    by_cases hlt : k < n
    · have e9 : (P k).length ≤ 1000 := by rw [HLN.out]; omega
      go_wp2_with (at_builtin; refine wpList_append_int (w := wr.alloc _) rfl _ _ rfl w.heap.size _ (P k) rfl ?y1 wr.heap.size 1 (a + (k : Int)) rfl ?y2 ?y3 ?y4 ?_)
      case y1 => exact HW.out.alloc _
      case y2 => exact cell_new _ _ _
      case y3 => omega
      case y4 => simp; omega
      intro v2 w2 hown2 _ hb2
      have HW2 := Lib.hid (OwnE.cast (HN.out k).symm hown2)
      have HB2 := Lib.hid ((HG.out.alloc hsz _).trans hb2)
      clear hown2 hb2
      go_wp2_with fail
      go_roundw
      case rel => exact ⟨k + 1, by omega, by go_num, HW2.out, HB2.out⟩
      case measure => simp [intOf]; omega
    · have e : k = n := by omega
      subst e
      have HW2 := Lib.hid (OwnE.cast HR.out.symm HW.out)
      go_wp2_with fail
      go_ret
      exact ⟨_, rfl, HW2.out, HG.out⟩

set_option maxRecDepth 100000 in
set_option maxHeartbeats 2000000 in
theorem placesP_any (l : List Int) (n : Nat) (A : Option Addr) (c : Nat) (w : World) (hl : l.length ≤ 1000) (hn : n ≤ 1000) (hs : Asc l) (h0 : ∀ x ∈ l, 0 ≤ x) (hA : Ints w w.heap.size A l) :
    Calls Tryd.prog 89 #[.slice A l.length c, .int .i64 (n : Int)] w fun e w' => ∃ v, e = .returned v ∧ OwnI w' w.heap.size v (plcs l n) ∧ Below w.heap.size w w' := by
  have HS := Lib.hid (fun (i : Nat) u (hu : Below w.heap.size w u) => bin_any l i A w.heap.size c u (by omega) (Reads.below hA hu) hs)
  have HIN := Lib.hid (fun (i : Nat) (h : (i : Int) ∈ l) => plc_in h)
  have HOUT := Lib.hid (fun (i : Nat) (h : ¬ (i : Int) ∈ l) => plc_out h)
  have HCL := Lib.hid (cnt_le hs h0)
  have HP := Lib.hid (fun k (h : k < n) => pad_set (plc l) 0 h)
  have HPL := Lib.hid (fun k (h : k ≤ n) => pad_len (plc l) 0 h)
  have HZ := Lib.hid (pad_zero (plc l) 0 n)
  have HE : Hid (pad (plc l) 0 n n = plcs l n) := Lib.hid (pad_all (plc l) 0 n)
  clear hA hs h0
  generalize plcs l n = R at HE ⊢
  generalize pad (plc l) 0 n = P at HP HPL HZ HE
  generalize plc l = f at HP HIN HOUT
  go_enter Tryd.func89, Tryd.ntmps89
  go_wp2_with (at_make; refine wpList_make_Z rfl _ _ rfl w.heap.size n rfl rfl (by omega) (Nat.le_refl _) ?_; intro w1 hown hb hsz)
  have HO := Lib.hid hown
  have HB := Lib.hid hb
  clear hown hb
  go_wp2_with fail
  go_loopw [13] (fun x wr => ∃ k : Nat, k ≤ n ∧ x = .int .i64 k ∧ OwnI wr w.heap.size (.slice (some ⟨w.heap.size, 0, none⟩) n n) (P k) ∧ Below w.heap.size w wr) (fun x _ => n - (intOf x).toNat)
  case atStart => exact ⟨0, Nat.zero_le _, rfl, by rw [HZ.out]; exact HO.out, HB.out⟩
  case round =>
    obtain ⟨k, hk, rfl, hown, hbel⟩ := hrel
    have HG := Lib.hid hbel
    by_cases hlt : k < n
    · have hc0 := HCL.out k
      have HC := HS.out k wr hbel
      by_cases hin : (k : Int) ∈ l
      · have hf := HIN.out k hin
        rw [decide_eq_true hin] at HC
        have HC := Lib.hid HC
        have hW : ∀ q, OwnI ((wr.drewN q).setCell ⟨w.heap.size, k, none⟩ (.int .i64 (-1))) w.heap.size (.slice (some ⟨w.heap.size, 0, none⟩) n n) (P (k + 1)) ∧ (wr.drewN q).cell? ⟨w.heap.size, k, none⟩ = some (.int .i64 ((P k).getD k 0)) ∧ (wr.drewN q).frozen? ⟨w.heap.size, k, none⟩ = false := fun q => by
          have ho : OwnI (wr.drewN q) w.heap.size (.slice (some ⟨w.heap.size, 0, none⟩) n n) (P k) := OwnE.below hown (below_draws (Below.refl _ _) q) (Nat.le_refl _)
          have hln := HPL.out k hk
          have := (OwnI.set hln.symm ho k (f k)).1
          rw [HP.out k hlt, hf] at this
          exact ⟨this, OwnI.cell hln.symm ho hlt, OwnI.free hln.symm ho k⟩
        have HW := Lib.hid hW
        clear hin hf hown hbel hW HIN HOUT HP HS
        generalize cntL l k = y at HC hc0
        go_wp2_with fail
        refine HC.out.mono ?_
        rintro e w2 ⟨rfl, q, rfl⟩
        have ck := (HW.out q).2.1
        have fk := (HW.out q).2.2
        go_wp2_with fail
        go_roundw
        case rel => exact ⟨k + 1, by omega, by go_num, (HW.out q).1, (below_draws HG.out q).setCell (p := ⟨w.heap.size, k, none⟩) (Nat.le_refl _) _⟩
        case measure => simp [intOf]; omega
      · have hf := HOUT.out k hin
        rw [decide_eq_false hin] at HC
        have HC := Lib.hid HC
        have hW : ∀ q, OwnI ((wr.drewN q).setCell ⟨w.heap.size, k, none⟩ (.int .i64 ((k : Int) - (cntL l k : Nat)))) w.heap.size (.slice (some ⟨w.heap.size, 0, none⟩) n n) (P (k + 1)) ∧ (wr.drewN q).cell? ⟨w.heap.size, k, none⟩ = some (.int .i64 ((P k).getD k 0)) ∧ (wr.drewN q).frozen? ⟨w.heap.size, k, none⟩ = false := fun q => by
          have ho : OwnI (wr.drewN q) w.heap.size (.slice (some ⟨w.heap.size, 0, none⟩) n n) (P k) := OwnE.below hown (below_draws (Below.refl _ _) q) (Nat.le_refl _)
          have hln := HPL.out k hk
          have := (OwnI.set hln.symm ho k (f k)).1
          rw [HP.out k hlt, hf] at this
          exact ⟨this, OwnI.cell hln.symm ho hlt, OwnI.free hln.symm ho k⟩
        have HW := Lib.hid hW
        clear hin hf hown hbel hW HIN HOUT HP HS
        generalize cntL l k = y at HC hc0 HW
        go_wp2_with fail
        refine HC.out.mono ?_
        rintro e w2 ⟨rfl, q, rfl⟩
        have ck := (HW.out q).2.1
        have fk := (HW.out q).2.2
        go_wp2_with fail
        go_roundw
        case rel => exact ⟨k + 1, by omega, by go_num, (HW.out q).1, (below_draws HG.out q).setCell (p := ⟨w.heap.size, k, none⟩) (Nat.le_refl _) _⟩
        case measure => simp [intOf]; omega
    · have e : k = n := by omega
      subst e
      have HW := Lib.hid (OwnE.cast HE.out hown)
      clear hown
      go_wp2_with fail
      go_ret
      exact ⟨_, rfl, HW.out, HG.out⟩

end Go.Proofs.YthnhacncnhknnaaDoor

/-
  The program's morphisms: small functions; the check of two graphs.
-/
namespace Go.Proofs.YthnhacncnhknnaaDoor
open Go.RowKit

theorem isIndexM_any (x : Int) (n : Nat) (w : World) : Calls Tryd.prog 77 #[.int .i64 x, .int .i64 (n : Int)] w fun e w' => e = .returned (.bool (idxB x n)) ∧ w = w' := isIndex_any x n w

def chkE (a b : Gr) : Nat := if validE a ≠ 0 then validE a else validE b

set_option maxHeartbeats 1000000 in
theorem chkM_any (g h : Gr) (An : Option Addr) (cn : Nat) (Ae : Option Addr) (ce : Nat) (Bn : Option Addr) (dn : Nat) (Be : Option Addr) (de : Nat) (w : World) (hT : GrAt w An cn Ae ce g) (hU : GrAt w Bn dn Be de h) :
    Calls Tryd.prog 85 #[gval An g.ns.length cn Ae g.es.length ce, gval Bn h.ns.length dn Be h.es.length de] w fun e w' => e = .returned (.int .i64 (chkE g h)) ∧ Below w.heap.size w w' := by
  have hb0 : Below w.heap.size w ((w.alloc (.cells #[.slice An g.ns.length cn, .slice Ae g.es.length ce] 25 (0, 0))).alloc (.cells #[.slice Bn h.ns.length dn, .slice Be h.es.length de] 25 (0, 0))) := ((Below.refl _ _).alloc (Nat.le_refl _) _).alloc (by simp) _
  have HB0 := Lib.hid hb0
  have HV := Lib.hid (validP_any g An cn Ae ce _ (hT.up hb0))
  have HW := Lib.hid (fun u (hu : Below w.heap.size w u) => validP_any h Bn dn Be de u (hU.up hu))
  have HX : Hid (chkE g h = if validE g ≠ 0 then validE g else validE h) := Lib.hid rfl
  clear hT hU hb0
  generalize chkE g h = R at HX ⊢
  generalize validE g = v at HV HX
  generalize validE h = v2 at HW HX
  go_enter Tryd.func85, Tryd.ntmps85
  go_wp2_with fail
  refine HV.out.mono ?_
  rintro e w1 ⟨rfl, hb1⟩
  obtain ⟨b0, b1, hsz⟩ := boxes2 hb1
  obtain ⟨c2, c3⟩ := cell2 b1
  clear b0 b1
  have HB := Lib.hid (HB0.out.trans (hb1.mono (by simp; omega)))
  have HS := Lib.hid hsz
  clear hb1 hsz
  by_cases hv : v = 0
  case neg =>
    have HR := Lib.hid (show R = v by rw [HX.out, if_pos hv])
    have t1 : ((v : Int) != 0) = true := by simp; omega
    clear hv
    go_wp2_with fail
    go_ret
    exact ⟨ret_int (by rw [HR.out]), HB.out⟩
  subst hv
  have HX2 := Lib.hid (show R = v2 by rw [HX.out, if_neg (fun h => h rfl)])
  clear HX HV
  go_wp2_with fail
  refine (HW.out _ HB.out).mono ?_
  rintro e w2 ⟨rfl, hb2⟩
  have HB2 := Lib.hid (HB.out.trans (hb2.mono (by have := HS.out; omega)))
  clear hb2 c2 c3
  go_wp2_with fail
  go_ret
  exact ⟨ret_int (by rw [HX2.out]), HB2.out⟩

/-! inverses -/
end Go.Proofs.YthnhacncnhknnaaDoor

/-
  Sets of small numbers as the bits of a number: their elements ascending, the lowest one, their count.
-/
namespace Go.Proofs.YthnhacncnhknnaaDoor
open Go

/-! the count of the bits, as math/bits has it -/
def g1 (b : Nat) : Nat := (b / 2 &&& 85) + (b &&& 85)
def g2 (b : Nat) : Nat := (b / 4 &&& 51) + (b &&& 51)
def g3 (b : Nat) : Nat := b / 16 + b % 16
end Go.Proofs.YthnhacncnhknnaaDoor

/-
  The search for the images of nodes, as plain data: choices, links, what a link leaves of them, all solutions ascending.
-/
namespace Go.Proofs.YthnhacncnhknnaaDoor

def sh (v : Nat) : Nat := 2 ^ v
/-! what a link leaves -/
/-! solutions -/
end Go.Proofs.YthnhacncnhknnaaDoor

/-
  A loop over an iterator that writes blocks of its own between two rounds: what the iterator holds and what its rounds hold are sets of blocks that do not meet.
-/
namespace Go.Proofs.YthnhacncnhknnaaDoor
open Go.RowKit

/-- a set of blocks -/
abbrev Blks := Nat → Prop

/-- what is not among these blocks lies as it lay -/
structure Keeps (H : Blks) (w w' : World) : Prop where
  os : w'.os = w.os
  tape : w'.tape = w.tape
  output : w'.output = w.output
  size : w.heap.size ≤ w'.heap.size
  block : ∀ k, k < w.heap.size → ¬ H k → w'.heap[k]? = w.heap[k]?

theorem Keeps.refl (H : Blks) (w : World) : Keeps H w w := ⟨rfl, rfl, rfl, Nat.le_refl _, fun _ _ _ => rfl⟩
theorem Keeps.trans {H K : Blks} {a b c : World} (h : Keeps H a b) (k : Keeps K b c) (hK : ∀ i, i < a.heap.size → K i → H i) : Keeps H a c :=
  ⟨k.os.trans h.os, k.tape.trans h.tape, k.output.trans h.output, Nat.le_trans h.size k.size, fun i hi hn => (k.block i (Nat.lt_of_lt_of_le hi h.size) (fun e => hn (hK i hi e))).trans (h.block i hi hn)⟩
theorem Keeps.mono {H K : Blks} {a b : World} (h : Keeps H a b) (hK : ∀ i, i < a.heap.size → H i → K i) : Keeps K a b := ⟨h.os, h.tape, h.output, h.size, fun i hi hn => h.block i hi fun e => hn (hK i hi e)⟩
theorem Keeps.of_below {H : Blks} {B : Nat} {a b : World} (h : Below B a b) (hH : ∀ i, i < a.heap.size → B ≤ i → H i) : Keeps H a b :=
  ⟨h.os, h.tape, h.output, h.size, fun i hi hn => h.block i (Nat.lt_of_not_le fun e => hn (hH i hi e))⟩
theorem Keeps.of_below' (H : Blks) {a b : World} (h : Below a.heap.size a b) : Keeps H a b := Keeps.of_below h fun i h1 h2 => by omega
theorem Keeps.below {H : Blks} {B : Nat} {a b : World} (h : Keeps H a b) (hB : B ≤ a.heap.size) (hH : ∀ i, i < B → ¬ H i) : Below B a b :=
  ⟨h.os, h.tape, h.output, h.size, fun i hi => h.block i (by omega) (hH i hi)⟩
theorem keeps_putObj {H : Blks} (w : World) (l : Nat) (o : Obj) (h : H l) : Keeps H w (w.putObj l o) :=
  ⟨rfl, rfl, rfl, by simp, fun k _ hn => World.putObj_heap_other (fun e => hn (e ▸ h))⟩
theorem at_alloc (W : World) (o : Obj) (b : Nat) : (W.alloc o).heap[b]? = if b = W.heap.size then some o else W.heap[b]? := by
  show (W.heap.push o)[b]? = _
  rw [Array.getElem?_push]
theorem size_alloc (W : World) (o : Obj) : (W.alloc o).heap.size = W.heap.size + 1 := by simp
/-- what is said of a world speaks of its own blocks H and of Rd alone -/
def Foot (Rd : Blks) (J : Blks → World → Prop) : Prop :=
  ∀ H V, J H V → (∀ b, H b → b < V.heap.size) ∧ ∀ V', V.heap.size ≤ V'.heap.size → (∀ b, H b ∨ Rd b → V'.heap[b]? = V.heap[b]?) → J H V'

theorem Foot.lt {Rd : Blks} {J : Blks → World → Prop} (h : Foot Rd J) {H : Blks} {V : World} (hj : J H V) {b : Nat} (hb : H b) : b < V.heap.size := (h H V hj).1 b hb
theorem Foot.keep {Rd : Blks} {J : Blks → World → Prop} (h : Foot Rd J) {H : Blks} {V V' : World} (hj : J H V) (hs : V.heap.size ≤ V'.heap.size) (hb : ∀ b, H b ∨ Rd b → V'.heap[b]? = V.heap[b]?) : J H V' := (h H V hj).2 V' hs hb
theorem Foot.keeps {Rd : Blks} {J : Blks → World → Prop} (h : Foot Rd J) {H K : Blks} {V V' : World} (hj : J H V) (hk : Keeps K V V') (hr : ∀ b, Rd b → b < V.heap.size) (hd : ∀ b, H b ∨ Rd b → ¬ K b) : J H V' :=
  h.keep hj hk.size fun b hb => hk.block b (hb.elim (fun e => h.lt hj e) (hr b)) (hd b hb)
theorem Foot.below {Rd : Blks} {J : Blks → World → Prop} (h : Foot Rd J) {H : Blks} {V V' : World} (hj : J H V) (hr : ∀ b, Rd b → b < V.heap.size) (hk : Below V.heap.size V V') : J H V' :=
  h.keep hj hk.size fun b hb => hk.block b (hb.elim (fun e => h.lt hj e) (hr b))

theorem foot_false (Rd : Blks) : Foot Rd (fun _ _ => False) := fun _ _ h => h.elim

/-- the end of a round: what it held, what it was given and what is new are the blocks that it holds now -/
def Turn (HG : Blks) (V : World) (J Jx : Blks → World → Prop) (e : Ending) (V' : World) : Prop :=
  Keeps HG V V' ∧ ∃ H', (∀ b, H' b → HG b ∨ V.heap.size ≤ b) ∧ ((e = .returned (.bool true) ∧ J H' V') ∨ (e = .returned (.bool false) ∧ Jx H' V'))

/-- the iterator hands the elements of a list tq its rounds in their order, until one says no; R: what it hands over, and the blocks that it gives away with it; O: the blocks from before that it relies on -/
def Visits (P : Program) (g : Nat) (ba lb : Array Value) {α : Type} (xs : List α) (R : α → Blks → World → Array Value → Prop) (O : Blks) (w : World) : Prop :=
  ∀ (l : Nat) (J : List α → Blks → World → Prop) (Jx : Blks → World → Prop) (H : Blks) (W : World), Below w.heap.size w W → (∀ pre, Foot (fun b => b < W.heap.size) (J pre)) → Foot (fun b => b < W.heap.size) Jx → (∀ b, O b → ¬ H b) →
    (∀ pre x H V G vs, J pre H V → pre ++ [x] <+: xs → R x G V vs → (∀ b, G b → ¬ H b ∧ b < V.heap.size) →
      YieldAt Fence.wide 0 P l vs V (Turn (fun b => H b ∨ G b) V (J (pre ++ [x])) Jx)) →
    J [] H W →
    Calls P g (ba ++ #[.func (.yield l) #[] #[]] ++ lb) W fun e W' => (∃ v, e = .returned v) ∧ Keeps H W W' ∧ ∃ H', (∀ b, H' b → H b ∨ W.heap.size ≤ b) ∧ (J xs H' W' ∨ Jx H' W')

/-- what a round keeps, behind what was kept before it -/
theorem keeps_turn {H H' G H3 : Blks} {W w1 w3 : World} (hk : Keeps H W w1) (hg : ∀ b, H' b → H b ∨ W.heap.size ≤ b) (hG : ∀ b, G b → W.heap.size ≤ b) (hk3 : Keeps (fun b => H' b ∨ G b) w1 w3) (hg3 : ∀ b, H3 b → (H' b ∨ G b) ∨ w1.heap.size ≤ b) :
    Keeps H W w3 ∧ ∀ b, H3 b → H b ∨ W.heap.size ≤ b := by
  refine ⟨hk.trans hk3 fun i hi h => ?_, fun b hb => ?_⟩
  · rcases h with h | h
    · rcases hg i h with h | h
      · exact h
      · omega
    · have := hG i h; omega
  · have := hk.size
    rcases hg3 b hb with (h | h) | h
    · exact hg b h
    · exact .inr (hG b h)
    · exact .inr (by omega)

theorem room_of_none {F : Fence} (hd : F.depth = none) (k : Nat) : F.room k := fun d h => by rw [hd] at h; cases h
theorem RoundIn.anyDepth {F : Fence} (hd : F.depth = none) {m m' : Nat} {P : Program} {l : Nat} {f : FuncId} {tmps : Array Value} {assign body : Code} {w : World} {R : Ending → World → Prop}
    (h : RoundIn F m P l f tmps assign body w R) : RoundIn F m' P l f tmps assign body w R := ⟨h.1, fun c cs _ => h.2 c cs (room_of_none hd _)⟩
theorem YieldAt.anyDepth {F : Fence} (hd : F.depth = none) {m : Nat} (m' : Nat) {P : Program} {l : Nat} {args : Array Value} {W : World} {R : Ending → World → Prop} (h : YieldAt F m P l args W R) : YieldAt F m' P l args W R := by
  obtain ⟨fn, tmps, assign, body, hy, hR⟩ := h
  exact ⟨fn, tmps, assign, body, hy, RoundIn.anyDepth hd hR⟩

/-- how a round's body may end -/
def RoundEnd (HG : Blks) (sz : Nat) (I : Blks → World → Prop) (Ix : Code → Blks → World → Prop) (W : World) : Exit → Act → World → Prop
  | .normal, _, W' => Keeps HG W W' ∧ ∃ H', (∀ b, H' b → HG b ∨ sz ≤ b) ∧ I H' W'
  | .ret, _, W' => Keeps HG W W' ∧ ∃ H', (∀ b, H' b → HG b ∨ sz ≤ b) ∧ Ix .ret H' W'
  | .exit id, _, W' => Keeps HG W W' ∧ ∃ H', (∀ b, H' b → HG b ∨ sz ≤ b) ∧ Ix (.exit id) H' W'
  | .goto t, _, W' => Keeps HG W W' ∧ ∃ H', (∀ b, H' b → HG b ∨ sz ≤ b) ∧ Ix (.goto t) H' W'
  | .panic _, _, _ => False
  | .outgrown, _, _ => False

variable {n : Nat} {P : Program} {w : World}

/-- one round of a loop over an iterator, the loop's record being block L; held: the blocks of the loop's own -/
theorem round_turn {α : Type} {assign body : Code} {tmps : Array Value} {ps : Array Tmp} {fn : FuncId} {L : Nat} {rec : LoopState → Option Code → Loop} {D : Nat}
    (hrec : rec = fun st pe => { state := st, pending := pe, fn, tmps := tmps, params := ps, assign, body, defers := D })
    {held : Blks} (hheldL : held L) (B0 : World → Prop) (hB0 : ∀ V V' : World, B0 V → (∀ b, held b → b ≠ L → V'.heap[b]? = V.heap[b]?) → B0 V')
    {Rd : Blks} (hRL : ¬ Rd L) {I : List α → Blks → World → Prop} {Ix : Code → Blks → World → Prop} (hI : ∀ pre, Foot Rd (I pre)) (hIx : ∀ c, Foot Rd (Ix c))
    {pre : List α} {x : α} {H G : Blks} {V : World} {vs : Array Value} (hvs : vs.size = ps.size)
    (hHL : ∀ b, held b → ¬ H b) (hGL : ∀ b, held b → ¬ G b) (hlt : ∀ b, held b → b < V.heap.size) (hL : V.heap[L]? = some (.loop (rec .ready none))) (hD : B0 V)
    (hround : ∀ (K : Act → World → Prop), (∀ a' V1, Keeps (fun b => H b ∨ G b) V V1 → (∀ r, body.wpIn (Fence.wide.inRound L) n P (RoundEnd (fun b => H b ∨ G b) V.heap.size (I (pre ++ [x])) Ix (V1.putObj L (.loop r))) a' (V1.putObj L (.loop r))) → K a' V1) →
      assign.wpIn (Fence.wide.inRound L) n P (Exit.then K (fun _ _ _ => False)) { tmps := (ps.zip vs).foldl (fun t (p, v) => t.setIfInBounds p v) tmps, defers := [] } V) :
    YieldAt Fence.wide 0 P L vs V (Turn (fun b => (H b ∨ held b) ∨ G b) V
      (fun H' V' => ∃ H, I (pre ++ [x]) H V' ∧ H' = (fun b => H b ∨ held b) ∧ (∀ b, held b → ¬ H b ∧ b < V'.heap.size) ∧ V'.heap[L]? = some (.loop (rec .ready none)) ∧ B0 V')
      (fun H' V' => ∃ H c, Ix c H V' ∧ H' = (fun b => H b ∨ held b) ∧ (∀ b, held b → ¬ H b ∧ b < V'.heap.size) ∧ V'.heap[L]? = some (.loop (rec .done (some c))) ∧ B0 V')) := by
  have hy := run_yield (P := P) (args := vs) hL (by rw [hrec]; exact hvs)
  rw [hrec] at hy
  refine ⟨fn, _, assign, body, hy, RoundIn.anyDepth rfl (roundIn_of_wpIn (F := Fence.wide) (n := n) trivial (hround _ ?_))⟩
  clear hround hy
  intro a' V1 hk1 hbody
  have hL1 : V1.heap[L]? = some (.loop (rec .ready none)) := (hk1.block L (hlt L hheldL) (fun e => e.elim (hHL L hheldL) (hGL L hheldL))).trans hL
  have hlt1 : L < V1.heap.size := (Array.getElem?_eq_some_iff.1 hL1).1
  refine ⟨_, run_beginRound hL1 (by rw [hrec]), ?_⟩
  obtain ⟨busy, hbusy⟩ : ∃ busy, busy = ({ rec .ready none with state := .busy } : Loop) := ⟨_, rfl⟩
  rw [← hbusy]
  have hL2 : (V1.putObj L (.loop busy)).heap[L]? = some (.loop busy) := World.putObj_heap_same hlt1
  have hk2 : Keeps (fun b => (H b ∨ held b) ∨ G b) V (V1.putObj L (.loop busy)) :=
    (hk1.mono fun i _ h => h.elim (fun h => .inl (.inl h)) .inr).trans (keeps_putObj (H := fun b => (H b ∨ held b) ∨ G b) V1 L _ (.inl (.inr hheldL))) fun _ _ h => h
  refine wpIn_mono (hbody busy) ?_
  have fin : ∀ (jump : Option Code) (V3 : World), Keeps (fun b => H b ∨ G b) (V1.putObj L (.loop busy)) V3 →
      (Instr.endRound L jump).run P V3 = .ok (.bool jump.isNone) (V3.putObj L (.loop (rec (if jump.isNone then .ready else .done) jump))) ∧
      (V3.putObj L (.loop (rec (if jump.isNone then .ready else .done) jump))).heap[L]? = some (.loop (rec (if jump.isNone then .ready else .done) jump)) ∧
      Keeps (fun b => (H b ∨ held b) ∨ G b) V (V3.putObj L (.loop (rec (if jump.isNone then .ready else .done) jump))) ∧
      (B0 (V3.putObj L (.loop (rec (if jump.isNone then .ready else .done) jump)))) ∧ (∀ b, held b → b < V3.heap.size) := fun jump V3 hk3 => by
    have hL3 := (hk3.block L (by simpa using hlt1) (fun e => e.elim (hHL L hheldL) (hGL L hheldL))).trans hL2
    have hr := run_endRound (P := P) jump hL3
    have hlt3 := (Array.getElem?_eq_some_iff.1 hL3).1
    refine ⟨?_, World.putObj_heap_same hlt3, ?_, ?_, fun b hb => ?_⟩
    · rw [hr, hbusy, hrec]
    · exact (hk2.trans (hk3.mono (K := fun b => (H b ∨ held b) ∨ G b) fun i _ h => h.elim (fun h => .inl (.inl h)) .inr) fun _ _ h => h).trans (keeps_putObj (H := fun b => (H b ∨ held b) ∨ G b) V3 L _ (.inl (.inr hheldL))) fun _ _ h => h
    · refine hB0 V _ hD fun b hb hne => ?_
      have hbl := hlt b hb
      rw [World.putObj_heap_other hne, hk3.block b (by have := hk1.size; simp; omega) (fun e => e.elim (hHL b hb) (hGL b hb)), World.putObj_heap_other hne]
      exact hk1.block b hbl (fun e => e.elim (hHL b hb) (hGL b hb))
    · have := hlt b hb
      have := hk1.size
      have := hk3.size
      simp at this
      omega
  have app : ∀ (H' : Blks) (V3 : World), (∀ b, H' b → (H b ∨ G b) ∨ V.heap.size ≤ b) → (∀ b, held b → ¬ H' b) := fun H' V3 h b hb e => by
    rcases h b e with (h1 | h1) | h1
    · exact hHL b hb h1
    · exact hGL b hb h1
    · have := hlt b hb; omega
  have grow : ∀ (H' : Blks), (∀ b, H' b → (H b ∨ G b) ∨ V.heap.size ≤ b) → ∀ b, (H' b ∨ held b) → ((H b ∨ held b) ∨ G b) ∨ V.heap.size ≤ b := fun H' h b hb => by
    rcases hb with hb | hb
    · rcases h b hb with (h1 | h1) | h1
      · exact .inl (.inl (.inl h1))
      · exact .inl (.inr h1)
      · exact .inr h1
    · exact .inl (.inl (.inr hb))
  have put : ∀ {J : Blks → World → Prop} (hJ : Foot Rd J) (H' : Blks) (V3 : World) (o : Obj), J H' V3 → (∀ b, H' b → (H b ∨ G b) ∨ V.heap.size ≤ b) → J H' (V3.putObj L o) := fun hJ H' V3 o hj h =>
    hJ.keep hj (by simp) fun b hb => World.putObj_heap_other fun e => hb.elim (fun hb => app H' V3 h L hheldL (e ▸ hb)) (fun hb => hRL (e ▸ hb))
  rintro e a3 V3 hp
  cases e with
  | normal =>
    obtain ⟨hk3, H', hg, hi⟩ := hp
    obtain ⟨hr, hl4, hk4, hb4, hlt4⟩ := fin none V3 hk3
    exact ⟨_, _, hr, hk4, _, grow H' hg, .inl ⟨rfl, H', put (hI _) H' V3 _ hi hg, rfl, fun b hb => ⟨app H' V3 hg b hb, by simpa using hlt4 b hb⟩, hl4, hb4⟩⟩
  | ret =>
    obtain ⟨hk3, H', hg, hi⟩ := hp
    obtain ⟨hr, hl4, hk4, hb4, hlt4⟩ := fin (some .ret) V3 hk3
    exact ⟨_, _, hr, hk4, _, grow H' hg, .inr ⟨rfl, H', .ret, put (hIx _) H' V3 _ hi hg, rfl, fun b hb => ⟨app H' V3 hg b hb, by simpa using hlt4 b hb⟩, hl4, hb4⟩⟩
  | exit id =>
    obtain ⟨hk3, H', hg, hi⟩ := hp
    obtain ⟨hr, hl4, hk4, hb4, hlt4⟩ := fin (some (.exit id)) V3 hk3
    exact ⟨_, _, hr, hk4, _, grow H' hg, .inr ⟨rfl, H', .exit id, put (hIx _) H' V3 _ hi hg, rfl, fun b hb => ⟨app H' V3 hg b hb, by simpa using hlt4 b hb⟩, hl4, hb4⟩⟩
  | goto t =>
    obtain ⟨hk3, H', hg, hi⟩ := hp
    obtain ⟨hr, hl4, hk4, hb4, hlt4⟩ := fin (some (.goto t)) V3 hk3
    exact ⟨_, _, hr, hk4, _, grow H' hg, .inr ⟨rfl, H', .goto t, put (hIx _) H' V3 _ hi hg, rfl, fun b hb => ⟨app H' V3 hg b hb, by simpa using hlt4 b hb⟩, hl4, hb4⟩⟩
  | panic ch => exact hp.elim
  | outgrown => exact hp.elim

theorem foot_held {α : Type} {β : Type} {Rd Rd' : Blks} (hRd : ∀ b, Rd b → Rd' b) {I : α → Blks → World → Prop} (hI : ∀ s, Foot Rd (I s)) (held : Blks) (C : β → World → Prop) (hC : ∀ c V V', C c V → (∀ b, held b → V'.heap[b]? = V.heap[b]?) → C c V') (f : β → α) :
    Foot Rd' (fun H' V' => ∃ (H : Blks) (c : β), I (f c) H V' ∧ H' = (fun b => H b ∨ held b) ∧ (∀ b, held b → ¬ H b ∧ b < V'.heap.size) ∧ C c V') := by
  rintro H' V ⟨H, c, hi, rfl, hh, hc⟩
  refine ⟨fun b hb => hb.elim (fun h => (hI _).lt hi h) (fun h => (hh b h).2), fun V' hs hb => ⟨H, c, (hI _).keep hi hs fun b h => hb b (h.elim (fun h => .inl (.inl h)) (fun h => .inr (hRd b h))), rfl, fun b h => ⟨(hh b h).1, Nat.lt_of_lt_of_le (hh b h).2 hs⟩, hC c V V' hc fun b h => hb b (.inl (.inr h))⟩⟩

/-- a loop over an iterator, not within another one -/
theorem wpIn_visits {α : Type} {g : Operand} {ps : Array Tmp} {assign body : Code} {Q : Exit → Act → World → Prop} {a : Act} {gf : Nat} {ba lb : Array Value}
    (hg : a.eval g = .func (.func gf) ba lb) (eg : ∀ args u, (callFunc gf args).run P u = .ok (.enter gf args) u)
    {xs : List α} {R : α → Blks → World → Array Value → Prop} {O : Blks} (hseq : Visits P gf ba lb xs R O w) (hps : ∀ x G V vs, R x G V vs → vs.size = ps.size)
    (I : List α → Blks → World → Prop) (Ix : Code → Blks → World → Prop) (hI : ∀ pre, Foot (fun b => b < w.heap.size) (I pre)) (hIx : ∀ c, Foot (fun b => b < w.heap.size) (Ix c)) (H0 : Blks) (h0 : I [] H0 w) (hO : ∀ b, O b → ¬ H0 b ∧ b < w.heap.size)
    (hround : ∀ (l : Nat) (pre : List α) (x : α) (H G : Blks) (vs : Array Value) (V : World) (K : Act → World → Prop), w.heap.size ≤ l → (∃ r, V.heap[l]? = some (.loop r)) → ¬ H l → ¬ G l → I pre H V → pre ++ [x] <+: xs → R x G V vs → (∀ b, G b → ¬ H b ∧ b < V.heap.size) →
      (∀ a' V1, Keeps (fun b => H b ∨ G b) V V1 → (∀ r, body.wpIn (Fence.wide.inRound l) n P (RoundEnd (fun b => H b ∨ G b) V.heap.size (I (pre ++ [x])) Ix (V1.putObj l (.loop r))) a' (V1.putObj l (.loop r))) → K a' V1) →
      assign.wpIn (Fence.wide.inRound l) n P (Exit.then K (fun _ _ _ => False)) { tmps := (ps.zip vs).foldl (fun t (p, v) => t.setIfInBounds p v) a.tmps, defers := [] } V)
    (hdone : ∀ (D : Nat) (H : Blks) (W : World), w.heap.size ≤ D → ¬ H D → (∀ b, H b → H0 b ∨ w.heap.size ≤ b) → I xs H W → Keeps H0 w W → W.heap[D]? = some (.deferred (some [])) → Q .normal { a with defers := { target := .collected D, args := #[] } :: a.defers } W)
    (hstop : ∀ (D : Nat) (c : Code) (H : Blks) (W : World), w.heap.size ≤ D → ¬ H D → (∀ b, H b → H0 b ∨ w.heap.size ≤ b) → Ix c H W → Keeps H0 w W → W.heap[D]? = some (.deferred (some [])) → c.wpIn Fence.wide n P Q { a with defers := { target := .collected D, args := #[] } :: a.defers } W) :
    (Code.rangeFunc g ps assign body).wpIn Fence.wide n P Q a w := by
  refine wpIn_rangeFunc ?_
  intro fn hfn
  rw [show Fence.wide.round = none from rfl]
  obtain ⟨rec, hrec⟩ : ∃ rec : LoopState → Option Code → Loop, rec = fun st pe => { state := st, pending := pe, fn, tmps := a.tmps, params := ps, assign, body, defers := w.heap.size } := ⟨_, rfl⟩
  obtain ⟨W1, hW1⟩ : ∃ W1, (w.alloc (.deferred (some []))).alloc (.loop (rec .ready none)) = W1 := ⟨_, rfl⟩
  have hL1 : W1.heap[w.heap.size + 1]? = some (.loop (rec .ready none)) := by
    rw [← hW1]; have := World.alloc_heap_new (w.alloc (.deferred (some []))) (.loop (rec .ready none)); rwa [World.size_alloc] at this
  have hK1 : W1.heap[w.heap.size]? = some (.deferred (some [])) := by
    rw [← hW1]; exact (Below.heap_alloc _ _ _ (by simp)).trans (World.alloc_heap_new w _)
  have hb1 : Below w.heap.size w W1 := by rw [← hW1]; exact ((Below.refl _ w).alloc (Nat.le_refl _) _).alloc (by simp) _
  have hs1 : W1.heap.size = w.heap.size + 2 := by rw [← hW1]; simp
  have hlt0 : ∀ b, H0 b → b < w.heap.size := fun b hb => (hI []).lt h0 hb
  obtain ⟨held, hheld⟩ : ∃ held : Blks, held = fun b => b = w.heap.size ∨ b = w.heap.size + 1 := ⟨_, rfl⟩
  have hhL : held (w.heap.size + 1) := by rw [hheld]; exact .inr rfl
  have hhD : held w.heap.size := by rw [hheld]; exact .inl rfl
  have hhge : ∀ b, held b → w.heap.size ≤ b ∧ b < w.heap.size + 2 := by rw [hheld]; rintro b (rfl | rfl) <;> omega
  refine ⟨w.heap.size + 1, [{ target := .collected w.heap.size, args := #[] }], W1, { target := .fn (.func gf) lb, args := ba ++ #[.func (.yield (w.heap.size + 1)) #[] #[]] }, W1, gf,
    ba ++ #[.func (.yield (w.heap.size + 1)) #[] #[]] ++ lb, W1, ?_, ?_, ?_, ?_, (fun h => by cases h), ?_⟩
  · rw [← hW1, hrec]; exact run_enterLoop_outer _ _ _ _ _
  · simp only [resolve, hg]
    simp [go_sem]
  · intro f' _; trivial
  · simp [invoke, go_sem, eg]
  · refine (callsIn_wide.2 (hseq (w.heap.size + 1)
      (fun pre H' V' => ∃ (H : Blks) (_ : Unit), I pre H V' ∧ H' = (fun b => H b ∨ held b) ∧ (∀ b, held b → ¬ H b ∧ b < V'.heap.size) ∧ V'.heap[w.heap.size + 1]? = some (.loop (rec .ready none)) ∧ V'.heap[w.heap.size]? = some (.deferred (some [])))
      (fun H' V' => ∃ (H : Blks) (c : Code), Ix c H V' ∧ H' = (fun b => H b ∨ held b) ∧ (∀ b, held b → ¬ H b ∧ b < V'.heap.size) ∧ V'.heap[w.heap.size + 1]? = some (.loop (rec .done (some c))) ∧ V'.heap[w.heap.size]? = some (.deferred (some [])))
      (fun b => H0 b ∨ held b) W1 hb1 (fun pre => foot_held (fun b hb => Nat.lt_of_lt_of_le hb hb1.size) hI held (fun (_ : Unit) V' => V'.heap[w.heap.size + 1]? = some (.loop (rec .ready none)) ∧ V'.heap[w.heap.size]? = some (.deferred (some []))) (fun _ V V' h hb => ⟨(hb _ hhL).trans h.1, (hb _ hhD).trans h.2⟩) (fun _ => pre))
      (foot_held (α := Code) (fun b hb => Nat.lt_of_lt_of_le hb hb1.size) hIx held (fun c V' => V'.heap[w.heap.size + 1]? = some (.loop (rec .done (some c))) ∧ V'.heap[w.heap.size]? = some (.deferred (some []))) (fun _ V V' h hb => ⟨(hb _ hhL).trans h.1, (hb _ hhD).trans h.2⟩) id)
      (fun b hb e => e.elim (hO b hb).1 (fun e => by have := (hhge b e).1; have := (hO b hb).2; omega)) ?_
      ⟨H0, (), (hI []).below h0 (fun _ h => h) hb1, rfl, fun b hb => ⟨fun e => by have := hlt0 b e; have := (hhge b hb).1; omega, by have := (hhge b hb).2; omega⟩, hL1, hK1⟩)).mono ?_
    · rintro pre x H' V G vs ⟨H, _, hi, rfl, hh, hl, hd⟩ hx hR hG
      have := round_turn (n := n) (P := P) (L := w.heap.size + 1) (D := w.heap.size) hrec (held := held) hhL (fun V => V.heap[w.heap.size]? = some (.deferred (some []))) (fun V V' h hb => (hb _ hhD (by omega)).trans h) (Rd := fun b => b < w.heap.size) (Nat.not_lt.2 (by omega)) hI hIx (pre := pre) (x := x) (H := H) (G := G) (V := V) (vs := vs) (hps x G V vs hR)
        (fun b hb => (hh b hb).1) (fun b hb e => (hG b e).1 (.inr hb)) (fun b hb => (hh b hb).2) hl hd
        (fun K hK => hround (w.heap.size + 1) pre x H G vs V K (by omega) ⟨_, hl⟩ (hh _ hhL).1 (fun e => (hG _ e).1 (.inr hhL)) hi hx hR (fun b hb => ⟨fun e => (hG b hb).1 (.inl e), (hG b hb).2⟩) hK)
      obtain ⟨fn', t', as', bd', h1, h2⟩ := this
      refine ⟨fn', t', as', bd', h1, h2.mono ?_⟩
      rintro e V' ⟨hk, H', hg, hres⟩
      refine ⟨hk, H', hg, ?_⟩
      rcases hres with ⟨he, H2, a1, a2, a3, a4, a5⟩ | ⟨he, H2, c, a1, a2, a3, a4, a5⟩
      · exact .inl ⟨he, H2, (), a1, a2, a3, a4, a5⟩
      · exact .inr ⟨he, H2, c, a1, a2, a3, a4, a5⟩
    · have kp : ∀ (W2 : World) (o : Obj), Keeps (fun b => H0 b ∨ held b) W1 W2 → Keeps H0 w (W2.putObj (w.heap.size + 1) o) := fun W2 o hk => by
        have h2 : Keeps (fun b => H0 b ∨ held b) w (W2.putObj (w.heap.size + 1) o) := ((Keeps.of_below' _ hb1).trans hk fun _ _ h => h).trans (keeps_putObj (H := fun b => H0 b ∨ held b) W2 _ o (.inr hhL)) fun _ _ h => h
        exact h2.mono fun i hi h => by
          rcases h with h | h
          · exact h
          · have := (hhge i h).1; omega
      have gr : ∀ (H : Blks), (∀ b, (H b ∨ held b) → (H0 b ∨ held b) ∨ W1.heap.size ≤ b) → (∀ b, held b → ¬ H b) → ∀ b, H b → H0 b ∨ w.heap.size ≤ b := fun H h hn b hb => by
        rcases h b (.inl hb) with (h1 | h1) | h1
        · exact .inl h1
        · exact absurd hb (hn b h1)
        · exact .inr (by omega)
      rintro e W2 ⟨⟨v, rfl⟩, hk, H', hg, (⟨H, _, hi, rfl, hh, hl, hd⟩ | ⟨H, c, hi, rfl, hh, hl, hd⟩)⟩
      · exact ⟨none, _, by have := run_endLoop (P := P) hl (by rw [hrec]; simp); rw [hrec] at this; exact this,
          hdone _ H _ (Nat.le_refl _) (hh _ hhD).1 (gr H hg fun b hb => (hh b hb).1) ((hI _).keep hi (by simp) fun b hb => World.putObj_heap_other fun e => hb.elim (fun hb => (hh _ hhL).1 (by rw [← e]; exact hb)) (fun hb => by omega)) (kp _ _ hk) ((World.putObj_heap_other (by omega)).trans hd)⟩
      · exact ⟨some c, _, by have := run_endLoop (P := P) hl (by rw [hrec]; simp); rw [hrec] at this; exact this,
          hstop _ c H _ (Nat.le_refl _) (hh _ hhD).1 (gr H hg fun b hb => (hh b hb).1) ((hIx c).keep hi (by simp) fun b hb => World.putObj_heap_other fun e => hb.elim (fun hb => (hh _ hhL).1 (by rw [← e]; exact hb)) (fun hb => by omega)) (kp _ _ hk) ((World.putObj_heap_other (by omega)).trans hd)⟩

end Go.Proofs.YthnhacncnhknnaaDoor

/-
  The program's links in memory, and what one of them leaves of the choices of its ends.
-/
namespace Go.Proofs.YthnhacncnhknnaaDoor
open Go.RowKit Go.Shelf

attribute [local go_sem] Oper.semAt_some

theorem cell_heap {w w' : World} {p : Addr} (h : w'.heap[p.block]? = w.heap[p.block]?) : w'.cell? p = w.cell? p := by
  unfold World.cell?
  rw [h]
end Go.Proofs.YthnhacncnhknnaaDoor

/-
  append of one element, at a step of a region that draws its order.
-/
namespace Go.Proofs.YthnhacncnhknnaaDoor
open Go.RowKit

theorem step_append_E {α : Type} {E : El α} {w : World} {ops : Array Oper} {o : Oper} {a : Act} {K : Act → World → Prop} {Q : Exit → Act → World → Prop} {X : Prop} (hgd : o.guard = none) (s x : Operand) (T t : TypeId)
    (ho : o.op = .call { callee := .builtin .append, args := #[s, x], argTypes := #[T, T] }) {z : Value} {bytes : Nat}
    (hT : Tryd.prog.underlying T = some (.slice t)) (hinfo : (Tryd.prog.info? t).map (fun i => (i.zero, i.size, i.bytes)) = some (some z, E.size, bytes)) (hzc : z.cells.size = E.size) (hpos : 0 < E.size) (hby : bytes ≤ 1000)
    (base : Nat) (v : Value) (xs : List α) (hs : a.eval s = v) (hown : OwnE E t w base v xs) (ad : Addr) (c : Nat) (m : α) (hx : a.eval x = .slice (some ad) 1 c)
    (hc : ∀ j u, (E.enc m)[j]? = some u → w.cell? (ad.add j) = some u) (hl : xs.length ≤ 1000000) (hbase : base ≤ w.heap.size)
    (hK : ∀ v' w', OwnE E t w' base v' (xs ++ [m]) → w.grownBy w' v.ownBlock → Below base w w' → K (a.put o.dst v') w') : if Region.wanted o (yielded ops a.tmps) = true then Oper.wp Tryd.prog o a w K Q else X := by
  obtain ⟨i0, hi, hz0, hz1, hz2⟩ := info_parts hinfo
  have hb : (xs.length + 1) * bytes ≤ 1000001 * 1000 := Nat.mul_le_mul (by omega) hby
  refine step_append_lies w hgd s x T ho base t i0 z E.size bytes hT hi hz0 hz1 hz2 hzc hpos v xs.length (cellsE E xs) hs hown ad 1 c (E.enc m) hx (by rw [E.len]; omega) hc (E.one m) (by omega) (by unfold maxLen; omega) (by omega) hbase w.heap.size rfl ?_
  intro g cap w' h1 h2 _ _
  refine hK _ w' ?_ h2 ((Below.refl base w).grown h2 hbase (fun k hk => (hown.lt k hk).1))
  unfold OwnE
  rw [cellsE_snoc, List.length_append]
  exact h1
end Go.Proofs.YthnhacncnhknnaaDoor

/-
  The program's narrowing of choices.
-/
namespace Go.Proofs.YthnhacncnhknnaaDoor
open Go.RowKit

theorem oper_at {l r : List Oper} {i : Nat} {o : Oper} (h : l.drop i = o :: r) : l.toArray[i]? = some o := by
  have h2 : (l.drop i)[0]? = some o := by rw [h]; rfl
  rw [List.getElem?_drop] at h2
  simpa using h2

end Go.Proofs.YthnhacncnhknnaaDoor

/-
  combine: all lists of images of the edges, handed over in their order; the lists so far share their backing arrays.
-/
namespace Go.Proofs.YthnhacncnhknnaaDoor
open Go.RowKit Go.Shelf

attribute [local go_sem] Oper.semAt_some

/-- append of one int: the old slice reads as before -/
theorem run_append_both {w : World} (ty : TypeId) (base : Nat) (v : Value) (xs : List Int) (hown : OwnI w base v xs) (g c : Nat) (m : Int) (hc : w.cell? ⟨g, 0, none⟩ = some (.int .i64 m)) (hl : xs.length ≤ 1000000) (hbase : base ≤ w.heap.size) :
    ∃ v' w', (Builtin.append_ #[22, 22] ty #[v, .slice (some ⟨g, 0, none⟩) 1 c]).run Tryd.prog w = .ok v' w' ∧ OwnI w' base v' (xs ++ [m]) ∧ OwnI w' base v xs ∧ w.grownBy w' v.ownBlock ∧
      ((v'.ownBlock = v.ownBlock ∧ ∀ u : World, OwnI u base v' (xs ++ [m]) → OwnI u base v xs) ∨ ∃ h, v'.ownBlock = some h ∧ w.heap.size ≤ h) := by
  obtain ⟨i0, hi, hz0, hz1, hz2⟩ := info_parts infoInt
  have hnews : ∀ j u, (EInt.enc m)[j]? = some u → w.cell? ((⟨g, 0, none⟩ : Addr).add j) = some u := fun j u hj => by
    cases j with
    | zero => rw [addr_plain]; simp [EInt] at hj; subst hj; exact hc
    | succ j => simp [EInt] at hj
  have hcat : ∀ u b, u.ownsRow base 3 1 b (xs.length + 1) (cellsE EInt xs ++ EInt.enc m) → OwnI u base b (xs ++ [m]) := fun u b h => by
    unfold OwnI OwnE
    rw [cellsE_snoc, List.length_append]
    exact h
  have hb2 : (xs.length + 1) * 8 ≤ 140737488355328 := by omega
  rcases hown.2 with ⟨hv, h0⟩ | ⟨g0, cap, cur, hv, hbg, hg, hnc, hcm, hcs, htk⟩
  · have hx : xs = [] := List.length_eq_zero_iff.1 h0
    subst hv hx
    obtain ⟨v', w', h1, h2, h3, _⟩ := run_append_own (P := Tryd.prog) w w.heap.size 22 ty 3 i0 _ 1 8 Tryd.underlying22 hi hz0 hz1 hz2 rfl (by decide) (.slice none 0 0) 0 [] (World.ownsRow_nil w _ _ _) ⟨g, 0, none⟩ 1 c (EInt.enc m) rfl hnews (EInt.one m) (by unfold maxLen; omega) (by omega) (Nat.le_refl _)
    have h2' : OwnI w' w.heap.size v' [m] := h2
    obtain ⟨h, c', e, hh, _⟩ := OwnE.pos h2' (by simp)
    exact ⟨v', w', h1, OwnE.mono h2' hbase, OwnE.nil _ _ _, h3, .inr ⟨h, by rw [e]; rfl, hh⟩⟩
  · subst hv
    by_cases hr : xs.length + 1 ≤ cap
    · obtain ⟨w', h1, h2, h3⟩ := run_append_fits (P := Tryd.prog) w base 22 ty 3 i0 1 Tryd.underlying22 hi hz1 g0 xs.length cap (cellsE EInt xs) hown ⟨g, 0, none⟩ 1 c (EInt.enc m) rfl hnews (EInt.one m) hr
      have hback : ∀ u : World, OwnI u base (.slice (some ⟨g0, 0, none⟩) (xs.length + 1) cap) (xs ++ [m]) → OwnI u base (.slice (some ⟨g0, 0, none⟩) xs.length cap) xs := fun u hu => by
        unfold OwnI OwnE at hu ⊢
        rcases hu.2 with ⟨hv, _⟩ | ⟨g1, cap1, cur1, hv, hbg1, hg1, hnc1, hcm1, hcs1, htk1⟩
        · cases hv
        · injection hv with e1 e2 e3
          injection e1 with e1
          injection e1 with e1 _ _
          subst e1 e3
          refine ⟨hown.1, .inr ⟨g0, cap, cur1, rfl, hbg1, hg1, by omega, hcm1, hcs1, ?_⟩⟩
          have h4 := congrArg (List.take (xs.length * 1)) htk1
          have e4 : (cellsE EInt xs).length = xs.length * 1 := cellsE_length EInt xs
          rw [cellsE_snoc, List.take_take, List.take_append_of_le_length (by rw [e4]; exact Nat.le_refl _), ← e4, List.take_length] at h4
          have e5 : min (cellsE EInt xs).length ((xs ++ [m]).length * EInt.size) = (cellsE EInt xs).length := by rw [e4, List.length_append]; show min (xs.length * 1) ((xs.length + 1) * 1) = _; omega
          rw [e5] at h4
          show List.take (xs.length * 1) cur1.toList = _
          rw [← e4]
          exact h4
      have h5 := hcat _ _ h2
      exact ⟨_, w', h1, h5, hback _ h5, h3, .inl ⟨rfl, hback⟩⟩
    · have hlen : (cellsE EInt xs).length = xs.length * 1 := cellsE_length EInt xs
      obtain ⟨A', c', e', hR, _, _⟩ := OwnE.reads_cap hown
      have hcells : ∀ j u, (cellsE EInt xs)[j]? = some u → w.cell? ((⟨g0, 0, none⟩ : Addr).add j) = some u := fun j u hj => by
        have hjl := (List.getElem?_eq_some_iff.1 hj).1
        rw [addr_plain, Nat.zero_add, cell_of_row _ _ _ _ _ _ hg, ← Array.getElem?_toList]
        have : (cur.toList.take (xs.length * 1))[j]? = some u := by
          have h6 := htk
          show (cur.toList.take (xs.length * EInt.size))[j]? = some u
          rw [h6]; exact hj
        rw [List.getElem?_take_of_lt (by omega)] at this
        exact this
      obtain ⟨v', w', h1, h2, h3⟩ := run_append_arg_grows (P := Tryd.prog) w 22 ty 3 i0 _ 1 8 Tryd.underlying22 hi hz0 hz1 hz2 rfl (by decide) ⟨g0, 0, none⟩ xs.length cap (cellsE EInt xs) hlen hcells ⟨g, 0, none⟩ 1 c (EInt.enc m) rfl hnews (by omega) (by unfold maxLen; omega) hb2
      have h2' : OwnI w' w.heap.size v' (xs ++ [m]) := by
        unfold OwnI OwnE
        rw [cellsE_snoc, List.length_append]
        exact h2
      obtain ⟨h, c2, e, hh, _⟩ := OwnE.pos h2' (by simp)
      refine ⟨v', w', h1, OwnE.mono h2' hbase, OwnE.kept hown h3 (.inr (by simp [Value.ownBlock])), ⟨h3.os, h3.tape, h3.output, h3.size, fun k hk _ => h3.block k hk (by simp)⟩, .inr ⟨h, by rw [e]; rfl, hh⟩⟩
theorem wpListIn_append_both {F : Fence} {n : Nat} {w : World} {ops : Array Oper} {rest : List Oper} {o : Oper} {a : Act} {Q : Exit → Act → World → Prop} (hgd : o.guard = none) (s x : Operand)
    (ho : o.op = .call { callee := .builtin .append, args := #[s, x], argTypes := #[22, 22] }) (base : Nat) (v : Value) (xs : List Int) (hs : a.eval s = v) (hown : OwnI w base v xs) (g c : Nat) (m : Int) (hx : a.eval x = .slice (some ⟨g, 0, none⟩) 1 c)
    (hc : w.cell? ⟨g, 0, none⟩ = some (.int .i64 m)) (hl : xs.length ≤ 1000000) (hbase : base ≤ w.heap.size)
    (hK : ∀ v' w', OwnI w' base v' (xs ++ [m]) → OwnI w' base v xs → w.grownBy w' v.ownBlock → ((v'.ownBlock = v.ownBlock ∧ ∀ u : World, OwnI u base v' (xs ++ [m]) → OwnI u base v xs) ∨ ∃ h, v'.ownBlock = some h ∧ w.heap.size ≤ h) → wpListIn F n Tryd.prog ops Q rest (a.put o.dst v') w') :
    wpListIn F n Tryd.prog ops Q (o :: rest) a w := by
  refine wpListIn_plain hgd fun K hK' => ?_
  obtain ⟨v', w', hrun, r1, r2, r3, r4⟩ := run_append_both o.type base v xs hown g c m hc hl hbase
  unfold Oper.wpIn
  refine ⟨?_, ?_⟩
  · simp [Oper.about, ho, resolve, Target.leads, Sem.run_pure]
  · rw [Oper.semAt_plain F _ _ (by rw [ho]; intro c hc'; cases hc')]
    simp [execOp, ho, resolve, invoke, builtin, hs, hx, hrun, Result.andThen]
    exact hK' _ _ (hK v' w' r1 r2 r3 r4)

theorem OwnE.same {α : Type} {E : El α} {t : TypeId} {w w' : World} {base : Nat} {v : Value} {xs : List α} (h : OwnE E t w base v xs) (hb : ∀ g, v.ownBlock = some g → w'.heap[g]? = w.heap[g]?) : OwnE E t w' base v xs := by
  refine ⟨h.1, ?_⟩
  rcases h.2 with hn | ⟨g, cap, cur, hv, hbg, hg, rest⟩
  · exact .inl hn
  · exact .inr ⟨g, cap, cur, hv, hbg, by rw [hb g (by rw [hv]; rfl)]; exact hg, rest⟩
end Go.Proofs.YthnhacncnhknnaaDoor

/-
  Graphs: append tq an empty literal; what regions that make memory keep; slices.Clip; moveEnds; Copied.
-/
namespace Go.Proofs.YthnhacncnhknnaaDoor
open Go.RowKit

theorem below_al {wz x : World} (h : Below wz.heap.size wz x) (o : Obj) : Below wz.heap.size wz (x.alloc o) := h.alloc h.size o
/-- a slice of the call's own, or an empty literal -/
def OwnZ {α : Type} (E : El α) (t : TypeId) (w : World) (base : Nat) (v : Value) (xs : List α) : Prop := OwnE E t w base v xs ∨ (xs = [] ∧ ∃ a, v = .slice (some a) 0 0)
section
variable {α : Type} {E : El α} {t : TypeId} {w w' : World} {base : Nat} {v : Value} {xs : List α}
theorem OwnZ.reads_cap (h : OwnZ E t w base v xs) : ∃ A c, v = .slice A xs.length c ∧ Reads E w w.heap.size A xs ∧ xs.length ≤ c ∧ c ≤ maxLen := by
  rcases h with h | ⟨rfl, a, rfl⟩
  · exact OwnE.reads_cap h
  · exact ⟨some a, 0, rfl, .inl rfl, Nat.le_refl _, by unfold maxLen; omega⟩
theorem OwnZ.slice (h : OwnZ E t w base v xs) : ∃ ao cap, v = .slice ao xs.length cap := by
  obtain ⟨A, c, e, _⟩ := h.reads_cap
  exact ⟨A, c, e⟩
theorem OwnZ.below {B : Nat} (h : OwnZ E t w base v xs) (hb : Below B w w') (hB : w.heap.size ≤ B) : OwnZ E t w' base v xs := h.imp (fun h => OwnE.below h hb hB) id
theorem OwnZ.stored {a : Addr} (h : OwnZ E t w base v xs) (ha : a.block < base) (u : Value) : OwnZ E t (w.setCell a u) base v xs := h.imp (fun h => ownsRow_setCell_below h ha u) id
theorem OwnZ.mono {base' : Nat} (h : OwnZ E t w base v xs) (hb : base' ≤ base) : OwnZ E t w base' v xs := h.imp (fun h => OwnE.mono h hb) id
theorem OwnZ.cast {ys : List α} (e : xs = ys) (h : OwnZ E t w base v xs) : OwnZ E t w base v ys := e ▸ h

theorem run_append_lit {P : Program} {w : World} (t ty e : TypeId) (i : TypeInfo) (g : Addr) (c : Nat) (ad : Option Addr) (ht : P.underlying t = some (.slice e)) (hi : P.info? e = some i) :
    (Builtin.append_ #[t, t] ty #[.slice (some g) 0 0, .slice ad 0 c]).run P w = .ok (.slice (some g) 0 0) w := by
  cases ad <;> simp [Builtin.append_, run_underlying ht, sizeOf, typeInfo, hi, Builtin.lenOf, Builtin.firstCells, storeCells, loadCells, loadCellsFrom]
end

section
variable {α : Type} {E : El α}
theorem wp_append_lit {w : World} {o : Oper} {a : Act} {K : Act → World → Prop} {Q : Exit → Act → World → Prop} (s x : Operand) (T t : TypeId)
    (ho : o.op = .call { callee := .builtin .append, args := #[s, x], argTypes := #[T, T] }) {z : Value} {bytes : Nat}
    (hT : Tryd.prog.underlying T = some (.slice t)) (hinfo : (Tryd.prog.info? t).map (fun i => (i.zero, i.size, i.bytes)) = some (some z, E.size, bytes)) (hzc : z.cells.size = E.size) (hpos : 0 < E.size) (hby : bytes ≤ 1000)
    (g : Addr) (hs : a.eval s = .slice (some g) 0 0) (A : Option Addr) (m c B : Nat) (ys : List α) (hx : a.eval x = .slice A m c) (hm : m = ys.length) (hR : Reads E w B A ys) (hl2 : m ≤ 100000)
    (hK : ∀ v' w', OwnZ E t w' w.heap.size v' ys → w.grownBy w' none → K (a.put o.dst v') w') : o.wp Tryd.prog a w K Q := by
  obtain ⟨i0, hi, hz0, hz1, hz2⟩ := info_parts hinfo
  subst hm
  have lit : ∀ ad, a.eval x = .slice ad 0 c → ys = [] → o.wp Tryd.prog a w K Q := fun ad hx hy => by
    have hr := run_append_lit (P := Tryd.prog) (w := w) T o.type t i0 g c ad hT hi
    unfold Oper.wp execOp
    simp only [ho, resolve, invoke, builtin, Sem.run_bind, Sem.run_pure, Result.andThen_ok, List.map_toArray, List.map_cons, List.map_nil, hs, hx, hr]
    exact hK _ w (.inr ⟨hy, g, rfl⟩) (grown_refl w _)
  rcases Nat.eq_zero_or_pos ys.length with h0 | hp
  · rw [h0] at hx
    exact lit _ hx (List.eq_nil_of_length_eq_zero h0)
  · rcases hR with h | ⟨b, off, rfl, _, h3⟩
    · rw [h] at hp; simp at hp
    · have hb : ys.length * bytes ≤ 100000 * 1000 := Nat.mul_le_mul (by omega) hby
      obtain ⟨v', w', hrun, r1, r2⟩ := run_append_arg_grows (P := Tryd.prog) w T o.type t i0 z E.size bytes hT hi hz0 hz1 hz2 hzc hpos g 0 0 [] (by simp) (fun j u h => by simp at h) ⟨b, off, none⟩ ys.length c (cellsE E ys) (cellsE_length E ys) (by
          intro j u hj
          obtain ⟨hj1, _⟩ := List.getElem?_eq_some_iff.1 hj
          rw [cellsE_length] at hj1
          have hi2 : j / E.size < ys.length := (Nat.div_lt_iff_lt_mul hpos).2 hj1
          have hq := List.getElem?_eq_getElem hi2
          have hlt : j % E.size < (E.enc ys[j / E.size]).length := by rw [E.len]; exact Nat.mod_lt _ hpos
          have hu := cellsE_get E hq (List.getElem?_eq_getElem hlt)
          have ej : j / E.size * E.size + j % E.size = j := by rw [Nat.mul_comm]; exact Nat.div_add_mod j E.size
          rw [ej, hj] at hu
          have := h3 _ _ hq _ _ (List.getElem?_eq_getElem hlt)
          rw [addr_plain, show off + j = off + j / E.size * E.size + j % E.size by rw [Nat.add_assoc, ej], this, hu]) (by omega) (by unfold maxLen; omega) (by rw [Nat.zero_add]; omega)
      unfold Oper.wp execOp
      simp only [ho, resolve, invoke, builtin, Sem.run_bind, Sem.run_pure, Result.andThen_ok, List.map_toArray, List.map_cons, List.map_nil, hs, hx, hrun]
      refine hK v' w' (.inl ?_) r2
      unfold OwnE
      rw [Nat.zero_add, List.nil_append] at r1
      exact r1
/-- w' is w with more memory; what may have changed is of type t, from base on -/
def Grow (t : TypeId) (base : Nat) (w w' : World) : Prop := Below base w w' ∧ ∀ (i : Nat) (cs : Array Value) (t' : TypeId), t' ≠ t → w.heap[i]? = some (.cells cs t' (0, 0)) → w'.heap[i]? = some (.cells cs t' (0, 0))
theorem Grow.own {t : TypeId} {base : Nat} {w w' : World} {v : Value} {xs : List α} (hown : OwnE E t w base v xs) (hg : w.grownBy w' v.ownBlock) (hb : Below base w w') : Grow t base w w' :=
  ⟨hb, fun i _ _ ht h => (hg.block i (Array.getElem?_eq_some_iff.1 h).1 (fun e => own_far hown h (fun e2 => ht e2.symm) e.symm)).trans h⟩
theorem Grow.of {t : TypeId} {base : Nat} {w w' : World} (hb : Below w.heap.size w w') (hB : base ≤ w.heap.size) : Grow t base w w' := ⟨hb.mono hB, fun i _ _ _ h => (hb.block i (Array.getElem?_eq_some_iff.1 h).1).trans h⟩
theorem Grow.trans {t : TypeId} {base : Nat} {a b c : World} (h : Grow t base a b) (k : Grow t base b c) : Grow t base a c := ⟨h.1.trans k.1, fun i cs t' ht hh => k.2 i cs t' ht (h.2 i cs t' ht hh)⟩
theorem Grow.refl (t : TypeId) (base : Nat) (w : World) : Grow t base w w := ⟨Below.refl _ _, fun _ _ _ _ h => h⟩
theorem Grow.row {β : Type} {G : El β} {t t' : TypeId} {base b2 : Nat} {w w' : World} {v : Value} {xs : List β} (hg : Grow t base w w') (ht : t' ≠ t) (h : OwnE G t' w b2 v xs) : OwnE G t' w' b2 v xs := by
  refine ⟨h.1, ?_⟩
  rcases h.2 with hn | ⟨g, cap, cur, hv, hbg, hh, rest⟩
  · exact .inl hn
  · exact .inr ⟨g, cap, cur, hv, hbg, hg.2 g _ _ ht hh, rest⟩
theorem wp_append_Z {w : World} {o : Oper} {a : Act} {K : Act → World → Prop} {Q : Exit → Act → World → Prop} (s x : Operand) (T t : TypeId)
    (ho : o.op = .call { callee := .builtin .append, args := #[s, x], argTypes := #[T, T] }) {z : Value} {bytes : Nat}
    (hT : Tryd.prog.underlying T = some (.slice t)) (hinfo : (Tryd.prog.info? t).map (fun i => (i.zero, i.size, i.bytes)) = some (some z, E.size, bytes)) (hzc : z.cells.size = E.size) (hpos : 0 < E.size) (hby : bytes ≤ 1000)
    (base : Nat) (v : Value) (xs : List α) (hs : a.eval s = v) (hown : OwnZ E t w base v xs) (A : Option Addr) (m c B : Nat) (ys : List α) (hx : a.eval x = .slice A m c) (hm : m = ys.length) (hR : Reads E w B A ys) (hl : xs.length ≤ 100000) (hl2 : m ≤ 100000) (hbase : base ≤ w.heap.size)
    (hK : ∀ v' w', OwnZ E t w' base v' (xs ++ ys) → Grow t base w w' → K (a.put o.dst v') w') : o.wp Tryd.prog a w K Q := by
  rcases hown with hown | ⟨rfl, g, rfl⟩
  · exact wp_append_many s x T t ho hT hinfo hzc hpos hby base v xs hs hown A m c B ys hx hm hR hl hl2 hbase fun v' w' h2 h3 h4 _ => hK v' w' (.inl h2) (Grow.own hown h3 h4)
  · exact wp_append_lit s x T t ho hT hinfo hzc hpos hby g hs A m c B ys hx hm hR hl2 fun v' w' h2 h3 => hK v' w' (by rw [List.nil_append]; exact h2.mono hbase) (Grow.of ((Below.refl _ w).grown h3 (Nat.le_refl _) (by intro k hk; cases hk)) hbase)
theorem wpList_append_Z {w : World} {ops : Array Oper} {rest : List Oper} {o : Oper} {a : Act} {Q : Exit → Act → World → Prop} (hgd : o.guard = none) (s x : Operand) (T t : TypeId)
    (ho : o.op = .call { callee := .builtin .append, args := #[s, x], argTypes := #[T, T] }) {z : Value} {bytes : Nat}
    (hT : Tryd.prog.underlying T = some (.slice t)) (hinfo : (Tryd.prog.info? t).map (fun i => (i.zero, i.size, i.bytes)) = some (some z, E.size, bytes)) (hzc : z.cells.size = E.size) (hpos : 0 < E.size) (hby : bytes ≤ 1000)
    (base : Nat) (v : Value) (xs : List α) (hs : a.eval s = v) (hown : OwnZ E t w base v xs) (A : Option Addr) (m c B : Nat) (ys : List α) (hx : a.eval x = .slice A m c) (hm : m = ys.length) (hR : Reads E w B A ys) (hl : xs.length ≤ 100000) (hl2 : m ≤ 100000) (hbase : base ≤ w.heap.size)
    (hK : ∀ v' w', OwnZ E t w' base v' (xs ++ ys) → Grow t base w w' → wpList Tryd.prog ops Q rest (a.put o.dst v') w') : wpList Tryd.prog ops Q (o :: rest) a w :=
  wpList_plain hgd fun _ hK2 => wp_append_Z s x T t ho hT hinfo hzc hpos hby base v xs hs hown A m c B ys hx hm hR hl hl2 hbase fun v' w' h2 h3 => hK2 _ _ (hK v' w' h2 h3)
theorem step_append_lit {w : World} {ops : Array Oper} {o : Oper} {a : Act} {K : Act → World → Prop} {Q : Exit → Act → World → Prop} {X : Prop} (hgd : o.guard = none) (s x : Operand) (T t : TypeId)
    (ho : o.op = .call { callee := .builtin .append, args := #[s, x], argTypes := #[T, T] }) {z : Value} {bytes : Nat}
    (hT : Tryd.prog.underlying T = some (.slice t)) (hinfo : (Tryd.prog.info? t).map (fun i => (i.zero, i.size, i.bytes)) = some (some z, E.size, bytes)) (hzc : z.cells.size = E.size) (hpos : 0 < E.size) (hby : bytes ≤ 1000)
    (g : Addr) (hs : a.eval s = .slice (some g) 0 0) (A : Option Addr) (m c B : Nat) (ys : List α) (hx : a.eval x = .slice A m c) (hm : m = ys.length) (hR : Reads E w B A ys) (hl2 : m ≤ 100000)
    (hK : ∀ v' w', OwnZ E t w' w.heap.size v' ys → w.grownBy w' none → K (a.put o.dst v') w') : if Region.wanted o (yielded ops a.tmps) = true then Oper.wp Tryd.prog o a w K Q else X := by
  have hw : Region.wanted o (yielded ops a.tmps) = true := by simp [Region.wanted, hgd]
  rw [if_pos hw]
  exact wp_append_lit s x T t ho hT hinfo hzc hpos hby g hs A m c B ys hx hm hR hl2 hK
end

/-! slices.Clip -/
/-! moveEnds -/
set_option maxRecDepth 100000 in
set_option maxHeartbeats 2000000 in
theorem moveEnds_any (x : Ed) (pl : List Int) (A : Option Addr) (c : Nat) (w : World) (hf : 0 ≤ x.fr ∧ x.fr < pl.length) (ht : 0 ≤ x.tq ∧ x.tq < pl.length) (hA : Ints w w.heap.size A pl) :
    Calls Tryd.prog 90 #[edv x, .slice A pl.length c] w fun e w' => e = .returned (edv ⟨x.ty, pl.getD x.fr.toNat 0, pl.getD x.tq.toNat 0⟩) ∧ Below w.heap.size w w' := by
  obtain ⟨ty, fr, tq⟩ := x
  dsimp only at hf ht ⊢
  obtain ⟨a, rfl⟩ : ∃ a : Nat, fr = a := ⟨fr.toNat, by omega⟩
  obtain ⟨b, rfl⟩ : ∃ b : Nat, tq = b := ⟨tq.toNat, by omega⟩
  rw [Int.toNat_natCast, Int.toNat_natCast]
  have ha : a < pl.length := by omega
  have hb : b < pl.length := by omega
  obtain ⟨g, off, rfl, hg, hc⟩ := Ints.cells hA ha
  have ca := hc a ha
  have cb := hc b hb
  have hB : Hid (∀ o o', Below w.heap.size w ((w.alloc o).alloc o')) := Lib.hid fun o o' => ((Below.refl _ _).alloc (Nat.le_refl _) _).alloc (by simp) _
  clear hA hc hf ht
  generalize pl.getD a 0 = p at ca ⊢
  generalize pl.getD b 0 = q at cb ⊢
  have a0 : (0 : Int) ≤ (a : Int) := by omega
  have a1 : (a : Int) < (pl.length : Int) := by omega
  have a2 : ((a : Int)).toNat = a := by omega
  have b0 : (0 : Int) ≤ (b : Int) := by omega
  have b1 : (b : Int) < (pl.length : Int) := by omega
  have b2 : ((b : Int)).toNat = b := by omega
  go_enter Tryd.func90, Tryd.ntmps90
  go_wp2_with fail
  go_region
  all_goals
    go_wp2_with fail
    refine bodyPost_ret (v := edv ⟨ty, p, q⟩) (by simp [results, Tryd.results90, go_sem]) rfl ⟨rfl, ?_⟩
    exact Below.drew (hB.out _ _)

/-! what regions keep -/
theorem below_a (u : World) (o : Obj) : Below u.heap.size u (u.alloc o) := (Below.refl _ _).alloc (Nat.le_refl _) o
theorem below_ad (u : World) (o : Obj) : Below u.heap.size u (u.alloc o).drew := Below.drew (below_a u o)
theorem below_d (u : World) : Below u.heap.size u u.drew := Below.drew (Below.refl _ _)
theorem below_g {u x : World} (hg : u.grownBy x none) : Below u.heap.size u x := (Below.refl _ u).grown hg (Nat.le_refl _) (by intro k hk; cases hk)
/-- the value in a cell -/
def valAt (W : World) (h j : Nat) : Value := (W.cell? ⟨h, j, none⟩).getD (.bool false)
/-- a variable of two cells -/
def Blk (h : Nat) (t : TypeId) (W : World) : Prop := ∃ x y, W.heap[h]? = some (.cells #[x, y] t (0, 0))
abbrev Sto (h : Nat) (W : World) : Prop := (W.cell? ⟨h, 0, none⟩ = some (valAt W h 0) ∧ W.cell? ⟨h, 1, none⟩ = some (valAt W h 1)) ∧ (W.frozen? ⟨h, 0, none⟩ = false ∧ W.frozen? ⟨h, 1, none⟩ = false)
theorem Blk.sto {h : Nat} {t : TypeId} {W : World} (hb : Blk h t W) : Sto h W := by
  obtain ⟨x, y, hh⟩ := hb
  obtain ⟨c0, c1⟩ := cell2 hh
  refine ⟨⟨?_, ?_⟩, frozen_of_row _ _ _ _ _ hh, frozen_of_row _ _ _ _ _ hh⟩
  · unfold valAt; rw [c0]; rfl
  · unfold valAt; rw [c1]; rfl
theorem Blk.up {h : Nat} {t : TypeId} {W W' : World} (hb : Blk h t W) (hu : Below W.heap.size W W') : Blk h t W' := by
  obtain ⟨x, y, hh⟩ := hb
  exact ⟨x, y, heap_up hu hh⟩
theorem store2 {W : World} {h : Nat} {t : TypeId} (hb : Blk h t W) (a b : Value) : ((W.setCell ⟨h, 0, none⟩ a).setCell ⟨h, 1, none⟩ b).heap[h]? = some (.cells #[a, b] t (0, 0)) := by
  obtain ⟨x, y, hh⟩ := hb
  exact heap_setCell_same _ h 1 _ _ b (heap_setCell_same W h 0 _ _ a hh)
theorem Blk.store {h : Nat} {t : TypeId} {W : World} (hb : Blk h t W) (a b : Value) : Blk h t ((W.setCell ⟨h, 0, none⟩ a).setCell ⟨h, 1, none⟩ b) := ⟨a, b, store2 hb a b⟩
/-- a box that is read, a variable that is written -/
abbrev One (g : Nat) (u v : Value) (h : Nat) (t : TypeId) (wz W : World) : Prop :=
  (W.cell? ⟨g, 0, none⟩ = some u ∧ W.cell? ⟨g, 1, none⟩ = some v) ∧ Sto h W ∧ Blk h t W ∧ Below (g + 1) wz W ∧ g + 1 ≤ W.heap.size
theorem one_of {g h : Nat} {u v : Value} {t t' : TypeId} {wz W : World} (h1 : wz.heap[g]? = some (.cells #[u, v] t' (0, 0))) (h2 : Blk h t W) (hb : Below (g + 1) wz W) (hs : g + 1 ≤ W.heap.size) : One g u v h t wz W :=
  ⟨cell2 ((hb.block g (Nat.lt_succ_self _)).trans h1), h2.sto, h2, hb, hs⟩
theorem One.up {g h : Nat} {u v : Value} {t t' : TypeId} {wz W W' : World} (h1 : wz.heap[g]? = some (.cells #[u, v] t' (0, 0))) (ho : One g u v h t wz W) (hb : Below W.heap.size W W') : One g u v h t wz W' :=
  one_of h1 (ho.2.2.1.up hb) (ho.2.2.2.1.trans (hb.mono ho.2.2.2.2)) (Nat.le_trans ho.2.2.2.2 hb.size)
theorem One.store {g h : Nat} {u v : Value} {t t' : TypeId} {wz W : World} (h1 : wz.heap[g]? = some (.cells #[u, v] t' (0, 0))) (hgh : g < h) (ho : One g u v h t wz W) (a b : Value) : One g u v h t wz ((W.setCell ⟨h, 0, none⟩ a).setCell ⟨h, 1, none⟩ b) :=
  one_of h1 (ho.2.2.1.store a b) ((ho.2.2.2.1.setCell (p := ⟨h, 0, none⟩) hgh a).setCell (p := ⟨h, 1, none⟩) hgh b) (by simpa using ho.2.2.2.2)

/-! Copied -/
set_option maxRecDepth 100000 in
set_option maxHeartbeats 4000000 in
theorem copied_any (g : Gr) (An : Option Addr) (cn : Nat) (Ae : Option Addr) (ce : Nat) (w : World) (hf : g.ns.length ≤ 1000 ∧ g.es.length ≤ 1000) (hT : GrAt w An cn Ae ce g) :
    Calls Tryd.prog 13 #[gval An g.ns.length cn Ae g.es.length ce] w fun e w' => (∃ v u, e = .returned (.agg #[v, u]) ∧ OwnZ EInt 3 w' w.heap.size v g.ns ∧ OwnZ EEd 73 w' w.heap.size u g.es) ∧ Below w.heap.size w w' := by
  obtain ⟨wz, hwz⟩ : ∃ wz, wz = (w.alloc (.cells #[.slice An g.ns.length cn, .slice Ae g.es.length ce] 25 (0, 0))).alloc (.cells #[.slice none 0 0, .slice none 0 0] 25 (0, 0)) := ⟨_, rfl⟩
  have hb0 : Below w.heap.size w wz := by rw [hwz]; exact ((Below.refl _ _).alloc (Nat.le_refl _) _).alloc (by simp) _
  have hh1 : wz.heap[w.heap.size]? = some (.cells #[.slice An g.ns.length cn, .slice Ae g.es.length ce] 25 (0, 0)) := by rw [hwz]; exact heap_two _ _ _
  have hh2 : Blk (w.heap.size + 1) 25 wz := ⟨_, _, by rw [hwz]; exact heap_two' _ _ _⟩
  have hzs : wz.heap.size = w.heap.size + 2 := by rw [hwz]; simp
  have hs1 : One w.heap.size (.slice An g.ns.length cn) (.slice Ae g.es.length ce) (w.heap.size + 1) 25 wz wz := one_of hh1 hh2 (Below.refl _ _) (by omega)
  have HU := Lib.hid (fun W W' h hb => One.up (h := w.heap.size + 1) (t := 25) (W := W) (W' := W') hh1 h hb)
  have HST := Lib.hid (fun W h a b => One.store (t := 25) (W := W) hh1 (Nat.lt_succ_self w.heap.size) h a b)
  have HBW : Hid (∀ W, One w.heap.size (.slice An g.ns.length cn) (.slice Ae g.es.length ce) (w.heap.size + 1) 25 wz W → Below w.heap.size w W) := Lib.hid fun W h => hb0.trans (h.2.2.2.1.mono (Nat.le_succ _))
  have HBZ : Hid (∀ W, One w.heap.size (.slice An g.ns.length cn) (.slice Ae g.es.length ce) (w.heap.size + 1) 25 wz W → w.heap.size + 2 ≤ W.heap.size) := Lib.hid fun W h => heap_lt h.2.2.1.choose_spec.choose_spec
  have HN := Lib.hid (fun W h => Reads.below hT.ns (HBW.out W h))
  have HE := Lib.hid (fun W h => Reads.below hT.es (HBW.out W h))
  have HS1 := Lib.hid hs1
  obtain ⟨l1, l2⟩ := hf
  have HZ := Lib.hid hzs
  clear hb0 hh1 hh2 hT hzs hs1
  go_enter Tryd.func13, Tryd.ntmps13
  go_wp2_with fail
  rw [← hwz]
  clear hwz
  go_region_held3 (One w.heap.size (.slice An g.ns.length cn) (.slice Ae g.es.length ce) (w.heap.size + 1) 25 wz)
    (first | assumption | exact HS1.out | exact HU.out _ _ (by first | assumption | exact HS1.out) (by first | exact below_a _ _ | exact below_ad _ _ | exact below_d _ | exact below_g (by assumption)) | exact HST.out _ (by assumption) _ _)
    ((first
      | (refine step_append_lit (E := EInt) (by rfl) _ _ 22 3 (by rfl) Tryd.underlying22 infoInt rfl (by decide) (by decide) _ (by rfl) An g.ns.length cn w.heap.size g.ns (by rfl) rfl (HN.out _ (by assumption)) (by omega) ?_; intro v1 w1 ho1 hg1; have hq1 := HU.out _ _ (by first | assumption | exact HS1.out) (below_g hg1); obtain ⟨ao1, cap1, rfl⟩ := ho1.slice)
      | (refine step_append_lit (E := EEd) (by rfl) _ _ 23 73 (by rfl) Tryd.underlying23 infoEd rfl (by decide) (by decide) _ (by rfl) Ae g.es.length ce w.heap.size g.es (by rfl) rfl (HE.out _ (by assumption)) (by omega) ?_; intro v2 w2 ho2 hg2; have hq2 := HU.out _ _ (by first | assumption | exact HS1.out) (below_g hg2); obtain ⟨ao2, cap2, rfl⟩ := ho2.slice)))
  all_goals
    have hb12 : Below w1.heap.size w1 w2 := by
      first
        | exact below_g hg2
        | exact (below_a _ _).trans ((below_g hg2).mono (by simp))
        | exact (below_ad _ _).trans ((below_g hg2).mono (by simp))
    have hs1 := (HBZ.out _ hq1)
    have hz := HZ.out
    have HO1 := Lib.hid ((ho1.below hb12 (Nat.le_refl _)).mono (base' := w.heap.size + 2) (by first | (simp; omega) | omega))
    have HO2 := Lib.hid (ho2.mono (base' := w.heap.size + 2) (by first | (simp; omega) | omega))
    have hh := store2 hq2.2.2.1 (.slice ao1 g.ns.length cap1) (.slice ao2 g.es.length cap2)
    obtain ⟨r0, r1⟩ := cell2 hh
    have HBF := Lib.hid (HBW.out _ hq2)
    clear hb12 hs1 hz hh ho1 ho2 hg1 hg2 hq1 hq2
    go_wp2_with fail
    refine bodyPost_ret (v := gval ao1 g.ns.length cap1 ao2 g.es.length cap2) (by simp [results, Tryd.results13, go_sem, r0, r1]) rfl ?_
    exact ⟨⟨_, _, rfl, ((HO1.out.stored (by simp) _).stored (by simp) _).mono (by omega), ((HO2.out.stored (by simp) _).stored (by simp) _).mono (by omega)⟩, (HBF.out.setCell (by simp) _).setCell (by simp) _⟩

end Go.Proofs.YthnhacncnhknnaaDoor

/-
  Graphs: a function's box and its result variable; append tq a clipped slice.
-/
namespace Go.Proofs.YthnhacncnhknnaaDoor
open Go.RowKit

/-- block g holds an edge -/
def EdIs (g : Nat) (x : Ed) (W : World) : Prop := W.heap[g]? = some (.cells #[.int .i64 x.ty, .int .i64 x.fr, .int .i64 x.tq] 73 (0, 0))
/-- block g is a box of two cells -/
def BoxIs (g : Nat) (u v : Value) (t : TypeId) (W : World) : Prop := W.heap[g]? = some (.cells #[u, v] t (0, 0))
theorem BoxIs.up {g : Nat} {u v : Value} {t : TypeId} {W W' : World} (h : BoxIs g u v t W) (hb : Below W.heap.size W W') : BoxIs g u v t W' := heap_up hb h
theorem BoxIs.cells {g : Nat} {u v : Value} {t : TypeId} {W : World} (h : BoxIs g u v t W) : W.cell? ⟨g, 0, none⟩ = some u ∧ W.cell? ⟨g, 1, none⟩ = some v := cell2 h
theorem BoxIs.set {g : Nat} {u v : Value} {t : TypeId} {W : World} (h : BoxIs g u v t W) {p : Addr} (hp : p.block ≠ g) (x : Value) : BoxIs g u v t (W.setCell p x) := (Below.heap_setCell W p x g (fun e => hp e.symm)).trans h
theorem Blk.set {g : Nat} {t : TypeId} {W : World} (h : Blk g t W) {p : Addr} (hp : p.block ≠ g) (x : Value) : Blk g t (W.setCell p x) := by
  obtain ⟨a, b, hh⟩ := h
  exact ⟨a, b, (Below.heap_setCell W p x g (fun e => hp e.symm)).trans hh⟩
theorem BoxIs.grow {g : Nat} {u v : Value} {t t0 : TypeId} {base : Nat} {W W' : World} (h : BoxIs g u v t W) (ht : t ≠ t0) (hg : Grow t0 base W W') : BoxIs g u v t W' := hg.2 g _ _ ht h
theorem Blk.grow {g : Nat} {t t0 : TypeId} {base : Nat} {W W' : World} (h : Blk g t W) (ht : t ≠ t0) (hg : Grow t0 base W W') : Blk g t W' := by
  obtain ⟨a, b, hh⟩ := h
  exact ⟨a, b, hg.2 g _ _ ht hh⟩
section
variable {α : Type} {E : El α}
end
theorem new_ed {w : World} {g : Nat} {m : Ed} {t : TypeId} (h : w.heap[g]? = some (.cells #[.int .i64 m.ty, .int .i64 m.fr, .int .i64 m.tq] t (0, 0))) : ∀ j u, (EEd.enc m)[j]? = some u → w.cell? ((⟨g, 0, none⟩ : Addr).add j) = some u := news_of (E := EEd) h rfl

theorem BoxIs.free {g : Nat} {u v : Value} {t : TypeId} {W : World} (h : BoxIs g u v t W) (j : Nat) : W.frozen? ⟨g, j, none⟩ = false := frozen_of_row _ _ _ _ _ h
theorem BoxIs.set0 {g : Nat} {u v : Value} {t : TypeId} {W : World} (h : BoxIs g u v t W) (x : Value) : BoxIs g x v t (W.setCell ⟨g, 0, none⟩ x) := heap_setCell_same W g 0 _ _ x h
theorem BoxIs.set1 {g : Nat} {u v : Value} {t : TypeId} {W : World} (h : BoxIs g u v t W) (x : Value) : BoxIs g u x t (W.setCell ⟨g, 1, none⟩ x) := heap_setCell_same W g 1 _ _ x h
theorem OwnZ.set {α : Type} {E : El α} {t t' : TypeId} {w : World} {base g : Nat} {v a b x : Value} {xs : List α} (h : OwnZ E t w base v xs) (hb : BoxIs g a b t' w) (ht : t ≠ t') (j : Nat) : OwnZ E t (w.setCell ⟨g, j, none⟩ x) base v xs := by
  refine h.imp (fun h => ?_) id
  refine ⟨h.1, ?_⟩
  rcases h.2 with hn | ⟨g2, cap, cur, hv, hbg, hh, rest⟩
  · exact .inl hn
  · refine .inr ⟨g2, cap, cur, hv, hbg, (Below.heap_setCell w ⟨g, j, none⟩ x g2 (fun e => ?_)).trans hh, rest⟩
    have e : g2 = g := e
    subst e
    unfold BoxIs at hb
    rw [hb] at hh
    simp only [Option.some.injEq, Obj.cells.injEq] at hh
    exact ht hh.2.1.symm
end Go.Proofs.YthnhacncnhknnaaDoor
