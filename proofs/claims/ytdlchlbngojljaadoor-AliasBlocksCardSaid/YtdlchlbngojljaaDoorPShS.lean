/- slices.Sort's contract at this translation, as the kit's command prints it. -/
import Derived.Shelf.Sort.Plain
import Derived.Shelf.Slices.In.SortNone
import Derived.Test.YtdlchlbngojljaaDoorProg
namespace Go.Proofs
open Go.Shelf
def Tryd.lays190_ren : Go.Shelf.Ren := ⟨fun | 190 => 27 | 125 => 43 | 258 => 42 | 128 => 71 | 129 => 72 | 302 => 62 | 303 => 63 | 304 => 64 | 305 => 65 | 306 => 66 | 307 => 67 | 308 => 68 | 309 => 69 | 310 => 70 | 333 => 87 | 329 => 88 | 330 => 89 | 334 => 90 | 335 => 91 | 336 => 92 | 344 => 100 | n => n, fun | 31 => 28 | 9 => 9 | 3 => 3 | 46 => 86 | 0 => 0 | 51 => 124 | 53 => 104 | 4 => 4 | 183 => 118 | 182 => 117 | 131 => 99 | 5 => 5 | 218 => 157 | 222 => 161 | 228 => 170 | 229 => 171 | n => n, fun | n => n⟩
theorem Tryd.lays190 : Go.Proofs.Lays.n190 Tryd.prog Tryd.lays190_ren := {
 mixed := by kernel_rfl
 f125 := Tryd.func43.trans (congrArg some (by kernel_rfl))
 f128 := Tryd.func71.trans (congrArg some (by kernel_rfl))
 f129 := Tryd.func72.trans (congrArg some (by kernel_rfl))
 f190 := Tryd.func27.trans (congrArg some (by kernel_rfl))
 f258 := Tryd.func42.trans (congrArg some (by kernel_rfl))
 f302 := Tryd.func62.trans (congrArg some (by kernel_rfl))
 f303 := Tryd.func63.trans (congrArg some (by kernel_rfl))
 f304 := Tryd.func64.trans (congrArg some (by kernel_rfl))
 f305 := Tryd.func65.trans (congrArg some (by kernel_rfl))
 f306 := Tryd.func66.trans (congrArg some (by kernel_rfl))
 f307 := Tryd.func67.trans (congrArg some (by kernel_rfl))
 f308 := Tryd.func68.trans (congrArg some (by kernel_rfl))
 f309 := Tryd.func69.trans (congrArg some (by kernel_rfl))
 f310 := Tryd.func70.trans (congrArg some (by kernel_rfl))
 f329 := Tryd.func88.trans (congrArg some (by kernel_rfl))
 f330 := Tryd.func89.trans (congrArg some (by kernel_rfl))
 f333 := Tryd.func87.trans (congrArg some (by kernel_rfl))
 f334 := Tryd.func90.trans (congrArg some (by kernel_rfl))
 f335 := Tryd.func91.trans (congrArg some (by kernel_rfl))
 f336 := Tryd.func92.trans (congrArg some (by kernel_rfl))
 f344 := Tryd.func100.trans (congrArg some (by kernel_rfl))
 t0 := Tryd.underlying0
 a0 := Tryd.isAgg0
 z0 := Tryd.sizeOf0
 v0 := Tryd.zeroValue0
 t3 := Tryd.underlying3
 a3 := Tryd.isAgg3
 z3 := Tryd.sizeOf3
 v3 := Tryd.zeroValue3
 t4 := Tryd.underlying4
 a4 := Tryd.isAgg4
 z4 := Tryd.sizeOf4
 v4 := Tryd.zeroValue4
 t5 := Tryd.underlying5
 a5 := Tryd.isAgg5
 z5 := Tryd.sizeOf5
 v5 := Tryd.zeroValue5
 t9 := Tryd.underlying9
 a9 := Tryd.isAgg9
 z9 := Tryd.sizeOf9
 v9 := Tryd.zeroValue9
 t31 := Tryd.underlying28
 a31 := Tryd.isAgg28
 z31 := Tryd.sizeOf28
 v31 := Tryd.zeroValue28
 t46 := Tryd.underlying86
 a46 := Tryd.isAgg86
 z46 := Tryd.sizeOf86
 v46 := Tryd.zeroValue86
 t51 := Tryd.underlying124
 a51 := Tryd.isAgg124
 z51 := Tryd.sizeOf124
 v51 := Tryd.zeroValue124
 t53 := Tryd.underlying104
 a53 := Tryd.isAgg104
 z53 := Tryd.sizeOf104
 v53 := Tryd.zeroValue104
 t131 := Tryd.underlying99
 a131 := Tryd.isAgg99
 z131 := Tryd.sizeOf99
 v131 := Tryd.zeroValue99
 t182 := Tryd.underlying117
 a182 := Tryd.isAgg117
 z182 := Tryd.sizeOf117
 v182 := Tryd.zeroValue117
 t183 := Tryd.underlying118
 a183 := Tryd.isAgg118
 z183 := Tryd.sizeOf118
 v183 := Tryd.zeroValue118
 t218 := Tryd.underlying157
 a218 := Tryd.isAgg157
 z218 := Tryd.sizeOf157
 v218 := Tryd.zeroValue157
 t222 := Tryd.underlying161
 a222 := Tryd.isAgg161
 z222 := Tryd.sizeOf161
 v222 := Tryd.zeroValue161
 t228 := Tryd.underlying170
 a228 := Tryd.isAgg170
 z228 := Tryd.sizeOf170
 v228 := Tryd.zeroValue170
 t229 := Tryd.underlying171
 a229 := Tryd.isAgg171
 z229 := Tryd.sizeOf171
 v229 := Tryd.zeroValue171 }
open Go.Sort Go.RowKit in
theorem Tryd.slices_Sort_string (blk off cap : Nat) (ss : List (List UInt8)) (w : World) (hH : Holds encStr w blk off ss.toArray) (hblk : blk < w.heap.size) (hsz : ss.length < 4611686018427387904) :
  Calls Tryd.prog 27 #[.slice (some ⟨blk, off, none⟩) ss.length cap] w fun e w' =>
   e = .returned (.tuple #[]) ∧ ∃ n os, w' = grow (putRow encStr (Sort.ahead w n) blk off (ss.mergeSort fun x y => decide (x ≤ y)).toArray) os := Any.slices_Sort_string Tryd.lays190 blk off cap ss w hH hblk hsz
theorem Tryd.slices_Sort_string_none (p : Option Addr) (cap : Nat) (w : World) :
  Calls Tryd.prog 27 #[.slice p 0 cap] w fun e w' => e = .returned (.tuple #[]) ∧ w' = w := Any.slices_Sort_string_none Tryd.lays190 p cap w
end Go.Proofs
