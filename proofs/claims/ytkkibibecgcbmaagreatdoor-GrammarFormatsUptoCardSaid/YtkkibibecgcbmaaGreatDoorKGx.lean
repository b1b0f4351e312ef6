/- SameTerms of equal lists; what parsed terms are like. -/
import Derived.Test.YtkkibibecgcbmaaGreatDoorKGo
import Derived.Test.YtkkibibecgcbmaaGreatDoorKGw
import Derived.Test.YtkkibibecgcbmaaGreatDoorKI
namespace Go.Proofs.YtkkibibecgcbmaaGreatDoor
open Go.RowKit
theorem Kp.off {w w1 w' : World} {tb : Nat} (h : Kp [] w w1) (k : Kp [tb] w1 w') (ht : w.heap.size ≤ tb) : Kp [] w w' :=
 ⟨k.os.trans h.os, k.tape.trans h.tape, k.output.trans h.output, Nat.le_trans h.size k.size, fun b hb _ => (k.block b (Nat.lt_of_lt_of_le hb h.size) (by simp only [List.mem_singleton]; omega)).trans (h.block b hb (by simp))⟩
theorem tape_new {w : World} {lv : Value} (hi : Ints w w.heap.size lv) : Tp (w.alloc (.cells #[lv, .int .i64 0] 28)) w.heap.size 0 :=
 ⟨lv, heap_alloc_last _ _, hi.keep fun b hb => by have := ((Kp.refl [] w).alloc (.cells #[lv, .int .i64 0] 28)).block b hb (by simp); exact this⟩
end Go.Proofs.YtkkibibecgcbmaaGreatDoor
