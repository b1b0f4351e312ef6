/- The contracts of package glob's textBytes and least, and of TrailingZeros64. -/
import Derived.Test.YteiphphihclnfaaDoorGlA
namespace Go.Proofs.YteiphphihclnfaaDoor.Gl
open Go.RowKit

theorem textV : (setV isText) = #[.int .u64 18446744069414584320, .int .u64 9223372036854775807, .int .u64 0, .int .u64 0] := by
  unfold setV
  rw [wd_text0, wd_text1, wd_text2, wd_text3]
  rfl

theorem heap_set_last (w : World) (t : TypeId) (c : Array Value) : (w.alloc (.cells c t)).heap[w.heap.size]? = some (.cells c t (0, 0)) := heap_alloc_last w _

set_option maxHeartbeats 400000 in
set_option maxRecDepth 100000 in
theorem textBytes_gen (R : UInt8 → Bool) (hR : setV R = #[.int .u64 18446744069414584320, .int .u64 9223372036854775807, .int .u64 0, .int .u64 0]) (w : World) : Calls Tryd.prog 68 #[] w (Bel (.agg (setV R)) w) := by
  have hv := (zero_of_info (P := Tryd.prog) info61).1
  have hi := (zero_of_info (P := Tryd.prog) info61).2
  have hi' : (Tryd.prog.info? 86).map (·.size) = some (setV R).size := hi
  go_enter Tryd.func68, Tryd.ntmps68
  go_wp2
  refine bodyPost_ret (v := .agg (setV R)) (results_cell_row rfl _ _ w.heap.size 86 (setV R) _ _ rfl (by rw [hR]; exact heap_alloc_last w _) Tryd.underlying86 rfl hi') rfl ⟨rfl, ?_⟩
  exact (Below.refl _ w).alloc (Nat.le_refl _) _
theorem textBytes_any (w : World) : Calls Tryd.prog 68 #[] w (Bel (.agg (setV isText)) w) := textBytes_gen isText textV w

end Go.Proofs.YteiphphihclnfaaDoor.Gl
