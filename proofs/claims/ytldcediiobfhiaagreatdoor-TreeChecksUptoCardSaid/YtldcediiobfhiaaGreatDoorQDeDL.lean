/- lookup by Index; Find. -/
import Derived.Test.YtldcediiobfhiaaGreatDoorQD2
import Derived.Maps.OwnSet
import Derived.Laws.ResultCell
namespace Go.Proofs.YtldcediiobfhiaaGreatDoor.De
open Go.RowKit Go.Maps
theorem results_row_tmp {P : Program} {fn : Func} {p u : Tmp} {ty : TypeId} (h : fn.results = #[.cell p ty, .tmp u]) (tmps : Array Value) (w : World) (g : Nat) (t : TypeId) (cs : Array Value) (fr : Nat × Nat) (d : TypeDesc) (v : Value)
  (hp : tmps.getD p undef = .pointer (some ⟨g, 0, none⟩)) (hv : tmps.getD u undef = v) (hg : w.heap[g]? = some (.cells cs t fr))
  (hu : P.underlying ty = some d) (hd : (match d with | .struct _ | .array _ _ => true | _ => false) = true) (hi : (P.info? ty).map (·.size) = some cs.size) :
  (results fn tmps).run P w = .ok (.tuple #[.agg cs, v]) w := by
 rw [results_cell_tmp h, hp, hv]
 simp [asAddr, run_loadVar_row w g t ty cs fr d hg hu hd hi, Result.andThen]
theorem zeroC_one : zeroC.all (·.oneCell') = true := by simp [zeroC, Value.oneCell']
/-- What a finder answers: a copy of the device, or the zero device. -/
def FoundPost (o : Option DV) (w : World) (e : Ending) (w' : World) : Prop := Below w.heap.size w w' ∧ match o with
 | none => e = .returned (.tuple #[.agg zeroC, .bool false])
 | some x => ∃ u, e = .returned (.tuple #[devV (devOf x.1 u), .bool true]) ∧ Owns w' w.heap.size u x.1.ats
end Go.Proofs.YtldcediiobfhiaaGreatDoor.De
