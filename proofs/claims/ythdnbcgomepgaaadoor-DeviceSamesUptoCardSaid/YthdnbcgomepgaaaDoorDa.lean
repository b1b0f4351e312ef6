/- Same: the first fields that differ. -/
import Derived.Test.YthdnbcgomepgaaaDoorDv
namespace Go.Proofs.YthdnbcgomepgaaaDoor
open Go.RowKit

set_option maxHeartbeats 1000000 in
set_option maxRecDepth 100000 in
theorem same_ne0 (d0 e0 : Int) (d1 e1 : Int) (d2 e2 : ByteArray) (d3 e3 : ByteArray) (d4 e4 : ByteArray) (d5 e5 : ByteArray) (d6 e6 : ByteArray) (d7 e7 : Int) (d8 e8 : Int) (dv ev : Value) (w : World) (hq : (d0 == e0) = false) : Calls Tryd.prog 28 #[devV ⟨d0, d1, d2, d3, d4, d5, d6, d7, d8, dv⟩, devV ⟨e0, e1, e2, e3, e4, e5, e6, e7, e8, ev⟩] w (Bel (.bool false) w) := by
  unfold devV devC
  simp only
  go_enter Tryd.func28, Tryd.ntmps28
  go_wp2
  go_ret
  exact ⟨rfl, ((Below.refl _ w).alloc (Nat.le_refl _) _).alloc (by simp) _⟩

set_option maxHeartbeats 1000000 in
set_option maxRecDepth 100000 in
theorem same_ne1 (x0 : Int) (d1 e1 : Int) (d2 e2 : ByteArray) (d3 e3 : ByteArray) (d4 e4 : ByteArray) (d5 e5 : ByteArray) (d6 e6 : ByteArray) (d7 e7 : Int) (d8 e8 : Int) (dv ev : Value) (w : World) (hq : (d1 == e1) = false) : Calls Tryd.prog 28 #[devV ⟨x0, d1, d2, d3, d4, d5, d6, d7, d8, dv⟩, devV ⟨x0, e1, e2, e3, e4, e5, e6, e7, e8, ev⟩] w (Bel (.bool false) w) := by
  unfold devV devC
  simp only
  go_enter Tryd.func28, Tryd.ntmps28
  go_wp2
  go_ret
  exact ⟨rfl, ((Below.refl _ w).alloc (Nat.le_refl _) _).alloc (by simp) _⟩

set_option maxHeartbeats 1000000 in
set_option maxRecDepth 100000 in
theorem same_ne2 (x0 : Int) (x1 : Int) (d2 e2 : ByteArray) (d3 e3 : ByteArray) (d4 e4 : ByteArray) (d5 e5 : ByteArray) (d6 e6 : ByteArray) (d7 e7 : Int) (d8 e8 : Int) (dv ev : Value) (w : World) (hq : (d2.toList == e2.toList) = false) : Calls Tryd.prog 28 #[devV ⟨x0, x1, d2, d3, d4, d5, d6, d7, d8, dv⟩, devV ⟨x0, x1, e2, e3, e4, e5, e6, e7, e8, ev⟩] w (Bel (.bool false) w) := by
  unfold devV devC
  simp only
  go_enter Tryd.func28, Tryd.ntmps28
  go_wp2
  go_ret
  exact ⟨rfl, ((Below.refl _ w).alloc (Nat.le_refl _) _).alloc (by simp) _⟩

set_option maxHeartbeats 1000000 in
set_option maxRecDepth 100000 in
theorem same_ne3 (x0 : Int) (x1 : Int) (x2 : ByteArray) (d3 e3 : ByteArray) (d4 e4 : ByteArray) (d5 e5 : ByteArray) (d6 e6 : ByteArray) (d7 e7 : Int) (d8 e8 : Int) (dv ev : Value) (w : World) (hq : (d3.toList == e3.toList) = false) : Calls Tryd.prog 28 #[devV ⟨x0, x1, x2, d3, d4, d5, d6, d7, d8, dv⟩, devV ⟨x0, x1, x2, e3, e4, e5, e6, e7, e8, ev⟩] w (Bel (.bool false) w) := by
  unfold devV devC
  simp only
  go_enter Tryd.func28, Tryd.ntmps28
  go_wp2
  go_ret
  exact ⟨rfl, ((Below.refl _ w).alloc (Nat.le_refl _) _).alloc (by simp) _⟩

set_option maxHeartbeats 1000000 in
set_option maxRecDepth 100000 in
theorem same_ne4 (x0 : Int) (x1 : Int) (x2 : ByteArray) (x3 : ByteArray) (d4 e4 : ByteArray) (d5 e5 : ByteArray) (d6 e6 : ByteArray) (d7 e7 : Int) (d8 e8 : Int) (dv ev : Value) (w : World) (hq : (d4.toList == e4.toList) = false) : Calls Tryd.prog 28 #[devV ⟨x0, x1, x2, x3, d4, d5, d6, d7, d8, dv⟩, devV ⟨x0, x1, x2, x3, e4, e5, e6, e7, e8, ev⟩] w (Bel (.bool false) w) := by
  unfold devV devC
  simp only
  go_enter Tryd.func28, Tryd.ntmps28
  go_wp2
  go_ret
  exact ⟨rfl, ((Below.refl _ w).alloc (Nat.le_refl _) _).alloc (by simp) _⟩
end Go.Proofs.YthdnbcgomepgaaaDoor
