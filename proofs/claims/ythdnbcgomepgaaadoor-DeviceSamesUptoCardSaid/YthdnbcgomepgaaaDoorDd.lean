/- SameDevice: the other fields. -/
import Derived.Test.YthdnbcgomepgaaaDoorDv
namespace Go.Proofs.YthdnbcgomepgaaaDoor
open Go.RowKit

set_option maxHeartbeats 1000000 in
set_option maxRecDepth 100000 in
theorem sameDevice_ne5 (x0 : Int) (x1 : Int) (x2 : ByteArray) (x3 : ByteArray) (x4 : ByteArray) (d5 e5 : ByteArray) (d6 e6 : ByteArray) (d7 e7 : Int) (d8 e8 : Int) (dv ev : Value) (w : World) (hq : (d5.toList == e5.toList) = false) : Calls Tryd.prog 29 #[devV ⟨x0, x1, x2, x3, x4, d5, d6, d7, d8, dv⟩, devV ⟨x0, x1, x2, x3, x4, e5, e6, e7, e8, ev⟩] w (Bel (.bool false) w) := by
  unfold devV devC
  simp only
  go_enter Tryd.func29, Tryd.ntmps29
  go_wp2
  go_ret
  exact ⟨rfl, ((Below.refl _ w).alloc (Nat.le_refl _) _).alloc (by simp) _⟩

set_option maxHeartbeats 1000000 in
set_option maxRecDepth 100000 in
theorem sameDevice_ne6 (x0 : Int) (x1 : Int) (x2 : ByteArray) (x3 : ByteArray) (x4 : ByteArray) (x5 : ByteArray) (d6 e6 : ByteArray) (d7 e7 : Int) (d8 e8 : Int) (dv ev : Value) (w : World) (hq : (d6.toList == e6.toList) = false) : Calls Tryd.prog 29 #[devV ⟨x0, x1, x2, x3, x4, x5, d6, d7, d8, dv⟩, devV ⟨x0, x1, x2, x3, x4, x5, e6, e7, e8, ev⟩] w (Bel (.bool false) w) := by
  unfold devV devC
  simp only
  go_enter Tryd.func29, Tryd.ntmps29
  go_wp2
  go_ret
  exact ⟨rfl, ((Below.refl _ w).alloc (Nat.le_refl _) _).alloc (by simp) _⟩

set_option maxHeartbeats 1000000 in
set_option maxRecDepth 100000 in
theorem sameDevice_ne7 (x0 : Int) (x1 : Int) (x2 : ByteArray) (x3 : ByteArray) (x4 : ByteArray) (x5 : ByteArray) (x6 : ByteArray) (d7 e7 : Int) (d8 e8 : Int) (dv ev : Value) (w : World) (hq : (d7 == e7) = false) : Calls Tryd.prog 29 #[devV ⟨x0, x1, x2, x3, x4, x5, x6, d7, d8, dv⟩, devV ⟨x0, x1, x2, x3, x4, x5, x6, e7, e8, ev⟩] w (Bel (.bool false) w) := by
  unfold devV devC
  simp only
  go_enter Tryd.func29, Tryd.ntmps29
  go_wp2
  go_ret
  exact ⟨rfl, ((Below.refl _ w).alloc (Nat.le_refl _) _).alloc (by simp) _⟩

set_option maxHeartbeats 1000000 in
set_option maxRecDepth 100000 in
theorem sameDevice_ne8 (x0 : Int) (x1 : Int) (x2 : ByteArray) (x3 : ByteArray) (x4 : ByteArray) (x5 : ByteArray) (x6 : ByteArray) (x7 : Int) (d8 e8 : Int) (dv ev : Value) (w : World) (hq : (d8 == e8) = false) : Calls Tryd.prog 29 #[devV ⟨x0, x1, x2, x3, x4, x5, x6, x7, d8, dv⟩, devV ⟨x0, x1, x2, x3, x4, x5, x6, x7, e8, ev⟩] w (Bel (.bool false) w) := by
  unfold devV devC
  simp only
  go_enter Tryd.func29, Tryd.ntmps29
  go_wp2
  go_ret
  exact ⟨rfl, ((Below.refl _ w).alloc (Nat.le_refl _) _).alloc (by simp) _⟩

set_option maxHeartbeats 1000000 in
set_option maxRecDepth 100000 in
theorem sameDevice_eq (x0 : Int) (x1 : Int) (x2 : ByteArray) (x3 : ByteArray) (x4 : ByteArray) (x5 : ByteArray) (x6 : ByteArray) (x7 : Int) (x8 : Int) (dv ev : Value) (l m : List Atr) (w : World) (hl : l.length ≤ 9223372036854775807) (hd : Has w dv l) (he : Has w ev m) : Calls Tryd.prog 29 #[devV ⟨x0, x1, x2, x3, x4, x5, x6, x7, x8, dv⟩, devV ⟨x0, x1, x2, x3, x4, x5, x6, x7, x8, ev⟩] w (Bel (.bool (decide (l = m))) w) := by
  have HA := Lib.hid (fun W (h : Below w.heap.size w W) => sameAttrs_any dv ev l m W hl (hd.below h) (he.below h))
  clear hd he
  unfold devV devC
  simp only
  go_enter Tryd.func29, Tryd.ntmps29
  go_wp2_with fail
  refine (HA.out _ (((Below.refl _ w).alloc (Nat.le_refl _) _).alloc (by simp) _)).mono ?_
  rintro e W ⟨rfl, hb⟩
  have Hb := Lib.hid ((((Below.refl _ w).alloc (Nat.le_refl _) _).alloc (by simp) _).trans (hb.mono (by simp; omega)))
  clear hb
  go_wp2
  go_ret
  exact ⟨rfl, Hb.out⟩
end Go.Proofs.YthdnbcgomepgaaaDoor
