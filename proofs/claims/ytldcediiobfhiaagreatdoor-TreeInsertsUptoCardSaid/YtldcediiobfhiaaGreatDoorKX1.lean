/- Devices: slices.Equal; when two are equal. SameDevice: the first fields that differ. SameDevice: the other fields. Same and SameDevice. -/
import Derived.Test.YtldcediiobfhiaaGreatDoorKRf
namespace Go.Proofs.YtldcediiobfhiaaGreatDoor.De
open Go.RowKit
/-- When two devices are equal. -/
def sameD (d : Dev) (l : List Atr) (e : Dev) (m : List Atr) : Bool :=
 decide (d.idx = e.idx) && (decide (d.par = e.par) && (decide (d.name = e.name) && (decide (d.orig = e.orig) && (decide (d.sub = e.sub) && (decide (d.drv = e.drv) && (decide (d.ali = e.ali) && (decide (d.kind = e.kind) && (decide (d.num = e.num) && decide (l = m)))))))))
end Go.Proofs.YtldcediiobfhiaaGreatDoor.De
namespace Go.Proofs.YtldcediiobfhiaaGreatDoor.De
open Go.RowKit
set_option maxHeartbeats 1000000 in
set_option maxRecDepth 100000 in
theorem sameDevice_ne0 (d0 e0 : Int) (d1 e1 : Int) (d2 e2 : ByteArray) (d3 e3 : ByteArray) (d4 e4 : ByteArray) (d5 e5 : ByteArray) (d6 e6 : ByteArray) (d7 e7 : Int) (d8 e8 : Int) (dv ev : Value) (w : World) (hq : (d0 == e0) = false) : Calls Tryz.prog 23 #[devV ⟨d0, d1, d2, d3, d4, d5, d6, d7, d8, dv⟩, devV ⟨e0, e1, e2, e3, e4, e5, e6, e7, e8, ev⟩] w (Bel (.bool false) w) := by
 unfold devV devC
 simp only
 go_enter Tryz.func23, Tryz.ntmps23
 go_wp2
 go_ret
 exact ⟨rfl, ((Below.refl _ w).alloc (Nat.le_refl _) _).alloc (by simp) _⟩
set_option maxHeartbeats 1000000 in
set_option maxRecDepth 100000 in
theorem sameDevice_ne1 (x0 : Int) (d1 e1 : Int) (d2 e2 : ByteArray) (d3 e3 : ByteArray) (d4 e4 : ByteArray) (d5 e5 : ByteArray) (d6 e6 : ByteArray) (d7 e7 : Int) (d8 e8 : Int) (dv ev : Value) (w : World) (hq : (d1 == e1) = false) : Calls Tryz.prog 23 #[devV ⟨x0, d1, d2, d3, d4, d5, d6, d7, d8, dv⟩, devV ⟨x0, e1, e2, e3, e4, e5, e6, e7, e8, ev⟩] w (Bel (.bool false) w) := by
 unfold devV devC
 simp only
 go_enter Tryz.func23, Tryz.ntmps23
 go_wp2
 go_ret
 exact ⟨rfl, ((Below.refl _ w).alloc (Nat.le_refl _) _).alloc (by simp) _⟩
set_option maxHeartbeats 1000000 in
set_option maxRecDepth 100000 in
theorem sameDevice_ne2 (x0 : Int) (x1 : Int) (d2 e2 : ByteArray) (d3 e3 : ByteArray) (d4 e4 : ByteArray) (d5 e5 : ByteArray) (d6 e6 : ByteArray) (d7 e7 : Int) (d8 e8 : Int) (dv ev : Value) (w : World) (hq : (d2.toList == e2.toList) = false) : Calls Tryz.prog 23 #[devV ⟨x0, x1, d2, d3, d4, d5, d6, d7, d8, dv⟩, devV ⟨x0, x1, e2, e3, e4, e5, e6, e7, e8, ev⟩] w (Bel (.bool false) w) := by
 unfold devV devC
 simp only
 go_enter Tryz.func23, Tryz.ntmps23
 go_wp2
 go_ret
 exact ⟨rfl, ((Below.refl _ w).alloc (Nat.le_refl _) _).alloc (by simp) _⟩
set_option maxHeartbeats 1000000 in
set_option maxRecDepth 100000 in
theorem sameDevice_ne3 (x0 : Int) (x1 : Int) (x2 : ByteArray) (d3 e3 : ByteArray) (d4 e4 : ByteArray) (d5 e5 : ByteArray) (d6 e6 : ByteArray) (d7 e7 : Int) (d8 e8 : Int) (dv ev : Value) (w : World) (hq : (d3.toList == e3.toList) = false) : Calls Tryz.prog 23 #[devV ⟨x0, x1, x2, d3, d4, d5, d6, d7, d8, dv⟩, devV ⟨x0, x1, x2, e3, e4, e5, e6, e7, e8, ev⟩] w (Bel (.bool false) w) := by
 unfold devV devC
 simp only
 go_enter Tryz.func23, Tryz.ntmps23
 go_wp2
 go_ret
 exact ⟨rfl, ((Below.refl _ w).alloc (Nat.le_refl _) _).alloc (by simp) _⟩
set_option maxHeartbeats 1000000 in
set_option maxRecDepth 100000 in
theorem sameDevice_ne4 (x0 : Int) (x1 : Int) (x2 : ByteArray) (x3 : ByteArray) (d4 e4 : ByteArray) (d5 e5 : ByteArray) (d6 e6 : ByteArray) (d7 e7 : Int) (d8 e8 : Int) (dv ev : Value) (w : World) (hq : (d4.toList == e4.toList) = false) : Calls Tryz.prog 23 #[devV ⟨x0, x1, x2, x3, d4, d5, d6, d7, d8, dv⟩, devV ⟨x0, x1, x2, x3, e4, e5, e6, e7, e8, ev⟩] w (Bel (.bool false) w) := by
 unfold devV devC
 simp only
 go_enter Tryz.func23, Tryz.ntmps23
 go_wp2
 go_ret
 exact ⟨rfl, ((Below.refl _ w).alloc (Nat.le_refl _) _).alloc (by simp) _⟩
end Go.Proofs.YtldcediiobfhiaaGreatDoor.De
namespace Go.Proofs.YtldcediiobfhiaaGreatDoor.De
open Go.RowKit
set_option maxHeartbeats 1000000 in
set_option maxRecDepth 100000 in
theorem sameDevice_ne5 (x0 : Int) (x1 : Int) (x2 : ByteArray) (x3 : ByteArray) (x4 : ByteArray) (d5 e5 : ByteArray) (d6 e6 : ByteArray) (d7 e7 : Int) (d8 e8 : Int) (dv ev : Value) (w : World) (hq : (d5.toList == e5.toList) = false) : Calls Tryz.prog 23 #[devV ⟨x0, x1, x2, x3, x4, d5, d6, d7, d8, dv⟩, devV ⟨x0, x1, x2, x3, x4, e5, e6, e7, e8, ev⟩] w (Bel (.bool false) w) := by
 unfold devV devC
 simp only
 go_enter Tryz.func23, Tryz.ntmps23
 go_wp2
 go_ret
 exact ⟨rfl, ((Below.refl _ w).alloc (Nat.le_refl _) _).alloc (by simp) _⟩
set_option maxHeartbeats 1000000 in
set_option maxRecDepth 100000 in
theorem sameDevice_ne6 (x0 : Int) (x1 : Int) (x2 : ByteArray) (x3 : ByteArray) (x4 : ByteArray) (x5 : ByteArray) (d6 e6 : ByteArray) (d7 e7 : Int) (d8 e8 : Int) (dv ev : Value) (w : World) (hq : (d6.toList == e6.toList) = false) : Calls Tryz.prog 23 #[devV ⟨x0, x1, x2, x3, x4, x5, d6, d7, d8, dv⟩, devV ⟨x0, x1, x2, x3, x4, x5, e6, e7, e8, ev⟩] w (Bel (.bool false) w) := by
 unfold devV devC
 simp only
 go_enter Tryz.func23, Tryz.ntmps23
 go_wp2
 go_ret
 exact ⟨rfl, ((Below.refl _ w).alloc (Nat.le_refl _) _).alloc (by simp) _⟩
set_option maxHeartbeats 1000000 in
set_option maxRecDepth 100000 in
theorem sameDevice_ne7 (x0 : Int) (x1 : Int) (x2 : ByteArray) (x3 : ByteArray) (x4 : ByteArray) (x5 : ByteArray) (x6 : ByteArray) (d7 e7 : Int) (d8 e8 : Int) (dv ev : Value) (w : World) (hq : (d7 == e7) = false) : Calls Tryz.prog 23 #[devV ⟨x0, x1, x2, x3, x4, x5, x6, d7, d8, dv⟩, devV ⟨x0, x1, x2, x3, x4, x5, x6, e7, e8, ev⟩] w (Bel (.bool false) w) := by
 unfold devV devC
 simp only
 go_enter Tryz.func23, Tryz.ntmps23
 go_wp2
 go_ret
 exact ⟨rfl, ((Below.refl _ w).alloc (Nat.le_refl _) _).alloc (by simp) _⟩
set_option maxHeartbeats 1000000 in
set_option maxRecDepth 100000 in
theorem sameDevice_ne8 (x0 : Int) (x1 : Int) (x2 : ByteArray) (x3 : ByteArray) (x4 : ByteArray) (x5 : ByteArray) (x6 : ByteArray) (x7 : Int) (d8 e8 : Int) (dv ev : Value) (w : World) (hq : (d8 == e8) = false) : Calls Tryz.prog 23 #[devV ⟨x0, x1, x2, x3, x4, x5, x6, x7, d8, dv⟩, devV ⟨x0, x1, x2, x3, x4, x5, x6, x7, e8, ev⟩] w (Bel (.bool false) w) := by
 unfold devV devC
 simp only
 go_enter Tryz.func23, Tryz.ntmps23
 go_wp2
 go_ret
 exact ⟨rfl, ((Below.refl _ w).alloc (Nat.le_refl _) _).alloc (by simp) _⟩
set_option maxHeartbeats 1000000 in
set_option maxRecDepth 100000 in
theorem sameDevice_eq (x0 : Int) (x1 : Int) (x2 : ByteArray) (x3 : ByteArray) (x4 : ByteArray) (x5 : ByteArray) (x6 : ByteArray) (x7 : Int) (x8 : Int) (dv ev : Value) (l m : List Atr) (w : World) (hl : l.length ≤ 9223372036854775807) (hd : Has w dv l) (he : Has w ev m) : Calls Tryz.prog 23 #[devV ⟨x0, x1, x2, x3, x4, x5, x6, x7, x8, dv⟩, devV ⟨x0, x1, x2, x3, x4, x5, x6, x7, x8, ev⟩] w (Bel (.bool (decide (l = m))) w) := by
 have HA := Lib.hid (fun W (h : Below w.heap.size w W) => sameAttrs_any dv ev l m W hl (hd.below h) (he.below h))
 clear hd he
 unfold devV devC
 simp only
 go_enter Tryz.func23, Tryz.ntmps23
 go_wp2_with fail
 refine (HA.out _ (((Below.refl _ w).alloc (Nat.le_refl _) _).alloc (by simp) _)).mono ?_
 rintro e W ⟨rfl, hb⟩
 have Hb := Lib.hid ((((Below.refl _ w).alloc (Nat.le_refl _) _).alloc (by simp) _).trans (hb.mono (by simp; omega)))
 clear hb
 go_wp2
 go_ret
 exact ⟨rfl, Hb.out⟩
end Go.Proofs.YtldcediiobfhiaaGreatDoor.De
namespace Go.Proofs.YtldcediiobfhiaaGreatDoor.De
open Go.RowKit
theorem sameDevice_any (d e : Dev) (l m : List Atr) (w : World) (hl : l.length ≤ 9223372036854775807) (hd : Has w d.av l) (he : Has w e.av m) : Calls Tryz.prog 23 #[devV d, devV e] w (Bel (.bool (sameD d l e m)) w) := by
 obtain ⟨d0, d1, d2, d3, d4, d5, d6, d7, d8, dv⟩ := d
 obtain ⟨e0, e1, e2, e3, e4, e5, e6, e7, e8, ev⟩ := e
 unfold sameD
 simp only at hd he ⊢
 by_cases h0 : d0 = e0
 ·subst h0
  by_cases h1 : d1 = e1
  ·subst h1
   by_cases h2 : d2 = e2
   ·subst h2
    by_cases h3 : d3 = e3
    ·subst h3
     by_cases h4 : d4 = e4
     ·subst h4
      by_cases h5 : d5 = e5
      ·subst h5
       by_cases h6 : d6 = e6
       ·subst h6
        by_cases h7 : d7 = e7
        ·subst h7
         by_cases h8 : d8 = e8
         ·subst h8
          simp only [decide_true, Bool.true_and]
          exact sameDevice_eq d0 d1 d2 d3 d4 d5 d6 d7 d8 dv ev l m w hl hd he
         ·rw [show decide (d8 = e8) = false from decide_eq_false h8]
          simp only [decide_true, Bool.true_and, Bool.false_and]
          exact sameDevice_ne8 d0 d1 d2 d3 d4 d5 d6 d7 d8 e8 dv ev w (beq_eq_false_iff_ne.2 h8)
        ·rw [show decide (d7 = e7) = false from decide_eq_false h7]
         simp only [decide_true, Bool.true_and, Bool.false_and]
         exact sameDevice_ne7 d0 d1 d2 d3 d4 d5 d6 d7 e7 d8 e8 dv ev w (beq_eq_false_iff_ne.2 h7)
       ·rw [show decide (d6 = e6) = false from decide_eq_false h6]
        simp only [decide_true, Bool.true_and, Bool.false_and]
        exact sameDevice_ne6 d0 d1 d2 d3 d4 d5 d6 e6 d7 e7 d8 e8 dv ev w (str_ne h6)
      ·rw [show decide (d5 = e5) = false from decide_eq_false h5]
       simp only [decide_true, Bool.true_and, Bool.false_and]
       exact sameDevice_ne5 d0 d1 d2 d3 d4 d5 e5 d6 e6 d7 e7 d8 e8 dv ev w (str_ne h5)
     ·rw [show decide (d4 = e4) = false from decide_eq_false h4]
      simp only [decide_true, Bool.true_and, Bool.false_and]
      exact sameDevice_ne4 d0 d1 d2 d3 d4 e4 d5 e5 d6 e6 d7 e7 d8 e8 dv ev w (str_ne h4)
    ·rw [show decide (d3 = e3) = false from decide_eq_false h3]
     simp only [decide_true, Bool.true_and, Bool.false_and]
     exact sameDevice_ne3 d0 d1 d2 d3 e3 d4 e4 d5 e5 d6 e6 d7 e7 d8 e8 dv ev w (str_ne h3)
   ·rw [show decide (d2 = e2) = false from decide_eq_false h2]
    simp only [decide_true, Bool.true_and, Bool.false_and]
    exact sameDevice_ne2 d0 d1 d2 e2 d3 e3 d4 e4 d5 e5 d6 e6 d7 e7 d8 e8 dv ev w (str_ne h2)
  ·rw [show decide (d1 = e1) = false from decide_eq_false h1]
   simp only [decide_true, Bool.true_and, Bool.false_and]
   exact sameDevice_ne1 d0 d1 e1 d2 e2 d3 e3 d4 e4 d5 e5 d6 e6 d7 e7 d8 e8 dv ev w (beq_eq_false_iff_ne.2 h1)
 ·rw [show decide (d0 = e0) = false from decide_eq_false h0]
  simp only [Bool.false_and]
  exact sameDevice_ne0 d0 e0 d1 e1 d2 e2 d3 e3 d4 e4 d5 e5 d6 e6 d7 e7 d8 e8 dv ev w (beq_eq_false_iff_ne.2 h0)
end Go.Proofs.YtldcediiobfhiaaGreatDoor.De
