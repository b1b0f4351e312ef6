/- Devices: slices.Equal; when two are equal. SameDevice: the first fields that differ. SameDevice: the other fields. Same and SameDevice. SameTree. -/
import Derived.Test.YtldcediiobfhiaaGreatDoorKRf
import Derived.Test.YtldcediiobfhiaaGreatDoorKRr
import Derived.Deep.MidRow
namespace Go.Proofs.YtldcediiobfhiaaGreatDoor.De
open Go.RowKit
/-- When two devices are equal. -/
def sameD (d : Dev) (l : List Atr) (e : Dev) (m : List Atr) : Bool :=
 decide (d.idx = e.idx) && (decide (d.par = e.par) && (decide (d.name = e.name) && (decide (d.orig = e.orig) && (decide (d.sub = e.sub) && (decide (d.drv = e.drv) && (decide (d.ali = e.ali) && (decide (d.kind = e.kind) && (decide (d.num = e.num) && decide (l = m)))))))))
end Go.Proofs.YtldcediiobfhiaaGreatDoor.De
namespace Go.Proofs.YtldcediiobfhiaaGreatDoor.De
open Go.RowKit
set_option maxHeartbeats 1000000 in
set_option maxRecDepth 100000 in
theorem sameDevice_ne0 (d0 e0 : Int) (d1 e1 : Int) (d2 e2 : ByteArray) (d3 e3 : ByteArray) (d4 e4 : ByteArray) (d5 e5 : ByteArray) (d6 e6 : ByteArray) (d7 e7 : Int) (d8 e8 : Int) (dv ev : Value) (w : World) (hq : (d0 == e0) = false) : Calls Tryz.prog 23 #[devV ⟨d0, d1, d2, d3, d4, d5, d6, d7, d8, dv⟩, devV ⟨e0, e1, e2, e3, e4, e5, e6, e7, e8, ev⟩] w (Bel (.bool false) w) := by
 unfold devV devC
 simp only
 go_enter Tryz.func23, Tryz.ntmps23
 go_wp2
 go_ret
 exact ⟨rfl, ((Below.refl _ w).alloc (Nat.le_refl _) _).alloc (by simp) _⟩
set_option maxHeartbeats 1000000 in
set_option maxRecDepth 100000 in
theorem sameDevice_ne1 (x0 : Int) (d1 e1 : Int) (d2 e2 : ByteArray) (d3 e3 : ByteArray) (d4 e4 : ByteArray) (d5 e5 : ByteArray) (d6 e6 : ByteArray) (d7 e7 : Int) (d8 e8 : Int) (dv ev : Value) (w : World) (hq : (d1 == e1) = false) : Calls Tryz.prog 23 #[devV ⟨x0, d1, d2, d3, d4, d5, d6, d7, d8, dv⟩, devV ⟨x0, e1, e2, e3, e4, e5, e6, e7, e8, ev⟩] w (Bel (.bool false) w) := by
 unfold devV devC
 simp only
 go_enter Tryz.func23, Tryz.ntmps23
 go_wp2
 go_ret
 exact ⟨rfl, ((Below.refl _ w).alloc (Nat.le_refl _) _).alloc (by simp) _⟩
set_option maxHeartbeats 1000000 in
set_option maxRecDepth 100000 in
theorem sameDevice_ne2 (x0 : Int) (x1 : Int) (d2 e2 : ByteArray) (d3 e3 : ByteArray) (d4 e4 : ByteArray) (d5 e5 : ByteArray) (d6 e6 : ByteArray) (d7 e7 : Int) (d8 e8 : Int) (dv ev : Value) (w : World) (hq : (d2.toList == e2.toList) = false) : Calls Tryz.prog 23 #[devV ⟨x0, x1, d2, d3, d4, d5, d6, d7, d8, dv⟩, devV ⟨x0, x1, e2, e3, e4, e5, e6, e7, e8, ev⟩] w (Bel (.bool false) w) := by
 unfold devV devC
 simp only
 go_enter Tryz.func23, Tryz.ntmps23
 go_wp2
 go_ret
 exact ⟨rfl, ((Below.refl _ w).alloc (Nat.le_refl _) _).alloc (by simp) _⟩
set_option maxHeartbeats 1000000 in
set_option maxRecDepth 100000 in
theorem sameDevice_ne3 (x0 : Int) (x1 : Int) (x2 : ByteArray) (d3 e3 : ByteArray) (d4 e4 : ByteArray) (d5 e5 : ByteArray) (d6 e6 : ByteArray) (d7 e7 : Int) (d8 e8 : Int) (dv ev : Value) (w : World) (hq : (d3.toList == e3.toList) = false) : Calls Tryz.prog 23 #[devV ⟨x0, x1, x2, d3, d4, d5, d6, d7, d8, dv⟩, devV ⟨x0, x1, x2, e3, e4, e5, e6, e7, e8, ev⟩] w (Bel (.bool false) w) := by
 unfold devV devC
 simp only
 go_enter Tryz.func23, Tryz.ntmps23
 go_wp2
 go_ret
 exact ⟨rfl, ((Below.refl _ w).alloc (Nat.le_refl _) _).alloc (by simp) _⟩
set_option maxHeartbeats 1000000 in
set_option maxRecDepth 100000 in
theorem sameDevice_ne4 (x0 : Int) (x1 : Int) (x2 : ByteArray) (x3 : ByteArray) (d4 e4 : ByteArray) (d5 e5 : ByteArray) (d6 e6 : ByteArray) (d7 e7 : Int) (d8 e8 : Int) (dv ev : Value) (w : World) (hq : (d4.toList == e4.toList) = false) : Calls Tryz.prog 23 #[devV ⟨x0, x1, x2, x3, d4, d5, d6, d7, d8, dv⟩, devV ⟨x0, x1, x2, x3, e4, e5, e6, e7, e8, ev⟩] w (Bel (.bool false) w) := by
 unfold devV devC
 simp only
 go_enter Tryz.func23, Tryz.ntmps23
 go_wp2
 go_ret
 exact ⟨rfl, ((Below.refl _ w).alloc (Nat.le_refl _) _).alloc (by simp) _⟩
end Go.Proofs.YtldcediiobfhiaaGreatDoor.De
namespace Go.Proofs.YtldcediiobfhiaaGreatDoor.De
open Go.RowKit
set_option maxHeartbeats 1000000 in
set_option maxRecDepth 100000 in
theorem sameDevice_ne5 (x0 : Int) (x1 : Int) (x2 : ByteArray) (x3 : ByteArray) (x4 : ByteArray) (d5 e5 : ByteArray) (d6 e6 : ByteArray) (d7 e7 : Int) (d8 e8 : Int) (dv ev : Value) (w : World) (hq : (d5.toList == e5.toList) = false) : Calls Tryz.prog 23 #[devV ⟨x0, x1, x2, x3, x4, d5, d6, d7, d8, dv⟩, devV ⟨x0, x1, x2, x3, x4, e5, e6, e7, e8, ev⟩] w (Bel (.bool false) w) := by
 unfold devV devC
 simp only
 go_enter Tryz.func23, Tryz.ntmps23
 go_wp2
 go_ret
 exact ⟨rfl, ((Below.refl _ w).alloc (Nat.le_refl _) _).alloc (by simp) _⟩
set_option maxHeartbeats 1000000 in
set_option maxRecDepth 100000 in
theorem sameDevice_ne6 (x0 : Int) (x1 : Int) (x2 : ByteArray) (x3 : ByteArray) (x4 : ByteArray) (x5 : ByteArray) (d6 e6 : ByteArray) (d7 e7 : Int) (d8 e8 : Int) (dv ev : Value) (w : World) (hq : (d6.toList == e6.toList) = false) : Calls Tryz.prog 23 #[devV ⟨x0, x1, x2, x3, x4, x5, d6, d7, d8, dv⟩, devV ⟨x0, x1, x2, x3, x4, x5, e6, e7, e8, ev⟩] w (Bel (.bool false) w) := by
 unfold devV devC
 simp only
 go_enter Tryz.func23, Tryz.ntmps23
 go_wp2
 go_ret
 exact ⟨rfl, ((Below.refl _ w).alloc (Nat.le_refl _) _).alloc (by simp) _⟩
set_option maxHeartbeats 1000000 in
set_option maxRecDepth 100000 in
theorem sameDevice_ne7 (x0 : Int) (x1 : Int) (x2 : ByteArray) (x3 : ByteArray) (x4 : ByteArray) (x5 : ByteArray) (x6 : ByteArray) (d7 e7 : Int) (d8 e8 : Int) (dv ev : Value) (w : World) (hq : (d7 == e7) = false) : Calls Tryz.prog 23 #[devV ⟨x0, x1, x2, x3, x4, x5, x6, d7, d8, dv⟩, devV ⟨x0, x1, x2, x3, x4, x5, x6, e7, e8, ev⟩] w (Bel (.bool false) w) := by
 unfold devV devC
 simp only
 go_enter Tryz.func23, Tryz.ntmps23
 go_wp2
 go_ret
 exact ⟨rfl, ((Below.refl _ w).alloc (Nat.le_refl _) _).alloc (by simp) _⟩
set_option maxHeartbeats 1000000 in
set_option maxRecDepth 100000 in
theorem sameDevice_ne8 (x0 : Int) (x1 : Int) (x2 : ByteArray) (x3 : ByteArray) (x4 : ByteArray) (x5 : ByteArray) (x6 : ByteArray) (x7 : Int) (d8 e8 : Int) (dv ev : Value) (w : World) (hq : (d8 == e8) = false) : Calls Tryz.prog 23 #[devV ⟨x0, x1, x2, x3, x4, x5, x6, x7, d8, dv⟩, devV ⟨x0, x1, x2, x3, x4, x5, x6, x7, e8, ev⟩] w (Bel (.bool false) w) := by
 unfold devV devC
 simp only
 go_enter Tryz.func23, Tryz.ntmps23
 go_wp2
 go_ret
 exact ⟨rfl, ((Below.refl _ w).alloc (Nat.le_refl _) _).alloc (by simp) _⟩
set_option maxHeartbeats 1000000 in
set_option maxRecDepth 100000 in
theorem sameDevice_eq (x0 : Int) (x1 : Int) (x2 : ByteArray) (x3 : ByteArray) (x4 : ByteArray) (x5 : ByteArray) (x6 : ByteArray) (x7 : Int) (x8 : Int) (dv ev : Value) (l m : List Atr) (w : World) (hl : l.length ≤ 9223372036854775807) (hd : Has w dv l) (he : Has w ev m) : Calls Tryz.prog 23 #[devV ⟨x0, x1, x2, x3, x4, x5, x6, x7, x8, dv⟩, devV ⟨x0, x1, x2, x3, x4, x5, x6, x7, x8, ev⟩] w (Bel (.bool (decide (l = m))) w) := by
 have HA := Lib.hid (fun W (h : Below w.heap.size w W) => sameAttrs_any dv ev l m W hl (hd.below h) (he.below h))
 clear hd he
 unfold devV devC
 simp only
 go_enter Tryz.func23, Tryz.ntmps23
 go_wp2_with fail
 refine (HA.out _ (((Below.refl _ w).alloc (Nat.le_refl _) _).alloc (by simp) _)).mono ?_
 rintro e W ⟨rfl, hb⟩
 have Hb := Lib.hid ((((Below.refl _ w).alloc (Nat.le_refl _) _).alloc (by simp) _).trans (hb.mono (by simp; omega)))
 clear hb
 go_wp2
 go_ret
 exact ⟨rfl, Hb.out⟩
end Go.Proofs.YtldcediiobfhiaaGreatDoor.De
namespace Go.Proofs.YtldcediiobfhiaaGreatDoor.De
open Go.RowKit
theorem sameDevice_any (d e : Dev) (l m : List Atr) (w : World) (hl : l.length ≤ 9223372036854775807) (hd : Has w d.av l) (he : Has w e.av m) : Calls Tryz.prog 23 #[devV d, devV e] w (Bel (.bool (sameD d l e m)) w) := by
 obtain ⟨d0, d1, d2, d3, d4, d5, d6, d7, d8, dv⟩ := d
 obtain ⟨e0, e1, e2, e3, e4, e5, e6, e7, e8, ev⟩ := e
 unfold sameD
 simp only at hd he ⊢
 by_cases h0 : d0 = e0
 ·subst h0
  by_cases h1 : d1 = e1
  ·subst h1
   by_cases h2 : d2 = e2
   ·subst h2
    by_cases h3 : d3 = e3
    ·subst h3
     by_cases h4 : d4 = e4
     ·subst h4
      by_cases h5 : d5 = e5
      ·subst h5
       by_cases h6 : d6 = e6
       ·subst h6
        by_cases h7 : d7 = e7
        ·subst h7
         by_cases h8 : d8 = e8
         ·subst h8
          simp only [decide_true, Bool.true_and]
          exact sameDevice_eq d0 d1 d2 d3 d4 d5 d6 d7 d8 dv ev l m w hl hd he
         ·rw [show decide (d8 = e8) = false from decide_eq_false h8]
          simp only [decide_true, Bool.true_and, Bool.false_and]
          exact sameDevice_ne8 d0 d1 d2 d3 d4 d5 d6 d7 d8 e8 dv ev w (beq_eq_false_iff_ne.2 h8)
        ·rw [show decide (d7 = e7) = false from decide_eq_false h7]
         simp only [decide_true, Bool.true_and, Bool.false_and]
         exact sameDevice_ne7 d0 d1 d2 d3 d4 d5 d6 d7 e7 d8 e8 dv ev w (beq_eq_false_iff_ne.2 h7)
       ·rw [show decide (d6 = e6) = false from decide_eq_false h6]
        simp only [decide_true, Bool.true_and, Bool.false_and]
        exact sameDevice_ne6 d0 d1 d2 d3 d4 d5 d6 e6 d7 e7 d8 e8 dv ev w (str_ne h6)
      ·rw [show decide (d5 = e5) = false from decide_eq_false h5]
       simp only [decide_true, Bool.true_and, Bool.false_and]
       exact sameDevice_ne5 d0 d1 d2 d3 d4 d5 e5 d6 e6 d7 e7 d8 e8 dv ev w (str_ne h5)
     ·rw [show decide (d4 = e4) = false from decide_eq_false h4]
      simp only [decide_true, Bool.true_and, Bool.false_and]
      exact sameDevice_ne4 d0 d1 d2 d3 d4 e4 d5 e5 d6 e6 d7 e7 d8 e8 dv ev w (str_ne h4)
    ·rw [show decide (d3 = e3) = false from decide_eq_false h3]
     simp only [decide_true, Bool.true_and, Bool.false_and]
     exact sameDevice_ne3 d0 d1 d2 d3 e3 d4 e4 d5 e5 d6 e6 d7 e7 d8 e8 dv ev w (str_ne h3)
   ·rw [show decide (d2 = e2) = false from decide_eq_false h2]
    simp only [decide_true, Bool.true_and, Bool.false_and]
    exact sameDevice_ne2 d0 d1 d2 e2 d3 e3 d4 e4 d5 e5 d6 e6 d7 e7 d8 e8 dv ev w (str_ne h2)
  ·rw [show decide (d1 = e1) = false from decide_eq_false h1]
   simp only [decide_true, Bool.true_and, Bool.false_and]
   exact sameDevice_ne1 d0 d1 e1 d2 e2 d3 e3 d4 e4 d5 e5 d6 e6 d7 e7 d8 e8 dv ev w (beq_eq_false_iff_ne.2 h1)
 ·rw [show decide (d0 = e0) = false from decide_eq_false h0]
  simp only [Bool.false_and]
  exact sameDevice_ne0 d0 e0 d1 e1 d2 e2 d3 e3 d4 e4 d5 e5 d6 e6 d7 e7 d8 e8 dv ev w (beq_eq_false_iff_ne.2 h0)
end Go.Proofs.YtldcediiobfhiaaGreatDoor.De
namespace Go.Proofs.YtldcediiobfhiaaGreatDoor.De
open Go.RowKit
def sameA (a b : ADev) : Bool := sameD (devOf a (.slice none 0 0)) a.ats (devOf b (.slice none 0 0)) b.ats
theorem sameA_iff {a b : ADev} : sameA a b = true ↔ a = b := by
 unfold sameA sameD devOf
 simp only [Bool.and_eq_true, decide_eq_true_eq]
 constructor
 ·rintro ⟨h0, h1, h2, h3, h4, h5, h6, h7, h8, h9⟩
  cases a
  cases b
  simp_all
 ·rintro rfl
  simp
def sameL : List ADev → List ADev → Bool
 | [], [] => true
 | a :: l, b :: m => sameA a b && sameL l m
 | _, _ => false
theorem sameL_iff : ∀ {l m : List ADev}, sameL l m = true ↔ l = m
 | [], [] => by simp [sameL]
 | [], _ :: _ => by simp [sameL]
 | _ :: _, [] => by simp [sameL]
 | a :: l, b :: m => by
  rw [sameL, Bool.and_eq_true, sameA_iff, sameL_iff, List.cons.injEq]
theorem sameL_len {l m : List ADev} (h : l.length ≠ m.length) : sameL l m = false := by
 rw [Bool.eq_false_iff]
 intro h'
 exact h (by rw [sameL_iff.1 h'])
theorem sameL_step {l m : List ADev} {i : Nat} {a b : ADev} (ha : l[i]? = some a) (hb : m[i]? = some b) : sameL (l.drop i) (m.drop i) = (sameA a b && sameL (l.drop (i + 1)) (m.drop (i + 1))) := by
 obtain ⟨hi, rfl⟩ := List.getElem?_eq_some_iff.1 ha
 obtain ⟨hj, rfl⟩ := List.getElem?_eq_some_iff.1 hb
 rw [List.drop_eq_getElem_cons hi, List.drop_eq_getElem_cons hj, sameL]
set_option maxHeartbeats 2000000 in
set_option maxRecDepth 100000 in
theorem sameTree_any (su sv : Value) (l m : List DV) (w : World) (hl : l.length ≤ 1000000) (hal : ∀ x ∈ l, x.1.ats.length ≤ 1000000) (h : DHas w su l) (k : DHas w sv m) : Calls Tryz.prog 42 #[.agg #[su], .agg #[sv]] w (Bel (.bool (sameL (l.map (·.1)) (m.map (·.1)))) w) := by
 obtain ⟨a, c, hsu, hrow⟩ := h.form
 obtain ⟨b, d, hsv, krow⟩ := k.form
 have HAl := Lib.hid hal
 have HD := Lib.hid h
 have KD := Lib.hid k
 have HRow := Lib.hid hrow
 have KRow := Lib.hid krow
 obtain ⟨R, hR⟩ : ∃ R, sameL (l.map (·.1)) (m.map (·.1)) = R := ⟨_, rfl⟩
 rw [hR]
 have HR := Lib.hid hR
 obtain ⟨N, hN⟩ : ∃ N, l.length = N := ⟨_, rfl⟩
 obtain ⟨M, hM⟩ : ∃ M, m.length = M := ⟨_, rfl⟩
 rw [hN] at hsu hl
 rw [hM] at hsv
 have HN := Lib.hid hN
 have HM := Lib.hid hM
 obtain ⟨Bz, hBz⟩ : ∃ Bz, w.heap.size = Bz := ⟨_, rfl⟩
 subst hsu
 subst hsv
 have h0 := heap_alloc2_old w (.cells #[.slice a N c] 29) (.cells #[.slice b M d] 29)
 have h1 := heap_alloc2_new w (.cells #[.slice a N c] 29) (.cells #[.slice b M d] 29)
 rw [hBz] at h0
 rw [hBz] at h1
 have c0 := cell_of_row _ Bz 0 _ _ _ h0
 have c1 := cell_of_row _ (Bz + 1) 0 _ _ _ h1
 simp only [List.getElem?_toArray, List.getElem?_cons_zero] at c0 c1
 have H0 := Lib.hid (And.intro c0 c1)
 have Hb0 := Lib.hid (show Below w.heap.size w ((w.alloc (.cells #[.slice a N c] 29)).alloc (.cells #[.slice b M d] 29)) from ((Below.refl _ w).alloc (Nat.le_refl _) _).alloc (by rw [World.size_alloc]; omega) _)
 clear h0 h1 h k hrow krow hal hR hN hM
 by_cases hNM : N = M
 ·subst hNM
  have hne : ((N : Int) != (N : Int)) = false := by simp
  go_enter Tryz.func42, Tryz.ntmps42
  go_wp2
  generalize (w.alloc (.cells #[.slice a N c] 29)).alloc (.cells #[.slice b N d] 29) = W0 at *
  go_loopw [5] (fun s5 wx => ∃ i : Nat, i ≤ N ∧ s5 = .int .i64 (i : Int) ∧ R = sameL ((l.map (·.1)).drop i) ((m.map (·.1)).drop i) ∧ Below W0.heap.size W0 wx) (fun s5 _ => N - (intOf s5).toNat)
  case atStart => exact ⟨0, by omega, rfl, by rw [List.drop_zero, List.drop_zero]; exact HR.out.symm, Below.refl _ _⟩
  case round =>
   clear c0 c1
   obtain ⟨i, hi, rfl, hrr, hbx⟩ := hrel
   have Hrr := Lib.hid hrr
   have Hbx := Lib.hid hbx
   have Hbw := Lib.hid (Hb0.out.trans (hbx.mono Hb0.out.size))
   have c0 := (hbx.cell (p := ⟨Bz, 0, none⟩) (World.block_lt_of_cell? _ _ H0.out.1)).trans H0.out.1
   have c1 := (hbx.cell (p := ⟨Bz + 1, 0, none⟩) (World.block_lt_of_cell? _ _ H0.out.2)).trans H0.out.2
   clear hrr hbx
   by_cases hlt : i < N
   ·have hiz : (i : Int) < (N : Int) := by omega
    obtain ⟨x, hx⟩ : ∃ x, l[i]? = some x := ⟨l[i]'(by rw [HN.out]; exact hlt), List.getElem?_eq_getElem _⟩
    obtain ⟨y, hy⟩ : ∃ y, m[i]? = some y := ⟨m[i]'(by rw [HM.out]; exact hlt), List.getElem?_eq_getElem _⟩
    obtain ⟨g, o, rfl, hcap, hg, hr⟩ := HRow.out (fun e => by rw [e] at hx; simp at hx)
    obtain ⟨f, z, rfl, kcap, kg, kr⟩ := KRow.out (fun e => by rw [e] at hy; simp at hy)
    have hS := sameL_step (l := l.map (·.1)) (m := m.map (·.1)) (i := i) (by rw [List.getElem?_map, hx]; rfl) (by rw [List.getElem?_map, hy]; rfl)
    have HS1 := Lib.hid hS
    have HS := Lib.hid (show ∀ W, Below wr.heap.size wr W → (W.cell? ⟨Bz, 0, none⟩ = some (.slice (some ⟨g, o, none⟩) N c) ∧ W.cell? ⟨Bz + 1, 0, none⟩ = some (.slice (some ⟨f, z, none⟩) N d) ∧ W.rangeAt g (o + i * 10) (dvC x.1 x.2) ∧ W.rangeAt f (z + i * 10) (dvC y.1 y.2)) from fun W hW => ⟨(hW.cell (p := ⟨Bz, 0, none⟩) (World.block_lt_of_cell? _ _ c0)).trans c0, (hW.cell (p := ⟨Bz + 1, 0, none⟩) (World.block_lt_of_cell? _ _ c1)).trans c1, (hr.below hg (Hbw.out.trans (hW.mono Hbw.out.size))).at_ i x hx, (kr.below kg (Hbw.out.trans (hW.mono Hbw.out.size))).at_ i y hy⟩)
    have HC := Lib.hid (show ∀ W, Below wr.heap.size wr W → Calls Tryz.prog 23 #[.agg (dvC x.1 x.2).toArray, .agg (dvC y.1 y.2).toArray] W (Bel (.bool (sameA x.1 y.1)) W) from fun W hW => sameDevice_any (devOf x.1 x.2) (devOf y.1 y.2) x.1.ats y.1.ats W (by have := HAl.out x (List.mem_of_getElem? hx); omega) (((HD.out.below (Hbw.out.trans (hW.mono Hbw.out.size))).ats x (List.mem_of_getElem? hx))) (((KD.out.below (Hbw.out.trans (hW.mono Hbw.out.size))).ats y (List.mem_of_getElem? hy))))
    obtain ⟨q, hq⟩ : ∃ q, sameA x.1 y.1 = q := ⟨_, rfl⟩
    rw [hq] at HC HS1
    clear hr kr hg kg hx hy hcap kcap hS hq
    go_wp2
    refine wp_region_held_drew (S := fun W => (W.cell? ⟨Bz, 0, none⟩ = some (.slice (some ⟨g, o, none⟩) N c) ∧ W.cell? ⟨Bz + 1, 0, none⟩ = some (.slice (some ⟨f, z, none⟩) N d) ∧ W.rangeAt g (o + i * 10) (dvC x.1 x.2) ∧ W.rangeAt f (z + i * 10) (dvC y.1 y.2))) (by kernel_rfl) (HS.out _ (Below.refl _ _).drew) (fun hHeld => ?_)
    refine wpAnyH_take (i := 0) (oi := { dst := some 20, op := Op.fieldAddr 29 (Operand.tmp 2) 0, type := 0, pos := "make.go:101", after := #[], guard := none }) (v := .pointer (some ⟨Bz, 0, none⟩)) rfl (by kernel_rfl) (by kernel_rfl) (by kernel_rfl) (fun _ _ _ h => h) (Or.inl ⟨by rfl, fun w hSw => by clear hSw; go_simp⟩) (by assumption) ?_
    try simp only [Act.put, List.setIfInBounds_toArray, List.set_cons_zero, List.set_cons_succ]
    refine wpAnyH_take (i := 1) (oi := { dst := some 21, op := Op.load 22 (Operand.tmp 20), type := 22, pos := "make.go:101", after := #[{ on := 0, ground := Ground.data }], guard := none }) (v := .slice (some ⟨g, o, none⟩) N c) rfl (by kernel_rfl) (by kernel_rfl) (by kernel_rfl) (fun _ _ _ h => h) (Or.inl ⟨by rfl, fun w hSw => by obtain ⟨hS0, hS1, hS2, hS3⟩ := hSw; clear hS1 hS2 hS3; go_simp⟩) (by assumption) ?_
    try simp only [Act.put, List.setIfInBounds_toArray, List.set_cons_zero, List.set_cons_succ]
    refine wpAnyH_take (i := 2) (oi := { dst := some 22, op := Op.move (Operand.tmp 5), type := 3, pos := "make.go:101", after := #[], guard := none }) (v := .int .i64 (i : Int)) rfl (by kernel_rfl) (by kernel_rfl) (by kernel_rfl) (fun _ _ _ h => h) (Or.inl ⟨by rfl, fun w hSw => by clear hSw; go_simp⟩) (by assumption) ?_
    try simp only [Act.put, List.setIfInBounds_toArray, List.set_cons_zero, List.set_cons_succ]
    refine wpAnyH_take (i := 3) (oi := { dst := some 23, op := Op.indexAddr 22 (Operand.tmp 21) (Operand.tmp 22), type := 0, pos := "make.go:101", after := #[{ on := 1, ground := Ground.data }, { on := 2, ground := Ground.data }], guard := none }) (v := .pointer (some ⟨g, o + i * 10, none⟩)) rfl (by kernel_rfl) (by kernel_rfl) (by kernel_rfl) (fun _ _ _ h => h) (Or.inl ⟨by rfl, fun w hSw => by clear hSw; go_simp⟩) (by assumption) ?_
    try simp only [Act.put, List.setIfInBounds_toArray, List.set_cons_zero, List.set_cons_succ]
    refine wpAnyH_take (i := 4) (oi := { dst := some 24, op := Op.load 34 (Operand.tmp 23), type := 34, pos := "make.go:101", after := #[{ on := 3, ground := Ground.data }], guard := none }) (v := .agg (dvC x.1 x.2).toArray) rfl (by kernel_rfl) (by kernel_rfl) (by kernel_rfl) (fun _ _ _ h => h) (yieldsIf_load_mid (by rfl) 34 (.tmp 23) rfl g (o + i * 10) rfl (dvC x.1 x.2) _ (fun w h => h.2.2.1) Tryz.underlying34 rfl info34b) (by assumption) ?_
    try simp only [Act.put, List.setIfInBounds_toArray, List.set_cons_zero, List.set_cons_succ]
    refine wpAnyH_take (i := 5) (oi := { dst := some 25, op := Op.fieldAddr 29 (Operand.tmp 3) 0, type := 0, pos := "make.go:101", after := #[], guard := none }) (v := .pointer (some ⟨Bz + 1, 0, none⟩)) rfl (by kernel_rfl) (by kernel_rfl) (by kernel_rfl) (fun _ _ _ h => h) (Or.inl ⟨by rfl, fun w hSw => by clear hSw; go_simp⟩) (by assumption) ?_
    try simp only [Act.put, List.setIfInBounds_toArray, List.set_cons_zero, List.set_cons_succ]
    refine wpAnyH_take (i := 6) (oi := { dst := some 26, op := Op.load 22 (Operand.tmp 25), type := 22, pos := "make.go:101", after := #[{ on := 5, ground := Ground.data }], guard := none }) (v := .slice (some ⟨f, z, none⟩) N d) rfl (by kernel_rfl) (by kernel_rfl) (by kernel_rfl) (fun _ _ _ h => h) (Or.inl ⟨by rfl, fun w hSw => by obtain ⟨hS0, hS1, hS2, hS3⟩ := hSw; clear hS0 hS2 hS3; go_simp⟩) (by assumption) ?_
    try simp only [Act.put, List.setIfInBounds_toArray, List.set_cons_zero, List.set_cons_succ]
    refine wpAnyH_take (i := 7) (oi := { dst := some 27, op := Op.move (Operand.tmp 5), type := 3, pos := "make.go:101", after := #[], guard := none }) (v := .int .i64 (i : Int)) rfl (by kernel_rfl) (by kernel_rfl) (by kernel_rfl) (fun _ _ _ h => h) (Or.inl ⟨by rfl, fun w hSw => by clear hSw; go_simp⟩) (by assumption) ?_
    try simp only [Act.put, List.setIfInBounds_toArray, List.set_cons_zero, List.set_cons_succ]
    refine wpAnyH_take (i := 8) (oi := { dst := some 28, op := Op.indexAddr 22 (Operand.tmp 26) (Operand.tmp 27), type := 0, pos := "make.go:101", after := #[{ on := 6, ground := Ground.data }, { on := 7, ground := Ground.data }], guard := none }) (v := .pointer (some ⟨f, z + i * 10, none⟩)) rfl (by kernel_rfl) (by kernel_rfl) (by kernel_rfl) (fun _ _ _ h => h) (Or.inl ⟨by rfl, fun w hSw => by clear hSw; go_simp⟩) (by assumption) ?_
    try simp only [Act.put, List.setIfInBounds_toArray, List.set_cons_zero, List.set_cons_succ]
    refine wpAnyH_take (i := 9) (oi := { dst := some 29, op := Op.load 34 (Operand.tmp 28), type := 34, pos := "make.go:101", after := #[{ on := 8, ground := Ground.data }], guard := none }) (v := .agg (dvC y.1 y.2).toArray) rfl (by kernel_rfl) (by kernel_rfl) (by kernel_rfl) (fun _ _ _ h => h) (yieldsIf_load_mid (by rfl) 34 (.tmp 28) rfl f (z + i * 10) rfl (dvC y.1 y.2) _ (fun w h => h.2.2.2) Tryz.underlying34 rfl info34b) (by assumption) ?_
    try simp only [Act.put, List.setIfInBounds_toArray, List.set_cons_zero, List.set_cons_succ]
    refine wpAnyH_ready (rs := [10]) (by kernel_rfl) (by simp) ?_
    refine AllReadyH.cons (o := { dst := some 30, op := Op.call { callee := Callee.value (Operand.func 23), args := #[Operand.tmp 24, Operand.tmp 29], argTypes := #[34, 34] }, type := 4, pos := "make.go:101", after := #[{ on := 4, ground := Ground.data }, { on := 9, ground := Ground.data }], guard := none }) rfl (fun K hK => ?_) AllReadyH.nil
    go_simp
    refine (HC.out wr.drew (Below.refl _ _).drew).mono ?_
    rintro e W2 ⟨rfl, hb2⟩
    dsimp only
    have hb3 : Below wr.heap.size wr W2 := ((Below.refl _ wr).drew).trans hb2
    refine hK.out _ _ (HS.out _ hb3) (fun hHeld => ?_)
    try simp only [Act.put, List.setIfInBounds_toArray, List.set_cons_zero, List.set_cons_succ]
    clear hK
    refine wpAnyH_take (i := 11) (oi := { dst := some 31, op := Op.unOp UnOp.not 4 (Operand.tmp 30), type := 4, pos := "make.go:101", after := #[{ on := 10, ground := Ground.data }], guard := none }) (v := .bool (!q)) rfl (by kernel_rfl) (by kernel_rfl) (by kernel_rfl) (fun _ _ _ h => h) (Or.inl ⟨by rfl, fun w hSw => by clear hSw; go_simp⟩) (by assumption) ?_
    try simp only [Act.put, List.setIfInBounds_toArray, List.set_cons_zero, List.set_cons_succ]
    refine wpAnyH_done (by kernel_rfl) ?_ _
    have Hb2 := Lib.hid (Hbx.out.trans (hb3.mono Hbx.out.size))
    clear hb3 hb2 hHeld
    cases q with
    | true =>
     have Hn := Lib.hid (show R = sameL ((l.map (·.1)).drop (i + 1)) ((m.map (·.1)).drop (i + 1)) from by rw [Hrr.out, HS1.out, Bool.true_and])
     go_wp2
     exact ⟨⟨i + 1, by omega, rfl, Hn.out, Hb2.out⟩, by simp [intOf]; omega⟩
    | false =>
     have Hn := Lib.hid (show R = false from by rw [Hrr.out, HS1.out, Bool.false_and])
     go_wp2
     go_ret
     exact ⟨by rw [Hn.out]; rfl, by first | exact Hb0.out.trans (Hb2.out.mono Hb0.out.size) | (rw [← hBz]; exact Hb0.out.trans (Hb2.out.mono Hb0.out.size))⟩
   ·obtain rfl : i = N := by omega
    have Hn := Lib.hid (show R = true from by
     rw [Hrr.out, List.drop_of_length_le (by rw [List.length_map, HN.out]; exact Nat.le_refl _), List.drop_of_length_le (by rw [List.length_map, HM.out]; exact Nat.le_refl _)]
     rfl)
    go_wp2
    go_ret
    exact ⟨by rw [Hn.out]; rfl, by first | exact Hbw.out | (rw [← hBz]; exact Hbw.out)⟩
 ·have hne : ((N : Int) != (M : Int)) = true := by
   rw [bne_iff_ne]
   omega
  have Hn := Lib.hid (show R = false from by rw [← HR.out]; exact sameL_len (by rw [List.length_map, List.length_map, HN.out, HM.out]; exact hNM))
  go_enter Tryz.func42, Tryz.ntmps42
  go_wp2
  go_ret
  exact ⟨by rw [Hn.out]; rfl, by first | exact Hb0.out | (rw [← hBz]; exact Hb0.out)⟩
end Go.Proofs.YtldcediiobfhiaaGreatDoor.De
