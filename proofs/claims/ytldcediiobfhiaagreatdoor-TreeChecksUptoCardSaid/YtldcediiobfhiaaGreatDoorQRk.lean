/- The reference's Check of a device. The reference's Check of a device: a wrong kind. The reference's Check of a device: the rest, and the whole. -/
import Derived.Test.YtldcediiobfhiaaGreatDoorQRf
import Derived.Deep.DeepCutAuto
namespace Go.Proofs.YtldcediiobfhiaaGreatDoor.De
open Go.RowKit
theorem refValidC (s : ByteArray) (w : World) (hs : s.size ≤ 4000000000) : Calls Tryz.prog 92 #[.string s] w fun e w' => e = .returned (.bool (validB s)) ∧ w' = w := Nm.refValid_any s w (by omega)
theorem refTextC (s : ByteArray) (w : World) (hs : s.size ≤ 4000000000) : Calls Tryz.prog 93 #[.string s] w fun e w' => e = .returned (.bool (txtB s)) ∧ w' = w := Nm.refText_any s w (by omega)
theorem refIfaceC (s : ByteArray) (w : World) (hs : s.size ≤ 4000000000) : Calls Tryz.prog 94 #[.string s] w fun e w' => e = .returned (.bool (ifcB s)) ∧ w' = w := Nm.refInterface_any s w (by omega)
theorem refLinkC (s : ByteArray) (w : World) (hs : s.size ≤ 4000000000) (hm : Max w) : Calls Tryz.prog 96 #[.string s] w (Bel (.bool (lnkB s)) w) := by
 obtain ⟨m, hm⟩ := hm
 exact Nm.refLink_any s m w (by omega) hm
theorem place_iff (d : Dev) : placeB d = !(decide (d.idx < 1) || (decide (1073741824 < d.idx) || (decide (d.par < 0) || (decide (1073741824 < d.par) || d.par == d.idx)))) := by
 unfold placeB isNum
 rw [Bool.eq_iff_iff]
 simp only [Bool.and_eq_true, Bool.or_eq_true, Bool.not_eq_true', Bool.or_eq_false_iff, decide_eq_true_eq, decide_eq_false_iff_not, beq_iff_eq, beq_eq_false_iff_ne]
 omega
theorem num_iff (d : Dev) : numB d = if hasN d.kind then !(decide (d.num < 1) || decide (1073741824 < d.num)) else d.num == 0 := by
 unfold numB isNum
 split
 ·rw [Bool.eq_iff_iff]
  simp only [Bool.and_eq_true, Bool.not_eq_true', Bool.or_eq_false_iff, decide_eq_true_eq, decide_eq_false_iff_not]
  omega
 ·rfl
/-- The kinds that are none, as the reference asks first. -/
theorem kind_low (d : Dev) (h : d.kind < 1 ∨ 4 < d.kind) : kindB d = false := by
 unfold kindB hasN
 rw [if_neg (by omega)]
 have h1 : (d.kind == 1) = false := beq_eq_false_iff_ne.2 (by omega)
 have h2 : (d.kind == 2) = false := beq_eq_false_iff_ne.2 (by omega)
 have h3 : (d.kind == 3) = false := beq_eq_false_iff_ne.2 (by omega)
 rw [h1, h2, h3]
 rfl
theorem kind_four (d : Dev) (h : d.kind = 4) : kindB d = (ifcB d.name && ifcB d.orig) := by
 unfold kindB
 rw [if_pos h]
theorem kind_other (d : Dev) (h1 : 1 ≤ d.kind) (h2 : d.kind ≤ 4) (h : d.kind ≠ 4) : kindB d = decide (d.name = d.orig) := by
 unfold kindB hasN
 rw [if_neg h]
 have : (d.kind == 1 || (d.kind == 2 || d.kind == 3)) = true := by
  simp only [Bool.or_eq_true, beq_iff_eq]
  omega
 rw [this, Bool.true_and]
set_option maxHeartbeats 4000000 in
set_option maxRecDepth 100000 in
theorem refCheck_early (d : Dev) (l : List Atr) (w : World) (hl : l.length ≤ 9223372036854775807) (h : Has w d.av l) (hs : Sized d l) (hm : Max w) (hb : placeB d = false ∨ textsB d = false) : Calls Tryz.prog 55 #[devV d] w (Bel (.int .i64 (checkE d l)) w) := by
 have v1 := fun W => refValidC d.name W hs.nm
 have v2 := fun W => refValidC d.orig W hs.og
 have v3 := fun W => refValidC d.sub W hs.sb
 have v4 := fun W => refValidC d.drv W hs.dr
 have v5 := fun W => refTextC d.ali W hs.al
 have i1 := fun W => refIfaceC d.name W hs.nm
 have i2 := fun W => refIfaceC d.orig W hs.og
 have n1 := fun W (hb : Below w.heap.size w W) => refNode_any d W (by have := hs.og; omega) (hm.below hb)
 have k1 := fun W (hb : Below w.heap.size w W) => refLinkC (nodeOf d.orig) W (by have := nodeOf_size d.orig; have := hs.og; omega) (hm.below hb)
 have s1 := fun W (hb : Below w.heap.size w W) => refSorted_any d.av l W hl (h.below hb)
 have u1 := fun (x : Atr) W (hx : x ∈ l) => refValidC x.1 W (hs.at_ x hx).1
 have u2 := fun (x : Atr) W (hx : x ∈ l) => refTextC x.2 W (hs.at_ x hx).2
 have he := empF d.drv
 have hP := place_iff d
 have hN := num_iff d
 have hK1 := kind_low d
 have hK2 := kind_four d
 have hK3 := kind_other d
 have hT : textsB d = (validB d.name && (validB d.orig && (validB d.sub && ((empB d.drv || validB d.drv) && txtB d.ali)))) := rfl
 have hA : attrB l = (srtB l && !l.any wrongA) := rfl
 have hD : nodB d = (!hasN d.kind || lnkB (nodeOf d.orig)) := rfl
 obtain ⟨ad, cc, hav, hrow⟩ := h.form
 obtain ⟨R, hR⟩ : ∃ R, checkE d l = R := ⟨_, rfl⟩
 rw [hR]
 unfold checkE at hR
 clear hs hm h
 obtain ⟨idx, par, name, orig, sub, drv, ali, kind, num, av⟩ := d
 simp only at hav
 subst hav
 unfold nodeR at n1
 unfold devV devC at *
 simp only at hb v1 v2 v3 v4 v5 i1 i2 n1 k1 s1 he hP hN hK1 hK2 hK3 hT hD hR ⊢
 generalize placeB _ = b1 at *
 generalize textsB _ = b2 at *
 generalize kindB _ = b3 at *
 generalize numB _ = b4 at *
 generalize attrB l = b5 at *
 generalize nodB _ = b6 at *
 generalize validB name = x1 at *
 generalize validB orig = x2 at *
 generalize validB sub = x3 at *
 generalize validB drv = x4 at *
 generalize txtB ali = x5 at *
 generalize empB drv = x6 at *
 generalize ifcB name = y1 at *
 generalize ifcB orig = y2 at *
 generalize hasN kind = nb at *
 generalize srtB l = sb at *
 obtain ⟨X, hX⟩ : ∃ X, (if nb = true then nodeOf orig else (⟨#[]⟩ : ByteArray)) = X := ⟨_, rfl⟩
 rw [hX] at n1
 have V1 := Lib.hid v1
 have V2 := Lib.hid v2
 have V3 := Lib.hid v3
 have V4 := Lib.hid v4
 have V5 := Lib.hid v5
 have I1 := Lib.hid i1
 have I2 := Lib.hid i2
 have N1 := Lib.hid n1
 have K1 := Lib.hid k1
 have S1 := Lib.hid s1
 have U1 := Lib.hid u1
 have U2 := Lib.hid u2
 have HP := Lib.hid hP
 have HN := Lib.hid hN
 have HK1 := Lib.hid hK1
 have HK2 := Lib.hid hK2
 have HK3 := Lib.hid hK3
 have HT := Lib.hid hT
 have HA := Lib.hid hA
 have HD := Lib.hid hD
 have HX := Lib.hid hX
 have HR := Lib.hid hR
 have HE := Lib.hid he
 have HW := Lib.hid hrow
 clear v1 v2 v3 v4 v5 i1 i2 n1 k1 s1 u1 u2 hP hN hK1 hK2 hK3 hT hA hD hX hR he hrow
 have hb0 := box_below w (.cells #[.int .i64 idx, .int .i64 par, .string name, .string orig, .string sub, .string drv, .string ali, .int .i64 kind, .int .i64 num, .slice ad l.length cc] 34)
 have Hb0 := Lib.hid hb0
 go_enter Tryz.func55, Tryz.ntmps55
 go_upto_region 1 with fail
 go_cut [30] (fun s wx => s = .bool (!b1) ∧ wx = w.alloc (.cells #[.int .i64 idx, .int .i64 par, .string name, .string orig, .string sub, .string drv, .string ali, .int .i64 kind, .int .i64 num, .slice ad l.length cc] 34))
 case first =>
  by_cases q1 : idx < 1
  ·have E1 := Lib.hid (show b1 = false from by rw [HP.out, decide_eq_true q1]; rfl)
   go_wp2
   go_meet
   exact ⟨by rw [E1.out]; rfl, rfl⟩
  by_cases q2 : (1073741824 : Int) < idx
  ·have E1 := Lib.hid (show b1 = false from by rw [HP.out, decide_eq_false q1, decide_eq_true q2]; rfl)
   go_wp2
   go_meet
   exact ⟨by rw [E1.out]; rfl, rfl⟩
  by_cases q3 : par < 0
  ·have E1 := Lib.hid (show b1 = false from by rw [HP.out, decide_eq_false q1, decide_eq_false q2, decide_eq_true q3]; rfl)
   go_wp2
   go_meet
   exact ⟨by rw [E1.out]; rfl, rfl⟩
  by_cases q4 : (1073741824 : Int) < par
  ·have E1 := Lib.hid (show b1 = false from by rw [HP.out, decide_eq_false q1, decide_eq_false q2, decide_eq_false q3, decide_eq_true q4]; rfl)
   go_wp2
   go_meet
   exact ⟨by rw [E1.out]; rfl, rfl⟩
  by_cases q5 : par = idx
  ·subst q5
   have E1 := Lib.hid (show b1 = false from by rw [HP.out, decide_eq_false q1, decide_eq_false q2, decide_eq_false q3]; simp)
   go_wp2
   go_meet
   exact ⟨by rw [E1.out]; rfl, rfl⟩
  have q5' : (par == idx) = false := beq_eq_false_iff_ne.2 q5
  have E1 := Lib.hid (show b1 = true from by rw [HP.out, decide_eq_false q1, decide_eq_false q2, decide_eq_false q3, decide_eq_false q4, q5']; rfl)
  go_wp2
  go_meet
  exact ⟨by rw [E1.out]; rfl, rfl⟩
 case rest =>
 obtain ⟨rfl, rfl⟩ := hcut
 have hR1 := HR.out
 clear HR HP
 cases b1 with
 | false =>
  simp only [reduceIte] at hR1
  subst hR1
  go_wp2
  go_ret
  exact ⟨rfl, Hb0.out⟩
 | true =>
 simp only [reduceIte, Bool.true_eq_false] at hR1
 have HR := Lib.hid hR1
 clear hR1
 go_upto_region 3 with fail
 go_cut [63] (fun s wx => s = .bool (!b2) ∧ wx = w.alloc (.cells #[.int .i64 idx, .int .i64 par, .string name, .string orig, .string sub, .string drv, .string ali, .int .i64 kind, .int .i64 num, .slice ad l.length cc] 34))
 case first =>
  go_wp2_with fail
  refine (V1.out _).mono ?_
  rintro e W ⟨rfl, rfl⟩
  cases x1 with
  | false =>
   go_wp2
   go_meet
   exact ⟨by rw [HT.out]; rfl, rfl⟩
  | true =>
   go_wp2_with fail
   refine (V2.out _).mono ?_
   rintro e W ⟨rfl, rfl⟩
   cases x2 with
   | false =>
    go_wp2
    go_meet
    exact ⟨by rw [HT.out]; rfl, rfl⟩
   | true =>
    go_wp2_with fail
    refine (V3.out _).mono ?_
    rintro e W ⟨rfl, rfl⟩
    cases x3 with
    | false =>
     go_wp2
     go_meet
     exact ⟨by rw [HT.out]; rfl, rfl⟩
    | true =>
     have he := HE.out
     clear HE
     cases x6 with
     | true =>
      go_wp2_with fail
      refine (V5.out _).mono ?_
      rintro e W ⟨rfl, rfl⟩
      cases x5 with
      | false =>
       go_wp2
       go_meet
       exact ⟨by rw [HT.out]; rfl, rfl⟩
      | true =>
       go_wp2
       go_meet
       exact ⟨by rw [HT.out]; rfl, rfl⟩
     | false =>
      go_wp2_with fail
      refine (V4.out _).mono ?_
      rintro e W ⟨rfl, rfl⟩
      cases x4 with
      | false =>
       go_wp2
       go_meet
       exact ⟨by rw [HT.out]; rfl, rfl⟩
      | true =>
       go_wp2_with fail
       refine (V5.out _).mono ?_
       rintro e W ⟨rfl, rfl⟩
       cases x5 with
       | false =>
        go_wp2
        go_meet
        exact ⟨by rw [HT.out]; rfl, rfl⟩
       | true =>
        go_wp2
        go_meet
        exact ⟨by rw [HT.out]; rfl, rfl⟩
 case rest =>
 obtain ⟨rfl, rfl⟩ := hcut
 have hR1 := HR.out
 clear HR HT HE V1 V2 V3 V4 V5
 cases b2 with
 | false =>
  simp only [reduceIte] at hR1
  subst hR1
  go_wp2
  go_ret
  exact ⟨rfl, Hb0.out⟩
 | true => simp at hb
end Go.Proofs.YtldcediiobfhiaaGreatDoor.De
namespace Go.Proofs.YtldcediiobfhiaaGreatDoor.De
open Go.RowKit
set_option maxHeartbeats 4000000 in
set_option maxRecDepth 100000 in
theorem refCheck_kind (d : Dev) (l : List Atr) (w : World) (hl : l.length ≤ 9223372036854775807) (h : Has w d.av l) (hs : Sized d l) (hm : Max w) (hb1 : placeB d = true) (hb2 : textsB d = true) (hb3 : kindB d = false) : Calls Tryz.prog 55 #[devV d] w (Bel (.int .i64 (checkE d l)) w) := by
 have v1 := fun W => refValidC d.name W hs.nm
 have v2 := fun W => refValidC d.orig W hs.og
 have v3 := fun W => refValidC d.sub W hs.sb
 have v4 := fun W => refValidC d.drv W hs.dr
 have v5 := fun W => refTextC d.ali W hs.al
 have i1 := fun W => refIfaceC d.name W hs.nm
 have i2 := fun W => refIfaceC d.orig W hs.og
 have n1 := fun W (hb : Below w.heap.size w W) => refNode_any d W (by have := hs.og; omega) (hm.below hb)
 have k1 := fun W (hb : Below w.heap.size w W) => refLinkC (nodeOf d.orig) W (by have := nodeOf_size d.orig; have := hs.og; omega) (hm.below hb)
 have s1 := fun W (hb : Below w.heap.size w W) => refSorted_any d.av l W hl (h.below hb)
 have u1 := fun (x : Atr) W (hx : x ∈ l) => refValidC x.1 W (hs.at_ x hx).1
 have u2 := fun (x : Atr) W (hx : x ∈ l) => refTextC x.2 W (hs.at_ x hx).2
 have he := empF d.drv
 have hP := place_iff d
 have hN := num_iff d
 have hK1 := kind_low d
 have hK2 := kind_four d
 have hK3 := kind_other d
 have hT : textsB d = (validB d.name && (validB d.orig && (validB d.sub && ((empB d.drv || validB d.drv) && txtB d.ali)))) := rfl
 have hA : attrB l = (srtB l && !l.any wrongA) := rfl
 have hD : nodB d = (!hasN d.kind || lnkB (nodeOf d.orig)) := rfl
 obtain ⟨ad, cc, hav, hrow⟩ := h.form
 obtain ⟨R, hR⟩ : ∃ R, checkE d l = R := ⟨_, rfl⟩
 rw [hR]
 unfold checkE at hR
 clear hs hm h
 obtain ⟨idx, par, name, orig, sub, drv, ali, kind, num, av⟩ := d
 simp only at hav
 subst hav
 unfold nodeR at n1
 unfold devV devC at *
 simp only at hb1 hb2 hb3 v1 v2 v3 v4 v5 i1 i2 n1 k1 s1 he hP hN hK1 hK2 hK3 hT hD hR ⊢
 generalize placeB _ = b1 at *
 generalize textsB _ = b2 at *
 generalize kindB _ = b3 at *
 generalize numB _ = b4 at *
 generalize attrB l = b5 at *
 generalize nodB _ = b6 at *
 generalize validB name = x1 at *
 generalize validB orig = x2 at *
 generalize validB sub = x3 at *
 generalize validB drv = x4 at *
 generalize txtB ali = x5 at *
 generalize empB drv = x6 at *
 generalize ifcB name = y1 at *
 generalize ifcB orig = y2 at *
 generalize hasN kind = nb at *
 generalize srtB l = sb at *
 obtain ⟨X, hX⟩ : ∃ X, (if nb = true then nodeOf orig else (⟨#[]⟩ : ByteArray)) = X := ⟨_, rfl⟩
 rw [hX] at n1
 have V1 := Lib.hid v1
 have V2 := Lib.hid v2
 have V3 := Lib.hid v3
 have V4 := Lib.hid v4
 have V5 := Lib.hid v5
 have I1 := Lib.hid i1
 have I2 := Lib.hid i2
 have N1 := Lib.hid n1
 have K1 := Lib.hid k1
 have S1 := Lib.hid s1
 have U1 := Lib.hid u1
 have U2 := Lib.hid u2
 have HP := Lib.hid hP
 have HN := Lib.hid hN
 have HK1 := Lib.hid hK1
 have HK2 := Lib.hid hK2
 have HK3 := Lib.hid hK3
 have HT := Lib.hid hT
 have HA := Lib.hid hA
 have HD := Lib.hid hD
 have HX := Lib.hid hX
 have HR := Lib.hid hR
 have HE := Lib.hid he
 have HW := Lib.hid hrow
 clear v1 v2 v3 v4 v5 i1 i2 n1 k1 s1 u1 u2 hP hN hK1 hK2 hK3 hT hA hD hX hR he hrow
 have hR1 := HR.out
 rw [hb1, hb2] at hR1
 simp only [reduceIte, Bool.true_eq_false] at hR1
 subst hb1
 subst hb2
 clear HR
 have HR := Lib.hid hR1
 clear hR1
 have hb0 := box_below w (.cells #[.int .i64 idx, .int .i64 par, .string name, .string orig, .string sub, .string drv, .string ali, .int .i64 kind, .int .i64 num, .slice ad l.length cc] 34)
 have Hb0 := Lib.hid hb0
 go_enter Tryz.func55, Tryz.ntmps55
 have hp := HP.out
 have q1 : ¬ idx < 1 := fun e => by rw [decide_eq_true e] at hp; simp at hp
 have q2 : ¬ (1073741824 : Int) < idx := fun e => by rw [decide_eq_true e] at hp; simp at hp
 have q3 : ¬ par < 0 := fun e => by rw [decide_eq_true e] at hp; simp at hp
 have q4 : ¬ (1073741824 : Int) < par := fun e => by rw [decide_eq_true e] at hp; simp at hp
 have q5' : (par == idx) = false := by
  cases e : (par == idx) with
  | false => rfl
  | true => rw [e] at hp; simp at hp
 clear hp HP
 have ht := HT.out
 obtain rfl : x1 = true := by cases x1 <;> simp at ht ⊢
 obtain rfl : x2 = true := by cases x2 <;> simp at ht ⊢
 obtain rfl : x3 = true := by cases x3 <;> simp at ht ⊢
 obtain rfl : x5 = true := by cases x5 <;> simp at ht ⊢
 have h64 : x6 = false → x4 = true := fun e => by subst e; cases x4 <;> simp at ht ⊢
 clear ht HT
 go_upto_region 3 with fail
 clear q1 q2 q3 q4 q5'
 go_cut [63] (fun s wx => s = .bool false ∧ wx = w.alloc (.cells #[.int .i64 idx, .int .i64 par, .string name, .string orig, .string sub, .string drv, .string ali, .int .i64 kind, .int .i64 num, .slice ad l.length cc] 34))
 case first =>
  go_wp2_with fail
  refine (V1.out _).mono ?_
  rintro e W ⟨rfl, rfl⟩
  go_wp2_with fail
  refine (V2.out _).mono ?_
  rintro e W ⟨rfl, rfl⟩
  go_wp2_with fail
  refine (V3.out _).mono ?_
  rintro e W ⟨rfl, rfl⟩
  have he := HE.out
  clear HE
  cases x6 with
  | true =>
   go_wp2_with fail
   refine (V5.out _).mono ?_
   rintro e W ⟨rfl, rfl⟩
   go_wp2
   go_meet
   exact ⟨rfl, rfl⟩
  | false =>
   obtain rfl := h64 rfl
   go_wp2_with fail
   refine (V4.out _).mono ?_
   rintro e W ⟨rfl, rfl⟩
   go_wp2_with fail
   refine (V5.out _).mono ?_
   rintro e W ⟨rfl, rfl⟩
   go_wp2
   go_meet
   exact ⟨rfl, rfl⟩
 case rest =>
 obtain ⟨rfl, rfl⟩ := hcut
 clear HE V1 V2 V3 V4 V5 h64
 by_cases k1 : kind < 1
 ·have hR1 := HR.out
  have hk := HK1.out (Or.inl k1)
  subst hk
  simp only [reduceIte] at hR1
  subst hR1
  go_wp2
  go_ret
  exact ⟨rfl, Hb0.out⟩
 by_cases k4 : (4 : Int) < kind
 ·have hR1 := HR.out
  have hk := HK1.out (Or.inr k4)
  subst hk
  simp only [reduceIte] at hR1
  subst hR1
  go_wp2
  go_ret
  exact ⟨rfl, Hb0.out⟩
 go_upto_region 7 with fail
 go_cut [98] (fun s wx => s = .bool (!b3) ∧ wx = w.alloc (.cells #[.int .i64 idx, .int .i64 par, .string name, .string orig, .string sub, .string drv, .string ali, .int .i64 kind, .int .i64 num, .slice ad l.length cc] 34))
 case first =>
  by_cases kq : kind = 4
  ·have hk := HK2.out kq
   have Hk := Lib.hid hk
   have kq' : (kind == 4) = true := by rw [kq]; rfl
   have kqn : (kind != 4) = false := by rw [bne, kq']; rfl
   clear hk kq
   go_wp2_with fail
   refine (I1.out _).mono ?_
   rintro e W ⟨rfl, rfl⟩
   cases y1 with
   | false =>
    go_wp2
    go_meet
    exact ⟨by rw [Hk.out]; rfl, rfl⟩
   | true =>
    go_wp2_with fail
    refine (I2.out _).mono ?_
    rintro e W ⟨rfl, rfl⟩
    cases y2 with
    | false =>
     go_wp2
     go_meet
     exact ⟨by rw [Hk.out]; rfl, rfl⟩
    | true =>
     go_wp2
     go_meet
     exact ⟨by rw [Hk.out]; rfl, rfl⟩
  ·have hk := HK3.out (by omega) (by omega) kq
   have Hk := Lib.hid hk
   have kq' : (kind == 4) = false := beq_eq_false_iff_ne.2 kq
   have kqn : (kind != 4) = true := by rw [bne, kq']; rfl
   clear hk kq
   by_cases hq : name = orig
   ·subst hq
    go_wp2
    go_meet
    exact ⟨by rw [Hk.out]; simp, rfl⟩
   ·have hq' := str_ne hq
    have hk2 := Hk.out
    rw [decide_eq_false hq] at hk2
    subst hk2
    clear hq
    go_wp2
    go_meet
    exact ⟨rfl, rfl⟩
 case rest =>
 obtain ⟨rfl, rfl⟩ := hcut
 have hR1 := HR.out
 clear HR HK1 HK2 HK3 I1 I2 k1 k4
 cases b3 with
 | false =>
  simp only [reduceIte] at hR1
  subst hR1
  go_wp2
  go_ret
  exact ⟨rfl, Hb0.out⟩
 | true => simp at hb3
end Go.Proofs.YtldcediiobfhiaaGreatDoor.De
namespace Go.Proofs.YtldcediiobfhiaaGreatDoor.De
open Go.RowKit
set_option maxHeartbeats 4000000 in
set_option maxRecDepth 100000 in
theorem refCheck_late (d : Dev) (l : List Atr) (w : World) (hl : l.length ≤ 9223372036854775807) (h : Has w d.av l) (hs : Sized d l) (hm : Max w) (hb1 : placeB d = true) (hb2 : textsB d = true) (hb3 : kindB d = true) : Calls Tryz.prog 55 #[devV d] w (Bel (.int .i64 (checkE d l)) w) := by
 have v1 := fun W => refValidC d.name W hs.nm
 have v2 := fun W => refValidC d.orig W hs.og
 have v3 := fun W => refValidC d.sub W hs.sb
 have v4 := fun W => refValidC d.drv W hs.dr
 have v5 := fun W => refTextC d.ali W hs.al
 have i1 := fun W => refIfaceC d.name W hs.nm
 have i2 := fun W => refIfaceC d.orig W hs.og
 have n1 := fun W (hb : Below w.heap.size w W) => refNode_any d W (by have := hs.og; omega) (hm.below hb)
 have k1 := fun W (hb : Below w.heap.size w W) => refLinkC (nodeOf d.orig) W (by have := nodeOf_size d.orig; have := hs.og; omega) (hm.below hb)
 have s1 := fun W (hb : Below w.heap.size w W) => refSorted_any d.av l W hl (h.below hb)
 have u1 := fun (x : Atr) W (hx : x ∈ l) => refValidC x.1 W (hs.at_ x hx).1
 have u2 := fun (x : Atr) W (hx : x ∈ l) => refTextC x.2 W (hs.at_ x hx).2
 have he := empF d.drv
 have hP := place_iff d
 have hN := num_iff d
 have hK1 := kind_low d
 have hK2 := kind_four d
 have hK3 := kind_other d
 have hT : textsB d = (validB d.name && (validB d.orig && (validB d.sub && ((empB d.drv || validB d.drv) && txtB d.ali)))) := rfl
 have hA : attrB l = (srtB l && !l.any wrongA) := rfl
 have hD : nodB d = (!hasN d.kind || lnkB (nodeOf d.orig)) := rfl
 obtain ⟨ad, cc, hav, hrow⟩ := h.form
 obtain ⟨R, hR⟩ : ∃ R, checkE d l = R := ⟨_, rfl⟩
 rw [hR]
 unfold checkE at hR
 clear hs hm h
 obtain ⟨idx, par, name, orig, sub, drv, ali, kind, num, av⟩ := d
 simp only at hav
 subst hav
 unfold nodeR at n1
 unfold devV devC at *
 simp only at hb1 hb2 hb3 v1 v2 v3 v4 v5 i1 i2 n1 k1 s1 he hP hN hK1 hK2 hK3 hT hD hR ⊢
 generalize placeB _ = b1 at *
 generalize textsB _ = b2 at *
 generalize kindB _ = b3 at *
 generalize numB _ = b4 at *
 generalize attrB l = b5 at *
 generalize nodB _ = b6 at *
 generalize validB name = x1 at *
 generalize validB orig = x2 at *
 generalize validB sub = x3 at *
 generalize validB drv = x4 at *
 generalize txtB ali = x5 at *
 generalize empB drv = x6 at *
 generalize ifcB name = y1 at *
 generalize ifcB orig = y2 at *
 generalize hasN kind = nb at *
 generalize srtB l = sb at *
 obtain ⟨X, hX⟩ : ∃ X, (if nb = true then nodeOf orig else (⟨#[]⟩ : ByteArray)) = X := ⟨_, rfl⟩
 rw [hX] at n1
 have V1 := Lib.hid v1
 have V2 := Lib.hid v2
 have V3 := Lib.hid v3
 have V4 := Lib.hid v4
 have V5 := Lib.hid v5
 have I1 := Lib.hid i1
 have I2 := Lib.hid i2
 have N1 := Lib.hid n1
 have K1 := Lib.hid k1
 have S1 := Lib.hid s1
 have U1 := Lib.hid u1
 have U2 := Lib.hid u2
 have HP := Lib.hid hP
 have HN := Lib.hid hN
 have HK1 := Lib.hid hK1
 have HK2 := Lib.hid hK2
 have HK3 := Lib.hid hK3
 have HT := Lib.hid hT
 have HA := Lib.hid hA
 have HD := Lib.hid hD
 have HX := Lib.hid hX
 have HR := Lib.hid hR
 have HE := Lib.hid he
 have HW := Lib.hid hrow
 clear v1 v2 v3 v4 v5 i1 i2 n1 k1 s1 u1 u2 hP hN hK1 hK2 hK3 hT hA hD hX hR he hrow
 have hR1 := HR.out
 rw [hb1, hb2] at hR1
 simp only [reduceIte, Bool.true_eq_false] at hR1
 subst hb1
 subst hb2
 clear HR
 have HR := Lib.hid hR1
 clear hR1
 have hR1 := HR.out
 rw [hb3] at hR1
 simp only [reduceIte, Bool.true_eq_false] at hR1
 subst hb3
 clear HR
 have HR := Lib.hid hR1
 clear hR1
 have hb0 := box_below w (.cells #[.int .i64 idx, .int .i64 par, .string name, .string orig, .string sub, .string drv, .string ali, .int .i64 kind, .int .i64 num, .slice ad l.length cc] 34)
 have Hb0 := Lib.hid hb0
 go_enter Tryz.func55, Tryz.ntmps55
 have hp := HP.out
 have q1 : ¬ idx < 1 := fun e => by rw [decide_eq_true e] at hp; simp at hp
 have q2 : ¬ (1073741824 : Int) < idx := fun e => by rw [decide_eq_true e] at hp; simp at hp
 have q3 : ¬ par < 0 := fun e => by rw [decide_eq_true e] at hp; simp at hp
 have q4 : ¬ (1073741824 : Int) < par := fun e => by rw [decide_eq_true e] at hp; simp at hp
 have q5' : (par == idx) = false := by
  cases e : (par == idx) with
  | false => rfl
  | true => rw [e] at hp; simp at hp
 clear hp HP
 have ht := HT.out
 obtain rfl : x1 = true := by cases x1 <;> simp at ht ⊢
 obtain rfl : x2 = true := by cases x2 <;> simp at ht ⊢
 obtain rfl : x3 = true := by cases x3 <;> simp at ht ⊢
 obtain rfl : x5 = true := by cases x5 <;> simp at ht ⊢
 have h64 : x6 = false → x4 = true := fun e => by subst e; cases x4 <;> simp at ht ⊢
 clear ht HT
 go_upto_region 3 with fail
 clear q1 q2 q3 q4 q5'
 go_cut [63] (fun s wx => s = .bool false ∧ wx = w.alloc (.cells #[.int .i64 idx, .int .i64 par, .string name, .string orig, .string sub, .string drv, .string ali, .int .i64 kind, .int .i64 num, .slice ad l.length cc] 34))
 case first =>
  go_wp2_with fail
  refine (V1.out _).mono ?_
  rintro e W ⟨rfl, rfl⟩
  go_wp2_with fail
  refine (V2.out _).mono ?_
  rintro e W ⟨rfl, rfl⟩
  go_wp2_with fail
  refine (V3.out _).mono ?_
  rintro e W ⟨rfl, rfl⟩
  have he := HE.out
  clear HE
  cases x6 with
  | true =>
   go_wp2_with fail
   refine (V5.out _).mono ?_
   rintro e W ⟨rfl, rfl⟩
   go_wp2
   go_meet
   exact ⟨rfl, rfl⟩
  | false =>
   obtain rfl := h64 rfl
   go_wp2_with fail
   refine (V4.out _).mono ?_
   rintro e W ⟨rfl, rfl⟩
   go_wp2_with fail
   refine (V5.out _).mono ?_
   rintro e W ⟨rfl, rfl⟩
   go_wp2
   go_meet
   exact ⟨rfl, rfl⟩
 case rest =>
 obtain ⟨rfl, rfl⟩ := hcut
 clear HE V1 V2 V3 V4 V5 h64
 have k1 : ¬ kind < 1 := fun e => by have := HK1.out (Or.inl e); simp at this
 have k4 : ¬ (4 : Int) < kind := fun e => by have := HK1.out (Or.inr e); simp at this
 go_upto_region 7 with fail
 go_cut [98] (fun s wx => s = .bool false ∧ wx = w.alloc (.cells #[.int .i64 idx, .int .i64 par, .string name, .string orig, .string sub, .string drv, .string ali, .int .i64 kind, .int .i64 num, .slice ad l.length cc] 34))
 case first =>
  by_cases kq : kind = 4
  ·have hk := HK2.out kq
   obtain rfl : y1 = true := by cases y1 <;> simp at hk ⊢
   obtain rfl : y2 = true := by cases y2 <;> simp at hk ⊢
   have kq' : (kind == 4) = true := by rw [kq]; rfl
   have kqn : (kind != 4) = false := by rw [bne, kq']; rfl
   clear hk kq
   go_wp2_with fail
   refine (I1.out _).mono ?_
   rintro e W ⟨rfl, rfl⟩
   go_wp2_with fail
   refine (I2.out _).mono ?_
   rintro e W ⟨rfl, rfl⟩
   go_wp2
   go_meet
   exact ⟨rfl, rfl⟩
  ·have hk := HK3.out (by omega) (by omega) kq
   have kq' : (kind == 4) = false := beq_eq_false_iff_ne.2 kq
   have kqn : (kind != 4) = true := by rw [bne, kq']; rfl
   obtain rfl : name = orig := by simpa using hk.symm
   clear hk kq
   go_wp2
   go_meet
   exact ⟨rfl, rfl⟩
 case rest =>
 obtain ⟨rfl, rfl⟩ := hcut
 clear HK1 HK2 HK3 I1 I2 k1 k4
 go_wp2_with fail
 refine (N1.out _ Hb0.out).mono ?_
 rintro e W2 ⟨rfl, hb⟩
 have HY := Lib.hid hb
 have Hb2 := Lib.hid (Hb0.out.trans (hb.mono Hb0.out.size))
 clear hb N1
 have c8 := box_cell HY.out 8
 have c9 := box_cell HY.out 9
 simp only [List.getElem?_toArray, List.getElem?_cons_zero, List.getElem?_cons_succ] at c8 c9
 go_upto_region 10 with fail
 go_cut [123] (fun s wx => s = .bool (!b4) ∧ W2 = wx)
 case first =>
  cases nb with
  | true =>
   have hn := HN.out
   simp only [reduceIte] at hn
   have Hn := Lib.hid hn
   clear hn HN
   by_cases q1 : num < 1
   ·have E1 := Lib.hid (show b4 = false from by rw [Hn.out, decide_eq_true q1]; rfl)
    go_wp2
    go_meet
    exact ⟨by rw [E1.out]; rfl, rfl⟩
   by_cases q2 : (1073741824 : Int) < num
   ·have E1 := Lib.hid (show b4 = false from by rw [Hn.out, decide_eq_false q1, decide_eq_true q2]; rfl)
    go_wp2
    go_meet
    exact ⟨by rw [E1.out]; rfl, rfl⟩
   have E1 := Lib.hid (show b4 = true from by rw [Hn.out, decide_eq_false q1, decide_eq_false q2]; rfl)
   go_wp2
   go_meet
   exact ⟨by rw [E1.out]; rfl, rfl⟩
  | false =>
   have hn := HN.out
   simp only [reduceIte, Bool.false_eq_true] at hn
   have Hn := Lib.hid hn
   clear hn HN
   go_wp2
   go_meet
   exact ⟨by rw [Hn.out]; rfl, rfl⟩
 case rest =>
 obtain ⟨rfl, rfl⟩ := hcut
 have hR1 := HR.out
 clear HR HN
 cases b4 with
 | false =>
  simp only [reduceIte] at hR1
  subst hR1
  go_wp2
  go_ret
  exact ⟨rfl, Hb2.out⟩
 | true =>
 simp only [reduceIte, Bool.true_eq_false] at hR1
 by_cases h24 : 24 < l.length
 ·have h24i : (24 : Int) < (l.length : Int) := by omega
  rw [if_pos h24] at hR1
  subst hR1
  go_wp2
  go_ret
  exact ⟨rfl, Hb2.out⟩
 have h24i : ¬ (24 : Int) < (l.length : Int) := by omega
 rw [if_neg h24] at hR1
 have HR := Lib.hid hR1
 clear hR1
 go_wp2
 go_loop [5] (fun s5 => ∃ i : Nat, i ≤ l.length ∧ s5 = .int .i64 (i : Int) ∧ (l.take i).any wrongA = false) (fun s5 => l.length - (intOf s5).toNat)
 case atStart => exact ⟨0, by omega, rfl, rfl⟩
 case round =>
  obtain ⟨i, hi, rfl, hall⟩ := hrel
  have Hall := Lib.hid hall
  clear hall
  by_cases hlt : i < l.length
  ·have hiz : (i : Int) < (l.length : Int) := by omega
   obtain ⟨x, hx⟩ : ∃ x, l[i]? = some x := ⟨_, List.getElem?_eq_getElem hlt⟩
   have hxm : x ∈ l := List.mem_of_getElem? hx
   obtain ⟨b, o, hado, hbl, hr⟩ := HW.out (fun e => by rw [e] at hlt; simp at hlt)
   subst hado
   obtain ⟨e0, e1⟩ := hr i x hx
   have hlt2 : b < W2.heap.size := Nat.lt_of_lt_of_le hbl Hb2.out.size
   have e0 := (Hb2.out.cell (p := ⟨b, o + i * 2, none⟩) hbl).trans e0
   have e1 := (Hb2.out.cell (p := ⟨b, o + i * 2 + 1, none⟩) hbl).trans e1
   have hany : (l.take (i + 1)).any wrongA = wrongA x := by
    rw [List.take_add_one, hx, List.any_append, Hall.out]
    simp
   have hbad : wrongA x = true → b5 = false := fun hw => by
    rw [HA.out, List.any_eq_true.2 ⟨x, hxm, hw⟩]
    simp
   have hw : wrongA x = (!validB x.1 || (empB x.2 || !txtB x.2)) := rfl
   have hemp := empF x.2
   have w1 := fun W => U1.out x W hxm
   have w2 := fun W => U2.out x W hxm
   obtain ⟨xn, xv⟩ := x
   simp only at e0 e1 hw hemp w1 w2
   generalize validB xn = z1 at *
   generalize empB xv = z2 at *
   generalize txtB xv = z3 at *
   have Hany := Lib.hid hany
   have Hbad := Lib.hid hbad
   have Hw := Lib.hid hw
   have W1 := Lib.hid w1
   have W3 := Lib.hid w2
   clear hany hbad hw w1 w2 hr hx hxm hbl
   have hfin : ∀ w', wrongA (xn, xv) = true → Below w.heap.size w w' → Bel (.int .i64 R) w (.returned (.int .i64 33)) w' := fun w' h1 h2 => by
    have hR1 := HR.out
    rw [Hbad.out h1] at hR1
    simp only [reduceIte] at hR1
    subst hR1
    exact ⟨rfl, h2⟩
   have Hfin := Lib.hid hfin
   clear hfin
   go_wp2_with fail
   refine (W1.out _).mono ?_
   rintro e W ⟨rfl, rfl⟩
   cases z1 with
   | false =>
    go_wp2
    go_ret
    exact Hfin.out _ (by rw [Hw.out]; rfl) Hb2.out
   | true =>
    go_wp2_with fail
    refine (W3.out _).mono ?_
    rintro e W ⟨rfl, rfl⟩
    cases z3 with
    | false =>
     go_wp2
     go_ret
     exact Hfin.out _ (by rw [Hw.out]; cases z2 <;> rfl) Hb2.out
    | true =>
     cases z2 with
     | true =>
      go_wp2
      go_ret
      exact Hfin.out _ (by rw [Hw.out]; rfl) Hb2.out
     | false =>
      go_wp2
      go_round
      case rel => exact ⟨i + 1, by omega, rfl, by rw [Hany.out, Hw.out]; rfl⟩
      case measure => simp [intOf]; omega
  ·obtain rfl : i = l.length := by omega
   have hb5 : b5 = sb := by
    have := Hall.out
    rw [List.take_length] at this
    rw [HA.out, this]
    simp
   have hR1 := HR.out
   rw [hb5] at hR1
   have HR := Lib.hid hR1
   clear hb5 hR1
   go_wp2_with fail
   refine (S1.out _ Hb2.out).mono ?_
   rintro e W4 ⟨rfl, hb4⟩
   have Hb4 := Lib.hid (Hb2.out.trans (hb4.mono Hb2.out.size))
   clear hb4
   have hR1 := HR.out
   cases sb with
   | false =>
    simp only [reduceIte] at hR1
    subst hR1
    go_wp2
    go_ret
    exact ⟨rfl, Hb4.out⟩
   | true =>
    simp only [reduceIte, Bool.true_eq_false] at hR1
    have hd := HD.out
    cases nb with
    | false =>
     rw [hd] at hR1
     simp only [Bool.not_false, Bool.true_or, Bool.true_eq_false, reduceIte] at hR1
     subst hR1
     go_wp2
     go_ret
     exact ⟨rfl, Hb4.out⟩
    | true =>
     have hx := HX.out
     simp only [reduceIte] at hx
     subst hx
     rw [hd] at hR1
     simp only [Bool.not_true, Bool.false_or] at hR1
     have k1 := K1.out
     have HR := Lib.hid hR1
     generalize lnkB (nodeOf orig) = lb at *
     clear hR1 hd
     have K1 := Lib.hid k1
     clear k1
     go_wp2_with fail
     refine (K1.out _ Hb4.out).mono ?_
     rintro e W5 ⟨rfl, hb5⟩
     have Hb5 := Lib.hid (Hb4.out.trans (hb5.mono Hb4.out.size))
     clear hb5
     have hR1 := HR.out
     cases lb with
     | false =>
      simp only [reduceIte] at hR1
      subst hR1
      go_wp2
      go_ret
      exact ⟨rfl, Hb5.out⟩
     | true =>
      simp only [reduceIte, Bool.true_eq_false] at hR1
      subst hR1
      go_wp2
      go_ret
      exact ⟨rfl, Hb5.out⟩
theorem refCheck_any (d : Dev) (l : List Atr) (w : World) (hl : l.length ≤ 9223372036854775807) (h : Has w d.av l) (hs : Sized d l) (hm : Max w) : Calls Tryz.prog 55 #[devV d] w (Bel (.int .i64 (checkE d l)) w) := by
 cases h1 : placeB d with
 | false => exact refCheck_early d l w hl h hs hm (Or.inl h1)
 | true =>
  cases h2 : textsB d with
  | false => exact refCheck_early d l w hl h hs hm (Or.inr h2)
  | true =>
   cases h3 : kindB d with
   | false => exact refCheck_kind d l w hl h hs hm h1 h2 h3
   | true => exact refCheck_late d l w hl h hs hm h1 h2 h3
end Go.Proofs.YtldcediiobfhiaaGreatDoor.De
