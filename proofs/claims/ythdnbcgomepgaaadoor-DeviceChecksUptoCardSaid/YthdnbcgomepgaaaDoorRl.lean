/- The reference's Check of a device: a wrong kind. -/
import Derived.Test.YthdnbcgomepgaaaDoorRk
namespace Go.Proofs.YthdnbcgomepgaaaDoor
open Go.RowKit

set_option maxHeartbeats 4000000 in
set_option maxRecDepth 100000 in
theorem refCheck_kind (d : Dev) (l : List Atr) (w : World) (hl : l.length ≤ 9223372036854775807) (h : Has w d.av l) (hs : Sized d l) (hm : Max w) (hb1 : placeB d = true) (hb2 : textsB d = true) (hb3 : kindB d = false) : Calls Tryd.prog 13 #[devV d] w (Bel (.int .i64 (checkE d l)) w) := by
  have v1 := fun W => refValidC d.name W hs.nm
  have v2 := fun W => refValidC d.orig W hs.og
  have v3 := fun W => refValidC d.sub W hs.sb
  have v4 := fun W => refValidC d.drv W hs.dr
  have v5 := fun W => refTextC d.ali W hs.al
  have i1 := fun W => refIfaceC d.name W hs.nm
  have i2 := fun W => refIfaceC d.orig W hs.og
  have n1 := fun W (hb : Below w.heap.size w W) => refNode_any d W (by have := hs.og; omega) (hm.below hb)
  have k1 := fun W (hb : Below w.heap.size w W) => refLinkC (nodeOf d.orig) W (by have := nodeOf_size d.orig; have := hs.og; omega) (hm.below hb)
  have s1 := fun W (hb : Below w.heap.size w W) => refSorted_any d.av l W hl (h.below hb)
  have u1 := fun (x : Atr) W (hx : x ∈ l) => refValidC x.1 W (hs.at_ x hx).1
  have u2 := fun (x : Atr) W (hx : x ∈ l) => refTextC x.2 W (hs.at_ x hx).2
  have he := empF d.drv
  have hP := place_iff d
  have hN := num_iff d
  have hK1 := kind_low d
  have hK2 := kind_four d
  have hK3 := kind_other d
  have hT : textsB d = (validB d.name && (validB d.orig && (validB d.sub && ((empB d.drv || validB d.drv) && txtB d.ali)))) := rfl
  have hA : attrB l = (srtB l && !l.any wrongA) := rfl
  have hD : nodB d = (!hasN d.kind || lnkB (nodeOf d.orig)) := rfl
  obtain ⟨ad, cc, hav, hrow⟩ := h.form
  obtain ⟨R, hR⟩ : ∃ R, checkE d l = R := ⟨_, rfl⟩
  rw [hR]
  unfold checkE at hR
  clear hs hm h
  obtain ⟨idx, par, name, orig, sub, drv, ali, kind, num, av⟩ := d
  simp only at hav
  subst hav
  unfold nodeR at n1
  unfold devV devC at *
  simp only at hb1 hb2 hb3 v1 v2 v3 v4 v5 i1 i2 n1 k1 s1 he hP hN hK1 hK2 hK3 hT hD hR ⊢
  generalize placeB _ = b1 at *
  generalize textsB _ = b2 at *
  generalize kindB _ = b3 at *
  generalize numB _ = b4 at *
  generalize attrB l = b5 at *
  generalize nodB _ = b6 at *
  generalize validB name = x1 at *
  generalize validB orig = x2 at *
  generalize validB sub = x3 at *
  generalize validB drv = x4 at *
  generalize txtB ali = x5 at *
  generalize empB drv = x6 at *
  generalize ifcB name = y1 at *
  generalize ifcB orig = y2 at *
  generalize hasN kind = nb at *
  generalize srtB l = sb at *
  obtain ⟨X, hX⟩ : ∃ X, (if nb = true then nodeOf orig else (⟨#[]⟩ : ByteArray)) = X := ⟨_, rfl⟩
  rw [hX] at n1
  have V1 := Lib.hid v1
  have V2 := Lib.hid v2
  have V3 := Lib.hid v3
  have V4 := Lib.hid v4
  have V5 := Lib.hid v5
  have I1 := Lib.hid i1
  have I2 := Lib.hid i2
  have N1 := Lib.hid n1
  have K1 := Lib.hid k1
  have S1 := Lib.hid s1
  have U1 := Lib.hid u1
  have U2 := Lib.hid u2
  have HP := Lib.hid hP
  have HN := Lib.hid hN
  have HK1 := Lib.hid hK1
  have HK2 := Lib.hid hK2
  have HK3 := Lib.hid hK3
  have HT := Lib.hid hT
  have HA := Lib.hid hA
  have HD := Lib.hid hD
  have HX := Lib.hid hX
  have HR := Lib.hid hR
  have HE := Lib.hid he
  have HW := Lib.hid hrow
  clear v1 v2 v3 v4 v5 i1 i2 n1 k1 s1 u1 u2 hP hN hK1 hK2 hK3 hT hA hD hX hR he hrow
  have hR1 := HR.out
  rw [hb1, hb2] at hR1
  simp only [reduceIte, Bool.true_eq_false] at hR1
  subst hb1
  subst hb2
  clear HR
  have HR := Lib.hid hR1
  clear hR1
  have hb0 := box_below w (.cells #[.int .i64 idx, .int .i64 par, .string name, .string orig, .string sub, .string drv, .string ali, .int .i64 kind, .int .i64 num, .slice ad l.length cc] 24)
  have Hb0 := Lib.hid hb0
  go_enter Tryd.func13, Tryd.ntmps13
  have hp := HP.out
  have q1 : ¬ idx < 1 := fun e => by rw [decide_eq_true e] at hp; simp at hp
  have q2 : ¬ (1073741824 : Int) < idx := fun e => by rw [decide_eq_true e] at hp; simp at hp
  have q3 : ¬ par < 0 := fun e => by rw [decide_eq_true e] at hp; simp at hp
  have q4 : ¬ (1073741824 : Int) < par := fun e => by rw [decide_eq_true e] at hp; simp at hp
  have q5' : (par == idx) = false := by
    cases e : (par == idx) with
    | false => rfl
    | true => rw [e] at hp; simp at hp
  clear hp HP
  have ht := HT.out
  obtain rfl : x1 = true := by cases x1 <;> simp at ht ⊢
  obtain rfl : x2 = true := by cases x2 <;> simp at ht ⊢
  obtain rfl : x3 = true := by cases x3 <;> simp at ht ⊢
  obtain rfl : x5 = true := by cases x5 <;> simp at ht ⊢
  have h64 : x6 = false → x4 = true := fun e => by subst e; cases x4 <;> simp at ht ⊢
  clear ht HT
  go_upto_region 3 with fail
  clear q1 q2 q3 q4 q5'
  go_cut [63] (fun s wx => s = .bool false ∧ wx = w.alloc (.cells #[.int .i64 idx, .int .i64 par, .string name, .string orig, .string sub, .string drv, .string ali, .int .i64 kind, .int .i64 num, .slice ad l.length cc] 24))
  case first =>
    go_wp2_with fail
    refine (V1.out _).mono ?_
    rintro e W ⟨rfl, rfl⟩
    go_wp2_with fail
    refine (V2.out _).mono ?_
    rintro e W ⟨rfl, rfl⟩
    go_wp2_with fail
    refine (V3.out _).mono ?_
    rintro e W ⟨rfl, rfl⟩
    have he := HE.out
    clear HE
    cases x6 with
    | true =>
      go_wp2_with fail
      refine (V5.out _).mono ?_
      rintro e W ⟨rfl, rfl⟩
      go_wp2
      go_meet
      exact ⟨rfl, rfl⟩
    | false =>
      obtain rfl := h64 rfl
      go_wp2_with fail
      refine (V4.out _).mono ?_
      rintro e W ⟨rfl, rfl⟩
      go_wp2_with fail
      refine (V5.out _).mono ?_
      rintro e W ⟨rfl, rfl⟩
      go_wp2
      go_meet
      exact ⟨rfl, rfl⟩
  case rest =>
  obtain ⟨rfl, rfl⟩ := hcut
  clear HE V1 V2 V3 V4 V5 h64
  by_cases k1 : kind < 1
  · have hR1 := HR.out
    have hk := HK1.out (Or.inl k1)
    subst hk
    simp only [reduceIte] at hR1
    subst hR1
    go_wp2
    go_ret
    exact ⟨rfl, Hb0.out⟩
  by_cases k4 : (4 : Int) < kind
  · have hR1 := HR.out
    have hk := HK1.out (Or.inr k4)
    subst hk
    simp only [reduceIte] at hR1
    subst hR1
    go_wp2
    go_ret
    exact ⟨rfl, Hb0.out⟩
  go_upto_region 7 with fail
  go_cut [98] (fun s wx => s = .bool (!b3) ∧ wx = w.alloc (.cells #[.int .i64 idx, .int .i64 par, .string name, .string orig, .string sub, .string drv, .string ali, .int .i64 kind, .int .i64 num, .slice ad l.length cc] 24))
  case first =>
    by_cases kq : kind = 4
    · have hk := HK2.out kq
      have Hk := Lib.hid hk
      have kq' : (kind == 4) = true := by rw [kq]; rfl
      have kqn : (kind != 4) = false := by rw [bne, kq']; rfl
      clear hk kq
      go_wp2_with fail
      refine (I1.out _).mono ?_
      rintro e W ⟨rfl, rfl⟩
      cases y1 with
      | false =>
        go_wp2
        go_meet
        exact ⟨by rw [Hk.out]; rfl, rfl⟩
      | true =>
        go_wp2_with fail
        refine (I2.out _).mono ?_
        rintro e W ⟨rfl, rfl⟩
        cases y2 with
        | false =>
          go_wp2
          go_meet
          exact ⟨by rw [Hk.out]; rfl, rfl⟩
        | true =>
          go_wp2
          go_meet
          exact ⟨by rw [Hk.out]; rfl, rfl⟩
    · have hk := HK3.out (by omega) (by omega) kq
      have Hk := Lib.hid hk
      have kq' : (kind == 4) = false := beq_eq_false_iff_ne.2 kq
      have kqn : (kind != 4) = true := by rw [bne, kq']; rfl
      clear hk kq
      by_cases hq : name = orig
      · subst hq
        go_wp2
        go_meet
        exact ⟨by rw [Hk.out]; simp, rfl⟩
      · have hq' := str_ne hq
        have hk2 := Hk.out
        rw [decide_eq_false hq] at hk2
        subst hk2
        clear hq
        go_wp2
        go_meet
        exact ⟨rfl, rfl⟩
  case rest =>
  obtain ⟨rfl, rfl⟩ := hcut
  have hR1 := HR.out
  clear HR HK1 HK2 HK3 I1 I2 k1 k4
  cases b3 with
  | false =>
    simp only [reduceIte] at hR1
    subst hR1
    go_wp2
    go_ret
    exact ⟨rfl, Hb0.out⟩
  | true => simp at hb3
end Go.Proofs.YthdnbcgomepgaaaDoor
