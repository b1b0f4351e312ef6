/- The reference's Check of a device. -/
import Derived.Test.YthdnbcgomepgaaaDoorNo
import Derived.Deep.DeepCutAuto
namespace Go.Proofs.YthdnbcgomepgaaaDoor
open Go.RowKit

theorem refValidC (s : ByteArray) (w : World) (hs : s.size ≤ 4000000000) : Calls Tryd.prog 39 #[.string s] w fun e w' => e = .returned (.bool (validB s)) ∧ w' = w := Nm.refValid_any s w (by omega)
theorem refTextC (s : ByteArray) (w : World) (hs : s.size ≤ 4000000000) : Calls Tryd.prog 40 #[.string s] w fun e w' => e = .returned (.bool (txtB s)) ∧ w' = w := Nm.refText_any s w (by omega)
theorem refIfaceC (s : ByteArray) (w : World) (hs : s.size ≤ 4000000000) : Calls Tryd.prog 41 #[.string s] w fun e w' => e = .returned (.bool (ifcB s)) ∧ w' = w := Nm.refInterface_any s w (by omega)
theorem refLinkC (s : ByteArray) (w : World) (hs : s.size ≤ 4000000000) (hm : Max w) : Calls Tryd.prog 42 #[.string s] w (Bel (.bool (lnkB s)) w) := by
  obtain ⟨m, hm⟩ := hm
  exact Nm.refLink_any s m w (by omega) hm

theorem place_iff (d : Dev) : placeB d = !(decide (d.idx < 1) || (decide (1073741824 < d.idx) || (decide (d.par < 0) || (decide (1073741824 < d.par) || d.par == d.idx)))) := by
  unfold placeB isNum
  rw [Bool.eq_iff_iff]
  simp only [Bool.and_eq_true, Bool.or_eq_true, Bool.not_eq_true', Bool.or_eq_false_iff, decide_eq_true_eq, decide_eq_false_iff_not, beq_iff_eq, beq_eq_false_iff_ne]
  omega
theorem num_iff (d : Dev) : numB d = if hasN d.kind then !(decide (d.num < 1) || decide (1073741824 < d.num)) else d.num == 0 := by
  unfold numB isNum
  split
  · rw [Bool.eq_iff_iff]
    simp only [Bool.and_eq_true, Bool.not_eq_true', Bool.or_eq_false_iff, decide_eq_true_eq, decide_eq_false_iff_not]
    omega
  · rfl
/-- The kinds that are none, as the reference asks first. -/
theorem kind_low (d : Dev) (h : d.kind < 1 ∨ 4 < d.kind) : kindB d = false := by
  unfold kindB hasN
  rw [if_neg (by omega)]
  have h1 : (d.kind == 1) = false := beq_eq_false_iff_ne.2 (by omega)
  have h2 : (d.kind == 2) = false := beq_eq_false_iff_ne.2 (by omega)
  have h3 : (d.kind == 3) = false := beq_eq_false_iff_ne.2 (by omega)
  rw [h1, h2, h3]
  rfl
theorem kind_four (d : Dev) (h : d.kind = 4) : kindB d = (ifcB d.name && ifcB d.orig) := by
  unfold kindB
  rw [if_pos h]
theorem kind_other (d : Dev) (h1 : 1 ≤ d.kind) (h2 : d.kind ≤ 4) (h : d.kind ≠ 4) : kindB d = decide (d.name = d.orig) := by
  unfold kindB hasN
  rw [if_neg h]
  have : (d.kind == 1 || (d.kind == 2 || d.kind == 3)) = true := by
    simp only [Bool.or_eq_true, beq_iff_eq]
    omega
  rw [this, Bool.true_and]

set_option maxHeartbeats 4000000 in
set_option maxRecDepth 100000 in
theorem refCheck_early (d : Dev) (l : List Atr) (w : World) (hl : l.length ≤ 9223372036854775807) (h : Has w d.av l) (hs : Sized d l) (hm : Max w) (hb : placeB d = false ∨ textsB d = false) : Calls Tryd.prog 13 #[devV d] w (Bel (.int .i64 (checkE d l)) w) := by
  have v1 := fun W => refValidC d.name W hs.nm
  have v2 := fun W => refValidC d.orig W hs.og
  have v3 := fun W => refValidC d.sub W hs.sb
  have v4 := fun W => refValidC d.drv W hs.dr
  have v5 := fun W => refTextC d.ali W hs.al
  have i1 := fun W => refIfaceC d.name W hs.nm
  have i2 := fun W => refIfaceC d.orig W hs.og
  have n1 := fun W (hb : Below w.heap.size w W) => refNode_any d W (by have := hs.og; omega) (hm.below hb)
  have k1 := fun W (hb : Below w.heap.size w W) => refLinkC (nodeOf d.orig) W (by have := nodeOf_size d.orig; have := hs.og; omega) (hm.below hb)
  have s1 := fun W (hb : Below w.heap.size w W) => refSorted_any d.av l W hl (h.below hb)
  have u1 := fun (x : Atr) W (hx : x ∈ l) => refValidC x.1 W (hs.at_ x hx).1
  have u2 := fun (x : Atr) W (hx : x ∈ l) => refTextC x.2 W (hs.at_ x hx).2
  have he := empF d.drv
  have hP := place_iff d
  have hN := num_iff d
  have hK1 := kind_low d
  have hK2 := kind_four d
  have hK3 := kind_other d
  have hT : textsB d = (validB d.name && (validB d.orig && (validB d.sub && ((empB d.drv || validB d.drv) && txtB d.ali)))) := rfl
  have hA : attrB l = (srtB l && !l.any wrongA) := rfl
  have hD : nodB d = (!hasN d.kind || lnkB (nodeOf d.orig)) := rfl
  obtain ⟨ad, cc, hav, hrow⟩ := h.form
  obtain ⟨R, hR⟩ : ∃ R, checkE d l = R := ⟨_, rfl⟩
  rw [hR]
  unfold checkE at hR
  clear hs hm h
  obtain ⟨idx, par, name, orig, sub, drv, ali, kind, num, av⟩ := d
  simp only at hav
  subst hav
  unfold nodeR at n1
  unfold devV devC at *
  simp only at hb v1 v2 v3 v4 v5 i1 i2 n1 k1 s1 he hP hN hK1 hK2 hK3 hT hD hR ⊢
  generalize placeB _ = b1 at *
  generalize textsB _ = b2 at *
  generalize kindB _ = b3 at *
  generalize numB _ = b4 at *
  generalize attrB l = b5 at *
  generalize nodB _ = b6 at *
  generalize validB name = x1 at *
  generalize validB orig = x2 at *
  generalize validB sub = x3 at *
  generalize validB drv = x4 at *
  generalize txtB ali = x5 at *
  generalize empB drv = x6 at *
  generalize ifcB name = y1 at *
  generalize ifcB orig = y2 at *
  generalize hasN kind = nb at *
  generalize srtB l = sb at *
  obtain ⟨X, hX⟩ : ∃ X, (if nb = true then nodeOf orig else (⟨#[]⟩ : ByteArray)) = X := ⟨_, rfl⟩
  rw [hX] at n1
  have V1 := Lib.hid v1
  have V2 := Lib.hid v2
  have V3 := Lib.hid v3
  have V4 := Lib.hid v4
  have V5 := Lib.hid v5
  have I1 := Lib.hid i1
  have I2 := Lib.hid i2
  have N1 := Lib.hid n1
  have K1 := Lib.hid k1
  have S1 := Lib.hid s1
  have U1 := Lib.hid u1
  have U2 := Lib.hid u2
  have HP := Lib.hid hP
  have HN := Lib.hid hN
  have HK1 := Lib.hid hK1
  have HK2 := Lib.hid hK2
  have HK3 := Lib.hid hK3
  have HT := Lib.hid hT
  have HA := Lib.hid hA
  have HD := Lib.hid hD
  have HX := Lib.hid hX
  have HR := Lib.hid hR
  have HE := Lib.hid he
  have HW := Lib.hid hrow
  clear v1 v2 v3 v4 v5 i1 i2 n1 k1 s1 u1 u2 hP hN hK1 hK2 hK3 hT hA hD hX hR he hrow
  have hb0 := box_below w (.cells #[.int .i64 idx, .int .i64 par, .string name, .string orig, .string sub, .string drv, .string ali, .int .i64 kind, .int .i64 num, .slice ad l.length cc] 24)
  have Hb0 := Lib.hid hb0
  go_enter Tryd.func13, Tryd.ntmps13
  go_upto_region 1 with fail
  go_cut [30] (fun s wx => s = .bool (!b1) ∧ wx = w.alloc (.cells #[.int .i64 idx, .int .i64 par, .string name, .string orig, .string sub, .string drv, .string ali, .int .i64 kind, .int .i64 num, .slice ad l.length cc] 24))
  case first =>
    by_cases q1 : idx < 1
    · have E1 := Lib.hid (show b1 = false from by rw [HP.out, decide_eq_true q1]; rfl)
      go_wp2
      go_meet
      exact ⟨by rw [E1.out]; rfl, rfl⟩
    by_cases q2 : (1073741824 : Int) < idx
    · have E1 := Lib.hid (show b1 = false from by rw [HP.out, decide_eq_false q1, decide_eq_true q2]; rfl)
      go_wp2
      go_meet
      exact ⟨by rw [E1.out]; rfl, rfl⟩
    by_cases q3 : par < 0
    · have E1 := Lib.hid (show b1 = false from by rw [HP.out, decide_eq_false q1, decide_eq_false q2, decide_eq_true q3]; rfl)
      go_wp2
      go_meet
      exact ⟨by rw [E1.out]; rfl, rfl⟩
    by_cases q4 : (1073741824 : Int) < par
    · have E1 := Lib.hid (show b1 = false from by rw [HP.out, decide_eq_false q1, decide_eq_false q2, decide_eq_false q3, decide_eq_true q4]; rfl)
      go_wp2
      go_meet
      exact ⟨by rw [E1.out]; rfl, rfl⟩
    by_cases q5 : par = idx
    · subst q5
      have E1 := Lib.hid (show b1 = false from by rw [HP.out, decide_eq_false q1, decide_eq_false q2, decide_eq_false q3]; simp)
      go_wp2
      go_meet
      exact ⟨by rw [E1.out]; rfl, rfl⟩
    have q5' : (par == idx) = false := beq_eq_false_iff_ne.2 q5
    have E1 := Lib.hid (show b1 = true from by rw [HP.out, decide_eq_false q1, decide_eq_false q2, decide_eq_false q3, decide_eq_false q4, q5']; rfl)
    go_wp2
    go_meet
    exact ⟨by rw [E1.out]; rfl, rfl⟩
  case rest =>
  obtain ⟨rfl, rfl⟩ := hcut
  have hR1 := HR.out
  clear HR HP
  cases b1 with
  | false =>
    simp only [reduceIte] at hR1
    subst hR1
    go_wp2
    go_ret
    exact ⟨rfl, Hb0.out⟩
  | true =>
  simp only [reduceIte, Bool.true_eq_false] at hR1
  have HR := Lib.hid hR1
  clear hR1
  go_upto_region 3 with fail
  go_cut [63] (fun s wx => s = .bool (!b2) ∧ wx = w.alloc (.cells #[.int .i64 idx, .int .i64 par, .string name, .string orig, .string sub, .string drv, .string ali, .int .i64 kind, .int .i64 num, .slice ad l.length cc] 24))
  case first =>
    go_wp2_with fail
    refine (V1.out _).mono ?_
    rintro e W ⟨rfl, rfl⟩
    cases x1 with
    | false =>
      go_wp2
      go_meet
      exact ⟨by rw [HT.out]; rfl, rfl⟩
    | true =>
      go_wp2_with fail
      refine (V2.out _).mono ?_
      rintro e W ⟨rfl, rfl⟩
      cases x2 with
      | false =>
        go_wp2
        go_meet
        exact ⟨by rw [HT.out]; rfl, rfl⟩
      | true =>
        go_wp2_with fail
        refine (V3.out _).mono ?_
        rintro e W ⟨rfl, rfl⟩
        cases x3 with
        | false =>
          go_wp2
          go_meet
          exact ⟨by rw [HT.out]; rfl, rfl⟩
        | true =>
          have he := HE.out
          clear HE
          cases x6 with
          | true =>
            go_wp2_with fail
            refine (V5.out _).mono ?_
            rintro e W ⟨rfl, rfl⟩
            cases x5 with
            | false =>
              go_wp2
              go_meet
              exact ⟨by rw [HT.out]; rfl, rfl⟩
            | true =>
              go_wp2
              go_meet
              exact ⟨by rw [HT.out]; rfl, rfl⟩
          | false =>
            go_wp2_with fail
            refine (V4.out _).mono ?_
            rintro e W ⟨rfl, rfl⟩
            cases x4 with
            | false =>
              go_wp2
              go_meet
              exact ⟨by rw [HT.out]; rfl, rfl⟩
            | true =>
              go_wp2_with fail
              refine (V5.out _).mono ?_
              rintro e W ⟨rfl, rfl⟩
              cases x5 with
              | false =>
                go_wp2
                go_meet
                exact ⟨by rw [HT.out]; rfl, rfl⟩
              | true =>
                go_wp2
                go_meet
                exact ⟨by rw [HT.out]; rfl, rfl⟩
  case rest =>
  obtain ⟨rfl, rfl⟩ := hcut
  have hR1 := HR.out
  clear HR HT HE V1 V2 V3 V4 V5
  cases b2 with
  | false =>
    simp only [reduceIte] at hR1
    subst hR1
    go_wp2
    go_ret
    exact ⟨rfl, Hb0.out⟩
  | true => simp at hb
end Go.Proofs.YthdnbcgomepgaaaDoor
