/- device.Check: its parts and the whole. -/
import Derived.Test.YthdnbcgomepgaaaDoorI
import Derived.Test.YthdnbcgomepgaaaDoorNT
import Derived.Test.YthdnbcgomepgaaaDoorNS
import Derived.Lib.IndexMore
namespace Go.Proofs.YthdnbcgomepgaaaDoor
open Go.RowKit

def validB (s : ByteArray) : Bool := Nm.nameB Nm.NameSet s.data.toList
def txtB (s : ByteArray) : Bool := Nm.textB s.data.toList
def ifcB (s : ByteArray) : Bool := Nm.ifaceB s.data.toList
def lnkB (s : ByteArray) : Bool := Nm.linkB s.data.toList
def isNum (n : Int) : Bool := decide (1 ≤ n) && decide (n ≤ 1073741824)
def empB (s : ByteArray) : Bool := decide (s = ⟨#[]⟩)
def placeB (d : Dev) : Bool := isNum d.idx && ((d.par == 0 || isNum d.par) && !(d.par == d.idx))
def textsB (d : Dev) : Bool := validB d.name && (validB d.orig && (validB d.sub && ((empB d.drv || validB d.drv) && txtB d.ali)))
def kindB (d : Dev) : Bool := if d.kind = 4 then ifcB d.name && ifcB d.orig else (d.kind == 1 || hasN d.kind) && decide (d.name = d.orig)
def numB (d : Dev) : Bool := if hasN d.kind then isNum d.num else d.num == 0
def wrongA (a : Atr) : Bool := !validB a.1 || (empB a.2 || !txtB a.2)
def attrB (l : List Atr) : Bool := srtB l && !l.any wrongA
def nodB (d : Dev) : Bool := !hasN d.kind || lnkB (nodeOf d.orig)
def checkE (d : Dev) (l : List Atr) : Int :=
  if placeB d = false then 32 else if textsB d = false then 30 else if kindB d = false then 31 else if numB d = false then 32
  else if 24 < l.length then 34 else if attrB l = false then 33 else if nodB d = false then 30 else 0

/-- Texts of moderate length. -/
structure Sized (d : Dev) (l : List Atr) : Prop where
  nm : d.name.size ≤ 4000000000
  og : d.orig.size ≤ 4000000000
  sb : d.sub.size ≤ 4000000000
  dr : d.drv.size ≤ 4000000000
  al : d.ali.size ≤ 4000000000
  at_ : ∀ a ∈ l, a.1.size ≤ 4000000000 ∧ a.2.size ≤ 4000000000

theorem validC (s : ByteArray) (w : World) (hs : s.size ≤ 4000000000) : Calls Tryd.prog 58 #[.string s] w (Bel (.bool (validB s)) w) := Nm.valid_any s w (by omega)
theorem textC (s : ByteArray) (w : World) (hs : s.size ≤ 4000000000) : Calls Tryd.prog 59 #[.string s] w (Bel (.bool (txtB s)) w) := Nm.text_any s w (by omega)
theorem ifaceC (s : ByteArray) (w : World) (hs : s.size ≤ 4000000000) : Calls Tryd.prog 60 #[.string s] w (Bel (.bool (ifcB s)) w) := Nm.interface_any s w hs
theorem linkC (s : ByteArray) (w : World) (hs : s.size ≤ 4611686018427387904) : Calls Tryd.prog 27 #[.string s] w (Bel (.bool (lnkB s)) w) := Nm.link_any s w hs

theorem empF (s : ByteArray) : s.toList.isEmpty = empB s := by
  unfold empB
  by_cases h : s = ⟨#[]⟩
  · rw [str_empty h, decide_eq_true h]
  · rw [str_full h, decide_eq_false h]

set_option maxHeartbeats 400000 in
set_option maxRecDepth 100000 in
theorem isNumber_any (n : Int) (w : World) : Calls Tryd.prog 57 #[.int .i64 n] w fun e w' => e = .returned (.bool (isNum n)) ∧ w' = w := by
  unfold isNum
  by_cases h1 : 1 ≤ n
  · by_cases h2 : n ≤ 1073741824
    · go_enter Tryd.func57, Tryd.ntmps57
      go_wp2
      go_ret
      exact ⟨by simp [h1, h2], rfl⟩
    · have h3 : decide (n ≤ 1073741824) = false := decide_eq_false h2
      rw [h3, Bool.and_false]
      go_enter Tryd.func57, Tryd.ntmps57
      go_wp2
      go_ret
      exact ⟨rfl, rfl⟩
  · have h3 : decide (1 ≤ n) = false := decide_eq_false h1
    rw [h3, Bool.false_and]
    go_enter Tryd.func57, Tryd.ntmps57
    go_wp2
    go_ret
    exact ⟨rfl, rfl⟩

theorem replaceK_len : ∀ (k : Nat) (s : List UInt8), (Lib.replaceK [33] [47] k s).length ≤ s.length
  | 0, _ => Nat.le_refl _
  | k + 1, s => by
    rw [Lib.replaceK]
    split
    · exact Nat.le_refl _
    · rename_i h
      have hne : Lib.index s [33] ≠ -1 := fun e => h (by simp [e])
      have hge := Lib.index_ge s [33]
      have hr := Lib.index_room s [33] (by omega)
      have ih := replaceK_len k (s.drop ((Lib.index s [33]).toNat + [(33 : UInt8)].length))
      simp only [List.length_append, List.length_take, List.length_drop, List.length_cons, List.length_nil] at ih hr ⊢
      omega
theorem nodeOf_size (s : ByteArray) : (nodeOf s).size ≤ s.size := by
  unfold nodeOf Lib.replaceAll Lib.replace
  rw [Lib.size_eq, Lib.size_eq s]
  show (if ([33] : List UInt8) == [47] then s.data.toList else _).length ≤ _
  rw [if_neg (by decide)]
  exact replaceK_len _ _
theorem box_below (w : World) (o : Obj) : Below w.heap.size w (w.alloc o) := (Below.refl _ w).alloc (Nat.le_refl _) _
/-- The cells of the box, behind what left it. -/
theorem box_cell {w W : World} {c : Array Value} (hb : Below (w.alloc (.cells c 24)).heap.size (w.alloc (.cells c 24)) W) (i : Nat) : W.cell? ⟨w.heap.size, i, none⟩ = c[i]? := by
  rw [hb.cell (p := ⟨w.heap.size, i, none⟩) (by simp), cell_of_row _ _ _ _ _ _ (heap_last w _)]

set_option maxHeartbeats 1000000 in
set_option maxRecDepth 100000 in
theorem placeFits_any (d : Dev) (w : World) : Calls Tryd.prog 33 #[devV d] w (Bel (.bool (placeB d)) w) := by
  obtain ⟨idx, par, name, orig, sub, drv, ali, kind, num, av⟩ := d
  unfold devV devC placeB
  simp only
  have H1 := Lib.hid (fun W => isNumber_any idx W)
  have H2 := Lib.hid (fun W => isNumber_any par W)
  obtain ⟨b1, hb1⟩ : ∃ b, isNum idx = b := ⟨_, rfl⟩
  obtain ⟨b2, hb2⟩ : ∃ b, isNum par = b := ⟨_, rfl⟩
  rw [hb1] at H1 ⊢
  rw [hb2] at H2 ⊢
  clear hb1 hb2
  go_enter Tryd.func33, Tryd.ntmps33
  go_wp2_with fail
  refine (H1.out _).mono ?_
  rintro e W ⟨rfl, rfl⟩
  cases b1 with
  | false =>
    go_wp2
    go_ret
    exact ⟨by simp, box_below _ _⟩
  | true =>
    by_cases hp : par = 0
    · subst hp
      by_cases hq : (0 : Int) = idx
      · subst hq
        go_wp2
        go_ret
        exact ⟨by simp, box_below _ _⟩
      · have hq' : ((0 : Int) == idx) = false := beq_eq_false_iff_ne.2 hq
        go_wp2
        go_ret
        exact ⟨by simp [bne], box_below _ _⟩
    · have hp' : (par == 0) = false := beq_eq_false_iff_ne.2 hp
      go_wp2_with fail
      refine (H2.out _).mono ?_
      rintro e W ⟨rfl, rfl⟩
      cases b2 with
      | false =>
        go_wp2
        go_ret
        exact ⟨by simp [hp], box_below _ _⟩
      | true =>
        by_cases hq : par = idx
        · subst hq
          go_wp2
          go_ret
          exact ⟨by simp, box_below _ _⟩
        · have hq' : (par == idx) = false := beq_eq_false_iff_ne.2 hq
          go_wp2
          go_ret
          exact ⟨by simp [bne], box_below _ _⟩

set_option maxHeartbeats 2000000 in
set_option maxRecDepth 100000 in
theorem textsFit_any (d : Dev) (l : List Atr) (w : World) (hs : Sized d l) : Calls Tryd.prog 34 #[devV d] w (Bel (.bool (textsB d)) w) := by
  have h1 := fun W => validC d.name W hs.nm
  have h2 := fun W => validC d.orig W hs.og
  have h3 := fun W => validC d.sub W hs.sb
  have h4 := fun W => validC d.drv W hs.dr
  have h5 := fun W => textC d.ali W hs.al
  have he := empF d.drv
  clear hs
  unfold textsB
  obtain ⟨idx, par, name, orig, sub, drv, ali, kind, num, av⟩ := d
  unfold devV devC
  simp only at h1 h2 h3 h4 h5 he ⊢
  generalize validB name = b1 at *
  generalize validB orig = b2 at *
  generalize validB sub = b3 at *
  generalize validB drv = b4 at *
  generalize txtB ali = b5 at *
  generalize empB drv = b6 at *
  have H1 := Lib.hid h1
  have H2 := Lib.hid h2
  have H3 := Lib.hid h3
  have H4 := Lib.hid h4
  have H5 := Lib.hid h5
  clear h1 h2 h3 h4 h5
  go_enter Tryd.func34, Tryd.ntmps34
  go_wp2_with fail
  refine (H1.out _).mono ?_
  rintro e W ⟨rfl, hb⟩
  have HX := Lib.hid hb
  clear hb
  cases b1 with
  | false =>
    go_wp2
    go_ret
    exact ⟨by simp, (box_below _ _).trans (HX.out.mono (by simp))⟩
  | true =>
    have c3 := box_cell HX.out 3
    simp only [List.getElem?_toArray, List.getElem?_cons_zero, List.getElem?_cons_succ] at c3
    go_wp2_with fail
    refine (H2.out _).mono ?_
    rintro e W ⟨rfl, hb⟩
    have HX := Lib.hid (HX.out.trans (hb.mono HX.out.size))
    clear hb
    cases b2 with
    | false =>
      go_wp2
      go_ret
      exact ⟨by simp, (box_below _ _).trans (HX.out.mono (by simp))⟩
    | true =>
      have e4 := box_cell HX.out 4
      simp only [List.getElem?_toArray, List.getElem?_cons_zero, List.getElem?_cons_succ] at e4
      go_wp2_with fail
      refine (H3.out _).mono ?_
      rintro e W ⟨rfl, hb⟩
      have HX := Lib.hid (HX.out.trans (hb.mono HX.out.size))
      clear hb
      cases b3 with
      | false =>
        go_wp2
        go_ret
        exact ⟨by simp, (box_below _ _).trans (HX.out.mono (by simp))⟩
      | true =>
        have f5 := box_cell HX.out 5
        simp only [List.getElem?_toArray, List.getElem?_cons_zero, List.getElem?_cons_succ] at f5
        cases b6 with
        | true =>
          have d6 := box_cell HX.out 6
          simp only [List.getElem?_toArray, List.getElem?_cons_zero, List.getElem?_cons_succ] at d6
          go_wp2_with fail
          refine (H5.out _).mono ?_
          rintro e W ⟨rfl, hb⟩
          have HX := Lib.hid (HX.out.trans (hb.mono HX.out.size))
          clear hb
          cases b5 with
          | false =>
            go_wp2
            go_ret
            exact ⟨by simp, (box_below _ _).trans (HX.out.mono (by simp))⟩
          | true =>
            go_wp2
            go_ret
            exact ⟨by simp, (box_below _ _).trans (HX.out.mono (by simp))⟩
        | false =>
          go_wp2_with fail
          refine (H4.out _).mono ?_
          rintro e W ⟨rfl, hb⟩
          have HX := Lib.hid (HX.out.trans (hb.mono HX.out.size))
          clear hb
          cases b4 with
          | false =>
            go_wp2
            go_ret
            exact ⟨by simp, (box_below _ _).trans (HX.out.mono (by simp))⟩
          | true =>
            have e6 := box_cell HX.out 6
            simp only [List.getElem?_toArray, List.getElem?_cons_zero, List.getElem?_cons_succ] at e6
            go_wp2_with fail
            refine (H5.out _).mono ?_
            rintro e W ⟨rfl, hb⟩
            have HX := Lib.hid (HX.out.trans (hb.mono HX.out.size))
            clear hb
            cases b5 with
            | false =>
              go_wp2
              go_ret
              exact ⟨by simp, (box_below _ _).trans (HX.out.mono (by simp))⟩
            | true =>
              go_wp2
              go_ret
              exact ⟨by simp, (box_below _ _).trans (HX.out.mono (by simp))⟩

set_option maxHeartbeats 2000000 in
set_option maxRecDepth 100000 in
theorem kindFits_any (d : Dev) (l : List Atr) (w : World) (hs : Sized d l) : Calls Tryd.prog 35 #[devV d] w (Bel (.bool (kindB d)) w) := by
  have h1 := fun W => ifaceC d.name W hs.nm
  have h2 := fun W => ifaceC d.orig W hs.og
  clear hs
  unfold kindB hasN
  obtain ⟨idx, par, name, orig, sub, drv, ali, kind, num, av⟩ := d
  unfold devV devC
  simp only at h1 h2 ⊢
  generalize ifcB name = b1 at *
  generalize ifcB orig = b2 at *
  have H1 := Lib.hid h1
  have H2 := Lib.hid h2
  clear h1 h2
  by_cases k4 : kind = 4
  · subst k4
    rw [if_pos rfl]
    go_enter Tryd.func35, Tryd.ntmps35
    go_wp2_with fail
    refine (H1.out _).mono ?_
    rintro e W ⟨rfl, hb⟩
    have HX := Lib.hid hb
    clear hb
    cases b1 with
    | false =>
      go_wp2
      go_ret
      exact ⟨by simp, (box_below _ _).trans (HX.out.mono (by simp))⟩
    | true =>
      have c3 := box_cell HX.out 3
      simp only [List.getElem?_toArray, List.getElem?_cons_zero, List.getElem?_cons_succ] at c3
      go_wp2_with fail
      refine (H2.out _).mono ?_
      rintro e W ⟨rfl, hb⟩
      have HX := Lib.hid (HX.out.trans (hb.mono HX.out.size))
      clear hb
      go_wp2
      go_ret
      exact ⟨by simp, (box_below _ _).trans (HX.out.mono (by simp))⟩
  · rw [if_neg k4]
    have k4' : (kind == 4) = false := beq_eq_false_iff_ne.2 k4
    clear H1 H2
    by_cases hq : name = orig
    · subst hq
      by_cases k1 : kind = 1
      · subst k1
        go_enter Tryd.func35, Tryd.ntmps35
        go_wp2
        go_ret
        exact ⟨by simp, box_below _ _⟩
      · have k1' : (kind == 1) = false := beq_eq_false_iff_ne.2 k1
        by_cases k2 : kind = 2
        · subst k2
          go_enter Tryd.func35, Tryd.ntmps35
          go_wp2
          go_ret
          exact ⟨by simp, box_below _ _⟩
        · have k2' : (kind == 2) = false := beq_eq_false_iff_ne.2 k2
          by_cases k3 : kind = 3
          · subst k3
            go_enter Tryd.func35, Tryd.ntmps35
            go_wp2
            go_ret
            exact ⟨by simp, box_below _ _⟩
          · have k3' : (kind == 3) = false := beq_eq_false_iff_ne.2 k3
            go_enter Tryd.func35, Tryd.ntmps35
            go_wp2
            go_ret
            exact ⟨by simp [k1, k2, k3], box_below _ _⟩
    · have hq' := str_ne hq
      by_cases k1 : kind = 1
      · subst k1
        go_enter Tryd.func35, Tryd.ntmps35
        go_wp2
        go_ret
        exact ⟨by simp [hq], box_below _ _⟩
      · have k1' : (kind == 1) = false := beq_eq_false_iff_ne.2 k1
        by_cases k2 : kind = 2
        · subst k2
          go_enter Tryd.func35, Tryd.ntmps35
          go_wp2
          go_ret
          exact ⟨by simp [hq], box_below _ _⟩
        · have k2' : (kind == 2) = false := beq_eq_false_iff_ne.2 k2
          by_cases k3 : kind = 3
          · subst k3
            go_enter Tryd.func35, Tryd.ntmps35
            go_wp2
            go_ret
            exact ⟨by simp [hq], box_below _ _⟩
          · have k3' : (kind == 3) = false := beq_eq_false_iff_ne.2 k3
            go_enter Tryd.func35, Tryd.ntmps35
            go_wp2
            go_ret
            exact ⟨by simp [k1, k2, k3], box_below _ _⟩

set_option maxHeartbeats 1000000 in
set_option maxRecDepth 100000 in
theorem numberFits_any (d : Dev) (w : World) : Calls Tryd.prog 36 #[devV d] w (Bel (.bool (numB d)) w) := by
  have h1 := fun W => hasNode_any d W
  have h2 := fun W => isNumber_any d.num W
  unfold numB
  obtain ⟨idx, par, name, orig, sub, drv, ali, kind, num, av⟩ := d
  unfold devV devC at *
  simp only at h1 h2 ⊢
  generalize hasN kind = b1 at *
  generalize isNum num = b2 at *
  cases b1 with
  | true =>
    have H1 := Lib.hid h1
    have H2 := Lib.hid h2
    rw [if_pos rfl]
    clear h1 h2
    go_enter Tryd.func36, Tryd.ntmps36
    go_wp2_with fail
    refine (H1.out _).mono ?_
    rintro e W ⟨rfl, hb⟩
    have HX := Lib.hid hb
    clear hb
    have c8 := box_cell HX.out 8
    simp only [List.getElem?_toArray, List.getElem?_cons_zero, List.getElem?_cons_succ] at c8
    go_wp2_with fail
    refine (H2.out _).mono ?_
    rintro e W ⟨rfl, rfl⟩
    go_wp2
    go_ret
    exact ⟨rfl, (box_below _ _).trans (HX.out.mono (by simp))⟩
  | false =>
    have H1 := Lib.hid h1
    have hq : (if false = true then b2 else num == 0) = (num == 0) := rfl
    rw [hq]
    clear h1 h2 hq
    go_enter Tryd.func36, Tryd.ntmps36
    go_wp2_with fail
    refine (H1.out _).mono ?_
    rintro e W ⟨rfl, hb⟩
    have HX := Lib.hid hb
    clear hb
    have c8 := box_cell HX.out 8
    simp only [List.getElem?_toArray, List.getElem?_cons_zero, List.getElem?_cons_succ] at c8
    go_wp2
    go_ret
    exact ⟨rfl, (box_below _ _).trans (HX.out.mono (by simp))⟩

set_option maxHeartbeats 1000000 in
set_option maxRecDepth 100000 in
theorem nodeFits_any (d : Dev) (l : List Atr) (w : World) (hs : Sized d l) (hm : Max w) : Calls Tryd.prog 38 #[devV d] w (Bel (.bool (nodB d)) w) := by
  have h1 := fun W (h : Below w.heap.size w W) => node_any d W (by have := hs.og; omega) (hm.below h)
  have h2 := fun W => linkC (nodeOf d.orig) W (by have := nodeOf_size d.orig; have := hs.og; omega)
  clear hs hm
  unfold nodB
  unfold nodeR at h1
  obtain ⟨idx, par, name, orig, sub, drv, ali, kind, num, av⟩ := d
  unfold devV devC at *
  simp only at h1 h2 ⊢
  generalize hasN kind = b1 at *
  generalize nodeOf orig = nd at *
  generalize lnkB nd = b2 at *
  cases b1 with
  | false =>
    have H1 := Lib.hid h1
    clear h1 h2
    go_enter Tryd.func38, Tryd.ntmps38
    go_wp2_with fail
    refine (H1.out _ (box_below _ _)).mono ?_
    rintro e W ⟨rfl, hb⟩
    have HX := Lib.hid hb
    clear hb
    go_wp2
    go_ret
    exact ⟨by simp, (box_below _ _).trans (HX.out.mono (by simp))⟩
  | true =>
    simp only [if_true] at h1
    have H1 := Lib.hid h1
    have H2 := Lib.hid h2
    clear h1 h2
    go_enter Tryd.func38, Tryd.ntmps38
    go_wp2_with fail
    refine (H1.out _ (box_below _ _)).mono ?_
    rintro e W ⟨rfl, hb⟩
    have HX := Lib.hid hb
    clear hb
    go_wp2_with fail
    refine (H2.out _).mono ?_
    rintro e W ⟨rfl, hb⟩
    have HX := Lib.hid (HX.out.trans (hb.mono HX.out.size))
    clear hb
    go_wp2
    go_ret
    exact ⟨by simp, (box_below _ _).trans (HX.out.mono (by simp))⟩

end Go.Proofs.YthdnbcgomepgaaaDoor
