/- Sorted, Get, SameAttrs. Node, and the examples of the chapter. device.Check: its parts and the whole. device.Check: the attributes, and the whole. The reference's Node; what DeviceNodes asks of one device. -/
import Derived.Test.YtldcediiobfhiaaGreatDoorQDx
import Derived.Test.YtldcediiobfhiaaGreatDoorQNr
import Derived.Lib.IndexMore
namespace Go.Proofs.YtldcediiobfhiaaGreatDoor.De
open Go.RowKit
set_option maxHeartbeats 1000000 in
set_option maxRecDepth 100000 in
theorem refSorted_any (sv : Value) (l : List Atr) (w : World) (hl : l.length ≤ 9223372036854775807) (h : Has w sv l) : Calls Tryz.prog 95 #[sv] w (Bel (.bool (srtB l)) w) := by
 obtain ⟨R, hR⟩ : ∃ R, srtB l = R := ⟨_, rfl⟩
 have hT : (∀ k x y, l[k]? = some x → l[k + 1]? = some y → lt x.1 y.1 = true) → R = true := fun h => by rw [← hR]; exact srtB_true h
 have hF : ∀ k x y, l[k]? = some x → l[k + 1]? = some y → lt x.1 y.1 = false → R = false := fun k x y h1 h2 h3 => by rw [← hR]; exact srtB_false h1 h2 h3
 rw [hR]
 have HT := Lib.hid hT
 have HF := Lib.hid hF
 clear hT hF hR
 rcases h with ⟨ad, c, rfl, rfl⟩ | ⟨b, o, c, rfl, hb, hrow⟩
 ·obtain rfl := HT.out (fun k x y h => by simp at h)
  have hz : ¬ ((1 : Int) < ((0 : Nat) : Int)) := by omega
  clear HT HF
  go_enter Tryz.func95, Tryz.ntmps95
  go_wp2
  go_loopw [3] (fun s3 wx => s3 = .int .i64 1 ∧ w = wx) (fun _ _ => 0)
  case atStart => exact ⟨rfl, rfl⟩
  case round =>
   obtain ⟨rfl, rfl⟩ := hrel
   go_wp2
   go_ret
   exact ⟨rfl, Below.refl _ _⟩
 ·have HW := Lib.hid hrow
  clear hrow
  go_enter Tryz.func95, Tryz.ntmps95
  go_wp2
  go_loopw [3] (fun s3 wx => ∃ i : Nat, (i ≤ l.length) ∧ s3 = .int .i64 ((i + 1 : Nat) : Int) ∧ (∀ k x y, k < i → l[k]? = some x → l[k + 1]? = some y → lt x.1 y.1 = true) ∧ ∃ n, wx = w.drewN n) (fun s3 _ => l.length + 1 - (intOf s3).toNat)
  case atStart => exact ⟨0, by omega, rfl, fun k x y hk => absurd hk (Nat.not_lt_zero _), 0, rfl⟩
  case round =>
   obtain ⟨i, hi, rfl, hinv, n, rfl⟩ := hrel
   by_cases hlt : i + 1 < l.length
   ·have hiz : ((i + 1 : Nat) : Int) < (l.length : Int) := by omega
    have hiz2 : (i : Int) < (l.length : Int) := by omega
    obtain ⟨x, hx⟩ : ∃ x, l[i]? = some x := ⟨_, List.getElem?_eq_getElem (by omega)⟩
    obtain ⟨y, hy⟩ : ∃ y, l[i + 1]? = some y := ⟨_, List.getElem?_eq_getElem hlt⟩
    have hc0 := (HW.out i x hx).1
    have hc1 := (HW.out (i + 1) y hy).1
    have hwr : IntKind.i64.wrap (((i + 1 : Nat) : Int) - 1) = (i : Int) := by rw [IntKind.wrap_i64]; omega
    have hwr2 : IntKind.i64.wrap (((i + 1 : Nat) : Int) + 1) = ((i + 1 + 1 : Nat) : Int) := by rw [IntKind.wrap_i64]; omega
    have HI := Lib.hid hinv
    cases hxy : lt x.1 y.1 with
    | true =>
     have hxy' : Op.bytesLess x.1.toList y.1.toList = true := hxy
     have HX := Lib.hid (And.intro hx (And.intro hy hxy))
     clear hinv hx hy hxy
     go_wp2
     go_quiet (fail)
     go_wp2
     refine ⟨⟨i + 1, by omega, rfl, fun k u v hk hu hv => ?_, _, rfl⟩, by simp [intOf]; omega⟩
     by_cases e : k = i
     ·subst e
      obtain ⟨h1, h2, h3⟩ := HX.out
      rw [h1] at hu
      rw [h2] at hv
      cases hu
      cases hv
      exact h3
     ·exact HI.out k u v (by omega) hu hv
    | false =>
     have hxy' : Op.bytesLess x.1.toList y.1.toList = false := hxy
     obtain rfl := HF.out i x y hx hy hxy
     clear hinv hx hy hxy HT HF
     go_wp2
     go_quiet (fail)
     go_wp2
     go_ret
     exact ⟨rfl, drawn_below (drawn_below (Below.refl _ _) _) _⟩
   ·have hiz : ¬ (((i + 1 : Nat) : Int) < (l.length : Int)) := by omega
    obtain rfl := HT.out (fun k x y hx hy => hinv k x y (by have := (List.getElem?_eq_some_iff.1 hy).1; omega) hx hy)
    clear HT HF hinv
    go_wp2
    go_ret
    exact ⟨rfl, drawn_below (Below.refl _ _) _⟩
set_option maxHeartbeats 1000000 in
set_option maxRecDepth 100000 in
theorem sorted_any (sv : Value) (l : List Atr) (w : World) (hl : l.length ≤ 9223372036854775807) (h : Has w sv l) : Calls Tryz.prog 150 #[sv] w (Bel (.bool (srtB l)) w) := by
 obtain ⟨R, hR⟩ : ∃ R, srtB l = R := ⟨_, rfl⟩
 have hT : (∀ k x y, l[k]? = some x → l[k + 1]? = some y → lt x.1 y.1 = true) → R = true := fun h => by rw [← hR]; exact srtB_true h
 have hF : ∀ k x y, l[k]? = some x → l[k + 1]? = some y → lt x.1 y.1 = false → R = false := fun k x y h1 h2 h3 => by rw [← hR]; exact srtB_false h1 h2 h3
 rw [hR]
 have HT := Lib.hid hT
 have HF := Lib.hid hF
 clear hT hF hR
 rcases h with ⟨ad, c, rfl, rfl⟩ | ⟨b, o, c, rfl, hb, hrow⟩
 ·obtain rfl := HT.out (fun k x y h => by simp at h)
  have hz : ¬ ((1 : Int) < ((0 : Nat) : Int)) := by omega
  clear HT HF
  go_enter Tryz.func150, Tryz.ntmps150
  go_wp2
  go_loopw [3] (fun s3 wx => s3 = .int .i64 1 ∧ w = wx) (fun _ _ => 0)
  case atStart => exact ⟨rfl, rfl⟩
  case round =>
   obtain ⟨rfl, rfl⟩ := hrel
   go_wp2
   go_ret
   exact ⟨rfl, Below.refl _ _⟩
 ·have HW := Lib.hid hrow
  clear hrow
  go_enter Tryz.func150, Tryz.ntmps150
  go_wp2
  go_loopw [3] (fun s3 wx => ∃ i : Nat, (i ≤ l.length) ∧ s3 = .int .i64 ((i + 1 : Nat) : Int) ∧ (∀ k x y, k < i → l[k]? = some x → l[k + 1]? = some y → lt x.1 y.1 = true) ∧ ∃ n, wx = w.drewN n) (fun s3 _ => l.length + 1 - (intOf s3).toNat)
  case atStart => exact ⟨0, by omega, rfl, fun k x y hk => absurd hk (Nat.not_lt_zero _), 0, rfl⟩
  case round =>
   obtain ⟨i, hi, rfl, hinv, n, rfl⟩ := hrel
   by_cases hlt : i + 1 < l.length
   ·have hiz : ((i + 1 : Nat) : Int) < (l.length : Int) := by omega
    have hiz2 : (i : Int) < (l.length : Int) := by omega
    obtain ⟨x, hx⟩ : ∃ x, l[i]? = some x := ⟨_, List.getElem?_eq_getElem (by omega)⟩
    obtain ⟨y, hy⟩ : ∃ y, l[i + 1]? = some y := ⟨_, List.getElem?_eq_getElem hlt⟩
    have hc0 := (HW.out i x hx).1
    have hc1 := (HW.out (i + 1) y hy).1
    have hwr : IntKind.i64.wrap (((i + 1 : Nat) : Int) - 1) = (i : Int) := by rw [IntKind.wrap_i64]; omega
    have hwr2 : IntKind.i64.wrap (((i + 1 : Nat) : Int) + 1) = ((i + 1 + 1 : Nat) : Int) := by rw [IntKind.wrap_i64]; omega
    have HI := Lib.hid hinv
    cases hxy : lt x.1 y.1 with
    | true =>
     have hxy' : Op.bytesLess x.1.toList y.1.toList = true := hxy
     have HX := Lib.hid (And.intro hx (And.intro hy hxy))
     clear hinv hx hy hxy
     go_wp2
     go_quiet (fail)
     go_wp2
     refine ⟨⟨i + 1, by omega, rfl, fun k u v hk hu hv => ?_, _, rfl⟩, by simp [intOf]; omega⟩
     by_cases e : k = i
     ·subst e
      obtain ⟨h1, h2, h3⟩ := HX.out
      rw [h1] at hu
      rw [h2] at hv
      cases hu
      cases hv
      exact h3
     ·exact HI.out k u v (by omega) hu hv
    | false =>
     have hxy' : Op.bytesLess x.1.toList y.1.toList = false := hxy
     obtain rfl := HF.out i x y hx hy hxy
     clear hinv hx hy hxy HT HF
     go_wp2
     go_quiet (fail)
     go_wp2
     go_ret
     exact ⟨rfl, drawn_below (drawn_below (Below.refl _ _) _) _⟩
   ·have hiz : ¬ (((i + 1 : Nat) : Int) < (l.length : Int)) := by omega
    obtain rfl := HT.out (fun k x y hx hy => hinv k x y (by have := (List.getElem?_eq_some_iff.1 hy).1; omega) hx hy)
    clear HT HF hinv
    go_wp2
    go_ret
    exact ⟨rfl, drawn_below (Below.refl _ _) _⟩
end Go.Proofs.YtldcediiobfhiaaGreatDoor.De
namespace Go.Proofs.YtldcediiobfhiaaGreatDoor.De
open Go.RowKit
/-- The variable internal/bytealg.MaxLen lies in block 0. -/
def Max (w : World) : Prop := ∃ m : Int, w.cell? ⟨0, 0, none⟩ = some (.int .i64 m)
theorem Max.pos {w : World} (h : Max w) : 0 < w.heap.size := by
 obtain ⟨m, h⟩ := h
 exact World.block_lt_of_cell? _ _ h
theorem Max.below {w w' : World} (h : Max w) (hb : Below w.heap.size w w') : Max w' := by
 have hp := h.pos
 obtain ⟨m, h⟩ := h
 exact ⟨m, (hb.cell (p := ⟨0, 0, none⟩) hp).trans h⟩
def nodeOf (s : ByteArray) : ByteArray := ⟨(Lib.replaceAll s.data.toList [33] [47]).toArray⟩
def hasN (k : Int) : Bool := k == 2 || k == 3
def nodeR (d : Dev) : Value := .tuple #[.string (if hasN d.kind then nodeOf d.orig else ⟨#[]⟩), .bool (hasN d.kind)]
theorem replace_any (s : ByteArray) (w : World) (hs : s.size < 4294967281) (hm : Max w) : Calls Tryz.prog 106 #[.string s, .string ⟨#[33]⟩, .string ⟨#[47]⟩] w (Bel (.string (nodeOf s)) w) := by
 obtain ⟨m, hm⟩ := hm
 have h1 : (1 : Nat) ≤ (⟨#[33]⟩ : ByteArray).size := Nat.le_refl _
 have hmul := Lib.countB_mul_le ⟨#[33]⟩ h1 s.size s (Nat.le_refl _)
 have e1 : (⟨#[33]⟩ : ByteArray).size = 1 := rfl
 have e2 : (⟨#[47]⟩ : ByteArray).size = 1 := rfl
 rw [e1] at hmul
 exact Tryz.strings_ReplaceAll s ⟨#[33]⟩ ⟨#[47]⟩ m w hs hm h1 (by rw [e2]; omega)
set_option maxHeartbeats 400000 in
set_option maxRecDepth 100000 in
theorem hasNode_any (d : Dev) (w : World) : Calls Tryz.prog 105 #[devV d] w (Bel (.bool (hasN d.kind)) w) := by
 obtain ⟨idx, par, name, orig, sub, drv, ali, kind, num, av⟩ := d
 unfold devV devC hasN
 simp only
 by_cases h2 : kind = 2
 ·subst h2
  go_enter Tryz.func105, Tryz.ntmps105
  go_wp2
  go_ret
  exact ⟨rfl, (Below.refl _ w).alloc (Nat.le_refl _) _⟩
 ·by_cases h3 : kind = 3
  ·subst h3
   go_enter Tryz.func105, Tryz.ntmps105
   go_wp2
   go_ret
   exact ⟨rfl, (Below.refl _ w).alloc (Nat.le_refl _) _⟩
  ·have e2 : (kind == 2) = false := by simpa using h2
   have e3 : (kind == 3) = false := by simpa using h3
   rw [e2, e3]
   go_enter Tryz.func105, Tryz.ntmps105
   go_wp2
   go_ret
   exact ⟨rfl, (Below.refl _ w).alloc (Nat.le_refl _) _⟩
set_option maxHeartbeats 400000 in
set_option maxRecDepth 100000 in
theorem node_any (d : Dev) (w : World) (hs : d.orig.size < 4294967281) (hm : Max w) : Calls Tryz.prog 68 #[devV d] w (Bel (nodeR d) w) := by
 have hh := fun W => hasNode_any d W
 have hre := fun W (h : Below w.heap.size w W) => replace_any d.orig W hs (hm.below h)
 have HH := Lib.hid hh
 have HR := Lib.hid hre
 have hx : nodeR d = .tuple #[.string (if hasN d.kind then nodeOf d.orig else ⟨#[]⟩), .bool (hasN d.kind)] := rfl
 rw [hx]
 clear hh hre hm hx hs
 obtain ⟨idx, par, name, orig, sub, drv, ali, kind, num, av⟩ := d
 unfold devV devC at *
 simp only at HH HR ⊢
 cases hk : hasN kind with
 | false =>
  rw [hk] at HH
  go_enter Tryz.func68, Tryz.ntmps68
  go_wp2_with fail
  refine (HH.out _).mono ?_
  rintro e W ⟨rfl, hb⟩
  have Hb := Lib.hid (((Below.refl _ w).alloc (Nat.le_refl _) _).trans (hb.mono (by simp)))
  clear hb
  go_wp2
  go_ret2
  exact ⟨rfl, Hb.out⟩
 | true =>
  rw [hk] at HH
  go_enter Tryz.func68, Tryz.ntmps68
  go_wp2_with fail
  refine (HH.out _).mono ?_
  rintro e W ⟨rfl, hb⟩
  have hc := hb.cell (p := ⟨w.heap.size, 3, none⟩) (by simp)
  rw [cell_of_row _ _ _ _ _ _ (heap_last w _)] at hc
  simp only [List.getElem?_toArray, List.getElem?_cons_zero, List.getElem?_cons_succ] at hc
  have Hb := Lib.hid (((Below.refl _ w).alloc (Nat.le_refl _) _).trans (hb.mono (by simp)))
  clear hb
  go_wp2_with fail
  refine (HR.out _ Hb.out).mono ?_
  rintro e W2 ⟨rfl, hb2⟩
  have Hb2 := Lib.hid (Hb.out.trans (hb2.mono Hb.out.size))
  clear hb2
  go_wp2
  go_ret2
  exact ⟨rfl, Hb2.out⟩
end Go.Proofs.YtldcediiobfhiaaGreatDoor.De
namespace Go.Proofs.YtldcediiobfhiaaGreatDoor.De
open Go.RowKit
def validB (s : ByteArray) : Bool := Nm.nameB Nm.NameSet s.data.toList
def txtB (s : ByteArray) : Bool := Nm.textB s.data.toList
def ifcB (s : ByteArray) : Bool := Nm.ifaceB s.data.toList
def lnkB (s : ByteArray) : Bool := Nm.linkB s.data.toList
def isNum (n : Int) : Bool := decide (1 ≤ n) && decide (n ≤ 1073741824)
def empB (s : ByteArray) : Bool := decide (s = ⟨#[]⟩)
def placeB (d : Dev) : Bool := isNum d.idx && ((d.par == 0 || isNum d.par) && !(d.par == d.idx))
def textsB (d : Dev) : Bool := validB d.name && (validB d.orig && (validB d.sub && ((empB d.drv || validB d.drv) && txtB d.ali)))
def kindB (d : Dev) : Bool := if d.kind = 4 then ifcB d.name && ifcB d.orig else (d.kind == 1 || hasN d.kind) && decide (d.name = d.orig)
def numB (d : Dev) : Bool := if hasN d.kind then isNum d.num else d.num == 0
def wrongA (a : Atr) : Bool := !validB a.1 || (empB a.2 || !txtB a.2)
def attrB (l : List Atr) : Bool := srtB l && !l.any wrongA
def nodB (d : Dev) : Bool := !hasN d.kind || lnkB (nodeOf d.orig)
def checkE (d : Dev) (l : List Atr) : Int :=
 if placeB d = false then 32 else if textsB d = false then 30 else if kindB d = false then 31 else if numB d = false then 32
 else if 24 < l.length then 34 else if attrB l = false then 33 else if nodB d = false then 30 else 0
/-- Texts of moderate length. -/
structure Sized (d : Dev) (l : List Atr) : Prop where
 nm : d.name.size ≤ 4000000000
 og : d.orig.size ≤ 4000000000
 sb : d.sub.size ≤ 4000000000
 dr : d.drv.size ≤ 4000000000
 al : d.ali.size ≤ 4000000000
 at_ : ∀ a ∈ l, a.1.size ≤ 4000000000 ∧ a.2.size ≤ 4000000000
theorem validC (s : ByteArray) (w : World) (hs : s.size ≤ 4000000000) : Calls Tryz.prog 146 #[.string s] w (Bel (.bool (validB s)) w) := Nm.valid_any s w (by omega)
theorem textC (s : ByteArray) (w : World) (hs : s.size ≤ 4000000000) : Calls Tryz.prog 147 #[.string s] w (Bel (.bool (txtB s)) w) := Nm.text_any s w (by omega)
theorem ifaceC (s : ByteArray) (w : World) (hs : s.size ≤ 4000000000) : Calls Tryz.prog 148 #[.string s] w (Bel (.bool (ifcB s)) w) := Nm.interface_any s w hs
theorem linkC (s : ByteArray) (w : World) (hs : s.size ≤ 4611686018427387904) : Calls Tryz.prog 152 #[.string s] w (Bel (.bool (lnkB s)) w) := Nm.link_any s w hs
theorem empF (s : ByteArray) : s.toList.isEmpty = empB s := by
 unfold empB
 by_cases h : s = ⟨#[]⟩
 ·rw [str_empty h, decide_eq_true h]
 ·rw [str_full h, decide_eq_false h]
set_option maxHeartbeats 400000 in
set_option maxRecDepth 100000 in
theorem isNumber_any (n : Int) (w : World) : Calls Tryz.prog 145 #[.int .i64 n] w fun e w' => e = .returned (.bool (isNum n)) ∧ w' = w := by
 unfold isNum
 by_cases h1 : 1 ≤ n
 ·by_cases h2 : n ≤ 1073741824
  ·go_enter Tryz.func145, Tryz.ntmps145
   go_wp2
   go_ret
   exact ⟨by simp [h1, h2], rfl⟩
  ·have h3 : decide (n ≤ 1073741824) = false := decide_eq_false h2
   rw [h3, Bool.and_false]
   go_enter Tryz.func145, Tryz.ntmps145
   go_wp2
   go_ret
   exact ⟨rfl, rfl⟩
 ·have h3 : decide (1 ≤ n) = false := decide_eq_false h1
  rw [h3, Bool.false_and]
  go_enter Tryz.func145, Tryz.ntmps145
  go_wp2
  go_ret
  exact ⟨rfl, rfl⟩
theorem replaceK_len : ∀ (k : Nat) (s : List UInt8), (Lib.replaceK [33] [47] k s).length ≤ s.length
 | 0, _ => Nat.le_refl _
 | k + 1, s => by
  rw [Lib.replaceK]
  split
  ·exact Nat.le_refl _
  ·rename_i h
   have hne : Lib.index s [33] ≠ -1 := fun e => h (by simp [e])
   have hge := Lib.index_ge s [33]
   have hr := Lib.index_room s [33] (by omega)
   have ih := replaceK_len k (s.drop ((Lib.index s [33]).toNat + [(33 : UInt8)].length))
   simp only [List.length_append, List.length_take, List.length_drop, List.length_cons, List.length_nil] at ih hr ⊢
   omega
theorem nodeOf_size (s : ByteArray) : (nodeOf s).size ≤ s.size := by
 unfold nodeOf Lib.replaceAll Lib.replace
 rw [Lib.size_eq, Lib.size_eq s]
 show (if ([33] : List UInt8) == [47] then s.data.toList else _).length ≤ _
 rw [if_neg (by decide)]
 exact replaceK_len _ _
theorem box_below (w : World) (o : Obj) : Below w.heap.size w (w.alloc o) := (Below.refl _ w).alloc (Nat.le_refl _) _
/-- The cells of the box, behind what left it. -/
theorem box_cell {w W : World} {c : Array Value} (hb : Below (w.alloc (.cells c 34)).heap.size (w.alloc (.cells c 34)) W) (i : Nat) : W.cell? ⟨w.heap.size, i, none⟩ = c[i]? := by
 rw [hb.cell (p := ⟨w.heap.size, i, none⟩) (by simp), cell_of_row _ _ _ _ _ _ (heap_last w _)]
set_option maxHeartbeats 1000000 in
set_option maxRecDepth 100000 in
theorem placeFits_any (d : Dev) (w : World) : Calls Tryz.prog 119 #[devV d] w (Bel (.bool (placeB d)) w) := by
 obtain ⟨idx, par, name, orig, sub, drv, ali, kind, num, av⟩ := d
 unfold devV devC placeB
 simp only
 have H1 := Lib.hid (fun W => isNumber_any idx W)
 have H2 := Lib.hid (fun W => isNumber_any par W)
 obtain ⟨b1, hb1⟩ : ∃ b, isNum idx = b := ⟨_, rfl⟩
 obtain ⟨b2, hb2⟩ : ∃ b, isNum par = b := ⟨_, rfl⟩
 rw [hb1] at H1 ⊢
 rw [hb2] at H2 ⊢
 clear hb1 hb2
 go_enter Tryz.func119, Tryz.ntmps119
 go_wp2_with fail
 refine (H1.out _).mono ?_
 rintro e W ⟨rfl, rfl⟩
 cases b1 with
 | false =>
  go_wp2
  go_ret
  exact ⟨by simp, box_below _ _⟩
 | true =>
  by_cases hp : par = 0
  ·subst hp
   by_cases hq : (0 : Int) = idx
   ·subst hq
    go_wp2
    go_ret
    exact ⟨by simp, box_below _ _⟩
   ·have hq' : ((0 : Int) == idx) = false := beq_eq_false_iff_ne.2 hq
    go_wp2
    go_ret
    exact ⟨by simp [bne], box_below _ _⟩
  ·have hp' : (par == 0) = false := beq_eq_false_iff_ne.2 hp
   go_wp2_with fail
   refine (H2.out _).mono ?_
   rintro e W ⟨rfl, rfl⟩
   cases b2 with
   | false =>
    go_wp2
    go_ret
    exact ⟨by simp [hp], box_below _ _⟩
   | true =>
    by_cases hq : par = idx
    ·subst hq
     go_wp2
     go_ret
     exact ⟨by simp, box_below _ _⟩
    ·have hq' : (par == idx) = false := beq_eq_false_iff_ne.2 hq
     go_wp2
     go_ret
     exact ⟨by simp [bne], box_below _ _⟩
set_option maxHeartbeats 2000000 in
set_option maxRecDepth 100000 in
theorem textsFit_any (d : Dev) (l : List Atr) (w : World) (hs : Sized d l) : Calls Tryz.prog 120 #[devV d] w (Bel (.bool (textsB d)) w) := by
 have h1 := fun W => validC d.name W hs.nm
 have h2 := fun W => validC d.orig W hs.og
 have h3 := fun W => validC d.sub W hs.sb
 have h4 := fun W => validC d.drv W hs.dr
 have h5 := fun W => textC d.ali W hs.al
 have he := empF d.drv
 clear hs
 unfold textsB
 obtain ⟨idx, par, name, orig, sub, drv, ali, kind, num, av⟩ := d
 unfold devV devC
 simp only at h1 h2 h3 h4 h5 he ⊢
 generalize validB name = b1 at *
 generalize validB orig = b2 at *
 generalize validB sub = b3 at *
 generalize validB drv = b4 at *
 generalize txtB ali = b5 at *
 generalize empB drv = b6 at *
 have H1 := Lib.hid h1
 have H2 := Lib.hid h2
 have H3 := Lib.hid h3
 have H4 := Lib.hid h4
 have H5 := Lib.hid h5
 clear h1 h2 h3 h4 h5
 go_enter Tryz.func120, Tryz.ntmps120
 go_wp2_with fail
 refine (H1.out _).mono ?_
 rintro e W ⟨rfl, hb⟩
 have HX := Lib.hid hb
 clear hb
 cases b1 with
 | false =>
  go_wp2
  go_ret
  exact ⟨by simp, (box_below _ _).trans (HX.out.mono (by simp))⟩
 | true =>
  have c3 := box_cell HX.out 3
  simp only [List.getElem?_toArray, List.getElem?_cons_zero, List.getElem?_cons_succ] at c3
  go_wp2_with fail
  refine (H2.out _).mono ?_
  rintro e W ⟨rfl, hb⟩
  have HX := Lib.hid (HX.out.trans (hb.mono HX.out.size))
  clear hb
  cases b2 with
  | false =>
   go_wp2
   go_ret
   exact ⟨by simp, (box_below _ _).trans (HX.out.mono (by simp))⟩
  | true =>
   have e4 := box_cell HX.out 4
   simp only [List.getElem?_toArray, List.getElem?_cons_zero, List.getElem?_cons_succ] at e4
   go_wp2_with fail
   refine (H3.out _).mono ?_
   rintro e W ⟨rfl, hb⟩
   have HX := Lib.hid (HX.out.trans (hb.mono HX.out.size))
   clear hb
   cases b3 with
   | false =>
    go_wp2
    go_ret
    exact ⟨by simp, (box_below _ _).trans (HX.out.mono (by simp))⟩
   | true =>
    have f5 := box_cell HX.out 5
    simp only [List.getElem?_toArray, List.getElem?_cons_zero, List.getElem?_cons_succ] at f5
    cases b6 with
    | true =>
     have d6 := box_cell HX.out 6
     simp only [List.getElem?_toArray, List.getElem?_cons_zero, List.getElem?_cons_succ] at d6
     go_wp2_with fail
     refine (H5.out _).mono ?_
     rintro e W ⟨rfl, hb⟩
     have HX := Lib.hid (HX.out.trans (hb.mono HX.out.size))
     clear hb
     cases b5 with
     | false =>
      go_wp2
      go_ret
      exact ⟨by simp, (box_below _ _).trans (HX.out.mono (by simp))⟩
     | true =>
      go_wp2
      go_ret
      exact ⟨by simp, (box_below _ _).trans (HX.out.mono (by simp))⟩
    | false =>
     go_wp2_with fail
     refine (H4.out _).mono ?_
     rintro e W ⟨rfl, hb⟩
     have HX := Lib.hid (HX.out.trans (hb.mono HX.out.size))
     clear hb
     cases b4 with
     | false =>
      go_wp2
      go_ret
      exact ⟨by simp, (box_below _ _).trans (HX.out.mono (by simp))⟩
     | true =>
      have e6 := box_cell HX.out 6
      simp only [List.getElem?_toArray, List.getElem?_cons_zero, List.getElem?_cons_succ] at e6
      go_wp2_with fail
      refine (H5.out _).mono ?_
      rintro e W ⟨rfl, hb⟩
      have HX := Lib.hid (HX.out.trans (hb.mono HX.out.size))
      clear hb
      cases b5 with
      | false =>
       go_wp2
       go_ret
       exact ⟨by simp, (box_below _ _).trans (HX.out.mono (by simp))⟩
      | true =>
       go_wp2
       go_ret
       exact ⟨by simp, (box_below _ _).trans (HX.out.mono (by simp))⟩
set_option maxHeartbeats 2000000 in
set_option maxRecDepth 100000 in
theorem kindFits_any (d : Dev) (l : List Atr) (w : World) (hs : Sized d l) : Calls Tryz.prog 121 #[devV d] w (Bel (.bool (kindB d)) w) := by
 have h1 := fun W => ifaceC d.name W hs.nm
 have h2 := fun W => ifaceC d.orig W hs.og
 clear hs
 unfold kindB hasN
 obtain ⟨idx, par, name, orig, sub, drv, ali, kind, num, av⟩ := d
 unfold devV devC
 simp only at h1 h2 ⊢
 generalize ifcB name = b1 at *
 generalize ifcB orig = b2 at *
 have H1 := Lib.hid h1
 have H2 := Lib.hid h2
 clear h1 h2
 by_cases k4 : kind = 4
 ·subst k4
  rw [if_pos rfl]
  go_enter Tryz.func121, Tryz.ntmps121
  go_wp2_with fail
  refine (H1.out _).mono ?_
  rintro e W ⟨rfl, hb⟩
  have HX := Lib.hid hb
  clear hb
  cases b1 with
  | false =>
   go_wp2
   go_ret
   exact ⟨by simp, (box_below _ _).trans (HX.out.mono (by simp))⟩
  | true =>
   have c3 := box_cell HX.out 3
   simp only [List.getElem?_toArray, List.getElem?_cons_zero, List.getElem?_cons_succ] at c3
   go_wp2_with fail
   refine (H2.out _).mono ?_
   rintro e W ⟨rfl, hb⟩
   have HX := Lib.hid (HX.out.trans (hb.mono HX.out.size))
   clear hb
   go_wp2
   go_ret
   exact ⟨by simp, (box_below _ _).trans (HX.out.mono (by simp))⟩
 ·rw [if_neg k4]
  have k4' : (kind == 4) = false := beq_eq_false_iff_ne.2 k4
  clear H1 H2
  by_cases hq : name = orig
  ·subst hq
   by_cases k1 : kind = 1
   ·subst k1
    go_enter Tryz.func121, Tryz.ntmps121
    go_wp2
    go_ret
    exact ⟨by simp, box_below _ _⟩
   ·have k1' : (kind == 1) = false := beq_eq_false_iff_ne.2 k1
    by_cases k2 : kind = 2
    ·subst k2
     go_enter Tryz.func121, Tryz.ntmps121
     go_wp2
     go_ret
     exact ⟨by simp, box_below _ _⟩
    ·have k2' : (kind == 2) = false := beq_eq_false_iff_ne.2 k2
     by_cases k3 : kind = 3
     ·subst k3
      go_enter Tryz.func121, Tryz.ntmps121
      go_wp2
      go_ret
      exact ⟨by simp, box_below _ _⟩
     ·have k3' : (kind == 3) = false := beq_eq_false_iff_ne.2 k3
      go_enter Tryz.func121, Tryz.ntmps121
      go_wp2
      go_ret
      exact ⟨by simp [k1, k2, k3], box_below _ _⟩
  ·have hq' := str_ne hq
   by_cases k1 : kind = 1
   ·subst k1
    go_enter Tryz.func121, Tryz.ntmps121
    go_wp2
    go_ret
    exact ⟨by simp [hq], box_below _ _⟩
   ·have k1' : (kind == 1) = false := beq_eq_false_iff_ne.2 k1
    by_cases k2 : kind = 2
    ·subst k2
     go_enter Tryz.func121, Tryz.ntmps121
     go_wp2
     go_ret
     exact ⟨by simp [hq], box_below _ _⟩
    ·have k2' : (kind == 2) = false := beq_eq_false_iff_ne.2 k2
     by_cases k3 : kind = 3
     ·subst k3
      go_enter Tryz.func121, Tryz.ntmps121
      go_wp2
      go_ret
      exact ⟨by simp [hq], box_below _ _⟩
     ·have k3' : (kind == 3) = false := beq_eq_false_iff_ne.2 k3
      go_enter Tryz.func121, Tryz.ntmps121
      go_wp2
      go_ret
      exact ⟨by simp [k1, k2, k3], box_below _ _⟩
set_option maxHeartbeats 1000000 in
set_option maxRecDepth 100000 in
theorem numberFits_any (d : Dev) (w : World) : Calls Tryz.prog 122 #[devV d] w (Bel (.bool (numB d)) w) := by
 have h1 := fun W => hasNode_any d W
 have h2 := fun W => isNumber_any d.num W
 unfold numB
 obtain ⟨idx, par, name, orig, sub, drv, ali, kind, num, av⟩ := d
 unfold devV devC at *
 simp only at h1 h2 ⊢
 generalize hasN kind = b1 at *
 generalize isNum num = b2 at *
 cases b1 with
 | true =>
  have H1 := Lib.hid h1
  have H2 := Lib.hid h2
  rw [if_pos rfl]
  clear h1 h2
  go_enter Tryz.func122, Tryz.ntmps122
  go_wp2_with fail
  refine (H1.out _).mono ?_
  rintro e W ⟨rfl, hb⟩
  have HX := Lib.hid hb
  clear hb
  have c8 := box_cell HX.out 8
  simp only [List.getElem?_toArray, List.getElem?_cons_zero, List.getElem?_cons_succ] at c8
  go_wp2_with fail
  refine (H2.out _).mono ?_
  rintro e W ⟨rfl, rfl⟩
  go_wp2
  go_ret
  exact ⟨rfl, (box_below _ _).trans (HX.out.mono (by simp))⟩
 | false =>
  have H1 := Lib.hid h1
  have hq : (if false = true then b2 else num == 0) = (num == 0) := rfl
  rw [hq]
  clear h1 h2 hq
  go_enter Tryz.func122, Tryz.ntmps122
  go_wp2_with fail
  refine (H1.out _).mono ?_
  rintro e W ⟨rfl, hb⟩
  have HX := Lib.hid hb
  clear hb
  have c8 := box_cell HX.out 8
  simp only [List.getElem?_toArray, List.getElem?_cons_zero, List.getElem?_cons_succ] at c8
  go_wp2
  go_ret
  exact ⟨rfl, (box_below _ _).trans (HX.out.mono (by simp))⟩
set_option maxHeartbeats 1000000 in
set_option maxRecDepth 100000 in
theorem nodeFits_any (d : Dev) (l : List Atr) (w : World) (hs : Sized d l) (hm : Max w) : Calls Tryz.prog 124 #[devV d] w (Bel (.bool (nodB d)) w) := by
 have h1 := fun W (h : Below w.heap.size w W) => node_any d W (by have := hs.og; omega) (hm.below h)
 have h2 := fun W => linkC (nodeOf d.orig) W (by have := nodeOf_size d.orig; have := hs.og; omega)
 clear hs hm
 unfold nodB
 unfold nodeR at h1
 obtain ⟨idx, par, name, orig, sub, drv, ali, kind, num, av⟩ := d
 unfold devV devC at *
 simp only at h1 h2 ⊢
 generalize hasN kind = b1 at *
 generalize nodeOf orig = nd at *
 generalize lnkB nd = b2 at *
 cases b1 with
 | false =>
  have H1 := Lib.hid h1
  clear h1 h2
  go_enter Tryz.func124, Tryz.ntmps124
  go_wp2_with fail
  refine (H1.out _ (box_below _ _)).mono ?_
  rintro e W ⟨rfl, hb⟩
  have HX := Lib.hid hb
  clear hb
  go_wp2
  go_ret
  exact ⟨by simp, (box_below _ _).trans (HX.out.mono (by simp))⟩
 | true =>
  simp only [if_true] at h1
  have H1 := Lib.hid h1
  have H2 := Lib.hid h2
  clear h1 h2
  go_enter Tryz.func124, Tryz.ntmps124
  go_wp2_with fail
  refine (H1.out _ (box_below _ _)).mono ?_
  rintro e W ⟨rfl, hb⟩
  have HX := Lib.hid hb
  clear hb
  go_wp2_with fail
  refine (H2.out _).mono ?_
  rintro e W ⟨rfl, hb⟩
  have HX := Lib.hid (HX.out.trans (hb.mono HX.out.size))
  clear hb
  go_wp2
  go_ret
  exact ⟨by simp, (box_below _ _).trans (HX.out.mono (by simp))⟩
end Go.Proofs.YtldcediiobfhiaaGreatDoor.De
namespace Go.Proofs.YtldcediiobfhiaaGreatDoor.De
open Go.RowKit
set_option maxHeartbeats 1000000 in
set_option maxRecDepth 100000 in
theorem wrong_any (a b : ByteArray) (w : World) (ha : a.size ≤ 4000000000) (hb : b.size ≤ 4000000000) : Calls Tryz.prog 149 #[.agg #[.string a, .string b]] w (Bel (.bool (wrongA (a, b))) w) := by
 have h1 := fun W => validC a W ha
 have h2 := fun W => textC b W hb
 have he := empF b
 clear ha hb
 unfold wrongA
 simp only
 generalize validB a = b1 at *
 generalize txtB b = b2 at *
 generalize empB b = b3 at *
 have H1 := Lib.hid h1
 have H2 := Lib.hid h2
 clear h1 h2
 have hbx : Below w.heap.size w (w.alloc (.cells #[.string a, .string b] 99)) := box_below _ _
 have Hbx := Lib.hid hbx
 clear hbx
 go_enter Tryz.func149, Tryz.ntmps149
 go_wp2_with fail
 refine (H1.out _).mono ?_
 rintro e W ⟨rfl, hb⟩
 have c1 : W.cell? ⟨w.heap.size, 1, none⟩ = some (.string b) := by rw [hb.cell (p := ⟨w.heap.size, 1, none⟩) (by simp), cell_of_row _ _ _ _ _ _ (heap_last w _)]; rfl
 have HX := Lib.hid hb
 clear hb
 cases b1 with
 | false =>
  go_wp2
  go_ret
  exact ⟨by simp, Hbx.out.trans (HX.out.mono (by simp))⟩
 | true =>
  cases b3 with
  | true =>
   go_wp2
   go_ret
   exact ⟨by simp, Hbx.out.trans (HX.out.mono (by simp))⟩
  | false =>
   go_wp2_with fail
   refine (H2.out _).mono ?_
   rintro e W2 ⟨rfl, hb⟩
   have HX := Lib.hid (HX.out.trans (hb.mono HX.out.size))
   clear hb
   cases b2 with
   | false =>
    go_wp2
    go_ret
    exact ⟨by simp, Hbx.out.trans (HX.out.mono (by simp))⟩
   | true =>
    go_wp2
    go_ret
    exact ⟨by simp, Hbx.out.trans (HX.out.mono (by simp))⟩
set_option maxHeartbeats 1000000 in
set_option maxRecDepth 100000 in
theorem indexFunc_any (sv : Value) (l : List Atr) (w : World) (hl : l.length ≤ 9223372036854775807) (h : Has w sv l) (hs : ∀ a ∈ l, a.1.size ≤ 4000000000 ∧ a.2.size ≤ 4000000000) :
  Calls Tryz.prog 169 #[sv, .func (.func 149) #[] #[]] w fun e w' => ∃ r : Int, e = .returned (.int .i64 r) ∧ decide (r ≥ 0) = l.any wrongA ∧ Below w.heap.size w w' := by
 rcases h with ⟨ad, c, rfl, rfl⟩ | ⟨b, o, c, rfl, hb, hrow⟩
 ·have hz : ¬ ((0 : Int) < ((0 : Nat) : Int)) := by omega
  go_enter Tryz.func169, Tryz.ntmps169
  go_wp2
  go_loopw [8] (fun s8 wx => s8 = .int .i64 0 ∧ w = wx) (fun _ _ => 0)
  case atStart => exact ⟨rfl, rfl⟩
  case round =>
   obtain ⟨rfl, rfl⟩ := hrel
   go_wp2
   go_ret
   exact ⟨-1, rfl, rfl, Below.refl _ _⟩
 ·have HW := Lib.hid hrow
  have HC := Lib.hid (fun a (h : a ∈ l) W => wrong_any a.1 a.2 W (hs a h).1 (hs a h).2)
  obtain ⟨R, hR⟩ : ∃ R, l.any wrongA = R := ⟨_, rfl⟩
  have hT : ∀ (k : Nat) x, l[k]? = some x → wrongA x = true → R = true := fun k x h1 h2 => by rw [← hR]; exact List.any_eq_true.2 ⟨x, List.mem_of_getElem? h1, h2⟩
  have hF : (∀ (k : Nat) x, k < l.length → l[k]? = some x → wrongA x = false) → R = false := fun h => by
   rw [← hR, List.any_eq_false]
   intro x hx
   obtain ⟨k, hk, hkx⟩ := List.getElem_of_mem hx
   rw [h k x hk (by rw [List.getElem?_eq_getElem hk, hkx])]
   simp
  have HT := Lib.hid hT
  have HF := Lib.hid hF
  rw [hR]
  clear hrow hT hF hR hs
  go_enter Tryz.func169, Tryz.ntmps169
  go_wp2
  go_loopw [8] (fun s8 wx => ∃ i : Nat, i ≤ l.length ∧ s8 = .int .i64 (i : Int) ∧ (∀ (k : Nat) x, k < i → l[k]? = some x → wrongA x = false) ∧ Below w.heap.size w wx) (fun s8 _ => l.length - (intOf s8).toNat)
  case atStart => exact ⟨0, by omega, rfl, fun k x hk => absurd hk (Nat.not_lt_zero _), Below.refl _ _⟩
  case round =>
   obtain ⟨i, hi, rfl, hinv, hbl⟩ := hrel
   have Hbl := Lib.hid hbl
   by_cases hlt : i < l.length
   ·have hiz : (i : Int) < (l.length : Int) := by omega
    obtain ⟨x, hx⟩ : ∃ x, l[i]? = some x := ⟨_, List.getElem?_eq_getElem hlt⟩
    obtain ⟨hc0, hc1⟩ := HW.out i x hx
    rw [← hbl.cell (p := ⟨b, o + i * 2, none⟩) hb] at hc0
    rw [← hbl.cell (p := ⟨b, o + i * 2 + 1, none⟩) hb] at hc1
    have hcl := HC.out x (List.mem_of_getElem? hx)
    have hwr : IntKind.i64.wrap ((i : Int) + 1) = ((i + 1 : Nat) : Int) := by rw [IntKind.wrap_i64]; omega
    obtain ⟨x1, x2⟩ := x
    simp only at hc0 hc1 hcl
    have HX := Lib.hid (And.intro hx hinv)
    obtain ⟨q, hq⟩ : ∃ q, wrongA (x1, x2) = q := ⟨_, rfl⟩
    rw [hq] at hcl
    have HCl := Lib.hid hcl
    have Hq := Lib.hid hq
    clear hbl hx hinv hcl hq
    go_wp2_with fail
    refine (HCl.out _).mono ?_
    rintro e W ⟨rfl, hb2⟩
    have Hb2 := Lib.hid (Hbl.out.trans (hb2.mono Hbl.out.size))
    clear hb2
    cases q with
    | true =>
     have hRt := HT.out i _ HX.out.1 Hq.out
     go_wp2
     go_ret
     exact ⟨(i : Int), rfl, by rw [hRt]; simp, Hb2.out⟩
    | false =>
     go_wp2
     refine ⟨⟨i + 1, by omega, rfl, fun k y hk hy => ?_, Hb2.out⟩, by simp [intOf]; omega⟩
     by_cases e : k = i
     ·subst e
      have h1 := HX.out.1
      rw [h1] at hy
      cases hy
      exact Hq.out
     ·exact HX.out.2 k y (by omega) hy
   ·have hiz : ¬ ((i : Int) < (l.length : Int)) := by omega
    have hRf := HF.out (fun k x hk hx => hinv k x (by omega) hx)
    clear hinv hbl
    go_wp2
    go_ret
    exact ⟨-1, rfl, by first | omega | simp [hRf], Hbl.out⟩
set_option maxHeartbeats 400000 in
set_option maxRecDepth 100000 in
theorem containsFunc_any (sv : Value) (l : List Atr) (w : World) (hl : l.length ≤ 9223372036854775807) (h : Has w sv l) (hs : ∀ a ∈ l, a.1.size ≤ 4000000000 ∧ a.2.size ≤ 4000000000) :
  Calls Tryz.prog 151 #[sv, .func (.func 149) #[] #[]] w (Bel (.bool (l.any wrongA)) w) := by
 have H := Lib.hid (indexFunc_any sv l w hl h hs)
 clear h hs hl
 go_enter Tryz.func151, Tryz.ntmps151
 go_wp2_with fail
 refine H.out.mono ?_
 rintro e W ⟨r, rfl, hr, hb⟩
 go_wp2
 go_ret
 exact ⟨by rw [← hr]; rfl, hb⟩
set_option maxHeartbeats 400000 in
set_option maxRecDepth 100000 in
theorem attrsFit_any (sv : Value) (l : List Atr) (w : World) (hl : l.length ≤ 9223372036854775807) (h : Has w sv l) (hs : ∀ a ∈ l, a.1.size ≤ 4000000000 ∧ a.2.size ≤ 4000000000) :
  Calls Tryz.prog 123 #[sv] w (Bel (.bool (attrB l)) w) := by
 have H1 := Lib.hid (sorted_any sv l w hl h)
 have H2 := Lib.hid (fun W (hb : Below w.heap.size w W) => containsFunc_any sv l W hl (h.below hb) hs)
 clear h hs hl
 unfold attrB
 generalize srtB l = b1 at *
 generalize l.any wrongA = b2 at *
 go_enter Tryz.func123, Tryz.ntmps123
 go_wp2_with fail
 refine H1.out.mono ?_
 rintro e W ⟨rfl, hb⟩
 have HX := Lib.hid hb
 clear hb
 cases b1 with
 | false =>
  go_wp2
  go_ret
  exact ⟨by simp, HX.out⟩
 | true =>
  go_wp2_with fail
  refine (H2.out _ HX.out).mono ?_
  rintro e W2 ⟨rfl, hb⟩
  have HX := Lib.hid (HX.out.trans (hb.mono HX.out.size))
  clear hb
  go_wp2
  go_ret
  exact ⟨by simp, HX.out⟩
set_option maxHeartbeats 4000000 in
set_option maxRecDepth 100000 in
theorem check_any (d : Dev) (l : List Atr) (w : World) (hl : l.length ≤ 9223372036854775807) (h : Has w d.av l) (hs : Sized d l) (hm : Max w) : Calls Tryz.prog 85 #[devV d] w (Bel (.int .i64 (checkE d l)) w) := by
 have h1 := fun W => placeFits_any d W
 have h2 := fun W => textsFit_any d l W hs
 have h3 := fun W => kindFits_any d l W hs
 have h4 := fun W => numberFits_any d W
 have h5 := fun W (hb : Below w.heap.size w W) => attrsFit_any d.av l W hl (h.below hb) hs.at_
 have h6 := fun W (hb : Below w.heap.size w W) => nodeFits_any d l W hs (hm.below hb)
 obtain ⟨ad, cc, hav, _⟩ := h.form
 obtain ⟨R, hR⟩ : ∃ R, checkE d l = R := ⟨_, rfl⟩
 rw [hR]
 unfold checkE at hR
 clear hs hm h
 obtain ⟨idx, par, name, orig, sub, drv, ali, kind, num, av⟩ := d
 simp only at hav
 subst hav
 unfold devV devC at *
 simp only at h1 h2 h3 h4 h5 h6 hR ⊢
 generalize placeB _ = b1 at *
 generalize textsB _ = b2 at *
 generalize kindB _ = b3 at *
 generalize numB _ = b4 at *
 generalize attrB l = b5 at *
 generalize nodB _ = b6 at *
 generalize l.length = m at *
 have H1 := Lib.hid h1
 have H2 := Lib.hid h2
 have H3 := Lib.hid h3
 have H4 := Lib.hid h4
 have H5 := Lib.hid h5
 have H6 := Lib.hid h6
 clear h1 h2 h3 h4 h5 h6
 go_enter Tryz.func85, Tryz.ntmps85
 go_wp2_with fail
 refine (H1.out _).mono ?_
 rintro e W ⟨rfl, hb⟩
 have HX := Lib.hid hb
 clear hb
 cases b1 with
 | false =>
  simp only [reduceIte] at hR
  subst hR
  go_wp2
  go_ret
  exact ⟨rfl, (box_below _ _).trans (HX.out.mono (by simp))⟩
 | true =>
  have c0 := box_cell HX.out 0
  have c1 := box_cell HX.out 1
  have c2 := box_cell HX.out 2
  have c3 := box_cell HX.out 3
  have c4 := box_cell HX.out 4
  have c5 := box_cell HX.out 5
  have c6 := box_cell HX.out 6
  have c7 := box_cell HX.out 7
  have c8 := box_cell HX.out 8
  have c9 := box_cell HX.out 9
  simp only [List.getElem?_toArray, List.getElem?_cons_zero, List.getElem?_cons_succ] at c0 c1 c2 c3 c4 c5 c6 c7 c8 c9
  go_wp2_with fail
  refine (H2.out _).mono ?_
  rintro e W ⟨rfl, hb⟩
  have HX := Lib.hid (HX.out.trans (hb.mono HX.out.size))
  clear hb c0 c1 c2 c3 c4 c5 c6 c7 c8 c9
  cases b2 with
  | false =>
   simp only [reduceIte, Bool.true_eq_false] at hR
   subst hR
   go_wp2
   go_ret
   exact ⟨rfl, (box_below _ _).trans (HX.out.mono (by simp))⟩
  | true =>
   have d0 := box_cell HX.out 0
   have d1 := box_cell HX.out 1
   have d2 := box_cell HX.out 2
   have d3 := box_cell HX.out 3
   have d4 := box_cell HX.out 4
   have d5 := box_cell HX.out 5
   have d6 := box_cell HX.out 6
   have d7 := box_cell HX.out 7
   have d8 := box_cell HX.out 8
   have d9 := box_cell HX.out 9
   simp only [List.getElem?_toArray, List.getElem?_cons_zero, List.getElem?_cons_succ] at d0 d1 d2 d3 d4 d5 d6 d7 d8 d9
   go_wp2_with fail
   refine (H3.out _).mono ?_
   rintro e W ⟨rfl, hb⟩
   have HX := Lib.hid (HX.out.trans (hb.mono HX.out.size))
   clear hb d0 d1 d2 d3 d4 d5 d6 d7 d8 d9
   cases b3 with
   | false =>
    simp only [reduceIte, Bool.true_eq_false] at hR
    subst hR
    go_wp2
    go_ret
    exact ⟨rfl, (box_below _ _).trans (HX.out.mono (by simp))⟩
   | true =>
    have c0 := box_cell HX.out 0
    have c1 := box_cell HX.out 1
    have c2 := box_cell HX.out 2
    have c3 := box_cell HX.out 3
    have c4 := box_cell HX.out 4
    have c5 := box_cell HX.out 5
    have c6 := box_cell HX.out 6
    have c7 := box_cell HX.out 7
    have c8 := box_cell HX.out 8
    have c9 := box_cell HX.out 9
    simp only [List.getElem?_toArray, List.getElem?_cons_zero, List.getElem?_cons_succ] at c0 c1 c2 c3 c4 c5 c6 c7 c8 c9
    go_wp2_with fail
    refine (H4.out _).mono ?_
    rintro e W ⟨rfl, hb⟩
    have HX := Lib.hid (HX.out.trans (hb.mono HX.out.size))
    clear hb c0 c1 c2 c3 c4 c5 c6 c7 c8 c9
    cases b4 with
    | false =>
     simp only [reduceIte, Bool.true_eq_false] at hR
     subst hR
     go_wp2
     go_ret
     exact ⟨rfl, (box_below _ _).trans (HX.out.mono (by simp))⟩
    | true =>
     have c0 := box_cell HX.out 0
     have c1 := box_cell HX.out 1
     have c2 := box_cell HX.out 2
     have c3 := box_cell HX.out 3
     have c4 := box_cell HX.out 4
     have c5 := box_cell HX.out 5
     have c6 := box_cell HX.out 6
     have c7 := box_cell HX.out 7
     have c8 := box_cell HX.out 8
     have c9 := box_cell HX.out 9
     simp only [List.getElem?_toArray, List.getElem?_cons_zero, List.getElem?_cons_succ] at c0 c1 c2 c3 c4 c5 c6 c7 c8 c9
     by_cases hm24 : 24 < m
     ·have hm24z : (24 : Int) < (m : Int) := by omega
      simp only [reduceIte, Bool.true_eq_false, hm24] at hR
      subst hR
      go_wp2
      go_ret
      exact ⟨rfl, (box_below _ _).trans (HX.out.mono (by simp))⟩
     ·have hm24z : ¬ ((24 : Int) < (m : Int)) := by omega
      go_wp2_with fail
      refine (H5.out _ ((box_below _ _).trans (HX.out.mono (by simp)))).mono ?_
      rintro e W ⟨rfl, hb⟩
      have HX := Lib.hid (HX.out.trans (hb.mono HX.out.size))
      clear hb c0 c1 c2 c3 c4 c5 c6 c7 c8 c9
      cases b5 with
      | false =>
       simp only [reduceIte, Bool.true_eq_false, hm24] at hR
       subst hR
       go_wp2
       go_ret
       exact ⟨rfl, (box_below _ _).trans (HX.out.mono (by simp))⟩
      | true =>
       have d0 := box_cell HX.out 0
       have d1 := box_cell HX.out 1
       have d2 := box_cell HX.out 2
       have d3 := box_cell HX.out 3
       have d4 := box_cell HX.out 4
       have d5 := box_cell HX.out 5
       have d6 := box_cell HX.out 6
       have d7 := box_cell HX.out 7
       have d8 := box_cell HX.out 8
       have d9 := box_cell HX.out 9
       simp only [List.getElem?_toArray, List.getElem?_cons_zero, List.getElem?_cons_succ] at d0 d1 d2 d3 d4 d5 d6 d7 d8 d9
       go_wp2_with fail
       refine (H6.out _ ((box_below _ _).trans (HX.out.mono (by simp)))).mono ?_
       rintro e W ⟨rfl, hb⟩
       have HX := Lib.hid (HX.out.trans (hb.mono HX.out.size))
       clear hb d0 d1 d2 d3 d4 d5 d6 d7 d8 d9
       cases b6 with
       | false =>
        simp only [reduceIte, Bool.true_eq_false, hm24] at hR
        subst hR
        go_wp2
        go_ret
        exact ⟨rfl, (box_below _ _).trans (HX.out.mono (by simp))⟩
       | true =>
        simp only [reduceIte, Bool.true_eq_false, hm24] at hR
        subst hR
        go_wp2
        go_ret
        exact ⟨rfl, (box_below _ _).trans (HX.out.mono (by simp))⟩
end Go.Proofs.YtldcediiobfhiaaGreatDoor.De
namespace Go.Proofs.YtldcediiobfhiaaGreatDoor.De
open Go.RowKit
set_option maxHeartbeats 400000 in
set_option maxRecDepth 100000 in
theorem refNode_any (d : Dev) (w : World) (hs : d.orig.size < 4294967281) (hm : Max w) : Calls Tryz.prog 69 #[devV d] w (Bel (nodeR d) w) := by
 have hre := fun W (h : Below w.heap.size w W) => replace_any d.orig W hs (hm.below h)
 have HR := Lib.hid hre
 have hx : nodeR d = .tuple #[.string (if hasN d.kind then nodeOf d.orig else ⟨#[]⟩), .bool (hasN d.kind)] := rfl
 rw [hx]
 clear hre hm hx hs
 obtain ⟨idx, par, name, orig, sub, drv, ali, kind, num, av⟩ := d
 unfold devV devC at *
 simp only at HR ⊢
 have hb0 := box_below w (.cells #[.int .i64 idx, .int .i64 par, .string name, .string orig, .string sub, .string drv, .string ali, .int .i64 kind, .int .i64 num, av] 34)
 by_cases k2 : kind = 2
 ·subst k2
  have hk : hasN 2 = true := rfl
  rw [hk, if_pos rfl]
  go_enter Tryz.func69, Tryz.ntmps69
  go_wp2_with fail
  refine (HR.out _ hb0).mono ?_
  rintro e W2 ⟨rfl, hb2⟩
  have Hb2 := Lib.hid (hb0.trans (hb2.mono hb0.size))
  clear hb2
  go_wp2
  go_ret2
  exact ⟨rfl, Hb2.out⟩
 ·have k2' : (kind == 2) = false := beq_eq_false_iff_ne.2 k2
  have k2n : (kind != 2) = true := by rw [bne, k2']; rfl
  by_cases k3 : kind = 3
  ·subst k3
   have hk : hasN 3 = true := rfl
   rw [hk, if_pos rfl]
   go_enter Tryz.func69, Tryz.ntmps69
   go_wp2_with fail
   refine (HR.out _ hb0).mono ?_
   rintro e W2 ⟨rfl, hb2⟩
   have Hb2 := Lib.hid (hb0.trans (hb2.mono hb0.size))
   clear hb2
   go_wp2
   go_ret2
   exact ⟨rfl, Hb2.out⟩
  ·have k3' : (kind == 3) = false := beq_eq_false_iff_ne.2 k3
   have k3n : (kind != 3) = true := by rw [bne, k3']; rfl
   have hk : hasN kind = false := by unfold hasN; rw [k2', k3']; rfl
   have hf : (if false = true then nodeOf orig else (⟨#[]⟩ : ByteArray)) = ⟨#[]⟩ := rfl
   rw [hk, hf]
   clear HR
   go_enter Tryz.func69, Tryz.ntmps69
   go_wp2
   go_ret2
   exact ⟨rfl, hb0⟩
/-- A row of cells within a block. -/
def Seg (W : World) (S o : Nat) (c : Array Value) : Prop := ∀ (j : Nat) v, c[j]? = some v → W.cell? ⟨S, o + j, none⟩ = some v
theorem Seg.below {W W' : World} {S o : Nat} {c : Array Value} {B : Nat} (h : Seg W S o c) (hS : S < B) (hb : Below B W W') : Seg W' S o c := fun j v hv => (hb.cell (p := ⟨S, o + j, none⟩) hS).trans (h j v hv)
end Go.Proofs.YtldcediiobfhiaaGreatDoor.De
