/- Sorted, Get, SameAttrs. Node, and the examples of the chapter. device.Check: its parts and the whole. The reference's Node; what DeviceNodes asks of one device. -/
import Derived.Test.YtljkljnfbcmjdaaGreatDoorKDeH
import Derived.Test.YtljkljnfbcmjdaaGreatDoorKDeD
import Derived.Test.YtljkljnfbcmjdaaGreatDoorKNr
import Derived.Lib.IndexMore
open Go.Lib renaming hid → qH
set_option maxRecDepth 100000
set_option maxHeartbeats 16000000
namespace Go.Proofs.YtljkljnfbcmjdaaGreatDoor.De
open Go.RowKit
theorem refSorted_any (sv : Value) (l : List Atr) (w : World) (hl : l.length ≤ 9223372036854775807) (h : Has w sv l) : Calls Tryz.prog 78 #[sv] w (Bel (.bool (srtB l)) w) := by
 obtain ⟨R, hR⟩ : ∃ R, srtB l = R := ⟨_, rfl⟩
 have hT : (∀ k x y, l[k]? = some x → l[k + 1]? = some y → lt x.1 y.1 = true) → R = true := fun h => by rw [← hR]; exact srtB_true h
 have hF : ∀ k x y, l[k]? = some x → l[k + 1]? = some y → lt x.1 y.1 = false → R = false := fun k x y h1 h2 h3 => by rw [← hR]; exact srtB_false h1 h2 h3
 rw [hR]
 have HT := qH hT
 have HF := qH hF
 clear hT hF hR
 rcases h with ⟨ad, c, rfl, rfl⟩ | ⟨b, o, c, rfl, hb, hrow⟩
 ·obtain rfl := HT.out (fun k x y h => by simp at h)
  have hz : ¬ ((1 : Int) < ((0 : Nat) : Int)) := by omega
  clear HT HF
  go_enter Tryz.func78, Tryz.ntmps78
  go_wp2
  go_loopw [3] (fun s3 wx => s3 = .int .i64 1 ∧ w = wx) (fun _ _ => 0)
  case atStart => exact ⟨rfl, rfl⟩
  case round =>
   obtain ⟨rfl, rfl⟩ := hrel
   go_wp2
   go_ret
   exact ⟨rfl, Below.refl _ _⟩
 ·have HW := qH hrow
  clear hrow
  go_enter Tryz.func78, Tryz.ntmps78
  go_wp2
  go_loopw [3] (fun s3 wx => ∃ i : Nat, (i ≤ l.length) ∧ s3 = .int .i64 ((i + 1 : Nat) : Int) ∧ (∀ k x y, k < i → l[k]? = some x → l[k + 1]? = some y → lt x.1 y.1 = true) ∧ ∃ n, wx = w.drewN n) (fun s3 _ => l.length + 1 - (intOf s3).toNat)
  case atStart => exact ⟨0, by omega, rfl, fun k x y hk => absurd hk (Nat.not_lt_zero _), 0, rfl⟩
  case round =>
   obtain ⟨i, hi, rfl, hinv, n, rfl⟩ := hrel
   by_cases hlt : i + 1 < l.length
   ·have hiz : ((i + 1 : Nat) : Int) < (l.length : Int) := by omega
    have hiz2 : (i : Int) < (l.length : Int) := by omega
    obtain ⟨x, hx⟩ : ∃ x, l[i]? = some x := ⟨_, List.getElem?_eq_getElem (by omega)⟩
    obtain ⟨y, hy⟩ : ∃ y, l[i + 1]? = some y := ⟨_, List.getElem?_eq_getElem hlt⟩
    have hc0 := (HW.out i x hx).1
    have hc1 := (HW.out (i + 1) y hy).1
    have hwr : IntKind.i64.wrap (((i + 1 : Nat) : Int) - 1) = (i : Int) := by rw [IntKind.wrap_i64]; omega
    have hwr2 : IntKind.i64.wrap (((i + 1 : Nat) : Int) + 1) = ((i + 1 + 1 : Nat) : Int) := by rw [IntKind.wrap_i64]; omega
    have HI := qH hinv
    cases hxy : lt x.1 y.1 with
    | true =>
     have hxy' : Op.bytesLess x.1.toList y.1.toList = true := hxy
     have HX := qH (And.intro hx (And.intro hy hxy))
     clear hinv hx hy hxy
     go_wp2
     go_quiet (fail)
     go_wp2
     refine ⟨⟨i + 1, by omega, rfl, fun k u v hk hu hv => ?_, _, rfl⟩, by simp [intOf]; omega⟩
     by_cases e : k = i
     ·subst e
      obtain ⟨h1, h2, h3⟩ := HX.out
      rw [h1] at hu
      rw [h2] at hv
      cases hu
      cases hv
      exact h3
     ·exact HI.out k u v (by omega) hu hv
    | false =>
     have hxy' : Op.bytesLess x.1.toList y.1.toList = false := hxy
     obtain rfl := HF.out i x y hx hy hxy
     clear hinv hx hy hxy HT HF
     go_wp2
     go_quiet (fail)
     go_wp2
     go_ret
     exact ⟨rfl, drawn_below (drawn_below (Below.refl _ _) _) _⟩
   ·have hiz : ¬ (((i + 1 : Nat) : Int) < (l.length : Int)) := by omega
    obtain rfl := HT.out (fun k x y hx hy => hinv k x y (by have := (List.getElem?_eq_some_iff.1 hy).1; omega) hx hy)
    clear HT HF hinv
    go_wp2
    go_ret
    exact ⟨rfl, drawn_below (Below.refl _ _) _⟩
end Go.Proofs.YtljkljnfbcmjdaaGreatDoor.De
namespace Go.Proofs.YtljkljnfbcmjdaaGreatDoor.De
open Go.RowKit
def Max (w : World) : Prop := ∃ m : Int, w.cell? ⟨0, 0, none⟩ = some (.int .i64 m)
theorem Max.pos {w : World} (h : Max w) : 0 < w.heap.size := by
 obtain ⟨m, h⟩ := h
 exact World.block_lt_of_cell? _ _ h
theorem Max.below {w w' : World} (h : Max w) (hb : Below w.heap.size w w') : Max w' := by
 have hp := h.pos
 obtain ⟨m, h⟩ := h
 exact ⟨m, (hb.cell (p := ⟨0, 0, none⟩) hp).trans h⟩
def nodeOf (s : ByteArray) : ByteArray := ⟨(Lib.replaceAll s.data.toList [33] [47]).toArray⟩
def hasN (k : Int) : Bool := k == 2 || k == 3
def nodeR (d : Dev) : Value := .tuple #[.string (if hasN d.kind then nodeOf d.orig else ⟨#[]⟩), .bool (hasN d.kind)]
theorem replace_any (s : ByteArray) (w : World) (hs : s.size < 4294967281) (hm : Max w) : Calls Tryz.prog 94 #[.string s, .string ⟨#[33]⟩, .string ⟨#[47]⟩] w (Bel (.string (nodeOf s)) w) := by
 obtain ⟨m, hm⟩ := hm
 have h1 : (1 : Nat) ≤ (⟨#[33]⟩ : ByteArray).size := Nat.le_refl _
 have hmul := Lib.countB_mul_le ⟨#[33]⟩ h1 s.size s (Nat.le_refl _)
 have e1 : (⟨#[33]⟩ : ByteArray).size = 1 := rfl
 have e2 : (⟨#[47]⟩ : ByteArray).size = 1 := rfl
 rw [e1] at hmul
 exact Tryz.strings_ReplaceAll s ⟨#[33]⟩ ⟨#[47]⟩ m w hs hm h1 (by rw [e2]; omega)
end Go.Proofs.YtljkljnfbcmjdaaGreatDoor.De
namespace Go.Proofs.YtljkljnfbcmjdaaGreatDoor.De
open Go.RowKit
def validB (s : ByteArray) : Bool := Nm.nameB Nm.NameSet s.data.toList
def txtB (s : ByteArray) : Bool := Nm.textB s.data.toList
def ifcB (s : ByteArray) : Bool := Nm.ifaceB s.data.toList
def lnkB (s : ByteArray) : Bool := Nm.linkB s.data.toList
def isNum (n : Int) : Bool := decide (1 ≤ n) && decide (n ≤ 1073741824)
def empB (s : ByteArray) : Bool := decide (s = ⟨#[]⟩)
def placeB (d : Dev) : Bool := isNum d.idx && ((d.par == 0 || isNum d.par) && !(d.par == d.idx))
def textsB (d : Dev) : Bool := validB d.name && (validB d.orig && (validB d.sub && ((empB d.drv || validB d.drv) && txtB d.ali)))
def kindB (d : Dev) : Bool := if d.kind = 4 then ifcB d.name && ifcB d.orig else (d.kind == 1 || hasN d.kind) && decide (d.name = d.orig)
def numB (d : Dev) : Bool := if hasN d.kind then isNum d.num else d.num == 0
def wrongA (a : Atr) : Bool := !validB a.1 || (empB a.2 || !txtB a.2)
def attrB (l : List Atr) : Bool := srtB l && !l.any wrongA
def nodB (d : Dev) : Bool := !hasN d.kind || lnkB (nodeOf d.orig)
def checkE (d : Dev) (l : List Atr) : Int :=
 if placeB d = false then 32 else if textsB d = false then 30 else if kindB d = false then 31 else if numB d = false then 32
 else if 24 < l.length then 34 else if attrB l = false then 33 else if nodB d = false then 30 else 0
structure Sized (d : Dev) (l : List Atr) : Prop where
 nm : d.name.size ≤ 4000000000
 og : d.orig.size ≤ 4000000000
 sb : d.sub.size ≤ 4000000000
 dr : d.drv.size ≤ 4000000000
 al : d.ali.size ≤ 4000000000
 at_ : ∀ a ∈ l, a.1.size ≤ 4000000000 ∧ a.2.size ≤ 4000000000
theorem empF (s : ByteArray) : s.toList.isEmpty = empB s := by
 unfold empB
 by_cases h : s = ⟨#[]⟩
 ·rw [str_empty h, decide_eq_true h]
 ·rw [str_full h, decide_eq_false h]
theorem replaceK_len : ∀ (k : Nat) (s : List UInt8), (Lib.replaceK [33] [47] k s).length ≤ s.length
 | 0, _ => Nat.le_refl _
 | k + 1, s => by
  rw [Lib.replaceK]
  split
  ·exact Nat.le_refl _
  ·rename_i h
   have hne : Lib.index s [33] ≠ -1 := fun e => h (by simp [e])
   have hge := Lib.index_ge s [33]
   have hr := Lib.index_room s [33] (by omega)
   have ih := replaceK_len k (s.drop ((Lib.index s [33]).toNat + [(33 : UInt8)].length))
   simp only [List.length_append, List.length_take, List.length_drop, List.length_cons, List.length_nil] at ih hr ⊢
   omega
theorem nodeOf_size (s : ByteArray) : (nodeOf s).size ≤ s.size := by
 unfold nodeOf Lib.replaceAll Lib.replace
 rw [Lib.size_eq, Lib.size_eq s]
 show (if ([33] : List UInt8) == [47] then s.data.toList else _).length ≤ _
 rw [if_neg (by decide)]
 exact replaceK_len _ _
theorem box_below (w : World) (o : Obj) : Below w.heap.size w (w.alloc o) := (Below.refl _ w).alloc (Nat.le_refl _) _
theorem box_cell {w W : World} {c : Array Value} (hb : Below (w.alloc (.cells c 40)).heap.size (w.alloc (.cells c 40)) W) (i : Nat) : W.cell? ⟨w.heap.size, i, none⟩ = c[i]? := by
 rw [hb.cell (p := ⟨w.heap.size, i, none⟩) (by simp), cell_of_row _ _ _ _ _ _ (heap_last w _)]
end Go.Proofs.YtljkljnfbcmjdaaGreatDoor.De
namespace Go.Proofs.YtljkljnfbcmjdaaGreatDoor.De
open Go.RowKit
theorem refNode_any (d : Dev) (w : World) (hs : d.orig.size < 4294967281) (hm : Max w) : Calls Tryz.prog 77 #[devV d] w (Bel (nodeR d) w) := by
 have hre := fun W (h : Below w.heap.size w W) => replace_any d.orig W hs (hm.below h)
 have HR := qH hre
 have hx : nodeR d = .tuple #[.string (if hasN d.kind then nodeOf d.orig else ⟨#[]⟩), .bool (hasN d.kind)] := rfl
 rw [hx]
 clear hre hm hx hs
 obtain ⟨idx, par, name, orig, sub, drv, ali, kind, num, av⟩ := d
 unfold devV devC at *
 simp only at HR ⊢
 have hb0 := box_below w (.cells #[.int .i64 idx, .int .i64 par, .string name, .string orig, .string sub, .string drv, .string ali, .int .i64 kind, .int .i64 num, av] 40)
 by_cases k2 : kind = 2
 ·subst k2
  have hk : hasN 2 = true := rfl
  rw [hk, if_pos rfl]
  go_enter Tryz.func77, Tryz.ntmps77
  go_wp2_with fail
  refine (HR.out _ hb0).mono ?_
  rintro e W2 ⟨rfl, hb2⟩
  have Hb2 := qH (hb0.trans (hb2.mono hb0.size))
  clear hb2
  go_wp2
  go_ret2
  exact ⟨rfl, Hb2.out⟩
 ·have k2' : (kind == 2) = false := beq_eq_false_iff_ne.2 k2
  have k2n : (kind != 2) = true := by rw [bne, k2']; rfl
  by_cases k3 : kind = 3
  ·subst k3
   have hk : hasN 3 = true := rfl
   rw [hk, if_pos rfl]
   go_enter Tryz.func77, Tryz.ntmps77
   go_wp2_with fail
   refine (HR.out _ hb0).mono ?_
   rintro e W2 ⟨rfl, hb2⟩
   have Hb2 := qH (hb0.trans (hb2.mono hb0.size))
   clear hb2
   go_wp2
   go_ret2
   exact ⟨rfl, Hb2.out⟩
  ·have k3' : (kind == 3) = false := beq_eq_false_iff_ne.2 k3
   have k3n : (kind != 3) = true := by rw [bne, k3']; rfl
   have hk : hasN kind = false := by unfold hasN; rw [k2', k3']; rfl
   have hf : (if false = true then nodeOf orig else (⟨#[]⟩ : ByteArray)) = ⟨#[]⟩ := rfl
   rw [hk, hf]
   clear HR
   go_enter Tryz.func77, Tryz.ntmps77
   go_wp2
   go_ret2
   exact ⟨rfl, hb0⟩
def Seg (W : World) (S o : Nat) (c : Array Value) : Prop := ∀ (j : Nat) v, c[j]? = some v → W.cell? ⟨S, o + j, none⟩ = some v
theorem Seg.below {W W' : World} {S o : Nat} {c : Array Value} {B : Nat} (h : Seg W S o c) (hS : S < B) (hb : Below B W W') : Seg W' S o c := fun j v hv => (hb.cell (p := ⟨S, o + j, none⟩) hS).trans (h j v hv)
end Go.Proofs.YtljkljnfbcmjdaaGreatDoor.De
