/- A device; Get of both. -/
import Derived.Test.YtljkljnfbcmjdaaGreatDoorKDeD
open Go.Lib renaming hid → qH
set_option maxRecDepth 100000
set_option maxHeartbeats 16000000
namespace Go.Proofs.YtljkljnfbcmjdaaGreatDoor.De
open Go.RowKit
theorem drawn_below {a w : World} {B : Nat} (h : Below B a w) (n : Nat) : Below B a (w.drewN n) := ⟨h.os, h.tape, h.output, h.size, h.block⟩
def getR (n : ByteArray) (l : List Atr) : Value := .tuple #[.string ((getP n l).getD ⟨#[]⟩), .bool (getP n l).isSome]
theorem getP_step (n : ByteArray) (l : List Atr) (i : Nat) (x : Atr) (hx : l[i]? = some x) : getP n (l.drop i) = if x.1 = n then some x.2 else getP n (l.drop (i + 1)) := by
 obtain ⟨h1, h2⟩ := List.getElem?_eq_some_iff.1 hx
 rw [List.drop_eq_getElem_cons h1, h2, getP]
theorem get_any (n : ByteArray) (sv : Value) (l : List Atr) (w : World) (hl : l.length ≤ 9223372036854775807) (h : Has w sv l) : Calls Tryz.prog 102 #[sv, .string n] w (Bel (getR n l) w) := by
 rcases h with ⟨ad, c, rfl, rfl⟩ | ⟨b, o, c, rfl, hb, hrow⟩
 ·have hz : ¬ ((0 : Int) < ((0 : Nat) : Int)) := by omega
  go_enter Tryz.func102, Tryz.ntmps102
  go_wp2
  go_loopw [10] (fun s3 wx => s3 = .int .i64 0 ∧ w = wx) (fun _ _ => 0)
  case atStart => exact ⟨rfl, rfl⟩
  case round =>
   obtain ⟨rfl, rfl⟩ := hrel
   go_wp2
   go_ret2
   exact ⟨rfl, Below.refl _ _⟩
 ·have HW := qH hrow
  clear hrow
  obtain ⟨R, hR⟩ : ∃ R, getR n l = R := ⟨_, rfl⟩
  rw [hR]
  have hfin : ∀ g, getP n l = g → Value.tuple #[.string (g.getD ⟨#[]⟩), .bool g.isSome] = R := fun g h => by rw [← hR, ← h]; rfl
  have HR := qH hfin
  clear hfin hR
  go_enter Tryz.func102, Tryz.ntmps102
  go_wp2
  go_loopw [10] (fun s3 wx => ∃ i : Nat, i ≤ l.length ∧ s3 = .int .i64 (i : Int) ∧ getP n l = getP n (l.drop i) ∧ Below w.heap.size w wx) (fun s3 _ => l.length - (intOf s3).toNat)
  case atStart => exact ⟨0, by omega, rfl, by rw [List.drop_zero], Below.refl _ _⟩
  case round =>
   obtain ⟨i, hi, rfl, hinv, hbl⟩ := hrel
   have Hbl := qH hbl
   by_cases hlt : i < l.length
   ·have hiz : (i : Int) < (l.length : Int) := by omega
    obtain ⟨x, hx⟩ : ∃ x, l[i]? = some x := ⟨_, List.getElem?_eq_getElem (by omega)⟩
    obtain ⟨hc0, hc1⟩ := HW.out i x hx
    rw [← hbl.cell (p := ⟨b, o + i * 2, none⟩) hb] at hc0
    rw [← hbl.cell (p := ⟨b, o + i * 2 + 1, none⟩) hb] at hc1
    rw [getP_step n l i x hx] at hinv
    obtain ⟨x1, x2⟩ := x
    simp only at hc0 hc1 hinv
    have hwr : IntKind.i64.wrap ((i : Int) + 1) = ((i + 1 : Nat) : Int) := by rw [IntKind.wrap_i64]; omega
    clear hbl hx
    by_cases hq : x1 = n
    ·subst hq
     rw [if_pos rfl] at hinv
     have HE := qH (HR.out _ hinv)
     clear hinv HR
     go_wp2
     go_ret2
     exact ⟨congrArg Ending.returned HE.out, (Hbl.out.alloc Hbl.out.size _)⟩
    ·have hq' := str_ne hq
     rw [if_neg hq] at hinv
     have HE := qH hinv
     clear hinv hq
     go_wp2
     exact ⟨⟨i + 1, by omega, rfl, HE.out, (Hbl.out.alloc Hbl.out.size _)⟩, by simp [intOf]; omega⟩
   ·have hiz : ¬ ((i : Int) < (l.length : Int)) := by omega
    rw [List.drop_eq_nil_iff.2 (by omega)] at hinv
    have HE := qH (HR.out _ hinv)
    clear hinv HR hbl
    go_wp2
    go_ret2
    exact ⟨congrArg Ending.returned HE.out, Hbl.out⟩
theorem refGet_any (n : ByteArray) (sv : Value) (l : List Atr) (w : World) (hl : l.length ≤ 9223372036854775807) (h : Has w sv l) : Calls Tryz.prog 56 #[sv, .string n] w (Bel (getR n l) w) := by
 rcases h with ⟨ad, c, rfl, rfl⟩ | ⟨b, o, c, rfl, hb, hrow⟩
 ·have hz : ¬ ((0 : Int) < ((0 : Nat) : Int)) := by omega
  go_enter Tryz.func56, Tryz.ntmps56
  go_wp2
  go_loopw [6] (fun s3 wx => s3 = .int .i64 0 ∧ w = wx) (fun _ _ => 0)
  case atStart => exact ⟨rfl, rfl⟩
  case round =>
   obtain ⟨rfl, rfl⟩ := hrel
   go_wp2
   go_ret2
   exact ⟨rfl, Below.refl _ _⟩
 ·have HW := qH hrow
  clear hrow
  obtain ⟨R, hR⟩ : ∃ R, getR n l = R := ⟨_, rfl⟩
  rw [hR]
  have hfin : ∀ g, getP n l = g → Value.tuple #[.string (g.getD ⟨#[]⟩), .bool g.isSome] = R := fun g h => by rw [← hR, ← h]; rfl
  have HR := qH hfin
  clear hfin hR
  go_enter Tryz.func56, Tryz.ntmps56
  go_wp2
  go_loopw [6] (fun s3 wx => ∃ i : Nat, i ≤ l.length ∧ s3 = .int .i64 (i : Int) ∧ getP n l = getP n (l.drop i) ∧ Below w.heap.size w wx) (fun s3 _ => l.length - (intOf s3).toNat)
  case atStart => exact ⟨0, by omega, rfl, by rw [List.drop_zero], Below.refl _ _⟩
  case round =>
   obtain ⟨i, hi, rfl, hinv, hbl⟩ := hrel
   have Hbl := qH hbl
   by_cases hlt : i < l.length
   ·have hiz : (i : Int) < (l.length : Int) := by omega
    obtain ⟨x, hx⟩ : ∃ x, l[i]? = some x := ⟨_, List.getElem?_eq_getElem (by omega)⟩
    obtain ⟨hc0, hc1⟩ := HW.out i x hx
    rw [← hbl.cell (p := ⟨b, o + i * 2, none⟩) hb] at hc0
    rw [← hbl.cell (p := ⟨b, o + i * 2 + 1, none⟩) hb] at hc1
    rw [getP_step n l i x hx] at hinv
    obtain ⟨x1, x2⟩ := x
    simp only at hc0 hc1 hinv
    have hwr : IntKind.i64.wrap ((i : Int) + 1) = ((i + 1 : Nat) : Int) := by rw [IntKind.wrap_i64]; omega
    clear hbl hx
    by_cases hq : x1 = n
    ·subst hq
     rw [if_pos rfl] at hinv
     have HE := qH (HR.out _ hinv)
     clear hinv HR
     go_wp2
     go_ret2
     exact ⟨congrArg Ending.returned HE.out, Hbl.out⟩
    ·have hq' := str_ne hq
     rw [if_neg hq] at hinv
     have HE := qH hinv
     clear hinv hq
     go_wp2
     exact ⟨⟨i + 1, by omega, rfl, HE.out, Hbl.out⟩, by simp [intOf]; omega⟩
   ·have hiz : ¬ ((i : Int) < (l.length : Int)) := by omega
    rw [List.drop_eq_nil_iff.2 (by omega)] at hinv
    have HE := qH (HR.out _ hinv)
    clear hinv HR hbl
    go_wp2
    go_ret2
    exact ⟨congrArg Ending.returned HE.out, Hbl.out⟩
theorem Has.form {w : World} {v : Value} {l : List Atr} (h : Has w v l) : ∃ a c, v = .slice a l.length c ∧ (l ≠ [] → ∃ b o, a = some ⟨b, o, none⟩ ∧ b < w.heap.size ∧ Row w b o l) := by
 rcases h with ⟨a, c, rfl, rfl⟩ | ⟨b, o, c, rfl, hb, hr⟩
 ·exact ⟨a, c, rfl, fun h => absurd rfl h⟩
 ·exact ⟨_, c, rfl, fun _ => ⟨b, o, rfl, hb, hr⟩⟩
structure Dev where
 idx : Int
 par : Int
 name : ByteArray
 orig : ByteArray
 sub : ByteArray
 drv : ByteArray
 ali : ByteArray
 kind : Int
 num : Int
 av : Value
def devC (d : Dev) : Array Value := #[.int .i64 d.idx, .int .i64 d.par, .string d.name, .string d.orig, .string d.sub, .string d.drv, .string d.ali, .int .i64 d.kind, .int .i64 d.num, d.av]
def devV (d : Dev) : Value := .agg (devC d)
def BoxAt (W : World) (D : Nat) (c : Array Value) : Prop := W.heap[D]? = some (.cells c 40 (0, 0))
theorem BoxAt.cell {W : World} {D : Nat} {c : Array Value} (h : BoxAt W D c) (i : Nat) : W.cell? ⟨D, i, none⟩ = c[i]? := cell_of_row _ _ _ _ _ _ h
theorem BoxAt.frozen {W : World} {D : Nat} {c : Array Value} (h : BoxAt W D c) (i : Nat) : W.frozen? ⟨D, i, none⟩ = false := by
 unfold BoxAt at h
 simp [World.frozen?, h]
theorem BoxAt.set {W : World} {D : Nat} {c : Array Value} (h : BoxAt W D c) (i : Nat) (v : Value) : BoxAt (W.setCell ⟨D, i, none⟩ v) D (c.setIfInBounds i v) := by
 unfold BoxAt at h ⊢
 simp [World.setCell, Array.getElem?_modify, h]
theorem BoxAt.set_other {W : World} {D E : Nat} {c : Array Value} (h : BoxAt W D c) (hne : D ≠ E) (i : Nat) (v : Value) : BoxAt (W.setCell ⟨E, i, none⟩ v) D c := (Below.heap_setCell W ⟨E, i, none⟩ v D hne).trans h
def zeroC : Array Value := #[.int .i64 0, .int .i64 0, .string ⟨#[]⟩, .string ⟨#[]⟩, .string ⟨#[]⟩, .string ⟨#[]⟩, .string ⟨#[]⟩, .int .i64 0, .int .i64 0, .slice none 0 0]
end Go.Proofs.YtljkljnfbcmjdaaGreatDoor.De
