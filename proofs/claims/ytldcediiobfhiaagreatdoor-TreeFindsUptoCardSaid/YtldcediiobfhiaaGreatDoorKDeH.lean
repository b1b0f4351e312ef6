/- A device; Get of both. -/
import Derived.Test.YtldcediiobfhiaaGreatDoorKDeD
namespace Go.Proofs.YtldcediiobfhiaaGreatDoor.De
open Go.RowKit
theorem drawn_below {a w : World} {B : Nat} (h : Below B a w) (n : Nat) : Below B a (w.drewN n) := ⟨h.os, h.tape, h.output, h.size, h.block⟩
theorem Has.form {w : World} {v : Value} {l : List Atr} (h : Has w v l) : ∃ a c, v = .slice a l.length c ∧ (l ≠ [] → ∃ b o, a = some ⟨b, o, none⟩ ∧ b < w.heap.size ∧ Row w b o l) := by
 rcases h with ⟨a, c, rfl, rfl⟩ | ⟨b, o, c, rfl, hb, hr⟩
 ·exact ⟨a, c, rfl, fun h => absurd rfl h⟩
 ·exact ⟨_, c, rfl, fun _ => ⟨b, o, rfl, hb, hr⟩⟩
/-- A device. -/
structure Dev where
 idx : Int
 par : Int
 name : ByteArray
 orig : ByteArray
 sub : ByteArray
 drv : ByteArray
 ali : ByteArray
 kind : Int
 num : Int
 av : Value
def devC (d : Dev) : Array Value := #[.int .i64 d.idx, .int .i64 d.par, .string d.name, .string d.orig, .string d.sub, .string d.drv, .string d.ali, .int .i64 d.kind, .int .i64 d.num, d.av]
def devV (d : Dev) : Value := .agg (devC d)
/-- A device in a block of its own. -/
def BoxAt (W : World) (D : Nat) (c : Array Value) : Prop := W.heap[D]? = some (.cells c 34 (0, 0))
theorem BoxAt.cell {W : World} {D : Nat} {c : Array Value} (h : BoxAt W D c) (i : Nat) : W.cell? ⟨D, i, none⟩ = c[i]? := cell_of_row _ _ _ _ _ _ h
theorem BoxAt.frozen {W : World} {D : Nat} {c : Array Value} (h : BoxAt W D c) (i : Nat) : W.frozen? ⟨D, i, none⟩ = false := by
 unfold BoxAt at h
 simp [World.frozen?, h]
theorem BoxAt.set {W : World} {D : Nat} {c : Array Value} (h : BoxAt W D c) (i : Nat) (v : Value) : BoxAt (W.setCell ⟨D, i, none⟩ v) D (c.setIfInBounds i v) := by
 unfold BoxAt at h ⊢
 simp [World.setCell, Array.getElem?_modify, h]
theorem BoxAt.set_other {W : World} {D E : Nat} {c : Array Value} (h : BoxAt W D c) (hne : D ≠ E) (i : Nat) (v : Value) : BoxAt (W.setCell ⟨E, i, none⟩ v) D c := (Below.heap_setCell W ⟨E, i, none⟩ v D hne).trans h
def zeroC : Array Value := #[.int .i64 0, .int .i64 0, .string ⟨#[]⟩, .string ⟨#[]⟩, .string ⟨#[]⟩, .string ⟨#[]⟩, .string ⟨#[]⟩, .int .i64 0, .int .i64 0, .slice none 0 0]
end Go.Proofs.YtldcediiobfhiaaGreatDoor.De
