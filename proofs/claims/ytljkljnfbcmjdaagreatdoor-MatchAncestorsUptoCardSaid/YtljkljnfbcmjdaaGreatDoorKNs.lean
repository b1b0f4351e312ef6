/- A range over an iterator that keeps its own state in a boxed variable: the law for the caller. Written for strings.SplitSeq. strings.SplitSeq at a separator of one byte: what its iterator hands out. Which texts are paths: a walk through a range over strings.SplitSeq. Which texts are names of links. -/
import Derived.RangeFuncNested
import Derived.RangeFuncBound
import Derived.RangeFuncCalls
import Derived.RangeFuncLeaves
import Derived.Test.YtljkljnfbcmjdaaGreatDoorKNa
import Derived.Test.YtljkljnfbcmjdaaGreatDoorShelf
import Derived.WalkKit
import Derived.OwnWalkIn
import Derived.TacticsIn
import Derived.TacticsInMore
import Derived.LoopNIn
import Derived.LoopIn
import Derived.RegionIn
import Derived.Shelf.RegionOpen
import Derived.RangeFuncBox
namespace Go.Proofs.YtljkljnfbcmjdaaGreatDoor.Nm
open Go.RowKit
variable {F : Fence} {n : Nat} {P : Program}
end Go.Proofs.YtljkljnfbcmjdaaGreatDoor.Nm
namespace Go.Proofs.YtljkljnfbcmjdaaGreatDoor.Nm
open Go.RowKit Go.Shelf
attribute [local go_sem] Oper.semAt_some
/-- The pieces of l between the bytes c. -/
def pieces (c : UInt8) : List UInt8 → List (List UInt8)
 | [] => [[]]
 | x :: r => if x = c then [] :: pieces c r else
  match pieces c r with
  | [] => [[x]]
  | p :: ps => (x :: p) :: ps
theorem pieces_none (c : UInt8) : ∀ l, Lib.indexByte l c < 0 → pieces c l = [l]
 | [], _ => rfl
 | x :: r, h => by
  by_cases hx : x = c
  ·subst hx; simp [Lib.indexByte] at h
  ·have hr : Lib.indexByte r c < 0 := by
    unfold Lib.indexByte at h
    rw [if_neg (by simpa using hx)] at h
    split at h
    ·rename_i h1; have := eq_of_beq h1; omega
    ·have := Lib.indexByte_ge r c; omega
   rw [pieces, if_neg hx, pieces_none c r hr]
theorem pieces_some (c : UInt8) : ∀ l (o : Nat), Lib.indexByte l c = (o : Int) → pieces c l = l.take o :: pieces c (l.drop (o + 1))
 | [], o, h => by simp [Lib.indexByte] at h
 | x :: r, o, h => by
  by_cases hx : x = c
  ·subst hx
   simp [Lib.indexByte] at h
   obtain rfl : o = 0 := by omega
   simp [pieces]
  ·unfold Lib.indexByte at h
   rw [if_neg (by simpa using hx)] at h
   split at h
   ·omega
   ·rename_i h1
    have h2 := Lib.indexByte_ge r c
    have h3 : Lib.indexByte r c ≠ -1 := by simpa using h1
    obtain ⟨k, rfl⟩ : ∃ k, o = k + 1 := ⟨o - 1, by omega⟩
    rw [pieces, if_neg hx, pieces_some c r k (by omega)]
    simp
def piecesB (c : UInt8) (s : ByteArray) : List ByteArray := (pieces c s.data.toList).map fun p => ⟨p.toArray⟩
theorem toArray_toList (s : ByteArray) : (⟨s.data.toList.toArray⟩ : ByteArray) = s := by cases s; simp
theorem piecesB_none (c : UInt8) (s : ByteArray) (h : Lib.indexByte s.data.toList c < 0) : piecesB c s = [s] := by
 unfold piecesB
 rw [pieces_none c _ h]
 simp only [List.map_cons, List.map_nil, toArray_toList]
theorem piecesB_some (c : UInt8) (s : ByteArray) (o : Nat) (h : Lib.indexByte s.data.toList c = (o : Int)) : piecesB c s = s.extract 0 o :: piecesB c (s.extract (o + 1) s.size) := by
 unfold piecesB
 rw [pieces_some c _ o h, Lib.extract_to_end, Lib.extract_eq s 0 o]
 simp
/-- The three boxes of an iterator of SplitSeq, laid at n0. -/
structure Boxes (n0 : Nat) (c : UInt8) (r : ByteArray) (W : World) : Prop where
 s : W.cell? ⟨n0, 0, none⟩ = some (.string r)
 f : W.frozen? ⟨n0, 0, none⟩ = false
 sep : W.cell? ⟨n0 + 1, 0, none⟩ = some (.string ⟨#[c]⟩)
 save : W.cell? ⟨n0 + 2, 0, none⟩ = some (.int .i64 0)
def KpBox (n0 : Nat) (A B : World) : Prop := ∀ k, n0 ≤ k → k < n0 + 3 → B.heap[k]? = A.heap[k]?
theorem Boxes.kept {n0 : Nat} {c : UInt8} {r : ByteArray} {A B : World} (h : Boxes n0 c r A) (k : KpBox n0 A B) : Boxes n0 c r B :=
 ⟨(World.cell?_of_block (k n0 (by omega) (by omega))).trans h.s, (World.frozen?_of_block (k n0 (by omega) (by omega))).trans h.f,
  (World.cell?_of_block (k (n0 + 1) (by omega) (by omega))).trans h.sep, (World.cell?_of_block (k (n0 + 2) (by omega) (by omega))).trans h.save⟩
theorem Boxes.set {n0 : Nat} {c : UInt8} {r : ByteArray} {A : World} (h : Boxes n0 c r A) (r' : ByteArray) : Boxes n0 c r' (A.setCell ⟨n0, 0, none⟩ (.string r')) := by
 refine ⟨World.cell?_setCell_same' _ _ _ (by rw [h.s]; rfl), by rw [World.frozen?_setCell]; exact h.f, ?_, ?_⟩
 ·exact (World.cell?_of_block (Below.heap_setCell _ _ _ _ (by simp))).trans h.sep
 ·exact (World.cell?_of_block (Below.heap_setCell _ _ _ _ (by simp))).trans h.save
end Go.Proofs.YtljkljnfbcmjdaaGreatDoor.Nm
namespace Go.Proofs.YtljkljnfbcmjdaaGreatDoor.Nm
open Go.RowKit Go.Shelf
attribute [local go_sem] Oper.semAt_some
/-- All blocks of ws but block m lie as they lay. -/
structure Around (m : Nat) (ws W : World) : Prop where
 os : W.os = ws.os
 tape : W.tape = ws.tape
 output : W.output = ws.output
 size : ws.heap.size ≤ W.heap.size
 block : ∀ k, k < ws.heap.size → k ≠ m → W.heap[k]? = ws.heap[k]?
theorem Around.refl (m : Nat) (ws : World) : Around m ws ws := ⟨rfl, rfl, rfl, Nat.le_refl _, fun _ _ _ => rfl⟩
theorem Around.set {m : Nat} {ws W : World} (h : Around m ws W) (v : Value) : Around m ws (W.setCell ⟨m, 0, none⟩ v) :=
 ⟨h.os, h.tape, h.output, by simpa [World.setCell] using h.size, fun k hk hm => (Below.heap_setCell _ _ _ _ (by exact hm)).trans (h.block k hk hm)⟩
theorem Around.drewN {m : Nat} {ws W : World} (h : Around m ws W) (n : Nat) : Around m ws (W.drewN n) := ⟨h.os, h.tape, h.output, h.size, h.block⟩
theorem Around.own {β : Type} {B : Nat} (p : β → Prop) (m : Nat) (ws : World) (hB : ws.heap.size ≤ B) : OwnFrom B (fun s W => p s ∧ Around m ws W) := by
 rintro s A C row ⟨hp, hA⟩ hg hr
 exact ⟨hp, hg.os.trans hA.os, hg.tape.trans hA.tape, hg.output.trans hA.output, Nat.le_trans hA.size hg.size, fun k hk hm =>
  (hg.block k (Nat.lt_of_lt_of_le hk hA.size) (fun e => by have := (hr k e.symm).1; omega)).trans (hA.block k hk hm)⟩
theorem Around.below {m B : Nat} {ws W : World} (h : Around m ws W) (hm : B ≤ m) (hB : B ≤ ws.heap.size) : Below B ws W :=
 ⟨h.os, h.tape, h.output, h.size, fun k hk => h.block k (by omega) (by omega)⟩
theorem Around.cell {m : Nat} {ws W : World} (h : Around m ws W) {a : Addr} (hk : a.block < ws.heap.size) (hm : a.block ≠ m) : W.cell? a = ws.cell? a := World.cell?_of_block (h.block _ hk hm)
theorem Around.frozen {m : Nat} {ws W : World} (h : Around m ws W) {a : Addr} (hk : a.block < ws.heap.size) (hm : a.block ≠ m) : W.frozen? a = ws.frozen? a := World.frozen?_of_block (h.block _ hk hm)
theorem pieces_len (c : UInt8) : ∀ l, ∀ p ∈ pieces c l, p.length ≤ l.length
 | [], p, h => by simp [pieces] at h; subst h; simp
 | x :: r, p, h => by
  have ih := pieces_len c r
  unfold pieces at h
  split at h
  ·simp only [List.mem_cons] at h
   rcases h with rfl | h
   ·simp
   ·have := ih p h; simp; omega
  ·split at h
   ·simp at h; subst h; simp
   ·rename_i q qs hq
    rw [hq] at ih
    simp only [List.mem_cons] at h
    rcases h with rfl | h
    ·have := ih q (List.mem_cons_self ..); simp; omega
    ·have := ih p (List.mem_cons_of_mem _ h); simp; omega
theorem piecesB_size {c : UInt8} {s x : ByteArray} (h : x ∈ piecesB c s) : x.size ≤ s.size := by
 obtain ⟨p, hp, rfl⟩ := List.mem_map.1 h
 have := pieces_len c _ p hp
 rw [← Lib.size_eq] at this
 show p.toArray.size ≤ s.size
 rw [List.size_toArray]
 exact this
theorem piecesB_all (c : UInt8) (s : ByteArray) (f : List UInt8 → Bool) : ((piecesB c s).all fun x => f x.data.toList) = (pieces c s.data.toList).all f := by
 simp [piecesB, List.all_map, Function.comp_def]
end Go.Proofs.YtljkljnfbcmjdaaGreatDoor.Nm
namespace Go.Proofs.YtljkljnfbcmjdaaGreatDoor.Nm
open Go.RowKit Go.Shelf
attribute [local go_sem] Oper.semAt_some
def linkPart (l : List UInt8) : Bool := !l.isEmpty && !isDotsB l && allIn LinkSet l
def linkB (l : List UInt8) : Bool := decide (l.length ≤ 256) && (pieces 47 l).all linkPart
end Go.Proofs.YtljkljnfbcmjdaaGreatDoor.Nm
