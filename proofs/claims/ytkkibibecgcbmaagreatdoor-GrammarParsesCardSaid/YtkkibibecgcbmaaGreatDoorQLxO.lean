/- LxO -/
import Derived.Test.YtkkibibecgcbmaaGreatDoorQLx
namespace Go.Proofs.YtkkibibecgcbmaaGreatDoor.Lx
open Go.RowKit
theorem pieces_no : ∀ s : List UInt8, Lib.index s [10] = -1 → piecesL s = [s]
 | [], _ => rfl
 | b :: r, h => by
  rw [index_cons] at h
  by_cases hb : b = 10
  ·rw [if_pos hb] at h; omega
  ·rw [if_neg hb] at h
   have hr : Lib.index r [10] = -1 := by
    by_cases hm : Lib.index r [10] = -1
    ·exact hm
    ·have hge := Lib.index_ge r [10]
     rw [show (Lib.index r [10] == -1) = false by simpa using hm, if_neg Bool.false_ne_true] at h
     omega
   exact piecesL_cons hb (pieces_no r hr)
theorem pieces_cut : ∀ s : List UInt8, Lib.index s [10] ≠ -1 → piecesL s = (cutL s).1 :: piecesL (cutL s).2
 | [], h => absurd rfl h
 | b :: r, h => by
  by_cases hb : b = 10
  ·rw [hb, piecesL_feed, cutL_feed]
  ·rw [index_cons, if_neg hb] at h
   have hr : Lib.index r [10] ≠ -1 := by
    intro hm
    rw [hm] at h
    exact h rfl
   rw [cutL_cons hb]
   exact piecesL_cons hb (pieces_cut r hr)
theorem split_pieces : ∀ (k : Nat) (s : List UInt8), Lib.count s [10] = k → Lib.splitK [10] 0 k s = piecesL s
 | 0, s, h => by
  have hi : Lib.index s [10] = -1 := by
   have hge := Lib.index_ge s [10]
   by_cases hm : Lib.index s [10] = -1
   ·exact hm
   ·obtain ⟨i, hi⟩ : ∃ i : Nat, Lib.index s [10] = i := ⟨(Lib.index s [10]).toNat, by omega⟩
    have := Lib.count_hit (by simp) hi
    omega
  rw [pieces_no s hi]
  rfl
 | k + 1, s, h => by
  have hge := Lib.index_ge s [10]
  have hm : Lib.index s [10] ≠ -1 := fun e => by rw [Lib.count_miss e] at h; omega
  obtain ⟨i, hi⟩ : ∃ i : Nat, Lib.index s [10] = i := ⟨(Lib.index s [10]).toNat, by omega⟩
  have hc := Lib.count_hit (by simp) hi
  obtain ⟨c1, c2⟩ := cut_eq s
  have hcut : Lib.cut s [10] = (s.take i, s.drop (i + 1), true) := by
   unfold Lib.cut
   rw [hi, if_pos (by omega)]
   rfl
  rw [hcut] at c1 c2
  simp only at c1 c2
  rw [pieces_cut s hm, ← c1, ← c2, Lib.splitK, show (Lib.index s [10] == -1) = false by simpa using hm, if_neg Bool.false_ne_true, hi, Int.toNat_natCast, Nat.add_zero]
  have hd : Lib.count (s.drop (i + [(10 : UInt8)].length)) [10] = k := by omega
  rw [split_pieces k _ hd]
  rfl
def SRow (w : World) (A : Nat) (l : List (List UInt8)) : Prop := ∀ (j : Nat) p, l[j]? = some p → w.cell? ⟨A, j, none⟩ = some (.string (bs p))
theorem SRow.kp {w w' : World} {A : Nat} {l : List (List UInt8)} (h : SRow w A l) (hA : A < w.heap.size) (hk : Kp [] w w') : SRow w' A l := fun j p hp => by
 have := h j p hp
 simp only [World.cell?, hk.block A hA (by simp)] at this ⊢
 exact this
theorem split_any (s : List UInt8) (w : World) (hm : Max w) (hl : s.length ≤ 1000000000) : Calls Tryz.prog 43 #[.string (bs s), .string ⟨#[10]⟩] w fun r w' =>
  r = .returned (.slice (some ⟨w.heap.size, 0, none⟩) (piecesL s).length (piecesL s).length) ∧ SRow w' w.heap.size (piecesL s) ∧ Kp [] w w' ∧ w'.heap.size = w.heap.size + 1 := by
 obtain ⟨m, hm⟩ := hm
 have h := Tryz.strings_Split (bs s) ⟨#[10]⟩ m w (by rw [bs_size]; omega) hm (by decide)
 have hc : Lib.countB (bs s) ⟨#[10]⟩ = Lib.count s [10] := rfl
 have hd := Lib.splitB_data ⟨#[10]⟩ 0 (Lib.countB (bs s) ⟨#[10]⟩) (bs s)
 rw [hc, bs_data, show (⟨#[10]⟩ : ByteArray).data.toList = [10] from rfl, split_pieces _ s rfl] at hd
 have hv : (Lib.splitB ⟨#[10]⟩ 0 (Lib.count s [10]) (bs s)).map Value.string = (piecesL s).map fun p => .string (bs p) := by
  rw [← hd, List.map_map]
  refine List.map_congr_left fun x _ => ?_
  show Value.string x = .string (bs x.data.toList)
  rw [bs_of]
 have hn : Lib.count s [10] + 1 = (piecesL s).length := by rw [piecesL_count, Lib.count_one]
 rw [hc, hv, hn] at h
 refine h.mono fun r w' ⟨h1, h2⟩ => ⟨h1, ?_, by rw [h2]; exact (Kp.refl [] w).alloc _, by rw [h2]; simp⟩
 intro j p hp
 rw [h2, cell_of_row _ _ _ _ _ _ (heap_alloc_last w _)]
 simp [hp]
def LAt (w : World) (b : Nat) (x : Ln) : Prop := w.heap[b]? = some (.cells #[.int .i64 (x.1 : Int), .string (bs x.2)] 39 (0, 0))
theorem LAt.cells {w : World} {b : Nat} {x : Ln} (h : LAt w b x) : w.cell? ⟨b, 0, none⟩ = some (.int .i64 (x.1 : Int)) ∧ w.cell? ⟨b, 1, none⟩ = some (.string (bs x.2)) := by
 refine ⟨?_, ?_⟩ <;> (rw [cell_of_row _ _ _ _ _ _ h]; rfl)
theorem LAt.frz {w : World} {b o : Nat} {x : Ln} (h : LAt w b x) : w.frozen? ⟨b, o, none⟩ = false := by simp [World.frozen?, show w.heap[b]? = _ from h]
theorem LAt.put {w : World} {b : Nat} {x : Ln} (h : LAt w b x) (l : List UInt8) : LAt (w.setCell ⟨b, 1, none⟩ (.string (bs l))) b (x.1, l) := by
 unfold LAt at h ⊢
 simp [World.setCell, Array.getElem?_modify, h]
theorem LAt.kp {w w' : World} {b : Nat} {x : Ln} {s : List Nat} (h : LAt w b x) (hk : Kp s w w') (hs : b ∉ s) : LAt w' b x := (hk.block b (block_lt h) hs).trans h
end Go.Proofs.YtkkibibecgcbmaaGreatDoor.Lx
