/- A draft that is drawn. -/
import Derived.Test.YtldcediiobfhiaaGreatDoorKMg
import Derived.Test.YtldcediiobfhiaaGreatDoorKGG
namespace Go.Proofs.YtldcediiobfhiaaGreatDoor
open Go.RowKit
theorem hasT {W W' : World} {tb : Nat} {v : Value} {l : List De.Atr} (h : De.Has W v l) (hk : Kp [tb] W W') (hn : ∀ b, v.ownBlock = some b → b ≠ tb) : De.Has W' v l := h.keep hk.size fun b hb e => hk.block b hb (by simpa using hn b e)
theorem hasG {W W' : World} {v t : Value} {l : List De.Atr} (h : De.Has W v l) (g : W.grownBy W' t.ownBlock) (hn : ∀ b, t.ownBlock = some b → v.ownBlock = some b → False) : De.Has W' v l := h.keep g.size fun b hb e => g.block b hb (fun e2 => hn b e2.symm e)
theorem hasS {W : World} {D : Nat} {v : Value} {l : List De.Atr} (h : De.Has W v l) (hn : ∀ b, v.ownBlock = some b → b ≠ D) (o : Nat) (x : Value) : De.Has (W.setCell ⟨D, o, none⟩ x) v l := h.keep (by simp [World.setCell]) fun b _ e => Below.heap_setCell _ _ _ _ (hn b e)
theorem own_setD {W : World} {B D : Nat} {v : Value} {l : List (List UInt8)} (h : stT.Own W B v l) (hD : D < B) (o : Nat) (x : Value) : stT.Own (W.setCell ⟨D, o, none⟩ x) B v l := h.keep fun b _ e => Below.heap_setCell _ _ _ _ (by have := (h.ge b e).1; simp; omega)
theorem Tp.setD {W : World} {tb k D : Nat} (h : Tp W tb k) (hD : tb < D) (o : Nat) (x : Value) : Tp (W.setCell ⟨D, o, none⟩ x) tb k := h.keep fun b hb => Below.heap_setCell _ _ _ _ (by simp; omega)
theorem Tp.grownO {W W' : World} {tb k : Nat} {v : Value} (h : Tp W tb k) (g : W.grownBy W' v.ownBlock) (hn : ∀ b, v.ownBlock = some b → tb < b) : Tp W' tb k := h.keep fun b hb => g.block b (Nat.lt_of_le_of_lt hb h.lt) (fun e => by have := hn b e.symm; omega)
theorem own_at2 (W : World) (a b c d : ByteArray) : De.Has (W.alloc (.cells #[.string a, .string b, .string c, .string d] 99)) (.slice (some ⟨W.heap.size, 0, none⟩) 2 2) [(a, b), (c, d)] := by
 have hh := heap_alloc_last W (.cells #[.string a, .string b, .string c, .string d] 99)
 refine .inr ⟨W.heap.size, 0, 2, rfl, by simp, fun j x hj => ?_⟩
 have hc : j = 0 ∨ j = 1 ∨ 2 ≤ j := by omega
 rcases hc with rfl | rfl | hc
 ·cases hj
  exact ⟨by rw [cell_of_row _ _ _ _ _ _ hh]; rfl, by rw [cell_of_row _ _ _ _ _ _ hh]; rfl⟩
 ·cases hj
  exact ⟨by rw [cell_of_row _ _ _ _ _ _ hh]; rfl, by rw [cell_of_row _ _ _ _ _ _ hh]; rfl⟩
 ·rw [List.getElem?_eq_none (by simp; omega)] at hj
  cases hj
end Go.Proofs.YtldcediiobfhiaaGreatDoor
