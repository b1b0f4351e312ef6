/- Draft of the reference. A draft that is drawn. -/
import Derived.Test.YtldcediiobfhiaaGreatDoorQGG
import Derived.Test.YtldcediiobfhiaaGreatDoorQDf
namespace Go.Proofs.YtldcediiobfhiaaGreatDoor
open Go.RowKit
theorem cell_kp {w w' : World} {b o : Nat} {u : Value} (hk : Kp [] w w') (h : w.cell? ⟨b, o, none⟩ = some u) : w'.cell? ⟨b, o, none⟩ = some u := by
 have hl : b < w.heap.size := World.block_lt_of_cell? _ _ h
 simp only [World.cell?, hk.block b hl (by simp)] at h ⊢
 exact h
theorem Kp.bel {a b : World} (h : Kp [] a b) : Below a.heap.size a b := h.below (Nat.le_refl _) (by simp)
theorem step_append_run {ops : Array Oper} {o : Oper} {a : Act} {w w' : World} {K : Act → World → Prop} {Q : Exit → Act → World → Prop} {E : Prop} (hg : o.guard = none) (s y : Operand)
  (hop : o.op = Op.call { callee := Callee.builtin Builtin.append, args := #[s, y], argTypes := #[22, 22] }) (v yv v' : Value) (hs : a.eval s = v) (hx : a.eval y = yv)
  (h1 : (Builtin.append_ #[22, 22] o.type #[v, yv]).run Tryz.prog w = .ok v' w') (hK : K (a.put o.dst v') w') :
  if Region.wanted o (yielded ops a.tmps) = true then Oper.wp Tryz.prog o a w K Q else E := by
 have hw : Region.wanted o (yielded ops a.tmps) = true := by simp [Region.wanted, hg]
 rw [if_pos hw]
 unfold Oper.wp
 simp [execOp, hop, resolve, invoke, builtin, hs, hx, h1, Result.andThen]
 exact hK
end Go.Proofs.YtldcediiobfhiaaGreatDoor
namespace Go.Proofs.YtldcediiobfhiaaGreatDoor
open Go.RowKit
theorem hasT {W W' : World} {tb : Nat} {v : Value} {l : List De.Atr} (h : De.Has W v l) (hk : Kp [tb] W W') (hn : ∀ b, v.ownBlock = some b → b ≠ tb) : De.Has W' v l := h.keep hk.size fun b hb e => hk.block b hb (by simpa using hn b e)
theorem hasS {W : World} {D : Nat} {v : Value} {l : List De.Atr} (h : De.Has W v l) (hn : ∀ b, v.ownBlock = some b → b ≠ D) (o : Nat) (x : Value) : De.Has (W.setCell ⟨D, o, none⟩ x) v l := h.keep (by simp [World.setCell]) fun b _ e => Below.heap_setCell _ _ _ _ (hn b e)
theorem Tp.setD {W : World} {tb k D : Nat} (h : Tp W tb k) (hD : tb < D) (o : Nat) (x : Value) : Tp (W.setCell ⟨D, o, none⟩ x) tb k := h.keep fun b hb => Below.heap_setCell _ _ _ _ (by simp; omega)
end Go.Proofs.YtldcediiobfhiaaGreatDoor
