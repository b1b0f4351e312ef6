/- What the building of a tree leans on: lists of devices over steps of the tape and of a box, append of rows, stores in drawn regions. A tree that is being built: what holds between two turns. -/
import Derived.Test.YtldcediiobfhiaaGreatDoorQZ2
import Derived.Test.YtldcediiobfhiaaGreatDoorQX2
import Derived.Test.YtldcediiobfhiaaGreatDoorQV8
namespace Go.Proofs.YtldcediiobfhiaaGreatDoor
open Go.RowKit
theorem hasT2 {W W' : World} {tb k : Nat} {v : Value} {l : List De.Atr} (h : De.Has W v l) (ht : Tp W tb k) (hk : Kp [tb] W W') : De.Has W' v l := by
 refine h.other hk.size (g := tb) (fun hne e => ?_) fun b hb hne => hk.block b hb (by simpa using hne)
 obtain ⟨lv, hh, hi⟩ := ht
 rcases h with ⟨a, c, rfl, h0⟩ | ⟨b, o, c, rfl, hb, hrow⟩
 ·exact hne h0
 ·obtain rfl : b = tb := Option.some.inj e
  cases l with
  | nil => exact hne rfl
  | cons x l =>
   obtain ⟨h1, h2⟩ := hrow 0 x rfl
   rw [cell_of_row _ _ _ _ _ _ hh] at h1 h2
   have ho : o = 0 := by
    have := (List.getElem?_eq_some_iff.1 (by simpa using h2)).1
    simp at this
    omega
   subst ho
   rcases hi with ⟨a, c, rfl⟩ | ⟨b2, o2, n2, c2, rfl, _⟩ <;> simp at h1
theorem dhasT {W W' : World} {tb k : Nat} {v : Value} {l : List De.DV} (h : De.DHas W v l) (ht : Tp W tb k) (hk : Kp [tb] W W') : De.DHas W' v l := by
 rcases h with h | ⟨g, o, c, hv, hc, hg, hr⟩
 ·exact .inl h
 ·refine .inr ⟨g, o, c, hv, hc, Nat.lt_of_lt_of_le hg hk.size, ⟨fun j x hx m u hu => ?_, fun x hx => hasT2 (hr.ats x hx) ht hk⟩⟩
  have h1 := hr.at_ j x hx m u hu
  by_cases e : g = tb
  ·exfalso
   subst e
   have h9 := hr.at_ j x hx 9 x.2 rfl
   obtain ⟨lv, hh, hi⟩ := ht
   rw [cell_of_row _ _ _ _ _ _ hh] at h9
   obtain ⟨h10, -⟩ := Array.getElem?_eq_some_iff.1 h9
   simp at h10
   omega
  ·have := hk.block g hg (by simpa using e)
   simp only [World.cell?, this] at h1 ⊢
   exact h1
theorem dhasR {W W' : World} {R n c : Nat} {a : Option Addr} {v : Value} {l : List De.DV} (h : De.DHas W v l) (hk : Kp [R] W W') (hR : W.heap[R]? = some (.cells #[.slice a n c] 29 (0, 0))) : De.DHas W' v l := by
 rcases h with h | h
 ·exact .inl h
 ·exact (DAny.kpR (.inr h) hk hR).has
/-- append of a list of devices, at the operation. -/
theorem wpList_append_dvs {ops : Array Oper} {rest : List Oper} {o : Oper} {a : Act} {w : World} {Q : Exit → Act → World → Prop} (hg : o.guard = none) (s y : Operand)
  (hop : o.op = Op.call { callee := Callee.builtin Builtin.append, args := #[s, y], argTypes := #[22, 22] }) (base : Nat) (v yv : Value) (xs ys : List De.DV) (hs : a.eval s = v) (hown : w.ownsRow base 34 10 v xs.length (De.dvsC xs)) (hx : a.eval y = yv) (hy : De.DHas w yv ys) (h1 : xs.length + ys.length ≤ 100000) (hb : base ≤ w.heap.size)
  (hK : ∀ v' w', w'.ownsRow base 34 10 v' (xs ++ ys).length (De.dvsC (xs ++ ys)) → w.grownBy w' v.ownBlock → wpList Tryz.prog ops Q rest (a.put o.dst v') w') : wpList Tryz.prog ops Q (o :: rest) a w := by
 refine wpList_plain hg fun K hK' => ?_
 obtain ⟨v', w', hr, h2, h3⟩ := run_append_dvs (ty := o.type) hown hy h1 hb
 unfold Oper.wp
 simp [execOp, hop, resolve, invoke, builtin, hs, hx, hr, Result.andThen]
 exact hK' _ _ (hK v' w' h2 h3)
end Go.Proofs.YtldcediiobfhiaaGreatDoor
namespace Go.Proofs.YtldcediiobfhiaaGreatDoor
open Go.RowKit
/-- The three lists of devices. -/
structure Bx (L LL LY : List De.DV) (x l y : Value) (W : World) : Prop where
 x : De.DHas W x L
 l : De.DHas W l LL
 y : De.DHas W y LY
theorem Bx.kp {L LL LY : List De.DV} {x l y : Value} {W W' : World} (h : Bx L LL LY x l y W) (hk : Kp [] W W') : Bx L LL LY x l y W' := ⟨h.x.below hk.bel, h.l.below hk.bel, h.y.below hk.bel⟩
theorem Bx.kpT {L LL LY : List De.DV} {x l y : Value} {W W' : World} {tb k : Nat} (h : Bx L LL LY x l y W) (ht : Tp W tb k) (hk : Kp [tb] W W') : Bx L LL LY x l y W' := ⟨dhasT h.x ht hk, dhasT h.l ht hk, dhasT h.y ht hk⟩
theorem Bx.kpR {L LL LY : List De.DV} {x l y : Value} {W W' : World} {R n c : Nat} {a : Option Addr} (h : Bx L LL LY x l y W) (hk : Kp [R] W W') (hR : W.heap[R]? = some (.cells #[.slice a n c] 29 (0, 0))) : Bx L LL LY x l y W' := ⟨dhasR h.x hk hR, dhasR h.l hk hR, dhasR h.y hk hR⟩
/-- A part of a row of devices, from its beginning. -/
theorem dhas_take {W : World} {g o m c r : Nat} {l : List De.DV} (h : De.DRow W g o l) (hg : g < W.heap.size) (hl : l.length = m) (hc : m ≤ c) (hr : r ≤ m) : De.DHas W (.slice (some ⟨g, o, none⟩) r c) (l.take r) := by
 have e : (l.take r).length = r := by rw [List.length_take]; omega
 exact .inr ⟨g, o, c, by rw [e], by omega, hg, DRow.take h r⟩
theorem own_form {W : World} {base : Nat} {v : Value} {l : List De.DV} (h : W.ownsRow base 34 10 v l.length (De.dvsC l)) : ∃ a c, v = .slice a l.length c := by
 rcases h.2 with ⟨rfl, hl⟩ | ⟨g, cap, cur, rfl, -⟩
 ·exact ⟨none, 0, by first | rw [hl] | (rw [show l.length = 0 by omega])⟩
 ·exact ⟨_, _, rfl⟩
end Go.Proofs.YtldcediiobfhiaaGreatDoor
