/- What the append of rows keeps. -/
import Derived.Deep.Upon
import Derived.Test.YtldcediiobfhiaaGreatDoorKGs
namespace Go.Proofs.YtldcediiobfhiaaGreatDoor
open Go.RowKit
theorem oneB {w : World} {tb k sb : Nat} (xs : List (List UInt8)) (n : Nat) (hn : xs.length = n) (h1 : 1 ≤ xs.length) (h2 : xs.length ≤ 1000000) (hx : ∀ x ∈ xs, x.length ≤ 300) (hk : k ≤ 1000000) (h : Tp w tb k) (hne : tb < sb) {A : Array Value} (hb : w.heap[sb]? = some (.cells A 9 (0, 0))) (hA : A = (xs.map fun x => Value.string (bs x)).toArray) :
  Calls Tryz.prog 20 #[.pointer (some ⟨tb, 0, none⟩), .slice (some ⟨sb, 0, none⟩) n n] w fun e w' => ∃ x : List UInt8, x.length ≤ 300 ∧ e = .returned (.string (bs x)) ∧ Tp w' tb (k + 1) ∧ Kp [tb] w w' := by
 subst hA
 subst hn
 refine (one_any xs h1 h2 hk h (by omega) (block_lt hb) fun j x hj => ?_).mono fun e w' ⟨x, hx', he, ht, hkp⟩ => ⟨x, hx x hx', he, ht, hkp⟩
 rw [cell_of_row _ _ _ _ _ _ hb]
 simp [hj]
theorem step_append_r {α : Type} {r : RT α} {ops : Array Oper} {o : Oper} {a : Act} {w : World} {K : Act → World → Prop} {Q : Exit → Act → World → Prop} {E : Prop} (hg : o.guard = none) (s y : Operand)
  (hop : o.op = Op.call { callee := Callee.builtin Builtin.append, args := #[s, y], argTypes := #[r.sl, r.sl] }) (base : Nat)
  (v : Value) (xs : List α) (hs : a.eval s = v) (hown : r.Own w base v xs) (b c : Nat) (x : α) (hx : a.eval y = .slice (some ⟨b, 0, none⟩) 1 c) (hcell : w.rangeAt b 0 (r.cf x)) (hb1 : xs.length ≤ 1000000) (hb : base ≤ w.heap.size)
  (hK : ∀ v' w', r.Own w' base v' (xs ++ [x]) → w.grownBy w' v.ownBlock → K (a.put o.dst v') w') :
  if Region.wanted o (yielded ops a.tmps) = true then Oper.wp Tryz.prog o a w K Q else E := by
 have hw : Region.wanted o (yielded ops a.tmps) = true := by simp [Region.wanted, hg]
 rw [if_pos hw]
 obtain ⟨v', w', h1, h2, h3⟩ := run_append_r (c := c) x o.type hown hcell hb1 hb
 unfold Oper.wp
 simp [execOp, hop, resolve, invoke, builtin, hs, hx, h1, Result.andThen]
 exact hK v' w' h2 h3
theorem Tq.kp0 {w w' : World} {tb n : Nat} (h : Tq w tb n) (hk : Kp [] w w') : Tq w' tb n := by
 obtain ⟨k, hk1, h⟩ := h
 exact ⟨k, hk1, h.kp hk (by simp)⟩
theorem kp_grownS {w W w' : World} {v : Value} {S : List Nat} (h : Kp S w W) (g : W.grownBy w' v.ownBlock) (hv : ∀ b, v.ownBlock = some b → w.heap.size ≤ b) : Kp S w w' := by
 cases hb : v.ownBlock with
 | none =>
  rw [hb] at g
  exact h.trans ((Kp.of_grown_none g).mono (by simp))
 | some b =>
  rw [hb] at g
  exact h.up (Kp.of_grown g) (by intro x hx; simp at hx; subst hx; exact .inr (hv x hb))
theorem RT.Row.all {α : Type} {r : RT α} {w : World} {b : Nat} : ∀ {l : List α} {o : Nat}, r.Row w b o l → ∀ (j : Nat) u, (r.cells l)[j]? = some u → w.cell? ⟨b, o + j, none⟩ = some u
 | [], o, _, j, u, hj => by simp [RT.cells] at hj
 | x :: l, o, h, j, u, hj => by
  rw [RT.cells_cons] at hj
  by_cases hl : j < r.sz
  ·rw [List.getElem?_append_left (by rw [r.len]; exact hl)] at hj
   have := h 0 x rfl j u hj
   simpa using this
  ·rw [List.getElem?_append_right (by rw [r.len]; omega), r.len] at hj
   have h2 : r.Row w b (o + r.sz) l := fun q y hy m v hv => by
    have := h (q + 1) y (by simpa using hy) m v hv
    rw [Nat.add_mul, Nat.one_mul] at this
    rw [show o + r.sz + q * r.sz + m = o + (q * r.sz + r.sz) + m by omega]
    exact this
   have := RT.Row.all h2 (j - r.sz) u hj
   rwa [show o + r.sz + (j - r.sz) = o + j by omega] at this
/-- A slice that may be nil, or a row. -/
def RT.Any {α : Type} (r : RT α) (w : World) (v : Value) (l : List α) : Prop := (v = .slice none 0 0 ∧ l = []) ∨ ∃ b p c, v = .slice (some ⟨b, p, none⟩) l.length c ∧ r.Row w b p l
theorem RT.Own.any {α : Type} {r : RT α} {w : World} {B : Nat} {v : Value} {l : List α} (h : r.Own w B v l) : r.Any w v l := by
 rcases h.form2 with ⟨h1, h2⟩ | ⟨g, cap, h1, _, _, _, _, h2⟩
 ·exact .inl ⟨h1, h2⟩
 ·exact .inr ⟨g, 0, cap, h1, h2⟩
end Go.Proofs.YtldcediiobfhiaaGreatDoor
