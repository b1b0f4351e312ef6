/- Terms. -/
import Derived.Test.YtkkibibecgcbmaaGreatDoorKGt
namespace Go.Proofs.YtkkibibecgcbmaaGreatDoor
open Go.RowKit
theorem Tq.kp0 {w w' : World} {tb n : Nat} (h : Tq w tb n) (hk : Kp [] w w') : Tq w' tb n := by
 obtain ⟨k, hk1, h⟩ := h
 exact ⟨k, hk1, h.kp hk (by simp)⟩
theorem own_tb {W W' : World} {B tb : Nat} {v : Value} {l : List Tm} (h : tmT.Own W B v l) (hB : tb < B) (hk : Kp [tb] W W') : tmT.Own W' B v l := h.kp hk fun b hb => by
 have := (h.ge b hb).1
 simp
 omega
theorem tm_pushS {W W7 : World} {Nb B : Nat} {x : Tm} {v : Value} {xs : List Tm} (ho : tmT.Own W B v xs) (hN : W.heap.size = Nb) (hW : W.alloc (.cells (tmC x) 31) = W7) : Kp [] W W7 ∧ tmT.Own W7 B v xs ∧ W7.rangeAt Nb 0 (tmT.cf x) := by
 have hk1 : Kp [] W W7 := by rw [← hW]; exact (Kp.refl [] _).alloc _
 refine ⟨hk1, ho.kp0 hk1, ?_⟩
 have h := MAt.new W x
 rw [hW, hN] at h
 exact h.range
theorem kp_grownS {w W w' : World} {v : Value} {S : List Nat} (h : Kp S w W) (g : W.grownBy w' v.ownBlock) (hv : ∀ b, v.ownBlock = some b → w.heap.size ≤ b) : Kp S w w' := by
 cases hb : v.ownBlock with
 | none =>
  rw [hb] at g
  exact h.trans ((Kp.of_grown_none g).mono (by simp))
 | some b =>
  rw [hb] at g
  exact h.up (Kp.of_grown g) (by intro x hx; simp at hx; subst hx; exact .inr (hv x hb))
theorem tq_grown {W w' : World} {tb n B : Nat} {v : Value} (h : Tq W tb n) (hB : tb < B) (g : W.grownBy w' v.ownBlock) (hv : ∀ b, v.ownBlock = some b → B ≤ b) : Tq w' tb n := by
 obtain ⟨k, hk1, h⟩ := h
 refine ⟨k, hk1, h.keep fun b hb => ?_⟩
 exact g.block b (Nat.lt_of_le_of_lt hb h.lt) fun e => by have := hv b e.symm; omega
theorem RT.Row.all {α : Type} {r : RT α} {w : World} {b : Nat} : ∀ {l : List α} {o : Nat}, r.Row w b o l → ∀ (j : Nat) u, (r.cells l)[j]? = some u → w.cell? ⟨b, o + j, none⟩ = some u
 | [], o, _, j, u, hj => by simp [RT.cells] at hj
 | x :: l, o, h, j, u, hj => by
  rw [RT.cells_cons] at hj
  by_cases hl : j < r.sz
  ·rw [List.getElem?_append_left (by rw [r.len]; exact hl)] at hj
   have := h 0 x rfl j u hj
   simpa using this
  ·rw [List.getElem?_append_right (by rw [r.len]; omega), r.len] at hj
   have h2 : r.Row w b (o + r.sz) l := fun q y hy m v hv => by
    have := h (q + 1) y (by simpa using hy) m v hv
    rw [Nat.add_mul, Nat.one_mul] at this
    rw [show o + r.sz + q * r.sz + m = o + (q * r.sz + r.sz) + m by omega]
    exact this
   have := RT.Row.all h2 (j - r.sz) u hj
   rwa [show o + r.sz + (j - r.sz) = o + j by omega] at this
/-- A whole row is appended to an own row. -/
theorem wpList_append_rs {α : Type} {r : RT α} {ops : Array Oper} {rest : List Oper} {o : Oper} {a : Act} {w : World} {Q : Exit → Act → World → Prop} (hg : o.guard = none) (s y : Operand)
  (hop : o.op = Op.call { callee := Callee.builtin Builtin.append, args := #[s, y], argTypes := #[r.sl, r.sl] }) (base : Nat)
  (v : Value) (xs ys : List α) (hs : a.eval s = v) (hown : r.Own w base v xs) (b p c : Nat) (hx : a.eval y = .slice (some ⟨b, p, none⟩) ys.length c) (hrow : r.Row w b p ys) (hb1 : xs.length + ys.length ≤ 1000000) (hb : base ≤ w.heap.size)
  (hK : ∀ v' w', r.Own w' base v' (xs ++ ys) → w.grownBy w' v.ownBlock → wpList Tryz.prog ops Q rest (a.put o.dst v') w') : wpList Tryz.prog ops Q (o :: rest) a w := by
 refine wpList_plain hg fun K hK' => ?_
 obtain ⟨i0, hi0, hz0, hz1, hz2⟩ := info_parts r.info
 obtain ⟨v', w', h1, h2, h3, _⟩ := run_append_own (P := Tryz.prog) w base r.sl o.type r.ty i0 _ r.sz r.bt r.und hi0 hz0 hz1 hz2 r.zs r.pos v xs.length (r.cells xs) hown ⟨b, p, none⟩ ys.length c (r.cells ys)
  (r.cells_len ys) (fun j u hj => by
   rw [show (⟨b, p, none⟩ : Addr).add j = ⟨b, p + j, none⟩ from add_addr b p j]
   exact hrow.all j u hj) (r.cells_one ys) (by unfold maxLen; omega) (by
   have := r.btl
   have : (xs.length + ys.length) * r.bt ≤ 1000000 * 64 := Nat.mul_le_mul (by omega) this
   omega) hb
 unfold Oper.wp
 simp [execOp, hop, resolve, invoke, builtin, hs, hx, h1, Result.andThen]
 refine hK' _ _ (hK v' w' ?_ h3)
 unfold RT.Own
 rw [List.length_append, RT.cells_append]
 exact h2
theorem cntK_good : ∀ {l : List Tm}, (∀ x ∈ l, GoodT x) → cntK l 23 = 0 ∧ cntK l 24 = 0
 | [], _ => ⟨rfl, rfl⟩
 | x :: l, h => by
  obtain ⟨h1, h2⟩ := cntK_good (l := l) fun y hy => h y (by simp [hy])
  have h3 := (h x (by simp)).2
  have h4 : ¬ x.key = 23 := by omega
  have h5 : ¬ x.key = 24 := by omega
  unfold cntK at h1 h2 ⊢
  simp [h4, h5, h1, h2]
end Go.Proofs.YtkkibibecgcbmaaGreatDoor
