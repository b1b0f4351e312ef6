/- A row put behind a single element; what linking is, on lists. -/
import Derived.Test.YtkkibibecgcbmaaGreatDoorKHb
import Derived.Deep.Upon
namespace Go.Proofs.YtkkibibecgcbmaaGreatDoor
open Go.RowKit

/-- A slice that may be nil, or a row. -/
def RT.Any {α : Type} (r : RT α) (w : World) (v : Value) (l : List α) : Prop := (v = .slice none 0 0 ∧ l = []) ∨ ∃ b p c, v = .slice (some ⟨b, p, none⟩) l.length c ∧ r.Row w b p l
theorem RT.Own.any {α : Type} {r : RT α} {w : World} {B : Nat} {v : Value} {l : List α} (h : r.Own w B v l) : r.Any w v l := by
  rcases h.form2 with ⟨h1, h2⟩ | ⟨g, cap, h1, _, _, _, _, h2⟩
  · exact .inl ⟨h1, h2⟩
  · exact .inr ⟨g, 0, cap, h1, h2⟩
theorem run_append_any {α : Type} {r : RT α} {w : World} {base : Nat} {v y : Value} {xs ys : List α} (ty : TypeId) (hown : r.Own w base v xs) (hne : xs ≠ []) (hy : r.Any w y ys) (hb1 : xs.length + ys.length ≤ 1000000) (hb : base ≤ w.heap.size) :
    ∃ v' w', (Builtin.append_ #[r.sl, r.sl] ty #[v, y]).run Tryz.prog w = .ok v' w' ∧ r.Own w' base v' (xs ++ ys) ∧ w.grownBy w' v.ownBlock := by
  obtain ⟨i0, hi0, hz0, hz1, hz2⟩ := info_parts r.info
  rcases hy with ⟨rfl, rfl⟩ | ⟨b, p, c, rfl, hrow⟩
  · rcases hown.form2 with ⟨_, h2⟩ | ⟨g, cap, rfl, _, _, hcap, _, _⟩
    · exact absurd h2 hne
    · exact ⟨_, w, run_append_nothing w r.sl r.sl ty r.ty i0 r.und hi0 _ _ _ hcap _ (Src.ofNil w r.und 0), by rw [List.append_nil]; exact hown, World.grownBy.refl _ _⟩
  · obtain ⟨v', w', h1, h2, h3, _⟩ := run_append_own (P := Tryz.prog) w base r.sl ty r.ty i0 _ r.sz r.bt r.und hi0 hz0 hz1 hz2 r.zs r.pos v xs.length (r.cells xs) hown ⟨b, p, none⟩ ys.length c (r.cells ys)
      (r.cells_len ys) (fun j u hj => by
        rw [show (⟨b, p, none⟩ : Addr).add j = ⟨b, p + j, none⟩ from add_addr b p j]
        exact hrow.all j u hj) (r.cells_one ys) (by unfold maxLen; omega) (by
        have := r.btl
        have : (xs.length + ys.length) * r.bt ≤ 1000000 * 64 := Nat.mul_le_mul (by omega) this
        omega) hb
    refine ⟨v', w', h1, ?_, h3⟩
    unfold RT.Own
    rw [List.length_append, RT.cells_append]
    exact h2
theorem wpList_append_any {α : Type} {r : RT α} {ops : Array Oper} {rest : List Oper} {o : Oper} {a : Act} {w : World} {Q : Exit → Act → World → Prop} (hg : o.guard = none) (s y : Operand)
    (hop : o.op = Op.call { callee := Callee.builtin Builtin.append, args := #[s, y], argTypes := #[r.sl, r.sl] }) (base : Nat)
    (v yv : Value) (xs ys : List α) (hs : a.eval s = v) (hown : r.Own w base v xs) (hne : xs ≠ []) (hx : a.eval y = yv) (hy : r.Any w yv ys) (hb1 : xs.length + ys.length ≤ 1000000) (hb : base ≤ w.heap.size)
    (hK : ∀ v' w', r.Own w' base v' (xs ++ ys) → w.grownBy w' v.ownBlock → wpList Tryz.prog ops Q rest (a.put o.dst v') w') : wpList Tryz.prog ops Q (o :: rest) a w := by
  refine wpList_plain hg fun K hK' => ?_
  obtain ⟨v', w', h1, h2, h3⟩ := run_append_any o.type hown hne hy hb1 hb
  unfold Oper.wp
  simp [execOp, hop, resolve, invoke, builtin, hs, hx, h1, Result.andThen]
  exact hK' _ _ (hK v' w' h2 h3)
theorem step_append_any {α : Type} {r : RT α} {ops : Array Oper} {o : Oper} {a : Act} {w : World} {K : Act → World → Prop} {Q : Exit → Act → World → Prop} {E : Prop} (hg : o.guard = none) (s y : Operand)
    (hop : o.op = Op.call { callee := Callee.builtin Builtin.append, args := #[s, y], argTypes := #[r.sl, r.sl] }) (base : Nat)
    (v yv : Value) (xs ys : List α) (hs : a.eval s = v) (hown : r.Own w base v xs) (hne : xs ≠ []) (hx : a.eval y = yv) (hy : r.Any w yv ys) (hb1 : xs.length + ys.length ≤ 1000000) (hb : base ≤ w.heap.size)
    (hK : ∀ v' w', r.Own w' base v' (xs ++ ys) → w.grownBy w' v.ownBlock → K (a.put o.dst v') w') :
    if Region.wanted o (yielded ops a.tmps) = true then Oper.wp Tryz.prog o a w K Q else E := by
  have hw : Region.wanted o (yielded ops a.tmps) = true := by simp [Region.wanted, hg]
  rw [if_pos hw]
  obtain ⟨v', w', h1, h2, h3⟩ := run_append_any o.type hown hne hy hb1 hb
  unfold Oper.wp
  simp [execOp, hop, resolve, invoke, builtin, hs, hx, h1, Result.andThen]
  exact hK v' w' h2 h3
theorem own_singleR {α : Type} {r : RT α} {W : World} {B : Nat} (x : α) (A : Array Value) (hA : A.toList = r.cf x) (hB : B ≤ W.heap.size) (c : Nat) (hc : c = 1) : r.Own (W.alloc (.cells A r.ty)) B (.slice (some ⟨W.heap.size, 0, none⟩) 1 c) [x] := by
  subst hc
  refine ⟨r.cells_len [x], .inr ⟨_, 1, A, rfl, hB, heap_alloc_last _ _, Nat.le_refl _, by unfold maxLen; omega, ?_, ?_⟩⟩
  · have := congrArg List.length hA
    rw [r.len] at this
    simpa using this
  · have : r.cells [x] = r.cf x := by simp [RT.cells]
    rw [this, ← hA]
    have h2 := congrArg List.length hA
    rw [r.len] at h2
    rw [List.take_of_length_le]
    rw [h2]
    simp

/-- Where a rule jumps to; its label. -/
def RV.to (x : RV) : Option (List UInt8) := valO x.l 24
def RV.lab (x : RV) : Option (List UInt8) := valO x.l 23
def staysR (r : RV) (keep : List RV) : Bool := match r.to with | none => true | some t => keep.any fun q => q.lab == some t
/-- What stays, and what does not. -/
def linkL : List RV → List RV × List RV
  | [] => ([], [])
  | r :: l => if staysR r (linkL l).1 then (r :: (linkL l).1, (linkL l).2) else ((linkL l).1, r :: (linkL l).2)
theorem linkL_drop {l : List RV} {i : Nat} {r : RV} (h : l[i]? = some r) : linkL (l.drop i) = if staysR r (linkL (l.drop (i + 1))).1 then (r :: (linkL (l.drop (i + 1))).1, (linkL (l.drop (i + 1))).2) else ((linkL (l.drop (i + 1))).1, r :: (linkL (l.drop (i + 1))).2) := by
  obtain ⟨hi, he⟩ := List.getElem?_eq_some_iff.1 h
  rw [List.drop_eq_getElem_cons hi, he]
  rfl
theorem linkL_num : ∀ l : List RV, (linkL l).1.length + (linkL l).2.length = l.length
  | [] => rfl
  | r :: l => by
    have ih := linkL_num l
    rw [linkL]
    split <;> simp only [List.length_cons] <;> omega
theorem linkL_mem : ∀ (l : List RV) (x : RV), x ∈ (linkL l).1 → x ∈ l
  | [], x, h => by cases h
  | r :: l, x, h => by
    have ih := linkL_mem l x
    rw [linkL] at h
    split at h
    · rcases List.mem_cons.1 h with h | h
      · exact List.mem_cons.2 (.inl h)
      · exact List.mem_cons.2 (.inr (ih h))
    · exact List.mem_cons.2 (.inr (ih h))
/-- LINKING AGAIN CHANGES NOTHING. -/
theorem linkL_again : ∀ l : List RV, linkL (linkL l).1 = ((linkL l).1, [])
  | [] => rfl
  | r :: l => by
    have ih := linkL_again l
    rw [linkL]
    split
    · rename_i h
      simp only
      rw [linkL, ih]
      simp only
      rw [if_pos h]
    · exact ih
/-- The fault of a rule that is left out. -/
def RV.fl (x : RV) : FV := ⟨x.file, x.line, 107⟩
end Go.Proofs.YtkkibibecgcbmaaGreatDoor
