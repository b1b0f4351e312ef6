/- The reference's set, whole; its rows of elements. -/
import Derived.Test.YteiphphihclnfaaDoorGlRC
import Derived.Test.YteiphphihclnfaaDoorGlRD
import Derived.Great.BuildSlice
import Derived.OrdersHeld
namespace Go.Proofs.YteiphphihclnfaaDoor.Gl
open Go.RowKit

theorem memR_ok {r : List UInt8} {S : UInt8 → Bool} (ht : r.all isText = true) (h : memR (fun _ => false) r = some S) : okSet S := by
  unfold memR at h
  split at h
  · exact memB_ok _ _ _ S (Nat.le_refl _) (List.all_eq_true.2 fun x hx => List.all_eq_true.1 ht x (List.mem_of_mem_take hx)) (fun _ h => by simp at h) h
  · cases h
theorem row_text (S : UInt8 → Bool) (h : okSet S) : (fun x => isText x && (S x != false)) = S := by
  funext x
  cases hs : S x with
  | false => simp
  | true => simp [h x hs]
theorem row_not (S : UInt8 → Bool) : (fun x => isText x && (S x != true)) = fun x => isText x && !S x := by
  funext x
  cases S x <;> rfl

theorem drop_text {l : List UInt8} (h : l.all isText = true) (i : Nat) : (l.drop i).all isText = true := List.all_eq_true.2 fun x hx => List.all_eq_true.1 h x (List.mem_of_mem_drop hx)

/-- The reference's set. -/
theorem set_any (p : ByteArray) (i E : Nat) (w : World) (hp : p.size ≤ 600) (ht : p.data.toList.all isText = true) (hi : i ≤ p.size) (hE : E < w.heap.size) (hEb : w.heap[E]? = some (.cells (elRow false false fun _ => false) 95 (0, 0))) :
    Calls Tryd.prog 58 #[.string p, .int .i64 (i : Int), .pointer (some ⟨E, 0, none⟩)] w (SetPost E (p.data.toList.drop i) i w) := by
  rcases Nat.lt_or_ge i p.size with hlt | hge
  · obtain ⟨c, hc⟩ : ∃ c : UInt8, p[i]'hlt = c := ⟨_, rfl⟩
    have hcl : p.data.toList[i]? = some c := by rw [← hc]; exact Lib.data_getElem? p i hlt
    have hd := drop_at8 hcl
    have hdt := drop_text ht (i + 1)
    by_cases h33 : c = 33
    · have hset := setR_not (p.data.toList.drop (i + 1))
      rw [← h33, ← hd] at hset
      refine set_bang p i E w hp ht hlt hE hEb c hc (by rw [h33]; rfl) _ (memR (fun _ => false) (p.data.toList.drop (i + 1))) (i + 1 + (p.data.toList.drop (i + 1)).idxOf 93) rfl (fun _ => rfl) (fun h w' hb => ⟨hb, ?_⟩) (fun S hS h0 w' hb hr => ⟨hb, ?_⟩)
      · have hn : setR (p.data.toList.drop i) = none := by
          rw [hset]
          rcases h with h | h
          · rw [h]
            split <;> rfl
          · rw [if_pos h]
        rw [hn]
      · rw [hset, if_neg h0, hS]
        refine ⟨?_, ?_⟩
        · rw [show i + 1 + (p.data.toList.drop (i + 1)).idxOf 93 = i + ((p.data.toList.drop (i + 1)).idxOf 93 + 1) from by omega]
        · rw [hr, row_not]
    · have hset := setR_plain h33 (p.data.toList.drop (i + 1))
      rw [← hd] at hset
      have h0d : (p.data.toList.drop i)[0]? = some c := by rw [hd]; rfl
      refine set_plain p i E w hp ht hlt hE hEb c hc (beq_eq_false_iff_ne.2 h33) _ (memR (fun _ => false) (p.data.toList.drop i)) (i + (p.data.toList.drop i).idxOf 93) rfl (fun _ => rfl) (fun h w' hb => ⟨hb, ?_⟩) (fun S hS h0 w' hb hr => ⟨hb, ?_⟩)
      · have hn : setR (p.data.toList.drop i) = none := by
          rw [hset]
          rcases h with h | h
          · rw [h]
            split <;> rfl
          · rw [h0d] at h
            rw [if_pos (by simpa using h)]
        rw [hn]
      · rw [h0d] at h0
        rw [hset, if_neg (fun e => h0 (by rw [e])), hS]
        refine ⟨rfl, ?_⟩
        rw [hr, row_text S (memR_ok (drop_text ht i) hS)]
  · obtain rfl : i = p.size := by omega
    exact set_nil p p.size E w rfl hE

/-- The first element, as the reference asks. -/
theorem firstEl_set {r : List UInt8} : firstEl 91 r = (setR r).map fun x => (⟨false, false, x.1⟩, x.2 + 1) := by
  unfold firstEl setR
  rw [if_neg (by decide), if_neg (by decide), if_pos rfl]
  split
  · cases setB (r.take (r.idxOf 93)) <;> rfl
  · rfl

def setOfE (e : El) : UInt8 → Bool := if e.star then fun _ => false else e.set
def rowOf (e : El) : Array Value := elRow e.star e.self (setOfE e)
theorem rowOf_size (e : El) : (rowOf e).size = 130 := elRow_size _ _ _
theorem rowOf_one (e : El) : ∀ u ∈ (rowOf e).toList, u.oneCell' = true := by
  intro u hu
  unfold rowOf elRow boolRow at hu
  simp only [Array.toList_append, List.mem_append, List.mem_cons, List.not_mem_nil, or_false, List.mem_map] at hu
  rcases hu with (rfl | rfl) | ⟨c, _, rfl⟩ <;> rfl
theorem rowOf_0 (e : El) : (rowOf e)[0]? = some (.bool e.star) := by
  unfold rowOf elRow
  rw [Array.getElem?_append_left (by simp)]
  rfl
theorem rowOf_1 (e : El) : (rowOf e)[1]? = some (.bool e.self) := by
  unfold rowOf elRow
  rw [Array.getElem?_append_left (by simp)]
  rfl
def pVs (l : List El) : List Value := l.flatMap fun e => (rowOf e).toList
theorem pVs_length (l : List El) : (pVs l).length = l.length * 130 := by
  induction l with
  | nil => rfl
  | cons e r ih =>
    have : pVs (e :: r) = (rowOf e).toList ++ pVs r := rfl
    rw [this, List.length_append, ih, List.length_cons, Array.length_toList, rowOf_size]
    omega
theorem pVs_snoc (l : List El) (e : El) : pVs (l ++ [e]) = pVs l ++ (rowOf e).toList := by
  unfold pVs
  rw [List.flatMap_append]
  simp
theorem pVs_get : ∀ (l : List El) (i : Nat) (e : El) (j : Nat), l[i]? = some e → j < 130 → (pVs l)[i * 130 + j]? = (rowOf e)[j]?
  | [], i, e, j, h, _ => by simp at h
  | f :: r, 0, e, j, h, hj => by
    have hf : f = e := by simpa using h
    subst hf
    show ((rowOf f).toList ++ pVs r)[0 * 130 + j]? = _
    rw [List.getElem?_append_left (by rw [Array.length_toList, rowOf_size]; omega)]
    simp
  | f :: r, i + 1, e, j, h, hj => by
    show ((rowOf f).toList ++ pVs r)[(i + 1) * 130 + j]? = _
    rw [List.getElem?_append_right (by rw [Array.length_toList, rowOf_size]; omega), Array.length_toList, rowOf_size, show (i + 1) * 130 + j - 130 = i * 130 + j from by omega]
    exact pVs_get r i e j (by simpa using h) hj

/-- The elements l lie in the block g. -/
def PElsAt (w : World) (g : Nat) (l : List El) : Prop := ∀ (i : Nat) (e : El), l[i]? = some e → w.cell? ⟨g, i * 130, none⟩ = some (.bool e.star) ∧ w.cell? ⟨g, i * 130 + 1, none⟩ = some (.bool e.self) ∧ ∀ c : Nat, c < 128 → w.cell? ⟨g, i * 130 + (2 + c), none⟩ = some (.bool (setOfE e (UInt8.ofNat c)))
theorem pElsAt_of {w : World} {B g cap : Nat} {l : List El} (h : w.ownsRow B 95 130 (.slice (some ⟨g, 0, none⟩) l.length cap) l.length (pVs l)) : PElsAt w g l := by
  intro i e he
  have hi := (List.getElem?_eq_some_iff.1 he).1
  have key : ∀ j, j < 130 → w.cell? ⟨g, i * 130 + j, none⟩ = (rowOf e)[j]? := fun j hj => by
    rw [h.cellAt (i * 130 + j) (by omega), pVs_get l i e j he hj]
  refine ⟨(key 0 (by omega)).trans (rowOf_0 e), (key 1 (by omega)).trans (rowOf_1 e), fun c hc => (key (2 + c) (by omega)).trans (elRow_get _ _ _ c hc)⟩

/-- While the pattern is read: the alternatives A, and l, to which elements are appended; its row is younger than the other alternatives'. -/
structure PInv (w : World) (B' G cap : Nat) (A : List (List El)) (l : List El) (vs : List Value) (vl : Value) (wx : World) : Prop where
  outer : wx.ownsRow w.heap.size 81 1 (.slice (some ⟨G, 0, none⟩) (A.length + 1) cap) (A.length + 1) (vs ++ [vl])
  len : vs.length = A.length
  rows : ∀ (j : Nat) (v : Value) (a : List El), vs[j]? = some v → A[j]? = some a → wx.ownsRow w.heap.size 95 130 v a.length (pVs a) ∧ (∀ b, v.ownBlock = some b → b < B')
  last : wx.ownsRow B' 95 130 vl l.length (pVs l)
  B : w.heap.size ≤ B'
  B2 : B' ≤ wx.heap.size
  below : Below w.heap.size w wx

theorem PInv.later {w wx w' : World} {B' G cap : Nat} {A : List (List El)} {l : List El} {vs : List Value} {vl : Value} (h : PInv w B' G cap A l vs vl wx) (hb : Below wx.heap.size wx w') : PInv w B' G cap A l vs vl w' :=
  ⟨ownsRow_below h.outer hb, h.len, fun j v a hj ha => ⟨ownsRow_below (h.rows j v a hj ha).1 hb, (h.rows j v a hj ha).2⟩, ownsRow_below h.last hb, h.B, Nat.le_trans h.B2 hb.size, h.below.trans (hb.mono h.below.size)⟩

/-- Behind a "|". -/
theorem PInv.bar {w wx w1 : World} {B' G cap : Nat} {A : List (List El)} {l : List El} {vs : List Value} {vl v' : Value} {tmp : Obj} (h : PInv w B' G cap A l vs vl wx)
    (hown : w1.ownsRow w.heap.size 81 1 v' (A.length + 1 + 1) ((vs ++ [vl]) ++ [.slice none 0 0])) (hg : (wx.alloc tmp).grownBy w1 (some G)) :
    ∃ G' cap', v' = .slice (some ⟨G', 0, none⟩) ((A ++ [l]).length + 1) cap' ∧ PInv w w1.heap.size G' cap' (A ++ [l]) [] (vs ++ [vl]) (.slice none 0 0) w1 := by
  obtain ⟨G', cap', hv', _, _⟩ := form_some hown (by omega)
  have hlen : (A ++ [l]).length + 1 = A.length + 1 + 1 := by simp
  rw [hlen]
  refine ⟨G', cap', hv', ?_⟩
  have hsz : wx.heap.size ≤ w1.heap.size := Nat.le_trans (by simp) hg.size
  have hrow : ∀ {C : Nat} {v : Value} {a : List El}, wx.ownsRow C 95 130 v a.length (pVs a) → w1.ownsRow C 95 130 v a.length (pVs a) := by
    intro C v a hr
    refine (hr.alloc tmp).kept hg ?_
    cases hb : v.ownBlock with
    | none => exact Or.inl rfl
    | some b =>
      right
      have := ownsRow_type hr h.outer (by decide) (by rw [hb]; simp)
      rwa [hb] at this
  refine ⟨by rw [hlen, ← hv']; exact hown, by simp [h.len], fun j v a hj ha => ?_, World.ownsRow_nil _ _ _ _, Nat.le_trans h.below.size hsz, Nat.le_refl _, ?_⟩
  · rcases Nat.lt_or_ge j vs.length with hlt | hge
    · rw [List.getElem?_append_left hlt] at hj
      rw [List.getElem?_append_left (by rw [← h.len]; exact hlt)] at ha
      obtain ⟨h1, h2⟩ := h.rows j v a hj ha
      exact ⟨hrow h1, fun b hb => Nat.lt_of_lt_of_le (h2 b hb) (Nat.le_trans h.B2 hsz)⟩
    · rw [List.getElem?_append_right hge] at hj
      rw [List.getElem?_append_right (by rw [← h.len]; exact hge), ← h.len] at ha
      have hj0 : j - vs.length = 0 := by
        rcases Nat.eq_zero_or_pos (j - vs.length) with h0 | h0
        · exact h0
        · rw [List.getElem?_eq_none (by simp; omega)] at hj; simp at hj
      rw [hj0] at hj ha
      simp only [List.getElem?_cons_zero, Option.some.injEq] at hj ha
      subst hj
      subst ha
      exact ⟨ownsRow_mono (hrow h.last) h.B, fun b hb => Nat.lt_of_lt_of_le (h.last.lt b hb).2 hsz⟩
  · have hG : w.heap.size ≤ G := (h.outer.lt G rfl).1
    refine (h.below.alloc h.below.size tmp).grown hg (Nat.le_trans h.below.size (by simp)) fun k hk => ?_
    cases hk
    exact hG

/-- Behind an element. -/
theorem PInv.elem {w wx w1 : World} {B' G cap : Nat} {A : List (List El)} {l : List El} {vs : List Value} {vl v' : Value} {tmp : Obj} {e : El} (h : PInv w B' G cap A l vs vl wx)
    (hown : w1.ownsRow B' 95 130 v' (l.length + 1) (pVs l ++ (rowOf e).toList)) (hg : (wx.alloc tmp).grownBy w1 vl.ownBlock) :
    PInv w B' G cap A (l ++ [e]) vs v' (w1.setCell ⟨G, A.length, none⟩ v') ∧ w1.cell? ⟨G, A.length, none⟩ = some vl ∧ w1.frozen? ⟨G, A.length, none⟩ = false := by
  have hsz : wx.heap.size ≤ w1.heap.size := Nat.le_trans (by simp) hg.size
  have hout : w1.ownsRow w.heap.size 81 1 (.slice (some ⟨G, 0, none⟩) (A.length + 1) cap) (A.length + 1) (vs ++ [vl]) := by
    refine (h.outer.alloc tmp).kept hg (Or.inr ?_)
    exact ownsRow_type h.outer h.last (by decide) (by simp [Value.ownBlock])
  have hGB : w.heap.size ≤ G := (h.outer.lt G rfl).1
  have hrows : ∀ {C : Nat} {v : Value} {a : List El}, w1.ownsRow C 95 130 v a.length (pVs a) → (w1.setCell ⟨G, A.length, none⟩ v').ownsRow C 95 130 v a.length (pVs a) := by
    intro C v a hr
    refine ownsRow_setCell_other hr ?_ _
    intro he
    have := ownsRow_type hr hout (by decide) (by rw [he]; simp)
    rw [he] at this
    exact this rfl
  have hstored := hout.stored A.length v'
  have hset : (vs ++ [vl]).set A.length v' = vs ++ [v'] := by
    rw [← h.len, List.set_append_right _ _ (Nat.le_refl _), Nat.sub_self]
    rfl
  refine ⟨⟨?_, h.len, fun j v a hj ha => ?_, ?_, h.B, ?_, ?_⟩, ?_, hout.frozenAt _⟩
  · rw [← hset]
    exact hstored.1
  · obtain ⟨h1, h2⟩ := h.rows j v a hj ha
    refine ⟨hrows ((h1.alloc tmp).kept hg ?_), h2⟩
    cases hb : v.ownBlock with
    | none => exact Or.inl rfl
    | some b =>
      right
      have hlt := h2 b hb
      intro e2
      have := (h.last.lt b e2.symm).1
      omega
  · have h0 := hrows (a := l ++ [e]) (v := v') (C := B') (by rw [List.length_append, pVs_snoc]; exact hown)
    exact h0
  · rw [World.size_setCell]; exact Nat.le_trans h.B2 hsz
  · refine Below.setCell ?_ hGB _
    refine (h.below.alloc h.below.size tmp).grown hg (Nat.le_trans h.below.size (by simp)) fun k hk => ?_
    exact Nat.le_trans h.B (h.last.lt k hk).1
  · rw [hout.cellAt A.length (by omega), ← h.len]
    simp

/-- The alternatives L lie behind the slice v. -/
def PAltsAt (w : World) (v : Value) (L : List (List El)) : Prop := ∃ G cap, v = .slice (some ⟨G, 0, none⟩) L.length cap ∧ G < w.heap.size ∧ L.length ≤ cap ∧
  ∀ (j : Nat) (a : List El), L[j]? = some a → ∃ aj cj gj, w.cell? ⟨G, j, none⟩ = some (.slice aj a.length cj) ∧ (0 < a.length → aj = some ⟨gj, 0, none⟩) ∧ gj < w.heap.size ∧ PElsAt w gj a

theorem pRow_read {w : World} {B : Nat} {v : Value} {a : List El} (h : w.ownsRow B 95 130 v a.length (pVs a)) (hpos : 0 < w.heap.size) : ∃ aj cj gj, v = .slice aj a.length cj ∧ (0 < a.length → aj = some ⟨gj, 0, none⟩) ∧ gj < w.heap.size ∧ PElsAt w gj a := by
  rcases h.2 with ⟨rfl, h0⟩ | ⟨g, cap, cur, rfl, hB, hg, _⟩
  · refine ⟨none, 0, 0, by rw [h0], fun h => by omega, hpos, ?_⟩
    have : a = [] := List.length_eq_zero_iff.1 h0
    subst this
    intro i e he
    simp at he
  · exact ⟨some ⟨g, 0, none⟩, cap, g, rfl, fun _ => rfl, (Array.getElem?_eq_some_iff.1 hg).1, pElsAt_of h⟩

theorem PInv.alts {w wx : World} {B' G cap : Nat} {A : List (List El)} {l : List El} {vs : List Value} {vl : Value} (h : PInv w B' G cap A l vs vl wx) : PAltsAt wx (.slice (some ⟨G, 0, none⟩) (A.length + 1) cap) (A ++ [l]) := by
  have hG := (h.outer.lt G rfl).2
  have hcap : A.length + 1 ≤ cap := by
    rcases h.outer.2 with ⟨h0, _⟩ | ⟨g, cp, cur, h0, _, _, h1, _⟩
    · simp at h0
    · cases h0
      exact h1
  refine ⟨G, cap, by simp, hG, by simpa using hcap, fun j a hj => ?_⟩
  have hjl : j < A.length + 1 := by have := (List.getElem?_eq_some_iff.1 hj).1; simpa using this
  have hc := h.outer.cellAt j (by omega)
  rcases Nat.lt_or_ge j A.length with hlt | hge
  · rw [List.getElem?_append_left hlt] at hj
    obtain ⟨v, hv⟩ : ∃ v, vs[j]? = some v := ⟨vs[j]'(by rw [h.len]; exact hlt), List.getElem?_eq_getElem _⟩
    rw [List.getElem?_append_left (by rw [h.len]; exact hlt), hv] at hc
    obtain ⟨aj, cj, gj, rfl, h1, h2, h3⟩ := pRow_read (h.rows j v a hv hj).1 (by omega)
    exact ⟨aj, cj, gj, hc, h1, h2, h3⟩
  · obtain rfl : j = A.length := by omega
    rw [List.getElem?_append_right (Nat.le_refl _), Nat.sub_self] at hj
    simp only [List.getElem?_cons_zero, Option.some.injEq] at hj
    subst hj
    rw [List.getElem?_append_right (by rw [h.len]; exact Nat.le_refl _), h.len, Nat.sub_self] at hc
    obtain ⟨aj, cj, gj, rfl, h1, h2, h3⟩ := pRow_read h.last (by omega)
    exact ⟨aj, cj, gj, hc, h1, h2, h3⟩

theorem PInv.first {w : World} : PInv w (w.alloc (.cells #[.slice none 0 0] 81)).heap.size w.heap.size 1 [] [] [] (.slice none 0 0) (w.alloc (.cells #[.slice none 0 0] 81)) := by
  refine ⟨?_, rfl, fun j v a hj _ => by simp at hj, World.ownsRow_nil _ _ _ _, by simp, Nat.le_refl _, (Below.refl _ w).alloc (Nat.le_refl _) _⟩
  exact ⟨rfl, Or.inr ⟨w.heap.size, 1, #[.slice none 0 0], rfl, Nat.le_refl _, heap_alloc_last w _, Nat.le_refl _, by unfold maxLen; omega, rfl, rfl⟩⟩

/-- A load of a whole row yields in every world in which the row lies. -/
theorem yieldsIf_load_row {P : Program} {ops : Array Oper} {S : World → Prop} {op : Oper} {a : Act} (hw : Region.wanted op (yielded ops a.tmps) = true) (ty : TypeId) (x : Operand) (ho : op.op = .load ty x)
    (g : Nat) (hx : a.eval x = .pointer (some ⟨g, 0, none⟩)) (t : TypeId) (cs : Array Value) (fr : Nat × Nat) (d : TypeDesc) (hS : ∀ w, S w → w.heap[g]? = some (.cells cs t fr))
    (hu : P.underlying ty = some d) (hd : (match d with | .struct _ | .array _ _ => true | _ => false) = true) (hi : (P.info? ty).map (·.size) = some cs.size) : YieldsIf P ops S op (.agg cs) a :=
  .inl ⟨hw, fun w hw' => by
    unfold execOp
    simp only [ho, hx, Instr.loadAt, Instr.sureAddr, Sem.run_bind, Sem.run_pure, Result.andThen_ok, run_loadVar_row w g t ty cs fr d (hS w hw') hu hd hi]⟩

/-- A slice literal of one element that is a row. -/
theorem step_build_row {P : Program} {ops : Array Oper} {o : Oper} {a : Act} {w : World} {K : Act → World → Prop} {Q : Exit → Act → World → Prop} {E : Prop} (hg : o.guard = none) (t e : TypeId) (x : Operand) (ho : o.op = .buildSlice t 1 #[(0, x)])
    (cs : Array Value) (ie : TypeInfo) (z : Value) (hx : a.eval x = .agg cs)
    (hu : P.underlying t = some (.slice e)) (hie : P.info? e = some ie) (hz : ie.zero = some z) (hs : ie.size = cs.size) (hpos : 0 < cs.size) (hsmall : cs.size ≤ 2 ^ 24)
    (h : K (a.put o.dst (.slice (some ⟨w.heap.size, 0, none⟩) 1 1)) (w.alloc (.cells cs e))) : if Region.wanted o (yielded ops a.tmps) = true then Oper.wp P o a w K Q else E := by
  have hw : Region.wanted o (yielded ops a.tmps) = true := by simp [Region.wanted, hg]
  rw [if_pos hw]
  refine wp_buildSlice t e 1 #[(0, x)] ho cs ie z hu hie hz (by rw [hs]; omega) (by rw [hs]; omega) ?_ h
  have hp : ((#[(0, x)] : Array (Nat × Operand)).map fun (i, x) => (i, a.eval x)).toList = (([Value.agg cs].zipIdx 0).map fun x => (x.2, x.1)) := by
    simp [hx]
  rw [hp, hs]
  have hf := Great.fill_whole hpos [Value.agg cs] ((Array.range (1 * cs.size)).map (z.cells[· % z.cells.size]!)) (fun v hv => by rw [List.mem_singleton.1 hv]; rfl) (by simp)
  rw [hf]
  congr 1
  simp [Value.cells]
end Go.Proofs.YteiphphihclnfaaDoor.Gl
