/- Bytes of texts; rows of any elements in memory. -/
import Derived.Test.YteiphphihclnfaaDoorA
import Derived.Lib.OthersKept
import Derived.Lib.IndexBytes
import Derived.Lib.ConvBytes
import Derived.Laws.RangeAny
import Derived.Laws.IdiomStrings
import Derived.Laws.BytesArg
import Derived.Deep.DeepCutAuto
import Derived.Deep.CutBlock
namespace Go.Proofs.YteiphphihclnfaaDoor
open Go.RowKit
/-- A text's bytes. -/
def bs (s : List UInt8) : ByteArray := ⟨s.toArray⟩
theorem bs_data (s : List UInt8) : (bs s).data.toList = s := rfl
theorem bs_of (s : ByteArray) : bs s.data.toList = s := by
  unfold bs
  rw [Array.toArray_toList]
theorem bs_size (s : List UInt8) : (bs s).size = s.length := rfl
theorem bs_isEmpty (r : List UInt8) : (bs r).toList.isEmpty = r.isEmpty := by rw [Lib.toList_data, bs_data]
theorem bs_drop (l : List UInt8) (k : Nat) : (bs l).extract k (bs l).size = bs (l.drop k) := by
  apply ByteArray.ext
  rw [ByteArray.data_extract, bs_size]
  apply Array.ext'
  simp [bs]
  rw [List.take_of_length_le (by simp)]
theorem bs_take (l : List UInt8) (k : Nat) : (bs l).extract 0 k = bs (l.take k) := by
  apply ByteArray.ext
  rw [ByteArray.data_extract]
  apply Array.ext'
  simp [bs]
theorem bs_mid (l : List UInt8) (i j : Nat) : (bs l).extract i j = bs ((l.take j).drop i) := by
  apply ByteArray.ext
  apply Array.ext'
  rw [ByteArray.data_extract, Array.toList_extract]
  simp [bs, List.extract, List.drop_take]
theorem bs_inj {a b : List UInt8} (h : bs a = bs b) : a = b := by
  have := congrArg (fun s : ByteArray => s.data.toList) h
  simpa [bs_data] using this
theorem bs_app (a b : List UInt8) : bs a ++ bs b = bs (a ++ b) := by
  apply ByteArray.ext
  rw [ByteArray.data_append]
  simp [bs]
theorem bs_get (l : List UInt8) (k : Nat) (h : k < l.length) : (bs l)[k]'h = l[k] := by
  show (bs l).data[k]'h = _
  simp [bs]

/-- A type of elements: how many cells, the types' numbers, an element's cells. -/
structure RT (α : Type) where
  sz : Nat
  ty : TypeId
  sl : TypeId
  bt : Nat
  z : Value
  cf : α → List Value
  pos : 0 < sz
  len : ∀ x, (cf x).length = sz
  one : ∀ x, ∀ v ∈ cf x, v.oneCell' = true
  und : Tryd.prog.underlying sl = some (.slice ty)
  info : (Tryd.prog.info? ty).map (fun i => (i.zero, i.size, i.bytes)) = some (some z, sz, bt)
  zs : z.cells.size = sz
  btl : bt ≤ 64
variable {α : Type} (r : RT α)

def RT.cells (l : List α) : List Value := l.flatMap r.cf
theorem RT.cells_cons (x : α) (l : List α) : r.cells (x :: l) = r.cf x ++ r.cells l := rfl
theorem RT.cells_len (l : List α) : (r.cells l).length = l.length * r.sz := by
  induction l with
  | nil => simp [RT.cells]
  | cons x l ih => rw [RT.cells_cons, List.length_append, ih, r.len, List.length_cons, Nat.add_mul, Nat.one_mul, Nat.add_comm]
theorem RT.cells_append (a b : List α) : r.cells (a ++ b) = r.cells a ++ r.cells b := List.flatMap_append
theorem RT.cells_one (l : List α) : ∀ v ∈ r.cells l, v.oneCell' = true := fun v hv => by
  obtain ⟨x, _, h⟩ := List.mem_flatMap.1 hv
  exact r.one x v h
theorem RT.cells_get : ∀ (l : List α) (j : Nat) (x : α) (m : Nat), l[j]? = some x → m < r.sz → (r.cells l)[j * r.sz + m]? = (r.cf x)[m]?
  | [], j, x, m, h, _ => by simp at h
  | y :: l, 0, x, m, h, hm => by
    simp only [List.getElem?_cons_zero, Option.some.injEq] at h
    subst h
    rw [RT.cells_cons, List.getElem?_append_left (by rw [r.len]; omega), Nat.zero_mul, Nat.zero_add]
  | y :: l, j + 1, x, m, h, hm => by
    have := RT.cells_get l j x m (by simpa using h) hm
    have e : (j + 1) * r.sz = j * r.sz + r.sz := by rw [Nat.add_mul, Nat.one_mul]
    rw [RT.cells_cons, List.getElem?_append_right (by rw [r.len]; omega), r.len, show (j + 1) * r.sz + m - r.sz = j * r.sz + m by omega]
    exact this

/-- The cells from (b, o) on hold these elements. -/
def RT.Row (w : World) (b o : Nat) (l : List α) : Prop := ∀ (j : Nat) (x : α), l[j]? = some x → w.rangeAt b (o + j * r.sz) (r.cf x)
/-- The slice v holds these elements. -/
def RT.Has (w : World) (v : Value) (l : List α) : Prop := (∃ a c, v = .slice a 0 c ∧ l = []) ∨ ∃ b o c, v = .slice (some ⟨b, o, none⟩) l.length c ∧ b < w.heap.size ∧ r.Row w b o l
variable {r}
theorem RT.row_of {w : World} {b : Nat} {l : List α} {cur : List Value} (h : w.heap[b]? = some (.cells cur.toArray r.ty (0, 0))) (hc : cur.take (l.length * r.sz) = r.cells l) : r.Row w b 0 l := fun j x hx m v hv => by
  have hj := (List.getElem?_eq_some_iff.1 hx).1
  have hm : m < r.sz := by have := (List.getElem?_eq_some_iff.1 hv).1; rwa [r.len] at this
  have hlt : j * r.sz + m < l.length * r.sz := by
    have : (j + 1) * r.sz ≤ l.length * r.sz := Nat.mul_le_mul_right _ hj
    rw [Nat.add_mul, Nat.one_mul] at this
    omega
  rw [cell_of_row _ _ _ _ _ _ h, List.getElem?_toArray, Nat.zero_add]
  have := r.cells_get l j x m hx hm
  rw [← hc, List.getElem?_take, if_pos hlt] at this
  rw [this, hv]
theorem RT.Row.keep {w w' : World} {b o : Nat} {l : List α} (h : r.Row w b o l) (hb : w'.heap[b]? = w.heap[b]?) : r.Row w' b o l := fun j x hx m v hv => by
  have := h j x hx m v hv
  simp only [World.cell?, hb] at this ⊢
  exact this
theorem RT.Has.form {w : World} {v : Value} {l : List α} (h : r.Has w v l) : ∃ a c, v = .slice a l.length c ∧ (l ≠ [] → ∃ b o, a = some ⟨b, o, none⟩ ∧ b < w.heap.size ∧ r.Row w b o l) := by
  rcases h with ⟨a, c, rfl, rfl⟩ | ⟨b, o, c, rfl, hb, hr⟩
  · exact ⟨a, c, rfl, fun h => absurd rfl h⟩
  · exact ⟨some ⟨b, o, none⟩, c, rfl, fun _ => ⟨b, o, rfl, hb, hr⟩⟩
theorem RT.Has.kp {w w' : World} {s : List Nat} {v : Value} {l : List α} (h : r.Has w v l) (hk : Kp s w w') (hs : ∀ b, v.ownBlock = some b → b ∉ s) : r.Has w' v l := by
  rcases h with h | ⟨b, o, c, rfl, hb, hr⟩
  · exact .inl h
  · exact .inr ⟨b, o, c, rfl, Nat.lt_of_lt_of_le hb hk.size, hr.keep (hk.block b hb (hs b rfl))⟩
theorem RT.Has.kp0 {w w' : World} {v : Value} {l : List α} (h : r.Has w v l) (hk : Kp [] w w') : r.Has w' v l := h.kp hk fun _ _ => by simp
variable (r)
/-- A row of the call's own. -/
def RT.Own (w : World) (B : Nat) (v : Value) (l : List α) : Prop := w.ownsRow B r.ty r.sz v l.length (r.cells l)
theorem RT.Own.nil (w : World) (B : Nat) : r.Own w B (.slice none 0 0) [] := World.ownsRow_nil _ _ _ _
variable {r}
theorem RT.Own.has {w : World} {B : Nat} {v : Value} {l : List α} (h : r.Own w B v l) : r.Has w v l := by
  rcases h.2 with ⟨hv, hn⟩ | ⟨g, cap, cur, hv, hB, hh, hc, hcm, hcz, ht⟩
  · exact .inl ⟨none, 0, hv, List.length_eq_zero_iff.1 hn⟩
  · exact .inr ⟨g, 0, cap, hv, block_lt hh, RT.row_of (cur := cur.toList) (by rw [Array.toArray_toList]; exact hh) ht⟩
theorem RT.Own.form {w : World} {B : Nat} {v : Value} {l : List α} (h : r.Own w B v l) : ∃ a c, v = .slice a l.length c := by
  rcases h.2 with ⟨hv, hn⟩ | ⟨g, cap, cur, hv, _⟩
  · exact ⟨none, 0, by rw [hv, hn]⟩
  · exact ⟨_, _, hv⟩
theorem RT.Own.keep {w w' : World} {B : Nat} {v : Value} {l : List α} (h : r.Own w B v l) (hk : ∀ b, b < w.heap.size → v.ownBlock = some b → w'.heap[b]? = w.heap[b]?) : r.Own w' B v l := by
  refine ⟨h.1, ?_⟩
  rcases h.2 with hn | ⟨g, cap, cur, hv, hB, hh, rest⟩
  · exact .inl hn
  · exact .inr ⟨g, cap, cur, hv, hB, (hk g (block_lt hh) (by rw [hv]; rfl)).trans hh, rest⟩
theorem RT.Own.kp {w w' : World} {B : Nat} {s : List Nat} {v : Value} {l : List α} (h : r.Own w B v l) (hk : Kp s w w') (hs : ∀ b, v.ownBlock = some b → b ∉ s) : r.Own w' B v l := h.keep fun b hb hv => hk.block b hb (hs b hv)
theorem RT.Own.kp0 {w w' : World} {B : Nat} {v : Value} {l : List α} (h : r.Own w B v l) (hk : Kp [] w w') : r.Own w' B v l := h.kp hk fun _ _ => by simp
theorem RT.Own.ge {w : World} {B : Nat} {v : Value} {l : List α} (h : r.Own w B v l) : ∀ b, v.ownBlock = some b → B ≤ b ∧ b < w.heap.size := fun b hb => by
  rcases h.2 with ⟨hv, _⟩ | ⟨g, cap, cur, hv, hB, hh, _⟩
  · rw [hv] at hb
    cases hb
  · rw [hv] at hb
    have : g = b := by simpa [Value.ownBlock] using hb
    exact ⟨by omega, by rw [← this]; exact block_lt hh⟩
theorem RT.Own.down {w : World} {B B' : Nat} {v : Value} {l : List α} (h : r.Own w B v l) (hB : B' ≤ B) : r.Own w B' v l := by
  refine ⟨h.1, ?_⟩
  rcases h.2 with hn | ⟨g, cap', cur, hv, hg, rest⟩
  · exact .inl hn
  · exact .inr ⟨g, cap', cur, hv, by omega, rest⟩
/-- An own row stays while a cell of another block is written. -/
theorem RT.Own.set {w : World} {B : Nat} {v : Value} {l : List α} (h : r.Own w B v l) {p : Addr} (hp : ∀ b, v.ownBlock = some b → b ≠ p.block) (u : Value) : r.Own (w.setCell p u) B v l :=
  h.keep fun b _ hv => Below.heap_setCell _ _ _ _ (hp b hv)
theorem add_addr (b o j : Nat) : (⟨b, o, none⟩ : Addr).add j = ⟨b, o + j, none⟩ := by unfold Addr.add; split <;> simp_all

/-- One more element behind an own row: the element lies in the block that was made last. -/
theorem run_append_r {w : World} {base b c : Nat} {v : Value} {xs : List α} (x : α) (ty : TypeId) (hown : r.Own w base v xs) (hcell : w.rangeAt b 0 (r.cf x)) (hb1 : xs.length ≤ 1000000) (hb : base ≤ w.heap.size) :
    ∃ v' w', (Builtin.append_ #[r.sl, r.sl] ty #[v, .slice (some ⟨b, 0, none⟩) 1 c]).run Tryd.prog w = .ok v' w' ∧ r.Own w' base v' (xs ++ [x]) ∧ w.grownBy w' v.ownBlock := by
  obtain ⟨i0, hi0, hz0, hz1, hz2⟩ := info_parts r.info
  obtain ⟨v', w', h1, h2, h3, _⟩ := run_append_own (P := Tryd.prog) w base r.sl ty r.ty i0 _ r.sz r.bt r.und hi0 hz0 hz1 hz2 r.zs r.pos v xs.length (r.cells xs) hown ⟨b, 0, none⟩ 1 c (r.cells [x])
    (r.cells_len [x]) (fun j u hj => by
      rw [add_addr]
      have e : r.cells [x] = r.cf x := by simp [RT.cells]
      rw [e] at hj
      exact hcell j u hj) (r.cells_one [x]) (by unfold maxLen; omega) (by
      have := r.btl
      have : (xs.length + 1) * r.bt ≤ 1000001 * 64 := Nat.mul_le_mul (by omega) this
      omega) hb
  refine ⟨v', w', h1, ?_, h3⟩
  unfold RT.Own
  rw [List.length_append, RT.cells_append]
  exact h2
theorem wpList_append_r {ops : Array Oper} {rest : List Oper} {o : Oper} {a : Act} {w : World} {Q : Exit → Act → World → Prop} (hg : o.guard = none) (s y : Operand)
    (hop : o.op = Op.call { callee := Callee.builtin Builtin.append, args := #[s, y], argTypes := #[r.sl, r.sl] }) (base : Nat)
    (v : Value) (xs : List α) (hs : a.eval s = v) (hown : r.Own w base v xs) (b c : Nat) (x : α) (hx : a.eval y = .slice (some ⟨b, 0, none⟩) 1 c) (hcell : w.rangeAt b 0 (r.cf x)) (hb1 : xs.length ≤ 1000000) (hb : base ≤ w.heap.size)
    (hK : ∀ v' w', r.Own w' base v' (xs ++ [x]) → w.grownBy w' v.ownBlock → wpList Tryd.prog ops Q rest (a.put o.dst v') w') : wpList Tryd.prog ops Q (o :: rest) a w := by
  refine wpList_plain hg fun K hK' => ?_
  obtain ⟨v', w', h1, h2, h3⟩ := run_append_r (c := c) x o.type hown hcell hb1 hb
  unfold Oper.wp
  simp [execOp, hop, resolve, invoke, builtin, hs, hx, h1, Result.andThen]
  exact hK' _ _ (hK v' w' h2 h3)


theorem RT.Own.form2 {α : Type} {r : RT α} {w : World} {B : Nat} {v : Value} {l : List α} (h : r.Own w B v l) : (v = .slice none 0 0 ∧ l = []) ∨ ∃ g cap, v = .slice (some ⟨g, 0, none⟩) l.length cap ∧ B ≤ g ∧ g < w.heap.size ∧ l.length ≤ cap ∧ w.frozen? ⟨g, 0, none⟩ = false ∧ r.Row w g 0 l := by
  rcases h.2 with ⟨hv, hn⟩ | ⟨g, cap, cur, hv, hB, hh, hc, hcm, hcz, ht⟩
  · exact .inl ⟨hv, List.length_eq_zero_iff.1 hn⟩
  · exact .inr ⟨g, cap, hv, hB, block_lt hh, hc, by simp [World.frozen?, hh], RT.row_of (cur := cur.toList) (by rw [Array.toArray_toList]; exact hh) ht⟩

set_option maxRecDepth 100000 in
noncomputable def stT : RT (List UInt8) where
  sz := 1
  ty := 9
  sl := 38
  bt := 16
  z := .string ⟨#[]⟩
  cf := fun x => [.string (bs x)]
  pos := by decide
  len := fun _ => rfl
  one := fun x v hv => by rw [List.mem_singleton.1 hv]; rfl
  und := Tryd.underlying38
  info := by kernel_rfl
  zs := rfl
  btl := by decide
end Go.Proofs.YteiphphihclnfaaDoor
