/- Clean: what any text becomes as the name of a link. -/
import Derived.Test.YtfcfooipoiomkaaDoorH
import Derived.Laws.BytesArg
import Derived.Maps.OwnIn
namespace Go.Proofs.YtfcfooipoiomkaaDoor
open Go.RowKit Go.Shelf

attribute [local go_sem] Oper.semAt_some

theorem run_string_owned {w : World} {B : Nat} {v : Value} {l : List UInt8} (hrow : w.ownsRow B 5 1 v l.length (l.map u8v)) : (convert 59 9 v).run Tryd.prog w = .ok (.string ⟨l.toArray⟩) w := by
  rcases hrow.2 with ⟨rfl, h0⟩ | ⟨g, cap, cur, rfl, hb, hg, h1, h2, h3, h4⟩
  · have hl : l = [] := List.length_eq_zero_iff.1 h0
    subst hl
    rw [run_convert_bytes_string (e := 5) w 59 9 none 0 0 Tryd.underlying59 Tryd.underlying5 Tryd.underlying9]
    simp [Conv.bytesToString, go_sem]
    rfl
  · have := run_convert_bytes_arg (P := Tryd.prog) w 59 5 Tryd.underlying59 Tryd.underlying5 g 0 l.length cap (l.map fun b => (b.toNat : Int)) (by simp) (fun i hi => by
      rw [Nat.zero_add, cell_of_row w g i cur 5 (0, 0) hg]
      have h5 : (cur.toList.take (l.length * 1))[i]? = (l.map u8v)[i]? := by rw [h4]
      rw [Nat.mul_one, List.getElem?_take, if_pos hi] at h5
      rw [← Array.getElem?_toList, h5]
      simp [List.getElem?_eq_getElem hi, u8v]) 9 Tryd.underlying9
    rw [this]
    congr 2
    unfold strOfNums
    simp [List.map_map, Function.comp_def]

theorem results_cell_two {fn : Func} {p q : Tmp} {t u : TypeId} {tmps : Array Value} {w : World} {a b : Addr} {x y : Value} (h : fn.results = #[.cell p t, .cell q u]) (hp : tmps.getD p undef = .pointer (some a)) (hq : tmps.getD q undef = .pointer (some b))
    (hl : (loadVar t a).run Tryd.prog w = .ok x w) (hm : (loadVar u b).run Tryd.prog w = .ok y w) : (results fn tmps).run Tryd.prog w = .ok (.tuple #[x, y]) w := by
  have hp' : tmps[p]?.getD undef = .pointer (some a) := by simpa using hp
  have hq' : tmps[q]?.getD undef = .pointer (some b) := by simpa using hq
  simp [results, h, hp', hq', asAddr, hl, hm, Result.andThen]

theorem load_string {w : World} {a : Addr} {s : ByteArray} (hc : w.cell? a = some (.string s)) : (loadVar 9 a).run Tryd.prog w = .ok (.string s) w := by
  simp [go_sem, hc]

/-- One component more behind acc; none: the text is refused. -/
def stepC (acc p : List UInt8) : Option (List UInt8) :=
  if p = [] ∨ p = [46] then some acc
  else if p = [46, 46] then none
  else if ((if acc = [] then [] else acc ++ [47]) ++ p.map (clean1 LinkSet)).length ≤ 256 then some ((if acc = [] then [] else acc ++ [47]) ++ p.map (clean1 LinkSet)) else none
def foldC : List (List UInt8) → List UInt8 → Option (List UInt8)
  | [], acc => some acc
  | p :: ps, acc => (stepC acc p).bind (foldC ps)
theorem foldC_append : ∀ (ps qs : List (List UInt8)) (acc : List UInt8), foldC (ps ++ qs) acc = (foldC ps acc).bind (foldC qs)
  | [], _, _ => rfl
  | p :: ps, qs, acc => by
    rw [List.cons_append, foldC, foldC]
    cases stepC acc p with
    | none => rfl
    | some a => exact foldC_append ps qs a
theorem foldC_snoc {ps : List (List UInt8)} {acc a : List UInt8} (h : foldC ps acc = some a) (p : List UInt8) : foldC (ps ++ [p]) acc = stepC a p := by
  rw [foldC_append, h]
  show (stepC a p).bind (foldC []) = _
  cases stepC a p <;> rfl
def cleanB (l : List UInt8) : List UInt8 × Bool := match foldC (pieces 47 l) [] with
  | none => ([], false)
  | some a => (a, decide (0 < a.length))

def listsOf (xs : List ByteArray) : List (List UInt8) := xs.map (·.data.toList)
theorem listsOf_pieces (c : UInt8) (s : ByteArray) : listsOf (piecesB c s) = pieces c s.data.toList := by simp [listsOf, piecesB, Function.comp_def]

/-- Below B all blocks but k lie as they lay. -/
structure BelowBut (B k : Nat) (A W : World) : Prop where
  os : W.os = A.os
  tape : W.tape = A.tape
  output : W.output = A.output
  size : A.heap.size ≤ W.heap.size
  block : ∀ j, j < B → j ≠ k → W.heap[j]? = A.heap[j]?
theorem BelowBut.refl (B k : Nat) (A : World) : BelowBut B k A A := ⟨rfl, rfl, rfl, Nat.le_refl _, fun _ _ _ => rfl⟩
theorem BelowBut.trans {B k : Nat} {A C D : World} (h : BelowBut B k A C) (g : BelowBut B k C D) : BelowBut B k A D :=
  ⟨g.os.trans h.os, g.tape.trans h.tape, g.output.trans h.output, Nat.le_trans h.size g.size, fun j h1 h2 => (g.block j h1 h2).trans (h.block j h1 h2)⟩
theorem BelowBut.of_below {B k : Nat} {A W : World} (h : Below B A W) : BelowBut B k A W := ⟨h.os, h.tape, h.output, h.size, fun j h1 _ => h.block j h1⟩
theorem BelowBut.set {B k : Nat} {A W : World} (h : BelowBut B k A W) (v : Value) : BelowBut B k A (W.setCell ⟨k, 0, none⟩ v) :=
  h.trans ⟨rfl, rfl, rfl, by simp [World.setCell], fun j _ h2 => Below.heap_setCell _ _ _ _ (by exact h2)⟩
theorem BelowBut.cell {B k : Nat} {A W : World} (h : BelowBut B k A W) {a : Addr} (h1 : a.block < B) (h2 : a.block ≠ k) : W.cell? a = A.cell? a := World.cell?_of_block (h.block _ h1 h2)
theorem BelowBut.frozen {B k : Nat} {A W : World} (h : BelowBut B k A W) {a : Addr} (h1 : a.block < B) (h2 : a.block ≠ k) : W.frozen? a = A.frozen? a := World.frozen?_of_block (h.block _ h1 h2)
theorem BelowBut.below {B k : Nat} {A W : World} (h : BelowBut B k A W) (hk : k ≤ B) : Below k A W := ⟨h.os, h.tape, h.output, h.size, fun j hj => h.block j (by omega) (by omega)⟩

/-- Behind ws, with the boxes of an iterator at m and the box of a slice at k: the slice owns acc. -/
structure Hold (m k : Nat) (ws : World) (acc : List UInt8) (W : World) : Prop where
  os : W.os = ws.os
  tape : W.tape = ws.tape
  output : W.output = ws.output
  size : ws.heap.size ≤ W.heap.size
  block : ∀ j, j < ws.heap.size → j ≠ m → j ≠ k → W.heap[j]? = ws.heap[j]?
  row : ∃ v, Boxed W k 59 v ∧ W.ownsRow ws.heap.size 5 1 v acc.length (acc.map u8v)

variable {m k : Nat} {ws W : World} {acc : List UInt8}

theorem Hold.own {β : Type} (B : Nat) (hB : ws.heap.size ≤ B) (hk : k < ws.heap.size) (p : β → List UInt8 → Prop) : OwnFrom B (fun s W => ∃ acc, p s acc ∧ Hold m k ws acc W) := by
  rintro s A C row ⟨acc, hp, h⟩ hg hr
  obtain ⟨v, hv, hrow⟩ := h.row
  refine ⟨acc, hp, hg.os.trans h.os, hg.tape.trans h.tape, hg.output.trans h.output, Nat.le_trans h.size hg.size, fun j h1 h2 h3 => (hg.block j (Nat.lt_of_lt_of_le h1 h.size) fun e => ?_).trans (h.block j h1 h2 h3), v, hv.kept hg fun e => ?_, hrow.kept hg ?_⟩
  · have := (hr _ e.symm).1; omega
  · have := (hr _ e.symm).1; omega
  · rcases hrow.2 with ⟨rfl, _⟩ | ⟨g, cap, cur, rfl, _, hgb, _⟩
    · exact .inl rfl
    · refine .inr fun e' => ?_
      obtain ⟨_, o, ho, hc⟩ := hr g (by simpa [Value.ownBlock] using e'.symm)
      rw [hgb] at ho; cases ho; cases hc

theorem row_setCell {B j : Nat} {v u : Value} {n : Nat} {xs : List Value} (h : W.ownsRow B 5 1 v n xs) (hj : j < B) : (W.setCell ⟨j, 0, none⟩ u).ownsRow B 5 1 v n xs :=
  h.kept (grownBy_setCell' W j u) (by
    rcases h.2 with ⟨rfl, _⟩ | ⟨g, cap, cur, rfl, hg, _, _⟩
    · exact .inl rfl
    · exact .inr fun e => by simp [Value.ownBlock] at e; omega)

theorem Hold.set0 (h : Hold m k ws acc W) (hmk : k ≠ m) (hm : m < ws.heap.size) (u : Value) : Hold m k ws acc (W.setCell ⟨m, 0, none⟩ u) := by
  obtain ⟨v, hv, hrow⟩ := h.row
  exact ⟨h.os, h.tape, h.output, by simpa [World.setCell] using h.size, fun j h1 h2 h3 => (Below.heap_setCell _ _ _ _ (by exact h2)).trans (h.block j h1 h2 h3), v, hv.other hmk u, row_setCell hrow hm⟩

theorem Hold.next {acc' : List UInt8} {W' : World} {v' : Value} (h : Hold m k ws acc W) (hb : BelowBut ws.heap.size k W W') (hv : Boxed W' k 59 v') (hrow : W'.ownsRow ws.heap.size 5 1 v' acc'.length (acc'.map u8v)) : Hold m k ws acc' W' :=
  ⟨hb.os.trans h.os, hb.tape.trans h.tape, hb.output.trans h.output, Nat.le_trans h.size hb.size, fun j h1 h2 h3 => (hb.block j h1 h3).trans (h.block j h1 h2 h3), v', hv, hrow⟩

theorem Hold.cell (h : Hold m k ws acc W) {a : Addr} (h1 : a.block < ws.heap.size) (h2 : a.block ≠ m) (h3 : a.block ≠ k) : W.cell? a = ws.cell? a := World.cell?_of_block (h.block _ h1 h2 h3)
theorem Hold.frozen (h : Hold m k ws acc W) {a : Addr} (h1 : a.block < ws.heap.size) (h2 : a.block ≠ m) (h3 : a.block ≠ k) : W.frozen? a = ws.frozen? a := World.frozen?_of_block (h.block _ h1 h2 h3)

end Go.Proofs.YtfcfooipoiomkaaDoor
