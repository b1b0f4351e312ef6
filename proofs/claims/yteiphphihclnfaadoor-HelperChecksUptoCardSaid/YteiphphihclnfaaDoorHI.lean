/- helper.Items: the properties of an output. -/
import Derived.Test.YteiphphihclnfaaDoorHA
import Derived.Test.YteiphphihclnfaaDoorNE
import Derived.Maps.OwnIn
namespace Go.Proofs.YteiphphihclnfaaDoor
open Go.RowKit Go.Shelf
open Go.Proofs.YteiphphihclnfaaDoor.Nm
/-- An attribute: its name and its value. -/
abbrev Atb := List UInt8 × List UInt8
set_option maxRecDepth 100000 in
noncomputable def atT : RT Atb where
  sz := 2
  ty := 50
  sl := 43
  bt := 32
  z := .agg #[.string ⟨#[]⟩, .string ⟨#[]⟩]
  cf := fun x => [.string (bs x.1), .string (bs x.2)]
  pos := by decide
  len := fun _ => rfl
  one := fun x v hv => by
    simp only [List.mem_cons, List.not_mem_nil, or_false] at hv
    rcases hv with rfl | rfl <;> rfl
  und := Tryd.underlying43
  info := by kernel_rfl
  zs := rfl
  btl := by decide
theorem atRow {w : World} {b o : Nat} {l : List Atb} (h : atT.Row w b o l) {j : Nat} {x : Atb} (hx : l[j]? = some x) :
    w.cell? ⟨b, o + j * 2, none⟩ = some (.string (bs x.1)) ∧ w.cell? ⟨b, o + j * 2 + 1, none⟩ = some (.string (bs x.2)) :=
  ⟨h j x hx 0 _ rfl, h j x hx 1 _ rfl⟩
/-- The property that an item says. -/
def itemOf (p : List UInt8) : Option Atb := if keyB (Lib.cut p [61]).1 && !(Lib.cut p [61]).2.1.isEmpty then some ((Lib.cut p [61]).1, (Lib.cut p [61]).2.1) else none
def itemsOn (ps : List ByteArray) : List Atb := ps.filterMap fun p => itemOf p.data.toList
def itemsL (s : List UInt8) : List Atb := (pieces 59 s).filterMap itemOf
theorem itemsOn_snoc (ps : List ByteArray) (p : ByteArray) : itemsOn (ps ++ [p]) = itemsOn ps ++ (itemOf p.data.toList).toList := by
  unfold itemsOn
  rw [List.filterMap_append]
  rw [show List.filterMap (fun p : ByteArray => itemOf p.data.toList) [p] = (itemOf p.data.toList).toList from by
    rw [List.filterMap_cons, List.filterMap_nil]
    cases itemOf p.data.toList <;> rfl]
theorem itemsOn_pieces (s : List UInt8) : itemsOn (piecesB 59 (bs s)) = itemsL s := by
  unfold itemsOn itemsL piecesB
  rw [List.filterMap_map]
  rfl
theorem itemsOn_len (ps : List ByteArray) : (itemsOn ps).length ≤ ps.length := List.length_filterMap_le _ _
theorem pieces_count (c : UInt8) : ∀ l : List UInt8, (pieces c l).length ≤ l.length + 1
  | [] => by simp [pieces]
  | x :: r => by
    have ih := pieces_count c r
    unfold pieces
    split
    · simp; omega
    · split
      · simp
      · rename_i h; rw [h] at ih; simp at ih ⊢; omega
theorem wpListIn_append_r {α : Type} {r : RT α} {F : Fence} {n : Nat} {ops : Array Oper} {rest : List Oper} {o : Oper} {a : Act} {w : World} {Q : Exit → Act → World → Prop} (hg : o.guard = none) (s y : Operand)
    (hop : o.op = Op.call { callee := Callee.builtin Builtin.append, args := #[s, y], argTypes := #[r.sl, r.sl] }) (base : Nat)
    (v : Value) (xs : List α) (hs : a.eval s = v) (hown : r.Own w base v xs) (b c : Nat) (x : α) (hx : a.eval y = .slice (some ⟨b, 0, none⟩) 1 c) (hcell : w.rangeAt b 0 (r.cf x)) (hb1 : xs.length ≤ 1000000) (hb : base ≤ w.heap.size)
    (hK : ∀ v' w', r.Own w' base v' (xs ++ [x]) → w.grownBy w' v.ownBlock → wpListIn F n Tryd.prog ops Q rest (a.put o.dst v') w') : wpListIn F n Tryd.prog ops Q (o :: rest) a w := by
  refine wpListIn_plain hg fun K hK' => ?_
  obtain ⟨v', w', h1, h2, h3⟩ := run_append_r (c := c) x o.type hown hcell hb1 hb
  unfold Oper.wpIn
  refine ⟨?_, ?_⟩
  · simp [Oper.about, hop, resolve, Target.leads, Sem.run_pure]
  · rw [Oper.semAt_plain F _ _ (by rw [hop]; intro c hc'; cases hc')]
    simp [execOp, hop, resolve, invoke, builtin, hs, hx, h1, Result.andThen]
    exact hK' _ _ (hK v' w' h2 h3)
/-- Behind ws, with the boxes of an iterator at m and the box of a slice at k: the slice owns acc. -/
structure HoldI (m k : Nat) (ws : World) (acc : List Atb) (W : World) : Prop where
  os : W.os = ws.os
  tape : W.tape = ws.tape
  output : W.output = ws.output
  size : ws.heap.size ≤ W.heap.size
  block : ∀ j, j < ws.heap.size → j ≠ m → j ≠ k → W.heap[j]? = ws.heap[j]?
  row : ∃ v, Boxed W k 43 v ∧ atT.Own W ws.heap.size v acc
variable {m k : Nat} {ws W : World} {acc : List Atb}
theorem HoldI.own {β : Type} (B : Nat) (hB : ws.heap.size ≤ B) (hk : k < ws.heap.size) (p : β → List Atb → Prop) : OwnFrom B (fun s W => ∃ acc, p s acc ∧ HoldI m k ws acc W) := by
  rintro s A C row ⟨acc, hp, h⟩ hg hr
  obtain ⟨v, hv, hrow⟩ := h.row
  refine ⟨acc, hp, hg.os.trans h.os, hg.tape.trans h.tape, hg.output.trans h.output, Nat.le_trans h.size hg.size, fun j h1 h2 h3 => (hg.block j (Nat.lt_of_lt_of_le h1 h.size) fun e => ?_).trans (h.block j h1 h2 h3), v, hv.kept hg fun e => ?_, World.ownsRow.kept hrow hg ?_⟩
  · have := (hr _ e.symm).1; omega
  · have := (hr _ e.symm).1; omega
  · rcases hrow.2 with ⟨rfl, _⟩ | ⟨g, cap, cur, rfl, _, hgb, _⟩
    · exact .inl rfl
    · refine .inr fun e' => ?_
      obtain ⟨_, o, ho, hc⟩ := hr g (by simpa [Value.ownBlock] using e'.symm)
      rw [hgb] at ho; cases ho; cases hc
theorem HoldI.set0 (h : HoldI m k ws acc W) (hmk : k ≠ m) (hm : m < ws.heap.size) (u : Value) : HoldI m k ws acc (W.setCell ⟨m, 0, none⟩ u) := by
  obtain ⟨v, hv, hrow⟩ := h.row
  refine ⟨h.os, h.tape, h.output, by simpa [World.setCell] using h.size, fun j h1 h2 h3 => (Below.heap_setCell _ _ _ _ (by exact h2)).trans (h.block j h1 h2 h3), v, hv.other hmk u, hrow.set (fun b hb => ?_) u⟩
  have := (hrow.ge b hb).1
  show b ≠ m
  omega
theorem HoldI.kp0 {W' : World} (h : HoldI m k ws acc W) (hk : k < ws.heap.size) (g : Kp [] W W') : HoldI m k ws acc W' := by
  obtain ⟨v, hv, hrow⟩ := h.row
  have hs := h.size
  exact ⟨g.os.trans h.os, g.tape.trans h.tape, g.output.trans h.output, Nat.le_trans h.size g.size, fun j h1 h2 h3 => (g.block j (by omega) (by simp)).trans (h.block j h1 h2 h3), v, (g.block k (by omega) (by simp)).trans hv, hrow.kp0 g⟩
theorem KeepsOthers.of_kp0 {W W' : World} (g : Kp [] W W') : KeepsOthers W W' := ⟨g.size, fun j o h _ => (g.block j (block_lt h) (by simp)).trans h⟩
theorem others_own {B : Nat} {w w1 : World} {v : Value} {xs : List Atb} (hown : atT.Own w B v xs) (hg : w.grownBy w1 v.ownBlock) : KeepsOthers w w1 :=
  KeepsOthers.of_grownBy hg fun j o ej hj => by
    rcases hown.2 with ⟨rfl, _⟩ | ⟨g, cap, cur, rfl, _, hgb, _⟩
    · simp [Value.ownBlock] at ej
    · obtain rfl : g = j := by simpa [Value.ownBlock] using ej
      rw [hgb] at hj; cases hj; rfl
/-- An attribute was appended and the box holds the longer slice. -/
theorem HoldI.push {w1 : World} {v v' : Value} {x : Atb} (h : HoldI m k ws acc W) (hk : k < ws.heap.size) (hbox : Boxed W k 43 v) (hown : atT.Own W ws.heap.size v acc) (hg : W.grownBy w1 v.ownBlock) (hown' : atT.Own w1 ws.heap.size v' (acc ++ [x])) :
    HoldI m k ws (acc ++ [x]) (w1.setCell ⟨k, 0, none⟩ v') := by
  have hs := h.size
  have hne : ∀ j, j < ws.heap.size → some j ≠ v.ownBlock := fun j hj e => by have := (hown.ge j e.symm).1; omega
  refine ⟨hg.os.trans h.os, hg.tape.trans h.tape, hg.output.trans h.output, by have := hg.size; simp [World.setCell]; omega, fun j h1 h2 h3 => ?_, v', ?_, hown'.set (fun b hb => ?_) _⟩
  · exact (Below.heap_setCell _ _ _ _ (by exact h3)).trans ((hg.block j (by omega) (hne j h1)).trans (h.block j h1 h2 h3))
  · have : Boxed w1 k 43 v := (hg.block k (by omega) (hne k hk)).trans hbox
    exact this.set v'
  · have := (hown'.ge b hb).1
    show b ≠ k
    omega
end Go.Proofs.YteiphphihclnfaaDoor
