/- result: what a piece of the result stands for. -/
import Derived.Test.YtfpkppgecmbglaaGreatDoorQ
import Derived.Maps.OwnIn
namespace Go.Proofs.YtfpkppgecmbglaaGreatDoor
open Go.RowKit Go.Shelf

attribute [local go_sem] Oper.semAt_some

def tlB (pre : List ByteArray) : List (List UInt8) := pre.map fun x => x.data.toList
theorem tlB_snoc (pre : List ByteArray) (x : ByteArray) : tlB (pre ++ [x]) = tlB pre ++ [x.data.toList] := by simp [tlB]
/-- Between two rounds: how many words have come; what has been chosen. T: the piece's block; behind it the values, the chosen words, the number, the text. -/
structure St (T : Nat) (w0 : World) (n : Nat) (m : Bool) (pre : List ByteArray) (W : World) : Prop where
  num : W.heap[T + 1 + 1 + 1]? = some (.cells #[.int .i64 (pre.length : Int)] 3 (0, 0))
  cho : ∃ v, W.heap[T + 1 + 1]? = some (.cells #[v] 28 (0, 0)) ∧ stT.Own W (T + 5) v (chL n m (tlB pre)) ∧ ∀ b, v.ownBlock = some b → T + 7 + 4 ≤ b
  oth : ∀ k, k < T + 5 → k ≠ T + 1 + 1 → k ≠ T + 1 + 1 + 1 → W.heap[k]? = w0.heap[k]?
  os : W.os = w0.os
  tape : W.tape = w0.tape
  output : W.output = w0.output
  size : T + 5 ≤ W.heap.size
theorem St.rw {T n : Nat} {w0 A B : World} {m : Bool} {pre : List ByteArray} (h : St T w0 n m pre A) (hr : Rw (T + 7) A B) : St T w0 n m pre B := by
  obtain ⟨v, h1, h2, h3⟩ := h.cho
  have hs := h.size
  refine ⟨(hr.low _ (block_lt h.num) (by omega)).trans h.num, ⟨v, (hr.low _ (block_lt h1) (by omega)).trans h1, h2.keep fun b hb hv => ?_, h3⟩, fun k hk e1 e2 => (hr.low k (by omega) (by omega)).trans (h.oth k hk e1 e2), hr.os.trans h.os, hr.tape.trans h.tape, hr.output.trans h.output, Nat.le_trans hs hr.size⟩
  rcases h2.2 with ⟨hv0, _⟩ | ⟨g, cap, cur, hv0, _, hh, _⟩
  · rw [hv0] at hv; cases hv
  · rw [hv0] at hv
    obtain rfl : g = b := by simpa [Value.ownBlock] using hv
    exact (hr.high g _ (h3 g (by rw [hv0]; rfl)) hh rfl).trans hh.symm
theorem St.own {T n : Nat} {w0 A B : World} {m : Bool} {pre : List ByteArray} {row : Option Nat} (h : St T w0 n m pre A) (hg : A.grownBy B row) (hr : ∀ r, row = some r → T + 5 ≤ r ∧ ∃ o : Obj, A.heap[r]? = some o ∧ o.isCells = false) : St T w0 n m pre B := by
  obtain ⟨v, h1, h2, h3⟩ := h.cho
  have hs := h.size
  have hne : ∀ k, k < T + 5 → some k ≠ row := fun k hk e => by have := (hr k e.symm).1; omega
  refine ⟨(hg.block _ (block_lt h.num) (hne _ (by omega))).trans h.num, ⟨v, (hg.block _ (block_lt h1) (hne _ (by omega))).trans h1, h2.keep fun b hb hv => hg.block b hb fun e => ?_, h3⟩, fun k hk e1 e2 => (hg.block k (by omega) (hne k hk)).trans (h.oth k hk e1 e2), hg.os.trans h.os, hg.tape.trans h.tape, hg.output.trans h.output, Nat.le_trans hs hg.size⟩
  obtain ⟨_, o, ho, hc⟩ := hr b e.symm
  rcases h2.2 with ⟨hv0, _⟩ | ⟨g, cap, cur, hv0, _, hh, _⟩
  · rw [hv0] at hv; cases hv
  · rw [hv0] at hv
    obtain rfl : g = b := by simpa [Value.ownBlock] using hv
    rw [hh] at ho
    cases ho
    cases hc
theorem set_box {W : World} {b : Nat} {u u' : Value} {t : TypeId} (h : W.heap[b]? = some (.cells #[u] t (0, 0))) : (W.setCell ⟨b, 0, none⟩ u').heap[b]? = some (.cells #[u'] t (0, 0)) := by
  simp [World.setCell, Array.getElem?_modify, h]
theorem St.step_skip {T n : Nat} {w0 W : World} {m : Bool} {pre : List ByteArray} {x : ByteArray} (h : St T w0 n m pre W) (hn : pre.length + 1 < n) :
    St T w0 n m (pre ++ [x]) (W.setCell ⟨T + 1 + 1 + 1, 0, none⟩ (.int .i64 ((pre.length : Int) + 1))) ∧ KeepsFrom (T + 5) W (W.setCell ⟨T + 1 + 1 + 1, 0, none⟩ (.int .i64 ((pre.length : Int) + 1))) ∧ Kw (T + 7) W (W.setCell ⟨T + 1 + 1 + 1, 0, none⟩ (.int .i64 ((pre.length : Int) + 1))) := by
  obtain ⟨v, h1, h2, h3⟩ := h.cho
  have hoth : ∀ k, k ≠ T + 1 + 1 + 1 → (W.setCell ⟨T + 1 + 1 + 1, 0, none⟩ (.int .i64 ((pre.length : Int) + 1))).heap[k]? = W.heap[k]? := fun k hk => Below.heap_setCell _ _ _ _ hk
  have hsz : W.heap.size ≤ (W.setCell ⟨T + 1 + 1 + 1, 0, none⟩ (.int .i64 ((pre.length : Int) + 1))).heap.size := by simp [World.setCell]
  refine ⟨⟨?_, ⟨v, (hoth _ (by omega)).trans h1, ?_, h3⟩, fun k hk e1 e2 => (hoth k e2).trans (h.oth k hk e1 e2), h.os, h.tape, h.output, Nat.le_trans h.size hsz⟩, (KeepsOthers.setCell _ _ _).from _, ⟨hsz, fun k a1 a2 a3 => hoth k (by omega), fun k o a1 a2 a3 => (hoth k (by omega)).trans a2⟩⟩
  · rw [List.length_append, List.length_singleton]
    exact set_box h.num
  · have e1 : chL n m (tlB (pre ++ [x])) = [] := chL_less (by simp [tlB]; omega)
    have e2 : chL n m (tlB pre) = [] := chL_less (by simp [tlB]; omega)
    rw [e1]
    rw [e2] at h2
    exact h2.set (fun b hb => by have := h3 b hb; show b ≠ T + 1 + 1 + 1; omega) _
theorem St.step_take {T n : Nat} {w0 W W1 W2 W3 : World} {m : Bool} {pre : List ByteArray} {x : ByteArray} {v v' : Value} (h : St T w0 n m pre W) (hv : W.heap[T + 1 + 1]? = some (.cells #[v] 28 (0, 0))) (hvb : ∀ b, v.ownBlock = some b → T + 7 + 4 ≤ b) (hms : T + 7 + 4 ≤ W.heap.size)
    (h1 : 1 ≤ n) (hn : n ≤ pre.length + 1) (hm : m = false → pre.length < n) (hW1 : W1 = W.setCell ⟨T + 1 + 1 + 1, 0, none⟩ (.int .i64 ((pre.length : Int) + 1))) (hW2 : W2 = W1.alloc (.cells #[.string x] 9))
    (hcells : ∀ j o, v.ownBlock = some j → W2.heap[j]? = some o → o.isCells = true) (hown : stT.Own W3 (T + 5) v' (chL n m (tlB pre) ++ [x.data.toList])) (hg : W2.grownBy W3 v.ownBlock) (hb : v'.ownBlock = v.ownBlock ∨ v'.ownBlock = some W2.heap.size) :
    St T w0 n m (pre ++ [x]) (W3.setCell ⟨T + 1 + 1, 0, none⟩ v') ∧ KeepsFrom (T + 5) W (W3.setCell ⟨T + 1 + 1, 0, none⟩ v') ∧ Kw (T + 7) W (W3.setCell ⟨T + 1 + 1, 0, none⟩ v') := by
  have hs1 : W1.heap.size = W.heap.size := by rw [hW1]; simp [World.setCell]
  have hs2 : W2.heap.size = W.heap.size + 1 := by rw [hW2, World.size_alloc, hs1]
  have b1 : ∀ k, k ≠ T + 1 + 1 + 1 → W1.heap[k]? = W.heap[k]? := fun k hk => by rw [hW1]; exact Below.heap_setCell _ _ _ _ hk
  have b2 : ∀ k, k < W.heap.size → W2.heap[k]? = W1.heap[k]? := fun k hk => by rw [hW2]; exact Below.heap_alloc _ _ _ (by omega)
  have b3 : ∀ k, k < W.heap.size → v.ownBlock ≠ some k → W3.heap[k]? = W2.heap[k]? := fun k hk hne => hg.block k (by omega) fun e => hne e.symm
  have b4 : ∀ k, k ≠ T + 1 + 1 → (W3.setCell ⟨T + 1 + 1, 0, none⟩ v').heap[k]? = W3.heap[k]? := fun k hk => Below.heap_setCell _ _ _ _ hk
  have hvn : ∀ k, k < T + 7 + 4 → v.ownBlock ≠ some k := fun k hk e => by have := hvb k e; omega
  have all : ∀ k, k < T + 7 + 4 → k ≠ T + 1 + 1 → k ≠ T + 1 + 1 + 1 → (W3.setCell ⟨T + 1 + 1, 0, none⟩ v').heap[k]? = W.heap[k]? := fun k hk e1 e2 =>
    (b4 k e1).trans ((b3 k (by omega) (hvn k hk)).trans ((b2 k (by omega)).trans (b1 k e2)))
  have hs4 : W.heap.size ≤ (W3.setCell ⟨T + 1 + 1, 0, none⟩ v').heap.size := by
    have := hg.size
    simp only [World.setCell, Array.size_modify]
    omega
  have hvb' : ∀ b, v'.ownBlock = some b → T + 7 + 4 ≤ b := fun b e => by
    rcases hb with hb | hb
    · rw [hb] at e; exact hvb b e
    · rw [hb] at e; cases e; omega
  have hko : KeepsOthers W (W3.setCell ⟨T + 1 + 1, 0, none⟩ v') := by
    have k1 : KeepsOthers W W1 := by rw [hW1]; exact KeepsOthers.setCell _ _ _
    have k2 : KeepsOthers W1 W2 := by rw [hW2]; exact KeepsOthers.alloc _ _
    have k3 : KeepsOthers W2 W3 := KeepsOthers.of_grownBy hg hcells
    exact ((k1.trans k2).trans k3).trans (KeepsOthers.setCell _ _ _)
  refine ⟨⟨?_, ⟨v', ?_, ?_, hvb'⟩, fun k hk e1 e2 => (all k (by omega) e1 e2).trans (h.oth k hk e1 e2), ?_, ?_, ?_, Nat.le_trans h.size hs4⟩, hko.from _, ⟨hs4, fun k a1 a2 a3 => all k (by omega) (by omega) (by omega), fun k o a1 a2 a3 => hko.same k o a2 a3⟩⟩
  · rw [b4 _ (by omega), b3 _ (by omega) (hvn _ (by omega)), b2 _ (by omega), hW1, List.length_append, List.length_singleton]
    exact set_box h.num
  · refine set_box (u := v) ?_
    rw [b3 _ (by omega) (hvn _ (by omega)), b2 _ (by omega), b1 _ (by omega)]
    exact hv
  · rw [tlB_snoc, chL_snoc h1 (by simp [tlB]; omega) (fun e => by have := hm e; simp [tlB]; omega)]
    exact hown.set (fun b hb => by have := hvb' b hb; show b ≠ T + 1 + 1; omega) _
  · show W3.os = _
    rw [hg.os, hW2]
    show W1.os = _
    rw [hW1]
    exact h.os
  · show W3.tape = _
    rw [hg.tape, hW2]
    show W1.tape = _
    rw [hW1]
    exact h.tape
  · show W3.output = _
    rw [hg.output, hW2]
    show W1.output = _
    rw [hW1]
    exact h.output
theorem info9 : (Tryz.prog.info? 9).map (fun i => (i.zero, i.size, i.bytes)) = some (some (.string ⟨#[]⟩), 1, 16) := by kernel_rfl
set_option maxRecDepth 100000 in
theorem wpListIn_append_st {F : Fence} {nF : Nat} {w : World} {ops : Array Oper} {rest : List Oper} {o : Oper} {a : Act} {Q : Exit → Act → World → Prop} (hgd : o.guard = none) (s y : Operand)
    (ho : o.op = .call { callee := .builtin .append, args := #[s, y], argTypes := #[28, 28] }) (B : Nat) (v : Value) (L : List (List UInt8)) (hs : a.eval s = v) (hown : stT.Own w B v L) (b c : Nat) (x : ByteArray) (hx : a.eval y = .slice (some ⟨b, 0, none⟩) 1 c)
    (hcell : w.cell? ⟨b, 0, none⟩ = some (.string x)) (hl : L.length ≤ 1000000) (hB : B ≤ w.heap.size)
    (hK : ∀ q cp w', stT.Own w' B (.slice q (L.length + 1) cp) (L ++ [x.data.toList]) → w.grownBy w' v.ownBlock → ((.slice q (L.length + 1) cp : Value).ownBlock = v.ownBlock ∨ (.slice q (L.length + 1) cp : Value).ownBlock = some w.heap.size) → wpListIn F nF Tryz.prog ops Q rest (a.put o.dst (.slice q (L.length + 1) cp)) w') :
    wpListIn F nF Tryz.prog ops Q (o :: rest) a w := by
  obtain ⟨i0, hi, hz0, hz1, hz2⟩ := info_parts info9
  refine wpListIn_append_own_at w hgd s y 28 ho B 9 i0 _ 1 16 Tryz.underlying28 hi hz0 hz1 hz2 rfl (by decide) v L.length (stT.cells L) hs hown ⟨b, 0, none⟩ 1 c [.string x] hx rfl (fun j u hj => ?_) (by simp [Value.oneCell']) (by unfold maxLen; omega) (by omega) hB fun v' w' h1 h2 _ h4 => ?_
  · cases j with
    | zero =>
      cases hj
      rw [add_addr]
      exact hcell
    | succ j => simp at hj
  · have h5 : stT.Own w' B v' (L ++ [x.data.toList]) := by
      unfold RT.Own
      rw [RT.cells_append, List.length_append]
      have e : stT.cells [x.data.toList] = [Value.string x] := by
        show [Value.string (bs x.data.toList)] = _
        rw [bs_of]
      rw [e]
      exact h1
    obtain ⟨q, cp, hv⟩ := h5.form
    rw [List.length_append, List.length_singleton] at hv
    subst hv
    exact hK q cp w' h5 h2 h4
theorem Kw.put {n k : Nat} (hk : k < n) (A : World) (o : Obj) : Kw n A (A.putObj k o) :=
  ⟨by simp, fun j h1 _ _ => World.putObj_heap_other (by omega), fun j o' h1 h2 _ => (World.putObj_heap_other (by omega)).trans h2⟩
end Go.Proofs.YtfpkppgecmbglaaGreatDoor
