/- Maps by pairs of places, and what a search may change. -/
import Derived.Test.YtdlchlbngojljaaDoorPGlO
import Derived.Maps.OwnSet
import Derived.DeepKeys4
namespace Go.Proofs.YtdlchlbngojljaaDoor.Gl
open Go.RowKit Go.Maps
theorem laidOut : laidOutB Tryd.prog = true := by kernel_rfl
theorem row83 : (132 : TypeId) < Tryd.prog.types.size := of_decide_eq_true (by kernel_rfl)
theorem wide83 : (match Tryd.prog.underlying 132 with | some (.array _ _) | some (.struct _) => true | _ => false) = true := by rw [Tryd.underlying132]
set_option maxRecDepth 100000 in
theorem law83 : Keyed Tryd.prog 132 := Keyed.of_law (deep_law_laid laidOut (m := 2) (by omega) row83 (by kernel_rfl) wide83)
theorem keyType83 : Tryd.prog.keyType 132 = true := by kernel_rfl
theorem cells83 : Tryd.prog.cellsOf 132 = 2 := by kernel_rfl
theorem cells3 : Tryd.prog.cellsOf 3 = 1 := by kernel_rfl
def pairV (z : Nat × Nat) : Value := .agg #[.int .i64 (z.1 : Int), .int .i64 (z.2 : Int)]
/-- The places are no more than a few thousand. -/
def Fits (z : Nat × Nat) : Prop := z.1 ≤ 100000 ∧ z.2 ≤ 100000
set_option maxRecDepth 100000 in
theorem key_pair {z : Nat × Nat} (h : Fits z) : ∃ l, keyOf Tryd.prog 132 (pairV z) = some l := by
 have h1 : (Lit.int .i64 (z.1 : Int)).wf = true := WalkArith.wf_i64 (by have := h.1; omega)
 have h2 : (Lit.int .i64 (z.2 : Int)).wf = true := WalkArith.wf_i64 (by have := h.2; omega)
 have hf : (pairV z).formed Tryd.prog 132 = true := by simp [pairV, Value.formed, Tryd.underlying132, cells83]
 obtain ⟨m, hm⟩ : ∃ m, Tryd.prog.types.size = m + 1 := ⟨189, by kernel_rfl⟩
 have h3 : ∀ x : Int, (Lit.int .i64 x).wf = true → Tryd.prog.keyLits (m + 1) 3 [.int .i64 x] = some [.int .i64 x] := fun x hx => by
  unfold Program.keyLits
  rw [Tryd.underlying3]
  simp only [hx, and_self, if_true]
 have h83 : ∃ l, Tryd.prog.keyLits (m + 1 + 1) 132 [.int .i64 (z.1 : Int), .int .i64 (z.2 : Int)] = some l := by
  unfold Program.keyLits
  rw [Tryd.underlying132]
  simp only [cells83, List.length_cons, List.length_nil]
  simp [cells3, h3 _ h1, h3 _ h2]
 obtain ⟨l, hl⟩ := h83
 refine ⟨.string (keyBytes l), ?_⟩
 unfold keyOf
 rw [Tryd.underlying132]
 simp only [keyType83, hf, Bool.and_self, if_true]
 rw [hm]
 show (Tryd.prog.keyLits (m + 1 + 1) 132 [.int .i64 (z.1 : Int), .int .i64 (z.2 : Int)]).map _ = _
 rw [hl]
 rfl
noncomputable def klit (z : Nat × Nat) : Lit := (keyOf Tryd.prog 132 (pairV z)).getD (.bool false)
theorem klit_eq {z : Nat × Nat} (h : Fits z) : keyOf Tryd.prog 132 (pairV z) = some (klit z) := by
 obtain ⟨l, hl⟩ := key_pair h
 unfold klit
 rw [hl]
 rfl
set_option maxRecDepth 100000 in
theorem klit_inj {z y : Nat × Nat} (hz : Fits z) (hy : Fits y) (h : klit z = klit y) : z = y := by
 have h1 := klit_eq hz
 have h2 := klit_eq hy
 rw [← h] at h2
 have := law83.inj h1 h2
 simp only [pairV, Value.agg.injEq] at this
 have h3 := congrArg Array.toList this
 simp only [List.cons.injEq, Value.int.injEq, true_and, and_true] at h3
 exact Prod.ext (by omega) (by omega)
set_option maxRecDepth 100000 in
theorem klit_key {z : Nat × Nat} (h : Fits z) : WideAt.IsKeyLit (klit z) := law83.key (klit_eq h)
/-- A list of numbers below N without repeats has at most N members. -/
theorem nodup_below : ∀ (N : Nat) (l : List Nat), l.Nodup → (∀ x ∈ l, x < N) → l.length ≤ N
 | 0, l, _, h => by
  cases l with
  | nil => simp
  | cons x r => exact absurd (h x List.mem_cons_self) (by omega)
 | N + 1, l, hd, h => by
  have h1 := nodup_below N (l.filter fun x => decide (x ≠ N)) (hd.filter _) (fun x hx => by
   have := List.mem_filter.1 hx
   have h2 := h x this.1
   have h3 : x ≠ N := by simpa using this.2
   omega)
  have h2 : l.length = (l.filter fun x => decide (x ≠ N)).length + (l.filter fun x => !decide (x ≠ N)).length := by
   rw [← List.countP_eq_length_filter, ← List.countP_eq_length_filter]
   have := List.length_eq_countP_add_countP (fun x => decide (x ≠ N)) (l := l)
   rw [this]
   congr 1
   apply List.countP_congr
   intro x _
   simp
  have h3 : (l.filter fun x => !decide (x ≠ N)).length ≤ 1 := by
   have hnd := hd.filter (fun x => !decide (x ≠ N))
   have hall : ∀ x ∈ l.filter (fun x => !decide (x ≠ N)), x = N := fun x hx => by
    have := (List.mem_filter.1 hx).2
    simpa using this
   match hl : l.filter (fun x => !decide (x ≠ N)), hnd, hall with
   | [], _, _ => simp
   | [_], _, _ => simp
   | x :: y :: r, hnd, hall =>
    have h4 := hall x (by simp)
    have h5 := hall y (by simp)
    rw [h4, h5] at hnd
    simp at hnd
  omega
theorem grid_size (A B : Nat) (S : List (Nat × Nat)) (hd : S.Nodup) (h : ∀ z ∈ S, z.1 ≤ A ∧ z.2 ≤ B) : S.length ≤ (A + 1) * (B + 1) := by
 have h1 := nodup_below ((A + 1) * (B + 1)) (S.map fun z => z.1 * (B + 1) + z.2) ?_ ?_
 ·simpa using h1
 ·rw [List.Nodup, List.pairwise_map]
  refine List.Pairwise.imp_of_mem (R := fun a b => a ≠ b) ?_ hd
  intro a b ha hb hne e
  apply hne
  have h2 := (h a ha).2
  have h3 := (h b hb).2
  have h4 : a.1 = b.1 := by
   have e1 : (a.1 * (B + 1) + a.2) / (B + 1) = a.1 := by rw [Nat.mul_comm, Nat.mul_add_div (by omega), Nat.div_eq_of_lt (by omega), Nat.add_zero]
   have e2 : (b.1 * (B + 1) + b.2) / (B + 1) = b.1 := by rw [Nat.mul_comm, Nat.mul_add_div (by omega), Nat.div_eq_of_lt (by omega), Nat.add_zero]
   rw [← e1, ← e2, e]
  rw [h4] at e
  exact Prod.ext h4 (by omega)
 ·intro x hx
  obtain ⟨z, hz, rfl⟩ := List.mem_map.1 hx
  have h2 := h z hz
  have : (z.1 + 1) * (B + 1) ≤ (A + 1) * (B + 1) := Nat.mul_le_mul_right _ (by omega)
  rw [Nat.add_mul] at this
  omega
/-- Block M is a map that has the pairs S, all within A and B, with the values g. -/
structure PMap (w : World) (e M A B : Nat) (S : List (Nat × Nat)) (g : Nat × Nat → DataW Unit) (D : DataW Unit) : Prop where
 own : w.ownsMap Tryd.prog 132 (plainElem Tryd.prog e) M S.length D
 nodup : S.Nodup
 grid : ∀ z ∈ S, z.1 ≤ A ∧ z.2 ≤ B
 has : ∀ z, Fits z → Maps.has D (klit z) = decide (z ∈ S)
 val : ∀ z ∈ S, ∀ zd, D.atKey (klit z) zd = g z
theorem PMap.made (w : World) (e A B : Nat) (g : Nat × Nat → DataW Unit) : PMap (w.alloc (.map #[] 0)) e w.heap.size A B [] g (.map []) :=
 ⟨World.ownsMap_made _ _ _ _, List.nodup_nil, fun z hz => by simp at hz, fun z _ => by simp [Maps.has_eq], fun z hz => by simp at hz⟩
theorem PMap.kept {w w' : World} {e M A B : Nat} {S : List (Nat × Nat)} {g : Nat × Nat → DataW Unit} {D : DataW Unit} (h : PMap w e M A B S g D) (hb : w'.heap[M]? = w.heap[M]?) : PMap w' e M A B S g D := by
 obtain ⟨⟨es, clock, h1, h2⟩, h3, h4, h5, h6⟩ := h
 exact ⟨⟨es, clock, hb.trans h1, h2⟩, h3, h4, h5, h6⟩
def insP (S : List (Nat × Nat)) (z : Nat × Nat) : List (Nat × Nat) := if z ∈ S then S else S ++ [z]
theorem mem_insP {S : List (Nat × Nat)} {z y : Nat × Nat} : y ∈ insP S z ↔ y ∈ S ∨ y = z := by
 unfold insP
 split
 ·rename_i h
  constructor
  ·exact Or.inl
  ·rintro (h' | rfl)
   ·exact h'
   ·exact h
 ·simp
set_option maxRecDepth 100000 in
theorem PMap.store {w : World} {e M A B : Nat} {S : List (Nat × Nat)} {g : Nat × Nat → DataW Unit} {D : DataW Unit} (h : PMap w e M A B S g D) {t : TypeId} (ht : Tryd.prog.underlying t = some (.map 132 e)) (hAB : A ≤ 100000 ∧ B ≤ 100000) {z : Nat × Nat} (hz : z.1 ≤ A ∧ z.2 ≤ B) {v : Value} {ps : List MemPlace} (hv : plainElem Tryd.prog e v = some (g z, ps)) :
  ∃ w' D', (Instr.mapUpdate t (.map (some M)) (pairV z) v).run Tryd.prog w = .ok () w' ∧ PMap w' e M A B (insP S z) g D' ∧ w.grownBy w' (some M) := by
 have hfz : Fits z := ⟨by omega, by omega⟩
 have hfit : ∀ y ∈ S, Fits y := fun y hy => ⟨by have := (h.grid y hy).1; omega, by have := (h.grid y hy).2; omega⟩
 have hlen : S.length < maxLen := by
  have := grid_size A B S h.nodup h.grid
  have h2 : (A + 1) * (B + 1) ≤ 100001 * 100001 := Nat.mul_le_mul (by omega) (by omega)
  unfold maxLen
  omega
 obtain ⟨w', hrun, hown, hturn⟩ := h.own.store law83 ht hlen (klit_eq hfz) hv
 refine ⟨w', D.put (klit z) (g z), hrun, ?_, hturn.grown⟩
 have hin : ∀ y, y ∈ insP S z ↔ y ∈ S ∨ y = z := fun y => mem_insP
 have hnd : (insP S z).Nodup := by
  unfold insP
  split
  ·exact h.nodup
  ·rename_i hn
   rw [List.nodup_append]
   refine ⟨h.nodup, by simp, fun a ha b hb => ?_⟩
   have : b = z := by simpa using hb
   rw [this]
   intro e
   exact hn (e ▸ ha)
 have hgrid : ∀ y ∈ insP S z, y.1 ≤ A ∧ y.2 ≤ B := fun y hy => by
  rcases (hin y).1 hy with h1 | rfl
  ·exact h.grid y h1
  ·exact hz
 have hhas : ∀ y, Fits y → Maps.has (D.put (klit z) (g z)) (klit y) = decide (y ∈ insP S z) := fun y hy => by
  by_cases hyz : y = z
  ·subst hyz
   rw [Maps.has_put_same h.own.isMap (klit_key hfz)]
   exact (decide_eq_true ((hin y).2 (Or.inr rfl))).symm
  ·rw [Maps.has_put_other (fun e => hyz (klit_inj hy hfz e)), h.has y hy]
   apply decide_eq_decide.2
   rw [hin]
   exact ⟨Or.inl, fun h' => h'.resolve_right hyz⟩
 refine ⟨?_, hnd, hgrid, hhas, fun y hy zd => ?_⟩
 ·have hsz : Maps.size (D.put (klit z) (g z)) ≤ (insP S z).length := by
   have htidy := h.own.tidy law83
   rw [Maps.size_put htidy, h.has z hfz]
   have := h.own.size_le
   unfold insP
   by_cases hzS : z ∈ S
   ·rw [if_pos (by simpa using hzS), if_pos hzS]; exact this
   ·rw [if_neg (by simpa using hzS), if_neg hzS]; simp; exact this
  obtain ⟨es, clock, h1, h2, h3, h4⟩ := hown
  refine ⟨es, clock, h1, h2, ?_, h4⟩
  rw [h4] at hsz
  simpa [Maps.size, length_sorted] using hsz
 ·by_cases hyz : y = z
  ·subst hyz
   exact Maps.atKey_put_same h.own.isMap (klit_key hfz) _ _
  ·have hyS := ((hin y).1 hy).resolve_right hyz
   rw [Maps.atKey_put_other (fun e => hyz (klit_inj (hfit y hyS) hfz e))]
   exact h.val y hyS zd
/-- What may have changed: new blocks, and those of X. -/
structure Fr (X : Nat → Prop) (w w' : World) : Prop where
 os : w'.os = w.os
 tape : w'.tape = w.tape
 output : w'.output = w.output
 size : w.heap.size ≤ w'.heap.size
 block : ∀ k, k < w.heap.size → ¬ X k → w'.heap[k]? = w.heap[k]?
theorem Fr.refl (X : Nat → Prop) (w : World) : Fr X w w := ⟨rfl, rfl, rfl, Nat.le_refl _, fun _ _ _ => rfl⟩
theorem Fr.trans {X : Nat → Prop} {a b c : World} (h : Fr X a b) (k : Fr X b c) : Fr X a c :=
 ⟨k.os.trans h.os, k.tape.trans h.tape, k.output.trans h.output, Nat.le_trans h.size k.size, fun i hi hx => (k.block i (Nat.lt_of_lt_of_le hi h.size) hx).trans (h.block i hi hx)⟩
theorem Fr.mono {X Y : Nat → Prop} {a b : World} (h : Fr X a b) (hXY : ∀ k, k < a.heap.size → X k → Y k) : Fr Y a b := ⟨h.os, h.tape, h.output, h.size, fun i hi hy => h.block i hi fun hx => hy (hXY i hi hx)⟩
theorem Fr.of_below {X : Nat → Prop} {a b : World} (h : Below a.heap.size a b) : Fr X a b := ⟨h.os, h.tape, h.output, h.size, fun i hi _ => h.block i hi⟩
theorem Fr.of_grown {X : Nat → Prop} {a b : World} {row : Option Nat} (h : a.grownBy b row) (hr : ∀ k, row = some k → X k) : Fr X a b := ⟨h.os, h.tape, h.output, h.size, fun i hi hx => h.block i hi fun e => hx (hr i e.symm)⟩
theorem Fr.to_below {X : Nat → Prop} {a b : World} {B : Nat} (h : Fr X a b) (hB : B ≤ a.heap.size) (hX : ∀ k, X k → B ≤ k) : Below B a b := ⟨h.os, h.tape, h.output, h.size, fun i hi => h.block i (by omega) fun hx => by have := hX i hx; omega⟩
theorem Fr.drew {X : Nat → Prop} {a b : World} (h : Fr X a b) : Fr X a b.drew := ⟨h.os, h.tape, h.output, h.size, h.block⟩
theorem Fr.drewN {X : Nat → Prop} {a b : World} (h : Fr X a b) (n : Nat) : Fr X a (b.drewN n) := ⟨h.os, h.tape, h.output, h.size, h.block⟩
theorem Fr.cell {X : Nat → Prop} {a b : World} (h : Fr X a b) {p : Addr} (hp : p.block < a.heap.size) (hx : ¬ X p.block) : b.cell? p = a.cell? p := World.cell?_of_block (w := a) (h.block p.block hp hx)
theorem cell_lt {w : World} {p : Addr} {v : Value} (h : w.cell? p = some v) : p.block < w.heap.size := by
 rcases Nat.lt_or_ge p.block w.heap.size with h1 | h1
 ·exact h1
 ·have e : w.heap[p.block]? = none := Array.getElem?_eq_none h1
  simp [World.cell?, e] at h
end Go.Proofs.YtdlchlbngojljaaDoor.Gl
