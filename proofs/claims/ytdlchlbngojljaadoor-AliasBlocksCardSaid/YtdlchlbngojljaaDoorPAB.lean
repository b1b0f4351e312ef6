/- What stays; the tape of drawn numbers. Bytes of texts; rows of any elements in memory. -/
import Derived.Test.YtdlchlbngojljaaDoorProg
import Derived.WalkKit
import Derived.WalkSpells
import Derived.WalkLawsBesides
import Derived.Lib.Walk
import Derived.Lib.Strings
import Derived.Lib.Hide
import Derived.Lib.SliceRun
import Derived.Laws.Strings3
import Derived.Laws.Cover1
import Derived.Laws.ResultCell
import Derived.Laws.CopyOwn
import Derived.Deep.LoopGhost
import Derived.Deep.WholeRow
import Derived.Deep.QuietTactic
import Derived.BigQuiet
import Derived.Deep.AppendLies
import Derived.Maps.AppendAt
import Derived.Maps.Range
import Derived.OwnWalk
import Derived.Deep.MidRow
import Derived.Lib.OthersKept
import Derived.Lib.IndexBytes
import Derived.Lib.ConvBytes
import Derived.Laws.RangeAny
import Derived.Laws.IdiomStrings
import Derived.Laws.BytesArg
import Derived.Deep.DeepCutAuto
import Derived.Deep.CutBlock
namespace Go.Proofs.YtdlchlbngojljaaDoor
open Go.RowKit
theorem block_lt {w : World} {g : Nat} {o : Obj} (h : w.heap[g]? = some o) : g < w.heap.size := (Array.getElem?_eq_some_iff.1 h).1
theorem cell_of_row (w : World) (b o : Nat) (c : Array Value) (t : TypeId) (f : Nat × Nat) (h : w.heap[b]? = some (.cells c t f)) : w.cell? ⟨b, o, none⟩ = c[o]? := by simp [World.cell?, h]
/-- What stays: all but the blocks of a list; the heap only grows. -/
structure Kp (s : List Nat) (w w' : World) : Prop where
 os : w'.os = w.os
 tape : w'.tape = w.tape
 output : w'.output = w.output
 size : w.heap.size ≤ w'.heap.size
 block : ∀ k, k < w.heap.size → k ∉ s → w'.heap[k]? = w.heap[k]?
theorem Kp.refl (s : List Nat) (w : World) : Kp s w w := ⟨rfl, rfl, rfl, Nat.le_refl _, fun _ _ _ => rfl⟩
theorem Kp.trans {s : List Nat} {a b c : World} (h : Kp s a b) (g : Kp s b c) : Kp s a c :=
 ⟨g.os.trans h.os, g.tape.trans h.tape, g.output.trans h.output, Nat.le_trans h.size g.size, fun k hk hs => (g.block k (Nat.lt_of_lt_of_le hk h.size) hs).trans (h.block k hk hs)⟩
theorem Kp.mono {s t : List Nat} {a b : World} (h : Kp s a b) (hs : ∀ x ∈ s, x ∈ t) : Kp t a b := ⟨h.os, h.tape, h.output, h.size, fun k hk hn => h.block k hk fun e => hn (hs k e)⟩
theorem Kp.drew {s : List Nat} {a b : World} (h : Kp s a b) (n : Nat) : Kp s a (b.drewN n) := ⟨h.os, h.tape, h.output, h.size, h.block⟩
theorem Kp.alloc {s : List Nat} {a b : World} (h : Kp s a b) (o : Obj) : Kp s a (b.alloc o) := by
 have hb := (Below.refl b.heap.size b).alloc (Nat.le_refl _) o
 exact h.trans ⟨hb.os, hb.tape, hb.output, hb.size, fun k hk _ => hb.block k hk⟩
theorem Kp.setRow {s : List Nat} {a b : World} (h : Kp s a b) {g : Nat} (hg : g ∈ s ∨ a.heap.size ≤ g) (cs : Array Value) : Kp s a (b.setRow g cs) :=
 ⟨h.os, h.tape, h.output, Nat.le_trans h.size (by simp [World.setRow]), fun k hk hn => (setRow_other b g k cs (by rintro rfl; rcases hg with hg | hg; exact hn hg; omega)).trans (h.block k hk hn)⟩
theorem Kp.setCell {s : List Nat} {a b : World} (h : Kp s a b) {p : Addr} (hg : p.block ∈ s ∨ a.heap.size ≤ p.block) (v : Value) : Kp s a (b.setCell p v) :=
 ⟨h.os, h.tape, h.output, Nat.le_trans h.size (by simp [World.setCell]), fun k hk hn => (Below.heap_setCell _ _ _ _ (by rintro rfl; rcases hg with hg | hg; exact hn hg; omega)).trans (h.block k hk hn)⟩
theorem Kp.below {s : List Nat} {a b : World} {B : Nat} (h : Kp s a b) (hB : B ≤ a.heap.size) (hs : ∀ x ∈ s, B ≤ x) : Below B a b :=
 ⟨h.os, h.tape, h.output, h.size, fun k hk => h.block k (Nat.lt_of_lt_of_le hk hB) fun e => by have := hs k e; omega⟩
theorem Kp.of_grown {w w' : World} {r : Nat} (h : w.grownBy w' (some r)) : Kp [r] w w' := ⟨h.os, h.tape, h.output, h.size, fun k hk hn => h.block k hk (by simpa using hn)⟩
theorem Kp.of_grown_none {w w' : World} (h : w.grownBy w' none) : Kp [] w w' := ⟨h.os, h.tape, h.output, h.size, fun k hk _ => h.block k hk (by simp)⟩
theorem Kp.of_below {w w' : World} (h : Below w.heap.size w w') : Kp [] w w' := ⟨h.os, h.tape, h.output, h.size, fun k hk _ => h.block k hk⟩
theorem Kp.up {s t : List Nat} {a b c : World} (h : Kp s a b) (g : Kp t b c) (ht : ∀ x ∈ t, x ∈ s ∨ a.heap.size ≤ x) : Kp s a c :=
 ⟨g.os.trans h.os, g.tape.trans h.tape, g.output.trans h.output, Nat.le_trans h.size g.size, fun k hk hs => (g.block k (Nat.lt_of_lt_of_le hk h.size) fun e => by rcases ht k e with q | q; exact hs q; omega).trans (h.block k hk hs)⟩
/-- The numbers of a tape: a slice of integers in blocks below tb. -/
def Ints (w : World) (tb : Nat) (lv : Value) : Prop := (∃ a c, lv = .slice a 0 c) ∨ ∃ b o n c, lv = .slice (some ⟨b, o, none⟩) n c ∧ b < tb ∧ ∀ j, j < n → ∃ z, w.cell? ⟨b, o + j, none⟩ = some (.int .i64 z)
theorem Ints.keep {w w' : World} {tb : Nat} {lv : Value} (h : Ints w tb lv) (hk : ∀ b, b < tb → w'.heap[b]? = w.heap[b]?) : Ints w' tb lv := by
 rcases h with h | ⟨b, o, n, c, hv, hb, hz⟩
 ·exact .inl h
 ·refine .inr ⟨b, o, n, c, hv, hb, fun j hj => ?_⟩
  obtain ⟨z, hz⟩ := hz j hj
  refine ⟨z, ?_⟩
  simp only [World.cell?, hk b hb] at hz ⊢
  exact hz
set_option maxHeartbeats 400000 in
set_option maxRecDepth 100000 in
theorem fold_any (z : Int) (n : Nat) (w : World) (h1 : 1 ≤ n) (h2 : n ≤ 1000000) :
  Calls Tryd.prog 29 #[.int .i64 z, .int .i64 n] w fun e w' => ∃ r : Nat, r < n ∧ e = .returned (.int .i64 r) ∧ w' = w := by
 by_cases hn : n = 1
 ·subst hn
  go_enter Tryd.func29, Tryd.ntmps29
  go_wp2
  go_ret
  exact ⟨0, by omega, rfl, rfl⟩
 ·have hn1 : ¬ ((n : Int) ≤ 1) := by omega
  have hn0 : ¬ ((n : Int) = 0) := by omega
  obtain ⟨q, hq⟩ : ∃ q : Int, z.tmod n = q := ⟨_, rfl⟩
  have hqa : -(n : Int) < q ∧ q < n := by
   rw [← hq]
   have h := Int.tmod_lt_of_pos z (show (0 : Int) < n by omega)
   have h' := Int.tmod_lt_of_pos (-z) (show (0 : Int) < n by omega)
   rw [Int.neg_tmod] at h'
   exact ⟨by omega, h⟩
  have hwr : IntKind.i64.wrap q = q := by rw [IntKind.wrap_i64]; omega
  by_cases hq0 : q < 0
  ·have hwr2 : IntKind.i64.wrap (q + n) = q + n := by rw [IntKind.wrap_i64]; omega
   go_enter Tryd.func29, Tryd.ntmps29
   go_wp2
   obtain ⟨r, hr⟩ : ∃ r : Nat, q + n = r := ⟨(q + n).toNat, by omega⟩
   rw [hr]
   go_ret
   exact ⟨r, by omega, rfl, rfl⟩
  ·go_enter Tryd.func29, Tryd.ntmps29
   go_wp2
   obtain ⟨r, hr⟩ : ∃ r : Nat, q = r := ⟨q.toNat, by omega⟩
   rw [hr]
   go_ret
   exact ⟨r, by omega, rfl, rfl⟩
theorem Kp.of_bel {w w' : World} (h : Below w.heap.size w w') : Kp [] w w' := Kp.of_below h
theorem Kp.belowTo {w0 w w' : World} (h : Kp [] w0 w) (g : Below w0.heap.size w w') : Kp [] w0 w' :=
 ⟨g.os.trans h.os, g.tape.trans h.tape, g.output.trans h.output, Nat.le_trans h.size g.size, fun k hk _ => (g.block k hk).trans (h.block k hk (by simp))⟩
end Go.Proofs.YtdlchlbngojljaaDoor
namespace Go.Proofs.YtdlchlbngojljaaDoor
open Go.RowKit
/-- A text's bytes. -/
def bs (s : List UInt8) : ByteArray := ⟨s.toArray⟩
theorem bs_data (s : List UInt8) : (bs s).data.toList = s := rfl
theorem bs_of (s : ByteArray) : bs s.data.toList = s := by
 unfold bs
 rw [Array.toArray_toList]
theorem bs_size (s : List UInt8) : (bs s).size = s.length := rfl
theorem bs_isEmpty (r : List UInt8) : (bs r).toList.isEmpty = r.isEmpty := by rw [Lib.toList_data, bs_data]
theorem bs_drop (l : List UInt8) (k : Nat) : (bs l).extract k (bs l).size = bs (l.drop k) := by
 apply ByteArray.ext
 rw [ByteArray.data_extract, bs_size]
 apply Array.ext'
 simp [bs]
 rw [List.take_of_length_le (by simp)]
theorem bs_take (l : List UInt8) (k : Nat) : (bs l).extract 0 k = bs (l.take k) := by
 apply ByteArray.ext
 rw [ByteArray.data_extract]
 apply Array.ext'
 simp [bs]
theorem bs_mid (l : List UInt8) (i j : Nat) : (bs l).extract i j = bs ((l.take j).drop i) := by
 apply ByteArray.ext
 apply Array.ext'
 rw [ByteArray.data_extract, Array.toList_extract]
 simp [bs, List.extract, List.drop_take]
theorem bs_inj {a b : List UInt8} (h : bs a = bs b) : a = b := by
 have := congrArg (fun s : ByteArray => s.data.toList) h
 simpa [bs_data] using this
theorem bs_app (a b : List UInt8) : bs a ++ bs b = bs (a ++ b) := by
 apply ByteArray.ext
 rw [ByteArray.data_append]
 simp [bs]
theorem bs_get (l : List UInt8) (k : Nat) (h : k < l.length) : (bs l)[k]'h = l[k] := by
 show (bs l).data[k]'h = _
 simp [bs]
/-- A type of elements: how many cells, the types' numbers, an element's cells. -/
structure RT (α : Type) where
 sz : Nat
 ty : TypeId
 sl : TypeId
 bt : Nat
 z : Value
 cf : α → List Value
 pos : 0 < sz
 len : ∀ x, (cf x).length = sz
 one : ∀ x, ∀ v ∈ cf x, v.oneCell' = true
 und : Tryd.prog.underlying sl = some (.slice ty)
 info : (Tryd.prog.info? ty).map (fun i => (i.zero, i.size, i.bytes)) = some (some z, sz, bt)
 zs : z.cells.size = sz
 btl : bt ≤ 256
variable {α : Type} (r : RT α)
def RT.cells (l : List α) : List Value := l.flatMap r.cf
theorem RT.cells_cons (x : α) (l : List α) : r.cells (x :: l) = r.cf x ++ r.cells l := rfl
theorem RT.cells_len (l : List α) : (r.cells l).length = l.length * r.sz := by
 induction l with
 | nil => simp [RT.cells]
 | cons x l ih => rw [RT.cells_cons, List.length_append, ih, r.len, List.length_cons, Nat.add_mul, Nat.one_mul, Nat.add_comm]
theorem RT.cells_append (a b : List α) : r.cells (a ++ b) = r.cells a ++ r.cells b := List.flatMap_append
theorem RT.cells_one (l : List α) : ∀ v ∈ r.cells l, v.oneCell' = true := fun v hv => by
 obtain ⟨x, _, h⟩ := List.mem_flatMap.1 hv
 exact r.one x v h
theorem RT.cells_get : ∀ (l : List α) (j : Nat) (x : α) (m : Nat), l[j]? = some x → m < r.sz → (r.cells l)[j * r.sz + m]? = (r.cf x)[m]?
 | [], j, x, m, h, _ => by simp at h
 | y :: l, 0, x, m, h, hm => by
  simp only [List.getElem?_cons_zero, Option.some.injEq] at h
  subst h
  rw [RT.cells_cons, List.getElem?_append_left (by rw [r.len]; omega), Nat.zero_mul, Nat.zero_add]
 | y :: l, j + 1, x, m, h, hm => by
  have := RT.cells_get l j x m (by simpa using h) hm
  have e : (j + 1) * r.sz = j * r.sz + r.sz := by rw [Nat.add_mul, Nat.one_mul]
  rw [RT.cells_cons, List.getElem?_append_right (by rw [r.len]; omega), r.len, show (j + 1) * r.sz + m - r.sz = j * r.sz + m by omega]
  exact this
/-- The cells from (b, o) on hold these elements. -/
def RT.Row (w : World) (b o : Nat) (l : List α) : Prop := ∀ (j : Nat) (x : α), l[j]? = some x → w.rangeAt b (o + j * r.sz) (r.cf x)
/-- The slice v holds these elements. -/
def RT.Has (w : World) (v : Value) (l : List α) : Prop := (∃ a c, v = .slice a 0 c ∧ l = []) ∨ ∃ b o c, v = .slice (some ⟨b, o, none⟩) l.length c ∧ b < w.heap.size ∧ r.Row w b o l
variable {r}
theorem RT.row_of {w : World} {b : Nat} {l : List α} {cur : List Value} (h : w.heap[b]? = some (.cells cur.toArray r.ty (0, 0))) (hc : cur.take (l.length * r.sz) = r.cells l) : r.Row w b 0 l := fun j x hx m v hv => by
 have hj := (List.getElem?_eq_some_iff.1 hx).1
 have hm : m < r.sz := by have := (List.getElem?_eq_some_iff.1 hv).1; rwa [r.len] at this
 have hlt : j * r.sz + m < l.length * r.sz := by
  have : (j + 1) * r.sz ≤ l.length * r.sz := Nat.mul_le_mul_right _ hj
  rw [Nat.add_mul, Nat.one_mul] at this
  omega
 rw [cell_of_row _ _ _ _ _ _ h, List.getElem?_toArray, Nat.zero_add]
 have := r.cells_get l j x m hx hm
 rw [← hc, List.getElem?_take, if_pos hlt] at this
 rw [this, hv]
theorem RT.Row.keep {w w' : World} {b o : Nat} {l : List α} (h : r.Row w b o l) (hb : w'.heap[b]? = w.heap[b]?) : r.Row w' b o l := fun j x hx m v hv => by
 have := h j x hx m v hv
 simp only [World.cell?, hb] at this ⊢
 exact this
theorem RT.Has.form {w : World} {v : Value} {l : List α} (h : r.Has w v l) : ∃ a c, v = .slice a l.length c ∧ (l ≠ [] → ∃ b o, a = some ⟨b, o, none⟩ ∧ b < w.heap.size ∧ r.Row w b o l) := by
 rcases h with ⟨a, c, rfl, rfl⟩ | ⟨b, o, c, rfl, hb, hr⟩
 ·exact ⟨a, c, rfl, fun h => absurd rfl h⟩
 ·exact ⟨some ⟨b, o, none⟩, c, rfl, fun _ => ⟨b, o, rfl, hb, hr⟩⟩
theorem RT.Has.kp {w w' : World} {s : List Nat} {v : Value} {l : List α} (h : r.Has w v l) (hk : Kp s w w') (hs : ∀ b, v.ownBlock = some b → b ∉ s) : r.Has w' v l := by
 rcases h with h | ⟨b, o, c, rfl, hb, hr⟩
 ·exact .inl h
 ·exact .inr ⟨b, o, c, rfl, Nat.lt_of_lt_of_le hb hk.size, hr.keep (hk.block b hb (hs b rfl))⟩
theorem RT.Has.kp0 {w w' : World} {v : Value} {l : List α} (h : r.Has w v l) (hk : Kp [] w w') : r.Has w' v l := h.kp hk fun _ _ => by simp
variable (r)
/-- A row of the call's own. -/
def RT.Own (w : World) (B : Nat) (v : Value) (l : List α) : Prop := w.ownsRow B r.ty r.sz v l.length (r.cells l)
theorem RT.Own.nil (w : World) (B : Nat) : r.Own w B (.slice none 0 0) [] := World.ownsRow_nil _ _ _ _
variable {r}
theorem RT.Own.has {w : World} {B : Nat} {v : Value} {l : List α} (h : r.Own w B v l) : r.Has w v l := by
 rcases h.2 with ⟨hv, hn⟩ | ⟨g, cap, cur, hv, hB, hh, hc, hcm, hcz, ht⟩
 ·exact .inl ⟨none, 0, hv, List.length_eq_zero_iff.1 hn⟩
 ·exact .inr ⟨g, 0, cap, hv, block_lt hh, RT.row_of (cur := cur.toList) (by rw [Array.toArray_toList]; exact hh) ht⟩
theorem RT.Own.form {w : World} {B : Nat} {v : Value} {l : List α} (h : r.Own w B v l) : ∃ a c, v = .slice a l.length c := by
 rcases h.2 with ⟨hv, hn⟩ | ⟨g, cap, cur, hv, _⟩
 ·exact ⟨none, 0, by rw [hv, hn]⟩
 ·exact ⟨_, _, hv⟩
theorem RT.Own.keep {w w' : World} {B : Nat} {v : Value} {l : List α} (h : r.Own w B v l) (hk : ∀ b, b < w.heap.size → v.ownBlock = some b → w'.heap[b]? = w.heap[b]?) : r.Own w' B v l := by
 refine ⟨h.1, ?_⟩
 rcases h.2 with hn | ⟨g, cap, cur, hv, hB, hh, rest⟩
 ·exact .inl hn
 ·exact .inr ⟨g, cap, cur, hv, hB, (hk g (block_lt hh) (by rw [hv]; rfl)).trans hh, rest⟩
theorem RT.Own.kp {w w' : World} {B : Nat} {s : List Nat} {v : Value} {l : List α} (h : r.Own w B v l) (hk : Kp s w w') (hs : ∀ b, v.ownBlock = some b → b ∉ s) : r.Own w' B v l := h.keep fun b hb hv => hk.block b hb (hs b hv)
theorem RT.Own.kp0 {w w' : World} {B : Nat} {v : Value} {l : List α} (h : r.Own w B v l) (hk : Kp [] w w') : r.Own w' B v l := h.kp hk fun _ _ => by simp
theorem RT.Own.ge {w : World} {B : Nat} {v : Value} {l : List α} (h : r.Own w B v l) : ∀ b, v.ownBlock = some b → B ≤ b ∧ b < w.heap.size := fun b hb => by
 rcases h.2 with ⟨hv, _⟩ | ⟨g, cap, cur, hv, hB, hh, _⟩
 ·rw [hv] at hb
  cases hb
 ·rw [hv] at hb
  have : g = b := by simpa [Value.ownBlock] using hb
  exact ⟨by omega, by rw [← this]; exact block_lt hh⟩
theorem RT.Own.down {w : World} {B B' : Nat} {v : Value} {l : List α} (h : r.Own w B v l) (hB : B' ≤ B) : r.Own w B' v l := by
 refine ⟨h.1, ?_⟩
 rcases h.2 with hn | ⟨g, cap', cur, hv, hg, rest⟩
 ·exact .inl hn
 ·exact .inr ⟨g, cap', cur, hv, by omega, rest⟩
/-- An own row stays while a cell of another block is written. -/
theorem RT.Own.set {w : World} {B : Nat} {v : Value} {l : List α} (h : r.Own w B v l) {p : Addr} (hp : ∀ b, v.ownBlock = some b → b ≠ p.block) (u : Value) : r.Own (w.setCell p u) B v l :=
 h.keep fun b _ hv => Below.heap_setCell _ _ _ _ (hp b hv)
theorem add_addr (b o j : Nat) : (⟨b, o, none⟩ : Addr).add j = ⟨b, o + j, none⟩ := by unfold Addr.add; split <;> simp_all
/-- One more element behind an own row: the element lies in the block that was made last. -/
theorem run_append_r {w : World} {base b c : Nat} {v : Value} {xs : List α} (x : α) (ty : TypeId) (hown : r.Own w base v xs) (hcell : w.rangeAt b 0 (r.cf x)) (hb1 : xs.length ≤ 1000000) (hb : base ≤ w.heap.size) :
  ∃ v' w', (Builtin.append_ #[r.sl, r.sl] ty #[v, .slice (some ⟨b, 0, none⟩) 1 c]).run Tryd.prog w = .ok v' w' ∧ r.Own w' base v' (xs ++ [x]) ∧ w.grownBy w' v.ownBlock := by
 obtain ⟨i0, hi0, hz0, hz1, hz2⟩ := info_parts r.info
 obtain ⟨v', w', h1, h2, h3, _⟩ := run_append_own (P := Tryd.prog) w base r.sl ty r.ty i0 _ r.sz r.bt r.und hi0 hz0 hz1 hz2 r.zs r.pos v xs.length (r.cells xs) hown ⟨b, 0, none⟩ 1 c (r.cells [x])
  (r.cells_len [x]) (fun j u hj => by
   rw [add_addr]
   have e : r.cells [x] = r.cf x := by simp [RT.cells]
   rw [e] at hj
   exact hcell j u hj) (r.cells_one [x]) (by unfold maxLen; omega) (by
   have := r.btl
   have : (xs.length + 1) * r.bt ≤ 1000001 * 256 := Nat.mul_le_mul (by omega) this
   omega) hb
 refine ⟨v', w', h1, ?_, h3⟩
 unfold RT.Own
 rw [List.length_append, RT.cells_append]
 exact h2
theorem wpList_append_r {ops : Array Oper} {rest : List Oper} {o : Oper} {a : Act} {w : World} {Q : Exit → Act → World → Prop} (hg : o.guard = none) (s y : Operand)
  (hop : o.op = Op.call { callee := Callee.builtin Builtin.append, args := #[s, y], argTypes := #[r.sl, r.sl] }) (base : Nat)
  (v : Value) (xs : List α) (hs : a.eval s = v) (hown : r.Own w base v xs) (b c : Nat) (x : α) (hx : a.eval y = .slice (some ⟨b, 0, none⟩) 1 c) (hcell : w.rangeAt b 0 (r.cf x)) (hb1 : xs.length ≤ 1000000) (hb : base ≤ w.heap.size)
  (hK : ∀ v' w', r.Own w' base v' (xs ++ [x]) → w.grownBy w' v.ownBlock → wpList Tryd.prog ops Q rest (a.put o.dst v') w') : wpList Tryd.prog ops Q (o :: rest) a w := by
 refine wpList_plain hg fun K hK' => ?_
 obtain ⟨v', w', h1, h2, h3⟩ := run_append_r (c := c) x o.type hown hcell hb1 hb
 unfold Oper.wp
 simp [execOp, hop, resolve, invoke, builtin, hs, hx, h1, Result.andThen]
 exact hK' _ _ (hK v' w' h2 h3)
theorem RT.Own.form2 {α : Type} {r : RT α} {w : World} {B : Nat} {v : Value} {l : List α} (h : r.Own w B v l) : (v = .slice none 0 0 ∧ l = []) ∨ ∃ g cap, v = .slice (some ⟨g, 0, none⟩) l.length cap ∧ B ≤ g ∧ g < w.heap.size ∧ l.length ≤ cap ∧ w.frozen? ⟨g, 0, none⟩ = false ∧ r.Row w g 0 l := by
 rcases h.2 with ⟨hv, hn⟩ | ⟨g, cap, cur, hv, hB, hh, hc, hcm, hcz, ht⟩
 ·exact .inl ⟨hv, List.length_eq_zero_iff.1 hn⟩
 ·exact .inr ⟨g, cap, hv, hB, block_lt hh, hc, by simp [World.frozen?, hh], RT.row_of (cur := cur.toList) (by rw [Array.toArray_toList]; exact hh) ht⟩
set_option maxRecDepth 100000 in
noncomputable def stT : RT (List UInt8) where
 sz := 1
 ty := 9
 sl := 28
 bt := 16
 z := .string ⟨#[]⟩
 cf := fun x => [.string (bs x)]
 pos := by decide
 len := fun _ => rfl
 one := fun x v hv => by rw [List.mem_singleton.1 hv]; rfl
 und := Tryd.underlying28
 info := by kernel_rfl
 zs := rfl
 btl := by decide
end Go.Proofs.YtdlchlbngojljaaDoor
