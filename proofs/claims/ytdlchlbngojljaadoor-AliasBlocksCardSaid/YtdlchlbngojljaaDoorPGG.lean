/- The tape of drawn numbers; one of some texts. What the append of rows keeps. -/
import Derived.Test.YtdlchlbngojljaaDoorPAB
import Derived.Deep.Upon
namespace Go.Proofs.YtdlchlbngojljaaDoor
open Go.RowKit
/-- A tape at its place k. -/
def Tp (w : World) (tb : Nat) (k : Nat) : Prop := ∃ lv, w.heap[tb]? = some (.cells #[lv, .int .i64 (k : Int)] 26 (0, 0)) ∧ Ints w tb lv
theorem Tp.lt {w : World} {tb k : Nat} (h : Tp w tb k) : tb < w.heap.size := by
 obtain ⟨lv, hh, _⟩ := h
 exact block_lt hh
theorem Tp.keep {w w' : World} {tb k : Nat} (h : Tp w tb k) (hk : ∀ b, b ≤ tb → w'.heap[b]? = w.heap[b]?) : Tp w' tb k := by
 obtain ⟨lv, hh, hi⟩ := h
 exact ⟨lv, (hk tb (Nat.le_refl _)).trans hh, hi.keep fun b hb => hk b (Nat.le_of_lt hb)⟩
theorem Tp.below {w w' : World} {tb k : Nat} (h : Tp w tb k) (hb : Below w.heap.size w w') : Tp w' tb k := h.keep fun b hb' => hb.block b (Nat.lt_of_le_of_lt hb' h.lt)
theorem tp_put {w : World} {tb k k' : Nat} (h : Tp w tb k) (n : Nat) : Tp ((w.drewN n).setCell ⟨tb, 1, none⟩ (.int .i64 (k' : Int))) tb k' := by
 obtain ⟨lv, hh, hi⟩ := h
 refine ⟨lv, ?_, hi.keep fun b hb => Below.heap_setCell _ _ _ _ (Nat.ne_of_lt hb)⟩
 simp [World.setCell, Array.getElem?_modify, hh]
set_option maxHeartbeats 1000000 in
set_option maxRecDepth 100000 in
/-- Next: a number below n; the tape moves on. -/
theorem next_tp (tb k n : Nat) (w : World) (h1 : 1 ≤ n) (h2 : n ≤ 1000000) (hk : k ≤ 1000000) (h : Tp w tb k) :
  Calls Tryd.prog 15 #[.pointer (some ⟨tb, 0, none⟩), .int .i64 n] w fun e w' => ∃ r : Nat, r < n ∧ e = .returned (.int .i64 r) ∧ Tp w' tb (k + 1) ∧ w.grownBy w' (some tb) ∧ w'.heap.size = w.heap.size := by
 have hput := fun m => tp_put (k' := k + 1) h m
 obtain ⟨lv, hh, hi⟩ := h
 have c0 : w.cell? ⟨tb, 0, none⟩ = some lv := by rw [cell_of_row _ _ _ _ _ _ hh]; rfl
 have c1 : w.cell? ⟨tb, 1, none⟩ = some (.int .i64 (k : Int)) := by rw [cell_of_row _ _ _ _ _ _ hh]; rfl
 have f1 : w.frozen? ⟨tb, 1, none⟩ = false := by simp [World.frozen?, hh]
 have hw7 : IntKind.i64.wrap ((k : Int) * 7) = (k : Int) * 7 := by rw [IntKind.wrap_i64]; omega
 have hwk : IntKind.i64.wrap ((k : Int) + 1) = ((k + 1 : Nat) : Int) := by rw [IntKind.wrap_i64]; omega
 obtain ⟨q, hq⟩ : ∃ q : Int, ((k : Int) * 7).tmod 11 = q := ⟨_, rfl⟩
 have hwq : IntKind.i64.wrap q = q := by
  have := Int.tmod_lt_of_pos ((k : Int) * 7) (show (0 : Int) < 11 by omega)
  have h' := Int.tmod_nonneg 11 (show (0 : Int) ≤ (k : Int) * 7 by omega)
  rw [IntKind.wrap_i64]
  omega
 have hfold := fun z W => fold_any z n W h1 h2
 have HF := Lib.hid hfold
 have HP := Lib.hid hput
 clear hput hfold
 have hfin : ∀ m, Tp ((w.drewN m).setCell ⟨tb, 1, none⟩ (.int .i64 ((k + 1 : Nat) : Int))) tb (k + 1) ∧ w.grownBy ((w.drewN m).setCell ⟨tb, 1, none⟩ (.int .i64 ((k + 1 : Nat) : Int))) (some tb) ∧
   ((w.drewN m).setCell ⟨tb, 1, none⟩ (.int .i64 ((k + 1 : Nat) : Int))).heap.size = w.heap.size := fun m =>
  ⟨HP.out m, ⟨rfl, rfl, rfl, by simp [World.setCell], fun j _ hj => Below.heap_setCell _ _ _ _ fun e => hj (by rw [e])⟩, by simp [World.setCell]⟩
 have HR := Lib.hid hfin
 clear hfin HP
 rcases hi with ⟨a, c, rfl⟩ | ⟨b, o, m, c, rfl, hb, hz⟩
 ·have hk0 : ¬ ((k : Int) < ((0 : Nat) : Int)) := by omega
  clear hh
  go_enter Tryd.func15, Tryd.ntmps15
  go_wp2
  go_quiet (fail)
  go_wp2_with fail
  refine (HF.out _ _).mono ?_
  rintro e W ⟨r, hr, rfl, rfl⟩
  go_wp2
  go_ret
  exact ⟨r, hr, rfl, HR.out _⟩
 ·by_cases hkm : k < m
  ·have hkm' : (k : Int) < (m : Int) := by omega
   obtain ⟨z, hz⟩ := hz k hkm
   clear hh
   go_enter Tryd.func15, Tryd.ntmps15
   go_wp2
   go_quiet (fail)
   go_wp2
   go_quiet (fail)
   go_wp2_with fail
   refine (HF.out _ _).mono ?_
   rintro e W ⟨r, hr, rfl, rfl⟩
   go_wp2
   go_ret
   exact ⟨r, hr, rfl, HR.out _⟩
  ·have hkm' : ¬ ((k : Int) < (m : Int)) := by omega
   clear hh hz
   go_enter Tryd.func15, Tryd.ntmps15
   go_wp2
   go_quiet (fail)
   go_wp2_with fail
   refine (HF.out _ _).mono ?_
   rintro e W ⟨r, hr, rfl, rfl⟩
   go_wp2
   go_ret
   exact ⟨r, hr, rfl, HR.out _⟩
theorem next_kp {w : World} {tb k : Nat} (n : Nat) (h1 : 1 ≤ n) (h2 : n ≤ 1000000) (hk : k ≤ 1000000) (h : Tp w tb k) :
  Calls Tryd.prog 15 #[.pointer (some ⟨tb, 0, none⟩), .int .i64 n] w fun e w' => ∃ r : Nat, r < n ∧ e = .returned (.int .i64 r) ∧ Tp w' tb (k + 1) ∧ Kp [tb] w w' :=
 (next_tp tb k n w h1 h2 hk h).mono fun _ _ ⟨r, hr, he, ht, hg, _⟩ => ⟨r, hr, he, ht, Kp.of_grown hg⟩
theorem Tp.kp {w w' : World} {tb k : Nat} {S : List Nat} (h : Tp w tb k) (hk : Kp S w w') (hs : ∀ x ∈ S, tb < x) : Tp w' tb k :=
 h.keep fun b hb => hk.block b (Nat.lt_of_le_of_lt hb h.lt) fun e => by have := hs b e; omega
set_option maxHeartbeats 1000000 in
set_option maxRecDepth 100000 in
/-- One: one of these texts. -/
theorem one_any {w : World} {tb k sb c : Nat} (xs : List (List UInt8)) (h1 : 1 ≤ xs.length) (h2 : xs.length ≤ 1000000) (hk : k ≤ 1000000) (h : Tp w tb k) (hne : sb ≠ tb) (hsb : sb < w.heap.size)
  (hx : ∀ (j : Nat) x, xs[j]? = some x → w.cell? ⟨sb, j, none⟩ = some (.string (bs x))) :
  Calls Tryd.prog 16 #[.pointer (some ⟨tb, 0, none⟩), .slice (some ⟨sb, 0, none⟩) xs.length c] w fun e w' =>
   ∃ x, x ∈ xs ∧ e = .returned (.string (bs x)) ∧ Tp w' tb (k + 1) ∧ Kp [tb] w w' := by
 have HN := Lib.hid (next_kp xs.length h1 h2 hk h)
 have HX := Lib.hid hx
 have hz : ¬ ((xs.length : Int) = 0) := by omega
 have hz' : ((xs.length : Int) == 0) = false := beq_false_of_ne hz
 clear hx
 go_enter Tryd.func16, Tryd.ntmps16
 go_wp2_with fail
 refine HN.out.mono ?_
 rintro e W ⟨r, hr, rfl, hT, hg⟩
 obtain ⟨x, hx⟩ : ∃ x, xs[r]? = some x := ⟨_, List.getElem?_eq_getElem hr⟩
 have hb := hg.block sb hsb (by simpa using hne)
 have hc : W.cell? ⟨sb, r, none⟩ = some (.string (bs x)) := by
  have := HX.out r x hx
  simp only [World.cell?, hb] at this ⊢
  exact this
 have hri : (r : Int) < (xs.length : Int) := by omega
 have HT := Lib.hid hT
 have HG := Lib.hid hg
 have Hx := Lib.hid hx
 clear hT hg hx h hb
 go_wp2
 go_ret
 exact ⟨x, List.mem_of_getElem? Hx.out, rfl, HT.out, HG.out⟩
/-- .. in a row that was just made. -/
theorem one_new {w : World} {tb k : Nat} (xs : List (List UInt8)) (h1 : 1 ≤ xs.length) (h2 : xs.length ≤ 1000000) (hk : k ≤ 1000000) (h : Tp w tb k) :
  Calls Tryd.prog 16 #[.pointer (some ⟨tb, 0, none⟩), .slice (some ⟨w.heap.size, 0, none⟩) xs.length xs.length] (w.alloc (.cells (xs.map fun x => Value.string (bs x)).toArray 9)) fun e w' =>
   ∃ x, x ∈ xs ∧ e = .returned (.string (bs x)) ∧ Tp w' tb (k + 1) ∧ Kp [tb] w w' := by
 have hal : Kp [] w (w.alloc (.cells (xs.map fun x => Value.string (bs x)).toArray 9)) := (Kp.refl [] w).alloc _
 have hlt := h.lt
 refine (one_any xs h1 h2 hk (h.kp hal (by simp)) (by omega) (by simp) (fun j x hx => ?_)).mono fun e w' ⟨x, hx, he, ht, hk2⟩ => ⟨x, hx, he, ht, (hal.mono (by simp)).trans hk2⟩
 rw [cell_of_row _ _ j _ _ _ (heap_alloc_last w _), List.getElem?_toArray, List.getElem?_map, hx]
 rfl
theorem one_short {w : World} {tb k : Nat} (xs : List (List UInt8)) (h1 : 1 ≤ xs.length) (h2 : xs.length ≤ 1000000) (hk : k ≤ 1000000) (h : Tp w tb k) (hx : ∀ x ∈ xs, x.length ≤ 300) :
  Calls Tryd.prog 16 #[.pointer (some ⟨tb, 0, none⟩), .slice (some ⟨w.heap.size, 0, none⟩) xs.length xs.length] (w.alloc (.cells (xs.map fun x => Value.string (bs x)).toArray 9)) fun e w' =>
   ∃ x : List UInt8, x.length ≤ 300 ∧ e = .returned (.string (bs x)) ∧ Tp w' tb (k + 1) ∧ Kp [tb] w w' :=
 (one_new xs h1 h2 hk h).mono fun _ _ ⟨x, h, r⟩ => ⟨x, hx x h, r⟩
end Go.Proofs.YtdlchlbngojljaaDoor
namespace Go.Proofs.YtdlchlbngojljaaDoor
open Go.RowKit
theorem oneB {w : World} {tb k sb : Nat} (xs : List (List UInt8)) (n : Nat) (hn : xs.length = n) (h1 : 1 ≤ xs.length) (h2 : xs.length ≤ 1000000) (hx : ∀ x ∈ xs, x.length ≤ 300) (hk : k ≤ 1000000) (h : Tp w tb k) (hne : tb < sb) {A : Array Value} (hb : w.heap[sb]? = some (.cells A 9 (0, 0))) (hA : A = (xs.map fun x => Value.string (bs x)).toArray) :
  Calls Tryd.prog 16 #[.pointer (some ⟨tb, 0, none⟩), .slice (some ⟨sb, 0, none⟩) n n] w fun e w' => ∃ x : List UInt8, x.length ≤ 300 ∧ e = .returned (.string (bs x)) ∧ Tp w' tb (k + 1) ∧ Kp [tb] w w' := by
 subst hA
 subst hn
 refine (one_any xs h1 h2 hk h (by omega) (block_lt hb) fun j x hj => ?_).mono fun e w' ⟨x, hx', he, ht, hkp⟩ => ⟨x, hx x hx', he, ht, hkp⟩
 rw [cell_of_row _ _ _ _ _ _ hb]
 simp [hj]
def Tq (w : World) (tb n : Nat) : Prop := ∃ k', k' ≤ n ∧ Tp w tb k'
theorem step_append_r {α : Type} {r : RT α} {ops : Array Oper} {o : Oper} {a : Act} {w : World} {K : Act → World → Prop} {Q : Exit → Act → World → Prop} {E : Prop} (hg : o.guard = none) (s y : Operand)
  (hop : o.op = Op.call { callee := Callee.builtin Builtin.append, args := #[s, y], argTypes := #[r.sl, r.sl] }) (base : Nat)
  (v : Value) (xs : List α) (hs : a.eval s = v) (hown : r.Own w base v xs) (b c : Nat) (x : α) (hx : a.eval y = .slice (some ⟨b, 0, none⟩) 1 c) (hcell : w.rangeAt b 0 (r.cf x)) (hb1 : xs.length ≤ 1000000) (hb : base ≤ w.heap.size)
  (hK : ∀ v' w', r.Own w' base v' (xs ++ [x]) → w.grownBy w' v.ownBlock → K (a.put o.dst v') w') :
  if Region.wanted o (yielded ops a.tmps) = true then Oper.wp Tryd.prog o a w K Q else E := by
 have hw : Region.wanted o (yielded ops a.tmps) = true := by simp [Region.wanted, hg]
 rw [if_pos hw]
 obtain ⟨v', w', h1, h2, h3⟩ := run_append_r (c := c) x o.type hown hcell hb1 hb
 unfold Oper.wp
 simp [execOp, hop, resolve, invoke, builtin, hs, hx, h1, Result.andThen]
 exact hK v' w' h2 h3
theorem Tq.kp0 {w w' : World} {tb n : Nat} (h : Tq w tb n) (hk : Kp [] w w') : Tq w' tb n := by
 obtain ⟨k, hk1, h⟩ := h
 exact ⟨k, hk1, h.kp hk (by simp)⟩
theorem kp_grownS {w W w' : World} {v : Value} {S : List Nat} (h : Kp S w W) (g : W.grownBy w' v.ownBlock) (hv : ∀ b, v.ownBlock = some b → w.heap.size ≤ b) : Kp S w w' := by
 cases hb : v.ownBlock with
 | none =>
  rw [hb] at g
  exact h.trans ((Kp.of_grown_none g).mono (by simp))
 | some b =>
  rw [hb] at g
  exact h.up (Kp.of_grown g) (by intro x hx; simp at hx; subst hx; exact .inr (hv x hb))
theorem tq_grown {W w' : World} {tb n B : Nat} {v : Value} (h : Tq W tb n) (hB : tb < B) (g : W.grownBy w' v.ownBlock) (hv : ∀ b, v.ownBlock = some b → B ≤ b) : Tq w' tb n := by
 obtain ⟨k, hk1, h⟩ := h
 refine ⟨k, hk1, h.keep fun b hb => ?_⟩
 exact g.block b (Nat.lt_of_le_of_lt hb h.lt) fun e => by have := hv b e.symm; omega
theorem RT.Row.all {α : Type} {r : RT α} {w : World} {b : Nat} : ∀ {l : List α} {o : Nat}, r.Row w b o l → ∀ (j : Nat) u, (r.cells l)[j]? = some u → w.cell? ⟨b, o + j, none⟩ = some u
 | [], o, _, j, u, hj => by simp [RT.cells] at hj
 | x :: l, o, h, j, u, hj => by
  rw [RT.cells_cons] at hj
  by_cases hl : j < r.sz
  ·rw [List.getElem?_append_left (by rw [r.len]; exact hl)] at hj
   have := h 0 x rfl j u hj
   simpa using this
  ·rw [List.getElem?_append_right (by rw [r.len]; omega), r.len] at hj
   have h2 : r.Row w b (o + r.sz) l := fun q y hy m v hv => by
    have := h (q + 1) y (by simpa using hy) m v hv
    rw [Nat.add_mul, Nat.one_mul] at this
    rw [show o + r.sz + q * r.sz + m = o + (q * r.sz + r.sz) + m by omega]
    exact this
   have := RT.Row.all h2 (j - r.sz) u hj
   rwa [show o + r.sz + (j - r.sz) = o + j by omega] at this
/-- A whole row is appended to an own row. -/
theorem wpList_append_rs {α : Type} {r : RT α} {ops : Array Oper} {rest : List Oper} {o : Oper} {a : Act} {w : World} {Q : Exit → Act → World → Prop} (hg : o.guard = none) (s y : Operand)
  (hop : o.op = Op.call { callee := Callee.builtin Builtin.append, args := #[s, y], argTypes := #[r.sl, r.sl] }) (base : Nat)
  (v : Value) (xs ys : List α) (hs : a.eval s = v) (hown : r.Own w base v xs) (b p c : Nat) (hx : a.eval y = .slice (some ⟨b, p, none⟩) ys.length c) (hrow : r.Row w b p ys) (hb1 : xs.length + ys.length ≤ 1000000) (hb : base ≤ w.heap.size)
  (hK : ∀ v' w', r.Own w' base v' (xs ++ ys) → w.grownBy w' v.ownBlock → wpList Tryd.prog ops Q rest (a.put o.dst v') w') : wpList Tryd.prog ops Q (o :: rest) a w := by
 refine wpList_plain hg fun K hK' => ?_
 obtain ⟨i0, hi0, hz0, hz1, hz2⟩ := info_parts r.info
 obtain ⟨v', w', h1, h2, h3, _⟩ := run_append_own (P := Tryd.prog) w base r.sl o.type r.ty i0 _ r.sz r.bt r.und hi0 hz0 hz1 hz2 r.zs r.pos v xs.length (r.cells xs) hown ⟨b, p, none⟩ ys.length c (r.cells ys)
  (r.cells_len ys) (fun j u hj => by
   rw [show (⟨b, p, none⟩ : Addr).add j = ⟨b, p + j, none⟩ from add_addr b p j]
   exact hrow.all j u hj) (r.cells_one ys) (by unfold maxLen; omega) (by
   have := r.btl
   have : (xs.length + ys.length) * r.bt ≤ 1000000 * 256 := Nat.mul_le_mul (by omega) this
   omega) hb
 unfold Oper.wp
 simp [execOp, hop, resolve, invoke, builtin, hs, hx, h1, Result.andThen]
 refine hK' _ _ (hK v' w' ?_ h3)
 unfold RT.Own
 rw [List.length_append, RT.cells_append]
 exact h2
/-- A slice that may be nil, or a row. -/
def RT.Any {α : Type} (r : RT α) (w : World) (v : Value) (l : List α) : Prop := (v = .slice none 0 0 ∧ l = []) ∨ ∃ b p c, v = .slice (some ⟨b, p, none⟩) l.length c ∧ r.Row w b p l
theorem RT.Own.any {α : Type} {r : RT α} {w : World} {B : Nat} {v : Value} {l : List α} (h : r.Own w B v l) : r.Any w v l := by
 rcases h.form2 with ⟨h1, h2⟩ | ⟨g, cap, h1, _, _, _, _, h2⟩
 ·exact .inl ⟨h1, h2⟩
 ·exact .inr ⟨g, 0, cap, h1, h2⟩
theorem run_append_any {α : Type} {r : RT α} {w : World} {base : Nat} {v y : Value} {xs ys : List α} (ty : TypeId) (hown : r.Own w base v xs) (hne : xs ≠ []) (hy : r.Any w y ys) (hb1 : xs.length + ys.length ≤ 1000000) (hb : base ≤ w.heap.size) :
  ∃ v' w', (Builtin.append_ #[r.sl, r.sl] ty #[v, y]).run Tryd.prog w = .ok v' w' ∧ r.Own w' base v' (xs ++ ys) ∧ w.grownBy w' v.ownBlock := by
 obtain ⟨i0, hi0, hz0, hz1, hz2⟩ := info_parts r.info
 rcases hy with ⟨rfl, rfl⟩ | ⟨b, p, c, rfl, hrow⟩
 ·rcases hown.form2 with ⟨_, h2⟩ | ⟨g, cap, rfl, _, _, hcap, _, _⟩
  ·exact absurd h2 hne
  ·exact ⟨_, w, run_append_nothing w r.sl r.sl ty r.ty i0 r.und hi0 _ _ _ hcap _ (Src.ofNil w r.und 0), by rw [List.append_nil]; exact hown, World.grownBy.refl _ _⟩
 ·obtain ⟨v', w', h1, h2, h3, _⟩ := run_append_own (P := Tryd.prog) w base r.sl ty r.ty i0 _ r.sz r.bt r.und hi0 hz0 hz1 hz2 r.zs r.pos v xs.length (r.cells xs) hown ⟨b, p, none⟩ ys.length c (r.cells ys)
   (r.cells_len ys) (fun j u hj => by
    rw [show (⟨b, p, none⟩ : Addr).add j = ⟨b, p + j, none⟩ from add_addr b p j]
    exact hrow.all j u hj) (r.cells_one ys) (by unfold maxLen; omega) (by
    have := r.btl
    have : (xs.length + ys.length) * r.bt ≤ 1000000 * 256 := Nat.mul_le_mul (by omega) this
    omega) hb
  refine ⟨v', w', h1, ?_, h3⟩
  unfold RT.Own
  rw [List.length_append, RT.cells_append]
  exact h2
theorem wpList_append_any {α : Type} {r : RT α} {ops : Array Oper} {rest : List Oper} {o : Oper} {a : Act} {w : World} {Q : Exit → Act → World → Prop} (hg : o.guard = none) (s y : Operand)
  (hop : o.op = Op.call { callee := Callee.builtin Builtin.append, args := #[s, y], argTypes := #[r.sl, r.sl] }) (base : Nat)
  (v yv : Value) (xs ys : List α) (hs : a.eval s = v) (hown : r.Own w base v xs) (hne : xs ≠ []) (hx : a.eval y = yv) (hy : r.Any w yv ys) (hb1 : xs.length + ys.length ≤ 1000000) (hb : base ≤ w.heap.size)
  (hK : ∀ v' w', r.Own w' base v' (xs ++ ys) → w.grownBy w' v.ownBlock → wpList Tryd.prog ops Q rest (a.put o.dst v') w') : wpList Tryd.prog ops Q (o :: rest) a w := by
 refine wpList_plain hg fun K hK' => ?_
 obtain ⟨v', w', h1, h2, h3⟩ := run_append_any o.type hown hne hy hb1 hb
 unfold Oper.wp
 simp [execOp, hop, resolve, invoke, builtin, hs, hx, h1, Result.andThen]
 exact hK' _ _ (hK v' w' h2 h3)
theorem step_append_any {α : Type} {r : RT α} {ops : Array Oper} {o : Oper} {a : Act} {w : World} {K : Act → World → Prop} {Q : Exit → Act → World → Prop} {E : Prop} (hg : o.guard = none) (s y : Operand)
  (hop : o.op = Op.call { callee := Callee.builtin Builtin.append, args := #[s, y], argTypes := #[r.sl, r.sl] }) (base : Nat)
  (v yv : Value) (xs ys : List α) (hs : a.eval s = v) (hown : r.Own w base v xs) (hne : xs ≠ []) (hx : a.eval y = yv) (hy : r.Any w yv ys) (hb1 : xs.length + ys.length ≤ 1000000) (hb : base ≤ w.heap.size)
  (hK : ∀ v' w', r.Own w' base v' (xs ++ ys) → w.grownBy w' v.ownBlock → K (a.put o.dst v') w') :
  if Region.wanted o (yielded ops a.tmps) = true then Oper.wp Tryd.prog o a w K Q else E := by
 have hw : Region.wanted o (yielded ops a.tmps) = true := by simp [Region.wanted, hg]
 rw [if_pos hw]
 obtain ⟨v', w', h1, h2, h3⟩ := run_append_any o.type hown hne hy hb1 hb
 unfold Oper.wp
 simp [execOp, hop, resolve, invoke, builtin, hs, hx, h1, Result.andThen]
 exact hK v' w' h2 h3
theorem own_singleR {α : Type} {r : RT α} {W : World} {B : Nat} (x : α) (A : Array Value) (hA : A.toList = r.cf x) (hB : B ≤ W.heap.size) (c : Nat) (hc : c = 1) : r.Own (W.alloc (.cells A r.ty)) B (.slice (some ⟨W.heap.size, 0, none⟩) 1 c) [x] := by
 subst hc
 refine ⟨r.cells_len [x], .inr ⟨_, 1, A, rfl, hB, heap_alloc_last _ _, Nat.le_refl _, by unfold maxLen; omega, ?_, ?_⟩⟩
 ·have := congrArg List.length hA
  rw [r.len] at this
  simpa using this
 ·have : r.cells [x] = r.cf x := by simp [RT.cells]
  rw [this, ← hA]
  have h2 := congrArg List.length hA
  rw [r.len] at h2
  rw [List.take_of_length_le]
  rw [h2]
  simp
end Go.Proofs.YtdlchlbngojljaaDoor
