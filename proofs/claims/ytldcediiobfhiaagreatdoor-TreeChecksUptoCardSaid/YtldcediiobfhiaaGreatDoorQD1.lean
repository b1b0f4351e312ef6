/- Attributes on lists: the order of names, what Get, Set, Sorted and Changed say of a list. Rows of attributes in memory; the tape of drawn numbers: Fold, Next, One. -/
import Derived.Test.YtldcediiobfhiaaGreatDoorProg
import Derived.Lib.Walk
import Derived.Lib.Strings
import Derived.Lib.Bytealg
import Derived.WalkKit
import Derived.WalkSpells
import Derived.WalkLawsBesides
import Derived.Lib.Hide
import Derived.Lib.SliceRun
import Derived.Laws.Strings3
import Derived.Laws.Cover1
import Derived.Laws.ResultCell
import Derived.Laws.CopyOwn
import Derived.Deep.LoopGhost
import Derived.Deep.WholeRow
import Derived.Deep.QuietTactic
import Derived.BigQuiet
import Derived.Deep.AppendLies
import Derived.Maps.AppendAt
import Derived.Maps.Range
import Derived.OwnWalk
namespace Go.Proofs.YtldcediiobfhiaaGreatDoor.De
abbrev Atr := ByteArray × ByteArray
/-- The order of names. -/
def lt (a b : ByteArray) : Bool := Op.bytesLess a.toList b.toList
theorem bl_irrefl : ∀ a : List UInt8, Op.bytesLess a a = false
 | [] => rfl
 | c :: a => by
  rw [Op.bytesLess, bl_irrefl a]
  simp
theorem bl_trans : ∀ a b c : List UInt8, Op.bytesLess a b = true → Op.bytesLess b c = true → Op.bytesLess a c = true
 | _, [], _, h, _ => by cases ‹List UInt8› <;> simp [Op.bytesLess] at h
 | _, _ :: _, [], _, h => by simp [Op.bytesLess] at h
 | [], _ :: _, _ :: _, _, _ => rfl
 | x :: a, y :: b, z :: c, h, k => by
  simp only [Op.bytesLess, Bool.or_eq_true, decide_eq_true_eq, Bool.and_eq_true, beq_iff_eq, UInt8.lt_iff_toNat_lt] at h k ⊢
  rcases h with h | ⟨h, h'⟩ <;> rcases k with k | ⟨k, k'⟩
  ·left; omega
  ·left; rw [← k]; exact h
  ·left; rw [h]; exact k
  ·right; exact ⟨h.trans k, bl_trans a b c h' k'⟩
theorem bl_tri : ∀ a b : List UInt8, Op.bytesLess a b = false → Op.bytesLess b a = false → a = b
 | [], [], _, _ => rfl
 | [], _ :: _, h, _ => by simp [Op.bytesLess] at h
 | _ :: _, [], _, h => by simp [Op.bytesLess] at h
 | x :: a, y :: b, h, k => by
  simp only [Op.bytesLess, Bool.or_eq_false_iff, decide_eq_false_iff_not, Bool.and_eq_false_iff, beq_eq_false_iff_ne, UInt8.lt_iff_toNat_lt] at h k
  have e : x = y := UInt8.toNat_inj.1 (by omega)
  subst e
  rcases h.2 with h2 | h2
  ·exact absurd rfl h2
  ·rcases k.2 with k2 | k2
   ·exact absurd rfl k2
   ·rw [bl_tri a b h2 k2]
theorem data_inj {a b : ByteArray} (h : a.toList = b.toList) : a = b := by
 rw [Lib.toList_data, Lib.toList_data] at h
 exact ByteArray.ext (Array.toList_inj.1 h)
theorem lt_irrefl (a : ByteArray) : lt a a = false := bl_irrefl _
theorem lt_trans {a b c : ByteArray} (h : lt a b = true) (k : lt b c = true) : lt a c = true := bl_trans _ _ _ h k
theorem lt_tri {a b : ByteArray} (h : lt a b = false) (k : lt b a = false) : a = b := data_inj (bl_tri _ _ h k)
theorem lt_ne {a b : ByteArray} (h : lt a b = true) : a ≠ b := fun e => by
 subst e
 rw [lt_irrefl] at h
 exact Bool.noConfusion h
theorem lt_asymm {a b : ByteArray} (h : lt a b = true) : lt b a = false := by
 cases k : lt b a with
 | false => rfl
 | true =>
  have := lt_trans h k
  rw [lt_irrefl] at this
  exact Bool.noConfusion this
def Srt (l : List Atr) : Prop := l.Pairwise fun x y => lt x.1 y.1 = true
def one (n v : ByteArray) : List Atr := if v = ⟨#[]⟩ then [] else [(n, v)]
/-- What Set returns of a list that ascends. -/
def setP (n v : ByteArray) (l : List Atr) : List Atr := l.filter (fun x => lt x.1 n) ++ (one n v ++ l.filter fun x => lt n x.1)
theorem srt_one (n v : ByteArray) : Srt (one n v) := by
 unfold one Srt
 split
 ·exact .nil
 ·simp
theorem mem_one {n v : ByteArray} {x : Atr} (h : x ∈ one n v) : x = (n, v) := by
 unfold one at h
 split at h
 ·cases h
 ·simpa using h
theorem srt_setP {l : List Atr} (n v : ByteArray) (h : Srt l) : Srt (setP n v l) := by
 unfold setP Srt
 rw [List.pairwise_append, List.pairwise_append]
 refine ⟨h.filter _, ⟨srt_one n v, h.filter _, fun x hx y hy => ?_⟩, fun x hx y hy => ?_⟩
 ·rw [mem_one hx]
  exact (List.mem_filter.1 hy).2
 ·have h1 := (List.mem_filter.1 hx).2
  rcases List.mem_append.1 hy with hy | hy
  ·rw [mem_one hy]
   exact h1
  ·exact lt_trans h1 (List.mem_filter.1 hy).2
theorem setP_length (n v : ByteArray) (l : List Atr) : (setP n v l).length ≤ l.length + 1 := by
 unfold setP
 rw [List.length_append, List.length_append]
 have h1 : (one n v).length ≤ 1 := by unfold one; split <;> simp
 have h2 : ∀ m : List Atr, (m.filter fun x => lt x.1 n).length + (m.filter fun x => lt n x.1).length ≤ m.length := fun m => by
  induction m with
  | nil => simp
  | cons x m ih =>
   rw [List.filter_cons, List.filter_cons, List.length_cons]
   cases h1 : lt x.1 n with
   | true =>
    rw [lt_asymm h1]
    simp only [if_true, if_false, List.length_cons, Bool.false_eq_true]
    omega
   | false =>
    cases h2 : lt n x.1 <;> simp only [if_true, if_false, List.length_cons, Bool.false_eq_true] <;> omega
 have := h2 l
 omega
/-- The reference's Set: 'done' and the rest of the list. -/
def rset (n v : ByteArray) : Bool → List Atr → List Atr
 | d, [] => if d then [] else [(n, v)]
 | d, x :: l =>
  let k := !d && !lt x.1 n
  (if k then [(n, v)] else []) ++ ((if x.1 = n then [] else [x]) ++ rset n v (d || k) l)
theorem rset_done (n v : ByteArray) : ∀ {l : List Atr}, Srt l → rset n v true l = l.filter (fun x => lt x.1 n) ++ l.filter fun x => lt n x.1
 | [], _ => rfl
 | x :: l, h => by
  have h' := List.pairwise_cons.1 h
  rw [rset]
  simp only [Bool.not_true, Bool.false_and, Bool.or_false, Bool.false_eq_true, if_false, List.nil_append]
  rw [rset_done n v h'.2, List.filter_cons, List.filter_cons]
  cases h1 : lt x.1 n with
  | true =>
   rw [if_neg (lt_ne h1), lt_asymm h1]
   rfl
  | false =>
   have e1 : ∀ (hx : n = x.1 ∨ lt n x.1 = true), l.filter (fun x => lt x.1 n) = [] := fun hx => List.filter_eq_nil_iff.2 fun y hy => by
    rcases hx with hx | hx
    ·rw [hx, lt_asymm (h'.1 y hy)]; simp
    ·rw [lt_asymm (lt_trans hx (h'.1 y hy))]; simp
   cases h2 : lt n x.1 with
   | true =>
    rw [if_neg (lt_ne h2).symm, e1 (.inr h2)]
    rfl
   | false =>
    rw [if_pos (lt_tri h1 h2)]
    rfl
theorem rset_eq (n v : ByteArray) : ∀ {l : List Atr}, Srt l → rset n v (decide (v = ⟨#[]⟩)) l = setP n v l := by
 intro l h
 by_cases hv : v = ⟨#[]⟩
 ·rw [decide_eq_true hv, rset_done n v h]
  unfold setP one
  rw [if_pos hv]
  rfl
 ·rw [decide_eq_false hv]
  induction l with
  | nil =>
   unfold setP one
   rw [if_neg hv]
   rfl
  | cons x l ih =>
   have h' := List.pairwise_cons.1 h
   rw [rset]
   simp only [Bool.not_false, Bool.true_and, Bool.false_or]
   cases h1 : lt x.1 n with
   | true =>
    rw [Bool.not_true, ih h'.2, if_neg (lt_ne h1)]
    unfold setP
    rw [List.filter_cons, List.filter_cons, h1, lt_asymm h1]
    simp
   | false =>
    rw [Bool.not_false, rset_done n v h'.2]
    unfold setP one
    rw [if_neg hv]
    have e1 : ∀ (hx : n = x.1 ∨ lt n x.1 = true), l.filter (fun x => lt x.1 n) = [] := fun hx => List.filter_eq_nil_iff.2 fun y hy => by
     rcases hx with hx | hx
     ·rw [hx, lt_asymm (h'.1 y hy)]; simp
     ·rw [lt_asymm (lt_trans hx (h'.1 y hy))]; simp
    cases h2 : lt n x.1 with
    | true =>
     rw [if_neg (lt_ne h2).symm, e1 (.inr h2), List.filter_cons, List.filter_cons, h1, h2, e1 (.inr h2)]
     rfl
    | false =>
     have e := lt_tri h1 h2
     rw [if_pos e, e1 (.inl e.symm), List.filter_cons, List.filter_cons, h1, h2, e1 (.inl e.symm)]
     rfl
/-- Whether a list ascends. -/
def srtB : List Atr → Bool
 | x :: y :: l => lt x.1 y.1 && srtB (y :: l)
 | _ => true
theorem srtB_true : ∀ {l : List Atr}, (∀ i x y, l[i]? = some x → l[i + 1]? = some y → lt x.1 y.1 = true) → srtB l = true
 | [], _ => rfl
 | [_], _ => rfl
 | x :: y :: l, h => by
  rw [srtB, h 0 x y rfl rfl, srtB_true fun i u v hu hv => h (i + 1) u v (by simpa using hu) (by simpa using hv)]
  rfl
theorem srtB_false : ∀ {l : List Atr} {i : Nat} {x y : Atr}, l[i]? = some x → l[i + 1]? = some y → lt x.1 y.1 = false → srtB l = false
 | [], i, x, y, hx, _, _ => by simp at hx
 | [_], i, x, y, _, hy, _ => by simp at hy
 | a :: b :: l, 0, x, y, hx, hy, h => by
  simp only [List.getElem?_cons_zero, List.getElem?_cons_succ, Option.some.injEq] at hx hy
  subst hx
  subst hy
  rw [srtB, h]
  rfl
 | a :: b :: l, i + 1, x, y, hx, hy, h => by
  rw [srtB, srtB_false (l := b :: l) (i := i) (x := x) (y := y) (by simpa using hx) (by simpa using hy) h, Bool.and_false]
end Go.Proofs.YtldcediiobfhiaaGreatDoor.De
namespace Go.Proofs.YtldcediiobfhiaaGreatDoor.De
open Go.RowKit
/-- The cells of a list of attributes. -/
def cellsP (l : List Atr) : List Value := l.flatMap fun x => [.string x.1, .string x.2]
theorem cellsP_len (l : List Atr) : (cellsP l).length = l.length * 2 := by
 induction l with
 | nil => rfl
 | cons x l ih =>
  unfold cellsP at ih ⊢
  rw [List.flatMap_cons, List.length_append, ih, List.length_cons]
  simp only [List.length_cons, List.length_nil]
  omega
theorem cellsP_append (a b : List Atr) : cellsP (a ++ b) = cellsP a ++ cellsP b := List.flatMap_append
theorem cellsP_get : ∀ (l : List Atr) (j : Nat) (x : Atr), l[j]? = some x → (cellsP l)[j * 2]? = some (.string x.1) ∧ (cellsP l)[j * 2 + 1]? = some (.string x.2)
 | [], j, x, h => by simp at h
 | y :: l, 0, x, h => by
  simp only [List.getElem?_cons_zero, Option.some.injEq] at h
  subst h
  exact ⟨rfl, rfl⟩
 | y :: l, j + 1, x, h => by
  have := cellsP_get l j x (by simpa using h)
  have e : cellsP (y :: l) = Value.string y.1 :: Value.string y.2 :: cellsP l := rfl
  rw [e, show (j + 1) * 2 = (j * 2 + 1) + 1 by omega, List.getElem?_cons_succ, List.getElem?_cons_succ, List.getElem?_cons_succ, List.getElem?_cons_succ]
  exact this
theorem cellsP_one (l : List Atr) : ∀ v ∈ cellsP l, v.oneCell' = true := fun v hv => by
 obtain ⟨x, _, h⟩ := List.mem_flatMap.1 hv
 simp only [List.mem_cons, List.not_mem_nil, or_false] at h
 rcases h with rfl | rfl <;> rfl
/-- The cells from (b, o) on hold these attributes. -/
def Row (w : World) (b o : Nat) (l : List Atr) : Prop := ∀ (j : Nat) x, l[j]? = some x → w.cell? ⟨b, o + j * 2, none⟩ = some (.string x.1) ∧ w.cell? ⟨b, o + j * 2 + 1, none⟩ = some (.string x.2)
/-- The slice v holds these attributes. -/
def Has (w : World) (v : Value) (l : List Atr) : Prop := (∃ a c, v = .slice a 0 c ∧ l = []) ∨ ∃ b o c, v = .slice (some ⟨b, o, none⟩) l.length c ∧ b < w.heap.size ∧ Row w b o l
def Owns (w : World) (B : Nat) (v : Value) (l : List Atr) : Prop := w.ownsRow B 99 2 v l.length (cellsP l)
theorem block_lt {w : World} {g : Nat} {o : Obj} (h : w.heap[g]? = some o) : g < w.heap.size := (Array.getElem?_eq_some_iff.1 h).1
theorem cell_of_row (w : World) (b o : Nat) (c : Array Value) (t : TypeId) (f : Nat × Nat) (h : w.heap[b]? = some (.cells c t f)) : w.cell? ⟨b, o, none⟩ = c[o]? := by simp [World.cell?, h]
theorem Owns.form {w : World} {B : Nat} {v : Value} {l : List Atr} (h : Owns w B v l) : (v = .slice none 0 0 ∧ l = []) ∨ ∃ g cap, v = .slice (some ⟨g, 0, none⟩) l.length cap ∧ B ≤ g ∧ g < w.heap.size ∧ l.length ≤ cap ∧ Row w g 0 l := by
 rcases h.2 with ⟨hv, hn⟩ | ⟨g, cap, cur, hv, hB, hh, hc, _, _, ht⟩
 ·exact .inl ⟨hv, List.length_eq_zero_iff.1 hn⟩
 ·refine .inr ⟨g, cap, hv, hB, block_lt hh, hc, fun j x hx => ?_⟩
  have hj : j < l.length := (List.getElem?_eq_some_iff.1 hx).1
  have := cellsP_get l j x hx
  rw [← ht] at this
  rw [cell_of_row _ _ _ _ _ _ hh, cell_of_row _ _ _ _ _ _ hh]
  simp only [List.getElem?_take, Nat.zero_add] at this ⊢
  rw [if_pos (by omega), if_pos (by omega)] at this
  simpa using this
theorem Owns.has {w : World} {B : Nat} {v : Value} {l : List Atr} (h : Owns w B v l) : Has w v l := by
 rcases h.form with ⟨hv, hl⟩ | ⟨g, cap, hv, _, hg, _, hr⟩
 ·exact .inl ⟨none, 0, hv, hl⟩
 ·exact .inr ⟨g, 0, cap, hv, hg, hr⟩
theorem Row.keep {w w' : World} {b o : Nat} {l : List Atr} (h : Row w b o l) (hb : w'.heap[b]? = w.heap[b]?) : Row w' b o l := fun j x hx => by
 have := h j x hx
 simp only [World.cell?, hb] at this ⊢
 exact this
theorem Has.keep {w w' : World} {v : Value} {l : List Atr} (h : Has w v l) (hs : w.heap.size ≤ w'.heap.size) (hk : ∀ b, b < w.heap.size → v.ownBlock = some b → w'.heap[b]? = w.heap[b]?) : Has w' v l := by
 rcases h with h | ⟨b, o, c, rfl, hb, hr⟩
 ·exact .inl h
 ·exact .inr ⟨b, o, c, rfl, Nat.lt_of_lt_of_le hb hs, hr.keep (hk b hb rfl)⟩
theorem Has.below {w w' : World} {v : Value} {l : List Atr} (h : Has w v l) (hb : Below w.heap.size w w') : Has w' v l := h.keep hb.size fun k hk _ => hb.block k hk
theorem Has.grown {w w' : World} {v : Value} {l : List Atr} {r : Option Nat} (h : Has w v l) (hg : w.grownBy w' r) (hr : ∀ b, v.ownBlock = some b → r ≠ some b) : Has w' v l :=
 h.keep hg.size fun k hk hv => hg.block k hk fun e => hr k hv e.symm
theorem Owns.keep {w w' : World} {B : Nat} {v : Value} {l : List Atr} (h : Owns w B v l) (hk : ∀ b, b < w.heap.size → v.ownBlock = some b → w'.heap[b]? = w.heap[b]?) : Owns w' B v l := by
 refine ⟨h.1, ?_⟩
 rcases h.2 with hn | ⟨g, cap, cur, hv, hB, hh, rest⟩
 ·exact .inl hn
 ·exact .inr ⟨g, cap, cur, hv, hB, (hk g (block_lt hh) (by rw [hv]; rfl)).trans hh, rest⟩
theorem Owns.below {w w' : World} {B : Nat} {v : Value} {l : List Atr} (h : Owns w B v l) (hb : Below w.heap.size w w') : Owns w' B v l := h.keep fun k hk _ => hb.block k hk
theorem Owns.mono {w : World} {B B' : Nat} {v : Value} {l : List Atr} (h : Owns w B v l) (hB : B' ≤ B) : Owns w B' v l := by
 refine ⟨h.1, ?_⟩
 rcases h.2 with hn | ⟨g, cap, cur, hv, hg, rest⟩
 ·exact .inl hn
 ·exact .inr ⟨g, cap, cur, hv, Nat.le_trans hB hg, rest⟩
/-- The numbers of a tape: a slice of integers in blocks below tb. -/
def Ints (w : World) (tb : Nat) (lv : Value) : Prop := (∃ a c, lv = .slice a 0 c) ∨ ∃ b o n c, lv = .slice (some ⟨b, o, none⟩) n c ∧ b < tb ∧ ∀ j, j < n → ∃ z, w.cell? ⟨b, o + j, none⟩ = some (.int .i64 z)
/-- A tape at its place k. -/
def Tape (w : World) (tb : Nat) (k : Nat) : Prop := ∃ lv, w.heap[tb]? = some (.cells #[lv, .int .i64 (k : Int)] 27 (0, 0)) ∧ Ints w tb lv
theorem Tape.lt {w : World} {tb k : Nat} (h : Tape w tb k) : tb < w.heap.size := by
 obtain ⟨lv, hh, _⟩ := h
 exact block_lt hh
theorem Ints.keep {w w' : World} {tb : Nat} {lv : Value} (h : Ints w tb lv) (hk : ∀ b, b < tb → w'.heap[b]? = w.heap[b]?) : Ints w' tb lv := by
 rcases h with h | ⟨b, o, n, c, hv, hb, hz⟩
 ·exact .inl h
 ·refine .inr ⟨b, o, n, c, hv, hb, fun j hj => ?_⟩
  obtain ⟨z, hz⟩ := hz j hj
  refine ⟨z, ?_⟩
  simp only [World.cell?, hk b hb] at hz ⊢
  exact hz
theorem Tape.keep {w w' : World} {tb k : Nat} (h : Tape w tb k) (hk : ∀ b, b ≤ tb → w'.heap[b]? = w.heap[b]?) : Tape w' tb k := by
 obtain ⟨lv, hh, hi⟩ := h
 exact ⟨lv, (hk tb (Nat.le_refl _)).trans hh, hi.keep fun b hb => hk b (Nat.le_of_lt hb)⟩
theorem Tape.below {w w' : World} {tb k : Nat} (h : Tape w tb k) (hb : Below w.heap.size w w') : Tape w' tb k := h.keep fun b hb' => hb.block b (Nat.lt_of_le_of_lt hb' h.lt)
set_option maxHeartbeats 400000 in
set_option maxRecDepth 100000 in
theorem fold_any (z : Int) (n : Nat) (w : World) (h1 : 1 ≤ n) (h2 : n ≤ 1000000) :
  Calls Tryz.prog 49 #[.int .i64 z, .int .i64 n] w fun e w' => ∃ r : Nat, r < n ∧ e = .returned (.int .i64 r) ∧ w' = w := by
 by_cases hn : n = 1
 ·subst hn
  go_enter Tryz.func49, Tryz.ntmps49
  go_wp2
  go_ret
  exact ⟨0, by omega, rfl, rfl⟩
 ·have hn1 : ¬ ((n : Int) ≤ 1) := by omega
  have hn0 : ¬ ((n : Int) = 0) := by omega
  obtain ⟨q, hq⟩ : ∃ q : Int, z.tmod n = q := ⟨_, rfl⟩
  have hqa : -(n : Int) < q ∧ q < n := by
   rw [← hq]
   have h := Int.tmod_lt_of_pos z (show (0 : Int) < n by omega)
   have h' := Int.tmod_lt_of_pos (-z) (show (0 : Int) < n by omega)
   rw [Int.neg_tmod] at h'
   exact ⟨by omega, h⟩
  have hwr : IntKind.i64.wrap q = q := by rw [IntKind.wrap_i64]; omega
  by_cases hq0 : q < 0
  ·have hwr2 : IntKind.i64.wrap (q + n) = q + n := by rw [IntKind.wrap_i64]; omega
   go_enter Tryz.func49, Tryz.ntmps49
   go_wp2
   obtain ⟨r, hr⟩ : ∃ r : Nat, q + n = r := ⟨(q + n).toNat, by omega⟩
   rw [hr]
   go_ret
   exact ⟨r, by omega, rfl, rfl⟩
  ·go_enter Tryz.func49, Tryz.ntmps49
   go_wp2
   obtain ⟨r, hr⟩ : ∃ r : Nat, q = r := ⟨q.toNat, by omega⟩
   rw [hr]
   go_ret
   exact ⟨r, by omega, rfl, rfl⟩
theorem tape_put {w : World} {tb k k' : Nat} (h : Tape w tb k) (n : Nat) : Tape ((w.drewN n).setCell ⟨tb, 1, none⟩ (.int .i64 (k' : Int))) tb k' := by
 obtain ⟨lv, hh, hi⟩ := h
 refine ⟨lv, ?_, hi.keep fun b hb => Below.heap_setCell _ _ _ _ (Nat.ne_of_lt hb)⟩
 simp [World.setCell, Array.getElem?_modify, hh]
set_option maxHeartbeats 1000000 in
set_option maxRecDepth 100000 in
/-- Next: a number below n; the tape moves on. -/
theorem next_any (tb k n : Nat) (w : World) (h1 : 1 ≤ n) (h2 : n ≤ 1000000) (hk : k ≤ 1000000) (h : Tape w tb k) :
  Calls Tryz.prog 14 #[.pointer (some ⟨tb, 0, none⟩), .int .i64 n] w fun e w' => ∃ r : Nat, r < n ∧ e = .returned (.int .i64 r) ∧ Tape w' tb (k + 1) ∧ w.grownBy w' (some tb) ∧ w'.heap.size = w.heap.size := by
 have hput := fun m => tape_put (k' := k + 1) h m
 obtain ⟨lv, hh, hi⟩ := h
 have c0 : w.cell? ⟨tb, 0, none⟩ = some lv := by rw [cell_of_row _ _ _ _ _ _ hh]; rfl
 have c1 : w.cell? ⟨tb, 1, none⟩ = some (.int .i64 (k : Int)) := by rw [cell_of_row _ _ _ _ _ _ hh]; rfl
 have f1 : w.frozen? ⟨tb, 1, none⟩ = false := by simp [World.frozen?, hh]
 have hw7 : IntKind.i64.wrap ((k : Int) * 7) = (k : Int) * 7 := by rw [IntKind.wrap_i64]; omega
 have hwk : IntKind.i64.wrap ((k : Int) + 1) = ((k + 1 : Nat) : Int) := by rw [IntKind.wrap_i64]; omega
 obtain ⟨q, hq⟩ : ∃ q : Int, ((k : Int) * 7).tmod 11 = q := ⟨_, rfl⟩
 have hwq : IntKind.i64.wrap q = q := by
  have := Int.tmod_lt_of_pos ((k : Int) * 7) (show (0 : Int) < 11 by omega)
  have h' := Int.tmod_nonneg 11 (show (0 : Int) ≤ (k : Int) * 7 by omega)
  rw [IntKind.wrap_i64]
  omega
 have hfold := fun z W => fold_any z n W h1 h2
 have HF := Lib.hid hfold
 have HP := Lib.hid hput
 clear hput hfold
 have hfin : ∀ m, Tape ((w.drewN m).setCell ⟨tb, 1, none⟩ (.int .i64 ((k + 1 : Nat) : Int))) tb (k + 1) ∧ w.grownBy ((w.drewN m).setCell ⟨tb, 1, none⟩ (.int .i64 ((k + 1 : Nat) : Int))) (some tb) ∧
   ((w.drewN m).setCell ⟨tb, 1, none⟩ (.int .i64 ((k + 1 : Nat) : Int))).heap.size = w.heap.size := fun m =>
  ⟨HP.out m, ⟨rfl, rfl, rfl, by simp [World.setCell], fun j _ hj => Below.heap_setCell _ _ _ _ fun e => hj (by rw [e])⟩, by simp [World.setCell]⟩
 have HR := Lib.hid hfin
 clear hfin HP
 rcases hi with ⟨a, c, rfl⟩ | ⟨b, o, m, c, rfl, hb, hz⟩
 ·have hk0 : ¬ ((k : Int) < ((0 : Nat) : Int)) := by omega
  clear hh
  go_enter Tryz.func14, Tryz.ntmps14
  go_wp2
  go_quiet (fail)
  go_wp2_with fail
  refine (HF.out _ _).mono ?_
  rintro e W ⟨r, hr, rfl, rfl⟩
  go_wp2
  go_ret
  exact ⟨r, hr, rfl, HR.out _⟩
 ·by_cases hkm : k < m
  ·have hkm' : (k : Int) < (m : Int) := by omega
   obtain ⟨z, hz⟩ := hz k hkm
   clear hh
   go_enter Tryz.func14, Tryz.ntmps14
   go_wp2
   go_quiet (fail)
   go_wp2
   go_quiet (fail)
   go_wp2_with fail
   refine (HF.out _ _).mono ?_
   rintro e W ⟨r, hr, rfl, rfl⟩
   go_wp2
   go_ret
   exact ⟨r, hr, rfl, HR.out _⟩
  ·have hkm' : ¬ ((k : Int) < (m : Int)) := by omega
   clear hh hz
   go_enter Tryz.func14, Tryz.ntmps14
   go_wp2
   go_quiet (fail)
   go_wp2_with fail
   refine (HF.out _ _).mono ?_
   rintro e W ⟨r, hr, rfl, rfl⟩
   go_wp2
   go_ret
   exact ⟨r, hr, rfl, HR.out _⟩
set_option maxHeartbeats 1000000 in
set_option maxRecDepth 100000 in
/-- One: one of these texts. -/
theorem one_any (tb k sb c : Nat) (xs : List ByteArray) (w : World) (h1 : 1 ≤ xs.length) (h2 : xs.length ≤ 1000000) (hk : k ≤ 1000000) (h : Tape w tb k) (hne : sb ≠ tb)
  (hx : ∀ (j : Nat) x, xs[j]? = some x → w.cell? ⟨sb, j, none⟩ = some (.string x)) :
  Calls Tryz.prog 20 #[.pointer (some ⟨tb, 0, none⟩), .slice (some ⟨sb, 0, none⟩) xs.length c] w fun e w' =>
   ∃ x ∈ xs, e = .returned (.string x) ∧ Tape w' tb (k + 1) ∧ w.grownBy w' (some tb) ∧ w'.heap.size = w.heap.size := by
 have HN := Lib.hid (next_any tb k xs.length w h1 h2 hk h)
 have HX := Lib.hid hx
 have hz : ¬ ((xs.length : Int) = 0) := by omega
 clear hx
 go_enter Tryz.func20, Tryz.ntmps20
 go_wp2_with fail
 refine HN.out.mono ?_
 rintro e W ⟨r, hr, rfl, hT, hg, hs⟩
 obtain ⟨x, hx⟩ : ∃ x, xs[r]? = some x := ⟨_, List.getElem?_eq_getElem hr⟩
 have hc := hg.cell (HX.out r x hx) (fun e => hne (Option.some.inj e))
 have hri : (r : Int) < (xs.length : Int) := by omega
 have HT := Lib.hid hT
 have HG := Lib.hid hg
 have Hx := Lib.hid hx
 clear hT hg hx h
 go_wp2
 go_ret
 exact ⟨x, List.mem_of_getElem? Hx.out, rfl, HT.out, HG.out, hs⟩
end Go.Proofs.YtldcediiobfhiaaGreatDoor.De
