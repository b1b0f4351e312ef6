/- Rows of attributes in memory; the tape of drawn numbers: Fold, Next, One. -/
import Derived.Test.YthblgkjmjfhkdaaKDeP1
import Derived.WalkKit
import Derived.WalkSpells
import Derived.WalkLawsBesides
import Derived.Lib.Walk
import Derived.Lib.Hide
import Derived.Lib.SliceRun
import Derived.Laws.Strings3
import Derived.Laws.Cover1
import Derived.Laws.ResultCell
import Derived.Laws.CopyOwn
import Derived.Deep.LoopGhost
import Derived.Deep.WholeRow
import Derived.Deep.QuietTactic
import Derived.BigQuiet
import Derived.Deep.AppendLies
import Derived.Maps.AppendAt
import Derived.Maps.Range
import Derived.OwnWalk
namespace Go.Proofs.Ythblgkjmjfhkdaa.De
open Go.RowKit

/-- The cells of a list of attributes. -/
def cellsP (l : List Atr) : List Value := l.flatMap fun x => [.string x.1, .string x.2]
theorem cellsP_len (l : List Atr) : (cellsP l).length = l.length * 2 := by
  induction l with
  | nil => rfl
  | cons x l ih =>
    unfold cellsP at ih ⊢
    rw [List.flatMap_cons, List.length_append, ih, List.length_cons]
    simp only [List.length_cons, List.length_nil]
    omega
theorem cellsP_append (a b : List Atr) : cellsP (a ++ b) = cellsP a ++ cellsP b := List.flatMap_append
theorem cellsP_get : ∀ (l : List Atr) (j : Nat) (x : Atr), l[j]? = some x → (cellsP l)[j * 2]? = some (.string x.1) ∧ (cellsP l)[j * 2 + 1]? = some (.string x.2)
  | [], j, x, h => by simp at h
  | y :: l, 0, x, h => by
    simp only [List.getElem?_cons_zero, Option.some.injEq] at h
    subst h
    exact ⟨rfl, rfl⟩
  | y :: l, j + 1, x, h => by
    have := cellsP_get l j x (by simpa using h)
    have e : cellsP (y :: l) = Value.string y.1 :: Value.string y.2 :: cellsP l := rfl
    rw [e, show (j + 1) * 2 = (j * 2 + 1) + 1 by omega, List.getElem?_cons_succ, List.getElem?_cons_succ, List.getElem?_cons_succ, List.getElem?_cons_succ]
    exact this
theorem cellsP_one (l : List Atr) : ∀ v ∈ cellsP l, v.oneCell' = true := fun v hv => by
  obtain ⟨x, _, h⟩ := List.mem_flatMap.1 hv
  simp only [List.mem_cons, List.not_mem_nil, or_false] at h
  rcases h with rfl | rfl <;> rfl

/-- The cells from (b, o) on hold these attributes. -/
def Row (w : World) (b o : Nat) (l : List Atr) : Prop := ∀ (j : Nat) x, l[j]? = some x → w.cell? ⟨b, o + j * 2, none⟩ = some (.string x.1) ∧ w.cell? ⟨b, o + j * 2 + 1, none⟩ = some (.string x.2)
/-- The slice v holds these attributes. -/
def Has (w : World) (v : Value) (l : List Atr) : Prop := (∃ a c, v = .slice a 0 c ∧ l = []) ∨ ∃ b o c, v = .slice (some ⟨b, o, none⟩) l.length c ∧ b < w.heap.size ∧ Row w b o l
def Owns (w : World) (B : Nat) (v : Value) (l : List Atr) : Prop := w.ownsRow B 50 2 v l.length (cellsP l)

theorem block_lt {w : World} {g : Nat} {o : Obj} (h : w.heap[g]? = some o) : g < w.heap.size := (Array.getElem?_eq_some_iff.1 h).1
theorem cell_of_row (w : World) (b o : Nat) (c : Array Value) (t : TypeId) (f : Nat × Nat) (h : w.heap[b]? = some (.cells c t f)) : w.cell? ⟨b, o, none⟩ = c[o]? := by simp [World.cell?, h]

theorem Owns.form {w : World} {B : Nat} {v : Value} {l : List Atr} (h : Owns w B v l) : (v = .slice none 0 0 ∧ l = []) ∨ ∃ g cap, v = .slice (some ⟨g, 0, none⟩) l.length cap ∧ B ≤ g ∧ g < w.heap.size ∧ l.length ≤ cap ∧ Row w g 0 l := by
  rcases h.2 with ⟨hv, hn⟩ | ⟨g, cap, cur, hv, hB, hh, hc, _, _, ht⟩
  · exact .inl ⟨hv, List.length_eq_zero_iff.1 hn⟩
  · refine .inr ⟨g, cap, hv, hB, block_lt hh, hc, fun j x hx => ?_⟩
    have hj : j < l.length := (List.getElem?_eq_some_iff.1 hx).1
    have := cellsP_get l j x hx
    rw [← ht] at this
    rw [cell_of_row _ _ _ _ _ _ hh, cell_of_row _ _ _ _ _ _ hh]
    simp only [List.getElem?_take, Nat.zero_add] at this ⊢
    rw [if_pos (by omega), if_pos (by omega)] at this
    simpa using this
theorem Owns.has {w : World} {B : Nat} {v : Value} {l : List Atr} (h : Owns w B v l) : Has w v l := by
  rcases h.form with ⟨hv, hl⟩ | ⟨g, cap, hv, _, hg, _, hr⟩
  · exact .inl ⟨none, 0, hv, hl⟩
  · exact .inr ⟨g, 0, cap, hv, hg, hr⟩
theorem Row.keep {w w' : World} {b o : Nat} {l : List Atr} (h : Row w b o l) (hb : w'.heap[b]? = w.heap[b]?) : Row w' b o l := fun j x hx => by
  have := h j x hx
  simp only [World.cell?, hb] at this ⊢
  exact this
theorem Has.keep {w w' : World} {v : Value} {l : List Atr} (h : Has w v l) (hs : w.heap.size ≤ w'.heap.size) (hk : ∀ b, b < w.heap.size → v.ownBlock = some b → w'.heap[b]? = w.heap[b]?) : Has w' v l := by
  rcases h with h | ⟨b, o, c, rfl, hb, hr⟩
  · exact .inl h
  · exact .inr ⟨b, o, c, rfl, Nat.lt_of_lt_of_le hb hs, hr.keep (hk b hb rfl)⟩
theorem Has.below {w w' : World} {v : Value} {l : List Atr} (h : Has w v l) (hb : Below w.heap.size w w') : Has w' v l := h.keep hb.size fun k hk _ => hb.block k hk
theorem Has.grown {w w' : World} {v : Value} {l : List Atr} {r : Option Nat} (h : Has w v l) (hg : w.grownBy w' r) (hr : ∀ b, v.ownBlock = some b → r ≠ some b) : Has w' v l :=
  h.keep hg.size fun k hk hv => hg.block k hk fun e => hr k hv e.symm
theorem Owns.keep {w w' : World} {B : Nat} {v : Value} {l : List Atr} (h : Owns w B v l) (hk : ∀ b, b < w.heap.size → v.ownBlock = some b → w'.heap[b]? = w.heap[b]?) : Owns w' B v l := by
  refine ⟨h.1, ?_⟩
  rcases h.2 with hn | ⟨g, cap, cur, hv, hB, hh, rest⟩
  · exact .inl hn
  · exact .inr ⟨g, cap, cur, hv, hB, (hk g (block_lt hh) (by rw [hv]; rfl)).trans hh, rest⟩
theorem Owns.below {w w' : World} {B : Nat} {v : Value} {l : List Atr} (h : Owns w B v l) (hb : Below w.heap.size w w') : Owns w' B v l := h.keep fun k hk _ => hb.block k hk
theorem Owns.mono {w : World} {B B' : Nat} {v : Value} {l : List Atr} (h : Owns w B v l) (hB : B' ≤ B) : Owns w B' v l := by
  refine ⟨h.1, ?_⟩
  rcases h.2 with hn | ⟨g, cap, cur, hv, hg, rest⟩
  · exact .inl hn
  · exact .inr ⟨g, cap, cur, hv, Nat.le_trans hB hg, rest⟩

/-- The numbers of a tape: a slice of integers in blocks below tb. -/
def Ints (w : World) (tb : Nat) (lv : Value) : Prop := (∃ a c, lv = .slice a 0 c) ∨ ∃ b o n c, lv = .slice (some ⟨b, o, none⟩) n c ∧ b < tb ∧ ∀ j, j < n → ∃ z, w.cell? ⟨b, o + j, none⟩ = some (.int .i64 z)
/-- A tape at its place k. -/
def Tape (w : World) (tb : Nat) (k : Nat) : Prop := ∃ lv, w.heap[tb]? = some (.cells #[lv, .int .i64 (k : Int)] 31 (0, 0)) ∧ Ints w tb lv

theorem Tape.lt {w : World} {tb k : Nat} (h : Tape w tb k) : tb < w.heap.size := by
  obtain ⟨lv, hh, _⟩ := h
  exact block_lt hh
theorem Ints.keep {w w' : World} {tb : Nat} {lv : Value} (h : Ints w tb lv) (hk : ∀ b, b < tb → w'.heap[b]? = w.heap[b]?) : Ints w' tb lv := by
  rcases h with h | ⟨b, o, n, c, hv, hb, hz⟩
  · exact .inl h
  · refine .inr ⟨b, o, n, c, hv, hb, fun j hj => ?_⟩
    obtain ⟨z, hz⟩ := hz j hj
    refine ⟨z, ?_⟩
    simp only [World.cell?, hk b hb] at hz ⊢
    exact hz
theorem Tape.keep {w w' : World} {tb k : Nat} (h : Tape w tb k) (hk : ∀ b, b ≤ tb → w'.heap[b]? = w.heap[b]?) : Tape w' tb k := by
  obtain ⟨lv, hh, hi⟩ := h
  exact ⟨lv, (hk tb (Nat.le_refl _)).trans hh, hi.keep fun b hb => hk b (Nat.le_of_lt hb)⟩
theorem Tape.below {w w' : World} {tb k : Nat} (h : Tape w tb k) (hb : Below w.heap.size w w') : Tape w' tb k := h.keep fun b hb' => hb.block b (Nat.lt_of_le_of_lt hb' h.lt)

set_option maxHeartbeats 400000 in
set_option maxRecDepth 100000 in
theorem fold_any (z : Int) (n : Nat) (w : World) (h1 : 1 ≤ n) (h2 : n ≤ 1000000) :
    Calls Try.prog 46 #[.int .i64 z, .int .i64 n] w fun e w' => ∃ r : Nat, r < n ∧ e = .returned (.int .i64 r) ∧ w' = w := by
  by_cases hn : n = 1
  · subst hn
    go_enter Try.func46, Try.ntmps46
    go_wp2
    go_ret
    exact ⟨0, by omega, rfl, rfl⟩
  · have hn1 : ¬ ((n : Int) ≤ 1) := by omega
    have hn0 : ¬ ((n : Int) = 0) := by omega
    obtain ⟨q, hq⟩ : ∃ q : Int, z.tmod n = q := ⟨_, rfl⟩
    have hqa : -(n : Int) < q ∧ q < n := by
      rw [← hq]
      have h := Int.tmod_lt_of_pos z (show (0 : Int) < n by omega)
      have h' := Int.tmod_lt_of_pos (-z) (show (0 : Int) < n by omega)
      rw [Int.neg_tmod] at h'
      exact ⟨by omega, h⟩
    have hwr : IntKind.i64.wrap q = q := by rw [IntKind.wrap_i64]; omega
    by_cases hq0 : q < 0
    · have hwr2 : IntKind.i64.wrap (q + n) = q + n := by rw [IntKind.wrap_i64]; omega
      go_enter Try.func46, Try.ntmps46
      go_wp2
      obtain ⟨r, hr⟩ : ∃ r : Nat, q + n = r := ⟨(q + n).toNat, by omega⟩
      rw [hr]
      go_ret
      exact ⟨r, by omega, rfl, rfl⟩
    · go_enter Try.func46, Try.ntmps46
      go_wp2
      obtain ⟨r, hr⟩ : ∃ r : Nat, q = r := ⟨q.toNat, by omega⟩
      rw [hr]
      go_ret
      exact ⟨r, by omega, rfl, rfl⟩

theorem tape_put {w : World} {tb k k' : Nat} (h : Tape w tb k) (n : Nat) : Tape ((w.drewN n).setCell ⟨tb, 1, none⟩ (.int .i64 (k' : Int))) tb k' := by
  obtain ⟨lv, hh, hi⟩ := h
  refine ⟨lv, ?_, hi.keep fun b hb => Below.heap_setCell _ _ _ _ (Nat.ne_of_lt hb)⟩
  simp [World.setCell, Array.getElem?_modify, hh]

set_option maxHeartbeats 1000000 in
set_option maxRecDepth 100000 in
/-- Next: a number below n; the tape moves on. -/
theorem next_any (tb k n : Nat) (w : World) (h1 : 1 ≤ n) (h2 : n ≤ 1000000) (hk : k ≤ 1000000) (h : Tape w tb k) :
    Calls Try.prog 23 #[.pointer (some ⟨tb, 0, none⟩), .int .i64 n] w fun e w' => ∃ r : Nat, r < n ∧ e = .returned (.int .i64 r) ∧ Tape w' tb (k + 1) ∧ w.grownBy w' (some tb) ∧ w'.heap.size = w.heap.size := by
  have hput := fun m => tape_put (k' := k + 1) h m
  obtain ⟨lv, hh, hi⟩ := h
  have c0 : w.cell? ⟨tb, 0, none⟩ = some lv := by rw [cell_of_row _ _ _ _ _ _ hh]; rfl
  have c1 : w.cell? ⟨tb, 1, none⟩ = some (.int .i64 (k : Int)) := by rw [cell_of_row _ _ _ _ _ _ hh]; rfl
  have f1 : w.frozen? ⟨tb, 1, none⟩ = false := by simp [World.frozen?, hh]
  have hw7 : IntKind.i64.wrap ((k : Int) * 7) = (k : Int) * 7 := by rw [IntKind.wrap_i64]; omega
  have hwk : IntKind.i64.wrap ((k : Int) + 1) = ((k + 1 : Nat) : Int) := by rw [IntKind.wrap_i64]; omega
  obtain ⟨q, hq⟩ : ∃ q : Int, ((k : Int) * 7).tmod 11 = q := ⟨_, rfl⟩
  have hwq : IntKind.i64.wrap q = q := by
    have := Int.tmod_lt_of_pos ((k : Int) * 7) (show (0 : Int) < 11 by omega)
    have h' := Int.tmod_nonneg 11 (show (0 : Int) ≤ (k : Int) * 7 by omega)
    rw [IntKind.wrap_i64]
    omega
  have hfold := fun z W => fold_any z n W h1 h2
  have HF := Lib.hid hfold
  have HP := Lib.hid hput
  clear hput hfold
  have hfin : ∀ m, Tape ((w.drewN m).setCell ⟨tb, 1, none⟩ (.int .i64 ((k + 1 : Nat) : Int))) tb (k + 1) ∧ w.grownBy ((w.drewN m).setCell ⟨tb, 1, none⟩ (.int .i64 ((k + 1 : Nat) : Int))) (some tb) ∧
      ((w.drewN m).setCell ⟨tb, 1, none⟩ (.int .i64 ((k + 1 : Nat) : Int))).heap.size = w.heap.size := fun m =>
    ⟨HP.out m, ⟨rfl, rfl, rfl, by simp [World.setCell], fun j _ hj => Below.heap_setCell _ _ _ _ fun e => hj (by rw [e])⟩, by simp [World.setCell]⟩
  have HR := Lib.hid hfin
  clear hfin HP
  rcases hi with ⟨a, c, rfl⟩ | ⟨b, o, m, c, rfl, hb, hz⟩
  · have hk0 : ¬ ((k : Int) < ((0 : Nat) : Int)) := by omega
    clear hh
    go_enter Try.func23, Try.ntmps23
    go_wp2
    go_quiet (fail)
    go_wp2_with fail
    refine (HF.out _ _).mono ?_
    rintro e W ⟨r, hr, rfl, rfl⟩
    go_wp2
    go_ret
    exact ⟨r, hr, rfl, HR.out _⟩
  · by_cases hkm : k < m
    · have hkm' : (k : Int) < (m : Int) := by omega
      obtain ⟨z, hz⟩ := hz k hkm
      clear hh
      go_enter Try.func23, Try.ntmps23
      go_wp2
      go_quiet (fail)
      go_wp2
      go_quiet (fail)
      go_wp2_with fail
      refine (HF.out _ _).mono ?_
      rintro e W ⟨r, hr, rfl, rfl⟩
      go_wp2
      go_ret
      exact ⟨r, hr, rfl, HR.out _⟩
    · have hkm' : ¬ ((k : Int) < (m : Int)) := by omega
      clear hh hz
      go_enter Try.func23, Try.ntmps23
      go_wp2
      go_quiet (fail)
      go_wp2_with fail
      refine (HF.out _ _).mono ?_
      rintro e W ⟨r, hr, rfl, rfl⟩
      go_wp2
      go_ret
      exact ⟨r, hr, rfl, HR.out _⟩

set_option maxHeartbeats 1000000 in
set_option maxRecDepth 100000 in
/-- One: one of these texts. -/
theorem one_any (tb k sb c : Nat) (xs : List ByteArray) (w : World) (h1 : 1 ≤ xs.length) (h2 : xs.length ≤ 1000000) (hk : k ≤ 1000000) (h : Tape w tb k) (hne : sb ≠ tb)
    (hx : ∀ (j : Nat) x, xs[j]? = some x → w.cell? ⟨sb, j, none⟩ = some (.string x)) :
    Calls Try.prog 22 #[.pointer (some ⟨tb, 0, none⟩), .slice (some ⟨sb, 0, none⟩) xs.length c] w fun e w' =>
      ∃ x ∈ xs, e = .returned (.string x) ∧ Tape w' tb (k + 1) ∧ w.grownBy w' (some tb) ∧ w'.heap.size = w.heap.size := by
  have HN := Lib.hid (next_any tb k xs.length w h1 h2 hk h)
  have HX := Lib.hid hx
  have hz : ¬ ((xs.length : Int) = 0) := by omega
  clear hx
  go_enter Try.func22, Try.ntmps22
  go_wp2_with fail
  refine HN.out.mono ?_
  rintro e W ⟨r, hr, rfl, hT, hg, hs⟩
  obtain ⟨x, hx⟩ : ∃ x, xs[r]? = some x := ⟨_, List.getElem?_eq_getElem hr⟩
  have hc := hg.cell (HX.out r x hx) (fun e => hne (Option.some.inj e))
  have hri : (r : Int) < (xs.length : Int) := by omega
  have HT := Lib.hid hT
  have HG := Lib.hid hg
  have Hx := Lib.hid hx
  clear hT hg hx h
  go_wp2
  go_ret
  exact ⟨x, List.mem_of_getElem? Hx.out, rfl, HT.out, HG.out, hs⟩
end Go.Proofs.Ythblgkjmjfhkdaa.De
