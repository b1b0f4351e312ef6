/- Rows of attributes in memory; the tape of drawn numbers: Fold, Next, One. -/
import Derived.Test.YthblgkjmjfhkdaaKDeP1
import Derived.WalkKit
import Derived.WalkSpells
import Derived.WalkLawsBesides
import Derived.Lib.Walk
import Derived.Lib.Hide
import Derived.Lib.SliceRun
import Derived.Laws.Strings3
import Derived.Laws.Cover1
import Derived.Laws.ResultCell
import Derived.Laws.CopyOwn
import Derived.Deep.LoopGhost
import Derived.Deep.WholeRow
import Derived.Deep.QuietTactic
import Derived.BigQuiet
import Derived.Deep.AppendLies
import Derived.Maps.AppendAt
import Derived.Maps.Range
import Derived.OwnWalk
namespace Go.Proofs.Ythblgkjmjfhkdaa.De
open Go.RowKit

/-- The cells of a list of attributes. -/
def cellsP (l : List Atr) : List Value := l.flatMap fun x => [.string x.1, .string x.2]
theorem cellsP_len (l : List Atr) : (cellsP l).length = l.length * 2 := by
  induction l with
  | nil => rfl
  | cons x l ih =>
    unfold cellsP at ih ⊢
    rw [List.flatMap_cons, List.length_append, ih, List.length_cons]
    simp only [List.length_cons, List.length_nil]
    omega
theorem cellsP_append (a b : List Atr) : cellsP (a ++ b) = cellsP a ++ cellsP b := List.flatMap_append
theorem cellsP_get : ∀ (l : List Atr) (j : Nat) (x : Atr), l[j]? = some x → (cellsP l)[j * 2]? = some (.string x.1) ∧ (cellsP l)[j * 2 + 1]? = some (.string x.2)
  | [], j, x, h => by simp at h
  | y :: l, 0, x, h => by
    simp only [List.getElem?_cons_zero, Option.some.injEq] at h
    subst h
    exact ⟨rfl, rfl⟩
  | y :: l, j + 1, x, h => by
    have := cellsP_get l j x (by simpa using h)
    have e : cellsP (y :: l) = Value.string y.1 :: Value.string y.2 :: cellsP l := rfl
    rw [e, show (j + 1) * 2 = (j * 2 + 1) + 1 by omega, List.getElem?_cons_succ, List.getElem?_cons_succ, List.getElem?_cons_succ, List.getElem?_cons_succ]
    exact this
theorem cellsP_one (l : List Atr) : ∀ v ∈ cellsP l, v.oneCell' = true := fun v hv => by
  obtain ⟨x, _, h⟩ := List.mem_flatMap.1 hv
  simp only [List.mem_cons, List.not_mem_nil, or_false] at h
  rcases h with rfl | rfl <;> rfl

/-- The cells from (b, o) on hold these attributes. -/
def Row (w : World) (b o : Nat) (l : List Atr) : Prop := ∀ (j : Nat) x, l[j]? = some x → w.cell? ⟨b, o + j * 2, none⟩ = some (.string x.1) ∧ w.cell? ⟨b, o + j * 2 + 1, none⟩ = some (.string x.2)
/-- The slice v holds these attributes. -/
def Has (w : World) (v : Value) (l : List Atr) : Prop := (∃ a c, v = .slice a 0 c ∧ l = []) ∨ ∃ b o c, v = .slice (some ⟨b, o, none⟩) l.length c ∧ b < w.heap.size ∧ Row w b o l
def Owns (w : World) (B : Nat) (v : Value) (l : List Atr) : Prop := w.ownsRow B 50 2 v l.length (cellsP l)

theorem block_lt {w : World} {g : Nat} {o : Obj} (h : w.heap[g]? = some o) : g < w.heap.size := (Array.getElem?_eq_some_iff.1 h).1
theorem cell_of_row (w : World) (b o : Nat) (c : Array Value) (t : TypeId) (f : Nat × Nat) (h : w.heap[b]? = some (.cells c t f)) : w.cell? ⟨b, o, none⟩ = c[o]? := by simp [World.cell?, h]

theorem Owns.form {w : World} {B : Nat} {v : Value} {l : List Atr} (h : Owns w B v l) : (v = .slice none 0 0 ∧ l = []) ∨ ∃ g cap, v = .slice (some ⟨g, 0, none⟩) l.length cap ∧ B ≤ g ∧ g < w.heap.size ∧ l.length ≤ cap ∧ Row w g 0 l := by
  rcases h.2 with ⟨hv, hn⟩ | ⟨g, cap, cur, hv, hB, hh, hc, _, _, ht⟩
  · exact .inl ⟨hv, List.length_eq_zero_iff.1 hn⟩
  · refine .inr ⟨g, cap, hv, hB, block_lt hh, hc, fun j x hx => ?_⟩
    have hj : j < l.length := (List.getElem?_eq_some_iff.1 hx).1
    have := cellsP_get l j x hx
    rw [← ht] at this
    rw [cell_of_row _ _ _ _ _ _ hh, cell_of_row _ _ _ _ _ _ hh]
    simp only [List.getElem?_take, Nat.zero_add] at this ⊢
    rw [if_pos (by omega), if_pos (by omega)] at this
    simpa using this
theorem Owns.has {w : World} {B : Nat} {v : Value} {l : List Atr} (h : Owns w B v l) : Has w v l := by
  rcases h.form with ⟨hv, hl⟩ | ⟨g, cap, hv, _, hg, _, hr⟩
  · exact .inl ⟨none, 0, hv, hl⟩
  · exact .inr ⟨g, 0, cap, hv, hg, hr⟩
theorem Row.keep {w w' : World} {b o : Nat} {l : List Atr} (h : Row w b o l) (hb : w'.heap[b]? = w.heap[b]?) : Row w' b o l := fun j x hx => by
  have := h j x hx
  simp only [World.cell?, hb] at this ⊢
  exact this
theorem Has.keep {w w' : World} {v : Value} {l : List Atr} (h : Has w v l) (hs : w.heap.size ≤ w'.heap.size) (hk : ∀ b, b < w.heap.size → v.ownBlock = some b → w'.heap[b]? = w.heap[b]?) : Has w' v l := by
  rcases h with h | ⟨b, o, c, rfl, hb, hr⟩
  · exact .inl h
  · exact .inr ⟨b, o, c, rfl, Nat.lt_of_lt_of_le hb hs, hr.keep (hk b hb rfl)⟩
theorem Has.below {w w' : World} {v : Value} {l : List Atr} (h : Has w v l) (hb : Below w.heap.size w w') : Has w' v l := h.keep hb.size fun k hk _ => hb.block k hk
theorem Has.grown {w w' : World} {v : Value} {l : List Atr} {r : Option Nat} (h : Has w v l) (hg : w.grownBy w' r) (hr : ∀ b, v.ownBlock = some b → r ≠ some b) : Has w' v l :=
  h.keep hg.size fun k hk hv => hg.block k hk fun e => hr k hv e.symm
theorem Owns.keep {w w' : World} {B : Nat} {v : Value} {l : List Atr} (h : Owns w B v l) (hk : ∀ b, b < w.heap.size → v.ownBlock = some b → w'.heap[b]? = w.heap[b]?) : Owns w' B v l := by
  refine ⟨h.1, ?_⟩
  rcases h.2 with hn | ⟨g, cap, cur, hv, hB, hh, rest⟩
  · exact .inl hn
  · exact .inr ⟨g, cap, cur, hv, hB, (hk g (block_lt hh) (by rw [hv]; rfl)).trans hh, rest⟩
theorem Owns.below {w w' : World} {B : Nat} {v : Value} {l : List Atr} (h : Owns w B v l) (hb : Below w.heap.size w w') : Owns w' B v l := h.keep fun k hk _ => hb.block k hk
theorem Owns.mono {w : World} {B B' : Nat} {v : Value} {l : List Atr} (h : Owns w B v l) (hB : B' ≤ B) : Owns w B' v l := by
  refine ⟨h.1, ?_⟩
  rcases h.2 with hn | ⟨g, cap, cur, hv, hg, rest⟩
  · exact .inl hn
  · exact .inr ⟨g, cap, cur, hv, Nat.le_trans hB hg, rest⟩

/-- The numbers of a tape: a slice of integers in blocks below tb. -/
def Ints (w : World) (tb : Nat) (lv : Value) : Prop := (∃ a c, lv = .slice a 0 c) ∨ ∃ b o n c, lv = .slice (some ⟨b, o, none⟩) n c ∧ b < tb ∧ ∀ j, j < n → ∃ z, w.cell? ⟨b, o + j, none⟩ = some (.int .i64 z)
/-- A tape at its place k. -/
def Tape (w : World) (tb : Nat) (k : Nat) : Prop := ∃ lv, w.heap[tb]? = some (.cells #[lv, .int .i64 (k : Int)] 31 (0, 0)) ∧ Ints w tb lv

theorem Tape.lt {w : World} {tb k : Nat} (h : Tape w tb k) : tb < w.heap.size := by
  obtain ⟨lv, hh, _⟩ := h
  exact block_lt hh
theorem Ints.keep {w w' : World} {tb : Nat} {lv : Value} (h : Ints w tb lv) (hk : ∀ b, b < tb → w'.heap[b]? = w.heap[b]?) : Ints w' tb lv := by
  rcases h with h | ⟨b, o, n, c, hv, hb, hz⟩
  · exact .inl h
  · refine .inr ⟨b, o, n, c, hv, hb, fun j hj => ?_⟩
    obtain ⟨z, hz⟩ := hz j hj
    refine ⟨z, ?_⟩
    simp only [World.cell?, hk b hb] at hz ⊢
    exact hz
theorem Tape.keep {w w' : World} {tb k : Nat} (h : Tape w tb k) (hk : ∀ b, b ≤ tb → w'.heap[b]? = w.heap[b]?) : Tape w' tb k := by
  obtain ⟨lv, hh, hi⟩ := h
  exact ⟨lv, (hk tb (Nat.le_refl _)).trans hh, hi.keep fun b hb => hk b (Nat.le_of_lt hb)⟩
theorem Tape.below {w w' : World} {tb k : Nat} (h : Tape w tb k) (hb : Below w.heap.size w w') : Tape w' tb k := h.keep fun b hb' => hb.block b (Nat.lt_of_le_of_lt hb' h.lt)

end Go.Proofs.Ythblgkjmjfhkdaa.De
