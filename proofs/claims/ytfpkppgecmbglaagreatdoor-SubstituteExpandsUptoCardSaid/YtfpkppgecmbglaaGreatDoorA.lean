/- What stays; the tape of drawn numbers. -/
import Derived.Test.YtfpkppgecmbglaaGreatDoorProg
import Derived.Test.YtfpkppgecmbglaaGreatDoorT5
import Derived.WalkKit
import Derived.WalkSpells
import Derived.WalkLawsBesides
import Derived.Lib.Walk
import Derived.Lib.Strings
import Derived.Lib.Hide
import Derived.Lib.SliceRun
import Derived.Laws.Strings3
import Derived.Laws.Cover1
import Derived.Laws.ResultCell
import Derived.Laws.CopyOwn
import Derived.Deep.LoopGhost
import Derived.Deep.WholeRow
import Derived.Deep.QuietTactic
import Derived.BigQuiet
import Derived.Deep.AppendLies
import Derived.Maps.AppendAt
import Derived.Maps.Range
import Derived.OwnWalk
import Derived.Deep.MidRow
namespace Go.Proofs.YtfpkppgecmbglaaGreatDoor
open Go.RowKit

theorem block_lt {w : World} {g : Nat} {o : Obj} (h : w.heap[g]? = some o) : g < w.heap.size := (Array.getElem?_eq_some_iff.1 h).1
theorem cell_of_row (w : World) (b o : Nat) (c : Array Value) (t : TypeId) (f : Nat × Nat) (h : w.heap[b]? = some (.cells c t f)) : w.cell? ⟨b, o, none⟩ = c[o]? := by simp [World.cell?, h]


/-- What stays: all but the blocks of a list; the heap only grows. -/
structure Kp (s : List Nat) (w w' : World) : Prop where
  os : w'.os = w.os
  tape : w'.tape = w.tape
  output : w'.output = w.output
  size : w.heap.size ≤ w'.heap.size
  block : ∀ k, k < w.heap.size → k ∉ s → w'.heap[k]? = w.heap[k]?
theorem Kp.refl (s : List Nat) (w : World) : Kp s w w := ⟨rfl, rfl, rfl, Nat.le_refl _, fun _ _ _ => rfl⟩
theorem Kp.trans {s : List Nat} {a b c : World} (h : Kp s a b) (g : Kp s b c) : Kp s a c :=
  ⟨g.os.trans h.os, g.tape.trans h.tape, g.output.trans h.output, Nat.le_trans h.size g.size, fun k hk hs => (g.block k (Nat.lt_of_lt_of_le hk h.size) hs).trans (h.block k hk hs)⟩
theorem Kp.mono {s t : List Nat} {a b : World} (h : Kp s a b) (hs : ∀ x ∈ s, x ∈ t) : Kp t a b := ⟨h.os, h.tape, h.output, h.size, fun k hk hn => h.block k hk fun e => hn (hs k e)⟩
theorem Kp.drew {s : List Nat} {a b : World} (h : Kp s a b) (n : Nat) : Kp s a (b.drewN n) := ⟨h.os, h.tape, h.output, h.size, h.block⟩
theorem Kp.alloc {s : List Nat} {a b : World} (h : Kp s a b) (o : Obj) : Kp s a (b.alloc o) := by
  have hb := (Below.refl b.heap.size b).alloc (Nat.le_refl _) o
  exact h.trans ⟨hb.os, hb.tape, hb.output, hb.size, fun k hk _ => hb.block k hk⟩
theorem Kp.setRow {s : List Nat} {a b : World} (h : Kp s a b) {g : Nat} (hg : g ∈ s ∨ a.heap.size ≤ g) (cs : Array Value) : Kp s a (b.setRow g cs) :=
  ⟨h.os, h.tape, h.output, Nat.le_trans h.size (by simp [World.setRow]), fun k hk hn => (setRow_other b g k cs (by rintro rfl; rcases hg with hg | hg; exact hn hg; omega)).trans (h.block k hk hn)⟩
theorem Kp.setCell {s : List Nat} {a b : World} (h : Kp s a b) {p : Addr} (hg : p.block ∈ s ∨ a.heap.size ≤ p.block) (v : Value) : Kp s a (b.setCell p v) :=
  ⟨h.os, h.tape, h.output, Nat.le_trans h.size (by simp [World.setCell]), fun k hk hn => (Below.heap_setCell _ _ _ _ (by rintro rfl; rcases hg with hg | hg; exact hn hg; omega)).trans (h.block k hk hn)⟩
theorem Kp.below {s : List Nat} {a b : World} {B : Nat} (h : Kp s a b) (hB : B ≤ a.heap.size) (hs : ∀ x ∈ s, B ≤ x) : Below B a b :=
  ⟨h.os, h.tape, h.output, h.size, fun k hk => h.block k (Nat.lt_of_lt_of_le hk hB) fun e => by have := hs k e; omega⟩
theorem Kp.of_grown {w w' : World} {r : Nat} (h : w.grownBy w' (some r)) : Kp [r] w w' := ⟨h.os, h.tape, h.output, h.size, fun k hk hn => h.block k hk (by simpa using hn)⟩
theorem Kp.of_grown_none {w w' : World} (h : w.grownBy w' none) : Kp [] w w' := ⟨h.os, h.tape, h.output, h.size, fun k hk _ => h.block k hk (by simp)⟩
theorem Kp.of_below {w w' : World} (h : Below w.heap.size w w') : Kp [] w w' := ⟨h.os, h.tape, h.output, h.size, fun k hk _ => h.block k hk⟩
theorem Kp.up {s t : List Nat} {a b c : World} (h : Kp s a b) (g : Kp t b c) (ht : ∀ x ∈ t, x ∈ s ∨ a.heap.size ≤ x) : Kp s a c :=
  ⟨g.os.trans h.os, g.tape.trans h.tape, g.output.trans h.output, Nat.le_trans h.size g.size, fun k hk hs => (g.block k (Nat.lt_of_lt_of_le hk h.size) fun e => by rcases ht k e with q | q; exact hs q; omega).trans (h.block k hk hs)⟩

/-- The numbers of a tape: a slice of integers in blocks below tb. -/
def Ints (w : World) (tb : Nat) (lv : Value) : Prop := (∃ a c, lv = .slice a 0 c) ∨ ∃ b o n c, lv = .slice (some ⟨b, o, none⟩) n c ∧ b < tb ∧ ∀ j, j < n → ∃ z, w.cell? ⟨b, o + j, none⟩ = some (.int .i64 z)
/-- A tape at its place k. -/
def Tape (w : World) (tb : Nat) (k : Nat) : Prop := ∃ lv, w.heap[tb]? = some (.cells #[lv, .int .i64 (k : Int)] 31 (0, 0)) ∧ Ints w tb lv

theorem Tape.lt {w : World} {tb k : Nat} (h : Tape w tb k) : tb < w.heap.size := by
  obtain ⟨lv, hh, _⟩ := h
  exact block_lt hh
theorem Ints.keep {w w' : World} {tb : Nat} {lv : Value} (h : Ints w tb lv) (hk : ∀ b, b < tb → w'.heap[b]? = w.heap[b]?) : Ints w' tb lv := by
  rcases h with h | ⟨b, o, n, c, hv, hb, hz⟩
  · exact .inl h
  · refine .inr ⟨b, o, n, c, hv, hb, fun j hj => ?_⟩
    obtain ⟨z, hz⟩ := hz j hj
    refine ⟨z, ?_⟩
    simp only [World.cell?, hk b hb] at hz ⊢
    exact hz
theorem Tape.keep {w w' : World} {tb k : Nat} (h : Tape w tb k) (hk : ∀ b, b ≤ tb → w'.heap[b]? = w.heap[b]?) : Tape w' tb k := by
  obtain ⟨lv, hh, hi⟩ := h
  exact ⟨lv, (hk tb (Nat.le_refl _)).trans hh, hi.keep fun b hb => hk b (Nat.le_of_lt hb)⟩
theorem Tape.below {w w' : World} {tb k : Nat} (h : Tape w tb k) (hb : Below w.heap.size w w') : Tape w' tb k := h.keep fun b hb' => hb.block b (Nat.lt_of_le_of_lt hb' h.lt)

set_option maxHeartbeats 400000 in
set_option maxRecDepth 100000 in
theorem fold_any (z : Int) (n : Nat) (w : World) (h1 : 1 ≤ n) (h2 : n ≤ 1000000) :
    Calls Tryz.prog 24 #[.int .i64 z, .int .i64 n] w fun e w' => ∃ r : Nat, r < n ∧ e = .returned (.int .i64 r) ∧ w' = w := by
  by_cases hn : n = 1
  · subst hn
    go_enter Tryz.func24, Tryz.ntmps24
    go_wp2
    go_ret
    exact ⟨0, by omega, rfl, rfl⟩
  · have hn1 : ¬ ((n : Int) ≤ 1) := by omega
    have hn0 : ¬ ((n : Int) = 0) := by omega
    obtain ⟨q, hq⟩ : ∃ q : Int, z.tmod n = q := ⟨_, rfl⟩
    have hqa : -(n : Int) < q ∧ q < n := by
      rw [← hq]
      have h := Int.tmod_lt_of_pos z (show (0 : Int) < n by omega)
      have h' := Int.tmod_lt_of_pos (-z) (show (0 : Int) < n by omega)
      rw [Int.neg_tmod] at h'
      exact ⟨by omega, h⟩
    have hwr : IntKind.i64.wrap q = q := by rw [IntKind.wrap_i64]; omega
    by_cases hq0 : q < 0
    · have hwr2 : IntKind.i64.wrap (q + n) = q + n := by rw [IntKind.wrap_i64]; omega
      go_enter Tryz.func24, Tryz.ntmps24
      go_wp2
      obtain ⟨r, hr⟩ : ∃ r : Nat, q + n = r := ⟨(q + n).toNat, by omega⟩
      rw [hr]
      go_ret
      exact ⟨r, by omega, rfl, rfl⟩
    · go_enter Tryz.func24, Tryz.ntmps24
      go_wp2
      obtain ⟨r, hr⟩ : ∃ r : Nat, q = r := ⟨q.toNat, by omega⟩
      rw [hr]
      go_ret
      exact ⟨r, by omega, rfl, rfl⟩

theorem tape_put {w : World} {tb k k' : Nat} (h : Tape w tb k) (n : Nat) : Tape ((w.drewN n).setCell ⟨tb, 1, none⟩ (.int .i64 (k' : Int))) tb k' := by
  obtain ⟨lv, hh, hi⟩ := h
  refine ⟨lv, ?_, hi.keep fun b hb => Below.heap_setCell _ _ _ _ (Nat.ne_of_lt hb)⟩
  simp [World.setCell, Array.getElem?_modify, hh]

set_option maxHeartbeats 1000000 in
set_option maxRecDepth 100000 in
/-- Next: a number below n; the tape moves on. -/
theorem next_any (tb k n : Nat) (w : World) (h1 : 1 ≤ n) (h2 : n ≤ 1000000) (hk : k ≤ 1000000) (h : Tape w tb k) :
    Calls Tryz.prog 27 #[.pointer (some ⟨tb, 0, none⟩), .int .i64 n] w fun e w' => ∃ r : Nat, r < n ∧ e = .returned (.int .i64 r) ∧ Tape w' tb (k + 1) ∧ w.grownBy w' (some tb) ∧ w'.heap.size = w.heap.size := by
  have hput := fun m => tape_put (k' := k + 1) h m
  obtain ⟨lv, hh, hi⟩ := h
  have c0 : w.cell? ⟨tb, 0, none⟩ = some lv := by rw [cell_of_row _ _ _ _ _ _ hh]; rfl
  have c1 : w.cell? ⟨tb, 1, none⟩ = some (.int .i64 (k : Int)) := by rw [cell_of_row _ _ _ _ _ _ hh]; rfl
  have f1 : w.frozen? ⟨tb, 1, none⟩ = false := by simp [World.frozen?, hh]
  have hw7 : IntKind.i64.wrap ((k : Int) * 7) = (k : Int) * 7 := by rw [IntKind.wrap_i64]; omega
  have hwk : IntKind.i64.wrap ((k : Int) + 1) = ((k + 1 : Nat) : Int) := by rw [IntKind.wrap_i64]; omega
  obtain ⟨q, hq⟩ : ∃ q : Int, ((k : Int) * 7).tmod 11 = q := ⟨_, rfl⟩
  have hwq : IntKind.i64.wrap q = q := by
    have := Int.tmod_lt_of_pos ((k : Int) * 7) (show (0 : Int) < 11 by omega)
    have h' := Int.tmod_nonneg 11 (show (0 : Int) ≤ (k : Int) * 7 by omega)
    rw [IntKind.wrap_i64]
    omega
  have hfold := fun z W => fold_any z n W h1 h2
  have HF := Lib.hid hfold
  have HP := Lib.hid hput
  clear hput hfold
  have hfin : ∀ m, Tape ((w.drewN m).setCell ⟨tb, 1, none⟩ (.int .i64 ((k + 1 : Nat) : Int))) tb (k + 1) ∧ w.grownBy ((w.drewN m).setCell ⟨tb, 1, none⟩ (.int .i64 ((k + 1 : Nat) : Int))) (some tb) ∧
      ((w.drewN m).setCell ⟨tb, 1, none⟩ (.int .i64 ((k + 1 : Nat) : Int))).heap.size = w.heap.size := fun m =>
    ⟨HP.out m, ⟨rfl, rfl, rfl, by simp [World.setCell], fun j _ hj => Below.heap_setCell _ _ _ _ fun e => hj (by rw [e])⟩, by simp [World.setCell]⟩
  have HR := Lib.hid hfin
  clear hfin HP
  rcases hi with ⟨a, c, rfl⟩ | ⟨b, o, m, c, rfl, hb, hz⟩
  · have hk0 : ¬ ((k : Int) < ((0 : Nat) : Int)) := by omega
    clear hh
    go_enter Tryz.func27, Tryz.ntmps27
    go_wp2
    go_quiet (fail)
    go_wp2_with fail
    refine (HF.out _ _).mono ?_
    rintro e W ⟨r, hr, rfl, rfl⟩
    go_wp2
    go_ret
    exact ⟨r, hr, rfl, HR.out _⟩
  · by_cases hkm : k < m
    · have hkm' : (k : Int) < (m : Int) := by omega
      obtain ⟨z, hz⟩ := hz k hkm
      clear hh
      go_enter Tryz.func27, Tryz.ntmps27
      go_wp2
      go_quiet (fail)
      go_wp2
      go_quiet (fail)
      go_wp2_with fail
      refine (HF.out _ _).mono ?_
      rintro e W ⟨r, hr, rfl, rfl⟩
      go_wp2
      go_ret
      exact ⟨r, hr, rfl, HR.out _⟩
    · have hkm' : ¬ ((k : Int) < (m : Int)) := by omega
      clear hh hz
      go_enter Tryz.func27, Tryz.ntmps27
      go_wp2
      go_quiet (fail)
      go_wp2_with fail
      refine (HF.out _ _).mono ?_
      rintro e W ⟨r, hr, rfl, rfl⟩
      go_wp2
      go_ret
      exact ⟨r, hr, rfl, HR.out _⟩

end Go.Proofs.YtfpkppgecmbglaaGreatDoor
