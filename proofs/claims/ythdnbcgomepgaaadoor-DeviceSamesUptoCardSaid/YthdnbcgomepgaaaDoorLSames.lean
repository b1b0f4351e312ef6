/- DeviceSames: the walk. -/
import Derived.Test.YthdnbcgomepgaaaDoorDe
import Derived.Test.YthdnbcgomepgaaaDoorLNodes
import Derived.Test.YthdnbcgomepgaaaDoorLSets
import Derived.Test.YthdnbcgomepgaaaDoorSp
import Derived.Deep.DeepCutAuto
namespace Go.Proofs.YthdnbcgomepgaaaDoor
open Go.RowKit

theorem keep4 {W2 W W' : World} {A B C D : Nat} {a0 a1 a7 a8 b0 b1 b7 b8 c0 c1 c7 c8 d0 d1 d7 d8 : Int} {a2 a3 a4 a5 a6 b2 b3 b4 b5 b6 c2 c3 c4 c5 c6 d2 d3 d4 d5 d6 : ByteArray} {a9 b9 c9 d9 : Option Addr} {an ac bn bc cn cc dn dc : Nat} (hb : Below W.heap.size W W') (hA : A < W2.heap.size) (hB2 : B < W2.heap.size) (hC : C < W2.heap.size) (hD : D < W2.heap.size) (h : W.cell? ⟨A, 0, none⟩ = some (.int .i64 a0) ∧ W.cell? ⟨A, 1, none⟩ = some (.int .i64 a1) ∧ W.cell? ⟨A, 2, none⟩ = some (.string a2) ∧ W.cell? ⟨A, 3, none⟩ = some (.string a3) ∧ W.cell? ⟨A, 4, none⟩ = some (.string a4) ∧ W.cell? ⟨A, 5, none⟩ = some (.string a5) ∧ W.cell? ⟨A, 6, none⟩ = some (.string a6) ∧ W.cell? ⟨A, 7, none⟩ = some (.int .i64 a7) ∧ W.cell? ⟨A, 8, none⟩ = some (.int .i64 a8) ∧ W.cell? ⟨A, 9, none⟩ = some (.slice a9 an ac) ∧ W.cell? ⟨B, 0, none⟩ = some (.int .i64 b0) ∧ W.cell? ⟨B, 1, none⟩ = some (.int .i64 b1) ∧ W.cell? ⟨B, 2, none⟩ = some (.string b2) ∧ W.cell? ⟨B, 3, none⟩ = some (.string b3) ∧ W.cell? ⟨B, 4, none⟩ = some (.string b4) ∧ W.cell? ⟨B, 5, none⟩ = some (.string b5) ∧ W.cell? ⟨B, 6, none⟩ = some (.string b6) ∧ W.cell? ⟨B, 7, none⟩ = some (.int .i64 b7) ∧ W.cell? ⟨B, 8, none⟩ = some (.int .i64 b8) ∧ W.cell? ⟨B, 9, none⟩ = some (.slice b9 bn bc) ∧ W.cell? ⟨C, 0, none⟩ = some (.int .i64 c0) ∧ W.cell? ⟨C, 1, none⟩ = some (.int .i64 c1) ∧ W.cell? ⟨C, 2, none⟩ = some (.string c2) ∧ W.cell? ⟨C, 3, none⟩ = some (.string c3) ∧ W.cell? ⟨C, 4, none⟩ = some (.string c4) ∧ W.cell? ⟨C, 5, none⟩ = some (.string c5) ∧ W.cell? ⟨C, 6, none⟩ = some (.string c6) ∧ W.cell? ⟨C, 7, none⟩ = some (.int .i64 c7) ∧ W.cell? ⟨C, 8, none⟩ = some (.int .i64 c8) ∧ W.cell? ⟨C, 9, none⟩ = some (.slice c9 cn cc) ∧ W.cell? ⟨D, 0, none⟩ = some (.int .i64 d0) ∧ W.cell? ⟨D, 1, none⟩ = some (.int .i64 d1) ∧ W.cell? ⟨D, 2, none⟩ = some (.string d2) ∧ W.cell? ⟨D, 3, none⟩ = some (.string d3) ∧ W.cell? ⟨D, 4, none⟩ = some (.string d4) ∧ W.cell? ⟨D, 5, none⟩ = some (.string d5) ∧ W.cell? ⟨D, 6, none⟩ = some (.string d6) ∧ W.cell? ⟨D, 7, none⟩ = some (.int .i64 d7) ∧ W.cell? ⟨D, 8, none⟩ = some (.int .i64 d8) ∧ W.cell? ⟨D, 9, none⟩ = some (.slice d9 dn dc) ∧ Below W2.heap.size W2 W) : W'.cell? ⟨A, 0, none⟩ = some (.int .i64 a0) ∧ W'.cell? ⟨A, 1, none⟩ = some (.int .i64 a1) ∧ W'.cell? ⟨A, 2, none⟩ = some (.string a2) ∧ W'.cell? ⟨A, 3, none⟩ = some (.string a3) ∧ W'.cell? ⟨A, 4, none⟩ = some (.string a4) ∧ W'.cell? ⟨A, 5, none⟩ = some (.string a5) ∧ W'.cell? ⟨A, 6, none⟩ = some (.string a6) ∧ W'.cell? ⟨A, 7, none⟩ = some (.int .i64 a7) ∧ W'.cell? ⟨A, 8, none⟩ = some (.int .i64 a8) ∧ W'.cell? ⟨A, 9, none⟩ = some (.slice a9 an ac) ∧ W'.cell? ⟨B, 0, none⟩ = some (.int .i64 b0) ∧ W'.cell? ⟨B, 1, none⟩ = some (.int .i64 b1) ∧ W'.cell? ⟨B, 2, none⟩ = some (.string b2) ∧ W'.cell? ⟨B, 3, none⟩ = some (.string b3) ∧ W'.cell? ⟨B, 4, none⟩ = some (.string b4) ∧ W'.cell? ⟨B, 5, none⟩ = some (.string b5) ∧ W'.cell? ⟨B, 6, none⟩ = some (.string b6) ∧ W'.cell? ⟨B, 7, none⟩ = some (.int .i64 b7) ∧ W'.cell? ⟨B, 8, none⟩ = some (.int .i64 b8) ∧ W'.cell? ⟨B, 9, none⟩ = some (.slice b9 bn bc) ∧ W'.cell? ⟨C, 0, none⟩ = some (.int .i64 c0) ∧ W'.cell? ⟨C, 1, none⟩ = some (.int .i64 c1) ∧ W'.cell? ⟨C, 2, none⟩ = some (.string c2) ∧ W'.cell? ⟨C, 3, none⟩ = some (.string c3) ∧ W'.cell? ⟨C, 4, none⟩ = some (.string c4) ∧ W'.cell? ⟨C, 5, none⟩ = some (.string c5) ∧ W'.cell? ⟨C, 6, none⟩ = some (.string c6) ∧ W'.cell? ⟨C, 7, none⟩ = some (.int .i64 c7) ∧ W'.cell? ⟨C, 8, none⟩ = some (.int .i64 c8) ∧ W'.cell? ⟨C, 9, none⟩ = some (.slice c9 cn cc) ∧ W'.cell? ⟨D, 0, none⟩ = some (.int .i64 d0) ∧ W'.cell? ⟨D, 1, none⟩ = some (.int .i64 d1) ∧ W'.cell? ⟨D, 2, none⟩ = some (.string d2) ∧ W'.cell? ⟨D, 3, none⟩ = some (.string d3) ∧ W'.cell? ⟨D, 4, none⟩ = some (.string d4) ∧ W'.cell? ⟨D, 5, none⟩ = some (.string d5) ∧ W'.cell? ⟨D, 6, none⟩ = some (.string d6) ∧ W'.cell? ⟨D, 7, none⟩ = some (.int .i64 d7) ∧ W'.cell? ⟨D, 8, none⟩ = some (.int .i64 d8) ∧ W'.cell? ⟨D, 9, none⟩ = some (.slice d9 dn dc) ∧ Below W2.heap.size W2 W' := by
  obtain ⟨a0, a1, a2, a3, a4, a5, a6, a7, a8, a9, b0, b1, b2, b3, b4, b5, b6, b7, b8, b9, c0, c1, c2, c3, c4, c5, c6, c7, c8, c9, d0, d1, d2, d3, d4, d5, d6, d7, d8, d9, hB⟩ := h
  have hs := hB.size
  have ka : ∀ i, W'.cell? ⟨A, i, none⟩ = W.cell? ⟨A, i, none⟩ := fun i => hb.cell (p := ⟨A, i, none⟩) (Nat.lt_of_lt_of_le hA hs)
  have kb : ∀ i, W'.cell? ⟨B, i, none⟩ = W.cell? ⟨B, i, none⟩ := fun i => hb.cell (p := ⟨B, i, none⟩) (Nat.lt_of_lt_of_le hB2 hs)
  have kc : ∀ i, W'.cell? ⟨C, i, none⟩ = W.cell? ⟨C, i, none⟩ := fun i => hb.cell (p := ⟨C, i, none⟩) (Nat.lt_of_lt_of_le hC hs)
  have kd : ∀ i, W'.cell? ⟨D, i, none⟩ = W.cell? ⟨D, i, none⟩ := fun i => hb.cell (p := ⟨D, i, none⟩) (Nat.lt_of_lt_of_le hD hs)
  simp only [ka, kb, kc, kd]
  exact ⟨a0, a1, a2, a3, a4, a5, a6, a7, a8, a9, b0, b1, b2, b3, b4, b5, b6, b7, b8, b9, c0, c1, c2, c3, c4, c5, c6, c7, c8, c9, d0, d1, d2, d3, d4, d5, d6, d7, d8, d9, hB.trans (hb.mono hB.size)⟩
theorem last4 {W2 W : World} {A B C D : Nat} {a0 a1 a7 a8 b0 b1 b7 b8 c0 c1 c7 c8 d0 d1 d7 d8 : Int} {a2 a3 a4 a5 a6 b2 b3 b4 b5 b6 c2 c3 c4 c5 c6 d2 d3 d4 d5 d6 : ByteArray} {a9 b9 c9 d9 : Option Addr} {an ac bn bc cn cc dn dc : Nat} (h : W.cell? ⟨A, 0, none⟩ = some (.int .i64 a0) ∧ W.cell? ⟨A, 1, none⟩ = some (.int .i64 a1) ∧ W.cell? ⟨A, 2, none⟩ = some (.string a2) ∧ W.cell? ⟨A, 3, none⟩ = some (.string a3) ∧ W.cell? ⟨A, 4, none⟩ = some (.string a4) ∧ W.cell? ⟨A, 5, none⟩ = some (.string a5) ∧ W.cell? ⟨A, 6, none⟩ = some (.string a6) ∧ W.cell? ⟨A, 7, none⟩ = some (.int .i64 a7) ∧ W.cell? ⟨A, 8, none⟩ = some (.int .i64 a8) ∧ W.cell? ⟨A, 9, none⟩ = some (.slice a9 an ac) ∧ W.cell? ⟨B, 0, none⟩ = some (.int .i64 b0) ∧ W.cell? ⟨B, 1, none⟩ = some (.int .i64 b1) ∧ W.cell? ⟨B, 2, none⟩ = some (.string b2) ∧ W.cell? ⟨B, 3, none⟩ = some (.string b3) ∧ W.cell? ⟨B, 4, none⟩ = some (.string b4) ∧ W.cell? ⟨B, 5, none⟩ = some (.string b5) ∧ W.cell? ⟨B, 6, none⟩ = some (.string b6) ∧ W.cell? ⟨B, 7, none⟩ = some (.int .i64 b7) ∧ W.cell? ⟨B, 8, none⟩ = some (.int .i64 b8) ∧ W.cell? ⟨B, 9, none⟩ = some (.slice b9 bn bc) ∧ W.cell? ⟨C, 0, none⟩ = some (.int .i64 c0) ∧ W.cell? ⟨C, 1, none⟩ = some (.int .i64 c1) ∧ W.cell? ⟨C, 2, none⟩ = some (.string c2) ∧ W.cell? ⟨C, 3, none⟩ = some (.string c3) ∧ W.cell? ⟨C, 4, none⟩ = some (.string c4) ∧ W.cell? ⟨C, 5, none⟩ = some (.string c5) ∧ W.cell? ⟨C, 6, none⟩ = some (.string c6) ∧ W.cell? ⟨C, 7, none⟩ = some (.int .i64 c7) ∧ W.cell? ⟨C, 8, none⟩ = some (.int .i64 c8) ∧ W.cell? ⟨C, 9, none⟩ = some (.slice c9 cn cc) ∧ W.cell? ⟨D, 0, none⟩ = some (.int .i64 d0) ∧ W.cell? ⟨D, 1, none⟩ = some (.int .i64 d1) ∧ W.cell? ⟨D, 2, none⟩ = some (.string d2) ∧ W.cell? ⟨D, 3, none⟩ = some (.string d3) ∧ W.cell? ⟨D, 4, none⟩ = some (.string d4) ∧ W.cell? ⟨D, 5, none⟩ = some (.string d5) ∧ W.cell? ⟨D, 6, none⟩ = some (.string d6) ∧ W.cell? ⟨D, 7, none⟩ = some (.int .i64 d7) ∧ W.cell? ⟨D, 8, none⟩ = some (.int .i64 d8) ∧ W.cell? ⟨D, 9, none⟩ = some (.slice d9 dn dc) ∧ Below W2.heap.size W2 W) : Below W2.heap.size W2 W := h.2.2.2.2.2.2.2.2.2.2.2.2.2.2.2.2.2.2.2.2.2.2.2.2.2.2.2.2.2.2.2.2.2.2.2.2.2.2.2.2
theorem start4 {W2 : World} {A B C D : Nat} {a0 a1 a7 a8 b0 b1 b7 b8 c0 c1 c7 c8 d0 d1 d7 d8 : Int} {a2 a3 a4 a5 a6 b2 b3 b4 b5 b6 c2 c3 c4 c5 c6 d2 d3 d4 d5 d6 : ByteArray} {a9 b9 c9 d9 : Option Addr} {an ac bn bc cn cc dn dc : Nat} (hA : BoxAt W2 A #[.int .i64 a0, .int .i64 a1, .string a2, .string a3, .string a4, .string a5, .string a6, .int .i64 a7, .int .i64 a8, .slice a9 an ac]) (hB2 : BoxAt W2 B #[.int .i64 b0, .int .i64 b1, .string b2, .string b3, .string b4, .string b5, .string b6, .int .i64 b7, .int .i64 b8, .slice b9 bn bc]) (hC : BoxAt W2 C #[.int .i64 c0, .int .i64 c1, .string c2, .string c3, .string c4, .string c5, .string c6, .int .i64 c7, .int .i64 c8, .slice c9 cn cc]) (hD : BoxAt W2 D #[.int .i64 d0, .int .i64 d1, .string d2, .string d3, .string d4, .string d5, .string d6, .int .i64 d7, .int .i64 d8, .slice d9 dn dc]) : W2.drew.cell? ⟨A, 0, none⟩ = some (.int .i64 a0) ∧ W2.drew.cell? ⟨A, 1, none⟩ = some (.int .i64 a1) ∧ W2.drew.cell? ⟨A, 2, none⟩ = some (.string a2) ∧ W2.drew.cell? ⟨A, 3, none⟩ = some (.string a3) ∧ W2.drew.cell? ⟨A, 4, none⟩ = some (.string a4) ∧ W2.drew.cell? ⟨A, 5, none⟩ = some (.string a5) ∧ W2.drew.cell? ⟨A, 6, none⟩ = some (.string a6) ∧ W2.drew.cell? ⟨A, 7, none⟩ = some (.int .i64 a7) ∧ W2.drew.cell? ⟨A, 8, none⟩ = some (.int .i64 a8) ∧ W2.drew.cell? ⟨A, 9, none⟩ = some (.slice a9 an ac) ∧ W2.drew.cell? ⟨B, 0, none⟩ = some (.int .i64 b0) ∧ W2.drew.cell? ⟨B, 1, none⟩ = some (.int .i64 b1) ∧ W2.drew.cell? ⟨B, 2, none⟩ = some (.string b2) ∧ W2.drew.cell? ⟨B, 3, none⟩ = some (.string b3) ∧ W2.drew.cell? ⟨B, 4, none⟩ = some (.string b4) ∧ W2.drew.cell? ⟨B, 5, none⟩ = some (.string b5) ∧ W2.drew.cell? ⟨B, 6, none⟩ = some (.string b6) ∧ W2.drew.cell? ⟨B, 7, none⟩ = some (.int .i64 b7) ∧ W2.drew.cell? ⟨B, 8, none⟩ = some (.int .i64 b8) ∧ W2.drew.cell? ⟨B, 9, none⟩ = some (.slice b9 bn bc) ∧ W2.drew.cell? ⟨C, 0, none⟩ = some (.int .i64 c0) ∧ W2.drew.cell? ⟨C, 1, none⟩ = some (.int .i64 c1) ∧ W2.drew.cell? ⟨C, 2, none⟩ = some (.string c2) ∧ W2.drew.cell? ⟨C, 3, none⟩ = some (.string c3) ∧ W2.drew.cell? ⟨C, 4, none⟩ = some (.string c4) ∧ W2.drew.cell? ⟨C, 5, none⟩ = some (.string c5) ∧ W2.drew.cell? ⟨C, 6, none⟩ = some (.string c6) ∧ W2.drew.cell? ⟨C, 7, none⟩ = some (.int .i64 c7) ∧ W2.drew.cell? ⟨C, 8, none⟩ = some (.int .i64 c8) ∧ W2.drew.cell? ⟨C, 9, none⟩ = some (.slice c9 cn cc) ∧ W2.drew.cell? ⟨D, 0, none⟩ = some (.int .i64 d0) ∧ W2.drew.cell? ⟨D, 1, none⟩ = some (.int .i64 d1) ∧ W2.drew.cell? ⟨D, 2, none⟩ = some (.string d2) ∧ W2.drew.cell? ⟨D, 3, none⟩ = some (.string d3) ∧ W2.drew.cell? ⟨D, 4, none⟩ = some (.string d4) ∧ W2.drew.cell? ⟨D, 5, none⟩ = some (.string d5) ∧ W2.drew.cell? ⟨D, 6, none⟩ = some (.string d6) ∧ W2.drew.cell? ⟨D, 7, none⟩ = some (.int .i64 d7) ∧ W2.drew.cell? ⟨D, 8, none⟩ = some (.int .i64 d8) ∧ W2.drew.cell? ⟨D, 9, none⟩ = some (.slice d9 dn dc) ∧ Below W2.heap.size W2 W2.drew := by
  have ka : ∀ i, W2.drew.cell? ⟨A, i, none⟩ = (#[.int .i64 a0, .int .i64 a1, .string a2, .string a3, .string a4, .string a5, .string a6, .int .i64 a7, .int .i64 a8, .slice a9 an ac] : Array Value)[i]? := fun i => cell_of_row W2.drew A i _ _ _ hA
  have kb : ∀ i, W2.drew.cell? ⟨B, i, none⟩ = (#[.int .i64 b0, .int .i64 b1, .string b2, .string b3, .string b4, .string b5, .string b6, .int .i64 b7, .int .i64 b8, .slice b9 bn bc] : Array Value)[i]? := fun i => cell_of_row W2.drew B i _ _ _ hB2
  have kc : ∀ i, W2.drew.cell? ⟨C, i, none⟩ = (#[.int .i64 c0, .int .i64 c1, .string c2, .string c3, .string c4, .string c5, .string c6, .int .i64 c7, .int .i64 c8, .slice c9 cn cc] : Array Value)[i]? := fun i => cell_of_row W2.drew C i _ _ _ hC
  have kd : ∀ i, W2.drew.cell? ⟨D, i, none⟩ = (#[.int .i64 d0, .int .i64 d1, .string d2, .string d3, .string d4, .string d5, .string d6, .int .i64 d7, .int .i64 d8, .slice d9 dn dc] : Array Value)[i]? := fun i => cell_of_row W2.drew D i _ _ _ hD
  simp only [ka, kb, kc, kd]
  exact ⟨rfl, rfl, rfl, rfl, rfl, rfl, rfl, rfl, rfl, rfl, rfl, rfl, rfl, rfl, rfl, rfl, rfl, rfl, rfl, rfl, rfl, rfl, rfl, rfl, rfl, rfl, rfl, rfl, rfl, rfl, rfl, rfl, rfl, rfl, rfl, rfl, rfl, rfl, rfl, rfl, (Below.refl _ _).drew⟩

theorem tape_set {w : World} {tb k D : Nat} (h : Tape w tb k) (hlt : tb < D) (i : Nat) (v : Value) : Tape (w.setCell ⟨D, i, none⟩ v) tb k := h.keep fun b hb => Below.heap_setCell w ⟨D, i, none⟩ v b (by show b ≠ D; omega)
theorem box_kept {W W' : World} {A : Nat} {c : Array Value} (h : BoxAt W A c) (hg : W.grownBy W' none) : BoxAt W' A c := (hg.block _ (block_lt h) (by simp)).trans h
theorem own_ne_box {W : World} {B D : Nat} {v : Value} {l : List Atr} {c : Array Value} (h : Owns W B v l) (hD : BoxAt W D c) : v.ownBlock ≠ some D := fun e => by
  rcases h.2 with ⟨hv, _⟩ | ⟨g, cap, cur, hv, _, hh, _⟩
  · rw [hv] at e
    cases e
  · rw [hv] at e
    obtain rfl : g = D := Option.some.inj e
    have hD' : W.heap[g]? = some (.cells c 24 (0, 0)) := hD
    rw [hD'] at hh
    cases hh
theorem has_setCell {W : World} {D : Nat} {v : Value} {l : List Atr} (h : Has W v l) (hne : v.ownBlock ≠ some D) (i : Nat) (x : Value) : Has (W.setCell ⟨D, i, none⟩ x) v l :=
  h.keep (by rw [World.size_setCell]; exact Nat.le_refl _) fun b _ hv => Below.heap_setCell W ⟨D, i, none⟩ x b fun e => hne (by rw [hv]; exact congrArg some e)
theorem has_setRow {W : World} {D : Nat} {v : Value} {l : List Atr} (h : Has W v l) (hne : v.ownBlock ≠ some D) (e : Array Value) : Has (W.setRow D e) v l :=
  h.keep (by simp [World.setRow]) fun b _ hv => by
    have hb : b ≠ D := fun e => hne (by rw [hv, e])
    simp [World.setRow, Array.getElem?_modify, Ne.symm hb]
theorem has_lo {W : World} {v : Value} {l : List Atr} {b : Nat} (h : Has W v l) (hb : W.heap.size ≤ b) (hl : l ≠ []) : v.ownBlock ≠ some b := fun e => by
  rcases h with ⟨_, _, _, h0⟩ | ⟨g, o, c, hv, hg, _⟩
  · exact hl h0
  · rw [hv] at e
    have : g = b := Option.some.inj e
    omega
theorem has_nil {W : World} {a : Option Addr} {n c : Nat} (h : Has W (.slice a n c) []) : n = 0 := by
  rcases h with ⟨_, _, hv, _⟩ | ⟨_, _, _, hv, _⟩
  · cases hv
    rfl
  · cases hv
    rfl
theorem has_grown_lo {W W' : World} {v : Value} {l : List Atr} {b : Nat} (h : Has W v l) (hg : W.grownBy W' (some b)) (hb : W.heap.size ≤ b) : Has W' v l :=
  h.keep hg.size fun k hk _ => hg.block k hk fun e => by have := Option.some.inj e; omega

theorem sameD_self (d : Dev) (l : List Atr) : sameD d l d l = true := by
  unfold sameD
  simp

theorem box_grown {W W' : World} {A T : Nat} {c : Array Value} (h : BoxAt W A c) (hg : W.grownBy W' (some T)) (hne : A ≠ T) : BoxAt W' A c := (hg.block _ (block_lt h) (fun e => by have := Option.some.inj e; omega)).trans h
theorem box_setRow {W : World} {A D : Nat} {c e : Array Value} (h : BoxAt W A c) (hne : A ≠ D) : BoxAt (W.setRow D e) A c := by
  have : (W.setRow D e).heap[A]? = W.heap[A]? := by simp [World.setRow, Array.getElem?_modify, Ne.symm hne]
  exact this.trans h
theorem box_alloc {W : World} {A : Nat} {c : Array Value} (h : BoxAt W A c) (o : Obj) : BoxAt (W.alloc o) A c := (Below.heap_alloc W o _ (block_lt h)).trans h
theorem below_new (W : World) (c e : Array Value) : Below W.heap.size W ((W.alloc (.cells c 24)).setRow W.heap.size e) := below_setRow ((Below.refl _ W).alloc (Nat.le_refl _) _) (Nat.le_refl _) _

/-- What stands ahead of the last statement. -/
def Fin7 (w : World) (A B C D : Nat) (cA cB cC : Array Value) (va vb vc : Value) (l m n : List Atr) (wx : World) : Prop :=
  ∃ (d0 d1 d7 d8 : Int) (d2 d3 d4 d5 d6 : ByteArray) (d9 : Option Addr) (dn dc : Nat) (ld : List Atr), BoxAt wx A cA ∧ BoxAt wx B cB ∧ BoxAt wx C cC ∧ BoxAt wx D #[.int .i64 d0, .int .i64 d1, .string d2, .string d3, .string d4, .string d5, .string d6, .int .i64 d7, .int .i64 d8, .slice d9 dn dc] ∧ Has wx va l ∧ Has wx vb m ∧ Has wx vc n ∧ Has wx (.slice d9 dn dc) ld ∧ Below w.heap.size w wx

set_option maxHeartbeats 4000000 in
set_option maxRecDepth 100000 in
theorem deviceSames_walk (d e : Dev) (la : Option Addr) (ln lc : Nat) (w : World) (hm : Max w) {l m : List Atr} (g1 : Has w d.av l ∧ l.length ≤ 9223372036854775807 ∧ Sized d l) (g2 : Has w e.av m ∧ m.length ≤ 9223372036854775807 ∧ Sized e m) (h : Ints w w.heap.size (.slice la ln lc)) :
    Calls Tryd.prog 8 #[devV d, devV e, .slice la ln lc] w (Bel (.bool true) w) := by
  have hv := (zero_of_info (P := Tryd.prog) info24).1
  have hi := (zero_of_info (P := Tryd.prog) info24).2
  obtain ⟨i0, hi0, hz0, hz1, hz2⟩ := info_parts info55
  obtain ⟨hHa, hlen, _⟩ := g1
  obtain ⟨hHb, _, _⟩ := g2
  obtain ⟨a0, a1, a2, a3, a4, a5, a6, a7, a8, av⟩ := d
  obtain ⟨b0, b1, b2, b3, b4, b5, b6, b7, b8, bv⟩ := e
  obtain ⟨a9, ac, hav, _⟩ := hHa.form
  obtain ⟨b9, bn, bc, hbv⟩ := has_slice hHb
  simp only at hav hbv
  subst hav hbv
  unfold devV devC
  simp only
  have HM := Lib.hid hm
  have HI := Lib.hid h
  have HL := Lib.hid hlen
  have hb1 := box_below w (.cells #[.int .i64 a0, .int .i64 a1, .string a2, .string a3, .string a4, .string a5, .string a6, .int .i64 a7, .int .i64 a8, .slice a9 l.length ac] 24)
  have hb2 := hb1.alloc (by simp) (.cells #[.int .i64 b0, .int .i64 b1, .string b2, .string b3, .string b4, .string b5, .string b6, .int .i64 b7, .int .i64 b8, .slice b9 bn bc] 24)
  have hT := tape_new ((w.alloc (.cells #[.int .i64 a0, .int .i64 a1, .string a2, .string a3, .string a4, .string a5, .string a6, .int .i64 a7, .int .i64 a8, .slice a9 l.length ac] 24)).alloc (.cells #[.int .i64 b0, .int .i64 b1, .string b2, .string b3, .string b4, .string b5, .string b6, .int .i64 b7, .int .i64 b8, .slice b9 bn bc] 24)) _ (ints_go h hb2)
  have HSo := Lib.hid (sound_any ((w.alloc (.cells #[.int .i64 a0, .int .i64 a1, .string a2, .string a3, .string a4, .string a5, .string a6, .int .i64 a7, .int .i64 a8, .slice a9 l.length ac] 24)).alloc (.cells #[.int .i64 b0, .int .i64 b1, .string b2, .string b3, .string b4, .string b5, .string b6, .int .i64 b7, .int .i64 b8, .slice b9 bn bc] 24)).heap.size 0 _ (by omega) hT)
  have hsz : ((w.alloc (.cells #[.int .i64 a0, .int .i64 a1, .string a2, .string a3, .string a4, .string a5, .string a6, .int .i64 a7, .int .i64 a8, .slice a9 l.length ac] 24)).alloc (.cells #[.int .i64 b0, .int .i64 b1, .string b2, .string b3, .string b4, .string b5, .string b6, .int .i64 b7, .int .i64 b8, .slice b9 bn bc] 24)).heap.size = w.heap.size + 1 + 1 := by simp
  rw [hsz] at HSo
  have hbA : BoxAt (((w.alloc (.cells #[.int .i64 a0, .int .i64 a1, .string a2, .string a3, .string a4, .string a5, .string a6, .int .i64 a7, .int .i64 a8, .slice a9 l.length ac] 24)).alloc (.cells #[.int .i64 b0, .int .i64 b1, .string b2, .string b3, .string b4, .string b5, .string b6, .int .i64 b7, .int .i64 b8, .slice b9 bn bc] 24)).alloc (.cells #[.slice la ln lc, .int .i64 0] 30)) w.heap.size #[.int .i64 a0, .int .i64 a1, .string a2, .string a3, .string a4, .string a5, .string a6, .int .i64 a7, .int .i64 a8, .slice a9 l.length ac] := box_alloc (box_alloc (heap_last w _) _) _
  have hbB : BoxAt (((w.alloc (.cells #[.int .i64 a0, .int .i64 a1, .string a2, .string a3, .string a4, .string a5, .string a6, .int .i64 a7, .int .i64 a8, .slice a9 l.length ac] 24)).alloc (.cells #[.int .i64 b0, .int .i64 b1, .string b2, .string b3, .string b4, .string b5, .string b6, .int .i64 b7, .int .i64 b8, .slice b9 bn bc] 24)).alloc (.cells #[.slice la ln lc, .int .i64 0] 30)) (w.heap.size + 1) #[.int .i64 b0, .int .i64 b1, .string b2, .string b3, .string b4, .string b5, .string b6, .int .i64 b7, .int .i64 b8, .slice b9 bn bc] := by
    have h1 := heap_last (w.alloc (.cells #[.int .i64 a0, .int .i64 a1, .string a2, .string a3, .string a4, .string a5, .string a6, .int .i64 a7, .int .i64 a8, .slice a9 l.length ac] 24)) (.cells #[.int .i64 b0, .int .i64 b1, .string b2, .string b3, .string b4, .string b5, .string b6, .int .i64 b7, .int .i64 b8, .slice b9 bn bc] 24)
    have h2 : (w.alloc (.cells #[.int .i64 a0, .int .i64 a1, .string a2, .string a3, .string a4, .string a5, .string a6, .int .i64 a7, .int .i64 a8, .slice a9 l.length ac] 24)).heap.size = w.heap.size + 1 := by simp
    rw [h2] at h1
    exact box_alloc h1 _
  have hb3 : Below w.heap.size w (((w.alloc (.cells #[.int .i64 a0, .int .i64 a1, .string a2, .string a3, .string a4, .string a5, .string a6, .int .i64 a7, .int .i64 a8, .slice a9 l.length ac] 24)).alloc (.cells #[.int .i64 b0, .int .i64 b1, .string b2, .string b3, .string b4, .string b5, .string b6, .int .i64 b7, .int .i64 b8, .slice b9 bn bc] 24)).alloc (.cells #[.slice la ln lc, .int .i64 0] 30)) := hb2.alloc hb2.size _
  have hsz3 : (((w.alloc (.cells #[.int .i64 a0, .int .i64 a1, .string a2, .string a3, .string a4, .string a5, .string a6, .int .i64 a7, .int .i64 a8, .slice a9 l.length ac] 24)).alloc (.cells #[.int .i64 b0, .int .i64 b1, .string b2, .string b3, .string b4, .string b5, .string b6, .int .i64 b7, .int .i64 b8, .slice b9 bn bc] 24)).alloc (.cells #[.slice la ln lc, .int .i64 0] 30)).heap.size = w.heap.size + 1 + 1 + 1 := by simp
  have HP := Lib.hid (And.intro hHa (And.intro hHb (And.intro hbA (And.intro hbB (And.intro hb3 hsz3)))))
  clear hHa hHb hb1 hb2 hb3 hT hsz hbA hbB hsz3 h hm hlen
  have HQ0 := Lib.hid (And.intro HP.out.1 HP.out.2.1)
  go_enter Tryd.func8, Tryd.ntmps8
  go_wp2_with fail
  refine HSo.out.mono ?_
  rintro e W1 ⟨d2, l2, k2, rfl, hown, hgood, hlen2, hk2, hT, hg, hs2⟩
  have HL2 := Lib.hid hlen2
  obtain ⟨c9, cn, cc, hav2⟩ := owns_slice hown
  obtain ⟨c0, c1, c2, c3, c4, c5, c6, c7, c8, av2⟩ := d2
  simp only at hav2
  subst hav2
  unfold devV devC
  simp only at hown ⊢
  obtain ⟨hHa, hHb, hbA, hbB, hb3, hsz3⟩ := HP.out
  rw [hsz3] at hown
  have hw1 : w.heap.size + 1 + 1 + 1 ≤ W1.heap.size := by rw [← hsz3]; exact hg.size
  have hA1 : BoxAt W1 w.heap.size #[.int .i64 a0, .int .i64 a1, .string a2, .string a3, .string a4, .string a5, .string a6, .int .i64 a7, .int .i64 a8, .slice a9 l.length ac] := box_grown hbA hg (by omega)
  have hB1 : BoxAt W1 (w.heap.size + 1) #[.int .i64 b0, .int .i64 b1, .string b2, .string b3, .string b4, .string b5, .string b6, .int .i64 b7, .int .i64 b8, .slice b9 bn bc] := box_grown hbB hg (by omega)
  have hb4 : Below w.heap.size w W1 := hb3.grown hg (by omega) fun k hk => by cases hk; omega
  have hn1 := heap_last W1 (.cells zeroC 24)
  have Hn1 := Lib.hid hn1
  have HQ := Lib.hid (And.intro hHa (And.intro hHb (And.intro hA1 (And.intro hB1 (And.intro hb4 (And.intro hown (And.intro hT (And.intro hw1 (And.intro hlen2 hk2)))))))))
  clear hHa hHb hbA hbB hb3 hsz3 hw1 hA1 hB1 hb4 hn1 hown hT hg hs2 hgood hlen2 hk2 HP HSo
  go_upto_region 3 with (refine wpList_store_row rfl 24 _ _ rfl W1.heap.size #[.int .i64 c0, .int .i64 c1, .string c2, .string c3, .string c4, .string c5, .string c6, .int .i64 c7, .int .i64 c8, .slice c9 cn cc] rfl rfl 24 _ Hn1.out hi rfl (by simp [Value.oneCell']) ?_)
  obtain ⟨hHa, hHb, hA1, hB1, hb4, hown, hT, hw1, hlen2, hk2⟩ := HQ.out
  have hbn := below_new W1 zeroC #[.int .i64 c0, .int .i64 c1, .string c2, .string c3, .string c4, .string c5, .string c6, .int .i64 c7, .int .i64 c8, .slice c9 cn cc]
  have hC2 : BoxAt ((W1.alloc (.cells zeroC 24)).setRow W1.heap.size #[.int .i64 c0, .int .i64 c1, .string c2, .string c3, .string c4, .string c5, .string c6, .int .i64 c7, .int .i64 c8, .slice c9 cn cc]) W1.heap.size #[.int .i64 c0, .int .i64 c1, .string c2, .string c3, .string c4, .string c5, .string c6, .int .i64 c7, .int .i64 c8, .slice c9 cn cc] := setRow_heap _ W1.heap.size zeroC _ 24 (0, 0) Hn1.out
  have hA2 : BoxAt ((W1.alloc (.cells zeroC 24)).setRow W1.heap.size #[.int .i64 c0, .int .i64 c1, .string c2, .string c3, .string c4, .string c5, .string c6, .int .i64 c7, .int .i64 c8, .slice c9 cn cc]) w.heap.size #[.int .i64 a0, .int .i64 a1, .string a2, .string a3, .string a4, .string a5, .string a6, .int .i64 a7, .int .i64 a8, .slice a9 l.length ac] := box_setRow (box_alloc hA1 _) (by omega)
  have hB2 : BoxAt ((W1.alloc (.cells zeroC 24)).setRow W1.heap.size #[.int .i64 c0, .int .i64 c1, .string c2, .string c3, .string c4, .string c5, .string c6, .int .i64 c7, .int .i64 c8, .slice c9 cn cc]) (w.heap.size + 1) #[.int .i64 b0, .int .i64 b1, .string b2, .string b3, .string b4, .string b5, .string b6, .int .i64 b7, .int .i64 b8, .slice b9 bn bc] := box_setRow (box_alloc hB1 _) (by omega)
  have hown2 := hown.below hbn
  have hT2 := hT.below hbn
  have hb5 : Below w.heap.size w ((W1.alloc (.cells zeroC 24)).setRow W1.heap.size #[.int .i64 c0, .int .i64 c1, .string c2, .string c3, .string c4, .string c5, .string c6, .int .i64 c7, .int .i64 c8, .slice c9 cn cc]) := hb4.trans (hbn.mono hb4.size)
  have hs2 : ((W1.alloc (.cells zeroC 24)).setRow W1.heap.size #[.int .i64 c0, .int .i64 c1, .string c2, .string c3, .string c4, .string c5, .string c6, .int .i64 c7, .int .i64 c8, .slice c9 cn cc]).heap.size = W1.heap.size + 1 := by simp [World.setRow]
  clear Hn1 HQ hA1 hB1 hb4 hown hT hbn
  generalize ((W1.alloc (.cells zeroC 24)).setRow W1.heap.size #[.int .i64 c0, .int .i64 c1, .string c2, .string c3, .string c4, .string c5, .string c6, .int .i64 c7, .int .i64 c8, .slice c9 cn cc]) = W2 at *
  generalize W1.heap.size = C at *
  clear W1
  have hn2 := heap_last W2 (.cells zeroC 24)
  have HC2 := Lib.hid hC2
  have Hn2 := Lib.hid hn2
  have HQ := Lib.hid (And.intro hHa (And.intro hHb (And.intro hA2 (And.intro hB2 (And.intro hb5 (And.intro hown2 (And.intro hT2 (And.intro hw1 (And.intro hlen2 (And.intro hk2 hs2))))))))))
  clear hHa hHb hA2 hB2 hb5 hown2 hT2 hw1 hlen2 hk2 hs2 hC2 hn2
  go_upto_region 4 with (first
    | (refine wpList_load_row rfl 24 _ rfl C rfl 24 _ _ _ HC2.out Tryd.underlying24 rfl hi ?_)
    | (refine wpList_store_row rfl 24 _ _ rfl W2.heap.size #[.int .i64 c0, .int .i64 c1, .string c2, .string c3, .string c4, .string c5, .string c6, .int .i64 c7, .int .i64 c8, .slice c9 cn cc] rfl rfl 24 _ Hn2.out hi rfl (by simp [Value.oneCell']) ?_))
  obtain ⟨hHa, hHb, hA2, hB2, hb5, hown2, hT2, hw1, hlen2, hk2, hs2⟩ := HQ.out
  have hbn := below_new W2 zeroC #[.int .i64 c0, .int .i64 c1, .string c2, .string c3, .string c4, .string c5, .string c6, .int .i64 c7, .int .i64 c8, .slice c9 cn cc]
  have hD3 : BoxAt ((W2.alloc (.cells zeroC 24)).setRow W2.heap.size #[.int .i64 c0, .int .i64 c1, .string c2, .string c3, .string c4, .string c5, .string c6, .int .i64 c7, .int .i64 c8, .slice c9 cn cc]) W2.heap.size #[.int .i64 c0, .int .i64 c1, .string c2, .string c3, .string c4, .string c5, .string c6, .int .i64 c7, .int .i64 c8, .slice c9 cn cc] := setRow_heap _ W2.heap.size zeroC _ 24 (0, 0) Hn2.out
  have hA3 : BoxAt ((W2.alloc (.cells zeroC 24)).setRow W2.heap.size #[.int .i64 c0, .int .i64 c1, .string c2, .string c3, .string c4, .string c5, .string c6, .int .i64 c7, .int .i64 c8, .slice c9 cn cc]) w.heap.size #[.int .i64 a0, .int .i64 a1, .string a2, .string a3, .string a4, .string a5, .string a6, .int .i64 a7, .int .i64 a8, .slice a9 l.length ac] := box_setRow (box_alloc hA2 _) (by omega)
  have hB3 : BoxAt ((W2.alloc (.cells zeroC 24)).setRow W2.heap.size #[.int .i64 c0, .int .i64 c1, .string c2, .string c3, .string c4, .string c5, .string c6, .int .i64 c7, .int .i64 c8, .slice c9 cn cc]) (w.heap.size + 1) #[.int .i64 b0, .int .i64 b1, .string b2, .string b3, .string b4, .string b5, .string b6, .int .i64 b7, .int .i64 b8, .slice b9 bn bc] := box_setRow (box_alloc hB2 _) (by omega)
  have hC3 : BoxAt ((W2.alloc (.cells zeroC 24)).setRow W2.heap.size #[.int .i64 c0, .int .i64 c1, .string c2, .string c3, .string c4, .string c5, .string c6, .int .i64 c7, .int .i64 c8, .slice c9 cn cc]) C #[.int .i64 c0, .int .i64 c1, .string c2, .string c3, .string c4, .string c5, .string c6, .int .i64 c7, .int .i64 c8, .slice c9 cn cc] := box_setRow (box_alloc HC2.out _) (by omega)
  have hown3 := hown2.below hbn
  have hT3 := hT2.below hbn
  have hb6 : Below w.heap.size w ((W2.alloc (.cells zeroC 24)).setRow W2.heap.size #[.int .i64 c0, .int .i64 c1, .string c2, .string c3, .string c4, .string c5, .string c6, .int .i64 c7, .int .i64 c8, .slice c9 cn cc]) := hb5.trans (hbn.mono hb5.size)
  have hs3 : ((W2.alloc (.cells zeroC 24)).setRow W2.heap.size #[.int .i64 c0, .int .i64 c1, .string c2, .string c3, .string c4, .string c5, .string c6, .int .i64 c7, .int .i64 c8, .slice c9 cn cc]).heap.size = W2.heap.size + 1 := by simp [World.setRow]
  clear Hn2 HQ hA2 hB2 hb5 hown2 hT2 hbn HC2
  generalize ((W2.alloc (.cells zeroC 24)).setRow W2.heap.size #[.int .i64 c0, .int .i64 c1, .string c2, .string c3, .string c4, .string c5, .string c6, .int .i64 c7, .int .i64 c8, .slice c9 cn cc]) = W3 at *
  obtain ⟨D, hD⟩ : ∃ D, W2.heap.size = D := ⟨_, rfl⟩
  rw [hD] at hD3 hs2 hs3 ⊢
  clear hD W2
  have c9' := hC3.cell 9
  have d9' := hD3.cell 9
  have df := hD3.frozen 9
  simp only [List.getElem?_toArray, List.getElem?_cons_zero, List.getElem?_cons_succ] at c9' d9'
  have hAD : w.heap.size ≠ D ∧ w.heap.size + 1 ≠ D ∧ C ≠ D ∧ w.heap.size + 1 + 1 ≠ D := by omega
  have HQ := Lib.hid (And.intro hHa (And.intro hHb (And.intro hA3 (And.intro hB3 (And.intro hC3 (And.intro hD3 (And.intro hb6 (And.intro hown3 (And.intro hT3 (And.intro hw1 (And.intro hlen2 (And.intro hk2 (And.intro hs2 (And.intro hs3 hAD))))))))))))))
  clear hHa hHb hA3 hB3 hC3 hD3 hb6 hT3 hs2 hs3 hw1 hlen2 hk2 hAD
  simp only [Act.put]
  go_cut [18] (fun _ wx => ∃ (x9 : Option Addr) (xn xc : Nat), BoxAt wx w.heap.size #[.int .i64 a0, .int .i64 a1, .string a2, .string a3, .string a4, .string a5, .string a6, .int .i64 a7, .int .i64 a8, .slice a9 l.length ac] ∧ BoxAt wx (w.heap.size + 1) #[.int .i64 b0, .int .i64 b1, .string b2, .string b3, .string b4, .string b5, .string b6, .int .i64 b7, .int .i64 b8, .slice b9 bn bc] ∧ BoxAt wx C #[.int .i64 c0, .int .i64 c1, .string c2, .string c3, .string c4, .string c5, .string c6, .int .i64 c7, .int .i64 c8, .slice c9 cn cc] ∧ BoxAt wx D #[.int .i64 c0, .int .i64 c1, .string c2, .string c3, .string c4, .string c5, .string c6, .int .i64 c7, .int .i64 c8, .slice x9 xn xc] ∧ Has wx (.slice x9 xn xc) l2 ∧ Has wx (.slice c9 cn cc) l2 ∧ Tape wx (w.heap.size + 1 + 1) k2 ∧ Below w.heap.size w wx ∧ (Value.slice x9 xn xc).ownBlock ≠ some (w.heap.size + 1 + 1) ∧ (Value.slice c9 cn cc).ownBlock ≠ some (w.heap.size + 1 + 1) ∧ (Value.slice c9 cn cc).ownBlock ≠ some D)
  case first =>
    obtain ⟨hHa, hHb, hA3, hB3, hC3, hD3, hb6, hown3, hT3, hw1, hlen2, hk2, hs2, hs3, hAD⟩ := HQ.out
    have hDset : ∀ v, (#[.int .i64 c0, .int .i64 c1, .string c2, .string c3, .string c4, .string c5, .string c6, .int .i64 c7, .int .i64 c8, .slice c9 cn cc] : Array Value).setIfInBounds 9 v = #[.int .i64 c0, .int .i64 c1, .string c2, .string c3, .string c4, .string c5, .string c6, .int .i64 c7, .int .i64 c8, v] := fun v => rfl
    rcases hown3.form with ⟨hnil, hl0⟩ | ⟨g, cap, hsl, hBg, hgl, hcap, hrow⟩
    · have hc : c9 = none ∧ cn = 0 ∧ cc = 0 := by simpa using hnil
      obtain ⟨rfl, rfl, rfl⟩ := hc
      have hA := hA3.set_other hAD.1 9 (.slice none 0 0)
      have hB := hB3.set_other hAD.2.1 9 (.slice none 0 0)
      have hC := hC3.set_other hAD.2.2.1 9 (.slice none 0 0)
      have hD := hD3.set 9 (.slice none 0 0)
      rw [hDset] at hD
      have hT := tape_set hT3 (by omega : w.heap.size + 1 + 1 < D) 9 (.slice none 0 0)
      have hb := hb6.setCell (p := ⟨D, 9, none⟩) (by show w.heap.size ≤ D; omega) (.slice none 0 0)
      have HF := Lib.hid (And.intro hA (And.intro hB (And.intro hC (And.intro hD (And.intro hT (And.intro hb hl0))))))
      clear hHa hHb hA3 hB3 hC3 hD3 hb6 hown3 hT3 hw1 hlen2 hk2 hs2 hs3 hAD hDset hA hB hC hD hT hb hl0 HQ
      go_wp2
      go_meet
      obtain ⟨hA, hB, hC, hD, hT, hb, hl0⟩ := HF.out
      exact ⟨none, 0, 0, hA, hB, hC, hD, .inl ⟨_, _, rfl, hl0⟩, .inl ⟨_, _, rfl, hl0⟩, hT, hb, (fun e => by cases e), (fun e => by cases e), (fun e => by cases e)⟩
    · obtain ⟨rfl, rfl, rfl⟩ : c9 = some ⟨g, 0, none⟩ ∧ cn = l2.length ∧ cc = cap := by simpa using hsl
      have Hsrc := Lib.hid (row_cells hrow)
      have HD3 := Lib.hid hD3
      have HDset := Lib.hid hDset
      clear hHa hHb hA3 hB3 hC3 hD3 hb6 hown3 hT3 hw1 hk2 hs2 hs3 hAD hDset hBg hgl hcap hrow
      go_wp2_with (at_builtin; refine wpList_append_own _ rfl _ _ 22 rfl W3.heap.size 55 i0 _ 2 32 Tryd.underlying22 hi0 hz0 hz1 hz2 rfl (by decide) _ _ _ rfl (Owns.nil W3 W3.heap.size) ⟨g, 0, none⟩ l2.length cc (cellsP l2) rfl (cellsP_len l2) Hsrc.out (cellsP_one l2) (by unfold maxLen; simp only [List.length_nil]; omega) (by simp only [List.length_nil]; omega) (Nat.le_refl _) ?_; intro v1 w1 hown1 hgrow0 _; have hgrow1 : W3.grownBy w1 none := hgrow0; clear hgrow0; simp only [List.length_nil, Nat.zero_add] at hown1; obtain ⟨x9, xn, xc, hv1⟩ := owns_slice (B := W3.heap.size) (l := l2) hown1; subst hv1; have hDw := box_kept HD3.out hgrow1; have dw9 := hDw.cell 9; have dwf := hDw.frozen 9; simp only [List.getElem?_toArray, List.getElem?_cons_zero, List.getElem?_cons_succ] at dw9; have Hown1 := Lib.hid (show Owns w1 W3.heap.size (.slice x9 xn xc) l2 from hown1); have Hgrow1 := Lib.hid hgrow1; have HDw := Lib.hid hDw; clear hown1 hgrow1 hDw)
      go_meet
      obtain ⟨hHa, hHb, hA3, hB3, hC3, hD3, hb6, hown3, hT3, hw1, hlen2, hk2, hs2, hs3, hAD⟩ := HQ.out
      have hg1 := Hgrow1.out
      have hb7 : Below W3.heap.size W3 w1 := ⟨hg1.os, hg1.tape, hg1.output, hg1.size, fun k hk => hg1.block k hk (by simp)⟩
      have hb7' : Below D W3 w1 := hb7.mono (by omega)
      have hb8 : Below D W3 (w1.setCell ⟨D, 9, none⟩ (.slice x9 xn xc)) := hb7'.setCell (p := ⟨D, 9, none⟩) (Nat.le_refl _) _
      have hD := HDw.out.set 9 (.slice x9 xn xc)
      rw [HDset.out] at hD
      have hHv : Has (w1.setCell ⟨D, 9, none⟩ (.slice x9 xn xc)) (.slice x9 xn xc) l2 := has_setCell Hown1.out.has (own_ne_box Hown1.out HDw.out) 9 _
      have hHc : Has (w1.setCell ⟨D, 9, none⟩ (.slice x9 xn xc)) (.slice (some ⟨g, 0, none⟩) l2.length cc) l2 := has_setCell (hown3.has.below hb7) (own_ne_box hown3 hD3) 9 _
      exact ⟨x9, xn, xc, (box_kept hA3 hg1).set_other hAD.1 9 _, (box_kept hB3 hg1).set_other hAD.2.1 9 _, (box_kept hC3 hg1).set_other hAD.2.2.1 9 _, hD, hHv, hHc, tape_set (hT3.below hb7) (by omega) 9 _, hb6.trans (hb8.mono (by omega)), own_lo Hown1.out (by omega), own_lo hown3 (by omega), own_ne_box hown3 hD3⟩
  case rest =>
  obtain ⟨x9, xn, xc, hA4, hB4, hC4, hD4, hx4, hc4, hT4, hb7, hxT, hcT, hcD⟩ := hcut
  obtain ⟨hHa, hHb, _, _, _, _, _, _, _, hw1, hlen2, hk2, hs2, _, hAD⟩ := HQ.out
  clear HQ c9' d9' df hown3
  have hDl := block_lt hD4
  have Hnx := Lib.hid (next_any (w.heap.size + 1 + 1) k2 2 wc (by omega) (by omega) (by omega) hT4)
  have HQ := Lib.hid (And.intro hHa (And.intro hHb (And.intro hA4 (And.intro hB4 (And.intro hC4 (And.intro hD4 (And.intro hx4 (And.intro hc4 (And.intro hb7 (And.intro hxT (And.intro hcT (And.intro hcD (And.intro hw1 (And.intro hs2 (And.intro hAD hDl)))))))))))))))
  clear hHa hHb hA4 hB4 hC4 hD4 hx4 hc4 hb7 hxT hcT hcD hw1 hs2 hAD hDl hT4 hk2 hlen2
  go_wp2_with fail
  refine Hnx.out.mono ?_
  rintro e W5 ⟨r, hr, rfl, hT5, hg5, hs5⟩
  obtain ⟨hHa, hHb, hA4, hB4, hC4, hD4, hx4, hc4, hb7, hxT, hcT, hcD, hw1, hs2, hAD, hDl⟩ := HQ.out
  have hA5 := box_grown hA4 hg5 (by omega)
  have hB5 := box_grown hB4 hg5 (by omega)
  have hC5 := box_grown hC4 hg5 (by omega)
  have hD5 := box_grown hD4 hg5 (by omega)
  have hb9 : Below w.heap.size w W5 := hb7.grown hg5 hb7.size fun k hk => by cases hk; omega
  have hx5 : Has W5 (.slice x9 xn xc) l2 := hx4.grown hg5 fun b hb e => hxT (by rw [hb, ← e])
  have hc5 : Has W5 (.slice c9 cn cc) l2 := hc4.grown hg5 fun b hb e => hcT (by rw [hb, ← e])
  have HQ5 := Lib.hid (And.intro (hHa.below hb9) (And.intro (hHb.below hb9) (And.intro hA5 (And.intro hB5 (And.intro hC5 (And.intro hD5 (And.intro hx5 (And.intro hc5 (And.intro hb9 (And.intro hcD (And.intro hw1 (And.intro hs2 (And.intro hAD (show D < W5.heap.size by omega))))))))))))))
  clear HQ hHa hHb hA4 hB4 hC4 hD4 hx4 hc4 hb7 hxT hcT hcD hw1 hs2 hAD hDl hA5 hB5 hC5 hD5 hb9 hx5 hc5 hT5 hg5 hs5 Hnx
  go_upto_if 22 with fail
  go_cut [22] (fun _ wx => Fin7 w w.heap.size (w.heap.size + 1) C D #[.int .i64 a0, .int .i64 a1, .string a2, .string a3, .string a4, .string a5, .string a6, .int .i64 a7, .int .i64 a8, .slice a9 l.length ac] #[.int .i64 b0, .int .i64 b1, .string b2, .string b3, .string b4, .string b5, .string b6, .int .i64 b7, .int .i64 b8, .slice b9 bn bc] #[.int .i64 c0, .int .i64 c1, .string c2, .string c3, .string c4, .string c5, .string c6, .int .i64 c7, .int .i64 c8, .slice c9 cn cc] (.slice a9 l.length ac) (.slice b9 bn bc) (.slice c9 cn cc) l m l2 wx)
  case first =>
    by_cases hr0 : r = 0
    · subst hr0
      have hT6 := tape_new W5 _ (ints_go HI.out HQ5.out.2.2.2.2.2.2.2.2.1)
      have HSp := Lib.hid (spoilt_any W5.heap.size 0 _ (by omega) hT6)
      clear hT6
      go_wp2_with fail
      refine HSp.out.mono ?_
      rintro e W6 ⟨d3, l3, rfl, hown6, hl3, hs3, hg6⟩
      obtain ⟨d9, dn, dc, hav3⟩ := owns_slice hown6
      obtain ⟨d0, d1, d2, d3, d4, d5, d6, d7, d8, av3⟩ := d3
      simp only at hav3
      subst hav3
      unfold devV devC
      simp only at hown6 ⊢
      obtain ⟨hHa, hHb, hA5, hB5, hC5, hD5, hx5, hc5, hb9, hcD, hw1, hs2, hAD, hDl⟩ := HQ5.out
      have hCl := block_lt hC5
      have hal : (W5.alloc (.cells #[.slice la ln lc, .int .i64 0] 30)).heap.size = W5.heap.size + 1 := by simp
      have hba : Below W5.heap.size W5 (W5.alloc (.cells #[.slice la ln lc, .int .i64 0] 30)) := (Below.refl _ _).alloc (Nat.le_refl _) _
      have hb10 : Below W5.heap.size W5 W6 := hba.grown hg6 (by omega) fun k hk => by cases hk; exact Nat.le_refl _
      have hA6 : BoxAt W6 w.heap.size #[.int .i64 a0, .int .i64 a1, .string a2, .string a3, .string a4, .string a5, .string a6, .int .i64 a7, .int .i64 a8, .slice a9 l.length ac] := box_grown (box_alloc hA5 _) hg6 (by omega)
      have hB6 : BoxAt W6 (w.heap.size + 1) #[.int .i64 b0, .int .i64 b1, .string b2, .string b3, .string b4, .string b5, .string b6, .int .i64 b7, .int .i64 b8, .slice b9 bn bc] := box_grown (box_alloc hB5 _) hg6 (by omega)
      have hC6 : BoxAt W6 C #[.int .i64 c0, .int .i64 c1, .string c2, .string c3, .string c4, .string c5, .string c6, .int .i64 c7, .int .i64 c8, .slice c9 cn cc] := box_grown (box_alloc hC5 _) hg6 (by omega)
      have hD6 : BoxAt W6 D #[.int .i64 c0, .int .i64 c1, .string c2, .string c3, .string c4, .string c5, .string c6, .int .i64 c7, .int .i64 c8, .slice x9 xn xc] := box_grown (box_alloc hD5 _) hg6 (by omega)
      have hD7 : BoxAt (W6.setRow D #[.int .i64 d0, .int .i64 d1, .string d2, .string d3, .string d4, .string d5, .string d6, .int .i64 d7, .int .i64 d8, .slice d9 dn dc]) D #[.int .i64 d0, .int .i64 d1, .string d2, .string d3, .string d4, .string d5, .string d6, .int .i64 d7, .int .i64 d8, .slice d9 dn dc] := setRow_heap _ D _ _ 24 (0, 0) hD6
      have hc7 : Has (W6.setRow D #[.int .i64 d0, .int .i64 d1, .string d2, .string d3, .string d4, .string d5, .string d6, .int .i64 d7, .int .i64 d8, .slice d9 dn dc]) (.slice c9 cn cc) l2 := has_setRow (hc5.below hb10) hcD _
      have hd7 : Has (W6.setRow D #[.int .i64 d0, .int .i64 d1, .string d2, .string d3, .string d4, .string d5, .string d6, .int .i64 d7, .int .i64 d8, .slice d9 dn dc]) (.slice d9 dn dc) l3 := has_setRow hown6.has (own_ne_box hown6 hD6) _
      have hb11 : Below w.heap.size w (W6.setRow D #[.int .i64 d0, .int .i64 d1, .string d2, .string d3, .string d4, .string d5, .string d6, .int .i64 d7, .int .i64 d8, .slice d9 dn dc]) := below_setRow (hb9.trans (hb10.mono hb9.size)) (by omega) _
      have H6 := Lib.hid hD6
      have HF := Lib.hid (show Fin7 w w.heap.size (w.heap.size + 1) C D #[.int .i64 a0, .int .i64 a1, .string a2, .string a3, .string a4, .string a5, .string a6, .int .i64 a7, .int .i64 a8, .slice a9 l.length ac] #[.int .i64 b0, .int .i64 b1, .string b2, .string b3, .string b4, .string b5, .string b6, .int .i64 b7, .int .i64 b8, .slice b9 bn bc] #[.int .i64 c0, .int .i64 c1, .string c2, .string c3, .string c4, .string c5, .string c6, .int .i64 c7, .int .i64 c8, .slice c9 cn cc] (.slice a9 l.length ac) (.slice b9 bn bc) (.slice c9 cn cc) l m l2 (W6.setRow D #[.int .i64 d0, .int .i64 d1, .string d2, .string d3, .string d4, .string d5, .string d6, .int .i64 d7, .int .i64 d8, .slice d9 dn dc]) from
        ⟨d0, d1, d7, d8, d2, d3, d4, d5, d6, d9, dn, dc, l3, box_setRow hA6 hAD.1, box_setRow hB6 hAD.2.1, box_setRow hC6 hAD.2.2.1, hD7, HQ0.out.1.below hb11, HQ0.out.2.below hb11, hc7, hd7, hb11⟩)
      clear hHa hHb hA5 hB5 hC5 hD5 hx5 hc5 hb9 hcD hw1 hs2 hAD hDl hal hba hb10 hA6 hB6 hC6 hD6 hD7 hc7 hd7 hb11 HQ5 HSp hown6 hg6 hs3 hl3 hCl
      go_wp2_with (refine wpList_store_row rfl 24 _ _ rfl D #[.int .i64 d0, .int .i64 d1, .string d2, .string d3, .string d4, .string d5, .string d6, .int .i64 d7, .int .i64 d8, .slice d9 dn dc] rfl rfl 24 _ H6.out hi rfl (by simp [Value.oneCell']) ?_)
      go_meet
      exact HF.out
    · have hr' : ((r : Int) == 0) = false := by rw [beq_eq_false_iff_ne]; omega
      clear hr0
      go_wp2
      go_meet
      obtain ⟨hHa, hHb, hA5, hB5, hC5, hD5, hx5, hc5, hb9, hcD, hw1, hs2, hAD, hDl⟩ := HQ5.out
      exact ⟨c0, c1, c7, c8, c2, c3, c4, c5, c6, x9, xn, xc, l2, hA5, hB5, hC5, hD5, hHa, hHb, hc5, hx5, hb9⟩
  case rest =>
  obtain ⟨d0, d1, d7, d8, d2, d3, d4, d5, d6, d9, dn, dc, ld, hA, hB, hC, hD, ha, hb, hc, hd, hbel⟩ := hcut
  clear HQ5 hi0 hz0 hz1 hz2 i0
  have HB := Lib.hid hbel
  obtain ⟨A, hAe⟩ : ∃ A, w.heap.size = A := ⟨_, rfl⟩
  rw [hAe] at hA hB ⊢
  obtain ⟨B, hBe⟩ : ∃ B, A + 1 = B := ⟨_, rfl⟩
  rw [hBe] at hB ⊢
  generalize wc = W2 at *
  have hAl := block_lt hA
  have hBl := block_lt hB
  have hCl := block_lt hC
  have hDl := block_lt hD
  have Hst := Lib.hid (start4 hA hB hC hD)
  have HSab := Lib.hid (fun W (h : W.cell? ⟨A, 0, none⟩ = some (.int .i64 a0) ∧ W.cell? ⟨A, 1, none⟩ = some (.int .i64 a1) ∧ W.cell? ⟨A, 2, none⟩ = some (.string a2) ∧ W.cell? ⟨A, 3, none⟩ = some (.string a3) ∧ W.cell? ⟨A, 4, none⟩ = some (.string a4) ∧ W.cell? ⟨A, 5, none⟩ = some (.string a5) ∧ W.cell? ⟨A, 6, none⟩ = some (.string a6) ∧ W.cell? ⟨A, 7, none⟩ = some (.int .i64 a7) ∧ W.cell? ⟨A, 8, none⟩ = some (.int .i64 a8) ∧ W.cell? ⟨A, 9, none⟩ = some (.slice a9 l.length ac) ∧ W.cell? ⟨B, 0, none⟩ = some (.int .i64 b0) ∧ W.cell? ⟨B, 1, none⟩ = some (.int .i64 b1) ∧ W.cell? ⟨B, 2, none⟩ = some (.string b2) ∧ W.cell? ⟨B, 3, none⟩ = some (.string b3) ∧ W.cell? ⟨B, 4, none⟩ = some (.string b4) ∧ W.cell? ⟨B, 5, none⟩ = some (.string b5) ∧ W.cell? ⟨B, 6, none⟩ = some (.string b6) ∧ W.cell? ⟨B, 7, none⟩ = some (.int .i64 b7) ∧ W.cell? ⟨B, 8, none⟩ = some (.int .i64 b8) ∧ W.cell? ⟨B, 9, none⟩ = some (.slice b9 bn bc) ∧ W.cell? ⟨C, 0, none⟩ = some (.int .i64 c0) ∧ W.cell? ⟨C, 1, none⟩ = some (.int .i64 c1) ∧ W.cell? ⟨C, 2, none⟩ = some (.string c2) ∧ W.cell? ⟨C, 3, none⟩ = some (.string c3) ∧ W.cell? ⟨C, 4, none⟩ = some (.string c4) ∧ W.cell? ⟨C, 5, none⟩ = some (.string c5) ∧ W.cell? ⟨C, 6, none⟩ = some (.string c6) ∧ W.cell? ⟨C, 7, none⟩ = some (.int .i64 c7) ∧ W.cell? ⟨C, 8, none⟩ = some (.int .i64 c8) ∧ W.cell? ⟨C, 9, none⟩ = some (.slice c9 cn cc) ∧ W.cell? ⟨D, 0, none⟩ = some (.int .i64 d0) ∧ W.cell? ⟨D, 1, none⟩ = some (.int .i64 d1) ∧ W.cell? ⟨D, 2, none⟩ = some (.string d2) ∧ W.cell? ⟨D, 3, none⟩ = some (.string d3) ∧ W.cell? ⟨D, 4, none⟩ = some (.string d4) ∧ W.cell? ⟨D, 5, none⟩ = some (.string d5) ∧ W.cell? ⟨D, 6, none⟩ = some (.string d6) ∧ W.cell? ⟨D, 7, none⟩ = some (.int .i64 d7) ∧ W.cell? ⟨D, 8, none⟩ = some (.int .i64 d8) ∧ W.cell? ⟨D, 9, none⟩ = some (.slice d9 dn dc) ∧ Below W2.heap.size W2 W) => same_any (⟨a0, a1, a2, a3, a4, a5, a6, a7, a8, .slice a9 l.length ac⟩ : Dev) (⟨b0, b1, b2, b3, b4, b5, b6, b7, b8, .slice b9 bn bc⟩ : Dev) l m W HL.out (ha.below (last4 h)) (hb.below (last4 h)))
  have HTab := Lib.hid (fun W (h : W.cell? ⟨A, 0, none⟩ = some (.int .i64 a0) ∧ W.cell? ⟨A, 1, none⟩ = some (.int .i64 a1) ∧ W.cell? ⟨A, 2, none⟩ = some (.string a2) ∧ W.cell? ⟨A, 3, none⟩ = some (.string a3) ∧ W.cell? ⟨A, 4, none⟩ = some (.string a4) ∧ W.cell? ⟨A, 5, none⟩ = some (.string a5) ∧ W.cell? ⟨A, 6, none⟩ = some (.string a6) ∧ W.cell? ⟨A, 7, none⟩ = some (.int .i64 a7) ∧ W.cell? ⟨A, 8, none⟩ = some (.int .i64 a8) ∧ W.cell? ⟨A, 9, none⟩ = some (.slice a9 l.length ac) ∧ W.cell? ⟨B, 0, none⟩ = some (.int .i64 b0) ∧ W.cell? ⟨B, 1, none⟩ = some (.int .i64 b1) ∧ W.cell? ⟨B, 2, none⟩ = some (.string b2) ∧ W.cell? ⟨B, 3, none⟩ = some (.string b3) ∧ W.cell? ⟨B, 4, none⟩ = some (.string b4) ∧ W.cell? ⟨B, 5, none⟩ = some (.string b5) ∧ W.cell? ⟨B, 6, none⟩ = some (.string b6) ∧ W.cell? ⟨B, 7, none⟩ = some (.int .i64 b7) ∧ W.cell? ⟨B, 8, none⟩ = some (.int .i64 b8) ∧ W.cell? ⟨B, 9, none⟩ = some (.slice b9 bn bc) ∧ W.cell? ⟨C, 0, none⟩ = some (.int .i64 c0) ∧ W.cell? ⟨C, 1, none⟩ = some (.int .i64 c1) ∧ W.cell? ⟨C, 2, none⟩ = some (.string c2) ∧ W.cell? ⟨C, 3, none⟩ = some (.string c3) ∧ W.cell? ⟨C, 4, none⟩ = some (.string c4) ∧ W.cell? ⟨C, 5, none⟩ = some (.string c5) ∧ W.cell? ⟨C, 6, none⟩ = some (.string c6) ∧ W.cell? ⟨C, 7, none⟩ = some (.int .i64 c7) ∧ W.cell? ⟨C, 8, none⟩ = some (.int .i64 c8) ∧ W.cell? ⟨C, 9, none⟩ = some (.slice c9 cn cc) ∧ W.cell? ⟨D, 0, none⟩ = some (.int .i64 d0) ∧ W.cell? ⟨D, 1, none⟩ = some (.int .i64 d1) ∧ W.cell? ⟨D, 2, none⟩ = some (.string d2) ∧ W.cell? ⟨D, 3, none⟩ = some (.string d3) ∧ W.cell? ⟨D, 4, none⟩ = some (.string d4) ∧ W.cell? ⟨D, 5, none⟩ = some (.string d5) ∧ W.cell? ⟨D, 6, none⟩ = some (.string d6) ∧ W.cell? ⟨D, 7, none⟩ = some (.int .i64 d7) ∧ W.cell? ⟨D, 8, none⟩ = some (.int .i64 d8) ∧ W.cell? ⟨D, 9, none⟩ = some (.slice d9 dn dc) ∧ Below W2.heap.size W2 W) => sameDevice_any (⟨a0, a1, a2, a3, a4, a5, a6, a7, a8, .slice a9 l.length ac⟩ : Dev) (⟨b0, b1, b2, b3, b4, b5, b6, b7, b8, .slice b9 bn bc⟩ : Dev) l m W HL.out (ha.below (last4 h)) (hb.below (last4 h)))
  have HScd := Lib.hid (fun W (h : W.cell? ⟨A, 0, none⟩ = some (.int .i64 a0) ∧ W.cell? ⟨A, 1, none⟩ = some (.int .i64 a1) ∧ W.cell? ⟨A, 2, none⟩ = some (.string a2) ∧ W.cell? ⟨A, 3, none⟩ = some (.string a3) ∧ W.cell? ⟨A, 4, none⟩ = some (.string a4) ∧ W.cell? ⟨A, 5, none⟩ = some (.string a5) ∧ W.cell? ⟨A, 6, none⟩ = some (.string a6) ∧ W.cell? ⟨A, 7, none⟩ = some (.int .i64 a7) ∧ W.cell? ⟨A, 8, none⟩ = some (.int .i64 a8) ∧ W.cell? ⟨A, 9, none⟩ = some (.slice a9 l.length ac) ∧ W.cell? ⟨B, 0, none⟩ = some (.int .i64 b0) ∧ W.cell? ⟨B, 1, none⟩ = some (.int .i64 b1) ∧ W.cell? ⟨B, 2, none⟩ = some (.string b2) ∧ W.cell? ⟨B, 3, none⟩ = some (.string b3) ∧ W.cell? ⟨B, 4, none⟩ = some (.string b4) ∧ W.cell? ⟨B, 5, none⟩ = some (.string b5) ∧ W.cell? ⟨B, 6, none⟩ = some (.string b6) ∧ W.cell? ⟨B, 7, none⟩ = some (.int .i64 b7) ∧ W.cell? ⟨B, 8, none⟩ = some (.int .i64 b8) ∧ W.cell? ⟨B, 9, none⟩ = some (.slice b9 bn bc) ∧ W.cell? ⟨C, 0, none⟩ = some (.int .i64 c0) ∧ W.cell? ⟨C, 1, none⟩ = some (.int .i64 c1) ∧ W.cell? ⟨C, 2, none⟩ = some (.string c2) ∧ W.cell? ⟨C, 3, none⟩ = some (.string c3) ∧ W.cell? ⟨C, 4, none⟩ = some (.string c4) ∧ W.cell? ⟨C, 5, none⟩ = some (.string c5) ∧ W.cell? ⟨C, 6, none⟩ = some (.string c6) ∧ W.cell? ⟨C, 7, none⟩ = some (.int .i64 c7) ∧ W.cell? ⟨C, 8, none⟩ = some (.int .i64 c8) ∧ W.cell? ⟨C, 9, none⟩ = some (.slice c9 cn cc) ∧ W.cell? ⟨D, 0, none⟩ = some (.int .i64 d0) ∧ W.cell? ⟨D, 1, none⟩ = some (.int .i64 d1) ∧ W.cell? ⟨D, 2, none⟩ = some (.string d2) ∧ W.cell? ⟨D, 3, none⟩ = some (.string d3) ∧ W.cell? ⟨D, 4, none⟩ = some (.string d4) ∧ W.cell? ⟨D, 5, none⟩ = some (.string d5) ∧ W.cell? ⟨D, 6, none⟩ = some (.string d6) ∧ W.cell? ⟨D, 7, none⟩ = some (.int .i64 d7) ∧ W.cell? ⟨D, 8, none⟩ = some (.int .i64 d8) ∧ W.cell? ⟨D, 9, none⟩ = some (.slice d9 dn dc) ∧ Below W2.heap.size W2 W) => same_any (⟨c0, c1, c2, c3, c4, c5, c6, c7, c8, .slice c9 cn cc⟩ : Dev) (⟨d0, d1, d2, d3, d4, d5, d6, d7, d8, .slice d9 dn dc⟩ : Dev) l2 ld W (by have := HL2.out; omega) (hc.below (last4 h)) (hd.below (last4 h)))
  have HTcd := Lib.hid (fun W (h : W.cell? ⟨A, 0, none⟩ = some (.int .i64 a0) ∧ W.cell? ⟨A, 1, none⟩ = some (.int .i64 a1) ∧ W.cell? ⟨A, 2, none⟩ = some (.string a2) ∧ W.cell? ⟨A, 3, none⟩ = some (.string a3) ∧ W.cell? ⟨A, 4, none⟩ = some (.string a4) ∧ W.cell? ⟨A, 5, none⟩ = some (.string a5) ∧ W.cell? ⟨A, 6, none⟩ = some (.string a6) ∧ W.cell? ⟨A, 7, none⟩ = some (.int .i64 a7) ∧ W.cell? ⟨A, 8, none⟩ = some (.int .i64 a8) ∧ W.cell? ⟨A, 9, none⟩ = some (.slice a9 l.length ac) ∧ W.cell? ⟨B, 0, none⟩ = some (.int .i64 b0) ∧ W.cell? ⟨B, 1, none⟩ = some (.int .i64 b1) ∧ W.cell? ⟨B, 2, none⟩ = some (.string b2) ∧ W.cell? ⟨B, 3, none⟩ = some (.string b3) ∧ W.cell? ⟨B, 4, none⟩ = some (.string b4) ∧ W.cell? ⟨B, 5, none⟩ = some (.string b5) ∧ W.cell? ⟨B, 6, none⟩ = some (.string b6) ∧ W.cell? ⟨B, 7, none⟩ = some (.int .i64 b7) ∧ W.cell? ⟨B, 8, none⟩ = some (.int .i64 b8) ∧ W.cell? ⟨B, 9, none⟩ = some (.slice b9 bn bc) ∧ W.cell? ⟨C, 0, none⟩ = some (.int .i64 c0) ∧ W.cell? ⟨C, 1, none⟩ = some (.int .i64 c1) ∧ W.cell? ⟨C, 2, none⟩ = some (.string c2) ∧ W.cell? ⟨C, 3, none⟩ = some (.string c3) ∧ W.cell? ⟨C, 4, none⟩ = some (.string c4) ∧ W.cell? ⟨C, 5, none⟩ = some (.string c5) ∧ W.cell? ⟨C, 6, none⟩ = some (.string c6) ∧ W.cell? ⟨C, 7, none⟩ = some (.int .i64 c7) ∧ W.cell? ⟨C, 8, none⟩ = some (.int .i64 c8) ∧ W.cell? ⟨C, 9, none⟩ = some (.slice c9 cn cc) ∧ W.cell? ⟨D, 0, none⟩ = some (.int .i64 d0) ∧ W.cell? ⟨D, 1, none⟩ = some (.int .i64 d1) ∧ W.cell? ⟨D, 2, none⟩ = some (.string d2) ∧ W.cell? ⟨D, 3, none⟩ = some (.string d3) ∧ W.cell? ⟨D, 4, none⟩ = some (.string d4) ∧ W.cell? ⟨D, 5, none⟩ = some (.string d5) ∧ W.cell? ⟨D, 6, none⟩ = some (.string d6) ∧ W.cell? ⟨D, 7, none⟩ = some (.int .i64 d7) ∧ W.cell? ⟨D, 8, none⟩ = some (.int .i64 d8) ∧ W.cell? ⟨D, 9, none⟩ = some (.slice d9 dn dc) ∧ Below W2.heap.size W2 W) => sameDevice_any (⟨c0, c1, c2, c3, c4, c5, c6, c7, c8, .slice c9 cn cc⟩ : Dev) (⟨d0, d1, d2, d3, d4, d5, d6, d7, d8, .slice d9 dn dc⟩ : Dev) l2 ld W (by have := HL2.out; omega) (hc.below (last4 h)) (hd.below (last4 h)))
  have HSaa := Lib.hid (fun W (h : W.cell? ⟨A, 0, none⟩ = some (.int .i64 a0) ∧ W.cell? ⟨A, 1, none⟩ = some (.int .i64 a1) ∧ W.cell? ⟨A, 2, none⟩ = some (.string a2) ∧ W.cell? ⟨A, 3, none⟩ = some (.string a3) ∧ W.cell? ⟨A, 4, none⟩ = some (.string a4) ∧ W.cell? ⟨A, 5, none⟩ = some (.string a5) ∧ W.cell? ⟨A, 6, none⟩ = some (.string a6) ∧ W.cell? ⟨A, 7, none⟩ = some (.int .i64 a7) ∧ W.cell? ⟨A, 8, none⟩ = some (.int .i64 a8) ∧ W.cell? ⟨A, 9, none⟩ = some (.slice a9 l.length ac) ∧ W.cell? ⟨B, 0, none⟩ = some (.int .i64 b0) ∧ W.cell? ⟨B, 1, none⟩ = some (.int .i64 b1) ∧ W.cell? ⟨B, 2, none⟩ = some (.string b2) ∧ W.cell? ⟨B, 3, none⟩ = some (.string b3) ∧ W.cell? ⟨B, 4, none⟩ = some (.string b4) ∧ W.cell? ⟨B, 5, none⟩ = some (.string b5) ∧ W.cell? ⟨B, 6, none⟩ = some (.string b6) ∧ W.cell? ⟨B, 7, none⟩ = some (.int .i64 b7) ∧ W.cell? ⟨B, 8, none⟩ = some (.int .i64 b8) ∧ W.cell? ⟨B, 9, none⟩ = some (.slice b9 bn bc) ∧ W.cell? ⟨C, 0, none⟩ = some (.int .i64 c0) ∧ W.cell? ⟨C, 1, none⟩ = some (.int .i64 c1) ∧ W.cell? ⟨C, 2, none⟩ = some (.string c2) ∧ W.cell? ⟨C, 3, none⟩ = some (.string c3) ∧ W.cell? ⟨C, 4, none⟩ = some (.string c4) ∧ W.cell? ⟨C, 5, none⟩ = some (.string c5) ∧ W.cell? ⟨C, 6, none⟩ = some (.string c6) ∧ W.cell? ⟨C, 7, none⟩ = some (.int .i64 c7) ∧ W.cell? ⟨C, 8, none⟩ = some (.int .i64 c8) ∧ W.cell? ⟨C, 9, none⟩ = some (.slice c9 cn cc) ∧ W.cell? ⟨D, 0, none⟩ = some (.int .i64 d0) ∧ W.cell? ⟨D, 1, none⟩ = some (.int .i64 d1) ∧ W.cell? ⟨D, 2, none⟩ = some (.string d2) ∧ W.cell? ⟨D, 3, none⟩ = some (.string d3) ∧ W.cell? ⟨D, 4, none⟩ = some (.string d4) ∧ W.cell? ⟨D, 5, none⟩ = some (.string d5) ∧ W.cell? ⟨D, 6, none⟩ = some (.string d6) ∧ W.cell? ⟨D, 7, none⟩ = some (.int .i64 d7) ∧ W.cell? ⟨D, 8, none⟩ = some (.int .i64 d8) ∧ W.cell? ⟨D, 9, none⟩ = some (.slice d9 dn dc) ∧ Below W2.heap.size W2 W) => same_any (⟨a0, a1, a2, a3, a4, a5, a6, a7, a8, .slice a9 l.length ac⟩ : Dev) (⟨a0, a1, a2, a3, a4, a5, a6, a7, a8, .slice a9 l.length ac⟩ : Dev) l l W HL.out (ha.below (last4 h)) (ha.below (last4 h)))
  have HKn := Lib.hid (fun W (h : W.cell? ⟨A, 0, none⟩ = some (.int .i64 a0) ∧ W.cell? ⟨A, 1, none⟩ = some (.int .i64 a1) ∧ W.cell? ⟨A, 2, none⟩ = some (.string a2) ∧ W.cell? ⟨A, 3, none⟩ = some (.string a3) ∧ W.cell? ⟨A, 4, none⟩ = some (.string a4) ∧ W.cell? ⟨A, 5, none⟩ = some (.string a5) ∧ W.cell? ⟨A, 6, none⟩ = some (.string a6) ∧ W.cell? ⟨A, 7, none⟩ = some (.int .i64 a7) ∧ W.cell? ⟨A, 8, none⟩ = some (.int .i64 a8) ∧ W.cell? ⟨A, 9, none⟩ = some (.slice a9 l.length ac) ∧ W.cell? ⟨B, 0, none⟩ = some (.int .i64 b0) ∧ W.cell? ⟨B, 1, none⟩ = some (.int .i64 b1) ∧ W.cell? ⟨B, 2, none⟩ = some (.string b2) ∧ W.cell? ⟨B, 3, none⟩ = some (.string b3) ∧ W.cell? ⟨B, 4, none⟩ = some (.string b4) ∧ W.cell? ⟨B, 5, none⟩ = some (.string b5) ∧ W.cell? ⟨B, 6, none⟩ = some (.string b6) ∧ W.cell? ⟨B, 7, none⟩ = some (.int .i64 b7) ∧ W.cell? ⟨B, 8, none⟩ = some (.int .i64 b8) ∧ W.cell? ⟨B, 9, none⟩ = some (.slice b9 bn bc) ∧ W.cell? ⟨C, 0, none⟩ = some (.int .i64 c0) ∧ W.cell? ⟨C, 1, none⟩ = some (.int .i64 c1) ∧ W.cell? ⟨C, 2, none⟩ = some (.string c2) ∧ W.cell? ⟨C, 3, none⟩ = some (.string c3) ∧ W.cell? ⟨C, 4, none⟩ = some (.string c4) ∧ W.cell? ⟨C, 5, none⟩ = some (.string c5) ∧ W.cell? ⟨C, 6, none⟩ = some (.string c6) ∧ W.cell? ⟨C, 7, none⟩ = some (.int .i64 c7) ∧ W.cell? ⟨C, 8, none⟩ = some (.int .i64 c8) ∧ W.cell? ⟨C, 9, none⟩ = some (.slice c9 cn cc) ∧ W.cell? ⟨D, 0, none⟩ = some (.int .i64 d0) ∧ W.cell? ⟨D, 1, none⟩ = some (.int .i64 d1) ∧ W.cell? ⟨D, 2, none⟩ = some (.string d2) ∧ W.cell? ⟨D, 3, none⟩ = some (.string d3) ∧ W.cell? ⟨D, 4, none⟩ = some (.string d4) ∧ W.cell? ⟨D, 5, none⟩ = some (.string d5) ∧ W.cell? ⟨D, 6, none⟩ = some (.string d6) ∧ W.cell? ⟨D, 7, none⟩ = some (.int .i64 d7) ∧ W.cell? ⟨D, 8, none⟩ = some (.int .i64 d8) ∧ W.cell? ⟨D, 9, none⟩ = some (.slice d9 dn dc) ∧ Below W2.heap.size W2 W) => known_any W (HM.out.below (hbel.trans ((last4 h).mono hbel.size))))
  rw [sameD_self] at HSaa
  generalize sameD (⟨a0, a1, a2, a3, a4, a5, a6, a7, a8, .slice a9 l.length ac⟩ : Dev) l (⟨b0, b1, b2, b3, b4, b5, b6, b7, b8, .slice b9 bn bc⟩ : Dev) m = E1 at *
  generalize sameD (⟨c0, c1, c2, c3, c4, c5, c6, c7, c8, .slice c9 cn cc⟩ : Dev) l2 (⟨d0, d1, d2, d3, d4, d5, d6, d7, d8, .slice d9 dn dc⟩ : Dev) ld = E2 at *
  unfold devV devC at HSab HTab HScd HTcd HSaa
  simp only at HSab HTab HScd HTcd HSaa
  clear hA hB hC hD ha hb hc hd hbel
  go_wp2_with fail
  go_region_held3 (fun w' => w'.cell? ⟨A, 0, none⟩ = some (.int .i64 a0) ∧ w'.cell? ⟨A, 1, none⟩ = some (.int .i64 a1) ∧ w'.cell? ⟨A, 2, none⟩ = some (.string a2) ∧ w'.cell? ⟨A, 3, none⟩ = some (.string a3) ∧ w'.cell? ⟨A, 4, none⟩ = some (.string a4) ∧ w'.cell? ⟨A, 5, none⟩ = some (.string a5) ∧ w'.cell? ⟨A, 6, none⟩ = some (.string a6) ∧ w'.cell? ⟨A, 7, none⟩ = some (.int .i64 a7) ∧ w'.cell? ⟨A, 8, none⟩ = some (.int .i64 a8) ∧ w'.cell? ⟨A, 9, none⟩ = some (.slice a9 l.length ac) ∧ w'.cell? ⟨B, 0, none⟩ = some (.int .i64 b0) ∧ w'.cell? ⟨B, 1, none⟩ = some (.int .i64 b1) ∧ w'.cell? ⟨B, 2, none⟩ = some (.string b2) ∧ w'.cell? ⟨B, 3, none⟩ = some (.string b3) ∧ w'.cell? ⟨B, 4, none⟩ = some (.string b4) ∧ w'.cell? ⟨B, 5, none⟩ = some (.string b5) ∧ w'.cell? ⟨B, 6, none⟩ = some (.string b6) ∧ w'.cell? ⟨B, 7, none⟩ = some (.int .i64 b7) ∧ w'.cell? ⟨B, 8, none⟩ = some (.int .i64 b8) ∧ w'.cell? ⟨B, 9, none⟩ = some (.slice b9 bn bc) ∧ w'.cell? ⟨C, 0, none⟩ = some (.int .i64 c0) ∧ w'.cell? ⟨C, 1, none⟩ = some (.int .i64 c1) ∧ w'.cell? ⟨C, 2, none⟩ = some (.string c2) ∧ w'.cell? ⟨C, 3, none⟩ = some (.string c3) ∧ w'.cell? ⟨C, 4, none⟩ = some (.string c4) ∧ w'.cell? ⟨C, 5, none⟩ = some (.string c5) ∧ w'.cell? ⟨C, 6, none⟩ = some (.string c6) ∧ w'.cell? ⟨C, 7, none⟩ = some (.int .i64 c7) ∧ w'.cell? ⟨C, 8, none⟩ = some (.int .i64 c8) ∧ w'.cell? ⟨C, 9, none⟩ = some (.slice c9 cn cc) ∧ w'.cell? ⟨D, 0, none⟩ = some (.int .i64 d0) ∧ w'.cell? ⟨D, 1, none⟩ = some (.int .i64 d1) ∧ w'.cell? ⟨D, 2, none⟩ = some (.string d2) ∧ w'.cell? ⟨D, 3, none⟩ = some (.string d3) ∧ w'.cell? ⟨D, 4, none⟩ = some (.string d4) ∧ w'.cell? ⟨D, 5, none⟩ = some (.string d5) ∧ w'.cell? ⟨D, 6, none⟩ = some (.string d6) ∧ w'.cell? ⟨D, 7, none⟩ = some (.int .i64 d7) ∧ w'.cell? ⟨D, 8, none⟩ = some (.int .i64 d8) ∧ w'.cell? ⟨D, 9, none⟩ = some (.slice d9 dn dc) ∧ Below W2.heap.size W2 w') (first | exact Hst.out | exact keep4 (by assumption) hAl hBl hCl hDl (by assumption)) (first
    | (go_at_call 28; refine Calls.mono (by with_reducible exact HSab.out _ (by assumption)) ?_; rintro e W ⟨rfl, hb⟩)
    | (go_at_call 29; refine Calls.mono (by with_reducible exact HTab.out _ (by assumption)) ?_; rintro e W ⟨rfl, hb⟩)
    | (go_at_call 28; refine Calls.mono (by with_reducible exact HScd.out _ (by assumption)) ?_; rintro e W ⟨rfl, hb⟩)
    | (go_at_call 29; refine Calls.mono (by with_reducible exact HTcd.out _ (by assumption)) ?_; rintro e W ⟨rfl, hb⟩)
    | (go_at_call 28; refine Calls.mono (by with_reducible exact HSaa.out _ (by assumption)) ?_; rintro e W ⟨rfl, hb⟩)
    | (go_at_call 10; refine Calls.mono (by with_reducible exact HKn.out _ (by assumption)) ?_; rintro e W ⟨rfl, hb⟩))
  all_goals
    go_wp2
    go_ret
    exact ⟨rfl, HB.out.trans ((last4 (by assumption)).mono HB.out.size)⟩
end Go.Proofs.YthdnbcgomepgaaaDoor
