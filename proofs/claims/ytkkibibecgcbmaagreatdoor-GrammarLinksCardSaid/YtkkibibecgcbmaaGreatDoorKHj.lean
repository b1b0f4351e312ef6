/- slices.Backward over rules: the iterator. -/
import Derived.Test.YtkkibibecgcbmaaGreatDoorKHi
import Derived.RangeFuncNested
import Derived.RangeFuncBound
import Derived.RangeFuncCalls
import Derived.RangeFuncLeaves
import Derived.Shelf.Abstract
import Derived.WalkKit
import Derived.OwnWalkIn
import Derived.TacticsInMore
import Derived.LoopNIn
import Derived.LoopIn
namespace Go.Proofs.YtkkibibecgcbmaaGreatDoor
open Go.RowKit Go.Shelf
attribute [local go_sem] Oper.semAt_some

/-- What a round keeps: what lies below n₀, and block Bs. -/
def Kq (n₀ Bs : Nat) (A B : World) : Prop := A.heap.size ≤ B.heap.size ∧ ∀ k, k < A.heap.size → k < n₀ ∨ k = Bs → B.heap[k]? = A.heap[k]?
theorem Kq.refl (n₀ Bs : Nat) (W : World) : Kq n₀ Bs W W := ⟨Nat.le_refl _, fun _ _ _ => rfl⟩
theorem Kq.trans {n₀ Bs : Nat} {A B C : World} (h : Kq n₀ Bs A B) (g : Kq n₀ Bs B C) : Kq n₀ Bs A C := ⟨Nat.le_trans h.1 g.1, fun k hk hc => (g.2 k (Nat.lt_of_lt_of_le hk h.1) hc).trans (h.2 k hk hc)⟩
theorem Kq.cell {n₀ Bs : Nat} {A B : World} (h : Kq n₀ Bs A B) {p : Addr} (hp : p.block < n₀ ∨ p.block = Bs) {v : Value} (hv : A.cell? p = some v) : B.cell? p = some v := by
  have hl : p.block < A.heap.size := World.block_lt_of_cell? _ _ hv
  simp only [World.cell?, h.2 _ hl hp] at hv ⊢
  exact hv
theorem Kq.of_kp {n₀ Bs : Nat} {A B : World} (h : Kp [] A B) : Kq n₀ Bs A B := ⟨h.size, fun k hk _ => h.block k hk (by simp)⟩
theorem Kq.set {n₀ Bs : Nat} (W : World) {p : Addr} (h1 : n₀ ≤ p.block) (h2 : p.block ≠ Bs) (v : Value) : Kq n₀ Bs W (W.setCell p v) := ⟨by simp [World.setCell], fun k _ hc => Below.heap_setCell _ _ _ _ (by rintro rfl; rcases hc with hc | hc; omega; exact h2 hc)⟩
theorem Kq.putObj {n₀ Bs l : Nat} (W : World) (o : Obj) (h1 : n₀ ≤ l) (h2 : l ≠ Bs) : Kq n₀ Bs W (W.putObj l o) := ⟨by simp, fun k _ hc => World.putObj_heap_other (by rintro rfl; rcases hc with hc | hc; omega; exact h2 hc)⟩
theorem Kq.grown {n₀ Bs M : Nat} {A B : World} (h : A.grownBy B (some M)) (h1 : n₀ ≤ M) (h2 : M ≠ Bs) : Kq n₀ Bs A B := ⟨h.size, fun k hk hc => h.block k hk (by intro e; cases e; rcases hc with hc | hc; omega; exact h2 hc)⟩
/-- A place in the list, with the rule that stands there. -/
def PR (L : List RV) : Type := { p : Nat × RV // L[p.1]? = some p.2 }
def prE {L : List RV} (p : PR L) : Array Value := #[.int .i64 (p.1.1 : Int), .agg #[.string (bs p.1.2.file), .int .i64 p.1.2.line, .slice p.1.2.a p.1.2.n p.1.2.c]]
set_option maxRecDepth 100000 in
set_option maxHeartbeats 2000000 in
theorem back1_in (F : Fence) (n : Nat) (h7 : F.fn 119) (hro : F.round = none) (hn : 1 ≤ n) (l Bs n₀ : Nat) (L : List RV) (hL : L.length ≤ 1000) (a : Option Addr) (c : Nat) (J Jx : List (PR L) → World → Prop)
    (hY : ∀ pre x W, J pre W → pre.length < L.length → YieldAt F (n - 1) Tryz.prog l (prE x) W fun e W' =>
      (e = .returned (.bool true) ∧ J (pre ++ [x]) W' ∧ Kq n₀ Bs W W') ∨ (e = .returned (.bool false) ∧ Jx (pre ++ [x]) W'))
    (W : World) (hBs : W.cell? ⟨Bs, 0, none⟩ = some (.slice a L.length c)) (hrow : L ≠ [] → ∃ b o, a = some ⟨b, o, none⟩ ∧ b < n₀ ∧ rvT.Row W b o L) (h0 : J [] W) :
    CallsIn F n Tryz.prog 119 #[.func (.yield l) #[] #[], .pointer (some ⟨Bs, 0, none⟩)] W fun e W' => (∃ v, e = .returned v) ∧
      ((∃ ys, ys.map (fun p : PR L => p.1) = backL L L.length ∧ J ys W') ∨ (∃ pre, Jx pre W')) := by
  have hw0 : IntKind.i64.wrap ((L.length : Int) - 1) = (L.length : Int) - 1 := by rw [IntKind.wrap_i64]; omega
  refine callsIn_of_wp Tryz.func119 rfl h7 ?_ hro
  simp only [Tryz.ntmps119, List.size_toArray, List.length_cons, List.length_nil, Nat.reduceAdd, Nat.reduceSub, Array.replicate_succ, Array.replicate_zero, List.push_toArray, List.append_toArray, List.nil_append, List.cons_append]
  gi_wp2
  gi_loopw [3] (fun s wr => ∃ (j : Nat) (ys : List (PR L)), j ≤ L.length ∧ s = .int .i64 ((L.length : Int) - 1 - (j : Int)) ∧ ys.map (fun p : PR L => p.1) = backL L j ∧ ys.length = j ∧ J ys wr ∧ Kq n₀ Bs W wr)
    (fun s _ => (intOf s + 1).toNat)
  case atStart => exact ⟨0, [], Nat.zero_le _, by simp, rfl, rfl, h0, Kq.refl _ _ _⟩
  case round =>
    obtain ⟨j, ys, hj, rfl, hys, hyl, hJs, hnx⟩ := hrel
    have hbs := hnx.cell (p := ⟨Bs, 0, none⟩) (.inr rfl) hBs
    by_cases hlt : j < L.length
    · obtain ⟨i, hi⟩ : ∃ i, L.length - 1 - j = i := ⟨_, rfl⟩
      have hii : (L.length : Int) - 1 - (j : Int) = (i : Int) := by omega
      have hil : i < L.length := by omega
      obtain ⟨x, hx⟩ : ∃ x, L[i]? = some x := ⟨_, List.getElem?_eq_getElem hil⟩
      obtain ⟨b, o, rfl, hb, hr⟩ := hrow (by rintro rfl; simp at hlt)
      have hr2 : rvT.Row wr b o L := fun q y hq m v hv => hnx.cell (p := ⟨b, o + q * rvT.sz + m, none⟩) (.inl hb) (hr q y hq m v hv)
      obtain ⟨c0, c1, c2⟩ := rvRow hr2 hx
      obtain ⟨fn, tmps, assign, body, hy, hR⟩ := hY ys ⟨(i, x), hx⟩ wr hJs (by omega)
      unfold prE at hy
      dsimp only at hy
      have hbk : backL L (j + 1) = backL L j ++ [(i, x)] := by rw [backL, hi, hx]
      have hiz : (i : Int) < (L.length : Int) := by omega
      have hi0 : (0 : Int) ≤ (i : Int) := by omega
      have hwi : IntKind.i64.wrap ((i : Int) - 1) = (i : Int) - 1 := by rw [IntKind.wrap_i64]; omega
      rw [hii]
      have hnext : (i : Int) - 1 = (L.length : Int) - 1 - ((j + 1 : Nat) : Int) := by omega
      have HB := Lib.hid hbk
      have HN := Lib.hid hnext
      have HI := Lib.hid hii
      clear hbk hnext hii hi hr2
      gi_wp2
      refine hR.mono ?_
      rintro e W3 (⟨rfl, hJ3, hk3⟩ | ⟨rfl, hJx3⟩)
      · gi_wp2
        go_roundw
        case rel => exact ⟨j + 1, ys ++ [⟨(i, x), hx⟩], by omega, by rw [← HN.out], by rw [List.map_append, hys, HB.out]; rfl, by rw [List.length_append, hyl]; rfl, hJ3, hnx.trans hk3⟩
        case measure => simp [intOf]
      · gi_wp2
        refine bodyPost_ret (results_none rfl _ _ _) rfl ?_
        exact ⟨⟨_, rfl⟩, .inr ⟨_, hJx3⟩⟩
    · obtain rfl : j = L.length := by omega
      have hiz : ¬ (0 : Int) ≤ (L.length : Int) - 1 - (L.length : Int) := by omega
      gi_wp2
      go_end0
      exact ⟨⟨_, rfl⟩, .inl ⟨_, hys, hJs⟩⟩
/-- slices.Backward. -/
theorem back_stops (F : Fence) (n : Nat) (h7 : F.fn 119) (hro : F.round = none) (hn : 1 ≤ n) (Bs n₀ : Nat) (L : List RV) (hL : L.length ≤ 1000) (a : Option Addr) (c : Nat) (w : World) (hc : w.cell? ⟨Bs, 0, none⟩ = some (.slice a L.length c)) (hBn : Bs < w.heap.size) (hn₀ : n₀ ≤ w.heap.size)
    (hrow : L ≠ [] → ∃ b o, a = some ⟨b, o, none⟩ ∧ b < n₀ ∧ rvT.Row w b o L) :
    SeqStopsK F n Tryz.prog 119 #[.pointer (some ⟨Bs, 0, none⟩)] (prE (L := L)) (Kq n₀ Bs) (fun ys => ys.map (fun p : PR L => p.1) = backL L L.length) (fun _ => True) L.length w := fun l J Jx W hW _ _ hY h0 => by
  refine (back1_in F n h7 hro hn l Bs n₀ L hL a c J Jx hY W ((hW.cell (p := ⟨Bs, 0, none⟩) hBn).trans hc) (fun h => ?_) h0).mono ?_
  · obtain ⟨b, o, e, hb, hr⟩ := hrow h
    exact ⟨b, o, e, hb, fun q y hq m v hv => (hW.cell (p := ⟨b, o + q * rvT.sz + m, none⟩) (Nat.lt_of_lt_of_le hb hn₀)).trans (hr q y hq m v hv)⟩
  · rintro e W' ⟨he, ⟨ys, hys, hj⟩ | ⟨pre, hj⟩⟩
    · exact ⟨he, .inl ⟨ys, hys, hj⟩⟩
    · exact ⟨he, .inr ⟨pre, trivial, hj⟩⟩
end Go.Proofs.YtkkibibecgcbmaaGreatDoor
