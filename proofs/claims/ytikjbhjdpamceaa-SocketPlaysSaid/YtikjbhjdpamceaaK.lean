/- Next of any number; what SocketPlays holds. -/
import Derived.Test.YtikjbhjdpamceaaJ
import Derived.Test.YtikjbhjdpamceaaH
namespace Go.Proofs.Ytikjbhjdpamceaa
open Go.RowKit

set_option maxHeartbeats 400000 in
set_option maxRecDepth 100000 in
theorem fold_big (z : Int) (n : Nat) (w : World) (h1 : 1 ≤ n) (h2 : n ≤ 9223372036854775807) :
    Calls Try.prog 18 #[.int .i64 z, .int .i64 n] w fun e w' => ∃ r : Nat, r < n ∧ e = .returned (.int .i64 r) ∧ w' = w := by
  by_cases hn : n = 1
  · subst hn
    go_enter Try.func18, Try.ntmps18
    go_wp2
    go_ret
    exact ⟨0, by omega, rfl, rfl⟩
  · have hn1 : ¬ ((n : Int) ≤ 1) := by omega
    have hn0 : ¬ ((n : Int) = 0) := by omega
    obtain ⟨q, hq⟩ : ∃ q : Int, z.tmod n = q := ⟨_, rfl⟩
    have hqa : -(n : Int) < q ∧ q < n := by
      rw [← hq]
      have h := Int.tmod_lt_of_pos z (show (0 : Int) < n by omega)
      have h' := Int.tmod_lt_of_pos (-z) (show (0 : Int) < n by omega)
      rw [Int.neg_tmod] at h'
      exact ⟨by omega, h⟩
    have hwr : IntKind.i64.wrap q = q := by rw [IntKind.wrap_i64]; omega
    by_cases hq0 : q < 0
    · have hwr2 : IntKind.i64.wrap (q + n) = q + n := by rw [IntKind.wrap_i64]; omega
      go_enter Try.func18, Try.ntmps18
      go_wp2
      obtain ⟨r, hr⟩ : ∃ r : Nat, q + n = r := ⟨(q + n).toNat, by omega⟩
      rw [hr]
      go_ret
      exact ⟨r, by omega, rfl, rfl⟩
    · go_enter Try.func18, Try.ntmps18
      go_wp2
      obtain ⟨r, hr⟩ : ∃ r : Nat, q = r := ⟨q.toNat, by omega⟩
      rw [hr]
      go_ret
      exact ⟨r, by omega, rfl, rfl⟩

set_option maxHeartbeats 1000000 in
set_option maxRecDepth 100000 in
/-- Next: a number below n; the tape moves on. -/
theorem next_big (tb k n : Nat) (w : World) (h1 : 1 ≤ n) (h2 : n ≤ 9223372036854775807) (hk : k ≤ 1000000) (h : Tape w tb k) :
    Calls Try.prog 7 #[.pointer (some ⟨tb, 0, none⟩), .int .i64 n] w fun e w' => ∃ r : Nat, r < n ∧ e = .returned (.int .i64 r) ∧ Tape w' tb (k + 1) ∧ w.grownBy w' (some tb) ∧ w'.heap.size = w.heap.size := by
  have hput := fun m => tape_put (k' := k + 1) h m
  obtain ⟨lv, hh, hi⟩ := h
  have c0 : w.cell? ⟨tb, 0, none⟩ = some lv := by rw [cell_of_row _ _ _ _ _ _ hh]; rfl
  have c1 : w.cell? ⟨tb, 1, none⟩ = some (.int .i64 (k : Int)) := by rw [cell_of_row _ _ _ _ _ _ hh]; rfl
  have f1 : w.frozen? ⟨tb, 1, none⟩ = false := by simp [World.frozen?, hh]
  have hw7 : IntKind.i64.wrap ((k : Int) * 7) = (k : Int) * 7 := by rw [IntKind.wrap_i64]; omega
  have hwk : IntKind.i64.wrap ((k : Int) + 1) = ((k + 1 : Nat) : Int) := by rw [IntKind.wrap_i64]; omega
  obtain ⟨q, hq⟩ : ∃ q : Int, ((k : Int) * 7).tmod 11 = q := ⟨_, rfl⟩
  have hwq : IntKind.i64.wrap q = q := by
    have := Int.tmod_lt_of_pos ((k : Int) * 7) (show (0 : Int) < 11 by omega)
    have h' := Int.tmod_nonneg 11 (show (0 : Int) ≤ (k : Int) * 7 by omega)
    rw [IntKind.wrap_i64]
    omega
  have hfold := fun z W => fold_big z n W h1 h2
  have HF := Lib.hid hfold
  have HP := Lib.hid hput
  clear hput hfold
  have hfin : ∀ m, Tape ((w.drewN m).setCell ⟨tb, 1, none⟩ (.int .i64 ((k + 1 : Nat) : Int))) tb (k + 1) ∧ w.grownBy ((w.drewN m).setCell ⟨tb, 1, none⟩ (.int .i64 ((k + 1 : Nat) : Int))) (some tb) ∧
      ((w.drewN m).setCell ⟨tb, 1, none⟩ (.int .i64 ((k + 1 : Nat) : Int))).heap.size = w.heap.size := fun m =>
    ⟨HP.out m, ⟨rfl, rfl, rfl, by simp [World.setCell], fun j _ hj => Below.heap_setCell _ _ _ _ fun e => hj (by rw [e])⟩, by simp [World.setCell]⟩
  have HR := Lib.hid hfin
  clear hfin HP
  rcases hi with ⟨a, c, rfl⟩ | ⟨b, o, m, c, rfl, hb, hz⟩
  · have hk0 : ¬ ((k : Int) < ((0 : Nat) : Int)) := by omega
    clear hh
    go_enter Try.func7, Try.ntmps7
    go_wp2
    go_quiet (fail)
    go_wp2_with fail
    refine (HF.out _ _).mono ?_
    rintro e W ⟨r, hr, rfl, rfl⟩
    go_wp2
    go_ret
    exact ⟨r, hr, rfl, HR.out _⟩
  · by_cases hkm : k < m
    · have hkm' : (k : Int) < (m : Int) := by omega
      obtain ⟨z, hz⟩ := hz k hkm
      clear hh
      go_enter Try.func7, Try.ntmps7
      go_wp2
      go_quiet (fail)
      go_wp2
      go_quiet (fail)
      go_wp2_with fail
      refine (HF.out _ _).mono ?_
      rintro e W ⟨r, hr, rfl, rfl⟩
      go_wp2
      go_ret
      exact ⟨r, hr, rfl, HR.out _⟩
    · have hkm' : ¬ ((k : Int) < (m : Int)) := by omega
      clear hh hz
      go_enter Try.func7, Try.ntmps7
      go_wp2
      go_quiet (fail)
      go_wp2_with fail
      refine (HF.out _ _).mono ?_
      rintro e W ⟨r, hr, rfl, rfl⟩
      go_wp2
      go_ret
      exact ⟨r, hr, rfl, HR.out _⟩


structure Pl (w0 w : World) (tb sb rb wb cap k : Nat) (l : List Ev) (sv : Value) (lost : Bool) : Prop where
  t : w0.heap.size ≤ tb
  ts : tb < sb
  tr : tb < rb
  sw : sb < wb
  rw : rb < wb
  tape : Tape w tb k
  que : Que w sb rb cap l lost
  wv : w.heap[wb]? = some (.cells #[.int .i64 (cap : Int), sv, .bool lost] 33 (0, 0))
  own : EOwn w (wb + 1) sv l
  kp : Kp [] w0 w

variable {w0 w w' : World} {tb sb rb wb cap k : Nat} {l : List Ev} {sv : Value} {lost : Bool}

theorem Pl.kp0 (h : Pl w0 w tb sb rb wb cap k l sv lost) (hk : Kp [] w w') : Pl w0 w' tb sb rb wb cap k l sv lost :=
  ⟨h.t, h.ts, h.tr, h.sw, h.rw, h.tape.kp hk (by simp), h.que.kp hk (by simp) (by simp), (hk.block _ (block_lt h.wv) (by simp)).trans h.wv, h.own.kp hk (fun _ _ => by simp), h.kp.trans hk⟩
theorem Pl.next {k' : Nat} (h : Pl w0 w tb sb rb wb cap k l sv lost) (ht : Tape w' tb k') (hk : Kp [tb] w w') : Pl w0 w' tb sb rb wb cap k' l sv lost := by
  have := h.t; have := h.ts; have := h.tr; have := h.sw; have := h.rw
  exact ⟨h.t, h.ts, h.tr, h.sw, h.rw, ht, h.que.kp hk (by simp; omega) (by simp; omega), (hk.block _ (block_lt h.wv) (by simp; omega)).trans h.wv, h.own.kp hk (fun b hb => by have := h.own.ge b hb; simp; omega), h.kp.up hk (by simp; omega)⟩
/-- Both move: the socket, and the variable that holds the reference's. -/
theorem Pl.move {l' : List Ev} {sv' : Value} {lost' : Bool} (h : Pl w0 w tb sb rb wb cap k l sv lost) (hq : Que w' sb rb cap l' lost') (hw : w'.heap[wb]? = some (.cells #[.int .i64 (cap : Int), sv', .bool lost'] 33 (0, 0))) (ho : EOwn w' (wb + 1) sv' l') (hk : Kp [sb, rb, wb] w w') :
    Pl w0 w' tb sb rb wb cap k l' sv' lost' := by
  have := h.t; have := h.ts; have := h.tr; have := h.sw; have := h.rw
  exact ⟨h.t, h.ts, h.tr, h.sw, h.rw, h.tape.kp hk (by simp; omega), hq, hw, ho, h.kp.up hk (by simp; omega)⟩
/-- The variable of the reference's socket is set anew. -/
def setW (w : World) (wb cap : Nat) (v : Value) (lost : Bool) : World := ((w.setCell ⟨wb, 0, none⟩ (.int .i64 (cap : Int))).setCell ⟨wb, 1, none⟩ v).setCell ⟨wb, 2, none⟩ (.bool lost)
theorem setW_kp {w : World} {wb cap : Nat} {v : Value} {lost : Bool} : Kp [wb] w (setW w wb cap v lost) :=
  (((Kp.refl [wb] w).setCell (.inl (by simp)) _).setCell (.inl (by simp)) _).setCell (.inl (by simp)) _
theorem setW_heap {w : World} {wb cap : Nat} {v : Value} {lost : Bool} {a b c : Value} (h : w.heap[wb]? = some (.cells #[a, b, c] 33 (0, 0))) : (setW w wb cap v lost).heap[wb]? = some (.cells #[.int .i64 (cap : Int), v, .bool lost] 33 (0, 0)) := by
  simp [setW, World.setCell, Array.getElem?_modify, h]
end Go.Proofs.Ytikjbhjdpamceaa
