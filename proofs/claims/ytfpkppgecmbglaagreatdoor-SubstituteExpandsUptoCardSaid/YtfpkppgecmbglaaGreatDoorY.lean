/- The tape's choices; values. -/
import Derived.Test.YtfpkppgecmbglaaGreatDoorW
namespace Go.Proofs.YtfpkppgecmbglaaGreatDoor
open Go.RowKit

/-- A tape at its place k. -/
def Tp (w : World) (tb : Nat) (k : Nat) : Prop := ∃ lv, w.heap[tb]? = some (.cells #[lv, .int .i64 (k : Int)] 27 (0, 0)) ∧ Ints w tb lv

theorem Tp.lt {w : World} {tb k : Nat} (h : Tp w tb k) : tb < w.heap.size := by
  obtain ⟨lv, hh, _⟩ := h
  exact block_lt hh
theorem Tp.keep {w w' : World} {tb k : Nat} (h : Tp w tb k) (hk : ∀ b, b ≤ tb → w'.heap[b]? = w.heap[b]?) : Tp w' tb k := by
  obtain ⟨lv, hh, hi⟩ := h
  exact ⟨lv, (hk tb (Nat.le_refl _)).trans hh, hi.keep fun b hb => hk b (Nat.le_of_lt hb)⟩
theorem Tp.below {w w' : World} {tb k : Nat} (h : Tp w tb k) (hb : Below w.heap.size w w') : Tp w' tb k := h.keep fun b hb' => hb.block b (Nat.lt_of_le_of_lt hb' h.lt)

theorem tp_put {w : World} {tb k k' : Nat} (h : Tp w tb k) (n : Nat) : Tp ((w.drewN n).setCell ⟨tb, 1, none⟩ (.int .i64 (k' : Int))) tb k' := by
  obtain ⟨lv, hh, hi⟩ := h
  refine ⟨lv, ?_, hi.keep fun b hb => Below.heap_setCell _ _ _ _ (Nat.ne_of_lt hb)⟩
  simp [World.setCell, Array.getElem?_modify, hh]

set_option maxHeartbeats 1000000 in
set_option maxRecDepth 100000 in
/-- Next: a number below n; the tape moves on. -/
theorem next_tp (tb k n : Nat) (w : World) (h1 : 1 ≤ n) (h2 : n ≤ 1000000) (hk : k ≤ 1000000) (h : Tp w tb k) :
    Calls Tryz.prog 27 #[.pointer (some ⟨tb, 0, none⟩), .int .i64 n] w fun e w' => ∃ r : Nat, r < n ∧ e = .returned (.int .i64 r) ∧ Tp w' tb (k + 1) ∧ w.grownBy w' (some tb) ∧ w'.heap.size = w.heap.size := by
  have hput := fun m => tp_put (k' := k + 1) h m
  obtain ⟨lv, hh, hi⟩ := h
  have c0 : w.cell? ⟨tb, 0, none⟩ = some lv := by rw [cell_of_row _ _ _ _ _ _ hh]; rfl
  have c1 : w.cell? ⟨tb, 1, none⟩ = some (.int .i64 (k : Int)) := by rw [cell_of_row _ _ _ _ _ _ hh]; rfl
  have f1 : w.frozen? ⟨tb, 1, none⟩ = false := by simp [World.frozen?, hh]
  have hw7 : IntKind.i64.wrap ((k : Int) * 7) = (k : Int) * 7 := by rw [IntKind.wrap_i64]; omega
  have hwk : IntKind.i64.wrap ((k : Int) + 1) = ((k + 1 : Nat) : Int) := by rw [IntKind.wrap_i64]; omega
  obtain ⟨q, hq⟩ : ∃ q : Int, ((k : Int) * 7).tmod 11 = q := ⟨_, rfl⟩
  have hwq : IntKind.i64.wrap q = q := by
    have := Int.tmod_lt_of_pos ((k : Int) * 7) (show (0 : Int) < 11 by omega)
    have h' := Int.tmod_nonneg 11 (show (0 : Int) ≤ (k : Int) * 7 by omega)
    rw [IntKind.wrap_i64]
    omega
  have hfold := fun z W => fold_any z n W h1 h2
  have HF := Lib.hid hfold
  have HP := Lib.hid hput
  clear hput hfold
  have hfin : ∀ m, Tp ((w.drewN m).setCell ⟨tb, 1, none⟩ (.int .i64 ((k + 1 : Nat) : Int))) tb (k + 1) ∧ w.grownBy ((w.drewN m).setCell ⟨tb, 1, none⟩ (.int .i64 ((k + 1 : Nat) : Int))) (some tb) ∧
      ((w.drewN m).setCell ⟨tb, 1, none⟩ (.int .i64 ((k + 1 : Nat) : Int))).heap.size = w.heap.size := fun m =>
    ⟨HP.out m, ⟨rfl, rfl, rfl, by simp [World.setCell], fun j _ hj => Below.heap_setCell _ _ _ _ fun e => hj (by rw [e])⟩, by simp [World.setCell]⟩
  have HR := Lib.hid hfin
  clear hfin HP
  rcases hi with ⟨a, c, rfl⟩ | ⟨b, o, m, c, rfl, hb, hz⟩
  · have hk0 : ¬ ((k : Int) < ((0 : Nat) : Int)) := by omega
    clear hh
    go_enter Tryz.func27, Tryz.ntmps27
    go_wp2
    go_quiet (fail)
    go_wp2_with fail
    refine (HF.out _ _).mono ?_
    rintro e W ⟨r, hr, rfl, rfl⟩
    go_wp2
    go_ret
    exact ⟨r, hr, rfl, HR.out _⟩
  · by_cases hkm : k < m
    · have hkm' : (k : Int) < (m : Int) := by omega
      obtain ⟨z, hz⟩ := hz k hkm
      clear hh
      go_enter Tryz.func27, Tryz.ntmps27
      go_wp2
      go_quiet (fail)
      go_wp2
      go_quiet (fail)
      go_wp2_with fail
      refine (HF.out _ _).mono ?_
      rintro e W ⟨r, hr, rfl, rfl⟩
      go_wp2
      go_ret
      exact ⟨r, hr, rfl, HR.out _⟩
    · have hkm' : ¬ ((k : Int) < (m : Int)) := by omega
      clear hh hz
      go_enter Tryz.func27, Tryz.ntmps27
      go_wp2
      go_quiet (fail)
      go_wp2_with fail
      refine (HF.out _ _).mono ?_
      rintro e W ⟨r, hr, rfl, rfl⟩
      go_wp2
      go_ret
      exact ⟨r, hr, rfl, HR.out _⟩

theorem next_kp {w : World} {tb k : Nat} (n : Nat) (h1 : 1 ≤ n) (h2 : n ≤ 1000000) (hk : k ≤ 1000000) (h : Tp w tb k) :
    Calls Tryz.prog 27 #[.pointer (some ⟨tb, 0, none⟩), .int .i64 n] w fun e w' => ∃ r : Nat, r < n ∧ e = .returned (.int .i64 r) ∧ Tp w' tb (k + 1) ∧ Kp [tb] w w' :=
  (next_tp tb k n w h1 h2 hk h).mono fun _ _ ⟨r, hr, he, ht, hg, _⟩ => ⟨r, hr, he, ht, Kp.of_grown hg⟩
theorem Tp.kp {w w' : World} {tb k : Nat} {S : List Nat} (h : Tp w tb k) (hk : Kp S w w') (hs : ∀ x ∈ S, tb < x) : Tp w' tb k :=
  h.keep fun b hb => hk.block b (Nat.lt_of_le_of_lt hb h.lt) fun e => by have := hs b e; omega
set_option maxHeartbeats 1000000 in
set_option maxRecDepth 100000 in
/-- One: one of these texts. -/
theorem one_any {w : World} {tb k sb c : Nat} (xs : List (List UInt8)) (h1 : 1 ≤ xs.length) (h2 : xs.length ≤ 1000000) (hk : k ≤ 1000000) (h : Tp w tb k) (hne : sb ≠ tb) (hsb : sb < w.heap.size)
    (hx : ∀ (j : Nat) x, xs[j]? = some x → w.cell? ⟨sb, j, none⟩ = some (.string (bs x))) :
    Calls Tryz.prog 28 #[.pointer (some ⟨tb, 0, none⟩), .slice (some ⟨sb, 0, none⟩) xs.length c] w fun e w' =>
      ∃ x, x ∈ xs ∧ e = .returned (.string (bs x)) ∧ Tp w' tb (k + 1) ∧ Kp [tb] w w' := by
  have HN := Lib.hid (next_kp xs.length h1 h2 hk h)
  have HX := Lib.hid hx
  have hz : ¬ ((xs.length : Int) = 0) := by omega
  have hz' : ((xs.length : Int) == 0) = false := beq_false_of_ne hz
  clear hx
  go_enter Tryz.func28, Tryz.ntmps28
  go_wp2_with fail
  refine HN.out.mono ?_
  rintro e W ⟨r, hr, rfl, hT, hg⟩
  obtain ⟨x, hx⟩ : ∃ x, xs[r]? = some x := ⟨_, List.getElem?_eq_getElem hr⟩
  have hb := hg.block sb hsb (by simpa using hne)
  have hc : W.cell? ⟨sb, r, none⟩ = some (.string (bs x)) := by
    have := HX.out r x hx
    simp only [World.cell?, hb] at this ⊢
    exact this
  have hri : (r : Int) < (xs.length : Int) := by omega
  have HT := Lib.hid hT
  have HG := Lib.hid hg
  have Hx := Lib.hid hx
  clear hT hg hx h hb
  go_wp2
  go_ret
  exact ⟨x, List.mem_of_getElem? Hx.out, rfl, HT.out, HG.out⟩
/-- .. in a row that was just made. -/
theorem one_new {w : World} {tb k : Nat} (xs : List (List UInt8)) (h1 : 1 ≤ xs.length) (h2 : xs.length ≤ 1000000) (hk : k ≤ 1000000) (h : Tp w tb k) :
    Calls Tryz.prog 28 #[.pointer (some ⟨tb, 0, none⟩), .slice (some ⟨w.heap.size, 0, none⟩) xs.length xs.length] (w.alloc (.cells (xs.map fun x => Value.string (bs x)).toArray 9)) fun e w' =>
      ∃ x, x ∈ xs ∧ e = .returned (.string (bs x)) ∧ Tp w' tb (k + 1) ∧ Kp [tb] w w' := by
  have hal : Kp [] w (w.alloc (.cells (xs.map fun x => Value.string (bs x)).toArray 9)) := (Kp.refl [] w).alloc _
  have hlt := h.lt
  refine (one_any xs h1 h2 hk (h.kp hal (by simp)) (by omega) (by simp) (fun j x hx => ?_)).mono fun e w' ⟨x, hx, he, ht, hk2⟩ => ⟨x, hx, he, ht, (hal.mono (by simp)).trans hk2⟩
  rw [cell_of_row _ _ j _ _ _ (heap_alloc_last w _), List.getElem?_toArray, List.getElem?_map, hx]
  rfl

theorem one_short {w : World} {tb k : Nat} (xs : List (List UInt8)) (h1 : 1 ≤ xs.length) (h2 : xs.length ≤ 1000000) (hk : k ≤ 1000000) (h : Tp w tb k) (hx : ∀ x ∈ xs, x.length ≤ 300) :
    Calls Tryz.prog 28 #[.pointer (some ⟨tb, 0, none⟩), .slice (some ⟨w.heap.size, 0, none⟩) xs.length xs.length] (w.alloc (.cells (xs.map fun x => Value.string (bs x)).toArray 9)) fun e w' =>
      ∃ x : List UInt8, x.length ≤ 300 ∧ e = .returned (.string (bs x)) ∧ Tp w' tb (k + 1) ∧ Kp [tb] w w' :=
  (one_new xs h1 h2 hk h).mono fun _ _ ⟨x, h, r⟩ => ⟨x, hx x h, r⟩
theorem oneV0 {w : World} {tb k : Nat} (hk : k ≤ 1000000) (h : Tp w tb k) (n : Nat) (hn : w.heap.size = n) : Calls Tryz.prog 28 #[.pointer (some ⟨tb, 0, none⟩), .slice (some ⟨n, 0, none⟩) 4 4] (w.alloc (.cells #[.string ⟨#[115, 100, 97]⟩, .string ⟨#[115, 100, 97, 49, 50]⟩, .string ⟨#[101, 116, 104, 48]⟩, .string ⟨#[]⟩] 9)) fun e w' =>
    ∃ x : List UInt8, x.length ≤ 300 ∧ e = .returned (.string (bs x)) ∧ Tp w' tb (k + 1) ∧ Kp [tb] w w' := by
  subst hn
  exact one_short [[115, 100, 97], [115, 100, 97, 49, 50], [101, 116, 104, 48], []] (by simp) (by simp) hk h (by decide)
theorem oneV1 {w : World} {tb k : Nat} (hk : k ≤ 1000000) (h : Tp w tb k) (n : Nat) (hn : w.heap.size = n) : Calls Tryz.prog 28 #[.pointer (some ⟨tb, 0, none⟩), .slice (some ⟨n, 0, none⟩) 2 2] (w.alloc (.cells #[.string ⟨#[47, 112, 99, 105, 48, 47, 115, 100, 97]⟩, .string ⟨#[47, 117, 115, 98]⟩] 9)) fun e w' =>
    ∃ x : List UInt8, x.length ≤ 300 ∧ e = .returned (.string (bs x)) ∧ Tp w' tb (k + 1) ∧ Kp [tb] w w' := by
  subst hn
  exact one_short [[47, 112, 99, 105, 48, 47, 115, 100, 97], [47, 117, 115, 98]] (by simp) (by simp) hk h (by decide)
theorem oneV2 {w : World} {tb k : Nat} (hk : k ≤ 1000000) (h : Tp w tb k) (n : Nat) (hn : w.heap.size = n) : Calls Tryz.prog 28 #[.pointer (some ⟨tb, 0, none⟩), .slice (some ⟨n, 0, none⟩) 2 2] (w.alloc (.cells #[.string ⟨#[117, 115, 98, 49]⟩, .string ⟨#[49, 45, 49]⟩] 9)) fun e w' =>
    ∃ x : List UInt8, x.length ≤ 300 ∧ e = .returned (.string (bs x)) ∧ Tp w' tb (k + 1) ∧ Kp [tb] w w' := by
  subst hn
  exact one_short [[117, 115, 98, 49], [49, 45, 49]] (by simp) (by simp) hk h (by decide)
theorem oneV3 {w : World} {tb k : Nat} (hk : k ≤ 1000000) (h : Tp w tb k) (n : Nat) (hn : w.heap.size = n) : Calls Tryz.prog 28 #[.pointer (some ⟨tb, 0, none⟩), .slice (some ⟨n, 0, none⟩) 2 2] (w.alloc (.cells #[.string ⟨#[]⟩, .string ⟨#[104, 105, 100]⟩] 9)) fun e w' =>
    ∃ x : List UInt8, x.length ≤ 300 ∧ e = .returned (.string (bs x)) ∧ Tp w' tb (k + 1) ∧ Kp [tb] w w' := by
  subst hn
  exact one_short [[], [104, 105, 100]] (by simp) (by simp) hk h (by decide)
theorem oneV4 {w : World} {tb k : Nat} (hk : k ≤ 1000000) (h : Tp w tb k) (n : Nat) (hn : w.heap.size = n) : Calls Tryz.prog 28 #[.pointer (some ⟨tb, 0, none⟩), .slice (some ⟨n, 0, none⟩) 2 2] (w.alloc (.cells #[.string ⟨#[]⟩, .string ⟨#[115, 100, 97]⟩] 9)) fun e w' =>
    ∃ x : List UInt8, x.length ≤ 300 ∧ e = .returned (.string (bs x)) ∧ Tp w' tb (k + 1) ∧ Kp [tb] w w' := by
  subst hn
  exact one_short [[], [115, 100, 97]] (by simp) (by simp) hk h (by decide)
theorem oneV5 {w : World} {tb k : Nat} (hk : k ≤ 1000000) (h : Tp w tb k) (n : Nat) (hn : w.heap.size = n) : Calls Tryz.prog 28 #[.pointer (some ⟨tb, 0, none⟩), .slice (some ⟨n, 0, none⟩) 2 2] (w.alloc (.cells #[.string ⟨#[108, 97, 110, 48]⟩, .string ⟨#[101, 116, 104, 48]⟩] 9)) fun e w' =>
    ∃ x : List UInt8, x.length ≤ 300 ∧ e = .returned (.string (bs x)) ∧ Tp w' tb (k + 1) ∧ Kp [tb] w w' := by
  subst hn
  exact one_short [[108, 97, 110, 48], [101, 116, 104, 48]] (by simp) (by simp) hk h (by decide)
theorem oneV6 {w : World} {tb k : Nat} (y : List UInt8) (hy : y.length ≤ 300) (hk : k ≤ 1000000) (h : Tp w tb k) (n : Nat) (hn : w.heap.size = n) : Calls Tryz.prog 28 #[.pointer (some ⟨tb, 0, none⟩), .slice (some ⟨n, 0, none⟩) 5 5] (w.alloc (.cells #[.string ⟨#[]⟩, .string ⟨#[111, 110, 101]⟩, .string ⟨#[97, 32, 32, 98, 32, 99]⟩, .string ⟨#[32, 120, 32, 121, 32]⟩, .string (bs y)] 9)) fun e w' =>
    ∃ x : List UInt8, x.length ≤ 300 ∧ e = .returned (.string (bs x)) ∧ Tp w' tb (k + 1) ∧ Kp [tb] w w' := by
  subst hn
  exact one_short [[], [111, 110, 101], [97, 32, 32, 98, 32, 99], [32, 120, 32, 121, 32], y] (by simp) (by simp) hk h (by intro x hx; simp only [List.mem_cons, List.not_mem_nil, or_false] at hx; rcases hx with rfl | rfl | rfl | rfl | rfl <;> first | exact hy | decide)
theorem oneV7 {w : World} {tb k : Nat} (hk : k ≤ 1000000) (h : Tp w tb k) (n : Nat) (hn : w.heap.size = n) : Calls Tryz.prog 28 #[.pointer (some ⟨tb, 0, none⟩), .slice (some ⟨n, 0, none⟩) 2 2] (w.alloc (.cells #[.string ⟨#[49]⟩, .string ⟨#[50, 50]⟩] 9)) fun e w' =>
    ∃ x : List UInt8, x.length ≤ 300 ∧ e = .returned (.string (bs x)) ∧ Tp w' tb (k + 1) ∧ Kp [tb] w w' := by
  subst hn
  exact one_short [[49], [50, 50]] (by simp) (by simp) hk h (by decide)
theorem oneV8 {w : World} {tb k : Nat} (hk : k ≤ 1000000) (h : Tp w tb k) (n : Nat) (hn : w.heap.size = n) : Calls Tryz.prog 28 #[.pointer (some ⟨tb, 0, none⟩), .slice (some ⟨n, 0, none⟩) 2 2] (w.alloc (.cells #[.string ⟨#[97, 99, 109, 101]⟩, .string ⟨#[98, 32, 99]⟩] 9)) fun e w' =>
    ∃ x : List UInt8, x.length ≤ 300 ∧ e = .returned (.string (bs x)) ∧ Tp w' tb (k + 1) ∧ Kp [tb] w w' := by
  subst hn
  exact one_short [[97, 99, 109, 101], [98, 32, 99]] (by simp) (by simp) hk h (by decide)
theorem oneV9 {w : World} {tb k : Nat} (hk : k ≤ 1000000) (h : Tp w tb k) (n : Nat) (hn : w.heap.size = n) : Calls Tryz.prog 28 #[.pointer (some ⟨tb, 0, none⟩), .slice (some ⟨n, 0, none⟩) 2 2] (w.alloc (.cells #[.string ⟨#[55]⟩, .string ⟨#[105, 100]⟩] 9)) fun e w' =>
    ∃ x : List UInt8, x.length ≤ 300 ∧ e = .returned (.string (bs x)) ∧ Tp w' tb (k + 1) ∧ Kp [tb] w w' := by
  subst hn
  exact one_short [[55], [105, 100]] (by simp) (by simp) hk h (by decide)

theorem rep_lit (s : List UInt8) (c : Nat) (W : World) (hc2 : 2 ≤ c) (hc : c ≤ 1000) (hl : s.length ≤ 1000) (h0 : 0 < s.length) : Calls Tryz.prog 26 #[.string (bs s), .int .i64 c] W fun e w' => e = .returned (.string (bs (Lib.repeatL s c))) ∧ Kp [] W w' :=
  (Tryz.strings_Repeat_main (bs s) c W hc2 (by omega) (by rw [bs_size]; exact Nat.le_trans (Nat.mul_le_mul hl hc) (by decide)) (by rw [bs_size]; exact h0)).mono fun _ _ ⟨h1, h2⟩ => ⟨h1, Kp.of_below h2⟩
theorem rep_w (W : World) : Calls Tryz.prog 26 #[.string ⟨#[119, 32]⟩, .int .i64 120] W fun e w' => ∃ y : List UInt8, y.length ≤ 300 ∧ e = .returned (.string (bs y)) ∧ Kp [] W w' :=
  (rep_lit [119, 32] 120 W (by decide) (by decide) (by decide) (by decide)).mono fun _ _ ⟨h1, h2⟩ => ⟨_, by decide +kernel, h1, h2⟩
/-- What values answers. -/
def ValsPost (tb : Nat) (w : World) (e : Ending) (w' : World) : Prop := ∃ (v : Vs) (a b c : Value), e = .returned (.agg (vsC v a b c)) ∧ VsIn w' v a b c ∧ Kp [tb] w w'
set_option maxHeartbeats 8000000 in
set_option maxRecDepth 100000 in
theorem values_any {w : World} {tb : Nat} (h : Tp w tb 0) : Calls Tryz.prog 20 #[.pointer (some ⟨tb, 0, none⟩)] w (ValsPost tb w) := by
  obtain ⟨W0, hW0⟩ : ∃ W0, w.alloc (.cells #[.string ⟨#[]⟩, .string ⟨#[]⟩, .string ⟨#[]⟩, .string ⟨#[]⟩, .string ⟨#[]⟩, .string ⟨#[]⟩, .string ⟨#[]⟩, .slice none 0 0, .slice none 0 0, .slice none 0 0] 43) = W0 := ⟨_, rfl⟩
  obtain ⟨R, hR⟩ : ∃ R, w.heap.size = R := ⟨_, rfl⟩
  have hk0 : Kp [] w W0 := by rw [← hW0]; exact (Kp.refl [] w).alloc _
  have hR0 : W0.heap.size = R + 1 := by rw [← hW0, World.size_alloc, hR]
  have hRb : W0.heap[R]? = some (.cells #[.string ⟨#[]⟩, .string ⟨#[]⟩, .string ⟨#[]⟩, .string ⟨#[]⟩, .string ⟨#[]⟩, .string ⟨#[]⟩, .string ⟨#[]⟩, .slice none 0 0, .slice none 0 0, .slice none 0 0] 43 (0, 0)) := by rw [← hW0, ← hR]; exact heap_alloc_last w _
  have HT := Lib.hid (h.kp hk0 (by simp))
  have HL := Lib.hid (hR ▸ h.lt)
  have HW0 := Lib.hid hW0
  have HR := Lib.hid hR
  have HR0 := Lib.hid hR0
  have HRB := Lib.hid hRb
  have HK00 := Lib.hid (hk0.mono (t := [tb]) (by simp))
  have HK0 := Lib.hid (Kp.refl [tb] W0)
  have HRS := Lib.hid hR0
  have HI := Lib.hid (show (Tryz.prog.info? 43).map (·.size) = some 10 by kernel_rfl)
  clear h hW0 hR hk0 hR0 hRb
  go_enter Tryz.func20, Tryz.ntmps20
  go_wp2_with fail
  rw [HR.out, HW0.out]
  refine Calls.mono (by with_reducible exact oneV0 (k := 0) (by decide) HT.out _ HR0.out) ?_
  rintro e w1 ⟨x0, hx0, rfl, ht1, hk1⟩
  have HT1 := Lib.hid ht1
  have HK1 := Lib.hid (HK0.out.trans hk1)
  have HX0 := Lib.hid hx0
  clear HT HR0 HK0 HW0 ht1 hk1 hx0
  go_wp2_with fail
  refine Calls.mono (by with_reducible exact oneV1 (k := 1) (by decide) HT1.out _ rfl) ?_
  rintro e w2 ⟨x1, hx1, rfl, ht2, hk2⟩
  have HT2 := Lib.hid ht2
  have HK2 := Lib.hid (HK1.out.trans hk2)
  clear HT1 HK1 ht2 hk2 hx1
  go_wp2_with fail
  refine Calls.mono (by with_reducible exact oneV2 (k := 2) (by decide) HT2.out _ rfl) ?_
  rintro e w3 ⟨x2, hx2, rfl, ht3, hk3⟩
  have HT3 := Lib.hid ht3
  have HK3 := Lib.hid (HK2.out.trans hk3)
  clear HT2 HK2 ht3 hk3 hx2
  go_wp2_with fail
  refine Calls.mono (by with_reducible exact oneV3 (k := 3) (by decide) HT3.out _ rfl) ?_
  rintro e w4 ⟨x3, hx3, rfl, ht4, hk4⟩
  have HT4 := Lib.hid ht4
  have HK4 := Lib.hid (HK3.out.trans hk4)
  clear HT3 HK3 ht4 hk4 hx3
  go_wp2_with fail
  refine Calls.mono (by with_reducible exact oneV4 (k := 4) (by decide) HT4.out _ rfl) ?_
  rintro e w5 ⟨x4, hx4, rfl, ht5, hk5⟩
  have HT5 := Lib.hid ht5
  have HK5 := Lib.hid (HK4.out.trans hk5)
  clear HT4 HK4 ht5 hk5 hx4
  go_wp2_with fail
  refine Calls.mono (by with_reducible exact oneV5 (k := 5) (by decide) HT5.out _ rfl) ?_
  rintro e w6 ⟨x5, hx5, rfl, ht6, hk6⟩
  have HT6 := Lib.hid ht6
  have HK6 := Lib.hid (HK5.out.trans hk6)
  clear HT5 HK5 ht6 hk6 hx5
  go_wp2_with fail
  refine Calls.mono (by with_reducible exact rep_w _) ?_
  rintro e wr ⟨y, hy, rfl, hkr⟩
  have HTr := Lib.hid (HT6.out.kp hkr (by simp))
  have HKr := Lib.hid (HK6.out.trans (hkr.mono (t := [tb]) (by simp)))
  clear HT6 HK6 hkr
  go_wp2_with fail
  refine Calls.mono (by with_reducible exact oneV6 (k := 6) y hy (by decide) HTr.out _ rfl) ?_
  rintro e w7 ⟨x6, hx6, rfl, ht7, hk7⟩
  have HT7 := Lib.hid ht7
  have HK7 := Lib.hid (HKr.out.trans hk7)
  have HX6 := Lib.hid hx6
  clear HTr HKr ht7 hk7 hx6 hy
  go_wp2_with fail
  refine Calls.mono (by with_reducible exact oneV7 (k := 7) (by decide) HT7.out _ rfl) ?_
  rintro e w8 ⟨x7, hx7, rfl, ht8, hk8⟩
  have hK8 := HK7.out.trans hk8
  obtain ⟨A1, hA1⟩ : ∃ A, w8.heap.size = A := ⟨_, rfl⟩
  obtain ⟨W8, hW8⟩ : ∃ W8, w8.alloc (.cells #[.string ⟨#[115, 105, 122, 101]⟩, .string (bs x7)] 56) = W8 := ⟨_, rfl⟩
  have hk8' : Kp [] w8 W8 := by rw [← hW8]; exact (Kp.refl [] w8).alloc _
  have HB1 := Lib.hid (show W8.heap[A1]? = some (.cells #[.string ⟨#[115, 105, 122, 101]⟩, .string (bs x7)] 56 (0, 0)) by rw [← hW8, ← hA1]; exact heap_alloc_last w8 _)
  have HT8 := Lib.hid (ht8.kp hk8' (by simp))
  have HK8 := Lib.hid (hK8.trans (hk8'.mono (t := [tb]) (by simp)))
  have HS8 := Lib.hid (show W8.heap.size = A1 + 1 by rw [← hW8, World.size_alloc, hA1])
  have HW8 := Lib.hid hW8
  have HA1 := Lib.hid hA1
  have HL1 := Lib.hid (show tb < A1 by have h1 := HL.out; have h2 := hK8.size; have h3 := HRS.out; omega)
  clear HT7 HK7 ht8 hk8 hk8' hW8 hA1 hx7 hK8
  go_wp2_with fail
  rw [HA1.out, HW8.out]
  refine Calls.mono (by with_reducible exact oneV8 (k := 8) (by decide) HT8.out _ HS8.out) ?_
  rintro e w9 ⟨x8, hx8, rfl, ht9, hk9⟩
  have hK9 := HK8.out.trans hk9
  obtain ⟨A2, hA2⟩ : ∃ A, w9.heap.size = A := ⟨_, rfl⟩
  obtain ⟨W9, hW9⟩ : ∃ W9, w9.alloc (.cells #[.string ⟨#[115, 105, 122, 101]⟩, .string ⟨#[57, 57]⟩, .string ⟨#[118, 101, 110, 100, 111, 114]⟩, .string (bs x8)] 56) = W9 := ⟨_, rfl⟩
  have hk9' : Kp [] w9 W9 := by rw [← hW9]; exact (Kp.refl [] w9).alloc _
  have HB2 := Lib.hid (show W9.heap[A2]? = some (.cells #[.string ⟨#[115, 105, 122, 101]⟩, .string ⟨#[57, 57]⟩, .string ⟨#[118, 101, 110, 100, 111, 114]⟩, .string (bs x8)] 56 (0, 0)) by rw [← hW9, ← hA2]; exact heap_alloc_last w9 _)
  have HT9 := Lib.hid (ht9.kp hk9' (by simp))
  have HK9 := Lib.hid (hK9.trans (hk9'.mono (t := [tb]) (by simp)))
  have HS9 := Lib.hid (show W9.heap.size = A2 + 1 by rw [← hW9, World.size_alloc, hA2])
  have HB1' := Lib.hid (show W9.heap[A1]? = some (.cells #[.string ⟨#[115, 105, 122, 101]⟩, .string (bs x7)] 56 (0, 0)) from ((hk9.trans (hk9'.mono (t := [tb]) (by simp))).block A1 (block_lt HB1.out) (by have := HL1.out; simp; omega)).trans HB1.out)
  have HL2 := Lib.hid (show tb < A2 by have h1 := HL.out; have h2 := hK9.size; have h3 := HRS.out; omega)
  have HW9 := Lib.hid hW9
  have HA2 := Lib.hid hA2
  clear HT8 HK8 ht9 hk9 hk9' hW9 hA2 hx8 hK9 HB1 HW8 HS8
  go_wp2_with fail
  rw [HA2.out, HW9.out]
  refine Calls.mono (by with_reducible exact oneV9 (k := 9) (by decide) HT9.out _ HS9.out) ?_
  rintro e w10 ⟨x9, hx9, rfl, ht10, hk10⟩
  have hK10 := HK9.out.trans hk10
  obtain ⟨A3, hA3⟩ : ∃ A, w10.heap.size = A := ⟨_, rfl⟩
  obtain ⟨W10, hW10⟩ : ∃ W10, w10.alloc (.cells #[.string ⟨#[73, 68]⟩, .string (bs x9)] 56) = W10 := ⟨_, rfl⟩
  have hk10' : Kp [] w10 W10 := by rw [← hW10]; exact (Kp.refl [] w10).alloc _
  have hkk := hk10.trans (hk10'.mono (t := [tb]) (by simp))
  have HB3 := Lib.hid (show W10.heap[A3]? = some (.cells #[.string ⟨#[73, 68]⟩, .string (bs x9)] 56 (0, 0)) by rw [← hW10, ← hA3]; exact heap_alloc_last w10 _)
  have HK10 := Lib.hid (hK10.trans (hk10'.mono (t := [tb]) (by simp)))
  have HB1 := Lib.hid (show W10.heap[A1]? = some (.cells #[.string ⟨#[115, 105, 122, 101]⟩, .string (bs x7)] 56 (0, 0)) from (hkk.block A1 (block_lt HB1'.out) (by have := HL1.out; simp; omega)).trans HB1'.out)
  have HB2' := Lib.hid (show W10.heap[A2]? = some (.cells #[.string ⟨#[115, 105, 122, 101]⟩, .string ⟨#[57, 57]⟩, .string ⟨#[118, 101, 110, 100, 111, 114]⟩, .string (bs x8)] 56 (0, 0)) from (hkk.block A2 (block_lt HB2.out) (by have := HL2.out; simp; omega)).trans HB2.out)
  have HW10 := Lib.hid hW10
  have HA3 := Lib.hid hA3
  clear HT9 HK9 ht10 hk10 hk10' hW10 hA3 hx9 hK10 hkk HB1' HB2 HW9 HS9
  have hrb := (HK10.out.block R (block_lt HRB.out) (by have := HL.out; simp; omega)).trans HRB.out
  have HN1 := Lib.hid (show A1 ≠ R by intro e; have h1 := HB1.out; rw [e, hrb] at h1; simp at h1)
  have HN2 := Lib.hid (show A2 ≠ R by intro e; have h1 := HB2'.out; rw [e, hrb] at h1; simp at h1)
  have HN3 := Lib.hid (show A3 ≠ R by intro e; have h1 := HB3.out; rw [e, hrb] at h1; simp at h1)
  have HRB0 := Lib.hid hrb
  clear hrb
  have HON := Lib.hid (show (#[.string (bs x0), .string (bs x1), .string (bs x2), .string (bs x3), .string (bs x4), .string (bs x5), .string (bs x6), .slice (some ⟨A1, 0, none⟩) 1 1, .slice (some ⟨A2, 0, none⟩) 2 2, .slice (some ⟨A3, 0, none⟩) 1 1] : Array Value).all (·.oneCell') = true by simp [Value.oneCell'])
  go_wp2_with (rw [HW10.out, HA3.out]; refine wpList_store_row rfl 43 _ _ rfl R #[.string (bs x0), .string (bs x1), .string (bs x2), .string (bs x3), .string (bs x4), .string (bs x5), .string (bs x6), .slice (some ⟨A1, 0, none⟩) 1 1, .slice (some ⟨A2, 0, none⟩) 2 2, .slice (some ⟨A3, 0, none⟩) 1 1] rfl rfl 43 _ HRB0.out HI.out rfl HON.out ?_)
  refine bodyPost_ret (v := .agg #[.string (bs x0), .string (bs x1), .string (bs x2), .string (bs x3), .string (bs x4), .string (bs x5), .string (bs x6), .slice (some ⟨A1, 0, none⟩) 1 1, .slice (some ⟨A2, 0, none⟩) 2 2, .slice (some ⟨A3, 0, none⟩) 1 1]) (results_cell_row rfl _ _ R 43 _ _ _ rfl (setRow_heap _ _ _ _ _ _ HRB0.out) Tryz.underlying43 rfl HI.out) rfl ?_
  have hin : VsIn W10 ⟨x0, x1, x2, x3, x4, x5, x6, [([115, 105, 122, 101], x7)], [([115, 105, 122, 101], [57, 57]), ([118, 101, 110, 100, 111, 114], x8)], [([73, 68], x9)]⟩ (.slice (some ⟨A1, 0, none⟩) 1 1) (.slice (some ⟨A2, 0, none⟩) 2 2) (.slice (some ⟨A3, 0, none⟩) 1 1) :=
    ⟨.inr ⟨A1, 0, 1, rfl, block_lt HB1.out, RT.row_of (r := atT) (cur := [.string (bs [115, 105, 122, 101]), .string (bs x7)]) HB1.out rfl⟩,
     .inr ⟨A2, 0, 2, rfl, block_lt HB2'.out, RT.row_of (r := atT) (cur := [.string (bs [115, 105, 122, 101]), .string (bs [57, 57]), .string (bs [118, 101, 110, 100, 111, 114]), .string (bs x8)]) HB2'.out rfl⟩,
     .inr ⟨A3, 0, 1, rfl, block_lt HB3.out, RT.row_of (r := atT) (cur := [.string (bs [73, 68]), .string (bs x9)]) HB3.out rfl⟩,
     by simp, by simp, by simp, by have := HX0.out; simp; omega, by have := HX6.out; simp; omega⟩
  have hks : Kp [R] W10 (W10.setRow R #[.string (bs x0), .string (bs x1), .string (bs x2), .string (bs x3), .string (bs x4), .string (bs x5), .string (bs x6), .slice (some ⟨A1, 0, none⟩) 1 1, .slice (some ⟨A2, 0, none⟩) 2 2, .slice (some ⟨A3, 0, none⟩) 1 1]) := (Kp.refl [R] W10).setRow (.inl (by simp)) _
  refine ⟨_, _, _, _, rfl, ⟨hin.ha.kp hks ?_, hin.hb.kp hks ?_, hin.hc.kp hks ?_, hin.la, hin.lb, hin.lc, hin.lk, hin.lr⟩, (HK00.out.trans HK10.out).up hks ?_⟩
  · intro b hb; simp [Value.ownBlock] at hb; have := HN1.out; simp; omega
  · intro b hb; simp [Value.ownBlock] at hb; have := HN2.out; simp; omega
  · intro b hb; simp [Value.ownBlock] at hb; have := HN3.out; simp; omega
  · intro x hx; simp at hx; right; have := HR.out; omega
end Go.Proofs.YtfpkppgecmbglaaGreatDoor
