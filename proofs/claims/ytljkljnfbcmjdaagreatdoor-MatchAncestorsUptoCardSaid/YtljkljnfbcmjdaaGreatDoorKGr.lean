/- The tape of drawn numbers; one of some texts. -/
import Derived.Test.YtljkljnfbcmjdaaGreatDoorKGa
open Go.Lib renaming hid → qH
set_option maxRecDepth 100000
set_option maxHeartbeats 16000000
namespace Go.Proofs.YtljkljnfbcmjdaaGreatDoor
open Go.RowKit
def Tp (w : World) (tb : Nat) (k : Nat) : Prop := ∃ lv, w.heap[tb]? = some (.cells #[lv, .int .i64 (k : Int)] 27 (0, 0)) ∧ Ints w tb lv
theorem Tp.lt {w : World} {tb k : Nat} (h : Tp w tb k) : tb < w.heap.size := by
 obtain ⟨lv, hh, _⟩ := h
 exact block_lt hh
theorem Tp.keep {w w' : World} {tb k : Nat} (h : Tp w tb k) (hk : ∀ b, b ≤ tb → w'.heap[b]? = w.heap[b]?) : Tp w' tb k := by
 obtain ⟨lv, hh, hi⟩ := h
 exact ⟨lv, (hk tb (Nat.le_refl _)).trans hh, hi.keep fun b hb => hk b (Nat.le_of_lt hb)⟩
theorem Tp.below {w w' : World} {tb k : Nat} (h : Tp w tb k) (hb : Below w.heap.size w w') : Tp w' tb k := h.keep fun b hb' => hb.block b (Nat.lt_of_le_of_lt hb' h.lt)
theorem tp_put {w : World} {tb k k' : Nat} (h : Tp w tb k) (n : Nat) : Tp ((w.drewN n).setCell ⟨tb, 1, none⟩ (.int .i64 (k' : Int))) tb k' := by
 obtain ⟨lv, hh, hi⟩ := h
 refine ⟨lv, ?_, hi.keep fun b hb => Below.heap_setCell _ _ _ _ (Nat.ne_of_lt hb)⟩
 simp [World.setCell, Array.getElem?_modify, hh]
theorem next_tp (tb k n : Nat) (w : World) (h1 : 1 ≤ n) (h2 : n ≤ 1000000) (hk : k ≤ 1000000) (h : Tp w tb k) :
  Calls Tryz.prog 16 #[.pointer (some ⟨tb, 0, none⟩), .int .i64 n] w fun e w' => ∃ r : Nat, r < n ∧ e = .returned (.int .i64 r) ∧ Tp w' tb (k + 1) ∧ w.grownBy w' (some tb) ∧ w'.heap.size = w.heap.size := by
 have hput := fun m => tp_put (k' := k + 1) h m
 obtain ⟨lv, hh, hi⟩ := h
 have c0 : w.cell? ⟨tb, 0, none⟩ = some lv := by rw [cell_of_row _ _ _ _ _ _ hh]; rfl
 have c1 : w.cell? ⟨tb, 1, none⟩ = some (.int .i64 (k : Int)) := by rw [cell_of_row _ _ _ _ _ _ hh]; rfl
 have f1 : w.frozen? ⟨tb, 1, none⟩ = false := by simp [World.frozen?, hh]
 have hw7 : IntKind.i64.wrap ((k : Int) * 7) = (k : Int) * 7 := by rw [IntKind.wrap_i64]; omega
 have hwk : IntKind.i64.wrap ((k : Int) + 1) = ((k + 1 : Nat) : Int) := by rw [IntKind.wrap_i64]; omega
 obtain ⟨q, hq⟩ : ∃ q : Int, ((k : Int) * 7).tmod 11 = q := ⟨_, rfl⟩
 have hwq : IntKind.i64.wrap q = q := by
  have := Int.tmod_lt_of_pos ((k : Int) * 7) (show (0 : Int) < 11 by omega)
  have h' := Int.tmod_nonneg 11 (show (0 : Int) ≤ (k : Int) * 7 by omega)
  rw [IntKind.wrap_i64]
  omega
 have hfold := fun z W => fold_any z n W h1 h2
 have HF := qH hfold
 have HP := qH hput
 clear hput hfold
 have hfin : ∀ m, Tp ((w.drewN m).setCell ⟨tb, 1, none⟩ (.int .i64 ((k + 1 : Nat) : Int))) tb (k + 1) ∧ w.grownBy ((w.drewN m).setCell ⟨tb, 1, none⟩ (.int .i64 ((k + 1 : Nat) : Int))) (some tb) ∧
   ((w.drewN m).setCell ⟨tb, 1, none⟩ (.int .i64 ((k + 1 : Nat) : Int))).heap.size = w.heap.size := fun m =>
  ⟨HP.out m, ⟨rfl, rfl, rfl, by simp [World.setCell], fun j _ hj => Below.heap_setCell _ _ _ _ fun e => hj (by rw [e])⟩, by simp [World.setCell]⟩
 have HR := qH hfin
 clear hfin HP
 rcases hi with ⟨a, c, rfl⟩ | ⟨b, o, m, c, rfl, hb, hz⟩
 ·have hk0 : ¬ ((k : Int) < ((0 : Nat) : Int)) := by omega
  clear hh
  go_enter Tryz.func16, Tryz.ntmps16
  go_wp2
  go_quiet (fail)
  go_wp2_with fail
  refine (HF.out _ _).mono ?_
  rintro e W ⟨r, hr, rfl, rfl⟩
  go_wp2
  go_ret
  exact ⟨r, hr, rfl, HR.out _⟩
 ·by_cases hkm : k < m
  ·have hkm' : (k : Int) < (m : Int) := by omega
   obtain ⟨z, hz⟩ := hz k hkm
   clear hh
   go_enter Tryz.func16, Tryz.ntmps16
   go_wp2
   go_quiet (fail)
   go_wp2
   go_quiet (fail)
   go_wp2_with fail
   refine (HF.out _ _).mono ?_
   rintro e W ⟨r, hr, rfl, rfl⟩
   go_wp2
   go_ret
   exact ⟨r, hr, rfl, HR.out _⟩
  ·have hkm' : ¬ ((k : Int) < (m : Int)) := by omega
   clear hh hz
   go_enter Tryz.func16, Tryz.ntmps16
   go_wp2
   go_quiet (fail)
   go_wp2_with fail
   refine (HF.out _ _).mono ?_
   rintro e W ⟨r, hr, rfl, rfl⟩
   go_wp2
   go_ret
   exact ⟨r, hr, rfl, HR.out _⟩
theorem next_kp {w : World} {tb k : Nat} (n : Nat) (h1 : 1 ≤ n) (h2 : n ≤ 1000000) (hk : k ≤ 1000000) (h : Tp w tb k) :
  Calls Tryz.prog 16 #[.pointer (some ⟨tb, 0, none⟩), .int .i64 n] w fun e w' => ∃ r : Nat, r < n ∧ e = .returned (.int .i64 r) ∧ Tp w' tb (k + 1) ∧ Kp [tb] w w' :=
 (next_tp tb k n w h1 h2 hk h).mono fun _ _ ⟨r, hr, he, ht, hg, _⟩ => ⟨r, hr, he, ht, Kp.of_grown hg⟩
theorem Tp.kp {w w' : World} {tb k : Nat} {S : List Nat} (h : Tp w tb k) (hk : Kp S w w') (hs : ∀ x ∈ S, tb < x) : Tp w' tb k :=
 h.keep fun b hb => hk.block b (Nat.lt_of_le_of_lt hb h.lt) fun e => by have := hs b e; omega
theorem one_any {w : World} {tb k sb c : Nat} (xs : List (List UInt8)) (h1 : 1 ≤ xs.length) (h2 : xs.length ≤ 1000000) (hk : k ≤ 1000000) (h : Tp w tb k) (hne : sb ≠ tb) (hsb : sb < w.heap.size)
  (hx : ∀ (j : Nat) x, xs[j]? = some x → w.cell? ⟨sb, j, none⟩ = some (.string (bs x))) :
  Calls Tryz.prog 20 #[.pointer (some ⟨tb, 0, none⟩), .slice (some ⟨sb, 0, none⟩) xs.length c] w fun e w' =>
   ∃ x, x ∈ xs ∧ e = .returned (.string (bs x)) ∧ Tp w' tb (k + 1) ∧ Kp [tb] w w' := by
 have HN := qH (next_kp xs.length h1 h2 hk h)
 have HX := qH hx
 have hz : ¬ ((xs.length : Int) = 0) := by omega
 have hz' : ((xs.length : Int) == 0) = false := beq_false_of_ne hz
 clear hx
 go_enter Tryz.func20, Tryz.ntmps20
 go_wp2_with fail
 refine HN.out.mono ?_
 rintro e W ⟨r, hr, rfl, hT, hg⟩
 obtain ⟨x, hx⟩ : ∃ x, xs[r]? = some x := ⟨_, List.getElem?_eq_getElem hr⟩
 have hb := hg.block sb hsb (by simpa using hne)
 have hc : W.cell? ⟨sb, r, none⟩ = some (.string (bs x)) := by
  have := HX.out r x hx
  simp only [World.cell?, hb] at this ⊢
  exact this
 have hri : (r : Int) < (xs.length : Int) := by omega
 have HT := qH hT
 have HG := qH hg
 have Hx := qH hx
 clear hT hg hx h hb
 go_wp2
 go_ret
 exact ⟨x, List.mem_of_getElem? Hx.out, rfl, HT.out, HG.out⟩
theorem one_new {w : World} {tb k : Nat} (xs : List (List UInt8)) (h1 : 1 ≤ xs.length) (h2 : xs.length ≤ 1000000) (hk : k ≤ 1000000) (h : Tp w tb k) :
  Calls Tryz.prog 20 #[.pointer (some ⟨tb, 0, none⟩), .slice (some ⟨w.heap.size, 0, none⟩) xs.length xs.length] (w.alloc (.cells (xs.map fun x => Value.string (bs x)).toArray 9)) fun e w' =>
   ∃ x, x ∈ xs ∧ e = .returned (.string (bs x)) ∧ Tp w' tb (k + 1) ∧ Kp [tb] w w' := by
 have hal : Kp [] w (w.alloc (.cells (xs.map fun x => Value.string (bs x)).toArray 9)) := (Kp.refl [] w).alloc _
 have hlt := h.lt
 refine (one_any xs h1 h2 hk (h.kp hal (by simp)) (by omega) (by simp) (fun j x hx => ?_)).mono fun e w' ⟨x, hx, he, ht, hk2⟩ => ⟨x, hx, he, ht, (hal.mono (by simp)).trans hk2⟩
 rw [cell_of_row _ _ j _ _ _ (heap_alloc_last w _), List.getElem?_toArray, List.getElem?_map, hx]
 rfl
theorem one_short {w : World} {tb k : Nat} (xs : List (List UInt8)) (h1 : 1 ≤ xs.length) (h2 : xs.length ≤ 1000000) (hk : k ≤ 1000000) (h : Tp w tb k) (hx : ∀ x ∈ xs, x.length ≤ 300) :
  Calls Tryz.prog 20 #[.pointer (some ⟨tb, 0, none⟩), .slice (some ⟨w.heap.size, 0, none⟩) xs.length xs.length] (w.alloc (.cells (xs.map fun x => Value.string (bs x)).toArray 9)) fun e w' =>
   ∃ x : List UInt8, x.length ≤ 300 ∧ e = .returned (.string (bs x)) ∧ Tp w' tb (k + 1) ∧ Kp [tb] w w' :=
 (one_new xs h1 h2 hk h).mono fun _ _ ⟨x, h, r⟩ => ⟨x, hx x h, r⟩
theorem oneM0 {w : World} {tb k : Nat} (hk : k ≤ 1000000) (h : Tp w tb k) (n : Nat) (hn : w.heap.size = n) : Calls Tryz.prog 20 #[.pointer (some ⟨tb, 0, none⟩), .slice (some ⟨n, 0, none⟩) 3 3] (w.alloc (.cells #[.string ⟨#[97, 100, 100]⟩, .string ⟨#[114, 101, 109, 111, 118, 101]⟩, .string ⟨#[42]⟩] 9)) fun e w' =>
  ∃ x : List UInt8, x.length ≤ 300 ∧ e = .returned (.string (bs x)) ∧ Tp w' tb (k + 1) ∧ Kp [tb] w w' := by
 subst hn
 exact one_short [[97, 100, 100], [114, 101, 109, 111, 118, 101], [42]] (by decide) (by decide) hk h (by decide)
theorem oneM1 {w : World} {tb k : Nat} (hk : k ≤ 1000000) (h : Tp w tb k) (n : Nat) (hn : w.heap.size = n) : Calls Tryz.prog 20 #[.pointer (some ⟨tb, 0, none⟩), .slice (some ⟨n, 0, none⟩) 5 5] (w.alloc (.cells #[.string ⟨#[115, 100, 42]⟩, .string ⟨#[101, 116, 104, 63]⟩, .string ⟨#[115, 100, 97, 124, 115, 100, 98]⟩, .string ⟨#[42, 91, 48, 45, 57, 93]⟩, .string ⟨#[42]⟩] 9)) fun e w' =>
  ∃ x : List UInt8, x.length ≤ 300 ∧ e = .returned (.string (bs x)) ∧ Tp w' tb (k + 1) ∧ Kp [tb] w w' := by
 subst hn
 exact one_short [[115, 100, 42], [101, 116, 104, 63], [115, 100, 97, 124, 115, 100, 98], [42, 91, 48, 45, 57, 93], [42]] (by decide) (by decide) hk h (by decide)
theorem oneM2 {w : World} {tb k : Nat} (hk : k ≤ 1000000) (h : Tp w tb k) (n : Nat) (hn : w.heap.size = n) : Calls Tryz.prog 20 #[.pointer (some ⟨tb, 0, none⟩), .slice (some ⟨n, 0, none⟩) 4 4] (w.alloc (.cells #[.string ⟨#[98, 108, 111, 99, 107]⟩, .string ⟨#[110, 101, 116]⟩, .string ⟨#[117, 115, 98, 124, 112, 99, 105]⟩, .string ⟨#[42]⟩] 9)) fun e w' =>
  ∃ x : List UInt8, x.length ≤ 300 ∧ e = .returned (.string (bs x)) ∧ Tp w' tb (k + 1) ∧ Kp [tb] w w' := by
 subst hn
 exact one_short [[98, 108, 111, 99, 107], [110, 101, 116], [117, 115, 98, 124, 112, 99, 105], [42]] (by decide) (by decide) hk h (by decide)
theorem oneM3 {w : World} {tb k : Nat} (hk : k ≤ 1000000) (h : Tp w tb k) (n : Nat) (hn : w.heap.size = n) : Calls Tryz.prog 20 #[.pointer (some ⟨tb, 0, none⟩), .slice (some ⟨n, 0, none⟩) 3 3] (w.alloc (.cells #[.string ⟨#[]⟩, .string ⟨#[104, 105, 100]⟩, .string ⟨#[63, 42]⟩] 9)) fun e w' =>
  ∃ x : List UInt8, x.length ≤ 300 ∧ e = .returned (.string (bs x)) ∧ Tp w' tb (k + 1) ∧ Kp [tb] w w' := by
 subst hn
 exact one_short [[], [104, 105, 100], [63, 42]] (by decide) (by decide) hk h (by decide)
theorem oneM4 {w : World} {tb k : Nat} (hk : k ≤ 1000000) (h : Tp w tb k) (n : Nat) (hn : w.heap.size = n) : Calls Tryz.prog 20 #[.pointer (some ⟨tb, 0, none⟩), .slice (some ⟨n, 0, none⟩) 3 3] (w.alloc (.cells #[.string ⟨#[115, 105, 122, 101]⟩, .string ⟨#[118, 101, 110, 100, 111, 114]⟩, .string ⟨#[115, 108, 111, 116]⟩] 9)) fun e w' =>
  ∃ x : List UInt8, x.length ≤ 300 ∧ e = .returned (.string (bs x)) ∧ Tp w' tb (k + 1) ∧ Kp [tb] w w' := by
 subst hn
 exact one_short [[115, 105, 122, 101], [118, 101, 110, 100, 111, 114], [115, 108, 111, 116]] (by decide) (by decide) hk h (by decide)
theorem oneM5 {w : World} {tb k : Nat} (hk : k ≤ 1000000) (h : Tp w tb k) (n : Nat) (hn : w.heap.size = n) : Calls Tryz.prog 20 #[.pointer (some ⟨tb, 0, none⟩), .slice (some ⟨n, 0, none⟩) 4 4] (w.alloc (.cells #[.string ⟨#[]⟩, .string ⟨#[49]⟩, .string ⟨#[97, 99, 42]⟩, .string ⟨#[63, 42]⟩] 9)) fun e w' =>
  ∃ x : List UInt8, x.length ≤ 300 ∧ e = .returned (.string (bs x)) ∧ Tp w' tb (k + 1) ∧ Kp [tb] w w' := by
 subst hn
 exact one_short [[], [49], [97, 99, 42], [63, 42]] (by decide) (by decide) hk h (by decide)
theorem oneM6 {w : World} {tb k : Nat} (hk : k ≤ 1000000) (h : Tp w tb k) (n : Nat) (hn : w.heap.size = n) : Calls Tryz.prog 20 #[.pointer (some ⟨tb, 0, none⟩), .slice (some ⟨n, 0, none⟩) 4 4] (w.alloc (.cells #[.string ⟨#[73, 68, 95, 65]⟩, .string ⟨#[73, 68, 95, 66]⟩, .string ⟨#[73, 68, 95, 70, 83, 95, 85, 85, 73, 68]⟩, .string ⟨#[83, 85, 66, 83, 89, 83, 84, 69, 77]⟩] 9)) fun e w' =>
  ∃ x : List UInt8, x.length ≤ 300 ∧ e = .returned (.string (bs x)) ∧ Tp w' tb (k + 1) ∧ Kp [tb] w w' := by
 subst hn
 exact one_short [[73, 68, 95, 65], [73, 68, 95, 66], [73, 68, 95, 70, 83, 95, 85, 85, 73, 68], [83, 85, 66, 83, 89, 83, 84, 69, 77]] (by decide) (by decide) hk h (by decide)
theorem oneM7 {w : World} {tb k : Nat} (hk : k ≤ 1000000) (h : Tp w tb k) (n : Nat) (hn : w.heap.size = n) : Calls Tryz.prog 20 #[.pointer (some ⟨tb, 0, none⟩), .slice (some ⟨n, 0, none⟩) 4 4] (w.alloc (.cells #[.string ⟨#[]⟩, .string ⟨#[49]⟩, .string ⟨#[117, 63]⟩, .string ⟨#[63, 42]⟩] 9)) fun e w' =>
  ∃ x : List UInt8, x.length ≤ 300 ∧ e = .returned (.string (bs x)) ∧ Tp w' tb (k + 1) ∧ Kp [tb] w w' := by
 subst hn
 exact one_short [[], [49], [117, 63], [63, 42]] (by decide) (by decide) hk h (by decide)
theorem oneM8 {w : World} {tb k : Nat} (hk : k ≤ 1000000) (h : Tp w tb k) (n : Nat) (hn : w.heap.size = n) : Calls Tryz.prog 20 #[.pointer (some ⟨tb, 0, none⟩), .slice (some ⟨n, 0, none⟩) 3 3] (w.alloc (.cells #[.string ⟨#[115, 101, 97, 116]⟩, .string ⟨#[120, 42]⟩, .string ⟨#[42]⟩] 9)) fun e w' =>
  ∃ x : List UInt8, x.length ≤ 300 ∧ e = .returned (.string (bs x)) ∧ Tp w' tb (k + 1) ∧ Kp [tb] w w' := by
 subst hn
 exact one_short [[115, 101, 97, 116], [120, 42], [42]] (by decide) (by decide) hk h (by decide)
theorem oneM9 {w : World} {tb k : Nat} (hk : k ≤ 1000000) (h : Tp w tb k) (n : Nat) (hn : w.heap.size = n) : Calls Tryz.prog 20 #[.pointer (some ⟨tb, 0, none⟩), .slice (some ⟨n, 0, none⟩) 3 3] (w.alloc (.cells #[.string ⟨#[115, 100, 97]⟩, .string ⟨#[117, 115, 98, 42]⟩, .string ⟨#[112, 99, 105, 48]⟩] 9)) fun e w' =>
  ∃ x : List UInt8, x.length ≤ 300 ∧ e = .returned (.string (bs x)) ∧ Tp w' tb (k + 1) ∧ Kp [tb] w w' := by
 subst hn
 exact one_short [[115, 100, 97], [117, 115, 98, 42], [112, 99, 105, 48]] (by decide) (by decide) hk h (by decide)
theorem oneM10 {w : World} {tb k : Nat} (hk : k ≤ 1000000) (h : Tp w tb k) (n : Nat) (hn : w.heap.size = n) : Calls Tryz.prog 20 #[.pointer (some ⟨tb, 0, none⟩), .slice (some ⟨n, 0, none⟩) 3 3] (w.alloc (.cells #[.string ⟨#[117, 115, 98]⟩, .string ⟨#[98, 108, 111, 99, 107]⟩, .string ⟨#[112, 99, 105]⟩] 9)) fun e w' =>
  ∃ x : List UInt8, x.length ≤ 300 ∧ e = .returned (.string (bs x)) ∧ Tp w' tb (k + 1) ∧ Kp [tb] w w' := by
 subst hn
 exact one_short [[117, 115, 98], [98, 108, 111, 99, 107], [112, 99, 105]] (by decide) (by decide) hk h (by decide)
theorem oneM11 {w : World} {tb k : Nat} (hk : k ≤ 1000000) (h : Tp w tb k) (n : Nat) (hn : w.heap.size = n) : Calls Tryz.prog 20 #[.pointer (some ⟨tb, 0, none⟩), .slice (some ⟨n, 0, none⟩) 2 2] (w.alloc (.cells #[.string ⟨#[104, 105, 100]⟩, .string ⟨#[]⟩] 9)) fun e w' =>
  ∃ x : List UInt8, x.length ≤ 300 ∧ e = .returned (.string (bs x)) ∧ Tp w' tb (k + 1) ∧ Kp [tb] w w' := by
 subst hn
 exact one_short [[104, 105, 100], []] (by decide) (by decide) hk h (by decide)
theorem oneM12 {w : World} {tb k : Nat} (hk : k ≤ 1000000) (h : Tp w tb k) (n : Nat) (hn : w.heap.size = n) : Calls Tryz.prog 20 #[.pointer (some ⟨tb, 0, none⟩), .slice (some ⟨n, 0, none⟩) 2 2] (w.alloc (.cells #[.string ⟨#[115, 105, 122, 101]⟩, .string ⟨#[118, 101, 110, 100, 111, 114]⟩] 9)) fun e w' =>
  ∃ x : List UInt8, x.length ≤ 300 ∧ e = .returned (.string (bs x)) ∧ Tp w' tb (k + 1) ∧ Kp [tb] w w' := by
 subst hn
 exact one_short [[115, 105, 122, 101], [118, 101, 110, 100, 111, 114]] (by decide) (by decide) hk h (by decide)
theorem oneM13 {w : World} {tb k : Nat} (hk : k ≤ 1000000) (h : Tp w tb k) (n : Nat) (hn : w.heap.size = n) : Calls Tryz.prog 20 #[.pointer (some ⟨tb, 0, none⟩), .slice (some ⟨n, 0, none⟩) 3 3] (w.alloc (.cells #[.string ⟨#[49]⟩, .string ⟨#[97, 99, 109, 101]⟩, .string ⟨#[]⟩] 9)) fun e w' =>
  ∃ x : List UInt8, x.length ≤ 300 ∧ e = .returned (.string (bs x)) ∧ Tp w' tb (k + 1) ∧ Kp [tb] w w' := by
 subst hn
 exact one_short [[49], [97, 99, 109, 101], []] (by decide) (by decide) hk h (by decide)
theorem oneM14 {w : World} {tb k : Nat} (hk : k ≤ 1000000) (h : Tp w tb k) (n : Nat) (hn : w.heap.size = n) : Calls Tryz.prog 20 #[.pointer (some ⟨tb, 0, none⟩), .slice (some ⟨n, 0, none⟩) 4 4] (w.alloc (.cells #[.string ⟨#[112, 114, 111, 98, 101, 32, 37, 107]⟩, .string ⟨#[115, 99, 97, 110, 32, 36, 97, 116, 116, 114, 123, 115, 105, 122, 101, 125]⟩, .string ⟨#[110, 111, 110, 101]⟩, .string ⟨#[115, 108, 111, 119, 32, 37, 98]⟩] 9)) fun e w' =>
  ∃ x : List UInt8, x.length ≤ 300 ∧ e = .returned (.string (bs x)) ∧ Tp w' tb (k + 1) ∧ Kp [tb] w w' := by
 subst hn
 exact one_short [[112, 114, 111, 98, 101, 32, 37, 107], [115, 99, 97, 110, 32, 36, 97, 116, 116, 114, 123, 115, 105, 122, 101, 125], [110, 111, 110, 101], [115, 108, 111, 119, 32, 37, 98]] (by decide) (by decide) hk h (by decide)
theorem oneM15 {w : World} {tb k : Nat} (hk : k ≤ 1000000) (h : Tp w tb k) (n : Nat) (hn : w.heap.size = n) : Calls Tryz.prog 20 #[.pointer (some ⟨tb, 0, none⟩), .slice (some ⟨n, 0, none⟩) 3 3] (w.alloc (.cells #[.string ⟨#[111, 110, 101, 42]⟩, .string ⟨#[]⟩, .string ⟨#[63, 42]⟩] 9)) fun e w' =>
  ∃ x : List UInt8, x.length ≤ 300 ∧ e = .returned (.string (bs x)) ∧ Tp w' tb (k + 1) ∧ Kp [tb] w w' := by
 subst hn
 exact one_short [[111, 110, 101, 42], [], [63, 42]] (by decide) (by decide) hk h (by decide)
theorem oneM16 {w : World} {tb k : Nat} (hk : k ≤ 1000000) (h : Tp w tb k) (n : Nat) (hn : w.heap.size = n) : Calls Tryz.prog 20 #[.pointer (some ⟨tb, 0, none⟩), .slice (some ⟨n, 0, none⟩) 3 3] (w.alloc (.cells #[.string ⟨#[112, 114, 111, 98, 101, 32, 37, 107]⟩, .string ⟨#[101, 110, 118]⟩, .string ⟨#[110, 111, 110, 101]⟩] 9)) fun e w' =>
  ∃ x : List UInt8, x.length ≤ 300 ∧ e = .returned (.string (bs x)) ∧ Tp w' tb (k + 1) ∧ Kp [tb] w w' := by
 subst hn
 exact one_short [[112, 114, 111, 98, 101, 32, 37, 107], [101, 110, 118], [110, 111, 110, 101]] (by decide) (by decide) hk h (by decide)
theorem oneM17 {w : World} {tb k : Nat} (hk : k ≤ 1000000) (h : Tp w tb k) (n : Nat) (hn : w.heap.size = n) : Calls Tryz.prog 20 #[.pointer (some ⟨tb, 0, none⟩), .slice (some ⟨n, 0, none⟩) 3 3] (w.alloc (.cells #[.string ⟨#[73, 68, 95, 42]⟩, .string ⟨#[42]⟩, .string ⟨#[73, 68, 95, 65]⟩] 9)) fun e w' =>
  ∃ x : List UInt8, x.length ≤ 300 ∧ e = .returned (.string (bs x)) ∧ Tp w' tb (k + 1) ∧ Kp [tb] w w' := by
 subst hn
 exact one_short [[73, 68, 95, 42], [42], [73, 68, 95, 65]] (by decide) (by decide) hk h (by decide)
theorem oneM18 {w : World} {tb k : Nat} (hk : k ≤ 1000000) (h : Tp w tb k) (n : Nat) (hn : w.heap.size = n) : Calls Tryz.prog 20 #[.pointer (some ⟨tb, 0, none⟩), .slice (some ⟨n, 0, none⟩) 3 3] (w.alloc (.cells #[.string ⟨#[112, 97, 116, 104]⟩, .string ⟨#[99, 111, 110, 116, 101, 110, 116]⟩, .string ⟨#[110, 101, 116]⟩] 9)) fun e w' =>
  ∃ x : List UInt8, x.length ≤ 300 ∧ e = .returned (.string (bs x)) ∧ Tp w' tb (k + 1) ∧ Kp [tb] w w' := by
 subst hn
 exact one_short [[112, 97, 116, 104], [99, 111, 110, 116, 101, 110, 116], [110, 101, 116]] (by decide) (by decide) hk h (by decide)
theorem oneM19 {w : World} {tb k : Nat} (hk : k ≤ 1000000) (h : Tp w tb k) (n : Nat) (hn : w.heap.size = n) : Calls Tryz.prog 20 #[.pointer (some ⟨tb, 0, none⟩), .slice (some ⟨n, 0, none⟩) 3 3] (w.alloc (.cells #[.string ⟨#[73, 68, 95, 65]⟩, .string ⟨#[73, 68, 95, 66]⟩, .string ⟨#[83, 85, 66, 83, 89, 83, 84, 69, 77]⟩] 9)) fun e w' =>
  ∃ x : List UInt8, x.length ≤ 300 ∧ e = .returned (.string (bs x)) ∧ Tp w' tb (k + 1) ∧ Kp [tb] w w' := by
 subst hn
 exact one_short [[73, 68, 95, 65], [73, 68, 95, 66], [83, 85, 66, 83, 89, 83, 84, 69, 77]] (by decide) (by decide) hk h (by decide)
theorem oneM20 {w : World} {tb k : Nat} (hk : k ≤ 1000000) (h : Tp w tb k) (n : Nat) (hn : w.heap.size = n) : Calls Tryz.prog 20 #[.pointer (some ⟨tb, 0, none⟩), .slice (some ⟨n, 0, none⟩) 5 5] (w.alloc (.cells #[.string ⟨#[49]⟩, .string ⟨#[]⟩, .string ⟨#[37, 107]⟩, .string ⟨#[117, 49]⟩, .string ⟨#[36, 101, 110, 118, 123, 73, 68, 95, 65, 125, 120]⟩] 9)) fun e w' =>
  ∃ x : List UInt8, x.length ≤ 300 ∧ e = .returned (.string (bs x)) ∧ Tp w' tb (k + 1) ∧ Kp [tb] w w' := by
 subst hn
 exact one_short [[49], [], [37, 107], [117, 49], [36, 101, 110, 118, 123, 73, 68, 95, 65, 125, 120]] (by decide) (by decide) hk h (by decide)
theorem oneM21 {w : World} {tb k : Nat} (hk : k ≤ 1000000) (h : Tp w tb k) (n : Nat) (hn : w.heap.size = n) : Calls Tryz.prog 20 #[.pointer (some ⟨tb, 0, none⟩), .slice (some ⟨n, 0, none⟩) 4 4] (w.alloc (.cells #[.string ⟨#[115, 101, 97, 116]⟩, .string ⟨#[120, 49]⟩, .string ⟨#[97, 32, 98]⟩, .string ⟨#[37, 107]⟩] 9)) fun e w' =>
  ∃ x : List UInt8, x.length ≤ 300 ∧ e = .returned (.string (bs x)) ∧ Tp w' tb (k + 1) ∧ Kp [tb] w w' := by
 subst hn
 exact one_short [[115, 101, 97, 116], [120, 49], [97, 32, 98], [37, 107]] (by decide) (by decide) hk h (by decide)
theorem oneM23 {w : World} {tb k : Nat} (hk : k ≤ 1000000) (h : Tp w tb k) (n : Nat) (hn : w.heap.size = n) : Calls Tryz.prog 20 #[.pointer (some ⟨tb, 0, none⟩), .slice (some ⟨n, 0, none⟩) 6 6] (w.alloc (.cells #[.string ⟨#[100, 105, 115, 107, 47, 37, 107]⟩, .string ⟨#[100, 105, 115, 107, 47, 97, 32, 100, 105, 115, 107, 47, 98]⟩, .string ⟨#[98, 121, 47, 36, 101, 110, 118, 123, 73, 68, 95, 70, 83, 95, 85, 85, 73, 68, 125]⟩, .string ⟨#[99, 100]⟩, .string ⟨#[46, 46, 47, 120]⟩, .string ⟨#[100, 105, 115, 107]⟩] 9)) fun e w' =>
  ∃ x : List UInt8, x.length ≤ 300 ∧ e = .returned (.string (bs x)) ∧ Tp w' tb (k + 1) ∧ Kp [tb] w w' := by
 subst hn
 exact one_short [[100, 105, 115, 107, 47, 37, 107], [100, 105, 115, 107, 47, 97, 32, 100, 105, 115, 107, 47, 98], [98, 121, 47, 36, 101, 110, 118, 123, 73, 68, 95, 70, 83, 95, 85, 85, 73, 68, 125], [99, 100], [46, 46, 47, 120], [100, 105, 115, 107]] (by decide) (by decide) hk h (by decide)
theorem oneM24 {w : World} {tb k : Nat} (hk : k ≤ 1000000) (h : Tp w tb k) (n : Nat) (hn : w.heap.size = n) : Calls Tryz.prog 20 #[.pointer (some ⟨tb, 0, none⟩), .slice (some ⟨n, 0, none⟩) 4 4] (w.alloc (.cells #[.string ⟨#[114, 111, 111, 116]⟩, .string ⟨#[100, 105, 115, 107]⟩, .string ⟨#[97, 32, 98]⟩, .string ⟨#[37, 107]⟩] 9)) fun e w' =>
  ∃ x : List UInt8, x.length ≤ 300 ∧ e = .returned (.string (bs x)) ∧ Tp w' tb (k + 1) ∧ Kp [tb] w w' := by
 subst hn
 exact one_short [[114, 111, 111, 116], [100, 105, 115, 107], [97, 32, 98], [37, 107]] (by decide) (by decide) hk h (by decide)
theorem oneM27 {w : World} {tb k : Nat} (hk : k ≤ 1000000) (h : Tp w tb k) (n : Nat) (hn : w.heap.size = n) : Calls Tryz.prog 20 #[.pointer (some ⟨tb, 0, none⟩), .slice (some ⟨n, 0, none⟩) 4 4] (w.alloc (.cells #[.string ⟨#[117, 115, 98, 58, 118, 49]⟩, .string ⟨#[117, 115, 98, 58, 118, 50]⟩, .string ⟨#[]⟩, .string ⟨#[36, 101, 110, 118, 123, 77, 79, 68, 65, 76, 73, 65, 83, 125]⟩] 9)) fun e w' =>
  ∃ x : List UInt8, x.length ≤ 300 ∧ e = .returned (.string (bs x)) ∧ Tp w' tb (k + 1) ∧ Kp [tb] w w' := by
 subst hn
 exact one_short [[117, 115, 98, 58, 118, 49], [117, 115, 98, 58, 118, 50], [], [36, 101, 110, 118, 123, 77, 79, 68, 65, 76, 73, 65, 83, 125]] (by decide) (by decide) hk h (by decide)
theorem oneM28 {w : World} {tb k : Nat} (hk : k ≤ 1000000) (h : Tp w tb k) (n : Nat) (hn : w.heap.size = n) : Calls Tryz.prog 20 #[.pointer (some ⟨tb, 0, none⟩), .slice (some ⟨n, 0, none⟩) 4 4] (w.alloc (.cells #[.string ⟨#[45, 53]⟩, .string ⟨#[48]⟩, .string ⟨#[49, 48]⟩, .string ⟨#[49, 48, 48]⟩] 9)) fun e w' =>
  ∃ x : List UInt8, x.length ≤ 300 ∧ e = .returned (.string (bs x)) ∧ Tp w' tb (k + 1) ∧ Kp [tb] w w' := by
 subst hn
 exact one_short [[45, 53], [48], [49, 48], [49, 48, 48]] (by decide) (by decide) hk h (by decide)
end Go.Proofs.YtljkljnfbcmjdaaGreatDoor
