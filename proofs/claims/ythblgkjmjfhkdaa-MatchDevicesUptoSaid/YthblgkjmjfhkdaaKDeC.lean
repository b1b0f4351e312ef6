/- attrs: a list of attributes that ascends, drawn from a tape. -/
import Derived.Test.YthblgkjmjfhkdaaKDeB
namespace Go.Proofs.Ythblgkjmjfhkdaa.De
open Go.RowKit

def Good (l : List Atr) : Prop := Srt l ∧ ∀ x ∈ l, x.2 ≠ ⟨#[]⟩
theorem good_nil : Good [] := ⟨.nil, fun _ h => by cases h⟩
theorem good_set {l : List Atr} (n v : ByteArray) (h : Good l) : Good (setP n v l) := by
  refine ⟨srt_setP n v h.1, fun x hx => ?_⟩
  unfold setP at hx
  rcases List.mem_append.1 hx with hx | hx
  · exact h.2 x (List.mem_filter.1 hx).1
  · rcases List.mem_append.1 hx with hx | hx
    · unfold one at hx
      split at hx
      · cases hx
      · rename_i hv
        rw [List.mem_singleton.1 hx]
        exact hv
    · exact h.2 x (List.mem_filter.1 hx).1

theorem Owns.tape {w w' : World} {B tb : Nat} {v : Value} {l : List Atr} (h : Owns w B v l) (hB : tb < B) (hg : w.grownBy w' (some tb)) : Owns w' B v l := by
  refine h.keep fun k hk hv => hg.block k hk fun e => ?_
  have e' : k = tb := Option.some.inj e
  rcases h.form with ⟨hn, _⟩ | ⟨g, cap, hn, hBg, _⟩
  · rw [hn] at hv
    cases hv
  · rw [hn] at hv
    have e'' : g = k := Option.some.inj hv
    omega
theorem Has.tape {w w' : World} {tb : Nat} {v : Value} {l : List Atr} (h : Has w v l) (hg : w.grownBy w' (some tb)) (hv : v.ownBlock ≠ some tb) : Has w' v l := h.grown hg fun b hb e => hv (by rw [hb, e])
theorem grown_of_below {w w' : World} (h : Below w.heap.size w w') (r : Option Nat) : w.grownBy w' r := ⟨h.os, h.tape, h.output, h.size, fun k hk _ => h.block k hk⟩
theorem strs_new (w : World) (xs : List ByteArray) (t : TypeId) : ∀ (j : Nat) x, xs[j]? = some x → (w.alloc (.cells (xs.map Value.string).toArray t)).cell? ⟨w.heap.size, j, none⟩ = some (.string x) := fun j x hx => by
  rw [cell_of_row _ _ j _ _ _ (heap_last w (.cells (xs.map Value.string).toArray t))]
  simp [hx]

def N5 : List ByteArray := [⟨#[115, 105, 122, 101]⟩, ⟨#[118, 101, 110, 100, 111, 114]⟩, ⟨#[97, 100, 100, 114, 101, 115, 115]⟩, ⟨#[105, 110, 100, 101, 120]⟩, ⟨#[115, 108, 111, 116]⟩]
def V4 : List ByteArray := [⟨#[49]⟩, ⟨#[50]⟩, ⟨#[97, 99, 109, 101]⟩, ⟨#[97, 97, 58, 98, 98]⟩]
theorem v4_small : ∀ x ∈ V4, x.size ≤ 300 := by decide
theorem mem_setP {n v : ByteArray} {l : List Atr} {x : Atr} (h : x ∈ setP n v l) : x ∈ l ∨ x = (n, v) := by
  unfold setP at h
  rcases List.mem_append.1 h with h | h
  · exact .inl (List.mem_filter.1 h).1
  · rcases List.mem_append.1 h with h | h
    · exact .inr (mem_one h)
    · exact .inl (List.mem_filter.1 h).1
theorem one5 (tb k : Nat) (w : World) (hk : k ≤ 1000000) (h : Tape w tb k) :
    Calls Try.prog 22 #[.pointer (some ⟨tb, 0, none⟩), .slice (some ⟨w.heap.size, 0, none⟩) 5 5] (w.alloc (.cells #[.string ⟨#[115, 105, 122, 101]⟩, .string ⟨#[118, 101, 110, 100, 111, 114]⟩, .string ⟨#[97, 100, 100, 114, 101, 115, 115]⟩, .string ⟨#[105, 110, 100, 101, 120]⟩, .string ⟨#[115, 108, 111, 116]⟩] 9)) fun e w' =>
      ∃ x, x ∈ N5 ∧ e = .returned (.string x) ∧ Tape w' tb (k + 1) ∧ w.grownBy w' (some tb) := by
  have ha : ((N5 : List ByteArray).map Value.string).toArray = #[.string ⟨#[115, 105, 122, 101]⟩, .string ⟨#[118, 101, 110, 100, 111, 114]⟩, .string ⟨#[97, 100, 100, 114, 101, 115, 115]⟩, .string ⟨#[105, 110, 100, 101, 120]⟩, .string ⟨#[115, 108, 111, 116]⟩] := rfl
  have hn : N5.length = 5 := rfl
  have hlt := h.lt
  have h1 := one_any tb k w.heap.size 5 N5 (w.alloc (.cells (N5.map Value.string).toArray 9)) (by rw [hn]; omega) (by rw [hn]; omega) hk (h.below ((Below.refl _ w).alloc (Nat.le_refl _) _)) (by omega) (strs_new w N5 9)
  rw [ha, hn] at h1
  exact h1.mono fun e w' ⟨x, hx, he, hT, hg, _⟩ => ⟨x, hx, he, hT, (World.grownBy_alloc _ _ _).trans hg⟩
theorem one4 (tb k : Nat) (w : World) (hk : k ≤ 1000000) (h : Tape w tb k) :
    Calls Try.prog 22 #[.pointer (some ⟨tb, 0, none⟩), .slice (some ⟨w.heap.size, 0, none⟩) 4 4] (w.alloc (.cells #[.string ⟨#[49]⟩, .string ⟨#[50]⟩, .string ⟨#[97, 99, 109, 101]⟩, .string ⟨#[97, 97, 58, 98, 98]⟩] 9)) fun e w' =>
      ∃ x, x ∈ V4 ∧ e = .returned (.string x) ∧ Tape w' tb (k + 1) ∧ w.grownBy w' (some tb) := by
  have ha : ((V4 : List ByteArray).map Value.string).toArray = #[.string ⟨#[49]⟩, .string ⟨#[50]⟩, .string ⟨#[97, 99, 109, 101]⟩, .string ⟨#[97, 97, 58, 98, 98]⟩] := rfl
  have hn : V4.length = 4 := rfl
  have hlt := h.lt
  have h1 := one_any tb k w.heap.size 4 V4 (w.alloc (.cells (V4.map Value.string).toArray 9)) (by rw [hn]; omega) (by rw [hn]; omega) hk (h.below ((Below.refl _ w).alloc (Nat.le_refl _) _)) (by omega) (strs_new w V4 9)
  rw [ha, hn] at h1
  exact h1.mono fun e w' ⟨x, hx, he, hT, hg, _⟩ => ⟨x, hx, he, hT, (World.grownBy_alloc _ _ _).trans hg⟩

def AttrsPost (tb k : Nat) (w : World) (e : Ending) (w' : World) : Prop := ∃ u l k', e = .returned u ∧ Owns w' w.heap.size u l ∧ Good l ∧ l.length ≤ 4 ∧ k' ≤ k + 9 ∧ Tape w' tb k' ∧ w.grownBy w' (some tb) ∧ ∀ x ∈ l, x.2.size ≤ 300

set_option maxHeartbeats 1000000 in
set_option maxRecDepth 100000 in
theorem attrs_any (tb k : Nat) (w : World) (hk : k ≤ 1000) (h : Tape w tb k) : Calls Try.prog 24 #[.pointer (some ⟨tb, 0, none⟩)] w (AttrsPost tb k w) := by
  have HN := Lib.hid (next_any tb k 4 w (by omega) (by omega) (by omega) h)
  have htb := h.lt
  clear h
  go_enter Try.func24, Try.ntmps24
  go_wp2_with fail
  refine HN.out.mono ?_
  rintro e W ⟨r, hr, rfl, hT, hg, hsz⟩
  go_wp2_with fail
  go_loopw [3, 4] (fun s3 s4 wx => ∃ (m kt : Nat) (acc : List Atr), m ≤ 4 ∧ s4 = .int .i64 m ∧ Owns wx w.heap.size s3 acc ∧ Good acc ∧ acc.length + m ≤ 4 ∧ kt + 2 * m ≤ k + 9 ∧ Tape wx tb kt ∧ w.grownBy wx (some tb) ∧ ∀ x ∈ acc, x.2.size ≤ 300) (fun _ s4 _ => (intOf s4).toNat)
  case atStart => exact ⟨r, k + 1, [], by omega, rfl, Owns.nil _ _, good_nil, by simp; omega, by omega, hT, hg, fun _ h => (by cases h)⟩
  case round =>
    clear hT hg HN
    obtain ⟨m, kt, acc, hm, rfl, hown, hgood, hacc, hkt, hT, hg, hsm⟩ := hrel
    have HSm := Lib.hid hsm
    clear hsm
    cases m with
    | zero =>
      have hz : ¬ ((0 : Int) < ((0 : Nat) : Int)) := by omega
      go_wp2
      go_ret
      exact ⟨_, acc, kt, rfl, hown, hgood, by omega, by omega, hT, hg, HSm.out⟩
    | succ m =>
      have hz : (0 : Int) < ((m + 1 : Nat) : Int) := by omega
      have H1 := Lib.hid (one5 tb kt wr (by omega) hT)
      go_wp2_with fail
      refine H1.out.mono ?_
      rintro e W1 ⟨x, hx, rfl, hT1, hg1⟩
      have H2 := Lib.hid (one4 tb (kt + 1) W1 (by omega) hT1)
      go_wp2_with fail
      refine H2.out.mono ?_
      rintro e W2 ⟨y, hy, rfl, hT2, hg2⟩
      have hgg := hg1.trans hg2
      have hown2 := hown.tape htb hgg
      have H3 := Lib.hid (refSet_any x y _ acc W2 (by omega) hgood.1 hown2.has)
      go_wp2_with fail
      refine H3.out.mono ?_
      rintro e W3 ⟨u, rfl, hown3, hb3⟩
      have hlen := setP_length x y acc
      have hfin : w.grownBy W3 (some tb) := (hg.trans hgg).trans (grown_of_below hb3 _)
      have hown3' := hown3.mono (Nat.le_trans hg.size hgg.size)
      have hT3 := hT2.below hb3
      have hgood3 := good_set x y hgood
      have HSm3 := Lib.hid (show ∀ z ∈ setP x y acc, z.2.size ≤ 300 from fun z hz => by
        rcases mem_setP hz with h | h
        · exact HSm.out z h
        · rw [h]; exact v4_small y hy)
      have hwr : IntKind.i64.wrap (((m + 1 : Nat) : Int) - 1) = (m : Int) := by rw [IntKind.wrap_i64]; omega
      clear hgood hown hown2 hown3 hT hT1 hT2 hg hg1 hg2 hx hy hgg hb3 H1 H2 H3
      go_wp2
      exact ⟨⟨m, kt + 2, setP x y acc, by omega, by first | rfl | go_num, hown3', hgood3, by omega, by omega, hT3, hfin, HSm3.out⟩, by simp [intOf]⟩
end Go.Proofs.Ythblgkjmjfhkdaa.De
