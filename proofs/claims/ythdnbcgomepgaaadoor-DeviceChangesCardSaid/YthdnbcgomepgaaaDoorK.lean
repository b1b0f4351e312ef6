/- Changed, the program's and the reference's; SameTexts. -/
import Derived.Test.YthdnbcgomepgaaaDoorP2
import Derived.Test.YthdnbcgomepgaaaDoorJ
namespace Go.Proofs.YthdnbcgomepgaaaDoor
open Go.RowKit

/-- A slice of attributes that can be cut. -/
def Sub (w : World) (v : Value) (l : List Atr) : Prop := (∃ a c, v = .slice a 0 c ∧ l = []) ∨ ∃ b o c, v = .slice (some ⟨b, o, none⟩) l.length c ∧ l.length ≤ c ∧ c ≤ maxLen ∧ b < w.heap.size ∧ Row w b o l
theorem Sub.has {w : World} {v : Value} {l : List Atr} (h : Sub w v l) : Has w v l := by
  rcases h with h | ⟨b, o, c, hv, _, _, hb, hr⟩
  · exact .inl h
  · exact .inr ⟨b, o, c, hv, hb, hr⟩
theorem Sub.below {w w' : World} {v : Value} {l : List Atr} (h : Sub w v l) (hb : Below w.heap.size w w') : Sub w' v l := by
  rcases h with h | ⟨b, o, c, hv, hc, hm, hbl, hr⟩
  · exact .inl h
  · exact .inr ⟨b, o, c, hv, hc, hm, Nat.lt_of_lt_of_le hbl hb.size, hr.keep (hb.block b hbl)⟩
theorem Owns.sub {w : World} {B : Nat} {v : Value} {l : List Atr} (h : Owns w B v l) : Sub w v l := by
  rcases h.2 with ⟨hv, hn⟩ | ⟨g, cap, cur, hv, hB, hh, hc, hm, _, ht⟩
  · exact .inl ⟨none, 0, hv, List.length_eq_zero_iff.1 hn⟩
  · exact .inr ⟨g, 0, cap, hv, hc, hm, block_lt hh, row_of_heap hh ht⟩
theorem Sub.drawn {w : World} {v : Value} {l : List Atr} (h : Sub w v l) (n : Nat) : Sub (w.drewN n) v l := h.below (drawn_below (Below.refl _ w) n)

/-- An own row of names. -/
def OwnN (w : World) (B : Nat) (v : Value) (ns : Names) : Prop := w.ownsRow B 9 1 v ns.length (ns.map Value.string)
theorem OwnN.nil (w : World) (B : Nat) : OwnN w B (.slice none 0 0) [] := ⟨rfl, .inl ⟨rfl, rfl⟩⟩
theorem OwnN.keep {w w' : World} {B : Nat} {v : Value} {ns : Names} (h : OwnN w B v ns) (hk : ∀ b, b < w.heap.size → v.ownBlock = some b → w'.heap[b]? = w.heap[b]?) : OwnN w' B v ns := by
  refine ⟨h.1, ?_⟩
  rcases h.2 with hn | ⟨g, cap, cur, hv, hB, hh, rest⟩
  · exact .inl hn
  · exact .inr ⟨g, cap, cur, hv, hB, (hk g (block_lt hh) (by rw [hv]; rfl)).trans hh, rest⟩
theorem OwnN.below {w w' : World} {B : Nat} {v : Value} {ns : Names} (h : OwnN w B v ns) (hb : Below w.heap.size w w') : OwnN w' B v ns := h.keep fun k hk _ => hb.block k hk
theorem OwnN.alloc {w : World} {B : Nat} {v : Value} {ns : Names} (h : OwnN w B v ns) (o : Obj) : OwnN (w.alloc o) B v ns := h.keep fun k hk _ => Below.heap_alloc w o k hk
theorem OwnN.append {w : World} {B : Nat} {v : Value} {ns : Names} {n : ByteArray} (h : w.ownsRow B 9 1 v (ns.length + 1) (ns.map Value.string ++ [.string n])) : OwnN w B v (ns ++ [n]) := by
  unfold OwnN
  rw [List.map_append, List.length_append]
  exact h
theorem OwnN.form {w : World} {B : Nat} {v : Value} {ns : Names} (h : OwnN w B v ns) : (v = .slice none 0 0 ∧ ns = []) ∨ ∃ g cap, v = .slice (some ⟨g, 0, none⟩) ns.length cap ∧ B ≤ g ∧ g < w.heap.size ∧ ∀ (j : Nat) x, ns[j]? = some x → w.cell? ⟨g, j, none⟩ = some (.string x) := by
  rcases h.2 with ⟨hv, hn⟩ | ⟨g, cap, cur, hv, hB, hh, hc, _, _, ht⟩
  · exact .inl ⟨hv, List.length_eq_zero_iff.1 hn⟩
  · refine .inr ⟨g, cap, hv, hB, block_lt hh, fun j x hx => ?_⟩
    have hj : j < ns.length := (List.getElem?_eq_some_iff.1 hx).1
    have h1 : (ns.map Value.string)[j]? = some (.string x) := by simp [hx]
    rw [← ht, List.getElem?_take, if_pos (by omega)] at h1
    rw [cell_of_row _ _ _ _ _ _ hh]
    simpa using h1
theorem ownN_below {B : Nat} {W w w' : World} {v : Value} {ns : Names} (h : OwnN w B v ns) (hb : Below B W w) (hB : B ≤ w.heap.size) {o : Obj} (hg : (w.alloc o).grownBy w' v.ownBlock) : Below B W w' := by
  refine (hb.alloc hB o).grown hg (by simp; omega) fun k hk => ?_
  rcases h.form with ⟨rfl, _⟩ | ⟨g, cap, rfl, hBg, _⟩
  · cases hk
  · cases hk
    exact hBg
theorem info9 : (Tryd.prog.info? 9).map (fun i => (i.zero, i.size, i.bytes)) = some (some (.string ⟨#[]⟩), 1, 16) := by kernel_rfl

set_option maxHeartbeats 1000000 in
set_option maxRecDepth 100000 in
theorem firstName_any (sa sb : Value) (a b : List Atr) (w : World) (hne : a ≠ [] ∨ b ≠ []) (ha : Sub w sa a) (hb : Sub w sb b) : Calls Tryd.prog 55 #[sa, sb] w (Bel (.string (firstN a b)) w) := by
  rcases ha with ⟨ada, ca, rfl, rfl⟩ | ⟨ba, oa, ca, rfl, hca, _, hba, hra⟩
  · rcases hb with ⟨adb, cb, rfl, rfl⟩ | ⟨bb, ob, cb, rfl, hcb, _, hbb, hrb⟩
    · simp at hne
    · match b, hne, hrb with
      | [], hne, _ => simp at hne
      | y :: b, _, hrb =>
        obtain ⟨hc, _⟩ := hrb 0 y rfl
        simp only [Nat.zero_mul, Nat.add_zero] at hc
        have hl : (((y :: b).length : Int) == 0) = false := by rw [beq_eq_false_iff_ne, List.length_cons]; omega
        have hl2 : (0 : Int) < ((y :: b).length : Int) := by rw [List.length_cons]; omega
        have hx : firstN [] (y :: b) = y.1 := rfl
        rw [hx]
        generalize (y :: b).length = m at *
        clear hrb hx
        go_enter Tryd.func55, Tryd.ntmps55
        go_wp2
        go_quiet (fail)
        go_wp2
        go_ret
        exact ⟨rfl, drawn_below (Below.refl _ _) _⟩
  · rcases hb with ⟨adb, cb, rfl, rfl⟩ | ⟨bb, ob, cb, rfl, hcb, _, hbb, hrb⟩
    · match a, hne, hra with
      | [], hne, _ => simp at hne
      | x :: a, _, hra =>
        obtain ⟨hc, _⟩ := hra 0 x rfl
        simp only [Nat.zero_mul, Nat.add_zero] at hc
        have hl2 : (0 : Int) < ((x :: a).length : Int) := by rw [List.length_cons]; omega
        have hx : firstN (x :: a) [] = x.1 := rfl
        rw [hx]
        generalize (x :: a).length = m at *
        clear hra hx
        go_enter Tryd.func55, Tryd.ntmps55
        go_wp2
        go_quiet (fail)
        go_wp2
        go_ret
        exact ⟨rfl, drawn_below (Below.refl _ _) _⟩
    · match a, b, hne, hra, hrb with
      | [], [], hne, _, _ => simp at hne
      | [], y :: b, _, _, hrb =>
        obtain ⟨hc, _⟩ := hrb 0 y rfl
        simp only [Nat.zero_mul, Nat.add_zero] at hc
        have hl : (((y :: b).length : Int) == 0) = false := by rw [beq_eq_false_iff_ne, List.length_cons]; omega
        have hl2 : (0 : Int) < ((y :: b).length : Int) := by rw [List.length_cons]; omega
        have hx : firstN [] (y :: b) = y.1 := rfl
        have hz : ([] : List Atr).length = 0 := rfl
        rw [hx, hz]
        generalize (y :: b).length = m at *
        clear hrb hx
        go_enter Tryd.func55, Tryd.ntmps55
        go_wp2
        go_quiet (fail)
        go_wp2
        go_ret
        exact ⟨rfl, drawn_below (Below.refl _ _) _⟩
      | x :: a, [], _, hra, _ =>
        obtain ⟨hc, _⟩ := hra 0 x rfl
        simp only [Nat.zero_mul, Nat.add_zero] at hc
        have hl2 : (0 : Int) < ((x :: a).length : Int) := by rw [List.length_cons]; omega
        have hx : firstN (x :: a) [] = x.1 := rfl
        have hz : ([] : List Atr).length = 0 := rfl
        rw [hx, hz]
        generalize (x :: a).length = m at *
        clear hra hx
        go_enter Tryd.func55, Tryd.ntmps55
        go_wp2
        go_quiet (fail)
        go_wp2
        go_ret
        exact ⟨rfl, drawn_below (Below.refl _ _) _⟩
      | x :: a, y :: b, _, hra, hrb =>
        obtain ⟨hc, _⟩ := hra 0 x rfl
        obtain ⟨hd, _⟩ := hrb 0 y rfl
        simp only [Nat.zero_mul, Nat.add_zero] at hc hd
        have hl : (((y :: b).length : Int) == 0) = false := by rw [beq_eq_false_iff_ne, List.length_cons]; omega
        have hl2 : (0 : Int) < ((y :: b).length : Int) := by rw [List.length_cons]; omega
        have hl3 : (0 : Int) < ((x :: a).length : Int) := by rw [List.length_cons]; omega
        have hl4 : decide (0 < (x :: a).length) = true := by rw [List.length_cons]; simp
        cases hxy : lt x.1 y.1 with
        | true =>
          have hx : firstN (x :: a) (y :: b) = x.1 := by rw [firstN_cc, if_pos hxy]
          have hxy' : Op.bytesLess x.1.toList y.1.toList = true := hxy
          rw [hx]
          generalize (y :: b).length = m at *
          generalize (x :: a).length = k at *
          clear hra hrb hx hxy
          go_enter Tryd.func55, Tryd.ntmps55
          go_wp2
          go_quiet (fail)
          go_wp2
          go_ret
          exact ⟨rfl, drawn_below (Below.refl _ _) _⟩
        | false =>
          have hx : firstN (x :: a) (y :: b) = y.1 := by rw [firstN_cc, if_neg (by rw [hxy]; simp)]
          have hxy' : Op.bytesLess x.1.toList y.1.toList = false := hxy
          rw [hx]
          generalize (y :: b).length = m at *
          generalize (x :: a).length = k at *
          clear hra hrb hx hxy
          go_enter Tryd.func55, Tryd.ntmps55
          go_wp2
          go_quiet (fail)
          go_wp2
          go_ret
          exact ⟨rfl, drawn_below (Below.refl _ _) _⟩

theorem Row.tail {w : World} {b o : Nat} {x : Atr} {l : List Atr} (h : Row w b o (x :: l)) : Row w b (o + 2) l := fun j y hy => by
  have := h (j + 1) y (by simpa using hy)
  rw [show o + 2 + j * 2 = o + (j + 1) * 2 by omega]
  exact this

set_option maxHeartbeats 1000000 in
set_option maxRecDepth 100000 in
theorem take_any (n : ByteArray) (sv : Value) (l : List Atr) (w0 w : World) (h : Sub w0 sv l) (hbel : Below w0.heap.size w0 w) : Calls Tryd.prog 56 #[sv, .string n] w fun e w' => ∃ u, e = .returned (.tuple #[.string (takeV n l), u]) ∧ Sub w0 u (takeR n l) ∧ Below w.heap.size w w' := by
  rcases h with ⟨ad, c, rfl, rfl⟩ | ⟨b, o, c, rfl, hc, hm, hb, hr⟩
  · go_enter Tryd.func56, Tryd.ntmps56
    go_wp2
    go_ret2
    exact ⟨_, rfl, .inl ⟨_, _, rfl, rfl⟩, Below.refl _ _⟩
  · match l, hc, hr with
    | [], _, _ =>
      have hz : ([] : List Atr).length = 0 := rfl
      rw [hz]
      go_enter Tryd.func56, Tryd.ntmps56
      go_wp2
      go_ret2
      exact ⟨_, rfl, .inl ⟨_, _, rfl, rfl⟩, Below.refl _ _⟩
    | x :: l, hc, hr =>
      obtain ⟨hc0, hc1⟩ := (hr.keep (hbel.block b hb)) 0 x rfl
      simp only [Nat.zero_mul, Nat.add_zero] at hc0 hc1
      have htl := hr.tail
      have hl : (((x :: l).length : Int) == 0) = false := by rw [beq_eq_false_iff_ne, List.length_cons]; omega
      have hl2 : (0 : Int) < ((x :: l).length : Int) := by rw [List.length_cons]; omega
      have hl3 : (1 : Int) ≤ ((x :: l).length : Int) := by rw [List.length_cons]; omega
      have hll : (x :: l).length - 1 = l.length := by simp
      by_cases hq : x.1 = n
      · have hq' := str_eq hq
        have hv : takeV n (x :: l) = x.2 := by rw [takeV_cons, if_pos hq]
        have ht : takeR n (x :: l) = l := by rw [takeR_cons, if_pos hq]
        rw [hv, ht]
        have hfin : Sub w0 (.slice (some ⟨b, o + 2, none⟩) ((x :: l).length - 1) (c - 1)) l := .inr ⟨b, o + 2, c - 1, by rw [hll], by simp at hc; omega, by omega, hb, htl⟩
        have hl0 : c = 1 → l.length = 0 := fun e => by rw [List.length_cons] at hc; omega
        have hfin2 : c = 1 → ∀ (a : Option Addr) (c' : Nat), Sub w0 (.slice a ((x :: l).length - 1) c') l := fun e a c' => .inl ⟨a, c', by rw [hll, hl0 e], List.length_eq_zero_iff.1 (hl0 e)⟩
        have HF := Lib.hid hfin
        have HF2 := Lib.hid hfin2
        clear hfin hfin2 hl0 hv ht hr htl hq hc hll
        generalize (x :: l).length = m at *
        by_cases hc1' : c = 1
        · go_enter Tryd.func56, Tryd.ntmps56
          go_wp2
          go_quiet (fail)
          go_wp2
          go_ret2
          exact ⟨_, rfl, HF2.out hc1' _ _, drawn_below (Below.refl _ _) _⟩
        · go_enter Tryd.func56, Tryd.ntmps56
          go_wp2
          go_quiet (fail)
          go_wp2
          go_ret2
          exact ⟨_, rfl, HF.out, drawn_below (Below.refl _ _) _⟩
      · have hq' := str_ne hq
        have hv : takeV n (x :: l) = ⟨#[]⟩ := by rw [takeV_cons, if_neg hq]
        have ht : takeR n (x :: l) = x :: l := by rw [takeR_cons, if_neg hq]
        rw [hv, ht]
        have Hfin := Lib.hid (show Sub w0 (.slice (some ⟨b, o, none⟩) (x :: l).length c) (x :: l) from .inr ⟨b, o, c, rfl, hc, hm, hb, hr⟩)
        clear hv ht hr htl hq hc hll hbel
        generalize (x :: l).length = m at *
        go_enter Tryd.func56, Tryd.ntmps56
        go_wp2
        go_ret2
        exact ⟨_, rfl, Hfin.out, Below.refl _ _⟩
end Go.Proofs.YthdnbcgomepgaaaDoor
