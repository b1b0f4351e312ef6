/- The reference's Set, and attrs: the lists of the statements. attrs: a list of attributes that ascends, drawn from a tape. -/
import Derived.Test.YtldcediiobfhiaaGreatDoorQD1
namespace Go.Proofs.YtldcediiobfhiaaGreatDoor.De
open Go.RowKit
theorem info55 : (Tryz.prog.info? 99).map (fun i => (i.zero, i.size, i.bytes)) = some (some (.agg #[.string ⟨#[]⟩, .string ⟨#[]⟩]), 2, 32) := by kernel_rfl
theorem heap_last (w : World) (o : Obj) : (w.alloc o).heap[w.heap.size]? = some o := by
 show (w.heap.push o)[w.heap.size]? = some o
 simp
theorem cells_new (w : World) (c : Array Value) (t : TypeId) : ∀ j u, c.toList[j]? = some u → (w.alloc (.cells c t)).cell? ((⟨w.heap.size, 0, none⟩ : Addr).add j) = some u := by
 intro j u h
 have hadd : (⟨w.heap.size, 0, none⟩ : Addr).add j = ⟨w.heap.size, j, none⟩ := by unfold Addr.add; split <;> simp_all
 rw [hadd, cell_of_row _ _ j _ _ _ (heap_last w (.cells c t))]
 simpa using h
theorem Owns.alloc {w : World} {B : Nat} {v : Value} {l : List Atr} (h : Owns w B v l) (o : Obj) : Owns (w.alloc o) B v l := h.keep fun k hk _ => Below.heap_alloc w o k hk
theorem Owns.nil (w : World) (B : Nat) : Owns w B (.slice none 0 0) [] := ⟨rfl, .inl ⟨rfl, rfl⟩⟩
theorem Owns.append {w : World} {B : Nat} {v : Value} {l : List Atr} {n x : ByteArray} (h : w.ownsRow B 99 2 v (l.length + 1) (cellsP l ++ [.string n, .string x])) : Owns w B v (l ++ [(n, x)]) := by
 unfold Owns
 rw [cellsP_append, List.length_append]
 exact h
theorem str_empty {v : ByteArray} (h : v = ⟨#[]⟩) : v.toList.isEmpty = true := by subst h; rw [Lib.toList_data]; rfl
theorem str_full {v : ByteArray} (h : v ≠ ⟨#[]⟩) : v.toList.isEmpty = false := by
 rw [Lib.toList_data]
 cases hl : v.data.toList with
 | nil => exact absurd (ByteArray.ext (Array.toList_inj.1 (by simpa using hl))) h
 | cons _ _ => rfl
theorem str_ne {a b : ByteArray} (h : a ≠ b) : (a.toList == b.toList) = false := beq_eq_false_iff_ne.2 fun e => h (data_inj e)
theorem own_below {B : Nat} {W w w' : World} {v : Value} {l : List Atr} (h : Owns w B v l) (hb : Below B W w) (hB : B ≤ w.heap.size) {o : Obj} (hg : (w.alloc o).grownBy w' v.ownBlock) : Below B W w' := by
 refine (hb.alloc hB o).grown hg (by simp; omega) fun k hk => ?_
 rcases h.form with ⟨rfl, _⟩ | ⟨g, cap, rfl, hBg, _⟩
 ·cases hk
 ·cases hk
  exact hBg
set_option maxHeartbeats 1000000 in
set_option maxRecDepth 100000 in
theorem rset_walk (n v : ByteArray) (sv : Value) (l : List Atr) (w : World) (hl : l.length ≤ 1000000) (h : Has w sv l) :
  Calls Tryz.prog 50 #[sv, .string n, .string v] w fun e w' => ∃ u, e = .returned u ∧ Owns w' w.heap.size u (rset n v (decide (v = ⟨#[]⟩)) l) ∧ Below w.heap.size w w' := by
 obtain ⟨i0, hi0, hz0, hz1, hz2⟩ := info_parts info55
 have hde : v.toList.isEmpty = decide (v = ⟨#[]⟩) := by
  by_cases hv : v = ⟨#[]⟩
  ·rw [str_empty hv, decide_eq_true hv]
  ·rw [str_full hv, decide_eq_false hv]
 obtain ⟨d0, hd0⟩ : ∃ d0, decide (v = ⟨#[]⟩) = d0 := ⟨_, rfl⟩
 rw [hd0] at hde ⊢
 clear hd0
 obtain ⟨R, hR⟩ : ∃ R, rset n v d0 l = R := ⟨_, rfl⟩
 rw [hR]
 have HI := Lib.hid (And.intro hi0 (And.intro hz0 (And.intro hz1 hz2)))
 clear hi0 hz0 hz1 hz2
 rcases h with ⟨a, c, rfl, rfl⟩ | ⟨b, o, c, rfl, hb, hrow⟩
 ·have hz : ¬ ((0 : Int) < ((0 : Nat) : Int)) := by omega
  go_enter Tryz.func50, Tryz.ntmps50
  go_wp2
  go_loopw [7, 8, 9] (fun s7 s8 s9 wx => Owns w w.heap.size s7 [] ∧ s8 = .bool d0 ∧ s9 = .int .i64 0 ∧ w = wx) (fun _ _ _ _ => 0)
  case atStart => exact ⟨Owns.nil _ _, rfl, rfl, rfl⟩
  case round =>
   obtain ⟨hown, rfl, rfl, rfl⟩ := hrel
   cases d0 with
   | true =>
    subst hR
    go_wp2
    go_ret
    exact ⟨_, rfl, hown, Below.refl _ _⟩
   | false =>
    subst hR
    obtain ⟨hi0, hz0, hz1, hz2⟩ := HI.out
    obtain ⟨acc, ha⟩ : ∃ acc : List Atr, acc = [] := ⟨[], rfl⟩
    have hal : acc.length = 0 := by rw [ha]; rfl
    have Hown := Lib.hid (show Owns w w.heap.size _ acc by rw [ha]; exact hown)
    have Ha := Lib.hid ha
    clear ha hown
    have Hbl := Lib.hid (Below.refl w.heap.size w)
    have hBw := Nat.le_refl w.heap.size
    go_wp2_with (at_builtin; refine wpList_append_own _ rfl _ _ 32 rfl w.heap.size 99 i0 _ 2 32 Tryz.underlying32 hi0 hz0 hz1 hz2 rfl (by decide) _ _ _ rfl (Hown.out.alloc _) ⟨w.heap.size, 0, none⟩ 1 1 [.string n, .string v] rfl rfl (cells_new _ _ _) (by simp [Value.oneCell']) (by unfold maxLen; omega) (by omega) (by first | (simp; done) | (simp; omega)) ?_; intro v1 w1 hown1 hgrow1 _; have Hbl1 := Lib.hid (own_below Hown.out Hbl.out hBw hgrow1); have Hown1 := Lib.hid (Owns.append hown1); clear hown1 hgrow1)
    go_ret
    exact ⟨_, rfl, by have := Hown1.out; rwa [Ha.out] at this, Hbl1.out⟩
 ·have HR := Lib.hid hR
  have HW := Lib.hid hrow
  clear hR hrow
  go_enter Tryz.func50, Tryz.ntmps50
  go_wp2
  go_loopw [7, 8, 9] (fun s7 s8 s9 wx => ∃ (i : Nat) (d : Bool) (acc : List Atr), i ≤ l.length ∧ s8 = .bool d ∧ s9 = .int .i64 i ∧ Owns wx w.heap.size s7 acc ∧ Below w.heap.size w wx ∧ acc.length ≤ i * 2 ∧ acc ++ rset n v d (l.drop i) = R) (fun _ _ s9 _ => l.length - (intOf s9).toNat)
  case atStart => exact ⟨0, d0, [], by omega, rfl, rfl, Owns.nil _ _, Below.refl _ _, by simp, by simpa using HR.out⟩
  case round =>
   obtain ⟨i, d, acc, hi, rfl, rfl, hown, hbl, hal, hacc⟩ := hrel
   obtain ⟨hi0, hz0, hz1, hz2⟩ := HI.out
   have hBw := hbl.size
   clear HR hde
   by_cases hlt : i < l.length
   ·have hiz : (i : Int) < (l.length : Int) := by omega
    obtain ⟨x, hx⟩ : ∃ x, l[i]? = some x := ⟨_, List.getElem?_eq_getElem hlt⟩
    have hdr : l.drop i = x :: l.drop (i + 1) := by
     obtain ⟨h1, h2⟩ := List.getElem?_eq_some_iff.1 hx
     rw [List.drop_eq_getElem_cons h1, h2]
    rw [hdr, rset] at hacc
    obtain ⟨hc0, hc1⟩ := HW.out i x hx
    have Hw0 := Lib.hid hc0
    have Hw1 := Lib.hid hc1
    rw [← hbl.cell (p := ⟨b, o + i * 2, none⟩) hb] at hc0
    rw [← hbl.cell (p := ⟨b, o + i * 2 + 1, none⟩) hb] at hc1
    obtain ⟨x1, x2⟩ := x
    simp only at hc0 hc1 hacc
    have Hown := Lib.hid hown
    have Hbl := Lib.hid hbl
    clear hown hbl hx hdr
    cases d with
    | true =>
     simp only [Bool.not_true, Bool.false_and, Bool.false_eq_true, if_false, List.nil_append, Bool.or_false] at hacc
     by_cases hxn : x1 = n
     ·rw [if_pos hxn, List.nil_append] at hacc
      have Hacc := Lib.hid hacc
      subst hxn
      clear hacc
      go_wp2
      exact ⟨⟨i + 1, true, acc, by omega, rfl, by go_num, Hown.out, Hbl.out, by omega, Hacc.out⟩, by simp [intOf]; omega⟩
     ·have hq := str_ne hxn
      rw [if_neg hxn, ← List.append_assoc] at hacc
      have Hacc := Lib.hid hacc
      clear hacc hxn
      go_wp2_with (at_builtin; refine wpList_append_own _ rfl _ _ 32 rfl w.heap.size 99 i0 _ 2 32 Tryz.underlying32 hi0 hz0 hz1 hz2 rfl (by decide) _ _ _ rfl (Hown.out.alloc _) ⟨wr.heap.size, 0, none⟩ 1 1 [.string x1, .string x2] rfl rfl (cells_new _ _ _) (by simp [Value.oneCell']) (by unfold maxLen; omega) (by omega) (by first | (simp; done) | (simp; omega)) ?_; intro v1 w1 hown1 hgrow1 _; have Hbl1 := Lib.hid (own_below Hown.out Hbl.out hBw hgrow1); have Hown1 := Lib.hid (Owns.append hown1); clear hown1 hgrow1)
      exact ⟨⟨i + 1, true, acc ++ [(x1, x2)], by omega, rfl, by go_num, Hown1.out, Hbl1.out, by simp; omega, Hacc.out⟩, by simp [intOf]; omega⟩
    | false =>
     simp only [Bool.not_false, Bool.true_and, Bool.false_or] at hacc
     cases hlx : lt x1 n with
     | true =>
      have hq := str_ne (lt_ne hlx)
      rw [hlx, if_neg (lt_ne hlx), Bool.not_true] at hacc
      simp only [Bool.false_eq_true, if_false, List.nil_append] at hacc
      have hlx' : Op.bytesLess x1.toList n.toList = true := hlx
      have Hacc := Lib.hid hacc
      clear hacc hlx
      go_wp2_with (at_builtin; refine wpList_append_own _ rfl _ _ 32 rfl w.heap.size 99 i0 _ 2 32 Tryz.underlying32 hi0 hz0 hz1 hz2 rfl (by decide) _ _ _ rfl (Hown.out.alloc _) ⟨wr.heap.size, 0, none⟩ 1 1 [.string x1, .string x2] rfl rfl (cells_new _ _ _) (by simp [Value.oneCell']) (by unfold maxLen; omega) (by omega) (by first | (simp; done) | (simp; omega)) ?_; intro v1 w1 hown1 hgrow1 _; have Hbl1 := Lib.hid (own_below Hown.out Hbl.out hBw hgrow1); have Hown1 := Lib.hid (Owns.append hown1); clear hown1 hgrow1)
      exact ⟨⟨i + 1, false, acc ++ [(x1, x2)], by omega, rfl, by go_num, Hown1.out, Hbl1.out, by simp; omega, by simpa using Hacc.out⟩, by simp [intOf]; omega⟩
     | false =>
      have hlx' : Op.bytesLess x1.toList n.toList = false := hlx
      rw [hlx, Bool.not_false, if_pos rfl, ← List.append_assoc] at hacc
      by_cases hxn : x1 = n
      ·rw [if_pos hxn, List.nil_append] at hacc
       have Hacc := Lib.hid hacc
       subst hxn
       clear hacc hlx
       go_wp2_with (at_builtin; refine wpList_append_own _ rfl _ _ 32 rfl w.heap.size 99 i0 _ 2 32 Tryz.underlying32 hi0 hz0 hz1 hz2 rfl (by decide) _ _ _ rfl (Hown.out.alloc _) ⟨wr.heap.size, 0, none⟩ 1 1 [.string x1, .string v] rfl rfl (cells_new _ _ _) (by simp [Value.oneCell']) (by unfold maxLen; omega) (by omega) (by first | (simp; done) | (simp; omega)) ?_; intro v1 w1 hown1 hgrow1 _; have Hbl1 := Lib.hid (own_below Hown.out Hbl.out hBw hgrow1); have Hown1 := Lib.hid (Owns.append hown1); clear hown1 hgrow1; have e0 := (Hbl1.out.cell (p := ⟨b, o + i * 2, none⟩) hb).trans Hw0.out; have e1 := (Hbl1.out.cell (p := ⟨b, o + i * 2 + 1, none⟩) hb).trans Hw1.out; have hbw1 := Hbl1.out.size)
       exact ⟨⟨i + 1, true, acc ++ [(x1, v)], by omega, rfl, by go_num, Hown1.out, Hbl1.out, by simp; omega, Hacc.out⟩, by simp [intOf]; omega⟩
      ·have hq := str_ne hxn
       rw [if_neg hxn, ← List.append_assoc] at hacc
       have Hacc := Lib.hid hacc
       clear hacc hlx hxn
       go_wp2_with (first
        | (at_builtin; refine wpList_append_own _ rfl _ _ 32 rfl w.heap.size 99 i0 _ 2 32 Tryz.underlying32 hi0 hz0 hz1 hz2 rfl (by decide) _ _ _ rfl (Hown.out.alloc _) ⟨wr.heap.size, 0, none⟩ 1 1 [.string n, .string v] rfl rfl (cells_new _ _ _) (by simp [Value.oneCell']) (by unfold maxLen; omega) (by omega) (by first | (simp; done) | (simp; omega)) ?_; intro v1 w1 hown1 hgrow1 _; have Hbl1 := Lib.hid (own_below Hown.out Hbl.out hBw hgrow1); have Hown1 := Lib.hid (Owns.append hown1); clear hown1 hgrow1; have e0 := (Hbl1.out.cell (p := ⟨b, o + i * 2, none⟩) hb).trans Hw0.out; have e1 := (Hbl1.out.cell (p := ⟨b, o + i * 2 + 1, none⟩) hb).trans Hw1.out; have hbw1 := Hbl1.out.size; have hal1 : (acc ++ [(n, v)]).length ≤ i * 2 + 1 := by simp; omega)
        | (at_builtin; refine wpList_append_own _ rfl _ _ 32 rfl w.heap.size 99 i0 _ 2 32 Tryz.underlying32 hi0 hz0 hz1 hz2 rfl (by decide) _ _ _ rfl (Hown1.out.alloc _) ⟨w1.heap.size, 0, none⟩ 1 1 [.string x1, .string x2] rfl rfl (cells_new _ _ _) (by simp [Value.oneCell']) (by unfold maxLen; omega) (by omega) (by first | (simp; done) | (simp; omega)) ?_; intro v2 w2 hown2 hgrow2 _; have Hbl2 := Lib.hid (own_below Hown1.out Hbl1.out hbw1 hgrow2); have Hown2 := Lib.hid (Owns.append hown2); clear hown2 hgrow2))
       exact ⟨⟨i + 1, true, acc ++ [(n, v)] ++ [(x1, x2)], by omega, rfl, by go_num, Hown2.out, Hbl2.out, by simp; omega, by simpa using Hacc.out⟩, by simp [intOf]; omega⟩
   ·have hiz : ¬ ((i : Int) < (l.length : Int)) := by omega
    have hdr : l.drop i = [] := List.drop_eq_nil_iff.2 (by omega)
    rw [hdr, rset] at hacc
    have Hown := Lib.hid hown
    have Hbl := Lib.hid hbl
    have Hacc := Lib.hid hacc
    clear hown hbl hacc hdr
    cases d with
    | true =>
     go_wp2
     go_ret
     exact ⟨_, rfl, by have := Hacc.out; simp only [if_true, List.append_nil] at this; rw [← this]; exact Hown.out, Hbl.out⟩
    | false =>
     go_wp2_with (at_builtin; refine wpList_append_own _ rfl _ _ 32 rfl w.heap.size 99 i0 _ 2 32 Tryz.underlying32 hi0 hz0 hz1 hz2 rfl (by decide) _ _ _ rfl (Hown.out.alloc _) ⟨wr.heap.size, 0, none⟩ 1 1 [.string n, .string v] rfl rfl (cells_new _ _ _) (by simp [Value.oneCell']) (by unfold maxLen; omega) (by omega) (by first | (simp; done) | (simp; omega)) ?_; intro v1 w1 hown1 hgrow1 _; have Hbl1 := Lib.hid (own_below Hown.out Hbl.out hBw hgrow1); have Hown1 := Lib.hid (Owns.append hown1); clear hown1 hgrow1)
     go_ret
     exact ⟨_, rfl, by have := Hacc.out; simp only [Bool.false_eq_true, if_false] at this; rw [← this]; exact Hown1.out, Hbl1.out⟩
/-- The reference's Set, at a list that ascends. -/
theorem refSet_any (n v : ByteArray) (sv : Value) (l : List Atr) (w : World) (hl : l.length ≤ 1000000) (hs : Srt l) (h : Has w sv l) :
  Calls Tryz.prog 50 #[sv, .string n, .string v] w fun e w' => ∃ u, e = .returned u ∧ Owns w' w.heap.size u (setP n v l) ∧ Below w.heap.size w w' := by
 rw [← rset_eq n v hs]
 exact rset_walk n v sv l w hl h
end Go.Proofs.YtldcediiobfhiaaGreatDoor.De
namespace Go.Proofs.YtldcediiobfhiaaGreatDoor.De
open Go.RowKit
def Good (l : List Atr) : Prop := Srt l ∧ ∀ x ∈ l, x.2 ≠ ⟨#[]⟩
theorem good_nil : Good [] := ⟨.nil, fun _ h => by cases h⟩
theorem good_set {l : List Atr} (n v : ByteArray) (h : Good l) : Good (setP n v l) := by
 refine ⟨srt_setP n v h.1, fun x hx => ?_⟩
 unfold setP at hx
 rcases List.mem_append.1 hx with hx | hx
 ·exact h.2 x (List.mem_filter.1 hx).1
 ·rcases List.mem_append.1 hx with hx | hx
  ·unfold one at hx
   split at hx
   ·cases hx
   ·rename_i hv
    rw [List.mem_singleton.1 hx]
    exact hv
  ·exact h.2 x (List.mem_filter.1 hx).1
theorem Owns.tape {w w' : World} {B tb : Nat} {v : Value} {l : List Atr} (h : Owns w B v l) (hB : tb < B) (hg : w.grownBy w' (some tb)) : Owns w' B v l := by
 refine h.keep fun k hk hv => hg.block k hk fun e => ?_
 have e' : k = tb := Option.some.inj e
 rcases h.form with ⟨hn, _⟩ | ⟨g, cap, hn, hBg, _⟩
 ·rw [hn] at hv
  cases hv
 ·rw [hn] at hv
  have e'' : g = k := Option.some.inj hv
  omega
theorem Has.tape {w w' : World} {tb : Nat} {v : Value} {l : List Atr} (h : Has w v l) (hg : w.grownBy w' (some tb)) (hv : v.ownBlock ≠ some tb) : Has w' v l := h.grown hg fun b hb e => hv (by rw [hb, e])
theorem grown_of_below {w w' : World} (h : Below w.heap.size w w') (r : Option Nat) : w.grownBy w' r := ⟨h.os, h.tape, h.output, h.size, fun k hk _ => h.block k hk⟩
theorem strs_new (w : World) (xs : List ByteArray) (t : TypeId) : ∀ (j : Nat) x, xs[j]? = some x → (w.alloc (.cells (xs.map Value.string).toArray t)).cell? ⟨w.heap.size, j, none⟩ = some (.string x) := fun j x hx => by
 rw [cell_of_row _ _ j _ _ _ (heap_last w (.cells (xs.map Value.string).toArray t))]
 simp [hx]
def N5 : List ByteArray := [⟨#[115, 105, 122, 101]⟩, ⟨#[118, 101, 110, 100, 111, 114]⟩, ⟨#[97, 100, 100, 114, 101, 115, 115]⟩, ⟨#[105, 110, 100, 101, 120]⟩, ⟨#[115, 108, 111, 116]⟩]
def V4 : List ByteArray := [⟨#[49]⟩, ⟨#[50]⟩, ⟨#[97, 99, 109, 101]⟩, ⟨#[97, 97, 58, 98, 98]⟩]
theorem v4_small : ∀ x ∈ V4, x.size ≤ 300 := by decide
theorem mem_setP {n v : ByteArray} {l : List Atr} {x : Atr} (h : x ∈ setP n v l) : x ∈ l ∨ x = (n, v) := by
 unfold setP at h
 rcases List.mem_append.1 h with h | h
 ·exact .inl (List.mem_filter.1 h).1
 ·rcases List.mem_append.1 h with h | h
  ·exact .inr (mem_one h)
  ·exact .inl (List.mem_filter.1 h).1
theorem one5 (tb k : Nat) (w : World) (hk : k ≤ 1000000) (h : Tape w tb k) :
  Calls Tryz.prog 20 #[.pointer (some ⟨tb, 0, none⟩), .slice (some ⟨w.heap.size, 0, none⟩) 5 5] (w.alloc (.cells #[.string ⟨#[115, 105, 122, 101]⟩, .string ⟨#[118, 101, 110, 100, 111, 114]⟩, .string ⟨#[97, 100, 100, 114, 101, 115, 115]⟩, .string ⟨#[105, 110, 100, 101, 120]⟩, .string ⟨#[115, 108, 111, 116]⟩] 9)) fun e w' =>
   ∃ x, x ∈ N5 ∧ e = .returned (.string x) ∧ Tape w' tb (k + 1) ∧ w.grownBy w' (some tb) := by
 have ha : ((N5 : List ByteArray).map Value.string).toArray = #[.string ⟨#[115, 105, 122, 101]⟩, .string ⟨#[118, 101, 110, 100, 111, 114]⟩, .string ⟨#[97, 100, 100, 114, 101, 115, 115]⟩, .string ⟨#[105, 110, 100, 101, 120]⟩, .string ⟨#[115, 108, 111, 116]⟩] := rfl
 have hn : N5.length = 5 := rfl
 have hlt := h.lt
 have h1 := one_any tb k w.heap.size 5 N5 (w.alloc (.cells (N5.map Value.string).toArray 9)) (by rw [hn]; omega) (by rw [hn]; omega) hk (h.below ((Below.refl _ w).alloc (Nat.le_refl _) _)) (by omega) (strs_new w N5 9)
 rw [ha, hn] at h1
 exact h1.mono fun e w' ⟨x, hx, he, hT, hg, _⟩ => ⟨x, hx, he, hT, (World.grownBy_alloc _ _ _).trans hg⟩
theorem one4 (tb k : Nat) (w : World) (hk : k ≤ 1000000) (h : Tape w tb k) :
  Calls Tryz.prog 20 #[.pointer (some ⟨tb, 0, none⟩), .slice (some ⟨w.heap.size, 0, none⟩) 4 4] (w.alloc (.cells #[.string ⟨#[49]⟩, .string ⟨#[50]⟩, .string ⟨#[97, 99, 109, 101]⟩, .string ⟨#[97, 97, 58, 98, 98]⟩] 9)) fun e w' =>
   ∃ x, x ∈ V4 ∧ e = .returned (.string x) ∧ Tape w' tb (k + 1) ∧ w.grownBy w' (some tb) := by
 have ha : ((V4 : List ByteArray).map Value.string).toArray = #[.string ⟨#[49]⟩, .string ⟨#[50]⟩, .string ⟨#[97, 99, 109, 101]⟩, .string ⟨#[97, 97, 58, 98, 98]⟩] := rfl
 have hn : V4.length = 4 := rfl
 have hlt := h.lt
 have h1 := one_any tb k w.heap.size 4 V4 (w.alloc (.cells (V4.map Value.string).toArray 9)) (by rw [hn]; omega) (by rw [hn]; omega) hk (h.below ((Below.refl _ w).alloc (Nat.le_refl _) _)) (by omega) (strs_new w V4 9)
 rw [ha, hn] at h1
 exact h1.mono fun e w' ⟨x, hx, he, hT, hg, _⟩ => ⟨x, hx, he, hT, (World.grownBy_alloc _ _ _).trans hg⟩
end Go.Proofs.YtldcediiobfhiaaGreatDoor.De
