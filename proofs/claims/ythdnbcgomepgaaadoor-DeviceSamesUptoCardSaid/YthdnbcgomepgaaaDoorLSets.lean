/- DeviceSets: the walk. -/
import Derived.Test.YthdnbcgomepgaaaDoorJ
namespace Go.Proofs.YthdnbcgomepgaaaDoor
open Go.RowKit

theorem row_cells {w : World} {g : Nat} {l : List Atr} (h : Row w g 0 l) : ∀ j u, (cellsP l)[j]? = some u → w.cell? ((⟨g, 0, none⟩ : Addr).add j) = some u := fun j u hj => by
  have hadd : (⟨g, 0, none⟩ : Addr).add j = ⟨g, j, none⟩ := by unfold Addr.add; split <;> simp_all
  rw [hadd]
  have hjl : j < l.length * 2 := by rw [← cellsP_len]; exact (List.getElem?_eq_some_iff.1 hj).1
  obtain ⟨x, hx⟩ : ∃ x, l[j / 2]? = some x := ⟨_, List.getElem?_eq_getElem (by omega)⟩
  have h1 := cellsP_get l _ x hx
  have h2 := h _ x hx
  rcases Nat.mod_two_eq_zero_or_one j with hm | hm
  · rw [show j / 2 * 2 = j by omega] at h1
    rw [show 0 + j / 2 * 2 = j by omega] at h2
    rw [hj] at h1
    rw [h2.1, h1.1]
  · rw [show j / 2 * 2 + 1 = j by omega] at h1
    rw [show 0 + j / 2 * 2 + 1 = j by omega] at h2
    rw [hj] at h1
    rw [h2.2, h1.2]

set_option maxHeartbeats 2000000 in
set_option maxRecDepth 100000 in
theorem deviceSets_walk (la : Option Addr) (ln lc : Nat) (n v : ByteArray) (w : World) (hm : Max w) (h : Ints w w.heap.size (.slice la ln lc)) : Calls Tryd.prog 5 #[.slice la ln lc, .string n, .string v] w (Bel (.bool true) w) := by
  obtain ⟨i0, hi0, hz0, hz1, hz2⟩ := info_parts info55
  have HM := Lib.hid hm
  have H0 := Lib.hid (attrs_any w.heap.size 0 (w.alloc (.cells #[.slice la ln lc, .int .i64 0] 30)) (by omega) (tape_new w _ h))
  clear hm h
  go_enter Tryd.func5, Tryd.ntmps5
  go_wp2_with fail
  refine H0.out.mono ?_
  rintro e W1 ⟨u, l, k1, rfl, hown, hgood, hlen, hk1, hT, hg⟩
  have hb1 : Below w.heap.size w W1 := below_tape ((Below.refl _ w).alloc (Nat.le_refl _) _) (by simp) (Nat.le_refl _) hg
  have hBw : w.heap.size < (w.alloc (.cells #[.slice la ln lc, .int .i64 0] 30)).heap.size := by simp
  go_wp2_with fail
  refine (next_any w.heap.size k1 2 W1 (by omega) (by omega) (by omega) hT).mono ?_
  rintro e W2 ⟨r, hr, rfl, hT2, hg2, hs2⟩
  have hown2 := hown.tape hBw hg2
  have hb2 := below_tape hb1 hb1.size (Nat.le_refl _) hg2
  clear hown hT hg hg2 hs2 hb1 H0
  by_cases hr0 : r = 0
  · subst hr0
    have HO := Lib.hid (oneN4 w.heap.size (k1 + 1) W2 (by omega) hT2)
    go_wp2_with fail
    refine HO.out.mono ?_
    rintro e W3 ⟨x, hx, rfl, hT3, hg3⟩
    have hown3 := hown2.tape hBw hg3
    have hb3 := below_tape hb2 hb2.size (Nat.le_refl _) hg3
    clear hown2 hT2 hg3 hT3 hx HO hb2
    rcases hown3.form with ⟨rfl, hl0⟩ | ⟨g, cap, rfl, hBg, hgl, hcap, hrow⟩
    · have hsa : Has W3 (.slice none 0 0) l ∧ Has W3 (.slice none 0 0) l := ⟨.inl ⟨none, 0, rfl, hl0⟩, .inl ⟨none, 0, rfl, hl0⟩⟩
      have hblA := hb3
      clear hown3 hb3
      have Hsa := Lib.hid (And.intro hsa hblA)
      clear hsa hblA
      go_wp2_with fail
      refine (set_any x v _ l _ (by omega) hgood.1 Hsa.out.1.1).mono ?_
      rintro e W5 ⟨o5, rfl, hh5, hb5⟩
      have hb5' := Hsa.out.2.trans (hb5.mono Hsa.out.2.size)
      have hu5 := Hsa.out.1.1.below hb5
      have hw5 := Hsa.out.1.2.below hb5
      have H5 := Lib.hid (And.intro hh5 (And.intro hb5' (And.intro hu5 hw5)))
      clear hh5 hb5 hb5' hu5 hw5
      go_wp2_with fail
      refine (refSet_any x v _ l _ (by omega) hgood.1 H5.out.2.2.1).mono ?_
      rintro e W6 ⟨o6, rfl, ho6, hb6⟩
      have H6 := Lib.hid (And.intro ho6.has (And.intro (H5.out.1.below hb6) (And.intro (H5.out.2.1.trans (hb6.mono H5.out.2.1.size)) (And.intro (H5.out.2.2.1.below hb6) (H5.out.2.2.2.below hb6)))))
      clear ho6 hb6
      go_wp2_with fail
      refine (sameAttrs_any _ _ _ _ _ (Nat.le_trans (setP_length x v l) (by omega)) H6.out.2.1 H6.out.1).mono ?_
      rw [decide_eq_true rfl]
      rintro e W7 ⟨rfl, hb7⟩
      have H7 := Lib.hid (And.intro (H6.out.2.2.1.trans (hb7.mono H6.out.2.2.1.size)) (And.intro (H6.out.2.2.2.1.below hb7) (H6.out.2.2.2.2.below hb7)))
      clear hb7
      go_wp2_with fail
      refine (sameAttrs_any _ _ l l _ (by omega) H7.out.2.1 H7.out.2.2).mono ?_
      rw [decide_eq_true rfl]
      rintro e W8 ⟨rfl, hb8⟩
      have H8 := Lib.hid (H7.out.1.trans (hb8.mono H7.out.1.size))
      clear hb8
      go_wp2_with fail
      refine (known_any _ (HM.out.below H8.out)).mono ?_
      rintro e W9 ⟨rfl, hb9⟩
      have H9 := Lib.hid (H8.out.trans (hb9.mono H8.out.size))
      clear hb9
      go_wp2
      go_ret
      exact ⟨rfl, H9.out⟩
    · have hsrc := row_cells hrow
      have Hsrc := Lib.hid hsrc
      have Hu := Lib.hid (show Has W3 (.slice (some ⟨g, 0, none⟩) l.length cap) l from .inr ⟨g, 0, cap, rfl, hgl, hrow⟩)
      have Hbl := Lib.hid hb3
      have hBw := Hbl.out.size
      clear hown3 hb3 hsrc hrow
      go_wp2_with (at_builtin; refine wpList_append_own _ rfl _ _ 22 rfl W3.heap.size 55 i0 _ 2 32 Tryd.underlying22 hi0 hz0 hz1 hz2 rfl (by decide) _ _ _ rfl (Owns.nil W3 W3.heap.size) ⟨g, 0, none⟩ l.length cap (cellsP l) rfl (cellsP_len l) Hsrc.out (cellsP_one l) (by unfold maxLen; simp only [List.length_nil]; omega) (by simp only [List.length_nil]; omega) (Nat.le_refl _) ?_; intro v1 w1 hown1 hgrow1 _; have Hown1 := Lib.hid hown1; have Hgrow1 := Lib.hid hgrow1; clear hown1 hgrow1)
      have hsa : Has w1 (.slice (some ⟨g, 0, none⟩) l.length cap) l ∧ Has w1 v1 l := ⟨Hu.out.grown (r := none) Hgrow1.out (fun _ _ h => by cases h), by have h := Hown1.out; simp only [List.length_nil, Nat.zero_add] at h; exact Owns.has (B := W3.heap.size) h⟩
      have hblA := Hbl.out.grown Hgrow1.out hBw (fun k hk => by cases hk)
      clear Hgrow1 Hown1 Hu Hsrc
      have Hsa := Lib.hid (And.intro hsa hblA)
      clear hsa hblA
      go_wp2_with fail
      refine (set_any x v _ l _ (by omega) hgood.1 Hsa.out.1.1).mono ?_
      rintro e W5 ⟨o5, rfl, hh5, hb5⟩
      have hb5' := Hsa.out.2.trans (hb5.mono Hsa.out.2.size)
      have hu5 := Hsa.out.1.1.below hb5
      have hw5 := Hsa.out.1.2.below hb5
      have H5 := Lib.hid (And.intro hh5 (And.intro hb5' (And.intro hu5 hw5)))
      clear hh5 hb5 hb5' hu5 hw5
      go_wp2_with fail
      refine (refSet_any x v _ l _ (by omega) hgood.1 H5.out.2.2.1).mono ?_
      rintro e W6 ⟨o6, rfl, ho6, hb6⟩
      have H6 := Lib.hid (And.intro ho6.has (And.intro (H5.out.1.below hb6) (And.intro (H5.out.2.1.trans (hb6.mono H5.out.2.1.size)) (And.intro (H5.out.2.2.1.below hb6) (H5.out.2.2.2.below hb6)))))
      clear ho6 hb6
      go_wp2_with fail
      refine (sameAttrs_any _ _ _ _ _ (Nat.le_trans (setP_length x v l) (by omega)) H6.out.2.1 H6.out.1).mono ?_
      rw [decide_eq_true rfl]
      rintro e W7 ⟨rfl, hb7⟩
      have H7 := Lib.hid (And.intro (H6.out.2.2.1.trans (hb7.mono H6.out.2.2.1.size)) (And.intro (H6.out.2.2.2.1.below hb7) (H6.out.2.2.2.2.below hb7)))
      clear hb7
      go_wp2_with fail
      refine (sameAttrs_any _ _ l l _ (by omega) H7.out.2.1 H7.out.2.2).mono ?_
      rw [decide_eq_true rfl]
      rintro e W8 ⟨rfl, hb8⟩
      have H8 := Lib.hid (H7.out.1.trans (hb8.mono H7.out.1.size))
      clear hb8
      go_wp2_with fail
      refine (known_any _ (HM.out.below H8.out)).mono ?_
      rintro e W9 ⟨rfl, hb9⟩
      have H9 := Lib.hid (H8.out.trans (hb9.mono H8.out.size))
      clear hb9
      go_wp2
      go_ret
      exact ⟨rfl, H9.out⟩
  · have hz : ¬ ((r : Int) = 0) := by omega
    clear hT2
    rcases hown2.form with ⟨rfl, hl0⟩ | ⟨g, cap, rfl, hBg, hgl, hcap, hrow⟩
    · have hsa : Has W2 (.slice none 0 0) l ∧ Has W2 (.slice none 0 0) l := ⟨.inl ⟨none, 0, rfl, hl0⟩, .inl ⟨none, 0, rfl, hl0⟩⟩
      have hblA := hb2
      clear hown2 hb2
      have Hsa := Lib.hid (And.intro hsa hblA)
      clear hsa hblA
      go_wp2_with fail
      refine (set_any n v _ l _ (by omega) hgood.1 Hsa.out.1.1).mono ?_
      rintro e W5 ⟨o5, rfl, hh5, hb5⟩
      have hb5' := Hsa.out.2.trans (hb5.mono Hsa.out.2.size)
      have hu5 := Hsa.out.1.1.below hb5
      have hw5 := Hsa.out.1.2.below hb5
      have H5 := Lib.hid (And.intro hh5 (And.intro hb5' (And.intro hu5 hw5)))
      clear hh5 hb5 hb5' hu5 hw5
      go_wp2_with fail
      refine (refSet_any n v _ l _ (by omega) hgood.1 H5.out.2.2.1).mono ?_
      rintro e W6 ⟨o6, rfl, ho6, hb6⟩
      have H6 := Lib.hid (And.intro ho6.has (And.intro (H5.out.1.below hb6) (And.intro (H5.out.2.1.trans (hb6.mono H5.out.2.1.size)) (And.intro (H5.out.2.2.1.below hb6) (H5.out.2.2.2.below hb6)))))
      clear ho6 hb6
      go_wp2_with fail
      refine (sameAttrs_any _ _ _ _ _ (Nat.le_trans (setP_length n v l) (by omega)) H6.out.2.1 H6.out.1).mono ?_
      rw [decide_eq_true rfl]
      rintro e W7 ⟨rfl, hb7⟩
      have H7 := Lib.hid (And.intro (H6.out.2.2.1.trans (hb7.mono H6.out.2.2.1.size)) (And.intro (H6.out.2.2.2.1.below hb7) (H6.out.2.2.2.2.below hb7)))
      clear hb7
      go_wp2_with fail
      refine (sameAttrs_any _ _ l l _ (by omega) H7.out.2.1 H7.out.2.2).mono ?_
      rw [decide_eq_true rfl]
      rintro e W8 ⟨rfl, hb8⟩
      have H8 := Lib.hid (H7.out.1.trans (hb8.mono H7.out.1.size))
      clear hb8
      go_wp2_with fail
      refine (known_any _ (HM.out.below H8.out)).mono ?_
      rintro e W9 ⟨rfl, hb9⟩
      have H9 := Lib.hid (H8.out.trans (hb9.mono H8.out.size))
      clear hb9
      go_wp2
      go_ret
      exact ⟨rfl, H9.out⟩
    · have hsrc := row_cells hrow
      have Hsrc := Lib.hid hsrc
      have Hu := Lib.hid (show Has W2 (.slice (some ⟨g, 0, none⟩) l.length cap) l from .inr ⟨g, 0, cap, rfl, hgl, hrow⟩)
      have Hbl := Lib.hid hb2
      have hBw := Hbl.out.size
      clear hown2 hb2 hsrc hrow
      go_wp2_with (at_builtin; refine wpList_append_own _ rfl _ _ 22 rfl W2.heap.size 55 i0 _ 2 32 Tryd.underlying22 hi0 hz0 hz1 hz2 rfl (by decide) _ _ _ rfl (Owns.nil W2 W2.heap.size) ⟨g, 0, none⟩ l.length cap (cellsP l) rfl (cellsP_len l) Hsrc.out (cellsP_one l) (by unfold maxLen; simp only [List.length_nil]; omega) (by simp only [List.length_nil]; omega) (Nat.le_refl _) ?_; intro v1 w1 hown1 hgrow1 _; have Hown1 := Lib.hid hown1; have Hgrow1 := Lib.hid hgrow1; clear hown1 hgrow1)
      have hsa : Has w1 (.slice (some ⟨g, 0, none⟩) l.length cap) l ∧ Has w1 v1 l := ⟨Hu.out.grown (r := none) Hgrow1.out (fun _ _ h => by cases h), by have h := Hown1.out; simp only [List.length_nil, Nat.zero_add] at h; exact Owns.has (B := W2.heap.size) h⟩
      have hblA := Hbl.out.grown Hgrow1.out hBw (fun k hk => by cases hk)
      clear Hgrow1 Hown1 Hu Hsrc
      have Hsa := Lib.hid (And.intro hsa hblA)
      clear hsa hblA
      go_wp2_with fail
      refine (set_any n v _ l _ (by omega) hgood.1 Hsa.out.1.1).mono ?_
      rintro e W5 ⟨o5, rfl, hh5, hb5⟩
      have hb5' := Hsa.out.2.trans (hb5.mono Hsa.out.2.size)
      have hu5 := Hsa.out.1.1.below hb5
      have hw5 := Hsa.out.1.2.below hb5
      have H5 := Lib.hid (And.intro hh5 (And.intro hb5' (And.intro hu5 hw5)))
      clear hh5 hb5 hb5' hu5 hw5
      go_wp2_with fail
      refine (refSet_any n v _ l _ (by omega) hgood.1 H5.out.2.2.1).mono ?_
      rintro e W6 ⟨o6, rfl, ho6, hb6⟩
      have H6 := Lib.hid (And.intro ho6.has (And.intro (H5.out.1.below hb6) (And.intro (H5.out.2.1.trans (hb6.mono H5.out.2.1.size)) (And.intro (H5.out.2.2.1.below hb6) (H5.out.2.2.2.below hb6)))))
      clear ho6 hb6
      go_wp2_with fail
      refine (sameAttrs_any _ _ _ _ _ (Nat.le_trans (setP_length n v l) (by omega)) H6.out.2.1 H6.out.1).mono ?_
      rw [decide_eq_true rfl]
      rintro e W7 ⟨rfl, hb7⟩
      have H7 := Lib.hid (And.intro (H6.out.2.2.1.trans (hb7.mono H6.out.2.2.1.size)) (And.intro (H6.out.2.2.2.1.below hb7) (H6.out.2.2.2.2.below hb7)))
      clear hb7
      go_wp2_with fail
      refine (sameAttrs_any _ _ l l _ (by omega) H7.out.2.1 H7.out.2.2).mono ?_
      rw [decide_eq_true rfl]
      rintro e W8 ⟨rfl, hb8⟩
      have H8 := Lib.hid (H7.out.1.trans (hb8.mono H7.out.1.size))
      clear hb8
      go_wp2_with fail
      refine (known_any _ (HM.out.below H8.out)).mono ?_
      rintro e W9 ⟨rfl, hb9⟩
      have H9 := Lib.hid (H8.out.trans (hb9.mono H8.out.size))
      clear hb9
      go_wp2
      go_ret
      exact ⟨rfl, H9.out⟩
end Go.Proofs.YthdnbcgomepgaaaDoor
