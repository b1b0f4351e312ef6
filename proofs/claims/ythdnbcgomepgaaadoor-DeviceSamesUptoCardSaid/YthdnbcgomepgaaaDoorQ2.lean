/- device.Check: the attributes, and the whole. -/
import Derived.Test.YthdnbcgomepgaaaDoorQ
namespace Go.Proofs.YthdnbcgomepgaaaDoor
open Go.RowKit

set_option maxHeartbeats 1000000 in
set_option maxRecDepth 100000 in
theorem wrong_any (a b : ByteArray) (w : World) (ha : a.size ≤ 4000000000) (hb : b.size ≤ 4000000000) : Calls Tryd.prog 61 #[.agg #[.string a, .string b]] w (Bel (.bool (wrongA (a, b))) w) := by
  have h1 := fun W => validC a W ha
  have h2 := fun W => textC b W hb
  have he := empF b
  clear ha hb
  unfold wrongA
  simp only
  generalize validB a = b1 at *
  generalize txtB b = b2 at *
  generalize empB b = b3 at *
  have H1 := Lib.hid h1
  have H2 := Lib.hid h2
  clear h1 h2
  have hbx : Below w.heap.size w (w.alloc (.cells #[.string a, .string b] 55)) := box_below _ _
  have Hbx := Lib.hid hbx
  clear hbx
  go_enter Tryd.func61, Tryd.ntmps61
  go_wp2_with fail
  refine (H1.out _).mono ?_
  rintro e W ⟨rfl, hb⟩
  have c1 : W.cell? ⟨w.heap.size, 1, none⟩ = some (.string b) := by rw [hb.cell (p := ⟨w.heap.size, 1, none⟩) (by simp), cell_of_row _ _ _ _ _ _ (heap_last w _)]; rfl
  have HX := Lib.hid hb
  clear hb
  cases b1 with
  | false =>
    go_wp2
    go_ret
    exact ⟨by simp, Hbx.out.trans (HX.out.mono (by simp))⟩
  | true =>
    cases b3 with
    | true =>
      go_wp2
      go_ret
      exact ⟨by simp, Hbx.out.trans (HX.out.mono (by simp))⟩
    | false =>
      go_wp2_with fail
      refine (H2.out _).mono ?_
      rintro e W2 ⟨rfl, hb⟩
      have HX := Lib.hid (HX.out.trans (hb.mono HX.out.size))
      clear hb
      cases b2 with
      | false =>
        go_wp2
        go_ret
        exact ⟨by simp, Hbx.out.trans (HX.out.mono (by simp))⟩
      | true =>
        go_wp2
        go_ret
        exact ⟨by simp, Hbx.out.trans (HX.out.mono (by simp))⟩

set_option maxHeartbeats 1000000 in
set_option maxRecDepth 100000 in
theorem indexFunc_any (sv : Value) (l : List Atr) (w : World) (hl : l.length ≤ 9223372036854775807) (h : Has w sv l) (hs : ∀ a ∈ l, a.1.size ≤ 4000000000 ∧ a.2.size ≤ 4000000000) :
    Calls Tryd.prog 79 #[sv, .func (.func 61) #[] #[]] w fun e w' => ∃ r : Int, e = .returned (.int .i64 r) ∧ decide (r ≥ 0) = l.any wrongA ∧ Below w.heap.size w w' := by
  rcases h with ⟨ad, c, rfl, rfl⟩ | ⟨b, o, c, rfl, hb, hrow⟩
  · have hz : ¬ ((0 : Int) < ((0 : Nat) : Int)) := by omega
    go_enter Tryd.func79, Tryd.ntmps79
    go_wp2
    go_loopw [8] (fun s8 wx => s8 = .int .i64 0 ∧ w = wx) (fun _ _ => 0)
    case atStart => exact ⟨rfl, rfl⟩
    case round =>
      obtain ⟨rfl, rfl⟩ := hrel
      go_wp2
      go_ret
      exact ⟨-1, rfl, rfl, Below.refl _ _⟩
  · have HW := Lib.hid hrow
    have HC := Lib.hid (fun a (h : a ∈ l) W => wrong_any a.1 a.2 W (hs a h).1 (hs a h).2)
    obtain ⟨R, hR⟩ : ∃ R, l.any wrongA = R := ⟨_, rfl⟩
    have hT : ∀ (k : Nat) x, l[k]? = some x → wrongA x = true → R = true := fun k x h1 h2 => by rw [← hR]; exact List.any_eq_true.2 ⟨x, List.mem_of_getElem? h1, h2⟩
    have hF : (∀ (k : Nat) x, k < l.length → l[k]? = some x → wrongA x = false) → R = false := fun h => by
      rw [← hR, List.any_eq_false]
      intro x hx
      obtain ⟨k, hk, hkx⟩ := List.getElem_of_mem hx
      rw [h k x hk (by rw [List.getElem?_eq_getElem hk, hkx])]
      simp
    have HT := Lib.hid hT
    have HF := Lib.hid hF
    rw [hR]
    clear hrow hT hF hR hs
    go_enter Tryd.func79, Tryd.ntmps79
    go_wp2
    go_loopw [8] (fun s8 wx => ∃ i : Nat, i ≤ l.length ∧ s8 = .int .i64 (i : Int) ∧ (∀ (k : Nat) x, k < i → l[k]? = some x → wrongA x = false) ∧ Below w.heap.size w wx) (fun s8 _ => l.length - (intOf s8).toNat)
    case atStart => exact ⟨0, by omega, rfl, fun k x hk => absurd hk (Nat.not_lt_zero _), Below.refl _ _⟩
    case round =>
      obtain ⟨i, hi, rfl, hinv, hbl⟩ := hrel
      have Hbl := Lib.hid hbl
      by_cases hlt : i < l.length
      · have hiz : (i : Int) < (l.length : Int) := by omega
        obtain ⟨x, hx⟩ : ∃ x, l[i]? = some x := ⟨_, List.getElem?_eq_getElem hlt⟩
        obtain ⟨hc0, hc1⟩ := HW.out i x hx
        rw [← hbl.cell (p := ⟨b, o + i * 2, none⟩) hb] at hc0
        rw [← hbl.cell (p := ⟨b, o + i * 2 + 1, none⟩) hb] at hc1
        have hcl := HC.out x (List.mem_of_getElem? hx)
        have hwr : IntKind.i64.wrap ((i : Int) + 1) = ((i + 1 : Nat) : Int) := by rw [IntKind.wrap_i64]; omega
        obtain ⟨x1, x2⟩ := x
        simp only at hc0 hc1 hcl
        have HX := Lib.hid (And.intro hx hinv)
        obtain ⟨q, hq⟩ : ∃ q, wrongA (x1, x2) = q := ⟨_, rfl⟩
        rw [hq] at hcl
        have HCl := Lib.hid hcl
        have Hq := Lib.hid hq
        clear hbl hx hinv hcl hq
        go_wp2_with fail
        refine (HCl.out _).mono ?_
        rintro e W ⟨rfl, hb2⟩
        have Hb2 := Lib.hid (Hbl.out.trans (hb2.mono Hbl.out.size))
        clear hb2
        cases q with
        | true =>
          have hRt := HT.out i _ HX.out.1 Hq.out
          go_wp2
          go_ret
          exact ⟨(i : Int), rfl, by rw [hRt]; simp, Hb2.out⟩
        | false =>
          go_wp2
          refine ⟨⟨i + 1, by omega, rfl, fun k y hk hy => ?_, Hb2.out⟩, by simp [intOf]; omega⟩
          by_cases e : k = i
          · subst e
            have h1 := HX.out.1
            rw [h1] at hy
            cases hy
            exact Hq.out
          · exact HX.out.2 k y (by omega) hy
      · have hiz : ¬ ((i : Int) < (l.length : Int)) := by omega
        have hRf := HF.out (fun k x hk hx => hinv k x (by omega) hx)
        clear hinv hbl
        go_wp2
        go_ret
        exact ⟨-1, rfl, by first | omega | simp [hRf], Hbl.out⟩

set_option maxHeartbeats 400000 in
set_option maxRecDepth 100000 in
theorem containsFunc_any (sv : Value) (l : List Atr) (w : World) (hl : l.length ≤ 9223372036854775807) (h : Has w sv l) (hs : ∀ a ∈ l, a.1.size ≤ 4000000000 ∧ a.2.size ≤ 4000000000) :
    Calls Tryd.prog 62 #[sv, .func (.func 61) #[] #[]] w (Bel (.bool (l.any wrongA)) w) := by
  have H := Lib.hid (indexFunc_any sv l w hl h hs)
  clear h hs hl
  go_enter Tryd.func62, Tryd.ntmps62
  go_wp2_with fail
  refine H.out.mono ?_
  rintro e W ⟨r, rfl, hr, hb⟩
  go_wp2
  go_ret
  exact ⟨by rw [← hr]; rfl, hb⟩

set_option maxHeartbeats 400000 in
set_option maxRecDepth 100000 in
theorem attrsFit_any (sv : Value) (l : List Atr) (w : World) (hl : l.length ≤ 9223372036854775807) (h : Has w sv l) (hs : ∀ a ∈ l, a.1.size ≤ 4000000000 ∧ a.2.size ≤ 4000000000) :
    Calls Tryd.prog 37 #[sv] w (Bel (.bool (attrB l)) w) := by
  have H1 := Lib.hid (sorted_any sv l w hl h)
  have H2 := Lib.hid (fun W (hb : Below w.heap.size w W) => containsFunc_any sv l W hl (h.below hb) hs)
  clear h hs hl
  unfold attrB
  generalize srtB l = b1 at *
  generalize l.any wrongA = b2 at *
  go_enter Tryd.func37, Tryd.ntmps37
  go_wp2_with fail
  refine H1.out.mono ?_
  rintro e W ⟨rfl, hb⟩
  have HX := Lib.hid hb
  clear hb
  cases b1 with
  | false =>
    go_wp2
    go_ret
    exact ⟨by simp, HX.out⟩
  | true =>
    go_wp2_with fail
    refine (H2.out _ HX.out).mono ?_
    rintro e W2 ⟨rfl, hb⟩
    have HX := Lib.hid (HX.out.trans (hb.mono HX.out.size))
    clear hb
    go_wp2
    go_ret
    exact ⟨by simp, HX.out⟩

set_option maxHeartbeats 4000000 in
set_option maxRecDepth 100000 in
theorem check_any (d : Dev) (l : List Atr) (w : World) (hl : l.length ≤ 9223372036854775807) (h : Has w d.av l) (hs : Sized d l) (hm : Max w) : Calls Tryd.prog 12 #[devV d] w (Bel (.int .i64 (checkE d l)) w) := by
  have h1 := fun W => placeFits_any d W
  have h2 := fun W => textsFit_any d l W hs
  have h3 := fun W => kindFits_any d l W hs
  have h4 := fun W => numberFits_any d W
  have h5 := fun W (hb : Below w.heap.size w W) => attrsFit_any d.av l W hl (h.below hb) hs.at_
  have h6 := fun W (hb : Below w.heap.size w W) => nodeFits_any d l W hs (hm.below hb)
  obtain ⟨ad, cc, hav, _⟩ := h.form
  obtain ⟨R, hR⟩ : ∃ R, checkE d l = R := ⟨_, rfl⟩
  rw [hR]
  unfold checkE at hR
  clear hs hm h
  obtain ⟨idx, par, name, orig, sub, drv, ali, kind, num, av⟩ := d
  simp only at hav
  subst hav
  unfold devV devC at *
  simp only at h1 h2 h3 h4 h5 h6 hR ⊢
  generalize placeB _ = b1 at *
  generalize textsB _ = b2 at *
  generalize kindB _ = b3 at *
  generalize numB _ = b4 at *
  generalize attrB l = b5 at *
  generalize nodB _ = b6 at *
  generalize l.length = m at *
  have H1 := Lib.hid h1
  have H2 := Lib.hid h2
  have H3 := Lib.hid h3
  have H4 := Lib.hid h4
  have H5 := Lib.hid h5
  have H6 := Lib.hid h6
  clear h1 h2 h3 h4 h5 h6
  go_enter Tryd.func12, Tryd.ntmps12
  go_wp2_with fail
  refine (H1.out _).mono ?_
  rintro e W ⟨rfl, hb⟩
  have HX := Lib.hid hb
  clear hb
  cases b1 with
  | false =>
    simp only [reduceIte] at hR
    subst hR
    go_wp2
    go_ret
    exact ⟨rfl, (box_below _ _).trans (HX.out.mono (by simp))⟩
  | true =>
    have c0 := box_cell HX.out 0
    have c1 := box_cell HX.out 1
    have c2 := box_cell HX.out 2
    have c3 := box_cell HX.out 3
    have c4 := box_cell HX.out 4
    have c5 := box_cell HX.out 5
    have c6 := box_cell HX.out 6
    have c7 := box_cell HX.out 7
    have c8 := box_cell HX.out 8
    have c9 := box_cell HX.out 9
    simp only [List.getElem?_toArray, List.getElem?_cons_zero, List.getElem?_cons_succ] at c0 c1 c2 c3 c4 c5 c6 c7 c8 c9
    go_wp2_with fail
    refine (H2.out _).mono ?_
    rintro e W ⟨rfl, hb⟩
    have HX := Lib.hid (HX.out.trans (hb.mono HX.out.size))
    clear hb c0 c1 c2 c3 c4 c5 c6 c7 c8 c9
    cases b2 with
    | false =>
      simp only [reduceIte, Bool.true_eq_false] at hR
      subst hR
      go_wp2
      go_ret
      exact ⟨rfl, (box_below _ _).trans (HX.out.mono (by simp))⟩
    | true =>
      have d0 := box_cell HX.out 0
      have d1 := box_cell HX.out 1
      have d2 := box_cell HX.out 2
      have d3 := box_cell HX.out 3
      have d4 := box_cell HX.out 4
      have d5 := box_cell HX.out 5
      have d6 := box_cell HX.out 6
      have d7 := box_cell HX.out 7
      have d8 := box_cell HX.out 8
      have d9 := box_cell HX.out 9
      simp only [List.getElem?_toArray, List.getElem?_cons_zero, List.getElem?_cons_succ] at d0 d1 d2 d3 d4 d5 d6 d7 d8 d9
      go_wp2_with fail
      refine (H3.out _).mono ?_
      rintro e W ⟨rfl, hb⟩
      have HX := Lib.hid (HX.out.trans (hb.mono HX.out.size))
      clear hb d0 d1 d2 d3 d4 d5 d6 d7 d8 d9
      cases b3 with
      | false =>
        simp only [reduceIte, Bool.true_eq_false] at hR
        subst hR
        go_wp2
        go_ret
        exact ⟨rfl, (box_below _ _).trans (HX.out.mono (by simp))⟩
      | true =>
        have c0 := box_cell HX.out 0
        have c1 := box_cell HX.out 1
        have c2 := box_cell HX.out 2
        have c3 := box_cell HX.out 3
        have c4 := box_cell HX.out 4
        have c5 := box_cell HX.out 5
        have c6 := box_cell HX.out 6
        have c7 := box_cell HX.out 7
        have c8 := box_cell HX.out 8
        have c9 := box_cell HX.out 9
        simp only [List.getElem?_toArray, List.getElem?_cons_zero, List.getElem?_cons_succ] at c0 c1 c2 c3 c4 c5 c6 c7 c8 c9
        go_wp2_with fail
        refine (H4.out _).mono ?_
        rintro e W ⟨rfl, hb⟩
        have HX := Lib.hid (HX.out.trans (hb.mono HX.out.size))
        clear hb c0 c1 c2 c3 c4 c5 c6 c7 c8 c9
        cases b4 with
        | false =>
          simp only [reduceIte, Bool.true_eq_false] at hR
          subst hR
          go_wp2
          go_ret
          exact ⟨rfl, (box_below _ _).trans (HX.out.mono (by simp))⟩
        | true =>
          have c0 := box_cell HX.out 0
          have c1 := box_cell HX.out 1
          have c2 := box_cell HX.out 2
          have c3 := box_cell HX.out 3
          have c4 := box_cell HX.out 4
          have c5 := box_cell HX.out 5
          have c6 := box_cell HX.out 6
          have c7 := box_cell HX.out 7
          have c8 := box_cell HX.out 8
          have c9 := box_cell HX.out 9
          simp only [List.getElem?_toArray, List.getElem?_cons_zero, List.getElem?_cons_succ] at c0 c1 c2 c3 c4 c5 c6 c7 c8 c9
          by_cases hm24 : 24 < m
          · have hm24z : (24 : Int) < (m : Int) := by omega
            simp only [reduceIte, Bool.true_eq_false, hm24] at hR
            subst hR
            go_wp2
            go_ret
            exact ⟨rfl, (box_below _ _).trans (HX.out.mono (by simp))⟩
          · have hm24z : ¬ ((24 : Int) < (m : Int)) := by omega
            go_wp2_with fail
            refine (H5.out _ ((box_below _ _).trans (HX.out.mono (by simp)))).mono ?_
            rintro e W ⟨rfl, hb⟩
            have HX := Lib.hid (HX.out.trans (hb.mono HX.out.size))
            clear hb c0 c1 c2 c3 c4 c5 c6 c7 c8 c9
            cases b5 with
            | false =>
              simp only [reduceIte, Bool.true_eq_false, hm24] at hR
              subst hR
              go_wp2
              go_ret
              exact ⟨rfl, (box_below _ _).trans (HX.out.mono (by simp))⟩
            | true =>
              have d0 := box_cell HX.out 0
              have d1 := box_cell HX.out 1
              have d2 := box_cell HX.out 2
              have d3 := box_cell HX.out 3
              have d4 := box_cell HX.out 4
              have d5 := box_cell HX.out 5
              have d6 := box_cell HX.out 6
              have d7 := box_cell HX.out 7
              have d8 := box_cell HX.out 8
              have d9 := box_cell HX.out 9
              simp only [List.getElem?_toArray, List.getElem?_cons_zero, List.getElem?_cons_succ] at d0 d1 d2 d3 d4 d5 d6 d7 d8 d9
              go_wp2_with fail
              refine (H6.out _ ((box_below _ _).trans (HX.out.mono (by simp)))).mono ?_
              rintro e W ⟨rfl, hb⟩
              have HX := Lib.hid (HX.out.trans (hb.mono HX.out.size))
              clear hb d0 d1 d2 d3 d4 d5 d6 d7 d8 d9
              cases b6 with
              | false =>
                simp only [reduceIte, Bool.true_eq_false, hm24] at hR
                subst hR
                go_wp2
                go_ret
                exact ⟨rfl, (box_below _ _).trans (HX.out.mono (by simp))⟩
              | true =>
                simp only [reduceIte, Bool.true_eq_false, hm24] at hR
                subst hR
                go_wp2
                go_ret
                exact ⟨rfl, (box_below _ _).trans (HX.out.mono (by simp))⟩
end Go.Proofs.YthdnbcgomepgaaaDoor
