/- HelperFirst: the walk. -/
import Derived.Test.YteiphphihclnfaaDoorLBounds
namespace Go.Proofs.YteiphphihclnfaaDoor
open Go.RowKit Go.Shelf
open Go.Proofs.YteiphphihclnfaaDoor.Nm
theorem hit_of_first {c : List UInt8} {l : List Hp} {y : Hp} (h : firstH c l = some y) : hitB c y = true := List.find?_some h
theorem first_only {c : List UInt8} {l : List Hp} : firstH c (firstH c l).toList = firstH c l := by
  cases h : firstH c l with
  | none => rfl
  | some y =>
    show List.find? (hitB c) [y] = some y
    rw [List.find?_cons, hit_of_first h]
theorem callL_only {c : List UInt8} {l : List Hp} {lim : Int} : callL (firstH c l).toList lim 0 c = callL l lim 0 c := by
  unfold callL
  rw [first_only]
theorem first_take {c : List UInt8} {l : List Hp} {i : Nat} {y : Hp} (h : firstH c (l.take i) = some y) : firstH c l = some y := by
  unfold firstH at h ⊢
  rw [← List.take_append_drop i l, List.find?_append, h]
  rfl
theorem err_none {c : List UInt8} {l : List Hp} {lim : Int} (h : firstH c l = none) : (callL l lim 0 c).2.2 = 143 := by
  rw [callL_none (by decide) h]
theorem err_some {c : List UInt8} {l : List Hp} {lim : Int} {y : Hp} (h : firstH c l = some y) : (callL l lim 0 c).2.2 ≠ 143 := by
  by_cases h2 : lim < y.ticks
  · rw [callL_slow (by decide) h h2]; show (142 : Int) ≠ 143; decide
  · cases h4 : y.fails with
    | true => rw [callL_fails (by decide) h h2 h4]; show (141 : Int) ≠ 143; decide
    | false => rw [callL_ok (by decide) h h2 h4]; show (0 : Int) ≠ 143; decide
set_option maxRecDepth 100000 in
set_option maxHeartbeats 8000000 in
theorem helperFirst_walk (a : Option Addr) (n c : Nat) (W : World) (hm : ∃ m : Int, W.cell? ⟨0, 0, none⟩ = some (.int .i64 m)) (hg : Ints W W.heap.size (.slice a n c)) : Calls Tryd.prog 7 #[.slice a n c] W fun e W' => e = .returned (.bool true) ∧ Below W.heap.size W W' := by
  have hmx : Max W := hm
  obtain ⟨T, hT⟩ : ∃ T, W.heap.size = T := ⟨_, rfl⟩
  obtain ⟨W1, hW1⟩ : ∃ W1, W.alloc (.cells #[.slice a n c, .int .i64 0] 27) = W1 := ⟨_, rfl⟩
  have ht1 : Tp W1 T 0 := by rw [← hW1, ← hT]; exact tp_new hg
  have hk1 : Kp [] W W1 := by rw [← hW1]; exact (Kp.refl [] W).alloc _
  have hm1 : Max W1 := hmx.kp hk1 (by simp)
  have hT0 : 0 < T := by have := hmx.lt; omega
  have hT1 : T < W1.heap.size := ht1.lt
  have HH := Lib.hid (helpers_any (by omega) ht1)
  have HKN := Lib.hid fun W' (h : Kp [T] W1 W') => known_any (hm1.kp h (by simp; omega))
  have HK1 := Lib.hid (hk1.mono (t := [T]) (by simp))
  clear hm hmx hg ht1 hk1 hm1
  go_enter Tryd.func7, Tryd.ntmps7
  go_wp2_with (first
    | (go_at_call 10; refine Calls.mono (by with_reducible exact HH.out) ?_; rintro e w2 ⟨v, L, lim, rfl, ho, hdr, h1, h2, ht, hk⟩; have HO := Lib.hid ho; have HDR := Lib.hid hdr; have HT2 := Lib.hid ht; have HK2 := Lib.hid hk; clear ho hdr ht hk)
    | (go_at_call 15; refine Calls.mono (by with_reducible exact command_any (by omega) HT2.out) ?_; rintro e w3 ⟨cm, hcm, rfl, ht, hk⟩; have HK3 := Lib.hid (HK2.out.trans hk); have ho3 := HO.out.kpt hk (by omega); have HO3 := Lib.hid ho3; obtain ⟨adv, cpv, rfl⟩ := ho3.form; have hl6 : L.length ≤ 1000000 := (by have := HDR.out.1; omega); have HCALL := Lib.hid (call_any hl6 HDR.out.sm (limit := lim) (calls := 0) (c := cm) (by omega) ho3.has); obtain ⟨R, hR⟩ : ∃ R, callL L lim 0 cm = R := ⟨_, rfl⟩; have HRR := Lib.hid hR; rw [hR] at HCALL; obtain ⟨o, tk, E⟩ := R; unfold ansV at HCALL; simp only at HCALL; clear ht hk ho3 hR)
    | (go_at_call 16; refine Calls.mono (by with_reducible exact HCALL.out) ?_; rintro e w4 ⟨rfl, hk⟩; have HK4 := Lib.hid (HK3.out.trans (hk.mono (by simp))); have HO4 := Lib.hid (HO3.out.kp0 hk); clear hk))
  have hrow := HO4.out.has.form
  obtain ⟨va, vc, hsl, hrow⟩ := hrow
  cases hsl
  have HROW := Lib.hid hrow
  clear hrow
  go_loopg [10, 11] L.length (fun g s10 s11 wx => ∃ i : Nat, s11 = .int .i64 (i : Int) ∧ hpT.Own wx w4.heap.size s10 (firstH cm (L.take i)).toList ∧ i + g = L.length ∧ Kp [] w4 wx)
  case atStart => exact ⟨0, rfl, RT.Own.nil _ _ _, by omega, Kp.refl _ _⟩
  case round =>
    obtain ⟨i, rfl, hown, hig, hkp⟩ := hrel
    have HK := Lib.hid hkp
    have HI := Lib.hid hig
    by_cases hgo : i < L.length ∧ firstH cm (L.take i) = none
    · obtain ⟨hi, hno⟩ := hgo
      rw [hno] at hown
      obtain ⟨ad, cp, hu⟩ := RT.Own.form (r := hpT) (l := []) hown
      rw [show ([] : List Hp).length = 0 from rfl] at hu
      subst hu
      have HOWN := Lib.hid (show hpT.Own wr w4.heap.size (.slice ad 0 cp) [] from hown)
      obtain ⟨g, rfl⟩ : ∃ g, gk = g + 1 := ⟨gk - 1, by omega⟩
      obtain ⟨b, ob, rfl, hbl, hr⟩ := HROW.out (by rintro rfl; simp at hi)
      obtain ⟨x, hx⟩ : ∃ x, L[i]? = some x := ⟨_, List.getElem?_eq_getElem hi⟩
      have hiz : (i : Int) < (L.length : Int) := by omega
      have HRW := Lib.hid fun W' (h : Kp [] w4 W') => hpRow (hr.keep (h.block b hbl (by simp))) hx
      obtain ⟨c0, c1, c2, c3⟩ := HRW.out _ hkp
      have hwi : IntKind.i64.wrap ((i : Int) + 1) = ((i + 1 : Nat) : Int) := by rw [IntKind.wrap_i64]; omega
      have HP := Lib.hid (show ∀ W', Calls Tryd.prog 21 #[.string (bs x.cmd), .string (bs cm)] W' fun e w' => e = .returned (.bool (hitB cm x)) ∧ Kp [] W' w' from fun W' => glob_any (HDR.out.sm x (List.mem_of_getElem? hx)).1 (by omega) W')
      cases hp : hitB cm x with
      | true =>
        have HF := Lib.hid (show firstH cm (L.take (i + 1)) = some x from by
          unfold firstH at hno ⊢
          rw [List.take_add_one, hx, List.find?_append, hno]
          simp [hp])
        rw [hp] at HP
        clear hkp hr hx hig hbl hno hp hown hi
        go_wp2_with (first
          | (go_at_call 21; refine Calls.mono (by with_reducible exact HP.out _) ?_; rintro e x1 ⟨rfl, hk⟩; obtain ⟨d0, d1, d2, d3⟩ := HRW.out _ (HK.out.trans hk); obtain ⟨x2, hx2⟩ : ∃ x2, x1.alloc (.cells #[.string (bs x.cmd), .string (bs x.out), .bool x.fails, .int .i64 x.ticks] 33) = x2 := ⟨_, rfl⟩; obtain ⟨EE, hE⟩ : ∃ E, x1.heap.size = E := ⟨_, rfl⟩; have HE := Lib.hid (show x2.rangeAt EE 0 (hpT.cf x) from fun m u hu => (by rw [← hx2, ← hE, cell_of_row _ _ _ _ _ _ (heap_alloc_last x1 _), Nat.zero_add]; simpa [hpT, hpC] using hu)); have HX2 := Lib.hid (show Kp [] wr x2 from (by rw [← hx2]; exact hk.alloc _)); clear hk c0 c1 c2 c3)
          | (at_builtin; refine wpList_append_r (r := hpT) rfl _ _ rfl w4.heap.size _ [] rfl (HOWN.out.kp0 HX2.out) EE 1 x rfl HE.out (by simp) (by have h1 := HK.out.size; have h2 := HX2.out.size; omega) ?_; intro v1 x3 hown1 hg1; have HOWN1 := Lib.hid hown1; have HX3 := Lib.hid (kp_own (HK.out.trans HX2.out) (HOWN.out.kp0 HX2.out) (Nat.le_refl _) hg1); clear hown1 hg1))
        go_roundg g
        case measure => omega
        case rel => exact ⟨i + 1, rfl, by rw [HF.out]; exact HOWN1.out, by have := HI.out; omega, HX3.out⟩
      | false =>
        have HF := Lib.hid (firstH_step hno hx hp)
        rw [hp] at HP
        clear hkp hr hx hig hbl hno hp hown hi
        go_wp2_with (go_at_call 21; refine Calls.mono (by with_reducible exact HP.out _) ?_; rintro e x1 ⟨rfl, hk⟩; have HX1 := Lib.hid hk; clear hk)
        go_roundg g
        case measure => omega
        case rel => exact ⟨i + 1, rfl, by rw [HF.out]; exact HOWN.out.kp0 HX1.out, by have := HI.out; omega, HK.out.trans HX1.out⟩
    · have hF : firstH cm (L.take i) = firstH cm L := by
        cases h : firstH cm (L.take i) with
        | some y => exact (first_take h).symm
        | none =>
          have : ¬ i < L.length := fun hi => hgo ⟨hi, h⟩
          rw [← h, List.take_of_length_le (by omega)]
      rw [hF] at hown
      have HC2 := Lib.hid (show Calls Tryd.prog 16 #[u10, .int .i64 lim, .int .i64 0, .string (bs cm)] wr fun e w' => e = .returned (.tuple #[.string (bs o), .int .i64 tk, .int .i64 E]) ∧ Kp [] wr w' from by
        have := call_any (l := (firstH cm L).toList) (by cases firstH cm L <;> simp) (fun x hx => HDR.out.sm x (by
          cases hf : firstH cm L with
          | none => rw [hf] at hx; simp at hx
          | some y => rw [hf] at hx; simp at hx; subst hx; exact List.mem_of_find?_eq_some hf)) (limit := lim) (calls := 0) (c := cm) (by omega) hown.has
        rw [callL_only, HRR.out] at this
        exact this)
      have HKZ := Lib.hid (HK4.out.trans (hkp.mono (by simp)))
      cases hf : firstH cm L with
      | none =>
        rw [hf] at hown
        have hE : E = 143 := by have := err_none (lim := lim) hf; rw [HRR.out] at this; exact this
        obtain ⟨ad, cp, hu⟩ := RT.Own.form (r := hpT) (l := []) hown
        rw [show ([] : List Hp).length = 0 from rfl] at hu
        subst hu
        have hiz : ¬ (i : Int) < (L.length : Int) := fun h => hgo ⟨by omega, by rw [hF, hf]⟩
        subst hE
        clear hown hkp hig hgo hF hf
        go_wp2_with (first
          | (go_at_call 16; refine Calls.mono (by with_reducible exact HC2.out) ?_; rintro e x1 ⟨rfl, hk⟩; have HX1 := Lib.hid (HKZ.out.trans (hk.mono (by simp))); clear hk)
          | (go_at_call 9; refine Calls.mono (by with_reducible exact HKN.out _ HX1.out) ?_; rintro e x2 ⟨rfl, hk⟩; have HX2 := Lib.hid (HX1.out.trans (hk.mono (by simp))); clear hk))
        all_goals go_ret
        all_goals exact ⟨rfl, (HK1.out.trans HX2.out).below (Nat.le_refl _) (by simp; omega)⟩
      | some y =>
        rw [hf] at hown
        have hE : E ≠ 143 := by have := err_some (lim := lim) hf; rw [HRR.out] at this; exact this
        have hE2 : (E == 143) = false := by simpa using hE
        obtain ⟨ad, cp, hu⟩ := RT.Own.form (r := hpT) (l := [y]) hown
        rw [show [y].length = 1 from rfl] at hu
        subst hu
        clear hown hkp hig hgo hF hf
        go_wp2_with (first
          | (go_at_call 16; refine Calls.mono (by with_reducible exact HC2.out) ?_; rintro e x1 ⟨rfl, hk⟩; have HX1 := Lib.hid (HKZ.out.trans (hk.mono (by simp))); clear hk)
          | (go_at_call 9; refine Calls.mono (by with_reducible exact HKN.out _ HX1.out) ?_; rintro e x2 ⟨rfl, hk⟩; have HX2 := Lib.hid (HX1.out.trans (hk.mono (by simp))); clear hk))
        all_goals go_ret
        all_goals exact ⟨rfl, (HK1.out.trans HX2.out).below (Nat.le_refl _) (by simp; omega)⟩
end Go.Proofs.YteiphphihclnfaaDoor
