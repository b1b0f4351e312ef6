/- HelperCalls: the walk. -/
import Derived.Test.YteiphphihclnfaaDoorLBounds
import Derived.Deep.RegionHeld3
namespace Go.Proofs.YteiphphihclnfaaDoor
open Go.RowKit Go.Shelf
open Go.Proofs.YteiphphihclnfaaDoor.Nm
theorem ansV_form (r : List UInt8 × Int × Int) : ansV r = .tuple #[.string (bs r.1), .int .i64 r.2.1, .int .i64 r.2.2] := rfl
set_option maxRecDepth 100000 in
set_option maxHeartbeats 8000000 in
theorem helperCalls_walk (a : Option Addr) (n c : Nat) (raw : ByteArray) (calls : Int) (W : World) (hm : ∃ m : Int, W.cell? ⟨0, 0, none⟩ = some (.int .i64 m)) (hg : Ints W W.heap.size (.slice a n c)) : Calls Tryd.prog 4 #[.slice a n c, .string raw, .int .i64 calls] W fun e W' => e = .returned (.bool true) ∧ Below W.heap.size W W' := by
  have hmx : Max W := hm
  by_cases hraw : raw.size ≤ 400
  · have hraw' : ¬ (400 : Int) < (raw.size : Int) := by omega
    obtain ⟨lr, rfl⟩ : ∃ lr, raw = bs lr := ⟨raw.data.toList, (bs_of raw).symm⟩
    have hlr : lr.length ≤ 400 := by rw [bs_size] at hraw; exact hraw
    obtain ⟨T, hT⟩ : ∃ T, W.heap.size = T := ⟨_, rfl⟩
    obtain ⟨W1, hW1⟩ : ∃ W1, W.alloc (.cells #[.slice a n c, .int .i64 0] 27) = W1 := ⟨_, rfl⟩
    have ht1 : Tp W1 T 0 := by rw [← hW1, ← hT]; exact tp_new hg
    have hk1 : Kp [] W W1 := by rw [← hW1]; exact (Kp.refl [] W).alloc _
    have hm1 : Max W1 := hmx.kp hk1 (by simp)
    have hT0 : 0 < T := by have := hmx.lt; omega
    have hT1 : T < W1.heap.size := ht1.lt
    have HH := Lib.hid (helpers_any (by omega) ht1)
    have HKN := Lib.hid fun W' (h : Kp [T] W1 W') => known_any (hm1.kp h (by simp; omega))
    have HK1 := Lib.hid (hk1.mono (t := [T]) (by simp))
    clear hm hmx hg ht1 hk1 hm1 hraw
    go_enter Tryd.func4, Tryd.ntmps4
    go_wp2_with (first
      | (go_at_call 10; refine Calls.mono (by with_reducible exact HH.out) ?_; rintro e w2 ⟨v, L, lim, rfl, ho, hdr, h1, h2, ht, hk⟩; have HO := Lib.hid ho; have HDR := Lib.hid hdr; have HT2 := Lib.hid ht; have HK2 := Lib.hid hk; clear ho hdr ht hk)
      | (go_at_call 15; refine Calls.mono (by with_reducible exact command_any (by omega) HT2.out) ?_; rintro e w3 ⟨cm, hcm, rfl, ht, hk⟩; have HT3 := Lib.hid ht; have HK23 := Lib.hid hk; have HK3 := Lib.hid (HK2.out.trans hk); obtain ⟨A, hA⟩ : ∃ A, w3.heap.size = A := ⟨_, rfl⟩; obtain ⟨w4, hw4⟩ : ∃ w4, w3.alloc (.cells #[.string (bs lr), .string (bs cm)] 9) = w4 := ⟨_, rfl⟩; have hk4 : Kp [] w3 w4 := (by rw [← hw4]; exact (Kp.refl [] w3).alloc _); have hb4 : w4.heap[A]? = some (.cells #[.string (bs lr), .string (bs cm)] 9) := (by rw [← hw4, ← hA]; exact heap_alloc_last w3 _); have HK34 := Lib.hid hk4; have HB4 := Lib.hid hb4; have HN4 := Lib.hid (show Calls Tryd.prog 11 #[.pointer (some ⟨T, 0, none⟩), .int .i64 18] w4 fun e w' => ∃ r : Nat, r < 18 ∧ e = .returned (.int .i64 r) ∧ Tp w' T (0 + 7 + 1 + 1) ∧ Kp [T] w4 w' from next_kp 18 (by decide) (by decide) (by omega) (ht.kp hk4 (by simp))); clear ht hk hk4 hb4)
      | (go_at_call 11; refine Calls.mono (by with_reducible exact HN4.out) ?_; rintro e w5 ⟨r, hr, rfl, _, hk⟩; have HK45 := Lib.hid hk; obtain ⟨B, hB⟩ : ∃ B, w5.heap.size = B := ⟨_, rfl⟩; obtain ⟨w6, hw6⟩ : ∃ w6, w5.alloc (.cells #[.int .i64 calls, .int .i64 (r : Int), .int .i64 0] 3) = w6 := ⟨_, rfl⟩; have hk6 : Kp [] w5 w6 := (by rw [← hw6]; exact (Kp.refl [] w5).alloc _); have hb6 : w6.heap[B]? = some (.cells #[.int .i64 calls, .int .i64 (r : Int), .int .i64 0] 3) := (by rw [← hw6, ← hB]; exact heap_alloc_last w5 _); have HK56 := Lib.hid hk6; have HB6 := Lib.hid hb6; clear hk hk6 hb6))
    have hTA : T < A := by have := HK3.out.size; omega
    have hAB : A < B := by have := HK45.out.size; have h2 := block_lt HB4.out; omega
    have HRO := Lib.hid fun W' (h : Kp [] w6 W') (i : Nat) t (hi : [lr, cm][i]? = some t) => show W'.cell? ⟨A, i, none⟩ = some (.string (bs t)) from by
      have hA4 := block_lt HB4.out
      have e := (h.block A (by have h1 := HK45.out.size; have h2 := HK56.out.size; omega) (by simp)).trans ((HK56.out.block A (by have h1 := HK45.out.size; omega) (by simp)).trans ((HK45.out.block A hA4 (by simp; omega)).trans HB4.out))
      rw [cell_of_row _ _ _ _ _ _ e]
      match i, hi with
      | 0, hi => cases hi; rfl
      | 1, hi => cases hi; rfl
    have HCO := Lib.hid fun W' (h : Kp [] w6 W') (k : Nat) z (hi : [calls, (r : Int), 0][k]? = some z) => show W'.cell? ⟨B, k, none⟩ = some (.int .i64 z) from by
      have e := (h.block B (block_lt HB6.out) (by simp)).trans HB6.out
      rw [cell_of_row _ _ _ _ _ _ e]
      match k, hi with
      | 0, hi => cases hi; rfl
      | 1, hi => cases hi; rfl
      | 2, hi => cases hi; rfl
    have HHS := Lib.hid fun W' (h : Kp [] w6 W') => ((((((HO.out.kpt HK23.out (by omega)).kp0 HK34.out).kpt HK45.out (by omega)).kp0 HK56.out).kp0 h).has)
    have hL6 : L.length ≤ 1000000 := by have := HDR.out.1; omega
    have HCA := Lib.hid fun W' (h : Kp [] w6 W') t (z : Int) (ht : t.length ≤ 400) => call_any hL6 HDR.out.sm (limit := lim) (calls := z) (c := t) (by omega) (HHS.out W' h)
    have HCB := Lib.hid fun W' (h : Kp [] w6 W') t (z : Int) (ht : t.length ≤ 400) => refCall_any hL6 HDR.out.sm (limit := lim) (calls := z) (c := t) (by omega) (HHS.out W' h)
    have HTX := Lib.hid fun (i : Nat) t (hi : [lr, cm][i]? = some t) => show t.length ≤ 400 from by
      match i, hi with
      | 0, hi => cases hi; omega
      | 1, hi => cases hi; omega
    have HK6 := Lib.hid (HK3.out.trans ((HK34.out.mono (by simp)).trans (HK45.out.trans (HK56.out.mono (by simp)))))
    clear hA hw4 hB hw6 hL6
    go_loopg [12] 2 (fun g s12 wx => ∃ i : Nat, i + g = 2 ∧ s12 = .int .i64 (i : Int) ∧ Kp [] w6 wx)
    case atStart => exact ⟨0, rfl, rfl, Kp.refl _ _⟩
    case round =>
      obtain ⟨i, hig, rfl, hkp⟩ := hrel
      have HK := Lib.hid hkp
      have HI := Lib.hid hig
      by_cases hi : i < 2
      · obtain ⟨g, rfl⟩ : ∃ g, gk = g + 1 := ⟨gk - 1, by omega⟩
        have hiz : (i : Int) < 2 := by omega
        obtain ⟨t, ht⟩ : ∃ t, [lr, cm][i]? = some t := ⟨_, List.getElem?_eq_getElem (show i < [lr, cm].length from hi)⟩
        have HTT := Lib.hid ht
        have HTL := Lib.hid (HTX.out i t ht)
        clear hkp hig ht
        go_wp2_with fail
        rename World => WO
        go_loopg [13] 3 (fun h s13 wx => ∃ k : Nat, k + h = 3 ∧ s13 = .int .i64 (k : Int) ∧ Kp [] w6 wx)
        case atStart => exact ⟨0, rfl, rfl, HK.out⟩
        case round =>
          obtain ⟨k, hkg, rfl, hkp⟩ := hrel
          have HKI := Lib.hid hkp
          have HIK := Lib.hid hkg
          by_cases hk : k < 3
          · obtain ⟨h, rfl⟩ : ∃ h, gk = h + 1 := ⟨gk - 1, by omega⟩
            have hkz : (k : Int) < 3 := by omega
            have hwk : IntKind.i64.wrap ((k : Int) + 1) = ((k + 1 : Nat) : Int) := by rw [IntKind.wrap_i64]; omega
            obtain ⟨z, hz⟩ : ∃ z, [calls, (r : Int), 0][k]? = some z := ⟨_, List.getElem?_eq_getElem (show k < [calls, (r : Int), 0].length from hk)⟩
            have hRow := fun W' (h : Kp [] w6 W') => show (fun W : World => (W.cell? ⟨B, k, none⟩ = some (.int .i64 z) ∧ W.cell? ⟨A, i, none⟩ = some (.string (bs t)) ∧ Kp [] w6 W)) W' from ⟨HCO.out W' h k z hz, HRO.out W' h i t HTT.out, h⟩
            have HRW := Lib.hid hRow
            obtain ⟨R, hR⟩ : ∃ R, callL L lim z t = R := ⟨_, rfl⟩
            obtain ⟨o, tk, E⟩ := R
            have HYA := Lib.hid (show ∀ W', (fun W : World => (W.cell? ⟨B, k, none⟩ = some (.int .i64 z) ∧ W.cell? ⟨A, i, none⟩ = some (.string (bs t)) ∧ Kp [] w6 W)) W' → Calls Tryd.prog 16 #[v, .int .i64 lim, .int .i64 z, .string (bs t)] W' fun e w' => e = .returned (.tuple #[.string (bs o), .int .i64 tk, .int .i64 E]) ∧ Kp [] W' w' from fun W' h => by have := HCA.out W' h.2.2 t z HTL.out; rw [hR] at this; exact this)
            have HYB := Lib.hid (show ∀ W', (fun W : World => (W.cell? ⟨B, k, none⟩ = some (.int .i64 z) ∧ W.cell? ⟨A, i, none⟩ = some (.string (bs t)) ∧ Kp [] w6 W)) W' → Calls Tryd.prog 17 #[v, .int .i64 lim, .int .i64 z, .string (bs t)] W' fun e w' => e = .returned (.tuple #[.string (bs o), .int .i64 tk, .int .i64 E]) ∧ Kp [] W' w' from fun W' h => by have := HCB.out W' h.2.2 t z HTL.out; rw [hR] at this; exact this)
            have HST := Lib.hid (show (fun W : World => (W.cell? ⟨B, k, none⟩ = some (.int .i64 z) ∧ W.cell? ⟨A, i, none⟩ = some (.string (bs t)) ∧ Kp [] w6 W)) wr.drew from hRow _ (hkp.trans ((Kp.refl [] wr).drew 1)))
            have HKS := Lib.hid (show ∀ X1, Kp [] wr.drew X1 → (fun W : World => (W.cell? ⟨B, k, none⟩ = some (.int .i64 z) ∧ W.cell? ⟨A, i, none⟩ = some (.string (bs t)) ∧ Kp [] w6 W)) X1 from fun X1 hw => hRow X1 (hkp.trans (((Kp.refl [] wr).drew 1).trans hw)))
            clear hRow hz hR hkp hkg
            go_upto_region 13 with fail
            go_region_held3 (fun W : World => (W.cell? ⟨B, k, none⟩ = some (.int .i64 z) ∧ W.cell? ⟨A, i, none⟩ = some (.string (bs t)) ∧ Kp [] w6 W)) (first | exact HST.out | assumption | exact HKS.out _ (by assumption)) (first | (go_at_call 16; refine Calls.mono (by with_reducible exact HYA.out _ (by assumption)) ?_; rintro e x7 ⟨rfl, hb7⟩))
            clear HST HKS HYA
            have hk7 : Kp [] w6 x7 := And.right (And.right (show (fun W : World => (W.cell? ⟨B, k, none⟩ = some (.int .i64 z) ∧ W.cell? ⟨A, i, none⟩ = some (.string (bs t)) ∧ Kp [] w6 W)) x7 from by assumption))
            have HK7 := Lib.hid hk7
            have HST := Lib.hid (show (fun W : World => (W.cell? ⟨B, k, none⟩ = some (.int .i64 z) ∧ W.cell? ⟨A, i, none⟩ = some (.string (bs t)) ∧ Kp [] w6 W)) x7.drew from HRW.out _ (hk7.trans ((Kp.refl [] x7).drew 1)))
            have HKS := Lib.hid (show ∀ X1, Kp [] x7.drew X1 → (fun W : World => (W.cell? ⟨B, k, none⟩ = some (.int .i64 z) ∧ W.cell? ⟨A, i, none⟩ = some (.string (bs t)) ∧ Kp [] w6 W)) X1 from fun X1 hw => HRW.out X1 (hk7.trans (((Kp.refl [] x7).drew 1).trans hw)))
            clear hk7
            go_upto_region 14 with fail
            go_region_held3 (fun W : World => (W.cell? ⟨B, k, none⟩ = some (.int .i64 z) ∧ W.cell? ⟨A, i, none⟩ = some (.string (bs t)) ∧ Kp [] w6 W)) (first | exact HST.out | assumption | exact HKS.out _ (by assumption)) (first | (go_at_call 17; refine Calls.mono (by with_reducible exact HYB.out _ (by assumption)) ?_; rintro e x8 ⟨rfl, hb8⟩))
            clear HST HKS HYB
            have hk8 : Kp [] w6 x8 := And.right (And.right (show (fun W : World => (W.cell? ⟨B, k, none⟩ = some (.int .i64 z) ∧ W.cell? ⟨A, i, none⟩ = some (.string (bs t)) ∧ Kp [] w6 W)) x8 from by assumption))
            have HK8 := Lib.hid hk8
            clear hk8
            go_wp2
            go_roundg h
            case measure => omega
            case rel => exact ⟨k + 1, by have := HIK.out; omega, rfl, HK8.out⟩
          · have hkz : ¬ ((k : Int) < 3) := by omega
            have hwi : IntKind.i64.wrap ((i : Int) + 1) = ((i + 1 : Nat) : Int) := by rw [IntKind.wrap_i64]; omega
            clear hkp hkg hk
            go_wp2
            go_roundg g
            case measure => omega
            case rel => exact ⟨i + 1, by have := HI.out; omega, rfl, HKI.out⟩
      · have hiz : ¬ ((i : Int) < 2) := by omega
        clear hkp hig hi
        go_wp2_with (go_at_call 9; refine Calls.mono (by with_reducible exact HKN.out _ (HK6.out.trans (HK.out.mono (by simp)))) ?_; rintro e w9 ⟨rfl, hk⟩; have HK9 := Lib.hid (HK6.out.trans ((HK.out.trans hk).mono (by simp))); clear hk)
        go_ret
        exact ⟨rfl, (HK1.out.trans HK9.out).below (Nat.le_refl _) (by simp; omega)⟩
  · have hraw' : (400 : Int) < (raw.size : Int) := by omega
    have HKN := Lib.hid (known_any hmx)
    clear hm hmx hg hraw
    go_enter Tryd.func4, Tryd.ntmps4
    go_wp2_with (go_at_call 9; refine Calls.mono (by with_reducible exact HKN.out) ?_; rintro e w4 ⟨rfl, hk⟩; have HK4 := Lib.hid hk; clear hk)
    go_ret
    exact ⟨rfl, HK4.out.below (Nat.le_refl _) (by simp)⟩
end Go.Proofs.YteiphphihclnfaaDoor
