/- Assigns. -/
import Derived.Test.YtljkljnfbcmjdaaGreatDoorKGu
import Derived.Deep.RegionHeld3
open Go.Lib renaming hid → qH
open Go.Calls renaming mono → cM
namespace Go.Proofs.YtljkljnfbcmjdaaGreatDoor
open Go.RowKit
open Go.Act renaming put → aP
open List renaming setIfInBounds_toArray → lA, set_cons_zero → lB, set_cons_succ → lC
theorem ints2 {w : World} {b r : Nat} (hr : r < 2) (hb : w.heap[b]? = some (.cells #[.int .i64 3, .int .i64 6] 3 (0, 0))) : ∃ z : Int, 1 ≤ z ∧ z ≤ 6 ∧ w.cell? ⟨b, r, none⟩ = some (.int .i64 z) := by
 have hc : r = 0 ∨ r = 1 := by omega
 rcases hc with rfl | rfl
 ·exact ⟨3, by decide, by decide, by rw [cell_of_row _ _ _ _ _ _ hb]; rfl⟩
 ·exact ⟨6, by decide, by decide, by rw [cell_of_row _ _ _ _ _ _ hb]; rfl⟩
theorem ints3 {w : World} {b r : Nat} (hr : r < 3) (hb : w.heap[b]? = some (.cells #[.int .i64 3, .int .i64 4, .int .i64 6] 3 (0, 0))) : ∃ z : Int, 1 ≤ z ∧ z ≤ 6 ∧ w.cell? ⟨b, r, none⟩ = some (.int .i64 z) := by
 have hc : r = 0 ∨ r = 1 ∨ r = 2 := by omega
 rcases hc with rfl | rfl | rfl
 ·exact ⟨3, by decide, by decide, by rw [cell_of_row _ _ _ _ _ _ hb]; rfl⟩
 ·exact ⟨4, by decide, by decide, by rw [cell_of_row _ _ _ _ _ _ hb]; rfl⟩
 ·exact ⟨6, by decide, by decide, by rw [cell_of_row _ _ _ _ _ _ hb]; rfl⟩
theorem Kp.upT {a b c : World} {tb : Nat} (h : Kp [tb] a b) (g : Kp [] b c) : Kp [tb] a c := h.trans (g.mono (by simp))
set_option maxRecDepth 100000 in
set_option maxHeartbeats 16000000 in
theorem assigns_any {w : World} {tb k : Nat} (hk : k ≤ 900000) (h : Tp w tb k) : Calls Tryz.prog 48 #[.pointer (some ⟨tb, 0, none⟩)] w fun e w' => ∃ t : Tm, e = .returned (.agg (tmC t)) ∧ GoodT t ∧ Tq w' tb (k + 10) ∧ Kp [tb] w w' := by
 obtain ⟨W0, hW⟩ : ∃ W0, w.alloc (.cells #[.int .i64 0, .string ⟨#[]⟩, .int .i64 0, .string ⟨#[]⟩] 46) = W0 := ⟨_, rfl⟩
 obtain ⟨R, hR⟩ : ∃ R, w.heap.size = R := ⟨_, rfl⟩
 have hk0 : Kp [tb] w W0 := by rw [← hW]; exact (Kp.refl [tb] w).alloc _
 have hr0 : MAt W0 R tm0 := by rw [← hW, ← hR]; exact MAt.new w tm0
 have hT0 : Tp W0 tb k := by rw [← hW]; exact h.kp ((Kp.refl [] w).alloc _) (by simp)
 have HRT := qH (show ¬ R = tb by have := h.lt; omega)
 have HRL := qH (show tb < R by have := h.lt; omega)
 have HRW := qH (show w.heap.size ≤ R by omega)
 obtain ⟨t0, t1, t2, t3⟩ := hr0.cells
 have ft := fun o => hr0.frz (o := o)
 have HR := qH hr0
 have HK := qH hk0
 have HT := qH hT0
 clear hk0 hr0 hT0 h
 go_enter Tryz.func48, Tryz.ntmps48
 go_upto_region 2 with (first
  | (go_at_call 16; refine cM (by with_reducible exact nextL14 (by omega) HT.out) ?_; rintro e w3 ⟨r, hr, rfl, ht, hkp⟩; have HR := qH (HR.out.kp hkp (by simp; exact HRT.out)); obtain ⟨t0, t1, t2, t3⟩ := HR.out.cells; have ft := fun o => HR.out.frz (o := o); have HK := qH (HK.out.trans hkp); have HT := qH ht; clear ht hkp))
 have hc : r = 0 ∨ r = 1 ∨ r = 2 ∨ r = 3 ∨ r = 4 ∨ r = 5 ∨ r = 6 ∨ r = 7 ∨ r = 8 ∨ r = 9 ∨ r = 10 ∨ r = 11 ∨ r = 12 ∨ r = 13 := by omega
 clear hr
 rcases hc with rfl | rfl | rfl | rfl | rfl | rfl | rfl | rfl | rfl | rfl | rfl | rfl | rfl | rfl
 ·go_wp2_with (first
   | (go_at_call 20; refine cM (by with_reducible exact oneM19 (by omega) HT.out _ rfl) ?_; rintro e w4 ⟨xa, hxa, rfl, ht, hkp⟩; have HR := qH (HR.out.kp hkp (by simp; exact HRT.out)); obtain ⟨t0, t1, t2, t3⟩ := HR.out.cells; have ft := fun o => HR.out.frz (o := o); have HK := qH (HK.out.trans hkp); have HT := qH ht; clear ht hkp)
   | (go_at_call 16; refine cM (by with_reducible exact nextL2 (by omega) HT.out) ?_; rintro e w5 ⟨q, hq, rfl, ht, hkp⟩; have HR := qH (HR.out.kp hkp (by simp; exact HRT.out)); obtain ⟨t0, t1, t2, t3⟩ := HR.out.cells; have ft := fun o => HR.out.frz (o := o); have HK := qH (HK.out.trans hkp); have HT := qH ht; clear ht hkp)
   | (go_at_call 20; refine cM (by with_reducible exact oneM20 (by omega) HT.out _ rfl) ?_; rintro e w6 ⟨xb, hxb, rfl, ht, hkp⟩; have HR := qH (HR.out.kp hkp (by simp; exact HRT.out)); obtain ⟨t0, t1, t2, t3⟩ := HR.out.cells; have ft := fun o => HR.out.frz (o := o); have HK := qH (HK.out.trans hkp); have HT := qH ht; clear ht hkp))
  refine tm_end Tryz.results48 (x := ⟨6, xa, ((3 : Int) + q), xb⟩) (HR.out.all ⟨6, xa, ((3 : Int) + q), xb⟩) rfl rfl ⟨_, rfl, goodT_mk 6 xa ((3 : Int) + q) xb (hxa) hxb (by decide) (by decide), ⟨_, by omega, HT.out.put4 HRL.out _ _ _ _⟩, (((HK.out.setCell (.inr HRW.out) _).setCell (.inr HRW.out) _).setCell (.inr HRW.out) _).setCell (.inr HRW.out) _⟩
 ·go_wp2_with (first
   | (go_at_call 20; refine cM (by with_reducible exact oneM19 (by omega) HT.out _ rfl) ?_; rintro e w4 ⟨xa, hxa, rfl, ht, hkp⟩; have HR := qH (HR.out.kp hkp (by simp; exact HRT.out)); obtain ⟨t0, t1, t2, t3⟩ := HR.out.cells; have ft := fun o => HR.out.frz (o := o); have HK := qH (HK.out.trans hkp); have HT := qH ht; clear ht hkp)
   | (go_at_call 16; refine cM (by with_reducible exact nextL2 (by omega) HT.out) ?_; rintro e w5 ⟨q, hq, rfl, ht, hkp⟩; have HR := qH (HR.out.kp hkp (by simp; exact HRT.out)); obtain ⟨t0, t1, t2, t3⟩ := HR.out.cells; have ft := fun o => HR.out.frz (o := o); have HK := qH (HK.out.trans hkp); have HT := qH ht; clear ht hkp)
   | (go_at_call 20; refine cM (by with_reducible exact oneM20 (by omega) HT.out _ rfl) ?_; rintro e w6 ⟨xb, hxb, rfl, ht, hkp⟩; have HR := qH (HR.out.kp hkp (by simp; exact HRT.out)); obtain ⟨t0, t1, t2, t3⟩ := HR.out.cells; have ft := fun o => HR.out.frz (o := o); have HK := qH (HK.out.trans hkp); have HT := qH ht; clear ht hkp))
  refine tm_end Tryz.results48 (x := ⟨6, xa, ((3 : Int) + q), xb⟩) (HR.out.all ⟨6, xa, ((3 : Int) + q), xb⟩) rfl rfl ⟨_, rfl, goodT_mk 6 xa ((3 : Int) + q) xb (hxa) hxb (by decide) (by decide), ⟨_, by omega, HT.out.put4 HRL.out _ _ _ _⟩, (((HK.out.setCell (.inr HRW.out) _).setCell (.inr HRW.out) _).setCell (.inr HRW.out) _).setCell (.inr HRW.out) _⟩
 ·go_wp2_with (first
   | (go_at_call 16; refine cM (by with_reducible exact nextL3 (by omega) HT.out) ?_; rintro e w4 ⟨q, hq, rfl, ht, hkp⟩; have HR := qH (HR.out.kp hkp (by simp; exact HRT.out)); obtain ⟨t0, t1, t2, t3⟩ := HR.out.cells; have ft := fun o => HR.out.frz (o := o); have HK := qH (HK.out.trans hkp); have HT := qH ht; clear ht hkp)
   | (go_at_call 20; refine cM (by with_reducible exact oneM21 (by omega) HT.out _ rfl) ?_; rintro e w6 ⟨xb, hxb, rfl, ht, hkp⟩; have HR := qH (HR.out.kp hkp (by simp; exact HRT.out)); obtain ⟨t0, t1, t2, t3⟩ := HR.out.cells; have ft := fun o => HR.out.frz (o := o); have HK := qH (HK.out.trans hkp); have HT := qH ht; clear ht hkp))
  refine tm_end Tryz.results48 (x := ⟨7, [], ((3 : Int) + q), xb⟩) (HR.out.all ⟨7, [], ((3 : Int) + q), xb⟩) rfl rfl ⟨_, rfl, goodT_mk 7 [] ((3 : Int) + q) xb (by decide) hxb (by decide) (by decide), ⟨_, by omega, HT.out.put4 HRL.out _ _ _ _⟩, (((HK.out.setCell (.inr HRW.out) _).setCell (.inr HRW.out) _).setCell (.inr HRW.out) _).setCell (.inr HRW.out) _⟩
 ·go_wp2_with (first
   | (go_at_call 16; refine cM (by with_reducible exact nextL3 (by omega) HT.out) ?_; rintro e w4 ⟨q, hq, rfl, ht, hkp⟩; have HR := qH (HR.out.kp hkp (by simp; exact HRT.out)); obtain ⟨t0, t1, t2, t3⟩ := HR.out.cells; have ft := fun o => HR.out.frz (o := o); have HK := qH (HK.out.trans hkp); have HT := qH ht; clear ht hkp)
   | (go_at_call 20; refine cM (by with_reducible exact oneM21 (by omega) HT.out _ rfl) ?_; rintro e w6 ⟨xb, hxb, rfl, ht, hkp⟩; have HR := qH (HR.out.kp hkp (by simp; exact HRT.out)); obtain ⟨t0, t1, t2, t3⟩ := HR.out.cells; have ft := fun o => HR.out.frz (o := o); have HK := qH (HK.out.trans hkp); have HT := qH ht; clear ht hkp))
  refine tm_end Tryz.results48 (x := ⟨7, [], ((3 : Int) + q), xb⟩) (HR.out.all ⟨7, [], ((3 : Int) + q), xb⟩) rfl rfl ⟨_, rfl, goodT_mk 7 [] ((3 : Int) + q) xb (by decide) hxb (by decide) (by decide), ⟨_, by omega, HT.out.put4 HRL.out _ _ _ _⟩, (((HK.out.setCell (.inr HRW.out) _).setCell (.inr HRW.out) _).setCell (.inr HRW.out) _).setCell (.inr HRW.out) _⟩
 ·go_upto_region 9 with fail
  have HXA := qH (show (#[.string ⟨#[108, 97, 110, 37, 110]⟩, .string ⟨#[110, 101, 116, 48]⟩, .string ⟨#[97, 47, 98]⟩, .string ⟨#[37, 99]⟩] : Array Value) = ([[108, 97, 110, 37, 110], [110, 101, 116, 48], [97, 47, 98], [37, 99]].map fun x => Value.string (bs x)).toArray from rfl)
  obtain ⟨V0, hV0⟩ : ∃ V, w3.drew = V := ⟨_, rfl⟩
  have hkd : Kp [] w3 V0 := by rw [← hV0]; exact (Kp.refl [] _).drew 1
  have HK0 := qH (HK.out.upT hkd)
  have HM0 := qH (HR.out.kp hkd (by simp))
  have HT0 := qH (HT.out.kp hkd (by simp))
  clear t0 t1 t2 t3 ft hkd
  refine wp_region_held_drew (S := fun W => Kp [tb] w W ∧ (∃ m, MAt W R m) ∧ Tq W tb (k + 10)) (by kernel_rfl) (by rw [hV0]; exact ⟨HK0.out, ⟨_, HM0.out⟩, ⟨_, by omega, HT0.out⟩⟩) (fun hHeld => ?_)
  rw [hV0] at hHeld ⊢
  clear hV0
  refine wpAnyH_take (i := 1) (oi := ⟨some 31, .move (.tmp 0), 25, "rule.go:60", #[], none⟩) (v := .pointer (some ⟨tb, 0, none⟩)) rfl (by kernel_rfl) (by kernel_rfl) (by kernel_rfl) (fun _ _ _ h => h) (Or.inl ⟨by rfl, fun w hSw => by (try dsimp only at hSw); go_simp⟩) hHeld ?_
  try simp only [aP, lA, lB, lC]
  refine wpAnyH_take (i := 5) (oi := ⟨some 35, .move (.tmp 0), 25, "rule.go:60", #[], none⟩) (v := .pointer (some ⟨tb, 0, none⟩)) rfl (by kernel_rfl) (by kernel_rfl) (by kernel_rfl) (fun _ _ _ h => h) (Or.inl ⟨by rfl, fun w hSw => by (try dsimp only at hSw); go_simp⟩) hHeld ?_
  try simp only [aP, lA, lB, lC]
  refine wpAnyH_ready (rs := [0, 2, 6]) (by kernel_rfl) (by simp) ?_
  refine AllReadyH.cons (o := ⟨some 30, .buildSlice 22 2 #[(0, .const (.int .i64 3)), (1, .const (.int .i64 6))], 22, "rule.go:60", #[], none⟩) rfl (fun K hK => ?_) (AllReadyH.cons (o := ⟨some 32, .call { callee := .value (.func 16), args := #[.tmp 31, .const (.int .i64 2)], argTypes := #[25, 3] }, 3, "rule.go:60", #[⟨1, .data⟩], none⟩) rfl (fun K hK => ?_) (AllReadyH.cons (o := ⟨some 36, .buildSlice 52 4 #[(0, .const (.string { data := #[108, 97, 110, 37, 110] })), (1, .const (.string { data := #[110, 101, 116, 48] })), (2, .const (.string { data := #[97, 47, 98] })), (3, .const (.string { data := #[37, 99] }))], 52, "rule.go:60", #[], none⟩) rfl (fun K hK => ?_) AllReadyH.nil))
  ·
   go_simp
   obtain ⟨V2, hV2⟩ : ∃ V, V0.alloc (.cells #[.int .i64 3, .int .i64 6] 3) = V := ⟨_, rfl⟩
   obtain ⟨q1, hq1⟩ : ∃ b, V0.heap.size = b := ⟨_, rfl⟩
   have hk2 : Kp [] V0 V2 := by rw [← hV2]; exact (Kp.refl [] _).alloc _
   have HBq1 := qH (show V2.heap[q1]? = some (.cells #[.int .i64 3, .int .i64 6] 3 (0, 0)) by rw [← hV2, ← hq1]; exact heap_alloc_last _ _)
   have HLq1 := qH (show tb < q1 by have := HT0.out.lt; omega)
   have HK2 := qH (HK0.out.upT hk2)
   have HM2 := qH (HM0.out.kp hk2 (by simp))
   have HT2 := qH (HT0.out.kp hk2 (by simp))
   rw [hV2, hq1]
   clear hHeld hk2 hV2 hq1
   refine hK.out _ _ ⟨HK2.out, ⟨_, HM2.out⟩, ⟨_, by omega, HT2.out⟩⟩ (fun hHeld => ?_)
   try simp only [aP, lA, lB, lC]
   clear hK
   refine wpAnyH_ready (rs := [2, 6]) (by kernel_rfl) (by simp) ?_
   refine AllReadyH.cons (o := ⟨some 32, .call { callee := .value (.func 16), args := #[.tmp 31, .const (.int .i64 2)], argTypes := #[25, 3] }, 3, "rule.go:60", #[⟨1, .data⟩], none⟩) rfl (fun K hK => ?_) (AllReadyH.cons (o := ⟨some 36, .buildSlice 52 4 #[(0, .const (.string { data := #[108, 97, 110, 37, 110] })), (1, .const (.string { data := #[110, 101, 116, 48] })), (2, .const (.string { data := #[97, 47, 98] })), (3, .const (.string { data := #[37, 99] }))], 52, "rule.go:60", #[], none⟩) rfl (fun K hK => ?_) AllReadyH.nil)
   ·
    go_simp
    go_at_call 16
    refine cM (by with_reducible exact nextL2 (by omega) HT2.out) ?_
    rintro e V4 ⟨r3, hr3, rfl, ht, hkp⟩
    dsimp only
    have Hr3 := qH hr3
    have HK4 := qH (HK2.out.trans hkp)
    have HM4 := qH (HM2.out.kp hkp (by simp; exact HRT.out))
    have HT4 := qH ht
    have HBq1 := qH ((hkp.block _ (block_lt HBq1.out) (by have := HLq1.out; simp; omega)).trans HBq1.out)
    clear hHeld ht hkp hr3
    refine hK.out _ _ ⟨HK4.out, ⟨_, HM4.out⟩, ⟨_, by omega, HT4.out⟩⟩ (fun hHeld => ?_)
    try simp only [aP, lA, lB, lC]
    clear hK
    refine wpAnyH_take (i := 3) (oi := ⟨some 33, .indexAddr 22 (.tmp 30) (.tmp 32), 0, "rule.go:60", #[⟨0, .data⟩, ⟨2, .data⟩], none⟩) (v := .pointer (some ⟨q1, r3, none⟩)) rfl (by kernel_rfl) (by kernel_rfl) (by kernel_rfl) (fun _ _ _ h => h) (Or.inl ⟨by rfl, fun w hSw => by (try dsimp only at hSw); have hq1 : ((r3 : Nat) : Int) < 2 := (by have := Hr3.out; omega); go_simp⟩) hHeld ?_
    try simp only [aP, lA, lB, lC]
    refine wpAnyH_ready (rs := [4, 6]) (by kernel_rfl) (by simp) ?_
    refine AllReadyH.cons (o := ⟨some 34, .load 3 (.tmp 33), 3, "rule.go:60", #[⟨3, .data⟩], none⟩) rfl (fun K hK => ?_) (AllReadyH.cons (o := ⟨some 36, .buildSlice 52 4 #[(0, .const (.string { data := #[108, 97, 110, 37, 110] })), (1, .const (.string { data := #[110, 101, 116, 48] })), (2, .const (.string { data := #[97, 47, 98] })), (3, .const (.string { data := #[37, 99] }))], 52, "rule.go:60", #[], none⟩) rfl (fun K hK => ?_) AllReadyH.nil)
    ·
     obtain ⟨z5, hz1, hz2, hz3⟩ := ints2 Hr3.out HBq1.out
     have HZz5 := qH (And.intro hz1 hz2)
     clear hz1 hz2
     go_simp
     clear hHeld hz3
     refine hK.out _ _ ⟨HK4.out, ⟨_, HM4.out⟩, ⟨_, by omega, HT4.out⟩⟩ (fun hHeld => ?_)
     try simp only [aP, lA, lB, lC]
     clear hK
     refine wpAnyH_ready (rs := [6]) (by kernel_rfl) (by simp) ?_
     refine AllReadyH.cons (o := ⟨some 36, .buildSlice 52 4 #[(0, .const (.string { data := #[108, 97, 110, 37, 110] })), (1, .const (.string { data := #[110, 101, 116, 48] })), (2, .const (.string { data := #[97, 47, 98] })), (3, .const (.string { data := #[37, 99] }))], 52, "rule.go:60", #[], none⟩) rfl (fun K hK => ?_) AllReadyH.nil
     go_simp
     obtain ⟨V7, hV7⟩ : ∃ V, V4.alloc (.cells #[.string ⟨#[108, 97, 110, 37, 110]⟩, .string ⟨#[110, 101, 116, 48]⟩, .string ⟨#[97, 47, 98]⟩, .string ⟨#[37, 99]⟩] 9) = V := ⟨_, rfl⟩
     obtain ⟨q6, hq6⟩ : ∃ b, V4.heap.size = b := ⟨_, rfl⟩
     have hk7 : Kp [] V4 V7 := by rw [← hV7]; exact (Kp.refl [] _).alloc _
     have HBq6 := qH (show V7.heap[q6]? = some (.cells #[.string ⟨#[108, 97, 110, 37, 110]⟩, .string ⟨#[110, 101, 116, 48]⟩, .string ⟨#[97, 47, 98]⟩, .string ⟨#[37, 99]⟩] 9 (0, 0)) by rw [← hV7, ← hq6]; exact heap_alloc_last _ _)
     have HLq6 := qH (show tb < q6 by have := HT4.out.lt; omega)
     have HK7 := qH (HK4.out.upT hk7)
     have HM7 := qH (HM4.out.kp hk7 (by simp))
     have HT7 := qH (HT4.out.kp hk7 (by simp))
     have HBq1 := qH ((hk7.block _ (block_lt HBq1.out) (by simp)).trans HBq1.out)
     rw [hV7, hq6]
     clear hHeld hk7 hV7 hq6
     refine hK.out _ _ ⟨HK7.out, ⟨_, HM7.out⟩, ⟨_, by omega, HT7.out⟩⟩ (fun hHeld => ?_)
     try simp only [aP, lA, lB, lC]
     clear hK
     refine wpAnyH_ready (rs := [7]) (by kernel_rfl) (by simp) ?_
     refine AllReadyH.cons (o := ⟨some 37, .call { callee := .value (.func 20), args := #[.tmp 35, .tmp 36], argTypes := #[25, 52] }, 9, "rule.go:60", #[⟨5, .data⟩, ⟨6, .data⟩, ⟨2, .chain⟩], none⟩) rfl (fun K hK => ?_) AllReadyH.nil
     go_simp
     go_at_call 20
     refine cM (by with_reducible exact oneB [[108, 97, 110, 37, 110], [110, 101, 116, 48], [97, 47, 98], [37, 99]] 4 (by decide) (by decide) (by decide) (by decide) (by omega) HT7.out HLq6.out HBq6.out HXA.out) ?_
     rintro e V9 ⟨x8, hx8, rfl, ht, hkp⟩
     dsimp only
     have Hx8 := qH hx8
     have HK9 := qH (HK7.out.trans hkp)
     have HM9 := qH (HM7.out.kp hkp (by simp; exact HRT.out))
     have HT9 := qH ht
     have HBq1 := qH ((hkp.block _ (block_lt HBq1.out) (by have := HLq1.out; simp; omega)).trans HBq1.out)
     have HBq6 := qH ((hkp.block _ (block_lt HBq6.out) (by have := HLq6.out; simp; omega)).trans HBq6.out)
     clear hHeld ht hkp hx8
     refine hK.out _ _ ⟨HK9.out, ⟨_, HM9.out⟩, ⟨_, by omega, HT9.out⟩⟩ (fun hHeld => ?_)
     try simp only [aP, lA, lB, lC]
     clear hK
     refine wpAnyH_take (i := 8) (oi := ⟨some 38, .build 46 #[(0, .const (.int .i64 15)), (2, .tmp 34), (3, .tmp 37)], 46, "rule.go:60", #[⟨4, .data⟩, ⟨7, .data⟩], none⟩) (v := .agg #[.int .i64 15, .string ⟨#[]⟩, .int .i64 z5, .string (bs x8)]) rfl (by kernel_rfl) (by kernel_rfl) (by kernel_rfl) (fun _ _ _ h => h) (Or.inl ⟨by rfl, fun w hSw => by (try dsimp only at hSw); go_simp⟩) hHeld ?_
     try simp only [aP, lA, lB, lC]
     refine wpAnyH_ready (rs := [9]) (by kernel_rfl) (by simp) ?_
     refine AllReadyH.cons (o := ⟨none, .store 46 (.tmp 2) (.tmp 38), 0, "rule.go:60", #[⟨8, .data⟩, ⟨7, .chain⟩, ⟨0, .phase⟩, ⟨1, .phase⟩, ⟨2, .phase⟩, ⟨3, .phase⟩, ⟨4, .phase⟩, ⟨5, .phase⟩, ⟨6, .phase⟩, ⟨7, .phase⟩, ⟨8, .phase⟩], none⟩) rfl (fun K hK => ?_) AllReadyH.nil
     obtain ⟨t0, t1, t2, t3⟩ := HM9.out.cells
     have ft := fun o => HM9.out.frz (o := o)
     have HMA := qH (HM9.out.all ⟨15, [], z5, x8⟩)
     have HKE := qH ((((HK9.out.setCell (p := ⟨R, 0, none⟩) (.inr HRW.out) (.int .i64 15)).setCell (p := ⟨R, 1, none⟩) (.inr HRW.out) (.string ⟨#[]⟩)).setCell (p := ⟨R, 2, none⟩) (.inr HRW.out) (.int .i64 z5)).setCell (p := ⟨R, 3, none⟩) (.inr HRW.out) (.string (bs x8)))
     have HTE := qH (HT9.out.put4 HRL.out (.int .i64 15) (.string ⟨#[]⟩) (.int .i64 z5) (.string (bs x8)))
     go_simp
     clear hHeld t0 t1 t2 t3 ft
     refine hK.out _ _ ⟨HKE.out, ⟨_, HMA.out⟩, ⟨_, by omega, HTE.out⟩⟩ (fun hHeld => ?_)
     try simp only [aP, lA, lB, lC]
     clear hK
     refine wpAnyH_done (by kernel_rfl) ?_ _
     clear hHeld
     go_wp2
     exact tm_end Tryz.results48 (x := ⟨15, [], z5, x8⟩) HMA.out rfl rfl ⟨_, rfl, goodT_mk 15 [] z5 x8 (by decide) Hx8.out (by decide) (by decide), ⟨_, by omega, HTE.out⟩, HKE.out⟩
    ·
     go_simp
     obtain ⟨V11, hV11⟩ : ∃ V, V4.alloc (.cells #[.string ⟨#[108, 97, 110, 37, 110]⟩, .string ⟨#[110, 101, 116, 48]⟩, .string ⟨#[97, 47, 98]⟩, .string ⟨#[37, 99]⟩] 9) = V := ⟨_, rfl⟩
     obtain ⟨q10, hq10⟩ : ∃ b, V4.heap.size = b := ⟨_, rfl⟩
     have hk11 : Kp [] V4 V11 := by rw [← hV11]; exact (Kp.refl [] _).alloc _
     have HBq10 := qH (show V11.heap[q10]? = some (.cells #[.string ⟨#[108, 97, 110, 37, 110]⟩, .string ⟨#[110, 101, 116, 48]⟩, .string ⟨#[97, 47, 98]⟩, .string ⟨#[37, 99]⟩] 9 (0, 0)) by rw [← hV11, ← hq10]; exact heap_alloc_last _ _)
     have HLq10 := qH (show tb < q10 by have := HT4.out.lt; omega)
     have HK11 := qH (HK4.out.upT hk11)
     have HM11 := qH (HM4.out.kp hk11 (by simp))
     have HT11 := qH (HT4.out.kp hk11 (by simp))
     have HBq1 := qH ((hk11.block _ (block_lt HBq1.out) (by simp)).trans HBq1.out)
     rw [hV11, hq10]
     clear hHeld hk11 hV11 hq10
     refine hK.out _ _ ⟨HK11.out, ⟨_, HM11.out⟩, ⟨_, by omega, HT11.out⟩⟩ (fun hHeld => ?_)
     try simp only [aP, lA, lB, lC]
     clear hK
     refine wpAnyH_ready (rs := [4, 7]) (by kernel_rfl) (by simp) ?_
     refine AllReadyH.cons (o := ⟨some 34, .load 3 (.tmp 33), 3, "rule.go:60", #[⟨3, .data⟩], none⟩) rfl (fun K hK => ?_) (AllReadyH.cons (o := ⟨some 37, .call { callee := .value (.func 20), args := #[.tmp 35, .tmp 36], argTypes := #[25, 52] }, 9, "rule.go:60", #[⟨5, .data⟩, ⟨6, .data⟩, ⟨2, .chain⟩], none⟩) rfl (fun K hK => ?_) AllReadyH.nil)
     ·
      obtain ⟨z12, hz1, hz2, hz3⟩ := ints2 Hr3.out HBq1.out
      have HZz12 := qH (And.intro hz1 hz2)
      clear hz1 hz2
      go_simp
      clear hHeld hz3
      refine hK.out _ _ ⟨HK11.out, ⟨_, HM11.out⟩, ⟨_, by omega, HT11.out⟩⟩ (fun hHeld => ?_)
      try simp only [aP, lA, lB, lC]
      clear hK
      refine wpAnyH_ready (rs := [7]) (by kernel_rfl) (by simp) ?_
      refine AllReadyH.cons (o := ⟨some 37, .call { callee := .value (.func 20), args := #[.tmp 35, .tmp 36], argTypes := #[25, 52] }, 9, "rule.go:60", #[⟨5, .data⟩, ⟨6, .data⟩, ⟨2, .chain⟩], none⟩) rfl (fun K hK => ?_) AllReadyH.nil
      go_simp
      go_at_call 20
      refine cM (by with_reducible exact oneB [[108, 97, 110, 37, 110], [110, 101, 116, 48], [97, 47, 98], [37, 99]] 4 (by decide) (by decide) (by decide) (by decide) (by omega) HT11.out HLq10.out HBq10.out HXA.out) ?_
      rintro e V14 ⟨x13, hx13, rfl, ht, hkp⟩
      dsimp only
      have Hx13 := qH hx13
      have HK14 := qH (HK11.out.trans hkp)
      have HM14 := qH (HM11.out.kp hkp (by simp; exact HRT.out))
      have HT14 := qH ht
      have HBq1 := qH ((hkp.block _ (block_lt HBq1.out) (by have := HLq1.out; simp; omega)).trans HBq1.out)
      have HBq10 := qH ((hkp.block _ (block_lt HBq10.out) (by have := HLq10.out; simp; omega)).trans HBq10.out)
      clear hHeld ht hkp hx13
      refine hK.out _ _ ⟨HK14.out, ⟨_, HM14.out⟩, ⟨_, by omega, HT14.out⟩⟩ (fun hHeld => ?_)
      try simp only [aP, lA, lB, lC]
      clear hK
      refine wpAnyH_take (i := 8) (oi := ⟨some 38, .build 46 #[(0, .const (.int .i64 15)), (2, .tmp 34), (3, .tmp 37)], 46, "rule.go:60", #[⟨4, .data⟩, ⟨7, .data⟩], none⟩) (v := .agg #[.int .i64 15, .string ⟨#[]⟩, .int .i64 z12, .string (bs x13)]) rfl (by kernel_rfl) (by kernel_rfl) (by kernel_rfl) (fun _ _ _ h => h) (Or.inl ⟨by rfl, fun w hSw => by (try dsimp only at hSw); go_simp⟩) hHeld ?_
      try simp only [aP, lA, lB, lC]
      refine wpAnyH_ready (rs := [9]) (by kernel_rfl) (by simp) ?_
      refine AllReadyH.cons (o := ⟨none, .store 46 (.tmp 2) (.tmp 38), 0, "rule.go:60", #[⟨8, .data⟩, ⟨7, .chain⟩, ⟨0, .phase⟩, ⟨1, .phase⟩, ⟨2, .phase⟩, ⟨3, .phase⟩, ⟨4, .phase⟩, ⟨5, .phase⟩, ⟨6, .phase⟩, ⟨7, .phase⟩, ⟨8, .phase⟩], none⟩) rfl (fun K hK => ?_) AllReadyH.nil
      obtain ⟨t0, t1, t2, t3⟩ := HM14.out.cells
      have ft := fun o => HM14.out.frz (o := o)
      have HMA := qH (HM14.out.all ⟨15, [], z12, x13⟩)
      have HKE := qH ((((HK14.out.setCell (p := ⟨R, 0, none⟩) (.inr HRW.out) (.int .i64 15)).setCell (p := ⟨R, 1, none⟩) (.inr HRW.out) (.string ⟨#[]⟩)).setCell (p := ⟨R, 2, none⟩) (.inr HRW.out) (.int .i64 z12)).setCell (p := ⟨R, 3, none⟩) (.inr HRW.out) (.string (bs x13)))
      have HTE := qH (HT14.out.put4 HRL.out (.int .i64 15) (.string ⟨#[]⟩) (.int .i64 z12) (.string (bs x13)))
      go_simp
      clear hHeld t0 t1 t2 t3 ft
      refine hK.out _ _ ⟨HKE.out, ⟨_, HMA.out⟩, ⟨_, by omega, HTE.out⟩⟩ (fun hHeld => ?_)
      try simp only [aP, lA, lB, lC]
      clear hK
      refine wpAnyH_done (by kernel_rfl) ?_ _
      clear hHeld
      go_wp2
      exact tm_end Tryz.results48 (x := ⟨15, [], z12, x13⟩) HMA.out rfl rfl ⟨_, rfl, goodT_mk 15 [] z12 x13 (by decide) Hx13.out (by decide) (by decide), ⟨_, by omega, HTE.out⟩, HKE.out⟩
     ·
      go_simp
      go_at_call 20
      refine cM (by with_reducible exact oneB [[108, 97, 110, 37, 110], [110, 101, 116, 48], [97, 47, 98], [37, 99]] 4 (by decide) (by decide) (by decide) (by decide) (by omega) HT11.out HLq10.out HBq10.out HXA.out) ?_
      rintro e V16 ⟨x15, hx15, rfl, ht, hkp⟩
      dsimp only
      have Hx15 := qH hx15
      have HK16 := qH (HK11.out.trans hkp)
      have HM16 := qH (HM11.out.kp hkp (by simp; exact HRT.out))
      have HT16 := qH ht
      have HBq1 := qH ((hkp.block _ (block_lt HBq1.out) (by have := HLq1.out; simp; omega)).trans HBq1.out)
      have HBq10 := qH ((hkp.block _ (block_lt HBq10.out) (by have := HLq10.out; simp; omega)).trans HBq10.out)
      clear hHeld ht hkp hx15
      refine hK.out _ _ ⟨HK16.out, ⟨_, HM16.out⟩, ⟨_, by omega, HT16.out⟩⟩ (fun hHeld => ?_)
      try simp only [aP, lA, lB, lC]
      clear hK
      refine wpAnyH_ready (rs := [4]) (by kernel_rfl) (by simp) ?_
      refine AllReadyH.cons (o := ⟨some 34, .load 3 (.tmp 33), 3, "rule.go:60", #[⟨3, .data⟩], none⟩) rfl (fun K hK => ?_) AllReadyH.nil
      obtain ⟨z17, hz1, hz2, hz3⟩ := ints2 Hr3.out HBq1.out
      have HZz17 := qH (And.intro hz1 hz2)
      clear hz1 hz2
      go_simp
      clear hHeld hz3
      refine hK.out _ _ ⟨HK16.out, ⟨_, HM16.out⟩, ⟨_, by omega, HT16.out⟩⟩ (fun hHeld => ?_)
      try simp only [aP, lA, lB, lC]
      clear hK
      refine wpAnyH_take (i := 8) (oi := ⟨some 38, .build 46 #[(0, .const (.int .i64 15)), (2, .tmp 34), (3, .tmp 37)], 46, "rule.go:60", #[⟨4, .data⟩, ⟨7, .data⟩], none⟩) (v := .agg #[.int .i64 15, .string ⟨#[]⟩, .int .i64 z17, .string (bs x15)]) rfl (by kernel_rfl) (by kernel_rfl) (by kernel_rfl) (fun _ _ _ h => h) (Or.inl ⟨by rfl, fun w hSw => by (try dsimp only at hSw); go_simp⟩) hHeld ?_
      try simp only [aP, lA, lB, lC]
      refine wpAnyH_ready (rs := [9]) (by kernel_rfl) (by simp) ?_
      refine AllReadyH.cons (o := ⟨none, .store 46 (.tmp 2) (.tmp 38), 0, "rule.go:60", #[⟨8, .data⟩, ⟨7, .chain⟩, ⟨0, .phase⟩, ⟨1, .phase⟩, ⟨2, .phase⟩, ⟨3, .phase⟩, ⟨4, .phase⟩, ⟨5, .phase⟩, ⟨6, .phase⟩, ⟨7, .phase⟩, ⟨8, .phase⟩], none⟩) rfl (fun K hK => ?_) AllReadyH.nil
      obtain ⟨t0, t1, t2, t3⟩ := HM16.out.cells
      have ft := fun o => HM16.out.frz (o := o)
      have HMA := qH (HM16.out.all ⟨15, [], z17, x15⟩)
      have HKE := qH ((((HK16.out.setCell (p := ⟨R, 0, none⟩) (.inr HRW.out) (.int .i64 15)).setCell (p := ⟨R, 1, none⟩) (.inr HRW.out) (.string ⟨#[]⟩)).setCell (p := ⟨R, 2, none⟩) (.inr HRW.out) (.int .i64 z17)).setCell (p := ⟨R, 3, none⟩) (.inr HRW.out) (.string (bs x15)))
      have HTE := qH (HT16.out.put4 HRL.out (.int .i64 15) (.string ⟨#[]⟩) (.int .i64 z17) (.string (bs x15)))
      go_simp
      clear hHeld t0 t1 t2 t3 ft
      refine hK.out _ _ ⟨HKE.out, ⟨_, HMA.out⟩, ⟨_, by omega, HTE.out⟩⟩ (fun hHeld => ?_)
      try simp only [aP, lA, lB, lC]
      clear hK
      refine wpAnyH_done (by kernel_rfl) ?_ _
      clear hHeld
      go_wp2
      exact tm_end Tryz.results48 (x := ⟨15, [], z17, x15⟩) HMA.out rfl rfl ⟨_, rfl, goodT_mk 15 [] z17 x15 (by decide) Hx15.out (by decide) (by decide), ⟨_, by omega, HTE.out⟩, HKE.out⟩
   ·
    go_simp
    obtain ⟨V19, hV19⟩ : ∃ V, V2.alloc (.cells #[.string ⟨#[108, 97, 110, 37, 110]⟩, .string ⟨#[110, 101, 116, 48]⟩, .string ⟨#[97, 47, 98]⟩, .string ⟨#[37, 99]⟩] 9) = V := ⟨_, rfl⟩
    obtain ⟨q18, hq18⟩ : ∃ b, V2.heap.size = b := ⟨_, rfl⟩
    have hk19 : Kp [] V2 V19 := by rw [← hV19]; exact (Kp.refl [] _).alloc _
    have HBq18 := qH (show V19.heap[q18]? = some (.cells #[.string ⟨#[108, 97, 110, 37, 110]⟩, .string ⟨#[110, 101, 116, 48]⟩, .string ⟨#[97, 47, 98]⟩, .string ⟨#[37, 99]⟩] 9 (0, 0)) by rw [← hV19, ← hq18]; exact heap_alloc_last _ _)
    have HLq18 := qH (show tb < q18 by have := HT2.out.lt; omega)
    have HK19 := qH (HK2.out.upT hk19)
    have HM19 := qH (HM2.out.kp hk19 (by simp))
    have HT19 := qH (HT2.out.kp hk19 (by simp))
    have HBq1 := qH ((hk19.block _ (block_lt HBq1.out) (by simp)).trans HBq1.out)
    rw [hV19, hq18]
    clear hHeld hk19 hV19 hq18
    refine hK.out _ _ ⟨HK19.out, ⟨_, HM19.out⟩, ⟨_, by omega, HT19.out⟩⟩ (fun hHeld => ?_)
    try simp only [aP, lA, lB, lC]
    clear hK
    refine wpAnyH_ready (rs := [2]) (by kernel_rfl) (by simp) ?_
    refine AllReadyH.cons (o := ⟨some 32, .call { callee := .value (.func 16), args := #[.tmp 31, .const (.int .i64 2)], argTypes := #[25, 3] }, 3, "rule.go:60", #[⟨1, .data⟩], none⟩) rfl (fun K hK => ?_) AllReadyH.nil
    go_simp
    go_at_call 16
    refine cM (by with_reducible exact nextL2 (by omega) HT19.out) ?_
    rintro e V21 ⟨r20, hr20, rfl, ht, hkp⟩
    dsimp only
    have Hr20 := qH hr20
    have HK21 := qH (HK19.out.trans hkp)
    have HM21 := qH (HM19.out.kp hkp (by simp; exact HRT.out))
    have HT21 := qH ht
    have HBq1 := qH ((hkp.block _ (block_lt HBq1.out) (by have := HLq1.out; simp; omega)).trans HBq1.out)
    have HBq18 := qH ((hkp.block _ (block_lt HBq18.out) (by have := HLq18.out; simp; omega)).trans HBq18.out)
    clear hHeld ht hkp hr20
    refine hK.out _ _ ⟨HK21.out, ⟨_, HM21.out⟩, ⟨_, by omega, HT21.out⟩⟩ (fun hHeld => ?_)
    try simp only [aP, lA, lB, lC]
    clear hK
    refine wpAnyH_take (i := 3) (oi := ⟨some 33, .indexAddr 22 (.tmp 30) (.tmp 32), 0, "rule.go:60", #[⟨0, .data⟩, ⟨2, .data⟩], none⟩) (v := .pointer (some ⟨q1, r20, none⟩)) rfl (by kernel_rfl) (by kernel_rfl) (by kernel_rfl) (fun _ _ _ h => h) (Or.inl ⟨by rfl, fun w hSw => by (try dsimp only at hSw); have hq1 : ((r20 : Nat) : Int) < 2 := (by have := Hr20.out; omega); go_simp⟩) hHeld ?_
    try simp only [aP, lA, lB, lC]
    refine wpAnyH_ready (rs := [4, 7]) (by kernel_rfl) (by simp) ?_
    refine AllReadyH.cons (o := ⟨some 34, .load 3 (.tmp 33), 3, "rule.go:60", #[⟨3, .data⟩], none⟩) rfl (fun K hK => ?_) (AllReadyH.cons (o := ⟨some 37, .call { callee := .value (.func 20), args := #[.tmp 35, .tmp 36], argTypes := #[25, 52] }, 9, "rule.go:60", #[⟨5, .data⟩, ⟨6, .data⟩, ⟨2, .chain⟩], none⟩) rfl (fun K hK => ?_) AllReadyH.nil)
    ·
     obtain ⟨z22, hz1, hz2, hz3⟩ := ints2 Hr20.out HBq1.out
     have HZz22 := qH (And.intro hz1 hz2)
     clear hz1 hz2
     go_simp
     clear hHeld hz3
     refine hK.out _ _ ⟨HK21.out, ⟨_, HM21.out⟩, ⟨_, by omega, HT21.out⟩⟩ (fun hHeld => ?_)
     try simp only [aP, lA, lB, lC]
     clear hK
     refine wpAnyH_ready (rs := [7]) (by kernel_rfl) (by simp) ?_
     refine AllReadyH.cons (o := ⟨some 37, .call { callee := .value (.func 20), args := #[.tmp 35, .tmp 36], argTypes := #[25, 52] }, 9, "rule.go:60", #[⟨5, .data⟩, ⟨6, .data⟩, ⟨2, .chain⟩], none⟩) rfl (fun K hK => ?_) AllReadyH.nil
     go_simp
     go_at_call 20
     refine cM (by with_reducible exact oneB [[108, 97, 110, 37, 110], [110, 101, 116, 48], [97, 47, 98], [37, 99]] 4 (by decide) (by decide) (by decide) (by decide) (by omega) HT21.out HLq18.out HBq18.out HXA.out) ?_
     rintro e V24 ⟨x23, hx23, rfl, ht, hkp⟩
     dsimp only
     have Hx23 := qH hx23
     have HK24 := qH (HK21.out.trans hkp)
     have HM24 := qH (HM21.out.kp hkp (by simp; exact HRT.out))
     have HT24 := qH ht
     have HBq1 := qH ((hkp.block _ (block_lt HBq1.out) (by have := HLq1.out; simp; omega)).trans HBq1.out)
     have HBq18 := qH ((hkp.block _ (block_lt HBq18.out) (by have := HLq18.out; simp; omega)).trans HBq18.out)
     clear hHeld ht hkp hx23
     refine hK.out _ _ ⟨HK24.out, ⟨_, HM24.out⟩, ⟨_, by omega, HT24.out⟩⟩ (fun hHeld => ?_)
     try simp only [aP, lA, lB, lC]
     clear hK
     refine wpAnyH_take (i := 8) (oi := ⟨some 38, .build 46 #[(0, .const (.int .i64 15)), (2, .tmp 34), (3, .tmp 37)], 46, "rule.go:60", #[⟨4, .data⟩, ⟨7, .data⟩], none⟩) (v := .agg #[.int .i64 15, .string ⟨#[]⟩, .int .i64 z22, .string (bs x23)]) rfl (by kernel_rfl) (by kernel_rfl) (by kernel_rfl) (fun _ _ _ h => h) (Or.inl ⟨by rfl, fun w hSw => by (try dsimp only at hSw); go_simp⟩) hHeld ?_
     try simp only [aP, lA, lB, lC]
     refine wpAnyH_ready (rs := [9]) (by kernel_rfl) (by simp) ?_
     refine AllReadyH.cons (o := ⟨none, .store 46 (.tmp 2) (.tmp 38), 0, "rule.go:60", #[⟨8, .data⟩, ⟨7, .chain⟩, ⟨0, .phase⟩, ⟨1, .phase⟩, ⟨2, .phase⟩, ⟨3, .phase⟩, ⟨4, .phase⟩, ⟨5, .phase⟩, ⟨6, .phase⟩, ⟨7, .phase⟩, ⟨8, .phase⟩], none⟩) rfl (fun K hK => ?_) AllReadyH.nil
     obtain ⟨t0, t1, t2, t3⟩ := HM24.out.cells
     have ft := fun o => HM24.out.frz (o := o)
     have HMA := qH (HM24.out.all ⟨15, [], z22, x23⟩)
     have HKE := qH ((((HK24.out.setCell (p := ⟨R, 0, none⟩) (.inr HRW.out) (.int .i64 15)).setCell (p := ⟨R, 1, none⟩) (.inr HRW.out) (.string ⟨#[]⟩)).setCell (p := ⟨R, 2, none⟩) (.inr HRW.out) (.int .i64 z22)).setCell (p := ⟨R, 3, none⟩) (.inr HRW.out) (.string (bs x23)))
     have HTE := qH (HT24.out.put4 HRL.out (.int .i64 15) (.string ⟨#[]⟩) (.int .i64 z22) (.string (bs x23)))
     go_simp
     clear hHeld t0 t1 t2 t3 ft
     refine hK.out _ _ ⟨HKE.out, ⟨_, HMA.out⟩, ⟨_, by omega, HTE.out⟩⟩ (fun hHeld => ?_)
     try simp only [aP, lA, lB, lC]
     clear hK
     refine wpAnyH_done (by kernel_rfl) ?_ _
     clear hHeld
     go_wp2
     exact tm_end Tryz.results48 (x := ⟨15, [], z22, x23⟩) HMA.out rfl rfl ⟨_, rfl, goodT_mk 15 [] z22 x23 (by decide) Hx23.out (by decide) (by decide), ⟨_, by omega, HTE.out⟩, HKE.out⟩
    ·
     go_simp
     go_at_call 20
     refine cM (by with_reducible exact oneB [[108, 97, 110, 37, 110], [110, 101, 116, 48], [97, 47, 98], [37, 99]] 4 (by decide) (by decide) (by decide) (by decide) (by omega) HT21.out HLq18.out HBq18.out HXA.out) ?_
     rintro e V26 ⟨x25, hx25, rfl, ht, hkp⟩
     dsimp only
     have Hx25 := qH hx25
     have HK26 := qH (HK21.out.trans hkp)
     have HM26 := qH (HM21.out.kp hkp (by simp; exact HRT.out))
     have HT26 := qH ht
     have HBq1 := qH ((hkp.block _ (block_lt HBq1.out) (by have := HLq1.out; simp; omega)).trans HBq1.out)
     have HBq18 := qH ((hkp.block _ (block_lt HBq18.out) (by have := HLq18.out; simp; omega)).trans HBq18.out)
     clear hHeld ht hkp hx25
     refine hK.out _ _ ⟨HK26.out, ⟨_, HM26.out⟩, ⟨_, by omega, HT26.out⟩⟩ (fun hHeld => ?_)
     try simp only [aP, lA, lB, lC]
     clear hK
     refine wpAnyH_ready (rs := [4]) (by kernel_rfl) (by simp) ?_
     refine AllReadyH.cons (o := ⟨some 34, .load 3 (.tmp 33), 3, "rule.go:60", #[⟨3, .data⟩], none⟩) rfl (fun K hK => ?_) AllReadyH.nil
     obtain ⟨z27, hz1, hz2, hz3⟩ := ints2 Hr20.out HBq1.out
     have HZz27 := qH (And.intro hz1 hz2)
     clear hz1 hz2
     go_simp
     clear hHeld hz3
     refine hK.out _ _ ⟨HK26.out, ⟨_, HM26.out⟩, ⟨_, by omega, HT26.out⟩⟩ (fun hHeld => ?_)
     try simp only [aP, lA, lB, lC]
     clear hK
     refine wpAnyH_take (i := 8) (oi := ⟨some 38, .build 46 #[(0, .const (.int .i64 15)), (2, .tmp 34), (3, .tmp 37)], 46, "rule.go:60", #[⟨4, .data⟩, ⟨7, .data⟩], none⟩) (v := .agg #[.int .i64 15, .string ⟨#[]⟩, .int .i64 z27, .string (bs x25)]) rfl (by kernel_rfl) (by kernel_rfl) (by kernel_rfl) (fun _ _ _ h => h) (Or.inl ⟨by rfl, fun w hSw => by (try dsimp only at hSw); go_simp⟩) hHeld ?_
     try simp only [aP, lA, lB, lC]
     refine wpAnyH_ready (rs := [9]) (by kernel_rfl) (by simp) ?_
     refine AllReadyH.cons (o := ⟨none, .store 46 (.tmp 2) (.tmp 38), 0, "rule.go:60", #[⟨8, .data⟩, ⟨7, .chain⟩, ⟨0, .phase⟩, ⟨1, .phase⟩, ⟨2, .phase⟩, ⟨3, .phase⟩, ⟨4, .phase⟩, ⟨5, .phase⟩, ⟨6, .phase⟩, ⟨7, .phase⟩, ⟨8, .phase⟩], none⟩) rfl (fun K hK => ?_) AllReadyH.nil
     obtain ⟨t0, t1, t2, t3⟩ := HM26.out.cells
     have ft := fun o => HM26.out.frz (o := o)
     have HMA := qH (HM26.out.all ⟨15, [], z27, x25⟩)
     have HKE := qH ((((HK26.out.setCell (p := ⟨R, 0, none⟩) (.inr HRW.out) (.int .i64 15)).setCell (p := ⟨R, 1, none⟩) (.inr HRW.out) (.string ⟨#[]⟩)).setCell (p := ⟨R, 2, none⟩) (.inr HRW.out) (.int .i64 z27)).setCell (p := ⟨R, 3, none⟩) (.inr HRW.out) (.string (bs x25)))
     have HTE := qH (HT26.out.put4 HRL.out (.int .i64 15) (.string ⟨#[]⟩) (.int .i64 z27) (.string (bs x25)))
     go_simp
     clear hHeld t0 t1 t2 t3 ft
     refine hK.out _ _ ⟨HKE.out, ⟨_, HMA.out⟩, ⟨_, by omega, HTE.out⟩⟩ (fun hHeld => ?_)
     try simp only [aP, lA, lB, lC]
     clear hK
     refine wpAnyH_done (by kernel_rfl) ?_ _
     clear hHeld
     go_wp2
     exact tm_end Tryz.results48 (x := ⟨15, [], z27, x25⟩) HMA.out rfl rfl ⟨_, rfl, goodT_mk 15 [] z27 x25 (by decide) Hx25.out (by decide) (by decide), ⟨_, by omega, HTE.out⟩, HKE.out⟩
  ·
   go_simp
   go_at_call 16
   refine cM (by with_reducible exact nextL2 (by omega) HT0.out) ?_
   rintro e V29 ⟨r28, hr28, rfl, ht, hkp⟩
   dsimp only
   have Hr28 := qH hr28
   have HK29 := qH (HK0.out.trans hkp)
   have HM29 := qH (HM0.out.kp hkp (by simp; exact HRT.out))
   have HT29 := qH ht
   clear hHeld ht hkp hr28
   refine hK.out _ _ ⟨HK29.out, ⟨_, HM29.out⟩, ⟨_, by omega, HT29.out⟩⟩ (fun hHeld => ?_)
   try simp only [aP, lA, lB, lC]
   clear hK
   refine wpAnyH_ready (rs := [0, 6]) (by kernel_rfl) (by simp) ?_
   refine AllReadyH.cons (o := ⟨some 30, .buildSlice 22 2 #[(0, .const (.int .i64 3)), (1, .const (.int .i64 6))], 22, "rule.go:60", #[], none⟩) rfl (fun K hK => ?_) (AllReadyH.cons (o := ⟨some 36, .buildSlice 52 4 #[(0, .const (.string { data := #[108, 97, 110, 37, 110] })), (1, .const (.string { data := #[110, 101, 116, 48] })), (2, .const (.string { data := #[97, 47, 98] })), (3, .const (.string { data := #[37, 99] }))], 52, "rule.go:60", #[], none⟩) rfl (fun K hK => ?_) AllReadyH.nil)
   ·
    go_simp
    obtain ⟨V31, hV31⟩ : ∃ V, V29.alloc (.cells #[.int .i64 3, .int .i64 6] 3) = V := ⟨_, rfl⟩
    obtain ⟨q30, hq30⟩ : ∃ b, V29.heap.size = b := ⟨_, rfl⟩
    have hk31 : Kp [] V29 V31 := by rw [← hV31]; exact (Kp.refl [] _).alloc _
    have HBq30 := qH (show V31.heap[q30]? = some (.cells #[.int .i64 3, .int .i64 6] 3 (0, 0)) by rw [← hV31, ← hq30]; exact heap_alloc_last _ _)
    have HLq30 := qH (show tb < q30 by have := HT29.out.lt; omega)
    have HK31 := qH (HK29.out.upT hk31)
    have HM31 := qH (HM29.out.kp hk31 (by simp))
    have HT31 := qH (HT29.out.kp hk31 (by simp))
    rw [hV31, hq30]
    clear hHeld hk31 hV31 hq30
    refine hK.out _ _ ⟨HK31.out, ⟨_, HM31.out⟩, ⟨_, by omega, HT31.out⟩⟩ (fun hHeld => ?_)
    try simp only [aP, lA, lB, lC]
    clear hK
    refine wpAnyH_take (i := 3) (oi := ⟨some 33, .indexAddr 22 (.tmp 30) (.tmp 32), 0, "rule.go:60", #[⟨0, .data⟩, ⟨2, .data⟩], none⟩) (v := .pointer (some ⟨q30, r28, none⟩)) rfl (by kernel_rfl) (by kernel_rfl) (by kernel_rfl) (fun _ _ _ h => h) (Or.inl ⟨by rfl, fun w hSw => by (try dsimp only at hSw); have hq1 : ((r28 : Nat) : Int) < 2 := (by have := Hr28.out; omega); go_simp⟩) hHeld ?_
    try simp only [aP, lA, lB, lC]
    refine wpAnyH_ready (rs := [4, 6]) (by kernel_rfl) (by simp) ?_
    refine AllReadyH.cons (o := ⟨some 34, .load 3 (.tmp 33), 3, "rule.go:60", #[⟨3, .data⟩], none⟩) rfl (fun K hK => ?_) (AllReadyH.cons (o := ⟨some 36, .buildSlice 52 4 #[(0, .const (.string { data := #[108, 97, 110, 37, 110] })), (1, .const (.string { data := #[110, 101, 116, 48] })), (2, .const (.string { data := #[97, 47, 98] })), (3, .const (.string { data := #[37, 99] }))], 52, "rule.go:60", #[], none⟩) rfl (fun K hK => ?_) AllReadyH.nil)
    ·
     obtain ⟨z32, hz1, hz2, hz3⟩ := ints2 Hr28.out HBq30.out
     have HZz32 := qH (And.intro hz1 hz2)
     clear hz1 hz2
     go_simp
     clear hHeld hz3
     refine hK.out _ _ ⟨HK31.out, ⟨_, HM31.out⟩, ⟨_, by omega, HT31.out⟩⟩ (fun hHeld => ?_)
     try simp only [aP, lA, lB, lC]
     clear hK
     refine wpAnyH_ready (rs := [6]) (by kernel_rfl) (by simp) ?_
     refine AllReadyH.cons (o := ⟨some 36, .buildSlice 52 4 #[(0, .const (.string { data := #[108, 97, 110, 37, 110] })), (1, .const (.string { data := #[110, 101, 116, 48] })), (2, .const (.string { data := #[97, 47, 98] })), (3, .const (.string { data := #[37, 99] }))], 52, "rule.go:60", #[], none⟩) rfl (fun K hK => ?_) AllReadyH.nil
     go_simp
     obtain ⟨V34, hV34⟩ : ∃ V, V31.alloc (.cells #[.string ⟨#[108, 97, 110, 37, 110]⟩, .string ⟨#[110, 101, 116, 48]⟩, .string ⟨#[97, 47, 98]⟩, .string ⟨#[37, 99]⟩] 9) = V := ⟨_, rfl⟩
     obtain ⟨q33, hq33⟩ : ∃ b, V31.heap.size = b := ⟨_, rfl⟩
     have hk34 : Kp [] V31 V34 := by rw [← hV34]; exact (Kp.refl [] _).alloc _
     have HBq33 := qH (show V34.heap[q33]? = some (.cells #[.string ⟨#[108, 97, 110, 37, 110]⟩, .string ⟨#[110, 101, 116, 48]⟩, .string ⟨#[97, 47, 98]⟩, .string ⟨#[37, 99]⟩] 9 (0, 0)) by rw [← hV34, ← hq33]; exact heap_alloc_last _ _)
     have HLq33 := qH (show tb < q33 by have := HT31.out.lt; omega)
     have HK34 := qH (HK31.out.upT hk34)
     have HM34 := qH (HM31.out.kp hk34 (by simp))
     have HT34 := qH (HT31.out.kp hk34 (by simp))
     have HBq30 := qH ((hk34.block _ (block_lt HBq30.out) (by simp)).trans HBq30.out)
     rw [hV34, hq33]
     clear hHeld hk34 hV34 hq33
     refine hK.out _ _ ⟨HK34.out, ⟨_, HM34.out⟩, ⟨_, by omega, HT34.out⟩⟩ (fun hHeld => ?_)
     try simp only [aP, lA, lB, lC]
     clear hK
     refine wpAnyH_ready (rs := [7]) (by kernel_rfl) (by simp) ?_
     refine AllReadyH.cons (o := ⟨some 37, .call { callee := .value (.func 20), args := #[.tmp 35, .tmp 36], argTypes := #[25, 52] }, 9, "rule.go:60", #[⟨5, .data⟩, ⟨6, .data⟩, ⟨2, .chain⟩], none⟩) rfl (fun K hK => ?_) AllReadyH.nil
     go_simp
     go_at_call 20
     refine cM (by with_reducible exact oneB [[108, 97, 110, 37, 110], [110, 101, 116, 48], [97, 47, 98], [37, 99]] 4 (by decide) (by decide) (by decide) (by decide) (by omega) HT34.out HLq33.out HBq33.out HXA.out) ?_
     rintro e V36 ⟨x35, hx35, rfl, ht, hkp⟩
     dsimp only
     have Hx35 := qH hx35
     have HK36 := qH (HK34.out.trans hkp)
     have HM36 := qH (HM34.out.kp hkp (by simp; exact HRT.out))
     have HT36 := qH ht
     have HBq30 := qH ((hkp.block _ (block_lt HBq30.out) (by have := HLq30.out; simp; omega)).trans HBq30.out)
     have HBq33 := qH ((hkp.block _ (block_lt HBq33.out) (by have := HLq33.out; simp; omega)).trans HBq33.out)
     clear hHeld ht hkp hx35
     refine hK.out _ _ ⟨HK36.out, ⟨_, HM36.out⟩, ⟨_, by omega, HT36.out⟩⟩ (fun hHeld => ?_)
     try simp only [aP, lA, lB, lC]
     clear hK
     refine wpAnyH_take (i := 8) (oi := ⟨some 38, .build 46 #[(0, .const (.int .i64 15)), (2, .tmp 34), (3, .tmp 37)], 46, "rule.go:60", #[⟨4, .data⟩, ⟨7, .data⟩], none⟩) (v := .agg #[.int .i64 15, .string ⟨#[]⟩, .int .i64 z32, .string (bs x35)]) rfl (by kernel_rfl) (by kernel_rfl) (by kernel_rfl) (fun _ _ _ h => h) (Or.inl ⟨by rfl, fun w hSw => by (try dsimp only at hSw); go_simp⟩) hHeld ?_
     try simp only [aP, lA, lB, lC]
     refine wpAnyH_ready (rs := [9]) (by kernel_rfl) (by simp) ?_
     refine AllReadyH.cons (o := ⟨none, .store 46 (.tmp 2) (.tmp 38), 0, "rule.go:60", #[⟨8, .data⟩, ⟨7, .chain⟩, ⟨0, .phase⟩, ⟨1, .phase⟩, ⟨2, .phase⟩, ⟨3, .phase⟩, ⟨4, .phase⟩, ⟨5, .phase⟩, ⟨6, .phase⟩, ⟨7, .phase⟩, ⟨8, .phase⟩], none⟩) rfl (fun K hK => ?_) AllReadyH.nil
     obtain ⟨t0, t1, t2, t3⟩ := HM36.out.cells
     have ft := fun o => HM36.out.frz (o := o)
     have HMA := qH (HM36.out.all ⟨15, [], z32, x35⟩)
     have HKE := qH ((((HK36.out.setCell (p := ⟨R, 0, none⟩) (.inr HRW.out) (.int .i64 15)).setCell (p := ⟨R, 1, none⟩) (.inr HRW.out) (.string ⟨#[]⟩)).setCell (p := ⟨R, 2, none⟩) (.inr HRW.out) (.int .i64 z32)).setCell (p := ⟨R, 3, none⟩) (.inr HRW.out) (.string (bs x35)))
     have HTE := qH (HT36.out.put4 HRL.out (.int .i64 15) (.string ⟨#[]⟩) (.int .i64 z32) (.string (bs x35)))
     go_simp
     clear hHeld t0 t1 t2 t3 ft
     refine hK.out _ _ ⟨HKE.out, ⟨_, HMA.out⟩, ⟨_, by omega, HTE.out⟩⟩ (fun hHeld => ?_)
     try simp only [aP, lA, lB, lC]
     clear hK
     refine wpAnyH_done (by kernel_rfl) ?_ _
     clear hHeld
     go_wp2
     exact tm_end Tryz.results48 (x := ⟨15, [], z32, x35⟩) HMA.out rfl rfl ⟨_, rfl, goodT_mk 15 [] z32 x35 (by decide) Hx35.out (by decide) (by decide), ⟨_, by omega, HTE.out⟩, HKE.out⟩
    ·
     go_simp
     obtain ⟨V38, hV38⟩ : ∃ V, V31.alloc (.cells #[.string ⟨#[108, 97, 110, 37, 110]⟩, .string ⟨#[110, 101, 116, 48]⟩, .string ⟨#[97, 47, 98]⟩, .string ⟨#[37, 99]⟩] 9) = V := ⟨_, rfl⟩
     obtain ⟨q37, hq37⟩ : ∃ b, V31.heap.size = b := ⟨_, rfl⟩
     have hk38 : Kp [] V31 V38 := by rw [← hV38]; exact (Kp.refl [] _).alloc _
     have HBq37 := qH (show V38.heap[q37]? = some (.cells #[.string ⟨#[108, 97, 110, 37, 110]⟩, .string ⟨#[110, 101, 116, 48]⟩, .string ⟨#[97, 47, 98]⟩, .string ⟨#[37, 99]⟩] 9 (0, 0)) by rw [← hV38, ← hq37]; exact heap_alloc_last _ _)
     have HLq37 := qH (show tb < q37 by have := HT31.out.lt; omega)
     have HK38 := qH (HK31.out.upT hk38)
     have HM38 := qH (HM31.out.kp hk38 (by simp))
     have HT38 := qH (HT31.out.kp hk38 (by simp))
     have HBq30 := qH ((hk38.block _ (block_lt HBq30.out) (by simp)).trans HBq30.out)
     rw [hV38, hq37]
     clear hHeld hk38 hV38 hq37
     refine hK.out _ _ ⟨HK38.out, ⟨_, HM38.out⟩, ⟨_, by omega, HT38.out⟩⟩ (fun hHeld => ?_)
     try simp only [aP, lA, lB, lC]
     clear hK
     refine wpAnyH_ready (rs := [4, 7]) (by kernel_rfl) (by simp) ?_
     refine AllReadyH.cons (o := ⟨some 34, .load 3 (.tmp 33), 3, "rule.go:60", #[⟨3, .data⟩], none⟩) rfl (fun K hK => ?_) (AllReadyH.cons (o := ⟨some 37, .call { callee := .value (.func 20), args := #[.tmp 35, .tmp 36], argTypes := #[25, 52] }, 9, "rule.go:60", #[⟨5, .data⟩, ⟨6, .data⟩, ⟨2, .chain⟩], none⟩) rfl (fun K hK => ?_) AllReadyH.nil)
     ·
      obtain ⟨z39, hz1, hz2, hz3⟩ := ints2 Hr28.out HBq30.out
      have HZz39 := qH (And.intro hz1 hz2)
      clear hz1 hz2
      go_simp
      clear hHeld hz3
      refine hK.out _ _ ⟨HK38.out, ⟨_, HM38.out⟩, ⟨_, by omega, HT38.out⟩⟩ (fun hHeld => ?_)
      try simp only [aP, lA, lB, lC]
      clear hK
      refine wpAnyH_ready (rs := [7]) (by kernel_rfl) (by simp) ?_
      refine AllReadyH.cons (o := ⟨some 37, .call { callee := .value (.func 20), args := #[.tmp 35, .tmp 36], argTypes := #[25, 52] }, 9, "rule.go:60", #[⟨5, .data⟩, ⟨6, .data⟩, ⟨2, .chain⟩], none⟩) rfl (fun K hK => ?_) AllReadyH.nil
      go_simp
      go_at_call 20
      refine cM (by with_reducible exact oneB [[108, 97, 110, 37, 110], [110, 101, 116, 48], [97, 47, 98], [37, 99]] 4 (by decide) (by decide) (by decide) (by decide) (by omega) HT38.out HLq37.out HBq37.out HXA.out) ?_
      rintro e V41 ⟨x40, hx40, rfl, ht, hkp⟩
      dsimp only
      have Hx40 := qH hx40
      have HK41 := qH (HK38.out.trans hkp)
      have HM41 := qH (HM38.out.kp hkp (by simp; exact HRT.out))
      have HT41 := qH ht
      have HBq30 := qH ((hkp.block _ (block_lt HBq30.out) (by have := HLq30.out; simp; omega)).trans HBq30.out)
      have HBq37 := qH ((hkp.block _ (block_lt HBq37.out) (by have := HLq37.out; simp; omega)).trans HBq37.out)
      clear hHeld ht hkp hx40
      refine hK.out _ _ ⟨HK41.out, ⟨_, HM41.out⟩, ⟨_, by omega, HT41.out⟩⟩ (fun hHeld => ?_)
      try simp only [aP, lA, lB, lC]
      clear hK
      refine wpAnyH_take (i := 8) (oi := ⟨some 38, .build 46 #[(0, .const (.int .i64 15)), (2, .tmp 34), (3, .tmp 37)], 46, "rule.go:60", #[⟨4, .data⟩, ⟨7, .data⟩], none⟩) (v := .agg #[.int .i64 15, .string ⟨#[]⟩, .int .i64 z39, .string (bs x40)]) rfl (by kernel_rfl) (by kernel_rfl) (by kernel_rfl) (fun _ _ _ h => h) (Or.inl ⟨by rfl, fun w hSw => by (try dsimp only at hSw); go_simp⟩) hHeld ?_
      try simp only [aP, lA, lB, lC]
      refine wpAnyH_ready (rs := [9]) (by kernel_rfl) (by simp) ?_
      refine AllReadyH.cons (o := ⟨none, .store 46 (.tmp 2) (.tmp 38), 0, "rule.go:60", #[⟨8, .data⟩, ⟨7, .chain⟩, ⟨0, .phase⟩, ⟨1, .phase⟩, ⟨2, .phase⟩, ⟨3, .phase⟩, ⟨4, .phase⟩, ⟨5, .phase⟩, ⟨6, .phase⟩, ⟨7, .phase⟩, ⟨8, .phase⟩], none⟩) rfl (fun K hK => ?_) AllReadyH.nil
      obtain ⟨t0, t1, t2, t3⟩ := HM41.out.cells
      have ft := fun o => HM41.out.frz (o := o)
      have HMA := qH (HM41.out.all ⟨15, [], z39, x40⟩)
      have HKE := qH ((((HK41.out.setCell (p := ⟨R, 0, none⟩) (.inr HRW.out) (.int .i64 15)).setCell (p := ⟨R, 1, none⟩) (.inr HRW.out) (.string ⟨#[]⟩)).setCell (p := ⟨R, 2, none⟩) (.inr HRW.out) (.int .i64 z39)).setCell (p := ⟨R, 3, none⟩) (.inr HRW.out) (.string (bs x40)))
      have HTE := qH (HT41.out.put4 HRL.out (.int .i64 15) (.string ⟨#[]⟩) (.int .i64 z39) (.string (bs x40)))
      go_simp
      clear hHeld t0 t1 t2 t3 ft
      refine hK.out _ _ ⟨HKE.out, ⟨_, HMA.out⟩, ⟨_, by omega, HTE.out⟩⟩ (fun hHeld => ?_)
      try simp only [aP, lA, lB, lC]
      clear hK
      refine wpAnyH_done (by kernel_rfl) ?_ _
      clear hHeld
      go_wp2
      exact tm_end Tryz.results48 (x := ⟨15, [], z39, x40⟩) HMA.out rfl rfl ⟨_, rfl, goodT_mk 15 [] z39 x40 (by decide) Hx40.out (by decide) (by decide), ⟨_, by omega, HTE.out⟩, HKE.out⟩
     ·
      go_simp
      go_at_call 20
      refine cM (by with_reducible exact oneB [[108, 97, 110, 37, 110], [110, 101, 116, 48], [97, 47, 98], [37, 99]] 4 (by decide) (by decide) (by decide) (by decide) (by omega) HT38.out HLq37.out HBq37.out HXA.out) ?_
      rintro e V43 ⟨x42, hx42, rfl, ht, hkp⟩
      dsimp only
      have Hx42 := qH hx42
      have HK43 := qH (HK38.out.trans hkp)
      have HM43 := qH (HM38.out.kp hkp (by simp; exact HRT.out))
      have HT43 := qH ht
      have HBq30 := qH ((hkp.block _ (block_lt HBq30.out) (by have := HLq30.out; simp; omega)).trans HBq30.out)
      have HBq37 := qH ((hkp.block _ (block_lt HBq37.out) (by have := HLq37.out; simp; omega)).trans HBq37.out)
      clear hHeld ht hkp hx42
      refine hK.out _ _ ⟨HK43.out, ⟨_, HM43.out⟩, ⟨_, by omega, HT43.out⟩⟩ (fun hHeld => ?_)
      try simp only [aP, lA, lB, lC]
      clear hK
      refine wpAnyH_ready (rs := [4]) (by kernel_rfl) (by simp) ?_
      refine AllReadyH.cons (o := ⟨some 34, .load 3 (.tmp 33), 3, "rule.go:60", #[⟨3, .data⟩], none⟩) rfl (fun K hK => ?_) AllReadyH.nil
      obtain ⟨z44, hz1, hz2, hz3⟩ := ints2 Hr28.out HBq30.out
      have HZz44 := qH (And.intro hz1 hz2)
      clear hz1 hz2
      go_simp
      clear hHeld hz3
      refine hK.out _ _ ⟨HK43.out, ⟨_, HM43.out⟩, ⟨_, by omega, HT43.out⟩⟩ (fun hHeld => ?_)
      try simp only [aP, lA, lB, lC]
      clear hK
      refine wpAnyH_take (i := 8) (oi := ⟨some 38, .build 46 #[(0, .const (.int .i64 15)), (2, .tmp 34), (3, .tmp 37)], 46, "rule.go:60", #[⟨4, .data⟩, ⟨7, .data⟩], none⟩) (v := .agg #[.int .i64 15, .string ⟨#[]⟩, .int .i64 z44, .string (bs x42)]) rfl (by kernel_rfl) (by kernel_rfl) (by kernel_rfl) (fun _ _ _ h => h) (Or.inl ⟨by rfl, fun w hSw => by (try dsimp only at hSw); go_simp⟩) hHeld ?_
      try simp only [aP, lA, lB, lC]
      refine wpAnyH_ready (rs := [9]) (by kernel_rfl) (by simp) ?_
      refine AllReadyH.cons (o := ⟨none, .store 46 (.tmp 2) (.tmp 38), 0, "rule.go:60", #[⟨8, .data⟩, ⟨7, .chain⟩, ⟨0, .phase⟩, ⟨1, .phase⟩, ⟨2, .phase⟩, ⟨3, .phase⟩, ⟨4, .phase⟩, ⟨5, .phase⟩, ⟨6, .phase⟩, ⟨7, .phase⟩, ⟨8, .phase⟩], none⟩) rfl (fun K hK => ?_) AllReadyH.nil
      obtain ⟨t0, t1, t2, t3⟩ := HM43.out.cells
      have ft := fun o => HM43.out.frz (o := o)
      have HMA := qH (HM43.out.all ⟨15, [], z44, x42⟩)
      have HKE := qH ((((HK43.out.setCell (p := ⟨R, 0, none⟩) (.inr HRW.out) (.int .i64 15)).setCell (p := ⟨R, 1, none⟩) (.inr HRW.out) (.string ⟨#[]⟩)).setCell (p := ⟨R, 2, none⟩) (.inr HRW.out) (.int .i64 z44)).setCell (p := ⟨R, 3, none⟩) (.inr HRW.out) (.string (bs x42)))
      have HTE := qH (HT43.out.put4 HRL.out (.int .i64 15) (.string ⟨#[]⟩) (.int .i64 z44) (.string (bs x42)))
      go_simp
      clear hHeld t0 t1 t2 t3 ft
      refine hK.out _ _ ⟨HKE.out, ⟨_, HMA.out⟩, ⟨_, by omega, HTE.out⟩⟩ (fun hHeld => ?_)
      try simp only [aP, lA, lB, lC]
      clear hK
      refine wpAnyH_done (by kernel_rfl) ?_ _
      clear hHeld
      go_wp2
      exact tm_end Tryz.results48 (x := ⟨15, [], z44, x42⟩) HMA.out rfl rfl ⟨_, rfl, goodT_mk 15 [] z44 x42 (by decide) Hx42.out (by decide) (by decide), ⟨_, by omega, HTE.out⟩, HKE.out⟩
   ·
    go_simp
    obtain ⟨V46, hV46⟩ : ∃ V, V29.alloc (.cells #[.string ⟨#[108, 97, 110, 37, 110]⟩, .string ⟨#[110, 101, 116, 48]⟩, .string ⟨#[97, 47, 98]⟩, .string ⟨#[37, 99]⟩] 9) = V := ⟨_, rfl⟩
    obtain ⟨q45, hq45⟩ : ∃ b, V29.heap.size = b := ⟨_, rfl⟩
    have hk46 : Kp [] V29 V46 := by rw [← hV46]; exact (Kp.refl [] _).alloc _
    have HBq45 := qH (show V46.heap[q45]? = some (.cells #[.string ⟨#[108, 97, 110, 37, 110]⟩, .string ⟨#[110, 101, 116, 48]⟩, .string ⟨#[97, 47, 98]⟩, .string ⟨#[37, 99]⟩] 9 (0, 0)) by rw [← hV46, ← hq45]; exact heap_alloc_last _ _)
    have HLq45 := qH (show tb < q45 by have := HT29.out.lt; omega)
    have HK46 := qH (HK29.out.upT hk46)
    have HM46 := qH (HM29.out.kp hk46 (by simp))
    have HT46 := qH (HT29.out.kp hk46 (by simp))
    rw [hV46, hq45]
    clear hHeld hk46 hV46 hq45
    refine hK.out _ _ ⟨HK46.out, ⟨_, HM46.out⟩, ⟨_, by omega, HT46.out⟩⟩ (fun hHeld => ?_)
    try simp only [aP, lA, lB, lC]
    clear hK
    refine wpAnyH_ready (rs := [0, 7]) (by kernel_rfl) (by simp) ?_
    refine AllReadyH.cons (o := ⟨some 30, .buildSlice 22 2 #[(0, .const (.int .i64 3)), (1, .const (.int .i64 6))], 22, "rule.go:60", #[], none⟩) rfl (fun K hK => ?_) (AllReadyH.cons (o := ⟨some 37, .call { callee := .value (.func 20), args := #[.tmp 35, .tmp 36], argTypes := #[25, 52] }, 9, "rule.go:60", #[⟨5, .data⟩, ⟨6, .data⟩, ⟨2, .chain⟩], none⟩) rfl (fun K hK => ?_) AllReadyH.nil)
    ·
     go_simp
     obtain ⟨V48, hV48⟩ : ∃ V, V46.alloc (.cells #[.int .i64 3, .int .i64 6] 3) = V := ⟨_, rfl⟩
     obtain ⟨q47, hq47⟩ : ∃ b, V46.heap.size = b := ⟨_, rfl⟩
     have hk48 : Kp [] V46 V48 := by rw [← hV48]; exact (Kp.refl [] _).alloc _
     have HBq47 := qH (show V48.heap[q47]? = some (.cells #[.int .i64 3, .int .i64 6] 3 (0, 0)) by rw [← hV48, ← hq47]; exact heap_alloc_last _ _)
     have HLq47 := qH (show tb < q47 by have := HT46.out.lt; omega)
     have HK48 := qH (HK46.out.upT hk48)
     have HM48 := qH (HM46.out.kp hk48 (by simp))
     have HT48 := qH (HT46.out.kp hk48 (by simp))
     have HBq45 := qH ((hk48.block _ (block_lt HBq45.out) (by simp)).trans HBq45.out)
     rw [hV48, hq47]
     clear hHeld hk48 hV48 hq47
     refine hK.out _ _ ⟨HK48.out, ⟨_, HM48.out⟩, ⟨_, by omega, HT48.out⟩⟩ (fun hHeld => ?_)
     try simp only [aP, lA, lB, lC]
     clear hK
     refine wpAnyH_take (i := 3) (oi := ⟨some 33, .indexAddr 22 (.tmp 30) (.tmp 32), 0, "rule.go:60", #[⟨0, .data⟩, ⟨2, .data⟩], none⟩) (v := .pointer (some ⟨q47, r28, none⟩)) rfl (by kernel_rfl) (by kernel_rfl) (by kernel_rfl) (fun _ _ _ h => h) (Or.inl ⟨by rfl, fun w hSw => by (try dsimp only at hSw); have hq1 : ((r28 : Nat) : Int) < 2 := (by have := Hr28.out; omega); go_simp⟩) hHeld ?_
     try simp only [aP, lA, lB, lC]
     refine wpAnyH_ready (rs := [4, 7]) (by kernel_rfl) (by simp) ?_
     refine AllReadyH.cons (o := ⟨some 34, .load 3 (.tmp 33), 3, "rule.go:60", #[⟨3, .data⟩], none⟩) rfl (fun K hK => ?_) (AllReadyH.cons (o := ⟨some 37, .call { callee := .value (.func 20), args := #[.tmp 35, .tmp 36], argTypes := #[25, 52] }, 9, "rule.go:60", #[⟨5, .data⟩, ⟨6, .data⟩, ⟨2, .chain⟩], none⟩) rfl (fun K hK => ?_) AllReadyH.nil)
     ·
      obtain ⟨z49, hz1, hz2, hz3⟩ := ints2 Hr28.out HBq47.out
      have HZz49 := qH (And.intro hz1 hz2)
      clear hz1 hz2
      go_simp
      clear hHeld hz3
      refine hK.out _ _ ⟨HK48.out, ⟨_, HM48.out⟩, ⟨_, by omega, HT48.out⟩⟩ (fun hHeld => ?_)
      try simp only [aP, lA, lB, lC]
      clear hK
      refine wpAnyH_ready (rs := [7]) (by kernel_rfl) (by simp) ?_
      refine AllReadyH.cons (o := ⟨some 37, .call { callee := .value (.func 20), args := #[.tmp 35, .tmp 36], argTypes := #[25, 52] }, 9, "rule.go:60", #[⟨5, .data⟩, ⟨6, .data⟩, ⟨2, .chain⟩], none⟩) rfl (fun K hK => ?_) AllReadyH.nil
      go_simp
      go_at_call 20
      refine cM (by with_reducible exact oneB [[108, 97, 110, 37, 110], [110, 101, 116, 48], [97, 47, 98], [37, 99]] 4 (by decide) (by decide) (by decide) (by decide) (by omega) HT48.out HLq45.out HBq45.out HXA.out) ?_
      rintro e V51 ⟨x50, hx50, rfl, ht, hkp⟩
      dsimp only
      have Hx50 := qH hx50
      have HK51 := qH (HK48.out.trans hkp)
      have HM51 := qH (HM48.out.kp hkp (by simp; exact HRT.out))
      have HT51 := qH ht
      have HBq47 := qH ((hkp.block _ (block_lt HBq47.out) (by have := HLq47.out; simp; omega)).trans HBq47.out)
      have HBq45 := qH ((hkp.block _ (block_lt HBq45.out) (by have := HLq45.out; simp; omega)).trans HBq45.out)
      clear hHeld ht hkp hx50
      refine hK.out _ _ ⟨HK51.out, ⟨_, HM51.out⟩, ⟨_, by omega, HT51.out⟩⟩ (fun hHeld => ?_)
      try simp only [aP, lA, lB, lC]
      clear hK
      refine wpAnyH_take (i := 8) (oi := ⟨some 38, .build 46 #[(0, .const (.int .i64 15)), (2, .tmp 34), (3, .tmp 37)], 46, "rule.go:60", #[⟨4, .data⟩, ⟨7, .data⟩], none⟩) (v := .agg #[.int .i64 15, .string ⟨#[]⟩, .int .i64 z49, .string (bs x50)]) rfl (by kernel_rfl) (by kernel_rfl) (by kernel_rfl) (fun _ _ _ h => h) (Or.inl ⟨by rfl, fun w hSw => by (try dsimp only at hSw); go_simp⟩) hHeld ?_
      try simp only [aP, lA, lB, lC]
      refine wpAnyH_ready (rs := [9]) (by kernel_rfl) (by simp) ?_
      refine AllReadyH.cons (o := ⟨none, .store 46 (.tmp 2) (.tmp 38), 0, "rule.go:60", #[⟨8, .data⟩, ⟨7, .chain⟩, ⟨0, .phase⟩, ⟨1, .phase⟩, ⟨2, .phase⟩, ⟨3, .phase⟩, ⟨4, .phase⟩, ⟨5, .phase⟩, ⟨6, .phase⟩, ⟨7, .phase⟩, ⟨8, .phase⟩], none⟩) rfl (fun K hK => ?_) AllReadyH.nil
      obtain ⟨t0, t1, t2, t3⟩ := HM51.out.cells
      have ft := fun o => HM51.out.frz (o := o)
      have HMA := qH (HM51.out.all ⟨15, [], z49, x50⟩)
      have HKE := qH ((((HK51.out.setCell (p := ⟨R, 0, none⟩) (.inr HRW.out) (.int .i64 15)).setCell (p := ⟨R, 1, none⟩) (.inr HRW.out) (.string ⟨#[]⟩)).setCell (p := ⟨R, 2, none⟩) (.inr HRW.out) (.int .i64 z49)).setCell (p := ⟨R, 3, none⟩) (.inr HRW.out) (.string (bs x50)))
      have HTE := qH (HT51.out.put4 HRL.out (.int .i64 15) (.string ⟨#[]⟩) (.int .i64 z49) (.string (bs x50)))
      go_simp
      clear hHeld t0 t1 t2 t3 ft
      refine hK.out _ _ ⟨HKE.out, ⟨_, HMA.out⟩, ⟨_, by omega, HTE.out⟩⟩ (fun hHeld => ?_)
      try simp only [aP, lA, lB, lC]
      clear hK
      refine wpAnyH_done (by kernel_rfl) ?_ _
      clear hHeld
      go_wp2
      exact tm_end Tryz.results48 (x := ⟨15, [], z49, x50⟩) HMA.out rfl rfl ⟨_, rfl, goodT_mk 15 [] z49 x50 (by decide) Hx50.out (by decide) (by decide), ⟨_, by omega, HTE.out⟩, HKE.out⟩
     ·
      go_simp
      go_at_call 20
      refine cM (by with_reducible exact oneB [[108, 97, 110, 37, 110], [110, 101, 116, 48], [97, 47, 98], [37, 99]] 4 (by decide) (by decide) (by decide) (by decide) (by omega) HT48.out HLq45.out HBq45.out HXA.out) ?_
      rintro e V53 ⟨x52, hx52, rfl, ht, hkp⟩
      dsimp only
      have Hx52 := qH hx52
      have HK53 := qH (HK48.out.trans hkp)
      have HM53 := qH (HM48.out.kp hkp (by simp; exact HRT.out))
      have HT53 := qH ht
      have HBq47 := qH ((hkp.block _ (block_lt HBq47.out) (by have := HLq47.out; simp; omega)).trans HBq47.out)
      have HBq45 := qH ((hkp.block _ (block_lt HBq45.out) (by have := HLq45.out; simp; omega)).trans HBq45.out)
      clear hHeld ht hkp hx52
      refine hK.out _ _ ⟨HK53.out, ⟨_, HM53.out⟩, ⟨_, by omega, HT53.out⟩⟩ (fun hHeld => ?_)
      try simp only [aP, lA, lB, lC]
      clear hK
      refine wpAnyH_ready (rs := [4]) (by kernel_rfl) (by simp) ?_
      refine AllReadyH.cons (o := ⟨some 34, .load 3 (.tmp 33), 3, "rule.go:60", #[⟨3, .data⟩], none⟩) rfl (fun K hK => ?_) AllReadyH.nil
      obtain ⟨z54, hz1, hz2, hz3⟩ := ints2 Hr28.out HBq47.out
      have HZz54 := qH (And.intro hz1 hz2)
      clear hz1 hz2
      go_simp
      clear hHeld hz3
      refine hK.out _ _ ⟨HK53.out, ⟨_, HM53.out⟩, ⟨_, by omega, HT53.out⟩⟩ (fun hHeld => ?_)
      try simp only [aP, lA, lB, lC]
      clear hK
      refine wpAnyH_take (i := 8) (oi := ⟨some 38, .build 46 #[(0, .const (.int .i64 15)), (2, .tmp 34), (3, .tmp 37)], 46, "rule.go:60", #[⟨4, .data⟩, ⟨7, .data⟩], none⟩) (v := .agg #[.int .i64 15, .string ⟨#[]⟩, .int .i64 z54, .string (bs x52)]) rfl (by kernel_rfl) (by kernel_rfl) (by kernel_rfl) (fun _ _ _ h => h) (Or.inl ⟨by rfl, fun w hSw => by (try dsimp only at hSw); go_simp⟩) hHeld ?_
      try simp only [aP, lA, lB, lC]
      refine wpAnyH_ready (rs := [9]) (by kernel_rfl) (by simp) ?_
      refine AllReadyH.cons (o := ⟨none, .store 46 (.tmp 2) (.tmp 38), 0, "rule.go:60", #[⟨8, .data⟩, ⟨7, .chain⟩, ⟨0, .phase⟩, ⟨1, .phase⟩, ⟨2, .phase⟩, ⟨3, .phase⟩, ⟨4, .phase⟩, ⟨5, .phase⟩, ⟨6, .phase⟩, ⟨7, .phase⟩, ⟨8, .phase⟩], none⟩) rfl (fun K hK => ?_) AllReadyH.nil
      obtain ⟨t0, t1, t2, t3⟩ := HM53.out.cells
      have ft := fun o => HM53.out.frz (o := o)
      have HMA := qH (HM53.out.all ⟨15, [], z54, x52⟩)
      have HKE := qH ((((HK53.out.setCell (p := ⟨R, 0, none⟩) (.inr HRW.out) (.int .i64 15)).setCell (p := ⟨R, 1, none⟩) (.inr HRW.out) (.string ⟨#[]⟩)).setCell (p := ⟨R, 2, none⟩) (.inr HRW.out) (.int .i64 z54)).setCell (p := ⟨R, 3, none⟩) (.inr HRW.out) (.string (bs x52)))
      have HTE := qH (HT53.out.put4 HRL.out (.int .i64 15) (.string ⟨#[]⟩) (.int .i64 z54) (.string (bs x52)))
      go_simp
      clear hHeld t0 t1 t2 t3 ft
      refine hK.out _ _ ⟨HKE.out, ⟨_, HMA.out⟩, ⟨_, by omega, HTE.out⟩⟩ (fun hHeld => ?_)
      try simp only [aP, lA, lB, lC]
      clear hK
      refine wpAnyH_done (by kernel_rfl) ?_ _
      clear hHeld
      go_wp2
      exact tm_end Tryz.results48 (x := ⟨15, [], z54, x52⟩) HMA.out rfl rfl ⟨_, rfl, goodT_mk 15 [] z54 x52 (by decide) Hx52.out (by decide) (by decide), ⟨_, by omega, HTE.out⟩, HKE.out⟩
    ·
     go_simp
     go_at_call 20
     refine cM (by with_reducible exact oneB [[108, 97, 110, 37, 110], [110, 101, 116, 48], [97, 47, 98], [37, 99]] 4 (by decide) (by decide) (by decide) (by decide) (by omega) HT46.out HLq45.out HBq45.out HXA.out) ?_
     rintro e V56 ⟨x55, hx55, rfl, ht, hkp⟩
     dsimp only
     have Hx55 := qH hx55
     have HK56 := qH (HK46.out.trans hkp)
     have HM56 := qH (HM46.out.kp hkp (by simp; exact HRT.out))
     have HT56 := qH ht
     have HBq45 := qH ((hkp.block _ (block_lt HBq45.out) (by have := HLq45.out; simp; omega)).trans HBq45.out)
     clear hHeld ht hkp hx55
     refine hK.out _ _ ⟨HK56.out, ⟨_, HM56.out⟩, ⟨_, by omega, HT56.out⟩⟩ (fun hHeld => ?_)
     try simp only [aP, lA, lB, lC]
     clear hK
     refine wpAnyH_ready (rs := [0]) (by kernel_rfl) (by simp) ?_
     refine AllReadyH.cons (o := ⟨some 30, .buildSlice 22 2 #[(0, .const (.int .i64 3)), (1, .const (.int .i64 6))], 22, "rule.go:60", #[], none⟩) rfl (fun K hK => ?_) AllReadyH.nil
     go_simp
     obtain ⟨V58, hV58⟩ : ∃ V, V56.alloc (.cells #[.int .i64 3, .int .i64 6] 3) = V := ⟨_, rfl⟩
     obtain ⟨q57, hq57⟩ : ∃ b, V56.heap.size = b := ⟨_, rfl⟩
     have hk58 : Kp [] V56 V58 := by rw [← hV58]; exact (Kp.refl [] _).alloc _
     have HBq57 := qH (show V58.heap[q57]? = some (.cells #[.int .i64 3, .int .i64 6] 3 (0, 0)) by rw [← hV58, ← hq57]; exact heap_alloc_last _ _)
     have HLq57 := qH (show tb < q57 by have := HT56.out.lt; omega)
     have HK58 := qH (HK56.out.upT hk58)
     have HM58 := qH (HM56.out.kp hk58 (by simp))
     have HT58 := qH (HT56.out.kp hk58 (by simp))
     have HBq45 := qH ((hk58.block _ (block_lt HBq45.out) (by simp)).trans HBq45.out)
     rw [hV58, hq57]
     clear hHeld hk58 hV58 hq57
     refine hK.out _ _ ⟨HK58.out, ⟨_, HM58.out⟩, ⟨_, by omega, HT58.out⟩⟩ (fun hHeld => ?_)
     try simp only [aP, lA, lB, lC]
     clear hK
     refine wpAnyH_take (i := 3) (oi := ⟨some 33, .indexAddr 22 (.tmp 30) (.tmp 32), 0, "rule.go:60", #[⟨0, .data⟩, ⟨2, .data⟩], none⟩) (v := .pointer (some ⟨q57, r28, none⟩)) rfl (by kernel_rfl) (by kernel_rfl) (by kernel_rfl) (fun _ _ _ h => h) (Or.inl ⟨by rfl, fun w hSw => by (try dsimp only at hSw); have hq1 : ((r28 : Nat) : Int) < 2 := (by have := Hr28.out; omega); go_simp⟩) hHeld ?_
     try simp only [aP, lA, lB, lC]
     refine wpAnyH_ready (rs := [4]) (by kernel_rfl) (by simp) ?_
     refine AllReadyH.cons (o := ⟨some 34, .load 3 (.tmp 33), 3, "rule.go:60", #[⟨3, .data⟩], none⟩) rfl (fun K hK => ?_) AllReadyH.nil
     obtain ⟨z59, hz1, hz2, hz3⟩ := ints2 Hr28.out HBq57.out
     have HZz59 := qH (And.intro hz1 hz2)
     clear hz1 hz2
     go_simp
     clear hHeld hz3
     refine hK.out _ _ ⟨HK58.out, ⟨_, HM58.out⟩, ⟨_, by omega, HT58.out⟩⟩ (fun hHeld => ?_)
     try simp only [aP, lA, lB, lC]
     clear hK
     refine wpAnyH_take (i := 8) (oi := ⟨some 38, .build 46 #[(0, .const (.int .i64 15)), (2, .tmp 34), (3, .tmp 37)], 46, "rule.go:60", #[⟨4, .data⟩, ⟨7, .data⟩], none⟩) (v := .agg #[.int .i64 15, .string ⟨#[]⟩, .int .i64 z59, .string (bs x55)]) rfl (by kernel_rfl) (by kernel_rfl) (by kernel_rfl) (fun _ _ _ h => h) (Or.inl ⟨by rfl, fun w hSw => by (try dsimp only at hSw); go_simp⟩) hHeld ?_
     try simp only [aP, lA, lB, lC]
     refine wpAnyH_ready (rs := [9]) (by kernel_rfl) (by simp) ?_
     refine AllReadyH.cons (o := ⟨none, .store 46 (.tmp 2) (.tmp 38), 0, "rule.go:60", #[⟨8, .data⟩, ⟨7, .chain⟩, ⟨0, .phase⟩, ⟨1, .phase⟩, ⟨2, .phase⟩, ⟨3, .phase⟩, ⟨4, .phase⟩, ⟨5, .phase⟩, ⟨6, .phase⟩, ⟨7, .phase⟩, ⟨8, .phase⟩], none⟩) rfl (fun K hK => ?_) AllReadyH.nil
     obtain ⟨t0, t1, t2, t3⟩ := HM58.out.cells
     have ft := fun o => HM58.out.frz (o := o)
     have HMA := qH (HM58.out.all ⟨15, [], z59, x55⟩)
     have HKE := qH ((((HK58.out.setCell (p := ⟨R, 0, none⟩) (.inr HRW.out) (.int .i64 15)).setCell (p := ⟨R, 1, none⟩) (.inr HRW.out) (.string ⟨#[]⟩)).setCell (p := ⟨R, 2, none⟩) (.inr HRW.out) (.int .i64 z59)).setCell (p := ⟨R, 3, none⟩) (.inr HRW.out) (.string (bs x55)))
     have HTE := qH (HT58.out.put4 HRL.out (.int .i64 15) (.string ⟨#[]⟩) (.int .i64 z59) (.string (bs x55)))
     go_simp
     clear hHeld t0 t1 t2 t3 ft
     refine hK.out _ _ ⟨HKE.out, ⟨_, HMA.out⟩, ⟨_, by omega, HTE.out⟩⟩ (fun hHeld => ?_)
     try simp only [aP, lA, lB, lC]
     clear hK
     refine wpAnyH_done (by kernel_rfl) ?_ _
     clear hHeld
     go_wp2
     exact tm_end Tryz.results48 (x := ⟨15, [], z59, x55⟩) HMA.out rfl rfl ⟨_, rfl, goodT_mk 15 [] z59 x55 (by decide) Hx55.out (by decide) (by decide), ⟨_, by omega, HTE.out⟩, HKE.out⟩
  ·
   go_simp
   obtain ⟨V61, hV61⟩ : ∃ V, V0.alloc (.cells #[.string ⟨#[108, 97, 110, 37, 110]⟩, .string ⟨#[110, 101, 116, 48]⟩, .string ⟨#[97, 47, 98]⟩, .string ⟨#[37, 99]⟩] 9) = V := ⟨_, rfl⟩
   obtain ⟨q60, hq60⟩ : ∃ b, V0.heap.size = b := ⟨_, rfl⟩
   have hk61 : Kp [] V0 V61 := by rw [← hV61]; exact (Kp.refl [] _).alloc _
   have HBq60 := qH (show V61.heap[q60]? = some (.cells #[.string ⟨#[108, 97, 110, 37, 110]⟩, .string ⟨#[110, 101, 116, 48]⟩, .string ⟨#[97, 47, 98]⟩, .string ⟨#[37, 99]⟩] 9 (0, 0)) by rw [← hV61, ← hq60]; exact heap_alloc_last _ _)
   have HLq60 := qH (show tb < q60 by have := HT0.out.lt; omega)
   have HK61 := qH (HK0.out.upT hk61)
   have HM61 := qH (HM0.out.kp hk61 (by simp))
   have HT61 := qH (HT0.out.kp hk61 (by simp))
   rw [hV61, hq60]
   clear hHeld hk61 hV61 hq60
   refine hK.out _ _ ⟨HK61.out, ⟨_, HM61.out⟩, ⟨_, by omega, HT61.out⟩⟩ (fun hHeld => ?_)
   try simp only [aP, lA, lB, lC]
   clear hK
   refine wpAnyH_ready (rs := [0, 2]) (by kernel_rfl) (by simp) ?_
   refine AllReadyH.cons (o := ⟨some 30, .buildSlice 22 2 #[(0, .const (.int .i64 3)), (1, .const (.int .i64 6))], 22, "rule.go:60", #[], none⟩) rfl (fun K hK => ?_) (AllReadyH.cons (o := ⟨some 32, .call { callee := .value (.func 16), args := #[.tmp 31, .const (.int .i64 2)], argTypes := #[25, 3] }, 3, "rule.go:60", #[⟨1, .data⟩], none⟩) rfl (fun K hK => ?_) AllReadyH.nil)
   ·
    go_simp
    obtain ⟨V63, hV63⟩ : ∃ V, V61.alloc (.cells #[.int .i64 3, .int .i64 6] 3) = V := ⟨_, rfl⟩
    obtain ⟨q62, hq62⟩ : ∃ b, V61.heap.size = b := ⟨_, rfl⟩
    have hk63 : Kp [] V61 V63 := by rw [← hV63]; exact (Kp.refl [] _).alloc _
    have HBq62 := qH (show V63.heap[q62]? = some (.cells #[.int .i64 3, .int .i64 6] 3 (0, 0)) by rw [← hV63, ← hq62]; exact heap_alloc_last _ _)
    have HLq62 := qH (show tb < q62 by have := HT61.out.lt; omega)
    have HK63 := qH (HK61.out.upT hk63)
    have HM63 := qH (HM61.out.kp hk63 (by simp))
    have HT63 := qH (HT61.out.kp hk63 (by simp))
    have HBq60 := qH ((hk63.block _ (block_lt HBq60.out) (by simp)).trans HBq60.out)
    rw [hV63, hq62]
    clear hHeld hk63 hV63 hq62
    refine hK.out _ _ ⟨HK63.out, ⟨_, HM63.out⟩, ⟨_, by omega, HT63.out⟩⟩ (fun hHeld => ?_)
    try simp only [aP, lA, lB, lC]
    clear hK
    refine wpAnyH_ready (rs := [2]) (by kernel_rfl) (by simp) ?_
    refine AllReadyH.cons (o := ⟨some 32, .call { callee := .value (.func 16), args := #[.tmp 31, .const (.int .i64 2)], argTypes := #[25, 3] }, 3, "rule.go:60", #[⟨1, .data⟩], none⟩) rfl (fun K hK => ?_) AllReadyH.nil
    go_simp
    go_at_call 16
    refine cM (by with_reducible exact nextL2 (by omega) HT63.out) ?_
    rintro e V65 ⟨r64, hr64, rfl, ht, hkp⟩
    dsimp only
    have Hr64 := qH hr64
    have HK65 := qH (HK63.out.trans hkp)
    have HM65 := qH (HM63.out.kp hkp (by simp; exact HRT.out))
    have HT65 := qH ht
    have HBq62 := qH ((hkp.block _ (block_lt HBq62.out) (by have := HLq62.out; simp; omega)).trans HBq62.out)
    have HBq60 := qH ((hkp.block _ (block_lt HBq60.out) (by have := HLq60.out; simp; omega)).trans HBq60.out)
    clear hHeld ht hkp hr64
    refine hK.out _ _ ⟨HK65.out, ⟨_, HM65.out⟩, ⟨_, by omega, HT65.out⟩⟩ (fun hHeld => ?_)
    try simp only [aP, lA, lB, lC]
    clear hK
    refine wpAnyH_take (i := 3) (oi := ⟨some 33, .indexAddr 22 (.tmp 30) (.tmp 32), 0, "rule.go:60", #[⟨0, .data⟩, ⟨2, .data⟩], none⟩) (v := .pointer (some ⟨q62, r64, none⟩)) rfl (by kernel_rfl) (by kernel_rfl) (by kernel_rfl) (fun _ _ _ h => h) (Or.inl ⟨by rfl, fun w hSw => by (try dsimp only at hSw); have hq1 : ((r64 : Nat) : Int) < 2 := (by have := Hr64.out; omega); go_simp⟩) hHeld ?_
    try simp only [aP, lA, lB, lC]
    refine wpAnyH_ready (rs := [4, 7]) (by kernel_rfl) (by simp) ?_
    refine AllReadyH.cons (o := ⟨some 34, .load 3 (.tmp 33), 3, "rule.go:60", #[⟨3, .data⟩], none⟩) rfl (fun K hK => ?_) (AllReadyH.cons (o := ⟨some 37, .call { callee := .value (.func 20), args := #[.tmp 35, .tmp 36], argTypes := #[25, 52] }, 9, "rule.go:60", #[⟨5, .data⟩, ⟨6, .data⟩, ⟨2, .chain⟩], none⟩) rfl (fun K hK => ?_) AllReadyH.nil)
    ·
     obtain ⟨z66, hz1, hz2, hz3⟩ := ints2 Hr64.out HBq62.out
     have HZz66 := qH (And.intro hz1 hz2)
     clear hz1 hz2
     go_simp
     clear hHeld hz3
     refine hK.out _ _ ⟨HK65.out, ⟨_, HM65.out⟩, ⟨_, by omega, HT65.out⟩⟩ (fun hHeld => ?_)
     try simp only [aP, lA, lB, lC]
     clear hK
     refine wpAnyH_ready (rs := [7]) (by kernel_rfl) (by simp) ?_
     refine AllReadyH.cons (o := ⟨some 37, .call { callee := .value (.func 20), args := #[.tmp 35, .tmp 36], argTypes := #[25, 52] }, 9, "rule.go:60", #[⟨5, .data⟩, ⟨6, .data⟩, ⟨2, .chain⟩], none⟩) rfl (fun K hK => ?_) AllReadyH.nil
     go_simp
     go_at_call 20
     refine cM (by with_reducible exact oneB [[108, 97, 110, 37, 110], [110, 101, 116, 48], [97, 47, 98], [37, 99]] 4 (by decide) (by decide) (by decide) (by decide) (by omega) HT65.out HLq60.out HBq60.out HXA.out) ?_
     rintro e V68 ⟨x67, hx67, rfl, ht, hkp⟩
     dsimp only
     have Hx67 := qH hx67
     have HK68 := qH (HK65.out.trans hkp)
     have HM68 := qH (HM65.out.kp hkp (by simp; exact HRT.out))
     have HT68 := qH ht
     have HBq62 := qH ((hkp.block _ (block_lt HBq62.out) (by have := HLq62.out; simp; omega)).trans HBq62.out)
     have HBq60 := qH ((hkp.block _ (block_lt HBq60.out) (by have := HLq60.out; simp; omega)).trans HBq60.out)
     clear hHeld ht hkp hx67
     refine hK.out _ _ ⟨HK68.out, ⟨_, HM68.out⟩, ⟨_, by omega, HT68.out⟩⟩ (fun hHeld => ?_)
     try simp only [aP, lA, lB, lC]
     clear hK
     refine wpAnyH_take (i := 8) (oi := ⟨some 38, .build 46 #[(0, .const (.int .i64 15)), (2, .tmp 34), (3, .tmp 37)], 46, "rule.go:60", #[⟨4, .data⟩, ⟨7, .data⟩], none⟩) (v := .agg #[.int .i64 15, .string ⟨#[]⟩, .int .i64 z66, .string (bs x67)]) rfl (by kernel_rfl) (by kernel_rfl) (by kernel_rfl) (fun _ _ _ h => h) (Or.inl ⟨by rfl, fun w hSw => by (try dsimp only at hSw); go_simp⟩) hHeld ?_
     try simp only [aP, lA, lB, lC]
     refine wpAnyH_ready (rs := [9]) (by kernel_rfl) (by simp) ?_
     refine AllReadyH.cons (o := ⟨none, .store 46 (.tmp 2) (.tmp 38), 0, "rule.go:60", #[⟨8, .data⟩, ⟨7, .chain⟩, ⟨0, .phase⟩, ⟨1, .phase⟩, ⟨2, .phase⟩, ⟨3, .phase⟩, ⟨4, .phase⟩, ⟨5, .phase⟩, ⟨6, .phase⟩, ⟨7, .phase⟩, ⟨8, .phase⟩], none⟩) rfl (fun K hK => ?_) AllReadyH.nil
     obtain ⟨t0, t1, t2, t3⟩ := HM68.out.cells
     have ft := fun o => HM68.out.frz (o := o)
     have HMA := qH (HM68.out.all ⟨15, [], z66, x67⟩)
     have HKE := qH ((((HK68.out.setCell (p := ⟨R, 0, none⟩) (.inr HRW.out) (.int .i64 15)).setCell (p := ⟨R, 1, none⟩) (.inr HRW.out) (.string ⟨#[]⟩)).setCell (p := ⟨R, 2, none⟩) (.inr HRW.out) (.int .i64 z66)).setCell (p := ⟨R, 3, none⟩) (.inr HRW.out) (.string (bs x67)))
     have HTE := qH (HT68.out.put4 HRL.out (.int .i64 15) (.string ⟨#[]⟩) (.int .i64 z66) (.string (bs x67)))
     go_simp
     clear hHeld t0 t1 t2 t3 ft
     refine hK.out _ _ ⟨HKE.out, ⟨_, HMA.out⟩, ⟨_, by omega, HTE.out⟩⟩ (fun hHeld => ?_)
     try simp only [aP, lA, lB, lC]
     clear hK
     refine wpAnyH_done (by kernel_rfl) ?_ _
     clear hHeld
     go_wp2
     exact tm_end Tryz.results48 (x := ⟨15, [], z66, x67⟩) HMA.out rfl rfl ⟨_, rfl, goodT_mk 15 [] z66 x67 (by decide) Hx67.out (by decide) (by decide), ⟨_, by omega, HTE.out⟩, HKE.out⟩
    ·
     go_simp
     go_at_call 20
     refine cM (by with_reducible exact oneB [[108, 97, 110, 37, 110], [110, 101, 116, 48], [97, 47, 98], [37, 99]] 4 (by decide) (by decide) (by decide) (by decide) (by omega) HT65.out HLq60.out HBq60.out HXA.out) ?_
     rintro e V70 ⟨x69, hx69, rfl, ht, hkp⟩
     dsimp only
     have Hx69 := qH hx69
     have HK70 := qH (HK65.out.trans hkp)
     have HM70 := qH (HM65.out.kp hkp (by simp; exact HRT.out))
     have HT70 := qH ht
     have HBq62 := qH ((hkp.block _ (block_lt HBq62.out) (by have := HLq62.out; simp; omega)).trans HBq62.out)
     have HBq60 := qH ((hkp.block _ (block_lt HBq60.out) (by have := HLq60.out; simp; omega)).trans HBq60.out)
     clear hHeld ht hkp hx69
     refine hK.out _ _ ⟨HK70.out, ⟨_, HM70.out⟩, ⟨_, by omega, HT70.out⟩⟩ (fun hHeld => ?_)
     try simp only [aP, lA, lB, lC]
     clear hK
     refine wpAnyH_ready (rs := [4]) (by kernel_rfl) (by simp) ?_
     refine AllReadyH.cons (o := ⟨some 34, .load 3 (.tmp 33), 3, "rule.go:60", #[⟨3, .data⟩], none⟩) rfl (fun K hK => ?_) AllReadyH.nil
     obtain ⟨z71, hz1, hz2, hz3⟩ := ints2 Hr64.out HBq62.out
     have HZz71 := qH (And.intro hz1 hz2)
     clear hz1 hz2
     go_simp
     clear hHeld hz3
     refine hK.out _ _ ⟨HK70.out, ⟨_, HM70.out⟩, ⟨_, by omega, HT70.out⟩⟩ (fun hHeld => ?_)
     try simp only [aP, lA, lB, lC]
     clear hK
     refine wpAnyH_take (i := 8) (oi := ⟨some 38, .build 46 #[(0, .const (.int .i64 15)), (2, .tmp 34), (3, .tmp 37)], 46, "rule.go:60", #[⟨4, .data⟩, ⟨7, .data⟩], none⟩) (v := .agg #[.int .i64 15, .string ⟨#[]⟩, .int .i64 z71, .string (bs x69)]) rfl (by kernel_rfl) (by kernel_rfl) (by kernel_rfl) (fun _ _ _ h => h) (Or.inl ⟨by rfl, fun w hSw => by (try dsimp only at hSw); go_simp⟩) hHeld ?_
     try simp only [aP, lA, lB, lC]
     refine wpAnyH_ready (rs := [9]) (by kernel_rfl) (by simp) ?_
     refine AllReadyH.cons (o := ⟨none, .store 46 (.tmp 2) (.tmp 38), 0, "rule.go:60", #[⟨8, .data⟩, ⟨7, .chain⟩, ⟨0, .phase⟩, ⟨1, .phase⟩, ⟨2, .phase⟩, ⟨3, .phase⟩, ⟨4, .phase⟩, ⟨5, .phase⟩, ⟨6, .phase⟩, ⟨7, .phase⟩, ⟨8, .phase⟩], none⟩) rfl (fun K hK => ?_) AllReadyH.nil
     obtain ⟨t0, t1, t2, t3⟩ := HM70.out.cells
     have ft := fun o => HM70.out.frz (o := o)
     have HMA := qH (HM70.out.all ⟨15, [], z71, x69⟩)
     have HKE := qH ((((HK70.out.setCell (p := ⟨R, 0, none⟩) (.inr HRW.out) (.int .i64 15)).setCell (p := ⟨R, 1, none⟩) (.inr HRW.out) (.string ⟨#[]⟩)).setCell (p := ⟨R, 2, none⟩) (.inr HRW.out) (.int .i64 z71)).setCell (p := ⟨R, 3, none⟩) (.inr HRW.out) (.string (bs x69)))
     have HTE := qH (HT70.out.put4 HRL.out (.int .i64 15) (.string ⟨#[]⟩) (.int .i64 z71) (.string (bs x69)))
     go_simp
     clear hHeld t0 t1 t2 t3 ft
     refine hK.out _ _ ⟨HKE.out, ⟨_, HMA.out⟩, ⟨_, by omega, HTE.out⟩⟩ (fun hHeld => ?_)
     try simp only [aP, lA, lB, lC]
     clear hK
     refine wpAnyH_done (by kernel_rfl) ?_ _
     clear hHeld
     go_wp2
     exact tm_end Tryz.results48 (x := ⟨15, [], z71, x69⟩) HMA.out rfl rfl ⟨_, rfl, goodT_mk 15 [] z71 x69 (by decide) Hx69.out (by decide) (by decide), ⟨_, by omega, HTE.out⟩, HKE.out⟩
   ·
    go_simp
    go_at_call 16
    refine cM (by with_reducible exact nextL2 (by omega) HT61.out) ?_
    rintro e V73 ⟨r72, hr72, rfl, ht, hkp⟩
    dsimp only
    have Hr72 := qH hr72
    have HK73 := qH (HK61.out.trans hkp)
    have HM73 := qH (HM61.out.kp hkp (by simp; exact HRT.out))
    have HT73 := qH ht
    have HBq60 := qH ((hkp.block _ (block_lt HBq60.out) (by have := HLq60.out; simp; omega)).trans HBq60.out)
    clear hHeld ht hkp hr72
    refine hK.out _ _ ⟨HK73.out, ⟨_, HM73.out⟩, ⟨_, by omega, HT73.out⟩⟩ (fun hHeld => ?_)
    try simp only [aP, lA, lB, lC]
    clear hK
    refine wpAnyH_ready (rs := [0, 7]) (by kernel_rfl) (by simp) ?_
    refine AllReadyH.cons (o := ⟨some 30, .buildSlice 22 2 #[(0, .const (.int .i64 3)), (1, .const (.int .i64 6))], 22, "rule.go:60", #[], none⟩) rfl (fun K hK => ?_) (AllReadyH.cons (o := ⟨some 37, .call { callee := .value (.func 20), args := #[.tmp 35, .tmp 36], argTypes := #[25, 52] }, 9, "rule.go:60", #[⟨5, .data⟩, ⟨6, .data⟩, ⟨2, .chain⟩], none⟩) rfl (fun K hK => ?_) AllReadyH.nil)
    ·
     go_simp
     obtain ⟨V75, hV75⟩ : ∃ V, V73.alloc (.cells #[.int .i64 3, .int .i64 6] 3) = V := ⟨_, rfl⟩
     obtain ⟨q74, hq74⟩ : ∃ b, V73.heap.size = b := ⟨_, rfl⟩
     have hk75 : Kp [] V73 V75 := by rw [← hV75]; exact (Kp.refl [] _).alloc _
     have HBq74 := qH (show V75.heap[q74]? = some (.cells #[.int .i64 3, .int .i64 6] 3 (0, 0)) by rw [← hV75, ← hq74]; exact heap_alloc_last _ _)
     have HLq74 := qH (show tb < q74 by have := HT73.out.lt; omega)
     have HK75 := qH (HK73.out.upT hk75)
     have HM75 := qH (HM73.out.kp hk75 (by simp))
     have HT75 := qH (HT73.out.kp hk75 (by simp))
     have HBq60 := qH ((hk75.block _ (block_lt HBq60.out) (by simp)).trans HBq60.out)
     rw [hV75, hq74]
     clear hHeld hk75 hV75 hq74
     refine hK.out _ _ ⟨HK75.out, ⟨_, HM75.out⟩, ⟨_, by omega, HT75.out⟩⟩ (fun hHeld => ?_)
     try simp only [aP, lA, lB, lC]
     clear hK
     refine wpAnyH_take (i := 3) (oi := ⟨some 33, .indexAddr 22 (.tmp 30) (.tmp 32), 0, "rule.go:60", #[⟨0, .data⟩, ⟨2, .data⟩], none⟩) (v := .pointer (some ⟨q74, r72, none⟩)) rfl (by kernel_rfl) (by kernel_rfl) (by kernel_rfl) (fun _ _ _ h => h) (Or.inl ⟨by rfl, fun w hSw => by (try dsimp only at hSw); have hq1 : ((r72 : Nat) : Int) < 2 := (by have := Hr72.out; omega); go_simp⟩) hHeld ?_
     try simp only [aP, lA, lB, lC]
     refine wpAnyH_ready (rs := [4, 7]) (by kernel_rfl) (by simp) ?_
     refine AllReadyH.cons (o := ⟨some 34, .load 3 (.tmp 33), 3, "rule.go:60", #[⟨3, .data⟩], none⟩) rfl (fun K hK => ?_) (AllReadyH.cons (o := ⟨some 37, .call { callee := .value (.func 20), args := #[.tmp 35, .tmp 36], argTypes := #[25, 52] }, 9, "rule.go:60", #[⟨5, .data⟩, ⟨6, .data⟩, ⟨2, .chain⟩], none⟩) rfl (fun K hK => ?_) AllReadyH.nil)
     ·
      obtain ⟨z76, hz1, hz2, hz3⟩ := ints2 Hr72.out HBq74.out
      have HZz76 := qH (And.intro hz1 hz2)
      clear hz1 hz2
      go_simp
      clear hHeld hz3
      refine hK.out _ _ ⟨HK75.out, ⟨_, HM75.out⟩, ⟨_, by omega, HT75.out⟩⟩ (fun hHeld => ?_)
      try simp only [aP, lA, lB, lC]
      clear hK
      refine wpAnyH_ready (rs := [7]) (by kernel_rfl) (by simp) ?_
      refine AllReadyH.cons (o := ⟨some 37, .call { callee := .value (.func 20), args := #[.tmp 35, .tmp 36], argTypes := #[25, 52] }, 9, "rule.go:60", #[⟨5, .data⟩, ⟨6, .data⟩, ⟨2, .chain⟩], none⟩) rfl (fun K hK => ?_) AllReadyH.nil
      go_simp
      go_at_call 20
      refine cM (by with_reducible exact oneB [[108, 97, 110, 37, 110], [110, 101, 116, 48], [97, 47, 98], [37, 99]] 4 (by decide) (by decide) (by decide) (by decide) (by omega) HT75.out HLq60.out HBq60.out HXA.out) ?_
      rintro e V78 ⟨x77, hx77, rfl, ht, hkp⟩
      dsimp only
      have Hx77 := qH hx77
      have HK78 := qH (HK75.out.trans hkp)
      have HM78 := qH (HM75.out.kp hkp (by simp; exact HRT.out))
      have HT78 := qH ht
      have HBq74 := qH ((hkp.block _ (block_lt HBq74.out) (by have := HLq74.out; simp; omega)).trans HBq74.out)
      have HBq60 := qH ((hkp.block _ (block_lt HBq60.out) (by have := HLq60.out; simp; omega)).trans HBq60.out)
      clear hHeld ht hkp hx77
      refine hK.out _ _ ⟨HK78.out, ⟨_, HM78.out⟩, ⟨_, by omega, HT78.out⟩⟩ (fun hHeld => ?_)
      try simp only [aP, lA, lB, lC]
      clear hK
      refine wpAnyH_take (i := 8) (oi := ⟨some 38, .build 46 #[(0, .const (.int .i64 15)), (2, .tmp 34), (3, .tmp 37)], 46, "rule.go:60", #[⟨4, .data⟩, ⟨7, .data⟩], none⟩) (v := .agg #[.int .i64 15, .string ⟨#[]⟩, .int .i64 z76, .string (bs x77)]) rfl (by kernel_rfl) (by kernel_rfl) (by kernel_rfl) (fun _ _ _ h => h) (Or.inl ⟨by rfl, fun w hSw => by (try dsimp only at hSw); go_simp⟩) hHeld ?_
      try simp only [aP, lA, lB, lC]
      refine wpAnyH_ready (rs := [9]) (by kernel_rfl) (by simp) ?_
      refine AllReadyH.cons (o := ⟨none, .store 46 (.tmp 2) (.tmp 38), 0, "rule.go:60", #[⟨8, .data⟩, ⟨7, .chain⟩, ⟨0, .phase⟩, ⟨1, .phase⟩, ⟨2, .phase⟩, ⟨3, .phase⟩, ⟨4, .phase⟩, ⟨5, .phase⟩, ⟨6, .phase⟩, ⟨7, .phase⟩, ⟨8, .phase⟩], none⟩) rfl (fun K hK => ?_) AllReadyH.nil
      obtain ⟨t0, t1, t2, t3⟩ := HM78.out.cells
      have ft := fun o => HM78.out.frz (o := o)
      have HMA := qH (HM78.out.all ⟨15, [], z76, x77⟩)
      have HKE := qH ((((HK78.out.setCell (p := ⟨R, 0, none⟩) (.inr HRW.out) (.int .i64 15)).setCell (p := ⟨R, 1, none⟩) (.inr HRW.out) (.string ⟨#[]⟩)).setCell (p := ⟨R, 2, none⟩) (.inr HRW.out) (.int .i64 z76)).setCell (p := ⟨R, 3, none⟩) (.inr HRW.out) (.string (bs x77)))
      have HTE := qH (HT78.out.put4 HRL.out (.int .i64 15) (.string ⟨#[]⟩) (.int .i64 z76) (.string (bs x77)))
      go_simp
      clear hHeld t0 t1 t2 t3 ft
      refine hK.out _ _ ⟨HKE.out, ⟨_, HMA.out⟩, ⟨_, by omega, HTE.out⟩⟩ (fun hHeld => ?_)
      try simp only [aP, lA, lB, lC]
      clear hK
      refine wpAnyH_done (by kernel_rfl) ?_ _
      clear hHeld
      go_wp2
      exact tm_end Tryz.results48 (x := ⟨15, [], z76, x77⟩) HMA.out rfl rfl ⟨_, rfl, goodT_mk 15 [] z76 x77 (by decide) Hx77.out (by decide) (by decide), ⟨_, by omega, HTE.out⟩, HKE.out⟩
     ·
      go_simp
      go_at_call 20
      refine cM (by with_reducible exact oneB [[108, 97, 110, 37, 110], [110, 101, 116, 48], [97, 47, 98], [37, 99]] 4 (by decide) (by decide) (by decide) (by decide) (by omega) HT75.out HLq60.out HBq60.out HXA.out) ?_
      rintro e V80 ⟨x79, hx79, rfl, ht, hkp⟩
      dsimp only
      have Hx79 := qH hx79
      have HK80 := qH (HK75.out.trans hkp)
      have HM80 := qH (HM75.out.kp hkp (by simp; exact HRT.out))
      have HT80 := qH ht
      have HBq74 := qH ((hkp.block _ (block_lt HBq74.out) (by have := HLq74.out; simp; omega)).trans HBq74.out)
      have HBq60 := qH ((hkp.block _ (block_lt HBq60.out) (by have := HLq60.out; simp; omega)).trans HBq60.out)
      clear hHeld ht hkp hx79
      refine hK.out _ _ ⟨HK80.out, ⟨_, HM80.out⟩, ⟨_, by omega, HT80.out⟩⟩ (fun hHeld => ?_)
      try simp only [aP, lA, lB, lC]
      clear hK
      refine wpAnyH_ready (rs := [4]) (by kernel_rfl) (by simp) ?_
      refine AllReadyH.cons (o := ⟨some 34, .load 3 (.tmp 33), 3, "rule.go:60", #[⟨3, .data⟩], none⟩) rfl (fun K hK => ?_) AllReadyH.nil
      obtain ⟨z81, hz1, hz2, hz3⟩ := ints2 Hr72.out HBq74.out
      have HZz81 := qH (And.intro hz1 hz2)
      clear hz1 hz2
      go_simp
      clear hHeld hz3
      refine hK.out _ _ ⟨HK80.out, ⟨_, HM80.out⟩, ⟨_, by omega, HT80.out⟩⟩ (fun hHeld => ?_)
      try simp only [aP, lA, lB, lC]
      clear hK
      refine wpAnyH_take (i := 8) (oi := ⟨some 38, .build 46 #[(0, .const (.int .i64 15)), (2, .tmp 34), (3, .tmp 37)], 46, "rule.go:60", #[⟨4, .data⟩, ⟨7, .data⟩], none⟩) (v := .agg #[.int .i64 15, .string ⟨#[]⟩, .int .i64 z81, .string (bs x79)]) rfl (by kernel_rfl) (by kernel_rfl) (by kernel_rfl) (fun _ _ _ h => h) (Or.inl ⟨by rfl, fun w hSw => by (try dsimp only at hSw); go_simp⟩) hHeld ?_
      try simp only [aP, lA, lB, lC]
      refine wpAnyH_ready (rs := [9]) (by kernel_rfl) (by simp) ?_
      refine AllReadyH.cons (o := ⟨none, .store 46 (.tmp 2) (.tmp 38), 0, "rule.go:60", #[⟨8, .data⟩, ⟨7, .chain⟩, ⟨0, .phase⟩, ⟨1, .phase⟩, ⟨2, .phase⟩, ⟨3, .phase⟩, ⟨4, .phase⟩, ⟨5, .phase⟩, ⟨6, .phase⟩, ⟨7, .phase⟩, ⟨8, .phase⟩], none⟩) rfl (fun K hK => ?_) AllReadyH.nil
      obtain ⟨t0, t1, t2, t3⟩ := HM80.out.cells
      have ft := fun o => HM80.out.frz (o := o)
      have HMA := qH (HM80.out.all ⟨15, [], z81, x79⟩)
      have HKE := qH ((((HK80.out.setCell (p := ⟨R, 0, none⟩) (.inr HRW.out) (.int .i64 15)).setCell (p := ⟨R, 1, none⟩) (.inr HRW.out) (.string ⟨#[]⟩)).setCell (p := ⟨R, 2, none⟩) (.inr HRW.out) (.int .i64 z81)).setCell (p := ⟨R, 3, none⟩) (.inr HRW.out) (.string (bs x79)))
      have HTE := qH (HT80.out.put4 HRL.out (.int .i64 15) (.string ⟨#[]⟩) (.int .i64 z81) (.string (bs x79)))
      go_simp
      clear hHeld t0 t1 t2 t3 ft
      refine hK.out _ _ ⟨HKE.out, ⟨_, HMA.out⟩, ⟨_, by omega, HTE.out⟩⟩ (fun hHeld => ?_)
      try simp only [aP, lA, lB, lC]
      clear hK
      refine wpAnyH_done (by kernel_rfl) ?_ _
      clear hHeld
      go_wp2
      exact tm_end Tryz.results48 (x := ⟨15, [], z81, x79⟩) HMA.out rfl rfl ⟨_, rfl, goodT_mk 15 [] z81 x79 (by decide) Hx79.out (by decide) (by decide), ⟨_, by omega, HTE.out⟩, HKE.out⟩
    ·
     go_simp
     go_at_call 20
     refine cM (by with_reducible exact oneB [[108, 97, 110, 37, 110], [110, 101, 116, 48], [97, 47, 98], [37, 99]] 4 (by decide) (by decide) (by decide) (by decide) (by omega) HT73.out HLq60.out HBq60.out HXA.out) ?_
     rintro e V83 ⟨x82, hx82, rfl, ht, hkp⟩
     dsimp only
     have Hx82 := qH hx82
     have HK83 := qH (HK73.out.trans hkp)
     have HM83 := qH (HM73.out.kp hkp (by simp; exact HRT.out))
     have HT83 := qH ht
     have HBq60 := qH ((hkp.block _ (block_lt HBq60.out) (by have := HLq60.out; simp; omega)).trans HBq60.out)
     clear hHeld ht hkp hx82
     refine hK.out _ _ ⟨HK83.out, ⟨_, HM83.out⟩, ⟨_, by omega, HT83.out⟩⟩ (fun hHeld => ?_)
     try simp only [aP, lA, lB, lC]
     clear hK
     refine wpAnyH_ready (rs := [0]) (by kernel_rfl) (by simp) ?_
     refine AllReadyH.cons (o := ⟨some 30, .buildSlice 22 2 #[(0, .const (.int .i64 3)), (1, .const (.int .i64 6))], 22, "rule.go:60", #[], none⟩) rfl (fun K hK => ?_) AllReadyH.nil
     go_simp
     obtain ⟨V85, hV85⟩ : ∃ V, V83.alloc (.cells #[.int .i64 3, .int .i64 6] 3) = V := ⟨_, rfl⟩
     obtain ⟨q84, hq84⟩ : ∃ b, V83.heap.size = b := ⟨_, rfl⟩
     have hk85 : Kp [] V83 V85 := by rw [← hV85]; exact (Kp.refl [] _).alloc _
     have HBq84 := qH (show V85.heap[q84]? = some (.cells #[.int .i64 3, .int .i64 6] 3 (0, 0)) by rw [← hV85, ← hq84]; exact heap_alloc_last _ _)
     have HLq84 := qH (show tb < q84 by have := HT83.out.lt; omega)
     have HK85 := qH (HK83.out.upT hk85)
     have HM85 := qH (HM83.out.kp hk85 (by simp))
     have HT85 := qH (HT83.out.kp hk85 (by simp))
     have HBq60 := qH ((hk85.block _ (block_lt HBq60.out) (by simp)).trans HBq60.out)
     rw [hV85, hq84]
     clear hHeld hk85 hV85 hq84
     refine hK.out _ _ ⟨HK85.out, ⟨_, HM85.out⟩, ⟨_, by omega, HT85.out⟩⟩ (fun hHeld => ?_)
     try simp only [aP, lA, lB, lC]
     clear hK
     refine wpAnyH_take (i := 3) (oi := ⟨some 33, .indexAddr 22 (.tmp 30) (.tmp 32), 0, "rule.go:60", #[⟨0, .data⟩, ⟨2, .data⟩], none⟩) (v := .pointer (some ⟨q84, r72, none⟩)) rfl (by kernel_rfl) (by kernel_rfl) (by kernel_rfl) (fun _ _ _ h => h) (Or.inl ⟨by rfl, fun w hSw => by (try dsimp only at hSw); have hq1 : ((r72 : Nat) : Int) < 2 := (by have := Hr72.out; omega); go_simp⟩) hHeld ?_
     try simp only [aP, lA, lB, lC]
     refine wpAnyH_ready (rs := [4]) (by kernel_rfl) (by simp) ?_
     refine AllReadyH.cons (o := ⟨some 34, .load 3 (.tmp 33), 3, "rule.go:60", #[⟨3, .data⟩], none⟩) rfl (fun K hK => ?_) AllReadyH.nil
     obtain ⟨z86, hz1, hz2, hz3⟩ := ints2 Hr72.out HBq84.out
     have HZz86 := qH (And.intro hz1 hz2)
     clear hz1 hz2
     go_simp
     clear hHeld hz3
     refine hK.out _ _ ⟨HK85.out, ⟨_, HM85.out⟩, ⟨_, by omega, HT85.out⟩⟩ (fun hHeld => ?_)
     try simp only [aP, lA, lB, lC]
     clear hK
     refine wpAnyH_take (i := 8) (oi := ⟨some 38, .build 46 #[(0, .const (.int .i64 15)), (2, .tmp 34), (3, .tmp 37)], 46, "rule.go:60", #[⟨4, .data⟩, ⟨7, .data⟩], none⟩) (v := .agg #[.int .i64 15, .string ⟨#[]⟩, .int .i64 z86, .string (bs x82)]) rfl (by kernel_rfl) (by kernel_rfl) (by kernel_rfl) (fun _ _ _ h => h) (Or.inl ⟨by rfl, fun w hSw => by (try dsimp only at hSw); go_simp⟩) hHeld ?_
     try simp only [aP, lA, lB, lC]
     refine wpAnyH_ready (rs := [9]) (by kernel_rfl) (by simp) ?_
     refine AllReadyH.cons (o := ⟨none, .store 46 (.tmp 2) (.tmp 38), 0, "rule.go:60", #[⟨8, .data⟩, ⟨7, .chain⟩, ⟨0, .phase⟩, ⟨1, .phase⟩, ⟨2, .phase⟩, ⟨3, .phase⟩, ⟨4, .phase⟩, ⟨5, .phase⟩, ⟨6, .phase⟩, ⟨7, .phase⟩, ⟨8, .phase⟩], none⟩) rfl (fun K hK => ?_) AllReadyH.nil
     obtain ⟨t0, t1, t2, t3⟩ := HM85.out.cells
     have ft := fun o => HM85.out.frz (o := o)
     have HMA := qH (HM85.out.all ⟨15, [], z86, x82⟩)
     have HKE := qH ((((HK85.out.setCell (p := ⟨R, 0, none⟩) (.inr HRW.out) (.int .i64 15)).setCell (p := ⟨R, 1, none⟩) (.inr HRW.out) (.string ⟨#[]⟩)).setCell (p := ⟨R, 2, none⟩) (.inr HRW.out) (.int .i64 z86)).setCell (p := ⟨R, 3, none⟩) (.inr HRW.out) (.string (bs x82)))
     have HTE := qH (HT85.out.put4 HRL.out (.int .i64 15) (.string ⟨#[]⟩) (.int .i64 z86) (.string (bs x82)))
     go_simp
     clear hHeld t0 t1 t2 t3 ft
     refine hK.out _ _ ⟨HKE.out, ⟨_, HMA.out⟩, ⟨_, by omega, HTE.out⟩⟩ (fun hHeld => ?_)
     try simp only [aP, lA, lB, lC]
     clear hK
     refine wpAnyH_done (by kernel_rfl) ?_ _
     clear hHeld
     go_wp2
     exact tm_end Tryz.results48 (x := ⟨15, [], z86, x82⟩) HMA.out rfl rfl ⟨_, rfl, goodT_mk 15 [] z86 x82 (by decide) Hx82.out (by decide) (by decide), ⟨_, by omega, HTE.out⟩, HKE.out⟩
 ·go_wp2_with (first
   | (go_at_call 16; refine cM (by with_reducible exact nextL4 (by omega) HT.out) ?_; rintro e w4 ⟨q, hq, rfl, ht, hkp⟩; have HR := qH (HR.out.kp hkp (by simp; exact HRT.out)); obtain ⟨t0, t1, t2, t3⟩ := HR.out.cells; have ft := fun o => HR.out.frz (o := o); have HK := qH (HK.out.trans hkp); have HT := qH ht; clear ht hkp)
   | (go_at_call 20; refine cM (by with_reducible exact oneM23 (by omega) HT.out _ rfl) ?_; rintro e w6 ⟨xb, hxb, rfl, ht, hkp⟩; have HR := qH (HR.out.kp hkp (by simp; exact HRT.out)); obtain ⟨t0, t1, t2, t3⟩ := HR.out.cells; have ft := fun o => HR.out.frz (o := o); have HK := qH (HK.out.trans hkp); have HT := qH ht; clear ht hkp))
  refine tm_end Tryz.results48 (x := ⟨16, [], ((3 : Int) + q), xb⟩) (HR.out.all ⟨16, [], ((3 : Int) + q), xb⟩) rfl rfl ⟨_, rfl, goodT_mk 16 [] ((3 : Int) + q) xb (by decide) hxb (by decide) (by decide), ⟨_, by omega, HT.out.put4 HRL.out _ _ _ _⟩, (((HK.out.setCell (.inr HRW.out) _).setCell (.inr HRW.out) _).setCell (.inr HRW.out) _).setCell (.inr HRW.out) _⟩
 ·go_wp2_with (first
   | (go_at_call 16; refine cM (by with_reducible exact nextL4 (by omega) HT.out) ?_; rintro e w4 ⟨q, hq, rfl, ht, hkp⟩; have HR := qH (HR.out.kp hkp (by simp; exact HRT.out)); obtain ⟨t0, t1, t2, t3⟩ := HR.out.cells; have ft := fun o => HR.out.frz (o := o); have HK := qH (HK.out.trans hkp); have HT := qH ht; clear ht hkp)
   | (go_at_call 20; refine cM (by with_reducible exact oneM23 (by omega) HT.out _ rfl) ?_; rintro e w6 ⟨xb, hxb, rfl, ht, hkp⟩; have HR := qH (HR.out.kp hkp (by simp; exact HRT.out)); obtain ⟨t0, t1, t2, t3⟩ := HR.out.cells; have ft := fun o => HR.out.frz (o := o); have HK := qH (HK.out.trans hkp); have HT := qH ht; clear ht hkp))
  refine tm_end Tryz.results48 (x := ⟨16, [], ((3 : Int) + q), xb⟩) (HR.out.all ⟨16, [], ((3 : Int) + q), xb⟩) rfl rfl ⟨_, rfl, goodT_mk 16 [] ((3 : Int) + q) xb (by decide) hxb (by decide) (by decide), ⟨_, by omega, HT.out.put4 HRL.out _ _ _ _⟩, (((HK.out.setCell (.inr HRW.out) _).setCell (.inr HRW.out) _).setCell (.inr HRW.out) _).setCell (.inr HRW.out) _⟩
 ·go_wp2_with (first
   | (go_at_call 16; refine cM (by with_reducible exact nextL4 (by omega) HT.out) ?_; rintro e w4 ⟨q, hq, rfl, ht, hkp⟩; have HR := qH (HR.out.kp hkp (by simp; exact HRT.out)); obtain ⟨t0, t1, t2, t3⟩ := HR.out.cells; have ft := fun o => HR.out.frz (o := o); have HK := qH (HK.out.trans hkp); have HT := qH ht; clear ht hkp)
   | (go_at_call 20; refine cM (by with_reducible exact oneM23 (by omega) HT.out _ rfl) ?_; rintro e w6 ⟨xb, hxb, rfl, ht, hkp⟩; have HR := qH (HR.out.kp hkp (by simp; exact HRT.out)); obtain ⟨t0, t1, t2, t3⟩ := HR.out.cells; have ft := fun o => HR.out.frz (o := o); have HK := qH (HK.out.trans hkp); have HT := qH ht; clear ht hkp))
  refine tm_end Tryz.results48 (x := ⟨16, [], ((3 : Int) + q), xb⟩) (HR.out.all ⟨16, [], ((3 : Int) + q), xb⟩) rfl rfl ⟨_, rfl, goodT_mk 16 [] ((3 : Int) + q) xb (by decide) hxb (by decide) (by decide), ⟨_, by omega, HT.out.put4 HRL.out _ _ _ _⟩, (((HK.out.setCell (.inr HRW.out) _).setCell (.inr HRW.out) _).setCell (.inr HRW.out) _).setCell (.inr HRW.out) _⟩
 ·go_wp2_with (first
   | (go_at_call 16; refine cM (by with_reducible exact nextL2 (by omega) HT.out) ?_; rintro e w4 ⟨q, hq, rfl, ht, hkp⟩; have HR := qH (HR.out.kp hkp (by simp; exact HRT.out)); obtain ⟨t0, t1, t2, t3⟩ := HR.out.cells; have ft := fun o => HR.out.frz (o := o); have HK := qH (HK.out.trans hkp); have HT := qH ht; clear ht hkp)
   | (go_at_call 20; refine cM (by with_reducible exact oneM24 (by omega) HT.out _ rfl) ?_; rintro e w6 ⟨xb, hxb, rfl, ht, hkp⟩; have HR := qH (HR.out.kp hkp (by simp; exact HRT.out)); obtain ⟨t0, t1, t2, t3⟩ := HR.out.cells; have ft := fun o => HR.out.frz (o := o); have HK := qH (HK.out.trans hkp); have HT := qH ht; clear ht hkp))
  refine tm_end Tryz.results48 (x := ⟨((17 : Int) + q), [], 3, xb⟩) (HR.out.all ⟨((17 : Int) + q), [], 3, xb⟩) rfl rfl ⟨_, rfl, goodT_mk ((17 : Int) + q) [] 3 xb (by decide) hxb (by omega) (by omega), ⟨_, by omega, HT.out.put4 HRL.out _ _ _ _⟩, (((HK.out.setCell (.inr HRW.out) _).setCell (.inr HRW.out) _).setCell (.inr HRW.out) _).setCell (.inr HRW.out) _⟩
 ·go_upto_region 17 with fail
  have HXA := qH (show (#[.string ⟨#[48, 54, 54, 48]⟩, .string ⟨#[54, 54, 54]⟩, .string ⟨#[57]⟩, .string ⟨#[36, 114, 101, 115, 117, 108, 116]⟩] : Array Value) = ([[48, 54, 54, 48], [54, 54, 54], [57], [36, 114, 101, 115, 117, 108, 116]].map fun x => Value.string (bs x)).toArray from rfl)
  obtain ⟨V0, hV0⟩ : ∃ V, w3.drew = V := ⟨_, rfl⟩
  have hkd : Kp [] w3 V0 := by rw [← hV0]; exact (Kp.refl [] _).drew 1
  have HK0 := qH (HK.out.upT hkd)
  have HM0 := qH (HR.out.kp hkd (by simp))
  have HT0 := qH (HT.out.kp hkd (by simp))
  clear t0 t1 t2 t3 ft hkd
  refine wp_region_held_drew (S := fun W => Kp [tb] w W ∧ (∃ m, MAt W R m) ∧ Tq W tb (k + 10)) (by kernel_rfl) (by rw [hV0]; exact ⟨HK0.out, ⟨_, HM0.out⟩, ⟨_, by omega, HT0.out⟩⟩) (fun hHeld => ?_)
  rw [hV0] at hHeld ⊢
  clear hV0
  refine wpAnyH_take (i := 1) (oi := ⟨some 62, .move (.tmp 0), 25, "rule.go:66", #[], none⟩) (v := .pointer (some ⟨tb, 0, none⟩)) rfl (by kernel_rfl) (by kernel_rfl) (by kernel_rfl) (fun _ _ _ h => h) (Or.inl ⟨by rfl, fun w hSw => by (try dsimp only at hSw); go_simp⟩) hHeld ?_
  try simp only [aP, lA, lB, lC]
  refine wpAnyH_take (i := 5) (oi := ⟨some 66, .move (.tmp 0), 25, "rule.go:66", #[], none⟩) (v := .pointer (some ⟨tb, 0, none⟩)) rfl (by kernel_rfl) (by kernel_rfl) (by kernel_rfl) (fun _ _ _ h => h) (Or.inl ⟨by rfl, fun w hSw => by (try dsimp only at hSw); go_simp⟩) hHeld ?_
  try simp only [aP, lA, lB, lC]
  refine wpAnyH_ready (rs := [0, 2, 6]) (by kernel_rfl) (by simp) ?_
  refine AllReadyH.cons (o := ⟨some 61, .buildSlice 22 2 #[(0, .const (.int .i64 3)), (1, .const (.int .i64 6))], 22, "rule.go:66", #[], none⟩) rfl (fun K hK => ?_) (AllReadyH.cons (o := ⟨some 63, .call { callee := .value (.func 16), args := #[.tmp 62, .const (.int .i64 2)], argTypes := #[25, 3] }, 3, "rule.go:66", #[⟨1, .data⟩], none⟩) rfl (fun K hK => ?_) (AllReadyH.cons (o := ⟨some 67, .buildSlice 52 4 #[(0, .const (.string { data := #[48, 54, 54, 48] })), (1, .const (.string { data := #[54, 54, 54] })), (2, .const (.string { data := #[57] })), (3, .const (.string { data := #[36, 114, 101, 115, 117, 108, 116] }))], 52, "rule.go:66", #[], none⟩) rfl (fun K hK => ?_) AllReadyH.nil))
  ·
   go_simp
   obtain ⟨V2, hV2⟩ : ∃ V, V0.alloc (.cells #[.int .i64 3, .int .i64 6] 3) = V := ⟨_, rfl⟩
   obtain ⟨q1, hq1⟩ : ∃ b, V0.heap.size = b := ⟨_, rfl⟩
   have hk2 : Kp [] V0 V2 := by rw [← hV2]; exact (Kp.refl [] _).alloc _
   have HBq1 := qH (show V2.heap[q1]? = some (.cells #[.int .i64 3, .int .i64 6] 3 (0, 0)) by rw [← hV2, ← hq1]; exact heap_alloc_last _ _)
   have HLq1 := qH (show tb < q1 by have := HT0.out.lt; omega)
   have HK2 := qH (HK0.out.upT hk2)
   have HM2 := qH (HM0.out.kp hk2 (by simp))
   have HT2 := qH (HT0.out.kp hk2 (by simp))
   rw [hV2, hq1]
   clear hHeld hk2 hV2 hq1
   refine hK.out _ _ ⟨HK2.out, ⟨_, HM2.out⟩, ⟨_, by omega, HT2.out⟩⟩ (fun hHeld => ?_)
   try simp only [aP, lA, lB, lC]
   clear hK
   refine wpAnyH_ready (rs := [2, 6]) (by kernel_rfl) (by simp) ?_
   refine AllReadyH.cons (o := ⟨some 63, .call { callee := .value (.func 16), args := #[.tmp 62, .const (.int .i64 2)], argTypes := #[25, 3] }, 3, "rule.go:66", #[⟨1, .data⟩], none⟩) rfl (fun K hK => ?_) (AllReadyH.cons (o := ⟨some 67, .buildSlice 52 4 #[(0, .const (.string { data := #[48, 54, 54, 48] })), (1, .const (.string { data := #[54, 54, 54] })), (2, .const (.string { data := #[57] })), (3, .const (.string { data := #[36, 114, 101, 115, 117, 108, 116] }))], 52, "rule.go:66", #[], none⟩) rfl (fun K hK => ?_) AllReadyH.nil)
   ·
    go_simp
    go_at_call 16
    refine cM (by with_reducible exact nextL2 (by omega) HT2.out) ?_
    rintro e V4 ⟨r3, hr3, rfl, ht, hkp⟩
    dsimp only
    have Hr3 := qH hr3
    have HK4 := qH (HK2.out.trans hkp)
    have HM4 := qH (HM2.out.kp hkp (by simp; exact HRT.out))
    have HT4 := qH ht
    have HBq1 := qH ((hkp.block _ (block_lt HBq1.out) (by have := HLq1.out; simp; omega)).trans HBq1.out)
    clear hHeld ht hkp hr3
    refine hK.out _ _ ⟨HK4.out, ⟨_, HM4.out⟩, ⟨_, by omega, HT4.out⟩⟩ (fun hHeld => ?_)
    try simp only [aP, lA, lB, lC]
    clear hK
    refine wpAnyH_take (i := 3) (oi := ⟨some 64, .indexAddr 22 (.tmp 61) (.tmp 63), 0, "rule.go:66", #[⟨0, .data⟩, ⟨2, .data⟩], none⟩) (v := .pointer (some ⟨q1, r3, none⟩)) rfl (by kernel_rfl) (by kernel_rfl) (by kernel_rfl) (fun _ _ _ h => h) (Or.inl ⟨by rfl, fun w hSw => by (try dsimp only at hSw); have hq1 : ((r3 : Nat) : Int) < 2 := (by have := Hr3.out; omega); go_simp⟩) hHeld ?_
    try simp only [aP, lA, lB, lC]
    refine wpAnyH_ready (rs := [4, 6]) (by kernel_rfl) (by simp) ?_
    refine AllReadyH.cons (o := ⟨some 65, .load 3 (.tmp 64), 3, "rule.go:66", #[⟨3, .data⟩], none⟩) rfl (fun K hK => ?_) (AllReadyH.cons (o := ⟨some 67, .buildSlice 52 4 #[(0, .const (.string { data := #[48, 54, 54, 48] })), (1, .const (.string { data := #[54, 54, 54] })), (2, .const (.string { data := #[57] })), (3, .const (.string { data := #[36, 114, 101, 115, 117, 108, 116] }))], 52, "rule.go:66", #[], none⟩) rfl (fun K hK => ?_) AllReadyH.nil)
    ·
     obtain ⟨z5, hz1, hz2, hz3⟩ := ints2 Hr3.out HBq1.out
     have HZz5 := qH (And.intro hz1 hz2)
     clear hz1 hz2
     go_simp
     clear hHeld hz3
     refine hK.out _ _ ⟨HK4.out, ⟨_, HM4.out⟩, ⟨_, by omega, HT4.out⟩⟩ (fun hHeld => ?_)
     try simp only [aP, lA, lB, lC]
     clear hK
     refine wpAnyH_ready (rs := [6]) (by kernel_rfl) (by simp) ?_
     refine AllReadyH.cons (o := ⟨some 67, .buildSlice 52 4 #[(0, .const (.string { data := #[48, 54, 54, 48] })), (1, .const (.string { data := #[54, 54, 54] })), (2, .const (.string { data := #[57] })), (3, .const (.string { data := #[36, 114, 101, 115, 117, 108, 116] }))], 52, "rule.go:66", #[], none⟩) rfl (fun K hK => ?_) AllReadyH.nil
     go_simp
     obtain ⟨V7, hV7⟩ : ∃ V, V4.alloc (.cells #[.string ⟨#[48, 54, 54, 48]⟩, .string ⟨#[54, 54, 54]⟩, .string ⟨#[57]⟩, .string ⟨#[36, 114, 101, 115, 117, 108, 116]⟩] 9) = V := ⟨_, rfl⟩
     obtain ⟨q6, hq6⟩ : ∃ b, V4.heap.size = b := ⟨_, rfl⟩
     have hk7 : Kp [] V4 V7 := by rw [← hV7]; exact (Kp.refl [] _).alloc _
     have HBq6 := qH (show V7.heap[q6]? = some (.cells #[.string ⟨#[48, 54, 54, 48]⟩, .string ⟨#[54, 54, 54]⟩, .string ⟨#[57]⟩, .string ⟨#[36, 114, 101, 115, 117, 108, 116]⟩] 9 (0, 0)) by rw [← hV7, ← hq6]; exact heap_alloc_last _ _)
     have HLq6 := qH (show tb < q6 by have := HT4.out.lt; omega)
     have HK7 := qH (HK4.out.upT hk7)
     have HM7 := qH (HM4.out.kp hk7 (by simp))
     have HT7 := qH (HT4.out.kp hk7 (by simp))
     have HBq1 := qH ((hk7.block _ (block_lt HBq1.out) (by simp)).trans HBq1.out)
     rw [hV7, hq6]
     clear hHeld hk7 hV7 hq6
     refine hK.out _ _ ⟨HK7.out, ⟨_, HM7.out⟩, ⟨_, by omega, HT7.out⟩⟩ (fun hHeld => ?_)
     try simp only [aP, lA, lB, lC]
     clear hK
     refine wpAnyH_ready (rs := [7]) (by kernel_rfl) (by simp) ?_
     refine AllReadyH.cons (o := ⟨some 68, .call { callee := .value (.func 20), args := #[.tmp 66, .tmp 67], argTypes := #[25, 52] }, 9, "rule.go:66", #[⟨5, .data⟩, ⟨6, .data⟩, ⟨2, .chain⟩], none⟩) rfl (fun K hK => ?_) AllReadyH.nil
     go_simp
     go_at_call 20
     refine cM (by with_reducible exact oneB [[48, 54, 54, 48], [54, 54, 54], [57], [36, 114, 101, 115, 117, 108, 116]] 4 (by decide) (by decide) (by decide) (by decide) (by omega) HT7.out HLq6.out HBq6.out HXA.out) ?_
     rintro e V9 ⟨x8, hx8, rfl, ht, hkp⟩
     dsimp only
     have Hx8 := qH hx8
     have HK9 := qH (HK7.out.trans hkp)
     have HM9 := qH (HM7.out.kp hkp (by simp; exact HRT.out))
     have HT9 := qH ht
     have HBq1 := qH ((hkp.block _ (block_lt HBq1.out) (by have := HLq1.out; simp; omega)).trans HBq1.out)
     have HBq6 := qH ((hkp.block _ (block_lt HBq6.out) (by have := HLq6.out; simp; omega)).trans HBq6.out)
     clear hHeld ht hkp hx8
     refine hK.out _ _ ⟨HK9.out, ⟨_, HM9.out⟩, ⟨_, by omega, HT9.out⟩⟩ (fun hHeld => ?_)
     try simp only [aP, lA, lB, lC]
     clear hK
     refine wpAnyH_take (i := 8) (oi := ⟨some 69, .build 46 #[(0, .const (.int .i64 19)), (2, .tmp 65), (3, .tmp 68)], 46, "rule.go:66", #[⟨4, .data⟩, ⟨7, .data⟩], none⟩) (v := .agg #[.int .i64 19, .string ⟨#[]⟩, .int .i64 z5, .string (bs x8)]) rfl (by kernel_rfl) (by kernel_rfl) (by kernel_rfl) (fun _ _ _ h => h) (Or.inl ⟨by rfl, fun w hSw => by (try dsimp only at hSw); go_simp⟩) hHeld ?_
     try simp only [aP, lA, lB, lC]
     refine wpAnyH_ready (rs := [9]) (by kernel_rfl) (by simp) ?_
     refine AllReadyH.cons (o := ⟨none, .store 46 (.tmp 2) (.tmp 69), 0, "rule.go:66", #[⟨8, .data⟩, ⟨7, .chain⟩, ⟨0, .phase⟩, ⟨1, .phase⟩, ⟨2, .phase⟩, ⟨3, .phase⟩, ⟨4, .phase⟩, ⟨5, .phase⟩, ⟨6, .phase⟩, ⟨7, .phase⟩, ⟨8, .phase⟩], none⟩) rfl (fun K hK => ?_) AllReadyH.nil
     obtain ⟨t0, t1, t2, t3⟩ := HM9.out.cells
     have ft := fun o => HM9.out.frz (o := o)
     have HMA := qH (HM9.out.all ⟨19, [], z5, x8⟩)
     have HKE := qH ((((HK9.out.setCell (p := ⟨R, 0, none⟩) (.inr HRW.out) (.int .i64 19)).setCell (p := ⟨R, 1, none⟩) (.inr HRW.out) (.string ⟨#[]⟩)).setCell (p := ⟨R, 2, none⟩) (.inr HRW.out) (.int .i64 z5)).setCell (p := ⟨R, 3, none⟩) (.inr HRW.out) (.string (bs x8)))
     have HTE := qH (HT9.out.put4 HRL.out (.int .i64 19) (.string ⟨#[]⟩) (.int .i64 z5) (.string (bs x8)))
     go_simp
     clear hHeld t0 t1 t2 t3 ft
     refine hK.out _ _ ⟨HKE.out, ⟨_, HMA.out⟩, ⟨_, by omega, HTE.out⟩⟩ (fun hHeld => ?_)
     try simp only [aP, lA, lB, lC]
     clear hK
     refine wpAnyH_done (by kernel_rfl) ?_ _
     clear hHeld
     go_wp2
     exact tm_end Tryz.results48 (x := ⟨19, [], z5, x8⟩) HMA.out rfl rfl ⟨_, rfl, goodT_mk 19 [] z5 x8 (by decide) Hx8.out (by decide) (by decide), ⟨_, by omega, HTE.out⟩, HKE.out⟩
    ·
     go_simp
     obtain ⟨V11, hV11⟩ : ∃ V, V4.alloc (.cells #[.string ⟨#[48, 54, 54, 48]⟩, .string ⟨#[54, 54, 54]⟩, .string ⟨#[57]⟩, .string ⟨#[36, 114, 101, 115, 117, 108, 116]⟩] 9) = V := ⟨_, rfl⟩
     obtain ⟨q10, hq10⟩ : ∃ b, V4.heap.size = b := ⟨_, rfl⟩
     have hk11 : Kp [] V4 V11 := by rw [← hV11]; exact (Kp.refl [] _).alloc _
     have HBq10 := qH (show V11.heap[q10]? = some (.cells #[.string ⟨#[48, 54, 54, 48]⟩, .string ⟨#[54, 54, 54]⟩, .string ⟨#[57]⟩, .string ⟨#[36, 114, 101, 115, 117, 108, 116]⟩] 9 (0, 0)) by rw [← hV11, ← hq10]; exact heap_alloc_last _ _)
     have HLq10 := qH (show tb < q10 by have := HT4.out.lt; omega)
     have HK11 := qH (HK4.out.upT hk11)
     have HM11 := qH (HM4.out.kp hk11 (by simp))
     have HT11 := qH (HT4.out.kp hk11 (by simp))
     have HBq1 := qH ((hk11.block _ (block_lt HBq1.out) (by simp)).trans HBq1.out)
     rw [hV11, hq10]
     clear hHeld hk11 hV11 hq10
     refine hK.out _ _ ⟨HK11.out, ⟨_, HM11.out⟩, ⟨_, by omega, HT11.out⟩⟩ (fun hHeld => ?_)
     try simp only [aP, lA, lB, lC]
     clear hK
     refine wpAnyH_ready (rs := [4, 7]) (by kernel_rfl) (by simp) ?_
     refine AllReadyH.cons (o := ⟨some 65, .load 3 (.tmp 64), 3, "rule.go:66", #[⟨3, .data⟩], none⟩) rfl (fun K hK => ?_) (AllReadyH.cons (o := ⟨some 68, .call { callee := .value (.func 20), args := #[.tmp 66, .tmp 67], argTypes := #[25, 52] }, 9, "rule.go:66", #[⟨5, .data⟩, ⟨6, .data⟩, ⟨2, .chain⟩], none⟩) rfl (fun K hK => ?_) AllReadyH.nil)
     ·
      obtain ⟨z12, hz1, hz2, hz3⟩ := ints2 Hr3.out HBq1.out
      have HZz12 := qH (And.intro hz1 hz2)
      clear hz1 hz2
      go_simp
      clear hHeld hz3
      refine hK.out _ _ ⟨HK11.out, ⟨_, HM11.out⟩, ⟨_, by omega, HT11.out⟩⟩ (fun hHeld => ?_)
      try simp only [aP, lA, lB, lC]
      clear hK
      refine wpAnyH_ready (rs := [7]) (by kernel_rfl) (by simp) ?_
      refine AllReadyH.cons (o := ⟨some 68, .call { callee := .value (.func 20), args := #[.tmp 66, .tmp 67], argTypes := #[25, 52] }, 9, "rule.go:66", #[⟨5, .data⟩, ⟨6, .data⟩, ⟨2, .chain⟩], none⟩) rfl (fun K hK => ?_) AllReadyH.nil
      go_simp
      go_at_call 20
      refine cM (by with_reducible exact oneB [[48, 54, 54, 48], [54, 54, 54], [57], [36, 114, 101, 115, 117, 108, 116]] 4 (by decide) (by decide) (by decide) (by decide) (by omega) HT11.out HLq10.out HBq10.out HXA.out) ?_
      rintro e V14 ⟨x13, hx13, rfl, ht, hkp⟩
      dsimp only
      have Hx13 := qH hx13
      have HK14 := qH (HK11.out.trans hkp)
      have HM14 := qH (HM11.out.kp hkp (by simp; exact HRT.out))
      have HT14 := qH ht
      have HBq1 := qH ((hkp.block _ (block_lt HBq1.out) (by have := HLq1.out; simp; omega)).trans HBq1.out)
      have HBq10 := qH ((hkp.block _ (block_lt HBq10.out) (by have := HLq10.out; simp; omega)).trans HBq10.out)
      clear hHeld ht hkp hx13
      refine hK.out _ _ ⟨HK14.out, ⟨_, HM14.out⟩, ⟨_, by omega, HT14.out⟩⟩ (fun hHeld => ?_)
      try simp only [aP, lA, lB, lC]
      clear hK
      refine wpAnyH_take (i := 8) (oi := ⟨some 69, .build 46 #[(0, .const (.int .i64 19)), (2, .tmp 65), (3, .tmp 68)], 46, "rule.go:66", #[⟨4, .data⟩, ⟨7, .data⟩], none⟩) (v := .agg #[.int .i64 19, .string ⟨#[]⟩, .int .i64 z12, .string (bs x13)]) rfl (by kernel_rfl) (by kernel_rfl) (by kernel_rfl) (fun _ _ _ h => h) (Or.inl ⟨by rfl, fun w hSw => by (try dsimp only at hSw); go_simp⟩) hHeld ?_
      try simp only [aP, lA, lB, lC]
      refine wpAnyH_ready (rs := [9]) (by kernel_rfl) (by simp) ?_
      refine AllReadyH.cons (o := ⟨none, .store 46 (.tmp 2) (.tmp 69), 0, "rule.go:66", #[⟨8, .data⟩, ⟨7, .chain⟩, ⟨0, .phase⟩, ⟨1, .phase⟩, ⟨2, .phase⟩, ⟨3, .phase⟩, ⟨4, .phase⟩, ⟨5, .phase⟩, ⟨6, .phase⟩, ⟨7, .phase⟩, ⟨8, .phase⟩], none⟩) rfl (fun K hK => ?_) AllReadyH.nil
      obtain ⟨t0, t1, t2, t3⟩ := HM14.out.cells
      have ft := fun o => HM14.out.frz (o := o)
      have HMA := qH (HM14.out.all ⟨19, [], z12, x13⟩)
      have HKE := qH ((((HK14.out.setCell (p := ⟨R, 0, none⟩) (.inr HRW.out) (.int .i64 19)).setCell (p := ⟨R, 1, none⟩) (.inr HRW.out) (.string ⟨#[]⟩)).setCell (p := ⟨R, 2, none⟩) (.inr HRW.out) (.int .i64 z12)).setCell (p := ⟨R, 3, none⟩) (.inr HRW.out) (.string (bs x13)))
      have HTE := qH (HT14.out.put4 HRL.out (.int .i64 19) (.string ⟨#[]⟩) (.int .i64 z12) (.string (bs x13)))
      go_simp
      clear hHeld t0 t1 t2 t3 ft
      refine hK.out _ _ ⟨HKE.out, ⟨_, HMA.out⟩, ⟨_, by omega, HTE.out⟩⟩ (fun hHeld => ?_)
      try simp only [aP, lA, lB, lC]
      clear hK
      refine wpAnyH_done (by kernel_rfl) ?_ _
      clear hHeld
      go_wp2
      exact tm_end Tryz.results48 (x := ⟨19, [], z12, x13⟩) HMA.out rfl rfl ⟨_, rfl, goodT_mk 19 [] z12 x13 (by decide) Hx13.out (by decide) (by decide), ⟨_, by omega, HTE.out⟩, HKE.out⟩
     ·
      go_simp
      go_at_call 20
      refine cM (by with_reducible exact oneB [[48, 54, 54, 48], [54, 54, 54], [57], [36, 114, 101, 115, 117, 108, 116]] 4 (by decide) (by decide) (by decide) (by decide) (by omega) HT11.out HLq10.out HBq10.out HXA.out) ?_
      rintro e V16 ⟨x15, hx15, rfl, ht, hkp⟩
      dsimp only
      have Hx15 := qH hx15
      have HK16 := qH (HK11.out.trans hkp)
      have HM16 := qH (HM11.out.kp hkp (by simp; exact HRT.out))
      have HT16 := qH ht
      have HBq1 := qH ((hkp.block _ (block_lt HBq1.out) (by have := HLq1.out; simp; omega)).trans HBq1.out)
      have HBq10 := qH ((hkp.block _ (block_lt HBq10.out) (by have := HLq10.out; simp; omega)).trans HBq10.out)
      clear hHeld ht hkp hx15
      refine hK.out _ _ ⟨HK16.out, ⟨_, HM16.out⟩, ⟨_, by omega, HT16.out⟩⟩ (fun hHeld => ?_)
      try simp only [aP, lA, lB, lC]
      clear hK
      refine wpAnyH_ready (rs := [4]) (by kernel_rfl) (by simp) ?_
      refine AllReadyH.cons (o := ⟨some 65, .load 3 (.tmp 64), 3, "rule.go:66", #[⟨3, .data⟩], none⟩) rfl (fun K hK => ?_) AllReadyH.nil
      obtain ⟨z17, hz1, hz2, hz3⟩ := ints2 Hr3.out HBq1.out
      have HZz17 := qH (And.intro hz1 hz2)
      clear hz1 hz2
      go_simp
      clear hHeld hz3
      refine hK.out _ _ ⟨HK16.out, ⟨_, HM16.out⟩, ⟨_, by omega, HT16.out⟩⟩ (fun hHeld => ?_)
      try simp only [aP, lA, lB, lC]
      clear hK
      refine wpAnyH_take (i := 8) (oi := ⟨some 69, .build 46 #[(0, .const (.int .i64 19)), (2, .tmp 65), (3, .tmp 68)], 46, "rule.go:66", #[⟨4, .data⟩, ⟨7, .data⟩], none⟩) (v := .agg #[.int .i64 19, .string ⟨#[]⟩, .int .i64 z17, .string (bs x15)]) rfl (by kernel_rfl) (by kernel_rfl) (by kernel_rfl) (fun _ _ _ h => h) (Or.inl ⟨by rfl, fun w hSw => by (try dsimp only at hSw); go_simp⟩) hHeld ?_
      try simp only [aP, lA, lB, lC]
      refine wpAnyH_ready (rs := [9]) (by kernel_rfl) (by simp) ?_
      refine AllReadyH.cons (o := ⟨none, .store 46 (.tmp 2) (.tmp 69), 0, "rule.go:66", #[⟨8, .data⟩, ⟨7, .chain⟩, ⟨0, .phase⟩, ⟨1, .phase⟩, ⟨2, .phase⟩, ⟨3, .phase⟩, ⟨4, .phase⟩, ⟨5, .phase⟩, ⟨6, .phase⟩, ⟨7, .phase⟩, ⟨8, .phase⟩], none⟩) rfl (fun K hK => ?_) AllReadyH.nil
      obtain ⟨t0, t1, t2, t3⟩ := HM16.out.cells
      have ft := fun o => HM16.out.frz (o := o)
      have HMA := qH (HM16.out.all ⟨19, [], z17, x15⟩)
      have HKE := qH ((((HK16.out.setCell (p := ⟨R, 0, none⟩) (.inr HRW.out) (.int .i64 19)).setCell (p := ⟨R, 1, none⟩) (.inr HRW.out) (.string ⟨#[]⟩)).setCell (p := ⟨R, 2, none⟩) (.inr HRW.out) (.int .i64 z17)).setCell (p := ⟨R, 3, none⟩) (.inr HRW.out) (.string (bs x15)))
      have HTE := qH (HT16.out.put4 HRL.out (.int .i64 19) (.string ⟨#[]⟩) (.int .i64 z17) (.string (bs x15)))
      go_simp
      clear hHeld t0 t1 t2 t3 ft
      refine hK.out _ _ ⟨HKE.out, ⟨_, HMA.out⟩, ⟨_, by omega, HTE.out⟩⟩ (fun hHeld => ?_)
      try simp only [aP, lA, lB, lC]
      clear hK
      refine wpAnyH_done (by kernel_rfl) ?_ _
      clear hHeld
      go_wp2
      exact tm_end Tryz.results48 (x := ⟨19, [], z17, x15⟩) HMA.out rfl rfl ⟨_, rfl, goodT_mk 19 [] z17 x15 (by decide) Hx15.out (by decide) (by decide), ⟨_, by omega, HTE.out⟩, HKE.out⟩
   ·
    go_simp
    obtain ⟨V19, hV19⟩ : ∃ V, V2.alloc (.cells #[.string ⟨#[48, 54, 54, 48]⟩, .string ⟨#[54, 54, 54]⟩, .string ⟨#[57]⟩, .string ⟨#[36, 114, 101, 115, 117, 108, 116]⟩] 9) = V := ⟨_, rfl⟩
    obtain ⟨q18, hq18⟩ : ∃ b, V2.heap.size = b := ⟨_, rfl⟩
    have hk19 : Kp [] V2 V19 := by rw [← hV19]; exact (Kp.refl [] _).alloc _
    have HBq18 := qH (show V19.heap[q18]? = some (.cells #[.string ⟨#[48, 54, 54, 48]⟩, .string ⟨#[54, 54, 54]⟩, .string ⟨#[57]⟩, .string ⟨#[36, 114, 101, 115, 117, 108, 116]⟩] 9 (0, 0)) by rw [← hV19, ← hq18]; exact heap_alloc_last _ _)
    have HLq18 := qH (show tb < q18 by have := HT2.out.lt; omega)
    have HK19 := qH (HK2.out.upT hk19)
    have HM19 := qH (HM2.out.kp hk19 (by simp))
    have HT19 := qH (HT2.out.kp hk19 (by simp))
    have HBq1 := qH ((hk19.block _ (block_lt HBq1.out) (by simp)).trans HBq1.out)
    rw [hV19, hq18]
    clear hHeld hk19 hV19 hq18
    refine hK.out _ _ ⟨HK19.out, ⟨_, HM19.out⟩, ⟨_, by omega, HT19.out⟩⟩ (fun hHeld => ?_)
    try simp only [aP, lA, lB, lC]
    clear hK
    refine wpAnyH_ready (rs := [2]) (by kernel_rfl) (by simp) ?_
    refine AllReadyH.cons (o := ⟨some 63, .call { callee := .value (.func 16), args := #[.tmp 62, .const (.int .i64 2)], argTypes := #[25, 3] }, 3, "rule.go:66", #[⟨1, .data⟩], none⟩) rfl (fun K hK => ?_) AllReadyH.nil
    go_simp
    go_at_call 16
    refine cM (by with_reducible exact nextL2 (by omega) HT19.out) ?_
    rintro e V21 ⟨r20, hr20, rfl, ht, hkp⟩
    dsimp only
    have Hr20 := qH hr20
    have HK21 := qH (HK19.out.trans hkp)
    have HM21 := qH (HM19.out.kp hkp (by simp; exact HRT.out))
    have HT21 := qH ht
    have HBq1 := qH ((hkp.block _ (block_lt HBq1.out) (by have := HLq1.out; simp; omega)).trans HBq1.out)
    have HBq18 := qH ((hkp.block _ (block_lt HBq18.out) (by have := HLq18.out; simp; omega)).trans HBq18.out)
    clear hHeld ht hkp hr20
    refine hK.out _ _ ⟨HK21.out, ⟨_, HM21.out⟩, ⟨_, by omega, HT21.out⟩⟩ (fun hHeld => ?_)
    try simp only [aP, lA, lB, lC]
    clear hK
    refine wpAnyH_take (i := 3) (oi := ⟨some 64, .indexAddr 22 (.tmp 61) (.tmp 63), 0, "rule.go:66", #[⟨0, .data⟩, ⟨2, .data⟩], none⟩) (v := .pointer (some ⟨q1, r20, none⟩)) rfl (by kernel_rfl) (by kernel_rfl) (by kernel_rfl) (fun _ _ _ h => h) (Or.inl ⟨by rfl, fun w hSw => by (try dsimp only at hSw); have hq1 : ((r20 : Nat) : Int) < 2 := (by have := Hr20.out; omega); go_simp⟩) hHeld ?_
    try simp only [aP, lA, lB, lC]
    refine wpAnyH_ready (rs := [4, 7]) (by kernel_rfl) (by simp) ?_
    refine AllReadyH.cons (o := ⟨some 65, .load 3 (.tmp 64), 3, "rule.go:66", #[⟨3, .data⟩], none⟩) rfl (fun K hK => ?_) (AllReadyH.cons (o := ⟨some 68, .call { callee := .value (.func 20), args := #[.tmp 66, .tmp 67], argTypes := #[25, 52] }, 9, "rule.go:66", #[⟨5, .data⟩, ⟨6, .data⟩, ⟨2, .chain⟩], none⟩) rfl (fun K hK => ?_) AllReadyH.nil)
    ·
     obtain ⟨z22, hz1, hz2, hz3⟩ := ints2 Hr20.out HBq1.out
     have HZz22 := qH (And.intro hz1 hz2)
     clear hz1 hz2
     go_simp
     clear hHeld hz3
     refine hK.out _ _ ⟨HK21.out, ⟨_, HM21.out⟩, ⟨_, by omega, HT21.out⟩⟩ (fun hHeld => ?_)
     try simp only [aP, lA, lB, lC]
     clear hK
     refine wpAnyH_ready (rs := [7]) (by kernel_rfl) (by simp) ?_
     refine AllReadyH.cons (o := ⟨some 68, .call { callee := .value (.func 20), args := #[.tmp 66, .tmp 67], argTypes := #[25, 52] }, 9, "rule.go:66", #[⟨5, .data⟩, ⟨6, .data⟩, ⟨2, .chain⟩], none⟩) rfl (fun K hK => ?_) AllReadyH.nil
     go_simp
     go_at_call 20
     refine cM (by with_reducible exact oneB [[48, 54, 54, 48], [54, 54, 54], [57], [36, 114, 101, 115, 117, 108, 116]] 4 (by decide) (by decide) (by decide) (by decide) (by omega) HT21.out HLq18.out HBq18.out HXA.out) ?_
     rintro e V24 ⟨x23, hx23, rfl, ht, hkp⟩
     dsimp only
     have Hx23 := qH hx23
     have HK24 := qH (HK21.out.trans hkp)
     have HM24 := qH (HM21.out.kp hkp (by simp; exact HRT.out))
     have HT24 := qH ht
     have HBq1 := qH ((hkp.block _ (block_lt HBq1.out) (by have := HLq1.out; simp; omega)).trans HBq1.out)
     have HBq18 := qH ((hkp.block _ (block_lt HBq18.out) (by have := HLq18.out; simp; omega)).trans HBq18.out)
     clear hHeld ht hkp hx23
     refine hK.out _ _ ⟨HK24.out, ⟨_, HM24.out⟩, ⟨_, by omega, HT24.out⟩⟩ (fun hHeld => ?_)
     try simp only [aP, lA, lB, lC]
     clear hK
     refine wpAnyH_take (i := 8) (oi := ⟨some 69, .build 46 #[(0, .const (.int .i64 19)), (2, .tmp 65), (3, .tmp 68)], 46, "rule.go:66", #[⟨4, .data⟩, ⟨7, .data⟩], none⟩) (v := .agg #[.int .i64 19, .string ⟨#[]⟩, .int .i64 z22, .string (bs x23)]) rfl (by kernel_rfl) (by kernel_rfl) (by kernel_rfl) (fun _ _ _ h => h) (Or.inl ⟨by rfl, fun w hSw => by (try dsimp only at hSw); go_simp⟩) hHeld ?_
     try simp only [aP, lA, lB, lC]
     refine wpAnyH_ready (rs := [9]) (by kernel_rfl) (by simp) ?_
     refine AllReadyH.cons (o := ⟨none, .store 46 (.tmp 2) (.tmp 69), 0, "rule.go:66", #[⟨8, .data⟩, ⟨7, .chain⟩, ⟨0, .phase⟩, ⟨1, .phase⟩, ⟨2, .phase⟩, ⟨3, .phase⟩, ⟨4, .phase⟩, ⟨5, .phase⟩, ⟨6, .phase⟩, ⟨7, .phase⟩, ⟨8, .phase⟩], none⟩) rfl (fun K hK => ?_) AllReadyH.nil
     obtain ⟨t0, t1, t2, t3⟩ := HM24.out.cells
     have ft := fun o => HM24.out.frz (o := o)
     have HMA := qH (HM24.out.all ⟨19, [], z22, x23⟩)
     have HKE := qH ((((HK24.out.setCell (p := ⟨R, 0, none⟩) (.inr HRW.out) (.int .i64 19)).setCell (p := ⟨R, 1, none⟩) (.inr HRW.out) (.string ⟨#[]⟩)).setCell (p := ⟨R, 2, none⟩) (.inr HRW.out) (.int .i64 z22)).setCell (p := ⟨R, 3, none⟩) (.inr HRW.out) (.string (bs x23)))
     have HTE := qH (HT24.out.put4 HRL.out (.int .i64 19) (.string ⟨#[]⟩) (.int .i64 z22) (.string (bs x23)))
     go_simp
     clear hHeld t0 t1 t2 t3 ft
     refine hK.out _ _ ⟨HKE.out, ⟨_, HMA.out⟩, ⟨_, by omega, HTE.out⟩⟩ (fun hHeld => ?_)
     try simp only [aP, lA, lB, lC]
     clear hK
     refine wpAnyH_done (by kernel_rfl) ?_ _
     clear hHeld
     go_wp2
     exact tm_end Tryz.results48 (x := ⟨19, [], z22, x23⟩) HMA.out rfl rfl ⟨_, rfl, goodT_mk 19 [] z22 x23 (by decide) Hx23.out (by decide) (by decide), ⟨_, by omega, HTE.out⟩, HKE.out⟩
    ·
     go_simp
     go_at_call 20
     refine cM (by with_reducible exact oneB [[48, 54, 54, 48], [54, 54, 54], [57], [36, 114, 101, 115, 117, 108, 116]] 4 (by decide) (by decide) (by decide) (by decide) (by omega) HT21.out HLq18.out HBq18.out HXA.out) ?_
     rintro e V26 ⟨x25, hx25, rfl, ht, hkp⟩
     dsimp only
     have Hx25 := qH hx25
     have HK26 := qH (HK21.out.trans hkp)
     have HM26 := qH (HM21.out.kp hkp (by simp; exact HRT.out))
     have HT26 := qH ht
     have HBq1 := qH ((hkp.block _ (block_lt HBq1.out) (by have := HLq1.out; simp; omega)).trans HBq1.out)
     have HBq18 := qH ((hkp.block _ (block_lt HBq18.out) (by have := HLq18.out; simp; omega)).trans HBq18.out)
     clear hHeld ht hkp hx25
     refine hK.out _ _ ⟨HK26.out, ⟨_, HM26.out⟩, ⟨_, by omega, HT26.out⟩⟩ (fun hHeld => ?_)
     try simp only [aP, lA, lB, lC]
     clear hK
     refine wpAnyH_ready (rs := [4]) (by kernel_rfl) (by simp) ?_
     refine AllReadyH.cons (o := ⟨some 65, .load 3 (.tmp 64), 3, "rule.go:66", #[⟨3, .data⟩], none⟩) rfl (fun K hK => ?_) AllReadyH.nil
     obtain ⟨z27, hz1, hz2, hz3⟩ := ints2 Hr20.out HBq1.out
     have HZz27 := qH (And.intro hz1 hz2)
     clear hz1 hz2
     go_simp
     clear hHeld hz3
     refine hK.out _ _ ⟨HK26.out, ⟨_, HM26.out⟩, ⟨_, by omega, HT26.out⟩⟩ (fun hHeld => ?_)
     try simp only [aP, lA, lB, lC]
     clear hK
     refine wpAnyH_take (i := 8) (oi := ⟨some 69, .build 46 #[(0, .const (.int .i64 19)), (2, .tmp 65), (3, .tmp 68)], 46, "rule.go:66", #[⟨4, .data⟩, ⟨7, .data⟩], none⟩) (v := .agg #[.int .i64 19, .string ⟨#[]⟩, .int .i64 z27, .string (bs x25)]) rfl (by kernel_rfl) (by kernel_rfl) (by kernel_rfl) (fun _ _ _ h => h) (Or.inl ⟨by rfl, fun w hSw => by (try dsimp only at hSw); go_simp⟩) hHeld ?_
     try simp only [aP, lA, lB, lC]
     refine wpAnyH_ready (rs := [9]) (by kernel_rfl) (by simp) ?_
     refine AllReadyH.cons (o := ⟨none, .store 46 (.tmp 2) (.tmp 69), 0, "rule.go:66", #[⟨8, .data⟩, ⟨7, .chain⟩, ⟨0, .phase⟩, ⟨1, .phase⟩, ⟨2, .phase⟩, ⟨3, .phase⟩, ⟨4, .phase⟩, ⟨5, .phase⟩, ⟨6, .phase⟩, ⟨7, .phase⟩, ⟨8, .phase⟩], none⟩) rfl (fun K hK => ?_) AllReadyH.nil
     obtain ⟨t0, t1, t2, t3⟩ := HM26.out.cells
     have ft := fun o => HM26.out.frz (o := o)
     have HMA := qH (HM26.out.all ⟨19, [], z27, x25⟩)
     have HKE := qH ((((HK26.out.setCell (p := ⟨R, 0, none⟩) (.inr HRW.out) (.int .i64 19)).setCell (p := ⟨R, 1, none⟩) (.inr HRW.out) (.string ⟨#[]⟩)).setCell (p := ⟨R, 2, none⟩) (.inr HRW.out) (.int .i64 z27)).setCell (p := ⟨R, 3, none⟩) (.inr HRW.out) (.string (bs x25)))
     have HTE := qH (HT26.out.put4 HRL.out (.int .i64 19) (.string ⟨#[]⟩) (.int .i64 z27) (.string (bs x25)))
     go_simp
     clear hHeld t0 t1 t2 t3 ft
     refine hK.out _ _ ⟨HKE.out, ⟨_, HMA.out⟩, ⟨_, by omega, HTE.out⟩⟩ (fun hHeld => ?_)
     try simp only [aP, lA, lB, lC]
     clear hK
     refine wpAnyH_done (by kernel_rfl) ?_ _
     clear hHeld
     go_wp2
     exact tm_end Tryz.results48 (x := ⟨19, [], z27, x25⟩) HMA.out rfl rfl ⟨_, rfl, goodT_mk 19 [] z27 x25 (by decide) Hx25.out (by decide) (by decide), ⟨_, by omega, HTE.out⟩, HKE.out⟩
  ·
   go_simp
   go_at_call 16
   refine cM (by with_reducible exact nextL2 (by omega) HT0.out) ?_
   rintro e V29 ⟨r28, hr28, rfl, ht, hkp⟩
   dsimp only
   have Hr28 := qH hr28
   have HK29 := qH (HK0.out.trans hkp)
   have HM29 := qH (HM0.out.kp hkp (by simp; exact HRT.out))
   have HT29 := qH ht
   clear hHeld ht hkp hr28
   refine hK.out _ _ ⟨HK29.out, ⟨_, HM29.out⟩, ⟨_, by omega, HT29.out⟩⟩ (fun hHeld => ?_)
   try simp only [aP, lA, lB, lC]
   clear hK
   refine wpAnyH_ready (rs := [0, 6]) (by kernel_rfl) (by simp) ?_
   refine AllReadyH.cons (o := ⟨some 61, .buildSlice 22 2 #[(0, .const (.int .i64 3)), (1, .const (.int .i64 6))], 22, "rule.go:66", #[], none⟩) rfl (fun K hK => ?_) (AllReadyH.cons (o := ⟨some 67, .buildSlice 52 4 #[(0, .const (.string { data := #[48, 54, 54, 48] })), (1, .const (.string { data := #[54, 54, 54] })), (2, .const (.string { data := #[57] })), (3, .const (.string { data := #[36, 114, 101, 115, 117, 108, 116] }))], 52, "rule.go:66", #[], none⟩) rfl (fun K hK => ?_) AllReadyH.nil)
   ·
    go_simp
    obtain ⟨V31, hV31⟩ : ∃ V, V29.alloc (.cells #[.int .i64 3, .int .i64 6] 3) = V := ⟨_, rfl⟩
    obtain ⟨q30, hq30⟩ : ∃ b, V29.heap.size = b := ⟨_, rfl⟩
    have hk31 : Kp [] V29 V31 := by rw [← hV31]; exact (Kp.refl [] _).alloc _
    have HBq30 := qH (show V31.heap[q30]? = some (.cells #[.int .i64 3, .int .i64 6] 3 (0, 0)) by rw [← hV31, ← hq30]; exact heap_alloc_last _ _)
    have HLq30 := qH (show tb < q30 by have := HT29.out.lt; omega)
    have HK31 := qH (HK29.out.upT hk31)
    have HM31 := qH (HM29.out.kp hk31 (by simp))
    have HT31 := qH (HT29.out.kp hk31 (by simp))
    rw [hV31, hq30]
    clear hHeld hk31 hV31 hq30
    refine hK.out _ _ ⟨HK31.out, ⟨_, HM31.out⟩, ⟨_, by omega, HT31.out⟩⟩ (fun hHeld => ?_)
    try simp only [aP, lA, lB, lC]
    clear hK
    refine wpAnyH_take (i := 3) (oi := ⟨some 64, .indexAddr 22 (.tmp 61) (.tmp 63), 0, "rule.go:66", #[⟨0, .data⟩, ⟨2, .data⟩], none⟩) (v := .pointer (some ⟨q30, r28, none⟩)) rfl (by kernel_rfl) (by kernel_rfl) (by kernel_rfl) (fun _ _ _ h => h) (Or.inl ⟨by rfl, fun w hSw => by (try dsimp only at hSw); have hq1 : ((r28 : Nat) : Int) < 2 := (by have := Hr28.out; omega); go_simp⟩) hHeld ?_
    try simp only [aP, lA, lB, lC]
    refine wpAnyH_ready (rs := [4, 6]) (by kernel_rfl) (by simp) ?_
    refine AllReadyH.cons (o := ⟨some 65, .load 3 (.tmp 64), 3, "rule.go:66", #[⟨3, .data⟩], none⟩) rfl (fun K hK => ?_) (AllReadyH.cons (o := ⟨some 67, .buildSlice 52 4 #[(0, .const (.string { data := #[48, 54, 54, 48] })), (1, .const (.string { data := #[54, 54, 54] })), (2, .const (.string { data := #[57] })), (3, .const (.string { data := #[36, 114, 101, 115, 117, 108, 116] }))], 52, "rule.go:66", #[], none⟩) rfl (fun K hK => ?_) AllReadyH.nil)
    ·
     obtain ⟨z32, hz1, hz2, hz3⟩ := ints2 Hr28.out HBq30.out
     have HZz32 := qH (And.intro hz1 hz2)
     clear hz1 hz2
     go_simp
     clear hHeld hz3
     refine hK.out _ _ ⟨HK31.out, ⟨_, HM31.out⟩, ⟨_, by omega, HT31.out⟩⟩ (fun hHeld => ?_)
     try simp only [aP, lA, lB, lC]
     clear hK
     refine wpAnyH_ready (rs := [6]) (by kernel_rfl) (by simp) ?_
     refine AllReadyH.cons (o := ⟨some 67, .buildSlice 52 4 #[(0, .const (.string { data := #[48, 54, 54, 48] })), (1, .const (.string { data := #[54, 54, 54] })), (2, .const (.string { data := #[57] })), (3, .const (.string { data := #[36, 114, 101, 115, 117, 108, 116] }))], 52, "rule.go:66", #[], none⟩) rfl (fun K hK => ?_) AllReadyH.nil
     go_simp
     obtain ⟨V34, hV34⟩ : ∃ V, V31.alloc (.cells #[.string ⟨#[48, 54, 54, 48]⟩, .string ⟨#[54, 54, 54]⟩, .string ⟨#[57]⟩, .string ⟨#[36, 114, 101, 115, 117, 108, 116]⟩] 9) = V := ⟨_, rfl⟩
     obtain ⟨q33, hq33⟩ : ∃ b, V31.heap.size = b := ⟨_, rfl⟩
     have hk34 : Kp [] V31 V34 := by rw [← hV34]; exact (Kp.refl [] _).alloc _
     have HBq33 := qH (show V34.heap[q33]? = some (.cells #[.string ⟨#[48, 54, 54, 48]⟩, .string ⟨#[54, 54, 54]⟩, .string ⟨#[57]⟩, .string ⟨#[36, 114, 101, 115, 117, 108, 116]⟩] 9 (0, 0)) by rw [← hV34, ← hq33]; exact heap_alloc_last _ _)
     have HLq33 := qH (show tb < q33 by have := HT31.out.lt; omega)
     have HK34 := qH (HK31.out.upT hk34)
     have HM34 := qH (HM31.out.kp hk34 (by simp))
     have HT34 := qH (HT31.out.kp hk34 (by simp))
     have HBq30 := qH ((hk34.block _ (block_lt HBq30.out) (by simp)).trans HBq30.out)
     rw [hV34, hq33]
     clear hHeld hk34 hV34 hq33
     refine hK.out _ _ ⟨HK34.out, ⟨_, HM34.out⟩, ⟨_, by omega, HT34.out⟩⟩ (fun hHeld => ?_)
     try simp only [aP, lA, lB, lC]
     clear hK
     refine wpAnyH_ready (rs := [7]) (by kernel_rfl) (by simp) ?_
     refine AllReadyH.cons (o := ⟨some 68, .call { callee := .value (.func 20), args := #[.tmp 66, .tmp 67], argTypes := #[25, 52] }, 9, "rule.go:66", #[⟨5, .data⟩, ⟨6, .data⟩, ⟨2, .chain⟩], none⟩) rfl (fun K hK => ?_) AllReadyH.nil
     go_simp
     go_at_call 20
     refine cM (by with_reducible exact oneB [[48, 54, 54, 48], [54, 54, 54], [57], [36, 114, 101, 115, 117, 108, 116]] 4 (by decide) (by decide) (by decide) (by decide) (by omega) HT34.out HLq33.out HBq33.out HXA.out) ?_
     rintro e V36 ⟨x35, hx35, rfl, ht, hkp⟩
     dsimp only
     have Hx35 := qH hx35
     have HK36 := qH (HK34.out.trans hkp)
     have HM36 := qH (HM34.out.kp hkp (by simp; exact HRT.out))
     have HT36 := qH ht
     have HBq30 := qH ((hkp.block _ (block_lt HBq30.out) (by have := HLq30.out; simp; omega)).trans HBq30.out)
     have HBq33 := qH ((hkp.block _ (block_lt HBq33.out) (by have := HLq33.out; simp; omega)).trans HBq33.out)
     clear hHeld ht hkp hx35
     refine hK.out _ _ ⟨HK36.out, ⟨_, HM36.out⟩, ⟨_, by omega, HT36.out⟩⟩ (fun hHeld => ?_)
     try simp only [aP, lA, lB, lC]
     clear hK
     refine wpAnyH_take (i := 8) (oi := ⟨some 69, .build 46 #[(0, .const (.int .i64 19)), (2, .tmp 65), (3, .tmp 68)], 46, "rule.go:66", #[⟨4, .data⟩, ⟨7, .data⟩], none⟩) (v := .agg #[.int .i64 19, .string ⟨#[]⟩, .int .i64 z32, .string (bs x35)]) rfl (by kernel_rfl) (by kernel_rfl) (by kernel_rfl) (fun _ _ _ h => h) (Or.inl ⟨by rfl, fun w hSw => by (try dsimp only at hSw); go_simp⟩) hHeld ?_
     try simp only [aP, lA, lB, lC]
     refine wpAnyH_ready (rs := [9]) (by kernel_rfl) (by simp) ?_
     refine AllReadyH.cons (o := ⟨none, .store 46 (.tmp 2) (.tmp 69), 0, "rule.go:66", #[⟨8, .data⟩, ⟨7, .chain⟩, ⟨0, .phase⟩, ⟨1, .phase⟩, ⟨2, .phase⟩, ⟨3, .phase⟩, ⟨4, .phase⟩, ⟨5, .phase⟩, ⟨6, .phase⟩, ⟨7, .phase⟩, ⟨8, .phase⟩], none⟩) rfl (fun K hK => ?_) AllReadyH.nil
     obtain ⟨t0, t1, t2, t3⟩ := HM36.out.cells
     have ft := fun o => HM36.out.frz (o := o)
     have HMA := qH (HM36.out.all ⟨19, [], z32, x35⟩)
     have HKE := qH ((((HK36.out.setCell (p := ⟨R, 0, none⟩) (.inr HRW.out) (.int .i64 19)).setCell (p := ⟨R, 1, none⟩) (.inr HRW.out) (.string ⟨#[]⟩)).setCell (p := ⟨R, 2, none⟩) (.inr HRW.out) (.int .i64 z32)).setCell (p := ⟨R, 3, none⟩) (.inr HRW.out) (.string (bs x35)))
     have HTE := qH (HT36.out.put4 HRL.out (.int .i64 19) (.string ⟨#[]⟩) (.int .i64 z32) (.string (bs x35)))
     go_simp
     clear hHeld t0 t1 t2 t3 ft
     refine hK.out _ _ ⟨HKE.out, ⟨_, HMA.out⟩, ⟨_, by omega, HTE.out⟩⟩ (fun hHeld => ?_)
     try simp only [aP, lA, lB, lC]
     clear hK
     refine wpAnyH_done (by kernel_rfl) ?_ _
     clear hHeld
     go_wp2
     exact tm_end Tryz.results48 (x := ⟨19, [], z32, x35⟩) HMA.out rfl rfl ⟨_, rfl, goodT_mk 19 [] z32 x35 (by decide) Hx35.out (by decide) (by decide), ⟨_, by omega, HTE.out⟩, HKE.out⟩
    ·
     go_simp
     obtain ⟨V38, hV38⟩ : ∃ V, V31.alloc (.cells #[.string ⟨#[48, 54, 54, 48]⟩, .string ⟨#[54, 54, 54]⟩, .string ⟨#[57]⟩, .string ⟨#[36, 114, 101, 115, 117, 108, 116]⟩] 9) = V := ⟨_, rfl⟩
     obtain ⟨q37, hq37⟩ : ∃ b, V31.heap.size = b := ⟨_, rfl⟩
     have hk38 : Kp [] V31 V38 := by rw [← hV38]; exact (Kp.refl [] _).alloc _
     have HBq37 := qH (show V38.heap[q37]? = some (.cells #[.string ⟨#[48, 54, 54, 48]⟩, .string ⟨#[54, 54, 54]⟩, .string ⟨#[57]⟩, .string ⟨#[36, 114, 101, 115, 117, 108, 116]⟩] 9 (0, 0)) by rw [← hV38, ← hq37]; exact heap_alloc_last _ _)
     have HLq37 := qH (show tb < q37 by have := HT31.out.lt; omega)
     have HK38 := qH (HK31.out.upT hk38)
     have HM38 := qH (HM31.out.kp hk38 (by simp))
     have HT38 := qH (HT31.out.kp hk38 (by simp))
     have HBq30 := qH ((hk38.block _ (block_lt HBq30.out) (by simp)).trans HBq30.out)
     rw [hV38, hq37]
     clear hHeld hk38 hV38 hq37
     refine hK.out _ _ ⟨HK38.out, ⟨_, HM38.out⟩, ⟨_, by omega, HT38.out⟩⟩ (fun hHeld => ?_)
     try simp only [aP, lA, lB, lC]
     clear hK
     refine wpAnyH_ready (rs := [4, 7]) (by kernel_rfl) (by simp) ?_
     refine AllReadyH.cons (o := ⟨some 65, .load 3 (.tmp 64), 3, "rule.go:66", #[⟨3, .data⟩], none⟩) rfl (fun K hK => ?_) (AllReadyH.cons (o := ⟨some 68, .call { callee := .value (.func 20), args := #[.tmp 66, .tmp 67], argTypes := #[25, 52] }, 9, "rule.go:66", #[⟨5, .data⟩, ⟨6, .data⟩, ⟨2, .chain⟩], none⟩) rfl (fun K hK => ?_) AllReadyH.nil)
     ·
      obtain ⟨z39, hz1, hz2, hz3⟩ := ints2 Hr28.out HBq30.out
      have HZz39 := qH (And.intro hz1 hz2)
      clear hz1 hz2
      go_simp
      clear hHeld hz3
      refine hK.out _ _ ⟨HK38.out, ⟨_, HM38.out⟩, ⟨_, by omega, HT38.out⟩⟩ (fun hHeld => ?_)
      try simp only [aP, lA, lB, lC]
      clear hK
      refine wpAnyH_ready (rs := [7]) (by kernel_rfl) (by simp) ?_
      refine AllReadyH.cons (o := ⟨some 68, .call { callee := .value (.func 20), args := #[.tmp 66, .tmp 67], argTypes := #[25, 52] }, 9, "rule.go:66", #[⟨5, .data⟩, ⟨6, .data⟩, ⟨2, .chain⟩], none⟩) rfl (fun K hK => ?_) AllReadyH.nil
      go_simp
      go_at_call 20
      refine cM (by with_reducible exact oneB [[48, 54, 54, 48], [54, 54, 54], [57], [36, 114, 101, 115, 117, 108, 116]] 4 (by decide) (by decide) (by decide) (by decide) (by omega) HT38.out HLq37.out HBq37.out HXA.out) ?_
      rintro e V41 ⟨x40, hx40, rfl, ht, hkp⟩
      dsimp only
      have Hx40 := qH hx40
      have HK41 := qH (HK38.out.trans hkp)
      have HM41 := qH (HM38.out.kp hkp (by simp; exact HRT.out))
      have HT41 := qH ht
      have HBq30 := qH ((hkp.block _ (block_lt HBq30.out) (by have := HLq30.out; simp; omega)).trans HBq30.out)
      have HBq37 := qH ((hkp.block _ (block_lt HBq37.out) (by have := HLq37.out; simp; omega)).trans HBq37.out)
      clear hHeld ht hkp hx40
      refine hK.out _ _ ⟨HK41.out, ⟨_, HM41.out⟩, ⟨_, by omega, HT41.out⟩⟩ (fun hHeld => ?_)
      try simp only [aP, lA, lB, lC]
      clear hK
      refine wpAnyH_take (i := 8) (oi := ⟨some 69, .build 46 #[(0, .const (.int .i64 19)), (2, .tmp 65), (3, .tmp 68)], 46, "rule.go:66", #[⟨4, .data⟩, ⟨7, .data⟩], none⟩) (v := .agg #[.int .i64 19, .string ⟨#[]⟩, .int .i64 z39, .string (bs x40)]) rfl (by kernel_rfl) (by kernel_rfl) (by kernel_rfl) (fun _ _ _ h => h) (Or.inl ⟨by rfl, fun w hSw => by (try dsimp only at hSw); go_simp⟩) hHeld ?_
      try simp only [aP, lA, lB, lC]
      refine wpAnyH_ready (rs := [9]) (by kernel_rfl) (by simp) ?_
      refine AllReadyH.cons (o := ⟨none, .store 46 (.tmp 2) (.tmp 69), 0, "rule.go:66", #[⟨8, .data⟩, ⟨7, .chain⟩, ⟨0, .phase⟩, ⟨1, .phase⟩, ⟨2, .phase⟩, ⟨3, .phase⟩, ⟨4, .phase⟩, ⟨5, .phase⟩, ⟨6, .phase⟩, ⟨7, .phase⟩, ⟨8, .phase⟩], none⟩) rfl (fun K hK => ?_) AllReadyH.nil
      obtain ⟨t0, t1, t2, t3⟩ := HM41.out.cells
      have ft := fun o => HM41.out.frz (o := o)
      have HMA := qH (HM41.out.all ⟨19, [], z39, x40⟩)
      have HKE := qH ((((HK41.out.setCell (p := ⟨R, 0, none⟩) (.inr HRW.out) (.int .i64 19)).setCell (p := ⟨R, 1, none⟩) (.inr HRW.out) (.string ⟨#[]⟩)).setCell (p := ⟨R, 2, none⟩) (.inr HRW.out) (.int .i64 z39)).setCell (p := ⟨R, 3, none⟩) (.inr HRW.out) (.string (bs x40)))
      have HTE := qH (HT41.out.put4 HRL.out (.int .i64 19) (.string ⟨#[]⟩) (.int .i64 z39) (.string (bs x40)))
      go_simp
      clear hHeld t0 t1 t2 t3 ft
      refine hK.out _ _ ⟨HKE.out, ⟨_, HMA.out⟩, ⟨_, by omega, HTE.out⟩⟩ (fun hHeld => ?_)
      try simp only [aP, lA, lB, lC]
      clear hK
      refine wpAnyH_done (by kernel_rfl) ?_ _
      clear hHeld
      go_wp2
      exact tm_end Tryz.results48 (x := ⟨19, [], z39, x40⟩) HMA.out rfl rfl ⟨_, rfl, goodT_mk 19 [] z39 x40 (by decide) Hx40.out (by decide) (by decide), ⟨_, by omega, HTE.out⟩, HKE.out⟩
     ·
      go_simp
      go_at_call 20
      refine cM (by with_reducible exact oneB [[48, 54, 54, 48], [54, 54, 54], [57], [36, 114, 101, 115, 117, 108, 116]] 4 (by decide) (by decide) (by decide) (by decide) (by omega) HT38.out HLq37.out HBq37.out HXA.out) ?_
      rintro e V43 ⟨x42, hx42, rfl, ht, hkp⟩
      dsimp only
      have Hx42 := qH hx42
      have HK43 := qH (HK38.out.trans hkp)
      have HM43 := qH (HM38.out.kp hkp (by simp; exact HRT.out))
      have HT43 := qH ht
      have HBq30 := qH ((hkp.block _ (block_lt HBq30.out) (by have := HLq30.out; simp; omega)).trans HBq30.out)
      have HBq37 := qH ((hkp.block _ (block_lt HBq37.out) (by have := HLq37.out; simp; omega)).trans HBq37.out)
      clear hHeld ht hkp hx42
      refine hK.out _ _ ⟨HK43.out, ⟨_, HM43.out⟩, ⟨_, by omega, HT43.out⟩⟩ (fun hHeld => ?_)
      try simp only [aP, lA, lB, lC]
      clear hK
      refine wpAnyH_ready (rs := [4]) (by kernel_rfl) (by simp) ?_
      refine AllReadyH.cons (o := ⟨some 65, .load 3 (.tmp 64), 3, "rule.go:66", #[⟨3, .data⟩], none⟩) rfl (fun K hK => ?_) AllReadyH.nil
      obtain ⟨z44, hz1, hz2, hz3⟩ := ints2 Hr28.out HBq30.out
      have HZz44 := qH (And.intro hz1 hz2)
      clear hz1 hz2
      go_simp
      clear hHeld hz3
      refine hK.out _ _ ⟨HK43.out, ⟨_, HM43.out⟩, ⟨_, by omega, HT43.out⟩⟩ (fun hHeld => ?_)
      try simp only [aP, lA, lB, lC]
      clear hK
      refine wpAnyH_take (i := 8) (oi := ⟨some 69, .build 46 #[(0, .const (.int .i64 19)), (2, .tmp 65), (3, .tmp 68)], 46, "rule.go:66", #[⟨4, .data⟩, ⟨7, .data⟩], none⟩) (v := .agg #[.int .i64 19, .string ⟨#[]⟩, .int .i64 z44, .string (bs x42)]) rfl (by kernel_rfl) (by kernel_rfl) (by kernel_rfl) (fun _ _ _ h => h) (Or.inl ⟨by rfl, fun w hSw => by (try dsimp only at hSw); go_simp⟩) hHeld ?_
      try simp only [aP, lA, lB, lC]
      refine wpAnyH_ready (rs := [9]) (by kernel_rfl) (by simp) ?_
      refine AllReadyH.cons (o := ⟨none, .store 46 (.tmp 2) (.tmp 69), 0, "rule.go:66", #[⟨8, .data⟩, ⟨7, .chain⟩, ⟨0, .phase⟩, ⟨1, .phase⟩, ⟨2, .phase⟩, ⟨3, .phase⟩, ⟨4, .phase⟩, ⟨5, .phase⟩, ⟨6, .phase⟩, ⟨7, .phase⟩, ⟨8, .phase⟩], none⟩) rfl (fun K hK => ?_) AllReadyH.nil
      obtain ⟨t0, t1, t2, t3⟩ := HM43.out.cells
      have ft := fun o => HM43.out.frz (o := o)
      have HMA := qH (HM43.out.all ⟨19, [], z44, x42⟩)
      have HKE := qH ((((HK43.out.setCell (p := ⟨R, 0, none⟩) (.inr HRW.out) (.int .i64 19)).setCell (p := ⟨R, 1, none⟩) (.inr HRW.out) (.string ⟨#[]⟩)).setCell (p := ⟨R, 2, none⟩) (.inr HRW.out) (.int .i64 z44)).setCell (p := ⟨R, 3, none⟩) (.inr HRW.out) (.string (bs x42)))
      have HTE := qH (HT43.out.put4 HRL.out (.int .i64 19) (.string ⟨#[]⟩) (.int .i64 z44) (.string (bs x42)))
      go_simp
      clear hHeld t0 t1 t2 t3 ft
      refine hK.out _ _ ⟨HKE.out, ⟨_, HMA.out⟩, ⟨_, by omega, HTE.out⟩⟩ (fun hHeld => ?_)
      try simp only [aP, lA, lB, lC]
      clear hK
      refine wpAnyH_done (by kernel_rfl) ?_ _
      clear hHeld
      go_wp2
      exact tm_end Tryz.results48 (x := ⟨19, [], z44, x42⟩) HMA.out rfl rfl ⟨_, rfl, goodT_mk 19 [] z44 x42 (by decide) Hx42.out (by decide) (by decide), ⟨_, by omega, HTE.out⟩, HKE.out⟩
   ·
    go_simp
    obtain ⟨V46, hV46⟩ : ∃ V, V29.alloc (.cells #[.string ⟨#[48, 54, 54, 48]⟩, .string ⟨#[54, 54, 54]⟩, .string ⟨#[57]⟩, .string ⟨#[36, 114, 101, 115, 117, 108, 116]⟩] 9) = V := ⟨_, rfl⟩
    obtain ⟨q45, hq45⟩ : ∃ b, V29.heap.size = b := ⟨_, rfl⟩
    have hk46 : Kp [] V29 V46 := by rw [← hV46]; exact (Kp.refl [] _).alloc _
    have HBq45 := qH (show V46.heap[q45]? = some (.cells #[.string ⟨#[48, 54, 54, 48]⟩, .string ⟨#[54, 54, 54]⟩, .string ⟨#[57]⟩, .string ⟨#[36, 114, 101, 115, 117, 108, 116]⟩] 9 (0, 0)) by rw [← hV46, ← hq45]; exact heap_alloc_last _ _)
    have HLq45 := qH (show tb < q45 by have := HT29.out.lt; omega)
    have HK46 := qH (HK29.out.upT hk46)
    have HM46 := qH (HM29.out.kp hk46 (by simp))
    have HT46 := qH (HT29.out.kp hk46 (by simp))
    rw [hV46, hq45]
    clear hHeld hk46 hV46 hq45
    refine hK.out _ _ ⟨HK46.out, ⟨_, HM46.out⟩, ⟨_, by omega, HT46.out⟩⟩ (fun hHeld => ?_)
    try simp only [aP, lA, lB, lC]
    clear hK
    refine wpAnyH_ready (rs := [0, 7]) (by kernel_rfl) (by simp) ?_
    refine AllReadyH.cons (o := ⟨some 61, .buildSlice 22 2 #[(0, .const (.int .i64 3)), (1, .const (.int .i64 6))], 22, "rule.go:66", #[], none⟩) rfl (fun K hK => ?_) (AllReadyH.cons (o := ⟨some 68, .call { callee := .value (.func 20), args := #[.tmp 66, .tmp 67], argTypes := #[25, 52] }, 9, "rule.go:66", #[⟨5, .data⟩, ⟨6, .data⟩, ⟨2, .chain⟩], none⟩) rfl (fun K hK => ?_) AllReadyH.nil)
    ·
     go_simp
     obtain ⟨V48, hV48⟩ : ∃ V, V46.alloc (.cells #[.int .i64 3, .int .i64 6] 3) = V := ⟨_, rfl⟩
     obtain ⟨q47, hq47⟩ : ∃ b, V46.heap.size = b := ⟨_, rfl⟩
     have hk48 : Kp [] V46 V48 := by rw [← hV48]; exact (Kp.refl [] _).alloc _
     have HBq47 := qH (show V48.heap[q47]? = some (.cells #[.int .i64 3, .int .i64 6] 3 (0, 0)) by rw [← hV48, ← hq47]; exact heap_alloc_last _ _)
     have HLq47 := qH (show tb < q47 by have := HT46.out.lt; omega)
     have HK48 := qH (HK46.out.upT hk48)
     have HM48 := qH (HM46.out.kp hk48 (by simp))
     have HT48 := qH (HT46.out.kp hk48 (by simp))
     have HBq45 := qH ((hk48.block _ (block_lt HBq45.out) (by simp)).trans HBq45.out)
     rw [hV48, hq47]
     clear hHeld hk48 hV48 hq47
     refine hK.out _ _ ⟨HK48.out, ⟨_, HM48.out⟩, ⟨_, by omega, HT48.out⟩⟩ (fun hHeld => ?_)
     try simp only [aP, lA, lB, lC]
     clear hK
     refine wpAnyH_take (i := 3) (oi := ⟨some 64, .indexAddr 22 (.tmp 61) (.tmp 63), 0, "rule.go:66", #[⟨0, .data⟩, ⟨2, .data⟩], none⟩) (v := .pointer (some ⟨q47, r28, none⟩)) rfl (by kernel_rfl) (by kernel_rfl) (by kernel_rfl) (fun _ _ _ h => h) (Or.inl ⟨by rfl, fun w hSw => by (try dsimp only at hSw); have hq1 : ((r28 : Nat) : Int) < 2 := (by have := Hr28.out; omega); go_simp⟩) hHeld ?_
     try simp only [aP, lA, lB, lC]
     refine wpAnyH_ready (rs := [4, 7]) (by kernel_rfl) (by simp) ?_
     refine AllReadyH.cons (o := ⟨some 65, .load 3 (.tmp 64), 3, "rule.go:66", #[⟨3, .data⟩], none⟩) rfl (fun K hK => ?_) (AllReadyH.cons (o := ⟨some 68, .call { callee := .value (.func 20), args := #[.tmp 66, .tmp 67], argTypes := #[25, 52] }, 9, "rule.go:66", #[⟨5, .data⟩, ⟨6, .data⟩, ⟨2, .chain⟩], none⟩) rfl (fun K hK => ?_) AllReadyH.nil)
     ·
      obtain ⟨z49, hz1, hz2, hz3⟩ := ints2 Hr28.out HBq47.out
      have HZz49 := qH (And.intro hz1 hz2)
      clear hz1 hz2
      go_simp
      clear hHeld hz3
      refine hK.out _ _ ⟨HK48.out, ⟨_, HM48.out⟩, ⟨_, by omega, HT48.out⟩⟩ (fun hHeld => ?_)
      try simp only [aP, lA, lB, lC]
      clear hK
      refine wpAnyH_ready (rs := [7]) (by kernel_rfl) (by simp) ?_
      refine AllReadyH.cons (o := ⟨some 68, .call { callee := .value (.func 20), args := #[.tmp 66, .tmp 67], argTypes := #[25, 52] }, 9, "rule.go:66", #[⟨5, .data⟩, ⟨6, .data⟩, ⟨2, .chain⟩], none⟩) rfl (fun K hK => ?_) AllReadyH.nil
      go_simp
      go_at_call 20
      refine cM (by with_reducible exact oneB [[48, 54, 54, 48], [54, 54, 54], [57], [36, 114, 101, 115, 117, 108, 116]] 4 (by decide) (by decide) (by decide) (by decide) (by omega) HT48.out HLq45.out HBq45.out HXA.out) ?_
      rintro e V51 ⟨x50, hx50, rfl, ht, hkp⟩
      dsimp only
      have Hx50 := qH hx50
      have HK51 := qH (HK48.out.trans hkp)
      have HM51 := qH (HM48.out.kp hkp (by simp; exact HRT.out))
      have HT51 := qH ht
      have HBq47 := qH ((hkp.block _ (block_lt HBq47.out) (by have := HLq47.out; simp; omega)).trans HBq47.out)
      have HBq45 := qH ((hkp.block _ (block_lt HBq45.out) (by have := HLq45.out; simp; omega)).trans HBq45.out)
      clear hHeld ht hkp hx50
      refine hK.out _ _ ⟨HK51.out, ⟨_, HM51.out⟩, ⟨_, by omega, HT51.out⟩⟩ (fun hHeld => ?_)
      try simp only [aP, lA, lB, lC]
      clear hK
      refine wpAnyH_take (i := 8) (oi := ⟨some 69, .build 46 #[(0, .const (.int .i64 19)), (2, .tmp 65), (3, .tmp 68)], 46, "rule.go:66", #[⟨4, .data⟩, ⟨7, .data⟩], none⟩) (v := .agg #[.int .i64 19, .string ⟨#[]⟩, .int .i64 z49, .string (bs x50)]) rfl (by kernel_rfl) (by kernel_rfl) (by kernel_rfl) (fun _ _ _ h => h) (Or.inl ⟨by rfl, fun w hSw => by (try dsimp only at hSw); go_simp⟩) hHeld ?_
      try simp only [aP, lA, lB, lC]
      refine wpAnyH_ready (rs := [9]) (by kernel_rfl) (by simp) ?_
      refine AllReadyH.cons (o := ⟨none, .store 46 (.tmp 2) (.tmp 69), 0, "rule.go:66", #[⟨8, .data⟩, ⟨7, .chain⟩, ⟨0, .phase⟩, ⟨1, .phase⟩, ⟨2, .phase⟩, ⟨3, .phase⟩, ⟨4, .phase⟩, ⟨5, .phase⟩, ⟨6, .phase⟩, ⟨7, .phase⟩, ⟨8, .phase⟩], none⟩) rfl (fun K hK => ?_) AllReadyH.nil
      obtain ⟨t0, t1, t2, t3⟩ := HM51.out.cells
      have ft := fun o => HM51.out.frz (o := o)
      have HMA := qH (HM51.out.all ⟨19, [], z49, x50⟩)
      have HKE := qH ((((HK51.out.setCell (p := ⟨R, 0, none⟩) (.inr HRW.out) (.int .i64 19)).setCell (p := ⟨R, 1, none⟩) (.inr HRW.out) (.string ⟨#[]⟩)).setCell (p := ⟨R, 2, none⟩) (.inr HRW.out) (.int .i64 z49)).setCell (p := ⟨R, 3, none⟩) (.inr HRW.out) (.string (bs x50)))
      have HTE := qH (HT51.out.put4 HRL.out (.int .i64 19) (.string ⟨#[]⟩) (.int .i64 z49) (.string (bs x50)))
      go_simp
      clear hHeld t0 t1 t2 t3 ft
      refine hK.out _ _ ⟨HKE.out, ⟨_, HMA.out⟩, ⟨_, by omega, HTE.out⟩⟩ (fun hHeld => ?_)
      try simp only [aP, lA, lB, lC]
      clear hK
      refine wpAnyH_done (by kernel_rfl) ?_ _
      clear hHeld
      go_wp2
      exact tm_end Tryz.results48 (x := ⟨19, [], z49, x50⟩) HMA.out rfl rfl ⟨_, rfl, goodT_mk 19 [] z49 x50 (by decide) Hx50.out (by decide) (by decide), ⟨_, by omega, HTE.out⟩, HKE.out⟩
     ·
      go_simp
      go_at_call 20
      refine cM (by with_reducible exact oneB [[48, 54, 54, 48], [54, 54, 54], [57], [36, 114, 101, 115, 117, 108, 116]] 4 (by decide) (by decide) (by decide) (by decide) (by omega) HT48.out HLq45.out HBq45.out HXA.out) ?_
      rintro e V53 ⟨x52, hx52, rfl, ht, hkp⟩
      dsimp only
      have Hx52 := qH hx52
      have HK53 := qH (HK48.out.trans hkp)
      have HM53 := qH (HM48.out.kp hkp (by simp; exact HRT.out))
      have HT53 := qH ht
      have HBq47 := qH ((hkp.block _ (block_lt HBq47.out) (by have := HLq47.out; simp; omega)).trans HBq47.out)
      have HBq45 := qH ((hkp.block _ (block_lt HBq45.out) (by have := HLq45.out; simp; omega)).trans HBq45.out)
      clear hHeld ht hkp hx52
      refine hK.out _ _ ⟨HK53.out, ⟨_, HM53.out⟩, ⟨_, by omega, HT53.out⟩⟩ (fun hHeld => ?_)
      try simp only [aP, lA, lB, lC]
      clear hK
      refine wpAnyH_ready (rs := [4]) (by kernel_rfl) (by simp) ?_
      refine AllReadyH.cons (o := ⟨some 65, .load 3 (.tmp 64), 3, "rule.go:66", #[⟨3, .data⟩], none⟩) rfl (fun K hK => ?_) AllReadyH.nil
      obtain ⟨z54, hz1, hz2, hz3⟩ := ints2 Hr28.out HBq47.out
      have HZz54 := qH (And.intro hz1 hz2)
      clear hz1 hz2
      go_simp
      clear hHeld hz3
      refine hK.out _ _ ⟨HK53.out, ⟨_, HM53.out⟩, ⟨_, by omega, HT53.out⟩⟩ (fun hHeld => ?_)
      try simp only [aP, lA, lB, lC]
      clear hK
      refine wpAnyH_take (i := 8) (oi := ⟨some 69, .build 46 #[(0, .const (.int .i64 19)), (2, .tmp 65), (3, .tmp 68)], 46, "rule.go:66", #[⟨4, .data⟩, ⟨7, .data⟩], none⟩) (v := .agg #[.int .i64 19, .string ⟨#[]⟩, .int .i64 z54, .string (bs x52)]) rfl (by kernel_rfl) (by kernel_rfl) (by kernel_rfl) (fun _ _ _ h => h) (Or.inl ⟨by rfl, fun w hSw => by (try dsimp only at hSw); go_simp⟩) hHeld ?_
      try simp only [aP, lA, lB, lC]
      refine wpAnyH_ready (rs := [9]) (by kernel_rfl) (by simp) ?_
      refine AllReadyH.cons (o := ⟨none, .store 46 (.tmp 2) (.tmp 69), 0, "rule.go:66", #[⟨8, .data⟩, ⟨7, .chain⟩, ⟨0, .phase⟩, ⟨1, .phase⟩, ⟨2, .phase⟩, ⟨3, .phase⟩, ⟨4, .phase⟩, ⟨5, .phase⟩, ⟨6, .phase⟩, ⟨7, .phase⟩, ⟨8, .phase⟩], none⟩) rfl (fun K hK => ?_) AllReadyH.nil
      obtain ⟨t0, t1, t2, t3⟩ := HM53.out.cells
      have ft := fun o => HM53.out.frz (o := o)
      have HMA := qH (HM53.out.all ⟨19, [], z54, x52⟩)
      have HKE := qH ((((HK53.out.setCell (p := ⟨R, 0, none⟩) (.inr HRW.out) (.int .i64 19)).setCell (p := ⟨R, 1, none⟩) (.inr HRW.out) (.string ⟨#[]⟩)).setCell (p := ⟨R, 2, none⟩) (.inr HRW.out) (.int .i64 z54)).setCell (p := ⟨R, 3, none⟩) (.inr HRW.out) (.string (bs x52)))
      have HTE := qH (HT53.out.put4 HRL.out (.int .i64 19) (.string ⟨#[]⟩) (.int .i64 z54) (.string (bs x52)))
      go_simp
      clear hHeld t0 t1 t2 t3 ft
      refine hK.out _ _ ⟨HKE.out, ⟨_, HMA.out⟩, ⟨_, by omega, HTE.out⟩⟩ (fun hHeld => ?_)
      try simp only [aP, lA, lB, lC]
      clear hK
      refine wpAnyH_done (by kernel_rfl) ?_ _
      clear hHeld
      go_wp2
      exact tm_end Tryz.results48 (x := ⟨19, [], z54, x52⟩) HMA.out rfl rfl ⟨_, rfl, goodT_mk 19 [] z54 x52 (by decide) Hx52.out (by decide) (by decide), ⟨_, by omega, HTE.out⟩, HKE.out⟩
    ·
     go_simp
     go_at_call 20
     refine cM (by with_reducible exact oneB [[48, 54, 54, 48], [54, 54, 54], [57], [36, 114, 101, 115, 117, 108, 116]] 4 (by decide) (by decide) (by decide) (by decide) (by omega) HT46.out HLq45.out HBq45.out HXA.out) ?_
     rintro e V56 ⟨x55, hx55, rfl, ht, hkp⟩
     dsimp only
     have Hx55 := qH hx55
     have HK56 := qH (HK46.out.trans hkp)
     have HM56 := qH (HM46.out.kp hkp (by simp; exact HRT.out))
     have HT56 := qH ht
     have HBq45 := qH ((hkp.block _ (block_lt HBq45.out) (by have := HLq45.out; simp; omega)).trans HBq45.out)
     clear hHeld ht hkp hx55
     refine hK.out _ _ ⟨HK56.out, ⟨_, HM56.out⟩, ⟨_, by omega, HT56.out⟩⟩ (fun hHeld => ?_)
     try simp only [aP, lA, lB, lC]
     clear hK
     refine wpAnyH_ready (rs := [0]) (by kernel_rfl) (by simp) ?_
     refine AllReadyH.cons (o := ⟨some 61, .buildSlice 22 2 #[(0, .const (.int .i64 3)), (1, .const (.int .i64 6))], 22, "rule.go:66", #[], none⟩) rfl (fun K hK => ?_) AllReadyH.nil
     go_simp
     obtain ⟨V58, hV58⟩ : ∃ V, V56.alloc (.cells #[.int .i64 3, .int .i64 6] 3) = V := ⟨_, rfl⟩
     obtain ⟨q57, hq57⟩ : ∃ b, V56.heap.size = b := ⟨_, rfl⟩
     have hk58 : Kp [] V56 V58 := by rw [← hV58]; exact (Kp.refl [] _).alloc _
     have HBq57 := qH (show V58.heap[q57]? = some (.cells #[.int .i64 3, .int .i64 6] 3 (0, 0)) by rw [← hV58, ← hq57]; exact heap_alloc_last _ _)
     have HLq57 := qH (show tb < q57 by have := HT56.out.lt; omega)
     have HK58 := qH (HK56.out.upT hk58)
     have HM58 := qH (HM56.out.kp hk58 (by simp))
     have HT58 := qH (HT56.out.kp hk58 (by simp))
     have HBq45 := qH ((hk58.block _ (block_lt HBq45.out) (by simp)).trans HBq45.out)
     rw [hV58, hq57]
     clear hHeld hk58 hV58 hq57
     refine hK.out _ _ ⟨HK58.out, ⟨_, HM58.out⟩, ⟨_, by omega, HT58.out⟩⟩ (fun hHeld => ?_)
     try simp only [aP, lA, lB, lC]
     clear hK
     refine wpAnyH_take (i := 3) (oi := ⟨some 64, .indexAddr 22 (.tmp 61) (.tmp 63), 0, "rule.go:66", #[⟨0, .data⟩, ⟨2, .data⟩], none⟩) (v := .pointer (some ⟨q57, r28, none⟩)) rfl (by kernel_rfl) (by kernel_rfl) (by kernel_rfl) (fun _ _ _ h => h) (Or.inl ⟨by rfl, fun w hSw => by (try dsimp only at hSw); have hq1 : ((r28 : Nat) : Int) < 2 := (by have := Hr28.out; omega); go_simp⟩) hHeld ?_
     try simp only [aP, lA, lB, lC]
     refine wpAnyH_ready (rs := [4]) (by kernel_rfl) (by simp) ?_
     refine AllReadyH.cons (o := ⟨some 65, .load 3 (.tmp 64), 3, "rule.go:66", #[⟨3, .data⟩], none⟩) rfl (fun K hK => ?_) AllReadyH.nil
     obtain ⟨z59, hz1, hz2, hz3⟩ := ints2 Hr28.out HBq57.out
     have HZz59 := qH (And.intro hz1 hz2)
     clear hz1 hz2
     go_simp
     clear hHeld hz3
     refine hK.out _ _ ⟨HK58.out, ⟨_, HM58.out⟩, ⟨_, by omega, HT58.out⟩⟩ (fun hHeld => ?_)
     try simp only [aP, lA, lB, lC]
     clear hK
     refine wpAnyH_take (i := 8) (oi := ⟨some 69, .build 46 #[(0, .const (.int .i64 19)), (2, .tmp 65), (3, .tmp 68)], 46, "rule.go:66", #[⟨4, .data⟩, ⟨7, .data⟩], none⟩) (v := .agg #[.int .i64 19, .string ⟨#[]⟩, .int .i64 z59, .string (bs x55)]) rfl (by kernel_rfl) (by kernel_rfl) (by kernel_rfl) (fun _ _ _ h => h) (Or.inl ⟨by rfl, fun w hSw => by (try dsimp only at hSw); go_simp⟩) hHeld ?_
     try simp only [aP, lA, lB, lC]
     refine wpAnyH_ready (rs := [9]) (by kernel_rfl) (by simp) ?_
     refine AllReadyH.cons (o := ⟨none, .store 46 (.tmp 2) (.tmp 69), 0, "rule.go:66", #[⟨8, .data⟩, ⟨7, .chain⟩, ⟨0, .phase⟩, ⟨1, .phase⟩, ⟨2, .phase⟩, ⟨3, .phase⟩, ⟨4, .phase⟩, ⟨5, .phase⟩, ⟨6, .phase⟩, ⟨7, .phase⟩, ⟨8, .phase⟩], none⟩) rfl (fun K hK => ?_) AllReadyH.nil
     obtain ⟨t0, t1, t2, t3⟩ := HM58.out.cells
     have ft := fun o => HM58.out.frz (o := o)
     have HMA := qH (HM58.out.all ⟨19, [], z59, x55⟩)
     have HKE := qH ((((HK58.out.setCell (p := ⟨R, 0, none⟩) (.inr HRW.out) (.int .i64 19)).setCell (p := ⟨R, 1, none⟩) (.inr HRW.out) (.string ⟨#[]⟩)).setCell (p := ⟨R, 2, none⟩) (.inr HRW.out) (.int .i64 z59)).setCell (p := ⟨R, 3, none⟩) (.inr HRW.out) (.string (bs x55)))
     have HTE := qH (HT58.out.put4 HRL.out (.int .i64 19) (.string ⟨#[]⟩) (.int .i64 z59) (.string (bs x55)))
     go_simp
     clear hHeld t0 t1 t2 t3 ft
     refine hK.out _ _ ⟨HKE.out, ⟨_, HMA.out⟩, ⟨_, by omega, HTE.out⟩⟩ (fun hHeld => ?_)
     try simp only [aP, lA, lB, lC]
     clear hK
     refine wpAnyH_done (by kernel_rfl) ?_ _
     clear hHeld
     go_wp2
     exact tm_end Tryz.results48 (x := ⟨19, [], z59, x55⟩) HMA.out rfl rfl ⟨_, rfl, goodT_mk 19 [] z59 x55 (by decide) Hx55.out (by decide) (by decide), ⟨_, by omega, HTE.out⟩, HKE.out⟩
  ·
   go_simp
   obtain ⟨V61, hV61⟩ : ∃ V, V0.alloc (.cells #[.string ⟨#[48, 54, 54, 48]⟩, .string ⟨#[54, 54, 54]⟩, .string ⟨#[57]⟩, .string ⟨#[36, 114, 101, 115, 117, 108, 116]⟩] 9) = V := ⟨_, rfl⟩
   obtain ⟨q60, hq60⟩ : ∃ b, V0.heap.size = b := ⟨_, rfl⟩
   have hk61 : Kp [] V0 V61 := by rw [← hV61]; exact (Kp.refl [] _).alloc _
   have HBq60 := qH (show V61.heap[q60]? = some (.cells #[.string ⟨#[48, 54, 54, 48]⟩, .string ⟨#[54, 54, 54]⟩, .string ⟨#[57]⟩, .string ⟨#[36, 114, 101, 115, 117, 108, 116]⟩] 9 (0, 0)) by rw [← hV61, ← hq60]; exact heap_alloc_last _ _)
   have HLq60 := qH (show tb < q60 by have := HT0.out.lt; omega)
   have HK61 := qH (HK0.out.upT hk61)
   have HM61 := qH (HM0.out.kp hk61 (by simp))
   have HT61 := qH (HT0.out.kp hk61 (by simp))
   rw [hV61, hq60]
   clear hHeld hk61 hV61 hq60
   refine hK.out _ _ ⟨HK61.out, ⟨_, HM61.out⟩, ⟨_, by omega, HT61.out⟩⟩ (fun hHeld => ?_)
   try simp only [aP, lA, lB, lC]
   clear hK
   refine wpAnyH_ready (rs := [0, 2]) (by kernel_rfl) (by simp) ?_
   refine AllReadyH.cons (o := ⟨some 61, .buildSlice 22 2 #[(0, .const (.int .i64 3)), (1, .const (.int .i64 6))], 22, "rule.go:66", #[], none⟩) rfl (fun K hK => ?_) (AllReadyH.cons (o := ⟨some 63, .call { callee := .value (.func 16), args := #[.tmp 62, .const (.int .i64 2)], argTypes := #[25, 3] }, 3, "rule.go:66", #[⟨1, .data⟩], none⟩) rfl (fun K hK => ?_) AllReadyH.nil)
   ·
    go_simp
    obtain ⟨V63, hV63⟩ : ∃ V, V61.alloc (.cells #[.int .i64 3, .int .i64 6] 3) = V := ⟨_, rfl⟩
    obtain ⟨q62, hq62⟩ : ∃ b, V61.heap.size = b := ⟨_, rfl⟩
    have hk63 : Kp [] V61 V63 := by rw [← hV63]; exact (Kp.refl [] _).alloc _
    have HBq62 := qH (show V63.heap[q62]? = some (.cells #[.int .i64 3, .int .i64 6] 3 (0, 0)) by rw [← hV63, ← hq62]; exact heap_alloc_last _ _)
    have HLq62 := qH (show tb < q62 by have := HT61.out.lt; omega)
    have HK63 := qH (HK61.out.upT hk63)
    have HM63 := qH (HM61.out.kp hk63 (by simp))
    have HT63 := qH (HT61.out.kp hk63 (by simp))
    have HBq60 := qH ((hk63.block _ (block_lt HBq60.out) (by simp)).trans HBq60.out)
    rw [hV63, hq62]
    clear hHeld hk63 hV63 hq62
    refine hK.out _ _ ⟨HK63.out, ⟨_, HM63.out⟩, ⟨_, by omega, HT63.out⟩⟩ (fun hHeld => ?_)
    try simp only [aP, lA, lB, lC]
    clear hK
    refine wpAnyH_ready (rs := [2]) (by kernel_rfl) (by simp) ?_
    refine AllReadyH.cons (o := ⟨some 63, .call { callee := .value (.func 16), args := #[.tmp 62, .const (.int .i64 2)], argTypes := #[25, 3] }, 3, "rule.go:66", #[⟨1, .data⟩], none⟩) rfl (fun K hK => ?_) AllReadyH.nil
    go_simp
    go_at_call 16
    refine cM (by with_reducible exact nextL2 (by omega) HT63.out) ?_
    rintro e V65 ⟨r64, hr64, rfl, ht, hkp⟩
    dsimp only
    have Hr64 := qH hr64
    have HK65 := qH (HK63.out.trans hkp)
    have HM65 := qH (HM63.out.kp hkp (by simp; exact HRT.out))
    have HT65 := qH ht
    have HBq62 := qH ((hkp.block _ (block_lt HBq62.out) (by have := HLq62.out; simp; omega)).trans HBq62.out)
    have HBq60 := qH ((hkp.block _ (block_lt HBq60.out) (by have := HLq60.out; simp; omega)).trans HBq60.out)
    clear hHeld ht hkp hr64
    refine hK.out _ _ ⟨HK65.out, ⟨_, HM65.out⟩, ⟨_, by omega, HT65.out⟩⟩ (fun hHeld => ?_)
    try simp only [aP, lA, lB, lC]
    clear hK
    refine wpAnyH_take (i := 3) (oi := ⟨some 64, .indexAddr 22 (.tmp 61) (.tmp 63), 0, "rule.go:66", #[⟨0, .data⟩, ⟨2, .data⟩], none⟩) (v := .pointer (some ⟨q62, r64, none⟩)) rfl (by kernel_rfl) (by kernel_rfl) (by kernel_rfl) (fun _ _ _ h => h) (Or.inl ⟨by rfl, fun w hSw => by (try dsimp only at hSw); have hq1 : ((r64 : Nat) : Int) < 2 := (by have := Hr64.out; omega); go_simp⟩) hHeld ?_
    try simp only [aP, lA, lB, lC]
    refine wpAnyH_ready (rs := [4, 7]) (by kernel_rfl) (by simp) ?_
    refine AllReadyH.cons (o := ⟨some 65, .load 3 (.tmp 64), 3, "rule.go:66", #[⟨3, .data⟩], none⟩) rfl (fun K hK => ?_) (AllReadyH.cons (o := ⟨some 68, .call { callee := .value (.func 20), args := #[.tmp 66, .tmp 67], argTypes := #[25, 52] }, 9, "rule.go:66", #[⟨5, .data⟩, ⟨6, .data⟩, ⟨2, .chain⟩], none⟩) rfl (fun K hK => ?_) AllReadyH.nil)
    ·
     obtain ⟨z66, hz1, hz2, hz3⟩ := ints2 Hr64.out HBq62.out
     have HZz66 := qH (And.intro hz1 hz2)
     clear hz1 hz2
     go_simp
     clear hHeld hz3
     refine hK.out _ _ ⟨HK65.out, ⟨_, HM65.out⟩, ⟨_, by omega, HT65.out⟩⟩ (fun hHeld => ?_)
     try simp only [aP, lA, lB, lC]
     clear hK
     refine wpAnyH_ready (rs := [7]) (by kernel_rfl) (by simp) ?_
     refine AllReadyH.cons (o := ⟨some 68, .call { callee := .value (.func 20), args := #[.tmp 66, .tmp 67], argTypes := #[25, 52] }, 9, "rule.go:66", #[⟨5, .data⟩, ⟨6, .data⟩, ⟨2, .chain⟩], none⟩) rfl (fun K hK => ?_) AllReadyH.nil
     go_simp
     go_at_call 20
     refine cM (by with_reducible exact oneB [[48, 54, 54, 48], [54, 54, 54], [57], [36, 114, 101, 115, 117, 108, 116]] 4 (by decide) (by decide) (by decide) (by decide) (by omega) HT65.out HLq60.out HBq60.out HXA.out) ?_
     rintro e V68 ⟨x67, hx67, rfl, ht, hkp⟩
     dsimp only
     have Hx67 := qH hx67
     have HK68 := qH (HK65.out.trans hkp)
     have HM68 := qH (HM65.out.kp hkp (by simp; exact HRT.out))
     have HT68 := qH ht
     have HBq62 := qH ((hkp.block _ (block_lt HBq62.out) (by have := HLq62.out; simp; omega)).trans HBq62.out)
     have HBq60 := qH ((hkp.block _ (block_lt HBq60.out) (by have := HLq60.out; simp; omega)).trans HBq60.out)
     clear hHeld ht hkp hx67
     refine hK.out _ _ ⟨HK68.out, ⟨_, HM68.out⟩, ⟨_, by omega, HT68.out⟩⟩ (fun hHeld => ?_)
     try simp only [aP, lA, lB, lC]
     clear hK
     refine wpAnyH_take (i := 8) (oi := ⟨some 69, .build 46 #[(0, .const (.int .i64 19)), (2, .tmp 65), (3, .tmp 68)], 46, "rule.go:66", #[⟨4, .data⟩, ⟨7, .data⟩], none⟩) (v := .agg #[.int .i64 19, .string ⟨#[]⟩, .int .i64 z66, .string (bs x67)]) rfl (by kernel_rfl) (by kernel_rfl) (by kernel_rfl) (fun _ _ _ h => h) (Or.inl ⟨by rfl, fun w hSw => by (try dsimp only at hSw); go_simp⟩) hHeld ?_
     try simp only [aP, lA, lB, lC]
     refine wpAnyH_ready (rs := [9]) (by kernel_rfl) (by simp) ?_
     refine AllReadyH.cons (o := ⟨none, .store 46 (.tmp 2) (.tmp 69), 0, "rule.go:66", #[⟨8, .data⟩, ⟨7, .chain⟩, ⟨0, .phase⟩, ⟨1, .phase⟩, ⟨2, .phase⟩, ⟨3, .phase⟩, ⟨4, .phase⟩, ⟨5, .phase⟩, ⟨6, .phase⟩, ⟨7, .phase⟩, ⟨8, .phase⟩], none⟩) rfl (fun K hK => ?_) AllReadyH.nil
     obtain ⟨t0, t1, t2, t3⟩ := HM68.out.cells
     have ft := fun o => HM68.out.frz (o := o)
     have HMA := qH (HM68.out.all ⟨19, [], z66, x67⟩)
     have HKE := qH ((((HK68.out.setCell (p := ⟨R, 0, none⟩) (.inr HRW.out) (.int .i64 19)).setCell (p := ⟨R, 1, none⟩) (.inr HRW.out) (.string ⟨#[]⟩)).setCell (p := ⟨R, 2, none⟩) (.inr HRW.out) (.int .i64 z66)).setCell (p := ⟨R, 3, none⟩) (.inr HRW.out) (.string (bs x67)))
     have HTE := qH (HT68.out.put4 HRL.out (.int .i64 19) (.string ⟨#[]⟩) (.int .i64 z66) (.string (bs x67)))
     go_simp
     clear hHeld t0 t1 t2 t3 ft
     refine hK.out _ _ ⟨HKE.out, ⟨_, HMA.out⟩, ⟨_, by omega, HTE.out⟩⟩ (fun hHeld => ?_)
     try simp only [aP, lA, lB, lC]
     clear hK
     refine wpAnyH_done (by kernel_rfl) ?_ _
     clear hHeld
     go_wp2
     exact tm_end Tryz.results48 (x := ⟨19, [], z66, x67⟩) HMA.out rfl rfl ⟨_, rfl, goodT_mk 19 [] z66 x67 (by decide) Hx67.out (by decide) (by decide), ⟨_, by omega, HTE.out⟩, HKE.out⟩
    ·
     go_simp
     go_at_call 20
     refine cM (by with_reducible exact oneB [[48, 54, 54, 48], [54, 54, 54], [57], [36, 114, 101, 115, 117, 108, 116]] 4 (by decide) (by decide) (by decide) (by decide) (by omega) HT65.out HLq60.out HBq60.out HXA.out) ?_
     rintro e V70 ⟨x69, hx69, rfl, ht, hkp⟩
     dsimp only
     have Hx69 := qH hx69
     have HK70 := qH (HK65.out.trans hkp)
     have HM70 := qH (HM65.out.kp hkp (by simp; exact HRT.out))
     have HT70 := qH ht
     have HBq62 := qH ((hkp.block _ (block_lt HBq62.out) (by have := HLq62.out; simp; omega)).trans HBq62.out)
     have HBq60 := qH ((hkp.block _ (block_lt HBq60.out) (by have := HLq60.out; simp; omega)).trans HBq60.out)
     clear hHeld ht hkp hx69
     refine hK.out _ _ ⟨HK70.out, ⟨_, HM70.out⟩, ⟨_, by omega, HT70.out⟩⟩ (fun hHeld => ?_)
     try simp only [aP, lA, lB, lC]
     clear hK
     refine wpAnyH_ready (rs := [4]) (by kernel_rfl) (by simp) ?_
     refine AllReadyH.cons (o := ⟨some 65, .load 3 (.tmp 64), 3, "rule.go:66", #[⟨3, .data⟩], none⟩) rfl (fun K hK => ?_) AllReadyH.nil
     obtain ⟨z71, hz1, hz2, hz3⟩ := ints2 Hr64.out HBq62.out
     have HZz71 := qH (And.intro hz1 hz2)
     clear hz1 hz2
     go_simp
     clear hHeld hz3
     refine hK.out _ _ ⟨HK70.out, ⟨_, HM70.out⟩, ⟨_, by omega, HT70.out⟩⟩ (fun hHeld => ?_)
     try simp only [aP, lA, lB, lC]
     clear hK
     refine wpAnyH_take (i := 8) (oi := ⟨some 69, .build 46 #[(0, .const (.int .i64 19)), (2, .tmp 65), (3, .tmp 68)], 46, "rule.go:66", #[⟨4, .data⟩, ⟨7, .data⟩], none⟩) (v := .agg #[.int .i64 19, .string ⟨#[]⟩, .int .i64 z71, .string (bs x69)]) rfl (by kernel_rfl) (by kernel_rfl) (by kernel_rfl) (fun _ _ _ h => h) (Or.inl ⟨by rfl, fun w hSw => by (try dsimp only at hSw); go_simp⟩) hHeld ?_
     try simp only [aP, lA, lB, lC]
     refine wpAnyH_ready (rs := [9]) (by kernel_rfl) (by simp) ?_
     refine AllReadyH.cons (o := ⟨none, .store 46 (.tmp 2) (.tmp 69), 0, "rule.go:66", #[⟨8, .data⟩, ⟨7, .chain⟩, ⟨0, .phase⟩, ⟨1, .phase⟩, ⟨2, .phase⟩, ⟨3, .phase⟩, ⟨4, .phase⟩, ⟨5, .phase⟩, ⟨6, .phase⟩, ⟨7, .phase⟩, ⟨8, .phase⟩], none⟩) rfl (fun K hK => ?_) AllReadyH.nil
     obtain ⟨t0, t1, t2, t3⟩ := HM70.out.cells
     have ft := fun o => HM70.out.frz (o := o)
     have HMA := qH (HM70.out.all ⟨19, [], z71, x69⟩)
     have HKE := qH ((((HK70.out.setCell (p := ⟨R, 0, none⟩) (.inr HRW.out) (.int .i64 19)).setCell (p := ⟨R, 1, none⟩) (.inr HRW.out) (.string ⟨#[]⟩)).setCell (p := ⟨R, 2, none⟩) (.inr HRW.out) (.int .i64 z71)).setCell (p := ⟨R, 3, none⟩) (.inr HRW.out) (.string (bs x69)))
     have HTE := qH (HT70.out.put4 HRL.out (.int .i64 19) (.string ⟨#[]⟩) (.int .i64 z71) (.string (bs x69)))
     go_simp
     clear hHeld t0 t1 t2 t3 ft
     refine hK.out _ _ ⟨HKE.out, ⟨_, HMA.out⟩, ⟨_, by omega, HTE.out⟩⟩ (fun hHeld => ?_)
     try simp only [aP, lA, lB, lC]
     clear hK
     refine wpAnyH_done (by kernel_rfl) ?_ _
     clear hHeld
     go_wp2
     exact tm_end Tryz.results48 (x := ⟨19, [], z71, x69⟩) HMA.out rfl rfl ⟨_, rfl, goodT_mk 19 [] z71 x69 (by decide) Hx69.out (by decide) (by decide), ⟨_, by omega, HTE.out⟩, HKE.out⟩
   ·
    go_simp
    go_at_call 16
    refine cM (by with_reducible exact nextL2 (by omega) HT61.out) ?_
    rintro e V73 ⟨r72, hr72, rfl, ht, hkp⟩
    dsimp only
    have Hr72 := qH hr72
    have HK73 := qH (HK61.out.trans hkp)
    have HM73 := qH (HM61.out.kp hkp (by simp; exact HRT.out))
    have HT73 := qH ht
    have HBq60 := qH ((hkp.block _ (block_lt HBq60.out) (by have := HLq60.out; simp; omega)).trans HBq60.out)
    clear hHeld ht hkp hr72
    refine hK.out _ _ ⟨HK73.out, ⟨_, HM73.out⟩, ⟨_, by omega, HT73.out⟩⟩ (fun hHeld => ?_)
    try simp only [aP, lA, lB, lC]
    clear hK
    refine wpAnyH_ready (rs := [0, 7]) (by kernel_rfl) (by simp) ?_
    refine AllReadyH.cons (o := ⟨some 61, .buildSlice 22 2 #[(0, .const (.int .i64 3)), (1, .const (.int .i64 6))], 22, "rule.go:66", #[], none⟩) rfl (fun K hK => ?_) (AllReadyH.cons (o := ⟨some 68, .call { callee := .value (.func 20), args := #[.tmp 66, .tmp 67], argTypes := #[25, 52] }, 9, "rule.go:66", #[⟨5, .data⟩, ⟨6, .data⟩, ⟨2, .chain⟩], none⟩) rfl (fun K hK => ?_) AllReadyH.nil)
    ·
     go_simp
     obtain ⟨V75, hV75⟩ : ∃ V, V73.alloc (.cells #[.int .i64 3, .int .i64 6] 3) = V := ⟨_, rfl⟩
     obtain ⟨q74, hq74⟩ : ∃ b, V73.heap.size = b := ⟨_, rfl⟩
     have hk75 : Kp [] V73 V75 := by rw [← hV75]; exact (Kp.refl [] _).alloc _
     have HBq74 := qH (show V75.heap[q74]? = some (.cells #[.int .i64 3, .int .i64 6] 3 (0, 0)) by rw [← hV75, ← hq74]; exact heap_alloc_last _ _)
     have HLq74 := qH (show tb < q74 by have := HT73.out.lt; omega)
     have HK75 := qH (HK73.out.upT hk75)
     have HM75 := qH (HM73.out.kp hk75 (by simp))
     have HT75 := qH (HT73.out.kp hk75 (by simp))
     have HBq60 := qH ((hk75.block _ (block_lt HBq60.out) (by simp)).trans HBq60.out)
     rw [hV75, hq74]
     clear hHeld hk75 hV75 hq74
     refine hK.out _ _ ⟨HK75.out, ⟨_, HM75.out⟩, ⟨_, by omega, HT75.out⟩⟩ (fun hHeld => ?_)
     try simp only [aP, lA, lB, lC]
     clear hK
     refine wpAnyH_take (i := 3) (oi := ⟨some 64, .indexAddr 22 (.tmp 61) (.tmp 63), 0, "rule.go:66", #[⟨0, .data⟩, ⟨2, .data⟩], none⟩) (v := .pointer (some ⟨q74, r72, none⟩)) rfl (by kernel_rfl) (by kernel_rfl) (by kernel_rfl) (fun _ _ _ h => h) (Or.inl ⟨by rfl, fun w hSw => by (try dsimp only at hSw); have hq1 : ((r72 : Nat) : Int) < 2 := (by have := Hr72.out; omega); go_simp⟩) hHeld ?_
     try simp only [aP, lA, lB, lC]
     refine wpAnyH_ready (rs := [4, 7]) (by kernel_rfl) (by simp) ?_
     refine AllReadyH.cons (o := ⟨some 65, .load 3 (.tmp 64), 3, "rule.go:66", #[⟨3, .data⟩], none⟩) rfl (fun K hK => ?_) (AllReadyH.cons (o := ⟨some 68, .call { callee := .value (.func 20), args := #[.tmp 66, .tmp 67], argTypes := #[25, 52] }, 9, "rule.go:66", #[⟨5, .data⟩, ⟨6, .data⟩, ⟨2, .chain⟩], none⟩) rfl (fun K hK => ?_) AllReadyH.nil)
     ·
      obtain ⟨z76, hz1, hz2, hz3⟩ := ints2 Hr72.out HBq74.out
      have HZz76 := qH (And.intro hz1 hz2)
      clear hz1 hz2
      go_simp
      clear hHeld hz3
      refine hK.out _ _ ⟨HK75.out, ⟨_, HM75.out⟩, ⟨_, by omega, HT75.out⟩⟩ (fun hHeld => ?_)
      try simp only [aP, lA, lB, lC]
      clear hK
      refine wpAnyH_ready (rs := [7]) (by kernel_rfl) (by simp) ?_
      refine AllReadyH.cons (o := ⟨some 68, .call { callee := .value (.func 20), args := #[.tmp 66, .tmp 67], argTypes := #[25, 52] }, 9, "rule.go:66", #[⟨5, .data⟩, ⟨6, .data⟩, ⟨2, .chain⟩], none⟩) rfl (fun K hK => ?_) AllReadyH.nil
      go_simp
      go_at_call 20
      refine cM (by with_reducible exact oneB [[48, 54, 54, 48], [54, 54, 54], [57], [36, 114, 101, 115, 117, 108, 116]] 4 (by decide) (by decide) (by decide) (by decide) (by omega) HT75.out HLq60.out HBq60.out HXA.out) ?_
      rintro e V78 ⟨x77, hx77, rfl, ht, hkp⟩
      dsimp only
      have Hx77 := qH hx77
      have HK78 := qH (HK75.out.trans hkp)
      have HM78 := qH (HM75.out.kp hkp (by simp; exact HRT.out))
      have HT78 := qH ht
      have HBq74 := qH ((hkp.block _ (block_lt HBq74.out) (by have := HLq74.out; simp; omega)).trans HBq74.out)
      have HBq60 := qH ((hkp.block _ (block_lt HBq60.out) (by have := HLq60.out; simp; omega)).trans HBq60.out)
      clear hHeld ht hkp hx77
      refine hK.out _ _ ⟨HK78.out, ⟨_, HM78.out⟩, ⟨_, by omega, HT78.out⟩⟩ (fun hHeld => ?_)
      try simp only [aP, lA, lB, lC]
      clear hK
      refine wpAnyH_take (i := 8) (oi := ⟨some 69, .build 46 #[(0, .const (.int .i64 19)), (2, .tmp 65), (3, .tmp 68)], 46, "rule.go:66", #[⟨4, .data⟩, ⟨7, .data⟩], none⟩) (v := .agg #[.int .i64 19, .string ⟨#[]⟩, .int .i64 z76, .string (bs x77)]) rfl (by kernel_rfl) (by kernel_rfl) (by kernel_rfl) (fun _ _ _ h => h) (Or.inl ⟨by rfl, fun w hSw => by (try dsimp only at hSw); go_simp⟩) hHeld ?_
      try simp only [aP, lA, lB, lC]
      refine wpAnyH_ready (rs := [9]) (by kernel_rfl) (by simp) ?_
      refine AllReadyH.cons (o := ⟨none, .store 46 (.tmp 2) (.tmp 69), 0, "rule.go:66", #[⟨8, .data⟩, ⟨7, .chain⟩, ⟨0, .phase⟩, ⟨1, .phase⟩, ⟨2, .phase⟩, ⟨3, .phase⟩, ⟨4, .phase⟩, ⟨5, .phase⟩, ⟨6, .phase⟩, ⟨7, .phase⟩, ⟨8, .phase⟩], none⟩) rfl (fun K hK => ?_) AllReadyH.nil
      obtain ⟨t0, t1, t2, t3⟩ := HM78.out.cells
      have ft := fun o => HM78.out.frz (o := o)
      have HMA := qH (HM78.out.all ⟨19, [], z76, x77⟩)
      have HKE := qH ((((HK78.out.setCell (p := ⟨R, 0, none⟩) (.inr HRW.out) (.int .i64 19)).setCell (p := ⟨R, 1, none⟩) (.inr HRW.out) (.string ⟨#[]⟩)).setCell (p := ⟨R, 2, none⟩) (.inr HRW.out) (.int .i64 z76)).setCell (p := ⟨R, 3, none⟩) (.inr HRW.out) (.string (bs x77)))
      have HTE := qH (HT78.out.put4 HRL.out (.int .i64 19) (.string ⟨#[]⟩) (.int .i64 z76) (.string (bs x77)))
      go_simp
      clear hHeld t0 t1 t2 t3 ft
      refine hK.out _ _ ⟨HKE.out, ⟨_, HMA.out⟩, ⟨_, by omega, HTE.out⟩⟩ (fun hHeld => ?_)
      try simp only [aP, lA, lB, lC]
      clear hK
      refine wpAnyH_done (by kernel_rfl) ?_ _
      clear hHeld
      go_wp2
      exact tm_end Tryz.results48 (x := ⟨19, [], z76, x77⟩) HMA.out rfl rfl ⟨_, rfl, goodT_mk 19 [] z76 x77 (by decide) Hx77.out (by decide) (by decide), ⟨_, by omega, HTE.out⟩, HKE.out⟩
     ·
      go_simp
      go_at_call 20
      refine cM (by with_reducible exact oneB [[48, 54, 54, 48], [54, 54, 54], [57], [36, 114, 101, 115, 117, 108, 116]] 4 (by decide) (by decide) (by decide) (by decide) (by omega) HT75.out HLq60.out HBq60.out HXA.out) ?_
      rintro e V80 ⟨x79, hx79, rfl, ht, hkp⟩
      dsimp only
      have Hx79 := qH hx79
      have HK80 := qH (HK75.out.trans hkp)
      have HM80 := qH (HM75.out.kp hkp (by simp; exact HRT.out))
      have HT80 := qH ht
      have HBq74 := qH ((hkp.block _ (block_lt HBq74.out) (by have := HLq74.out; simp; omega)).trans HBq74.out)
      have HBq60 := qH ((hkp.block _ (block_lt HBq60.out) (by have := HLq60.out; simp; omega)).trans HBq60.out)
      clear hHeld ht hkp hx79
      refine hK.out _ _ ⟨HK80.out, ⟨_, HM80.out⟩, ⟨_, by omega, HT80.out⟩⟩ (fun hHeld => ?_)
      try simp only [aP, lA, lB, lC]
      clear hK
      refine wpAnyH_ready (rs := [4]) (by kernel_rfl) (by simp) ?_
      refine AllReadyH.cons (o := ⟨some 65, .load 3 (.tmp 64), 3, "rule.go:66", #[⟨3, .data⟩], none⟩) rfl (fun K hK => ?_) AllReadyH.nil
      obtain ⟨z81, hz1, hz2, hz3⟩ := ints2 Hr72.out HBq74.out
      have HZz81 := qH (And.intro hz1 hz2)
      clear hz1 hz2
      go_simp
      clear hHeld hz3
      refine hK.out _ _ ⟨HK80.out, ⟨_, HM80.out⟩, ⟨_, by omega, HT80.out⟩⟩ (fun hHeld => ?_)
      try simp only [aP, lA, lB, lC]
      clear hK
      refine wpAnyH_take (i := 8) (oi := ⟨some 69, .build 46 #[(0, .const (.int .i64 19)), (2, .tmp 65), (3, .tmp 68)], 46, "rule.go:66", #[⟨4, .data⟩, ⟨7, .data⟩], none⟩) (v := .agg #[.int .i64 19, .string ⟨#[]⟩, .int .i64 z81, .string (bs x79)]) rfl (by kernel_rfl) (by kernel_rfl) (by kernel_rfl) (fun _ _ _ h => h) (Or.inl ⟨by rfl, fun w hSw => by (try dsimp only at hSw); go_simp⟩) hHeld ?_
      try simp only [aP, lA, lB, lC]
      refine wpAnyH_ready (rs := [9]) (by kernel_rfl) (by simp) ?_
      refine AllReadyH.cons (o := ⟨none, .store 46 (.tmp 2) (.tmp 69), 0, "rule.go:66", #[⟨8, .data⟩, ⟨7, .chain⟩, ⟨0, .phase⟩, ⟨1, .phase⟩, ⟨2, .phase⟩, ⟨3, .phase⟩, ⟨4, .phase⟩, ⟨5, .phase⟩, ⟨6, .phase⟩, ⟨7, .phase⟩, ⟨8, .phase⟩], none⟩) rfl (fun K hK => ?_) AllReadyH.nil
      obtain ⟨t0, t1, t2, t3⟩ := HM80.out.cells
      have ft := fun o => HM80.out.frz (o := o)
      have HMA := qH (HM80.out.all ⟨19, [], z81, x79⟩)
      have HKE := qH ((((HK80.out.setCell (p := ⟨R, 0, none⟩) (.inr HRW.out) (.int .i64 19)).setCell (p := ⟨R, 1, none⟩) (.inr HRW.out) (.string ⟨#[]⟩)).setCell (p := ⟨R, 2, none⟩) (.inr HRW.out) (.int .i64 z81)).setCell (p := ⟨R, 3, none⟩) (.inr HRW.out) (.string (bs x79)))
      have HTE := qH (HT80.out.put4 HRL.out (.int .i64 19) (.string ⟨#[]⟩) (.int .i64 z81) (.string (bs x79)))
      go_simp
      clear hHeld t0 t1 t2 t3 ft
      refine hK.out _ _ ⟨HKE.out, ⟨_, HMA.out⟩, ⟨_, by omega, HTE.out⟩⟩ (fun hHeld => ?_)
      try simp only [aP, lA, lB, lC]
      clear hK
      refine wpAnyH_done (by kernel_rfl) ?_ _
      clear hHeld
      go_wp2
      exact tm_end Tryz.results48 (x := ⟨19, [], z81, x79⟩) HMA.out rfl rfl ⟨_, rfl, goodT_mk 19 [] z81 x79 (by decide) Hx79.out (by decide) (by decide), ⟨_, by omega, HTE.out⟩, HKE.out⟩
    ·
     go_simp
     go_at_call 20
     refine cM (by with_reducible exact oneB [[48, 54, 54, 48], [54, 54, 54], [57], [36, 114, 101, 115, 117, 108, 116]] 4 (by decide) (by decide) (by decide) (by decide) (by omega) HT73.out HLq60.out HBq60.out HXA.out) ?_
     rintro e V83 ⟨x82, hx82, rfl, ht, hkp⟩
     dsimp only
     have Hx82 := qH hx82
     have HK83 := qH (HK73.out.trans hkp)
     have HM83 := qH (HM73.out.kp hkp (by simp; exact HRT.out))
     have HT83 := qH ht
     have HBq60 := qH ((hkp.block _ (block_lt HBq60.out) (by have := HLq60.out; simp; omega)).trans HBq60.out)
     clear hHeld ht hkp hx82
     refine hK.out _ _ ⟨HK83.out, ⟨_, HM83.out⟩, ⟨_, by omega, HT83.out⟩⟩ (fun hHeld => ?_)
     try simp only [aP, lA, lB, lC]
     clear hK
     refine wpAnyH_ready (rs := [0]) (by kernel_rfl) (by simp) ?_
     refine AllReadyH.cons (o := ⟨some 61, .buildSlice 22 2 #[(0, .const (.int .i64 3)), (1, .const (.int .i64 6))], 22, "rule.go:66", #[], none⟩) rfl (fun K hK => ?_) AllReadyH.nil
     go_simp
     obtain ⟨V85, hV85⟩ : ∃ V, V83.alloc (.cells #[.int .i64 3, .int .i64 6] 3) = V := ⟨_, rfl⟩
     obtain ⟨q84, hq84⟩ : ∃ b, V83.heap.size = b := ⟨_, rfl⟩
     have hk85 : Kp [] V83 V85 := by rw [← hV85]; exact (Kp.refl [] _).alloc _
     have HBq84 := qH (show V85.heap[q84]? = some (.cells #[.int .i64 3, .int .i64 6] 3 (0, 0)) by rw [← hV85, ← hq84]; exact heap_alloc_last _ _)
     have HLq84 := qH (show tb < q84 by have := HT83.out.lt; omega)
     have HK85 := qH (HK83.out.upT hk85)
     have HM85 := qH (HM83.out.kp hk85 (by simp))
     have HT85 := qH (HT83.out.kp hk85 (by simp))
     have HBq60 := qH ((hk85.block _ (block_lt HBq60.out) (by simp)).trans HBq60.out)
     rw [hV85, hq84]
     clear hHeld hk85 hV85 hq84
     refine hK.out _ _ ⟨HK85.out, ⟨_, HM85.out⟩, ⟨_, by omega, HT85.out⟩⟩ (fun hHeld => ?_)
     try simp only [aP, lA, lB, lC]
     clear hK
     refine wpAnyH_take (i := 3) (oi := ⟨some 64, .indexAddr 22 (.tmp 61) (.tmp 63), 0, "rule.go:66", #[⟨0, .data⟩, ⟨2, .data⟩], none⟩) (v := .pointer (some ⟨q84, r72, none⟩)) rfl (by kernel_rfl) (by kernel_rfl) (by kernel_rfl) (fun _ _ _ h => h) (Or.inl ⟨by rfl, fun w hSw => by (try dsimp only at hSw); have hq1 : ((r72 : Nat) : Int) < 2 := (by have := Hr72.out; omega); go_simp⟩) hHeld ?_
     try simp only [aP, lA, lB, lC]
     refine wpAnyH_ready (rs := [4]) (by kernel_rfl) (by simp) ?_
     refine AllReadyH.cons (o := ⟨some 65, .load 3 (.tmp 64), 3, "rule.go:66", #[⟨3, .data⟩], none⟩) rfl (fun K hK => ?_) AllReadyH.nil
     obtain ⟨z86, hz1, hz2, hz3⟩ := ints2 Hr72.out HBq84.out
     have HZz86 := qH (And.intro hz1 hz2)
     clear hz1 hz2
     go_simp
     clear hHeld hz3
     refine hK.out _ _ ⟨HK85.out, ⟨_, HM85.out⟩, ⟨_, by omega, HT85.out⟩⟩ (fun hHeld => ?_)
     try simp only [aP, lA, lB, lC]
     clear hK
     refine wpAnyH_take (i := 8) (oi := ⟨some 69, .build 46 #[(0, .const (.int .i64 19)), (2, .tmp 65), (3, .tmp 68)], 46, "rule.go:66", #[⟨4, .data⟩, ⟨7, .data⟩], none⟩) (v := .agg #[.int .i64 19, .string ⟨#[]⟩, .int .i64 z86, .string (bs x82)]) rfl (by kernel_rfl) (by kernel_rfl) (by kernel_rfl) (fun _ _ _ h => h) (Or.inl ⟨by rfl, fun w hSw => by (try dsimp only at hSw); go_simp⟩) hHeld ?_
     try simp only [aP, lA, lB, lC]
     refine wpAnyH_ready (rs := [9]) (by kernel_rfl) (by simp) ?_
     refine AllReadyH.cons (o := ⟨none, .store 46 (.tmp 2) (.tmp 69), 0, "rule.go:66", #[⟨8, .data⟩, ⟨7, .chain⟩, ⟨0, .phase⟩, ⟨1, .phase⟩, ⟨2, .phase⟩, ⟨3, .phase⟩, ⟨4, .phase⟩, ⟨5, .phase⟩, ⟨6, .phase⟩, ⟨7, .phase⟩, ⟨8, .phase⟩], none⟩) rfl (fun K hK => ?_) AllReadyH.nil
     obtain ⟨t0, t1, t2, t3⟩ := HM85.out.cells
     have ft := fun o => HM85.out.frz (o := o)
     have HMA := qH (HM85.out.all ⟨19, [], z86, x82⟩)
     have HKE := qH ((((HK85.out.setCell (p := ⟨R, 0, none⟩) (.inr HRW.out) (.int .i64 19)).setCell (p := ⟨R, 1, none⟩) (.inr HRW.out) (.string ⟨#[]⟩)).setCell (p := ⟨R, 2, none⟩) (.inr HRW.out) (.int .i64 z86)).setCell (p := ⟨R, 3, none⟩) (.inr HRW.out) (.string (bs x82)))
     have HTE := qH (HT85.out.put4 HRL.out (.int .i64 19) (.string ⟨#[]⟩) (.int .i64 z86) (.string (bs x82)))
     go_simp
     clear hHeld t0 t1 t2 t3 ft
     refine hK.out _ _ ⟨HKE.out, ⟨_, HMA.out⟩, ⟨_, by omega, HTE.out⟩⟩ (fun hHeld => ?_)
     try simp only [aP, lA, lB, lC]
     clear hK
     refine wpAnyH_done (by kernel_rfl) ?_ _
     clear hHeld
     go_wp2
     exact tm_end Tryz.results48 (x := ⟨19, [], z86, x82⟩) HMA.out rfl rfl ⟨_, rfl, goodT_mk 19 [] z86 x82 (by decide) Hx82.out (by decide) (by decide), ⟨_, by omega, HTE.out⟩, HKE.out⟩
 ·go_upto_region 19 with fail
  have HXA := qH (show (#[.string ⟨#[97, 99, 116, 32, 37, 107]⟩, .string ⟨#[]⟩, .string ⟨#[108, 111, 103]⟩] : Array Value) = ([[97, 99, 116, 32, 37, 107], [], [108, 111, 103]].map fun x => Value.string (bs x)).toArray from rfl)
  obtain ⟨V0, hV0⟩ : ∃ V, w3.drew = V := ⟨_, rfl⟩
  have hkd : Kp [] w3 V0 := by rw [← hV0]; exact (Kp.refl [] _).drew 1
  have HK0 := qH (HK.out.upT hkd)
  have HM0 := qH (HR.out.kp hkd (by simp))
  have HT0 := qH (HT.out.kp hkd (by simp))
  clear t0 t1 t2 t3 ft hkd
  refine wp_region_held_drew (S := fun W => Kp [tb] w W ∧ (∃ m, MAt W R m) ∧ Tq W tb (k + 10)) (by kernel_rfl) (by rw [hV0]; exact ⟨HK0.out, ⟨_, HM0.out⟩, ⟨_, by omega, HT0.out⟩⟩) (fun hHeld => ?_)
  rw [hV0] at hHeld ⊢
  clear hV0
  refine wpAnyH_take (i := 1) (oi := ⟨some 73, .move (.tmp 0), 25, "rule.go:68", #[], none⟩) (v := .pointer (some ⟨tb, 0, none⟩)) rfl (by kernel_rfl) (by kernel_rfl) (by kernel_rfl) (fun _ _ _ h => h) (Or.inl ⟨by rfl, fun w hSw => by (try dsimp only at hSw); go_simp⟩) hHeld ?_
  try simp only [aP, lA, lB, lC]
  refine wpAnyH_take (i := 5) (oi := ⟨some 77, .move (.tmp 0), 25, "rule.go:68", #[], none⟩) (v := .pointer (some ⟨tb, 0, none⟩)) rfl (by kernel_rfl) (by kernel_rfl) (by kernel_rfl) (fun _ _ _ h => h) (Or.inl ⟨by rfl, fun w hSw => by (try dsimp only at hSw); go_simp⟩) hHeld ?_
  try simp only [aP, lA, lB, lC]
  refine wpAnyH_ready (rs := [0, 2, 6]) (by kernel_rfl) (by simp) ?_
  refine AllReadyH.cons (o := ⟨some 72, .buildSlice 22 3 #[(0, .const (.int .i64 3)), (1, .const (.int .i64 4)), (2, .const (.int .i64 6))], 22, "rule.go:68", #[], none⟩) rfl (fun K hK => ?_) (AllReadyH.cons (o := ⟨some 74, .call { callee := .value (.func 16), args := #[.tmp 73, .const (.int .i64 3)], argTypes := #[25, 3] }, 3, "rule.go:68", #[⟨1, .data⟩], none⟩) rfl (fun K hK => ?_) (AllReadyH.cons (o := ⟨some 78, .buildSlice 52 3 #[(0, .const (.string { data := #[97, 99, 116, 32, 37, 107] })), (1, .const (.string { data := #[] })), (2, .const (.string { data := #[108, 111, 103] }))], 52, "rule.go:68", #[], none⟩) rfl (fun K hK => ?_) AllReadyH.nil))
  ·
   go_simp
   obtain ⟨V2, hV2⟩ : ∃ V, V0.alloc (.cells #[.int .i64 3, .int .i64 4, .int .i64 6] 3) = V := ⟨_, rfl⟩
   obtain ⟨q1, hq1⟩ : ∃ b, V0.heap.size = b := ⟨_, rfl⟩
   have hk2 : Kp [] V0 V2 := by rw [← hV2]; exact (Kp.refl [] _).alloc _
   have HBq1 := qH (show V2.heap[q1]? = some (.cells #[.int .i64 3, .int .i64 4, .int .i64 6] 3 (0, 0)) by rw [← hV2, ← hq1]; exact heap_alloc_last _ _)
   have HLq1 := qH (show tb < q1 by have := HT0.out.lt; omega)
   have HK2 := qH (HK0.out.upT hk2)
   have HM2 := qH (HM0.out.kp hk2 (by simp))
   have HT2 := qH (HT0.out.kp hk2 (by simp))
   rw [hV2, hq1]
   clear hHeld hk2 hV2 hq1
   refine hK.out _ _ ⟨HK2.out, ⟨_, HM2.out⟩, ⟨_, by omega, HT2.out⟩⟩ (fun hHeld => ?_)
   try simp only [aP, lA, lB, lC]
   clear hK
   refine wpAnyH_ready (rs := [2, 6]) (by kernel_rfl) (by simp) ?_
   refine AllReadyH.cons (o := ⟨some 74, .call { callee := .value (.func 16), args := #[.tmp 73, .const (.int .i64 3)], argTypes := #[25, 3] }, 3, "rule.go:68", #[⟨1, .data⟩], none⟩) rfl (fun K hK => ?_) (AllReadyH.cons (o := ⟨some 78, .buildSlice 52 3 #[(0, .const (.string { data := #[97, 99, 116, 32, 37, 107] })), (1, .const (.string { data := #[] })), (2, .const (.string { data := #[108, 111, 103] }))], 52, "rule.go:68", #[], none⟩) rfl (fun K hK => ?_) AllReadyH.nil)
   ·
    go_simp
    go_at_call 16
    refine cM (by with_reducible exact nextL3 (by omega) HT2.out) ?_
    rintro e V4 ⟨r3, hr3, rfl, ht, hkp⟩
    dsimp only
    have Hr3 := qH hr3
    have HK4 := qH (HK2.out.trans hkp)
    have HM4 := qH (HM2.out.kp hkp (by simp; exact HRT.out))
    have HT4 := qH ht
    have HBq1 := qH ((hkp.block _ (block_lt HBq1.out) (by have := HLq1.out; simp; omega)).trans HBq1.out)
    clear hHeld ht hkp hr3
    refine hK.out _ _ ⟨HK4.out, ⟨_, HM4.out⟩, ⟨_, by omega, HT4.out⟩⟩ (fun hHeld => ?_)
    try simp only [aP, lA, lB, lC]
    clear hK
    refine wpAnyH_take (i := 3) (oi := ⟨some 75, .indexAddr 22 (.tmp 72) (.tmp 74), 0, "rule.go:68", #[⟨0, .data⟩, ⟨2, .data⟩], none⟩) (v := .pointer (some ⟨q1, r3, none⟩)) rfl (by kernel_rfl) (by kernel_rfl) (by kernel_rfl) (fun _ _ _ h => h) (Or.inl ⟨by rfl, fun w hSw => by (try dsimp only at hSw); have hq1 : ((r3 : Nat) : Int) < 3 := (by have := Hr3.out; omega); go_simp⟩) hHeld ?_
    try simp only [aP, lA, lB, lC]
    refine wpAnyH_ready (rs := [4, 6]) (by kernel_rfl) (by simp) ?_
    refine AllReadyH.cons (o := ⟨some 76, .load 3 (.tmp 75), 3, "rule.go:68", #[⟨3, .data⟩], none⟩) rfl (fun K hK => ?_) (AllReadyH.cons (o := ⟨some 78, .buildSlice 52 3 #[(0, .const (.string { data := #[97, 99, 116, 32, 37, 107] })), (1, .const (.string { data := #[] })), (2, .const (.string { data := #[108, 111, 103] }))], 52, "rule.go:68", #[], none⟩) rfl (fun K hK => ?_) AllReadyH.nil)
    ·
     obtain ⟨z5, hz1, hz2, hz3⟩ := ints3 Hr3.out HBq1.out
     have HZz5 := qH (And.intro hz1 hz2)
     clear hz1 hz2
     go_simp
     clear hHeld hz3
     refine hK.out _ _ ⟨HK4.out, ⟨_, HM4.out⟩, ⟨_, by omega, HT4.out⟩⟩ (fun hHeld => ?_)
     try simp only [aP, lA, lB, lC]
     clear hK
     refine wpAnyH_ready (rs := [6]) (by kernel_rfl) (by simp) ?_
     refine AllReadyH.cons (o := ⟨some 78, .buildSlice 52 3 #[(0, .const (.string { data := #[97, 99, 116, 32, 37, 107] })), (1, .const (.string { data := #[] })), (2, .const (.string { data := #[108, 111, 103] }))], 52, "rule.go:68", #[], none⟩) rfl (fun K hK => ?_) AllReadyH.nil
     go_simp
     obtain ⟨V7, hV7⟩ : ∃ V, V4.alloc (.cells #[.string ⟨#[97, 99, 116, 32, 37, 107]⟩, .string ⟨#[]⟩, .string ⟨#[108, 111, 103]⟩] 9) = V := ⟨_, rfl⟩
     obtain ⟨q6, hq6⟩ : ∃ b, V4.heap.size = b := ⟨_, rfl⟩
     have hk7 : Kp [] V4 V7 := by rw [← hV7]; exact (Kp.refl [] _).alloc _
     have HBq6 := qH (show V7.heap[q6]? = some (.cells #[.string ⟨#[97, 99, 116, 32, 37, 107]⟩, .string ⟨#[]⟩, .string ⟨#[108, 111, 103]⟩] 9 (0, 0)) by rw [← hV7, ← hq6]; exact heap_alloc_last _ _)
     have HLq6 := qH (show tb < q6 by have := HT4.out.lt; omega)
     have HK7 := qH (HK4.out.upT hk7)
     have HM7 := qH (HM4.out.kp hk7 (by simp))
     have HT7 := qH (HT4.out.kp hk7 (by simp))
     have HBq1 := qH ((hk7.block _ (block_lt HBq1.out) (by simp)).trans HBq1.out)
     rw [hV7, hq6]
     clear hHeld hk7 hV7 hq6
     refine hK.out _ _ ⟨HK7.out, ⟨_, HM7.out⟩, ⟨_, by omega, HT7.out⟩⟩ (fun hHeld => ?_)
     try simp only [aP, lA, lB, lC]
     clear hK
     refine wpAnyH_ready (rs := [7]) (by kernel_rfl) (by simp) ?_
     refine AllReadyH.cons (o := ⟨some 79, .call { callee := .value (.func 20), args := #[.tmp 77, .tmp 78], argTypes := #[25, 52] }, 9, "rule.go:68", #[⟨5, .data⟩, ⟨6, .data⟩, ⟨2, .chain⟩], none⟩) rfl (fun K hK => ?_) AllReadyH.nil
     go_simp
     go_at_call 20
     refine cM (by with_reducible exact oneB [[97, 99, 116, 32, 37, 107], [], [108, 111, 103]] 3 (by decide) (by decide) (by decide) (by decide) (by omega) HT7.out HLq6.out HBq6.out HXA.out) ?_
     rintro e V9 ⟨x8, hx8, rfl, ht, hkp⟩
     dsimp only
     have Hx8 := qH hx8
     have HK9 := qH (HK7.out.trans hkp)
     have HM9 := qH (HM7.out.kp hkp (by simp; exact HRT.out))
     have HT9 := qH ht
     have HBq1 := qH ((hkp.block _ (block_lt HBq1.out) (by have := HLq1.out; simp; omega)).trans HBq1.out)
     have HBq6 := qH ((hkp.block _ (block_lt HBq6.out) (by have := HLq6.out; simp; omega)).trans HBq6.out)
     clear hHeld ht hkp hx8
     refine hK.out _ _ ⟨HK9.out, ⟨_, HM9.out⟩, ⟨_, by omega, HT9.out⟩⟩ (fun hHeld => ?_)
     try simp only [aP, lA, lB, lC]
     clear hK
     refine wpAnyH_take (i := 8) (oi := ⟨some 80, .build 46 #[(0, .const (.int .i64 20)), (2, .tmp 76), (3, .tmp 79)], 46, "rule.go:68", #[⟨4, .data⟩, ⟨7, .data⟩], none⟩) (v := .agg #[.int .i64 20, .string ⟨#[]⟩, .int .i64 z5, .string (bs x8)]) rfl (by kernel_rfl) (by kernel_rfl) (by kernel_rfl) (fun _ _ _ h => h) (Or.inl ⟨by rfl, fun w hSw => by (try dsimp only at hSw); go_simp⟩) hHeld ?_
     try simp only [aP, lA, lB, lC]
     refine wpAnyH_ready (rs := [9]) (by kernel_rfl) (by simp) ?_
     refine AllReadyH.cons (o := ⟨none, .store 46 (.tmp 2) (.tmp 80), 0, "rule.go:68", #[⟨8, .data⟩, ⟨7, .chain⟩, ⟨0, .phase⟩, ⟨1, .phase⟩, ⟨2, .phase⟩, ⟨3, .phase⟩, ⟨4, .phase⟩, ⟨5, .phase⟩, ⟨6, .phase⟩, ⟨7, .phase⟩, ⟨8, .phase⟩], none⟩) rfl (fun K hK => ?_) AllReadyH.nil
     obtain ⟨t0, t1, t2, t3⟩ := HM9.out.cells
     have ft := fun o => HM9.out.frz (o := o)
     have HMA := qH (HM9.out.all ⟨20, [], z5, x8⟩)
     have HKE := qH ((((HK9.out.setCell (p := ⟨R, 0, none⟩) (.inr HRW.out) (.int .i64 20)).setCell (p := ⟨R, 1, none⟩) (.inr HRW.out) (.string ⟨#[]⟩)).setCell (p := ⟨R, 2, none⟩) (.inr HRW.out) (.int .i64 z5)).setCell (p := ⟨R, 3, none⟩) (.inr HRW.out) (.string (bs x8)))
     have HTE := qH (HT9.out.put4 HRL.out (.int .i64 20) (.string ⟨#[]⟩) (.int .i64 z5) (.string (bs x8)))
     go_simp
     clear hHeld t0 t1 t2 t3 ft
     refine hK.out _ _ ⟨HKE.out, ⟨_, HMA.out⟩, ⟨_, by omega, HTE.out⟩⟩ (fun hHeld => ?_)
     try simp only [aP, lA, lB, lC]
     clear hK
     refine wpAnyH_done (by kernel_rfl) ?_ _
     clear hHeld
     go_wp2
     exact tm_end Tryz.results48 (x := ⟨20, [], z5, x8⟩) HMA.out rfl rfl ⟨_, rfl, goodT_mk 20 [] z5 x8 (by decide) Hx8.out (by decide) (by decide), ⟨_, by omega, HTE.out⟩, HKE.out⟩
    ·
     go_simp
     obtain ⟨V11, hV11⟩ : ∃ V, V4.alloc (.cells #[.string ⟨#[97, 99, 116, 32, 37, 107]⟩, .string ⟨#[]⟩, .string ⟨#[108, 111, 103]⟩] 9) = V := ⟨_, rfl⟩
     obtain ⟨q10, hq10⟩ : ∃ b, V4.heap.size = b := ⟨_, rfl⟩
     have hk11 : Kp [] V4 V11 := by rw [← hV11]; exact (Kp.refl [] _).alloc _
     have HBq10 := qH (show V11.heap[q10]? = some (.cells #[.string ⟨#[97, 99, 116, 32, 37, 107]⟩, .string ⟨#[]⟩, .string ⟨#[108, 111, 103]⟩] 9 (0, 0)) by rw [← hV11, ← hq10]; exact heap_alloc_last _ _)
     have HLq10 := qH (show tb < q10 by have := HT4.out.lt; omega)
     have HK11 := qH (HK4.out.upT hk11)
     have HM11 := qH (HM4.out.kp hk11 (by simp))
     have HT11 := qH (HT4.out.kp hk11 (by simp))
     have HBq1 := qH ((hk11.block _ (block_lt HBq1.out) (by simp)).trans HBq1.out)
     rw [hV11, hq10]
     clear hHeld hk11 hV11 hq10
     refine hK.out _ _ ⟨HK11.out, ⟨_, HM11.out⟩, ⟨_, by omega, HT11.out⟩⟩ (fun hHeld => ?_)
     try simp only [aP, lA, lB, lC]
     clear hK
     refine wpAnyH_ready (rs := [4, 7]) (by kernel_rfl) (by simp) ?_
     refine AllReadyH.cons (o := ⟨some 76, .load 3 (.tmp 75), 3, "rule.go:68", #[⟨3, .data⟩], none⟩) rfl (fun K hK => ?_) (AllReadyH.cons (o := ⟨some 79, .call { callee := .value (.func 20), args := #[.tmp 77, .tmp 78], argTypes := #[25, 52] }, 9, "rule.go:68", #[⟨5, .data⟩, ⟨6, .data⟩, ⟨2, .chain⟩], none⟩) rfl (fun K hK => ?_) AllReadyH.nil)
     ·
      obtain ⟨z12, hz1, hz2, hz3⟩ := ints3 Hr3.out HBq1.out
      have HZz12 := qH (And.intro hz1 hz2)
      clear hz1 hz2
      go_simp
      clear hHeld hz3
      refine hK.out _ _ ⟨HK11.out, ⟨_, HM11.out⟩, ⟨_, by omega, HT11.out⟩⟩ (fun hHeld => ?_)
      try simp only [aP, lA, lB, lC]
      clear hK
      refine wpAnyH_ready (rs := [7]) (by kernel_rfl) (by simp) ?_
      refine AllReadyH.cons (o := ⟨some 79, .call { callee := .value (.func 20), args := #[.tmp 77, .tmp 78], argTypes := #[25, 52] }, 9, "rule.go:68", #[⟨5, .data⟩, ⟨6, .data⟩, ⟨2, .chain⟩], none⟩) rfl (fun K hK => ?_) AllReadyH.nil
      go_simp
      go_at_call 20
      refine cM (by with_reducible exact oneB [[97, 99, 116, 32, 37, 107], [], [108, 111, 103]] 3 (by decide) (by decide) (by decide) (by decide) (by omega) HT11.out HLq10.out HBq10.out HXA.out) ?_
      rintro e V14 ⟨x13, hx13, rfl, ht, hkp⟩
      dsimp only
      have Hx13 := qH hx13
      have HK14 := qH (HK11.out.trans hkp)
      have HM14 := qH (HM11.out.kp hkp (by simp; exact HRT.out))
      have HT14 := qH ht
      have HBq1 := qH ((hkp.block _ (block_lt HBq1.out) (by have := HLq1.out; simp; omega)).trans HBq1.out)
      have HBq10 := qH ((hkp.block _ (block_lt HBq10.out) (by have := HLq10.out; simp; omega)).trans HBq10.out)
      clear hHeld ht hkp hx13
      refine hK.out _ _ ⟨HK14.out, ⟨_, HM14.out⟩, ⟨_, by omega, HT14.out⟩⟩ (fun hHeld => ?_)
      try simp only [aP, lA, lB, lC]
      clear hK
      refine wpAnyH_take (i := 8) (oi := ⟨some 80, .build 46 #[(0, .const (.int .i64 20)), (2, .tmp 76), (3, .tmp 79)], 46, "rule.go:68", #[⟨4, .data⟩, ⟨7, .data⟩], none⟩) (v := .agg #[.int .i64 20, .string ⟨#[]⟩, .int .i64 z12, .string (bs x13)]) rfl (by kernel_rfl) (by kernel_rfl) (by kernel_rfl) (fun _ _ _ h => h) (Or.inl ⟨by rfl, fun w hSw => by (try dsimp only at hSw); go_simp⟩) hHeld ?_
      try simp only [aP, lA, lB, lC]
      refine wpAnyH_ready (rs := [9]) (by kernel_rfl) (by simp) ?_
      refine AllReadyH.cons (o := ⟨none, .store 46 (.tmp 2) (.tmp 80), 0, "rule.go:68", #[⟨8, .data⟩, ⟨7, .chain⟩, ⟨0, .phase⟩, ⟨1, .phase⟩, ⟨2, .phase⟩, ⟨3, .phase⟩, ⟨4, .phase⟩, ⟨5, .phase⟩, ⟨6, .phase⟩, ⟨7, .phase⟩, ⟨8, .phase⟩], none⟩) rfl (fun K hK => ?_) AllReadyH.nil
      obtain ⟨t0, t1, t2, t3⟩ := HM14.out.cells
      have ft := fun o => HM14.out.frz (o := o)
      have HMA := qH (HM14.out.all ⟨20, [], z12, x13⟩)
      have HKE := qH ((((HK14.out.setCell (p := ⟨R, 0, none⟩) (.inr HRW.out) (.int .i64 20)).setCell (p := ⟨R, 1, none⟩) (.inr HRW.out) (.string ⟨#[]⟩)).setCell (p := ⟨R, 2, none⟩) (.inr HRW.out) (.int .i64 z12)).setCell (p := ⟨R, 3, none⟩) (.inr HRW.out) (.string (bs x13)))
      have HTE := qH (HT14.out.put4 HRL.out (.int .i64 20) (.string ⟨#[]⟩) (.int .i64 z12) (.string (bs x13)))
      go_simp
      clear hHeld t0 t1 t2 t3 ft
      refine hK.out _ _ ⟨HKE.out, ⟨_, HMA.out⟩, ⟨_, by omega, HTE.out⟩⟩ (fun hHeld => ?_)
      try simp only [aP, lA, lB, lC]
      clear hK
      refine wpAnyH_done (by kernel_rfl) ?_ _
      clear hHeld
      go_wp2
      exact tm_end Tryz.results48 (x := ⟨20, [], z12, x13⟩) HMA.out rfl rfl ⟨_, rfl, goodT_mk 20 [] z12 x13 (by decide) Hx13.out (by decide) (by decide), ⟨_, by omega, HTE.out⟩, HKE.out⟩
     ·
      go_simp
      go_at_call 20
      refine cM (by with_reducible exact oneB [[97, 99, 116, 32, 37, 107], [], [108, 111, 103]] 3 (by decide) (by decide) (by decide) (by decide) (by omega) HT11.out HLq10.out HBq10.out HXA.out) ?_
      rintro e V16 ⟨x15, hx15, rfl, ht, hkp⟩
      dsimp only
      have Hx15 := qH hx15
      have HK16 := qH (HK11.out.trans hkp)
      have HM16 := qH (HM11.out.kp hkp (by simp; exact HRT.out))
      have HT16 := qH ht
      have HBq1 := qH ((hkp.block _ (block_lt HBq1.out) (by have := HLq1.out; simp; omega)).trans HBq1.out)
      have HBq10 := qH ((hkp.block _ (block_lt HBq10.out) (by have := HLq10.out; simp; omega)).trans HBq10.out)
      clear hHeld ht hkp hx15
      refine hK.out _ _ ⟨HK16.out, ⟨_, HM16.out⟩, ⟨_, by omega, HT16.out⟩⟩ (fun hHeld => ?_)
      try simp only [aP, lA, lB, lC]
      clear hK
      refine wpAnyH_ready (rs := [4]) (by kernel_rfl) (by simp) ?_
      refine AllReadyH.cons (o := ⟨some 76, .load 3 (.tmp 75), 3, "rule.go:68", #[⟨3, .data⟩], none⟩) rfl (fun K hK => ?_) AllReadyH.nil
      obtain ⟨z17, hz1, hz2, hz3⟩ := ints3 Hr3.out HBq1.out
      have HZz17 := qH (And.intro hz1 hz2)
      clear hz1 hz2
      go_simp
      clear hHeld hz3
      refine hK.out _ _ ⟨HK16.out, ⟨_, HM16.out⟩, ⟨_, by omega, HT16.out⟩⟩ (fun hHeld => ?_)
      try simp only [aP, lA, lB, lC]
      clear hK
      refine wpAnyH_take (i := 8) (oi := ⟨some 80, .build 46 #[(0, .const (.int .i64 20)), (2, .tmp 76), (3, .tmp 79)], 46, "rule.go:68", #[⟨4, .data⟩, ⟨7, .data⟩], none⟩) (v := .agg #[.int .i64 20, .string ⟨#[]⟩, .int .i64 z17, .string (bs x15)]) rfl (by kernel_rfl) (by kernel_rfl) (by kernel_rfl) (fun _ _ _ h => h) (Or.inl ⟨by rfl, fun w hSw => by (try dsimp only at hSw); go_simp⟩) hHeld ?_
      try simp only [aP, lA, lB, lC]
      refine wpAnyH_ready (rs := [9]) (by kernel_rfl) (by simp) ?_
      refine AllReadyH.cons (o := ⟨none, .store 46 (.tmp 2) (.tmp 80), 0, "rule.go:68", #[⟨8, .data⟩, ⟨7, .chain⟩, ⟨0, .phase⟩, ⟨1, .phase⟩, ⟨2, .phase⟩, ⟨3, .phase⟩, ⟨4, .phase⟩, ⟨5, .phase⟩, ⟨6, .phase⟩, ⟨7, .phase⟩, ⟨8, .phase⟩], none⟩) rfl (fun K hK => ?_) AllReadyH.nil
      obtain ⟨t0, t1, t2, t3⟩ := HM16.out.cells
      have ft := fun o => HM16.out.frz (o := o)
      have HMA := qH (HM16.out.all ⟨20, [], z17, x15⟩)
      have HKE := qH ((((HK16.out.setCell (p := ⟨R, 0, none⟩) (.inr HRW.out) (.int .i64 20)).setCell (p := ⟨R, 1, none⟩) (.inr HRW.out) (.string ⟨#[]⟩)).setCell (p := ⟨R, 2, none⟩) (.inr HRW.out) (.int .i64 z17)).setCell (p := ⟨R, 3, none⟩) (.inr HRW.out) (.string (bs x15)))
      have HTE := qH (HT16.out.put4 HRL.out (.int .i64 20) (.string ⟨#[]⟩) (.int .i64 z17) (.string (bs x15)))
      go_simp
      clear hHeld t0 t1 t2 t3 ft
      refine hK.out _ _ ⟨HKE.out, ⟨_, HMA.out⟩, ⟨_, by omega, HTE.out⟩⟩ (fun hHeld => ?_)
      try simp only [aP, lA, lB, lC]
      clear hK
      refine wpAnyH_done (by kernel_rfl) ?_ _
      clear hHeld
      go_wp2
      exact tm_end Tryz.results48 (x := ⟨20, [], z17, x15⟩) HMA.out rfl rfl ⟨_, rfl, goodT_mk 20 [] z17 x15 (by decide) Hx15.out (by decide) (by decide), ⟨_, by omega, HTE.out⟩, HKE.out⟩
   ·
    go_simp
    obtain ⟨V19, hV19⟩ : ∃ V, V2.alloc (.cells #[.string ⟨#[97, 99, 116, 32, 37, 107]⟩, .string ⟨#[]⟩, .string ⟨#[108, 111, 103]⟩] 9) = V := ⟨_, rfl⟩
    obtain ⟨q18, hq18⟩ : ∃ b, V2.heap.size = b := ⟨_, rfl⟩
    have hk19 : Kp [] V2 V19 := by rw [← hV19]; exact (Kp.refl [] _).alloc _
    have HBq18 := qH (show V19.heap[q18]? = some (.cells #[.string ⟨#[97, 99, 116, 32, 37, 107]⟩, .string ⟨#[]⟩, .string ⟨#[108, 111, 103]⟩] 9 (0, 0)) by rw [← hV19, ← hq18]; exact heap_alloc_last _ _)
    have HLq18 := qH (show tb < q18 by have := HT2.out.lt; omega)
    have HK19 := qH (HK2.out.upT hk19)
    have HM19 := qH (HM2.out.kp hk19 (by simp))
    have HT19 := qH (HT2.out.kp hk19 (by simp))
    have HBq1 := qH ((hk19.block _ (block_lt HBq1.out) (by simp)).trans HBq1.out)
    rw [hV19, hq18]
    clear hHeld hk19 hV19 hq18
    refine hK.out _ _ ⟨HK19.out, ⟨_, HM19.out⟩, ⟨_, by omega, HT19.out⟩⟩ (fun hHeld => ?_)
    try simp only [aP, lA, lB, lC]
    clear hK
    refine wpAnyH_ready (rs := [2]) (by kernel_rfl) (by simp) ?_
    refine AllReadyH.cons (o := ⟨some 74, .call { callee := .value (.func 16), args := #[.tmp 73, .const (.int .i64 3)], argTypes := #[25, 3] }, 3, "rule.go:68", #[⟨1, .data⟩], none⟩) rfl (fun K hK => ?_) AllReadyH.nil
    go_simp
    go_at_call 16
    refine cM (by with_reducible exact nextL3 (by omega) HT19.out) ?_
    rintro e V21 ⟨r20, hr20, rfl, ht, hkp⟩
    dsimp only
    have Hr20 := qH hr20
    have HK21 := qH (HK19.out.trans hkp)
    have HM21 := qH (HM19.out.kp hkp (by simp; exact HRT.out))
    have HT21 := qH ht
    have HBq1 := qH ((hkp.block _ (block_lt HBq1.out) (by have := HLq1.out; simp; omega)).trans HBq1.out)
    have HBq18 := qH ((hkp.block _ (block_lt HBq18.out) (by have := HLq18.out; simp; omega)).trans HBq18.out)
    clear hHeld ht hkp hr20
    refine hK.out _ _ ⟨HK21.out, ⟨_, HM21.out⟩, ⟨_, by omega, HT21.out⟩⟩ (fun hHeld => ?_)
    try simp only [aP, lA, lB, lC]
    clear hK
    refine wpAnyH_take (i := 3) (oi := ⟨some 75, .indexAddr 22 (.tmp 72) (.tmp 74), 0, "rule.go:68", #[⟨0, .data⟩, ⟨2, .data⟩], none⟩) (v := .pointer (some ⟨q1, r20, none⟩)) rfl (by kernel_rfl) (by kernel_rfl) (by kernel_rfl) (fun _ _ _ h => h) (Or.inl ⟨by rfl, fun w hSw => by (try dsimp only at hSw); have hq1 : ((r20 : Nat) : Int) < 3 := (by have := Hr20.out; omega); go_simp⟩) hHeld ?_
    try simp only [aP, lA, lB, lC]
    refine wpAnyH_ready (rs := [4, 7]) (by kernel_rfl) (by simp) ?_
    refine AllReadyH.cons (o := ⟨some 76, .load 3 (.tmp 75), 3, "rule.go:68", #[⟨3, .data⟩], none⟩) rfl (fun K hK => ?_) (AllReadyH.cons (o := ⟨some 79, .call { callee := .value (.func 20), args := #[.tmp 77, .tmp 78], argTypes := #[25, 52] }, 9, "rule.go:68", #[⟨5, .data⟩, ⟨6, .data⟩, ⟨2, .chain⟩], none⟩) rfl (fun K hK => ?_) AllReadyH.nil)
    ·
     obtain ⟨z22, hz1, hz2, hz3⟩ := ints3 Hr20.out HBq1.out
     have HZz22 := qH (And.intro hz1 hz2)
     clear hz1 hz2
     go_simp
     clear hHeld hz3
     refine hK.out _ _ ⟨HK21.out, ⟨_, HM21.out⟩, ⟨_, by omega, HT21.out⟩⟩ (fun hHeld => ?_)
     try simp only [aP, lA, lB, lC]
     clear hK
     refine wpAnyH_ready (rs := [7]) (by kernel_rfl) (by simp) ?_
     refine AllReadyH.cons (o := ⟨some 79, .call { callee := .value (.func 20), args := #[.tmp 77, .tmp 78], argTypes := #[25, 52] }, 9, "rule.go:68", #[⟨5, .data⟩, ⟨6, .data⟩, ⟨2, .chain⟩], none⟩) rfl (fun K hK => ?_) AllReadyH.nil
     go_simp
     go_at_call 20
     refine cM (by with_reducible exact oneB [[97, 99, 116, 32, 37, 107], [], [108, 111, 103]] 3 (by decide) (by decide) (by decide) (by decide) (by omega) HT21.out HLq18.out HBq18.out HXA.out) ?_
     rintro e V24 ⟨x23, hx23, rfl, ht, hkp⟩
     dsimp only
     have Hx23 := qH hx23
     have HK24 := qH (HK21.out.trans hkp)
     have HM24 := qH (HM21.out.kp hkp (by simp; exact HRT.out))
     have HT24 := qH ht
     have HBq1 := qH ((hkp.block _ (block_lt HBq1.out) (by have := HLq1.out; simp; omega)).trans HBq1.out)
     have HBq18 := qH ((hkp.block _ (block_lt HBq18.out) (by have := HLq18.out; simp; omega)).trans HBq18.out)
     clear hHeld ht hkp hx23
     refine hK.out _ _ ⟨HK24.out, ⟨_, HM24.out⟩, ⟨_, by omega, HT24.out⟩⟩ (fun hHeld => ?_)
     try simp only [aP, lA, lB, lC]
     clear hK
     refine wpAnyH_take (i := 8) (oi := ⟨some 80, .build 46 #[(0, .const (.int .i64 20)), (2, .tmp 76), (3, .tmp 79)], 46, "rule.go:68", #[⟨4, .data⟩, ⟨7, .data⟩], none⟩) (v := .agg #[.int .i64 20, .string ⟨#[]⟩, .int .i64 z22, .string (bs x23)]) rfl (by kernel_rfl) (by kernel_rfl) (by kernel_rfl) (fun _ _ _ h => h) (Or.inl ⟨by rfl, fun w hSw => by (try dsimp only at hSw); go_simp⟩) hHeld ?_
     try simp only [aP, lA, lB, lC]
     refine wpAnyH_ready (rs := [9]) (by kernel_rfl) (by simp) ?_
     refine AllReadyH.cons (o := ⟨none, .store 46 (.tmp 2) (.tmp 80), 0, "rule.go:68", #[⟨8, .data⟩, ⟨7, .chain⟩, ⟨0, .phase⟩, ⟨1, .phase⟩, ⟨2, .phase⟩, ⟨3, .phase⟩, ⟨4, .phase⟩, ⟨5, .phase⟩, ⟨6, .phase⟩, ⟨7, .phase⟩, ⟨8, .phase⟩], none⟩) rfl (fun K hK => ?_) AllReadyH.nil
     obtain ⟨t0, t1, t2, t3⟩ := HM24.out.cells
     have ft := fun o => HM24.out.frz (o := o)
     have HMA := qH (HM24.out.all ⟨20, [], z22, x23⟩)
     have HKE := qH ((((HK24.out.setCell (p := ⟨R, 0, none⟩) (.inr HRW.out) (.int .i64 20)).setCell (p := ⟨R, 1, none⟩) (.inr HRW.out) (.string ⟨#[]⟩)).setCell (p := ⟨R, 2, none⟩) (.inr HRW.out) (.int .i64 z22)).setCell (p := ⟨R, 3, none⟩) (.inr HRW.out) (.string (bs x23)))
     have HTE := qH (HT24.out.put4 HRL.out (.int .i64 20) (.string ⟨#[]⟩) (.int .i64 z22) (.string (bs x23)))
     go_simp
     clear hHeld t0 t1 t2 t3 ft
     refine hK.out _ _ ⟨HKE.out, ⟨_, HMA.out⟩, ⟨_, by omega, HTE.out⟩⟩ (fun hHeld => ?_)
     try simp only [aP, lA, lB, lC]
     clear hK
     refine wpAnyH_done (by kernel_rfl) ?_ _
     clear hHeld
     go_wp2
     exact tm_end Tryz.results48 (x := ⟨20, [], z22, x23⟩) HMA.out rfl rfl ⟨_, rfl, goodT_mk 20 [] z22 x23 (by decide) Hx23.out (by decide) (by decide), ⟨_, by omega, HTE.out⟩, HKE.out⟩
    ·
     go_simp
     go_at_call 20
     refine cM (by with_reducible exact oneB [[97, 99, 116, 32, 37, 107], [], [108, 111, 103]] 3 (by decide) (by decide) (by decide) (by decide) (by omega) HT21.out HLq18.out HBq18.out HXA.out) ?_
     rintro e V26 ⟨x25, hx25, rfl, ht, hkp⟩
     dsimp only
     have Hx25 := qH hx25
     have HK26 := qH (HK21.out.trans hkp)
     have HM26 := qH (HM21.out.kp hkp (by simp; exact HRT.out))
     have HT26 := qH ht
     have HBq1 := qH ((hkp.block _ (block_lt HBq1.out) (by have := HLq1.out; simp; omega)).trans HBq1.out)
     have HBq18 := qH ((hkp.block _ (block_lt HBq18.out) (by have := HLq18.out; simp; omega)).trans HBq18.out)
     clear hHeld ht hkp hx25
     refine hK.out _ _ ⟨HK26.out, ⟨_, HM26.out⟩, ⟨_, by omega, HT26.out⟩⟩ (fun hHeld => ?_)
     try simp only [aP, lA, lB, lC]
     clear hK
     refine wpAnyH_ready (rs := [4]) (by kernel_rfl) (by simp) ?_
     refine AllReadyH.cons (o := ⟨some 76, .load 3 (.tmp 75), 3, "rule.go:68", #[⟨3, .data⟩], none⟩) rfl (fun K hK => ?_) AllReadyH.nil
     obtain ⟨z27, hz1, hz2, hz3⟩ := ints3 Hr20.out HBq1.out
     have HZz27 := qH (And.intro hz1 hz2)
     clear hz1 hz2
     go_simp
     clear hHeld hz3
     refine hK.out _ _ ⟨HK26.out, ⟨_, HM26.out⟩, ⟨_, by omega, HT26.out⟩⟩ (fun hHeld => ?_)
     try simp only [aP, lA, lB, lC]
     clear hK
     refine wpAnyH_take (i := 8) (oi := ⟨some 80, .build 46 #[(0, .const (.int .i64 20)), (2, .tmp 76), (3, .tmp 79)], 46, "rule.go:68", #[⟨4, .data⟩, ⟨7, .data⟩], none⟩) (v := .agg #[.int .i64 20, .string ⟨#[]⟩, .int .i64 z27, .string (bs x25)]) rfl (by kernel_rfl) (by kernel_rfl) (by kernel_rfl) (fun _ _ _ h => h) (Or.inl ⟨by rfl, fun w hSw => by (try dsimp only at hSw); go_simp⟩) hHeld ?_
     try simp only [aP, lA, lB, lC]
     refine wpAnyH_ready (rs := [9]) (by kernel_rfl) (by simp) ?_
     refine AllReadyH.cons (o := ⟨none, .store 46 (.tmp 2) (.tmp 80), 0, "rule.go:68", #[⟨8, .data⟩, ⟨7, .chain⟩, ⟨0, .phase⟩, ⟨1, .phase⟩, ⟨2, .phase⟩, ⟨3, .phase⟩, ⟨4, .phase⟩, ⟨5, .phase⟩, ⟨6, .phase⟩, ⟨7, .phase⟩, ⟨8, .phase⟩], none⟩) rfl (fun K hK => ?_) AllReadyH.nil
     obtain ⟨t0, t1, t2, t3⟩ := HM26.out.cells
     have ft := fun o => HM26.out.frz (o := o)
     have HMA := qH (HM26.out.all ⟨20, [], z27, x25⟩)
     have HKE := qH ((((HK26.out.setCell (p := ⟨R, 0, none⟩) (.inr HRW.out) (.int .i64 20)).setCell (p := ⟨R, 1, none⟩) (.inr HRW.out) (.string ⟨#[]⟩)).setCell (p := ⟨R, 2, none⟩) (.inr HRW.out) (.int .i64 z27)).setCell (p := ⟨R, 3, none⟩) (.inr HRW.out) (.string (bs x25)))
     have HTE := qH (HT26.out.put4 HRL.out (.int .i64 20) (.string ⟨#[]⟩) (.int .i64 z27) (.string (bs x25)))
     go_simp
     clear hHeld t0 t1 t2 t3 ft
     refine hK.out _ _ ⟨HKE.out, ⟨_, HMA.out⟩, ⟨_, by omega, HTE.out⟩⟩ (fun hHeld => ?_)
     try simp only [aP, lA, lB, lC]
     clear hK
     refine wpAnyH_done (by kernel_rfl) ?_ _
     clear hHeld
     go_wp2
     exact tm_end Tryz.results48 (x := ⟨20, [], z27, x25⟩) HMA.out rfl rfl ⟨_, rfl, goodT_mk 20 [] z27 x25 (by decide) Hx25.out (by decide) (by decide), ⟨_, by omega, HTE.out⟩, HKE.out⟩
  ·
   go_simp
   go_at_call 16
   refine cM (by with_reducible exact nextL3 (by omega) HT0.out) ?_
   rintro e V29 ⟨r28, hr28, rfl, ht, hkp⟩
   dsimp only
   have Hr28 := qH hr28
   have HK29 := qH (HK0.out.trans hkp)
   have HM29 := qH (HM0.out.kp hkp (by simp; exact HRT.out))
   have HT29 := qH ht
   clear hHeld ht hkp hr28
   refine hK.out _ _ ⟨HK29.out, ⟨_, HM29.out⟩, ⟨_, by omega, HT29.out⟩⟩ (fun hHeld => ?_)
   try simp only [aP, lA, lB, lC]
   clear hK
   refine wpAnyH_ready (rs := [0, 6]) (by kernel_rfl) (by simp) ?_
   refine AllReadyH.cons (o := ⟨some 72, .buildSlice 22 3 #[(0, .const (.int .i64 3)), (1, .const (.int .i64 4)), (2, .const (.int .i64 6))], 22, "rule.go:68", #[], none⟩) rfl (fun K hK => ?_) (AllReadyH.cons (o := ⟨some 78, .buildSlice 52 3 #[(0, .const (.string { data := #[97, 99, 116, 32, 37, 107] })), (1, .const (.string { data := #[] })), (2, .const (.string { data := #[108, 111, 103] }))], 52, "rule.go:68", #[], none⟩) rfl (fun K hK => ?_) AllReadyH.nil)
   ·
    go_simp
    obtain ⟨V31, hV31⟩ : ∃ V, V29.alloc (.cells #[.int .i64 3, .int .i64 4, .int .i64 6] 3) = V := ⟨_, rfl⟩
    obtain ⟨q30, hq30⟩ : ∃ b, V29.heap.size = b := ⟨_, rfl⟩
    have hk31 : Kp [] V29 V31 := by rw [← hV31]; exact (Kp.refl [] _).alloc _
    have HBq30 := qH (show V31.heap[q30]? = some (.cells #[.int .i64 3, .int .i64 4, .int .i64 6] 3 (0, 0)) by rw [← hV31, ← hq30]; exact heap_alloc_last _ _)
    have HLq30 := qH (show tb < q30 by have := HT29.out.lt; omega)
    have HK31 := qH (HK29.out.upT hk31)
    have HM31 := qH (HM29.out.kp hk31 (by simp))
    have HT31 := qH (HT29.out.kp hk31 (by simp))
    rw [hV31, hq30]
    clear hHeld hk31 hV31 hq30
    refine hK.out _ _ ⟨HK31.out, ⟨_, HM31.out⟩, ⟨_, by omega, HT31.out⟩⟩ (fun hHeld => ?_)
    try simp only [aP, lA, lB, lC]
    clear hK
    refine wpAnyH_take (i := 3) (oi := ⟨some 75, .indexAddr 22 (.tmp 72) (.tmp 74), 0, "rule.go:68", #[⟨0, .data⟩, ⟨2, .data⟩], none⟩) (v := .pointer (some ⟨q30, r28, none⟩)) rfl (by kernel_rfl) (by kernel_rfl) (by kernel_rfl) (fun _ _ _ h => h) (Or.inl ⟨by rfl, fun w hSw => by (try dsimp only at hSw); have hq1 : ((r28 : Nat) : Int) < 3 := (by have := Hr28.out; omega); go_simp⟩) hHeld ?_
    try simp only [aP, lA, lB, lC]
    refine wpAnyH_ready (rs := [4, 6]) (by kernel_rfl) (by simp) ?_
    refine AllReadyH.cons (o := ⟨some 76, .load 3 (.tmp 75), 3, "rule.go:68", #[⟨3, .data⟩], none⟩) rfl (fun K hK => ?_) (AllReadyH.cons (o := ⟨some 78, .buildSlice 52 3 #[(0, .const (.string { data := #[97, 99, 116, 32, 37, 107] })), (1, .const (.string { data := #[] })), (2, .const (.string { data := #[108, 111, 103] }))], 52, "rule.go:68", #[], none⟩) rfl (fun K hK => ?_) AllReadyH.nil)
    ·
     obtain ⟨z32, hz1, hz2, hz3⟩ := ints3 Hr28.out HBq30.out
     have HZz32 := qH (And.intro hz1 hz2)
     clear hz1 hz2
     go_simp
     clear hHeld hz3
     refine hK.out _ _ ⟨HK31.out, ⟨_, HM31.out⟩, ⟨_, by omega, HT31.out⟩⟩ (fun hHeld => ?_)
     try simp only [aP, lA, lB, lC]
     clear hK
     refine wpAnyH_ready (rs := [6]) (by kernel_rfl) (by simp) ?_
     refine AllReadyH.cons (o := ⟨some 78, .buildSlice 52 3 #[(0, .const (.string { data := #[97, 99, 116, 32, 37, 107] })), (1, .const (.string { data := #[] })), (2, .const (.string { data := #[108, 111, 103] }))], 52, "rule.go:68", #[], none⟩) rfl (fun K hK => ?_) AllReadyH.nil
     go_simp
     obtain ⟨V34, hV34⟩ : ∃ V, V31.alloc (.cells #[.string ⟨#[97, 99, 116, 32, 37, 107]⟩, .string ⟨#[]⟩, .string ⟨#[108, 111, 103]⟩] 9) = V := ⟨_, rfl⟩
     obtain ⟨q33, hq33⟩ : ∃ b, V31.heap.size = b := ⟨_, rfl⟩
     have hk34 : Kp [] V31 V34 := by rw [← hV34]; exact (Kp.refl [] _).alloc _
     have HBq33 := qH (show V34.heap[q33]? = some (.cells #[.string ⟨#[97, 99, 116, 32, 37, 107]⟩, .string ⟨#[]⟩, .string ⟨#[108, 111, 103]⟩] 9 (0, 0)) by rw [← hV34, ← hq33]; exact heap_alloc_last _ _)
     have HLq33 := qH (show tb < q33 by have := HT31.out.lt; omega)
     have HK34 := qH (HK31.out.upT hk34)
     have HM34 := qH (HM31.out.kp hk34 (by simp))
     have HT34 := qH (HT31.out.kp hk34 (by simp))
     have HBq30 := qH ((hk34.block _ (block_lt HBq30.out) (by simp)).trans HBq30.out)
     rw [hV34, hq33]
     clear hHeld hk34 hV34 hq33
     refine hK.out _ _ ⟨HK34.out, ⟨_, HM34.out⟩, ⟨_, by omega, HT34.out⟩⟩ (fun hHeld => ?_)
     try simp only [aP, lA, lB, lC]
     clear hK
     refine wpAnyH_ready (rs := [7]) (by kernel_rfl) (by simp) ?_
     refine AllReadyH.cons (o := ⟨some 79, .call { callee := .value (.func 20), args := #[.tmp 77, .tmp 78], argTypes := #[25, 52] }, 9, "rule.go:68", #[⟨5, .data⟩, ⟨6, .data⟩, ⟨2, .chain⟩], none⟩) rfl (fun K hK => ?_) AllReadyH.nil
     go_simp
     go_at_call 20
     refine cM (by with_reducible exact oneB [[97, 99, 116, 32, 37, 107], [], [108, 111, 103]] 3 (by decide) (by decide) (by decide) (by decide) (by omega) HT34.out HLq33.out HBq33.out HXA.out) ?_
     rintro e V36 ⟨x35, hx35, rfl, ht, hkp⟩
     dsimp only
     have Hx35 := qH hx35
     have HK36 := qH (HK34.out.trans hkp)
     have HM36 := qH (HM34.out.kp hkp (by simp; exact HRT.out))
     have HT36 := qH ht
     have HBq30 := qH ((hkp.block _ (block_lt HBq30.out) (by have := HLq30.out; simp; omega)).trans HBq30.out)
     have HBq33 := qH ((hkp.block _ (block_lt HBq33.out) (by have := HLq33.out; simp; omega)).trans HBq33.out)
     clear hHeld ht hkp hx35
     refine hK.out _ _ ⟨HK36.out, ⟨_, HM36.out⟩, ⟨_, by omega, HT36.out⟩⟩ (fun hHeld => ?_)
     try simp only [aP, lA, lB, lC]
     clear hK
     refine wpAnyH_take (i := 8) (oi := ⟨some 80, .build 46 #[(0, .const (.int .i64 20)), (2, .tmp 76), (3, .tmp 79)], 46, "rule.go:68", #[⟨4, .data⟩, ⟨7, .data⟩], none⟩) (v := .agg #[.int .i64 20, .string ⟨#[]⟩, .int .i64 z32, .string (bs x35)]) rfl (by kernel_rfl) (by kernel_rfl) (by kernel_rfl) (fun _ _ _ h => h) (Or.inl ⟨by rfl, fun w hSw => by (try dsimp only at hSw); go_simp⟩) hHeld ?_
     try simp only [aP, lA, lB, lC]
     refine wpAnyH_ready (rs := [9]) (by kernel_rfl) (by simp) ?_
     refine AllReadyH.cons (o := ⟨none, .store 46 (.tmp 2) (.tmp 80), 0, "rule.go:68", #[⟨8, .data⟩, ⟨7, .chain⟩, ⟨0, .phase⟩, ⟨1, .phase⟩, ⟨2, .phase⟩, ⟨3, .phase⟩, ⟨4, .phase⟩, ⟨5, .phase⟩, ⟨6, .phase⟩, ⟨7, .phase⟩, ⟨8, .phase⟩], none⟩) rfl (fun K hK => ?_) AllReadyH.nil
     obtain ⟨t0, t1, t2, t3⟩ := HM36.out.cells
     have ft := fun o => HM36.out.frz (o := o)
     have HMA := qH (HM36.out.all ⟨20, [], z32, x35⟩)
     have HKE := qH ((((HK36.out.setCell (p := ⟨R, 0, none⟩) (.inr HRW.out) (.int .i64 20)).setCell (p := ⟨R, 1, none⟩) (.inr HRW.out) (.string ⟨#[]⟩)).setCell (p := ⟨R, 2, none⟩) (.inr HRW.out) (.int .i64 z32)).setCell (p := ⟨R, 3, none⟩) (.inr HRW.out) (.string (bs x35)))
     have HTE := qH (HT36.out.put4 HRL.out (.int .i64 20) (.string ⟨#[]⟩) (.int .i64 z32) (.string (bs x35)))
     go_simp
     clear hHeld t0 t1 t2 t3 ft
     refine hK.out _ _ ⟨HKE.out, ⟨_, HMA.out⟩, ⟨_, by omega, HTE.out⟩⟩ (fun hHeld => ?_)
     try simp only [aP, lA, lB, lC]
     clear hK
     refine wpAnyH_done (by kernel_rfl) ?_ _
     clear hHeld
     go_wp2
     exact tm_end Tryz.results48 (x := ⟨20, [], z32, x35⟩) HMA.out rfl rfl ⟨_, rfl, goodT_mk 20 [] z32 x35 (by decide) Hx35.out (by decide) (by decide), ⟨_, by omega, HTE.out⟩, HKE.out⟩
    ·
     go_simp
     obtain ⟨V38, hV38⟩ : ∃ V, V31.alloc (.cells #[.string ⟨#[97, 99, 116, 32, 37, 107]⟩, .string ⟨#[]⟩, .string ⟨#[108, 111, 103]⟩] 9) = V := ⟨_, rfl⟩
     obtain ⟨q37, hq37⟩ : ∃ b, V31.heap.size = b := ⟨_, rfl⟩
     have hk38 : Kp [] V31 V38 := by rw [← hV38]; exact (Kp.refl [] _).alloc _
     have HBq37 := qH (show V38.heap[q37]? = some (.cells #[.string ⟨#[97, 99, 116, 32, 37, 107]⟩, .string ⟨#[]⟩, .string ⟨#[108, 111, 103]⟩] 9 (0, 0)) by rw [← hV38, ← hq37]; exact heap_alloc_last _ _)
     have HLq37 := qH (show tb < q37 by have := HT31.out.lt; omega)
     have HK38 := qH (HK31.out.upT hk38)
     have HM38 := qH (HM31.out.kp hk38 (by simp))
     have HT38 := qH (HT31.out.kp hk38 (by simp))
     have HBq30 := qH ((hk38.block _ (block_lt HBq30.out) (by simp)).trans HBq30.out)
     rw [hV38, hq37]
     clear hHeld hk38 hV38 hq37
     refine hK.out _ _ ⟨HK38.out, ⟨_, HM38.out⟩, ⟨_, by omega, HT38.out⟩⟩ (fun hHeld => ?_)
     try simp only [aP, lA, lB, lC]
     clear hK
     refine wpAnyH_ready (rs := [4, 7]) (by kernel_rfl) (by simp) ?_
     refine AllReadyH.cons (o := ⟨some 76, .load 3 (.tmp 75), 3, "rule.go:68", #[⟨3, .data⟩], none⟩) rfl (fun K hK => ?_) (AllReadyH.cons (o := ⟨some 79, .call { callee := .value (.func 20), args := #[.tmp 77, .tmp 78], argTypes := #[25, 52] }, 9, "rule.go:68", #[⟨5, .data⟩, ⟨6, .data⟩, ⟨2, .chain⟩], none⟩) rfl (fun K hK => ?_) AllReadyH.nil)
     ·
      obtain ⟨z39, hz1, hz2, hz3⟩ := ints3 Hr28.out HBq30.out
      have HZz39 := qH (And.intro hz1 hz2)
      clear hz1 hz2
      go_simp
      clear hHeld hz3
      refine hK.out _ _ ⟨HK38.out, ⟨_, HM38.out⟩, ⟨_, by omega, HT38.out⟩⟩ (fun hHeld => ?_)
      try simp only [aP, lA, lB, lC]
      clear hK
      refine wpAnyH_ready (rs := [7]) (by kernel_rfl) (by simp) ?_
      refine AllReadyH.cons (o := ⟨some 79, .call { callee := .value (.func 20), args := #[.tmp 77, .tmp 78], argTypes := #[25, 52] }, 9, "rule.go:68", #[⟨5, .data⟩, ⟨6, .data⟩, ⟨2, .chain⟩], none⟩) rfl (fun K hK => ?_) AllReadyH.nil
      go_simp
      go_at_call 20
      refine cM (by with_reducible exact oneB [[97, 99, 116, 32, 37, 107], [], [108, 111, 103]] 3 (by decide) (by decide) (by decide) (by decide) (by omega) HT38.out HLq37.out HBq37.out HXA.out) ?_
      rintro e V41 ⟨x40, hx40, rfl, ht, hkp⟩
      dsimp only
      have Hx40 := qH hx40
      have HK41 := qH (HK38.out.trans hkp)
      have HM41 := qH (HM38.out.kp hkp (by simp; exact HRT.out))
      have HT41 := qH ht
      have HBq30 := qH ((hkp.block _ (block_lt HBq30.out) (by have := HLq30.out; simp; omega)).trans HBq30.out)
      have HBq37 := qH ((hkp.block _ (block_lt HBq37.out) (by have := HLq37.out; simp; omega)).trans HBq37.out)
      clear hHeld ht hkp hx40
      refine hK.out _ _ ⟨HK41.out, ⟨_, HM41.out⟩, ⟨_, by omega, HT41.out⟩⟩ (fun hHeld => ?_)
      try simp only [aP, lA, lB, lC]
      clear hK
      refine wpAnyH_take (i := 8) (oi := ⟨some 80, .build 46 #[(0, .const (.int .i64 20)), (2, .tmp 76), (3, .tmp 79)], 46, "rule.go:68", #[⟨4, .data⟩, ⟨7, .data⟩], none⟩) (v := .agg #[.int .i64 20, .string ⟨#[]⟩, .int .i64 z39, .string (bs x40)]) rfl (by kernel_rfl) (by kernel_rfl) (by kernel_rfl) (fun _ _ _ h => h) (Or.inl ⟨by rfl, fun w hSw => by (try dsimp only at hSw); go_simp⟩) hHeld ?_
      try simp only [aP, lA, lB, lC]
      refine wpAnyH_ready (rs := [9]) (by kernel_rfl) (by simp) ?_
      refine AllReadyH.cons (o := ⟨none, .store 46 (.tmp 2) (.tmp 80), 0, "rule.go:68", #[⟨8, .data⟩, ⟨7, .chain⟩, ⟨0, .phase⟩, ⟨1, .phase⟩, ⟨2, .phase⟩, ⟨3, .phase⟩, ⟨4, .phase⟩, ⟨5, .phase⟩, ⟨6, .phase⟩, ⟨7, .phase⟩, ⟨8, .phase⟩], none⟩) rfl (fun K hK => ?_) AllReadyH.nil
      obtain ⟨t0, t1, t2, t3⟩ := HM41.out.cells
      have ft := fun o => HM41.out.frz (o := o)
      have HMA := qH (HM41.out.all ⟨20, [], z39, x40⟩)
      have HKE := qH ((((HK41.out.setCell (p := ⟨R, 0, none⟩) (.inr HRW.out) (.int .i64 20)).setCell (p := ⟨R, 1, none⟩) (.inr HRW.out) (.string ⟨#[]⟩)).setCell (p := ⟨R, 2, none⟩) (.inr HRW.out) (.int .i64 z39)).setCell (p := ⟨R, 3, none⟩) (.inr HRW.out) (.string (bs x40)))
      have HTE := qH (HT41.out.put4 HRL.out (.int .i64 20) (.string ⟨#[]⟩) (.int .i64 z39) (.string (bs x40)))
      go_simp
      clear hHeld t0 t1 t2 t3 ft
      refine hK.out _ _ ⟨HKE.out, ⟨_, HMA.out⟩, ⟨_, by omega, HTE.out⟩⟩ (fun hHeld => ?_)
      try simp only [aP, lA, lB, lC]
      clear hK
      refine wpAnyH_done (by kernel_rfl) ?_ _
      clear hHeld
      go_wp2
      exact tm_end Tryz.results48 (x := ⟨20, [], z39, x40⟩) HMA.out rfl rfl ⟨_, rfl, goodT_mk 20 [] z39 x40 (by decide) Hx40.out (by decide) (by decide), ⟨_, by omega, HTE.out⟩, HKE.out⟩
     ·
      go_simp
      go_at_call 20
      refine cM (by with_reducible exact oneB [[97, 99, 116, 32, 37, 107], [], [108, 111, 103]] 3 (by decide) (by decide) (by decide) (by decide) (by omega) HT38.out HLq37.out HBq37.out HXA.out) ?_
      rintro e V43 ⟨x42, hx42, rfl, ht, hkp⟩
      dsimp only
      have Hx42 := qH hx42
      have HK43 := qH (HK38.out.trans hkp)
      have HM43 := qH (HM38.out.kp hkp (by simp; exact HRT.out))
      have HT43 := qH ht
      have HBq30 := qH ((hkp.block _ (block_lt HBq30.out) (by have := HLq30.out; simp; omega)).trans HBq30.out)
      have HBq37 := qH ((hkp.block _ (block_lt HBq37.out) (by have := HLq37.out; simp; omega)).trans HBq37.out)
      clear hHeld ht hkp hx42
      refine hK.out _ _ ⟨HK43.out, ⟨_, HM43.out⟩, ⟨_, by omega, HT43.out⟩⟩ (fun hHeld => ?_)
      try simp only [aP, lA, lB, lC]
      clear hK
      refine wpAnyH_ready (rs := [4]) (by kernel_rfl) (by simp) ?_
      refine AllReadyH.cons (o := ⟨some 76, .load 3 (.tmp 75), 3, "rule.go:68", #[⟨3, .data⟩], none⟩) rfl (fun K hK => ?_) AllReadyH.nil
      obtain ⟨z44, hz1, hz2, hz3⟩ := ints3 Hr28.out HBq30.out
      have HZz44 := qH (And.intro hz1 hz2)
      clear hz1 hz2
      go_simp
      clear hHeld hz3
      refine hK.out _ _ ⟨HK43.out, ⟨_, HM43.out⟩, ⟨_, by omega, HT43.out⟩⟩ (fun hHeld => ?_)
      try simp only [aP, lA, lB, lC]
      clear hK
      refine wpAnyH_take (i := 8) (oi := ⟨some 80, .build 46 #[(0, .const (.int .i64 20)), (2, .tmp 76), (3, .tmp 79)], 46, "rule.go:68", #[⟨4, .data⟩, ⟨7, .data⟩], none⟩) (v := .agg #[.int .i64 20, .string ⟨#[]⟩, .int .i64 z44, .string (bs x42)]) rfl (by kernel_rfl) (by kernel_rfl) (by kernel_rfl) (fun _ _ _ h => h) (Or.inl ⟨by rfl, fun w hSw => by (try dsimp only at hSw); go_simp⟩) hHeld ?_
      try simp only [aP, lA, lB, lC]
      refine wpAnyH_ready (rs := [9]) (by kernel_rfl) (by simp) ?_
      refine AllReadyH.cons (o := ⟨none, .store 46 (.tmp 2) (.tmp 80), 0, "rule.go:68", #[⟨8, .data⟩, ⟨7, .chain⟩, ⟨0, .phase⟩, ⟨1, .phase⟩, ⟨2, .phase⟩, ⟨3, .phase⟩, ⟨4, .phase⟩, ⟨5, .phase⟩, ⟨6, .phase⟩, ⟨7, .phase⟩, ⟨8, .phase⟩], none⟩) rfl (fun K hK => ?_) AllReadyH.nil
      obtain ⟨t0, t1, t2, t3⟩ := HM43.out.cells
      have ft := fun o => HM43.out.frz (o := o)
      have HMA := qH (HM43.out.all ⟨20, [], z44, x42⟩)
      have HKE := qH ((((HK43.out.setCell (p := ⟨R, 0, none⟩) (.inr HRW.out) (.int .i64 20)).setCell (p := ⟨R, 1, none⟩) (.inr HRW.out) (.string ⟨#[]⟩)).setCell (p := ⟨R, 2, none⟩) (.inr HRW.out) (.int .i64 z44)).setCell (p := ⟨R, 3, none⟩) (.inr HRW.out) (.string (bs x42)))
      have HTE := qH (HT43.out.put4 HRL.out (.int .i64 20) (.string ⟨#[]⟩) (.int .i64 z44) (.string (bs x42)))
      go_simp
      clear hHeld t0 t1 t2 t3 ft
      refine hK.out _ _ ⟨HKE.out, ⟨_, HMA.out⟩, ⟨_, by omega, HTE.out⟩⟩ (fun hHeld => ?_)
      try simp only [aP, lA, lB, lC]
      clear hK
      refine wpAnyH_done (by kernel_rfl) ?_ _
      clear hHeld
      go_wp2
      exact tm_end Tryz.results48 (x := ⟨20, [], z44, x42⟩) HMA.out rfl rfl ⟨_, rfl, goodT_mk 20 [] z44 x42 (by decide) Hx42.out (by decide) (by decide), ⟨_, by omega, HTE.out⟩, HKE.out⟩
   ·
    go_simp
    obtain ⟨V46, hV46⟩ : ∃ V, V29.alloc (.cells #[.string ⟨#[97, 99, 116, 32, 37, 107]⟩, .string ⟨#[]⟩, .string ⟨#[108, 111, 103]⟩] 9) = V := ⟨_, rfl⟩
    obtain ⟨q45, hq45⟩ : ∃ b, V29.heap.size = b := ⟨_, rfl⟩
    have hk46 : Kp [] V29 V46 := by rw [← hV46]; exact (Kp.refl [] _).alloc _
    have HBq45 := qH (show V46.heap[q45]? = some (.cells #[.string ⟨#[97, 99, 116, 32, 37, 107]⟩, .string ⟨#[]⟩, .string ⟨#[108, 111, 103]⟩] 9 (0, 0)) by rw [← hV46, ← hq45]; exact heap_alloc_last _ _)
    have HLq45 := qH (show tb < q45 by have := HT29.out.lt; omega)
    have HK46 := qH (HK29.out.upT hk46)
    have HM46 := qH (HM29.out.kp hk46 (by simp))
    have HT46 := qH (HT29.out.kp hk46 (by simp))
    rw [hV46, hq45]
    clear hHeld hk46 hV46 hq45
    refine hK.out _ _ ⟨HK46.out, ⟨_, HM46.out⟩, ⟨_, by omega, HT46.out⟩⟩ (fun hHeld => ?_)
    try simp only [aP, lA, lB, lC]
    clear hK
    refine wpAnyH_ready (rs := [0, 7]) (by kernel_rfl) (by simp) ?_
    refine AllReadyH.cons (o := ⟨some 72, .buildSlice 22 3 #[(0, .const (.int .i64 3)), (1, .const (.int .i64 4)), (2, .const (.int .i64 6))], 22, "rule.go:68", #[], none⟩) rfl (fun K hK => ?_) (AllReadyH.cons (o := ⟨some 79, .call { callee := .value (.func 20), args := #[.tmp 77, .tmp 78], argTypes := #[25, 52] }, 9, "rule.go:68", #[⟨5, .data⟩, ⟨6, .data⟩, ⟨2, .chain⟩], none⟩) rfl (fun K hK => ?_) AllReadyH.nil)
    ·
     go_simp
     obtain ⟨V48, hV48⟩ : ∃ V, V46.alloc (.cells #[.int .i64 3, .int .i64 4, .int .i64 6] 3) = V := ⟨_, rfl⟩
     obtain ⟨q47, hq47⟩ : ∃ b, V46.heap.size = b := ⟨_, rfl⟩
     have hk48 : Kp [] V46 V48 := by rw [← hV48]; exact (Kp.refl [] _).alloc _
     have HBq47 := qH (show V48.heap[q47]? = some (.cells #[.int .i64 3, .int .i64 4, .int .i64 6] 3 (0, 0)) by rw [← hV48, ← hq47]; exact heap_alloc_last _ _)
     have HLq47 := qH (show tb < q47 by have := HT46.out.lt; omega)
     have HK48 := qH (HK46.out.upT hk48)
     have HM48 := qH (HM46.out.kp hk48 (by simp))
     have HT48 := qH (HT46.out.kp hk48 (by simp))
     have HBq45 := qH ((hk48.block _ (block_lt HBq45.out) (by simp)).trans HBq45.out)
     rw [hV48, hq47]
     clear hHeld hk48 hV48 hq47
     refine hK.out _ _ ⟨HK48.out, ⟨_, HM48.out⟩, ⟨_, by omega, HT48.out⟩⟩ (fun hHeld => ?_)
     try simp only [aP, lA, lB, lC]
     clear hK
     refine wpAnyH_take (i := 3) (oi := ⟨some 75, .indexAddr 22 (.tmp 72) (.tmp 74), 0, "rule.go:68", #[⟨0, .data⟩, ⟨2, .data⟩], none⟩) (v := .pointer (some ⟨q47, r28, none⟩)) rfl (by kernel_rfl) (by kernel_rfl) (by kernel_rfl) (fun _ _ _ h => h) (Or.inl ⟨by rfl, fun w hSw => by (try dsimp only at hSw); have hq1 : ((r28 : Nat) : Int) < 3 := (by have := Hr28.out; omega); go_simp⟩) hHeld ?_
     try simp only [aP, lA, lB, lC]
     refine wpAnyH_ready (rs := [4, 7]) (by kernel_rfl) (by simp) ?_
     refine AllReadyH.cons (o := ⟨some 76, .load 3 (.tmp 75), 3, "rule.go:68", #[⟨3, .data⟩], none⟩) rfl (fun K hK => ?_) (AllReadyH.cons (o := ⟨some 79, .call { callee := .value (.func 20), args := #[.tmp 77, .tmp 78], argTypes := #[25, 52] }, 9, "rule.go:68", #[⟨5, .data⟩, ⟨6, .data⟩, ⟨2, .chain⟩], none⟩) rfl (fun K hK => ?_) AllReadyH.nil)
     ·
      obtain ⟨z49, hz1, hz2, hz3⟩ := ints3 Hr28.out HBq47.out
      have HZz49 := qH (And.intro hz1 hz2)
      clear hz1 hz2
      go_simp
      clear hHeld hz3
      refine hK.out _ _ ⟨HK48.out, ⟨_, HM48.out⟩, ⟨_, by omega, HT48.out⟩⟩ (fun hHeld => ?_)
      try simp only [aP, lA, lB, lC]
      clear hK
      refine wpAnyH_ready (rs := [7]) (by kernel_rfl) (by simp) ?_
      refine AllReadyH.cons (o := ⟨some 79, .call { callee := .value (.func 20), args := #[.tmp 77, .tmp 78], argTypes := #[25, 52] }, 9, "rule.go:68", #[⟨5, .data⟩, ⟨6, .data⟩, ⟨2, .chain⟩], none⟩) rfl (fun K hK => ?_) AllReadyH.nil
      go_simp
      go_at_call 20
      refine cM (by with_reducible exact oneB [[97, 99, 116, 32, 37, 107], [], [108, 111, 103]] 3 (by decide) (by decide) (by decide) (by decide) (by omega) HT48.out HLq45.out HBq45.out HXA.out) ?_
      rintro e V51 ⟨x50, hx50, rfl, ht, hkp⟩
      dsimp only
      have Hx50 := qH hx50
      have HK51 := qH (HK48.out.trans hkp)
      have HM51 := qH (HM48.out.kp hkp (by simp; exact HRT.out))
      have HT51 := qH ht
      have HBq47 := qH ((hkp.block _ (block_lt HBq47.out) (by have := HLq47.out; simp; omega)).trans HBq47.out)
      have HBq45 := qH ((hkp.block _ (block_lt HBq45.out) (by have := HLq45.out; simp; omega)).trans HBq45.out)
      clear hHeld ht hkp hx50
      refine hK.out _ _ ⟨HK51.out, ⟨_, HM51.out⟩, ⟨_, by omega, HT51.out⟩⟩ (fun hHeld => ?_)
      try simp only [aP, lA, lB, lC]
      clear hK
      refine wpAnyH_take (i := 8) (oi := ⟨some 80, .build 46 #[(0, .const (.int .i64 20)), (2, .tmp 76), (3, .tmp 79)], 46, "rule.go:68", #[⟨4, .data⟩, ⟨7, .data⟩], none⟩) (v := .agg #[.int .i64 20, .string ⟨#[]⟩, .int .i64 z49, .string (bs x50)]) rfl (by kernel_rfl) (by kernel_rfl) (by kernel_rfl) (fun _ _ _ h => h) (Or.inl ⟨by rfl, fun w hSw => by (try dsimp only at hSw); go_simp⟩) hHeld ?_
      try simp only [aP, lA, lB, lC]
      refine wpAnyH_ready (rs := [9]) (by kernel_rfl) (by simp) ?_
      refine AllReadyH.cons (o := ⟨none, .store 46 (.tmp 2) (.tmp 80), 0, "rule.go:68", #[⟨8, .data⟩, ⟨7, .chain⟩, ⟨0, .phase⟩, ⟨1, .phase⟩, ⟨2, .phase⟩, ⟨3, .phase⟩, ⟨4, .phase⟩, ⟨5, .phase⟩, ⟨6, .phase⟩, ⟨7, .phase⟩, ⟨8, .phase⟩], none⟩) rfl (fun K hK => ?_) AllReadyH.nil
      obtain ⟨t0, t1, t2, t3⟩ := HM51.out.cells
      have ft := fun o => HM51.out.frz (o := o)
      have HMA := qH (HM51.out.all ⟨20, [], z49, x50⟩)
      have HKE := qH ((((HK51.out.setCell (p := ⟨R, 0, none⟩) (.inr HRW.out) (.int .i64 20)).setCell (p := ⟨R, 1, none⟩) (.inr HRW.out) (.string ⟨#[]⟩)).setCell (p := ⟨R, 2, none⟩) (.inr HRW.out) (.int .i64 z49)).setCell (p := ⟨R, 3, none⟩) (.inr HRW.out) (.string (bs x50)))
      have HTE := qH (HT51.out.put4 HRL.out (.int .i64 20) (.string ⟨#[]⟩) (.int .i64 z49) (.string (bs x50)))
      go_simp
      clear hHeld t0 t1 t2 t3 ft
      refine hK.out _ _ ⟨HKE.out, ⟨_, HMA.out⟩, ⟨_, by omega, HTE.out⟩⟩ (fun hHeld => ?_)
      try simp only [aP, lA, lB, lC]
      clear hK
      refine wpAnyH_done (by kernel_rfl) ?_ _
      clear hHeld
      go_wp2
      exact tm_end Tryz.results48 (x := ⟨20, [], z49, x50⟩) HMA.out rfl rfl ⟨_, rfl, goodT_mk 20 [] z49 x50 (by decide) Hx50.out (by decide) (by decide), ⟨_, by omega, HTE.out⟩, HKE.out⟩
     ·
      go_simp
      go_at_call 20
      refine cM (by with_reducible exact oneB [[97, 99, 116, 32, 37, 107], [], [108, 111, 103]] 3 (by decide) (by decide) (by decide) (by decide) (by omega) HT48.out HLq45.out HBq45.out HXA.out) ?_
      rintro e V53 ⟨x52, hx52, rfl, ht, hkp⟩
      dsimp only
      have Hx52 := qH hx52
      have HK53 := qH (HK48.out.trans hkp)
      have HM53 := qH (HM48.out.kp hkp (by simp; exact HRT.out))
      have HT53 := qH ht
      have HBq47 := qH ((hkp.block _ (block_lt HBq47.out) (by have := HLq47.out; simp; omega)).trans HBq47.out)
      have HBq45 := qH ((hkp.block _ (block_lt HBq45.out) (by have := HLq45.out; simp; omega)).trans HBq45.out)
      clear hHeld ht hkp hx52
      refine hK.out _ _ ⟨HK53.out, ⟨_, HM53.out⟩, ⟨_, by omega, HT53.out⟩⟩ (fun hHeld => ?_)
      try simp only [aP, lA, lB, lC]
      clear hK
      refine wpAnyH_ready (rs := [4]) (by kernel_rfl) (by simp) ?_
      refine AllReadyH.cons (o := ⟨some 76, .load 3 (.tmp 75), 3, "rule.go:68", #[⟨3, .data⟩], none⟩) rfl (fun K hK => ?_) AllReadyH.nil
      obtain ⟨z54, hz1, hz2, hz3⟩ := ints3 Hr28.out HBq47.out
      have HZz54 := qH (And.intro hz1 hz2)
      clear hz1 hz2
      go_simp
      clear hHeld hz3
      refine hK.out _ _ ⟨HK53.out, ⟨_, HM53.out⟩, ⟨_, by omega, HT53.out⟩⟩ (fun hHeld => ?_)
      try simp only [aP, lA, lB, lC]
      clear hK
      refine wpAnyH_take (i := 8) (oi := ⟨some 80, .build 46 #[(0, .const (.int .i64 20)), (2, .tmp 76), (3, .tmp 79)], 46, "rule.go:68", #[⟨4, .data⟩, ⟨7, .data⟩], none⟩) (v := .agg #[.int .i64 20, .string ⟨#[]⟩, .int .i64 z54, .string (bs x52)]) rfl (by kernel_rfl) (by kernel_rfl) (by kernel_rfl) (fun _ _ _ h => h) (Or.inl ⟨by rfl, fun w hSw => by (try dsimp only at hSw); go_simp⟩) hHeld ?_
      try simp only [aP, lA, lB, lC]
      refine wpAnyH_ready (rs := [9]) (by kernel_rfl) (by simp) ?_
      refine AllReadyH.cons (o := ⟨none, .store 46 (.tmp 2) (.tmp 80), 0, "rule.go:68", #[⟨8, .data⟩, ⟨7, .chain⟩, ⟨0, .phase⟩, ⟨1, .phase⟩, ⟨2, .phase⟩, ⟨3, .phase⟩, ⟨4, .phase⟩, ⟨5, .phase⟩, ⟨6, .phase⟩, ⟨7, .phase⟩, ⟨8, .phase⟩], none⟩) rfl (fun K hK => ?_) AllReadyH.nil
      obtain ⟨t0, t1, t2, t3⟩ := HM53.out.cells
      have ft := fun o => HM53.out.frz (o := o)
      have HMA := qH (HM53.out.all ⟨20, [], z54, x52⟩)
      have HKE := qH ((((HK53.out.setCell (p := ⟨R, 0, none⟩) (.inr HRW.out) (.int .i64 20)).setCell (p := ⟨R, 1, none⟩) (.inr HRW.out) (.string ⟨#[]⟩)).setCell (p := ⟨R, 2, none⟩) (.inr HRW.out) (.int .i64 z54)).setCell (p := ⟨R, 3, none⟩) (.inr HRW.out) (.string (bs x52)))
      have HTE := qH (HT53.out.put4 HRL.out (.int .i64 20) (.string ⟨#[]⟩) (.int .i64 z54) (.string (bs x52)))
      go_simp
      clear hHeld t0 t1 t2 t3 ft
      refine hK.out _ _ ⟨HKE.out, ⟨_, HMA.out⟩, ⟨_, by omega, HTE.out⟩⟩ (fun hHeld => ?_)
      try simp only [aP, lA, lB, lC]
      clear hK
      refine wpAnyH_done (by kernel_rfl) ?_ _
      clear hHeld
      go_wp2
      exact tm_end Tryz.results48 (x := ⟨20, [], z54, x52⟩) HMA.out rfl rfl ⟨_, rfl, goodT_mk 20 [] z54 x52 (by decide) Hx52.out (by decide) (by decide), ⟨_, by omega, HTE.out⟩, HKE.out⟩
    ·
     go_simp
     go_at_call 20
     refine cM (by with_reducible exact oneB [[97, 99, 116, 32, 37, 107], [], [108, 111, 103]] 3 (by decide) (by decide) (by decide) (by decide) (by omega) HT46.out HLq45.out HBq45.out HXA.out) ?_
     rintro e V56 ⟨x55, hx55, rfl, ht, hkp⟩
     dsimp only
     have Hx55 := qH hx55
     have HK56 := qH (HK46.out.trans hkp)
     have HM56 := qH (HM46.out.kp hkp (by simp; exact HRT.out))
     have HT56 := qH ht
     have HBq45 := qH ((hkp.block _ (block_lt HBq45.out) (by have := HLq45.out; simp; omega)).trans HBq45.out)
     clear hHeld ht hkp hx55
     refine hK.out _ _ ⟨HK56.out, ⟨_, HM56.out⟩, ⟨_, by omega, HT56.out⟩⟩ (fun hHeld => ?_)
     try simp only [aP, lA, lB, lC]
     clear hK
     refine wpAnyH_ready (rs := [0]) (by kernel_rfl) (by simp) ?_
     refine AllReadyH.cons (o := ⟨some 72, .buildSlice 22 3 #[(0, .const (.int .i64 3)), (1, .const (.int .i64 4)), (2, .const (.int .i64 6))], 22, "rule.go:68", #[], none⟩) rfl (fun K hK => ?_) AllReadyH.nil
     go_simp
     obtain ⟨V58, hV58⟩ : ∃ V, V56.alloc (.cells #[.int .i64 3, .int .i64 4, .int .i64 6] 3) = V := ⟨_, rfl⟩
     obtain ⟨q57, hq57⟩ : ∃ b, V56.heap.size = b := ⟨_, rfl⟩
     have hk58 : Kp [] V56 V58 := by rw [← hV58]; exact (Kp.refl [] _).alloc _
     have HBq57 := qH (show V58.heap[q57]? = some (.cells #[.int .i64 3, .int .i64 4, .int .i64 6] 3 (0, 0)) by rw [← hV58, ← hq57]; exact heap_alloc_last _ _)
     have HLq57 := qH (show tb < q57 by have := HT56.out.lt; omega)
     have HK58 := qH (HK56.out.upT hk58)
     have HM58 := qH (HM56.out.kp hk58 (by simp))
     have HT58 := qH (HT56.out.kp hk58 (by simp))
     have HBq45 := qH ((hk58.block _ (block_lt HBq45.out) (by simp)).trans HBq45.out)
     rw [hV58, hq57]
     clear hHeld hk58 hV58 hq57
     refine hK.out _ _ ⟨HK58.out, ⟨_, HM58.out⟩, ⟨_, by omega, HT58.out⟩⟩ (fun hHeld => ?_)
     try simp only [aP, lA, lB, lC]
     clear hK
     refine wpAnyH_take (i := 3) (oi := ⟨some 75, .indexAddr 22 (.tmp 72) (.tmp 74), 0, "rule.go:68", #[⟨0, .data⟩, ⟨2, .data⟩], none⟩) (v := .pointer (some ⟨q57, r28, none⟩)) rfl (by kernel_rfl) (by kernel_rfl) (by kernel_rfl) (fun _ _ _ h => h) (Or.inl ⟨by rfl, fun w hSw => by (try dsimp only at hSw); have hq1 : ((r28 : Nat) : Int) < 3 := (by have := Hr28.out; omega); go_simp⟩) hHeld ?_
     try simp only [aP, lA, lB, lC]
     refine wpAnyH_ready (rs := [4]) (by kernel_rfl) (by simp) ?_
     refine AllReadyH.cons (o := ⟨some 76, .load 3 (.tmp 75), 3, "rule.go:68", #[⟨3, .data⟩], none⟩) rfl (fun K hK => ?_) AllReadyH.nil
     obtain ⟨z59, hz1, hz2, hz3⟩ := ints3 Hr28.out HBq57.out
     have HZz59 := qH (And.intro hz1 hz2)
     clear hz1 hz2
     go_simp
     clear hHeld hz3
     refine hK.out _ _ ⟨HK58.out, ⟨_, HM58.out⟩, ⟨_, by omega, HT58.out⟩⟩ (fun hHeld => ?_)
     try simp only [aP, lA, lB, lC]
     clear hK
     refine wpAnyH_take (i := 8) (oi := ⟨some 80, .build 46 #[(0, .const (.int .i64 20)), (2, .tmp 76), (3, .tmp 79)], 46, "rule.go:68", #[⟨4, .data⟩, ⟨7, .data⟩], none⟩) (v := .agg #[.int .i64 20, .string ⟨#[]⟩, .int .i64 z59, .string (bs x55)]) rfl (by kernel_rfl) (by kernel_rfl) (by kernel_rfl) (fun _ _ _ h => h) (Or.inl ⟨by rfl, fun w hSw => by (try dsimp only at hSw); go_simp⟩) hHeld ?_
     try simp only [aP, lA, lB, lC]
     refine wpAnyH_ready (rs := [9]) (by kernel_rfl) (by simp) ?_
     refine AllReadyH.cons (o := ⟨none, .store 46 (.tmp 2) (.tmp 80), 0, "rule.go:68", #[⟨8, .data⟩, ⟨7, .chain⟩, ⟨0, .phase⟩, ⟨1, .phase⟩, ⟨2, .phase⟩, ⟨3, .phase⟩, ⟨4, .phase⟩, ⟨5, .phase⟩, ⟨6, .phase⟩, ⟨7, .phase⟩, ⟨8, .phase⟩], none⟩) rfl (fun K hK => ?_) AllReadyH.nil
     obtain ⟨t0, t1, t2, t3⟩ := HM58.out.cells
     have ft := fun o => HM58.out.frz (o := o)
     have HMA := qH (HM58.out.all ⟨20, [], z59, x55⟩)
     have HKE := qH ((((HK58.out.setCell (p := ⟨R, 0, none⟩) (.inr HRW.out) (.int .i64 20)).setCell (p := ⟨R, 1, none⟩) (.inr HRW.out) (.string ⟨#[]⟩)).setCell (p := ⟨R, 2, none⟩) (.inr HRW.out) (.int .i64 z59)).setCell (p := ⟨R, 3, none⟩) (.inr HRW.out) (.string (bs x55)))
     have HTE := qH (HT58.out.put4 HRL.out (.int .i64 20) (.string ⟨#[]⟩) (.int .i64 z59) (.string (bs x55)))
     go_simp
     clear hHeld t0 t1 t2 t3 ft
     refine hK.out _ _ ⟨HKE.out, ⟨_, HMA.out⟩, ⟨_, by omega, HTE.out⟩⟩ (fun hHeld => ?_)
     try simp only [aP, lA, lB, lC]
     clear hK
     refine wpAnyH_done (by kernel_rfl) ?_ _
     clear hHeld
     go_wp2
     exact tm_end Tryz.results48 (x := ⟨20, [], z59, x55⟩) HMA.out rfl rfl ⟨_, rfl, goodT_mk 20 [] z59 x55 (by decide) Hx55.out (by decide) (by decide), ⟨_, by omega, HTE.out⟩, HKE.out⟩
  ·
   go_simp
   obtain ⟨V61, hV61⟩ : ∃ V, V0.alloc (.cells #[.string ⟨#[97, 99, 116, 32, 37, 107]⟩, .string ⟨#[]⟩, .string ⟨#[108, 111, 103]⟩] 9) = V := ⟨_, rfl⟩
   obtain ⟨q60, hq60⟩ : ∃ b, V0.heap.size = b := ⟨_, rfl⟩
   have hk61 : Kp [] V0 V61 := by rw [← hV61]; exact (Kp.refl [] _).alloc _
   have HBq60 := qH (show V61.heap[q60]? = some (.cells #[.string ⟨#[97, 99, 116, 32, 37, 107]⟩, .string ⟨#[]⟩, .string ⟨#[108, 111, 103]⟩] 9 (0, 0)) by rw [← hV61, ← hq60]; exact heap_alloc_last _ _)
   have HLq60 := qH (show tb < q60 by have := HT0.out.lt; omega)
   have HK61 := qH (HK0.out.upT hk61)
   have HM61 := qH (HM0.out.kp hk61 (by simp))
   have HT61 := qH (HT0.out.kp hk61 (by simp))
   rw [hV61, hq60]
   clear hHeld hk61 hV61 hq60
   refine hK.out _ _ ⟨HK61.out, ⟨_, HM61.out⟩, ⟨_, by omega, HT61.out⟩⟩ (fun hHeld => ?_)
   try simp only [aP, lA, lB, lC]
   clear hK
   refine wpAnyH_ready (rs := [0, 2]) (by kernel_rfl) (by simp) ?_
   refine AllReadyH.cons (o := ⟨some 72, .buildSlice 22 3 #[(0, .const (.int .i64 3)), (1, .const (.int .i64 4)), (2, .const (.int .i64 6))], 22, "rule.go:68", #[], none⟩) rfl (fun K hK => ?_) (AllReadyH.cons (o := ⟨some 74, .call { callee := .value (.func 16), args := #[.tmp 73, .const (.int .i64 3)], argTypes := #[25, 3] }, 3, "rule.go:68", #[⟨1, .data⟩], none⟩) rfl (fun K hK => ?_) AllReadyH.nil)
   ·
    go_simp
    obtain ⟨V63, hV63⟩ : ∃ V, V61.alloc (.cells #[.int .i64 3, .int .i64 4, .int .i64 6] 3) = V := ⟨_, rfl⟩
    obtain ⟨q62, hq62⟩ : ∃ b, V61.heap.size = b := ⟨_, rfl⟩
    have hk63 : Kp [] V61 V63 := by rw [← hV63]; exact (Kp.refl [] _).alloc _
    have HBq62 := qH (show V63.heap[q62]? = some (.cells #[.int .i64 3, .int .i64 4, .int .i64 6] 3 (0, 0)) by rw [← hV63, ← hq62]; exact heap_alloc_last _ _)
    have HLq62 := qH (show tb < q62 by have := HT61.out.lt; omega)
    have HK63 := qH (HK61.out.upT hk63)
    have HM63 := qH (HM61.out.kp hk63 (by simp))
    have HT63 := qH (HT61.out.kp hk63 (by simp))
    have HBq60 := qH ((hk63.block _ (block_lt HBq60.out) (by simp)).trans HBq60.out)
    rw [hV63, hq62]
    clear hHeld hk63 hV63 hq62
    refine hK.out _ _ ⟨HK63.out, ⟨_, HM63.out⟩, ⟨_, by omega, HT63.out⟩⟩ (fun hHeld => ?_)
    try simp only [aP, lA, lB, lC]
    clear hK
    refine wpAnyH_ready (rs := [2]) (by kernel_rfl) (by simp) ?_
    refine AllReadyH.cons (o := ⟨some 74, .call { callee := .value (.func 16), args := #[.tmp 73, .const (.int .i64 3)], argTypes := #[25, 3] }, 3, "rule.go:68", #[⟨1, .data⟩], none⟩) rfl (fun K hK => ?_) AllReadyH.nil
    go_simp
    go_at_call 16
    refine cM (by with_reducible exact nextL3 (by omega) HT63.out) ?_
    rintro e V65 ⟨r64, hr64, rfl, ht, hkp⟩
    dsimp only
    have Hr64 := qH hr64
    have HK65 := qH (HK63.out.trans hkp)
    have HM65 := qH (HM63.out.kp hkp (by simp; exact HRT.out))
    have HT65 := qH ht
    have HBq62 := qH ((hkp.block _ (block_lt HBq62.out) (by have := HLq62.out; simp; omega)).trans HBq62.out)
    have HBq60 := qH ((hkp.block _ (block_lt HBq60.out) (by have := HLq60.out; simp; omega)).trans HBq60.out)
    clear hHeld ht hkp hr64
    refine hK.out _ _ ⟨HK65.out, ⟨_, HM65.out⟩, ⟨_, by omega, HT65.out⟩⟩ (fun hHeld => ?_)
    try simp only [aP, lA, lB, lC]
    clear hK
    refine wpAnyH_take (i := 3) (oi := ⟨some 75, .indexAddr 22 (.tmp 72) (.tmp 74), 0, "rule.go:68", #[⟨0, .data⟩, ⟨2, .data⟩], none⟩) (v := .pointer (some ⟨q62, r64, none⟩)) rfl (by kernel_rfl) (by kernel_rfl) (by kernel_rfl) (fun _ _ _ h => h) (Or.inl ⟨by rfl, fun w hSw => by (try dsimp only at hSw); have hq1 : ((r64 : Nat) : Int) < 3 := (by have := Hr64.out; omega); go_simp⟩) hHeld ?_
    try simp only [aP, lA, lB, lC]
    refine wpAnyH_ready (rs := [4, 7]) (by kernel_rfl) (by simp) ?_
    refine AllReadyH.cons (o := ⟨some 76, .load 3 (.tmp 75), 3, "rule.go:68", #[⟨3, .data⟩], none⟩) rfl (fun K hK => ?_) (AllReadyH.cons (o := ⟨some 79, .call { callee := .value (.func 20), args := #[.tmp 77, .tmp 78], argTypes := #[25, 52] }, 9, "rule.go:68", #[⟨5, .data⟩, ⟨6, .data⟩, ⟨2, .chain⟩], none⟩) rfl (fun K hK => ?_) AllReadyH.nil)
    ·
     obtain ⟨z66, hz1, hz2, hz3⟩ := ints3 Hr64.out HBq62.out
     have HZz66 := qH (And.intro hz1 hz2)
     clear hz1 hz2
     go_simp
     clear hHeld hz3
     refine hK.out _ _ ⟨HK65.out, ⟨_, HM65.out⟩, ⟨_, by omega, HT65.out⟩⟩ (fun hHeld => ?_)
     try simp only [aP, lA, lB, lC]
     clear hK
     refine wpAnyH_ready (rs := [7]) (by kernel_rfl) (by simp) ?_
     refine AllReadyH.cons (o := ⟨some 79, .call { callee := .value (.func 20), args := #[.tmp 77, .tmp 78], argTypes := #[25, 52] }, 9, "rule.go:68", #[⟨5, .data⟩, ⟨6, .data⟩, ⟨2, .chain⟩], none⟩) rfl (fun K hK => ?_) AllReadyH.nil
     go_simp
     go_at_call 20
     refine cM (by with_reducible exact oneB [[97, 99, 116, 32, 37, 107], [], [108, 111, 103]] 3 (by decide) (by decide) (by decide) (by decide) (by omega) HT65.out HLq60.out HBq60.out HXA.out) ?_
     rintro e V68 ⟨x67, hx67, rfl, ht, hkp⟩
     dsimp only
     have Hx67 := qH hx67
     have HK68 := qH (HK65.out.trans hkp)
     have HM68 := qH (HM65.out.kp hkp (by simp; exact HRT.out))
     have HT68 := qH ht
     have HBq62 := qH ((hkp.block _ (block_lt HBq62.out) (by have := HLq62.out; simp; omega)).trans HBq62.out)
     have HBq60 := qH ((hkp.block _ (block_lt HBq60.out) (by have := HLq60.out; simp; omega)).trans HBq60.out)
     clear hHeld ht hkp hx67
     refine hK.out _ _ ⟨HK68.out, ⟨_, HM68.out⟩, ⟨_, by omega, HT68.out⟩⟩ (fun hHeld => ?_)
     try simp only [aP, lA, lB, lC]
     clear hK
     refine wpAnyH_take (i := 8) (oi := ⟨some 80, .build 46 #[(0, .const (.int .i64 20)), (2, .tmp 76), (3, .tmp 79)], 46, "rule.go:68", #[⟨4, .data⟩, ⟨7, .data⟩], none⟩) (v := .agg #[.int .i64 20, .string ⟨#[]⟩, .int .i64 z66, .string (bs x67)]) rfl (by kernel_rfl) (by kernel_rfl) (by kernel_rfl) (fun _ _ _ h => h) (Or.inl ⟨by rfl, fun w hSw => by (try dsimp only at hSw); go_simp⟩) hHeld ?_
     try simp only [aP, lA, lB, lC]
     refine wpAnyH_ready (rs := [9]) (by kernel_rfl) (by simp) ?_
     refine AllReadyH.cons (o := ⟨none, .store 46 (.tmp 2) (.tmp 80), 0, "rule.go:68", #[⟨8, .data⟩, ⟨7, .chain⟩, ⟨0, .phase⟩, ⟨1, .phase⟩, ⟨2, .phase⟩, ⟨3, .phase⟩, ⟨4, .phase⟩, ⟨5, .phase⟩, ⟨6, .phase⟩, ⟨7, .phase⟩, ⟨8, .phase⟩], none⟩) rfl (fun K hK => ?_) AllReadyH.nil
     obtain ⟨t0, t1, t2, t3⟩ := HM68.out.cells
     have ft := fun o => HM68.out.frz (o := o)
     have HMA := qH (HM68.out.all ⟨20, [], z66, x67⟩)
     have HKE := qH ((((HK68.out.setCell (p := ⟨R, 0, none⟩) (.inr HRW.out) (.int .i64 20)).setCell (p := ⟨R, 1, none⟩) (.inr HRW.out) (.string ⟨#[]⟩)).setCell (p := ⟨R, 2, none⟩) (.inr HRW.out) (.int .i64 z66)).setCell (p := ⟨R, 3, none⟩) (.inr HRW.out) (.string (bs x67)))
     have HTE := qH (HT68.out.put4 HRL.out (.int .i64 20) (.string ⟨#[]⟩) (.int .i64 z66) (.string (bs x67)))
     go_simp
     clear hHeld t0 t1 t2 t3 ft
     refine hK.out _ _ ⟨HKE.out, ⟨_, HMA.out⟩, ⟨_, by omega, HTE.out⟩⟩ (fun hHeld => ?_)
     try simp only [aP, lA, lB, lC]
     clear hK
     refine wpAnyH_done (by kernel_rfl) ?_ _
     clear hHeld
     go_wp2
     exact tm_end Tryz.results48 (x := ⟨20, [], z66, x67⟩) HMA.out rfl rfl ⟨_, rfl, goodT_mk 20 [] z66 x67 (by decide) Hx67.out (by decide) (by decide), ⟨_, by omega, HTE.out⟩, HKE.out⟩
    ·
     go_simp
     go_at_call 20
     refine cM (by with_reducible exact oneB [[97, 99, 116, 32, 37, 107], [], [108, 111, 103]] 3 (by decide) (by decide) (by decide) (by decide) (by omega) HT65.out HLq60.out HBq60.out HXA.out) ?_
     rintro e V70 ⟨x69, hx69, rfl, ht, hkp⟩
     dsimp only
     have Hx69 := qH hx69
     have HK70 := qH (HK65.out.trans hkp)
     have HM70 := qH (HM65.out.kp hkp (by simp; exact HRT.out))
     have HT70 := qH ht
     have HBq62 := qH ((hkp.block _ (block_lt HBq62.out) (by have := HLq62.out; simp; omega)).trans HBq62.out)
     have HBq60 := qH ((hkp.block _ (block_lt HBq60.out) (by have := HLq60.out; simp; omega)).trans HBq60.out)
     clear hHeld ht hkp hx69
     refine hK.out _ _ ⟨HK70.out, ⟨_, HM70.out⟩, ⟨_, by omega, HT70.out⟩⟩ (fun hHeld => ?_)
     try simp only [aP, lA, lB, lC]
     clear hK
     refine wpAnyH_ready (rs := [4]) (by kernel_rfl) (by simp) ?_
     refine AllReadyH.cons (o := ⟨some 76, .load 3 (.tmp 75), 3, "rule.go:68", #[⟨3, .data⟩], none⟩) rfl (fun K hK => ?_) AllReadyH.nil
     obtain ⟨z71, hz1, hz2, hz3⟩ := ints3 Hr64.out HBq62.out
     have HZz71 := qH (And.intro hz1 hz2)
     clear hz1 hz2
     go_simp
     clear hHeld hz3
     refine hK.out _ _ ⟨HK70.out, ⟨_, HM70.out⟩, ⟨_, by omega, HT70.out⟩⟩ (fun hHeld => ?_)
     try simp only [aP, lA, lB, lC]
     clear hK
     refine wpAnyH_take (i := 8) (oi := ⟨some 80, .build 46 #[(0, .const (.int .i64 20)), (2, .tmp 76), (3, .tmp 79)], 46, "rule.go:68", #[⟨4, .data⟩, ⟨7, .data⟩], none⟩) (v := .agg #[.int .i64 20, .string ⟨#[]⟩, .int .i64 z71, .string (bs x69)]) rfl (by kernel_rfl) (by kernel_rfl) (by kernel_rfl) (fun _ _ _ h => h) (Or.inl ⟨by rfl, fun w hSw => by (try dsimp only at hSw); go_simp⟩) hHeld ?_
     try simp only [aP, lA, lB, lC]
     refine wpAnyH_ready (rs := [9]) (by kernel_rfl) (by simp) ?_
     refine AllReadyH.cons (o := ⟨none, .store 46 (.tmp 2) (.tmp 80), 0, "rule.go:68", #[⟨8, .data⟩, ⟨7, .chain⟩, ⟨0, .phase⟩, ⟨1, .phase⟩, ⟨2, .phase⟩, ⟨3, .phase⟩, ⟨4, .phase⟩, ⟨5, .phase⟩, ⟨6, .phase⟩, ⟨7, .phase⟩, ⟨8, .phase⟩], none⟩) rfl (fun K hK => ?_) AllReadyH.nil
     obtain ⟨t0, t1, t2, t3⟩ := HM70.out.cells
     have ft := fun o => HM70.out.frz (o := o)
     have HMA := qH (HM70.out.all ⟨20, [], z71, x69⟩)
     have HKE := qH ((((HK70.out.setCell (p := ⟨R, 0, none⟩) (.inr HRW.out) (.int .i64 20)).setCell (p := ⟨R, 1, none⟩) (.inr HRW.out) (.string ⟨#[]⟩)).setCell (p := ⟨R, 2, none⟩) (.inr HRW.out) (.int .i64 z71)).setCell (p := ⟨R, 3, none⟩) (.inr HRW.out) (.string (bs x69)))
     have HTE := qH (HT70.out.put4 HRL.out (.int .i64 20) (.string ⟨#[]⟩) (.int .i64 z71) (.string (bs x69)))
     go_simp
     clear hHeld t0 t1 t2 t3 ft
     refine hK.out _ _ ⟨HKE.out, ⟨_, HMA.out⟩, ⟨_, by omega, HTE.out⟩⟩ (fun hHeld => ?_)
     try simp only [aP, lA, lB, lC]
     clear hK
     refine wpAnyH_done (by kernel_rfl) ?_ _
     clear hHeld
     go_wp2
     exact tm_end Tryz.results48 (x := ⟨20, [], z71, x69⟩) HMA.out rfl rfl ⟨_, rfl, goodT_mk 20 [] z71 x69 (by decide) Hx69.out (by decide) (by decide), ⟨_, by omega, HTE.out⟩, HKE.out⟩
   ·
    go_simp
    go_at_call 16
    refine cM (by with_reducible exact nextL3 (by omega) HT61.out) ?_
    rintro e V73 ⟨r72, hr72, rfl, ht, hkp⟩
    dsimp only
    have Hr72 := qH hr72
    have HK73 := qH (HK61.out.trans hkp)
    have HM73 := qH (HM61.out.kp hkp (by simp; exact HRT.out))
    have HT73 := qH ht
    have HBq60 := qH ((hkp.block _ (block_lt HBq60.out) (by have := HLq60.out; simp; omega)).trans HBq60.out)
    clear hHeld ht hkp hr72
    refine hK.out _ _ ⟨HK73.out, ⟨_, HM73.out⟩, ⟨_, by omega, HT73.out⟩⟩ (fun hHeld => ?_)
    try simp only [aP, lA, lB, lC]
    clear hK
    refine wpAnyH_ready (rs := [0, 7]) (by kernel_rfl) (by simp) ?_
    refine AllReadyH.cons (o := ⟨some 72, .buildSlice 22 3 #[(0, .const (.int .i64 3)), (1, .const (.int .i64 4)), (2, .const (.int .i64 6))], 22, "rule.go:68", #[], none⟩) rfl (fun K hK => ?_) (AllReadyH.cons (o := ⟨some 79, .call { callee := .value (.func 20), args := #[.tmp 77, .tmp 78], argTypes := #[25, 52] }, 9, "rule.go:68", #[⟨5, .data⟩, ⟨6, .data⟩, ⟨2, .chain⟩], none⟩) rfl (fun K hK => ?_) AllReadyH.nil)
    ·
     go_simp
     obtain ⟨V75, hV75⟩ : ∃ V, V73.alloc (.cells #[.int .i64 3, .int .i64 4, .int .i64 6] 3) = V := ⟨_, rfl⟩
     obtain ⟨q74, hq74⟩ : ∃ b, V73.heap.size = b := ⟨_, rfl⟩
     have hk75 : Kp [] V73 V75 := by rw [← hV75]; exact (Kp.refl [] _).alloc _
     have HBq74 := qH (show V75.heap[q74]? = some (.cells #[.int .i64 3, .int .i64 4, .int .i64 6] 3 (0, 0)) by rw [← hV75, ← hq74]; exact heap_alloc_last _ _)
     have HLq74 := qH (show tb < q74 by have := HT73.out.lt; omega)
     have HK75 := qH (HK73.out.upT hk75)
     have HM75 := qH (HM73.out.kp hk75 (by simp))
     have HT75 := qH (HT73.out.kp hk75 (by simp))
     have HBq60 := qH ((hk75.block _ (block_lt HBq60.out) (by simp)).trans HBq60.out)
     rw [hV75, hq74]
     clear hHeld hk75 hV75 hq74
     refine hK.out _ _ ⟨HK75.out, ⟨_, HM75.out⟩, ⟨_, by omega, HT75.out⟩⟩ (fun hHeld => ?_)
     try simp only [aP, lA, lB, lC]
     clear hK
     refine wpAnyH_take (i := 3) (oi := ⟨some 75, .indexAddr 22 (.tmp 72) (.tmp 74), 0, "rule.go:68", #[⟨0, .data⟩, ⟨2, .data⟩], none⟩) (v := .pointer (some ⟨q74, r72, none⟩)) rfl (by kernel_rfl) (by kernel_rfl) (by kernel_rfl) (fun _ _ _ h => h) (Or.inl ⟨by rfl, fun w hSw => by (try dsimp only at hSw); have hq1 : ((r72 : Nat) : Int) < 3 := (by have := Hr72.out; omega); go_simp⟩) hHeld ?_
     try simp only [aP, lA, lB, lC]
     refine wpAnyH_ready (rs := [4, 7]) (by kernel_rfl) (by simp) ?_
     refine AllReadyH.cons (o := ⟨some 76, .load 3 (.tmp 75), 3, "rule.go:68", #[⟨3, .data⟩], none⟩) rfl (fun K hK => ?_) (AllReadyH.cons (o := ⟨some 79, .call { callee := .value (.func 20), args := #[.tmp 77, .tmp 78], argTypes := #[25, 52] }, 9, "rule.go:68", #[⟨5, .data⟩, ⟨6, .data⟩, ⟨2, .chain⟩], none⟩) rfl (fun K hK => ?_) AllReadyH.nil)
     ·
      obtain ⟨z76, hz1, hz2, hz3⟩ := ints3 Hr72.out HBq74.out
      have HZz76 := qH (And.intro hz1 hz2)
      clear hz1 hz2
      go_simp
      clear hHeld hz3
      refine hK.out _ _ ⟨HK75.out, ⟨_, HM75.out⟩, ⟨_, by omega, HT75.out⟩⟩ (fun hHeld => ?_)
      try simp only [aP, lA, lB, lC]
      clear hK
      refine wpAnyH_ready (rs := [7]) (by kernel_rfl) (by simp) ?_
      refine AllReadyH.cons (o := ⟨some 79, .call { callee := .value (.func 20), args := #[.tmp 77, .tmp 78], argTypes := #[25, 52] }, 9, "rule.go:68", #[⟨5, .data⟩, ⟨6, .data⟩, ⟨2, .chain⟩], none⟩) rfl (fun K hK => ?_) AllReadyH.nil
      go_simp
      go_at_call 20
      refine cM (by with_reducible exact oneB [[97, 99, 116, 32, 37, 107], [], [108, 111, 103]] 3 (by decide) (by decide) (by decide) (by decide) (by omega) HT75.out HLq60.out HBq60.out HXA.out) ?_
      rintro e V78 ⟨x77, hx77, rfl, ht, hkp⟩
      dsimp only
      have Hx77 := qH hx77
      have HK78 := qH (HK75.out.trans hkp)
      have HM78 := qH (HM75.out.kp hkp (by simp; exact HRT.out))
      have HT78 := qH ht
      have HBq74 := qH ((hkp.block _ (block_lt HBq74.out) (by have := HLq74.out; simp; omega)).trans HBq74.out)
      have HBq60 := qH ((hkp.block _ (block_lt HBq60.out) (by have := HLq60.out; simp; omega)).trans HBq60.out)
      clear hHeld ht hkp hx77
      refine hK.out _ _ ⟨HK78.out, ⟨_, HM78.out⟩, ⟨_, by omega, HT78.out⟩⟩ (fun hHeld => ?_)
      try simp only [aP, lA, lB, lC]
      clear hK
      refine wpAnyH_take (i := 8) (oi := ⟨some 80, .build 46 #[(0, .const (.int .i64 20)), (2, .tmp 76), (3, .tmp 79)], 46, "rule.go:68", #[⟨4, .data⟩, ⟨7, .data⟩], none⟩) (v := .agg #[.int .i64 20, .string ⟨#[]⟩, .int .i64 z76, .string (bs x77)]) rfl (by kernel_rfl) (by kernel_rfl) (by kernel_rfl) (fun _ _ _ h => h) (Or.inl ⟨by rfl, fun w hSw => by (try dsimp only at hSw); go_simp⟩) hHeld ?_
      try simp only [aP, lA, lB, lC]
      refine wpAnyH_ready (rs := [9]) (by kernel_rfl) (by simp) ?_
      refine AllReadyH.cons (o := ⟨none, .store 46 (.tmp 2) (.tmp 80), 0, "rule.go:68", #[⟨8, .data⟩, ⟨7, .chain⟩, ⟨0, .phase⟩, ⟨1, .phase⟩, ⟨2, .phase⟩, ⟨3, .phase⟩, ⟨4, .phase⟩, ⟨5, .phase⟩, ⟨6, .phase⟩, ⟨7, .phase⟩, ⟨8, .phase⟩], none⟩) rfl (fun K hK => ?_) AllReadyH.nil
      obtain ⟨t0, t1, t2, t3⟩ := HM78.out.cells
      have ft := fun o => HM78.out.frz (o := o)
      have HMA := qH (HM78.out.all ⟨20, [], z76, x77⟩)
      have HKE := qH ((((HK78.out.setCell (p := ⟨R, 0, none⟩) (.inr HRW.out) (.int .i64 20)).setCell (p := ⟨R, 1, none⟩) (.inr HRW.out) (.string ⟨#[]⟩)).setCell (p := ⟨R, 2, none⟩) (.inr HRW.out) (.int .i64 z76)).setCell (p := ⟨R, 3, none⟩) (.inr HRW.out) (.string (bs x77)))
      have HTE := qH (HT78.out.put4 HRL.out (.int .i64 20) (.string ⟨#[]⟩) (.int .i64 z76) (.string (bs x77)))
      go_simp
      clear hHeld t0 t1 t2 t3 ft
      refine hK.out _ _ ⟨HKE.out, ⟨_, HMA.out⟩, ⟨_, by omega, HTE.out⟩⟩ (fun hHeld => ?_)
      try simp only [aP, lA, lB, lC]
      clear hK
      refine wpAnyH_done (by kernel_rfl) ?_ _
      clear hHeld
      go_wp2
      exact tm_end Tryz.results48 (x := ⟨20, [], z76, x77⟩) HMA.out rfl rfl ⟨_, rfl, goodT_mk 20 [] z76 x77 (by decide) Hx77.out (by decide) (by decide), ⟨_, by omega, HTE.out⟩, HKE.out⟩
     ·
      go_simp
      go_at_call 20
      refine cM (by with_reducible exact oneB [[97, 99, 116, 32, 37, 107], [], [108, 111, 103]] 3 (by decide) (by decide) (by decide) (by decide) (by omega) HT75.out HLq60.out HBq60.out HXA.out) ?_
      rintro e V80 ⟨x79, hx79, rfl, ht, hkp⟩
      dsimp only
      have Hx79 := qH hx79
      have HK80 := qH (HK75.out.trans hkp)
      have HM80 := qH (HM75.out.kp hkp (by simp; exact HRT.out))
      have HT80 := qH ht
      have HBq74 := qH ((hkp.block _ (block_lt HBq74.out) (by have := HLq74.out; simp; omega)).trans HBq74.out)
      have HBq60 := qH ((hkp.block _ (block_lt HBq60.out) (by have := HLq60.out; simp; omega)).trans HBq60.out)
      clear hHeld ht hkp hx79
      refine hK.out _ _ ⟨HK80.out, ⟨_, HM80.out⟩, ⟨_, by omega, HT80.out⟩⟩ (fun hHeld => ?_)
      try simp only [aP, lA, lB, lC]
      clear hK
      refine wpAnyH_ready (rs := [4]) (by kernel_rfl) (by simp) ?_
      refine AllReadyH.cons (o := ⟨some 76, .load 3 (.tmp 75), 3, "rule.go:68", #[⟨3, .data⟩], none⟩) rfl (fun K hK => ?_) AllReadyH.nil
      obtain ⟨z81, hz1, hz2, hz3⟩ := ints3 Hr72.out HBq74.out
      have HZz81 := qH (And.intro hz1 hz2)
      clear hz1 hz2
      go_simp
      clear hHeld hz3
      refine hK.out _ _ ⟨HK80.out, ⟨_, HM80.out⟩, ⟨_, by omega, HT80.out⟩⟩ (fun hHeld => ?_)
      try simp only [aP, lA, lB, lC]
      clear hK
      refine wpAnyH_take (i := 8) (oi := ⟨some 80, .build 46 #[(0, .const (.int .i64 20)), (2, .tmp 76), (3, .tmp 79)], 46, "rule.go:68", #[⟨4, .data⟩, ⟨7, .data⟩], none⟩) (v := .agg #[.int .i64 20, .string ⟨#[]⟩, .int .i64 z81, .string (bs x79)]) rfl (by kernel_rfl) (by kernel_rfl) (by kernel_rfl) (fun _ _ _ h => h) (Or.inl ⟨by rfl, fun w hSw => by (try dsimp only at hSw); go_simp⟩) hHeld ?_
      try simp only [aP, lA, lB, lC]
      refine wpAnyH_ready (rs := [9]) (by kernel_rfl) (by simp) ?_
      refine AllReadyH.cons (o := ⟨none, .store 46 (.tmp 2) (.tmp 80), 0, "rule.go:68", #[⟨8, .data⟩, ⟨7, .chain⟩, ⟨0, .phase⟩, ⟨1, .phase⟩, ⟨2, .phase⟩, ⟨3, .phase⟩, ⟨4, .phase⟩, ⟨5, .phase⟩, ⟨6, .phase⟩, ⟨7, .phase⟩, ⟨8, .phase⟩], none⟩) rfl (fun K hK => ?_) AllReadyH.nil
      obtain ⟨t0, t1, t2, t3⟩ := HM80.out.cells
      have ft := fun o => HM80.out.frz (o := o)
      have HMA := qH (HM80.out.all ⟨20, [], z81, x79⟩)
      have HKE := qH ((((HK80.out.setCell (p := ⟨R, 0, none⟩) (.inr HRW.out) (.int .i64 20)).setCell (p := ⟨R, 1, none⟩) (.inr HRW.out) (.string ⟨#[]⟩)).setCell (p := ⟨R, 2, none⟩) (.inr HRW.out) (.int .i64 z81)).setCell (p := ⟨R, 3, none⟩) (.inr HRW.out) (.string (bs x79)))
      have HTE := qH (HT80.out.put4 HRL.out (.int .i64 20) (.string ⟨#[]⟩) (.int .i64 z81) (.string (bs x79)))
      go_simp
      clear hHeld t0 t1 t2 t3 ft
      refine hK.out _ _ ⟨HKE.out, ⟨_, HMA.out⟩, ⟨_, by omega, HTE.out⟩⟩ (fun hHeld => ?_)
      try simp only [aP, lA, lB, lC]
      clear hK
      refine wpAnyH_done (by kernel_rfl) ?_ _
      clear hHeld
      go_wp2
      exact tm_end Tryz.results48 (x := ⟨20, [], z81, x79⟩) HMA.out rfl rfl ⟨_, rfl, goodT_mk 20 [] z81 x79 (by decide) Hx79.out (by decide) (by decide), ⟨_, by omega, HTE.out⟩, HKE.out⟩
    ·
     go_simp
     go_at_call 20
     refine cM (by with_reducible exact oneB [[97, 99, 116, 32, 37, 107], [], [108, 111, 103]] 3 (by decide) (by decide) (by decide) (by decide) (by omega) HT73.out HLq60.out HBq60.out HXA.out) ?_
     rintro e V83 ⟨x82, hx82, rfl, ht, hkp⟩
     dsimp only
     have Hx82 := qH hx82
     have HK83 := qH (HK73.out.trans hkp)
     have HM83 := qH (HM73.out.kp hkp (by simp; exact HRT.out))
     have HT83 := qH ht
     have HBq60 := qH ((hkp.block _ (block_lt HBq60.out) (by have := HLq60.out; simp; omega)).trans HBq60.out)
     clear hHeld ht hkp hx82
     refine hK.out _ _ ⟨HK83.out, ⟨_, HM83.out⟩, ⟨_, by omega, HT83.out⟩⟩ (fun hHeld => ?_)
     try simp only [aP, lA, lB, lC]
     clear hK
     refine wpAnyH_ready (rs := [0]) (by kernel_rfl) (by simp) ?_
     refine AllReadyH.cons (o := ⟨some 72, .buildSlice 22 3 #[(0, .const (.int .i64 3)), (1, .const (.int .i64 4)), (2, .const (.int .i64 6))], 22, "rule.go:68", #[], none⟩) rfl (fun K hK => ?_) AllReadyH.nil
     go_simp
     obtain ⟨V85, hV85⟩ : ∃ V, V83.alloc (.cells #[.int .i64 3, .int .i64 4, .int .i64 6] 3) = V := ⟨_, rfl⟩
     obtain ⟨q84, hq84⟩ : ∃ b, V83.heap.size = b := ⟨_, rfl⟩
     have hk85 : Kp [] V83 V85 := by rw [← hV85]; exact (Kp.refl [] _).alloc _
     have HBq84 := qH (show V85.heap[q84]? = some (.cells #[.int .i64 3, .int .i64 4, .int .i64 6] 3 (0, 0)) by rw [← hV85, ← hq84]; exact heap_alloc_last _ _)
     have HLq84 := qH (show tb < q84 by have := HT83.out.lt; omega)
     have HK85 := qH (HK83.out.upT hk85)
     have HM85 := qH (HM83.out.kp hk85 (by simp))
     have HT85 := qH (HT83.out.kp hk85 (by simp))
     have HBq60 := qH ((hk85.block _ (block_lt HBq60.out) (by simp)).trans HBq60.out)
     rw [hV85, hq84]
     clear hHeld hk85 hV85 hq84
     refine hK.out _ _ ⟨HK85.out, ⟨_, HM85.out⟩, ⟨_, by omega, HT85.out⟩⟩ (fun hHeld => ?_)
     try simp only [aP, lA, lB, lC]
     clear hK
     refine wpAnyH_take (i := 3) (oi := ⟨some 75, .indexAddr 22 (.tmp 72) (.tmp 74), 0, "rule.go:68", #[⟨0, .data⟩, ⟨2, .data⟩], none⟩) (v := .pointer (some ⟨q84, r72, none⟩)) rfl (by kernel_rfl) (by kernel_rfl) (by kernel_rfl) (fun _ _ _ h => h) (Or.inl ⟨by rfl, fun w hSw => by (try dsimp only at hSw); have hq1 : ((r72 : Nat) : Int) < 3 := (by have := Hr72.out; omega); go_simp⟩) hHeld ?_
     try simp only [aP, lA, lB, lC]
     refine wpAnyH_ready (rs := [4]) (by kernel_rfl) (by simp) ?_
     refine AllReadyH.cons (o := ⟨some 76, .load 3 (.tmp 75), 3, "rule.go:68", #[⟨3, .data⟩], none⟩) rfl (fun K hK => ?_) AllReadyH.nil
     obtain ⟨z86, hz1, hz2, hz3⟩ := ints3 Hr72.out HBq84.out
     have HZz86 := qH (And.intro hz1 hz2)
     clear hz1 hz2
     go_simp
     clear hHeld hz3
     refine hK.out _ _ ⟨HK85.out, ⟨_, HM85.out⟩, ⟨_, by omega, HT85.out⟩⟩ (fun hHeld => ?_)
     try simp only [aP, lA, lB, lC]
     clear hK
     refine wpAnyH_take (i := 8) (oi := ⟨some 80, .build 46 #[(0, .const (.int .i64 20)), (2, .tmp 76), (3, .tmp 79)], 46, "rule.go:68", #[⟨4, .data⟩, ⟨7, .data⟩], none⟩) (v := .agg #[.int .i64 20, .string ⟨#[]⟩, .int .i64 z86, .string (bs x82)]) rfl (by kernel_rfl) (by kernel_rfl) (by kernel_rfl) (fun _ _ _ h => h) (Or.inl ⟨by rfl, fun w hSw => by (try dsimp only at hSw); go_simp⟩) hHeld ?_
     try simp only [aP, lA, lB, lC]
     refine wpAnyH_ready (rs := [9]) (by kernel_rfl) (by simp) ?_
     refine AllReadyH.cons (o := ⟨none, .store 46 (.tmp 2) (.tmp 80), 0, "rule.go:68", #[⟨8, .data⟩, ⟨7, .chain⟩, ⟨0, .phase⟩, ⟨1, .phase⟩, ⟨2, .phase⟩, ⟨3, .phase⟩, ⟨4, .phase⟩, ⟨5, .phase⟩, ⟨6, .phase⟩, ⟨7, .phase⟩, ⟨8, .phase⟩], none⟩) rfl (fun K hK => ?_) AllReadyH.nil
     obtain ⟨t0, t1, t2, t3⟩ := HM85.out.cells
     have ft := fun o => HM85.out.frz (o := o)
     have HMA := qH (HM85.out.all ⟨20, [], z86, x82⟩)
     have HKE := qH ((((HK85.out.setCell (p := ⟨R, 0, none⟩) (.inr HRW.out) (.int .i64 20)).setCell (p := ⟨R, 1, none⟩) (.inr HRW.out) (.string ⟨#[]⟩)).setCell (p := ⟨R, 2, none⟩) (.inr HRW.out) (.int .i64 z86)).setCell (p := ⟨R, 3, none⟩) (.inr HRW.out) (.string (bs x82)))
     have HTE := qH (HT85.out.put4 HRL.out (.int .i64 20) (.string ⟨#[]⟩) (.int .i64 z86) (.string (bs x82)))
     go_simp
     clear hHeld t0 t1 t2 t3 ft
     refine hK.out _ _ ⟨HKE.out, ⟨_, HMA.out⟩, ⟨_, by omega, HTE.out⟩⟩ (fun hHeld => ?_)
     try simp only [aP, lA, lB, lC]
     clear hK
     refine wpAnyH_done (by kernel_rfl) ?_ _
     clear hHeld
     go_wp2
     exact tm_end Tryz.results48 (x := ⟨20, [], z86, x82⟩) HMA.out rfl rfl ⟨_, rfl, goodT_mk 20 [] z86 x82 (by decide) Hx82.out (by decide) (by decide), ⟨_, by omega, HTE.out⟩, HKE.out⟩
 ·go_wp2_with (first
   | (go_at_call 20; refine cM (by with_reducible exact oneM27 (by omega) HT.out _ rfl) ?_; rintro e w6 ⟨xb, hxb, rfl, ht, hkp⟩; have HR := qH (HR.out.kp hkp (by simp; exact HRT.out)); obtain ⟨t0, t1, t2, t3⟩ := HR.out.cells; have ft := fun o => HR.out.frz (o := o); have HK := qH (HK.out.trans hkp); have HT := qH ht; clear ht hkp))
  refine tm_end Tryz.results48 (x := ⟨21, [], 4, xb⟩) (HR.out.all ⟨21, [], 4, xb⟩) rfl rfl ⟨_, rfl, goodT_mk 21 [] 4 xb (by decide) hxb (by decide) (by decide), ⟨_, by omega, HT.out.put4 HRL.out _ _ _ _⟩, (((HK.out.setCell (.inr HRW.out) _).setCell (.inr HRW.out) _).setCell (.inr HRW.out) _).setCell (.inr HRW.out) _⟩
 ·go_wp2_with (first
   | (go_at_call 20; refine cM (by with_reducible exact oneM27 (by omega) HT.out _ rfl) ?_; rintro e w6 ⟨xb, hxb, rfl, ht, hkp⟩; have HR := qH (HR.out.kp hkp (by simp; exact HRT.out)); obtain ⟨t0, t1, t2, t3⟩ := HR.out.cells; have ft := fun o => HR.out.frz (o := o); have HK := qH (HK.out.trans hkp); have HT := qH ht; clear ht hkp))
  refine tm_end Tryz.results48 (x := ⟨21, [], 4, xb⟩) (HR.out.all ⟨21, [], 4, xb⟩) rfl rfl ⟨_, rfl, goodT_mk 21 [] 4 xb (by decide) hxb (by decide) (by decide), ⟨_, by omega, HT.out.put4 HRL.out _ _ _ _⟩, (((HK.out.setCell (.inr HRW.out) _).setCell (.inr HRW.out) _).setCell (.inr HRW.out) _).setCell (.inr HRW.out) _⟩
 ·go_wp2_with (first
   | (go_at_call 20; refine cM (by with_reducible exact oneM28 (by omega) HT.out _ rfl) ?_; rintro e w6 ⟨xb, hxb, rfl, ht, hkp⟩; have HR := qH (HR.out.kp hkp (by simp; exact HRT.out)); obtain ⟨t0, t1, t2, t3⟩ := HR.out.cells; have ft := fun o => HR.out.frz (o := o); have HK := qH (HK.out.trans hkp); have HT := qH ht; clear ht hkp))
  refine tm_end Tryz.results48 (x := ⟨22, [], 3, xb⟩) (HR.out.all ⟨22, [], 3, xb⟩) rfl rfl ⟨_, rfl, goodT_mk 22 [] 3 xb (by decide) hxb (by decide) (by decide), ⟨_, by omega, HT.out.put4 HRL.out _ _ _ _⟩, (((HK.out.setCell (.inr HRW.out) _).setCell (.inr HRW.out) _).setCell (.inr HRW.out) _).setCell (.inr HRW.out) _⟩
end Go.Proofs.YtljkljnfbcmjdaaGreatDoor
