/- Whether a term holds at a device: both. Device of both. -/
import Derived.Test.YtljkljnfbcmjdaaGreatDoorKMc
import Derived.Deep.DeepCutAuto
open Go.Lib renaming hid → qH
open Go.Calls renaming mono → cM
open Go.Act renaming put → aP
open List renaming setIfInBounds_toArray → lA, set_cons_zero → lB, set_cons_succ → lC
set_option maxRecDepth 100000
set_option maxHeartbeats 16000000
namespace Go.Proofs.YtljkljnfbcmjdaaGreatDoor
open Go.RowKit
theorem own_st1 (W : World) (v : List UInt8) : stT.Has (W.alloc (.cells #[.string (bs v)] 9)) (.slice (some ⟨W.heap.size, 0, none⟩) 1 1) [v] :=
 .inr ⟨W.heap.size, 0, 1, rfl, by simp, RT.row_of (cur := [.string (bs v)]) (heap_alloc_last W _) rfl⟩
theorem device_run (k : Int) (n : List UInt8) (o : Int) (vl : List UInt8) (x1 x2 : Int) (x3 x4 x5 x6 x7 : ByteArray) (x8 x9 : Int) (ad : Option Addr) (an ac : Nat) (w : World) (f : Nat) (v : List UInt8) (sB uB : Bool)
  (hsu : (sB || uB) = true) (hs : statB ⟨k, n, o, vl⟩ = sB) (hu : upB ⟨k, n, o, vl⟩ = uB) (ht : vl.length ≤ 4611686018427387904) (hvl : v.length ≤ 4611686018427387904)
  (eg : ∀ args w, (callFunc f args).run Tryz.prog w = .ok (.enter f args) w) (hix : ∀ W, (Instr.index 79 (.agg dvA) (.int .i64 k)).run Tryz.prog W = .ok (.func (.func f) #[] #[]) W)
  (hf : ∀ W, Kp [] w W → Calls Tryz.prog f #[.agg #[.int .i64 x1, .int .i64 x2, .string x3, .string x4, .string x5, .string x6, .string x7, .int .i64 x8, .int .i64 x9, .slice ad an ac], .string (bs n)] W fun e w' => e = .returned (.string (bs v)) ∧ Kp [] W w') :
  Calls Tryz.prog 14 #[.agg #[.int .i64 k, .string (bs n), .int .i64 o, .string (bs vl)], .agg #[.int .i64 x1, .int .i64 x2, .string x3, .string x4, .string x5, .string x6, .string x7, .int .i64 x8, .int .i64 x9, .slice ad an ac]] w fun e w' => e = .returned (.bool (hR ⟨k, n, o, vl⟩ v)) ∧ Kp [] w w' := by
 obtain ⟨W0, hW⟩ : ∃ W0, (w.alloc (.cells #[.int .i64 k, .string (bs n), .int .i64 o, .string (bs vl)] 46)).alloc (.cells #[.int .i64 x1, .int .i64 x2, .string x3, .string x4, .string x5, .string x6, .string x7, .int .i64 x8, .int .i64 x9, .slice ad an ac] 40) = W0 := ⟨_, rfl⟩
 obtain ⟨R, hR'⟩ : ∃ R, w.heap.size = R := ⟨_, rfl⟩
 obtain ⟨E, hE⟩ : ∃ E, R + 1 = E := ⟨_, rfl⟩
 have hk0 : Kp [] w W0 := by rw [← hW]; exact ((Kp.refl [] w).alloc _).alloc _
 have hb0 : MAt W0 R ⟨k, n, o, vl⟩ := by rw [← hW, ← hR']; exact heap_alloc2_old w _ _
 have hd0 : De.BoxAt W0 E #[.int .i64 x1, .int .i64 x2, .string x3, .string x4, .string x5, .string x6, .string x7, .int .i64 x8, .int .i64 x9, .slice ad an ac] := by
  have := heap_alloc_last (w.alloc (.cells #[.int .i64 k, .string (bs n), .int .i64 o, .string (bs vl)] 46)) (.cells #[.int .i64 x1, .int .i64 x2, .string x3, .string x4, .string x5, .string x6, .string x7, .int .i64 x8, .int .i64 x9, .slice ad an ac] 40)
  rw [hW] at this
  rw [← hE, ← hR']
  unfold De.BoxAt
  simpa using this
 obtain ⟨c0, c1, c2, c3⟩ := hb0.cells
 have HDC := qH (fun W (h : De.BoxAt W E #[.int .i64 x1, .int .i64 x2, .string x3, .string x4, .string x5, .string x6, .string x7, .int .i64 x8, .int .i64 x9, .slice ad an ac]) => (show W.cell? ⟨E, 0, none⟩ = some (.int .i64 x1) ∧ W.cell? ⟨E, 1, none⟩ = some (.int .i64 x2) ∧ W.cell? ⟨E, 2, none⟩ = some (.string x3) ∧ W.cell? ⟨E, 3, none⟩ = some (.string x4) ∧ W.cell? ⟨E, 4, none⟩ = some (.string x5) ∧ W.cell? ⟨E, 5, none⟩ = some (.string x6) ∧ W.cell? ⟨E, 6, none⟩ = some (.string x7) ∧ W.cell? ⟨E, 7, none⟩ = some (.int .i64 x8) ∧ W.cell? ⟨E, 8, none⟩ = some (.int .i64 x9) ∧ W.cell? ⟨E, 9, none⟩ = some (.slice ad an ac) from ⟨h.cell 0, h.cell 1, h.cell 2, h.cell 3, h.cell 4, h.cell 5, h.cell 6, h.cell 7, h.cell 8, h.cell 9⟩))
 have HBK := qH (fun (W W' : World) (h : Kp [] W W') (hb : De.BoxAt W E #[.int .i64 x1, .int .i64 x2, .string x3, .string x4, .string x5, .string x6, .string x7, .int .i64 x8, .int .i64 x9, .slice ad an ac]) => (show De.BoxAt W' E #[.int .i64 x1, .int .i64 x2, .string x3, .string x4, .string x5, .string x6, .string x7, .int .i64 x8, .int .i64 x9, .slice ad an ac] from (h.block E (block_lt hb) (by simp)).trans hb))
 have HTB := qH (fun W => (show Calls Tryz.prog 35 #[] W fun e w' => e = .returned (.agg dvA) ∧ Kp [] W w' from (dvA_any W).mono fun e w' ⟨h1, h2⟩ => ⟨h1, by rw [h2]; exact (Kp.refl [] W).alloc _⟩))
 have HIX := qH hix
 have HV := qH hf
 have HS := qH (fun W => static_any ⟨k, n, o, vl⟩ W)
 have HU := qH (fun W => upward_any ⟨k, n, o, vl⟩ W)
 rw [hs] at HS
 rw [hu] at HU
 have HK0 := qH hk0
 have HB0 := qH hb0
 have HD0 := qH hd0
 have HH := qH (fun v' W (h : stT.Has W v' [v]) => holds_any ⟨k, n, o, vl⟩ [v] v' W ht (by simp) h (fun x hx => by rw [List.mem_singleton.1 hx]; exact hvl))
 unfold tmC at HS HU HH
 simp only at HS HU HH
 have HST0 := qH (show ∀ W, Kp [] W0 W → MAt W.drew R ⟨k, n, o, vl⟩ ∧ De.BoxAt W.drew E #[.int .i64 x1, .int .i64 x2, .string x3, .string x4, .string x5, .string x6, .string x7, .int .i64 x8, .int .i64 x9, .slice ad an ac] ∧ Kp [] w W.drew from fun W h => have h1 := h.trans ((Kp.refl [] W).drew 1); ⟨HB0.out.kp0 h1, HBK.out _ _ h1 HD0.out, HK0.out.trans h1⟩)
 clear hix hf hs hu hk0 hb0 hd0
 cases sB
 ·obtain rfl : uB = true := by simpa using hsu
  go_enter Tryz.func14, Tryz.ntmps14
  go_upto_region 3 with (first
   | (go_at_call 34; refine cM (by with_reducible exact HS.out _) ?_; rintro e w1 ⟨rfl, hk1⟩; have HK1 := qH hk1; obtain ⟨c0, c1, c2, c3⟩ := (HB0.out.kp0 hk1).cells; clear hk1)
   | (go_at_call 13; refine cM (by with_reducible exact HU.out _) ?_; rintro e w2 ⟨rfl, hk2⟩; have HK2 := qH (HK1.out.trans hk2); clear hk2))
  have HST := qH (HST0.out _ HK2.out)
  clear c0 c1 c2 c3
  refine wp_region_held_drew (S := fun W => MAt W R ⟨k, n, o, vl⟩ ∧ De.BoxAt W E #[.int .i64 x1, .int .i64 x2, .string x3, .string x4, .string x5, .string x6, .string x7, .int .i64 x8, .int .i64 x9, .slice ad an ac] ∧ Kp [] w W) (by kernel_rfl) HST.out (fun hHeld => ?_)
  refine wpAnyH_take (i := 1) (oi := ⟨some 15, .fieldAddr 46 (.tmp 2) 0, 0, "match.go:36", #[], none⟩) (v := .pointer (some ⟨R, 0, none⟩)) rfl (by kernel_rfl) (by kernel_rfl) (by kernel_rfl) (fun _ _ _ h => h) (Or.inl ⟨by rfl, fun w hSw => by (try dsimp only at hSw); go_simp⟩) hHeld ?_
  try simp only [aP, lA, lB, lC]
  refine wpAnyH_take (i := 2) (oi := ⟨some 16, .load 3 (.tmp 15), 3, "match.go:36", #[⟨1, .data⟩], none⟩) (v := .int .i64 k) rfl (by kernel_rfl) (by kernel_rfl) (by kernel_rfl) (fun _ _ _ h => h) (Or.inl ⟨by rfl, fun w hSw => by (try dsimp only at hSw); obtain ⟨c0, c1, c2, c3⟩ := hSw.1.cells; go_simp⟩) hHeld ?_
  try simp only [aP, lA, lB, lC]
  refine wpAnyH_ready (rs := [0]) (by kernel_rfl) (by simp) ?_
  refine AllReadyH.cons (o := ⟨some 14, .call { callee := .value (.func 35), args := #[], argTypes := #[] }, 79, "match.go:36", #[], none⟩) rfl (fun K hK => ?_) AllReadyH.nil
  go_simp
  go_at_call 35
  refine cM (by with_reducible exact HTB.out _) ?_
  rintro e w3 ⟨rfl, hk⟩
  dsimp only
  have hH := (show MAt w3 R ⟨k, n, o, vl⟩ ∧ De.BoxAt w3 E #[.int .i64 x1, .int .i64 x2, .string x3, .string x4, .string x5, .string x6, .string x7, .int .i64 x8, .int .i64 x9, .slice ad an ac] ∧ Kp [] w w3 from ⟨hHeld.1.kp0 hk, HBK.out _ _ hk hHeld.2.1, hHeld.2.2.trans hk⟩)
  clear hHeld
  refine hK.out _ _ hH (fun hHeld => ?_)
  try simp only [aP, lA, lB, lC]
  clear hK
  refine wpAnyH_take (i := 3) (oi := ⟨some 17, .index 79 (.tmp 14) (.tmp 16), 78, "match.go:36", #[⟨0, .data⟩, ⟨2, .data⟩], none⟩) (v := .func (.func f) #[] #[]) rfl (by kernel_rfl) (by kernel_rfl) (by kernel_rfl) (fun _ _ _ h => h) (Or.inl ⟨by rfl, fun w hSw => by (try dsimp only at hSw); go_simp; rw [HIX.out]; rfl⟩) hHeld ?_
  try simp only [aP, lA, lB, lC]
  refine wpAnyH_ready (rs := [4]) (by kernel_rfl) (by simp) ?_
  refine AllReadyH.cons (o := ⟨some 5, .assign (.tmp 17), 78, "match.go:36", #[⟨3, .data⟩, ⟨0, .chain⟩, ⟨0, .phase⟩, ⟨1, .phase⟩, ⟨2, .phase⟩, ⟨3, .phase⟩], none⟩) rfl (fun K hK => ?_) AllReadyH.nil
  have HF3 := qH hHeld
  go_simp
  clear hHeld
  refine hK.out _ _ HF3.out (fun hHeld => ?_)
  try simp only [aP, lA, lB, lC]
  clear hK
  refine wpAnyH_done (by kernel_rfl) ?_ _
  clear hHeld
  go_upto_region 4 with fail
  have HST4 := qH (show MAt _ R ⟨k, n, o, vl⟩ ∧ De.BoxAt _ E #[.int .i64 x1, .int .i64 x2, .string x3, .string x4, .string x5, .string x6, .string x7, .int .i64 x8, .int .i64 x9, .slice ad an ac] ∧ Kp [] w _ from ⟨HF3.out.1.kp0 ((Kp.refl [] _).drew 1), HBK.out _ _ ((Kp.refl [] _).drew 1) HF3.out.2.1, HF3.out.2.2.drew 1⟩)
  refine wp_region_held_drew (S := fun W => MAt W R ⟨k, n, o, vl⟩ ∧ De.BoxAt W E #[.int .i64 x1, .int .i64 x2, .string x3, .string x4, .string x5, .string x6, .string x7, .int .i64 x8, .int .i64 x9, .slice ad an ac] ∧ Kp [] w W) (by kernel_rfl) HST4.out (fun hHeld => ?_)
  refine wpAnyH_take (i := 0) (oi := ⟨some 18, .load 46 (.tmp 2), 46, "match.go:37", #[], none⟩) (v := .agg #[.int .i64 k, .string (bs n), .int .i64 o, .string (bs vl)]) rfl (by kernel_rfl) (by kernel_rfl) (by kernel_rfl) (fun _ _ _ h => h) (Or.inl ⟨by rfl, fun w hSw => by (try dsimp only at hSw); obtain ⟨c0, c1, c2, c3⟩ := hSw.1.cells; go_simp⟩) hHeld ?_
  try simp only [aP, lA, lB, lC]
  refine wpAnyH_take (i := 1) (oi := ⟨some 19, .move (.tmp 5), 78, "match.go:37", #[], none⟩) (v := .func (.func f) #[] #[]) rfl (by kernel_rfl) (by kernel_rfl) (by kernel_rfl) (fun _ _ _ h => h) (Or.inl ⟨by rfl, fun w hSw => by (try dsimp only at hSw); go_simp⟩) hHeld ?_
  try simp only [aP, lA, lB, lC]
  refine wpAnyH_take (i := 2) (oi := ⟨some 20, .load 40 (.tmp 3), 40, "match.go:37", #[], none⟩) (v := .agg #[.int .i64 x1, .int .i64 x2, .string x3, .string x4, .string x5, .string x6, .string x7, .int .i64 x8, .int .i64 x9, .slice ad an ac]) rfl (by kernel_rfl) (by kernel_rfl) (by kernel_rfl) (fun _ _ _ h => h) (Or.inl ⟨by rfl, fun w hSw => by (try dsimp only at hSw); obtain ⟨d0, d1, d2, d3, d4, d5, d6, d7, d8, d9⟩ := HDC.out _ hSw.2.1; go_simp⟩) hHeld ?_
  try simp only [aP, lA, lB, lC]
  refine wpAnyH_take (i := 3) (oi := ⟨some 21, .fieldAddr 46 (.tmp 2) 1, 0, "match.go:37", #[], none⟩) (v := .pointer (some ⟨R, 1, none⟩)) rfl (by kernel_rfl) (by kernel_rfl) (by kernel_rfl) (fun _ _ _ h => h) (Or.inl ⟨by rfl, fun w hSw => by (try dsimp only at hSw); go_simp⟩) hHeld ?_
  try simp only [aP, lA, lB, lC]
  refine wpAnyH_take (i := 4) (oi := ⟨some 22, .load 9 (.tmp 21), 9, "match.go:37", #[⟨3, .data⟩], none⟩) (v := .string (bs n)) rfl (by kernel_rfl) (by kernel_rfl) (by kernel_rfl) (fun _ _ _ h => h) (Or.inl ⟨by rfl, fun w hSw => by (try dsimp only at hSw); obtain ⟨c0, c1, c2, c3⟩ := hSw.1.cells; go_simp⟩) hHeld ?_
  try simp only [aP, lA, lB, lC]
  refine wpAnyH_ready (rs := [5]) (by kernel_rfl) (by simp) ?_
  refine AllReadyH.cons (o := ⟨some 23, .call { callee := .value (.tmp 19), args := #[.tmp 20, .tmp 22], argTypes := #[40, 9] }, 9, "match.go:37", #[⟨1, .data⟩, ⟨2, .data⟩, ⟨4, .data⟩], none⟩) rfl (fun K hK => ?_) AllReadyH.nil
  go_simp
  refine cM (by with_reducible exact HV.out _ hHeld.2.2) ?_
  rintro e w4 ⟨rfl, hk⟩
  dsimp only
  have hH := (show MAt w4 R ⟨k, n, o, vl⟩ ∧ De.BoxAt w4 E #[.int .i64 x1, .int .i64 x2, .string x3, .string x4, .string x5, .string x6, .string x7, .int .i64 x8, .int .i64 x9, .slice ad an ac] ∧ Kp [] w w4 from ⟨hHeld.1.kp0 hk, HBK.out _ _ hk hHeld.2.1, hHeld.2.2.trans hk⟩)
  clear hHeld
  refine hK.out _ _ hH (fun hHeld => ?_)
  try simp only [aP, lA, lB, lC]
  clear hK
  refine wpAnyH_ready (rs := [6]) (by kernel_rfl) (by simp) ?_
  refine AllReadyH.cons (o := ⟨some 24, .buildSlice 52 1 #[(0, .tmp 23)], 52, "match.go:37", #[⟨5, .data⟩], none⟩) rfl (fun K hK => ?_) AllReadyH.nil
  go_simp
  have HO := qH (own_st1 w4 v)
  have hk6 := (Kp.refl [] w4).alloc (.cells #[.string (bs v)] 9)
  have hH := (show MAt (w4.alloc (.cells #[.string (bs v)] 9)) R ⟨k, n, o, vl⟩ ∧ De.BoxAt (w4.alloc (.cells #[.string (bs v)] 9)) E #[.int .i64 x1, .int .i64 x2, .string x3, .string x4, .string x5, .string x6, .string x7, .int .i64 x8, .int .i64 x9, .slice ad an ac] ∧ Kp [] w (w4.alloc (.cells #[.string (bs v)] 9)) from ⟨hHeld.1.kp0 hk6, HBK.out _ _ hk6 hHeld.2.1, hHeld.2.2.trans hk6⟩)
  clear hk6
  clear hHeld
  refine hK.out _ _ hH (fun hHeld => ?_)
  try simp only [aP, lA, lB, lC]
  clear hK
  refine wpAnyH_ready (rs := [7]) (by kernel_rfl) (by simp) ?_
  refine AllReadyH.cons (o := ⟨some 25, .call { callee := .value (.func 36), args := #[.tmp 18, .tmp 24], argTypes := #[46, 52] }, 4, "match.go:37", #[⟨0, .data⟩, ⟨6, .data⟩, ⟨5, .chain⟩], none⟩) rfl (fun K hK => ?_) AllReadyH.nil
  go_simp
  go_at_call 36
  refine cM (by with_reducible exact HH.out _ _ HO.out) ?_
  rintro e w5 ⟨rfl, hk⟩
  dsimp only
  have hH := (show MAt w5 R ⟨k, n, o, vl⟩ ∧ De.BoxAt w5 E #[.int .i64 x1, .int .i64 x2, .string x3, .string x4, .string x5, .string x6, .string x7, .int .i64 x8, .int .i64 x9, .slice ad an ac] ∧ Kp [] w w5 from ⟨hHeld.1.kp0 hk, HBK.out _ _ hk hHeld.2.1, hHeld.2.2.trans hk⟩)
  clear hHeld
  refine hK.out _ _ hH (fun hHeld => ?_)
  try simp only [aP, lA, lB, lC]
  clear hK
  refine wpAnyH_ready (rs := [8]) (by kernel_rfl) (by simp) ?_
  refine AllReadyH.cons (o := ⟨some 4, .assign (.tmp 25), 4, "match.go:37", #[⟨7, .data⟩, ⟨7, .chain⟩, ⟨0, .phase⟩, ⟨1, .phase⟩, ⟨2, .phase⟩, ⟨3, .phase⟩, ⟨4, .phase⟩, ⟨5, .phase⟩, ⟨6, .phase⟩, ⟨7, .phase⟩], none⟩) rfl (fun K hK => ?_) AllReadyH.nil
  have HF4 := qH hHeld
  go_simp
  clear hHeld
  refine hK.out _ _ HF4.out (fun hHeld => ?_)
  try simp only [aP, lA, lB, lC]
  clear hK
  refine wpAnyH_done (by kernel_rfl) ?_ _
  clear hHeld
  go_wp2
  go_ret
  exact ⟨by rw [← hB_one]; rfl, HF4.out.2.2⟩
 ·go_enter Tryz.func14, Tryz.ntmps14
  go_upto_region 3 with (first
   | (go_at_call 34; refine cM (by with_reducible exact HS.out _) ?_; rintro e w1 ⟨rfl, hk1⟩; have HK1 := qH hk1; obtain ⟨c0, c1, c2, c3⟩ := (HB0.out.kp0 hk1).cells; clear hk1))
  have HST := qH (HST0.out _ HK1.out)
  clear c0 c1 c2 c3
  refine wp_region_held_drew (S := fun W => MAt W R ⟨k, n, o, vl⟩ ∧ De.BoxAt W E #[.int .i64 x1, .int .i64 x2, .string x3, .string x4, .string x5, .string x6, .string x7, .int .i64 x8, .int .i64 x9, .slice ad an ac] ∧ Kp [] w W) (by kernel_rfl) HST.out (fun hHeld => ?_)
  refine wpAnyH_take (i := 1) (oi := ⟨some 15, .fieldAddr 46 (.tmp 2) 0, 0, "match.go:36", #[], none⟩) (v := .pointer (some ⟨R, 0, none⟩)) rfl (by kernel_rfl) (by kernel_rfl) (by kernel_rfl) (fun _ _ _ h => h) (Or.inl ⟨by rfl, fun w hSw => by (try dsimp only at hSw); go_simp⟩) hHeld ?_
  try simp only [aP, lA, lB, lC]
  refine wpAnyH_take (i := 2) (oi := ⟨some 16, .load 3 (.tmp 15), 3, "match.go:36", #[⟨1, .data⟩], none⟩) (v := .int .i64 k) rfl (by kernel_rfl) (by kernel_rfl) (by kernel_rfl) (fun _ _ _ h => h) (Or.inl ⟨by rfl, fun w hSw => by (try dsimp only at hSw); obtain ⟨c0, c1, c2, c3⟩ := hSw.1.cells; go_simp⟩) hHeld ?_
  try simp only [aP, lA, lB, lC]
  refine wpAnyH_ready (rs := [0]) (by kernel_rfl) (by simp) ?_
  refine AllReadyH.cons (o := ⟨some 14, .call { callee := .value (.func 35), args := #[], argTypes := #[] }, 79, "match.go:36", #[], none⟩) rfl (fun K hK => ?_) AllReadyH.nil
  go_simp
  go_at_call 35
  refine cM (by with_reducible exact HTB.out _) ?_
  rintro e w3 ⟨rfl, hk⟩
  dsimp only
  have hH := (show MAt w3 R ⟨k, n, o, vl⟩ ∧ De.BoxAt w3 E #[.int .i64 x1, .int .i64 x2, .string x3, .string x4, .string x5, .string x6, .string x7, .int .i64 x8, .int .i64 x9, .slice ad an ac] ∧ Kp [] w w3 from ⟨hHeld.1.kp0 hk, HBK.out _ _ hk hHeld.2.1, hHeld.2.2.trans hk⟩)
  clear hHeld
  refine hK.out _ _ hH (fun hHeld => ?_)
  try simp only [aP, lA, lB, lC]
  clear hK
  refine wpAnyH_take (i := 3) (oi := ⟨some 17, .index 79 (.tmp 14) (.tmp 16), 78, "match.go:36", #[⟨0, .data⟩, ⟨2, .data⟩], none⟩) (v := .func (.func f) #[] #[]) rfl (by kernel_rfl) (by kernel_rfl) (by kernel_rfl) (fun _ _ _ h => h) (Or.inl ⟨by rfl, fun w hSw => by (try dsimp only at hSw); go_simp; rw [HIX.out]; rfl⟩) hHeld ?_
  try simp only [aP, lA, lB, lC]
  refine wpAnyH_ready (rs := [4]) (by kernel_rfl) (by simp) ?_
  refine AllReadyH.cons (o := ⟨some 5, .assign (.tmp 17), 78, "match.go:36", #[⟨3, .data⟩, ⟨0, .chain⟩, ⟨0, .phase⟩, ⟨1, .phase⟩, ⟨2, .phase⟩, ⟨3, .phase⟩], none⟩) rfl (fun K hK => ?_) AllReadyH.nil
  have HF3 := qH hHeld
  go_simp
  clear hHeld
  refine hK.out _ _ HF3.out (fun hHeld => ?_)
  try simp only [aP, lA, lB, lC]
  clear hK
  refine wpAnyH_done (by kernel_rfl) ?_ _
  clear hHeld
  go_upto_region 4 with fail
  have HST4 := qH (show MAt _ R ⟨k, n, o, vl⟩ ∧ De.BoxAt _ E #[.int .i64 x1, .int .i64 x2, .string x3, .string x4, .string x5, .string x6, .string x7, .int .i64 x8, .int .i64 x9, .slice ad an ac] ∧ Kp [] w _ from ⟨HF3.out.1.kp0 ((Kp.refl [] _).drew 1), HBK.out _ _ ((Kp.refl [] _).drew 1) HF3.out.2.1, HF3.out.2.2.drew 1⟩)
  refine wp_region_held_drew (S := fun W => MAt W R ⟨k, n, o, vl⟩ ∧ De.BoxAt W E #[.int .i64 x1, .int .i64 x2, .string x3, .string x4, .string x5, .string x6, .string x7, .int .i64 x8, .int .i64 x9, .slice ad an ac] ∧ Kp [] w W) (by kernel_rfl) HST4.out (fun hHeld => ?_)
  refine wpAnyH_take (i := 0) (oi := ⟨some 18, .load 46 (.tmp 2), 46, "match.go:37", #[], none⟩) (v := .agg #[.int .i64 k, .string (bs n), .int .i64 o, .string (bs vl)]) rfl (by kernel_rfl) (by kernel_rfl) (by kernel_rfl) (fun _ _ _ h => h) (Or.inl ⟨by rfl, fun w hSw => by (try dsimp only at hSw); obtain ⟨c0, c1, c2, c3⟩ := hSw.1.cells; go_simp⟩) hHeld ?_
  try simp only [aP, lA, lB, lC]
  refine wpAnyH_take (i := 1) (oi := ⟨some 19, .move (.tmp 5), 78, "match.go:37", #[], none⟩) (v := .func (.func f) #[] #[]) rfl (by kernel_rfl) (by kernel_rfl) (by kernel_rfl) (fun _ _ _ h => h) (Or.inl ⟨by rfl, fun w hSw => by (try dsimp only at hSw); go_simp⟩) hHeld ?_
  try simp only [aP, lA, lB, lC]
  refine wpAnyH_take (i := 2) (oi := ⟨some 20, .load 40 (.tmp 3), 40, "match.go:37", #[], none⟩) (v := .agg #[.int .i64 x1, .int .i64 x2, .string x3, .string x4, .string x5, .string x6, .string x7, .int .i64 x8, .int .i64 x9, .slice ad an ac]) rfl (by kernel_rfl) (by kernel_rfl) (by kernel_rfl) (fun _ _ _ h => h) (Or.inl ⟨by rfl, fun w hSw => by (try dsimp only at hSw); obtain ⟨d0, d1, d2, d3, d4, d5, d6, d7, d8, d9⟩ := HDC.out _ hSw.2.1; go_simp⟩) hHeld ?_
  try simp only [aP, lA, lB, lC]
  refine wpAnyH_take (i := 3) (oi := ⟨some 21, .fieldAddr 46 (.tmp 2) 1, 0, "match.go:37", #[], none⟩) (v := .pointer (some ⟨R, 1, none⟩)) rfl (by kernel_rfl) (by kernel_rfl) (by kernel_rfl) (fun _ _ _ h => h) (Or.inl ⟨by rfl, fun w hSw => by (try dsimp only at hSw); go_simp⟩) hHeld ?_
  try simp only [aP, lA, lB, lC]
  refine wpAnyH_take (i := 4) (oi := ⟨some 22, .load 9 (.tmp 21), 9, "match.go:37", #[⟨3, .data⟩], none⟩) (v := .string (bs n)) rfl (by kernel_rfl) (by kernel_rfl) (by kernel_rfl) (fun _ _ _ h => h) (Or.inl ⟨by rfl, fun w hSw => by (try dsimp only at hSw); obtain ⟨c0, c1, c2, c3⟩ := hSw.1.cells; go_simp⟩) hHeld ?_
  try simp only [aP, lA, lB, lC]
  refine wpAnyH_ready (rs := [5]) (by kernel_rfl) (by simp) ?_
  refine AllReadyH.cons (o := ⟨some 23, .call { callee := .value (.tmp 19), args := #[.tmp 20, .tmp 22], argTypes := #[40, 9] }, 9, "match.go:37", #[⟨1, .data⟩, ⟨2, .data⟩, ⟨4, .data⟩], none⟩) rfl (fun K hK => ?_) AllReadyH.nil
  go_simp
  refine cM (by with_reducible exact HV.out _ hHeld.2.2) ?_
  rintro e w4 ⟨rfl, hk⟩
  dsimp only
  have hH := (show MAt w4 R ⟨k, n, o, vl⟩ ∧ De.BoxAt w4 E #[.int .i64 x1, .int .i64 x2, .string x3, .string x4, .string x5, .string x6, .string x7, .int .i64 x8, .int .i64 x9, .slice ad an ac] ∧ Kp [] w w4 from ⟨hHeld.1.kp0 hk, HBK.out _ _ hk hHeld.2.1, hHeld.2.2.trans hk⟩)
  clear hHeld
  refine hK.out _ _ hH (fun hHeld => ?_)
  try simp only [aP, lA, lB, lC]
  clear hK
  refine wpAnyH_ready (rs := [6]) (by kernel_rfl) (by simp) ?_
  refine AllReadyH.cons (o := ⟨some 24, .buildSlice 52 1 #[(0, .tmp 23)], 52, "match.go:37", #[⟨5, .data⟩], none⟩) rfl (fun K hK => ?_) AllReadyH.nil
  go_simp
  have HO := qH (own_st1 w4 v)
  have hk6 := (Kp.refl [] w4).alloc (.cells #[.string (bs v)] 9)
  have hH := (show MAt (w4.alloc (.cells #[.string (bs v)] 9)) R ⟨k, n, o, vl⟩ ∧ De.BoxAt (w4.alloc (.cells #[.string (bs v)] 9)) E #[.int .i64 x1, .int .i64 x2, .string x3, .string x4, .string x5, .string x6, .string x7, .int .i64 x8, .int .i64 x9, .slice ad an ac] ∧ Kp [] w (w4.alloc (.cells #[.string (bs v)] 9)) from ⟨hHeld.1.kp0 hk6, HBK.out _ _ hk6 hHeld.2.1, hHeld.2.2.trans hk6⟩)
  clear hk6
  clear hHeld
  refine hK.out _ _ hH (fun hHeld => ?_)
  try simp only [aP, lA, lB, lC]
  clear hK
  refine wpAnyH_ready (rs := [7]) (by kernel_rfl) (by simp) ?_
  refine AllReadyH.cons (o := ⟨some 25, .call { callee := .value (.func 36), args := #[.tmp 18, .tmp 24], argTypes := #[46, 52] }, 4, "match.go:37", #[⟨0, .data⟩, ⟨6, .data⟩, ⟨5, .chain⟩], none⟩) rfl (fun K hK => ?_) AllReadyH.nil
  go_simp
  go_at_call 36
  refine cM (by with_reducible exact HH.out _ _ HO.out) ?_
  rintro e w5 ⟨rfl, hk⟩
  dsimp only
  have hH := (show MAt w5 R ⟨k, n, o, vl⟩ ∧ De.BoxAt w5 E #[.int .i64 x1, .int .i64 x2, .string x3, .string x4, .string x5, .string x6, .string x7, .int .i64 x8, .int .i64 x9, .slice ad an ac] ∧ Kp [] w w5 from ⟨hHeld.1.kp0 hk, HBK.out _ _ hk hHeld.2.1, hHeld.2.2.trans hk⟩)
  clear hHeld
  refine hK.out _ _ hH (fun hHeld => ?_)
  try simp only [aP, lA, lB, lC]
  clear hK
  refine wpAnyH_ready (rs := [8]) (by kernel_rfl) (by simp) ?_
  refine AllReadyH.cons (o := ⟨some 4, .assign (.tmp 25), 4, "match.go:37", #[⟨7, .data⟩, ⟨7, .chain⟩, ⟨0, .phase⟩, ⟨1, .phase⟩, ⟨2, .phase⟩, ⟨3, .phase⟩, ⟨4, .phase⟩, ⟨5, .phase⟩, ⟨6, .phase⟩, ⟨7, .phase⟩], none⟩) rfl (fun K hK => ?_) AllReadyH.nil
  have HF4 := qH hHeld
  go_simp
  clear hHeld
  refine hK.out _ _ HF4.out (fun hHeld => ?_)
  try simp only [aP, lA, lB, lC]
  clear hK
  refine wpAnyH_done (by kernel_rfl) ?_ _
  clear hHeld
  go_wp2
  go_ret
  exact ⟨by rw [← hB_one]; rfl, HF4.out.2.2⟩
end Go.Proofs.YtljkljnfbcmjdaaGreatDoor
namespace Go.Proofs.YtljkljnfbcmjdaaGreatDoor
open Go.RowKit
theorem Kp.bel {a b : World} (h : Kp [] a b) : Below a.heap.size a b := h.below (Nat.le_refl _) (by simp)
def valD (k : Int) (n : List UInt8) (d : De.Dev) (l : List De.Atr) : List UInt8 :=
 if k = 2 ∨ k = 8 then d.orig.data.toList else if k = 3 ∨ k = 9 then d.sub.data.toList else if k = 4 ∨ k = 10 then d.drv.data.toList else (getO (bs n) l).data.toList
def devB (t : Tm) (d : De.Dev) (l : List De.Atr) : Bool := (statB t || upB t) && hR t (valD t.key t.name d l)
structure SmD (d : De.Dev) (l : List De.Atr) : Prop where
 o : d.orig.size ≤ 4611686018427387904
 s : d.sub.size ≤ 4611686018427387904
 d : d.drv.size ≤ 4611686018427387904
 a : ∀ x ∈ l, x.2.size ≤ 4611686018427387904
theorem getO_size {l : List De.Atr} (h : ∀ x ∈ l, x.2.size ≤ 4611686018427387904) (n : ByteArray) : (getO n l).size ≤ 4611686018427387904 := by
 unfold getO
 cases hg : De.getP n l with
 | none => decide
 | some v => exact h _ (De.getP_mem hg)
theorem valD_size {d : De.Dev} {l : List De.Atr} (h : SmD d l) (k : Int) (n : List UInt8) : (valD k n d l).length ≤ 4611686018427387904 := by
 unfold valD
 split
 ·exact h.o
 ·split
  ·exact h.s
  ·split
   ·exact h.d
   ·exact getO_size h.a _
theorem key_cases {t : Tm} (h : (statB t || upB t) = true) : t.key = 2 ∨ t.key = 3 ∨ t.key = 4 ∨ t.key = 5 ∨ t.key = 8 ∨ t.key = 9 ∨ t.key = 10 ∨ t.key = 11 := by
 unfold statB upB stK upK at h
 simp only [Bool.or_eq_true, Bool.and_eq_true, beq_iff_eq] at h
 omega
theorem device_no (k : Int) (n : List UInt8) (o : Int) (vl : List UInt8) (x1 x2 : Int) (x3 x4 x5 x6 x7 : ByteArray) (x8 x9 : Int) (ad : Option Addr) (an ac : Nat) (w : World)
  (hs : statB ⟨k, n, o, vl⟩ = false) (hu : upB ⟨k, n, o, vl⟩ = false) : Calls Tryz.prog 14 #[.agg #[.int .i64 k, .string (bs n), .int .i64 o, .string (bs vl)], .agg #[.int .i64 x1, .int .i64 x2, .string x3, .string x4, .string x5, .string x6, .string x7, .int .i64 x8, .int .i64 x9, .slice ad an ac]] w fun e w' => e = .returned (.bool false) ∧ Kp [] w w' := by
 obtain ⟨W0, hW⟩ : ∃ W0, (w.alloc (.cells #[.int .i64 k, .string (bs n), .int .i64 o, .string (bs vl)] 46)).alloc (.cells #[.int .i64 x1, .int .i64 x2, .string x3, .string x4, .string x5, .string x6, .string x7, .int .i64 x8, .int .i64 x9, .slice ad an ac] 40) = W0 := ⟨_, rfl⟩
 obtain ⟨R, hR'⟩ : ∃ R, w.heap.size = R := ⟨_, rfl⟩
 have hk0 : Kp [] w W0 := by rw [← hW]; exact ((Kp.refl [] w).alloc _).alloc _
 have hb0 : MAt W0 R ⟨k, n, o, vl⟩ := by rw [← hW, ← hR']; exact heap_alloc2_old w _ _
 obtain ⟨c0, c1, c2, c3⟩ := hb0.cells
 have HS := qH (fun W => static_any ⟨k, n, o, vl⟩ W)
 have HU := qH (fun W => upward_any ⟨k, n, o, vl⟩ W)
 rw [hs] at HS
 rw [hu] at HU
 unfold tmC at HS HU
 simp only at HS HU
 have HK0 := qH hk0
 have HB0 := qH hb0
 clear hs hu hk0 hb0
 go_enter Tryz.func14, Tryz.ntmps14
 go_wp2_with (first
  | (go_at_call 34; refine cM (by with_reducible exact HS.out _) ?_; rintro e w1 ⟨rfl, hk1⟩; have HK1 := qH hk1; obtain ⟨c0, c1, c2, c3⟩ := (HB0.out.kp0 hk1).cells; clear hk1)
  | (go_at_call 13; refine cM (by with_reducible exact HU.out _) ?_; rintro e w2 ⟨rfl, hk2⟩; have HK2 := qH (HK1.out.trans hk2); clear hk2))
 go_ret
 exact ⟨rfl, HK0.out.trans HK2.out⟩
theorem device_any (t : Tm) (d : De.Dev) (l : List De.Atr) (w : World) (ht : t.val.length ≤ 4611686018427387904) (hd : SmD d l) (hl : l.length ≤ 9223372036854775807) (h : De.Has w d.av l) :
  Calls Tryz.prog 14 #[.agg (tmC t), De.devV d] w fun e w' => e = .returned (.bool (devB t d l)) ∧ Kp [] w w' := by
 cases hb : statB t || upB t with
 | false =>
  have h1 : devB t d l = false := by unfold devB; rw [hb]; rfl
  rw [h1]
  rw [Bool.or_eq_false_iff] at hb
  obtain ⟨x1, x2, x3, x4, x5, x6, x7, x8, x9, av⟩ := d
  obtain ⟨ad, ac, hav, -⟩ := h.form
  simp only at hav
  subst hav
  obtain ⟨k, n, o, vl⟩ := t
  exact device_no k n o vl x1 x2 x3 x4 x5 x6 x7 x8 x9 ad _ ac w hb.1 hb.2
 | true =>
  have h1 : devB t d l = hR t (valD t.key t.name d l) := by unfold devB; rw [hb]; rfl
  rw [h1]
  have hkc := key_cases hb
  have hv := valD_size hd t.key t.name
  have hO : ∀ W, Kp [] w W → Calls Tryz.prog 63 #[De.devV d, .string (bs t.name)] W fun e w' => e = .returned (.string (bs d.orig.data.toList)) ∧ Kp [] W w' := fun W _ => by rw [bs_of]; exact original_any d _ W
  have hS : ∀ W, Kp [] w W → Calls Tryz.prog 64 #[De.devV d, .string (bs t.name)] W fun e w' => e = .returned (.string (bs d.sub.data.toList)) ∧ Kp [] W w' := fun W _ => by rw [bs_of]; exact subsystem_any d _ W
  have hD : ∀ W, Kp [] w W → Calls Tryz.prog 65 #[De.devV d, .string (bs t.name)] W fun e w' => e = .returned (.string (bs d.drv.data.toList)) ∧ Kp [] W w' := fun W _ => by rw [bs_of]; exact driver_any d _ W
  have hA : ∀ W, Kp [] w W → Calls Tryz.prog 66 #[De.devV d, .string (bs t.name)] W fun e w' => e = .returned (.string (bs (getO (bs t.name) l).data.toList)) ∧ Kp [] W w' := fun W hk => by rw [bs_of]; exact attr_any d _ l W hl (h.below hk.bel)
  obtain ⟨x1, x2, x3, x4, x5, x6, x7, x8, x9, av⟩ := d
  obtain ⟨ad, ac, hav, -⟩ := h.form
  simp only at hav
  subst hav
  obtain ⟨k, n, o, vl⟩ := t
  simp only at hkc hO hS hD hA hv ⊢
  unfold De.devV De.devC at hO hS hD hA ⊢
  simp only at hO hS hD hA ⊢
  rcases hkc with rfl | rfl | rfl | rfl | rfl | rfl | rfl | rfl
  ·exact device_run 2 n o vl x1 x2 x3 x4 x5 x6 x7 x8 x9 ad _ ac w 63 _ _ _ hb rfl rfl ht hv (enters_of Tryz.func63 (by kernel_rfl) rfl) dvA_2 hO
  ·exact device_run 3 n o vl x1 x2 x3 x4 x5 x6 x7 x8 x9 ad _ ac w 64 _ _ _ hb rfl rfl ht hv (enters_of Tryz.func64 (by kernel_rfl) rfl) dvA_3 hS
  ·exact device_run 4 n o vl x1 x2 x3 x4 x5 x6 x7 x8 x9 ad _ ac w 65 _ _ _ hb rfl rfl ht hv (enters_of Tryz.func65 (by kernel_rfl) rfl) dvA_4 hD
  ·exact device_run 5 n o vl x1 x2 x3 x4 x5 x6 x7 x8 x9 ad _ ac w 66 _ _ _ hb rfl rfl ht hv (enters_of Tryz.func66 (by kernel_rfl) rfl) dvA_5 hA
  ·exact device_run 8 n o vl x1 x2 x3 x4 x5 x6 x7 x8 x9 ad _ ac w 63 _ _ _ hb rfl rfl ht hv (enters_of Tryz.func63 (by kernel_rfl) rfl) dvA_8 hO
  ·exact device_run 9 n o vl x1 x2 x3 x4 x5 x6 x7 x8 x9 ad _ ac w 64 _ _ _ hb rfl rfl ht hv (enters_of Tryz.func64 (by kernel_rfl) rfl) dvA_9 hS
  ·exact device_run 10 n o vl x1 x2 x3 x4 x5 x6 x7 x8 x9 ad _ ac w 65 _ _ _ hb rfl rfl ht hv (enters_of Tryz.func65 (by kernel_rfl) rfl) dvA_10 hD
  ·exact device_run 11 n o vl x1 x2 x3 x4 x5 x6 x7 x8 x9 ad _ ac w 66 _ _ _ hb rfl rfl ht hv (enters_of Tryz.func66 (by kernel_rfl) rfl) dvA_11 hA
theorem refDevice_any (t : Tm) (d : De.Dev) (l : List De.Atr) (w : World) (ht : t.val.length ≤ 4611686018427387904) (hd : SmD d l) (hl : l.length ≤ 9223372036854775807) (h : De.Has w d.av l) :
  Calls Tryz.prog 26 #[.agg (tmC t), De.devV d] w fun e w' => e = .returned (.bool (devB t d l)) ∧ Kp [] w w' := by
 obtain ⟨x1, x2, x3, x4, x5, x6, x7, x8, x9, av⟩ := d
 obtain ⟨ad, ac, hav, -⟩ := h.form
 simp only at hav
 subst hav
 obtain ⟨k, n, o, vl⟩ := t
 obtain ⟨an, han⟩ : ∃ an, l.length = an := ⟨_, rfl⟩
 rw [han] at h hd ⊢
 obtain ⟨W0, hW⟩ : ∃ W0, (w.alloc (.cells #[.int .i64 k, .string (bs n), .int .i64 o, .string (bs vl)] 46)).alloc (.cells #[.int .i64 x1, .int .i64 x2, .string x3, .string x4, .string x5, .string x6, .string x7, .int .i64 x8, .int .i64 x9, .slice ad an ac] 40) = W0 := ⟨_, rfl⟩
 obtain ⟨R, hR'⟩ : ∃ R, w.heap.size = R := ⟨_, rfl⟩
 obtain ⟨E, hE⟩ : ∃ E, R + 1 = E := ⟨_, rfl⟩
 have hk0 : Kp [] w W0 := by rw [← hW]; exact ((Kp.refl [] w).alloc _).alloc _
 have hb0 : MAt W0 R ⟨k, n, o, vl⟩ := by rw [← hW, ← hR']; exact heap_alloc2_old w _ _
 have hd0 : De.BoxAt W0 E #[.int .i64 x1, .int .i64 x2, .string x3, .string x4, .string x5, .string x6, .string x7, .int .i64 x8, .int .i64 x9, .slice ad an ac] := by
  have := heap_alloc_last (w.alloc (.cells #[.int .i64 k, .string (bs n), .int .i64 o, .string (bs vl)] 46)) (.cells #[.int .i64 x1, .int .i64 x2, .string x3, .string x4, .string x5, .string x6, .string x7, .int .i64 x8, .int .i64 x9, .slice ad an ac] 40)
  rw [hW] at this
  rw [← hE, ← hR']
  unfold De.BoxAt
  simpa using this
 obtain ⟨c0, c1, c2, c3⟩ := hb0.cells
 have HC := qH (fun W (hk : Kp [] W0 W) => (show (W.cell? ⟨R, 0, none⟩ = some (.int .i64 k) ∧ W.cell? ⟨R, 1, none⟩ = some (.string (bs n)) ∧ W.cell? ⟨R, 2, none⟩ = some (.int .i64 o) ∧ W.cell? ⟨R, 3, none⟩ = some (.string (bs vl))) ∧ (W.cell? ⟨E, 3, none⟩ = some (.string x4) ∧ W.cell? ⟨E, 4, none⟩ = some (.string x5) ∧ W.cell? ⟨E, 5, none⟩ = some (.string x6) ∧ W.cell? ⟨E, 9, none⟩ = some (.slice ad an ac)) from
  have hb := (hk.block E (block_lt hd0) (by simp)).trans hd0
  ⟨(hb0.kp0 hk).cells, De.BoxAt.cell hb 3, De.BoxAt.cell hb 4, De.BoxAt.cell hb 5, De.BoxAt.cell hb 9⟩))
 have HS := qH (fun W => refStatic_any ⟨k, n, o, vl⟩ W)
 have HU := qH (fun W => refUpward_any ⟨k, n, o, vl⟩ W)
 have HG := qH (fun W (hk : Kp [] W0 W) => De.refGet_any (bs n) (.slice ad an ac) l W hl (h.below (hk0.trans hk).bel))
 have HH := qH (fun (s : ByteArray) (hs : s.size ≤ 4611686018427387904) W => (show Calls Tryz.prog 55 #[.agg (tmC ⟨k, n, o, vl⟩), .string s] W fun e w' => e = .returned (.bool (hR ⟨k, n, o, vl⟩ s.data.toList)) ∧ Kp [] W w' from by
  have := refHolds_any ⟨k, n, o, vl⟩ s.data.toList W ht hs
  rwa [bs_of] at this))
 have HK0 := qH hk0
 have HSm := qH hd
 have hdv : ∀ K : Int, K = k → devB ⟨k, n, o, vl⟩ ⟨x1, x2, x3, x4, x5, x6, x7, x8, x9, .slice ad an ac⟩ l = ((statB ⟨k, n, o, vl⟩ || upB ⟨k, n, o, vl⟩) && hR ⟨k, n, o, vl⟩ (valD K n ⟨x1, x2, x3, x4, x5, x6, x7, x8, x9, .slice ad an ac⟩ l)) := fun K hK => by subst hK; rfl
 have HDV := qH hdv
 have hkc := key_cases (t := ⟨k, n, o, vl⟩)
 simp only at hkc
 unfold De.getR at HG
 have HG2 := qH (getO_size hd.a (bs n))
 unfold getO at HG2
 unfold tmC at HS HU HH ⊢
 unfold De.devV De.devC
 simp only at HS HU HH ⊢
 generalize hsb : statB ⟨k, n, o, vl⟩ = sB at *
 generalize hub : upB ⟨k, n, o, vl⟩ = uB at *
 clear hk0 hb0 hd0 h hd hdv
 cases sB
 ·cases uB
  ·rw [HDV.out k rfl]
   go_enter Tryz.func26, Tryz.ntmps26
   go_wp2_with (first
    | (go_at_call 54; refine cM (by with_reducible exact HS.out _) ?_; rintro e w1 ⟨rfl, hk1⟩; have HK1 := qH hk1; obtain ⟨⟨c0, c1, c2, c3⟩, d3, d4, d5, d9⟩ := HC.out _ hk1; clear hk1)
    | (go_at_call 25; refine cM (by with_reducible exact HU.out _) ?_; rintro e w2 ⟨rfl, hk2⟩; have HK2 := qH (HK1.out.trans hk2); clear hk2))
   go_ret
   exact ⟨rfl, HK0.out.trans HK2.out⟩
  ·have hkc2 := hkc rfl
   clear hkc
   have hup : upK k = true := by
    have := hub
    unfold upB at this
    simp only [Bool.and_eq_true] at this
    exact this.1
   have hkc3 : k = 8 ∨ k = 9 ∨ k = 10 ∨ k = 11 := by
    unfold upK at hup
    simp only [Bool.or_eq_true, beq_iff_eq] at hup
    omega
   clear hkc2 hup hub hsb
   rcases hkc3 with rfl | rfl | rfl | rfl
   ·rw [HDV.out 8 rfl]
    go_enter Tryz.func26, Tryz.ntmps26
    go_wp2_with (first
     | (go_at_call 54; refine cM (by with_reducible exact HS.out _) ?_; rintro e w1 ⟨rfl, hk1⟩; have HK1 := qH hk1; obtain ⟨⟨c0, c1, c2, c3⟩, d3, d4, d5, d9⟩ := HC.out _ hk1; clear hk1)
     | (go_at_call 25; refine cM (by with_reducible exact HU.out _) ?_; rintro e w2 ⟨rfl, hk2⟩; have HK2 := qH (HK1.out.trans hk2); obtain ⟨⟨c0, c1, c2, c3⟩, d3, d4, d5, d9⟩ := HC.out _ HK2.out; clear hk2)
     | (go_at_call 55; refine cM (by with_reducible exact HH.out _ HSm.out.o _) ?_; rintro e w3 ⟨rfl, hk3⟩; have HK3 := qH (HK2.out.trans hk3); clear hk3))
    go_ret
    exact ⟨rfl, HK0.out.trans HK3.out⟩
   ·rw [HDV.out 9 rfl]
    go_enter Tryz.func26, Tryz.ntmps26
    go_wp2_with (first
     | (go_at_call 54; refine cM (by with_reducible exact HS.out _) ?_; rintro e w1 ⟨rfl, hk1⟩; have HK1 := qH hk1; obtain ⟨⟨c0, c1, c2, c3⟩, d3, d4, d5, d9⟩ := HC.out _ hk1; clear hk1)
     | (go_at_call 25; refine cM (by with_reducible exact HU.out _) ?_; rintro e w2 ⟨rfl, hk2⟩; have HK2 := qH (HK1.out.trans hk2); obtain ⟨⟨c0, c1, c2, c3⟩, d3, d4, d5, d9⟩ := HC.out _ HK2.out; clear hk2)
     | (go_at_call 55; refine cM (by with_reducible exact HH.out _ HSm.out.s _) ?_; rintro e w3 ⟨rfl, hk3⟩; have HK3 := qH (HK2.out.trans hk3); clear hk3))
    go_ret
    exact ⟨rfl, HK0.out.trans HK3.out⟩
   ·rw [HDV.out 10 rfl]
    go_enter Tryz.func26, Tryz.ntmps26
    go_wp2_with (first
     | (go_at_call 54; refine cM (by with_reducible exact HS.out _) ?_; rintro e w1 ⟨rfl, hk1⟩; have HK1 := qH hk1; obtain ⟨⟨c0, c1, c2, c3⟩, d3, d4, d5, d9⟩ := HC.out _ hk1; clear hk1)
     | (go_at_call 25; refine cM (by with_reducible exact HU.out _) ?_; rintro e w2 ⟨rfl, hk2⟩; have HK2 := qH (HK1.out.trans hk2); obtain ⟨⟨c0, c1, c2, c3⟩, d3, d4, d5, d9⟩ := HC.out _ HK2.out; clear hk2)
     | (go_at_call 55; refine cM (by with_reducible exact HH.out _ HSm.out.d _) ?_; rintro e w3 ⟨rfl, hk3⟩; have HK3 := qH (HK2.out.trans hk3); clear hk3))
    go_ret
    exact ⟨rfl, HK0.out.trans HK3.out⟩
   ·rw [HDV.out 11 rfl]
    go_enter Tryz.func26, Tryz.ntmps26
    go_wp2_with (first
     | (go_at_call 54; refine cM (by with_reducible exact HS.out _) ?_; rintro e w1 ⟨rfl, hk1⟩; have HK1 := qH hk1; obtain ⟨⟨c0, c1, c2, c3⟩, d3, d4, d5, d9⟩ := HC.out _ hk1; clear hk1)
     | (go_at_call 25; refine cM (by with_reducible exact HU.out _) ?_; rintro e w2 ⟨rfl, hk2⟩; have HK2 := qH (HK1.out.trans hk2); obtain ⟨⟨c0, c1, c2, c3⟩, d3, d4, d5, d9⟩ := HC.out _ HK2.out; clear hk2)
     | (go_at_call 56; refine cM (by with_reducible exact HG.out _ HK2.out) ?_; rintro e w4 ⟨rfl, hk4⟩; have HK4 := qH (HK2.out.trans (Kp.of_bel hk4)); obtain ⟨⟨c0, c1, c2, c3⟩, d3, d4, d5, d9⟩ := HC.out _ HK4.out; clear hk4)
     | (go_at_call 55; refine cM (by with_reducible exact HH.out _ HG2.out _) ?_; rintro e w3 ⟨rfl, hk3⟩; have HK3 := qH (HK4.out.trans hk3); clear hk3))
    go_ret
    exact ⟨rfl, HK0.out.trans HK3.out⟩
 ·have hst : stK k = true := by
   have := hsb
   unfold statB at this
   simp only [Bool.and_eq_true] at this
   exact this.1
  have hkc3 : k = 2 ∨ k = 3 ∨ k = 4 ∨ k = 5 := by
   unfold stK at hst
   simp only [Bool.or_eq_true, beq_iff_eq] at hst
   omega
  clear hst hub hsb hkc
  rcases hkc3 with rfl | rfl | rfl | rfl
  ·rw [HDV.out 2 rfl]
   go_enter Tryz.func26, Tryz.ntmps26
   go_wp2_with (first
    | (go_at_call 54; refine cM (by with_reducible exact HS.out _) ?_; rintro e w1 ⟨rfl, hk1⟩; have HK1 := qH hk1; obtain ⟨⟨c0, c1, c2, c3⟩, d3, d4, d5, d9⟩ := HC.out _ hk1; clear hk1)
    | (go_at_call 55; refine cM (by with_reducible exact HH.out _ HSm.out.o _) ?_; rintro e w3 ⟨rfl, hk3⟩; have HK3 := qH (HK1.out.trans hk3); clear hk3))
   go_ret
   exact ⟨rfl, HK0.out.trans HK3.out⟩
  ·rw [HDV.out 3 rfl]
   go_enter Tryz.func26, Tryz.ntmps26
   go_wp2_with (first
    | (go_at_call 54; refine cM (by with_reducible exact HS.out _) ?_; rintro e w1 ⟨rfl, hk1⟩; have HK1 := qH hk1; obtain ⟨⟨c0, c1, c2, c3⟩, d3, d4, d5, d9⟩ := HC.out _ hk1; clear hk1)
    | (go_at_call 55; refine cM (by with_reducible exact HH.out _ HSm.out.s _) ?_; rintro e w3 ⟨rfl, hk3⟩; have HK3 := qH (HK1.out.trans hk3); clear hk3))
   go_ret
   exact ⟨rfl, HK0.out.trans HK3.out⟩
  ·rw [HDV.out 4 rfl]
   go_enter Tryz.func26, Tryz.ntmps26
   go_wp2_with (first
    | (go_at_call 54; refine cM (by with_reducible exact HS.out _) ?_; rintro e w1 ⟨rfl, hk1⟩; have HK1 := qH hk1; obtain ⟨⟨c0, c1, c2, c3⟩, d3, d4, d5, d9⟩ := HC.out _ hk1; clear hk1)
    | (go_at_call 55; refine cM (by with_reducible exact HH.out _ HSm.out.d _) ?_; rintro e w3 ⟨rfl, hk3⟩; have HK3 := qH (HK1.out.trans hk3); clear hk3))
   go_ret
   exact ⟨rfl, HK0.out.trans HK3.out⟩
  ·rw [HDV.out 5 rfl]
   go_enter Tryz.func26, Tryz.ntmps26
   go_wp2_with (first
    | (go_at_call 54; refine cM (by with_reducible exact HS.out _) ?_; rintro e w1 ⟨rfl, hk1⟩; have HK1 := qH hk1; obtain ⟨⟨c0, c1, c2, c3⟩, d3, d4, d5, d9⟩ := HC.out _ hk1; clear hk1)
    | (go_at_call 56; refine cM (by with_reducible exact HG.out _ HK1.out) ?_; rintro e w4 ⟨rfl, hk4⟩; have HK4 := qH (HK1.out.trans (Kp.of_bel hk4)); obtain ⟨⟨c0, c1, c2, c3⟩, d3, d4, d5, d9⟩ := HC.out _ HK4.out; clear hk4)
    | (go_at_call 55; refine cM (by with_reducible exact HH.out _ HG2.out _) ?_; rintro e w3 ⟨rfl, hk3⟩; have HK3 := qH (HK4.out.trans hk3); clear hk3))
   go_ret
   exact ⟨rfl, HK0.out.trans HK3.out⟩
end Go.Proofs.YtljkljnfbcmjdaaGreatDoor
