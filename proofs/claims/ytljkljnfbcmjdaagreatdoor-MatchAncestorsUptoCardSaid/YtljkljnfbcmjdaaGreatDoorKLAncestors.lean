/- MatchAncestors: the rule's ancestor, of the program and of the reference. -/
import Derived.Test.YtljkljnfbcmjdaaGreatDoorKU5
open Go.Lib renaming hid → qH
open Go.Calls renaming mono → cM
open Go.Act renaming put → aP
open List renaming setIfInBounds_toArray → lA, set_cons_zero → lB, set_cons_succ → lC
namespace Go.Proofs.YtljkljnfbcmjdaaGreatDoor
open Go.RowKit
theorem RT.Has.keepT {α : Type} {r : RT α} {w w' : World} {tb : Nat} {v : Value} {l : List α} (h : r.Has w v l) (hk : Kp [tb] w w') (ht : w.heap.size ≤ tb) : r.Has w' v l := by
 rcases h with h | ⟨b, o, c, hv, hb, hr⟩
 ·exact .inl h
 ·exact .inr ⟨b, o, c, hv, Nat.lt_of_lt_of_le hb hk.size, hr.keep (hk.block b hb (by simp; omega))⟩
set_option maxHeartbeats 16000000 in
set_option maxRecDepth 100000 in
theorem ancestors_walk (a0 : Option Addr) (n0 c0 : Nat) (ar : Option Addr) (ltr : List Tm) (cr : Nat) (w : World) (hm : De.Max w) (hi : Ints w w.heap.size (.slice a0 n0 c0)) (hr : tmT.Has w (.slice ar ltr.length cr) ltr) (hsr : SmL ltr) : Calls Tryz.prog 3 #[.slice a0 n0 c0, .slice ar ltr.length cr] w fun e w' => e = .returned (.bool true) ∧ Below w.heap.size w w' := by
 have HKn := qH (fun W => known_any W)
 obtain ⟨tb, htb⟩ : ∃ tb, w.heap.size = tb := ⟨_, rfl⟩
 obtain ⟨nr, hnr⟩ : ∃ n, ltr.length = n := ⟨_, rfl⟩
 have Hnr := qH hnr
 have HVr := qH hr
 have HSr := qH hsr
 rw [hnr] at HVr ⊢
 clear hnr hr hsr
 by_cases h20 : 20 < nr
 ·have h20i : (20 : Int) < (nr : Int) := by omega
  clear htb
  go_enter Tryz.func3, Tryz.ntmps3
  go_wp2_with (go_at_call 5; refine cM (by with_reducible exact HKn.out _) ?_; rintro e wk ⟨rfl, hkk⟩; have HKk := qH hkk; clear hkk)
  go_ret
  exact ⟨rfl, HKk.out.bel⟩
 have h20i : ¬ (20 : Int) < (nr : Int) := by omega
 obtain ⟨W0, hW⟩ : ∃ W0, w.alloc (.cells #[.slice a0 n0 c0, .int .i64 0] 27) = W0 := ⟨_, rfl⟩
 have hk0 : Kp [] w W0 := by rw [← hW]; exact (Kp.refl [] w).alloc _
 have hT0 : Tp W0 tb 0 := by rw [← hW, ← htb]; exact tape_new hi
 have HTr0 := qH (tree9 (by omega) hT0 (hm.below hk0.bel))
 have HK0 := qH (show Kp [tb] w W0 from hk0.mono (by simp))
 have Htb := qH htb
 clear hk0 hT0 hi hm
 go_enter Tryz.func3, Tryz.ntmps3
 go_upto_region 5 with (first
  | (go_at_call 6; refine cM (by with_reducible exact HTr0.out) ?_; rintro e w1 ⟨va, N, vc, L, rfl, HN, hNc, hN9, HTr, k1, hk1, HT, HK1⟩; have H1v := qH (show (#[.slice va N vc] : Array Value).all (·.oneCell') = true from by simp [Value.oneCell']))
  | (refine wpList_store_new w1 30 _ #[.slice va N vc] rfl _ _ rfl rfl rfl info30b rfl H1v.out ?_))
 obtain ⟨Q, hQ⟩ : ∃ Q, w1.heap.size = Q := ⟨_, rfl⟩
 have hq1 := heap_alloc_last w1 (.cells #[.slice va N vc] 30)
 have hka := (Kp.refl [] w1).alloc (.cells #[.slice va N vc] 30)
 generalize w1.alloc (.cells #[.slice va N vc] 30) = w2 at *
 rw [hQ] at hq1 ⊢
 have HQ2 := qH hq1
 have t0 := cell_one hq1
 have HT2 := qH (HT.out.kp hka (by simp))
 have HTr2 := qH (HTr.out.kp hka)
 have HK2 := qH ((HK0.out.trans HK1.out).trans (hka.mono (by simp)))
 have HQt := qH (show tb < Q from by rw [← hQ]; exact HT.out.lt)
 have HSm := qH (some_any (by omega) HT2.out HTr2.out (by omega))
 clear hq1 hka hQ HT HTr HTr0 HK1 hW htb
 go_upto_region 6 with (go_at_call 7; refine cM (by with_reducible exact HSm.out) ?_; rintro e w3 ⟨q, rfl, hqw, ⟨k3, hk3, hT3⟩, hkp3⟩; have HT3 := qH hT3; have HTr3 := qH (HTr2.out.kpT hkp3 (by omega)); have HQ3 := qH ((hkp3.block Q (block_lt HQ2.out) (by have := HQt.out; simp; omega)).trans HQ2.out); have HK3 := qH (HK2.out.trans hkp3); have HQw := qH hqw; clear hT3 hkp3 hqw t0)
 have HUp0 := qH (upw_any (by omega) HT3.out)
 go_upto_region 7 with (go_at_call 8; refine cM (by with_reducible exact HUp0.out) ?_; rintro e w4 ⟨u, lt, rfl, hown, hl3, hsm, hT4, hkp4⟩; have HSmT := qH hsm; have HTr4 := qH (HTr3.out.kpT hkp4 (by omega)); have HQ4 := qH ((hkp4.block Q (block_lt HQ3.out) (by have := HQt.out; simp; omega)).trans HQ3.out); have HK4 := qH (HK3.out.trans hkp4); obtain ⟨ad, cp, huf⟩ := hown.form; have HV := qH (huf ▸ hown.has); subst huf; clear hT4 hkp4 hown hsm)
 obtain ⟨G, hG⟩ : ∃ G, w4.heap.size = G := ⟨_, rfl⟩
 have hg5 := heap_alloc_last w4 (.cells #[.slice ar nr cr, .slice ad lt.length cp] 23)
 have hka := (Kp.refl [] w4).alloc (.cells #[.slice ar nr cr, .slice ad lt.length cp] 23)
 generalize w4.alloc (.cells #[.slice ar nr cr, .slice ad lt.length cp] 23) = w5 at *
 rw [hG] at hg5 ⊢
 have HG5 := qH hg5
 have HK5 := qH (HK4.out.trans (hka.mono (by simp)))
 have HV5 := qH (HV.out.kp0 hka)
 have HQ5 := qH ((hka.block Q (block_lt HQ4.out) (by simp)).trans HQ4.out)
 have HTr5 := qH (HTr4.out.kp hka)
 have HVr5 := qH (show tmT.Has w5 (.slice ar nr cr) ltr from HVr.out.keepT HK5.out (by have := Htb.out; omega))
 have HSl := qH (show SmL lt from fun t ht => Nat.le_trans (HSmT.out t ht).2 (by decide))
 obtain ⟨T, hT⟩ : ∃ T, lt.length = T := ⟨_, rfl⟩
 have HOk := qH (tree_ok HTr5.out (by omega))
 have HAr := qH (fun W (hk : Kp [] w5 W) => ancestor_all ltr ar cr L va vc q W (by have := Hnr.out; omega) HSr.out (by rw [Hnr.out]; exact HVr5.out.kp0 hk) HOk.out (by rw [HN.out]; exact HTr5.out.any.has.below hk.bel) (by rw [HN.out]; exact hNc) HQw.out HTr5.out.val)
 have HRr := qH (fun W (hk : Kp [] w5 W) => refAnc_any ltr ar cr L (.slice va N vc) q W (by have := Hnr.out; omega) HSr.out (by rw [Hnr.out]; exact HVr5.out.kp0 hk) HOk.out (HTr5.out.any.has.below hk.bel))
 have HAu := qH (fun W (hk : Kp [] w5 W) => ancestor_all lt ad cp L va vc q W (by omega) HSl.out (HV5.out.kp0 hk) HOk.out (by rw [HN.out]; exact HTr5.out.any.has.below hk.bel) (by rw [HN.out]; exact hNc) HQw.out HTr5.out.val)
 have HRu := qH (fun W (hk : Kp [] w5 W) => refAnc_any lt ad cp L (.slice va N vc) q W (by omega) HSl.out (HV5.out.kp0 hk) HOk.out (HTr5.out.any.has.below hk.bel))
 rw [HN.out, Hnr.out] at HAr
 rw [Hnr.out] at HRr
 rw [HN.out, hT] at HAu
 rw [hT] at HRu HG5 ⊢
 have HFin0 := qH (fun (w' : World) (hk : Kp [] w5 w') => (show Below w.heap.size w w' from (HK5.out.trans (hk.mono (by simp))).below (Nat.le_refl _) (by intro x hx; simp at hx; have := Htb.out; omega)))
 clear hg5 hka hG HT2 HTr2 HK2 HT3 HTr3 HK3 HUp0 HSm HK0 HV HQ4 HTr4 HK4
 go_wp2
 go_loopw [9, 10, 11, 12, 13] (fun s9 _ _ _ _ wx => ∃ i : Nat, i ≤ 2 ∧ s9 = .int .i64 (i : Int) ∧ Hid (Kp [] w5 wx)) (fun s9 _ _ _ _ _ => 2 - (intOf s9).toNat)
 case atStart => exact ⟨0, by omega, rfl, qH (Kp.refl [] _)⟩
 case round =>
  obtain ⟨i, hi, rfl, HKi⟩ := hrel
  rename World => WO
  have hi3 : i = 0 ∨ i = 1 ∨ i = 2 := by omega
  rcases hi3 with rfl | rfl | rfl
  ·skip
   obtain ⟨an, ok, hao⟩ : ∃ an ok, ancU ltr (De.ups (L.map (·.1)) q) = (an, ok) := ⟨_, _, rfl⟩
   rw [hao] at HAr HRr
   clear hao
   go_upto_region 10 with fail
   have hdr := (Kp.refl [] WO).drew 1
   refine wp_region_held_drew (S := fun W => Kp [] WO W) (by kernel_rfl) ((Kp.refl [] WO).drew 1) (fun hHeld => ?_)
   refine wpAnyH_take (i := 0) (oi := ⟨some 37, .move (.tmp 8), 34, "law.go:106", #[], none⟩) (v := .slice (some ⟨G, 0, none⟩) 2 2) rfl (by kernel_rfl) (by kernel_rfl) (by kernel_rfl) (fun _ _ _ h => h) (Or.inl ⟨by rfl, fun w hSw => by (try dsimp only at hSw); go_simp⟩) hHeld ?_
   try simp only [aP, lA, lB, lC]
   refine wpAnyH_take (i := 1) (oi := ⟨some 38, .move (.tmp 9), 3, "law.go:106", #[], none⟩) (v := .int .i64 0) rfl (by kernel_rfl) (by kernel_rfl) (by kernel_rfl) (fun _ _ _ h => h) (Or.inl ⟨by rfl, fun w hSw => by (try dsimp only at hSw); go_simp⟩) hHeld ?_
   try simp only [aP, lA, lB, lC]
   refine wpAnyH_take (i := 2) (oi := ⟨some 39, .indexAddr 34 (.tmp 37) (.tmp 38), 0, "law.go:106", #[⟨0, .data⟩, ⟨1, .data⟩], none⟩) (v := .pointer (some ⟨G, 0, none⟩)) rfl (by kernel_rfl) (by kernel_rfl) (by kernel_rfl) (fun _ _ _ h => h) (Or.inl ⟨by rfl, fun w hSw => by (try dsimp only at hSw); go_simp⟩) hHeld ?_
   try simp only [aP, lA, lB, lC]
   refine wpAnyH_take (i := 3) (oi := ⟨some 40, .load 23 (.tmp 39), 23, "law.go:106", #[⟨2, .data⟩], none⟩) (v := .slice ar nr cr) rfl (by kernel_rfl) (by kernel_rfl) (by kernel_rfl) (fun _ _ _ h => h) (Or.inl ⟨by rfl, fun w hSw => by (try dsimp only at hSw); have g0 := (show w.cell? ⟨G, 0, none⟩ = some (.slice ar nr cr) from by rw [cell_of_row _ _ _ _ _ _ (((HKi.out.trans hSw).block G (block_lt HG5.out) (by simp)).trans HG5.out)]; rfl); go_simp⟩) hHeld ?_
   try simp only [aP, lA, lB, lC]
   refine wpAnyH_take (i := 4) (oi := ⟨some 41, .load 30 (.tmp 6), 30, "law.go:106", #[], none⟩) (v := .agg #[.slice va N vc]) rfl (by kernel_rfl) (by kernel_rfl) (by kernel_rfl) (fun _ _ _ h => h) (Or.inl ⟨by rfl, fun w hSw => by (try dsimp only at hSw); have t0 := cell_one (((HKi.out.trans hSw).block Q (block_lt HQ5.out) (by simp)).trans HQ5.out); go_simp⟩) hHeld ?_
   try simp only [aP, lA, lB, lC]
   refine wpAnyH_take (i := 5) (oi := ⟨some 42, .move (.tmp 7), 3, "law.go:106", #[], none⟩) (v := .int .i64 q) rfl (by kernel_rfl) (by kernel_rfl) (by kernel_rfl) (fun _ _ _ h => h) (Or.inl ⟨by rfl, fun w hSw => by (try dsimp only at hSw); go_simp⟩) hHeld ?_
   try simp only [aP, lA, lB, lC]
   refine wpAnyH_ready (rs := [6]) (by kernel_rfl) (by simp) ?_
   refine AllReadyH.cons (o := ⟨some 43, .call { callee := .value (.func 9), args := #[.tmp 40, .tmp 41, .tmp 42], argTypes := #[23, 30, 3] }, 35, "law.go:106", #[⟨3, .data⟩, ⟨4, .data⟩, ⟨5, .data⟩], none⟩) rfl (fun K hK => ?_) AllReadyH.nil
   go_simp
   go_at_call 9
   refine cM (by with_reducible exact HAr.out _ (HKi.out.trans hHeld)) ?_
   rintro e w6 ⟨rfl, hk6⟩
   dsimp only
   have hH := hHeld.trans hk6
   clear hk6
   clear hHeld
   refine hK.out _ _ hH (fun hHeld => ?_)
   try simp only [aP, lA, lB, lC]
   clear hK
   refine wpAnyH_take (i := 7) (oi := ⟨some 36, .move (.tmp 43), 35, "law.go:106", #[⟨6, .data⟩], none⟩) (v := .tuple #[.int .i64 an, .bool ok]) rfl (by kernel_rfl) (by kernel_rfl) (by kernel_rfl) (fun _ _ _ h => h) (Or.inl ⟨by rfl, fun w hSw => by (try dsimp only at hSw); go_simp⟩) hHeld ?_
   try simp only [aP, lA, lB, lC]
   refine wpAnyH_take (i := 8) (oi := ⟨some 44, .extract (.tmp 36) 0, 3, "law.go:106", #[⟨7, .data⟩], none⟩) (v := .int .i64 an) rfl (by kernel_rfl) (by kernel_rfl) (by kernel_rfl) (fun _ _ _ h => h) (Or.inl ⟨by rfl, fun w hSw => by (try dsimp only at hSw); go_simp⟩) hHeld ?_
   try simp only [aP, lA, lB, lC]
   refine wpAnyH_take (i := 9) (oi := ⟨some 45, .extract (.tmp 36) 1, 4, "law.go:106", #[⟨7, .data⟩, { on := 10, ground := .gcOnly Departure.lateStores }], none⟩) (v := .bool ok) rfl (by kernel_rfl) (by kernel_rfl) (by kernel_rfl) (fun _ _ _ h => h) (Or.inl ⟨by rfl, fun w hSw => by (try dsimp only at hSw); go_simp⟩) hHeld ?_
   try simp only [aP, lA, lB, lC]
   refine wpAnyH_take (i := 10) (oi := ⟨some 10, .assign (.tmp 44), 3, "law.go:106", #[⟨8, .data⟩, ⟨6, .chain⟩, ⟨0, .phase⟩, ⟨1, .phase⟩, ⟨2, .phase⟩, ⟨3, .phase⟩, ⟨4, .phase⟩, ⟨5, .phase⟩, ⟨6, .phase⟩, ⟨7, .phase⟩, ⟨8, .phase⟩, { on := 9, ground := .textOnly Departure.lateStores }], none⟩) (v := .int .i64 an) rfl (by kernel_rfl) (by kernel_rfl) (by kernel_rfl) (fun _ _ _ h => h) (Or.inl ⟨by rfl, fun w hSw => by (try dsimp only at hSw); go_simp⟩) hHeld ?_
   try simp only [aP, lA, lB, lC]
   refine wpAnyH_take (i := 11) (oi := ⟨some 11, .assign (.tmp 45), 4, "law.go:106", #[⟨9, .data⟩, ⟨10, .chain⟩, ⟨0, .phase⟩, ⟨1, .phase⟩, ⟨2, .phase⟩, ⟨3, .phase⟩, ⟨4, .phase⟩, ⟨5, .phase⟩, ⟨6, .phase⟩, ⟨7, .phase⟩, ⟨8, .phase⟩, ⟨9, .phase⟩, ⟨10, .phase⟩], none⟩) (v := .bool ok) rfl (by kernel_rfl) (by kernel_rfl) (by kernel_rfl) (fun _ _ _ h => h) (Or.inl ⟨by rfl, fun w hSw => by (try dsimp only at hSw); go_simp⟩) hHeld ?_
   try simp only [aP, lA, lB, lC]
   have HSf := qH (HKi.out.trans hHeld)
   refine wpAnyH_done (by kernel_rfl) ?_ _
   clear hHeld
   go_upto_region 11 with fail
   have HKj := HSf
   clear HSf
   have hdr := (Kp.refl [] w6).drew 1
   rename World => WP
   refine wp_region_held_drew (S := fun W => Kp [] WP W) (by kernel_rfl) ((Kp.refl [] WP).drew 1) (fun hHeld => ?_)
   refine wpAnyH_take (i := 0) (oi := ⟨some 47, .move (.tmp 8), 34, "law.go:107", #[], none⟩) (v := .slice (some ⟨G, 0, none⟩) 2 2) rfl (by kernel_rfl) (by kernel_rfl) (by kernel_rfl) (fun _ _ _ h => h) (Or.inl ⟨by rfl, fun w hSw => by (try dsimp only at hSw); go_simp⟩) hHeld ?_
   try simp only [aP, lA, lB, lC]
   refine wpAnyH_take (i := 1) (oi := ⟨some 48, .move (.tmp 9), 3, "law.go:107", #[], none⟩) (v := .int .i64 0) rfl (by kernel_rfl) (by kernel_rfl) (by kernel_rfl) (fun _ _ _ h => h) (Or.inl ⟨by rfl, fun w hSw => by (try dsimp only at hSw); go_simp⟩) hHeld ?_
   try simp only [aP, lA, lB, lC]
   refine wpAnyH_take (i := 2) (oi := ⟨some 49, .indexAddr 34 (.tmp 47) (.tmp 48), 0, "law.go:107", #[⟨0, .data⟩, ⟨1, .data⟩], none⟩) (v := .pointer (some ⟨G, 0, none⟩)) rfl (by kernel_rfl) (by kernel_rfl) (by kernel_rfl) (fun _ _ _ h => h) (Or.inl ⟨by rfl, fun w hSw => by (try dsimp only at hSw); go_simp⟩) hHeld ?_
   try simp only [aP, lA, lB, lC]
   refine wpAnyH_take (i := 3) (oi := ⟨some 50, .load 23 (.tmp 49), 23, "law.go:107", #[⟨2, .data⟩], none⟩) (v := .slice ar nr cr) rfl (by kernel_rfl) (by kernel_rfl) (by kernel_rfl) (fun _ _ _ h => h) (Or.inl ⟨by rfl, fun w hSw => by (try dsimp only at hSw); have g0 := (show w.cell? ⟨G, 0, none⟩ = some (.slice ar nr cr) from by rw [cell_of_row _ _ _ _ _ _ (((HKj.out.trans hSw).block G (block_lt HG5.out) (by simp)).trans HG5.out)]; rfl); go_simp⟩) hHeld ?_
   try simp only [aP, lA, lB, lC]
   refine wpAnyH_take (i := 4) (oi := ⟨some 51, .load 30 (.tmp 6), 30, "law.go:107", #[], none⟩) (v := .agg #[.slice va N vc]) rfl (by kernel_rfl) (by kernel_rfl) (by kernel_rfl) (fun _ _ _ h => h) (Or.inl ⟨by rfl, fun w hSw => by (try dsimp only at hSw); have t0 := cell_one (((HKj.out.trans hSw).block Q (block_lt HQ5.out) (by simp)).trans HQ5.out); go_simp⟩) hHeld ?_
   try simp only [aP, lA, lB, lC]
   refine wpAnyH_take (i := 5) (oi := ⟨some 52, .move (.tmp 7), 3, "law.go:107", #[], none⟩) (v := .int .i64 q) rfl (by kernel_rfl) (by kernel_rfl) (by kernel_rfl) (fun _ _ _ h => h) (Or.inl ⟨by rfl, fun w hSw => by (try dsimp only at hSw); go_simp⟩) hHeld ?_
   try simp only [aP, lA, lB, lC]
   refine wpAnyH_ready (rs := [6]) (by kernel_rfl) (by simp) ?_
   refine AllReadyH.cons (o := ⟨some 53, .call { callee := .value (.func 10), args := #[.tmp 50, .tmp 51, .tmp 52], argTypes := #[23, 30, 3] }, 35, "law.go:107", #[⟨3, .data⟩, ⟨4, .data⟩, ⟨5, .data⟩], none⟩) rfl (fun K hK => ?_) AllReadyH.nil
   go_simp
   go_at_call 10
   refine cM (by with_reducible exact HRr.out _ (HKj.out.trans hHeld)) ?_
   rintro e w6 ⟨rfl, hk6⟩
   dsimp only
   have hH := hHeld.trans hk6
   clear hk6
   clear hHeld
   refine hK.out _ _ hH (fun hHeld => ?_)
   try simp only [aP, lA, lB, lC]
   clear hK
   refine wpAnyH_take (i := 7) (oi := ⟨some 46, .move (.tmp 53), 35, "law.go:107", #[⟨6, .data⟩], none⟩) (v := .tuple #[.int .i64 an, .bool ok]) rfl (by kernel_rfl) (by kernel_rfl) (by kernel_rfl) (fun _ _ _ h => h) (Or.inl ⟨by rfl, fun w hSw => by (try dsimp only at hSw); go_simp⟩) hHeld ?_
   try simp only [aP, lA, lB, lC]
   refine wpAnyH_take (i := 8) (oi := ⟨some 54, .extract (.tmp 46) 0, 3, "law.go:107", #[⟨7, .data⟩], none⟩) (v := .int .i64 an) rfl (by kernel_rfl) (by kernel_rfl) (by kernel_rfl) (fun _ _ _ h => h) (Or.inl ⟨by rfl, fun w hSw => by (try dsimp only at hSw); go_simp⟩) hHeld ?_
   try simp only [aP, lA, lB, lC]
   refine wpAnyH_take (i := 9) (oi := ⟨some 55, .extract (.tmp 46) 1, 4, "law.go:107", #[⟨7, .data⟩, { on := 10, ground := .gcOnly Departure.lateStores }], none⟩) (v := .bool ok) rfl (by kernel_rfl) (by kernel_rfl) (by kernel_rfl) (fun _ _ _ h => h) (Or.inl ⟨by rfl, fun w hSw => by (try dsimp only at hSw); go_simp⟩) hHeld ?_
   try simp only [aP, lA, lB, lC]
   refine wpAnyH_take (i := 10) (oi := ⟨some 12, .assign (.tmp 54), 3, "law.go:107", #[⟨8, .data⟩, ⟨6, .chain⟩, ⟨0, .phase⟩, ⟨1, .phase⟩, ⟨2, .phase⟩, ⟨3, .phase⟩, ⟨4, .phase⟩, ⟨5, .phase⟩, ⟨6, .phase⟩, ⟨7, .phase⟩, ⟨8, .phase⟩, { on := 9, ground := .textOnly Departure.lateStores }], none⟩) (v := .int .i64 an) rfl (by kernel_rfl) (by kernel_rfl) (by kernel_rfl) (fun _ _ _ h => h) (Or.inl ⟨by rfl, fun w hSw => by (try dsimp only at hSw); go_simp⟩) hHeld ?_
   try simp only [aP, lA, lB, lC]
   refine wpAnyH_take (i := 11) (oi := ⟨some 13, .assign (.tmp 55), 4, "law.go:107", #[⟨9, .data⟩, ⟨10, .chain⟩, ⟨0, .phase⟩, ⟨1, .phase⟩, ⟨2, .phase⟩, ⟨3, .phase⟩, ⟨4, .phase⟩, ⟨5, .phase⟩, ⟨6, .phase⟩, ⟨7, .phase⟩, ⟨8, .phase⟩, ⟨9, .phase⟩, ⟨10, .phase⟩], none⟩) (v := .bool ok) rfl (by kernel_rfl) (by kernel_rfl) (by kernel_rfl) (fun _ _ _ h => h) (Or.inl ⟨by rfl, fun w hSw => by (try dsimp only at hSw); go_simp⟩) hHeld ?_
   try simp only [aP, lA, lB, lC]
   have HSf := qH (HKj.out.trans hHeld)
   refine wpAnyH_done (by kernel_rfl) ?_ _
   clear hHeld
   have hne : (an != an) = false := by simp
   go_wp2
   exact ⟨⟨1, by omega, by go_num, HSf⟩, by simp [intOf]⟩
  ·skip
   obtain ⟨an, ok, hao⟩ : ∃ an ok, ancU lt (De.ups (L.map (·.1)) q) = (an, ok) := ⟨_, _, rfl⟩
   rw [hao] at HAu HRu
   clear hao
   go_upto_region 10 with fail
   have hdr := (Kp.refl [] WO).drew 1
   refine wp_region_held_drew (S := fun W => Kp [] WO W) (by kernel_rfl) ((Kp.refl [] WO).drew 1) (fun hHeld => ?_)
   refine wpAnyH_take (i := 0) (oi := ⟨some 37, .move (.tmp 8), 34, "law.go:106", #[], none⟩) (v := .slice (some ⟨G, 0, none⟩) 2 2) rfl (by kernel_rfl) (by kernel_rfl) (by kernel_rfl) (fun _ _ _ h => h) (Or.inl ⟨by rfl, fun w hSw => by (try dsimp only at hSw); go_simp⟩) hHeld ?_
   try simp only [aP, lA, lB, lC]
   refine wpAnyH_take (i := 1) (oi := ⟨some 38, .move (.tmp 9), 3, "law.go:106", #[], none⟩) (v := .int .i64 1) rfl (by kernel_rfl) (by kernel_rfl) (by kernel_rfl) (fun _ _ _ h => h) (Or.inl ⟨by rfl, fun w hSw => by (try dsimp only at hSw); go_simp⟩) hHeld ?_
   try simp only [aP, lA, lB, lC]
   refine wpAnyH_take (i := 2) (oi := ⟨some 39, .indexAddr 34 (.tmp 37) (.tmp 38), 0, "law.go:106", #[⟨0, .data⟩, ⟨1, .data⟩], none⟩) (v := .pointer (some ⟨G, 1, none⟩)) rfl (by kernel_rfl) (by kernel_rfl) (by kernel_rfl) (fun _ _ _ h => h) (Or.inl ⟨by rfl, fun w hSw => by (try dsimp only at hSw); go_simp⟩) hHeld ?_
   try simp only [aP, lA, lB, lC]
   refine wpAnyH_take (i := 3) (oi := ⟨some 40, .load 23 (.tmp 39), 23, "law.go:106", #[⟨2, .data⟩], none⟩) (v := .slice ad T cp) rfl (by kernel_rfl) (by kernel_rfl) (by kernel_rfl) (fun _ _ _ h => h) (Or.inl ⟨by rfl, fun w hSw => by (try dsimp only at hSw); have g0 := (show w.cell? ⟨G, 1, none⟩ = some (.slice ad T cp) from by rw [cell_of_row _ _ _ _ _ _ (((HKi.out.trans hSw).block G (block_lt HG5.out) (by simp)).trans HG5.out)]; rfl); go_simp⟩) hHeld ?_
   try simp only [aP, lA, lB, lC]
   refine wpAnyH_take (i := 4) (oi := ⟨some 41, .load 30 (.tmp 6), 30, "law.go:106", #[], none⟩) (v := .agg #[.slice va N vc]) rfl (by kernel_rfl) (by kernel_rfl) (by kernel_rfl) (fun _ _ _ h => h) (Or.inl ⟨by rfl, fun w hSw => by (try dsimp only at hSw); have t0 := cell_one (((HKi.out.trans hSw).block Q (block_lt HQ5.out) (by simp)).trans HQ5.out); go_simp⟩) hHeld ?_
   try simp only [aP, lA, lB, lC]
   refine wpAnyH_take (i := 5) (oi := ⟨some 42, .move (.tmp 7), 3, "law.go:106", #[], none⟩) (v := .int .i64 q) rfl (by kernel_rfl) (by kernel_rfl) (by kernel_rfl) (fun _ _ _ h => h) (Or.inl ⟨by rfl, fun w hSw => by (try dsimp only at hSw); go_simp⟩) hHeld ?_
   try simp only [aP, lA, lB, lC]
   refine wpAnyH_ready (rs := [6]) (by kernel_rfl) (by simp) ?_
   refine AllReadyH.cons (o := ⟨some 43, .call { callee := .value (.func 9), args := #[.tmp 40, .tmp 41, .tmp 42], argTypes := #[23, 30, 3] }, 35, "law.go:106", #[⟨3, .data⟩, ⟨4, .data⟩, ⟨5, .data⟩], none⟩) rfl (fun K hK => ?_) AllReadyH.nil
   go_simp
   go_at_call 9
   refine cM (by with_reducible exact HAu.out _ (HKi.out.trans hHeld)) ?_
   rintro e w6 ⟨rfl, hk6⟩
   dsimp only
   have hH := hHeld.trans hk6
   clear hk6
   clear hHeld
   refine hK.out _ _ hH (fun hHeld => ?_)
   try simp only [aP, lA, lB, lC]
   clear hK
   refine wpAnyH_take (i := 7) (oi := ⟨some 36, .move (.tmp 43), 35, "law.go:106", #[⟨6, .data⟩], none⟩) (v := .tuple #[.int .i64 an, .bool ok]) rfl (by kernel_rfl) (by kernel_rfl) (by kernel_rfl) (fun _ _ _ h => h) (Or.inl ⟨by rfl, fun w hSw => by (try dsimp only at hSw); go_simp⟩) hHeld ?_
   try simp only [aP, lA, lB, lC]
   refine wpAnyH_take (i := 8) (oi := ⟨some 44, .extract (.tmp 36) 0, 3, "law.go:106", #[⟨7, .data⟩], none⟩) (v := .int .i64 an) rfl (by kernel_rfl) (by kernel_rfl) (by kernel_rfl) (fun _ _ _ h => h) (Or.inl ⟨by rfl, fun w hSw => by (try dsimp only at hSw); go_simp⟩) hHeld ?_
   try simp only [aP, lA, lB, lC]
   refine wpAnyH_take (i := 9) (oi := ⟨some 45, .extract (.tmp 36) 1, 4, "law.go:106", #[⟨7, .data⟩, { on := 10, ground := .gcOnly Departure.lateStores }], none⟩) (v := .bool ok) rfl (by kernel_rfl) (by kernel_rfl) (by kernel_rfl) (fun _ _ _ h => h) (Or.inl ⟨by rfl, fun w hSw => by (try dsimp only at hSw); go_simp⟩) hHeld ?_
   try simp only [aP, lA, lB, lC]
   refine wpAnyH_take (i := 10) (oi := ⟨some 10, .assign (.tmp 44), 3, "law.go:106", #[⟨8, .data⟩, ⟨6, .chain⟩, ⟨0, .phase⟩, ⟨1, .phase⟩, ⟨2, .phase⟩, ⟨3, .phase⟩, ⟨4, .phase⟩, ⟨5, .phase⟩, ⟨6, .phase⟩, ⟨7, .phase⟩, ⟨8, .phase⟩, { on := 9, ground := .textOnly Departure.lateStores }], none⟩) (v := .int .i64 an) rfl (by kernel_rfl) (by kernel_rfl) (by kernel_rfl) (fun _ _ _ h => h) (Or.inl ⟨by rfl, fun w hSw => by (try dsimp only at hSw); go_simp⟩) hHeld ?_
   try simp only [aP, lA, lB, lC]
   refine wpAnyH_take (i := 11) (oi := ⟨some 11, .assign (.tmp 45), 4, "law.go:106", #[⟨9, .data⟩, ⟨10, .chain⟩, ⟨0, .phase⟩, ⟨1, .phase⟩, ⟨2, .phase⟩, ⟨3, .phase⟩, ⟨4, .phase⟩, ⟨5, .phase⟩, ⟨6, .phase⟩, ⟨7, .phase⟩, ⟨8, .phase⟩, ⟨9, .phase⟩, ⟨10, .phase⟩], none⟩) (v := .bool ok) rfl (by kernel_rfl) (by kernel_rfl) (by kernel_rfl) (fun _ _ _ h => h) (Or.inl ⟨by rfl, fun w hSw => by (try dsimp only at hSw); go_simp⟩) hHeld ?_
   try simp only [aP, lA, lB, lC]
   have HSf := qH (HKi.out.trans hHeld)
   refine wpAnyH_done (by kernel_rfl) ?_ _
   clear hHeld
   go_upto_region 11 with fail
   have HKj := HSf
   clear HSf
   have hdr := (Kp.refl [] w6).drew 1
   rename World => WP
   refine wp_region_held_drew (S := fun W => Kp [] WP W) (by kernel_rfl) ((Kp.refl [] WP).drew 1) (fun hHeld => ?_)
   refine wpAnyH_take (i := 0) (oi := ⟨some 47, .move (.tmp 8), 34, "law.go:107", #[], none⟩) (v := .slice (some ⟨G, 0, none⟩) 2 2) rfl (by kernel_rfl) (by kernel_rfl) (by kernel_rfl) (fun _ _ _ h => h) (Or.inl ⟨by rfl, fun w hSw => by (try dsimp only at hSw); go_simp⟩) hHeld ?_
   try simp only [aP, lA, lB, lC]
   refine wpAnyH_take (i := 1) (oi := ⟨some 48, .move (.tmp 9), 3, "law.go:107", #[], none⟩) (v := .int .i64 1) rfl (by kernel_rfl) (by kernel_rfl) (by kernel_rfl) (fun _ _ _ h => h) (Or.inl ⟨by rfl, fun w hSw => by (try dsimp only at hSw); go_simp⟩) hHeld ?_
   try simp only [aP, lA, lB, lC]
   refine wpAnyH_take (i := 2) (oi := ⟨some 49, .indexAddr 34 (.tmp 47) (.tmp 48), 0, "law.go:107", #[⟨0, .data⟩, ⟨1, .data⟩], none⟩) (v := .pointer (some ⟨G, 1, none⟩)) rfl (by kernel_rfl) (by kernel_rfl) (by kernel_rfl) (fun _ _ _ h => h) (Or.inl ⟨by rfl, fun w hSw => by (try dsimp only at hSw); go_simp⟩) hHeld ?_
   try simp only [aP, lA, lB, lC]
   refine wpAnyH_take (i := 3) (oi := ⟨some 50, .load 23 (.tmp 49), 23, "law.go:107", #[⟨2, .data⟩], none⟩) (v := .slice ad T cp) rfl (by kernel_rfl) (by kernel_rfl) (by kernel_rfl) (fun _ _ _ h => h) (Or.inl ⟨by rfl, fun w hSw => by (try dsimp only at hSw); have g0 := (show w.cell? ⟨G, 1, none⟩ = some (.slice ad T cp) from by rw [cell_of_row _ _ _ _ _ _ (((HKj.out.trans hSw).block G (block_lt HG5.out) (by simp)).trans HG5.out)]; rfl); go_simp⟩) hHeld ?_
   try simp only [aP, lA, lB, lC]
   refine wpAnyH_take (i := 4) (oi := ⟨some 51, .load 30 (.tmp 6), 30, "law.go:107", #[], none⟩) (v := .agg #[.slice va N vc]) rfl (by kernel_rfl) (by kernel_rfl) (by kernel_rfl) (fun _ _ _ h => h) (Or.inl ⟨by rfl, fun w hSw => by (try dsimp only at hSw); have t0 := cell_one (((HKj.out.trans hSw).block Q (block_lt HQ5.out) (by simp)).trans HQ5.out); go_simp⟩) hHeld ?_
   try simp only [aP, lA, lB, lC]
   refine wpAnyH_take (i := 5) (oi := ⟨some 52, .move (.tmp 7), 3, "law.go:107", #[], none⟩) (v := .int .i64 q) rfl (by kernel_rfl) (by kernel_rfl) (by kernel_rfl) (fun _ _ _ h => h) (Or.inl ⟨by rfl, fun w hSw => by (try dsimp only at hSw); go_simp⟩) hHeld ?_
   try simp only [aP, lA, lB, lC]
   refine wpAnyH_ready (rs := [6]) (by kernel_rfl) (by simp) ?_
   refine AllReadyH.cons (o := ⟨some 53, .call { callee := .value (.func 10), args := #[.tmp 50, .tmp 51, .tmp 52], argTypes := #[23, 30, 3] }, 35, "law.go:107", #[⟨3, .data⟩, ⟨4, .data⟩, ⟨5, .data⟩], none⟩) rfl (fun K hK => ?_) AllReadyH.nil
   go_simp
   go_at_call 10
   refine cM (by with_reducible exact HRu.out _ (HKj.out.trans hHeld)) ?_
   rintro e w6 ⟨rfl, hk6⟩
   dsimp only
   have hH := hHeld.trans hk6
   clear hk6
   clear hHeld
   refine hK.out _ _ hH (fun hHeld => ?_)
   try simp only [aP, lA, lB, lC]
   clear hK
   refine wpAnyH_take (i := 7) (oi := ⟨some 46, .move (.tmp 53), 35, "law.go:107", #[⟨6, .data⟩], none⟩) (v := .tuple #[.int .i64 an, .bool ok]) rfl (by kernel_rfl) (by kernel_rfl) (by kernel_rfl) (fun _ _ _ h => h) (Or.inl ⟨by rfl, fun w hSw => by (try dsimp only at hSw); go_simp⟩) hHeld ?_
   try simp only [aP, lA, lB, lC]
   refine wpAnyH_take (i := 8) (oi := ⟨some 54, .extract (.tmp 46) 0, 3, "law.go:107", #[⟨7, .data⟩], none⟩) (v := .int .i64 an) rfl (by kernel_rfl) (by kernel_rfl) (by kernel_rfl) (fun _ _ _ h => h) (Or.inl ⟨by rfl, fun w hSw => by (try dsimp only at hSw); go_simp⟩) hHeld ?_
   try simp only [aP, lA, lB, lC]
   refine wpAnyH_take (i := 9) (oi := ⟨some 55, .extract (.tmp 46) 1, 4, "law.go:107", #[⟨7, .data⟩, { on := 10, ground := .gcOnly Departure.lateStores }], none⟩) (v := .bool ok) rfl (by kernel_rfl) (by kernel_rfl) (by kernel_rfl) (fun _ _ _ h => h) (Or.inl ⟨by rfl, fun w hSw => by (try dsimp only at hSw); go_simp⟩) hHeld ?_
   try simp only [aP, lA, lB, lC]
   refine wpAnyH_take (i := 10) (oi := ⟨some 12, .assign (.tmp 54), 3, "law.go:107", #[⟨8, .data⟩, ⟨6, .chain⟩, ⟨0, .phase⟩, ⟨1, .phase⟩, ⟨2, .phase⟩, ⟨3, .phase⟩, ⟨4, .phase⟩, ⟨5, .phase⟩, ⟨6, .phase⟩, ⟨7, .phase⟩, ⟨8, .phase⟩, { on := 9, ground := .textOnly Departure.lateStores }], none⟩) (v := .int .i64 an) rfl (by kernel_rfl) (by kernel_rfl) (by kernel_rfl) (fun _ _ _ h => h) (Or.inl ⟨by rfl, fun w hSw => by (try dsimp only at hSw); go_simp⟩) hHeld ?_
   try simp only [aP, lA, lB, lC]
   refine wpAnyH_take (i := 11) (oi := ⟨some 13, .assign (.tmp 55), 4, "law.go:107", #[⟨9, .data⟩, ⟨10, .chain⟩, ⟨0, .phase⟩, ⟨1, .phase⟩, ⟨2, .phase⟩, ⟨3, .phase⟩, ⟨4, .phase⟩, ⟨5, .phase⟩, ⟨6, .phase⟩, ⟨7, .phase⟩, ⟨8, .phase⟩, ⟨9, .phase⟩, ⟨10, .phase⟩], none⟩) (v := .bool ok) rfl (by kernel_rfl) (by kernel_rfl) (by kernel_rfl) (fun _ _ _ h => h) (Or.inl ⟨by rfl, fun w hSw => by (try dsimp only at hSw); go_simp⟩) hHeld ?_
   try simp only [aP, lA, lB, lC]
   have HSf := qH (HKj.out.trans hHeld)
   refine wpAnyH_done (by kernel_rfl) ?_ _
   clear hHeld
   have hne : (an != an) = false := by simp
   go_wp2
   exact ⟨⟨2, by omega, by go_num, HSf⟩, by simp [intOf]⟩
  ·skip
   go_wp2_with (go_at_call 5; refine cM (by with_reducible exact HKn.out _) ?_; rintro e wk ⟨rfl, hkk⟩; have HKk := qH (HKi.out.trans hkk); clear hkk)
   go_ret
   exact ⟨rfl, HFin0.out _ HKk.out⟩
end Go.Proofs.YtljkljnfbcmjdaaGreatDoor
