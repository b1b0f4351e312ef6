/- TreeRelatives: the ancestors, the children and the subtree of the device with any Index. -/
import Derived.Test.YtldcediiobfhiaaGreatDoorKSe
namespace Go.Proofs.YtldcediiobfhiaaGreatDoor
open Go.RowKit
set_option maxHeartbeats 16000000 in
set_option maxRecDepth 100000 in
theorem relatives_walk (a0 : Option Addr) (n0 c0 : Nat) (w : World) (hm : De.Max w) (hi : Ints w w.heap.size (.slice a0 n0 c0)) : Calls Tryz.prog 6 #[.slice a0 n0 c0] w fun e w' => e = .returned (.bool true) ∧ Below w.heap.size w w' := by
 obtain ⟨tb, htb⟩ : ∃ tb, w.heap.size = tb := ⟨_, rfl⟩
 obtain ⟨W0, hW⟩ : ∃ W0, w.alloc (.cells #[.slice a0 n0 c0, .int .i64 0] 27) = W0 := ⟨_, rfl⟩
 have hk0 : Kp [] w W0 := by rw [← hW]; exact (Kp.refl [] w).alloc _
 have hT0 : Tp W0 tb 0 := by rw [← hW, ← htb]; exact tape_new hi
 have HTr0 := Lib.hid (tree10 (by omega) hT0 (hm.below hk0.bel))
 have HK0 := Lib.hid (show Kp [tb] w W0 from hk0.mono (by simp))
 have Htb := Lib.hid htb
 have H0t := Lib.hid (max_tp (hm.below hk0.bel) hT0)
 have HM0 := Lib.hid (hm.below hk0.bel)
 clear hk0 hT0 hi hm
 go_enter Tryz.func6, Tryz.ntmps6
 go_upto_region 3 with (first
  | (go_at_call 13; refine Calls.mono (by with_reducible exact HTr0.out) ?_; rintro e w1 ⟨va, N, vc, L, rfl, HN, hNc, hN10, HTr, k1, hk1, HT, HK1⟩; have H1v := Lib.hid (show (#[.slice va N vc] : Array Value).all (·.oneCell') = true from by simp [Value.oneCell']))
  | (refine De.wpList_store_new w1 29 _ #[.slice va N vc] rfl _ _ rfl rfl rfl info30b rfl H1v.out ?_))
 obtain ⟨Q, hQ⟩ : ∃ Q, w1.heap.size = Q := ⟨_, rfl⟩
 have hq1 := heap_alloc_last w1 (.cells #[.slice va N vc] 29)
 have hka := (Kp.refl [] w1).alloc (.cells #[.slice va N vc] 29)
 generalize w1.alloc (.cells #[.slice va N vc] 29) = w2 at *
 rw [hQ] at hq1 ⊢
 have HQ2 := Lib.hid hq1
 have t0 := cell_one hq1
 have HT2 := Lib.hid (HT.out.kp hka (by simp))
 have HTr2 := Lib.hid (HTr.out.kp hka)
 have HK2 := Lib.hid ((HK0.out.trans HK1.out).trans (hka.mono (by simp)))
 have HM2 := Lib.hid (MaxT (MaxT HM0.out H0t.out HK1.out) H0t.out (hka.mono (by simp)))
 have HQt := Lib.hid (show tb < Q from by rw [← hQ]; exact HT.out.lt)
 have HSm := Lib.hid (some_any (by omega) HT2.out HTr2.out (by omega))
 clear hq1 hka hQ HT HTr HTr0 HK1 hW htb
 go_upto_region 4 with (go_at_call 18; refine Calls.mono (by with_reducible exact HSm.out) ?_; rintro e w3 ⟨q, rfl, hqw, ⟨k3, hk3, hT3⟩, hkp3⟩; have HTr3 := Lib.hid (HTr2.out.kpT hkp3 (by omega)); have HQ3 := Lib.hid ((hkp3.block Q (block_lt HQ2.out) (by have := HQt.out; simp; omega)).trans HQ2.out); have HK3 := Lib.hid (HK2.out.trans hkp3); have HM3 := Lib.hid (MaxT HM2.out H0t.out hkp3); have HQw := Lib.hid hqw; have HT3 := Lib.hid hT3; clear hT3 hkp3 hqw t0)
 have HTok := Lib.hid (tree_tok HTr3.out (by omega))
 have hcap : ∀ a n c, (Value.slice va N vc) = .slice a n c → n ≤ c := fun a n c e => by injection e with e1 e2 e3; omega
 have HV := Lib.hid HTr3.out.val
 have hn6 : L.length ≤ 1000000 := by have := HTok.out.n; omega
 have hal : ∀ x ∈ L, x.1.ats.length ≤ 1000000 := fun x hx => by have := (HTr3.out.sml x hx).2; omega
 have hala : ∀ a ∈ L.map (·.1), a.ats.length ≤ 1000000 := fun a ha => by obtain ⟨x, hx, rfl⟩ := List.mem_map.1 ha; exact hal x hx
 obtain ⟨A1, hA1⟩ : ∃ A, ((De.upD L L.length q).drop 1).map (·.1) = A := ⟨_, rfl⟩
 obtain ⟨A2, hA2⟩ : ∃ A, (L.filter fun x => x.1.par == q).map (·.1) = A := ⟨_, rfl⟩
 obtain ⟨A3, hA3⟩ : ∃ A, (L.filter fun x => x.1.par == 0).map (·.1) = A := ⟨_, rfl⟩
 obtain ⟨A4, hA4⟩ : ∃ A, (L.map (·.1)).filter (fun e => De.bel (L.map (·.1)) e q) = A := ⟨_, rfl⟩
 have HB1 := Lib.hid (show A1.length ≤ 1000000 ∧ ∀ a ∈ A1, a.ats.length ≤ 1000000 from by
  rw [← hA1]
  refine ⟨?_, fun a ha => ?_⟩
  ·have := De.upD_len L L.length q
   rw [List.length_map, List.length_drop]
   omega
  ·obtain ⟨x, hx, rfl⟩ := List.mem_map.1 ha
   exact hal x (upD_mem _ _ x (List.mem_of_mem_drop hx)))
 have HB2 := Lib.hid (show A2.length ≤ 1000000 ∧ ∀ a ∈ A2, a.ats.length ≤ 1000000 from by
  rw [← hA2]
  refine ⟨?_, fun a ha => ?_⟩
  ·have := List.length_filter_le (fun x : De.DV => x.1.par == q) L
   rw [List.length_map]
   omega
  ·obtain ⟨x, hx, rfl⟩ := List.mem_map.1 ha
   exact hal x (List.mem_filter.1 hx).1)
 have HB3 := Lib.hid (show A3.length ≤ 1000000 ∧ ∀ a ∈ A3, a.ats.length ≤ 1000000 from by
  rw [← hA3]
  refine ⟨?_, fun a ha => ?_⟩
  ·have := List.length_filter_le (fun x : De.DV => x.1.par == 0) L
   rw [List.length_map]
   omega
  ·obtain ⟨x, hx, rfl⟩ := List.mem_map.1 ha
   exact hal x (List.mem_filter.1 hx).1)
 have HB4 := Lib.hid (show A4.length ≤ 1000000 ∧ ∀ a ∈ A4, a.ats.length ≤ 1000000 from by
  rw [← hA4]
  refine ⟨?_, fun a ha => hala a (List.mem_filter.1 ha).1⟩
  have := List.length_filter_le (fun e => De.bel (L.map (·.1)) e q) (L.map (·.1))
  rw [List.length_map] at this
  omega)
 have HC34 := Lib.hid (show ∀ W, Kp [] w3 W → Calls Tryz.prog 34 #[.agg #[.slice va N vc], .int .i64 q] W (LP A1 W) from fun W hk => (De.ancestors_any (.slice va N vc) L q W hn6 hal (HTr3.out.any.has.below hk.bel) hcap HTok.out.wi HTok.out.wp HQw.out).mono fun e w' ⟨u, L1, he, h1, h2, _, h3⟩ => lp_of he (h1.trans ((anc_eq HV.out q).trans hA1)) h2 h3)
 have HC35 := Lib.hid (show ∀ W, Kp [] w3 W → Calls Tryz.prog 35 #[.agg #[.slice va N vc], .int .i64 q] W (LP A1 W) from fun W hk => (De.refAncestors_any (.slice va N vc) L q W hn6 (HTr3.out.any.has.below hk.bel)).mono fun e w' ⟨u, he, h2, h3⟩ => lp_of he hA1 h2 h3)
 have HC36 := Lib.hid (show ∀ W, Kp [] w3 W → Calls Tryz.prog 36 #[.agg #[.slice va N vc], .int .i64 q] W (LP A2 W) from fun W hk => (De.children_any (.slice va N vc) L q W hn6 hal (HTr3.out.any.has.below hk.bel)).mono fun e w' ⟨u, L1, he, h1, h2, h3⟩ => lp_of he (h1.trans hA2) h2 h3)
 have HC37 := Lib.hid (show ∀ W, Kp [] w3 W → Calls Tryz.prog 37 #[.agg #[.slice va N vc], .int .i64 q] W (LP A2 W) from fun W hk => (De.refChildren_any (.slice va N vc) L q W hn6 (HTr3.out.any.has.below hk.bel)).mono fun e w' ⟨u, he, h2, h3⟩ => lp_of he hA2 h2.has h3)
 have HC36z := Lib.hid (show ∀ W, Kp [] w3 W → Calls Tryz.prog 36 #[.agg #[.slice va N vc], .int .i64 0] W (LP A3 W) from fun W hk => (De.children_any (.slice va N vc) L 0 W hn6 hal (HTr3.out.any.has.below hk.bel)).mono fun e w' ⟨u, L1, he, h1, h2, h3⟩ => lp_of he (h1.trans hA3) h2 h3)
 have HC37z := Lib.hid (show ∀ W, Kp [] w3 W → Calls Tryz.prog 37 #[.agg #[.slice va N vc], .int .i64 0] W (LP A3 W) from fun W hk => (De.refChildren_any (.slice va N vc) L 0 W hn6 (HTr3.out.any.has.below hk.bel)).mono fun e w' ⟨u, he, h2, h3⟩ => lp_of he hA3 h2.has h3)
 have HC38 := Lib.hid (show ∀ W, Kp [] w3 W → Calls Tryz.prog 38 #[.agg #[.slice va N vc], .int .i64 q] W (LP A4 W) from fun W hk => (De.subtree_any (.slice va N vc) L q W hn6 hal (HTr3.out.any.has.below hk.bel) hcap HTok.out.wi HTok.out.wp HQw.out).mono fun e w' ⟨u, L1, he, h1, h2, _, h3⟩ => lp_of he (h1.trans ((De.sub_eq HV.out q).trans hA4)) h2 h3)
 have HC39 := Lib.hid (show ∀ W, Kp [] w3 W → Calls Tryz.prog 39 #[.agg #[.slice va N vc], .int .i64 q] W (LP A4 W) from fun W hk => (De.refSubtree_any (.slice va N vc) L q W hn6 (HTr3.out.any.has.below hk.bel)).mono fun e w' ⟨u, he, h2, h3⟩ => lp_of (L1 := L.filter fun x => De.bel (L.map fun z : De.DV => z.1) x.1 q) he ((De.filter_fst L (fun e => De.bel (L.map fun z : De.DV => z.1) e q)).trans hA4) h2.has h3)
 have HKn := Lib.hid (fun W (hk : Kp [] w3 W) => De.known_any W (HM3.out.below hk.bel))
 have HFin := Lib.hid (fun (w' : World) (hk : Kp [] w3 w') => (show Below w.heap.size w w' from (HK3.out.trans (hk.mono (by simp))).below (Nat.le_refl _) (by intro x hx; simp at hx; have := Htb.out; omega)))
 have HQk := Lib.hid (fun W (hk : Kp [] w3 W) => cell_one ((hk.block Q (block_lt HQ3.out) (by simp)).trans HQ3.out))
 clear hA1 hA2 hA3 hA4 hal hala hn6 hcap HTr2 HT2 HK2 HSm
 go_upto_region 4 with fail
 refine wp_region_held_drew (S := fun W => Kp [] w3 W) (by kernel_rfl) ((Kp.refl [] w3).drew 1) (fun hHeld => ?_)
 generalize hwd : w3.drew = wd at *
 clear hwd
 refine wpAnyH_take (i := 0) (oi := { dst := some 14, op := Op.load 29 (Operand.tmp 4), type := 29, pos := "law.go:105", after := #[], guard := none }) (v := .agg #[.slice va N vc]) rfl (by kernel_rfl) (by kernel_rfl) (by kernel_rfl) (fun _ _ _ h => h) (Or.inl ⟨by rfl, fun w hSw => by (try dsimp only at hSw); have t0 := HQk.out _ hSw; go_simp⟩) hHeld ?_
 try simp only [Act.put, List.setIfInBounds_toArray, List.set_cons_zero, List.set_cons_succ]
 refine wpAnyH_take (i := 1) (oi := { dst := some 15, op := Op.move (Operand.tmp 5), type := 3, pos := "law.go:105", after := #[], guard := none }) (v := .int .i64 q) rfl (by kernel_rfl) (by kernel_rfl) (by kernel_rfl) (fun _ _ _ h => h) (Or.inl ⟨by rfl, fun w hSw => by (try dsimp only at hSw); go_simp⟩) hHeld ?_
 try simp only [Act.put, List.setIfInBounds_toArray, List.set_cons_zero, List.set_cons_succ]
 refine wpAnyH_take (i := 3) (oi := { dst := some 17, op := Op.load 29 (Operand.tmp 4), type := 29, pos := "law.go:105", after := #[], guard := none }) (v := .agg #[.slice va N vc]) rfl (by kernel_rfl) (by kernel_rfl) (by kernel_rfl) (fun _ _ _ h => h) (Or.inl ⟨by rfl, fun w hSw => by (try dsimp only at hSw); have t0 := HQk.out _ hSw; go_simp⟩) hHeld ?_
 try simp only [Act.put, List.setIfInBounds_toArray, List.set_cons_zero, List.set_cons_succ]
 refine wpAnyH_take (i := 4) (oi := { dst := some 18, op := Op.move (Operand.tmp 5), type := 3, pos := "law.go:105", after := #[], guard := none }) (v := .int .i64 q) rfl (by kernel_rfl) (by kernel_rfl) (by kernel_rfl) (fun _ _ _ h => h) (Or.inl ⟨by rfl, fun w hSw => by (try dsimp only at hSw); go_simp⟩) hHeld ?_
 try simp only [Act.put, List.setIfInBounds_toArray, List.set_cons_zero, List.set_cons_succ]
 refine wpAnyH_ready (rs := [2]) (by kernel_rfl) (by simp) ?_
 refine AllReadyH.cons (o := { dst := some 16, op := Op.call { callee := Callee.value (Operand.func 34), args := #[Operand.tmp 14, Operand.tmp 15], argTypes := #[29, 3] }, type := 22, pos := "law.go:105", after := #[{ on := 0, ground := Ground.data }, { on := 1, ground := Ground.data }], guard := none }) rfl (fun K hK => ?_) AllReadyH.nil
 go_simp
 go_at_call 34
 refine Calls.mono (by with_reducible exact HC34.out _ hHeld) ?_
 rintro e V1 ⟨u1a, u1n, u1c, L1, rfl, HL1, HD1, HKv1⟩
 dsimp only
 have HS1 := Lib.hid (hHeld.trans HKv1.out)
 clear hHeld
 refine hK.out _ _ HS1.out (fun hHeld => ?_)
 try simp only [Act.put, List.setIfInBounds_toArray, List.set_cons_zero, List.set_cons_succ]
 clear hK
 refine wpAnyH_ready (rs := [5]) (by kernel_rfl) (by simp) ?_
 refine AllReadyH.cons (o := { dst := some 19, op := Op.call { callee := Callee.value (Operand.func 35), args := #[Operand.tmp 17, Operand.tmp 18], argTypes := #[29, 3] }, type := 22, pos := "law.go:105", after := #[{ on := 3, ground := Ground.data }, { on := 4, ground := Ground.data }, { on := 2, ground := Ground.chain }], guard := none }) rfl (fun K hK => ?_) AllReadyH.nil
 go_simp
 go_at_call 35
 refine Calls.mono (by with_reducible exact HC35.out _ hHeld) ?_
 rintro e V2 ⟨u2a, u2n, u2c, L2, rfl, HL2, HD2, HKv2⟩
 dsimp only
 have HS2 := Lib.hid (hHeld.trans HKv2.out)
 clear hHeld
 refine hK.out _ _ HS2.out (fun hHeld => ?_)
 try simp only [Act.put, List.setIfInBounds_toArray, List.set_cons_zero, List.set_cons_succ]
 clear hK
 refine wpAnyH_ready (rs := [6]) (by kernel_rfl) (by simp) ?_
 refine AllReadyH.cons (o := { dst := some 20, op := Op.call { callee := Callee.value (Operand.func 33), args := #[Operand.tmp 16, Operand.tmp 19], argTypes := #[22, 22] }, type := 4, pos := "law.go:105", after := #[{ on := 2, ground := Ground.data }, { on := 5, ground := Ground.data }, { on := 5, ground := Ground.chain }], guard := none }) rfl (fun K hK => ?_) AllReadyH.nil
 go_simp
 go_at_call 33
 refine Calls.mono (by with_reducible exact same33_any _ _ L1 L2 _ V2 HB1.out.1 HB1.out.2 HL1.out HL2.out (HD1.out.below HKv2.out.bel) HD2.out) ?_
 rintro e X1 ⟨rfl, hkx⟩
 dsimp only
 have HSx1 := Lib.hid (hHeld.trans hkx)
 clear hkx
 clear hHeld
 refine hK.out _ _ HSx1.out (fun hHeld => ?_)
 try simp only [Act.put, List.setIfInBounds_toArray, List.set_cons_zero, List.set_cons_succ]
 clear hK
 refine wpAnyH_take (i := 7) (oi := { dst := some 21, op := Op.move (Operand.tmp 20), type := 4, pos := "law.go:105", after := #[{ on := 6, ground := Ground.data }, { on := 6, ground := Ground.chain }], guard := none }) (v := .bool true) rfl (by kernel_rfl) (by kernel_rfl) (by kernel_rfl) (fun _ _ _ h => h) (Or.inl ⟨by rfl, fun w hSw => by (try dsimp only at hSw); go_simp⟩) hHeld ?_
 try simp only [Act.put, List.setIfInBounds_toArray, List.set_cons_zero, List.set_cons_succ]
 refine wpAnyH_take (i := 8) (oi := { dst := some 22, op := Op.load 29 (Operand.tmp 4), type := 29, pos := "law.go:105", after := #[{ on := 7, ground := Ground.guard }], guard := some (7, true) }) (v := .agg #[.slice va N vc]) rfl (by kernel_rfl) (by kernel_rfl) (by kernel_rfl) (fun _ _ _ h => h) (Or.inl ⟨by rfl, fun w hSw => by (try dsimp only at hSw); have t0 := HQk.out _ hSw; go_simp⟩) hHeld ?_
 try simp only [Act.put, List.setIfInBounds_toArray, List.set_cons_zero, List.set_cons_succ]
 refine wpAnyH_take (i := 9) (oi := { dst := some 23, op := Op.move (Operand.tmp 5), type := 3, pos := "law.go:105", after := #[{ on := 7, ground := Ground.guard }], guard := some (7, true) }) (v := .int .i64 q) rfl (by kernel_rfl) (by kernel_rfl) (by kernel_rfl) (fun _ _ _ h => h) (Or.inl ⟨by rfl, fun w hSw => by (try dsimp only at hSw); go_simp⟩) hHeld ?_
 try simp only [Act.put, List.setIfInBounds_toArray, List.set_cons_zero, List.set_cons_succ]
 refine wpAnyH_take (i := 11) (oi := { dst := some 25, op := Op.load 29 (Operand.tmp 4), type := 29, pos := "law.go:105", after := #[{ on := 7, ground := Ground.guard }], guard := some (7, true) }) (v := .agg #[.slice va N vc]) rfl (by kernel_rfl) (by kernel_rfl) (by kernel_rfl) (fun _ _ _ h => h) (Or.inl ⟨by rfl, fun w hSw => by (try dsimp only at hSw); have t0 := HQk.out _ hSw; go_simp⟩) hHeld ?_
 try simp only [Act.put, List.setIfInBounds_toArray, List.set_cons_zero, List.set_cons_succ]
 refine wpAnyH_take (i := 12) (oi := { dst := some 26, op := Op.move (Operand.tmp 5), type := 3, pos := "law.go:105", after := #[{ on := 7, ground := Ground.guard }], guard := some (7, true) }) (v := .int .i64 q) rfl (by kernel_rfl) (by kernel_rfl) (by kernel_rfl) (fun _ _ _ h => h) (Or.inl ⟨by rfl, fun w hSw => by (try dsimp only at hSw); go_simp⟩) hHeld ?_
 try simp only [Act.put, List.setIfInBounds_toArray, List.set_cons_zero, List.set_cons_succ]
 refine wpAnyH_ready (rs := [10]) (by kernel_rfl) (by simp) ?_
 refine AllReadyH.cons (o := { dst := some 24, op := Op.call { callee := Callee.value (Operand.func 36), args := #[Operand.tmp 22, Operand.tmp 23], argTypes := #[29, 3] }, type := 22, pos := "law.go:105", after := #[{ on := 8, ground := Ground.data }, { on := 9, ground := Ground.data }, { on := 7, ground := Ground.chain }, { on := 7, ground := Ground.guard }], guard := some (7, true) }) rfl (fun K hK => ?_) AllReadyH.nil
 go_simp
 go_at_call 36
 refine Calls.mono (by with_reducible exact HC36.out _ hHeld) ?_
 rintro e V3 ⟨u3a, u3n, u3c, L3, rfl, HL3, HD3, HKv3⟩
 dsimp only
 have HS3 := Lib.hid (hHeld.trans HKv3.out)
 clear hHeld
 refine hK.out _ _ HS3.out (fun hHeld => ?_)
 try simp only [Act.put, List.setIfInBounds_toArray, List.set_cons_zero, List.set_cons_succ]
 clear hK
 refine wpAnyH_ready (rs := [13]) (by kernel_rfl) (by simp) ?_
 refine AllReadyH.cons (o := { dst := some 27, op := Op.call { callee := Callee.value (Operand.func 37), args := #[Operand.tmp 25, Operand.tmp 26], argTypes := #[29, 3] }, type := 22, pos := "law.go:105", after := #[{ on := 11, ground := Ground.data }, { on := 12, ground := Ground.data }, { on := 10, ground := Ground.chain }, { on := 7, ground := Ground.guard }], guard := some (7, true) }) rfl (fun K hK => ?_) AllReadyH.nil
 go_simp
 go_at_call 37
 refine Calls.mono (by with_reducible exact HC37.out _ hHeld) ?_
 rintro e V4 ⟨u4a, u4n, u4c, L4, rfl, HL4, HD4, HKv4⟩
 dsimp only
 have HS4 := Lib.hid (hHeld.trans HKv4.out)
 clear hHeld
 refine hK.out _ _ HS4.out (fun hHeld => ?_)
 try simp only [Act.put, List.setIfInBounds_toArray, List.set_cons_zero, List.set_cons_succ]
 clear hK
 refine wpAnyH_ready (rs := [14]) (by kernel_rfl) (by simp) ?_
 refine AllReadyH.cons (o := { dst := some 28, op := Op.call { callee := Callee.value (Operand.func 33), args := #[Operand.tmp 24, Operand.tmp 27], argTypes := #[22, 22] }, type := 4, pos := "law.go:105", after := #[{ on := 10, ground := Ground.data }, { on := 13, ground := Ground.data }, { on := 13, ground := Ground.chain }, { on := 7, ground := Ground.guard }], guard := some (7, true) }) rfl (fun K hK => ?_) AllReadyH.nil
 go_simp
 go_at_call 33
 refine Calls.mono (by with_reducible exact same33_any _ _ L3 L4 _ V4 HB2.out.1 HB2.out.2 HL3.out HL4.out (HD3.out.below HKv4.out.bel) HD4.out) ?_
 rintro e X2 ⟨rfl, hkx⟩
 dsimp only
 have HSx2 := Lib.hid (hHeld.trans hkx)
 clear hkx
 clear hHeld
 refine hK.out _ _ HSx2.out (fun hHeld => ?_)
 try simp only [Act.put, List.setIfInBounds_toArray, List.set_cons_zero, List.set_cons_succ]
 clear hK
 refine wpAnyH_take (i := 15) (oi := { dst := some 29, op := Op.pick (Operand.tmp 21) (Operand.tmp 28) (Operand.const (Value.bool false)), type := 4, pos := "law.go:105", after := #[{ on := 7, ground := Ground.data }, { on := 14, ground := Ground.data }], guard := none }) (v := .bool true) rfl (by kernel_rfl) (by kernel_rfl) (by kernel_rfl) (fun _ _ _ h => h) (Or.inl ⟨by rfl, fun w hSw => by (try dsimp only at hSw); go_simp⟩) hHeld ?_
 try simp only [Act.put, List.setIfInBounds_toArray, List.set_cons_zero, List.set_cons_succ]
 refine wpAnyH_take (i := 16) (oi := { dst := some 30, op := Op.move (Operand.tmp 29), type := 4, pos := "law.go:105", after := #[{ on := 15, ground := Ground.data }, { on := 14, ground := Ground.chain }], guard := none }) (v := .bool true) rfl (by kernel_rfl) (by kernel_rfl) (by kernel_rfl) (fun _ _ _ h => h) (Or.inl ⟨by rfl, fun w hSw => by (try dsimp only at hSw); go_simp⟩) hHeld ?_
 try simp only [Act.put, List.setIfInBounds_toArray, List.set_cons_zero, List.set_cons_succ]
 refine wpAnyH_take (i := 17) (oi := { dst := some 31, op := Op.load 29 (Operand.tmp 4), type := 29, pos := "law.go:105", after := #[{ on := 16, ground := Ground.guard }], guard := some (16, true) }) (v := .agg #[.slice va N vc]) rfl (by kernel_rfl) (by kernel_rfl) (by kernel_rfl) (fun _ _ _ h => h) (Or.inl ⟨by rfl, fun w hSw => by (try dsimp only at hSw); have t0 := HQk.out _ hSw; go_simp⟩) hHeld ?_
 try simp only [Act.put, List.setIfInBounds_toArray, List.set_cons_zero, List.set_cons_succ]
 refine wpAnyH_take (i := 19) (oi := { dst := some 33, op := Op.load 29 (Operand.tmp 4), type := 29, pos := "law.go:105", after := #[{ on := 16, ground := Ground.guard }], guard := some (16, true) }) (v := .agg #[.slice va N vc]) rfl (by kernel_rfl) (by kernel_rfl) (by kernel_rfl) (fun _ _ _ h => h) (Or.inl ⟨by rfl, fun w hSw => by (try dsimp only at hSw); have t0 := HQk.out _ hSw; go_simp⟩) hHeld ?_
 try simp only [Act.put, List.setIfInBounds_toArray, List.set_cons_zero, List.set_cons_succ]
 refine wpAnyH_ready (rs := [18]) (by kernel_rfl) (by simp) ?_
 refine AllReadyH.cons (o := { dst := some 32, op := Op.call { callee := Callee.value (Operand.func 36), args := #[Operand.tmp 31, Operand.const (Value.int IntKind.i64 0)], argTypes := #[29, 3] }, type := 22, pos := "law.go:105", after := #[{ on := 17, ground := Ground.data }, { on := 16, ground := Ground.chain }, { on := 16, ground := Ground.guard }], guard := some (16, true) }) rfl (fun K hK => ?_) AllReadyH.nil
 go_simp
 go_at_call 36
 refine Calls.mono (by with_reducible exact HC36z.out _ hHeld) ?_
 rintro e V5 ⟨u5a, u5n, u5c, L5, rfl, HL5, HD5, HKv5⟩
 dsimp only
 have HS5 := Lib.hid (hHeld.trans HKv5.out)
 clear hHeld
 refine hK.out _ _ HS5.out (fun hHeld => ?_)
 try simp only [Act.put, List.setIfInBounds_toArray, List.set_cons_zero, List.set_cons_succ]
 clear hK
 refine wpAnyH_ready (rs := [20]) (by kernel_rfl) (by simp) ?_
 refine AllReadyH.cons (o := { dst := some 34, op := Op.call { callee := Callee.value (Operand.func 37), args := #[Operand.tmp 33, Operand.const (Value.int IntKind.i64 0)], argTypes := #[29, 3] }, type := 22, pos := "law.go:105", after := #[{ on := 19, ground := Ground.data }, { on := 18, ground := Ground.chain }, { on := 16, ground := Ground.guard }], guard := some (16, true) }) rfl (fun K hK => ?_) AllReadyH.nil
 go_simp
 go_at_call 37
 refine Calls.mono (by with_reducible exact HC37z.out _ hHeld) ?_
 rintro e V6 ⟨u6a, u6n, u6c, L6, rfl, HL6, HD6, HKv6⟩
 dsimp only
 have HS6 := Lib.hid (hHeld.trans HKv6.out)
 clear hHeld
 refine hK.out _ _ HS6.out (fun hHeld => ?_)
 try simp only [Act.put, List.setIfInBounds_toArray, List.set_cons_zero, List.set_cons_succ]
 clear hK
 refine wpAnyH_ready (rs := [21]) (by kernel_rfl) (by simp) ?_
 refine AllReadyH.cons (o := { dst := some 35, op := Op.call { callee := Callee.value (Operand.func 33), args := #[Operand.tmp 32, Operand.tmp 34], argTypes := #[22, 22] }, type := 4, pos := "law.go:105", after := #[{ on := 18, ground := Ground.data }, { on := 20, ground := Ground.data }, { on := 20, ground := Ground.chain }, { on := 16, ground := Ground.guard }], guard := some (16, true) }) rfl (fun K hK => ?_) AllReadyH.nil
 go_simp
 go_at_call 33
 refine Calls.mono (by with_reducible exact same33_any _ _ L5 L6 _ V6 HB3.out.1 HB3.out.2 HL5.out HL6.out (HD5.out.below HKv6.out.bel) HD6.out) ?_
 rintro e X3 ⟨rfl, hkx⟩
 dsimp only
 have HSx3 := Lib.hid (hHeld.trans hkx)
 clear hkx
 clear hHeld
 refine hK.out _ _ HSx3.out (fun hHeld => ?_)
 try simp only [Act.put, List.setIfInBounds_toArray, List.set_cons_zero, List.set_cons_succ]
 clear hK
 refine wpAnyH_take (i := 22) (oi := { dst := some 36, op := Op.pick (Operand.tmp 30) (Operand.tmp 35) (Operand.const (Value.bool false)), type := 4, pos := "law.go:105", after := #[{ on := 16, ground := Ground.data }, { on := 21, ground := Ground.data }], guard := none }) (v := .bool true) rfl (by kernel_rfl) (by kernel_rfl) (by kernel_rfl) (fun _ _ _ h => h) (Or.inl ⟨by rfl, fun w hSw => by (try dsimp only at hSw); go_simp⟩) hHeld ?_
 try simp only [Act.put, List.setIfInBounds_toArray, List.set_cons_zero, List.set_cons_succ]
 refine wpAnyH_take (i := 23) (oi := { dst := some 37, op := Op.move (Operand.tmp 36), type := 4, pos := "law.go:105", after := #[{ on := 22, ground := Ground.data }, { on := 21, ground := Ground.chain }], guard := none }) (v := .bool true) rfl (by kernel_rfl) (by kernel_rfl) (by kernel_rfl) (fun _ _ _ h => h) (Or.inl ⟨by rfl, fun w hSw => by (try dsimp only at hSw); go_simp⟩) hHeld ?_
 try simp only [Act.put, List.setIfInBounds_toArray, List.set_cons_zero, List.set_cons_succ]
 refine wpAnyH_take (i := 24) (oi := { dst := some 38, op := Op.load 29 (Operand.tmp 4), type := 29, pos := "law.go:105", after := #[{ on := 23, ground := Ground.guard }], guard := some (23, true) }) (v := .agg #[.slice va N vc]) rfl (by kernel_rfl) (by kernel_rfl) (by kernel_rfl) (fun _ _ _ h => h) (Or.inl ⟨by rfl, fun w hSw => by (try dsimp only at hSw); have t0 := HQk.out _ hSw; go_simp⟩) hHeld ?_
 try simp only [Act.put, List.setIfInBounds_toArray, List.set_cons_zero, List.set_cons_succ]
 refine wpAnyH_take (i := 25) (oi := { dst := some 39, op := Op.move (Operand.tmp 5), type := 3, pos := "law.go:105", after := #[{ on := 23, ground := Ground.guard }], guard := some (23, true) }) (v := .int .i64 q) rfl (by kernel_rfl) (by kernel_rfl) (by kernel_rfl) (fun _ _ _ h => h) (Or.inl ⟨by rfl, fun w hSw => by (try dsimp only at hSw); go_simp⟩) hHeld ?_
 try simp only [Act.put, List.setIfInBounds_toArray, List.set_cons_zero, List.set_cons_succ]
 refine wpAnyH_take (i := 27) (oi := { dst := some 41, op := Op.load 29 (Operand.tmp 4), type := 29, pos := "law.go:105", after := #[{ on := 23, ground := Ground.guard }], guard := some (23, true) }) (v := .agg #[.slice va N vc]) rfl (by kernel_rfl) (by kernel_rfl) (by kernel_rfl) (fun _ _ _ h => h) (Or.inl ⟨by rfl, fun w hSw => by (try dsimp only at hSw); have t0 := HQk.out _ hSw; go_simp⟩) hHeld ?_
 try simp only [Act.put, List.setIfInBounds_toArray, List.set_cons_zero, List.set_cons_succ]
 refine wpAnyH_take (i := 28) (oi := { dst := some 42, op := Op.move (Operand.tmp 5), type := 3, pos := "law.go:105", after := #[{ on := 23, ground := Ground.guard }], guard := some (23, true) }) (v := .int .i64 q) rfl (by kernel_rfl) (by kernel_rfl) (by kernel_rfl) (fun _ _ _ h => h) (Or.inl ⟨by rfl, fun w hSw => by (try dsimp only at hSw); go_simp⟩) hHeld ?_
 try simp only [Act.put, List.setIfInBounds_toArray, List.set_cons_zero, List.set_cons_succ]
 refine wpAnyH_ready (rs := [26]) (by kernel_rfl) (by simp) ?_
 refine AllReadyH.cons (o := { dst := some 40, op := Op.call { callee := Callee.value (Operand.func 38), args := #[Operand.tmp 38, Operand.tmp 39], argTypes := #[29, 3] }, type := 22, pos := "law.go:105", after := #[{ on := 24, ground := Ground.data }, { on := 25, ground := Ground.data }, { on := 23, ground := Ground.chain }, { on := 23, ground := Ground.guard }], guard := some (23, true) }) rfl (fun K hK => ?_) AllReadyH.nil
 go_simp
 go_at_call 38
 refine Calls.mono (by with_reducible exact HC38.out _ hHeld) ?_
 rintro e V7 ⟨u7a, u7n, u7c, L7, rfl, HL7, HD7, HKv7⟩
 dsimp only
 have HS7 := Lib.hid (hHeld.trans HKv7.out)
 clear hHeld
 refine hK.out _ _ HS7.out (fun hHeld => ?_)
 try simp only [Act.put, List.setIfInBounds_toArray, List.set_cons_zero, List.set_cons_succ]
 clear hK
 refine wpAnyH_ready (rs := [29]) (by kernel_rfl) (by simp) ?_
 refine AllReadyH.cons (o := { dst := some 43, op := Op.call { callee := Callee.value (Operand.func 39), args := #[Operand.tmp 41, Operand.tmp 42], argTypes := #[29, 3] }, type := 22, pos := "law.go:105", after := #[{ on := 27, ground := Ground.data }, { on := 28, ground := Ground.data }, { on := 26, ground := Ground.chain }, { on := 23, ground := Ground.guard }], guard := some (23, true) }) rfl (fun K hK => ?_) AllReadyH.nil
 go_simp
 go_at_call 39
 refine Calls.mono (by with_reducible exact HC39.out _ hHeld) ?_
 rintro e V8 ⟨u8a, u8n, u8c, L8, rfl, HL8, HD8, HKv8⟩
 dsimp only
 have HS8 := Lib.hid (hHeld.trans HKv8.out)
 clear hHeld
 refine hK.out _ _ HS8.out (fun hHeld => ?_)
 try simp only [Act.put, List.setIfInBounds_toArray, List.set_cons_zero, List.set_cons_succ]
 clear hK
 refine wpAnyH_ready (rs := [30]) (by kernel_rfl) (by simp) ?_
 refine AllReadyH.cons (o := { dst := some 44, op := Op.call { callee := Callee.value (Operand.func 33), args := #[Operand.tmp 40, Operand.tmp 43], argTypes := #[22, 22] }, type := 4, pos := "law.go:105", after := #[{ on := 26, ground := Ground.data }, { on := 29, ground := Ground.data }, { on := 29, ground := Ground.chain }, { on := 23, ground := Ground.guard }], guard := some (23, true) }) rfl (fun K hK => ?_) AllReadyH.nil
 go_simp
 go_at_call 33
 refine Calls.mono (by with_reducible exact same33_any _ _ L7 L8 _ V8 HB4.out.1 HB4.out.2 HL7.out HL8.out (HD7.out.below HKv8.out.bel) HD8.out) ?_
 rintro e X4 ⟨rfl, hkx⟩
 dsimp only
 have HSx4 := Lib.hid (hHeld.trans hkx)
 clear hkx
 clear hHeld
 refine hK.out _ _ HSx4.out (fun hHeld => ?_)
 try simp only [Act.put, List.setIfInBounds_toArray, List.set_cons_zero, List.set_cons_succ]
 clear hK
 refine wpAnyH_take (i := 31) (oi := { dst := some 45, op := Op.pick (Operand.tmp 37) (Operand.tmp 44) (Operand.const (Value.bool false)), type := 4, pos := "law.go:105", after := #[{ on := 23, ground := Ground.data }, { on := 30, ground := Ground.data }], guard := none }) (v := .bool true) rfl (by kernel_rfl) (by kernel_rfl) (by kernel_rfl) (fun _ _ _ h => h) (Or.inl ⟨by rfl, fun w hSw => by (try dsimp only at hSw); go_simp⟩) hHeld ?_
 try simp only [Act.put, List.setIfInBounds_toArray, List.set_cons_zero, List.set_cons_succ]
 refine wpAnyH_take (i := 32) (oi := { dst := some 46, op := Op.move (Operand.tmp 45), type := 4, pos := "law.go:105", after := #[{ on := 31, ground := Ground.data }, { on := 30, ground := Ground.chain }], guard := none }) (v := .bool true) rfl (by kernel_rfl) (by kernel_rfl) (by kernel_rfl) (fun _ _ _ h => h) (Or.inl ⟨by rfl, fun w hSw => by (try dsimp only at hSw); go_simp⟩) hHeld ?_
 try simp only [Act.put, List.setIfInBounds_toArray, List.set_cons_zero, List.set_cons_succ]
 refine wpAnyH_ready (rs := [33]) (by kernel_rfl) (by simp) ?_
 refine AllReadyH.cons (o := { dst := some 47, op := Op.call { callee := Callee.value (Operand.func 12), args := #[], argTypes := #[] }, type := 4, pos := "law.go:105", after := #[{ on := 32, ground := Ground.chain }, { on := 32, ground := Ground.guard }], guard := some (32, true) }) rfl (fun K hK => ?_) AllReadyH.nil
 go_simp
 go_at_call 12
 refine Calls.mono (by with_reducible exact HKn.out _ hHeld) ?_
 rintro e X5 ⟨rfl, hkx⟩
 dsimp only
 have HSx5 := Lib.hid (hHeld.trans hkx)
 clear hkx
 clear hHeld
 refine hK.out _ _ HSx5.out (fun hHeld => ?_)
 try simp only [Act.put, List.setIfInBounds_toArray, List.set_cons_zero, List.set_cons_succ]
 clear hK
 refine wpAnyH_take (i := 34) (oi := { dst := some 48, op := Op.pick (Operand.tmp 46) (Operand.tmp 47) (Operand.const (Value.bool false)), type := 4, pos := "law.go:105", after := #[{ on := 32, ground := Ground.data }, { on := 33, ground := Ground.data }], guard := none }) (v := .bool true) rfl (by kernel_rfl) (by kernel_rfl) (by kernel_rfl) (fun _ _ _ h => h) (Or.inl ⟨by rfl, fun w hSw => by (try dsimp only at hSw); go_simp⟩) hHeld ?_
 try simp only [Act.put, List.setIfInBounds_toArray, List.set_cons_zero, List.set_cons_succ]
 refine wpAnyH_take (i := 35) (oi := { dst := some 2, op := Op.assign (Operand.tmp 48), type := 4, pos := "law.go:105", after := #[{ on := 34, ground := Ground.data }, { on := 33, ground := Ground.chain }, { on := 0, ground := Ground.phase }, { on := 1, ground := Ground.phase }, { on := 2, ground := Ground.phase }, { on := 3, ground := Ground.phase }, { on := 4, ground := Ground.phase }, { on := 5, ground := Ground.phase }, { on := 6, ground := Ground.phase }, { on := 7, ground := Ground.phase }, { on := 8, ground := Ground.phase }, { on := 9, ground := Ground.phase }, { on := 10, ground := Ground.phase }, { on := 11, ground := Ground.phase }, { on := 12, ground := Ground.phase }, { on := 13, ground := Ground.phase }, { on := 14, ground := Ground.phase }, { on := 15, ground := Ground.phase }, { on := 16, ground := Ground.phase }, { on := 17, ground := Ground.phase }, { on := 18, ground := Ground.phase }, { on := 19, ground := Ground.phase }, { on := 20, ground := Ground.phase }, { on := 21, ground := Ground.phase }, { on := 22, ground := Ground.phase }, { on := 23, ground := Ground.phase }, { on := 24, ground := Ground.phase }, { on := 25, ground := Ground.phase }, { on := 26, ground := Ground.phase }, { on := 27, ground := Ground.phase }, { on := 28, ground := Ground.phase }, { on := 29, ground := Ground.phase }, { on := 30, ground := Ground.phase }, { on := 31, ground := Ground.phase }, { on := 32, ground := Ground.phase }, { on := 33, ground := Ground.phase }, { on := 34, ground := Ground.phase }], guard := none }) (v := .bool true) rfl (by kernel_rfl) (by kernel_rfl) (by kernel_rfl) (fun _ _ _ h => h) (Or.inl ⟨by rfl, fun w hSw => by (try dsimp only at hSw); go_simp⟩) hHeld ?_
 try simp only [Act.put, List.setIfInBounds_toArray, List.set_cons_zero, List.set_cons_succ]
 refine wpAnyH_done (by kernel_rfl) ?_ _
 clear hHeld
 go_wp2
 go_ret
 exact ⟨rfl, HFin.out _ HSx5.out⟩
end Go.Proofs.YtldcediiobfhiaaGreatDoor
