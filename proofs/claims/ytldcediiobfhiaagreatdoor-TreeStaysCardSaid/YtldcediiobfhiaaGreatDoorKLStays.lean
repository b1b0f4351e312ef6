/- TreeStays: what Insert, Remove and Change return is valid, and no device that stays changes its origin. -/
import Derived.Test.YtldcediiobfhiaaGreatDoorKXt
import Derived.Test.YtldcediiobfhiaaGreatDoorKZ3
import Derived.Test.YtldcediiobfhiaaGreatDoorKV7
import Derived.Deep.MidRow
namespace Go.Proofs.YtldcediiobfhiaaGreatDoor
open Go.RowKit
set_option maxHeartbeats 16000000 in
set_option maxRecDepth 100000 in
theorem stays_walk (a0 : Option Addr) (n0 c0 : Nat) (w : World) (hm : De.Max w) (hi : Ints w w.heap.size (.slice a0 n0 c0)) : Calls Tryz.prog 9 #[.slice a0 n0 c0] w fun e w' => e = .returned (.bool true) ∧ Below w.heap.size w w' := by
 obtain ⟨tb, htb⟩ : ∃ tb, w.heap.size = tb := ⟨_, rfl⟩
 obtain ⟨W0, hW⟩ : ∃ W0, w.alloc (.cells #[.slice a0 n0 c0, .int .i64 0] 27) = W0 := ⟨_, rfl⟩
 have hk0 : Kp [] w W0 := by rw [← hW]; exact (Kp.refl [] w).alloc _
 have hT0 : Tp W0 tb 0 := by rw [← hW, ← htb]; exact tape_new hi
 have HTr0 := Lib.hid (tree9 (by omega) hT0 (hm.below hk0.bel))
 have HK0 := Lib.hid (show Kp [tb] w W0 from hk0.mono (by simp))
 have Htb := Lib.hid htb
 have H0t := Lib.hid (max_tp (hm.below hk0.bel) hT0)
 have HM0 := Lib.hid (hm.below hk0.bel)
 clear hk0 hT0 hi hm
 go_enter Tryz.func9, Tryz.ntmps9
 go_upto_region 3 with (first
  | (go_at_call 13; refine Calls.mono (by with_reducible exact HTr0.out) ?_; rintro e w1 ⟨va, N, vc, L, rfl, HN, hNc, hN9, HTr, k1, hk1, HT, HK1⟩; have H1v := Lib.hid (show (#[.slice va N vc] : Array Value).all (·.oneCell') = true from by simp [Value.oneCell']))
  | (refine De.wpList_store_new w1 29 _ #[.slice va N vc] rfl _ _ rfl rfl rfl info30b rfl H1v.out ?_))
 obtain ⟨Q, hQ⟩ : ∃ Q, w1.heap.size = Q := ⟨_, rfl⟩
 have hq1 := heap_alloc_last w1 (.cells #[.slice va N vc] 29)
 have hka := (Kp.refl [] w1).alloc (.cells #[.slice va N vc] 29)
 generalize w1.alloc (.cells #[.slice va N vc] 29) = w2 at *
 rw [hQ] at hq1 ⊢
 have HQ2 := Lib.hid hq1
 have t0 := cell_one hq1
 have HT2 := Lib.hid (HT.out.kp hka (by simp))
 have HTr2 := Lib.hid (HTr.out.kp hka)
 have HK2 := Lib.hid ((HK0.out.trans HK1.out).trans (hka.mono (by simp)))
 have HM2 := Lib.hid (MaxT (MaxT HM0.out H0t.out HK1.out) H0t.out (hka.mono (by simp)))
 have HQt := Lib.hid (show tb < Q from by rw [← hQ]; exact HT.out.lt)
 have HTok := Lib.hid (tree_tok HTr2.out (by omega))
 have HCk := Lib.hid (show Calls Tryz.prog 16 #[.agg #[.slice va N vc]] w2 fun e w' => e = .returned (.int .i64 0) ∧ Kp [] w2 w' from by
  have h := De.checkTree_any (.slice va N vc) L w2 (sma_cok HTr2.out.val fun y hy => sma_of (HTr2.out.sml y hy)) HTr2.out.any.has HM2.out
  rw [treeT_valid HTr2.out.val] at h
  exact h)
 have HKn := Lib.hid (fun W (hk : Kp [] w2 W) => De.known_any W (HM2.out.below hk.bel))
 go_upto_region 6 with (first
  | (go_at_call 16; refine Calls.mono (by with_reducible exact HCk.out) ?_; rintro e w3 ⟨rfl, hk3⟩; have HK3 := Lib.hid hk3; clear hk3)
  | (go_at_call 12; refine Calls.mono (by with_reducible exact HKn.out _ HK3.out) ?_; rintro e w4 ⟨rfl, hk4⟩; have HK4 := Lib.hid (HK3.out.trans hk4); clear hk4))
 clear t0
 obtain ⟨Y, hY⟩ : ∃ Y, w4.heap.size = Y := ⟨_, rfl⟩
 have hq3 := heap_alloc_last w4 (.cells #[.slice none 0 0] 29)
 have hka := (Kp.refl [] w4).alloc (.cells #[.slice none 0 0] 29)
 have hkb := HK4.out.trans hka
 generalize w4.alloc (.cells #[.slice none 0 0] 29) = wL at *
 rw [hY] at hq3 ⊢
 have HTL := Lib.hid (HT2.out.kp hkb (by simp))
 have HTrL := Lib.hid (HTr2.out.kp hkb)
 have HKL := Lib.hid (HK2.out.trans (hkb.mono (by simp)))
 have HML := Lib.hid (HM2.out.below hkb.bel)
 have HQL := Lib.hid ((hkb.block Q (block_lt HQ2.out) (by simp)).trans HQ2.out)
 have HYt := Lib.hid (show tb < Y ∧ Y ≠ Q from by
  have h1 := block_lt HQ2.out
  have h2 := HK4.out.size
  have h3 := HQt.out
  omega)
 have HYL := Lib.hid hq3
 have H0Y := Lib.hid (show 0 ≠ Y from by have := HYt.out.1; omega)
 have HTbl := Lib.hid HTL.out.lt
 clear hq3 hka hkb HT2 HTr2 HK2 HM2 HQ2 HCk HK3 HK4 hY
 have HN3 := Lib.hid (show Calls Tryz.prog 14 #[.pointer (some ⟨tb, 0, none⟩), .int .i64 3] wL fun e w' => ∃ r : Nat, r < 3 ∧ e = .returned (.int .i64 r) ∧ Tp w' tb (k1 + 1) ∧ Kp [tb] wL w' from next_kp 3 (by omega) (by omega) (by omega) HTL.out)
 go_upto_block 0 with (go_at_call 14; refine Calls.mono (by with_reducible exact HN3.out) ?_; rintro e w5 ⟨r, hr, rfl, hT5, hk5⟩; have HT5' := Lib.hid hT5; have HK5 := Lib.hid hk5; clear hT5 hk5)
 obtain ⟨k5, hk5⟩ : ∃ k, k1 + 1 = k := ⟨_, rfl⟩
 have hk5b : k5 ≤ 400 := by omega
 have HT5 := Lib.hid (show Tp w5 tb k5 from by rw [← hk5]; exact HT5'.out)
 clear hk5 HT5'
 have HTr5 := Lib.hid (HTrL.out.kpT HK5.out (by omega))
 have HM5 := Lib.hid (MaxT HML.out H0t.out HK5.out)
 have HQ5 := Lib.hid ((HK5.out.block Q (block_lt HQL.out) (by have := HQt.out; simp; omega)).trans HQL.out)
 have HY5 := Lib.hid ((HK5.out.block Y (block_lt HYL.out) (by have := HYt.out.1; simp; omega)).trans HYL.out)
 have HKL5 := Lib.hid (HKL.out.trans HK5.out)
 have HQk := Lib.hid (fun (W : World) (hk : Kp [tb, Y] w5 W) => cell_one ((hk.block Q (block_lt HQ5.out) (by have := HQt.out; have := HYt.out.2; simp; omega)).trans HQ5.out))
 have HYk := Lib.hid (fun (W : World) (hk : Kp [tb] w5 W) => (hk.block Y (block_lt HY5.out) (by have := HYt.out.1; simp; omega)).trans HY5.out)
 have HTk := Lib.hid (fun (W : World) (hk : Kp [tb] w5 W) => HTr5.out.kpT hk (by omega))
 have HMk := Lib.hid (fun (W : World) (hk : Kp [tb] w5 W) => MaxT HM5.out H0t.out hk)
 have HDV := Lib.hid (fun W (hk : Kp [] w5 W) => by
  obtain ⟨va', vc', hvf, hvc, hvr⟩ := HTr5.out.any.wform
  have h := wdev2_any (k := k5) (by omega) (HT5.out.kp hk (by simp)) L va vc (by have := HTr5.out.len; omega) HTok.out.wi (fun i x hx => by
   obtain ⟨g, o, e, hg, hc⟩ := hvr i x hx
   injection hvf with e1 e2 e3
   exact ⟨g, o, e1.trans e, Nat.lt_of_lt_of_le hg hk.size, by
    have := HTr5.out.off.v g (by rw [e1, e]; rfl)
    omega, fun j y hy => cell_kp hk (hc j y hy)⟩)
  rw [HN.out] at h
  exact h)
 have HI34 := Lib.hid (fun (X : De.ADev) (u : Value) => show (Tryz.prog.info? 34).map (·.size) = some (De.dvC X u).toArray.size from De.info34b)
 have HTrV := Lib.hid HTr5.out.val
 have HLm := Lib.hid (show (L.map (·.1)).length = N from by rw [List.length_map, HN.out])
 clear HTL HTrL HML HQL HYL HN3 HKL HK5
 go_cut [6] (fun s6 wx => ∃ (E : Int) (ya : Option Addr) (yn yc : Nat) (LY : List De.DV), s6 = .int .i64 E ∧ Hid (LY.length = yn) ∧ Hid (wx.heap[Y]? = some (.cells #[.slice ya yn yc] 29 (0, 0))) ∧ Hid (De.DHas wx (.slice ya yn yc) LY) ∧ Hid (StP (L.map (·.1)) E LY) ∧ Hid (De.DHas wx (.slice va N vc) L) ∧ Hid (De.Max wx) ∧ Hid (Kp [tb, Y] w5 wx))
 case first =>
  have hr3 : r = 0 ∨ r = 1 ∨ r = 2 := by omega
  rcases hr3 with rfl | rfl | rfl
  ·go_upto_region 14 with fail
   refine wp_region_held_drew (S := fun W => Kp [tb, Y] w5 W) (by kernel_rfl) ((Kp.refl [tb, Y] w5).drew 1) (fun hHeld => ?_)
   have HKd := Lib.hid (show Kp [] w5 w5.drew from (Kp.refl [] w5).drew 1)
   generalize hwd : w5.drew = wd at *
   clear hwd
   refine wpAnyH_take (i := 0) (oi := { dst := some 56, op := Op.load 29 (Operand.tmp 4), type := 29, pos := "law.go:176", after := #[], guard := none }) (v := .agg #[.slice va N vc]) rfl (by kernel_rfl) (by kernel_rfl) (by kernel_rfl) (fun _ _ _ h => h) (Or.inl ⟨by rfl, fun w hSw => by (try dsimp only at hSw); have t0 := HQk.out _ hSw; go_simp⟩) hHeld ?_
   try simp only [Act.put, List.setIfInBounds_toArray, List.set_cons_zero, List.set_cons_succ]
   refine wpAnyH_take (i := 1) (oi := { dst := some 57, op := Op.move (Operand.tmp 3), type := 25, pos := "law.go:176", after := #[], guard := none }) (v := .pointer (some ⟨tb, 0, none⟩)) rfl (by kernel_rfl) (by kernel_rfl) (by kernel_rfl) (fun _ _ _ h => h) (Or.inl ⟨by rfl, fun w hSw => by (try dsimp only at hSw); go_simp⟩) hHeld ?_
   try simp only [Act.put, List.setIfInBounds_toArray, List.set_cons_zero, List.set_cons_succ]
   refine wpAnyH_take (i := 2) (oi := { dst := some 58, op := Op.load 29 (Operand.tmp 4), type := 29, pos := "law.go:176", after := #[], guard := none }) (v := .agg #[.slice va N vc]) rfl (by kernel_rfl) (by kernel_rfl) (by kernel_rfl) (fun _ _ _ h => h) (Or.inl ⟨by rfl, fun w hSw => by (try dsimp only at hSw); have t0 := HQk.out _ hSw; go_simp⟩) hHeld ?_
   try simp only [Act.put, List.setIfInBounds_toArray, List.set_cons_zero, List.set_cons_succ]
   refine wpAnyH_ready (rs := [3]) (by kernel_rfl) (by simp) ?_
   refine AllReadyH.cons (o := { dst := some 59, op := Op.call { callee := Callee.value (Operand.func 15), args := #[Operand.tmp 57, Operand.tmp 58], argTypes := #[25, 29] }, type := 34, pos := "law.go:176", after := #[{ on := 1, ground := Ground.data }, { on := 2, ground := Ground.data }], guard := none }) rfl (fun K hK => ?_) AllReadyH.nil
   go_simp
   go_at_call 15
   refine Calls.mono (by with_reducible exact HDV.out _ HKd.out) ?_
   rintro e V ⟨⟨ei, ep, en, eo, eu, ed, el, ek, em, ev⟩, l2, rfl, hat, hsx, hll, ⟨kd, hkd, htp⟩, hkp, hfr, HWi, HWp⟩
   dsimp only [De.devV, De.devC] at *
   have HA2 := Lib.hid hat
   have HSX := Lib.hid hsx
   have HLL := Lib.hid hll
   have HKV := Lib.hid ((HKd.out.mono (by simp)).trans hkp)
   have hS := hHeld.trans (hkp.mono (by simp))
   clear hat hsx hll htp hkp hfr
   clear hHeld
   refine hK.out _ _ hS (fun hHeld => ?_)
   try simp only [Act.put, List.setIfInBounds_toArray, List.set_cons_zero, List.set_cons_succ]
   clear hK
   clear hS
   refine wpAnyH_ready (rs := [4]) (by kernel_rfl) (by simp) ?_
   refine AllReadyH.cons (o := { dst := some 60, op := Op.call { callee := Callee.value (Operand.func 40), args := #[Operand.tmp 56, Operand.tmp 59], argTypes := #[29, 34] }, type := 52, pos := "law.go:176", after := #[{ on := 0, ground := Ground.data }, { on := 3, ground := Ground.data }, { on := 3, ground := Ground.chain }], guard := none }) rfl (fun K hK => ?_) AllReadyH.nil
   have HI40 := Lib.hid (show Calls Tryz.prog 40 #[.agg #[.slice va N vc], .agg #[.int .i64 ei, .int .i64 ep, .string en, .string eo, .string eu, .string ed, .string el, .int .i64 ek, .int .i64 em, ev]] V (StPost (L.map (·.1)) V) from st40 (HTk.out _ HKV.out) (by omega) (HTk.out _ HKV.out).any.has ⟨ei, ep, en, eo, eu, ed, el, ek, em, ev⟩ l2 HA2.out HSX.out HLL.out (HMk.out _ HKV.out) HWi.out HWp.out)
   go_simp
   go_at_call 40
   refine Calls.mono (by with_reducible exact HI40.out) ?_
   rintro e V2 ⟨na, nm, nc, E, LY, rfl, HLn2, HD2, HSt2, HKv⟩
   dsimp only
   have HKV2 := Lib.hid (HKV.out.trans (HKv.out.mono (by simp)))
   have hS := hHeld.trans (HKv.out.mono (by simp))
   clear hHeld
   refine hK.out _ _ hS (fun hHeld => ?_)
   try simp only [Act.put, List.setIfInBounds_toArray, List.set_cons_zero, List.set_cons_succ]
   clear hK
   clear hS
   refine wpAnyH_take (i := 5) (oi := { dst := some 55, op := Op.move (Operand.tmp 60), type := 52, pos := "law.go:176", after := #[{ on := 4, ground := Ground.data }], guard := none }) (v := .tuple #[.agg #[.slice na nm nc], .int .i64 E]) rfl (by kernel_rfl) (by kernel_rfl) (by kernel_rfl) (fun _ _ _ h => h) (Or.inl ⟨by rfl, fun w hSw => by (try dsimp only at hSw); go_simp⟩) hHeld ?_
   try simp only [Act.put, List.setIfInBounds_toArray, List.set_cons_zero, List.set_cons_succ]
   refine wpAnyH_take (i := 6) (oi := { dst := some 61, op := Op.extract (Operand.tmp 55) 0, type := 29, pos := "law.go:176", after := #[{ on := 5, ground := Ground.data }], guard := none }) (v := .agg #[.slice na nm nc]) rfl (by kernel_rfl) (by kernel_rfl) (by kernel_rfl) (fun _ _ _ h => h) (Or.inl ⟨by rfl, fun w hSw => by (try dsimp only at hSw); go_simp⟩) hHeld ?_
   try simp only [Act.put, List.setIfInBounds_toArray, List.set_cons_zero, List.set_cons_succ]
   refine wpAnyH_take (i := 7) (oi := { dst := some 62, op := Op.extract (Operand.tmp 55) 1, type := 36, pos := "law.go:176", after := #[{ on := 5, ground := Ground.data }, { on := 8, ground := Ground.gcOnly Departure.lateStores }], guard := none }) (v := .int .i64 E) rfl (by kernel_rfl) (by kernel_rfl) (by kernel_rfl) (fun _ _ _ h => h) (Or.inl ⟨by rfl, fun w hSw => by (try dsimp only at hSw); go_simp⟩) hHeld ?_
   try simp only [Act.put, List.setIfInBounds_toArray, List.set_cons_zero, List.set_cons_succ]
   refine wpAnyH_ready (rs := [8]) (by kernel_rfl) (by simp) ?_
   refine AllReadyH.cons (o := { dst := none, op := Op.store 29 (Operand.tmp 5) (Operand.tmp 61), type := 0, pos := "law.go:176", after := #[{ on := 6, ground := Ground.data }, { on := 4, ground := Ground.chain }, { on := 0, ground := Ground.phase }, { on := 1, ground := Ground.phase }, { on := 2, ground := Ground.phase }, { on := 3, ground := Ground.phase }, { on := 4, ground := Ground.phase }, { on := 5, ground := Ground.phase }, { on := 6, ground := Ground.phase }, { on := 7, ground := Ground.textOnly Departure.lateStores }], guard := none }) rfl (fun K hK => ?_) AllReadyH.nil
   have HYV := Lib.hid (HYk.out _ HKV2.out)
   refine step_store rfl 29 (.tmp 5) (.tmp 61) rfl Y #[.slice na nm nc] rfl rfl 29 #[.slice none 0 0] HYV.out info30b rfl (sl_one _ _ _) ?_
   have HRe := Lib.hid (setRow_heap _ _ _ #[.slice na nm nc] _ _ HYV.out)
   have hkR : Kp [Y] V2 (V2.setRow Y #[.slice na nm nc]) := (Kp.refl [Y] _).setRow (.inl (by simp)) _
   have HXe := Lib.hid (((HTk.out _ HKV2.out).kpR hkR HYV.out).any.has)
   have HMe := Lib.hid (MaxT (HMk.out _ HKV2.out) H0Y.out hkR)
   generalize V2.setRow Y #[.slice na nm nc] = we at *
   have HDe := Lib.hid (dhasR HD2.out hkR HYV.out)
   have hS := hHeld.trans (hkR.mono (by simp))
   clear hkR
   clear hHeld
   refine hK.out _ _ hS (fun hHeld => ?_)
   try simp only [Act.put]
   clear hK
   clear hS
   refine wpAnyH_take (i := 9) (oi := { dst := some 6, op := Op.assign (Operand.tmp 62), type := 36, pos := "law.go:176", after := #[{ on := 7, ground := Ground.data }, { on := 8, ground := Ground.chain }, { on := 0, ground := Ground.phase }, { on := 1, ground := Ground.phase }, { on := 2, ground := Ground.phase }, { on := 3, ground := Ground.phase }, { on := 4, ground := Ground.phase }, { on := 5, ground := Ground.phase }, { on := 6, ground := Ground.phase }, { on := 7, ground := Ground.phase }, { on := 8, ground := Ground.phase }], guard := none }) (v := .int .i64 E) rfl (by kernel_rfl) (by kernel_rfl) (by kernel_rfl) (fun _ _ _ h => h) (Or.inl ⟨by rfl, fun w hSw => by (try dsimp only at hSw); go_simp⟩) hHeld ?_
   try simp only [Act.put, List.setIfInBounds_toArray, List.set_cons_zero, List.set_cons_succ]
   have HSe := Lib.hid hHeld
   refine wpAnyH_done (by kernel_rfl) ?_ _
   clear hHeld
   go_wp2
   go_meet
   exact ⟨E, na, nm, nc, LY, rfl, HLn2, HRe, HDe, HSt2, HXe, HMe, HSe⟩
  ·go_upto_region 16 with fail
   refine wp_region_held_drew (S := fun W => Kp [tb, Y] w5 W) (by kernel_rfl) ((Kp.refl [tb, Y] w5).drew 1) (fun hHeld => ?_)
   have HKd := Lib.hid (show Kp [] w5 w5.drew from (Kp.refl [] w5).drew 1)
   generalize hwd : w5.drew = wd at *
   clear hwd
   refine wpAnyH_take (i := 0) (oi := { dst := some 66, op := Op.load 29 (Operand.tmp 4), type := 29, pos := "law.go:178", after := #[], guard := none }) (v := .agg #[.slice va N vc]) rfl (by kernel_rfl) (by kernel_rfl) (by kernel_rfl) (fun _ _ _ h => h) (Or.inl ⟨by rfl, fun w hSw => by (try dsimp only at hSw); have t0 := HQk.out _ hSw; go_simp⟩) hHeld ?_
   try simp only [Act.put, List.setIfInBounds_toArray, List.set_cons_zero, List.set_cons_succ]
   refine wpAnyH_take (i := 1) (oi := { dst := some 67, op := Op.move (Operand.tmp 3), type := 25, pos := "law.go:178", after := #[], guard := none }) (v := .pointer (some ⟨tb, 0, none⟩)) rfl (by kernel_rfl) (by kernel_rfl) (by kernel_rfl) (fun _ _ _ h => h) (Or.inl ⟨by rfl, fun w hSw => by (try dsimp only at hSw); go_simp⟩) hHeld ?_
   try simp only [Act.put, List.setIfInBounds_toArray, List.set_cons_zero, List.set_cons_succ]
   refine wpAnyH_take (i := 2) (oi := { dst := some 68, op := Op.load 29 (Operand.tmp 4), type := 29, pos := "law.go:178", after := #[], guard := none }) (v := .agg #[.slice va N vc]) rfl (by kernel_rfl) (by kernel_rfl) (by kernel_rfl) (fun _ _ _ h => h) (Or.inl ⟨by rfl, fun w hSw => by (try dsimp only at hSw); have t0 := HQk.out _ hSw; go_simp⟩) hHeld ?_
   try simp only [Act.put, List.setIfInBounds_toArray, List.set_cons_zero, List.set_cons_succ]
   refine wpAnyH_ready (rs := [3]) (by kernel_rfl) (by simp) ?_
   refine AllReadyH.cons (o := { dst := some 69, op := Op.call { callee := Callee.value (Operand.func 18), args := #[Operand.tmp 67, Operand.tmp 68], argTypes := #[25, 29] }, type := 3, pos := "law.go:178", after := #[{ on := 1, ground := Ground.data }, { on := 2, ground := Ground.data }], guard := none }) rfl (fun K hK => ?_) AllReadyH.nil
   have HSm := Lib.hid (some_any (k := k5) (by omega) (HT5.out.kp HKd.out (by simp)) (HTk.out _ (HKd.out.mono (by simp))) (by omega))
   go_simp
   go_at_call 18
   refine Calls.mono (by with_reducible exact HSm.out) ?_
   rintro e V ⟨z, rfl, hz, -, hkp⟩
   dsimp only
   have HZ := Lib.hid hz
   have HKV := Lib.hid ((HKd.out.mono (by simp)).trans hkp)
   have hS := hHeld.trans (hkp.mono (by simp))
   clear hz hkp
   clear hHeld
   refine hK.out _ _ hS (fun hHeld => ?_)
   try simp only [Act.put, List.setIfInBounds_toArray, List.set_cons_zero, List.set_cons_succ]
   clear hK
   clear hS
   refine wpAnyH_ready (rs := [4]) (by kernel_rfl) (by simp) ?_
   refine AllReadyH.cons (o := { dst := some 70, op := Op.call { callee := Callee.value (Operand.func 43), args := #[Operand.tmp 66, Operand.tmp 69], argTypes := #[29, 3] }, type := 52, pos := "law.go:178", after := #[{ on := 0, ground := Ground.data }, { on := 3, ground := Ground.data }, { on := 3, ground := Ground.chain }], guard := none }) rfl (fun K hK => ?_) AllReadyH.nil
   have HI43 := Lib.hid (st43 (HTk.out _ HKV.out) (by omega) (HTk.out _ HKV.out).any.has z HZ.out)
   go_simp
   go_at_call 43
   refine Calls.mono (by with_reducible exact HI43.out) ?_
   rintro e V2 ⟨na, nm, nc, E, LY, rfl, HLn2, HD2, HSt2, HKv⟩
   dsimp only
   have HKV2 := Lib.hid (HKV.out.trans (HKv.out.mono (by simp)))
   have hS := hHeld.trans (HKv.out.mono (by simp))
   clear hHeld
   refine hK.out _ _ hS (fun hHeld => ?_)
   try simp only [Act.put, List.setIfInBounds_toArray, List.set_cons_zero, List.set_cons_succ]
   clear hK
   clear hS
   refine wpAnyH_take (i := 5) (oi := { dst := some 65, op := Op.move (Operand.tmp 70), type := 52, pos := "law.go:178", after := #[{ on := 4, ground := Ground.data }], guard := none }) (v := .tuple #[.agg #[.slice na nm nc], .int .i64 E]) rfl (by kernel_rfl) (by kernel_rfl) (by kernel_rfl) (fun _ _ _ h => h) (Or.inl ⟨by rfl, fun w hSw => by (try dsimp only at hSw); go_simp⟩) hHeld ?_
   try simp only [Act.put, List.setIfInBounds_toArray, List.set_cons_zero, List.set_cons_succ]
   refine wpAnyH_take (i := 6) (oi := { dst := some 71, op := Op.extract (Operand.tmp 65) 0, type := 29, pos := "law.go:178", after := #[{ on := 5, ground := Ground.data }], guard := none }) (v := .agg #[.slice na nm nc]) rfl (by kernel_rfl) (by kernel_rfl) (by kernel_rfl) (fun _ _ _ h => h) (Or.inl ⟨by rfl, fun w hSw => by (try dsimp only at hSw); go_simp⟩) hHeld ?_
   try simp only [Act.put, List.setIfInBounds_toArray, List.set_cons_zero, List.set_cons_succ]
   refine wpAnyH_take (i := 7) (oi := { dst := some 72, op := Op.extract (Operand.tmp 65) 1, type := 36, pos := "law.go:178", after := #[{ on := 5, ground := Ground.data }, { on := 8, ground := Ground.gcOnly Departure.lateStores }], guard := none }) (v := .int .i64 E) rfl (by kernel_rfl) (by kernel_rfl) (by kernel_rfl) (fun _ _ _ h => h) (Or.inl ⟨by rfl, fun w hSw => by (try dsimp only at hSw); go_simp⟩) hHeld ?_
   try simp only [Act.put, List.setIfInBounds_toArray, List.set_cons_zero, List.set_cons_succ]
   refine wpAnyH_ready (rs := [8]) (by kernel_rfl) (by simp) ?_
   refine AllReadyH.cons (o := { dst := none, op := Op.store 29 (Operand.tmp 5) (Operand.tmp 71), type := 0, pos := "law.go:178", after := #[{ on := 6, ground := Ground.data }, { on := 4, ground := Ground.chain }, { on := 0, ground := Ground.phase }, { on := 1, ground := Ground.phase }, { on := 2, ground := Ground.phase }, { on := 3, ground := Ground.phase }, { on := 4, ground := Ground.phase }, { on := 5, ground := Ground.phase }, { on := 6, ground := Ground.phase }, { on := 7, ground := Ground.textOnly Departure.lateStores }], guard := none }) rfl (fun K hK => ?_) AllReadyH.nil
   have HYV := Lib.hid (HYk.out _ HKV2.out)
   refine step_store rfl 29 (.tmp 5) (.tmp 71) rfl Y #[.slice na nm nc] rfl rfl 29 #[.slice none 0 0] HYV.out info30b rfl (sl_one _ _ _) ?_
   have HRe := Lib.hid (setRow_heap _ _ _ #[.slice na nm nc] _ _ HYV.out)
   have hkR : Kp [Y] V2 (V2.setRow Y #[.slice na nm nc]) := (Kp.refl [Y] _).setRow (.inl (by simp)) _
   have HXe := Lib.hid (((HTk.out _ HKV2.out).kpR hkR HYV.out).any.has)
   have HMe := Lib.hid (MaxT (HMk.out _ HKV2.out) H0Y.out hkR)
   generalize V2.setRow Y #[.slice na nm nc] = we at *
   have HDe := Lib.hid (dhasR HD2.out hkR HYV.out)
   have hS := hHeld.trans (hkR.mono (by simp))
   clear hkR
   clear hHeld
   refine hK.out _ _ hS (fun hHeld => ?_)
   try simp only [Act.put]
   clear hK
   clear hS
   refine wpAnyH_take (i := 9) (oi := { dst := some 6, op := Op.assign (Operand.tmp 72), type := 36, pos := "law.go:178", after := #[{ on := 7, ground := Ground.data }, { on := 8, ground := Ground.chain }, { on := 0, ground := Ground.phase }, { on := 1, ground := Ground.phase }, { on := 2, ground := Ground.phase }, { on := 3, ground := Ground.phase }, { on := 4, ground := Ground.phase }, { on := 5, ground := Ground.phase }, { on := 6, ground := Ground.phase }, { on := 7, ground := Ground.phase }, { on := 8, ground := Ground.phase }], guard := none }) (v := .int .i64 E) rfl (by kernel_rfl) (by kernel_rfl) (by kernel_rfl) (fun _ _ _ h => h) (Or.inl ⟨by rfl, fun w hSw => by (try dsimp only at hSw); go_simp⟩) hHeld ?_
   try simp only [Act.put, List.setIfInBounds_toArray, List.set_cons_zero, List.set_cons_succ]
   have HSe := Lib.hid hHeld
   refine wpAnyH_done (by kernel_rfl) ?_ _
   clear hHeld
   go_wp2
   go_meet
   exact ⟨E, na, nm, nc, LY, rfl, HLn2, HRe, HDe, HSt2, HXe, HMe, HSe⟩
  ·go_upto_region 8 with fail
   go_cut [7] (fun s7 wx => ∃ (R : Nat) (X : De.ADev) (fa : Option Addr) (fm fc : Nat), s7 = .pointer (some ⟨R, 0, none⟩) ∧ Hid (wx.heap[R]? = some (.cells (De.dvC X (.slice fa fm fc)).toArray 34 (0, 0))) ∧ Hid (w5.heap.size ≤ R) ∧ Hid (SmA X) ∧ Hid ((Lit.int .i64 X.idx).wf = true) ∧ Hid (Tq wx tb (k5 + 2)) ∧ Hid (Kp [tb] w5 wx))
   case first =>
    refine wp_region_held_drew (S := fun W => Kp [tb] w5 W) (by kernel_rfl) ((Kp.refl [tb] w5).drew 1) (fun hHeld => ?_)
    have HKd := Lib.hid (show Kp [] w5 w5.drew from (Kp.refl [] w5).drew 1)
    generalize hwd : w5.drew = wd at *
    clear hwd
    refine wpAnyH_take (i := 0) (oi := { dst := some 29, op := Op.load 29 (Operand.tmp 4), type := 29, pos := "law.go:180", after := #[], guard := none }) (v := .agg #[.slice va N vc]) rfl (by kernel_rfl) (by kernel_rfl) (by kernel_rfl) (fun _ _ _ h => h) (Or.inl ⟨by rfl, fun w hSw => by (try dsimp only at hSw); have t0 := HQk.out _ (hSw.mono (by simp)); go_simp⟩) hHeld ?_
    try simp only [Act.put, List.setIfInBounds_toArray, List.set_cons_zero, List.set_cons_succ]
    refine wpAnyH_take (i := 1) (oi := { dst := some 30, op := Op.move (Operand.tmp 3), type := 25, pos := "law.go:180", after := #[], guard := none }) (v := .pointer (some ⟨tb, 0, none⟩)) rfl (by kernel_rfl) (by kernel_rfl) (by kernel_rfl) (fun _ _ _ h => h) (Or.inl ⟨by rfl, fun w hSw => by (try dsimp only at hSw); go_simp⟩) hHeld ?_
    try simp only [Act.put, List.setIfInBounds_toArray, List.set_cons_zero, List.set_cons_succ]
    refine wpAnyH_take (i := 2) (oi := { dst := some 31, op := Op.load 29 (Operand.tmp 4), type := 29, pos := "law.go:180", after := #[], guard := none }) (v := .agg #[.slice va N vc]) rfl (by kernel_rfl) (by kernel_rfl) (by kernel_rfl) (fun _ _ _ h => h) (Or.inl ⟨by rfl, fun w hSw => by (try dsimp only at hSw); have t0 := HQk.out _ (hSw.mono (by simp)); go_simp⟩) hHeld ?_
    try simp only [Act.put, List.setIfInBounds_toArray, List.set_cons_zero, List.set_cons_succ]
    refine wpAnyH_ready (rs := [3, 8]) (by kernel_rfl) (by simp) ?_
    refine AllReadyH.cons (o := { dst := some 32, op := Op.call { callee := Callee.value (Operand.func 18), args := #[Operand.tmp 30, Operand.tmp 31], argTypes := #[25, 29] }, type := 3, pos := "law.go:180", after := #[{ on := 1, ground := Ground.data }, { on := 2, ground := Ground.data }], guard := none }) rfl (fun K hK => ?_) (AllReadyH.cons (o := { dst := some 7, op := Op.alloc 34, type := 0, pos := "law.go:180", after := #[], guard := none }) rfl (fun K hK => ?_) AllReadyH.nil)
    ·skip
     have HSm := Lib.hid (some_any (k := k5) (by omega) (HT5.out.kp HKd.out (by simp)) (HTk.out _ (HKd.out.mono (by simp))) (by omega))
     go_simp
     go_at_call 18
     refine Calls.mono (by with_reducible exact HSm.out) ?_
     rintro e V ⟨z, rfl, hz, hTq, hkp⟩
     dsimp only
     have HZ := Lib.hid hz
     have HTq := Lib.hid hTq
     have HKV := Lib.hid ((HKd.out.mono (by simp)).trans hkp)
     have hS := hHeld.trans hkp
     clear hz hTq hkp
     clear hHeld
     refine hK.out _ _ hS (fun hHeld => ?_)
     try simp only [Act.put, List.setIfInBounds_toArray, List.set_cons_zero, List.set_cons_succ]
     clear hK
     clear hS
     refine wpAnyH_ready (rs := [4, 8]) (by kernel_rfl) (by simp) ?_
     refine AllReadyH.cons (o := { dst := some 33, op := Op.call { callee := Callee.value (Operand.func 21), args := #[Operand.tmp 29, Operand.tmp 32], argTypes := #[29, 3] }, type := 42, pos := "law.go:180", after := #[{ on := 0, ground := Ground.data }, { on := 3, ground := Ground.data }, { on := 3, ground := Ground.chain }], guard := none }) rfl (fun K hK => ?_) (AllReadyH.cons (o := { dst := some 7, op := Op.alloc 34, type := 0, pos := "law.go:180", after := #[], guard := none }) rfl (fun K hK => ?_) AllReadyH.nil)
     ·skip
      have HFd := Lib.hid (st21 (HTk.out _ HKV.out) (by omega) (HTk.out _ HKV.out).any.has z HZ.out)
      go_simp
      go_at_call 21
      refine Calls.mono (by with_reducible exact HFd.out) ?_
      rintro e V2 ⟨X, fa, fm, fc, bh, rfl, HSX, HXi, HKv⟩
      dsimp only
      have HKV2 := Lib.hid (HKV.out.trans (HKv.out.mono (by simp)))
      have HTq2 := Lib.hid (show Tq V2 tb (k5 + 2) from by obtain ⟨kz, hkz, hz⟩ := HTq.out; exact ⟨kz, hkz, hz.kp HKv.out (by simp)⟩)
      have hS := hHeld.trans (HKv.out.mono (by simp))
      clear hHeld
      refine hK.out _ _ hS (fun hHeld => ?_)
      try simp only [Act.put, List.setIfInBounds_toArray, List.set_cons_zero, List.set_cons_succ]
      clear hK
      clear hS
      refine wpAnyH_take (i := 5) (oi := { dst := some 28, op := Op.move (Operand.tmp 33), type := 42, pos := "law.go:180", after := #[{ on := 4, ground := Ground.data }], guard := none }) (v := .tuple #[.agg (De.dvC X (.slice fa fm fc)).toArray, .bool bh]) rfl (by kernel_rfl) (by kernel_rfl) (by kernel_rfl) (fun _ _ _ h => h) (Or.inl ⟨by rfl, fun w hSw => by (try dsimp only at hSw); go_simp⟩) hHeld ?_
      try simp only [Act.put, List.setIfInBounds_toArray, List.set_cons_zero, List.set_cons_succ]
      refine wpAnyH_take (i := 6) (oi := { dst := some 34, op := Op.extract (Operand.tmp 28) 0, type := 34, pos := "law.go:180", after := #[{ on := 5, ground := Ground.data }], guard := none }) (v := .agg (De.dvC X (.slice fa fm fc)).toArray) rfl (by kernel_rfl) (by kernel_rfl) (by kernel_rfl) (fun _ _ _ h => h) (Or.inl ⟨by rfl, fun w hSw => by (try dsimp only at hSw); go_simp⟩) hHeld ?_
      try simp only [Act.put, List.setIfInBounds_toArray, List.set_cons_zero, List.set_cons_succ]
      refine wpAnyH_take (i := 7) (oi := { dst := some 35, op := Op.extract (Operand.tmp 28) 1, type := 4, pos := "law.go:180", after := #[{ on := 5, ground := Ground.data }, { on := 9, ground := Ground.gcOnly Departure.lateStores }], guard := none }) (v := .bool bh) rfl (by kernel_rfl) (by kernel_rfl) (by kernel_rfl) (fun _ _ _ h => h) (Or.inl ⟨by rfl, fun w hSw => by (try dsimp only at hSw); go_simp⟩) hHeld ?_
      try simp only [Act.put, List.setIfInBounds_toArray, List.set_cons_zero, List.set_cons_succ]
      refine wpAnyH_ready (rs := [8]) (by kernel_rfl) (by simp) ?_
      refine AllReadyH.cons (o := { dst := some 7, op := Op.alloc 34, type := 0, pos := "law.go:180", after := #[], guard := none }) rfl (fun K hK => ?_) AllReadyH.nil
      go_simp
      have hkn := (Kp.refl [] V2).alloc (.cells #[.int .i64 0, .int .i64 0, .string ⟨#[]⟩, .string ⟨#[]⟩, .string ⟨#[]⟩, .string ⟨#[]⟩, .string ⟨#[]⟩, .int .i64 0, .int .i64 0, .slice none 0 0] 34)
      have hr8 := heap_alloc_last V2 (.cells #[.int .i64 0, .int .i64 0, .string ⟨#[]⟩, .string ⟨#[]⟩, .string ⟨#[]⟩, .string ⟨#[]⟩, .string ⟨#[]⟩, .int .i64 0, .int .i64 0, .slice none 0 0] 34)
      obtain ⟨R8, hR8⟩ : ∃ R, V2.heap.size = R := ⟨_, rfl⟩
      generalize V2.alloc (.cells #[.int .i64 0, .int .i64 0, .string ⟨#[]⟩, .string ⟨#[]⟩, .string ⟨#[]⟩, .string ⟨#[]⟩, .string ⟨#[]⟩, .int .i64 0, .int .i64 0, .slice none 0 0] 34) = w8 at *
      rw [hR8] at hr8 ⊢
      have HRr := Lib.hid hr8
      have HRge := Lib.hid (show w5.heap.size ≤ R8 from by rw [← hR8]; exact hHeld.size)
      have HTq3 := Lib.hid (show Tq w8 tb (k5 + 2) from by obtain ⟨kz, hkz, hz⟩ := HTq2.out; exact ⟨kz, hkz, hz.kp hkn (by simp)⟩)
      have hS := hHeld.trans (hkn.mono (by simp))
      clear hkn hr8 hR8
      clear hHeld
      refine hK.out _ _ hS (fun hHeld => ?_)
      try simp only [Act.put, List.setIfInBounds_toArray, List.set_cons_zero, List.set_cons_succ]
      clear hK
      clear hS
      refine wpAnyH_ready (rs := [9]) (by kernel_rfl) (by simp) ?_
      refine AllReadyH.cons (o := { dst := none, op := Op.store 34 (Operand.tmp 7) (Operand.tmp 34), type := 0, pos := "law.go:180", after := #[{ on := 8, ground := Ground.data }, { on := 6, ground := Ground.data }, { on := 4, ground := Ground.chain }, { on := 0, ground := Ground.phase }, { on := 1, ground := Ground.phase }, { on := 2, ground := Ground.phase }, { on := 3, ground := Ground.phase }, { on := 4, ground := Ground.phase }, { on := 5, ground := Ground.phase }, { on := 6, ground := Ground.phase }, { on := 7, ground := Ground.textOnly Departure.lateStores }, { on := 8, ground := Ground.phase }], guard := none }) rfl (fun K hK => ?_) AllReadyH.nil
      have HSt := Lib.hid (dv_one X fa fm fc)
      refine step_store rfl 34 (.tmp 7) (.tmp 34) rfl R8 (De.dvC X (.slice fa fm fc)).toArray rfl rfl 34 #[.int .i64 0, .int .i64 0, .string ⟨#[]⟩, .string ⟨#[]⟩, .string ⟨#[]⟩, .string ⟨#[]⟩, .string ⟨#[]⟩, .int .i64 0, .int .i64 0, .slice none 0 0] HRr.out (HI34.out _ _) rfl HSt.out ?_
      have HRe := Lib.hid (setRow_heap _ _ _ (De.dvC X (.slice fa fm fc)).toArray _ _ HRr.out)
      have hkr : Kp [R8] w8 (w8.setRow R8 (De.dvC X (.slice fa fm fc)).toArray) := (Kp.refl [R8] _).setRow (.inl (by simp)) _
      have HTe := Lib.hid (show Tq (w8.setRow R8 (De.dvC X (.slice fa fm fc)).toArray) tb (k5 + 2) from by obtain ⟨kz, hkz, hz⟩ := HTq3.out; exact ⟨kz, hkz, hz.kp hkr (by intro q hq; simp at hq; subst hq; have := HRge.out; have := HT5.out.lt; omega)⟩)
      have hkR : Kp [tb] w5 (w8.setRow R8 (De.dvC X (.slice fa fm fc)).toArray) := hHeld.up hkr (by intro z hz; simp at hz; subst hz; exact .inr HRge.out)
      generalize w8.setRow R8 (De.dvC X (.slice fa fm fc)).toArray = we at *
      clear hHeld
      refine hK.out _ _ hkR (fun hHeld => ?_)
      try simp only [Act.put]
      clear hK
      clear hkR hkr
      refine wpAnyH_take (i := 10) (oi := { dst := some 8, op := Op.assign (Operand.tmp 35), type := 4, pos := "law.go:180", after := #[{ on := 7, ground := Ground.data }, { on := 9, ground := Ground.chain }, { on := 0, ground := Ground.phase }, { on := 1, ground := Ground.phase }, { on := 2, ground := Ground.phase }, { on := 3, ground := Ground.phase }, { on := 4, ground := Ground.phase }, { on := 5, ground := Ground.phase }, { on := 6, ground := Ground.phase }, { on := 7, ground := Ground.phase }, { on := 8, ground := Ground.phase }, { on := 9, ground := Ground.phase }], guard := none }) (v := .bool bh) rfl (by kernel_rfl) (by kernel_rfl) (by kernel_rfl) (fun _ _ _ h => h) (Or.inl ⟨by rfl, fun w hSw => by (try dsimp only at hSw); go_simp⟩) hHeld ?_
      try simp only [Act.put, List.setIfInBounds_toArray, List.set_cons_zero, List.set_cons_succ]
      have HSe := Lib.hid hHeld
      refine wpAnyH_done (by kernel_rfl) ?_ _
      clear hHeld
      go_wp2
      go_meet
      exact ⟨R8, X, fa, fm, fc, rfl, HRe, HRge, HSX, HXi, HTe, HSe⟩
     ·skip
      go_simp
      have hkn := (Kp.refl [] V).alloc (.cells #[.int .i64 0, .int .i64 0, .string ⟨#[]⟩, .string ⟨#[]⟩, .string ⟨#[]⟩, .string ⟨#[]⟩, .string ⟨#[]⟩, .int .i64 0, .int .i64 0, .slice none 0 0] 34)
      have hr8 := heap_alloc_last V (.cells #[.int .i64 0, .int .i64 0, .string ⟨#[]⟩, .string ⟨#[]⟩, .string ⟨#[]⟩, .string ⟨#[]⟩, .string ⟨#[]⟩, .int .i64 0, .int .i64 0, .slice none 0 0] 34)
      obtain ⟨R8, hR8⟩ : ∃ R, V.heap.size = R := ⟨_, rfl⟩
      generalize V.alloc (.cells #[.int .i64 0, .int .i64 0, .string ⟨#[]⟩, .string ⟨#[]⟩, .string ⟨#[]⟩, .string ⟨#[]⟩, .string ⟨#[]⟩, .int .i64 0, .int .i64 0, .slice none 0 0] 34) = w8 at *
      rw [hR8] at hr8 ⊢
      have HRr := Lib.hid hr8
      have HRge := Lib.hid (show w5.heap.size ≤ R8 from by rw [← hR8]; exact hHeld.size)
      have HKV8 := Lib.hid (HKV.out.trans (hkn.mono (by simp)))
      have HTq2 := Lib.hid (show Tq w8 tb (k5 + 2) from by obtain ⟨kz, hkz, hz⟩ := HTq.out; exact ⟨kz, hkz, hz.kp hkn (by simp)⟩)
      have hS := hHeld.trans (hkn.mono (by simp))
      clear hkn hr8 hR8
      clear hHeld
      refine hK.out _ _ hS (fun hHeld => ?_)
      try simp only [Act.put, List.setIfInBounds_toArray, List.set_cons_zero, List.set_cons_succ]
      clear hK
      clear hS
      refine wpAnyH_ready (rs := [4]) (by kernel_rfl) (by simp) ?_
      refine AllReadyH.cons (o := { dst := some 33, op := Op.call { callee := Callee.value (Operand.func 21), args := #[Operand.tmp 29, Operand.tmp 32], argTypes := #[29, 3] }, type := 42, pos := "law.go:180", after := #[{ on := 0, ground := Ground.data }, { on := 3, ground := Ground.data }, { on := 3, ground := Ground.chain }], guard := none }) rfl (fun K hK => ?_) AllReadyH.nil
      have HFd := Lib.hid (st21 (HTk.out _ HKV8.out) (by omega) (HTk.out _ HKV8.out).any.has z HZ.out)
      go_simp
      go_at_call 21
      refine Calls.mono (by with_reducible exact HFd.out) ?_
      rintro e V2 ⟨X, fa, fm, fc, bh, rfl, HSX, HXi, HKv⟩
      dsimp only
      have HKV2 := Lib.hid (HKV8.out.trans (HKv.out.mono (by simp)))
      have HTq3 := Lib.hid (show Tq V2 tb (k5 + 2) from by obtain ⟨kz, hkz, hz⟩ := HTq2.out; exact ⟨kz, hkz, hz.kp HKv.out (by simp)⟩)
      have hrv := (HKv.out.block R8 (block_lt HRr.out) (by simp)).trans HRr.out
      clear HRr
      have HRr := Lib.hid hrv
      have hS := hHeld.trans (HKv.out.mono (by simp))
      clear hrv
      clear hHeld
      refine hK.out _ _ hS (fun hHeld => ?_)
      try simp only [Act.put, List.setIfInBounds_toArray, List.set_cons_zero, List.set_cons_succ]
      clear hK
      clear hS
      refine wpAnyH_take (i := 5) (oi := { dst := some 28, op := Op.move (Operand.tmp 33), type := 42, pos := "law.go:180", after := #[{ on := 4, ground := Ground.data }], guard := none }) (v := .tuple #[.agg (De.dvC X (.slice fa fm fc)).toArray, .bool bh]) rfl (by kernel_rfl) (by kernel_rfl) (by kernel_rfl) (fun _ _ _ h => h) (Or.inl ⟨by rfl, fun w hSw => by (try dsimp only at hSw); go_simp⟩) hHeld ?_
      try simp only [Act.put, List.setIfInBounds_toArray, List.set_cons_zero, List.set_cons_succ]
      refine wpAnyH_take (i := 6) (oi := { dst := some 34, op := Op.extract (Operand.tmp 28) 0, type := 34, pos := "law.go:180", after := #[{ on := 5, ground := Ground.data }], guard := none }) (v := .agg (De.dvC X (.slice fa fm fc)).toArray) rfl (by kernel_rfl) (by kernel_rfl) (by kernel_rfl) (fun _ _ _ h => h) (Or.inl ⟨by rfl, fun w hSw => by (try dsimp only at hSw); go_simp⟩) hHeld ?_
      try simp only [Act.put, List.setIfInBounds_toArray, List.set_cons_zero, List.set_cons_succ]
      refine wpAnyH_take (i := 7) (oi := { dst := some 35, op := Op.extract (Operand.tmp 28) 1, type := 4, pos := "law.go:180", after := #[{ on := 5, ground := Ground.data }, { on := 9, ground := Ground.gcOnly Departure.lateStores }], guard := none }) (v := .bool bh) rfl (by kernel_rfl) (by kernel_rfl) (by kernel_rfl) (fun _ _ _ h => h) (Or.inl ⟨by rfl, fun w hSw => by (try dsimp only at hSw); go_simp⟩) hHeld ?_
      try simp only [Act.put, List.setIfInBounds_toArray, List.set_cons_zero, List.set_cons_succ]
      refine wpAnyH_ready (rs := [9]) (by kernel_rfl) (by simp) ?_
      refine AllReadyH.cons (o := { dst := none, op := Op.store 34 (Operand.tmp 7) (Operand.tmp 34), type := 0, pos := "law.go:180", after := #[{ on := 8, ground := Ground.data }, { on := 6, ground := Ground.data }, { on := 4, ground := Ground.chain }, { on := 0, ground := Ground.phase }, { on := 1, ground := Ground.phase }, { on := 2, ground := Ground.phase }, { on := 3, ground := Ground.phase }, { on := 4, ground := Ground.phase }, { on := 5, ground := Ground.phase }, { on := 6, ground := Ground.phase }, { on := 7, ground := Ground.textOnly Departure.lateStores }, { on := 8, ground := Ground.phase }], guard := none }) rfl (fun K hK => ?_) AllReadyH.nil
      have HSt := Lib.hid (dv_one X fa fm fc)
      refine step_store rfl 34 (.tmp 7) (.tmp 34) rfl R8 (De.dvC X (.slice fa fm fc)).toArray rfl rfl 34 #[.int .i64 0, .int .i64 0, .string ⟨#[]⟩, .string ⟨#[]⟩, .string ⟨#[]⟩, .string ⟨#[]⟩, .string ⟨#[]⟩, .int .i64 0, .int .i64 0, .slice none 0 0] HRr.out (HI34.out _ _) rfl HSt.out ?_
      have HRe := Lib.hid (setRow_heap _ _ _ (De.dvC X (.slice fa fm fc)).toArray _ _ HRr.out)
      have hkr : Kp [R8] V2 (V2.setRow R8 (De.dvC X (.slice fa fm fc)).toArray) := (Kp.refl [R8] _).setRow (.inl (by simp)) _
      have HTe := Lib.hid (show Tq (V2.setRow R8 (De.dvC X (.slice fa fm fc)).toArray) tb (k5 + 2) from by obtain ⟨kz, hkz, hz⟩ := HTq3.out; exact ⟨kz, hkz, hz.kp hkr (by intro q hq; simp at hq; subst hq; have := HRge.out; have := HT5.out.lt; omega)⟩)
      have hkR : Kp [tb] w5 (V2.setRow R8 (De.dvC X (.slice fa fm fc)).toArray) := hHeld.up hkr (by intro z hz; simp at hz; subst hz; exact .inr HRge.out)
      generalize V2.setRow R8 (De.dvC X (.slice fa fm fc)).toArray = we at *
      clear hHeld
      refine hK.out _ _ hkR (fun hHeld => ?_)
      try simp only [Act.put]
      clear hK
      clear hkR hkr
      refine wpAnyH_take (i := 10) (oi := { dst := some 8, op := Op.assign (Operand.tmp 35), type := 4, pos := "law.go:180", after := #[{ on := 7, ground := Ground.data }, { on := 9, ground := Ground.chain }, { on := 0, ground := Ground.phase }, { on := 1, ground := Ground.phase }, { on := 2, ground := Ground.phase }, { on := 3, ground := Ground.phase }, { on := 4, ground := Ground.phase }, { on := 5, ground := Ground.phase }, { on := 6, ground := Ground.phase }, { on := 7, ground := Ground.phase }, { on := 8, ground := Ground.phase }, { on := 9, ground := Ground.phase }], guard := none }) (v := .bool bh) rfl (by kernel_rfl) (by kernel_rfl) (by kernel_rfl) (fun _ _ _ h => h) (Or.inl ⟨by rfl, fun w hSw => by (try dsimp only at hSw); go_simp⟩) hHeld ?_
      try simp only [Act.put, List.setIfInBounds_toArray, List.set_cons_zero, List.set_cons_succ]
      have HSe := Lib.hid hHeld
      refine wpAnyH_done (by kernel_rfl) ?_ _
      clear hHeld
      go_wp2
      go_meet
      exact ⟨R8, X, fa, fm, fc, rfl, HRe, HRge, HSX, HXi, HTe, HSe⟩
    ·skip
     go_simp
     have hkn := (Kp.refl [] wd).alloc (.cells #[.int .i64 0, .int .i64 0, .string ⟨#[]⟩, .string ⟨#[]⟩, .string ⟨#[]⟩, .string ⟨#[]⟩, .string ⟨#[]⟩, .int .i64 0, .int .i64 0, .slice none 0 0] 34)
     have hr8 := heap_alloc_last wd (.cells #[.int .i64 0, .int .i64 0, .string ⟨#[]⟩, .string ⟨#[]⟩, .string ⟨#[]⟩, .string ⟨#[]⟩, .string ⟨#[]⟩, .int .i64 0, .int .i64 0, .slice none 0 0] 34)
     obtain ⟨R8, hR8⟩ : ∃ R, wd.heap.size = R := ⟨_, rfl⟩
     generalize wd.alloc (.cells #[.int .i64 0, .int .i64 0, .string ⟨#[]⟩, .string ⟨#[]⟩, .string ⟨#[]⟩, .string ⟨#[]⟩, .string ⟨#[]⟩, .int .i64 0, .int .i64 0, .slice none 0 0] 34) = w8 at *
     rw [hR8] at hr8 ⊢
     have HRr := Lib.hid hr8
     have HRge := Lib.hid (show w5.heap.size ≤ R8 from by rw [← hR8]; exact hHeld.size)
     have HKd8 := Lib.hid (show Kp [] w5 w8 from HKd.out.trans hkn)
     have hS := hHeld.trans (hkn.mono (by simp))
     clear hkn hr8 hR8
     clear hHeld
     refine hK.out _ _ hS (fun hHeld => ?_)
     try simp only [Act.put, List.setIfInBounds_toArray, List.set_cons_zero, List.set_cons_succ]
     clear hK
     clear hS
     refine wpAnyH_ready (rs := [3]) (by kernel_rfl) (by simp) ?_
     refine AllReadyH.cons (o := { dst := some 32, op := Op.call { callee := Callee.value (Operand.func 18), args := #[Operand.tmp 30, Operand.tmp 31], argTypes := #[25, 29] }, type := 3, pos := "law.go:180", after := #[{ on := 1, ground := Ground.data }, { on := 2, ground := Ground.data }], guard := none }) rfl (fun K hK => ?_) AllReadyH.nil
     have HSm := Lib.hid (some_any (k := k5) (by omega) (HT5.out.kp HKd8.out (by simp)) (HTk.out _ (HKd8.out.mono (by simp))) (by omega))
     go_simp
     go_at_call 18
     refine Calls.mono (by with_reducible exact HSm.out) ?_
     rintro e V ⟨z, rfl, hz, hTq, hkp⟩
     dsimp only
     have HZ := Lib.hid hz
     have HTq := Lib.hid hTq
     have HKV := Lib.hid ((HKd8.out.mono (by simp)).trans hkp)
     have hrv := (hkp.block R8 (block_lt HRr.out) (by have := HRge.out; have := HT5.out.lt; simp; omega)).trans HRr.out
     clear HRr
     have HRr := Lib.hid hrv
     have hS := hHeld.trans hkp
     clear hz hTq hkp hrv
     clear hHeld
     refine hK.out _ _ hS (fun hHeld => ?_)
     try simp only [Act.put, List.setIfInBounds_toArray, List.set_cons_zero, List.set_cons_succ]
     clear hK
     clear hS
     refine wpAnyH_ready (rs := [4]) (by kernel_rfl) (by simp) ?_
     refine AllReadyH.cons (o := { dst := some 33, op := Op.call { callee := Callee.value (Operand.func 21), args := #[Operand.tmp 29, Operand.tmp 32], argTypes := #[29, 3] }, type := 42, pos := "law.go:180", after := #[{ on := 0, ground := Ground.data }, { on := 3, ground := Ground.data }, { on := 3, ground := Ground.chain }], guard := none }) rfl (fun K hK => ?_) AllReadyH.nil
     have HFd := Lib.hid (st21 (HTk.out _ HKV.out) (by omega) (HTk.out _ HKV.out).any.has z HZ.out)
     go_simp
     go_at_call 21
     refine Calls.mono (by with_reducible exact HFd.out) ?_
     rintro e V2 ⟨X, fa, fm, fc, bh, rfl, HSX, HXi, HKv⟩
     dsimp only
     have HKV2 := Lib.hid (HKV.out.trans (HKv.out.mono (by simp)))
     have HTq3 := Lib.hid (show Tq V2 tb (k5 + 2) from by obtain ⟨kz, hkz, hz⟩ := HTq.out; exact ⟨kz, hkz, hz.kp HKv.out (by simp)⟩)
     have hrv := (HKv.out.block R8 (block_lt HRr.out) (by simp)).trans HRr.out
     clear HRr
     have HRr := Lib.hid hrv
     have hS := hHeld.trans (HKv.out.mono (by simp))
     clear hrv
     clear hHeld
     refine hK.out _ _ hS (fun hHeld => ?_)
     try simp only [Act.put, List.setIfInBounds_toArray, List.set_cons_zero, List.set_cons_succ]
     clear hK
     clear hS
     refine wpAnyH_take (i := 5) (oi := { dst := some 28, op := Op.move (Operand.tmp 33), type := 42, pos := "law.go:180", after := #[{ on := 4, ground := Ground.data }], guard := none }) (v := .tuple #[.agg (De.dvC X (.slice fa fm fc)).toArray, .bool bh]) rfl (by kernel_rfl) (by kernel_rfl) (by kernel_rfl) (fun _ _ _ h => h) (Or.inl ⟨by rfl, fun w hSw => by (try dsimp only at hSw); go_simp⟩) hHeld ?_
     try simp only [Act.put, List.setIfInBounds_toArray, List.set_cons_zero, List.set_cons_succ]
     refine wpAnyH_take (i := 6) (oi := { dst := some 34, op := Op.extract (Operand.tmp 28) 0, type := 34, pos := "law.go:180", after := #[{ on := 5, ground := Ground.data }], guard := none }) (v := .agg (De.dvC X (.slice fa fm fc)).toArray) rfl (by kernel_rfl) (by kernel_rfl) (by kernel_rfl) (fun _ _ _ h => h) (Or.inl ⟨by rfl, fun w hSw => by (try dsimp only at hSw); go_simp⟩) hHeld ?_
     try simp only [Act.put, List.setIfInBounds_toArray, List.set_cons_zero, List.set_cons_succ]
     refine wpAnyH_take (i := 7) (oi := { dst := some 35, op := Op.extract (Operand.tmp 28) 1, type := 4, pos := "law.go:180", after := #[{ on := 5, ground := Ground.data }, { on := 9, ground := Ground.gcOnly Departure.lateStores }], guard := none }) (v := .bool bh) rfl (by kernel_rfl) (by kernel_rfl) (by kernel_rfl) (fun _ _ _ h => h) (Or.inl ⟨by rfl, fun w hSw => by (try dsimp only at hSw); go_simp⟩) hHeld ?_
     try simp only [Act.put, List.setIfInBounds_toArray, List.set_cons_zero, List.set_cons_succ]
     refine wpAnyH_ready (rs := [9]) (by kernel_rfl) (by simp) ?_
     refine AllReadyH.cons (o := { dst := none, op := Op.store 34 (Operand.tmp 7) (Operand.tmp 34), type := 0, pos := "law.go:180", after := #[{ on := 8, ground := Ground.data }, { on := 6, ground := Ground.data }, { on := 4, ground := Ground.chain }, { on := 0, ground := Ground.phase }, { on := 1, ground := Ground.phase }, { on := 2, ground := Ground.phase }, { on := 3, ground := Ground.phase }, { on := 4, ground := Ground.phase }, { on := 5, ground := Ground.phase }, { on := 6, ground := Ground.phase }, { on := 7, ground := Ground.textOnly Departure.lateStores }, { on := 8, ground := Ground.phase }], guard := none }) rfl (fun K hK => ?_) AllReadyH.nil
     have HSt := Lib.hid (dv_one X fa fm fc)
     refine step_store rfl 34 (.tmp 7) (.tmp 34) rfl R8 (De.dvC X (.slice fa fm fc)).toArray rfl rfl 34 #[.int .i64 0, .int .i64 0, .string ⟨#[]⟩, .string ⟨#[]⟩, .string ⟨#[]⟩, .string ⟨#[]⟩, .string ⟨#[]⟩, .int .i64 0, .int .i64 0, .slice none 0 0] HRr.out (HI34.out _ _) rfl HSt.out ?_
     have HRe := Lib.hid (setRow_heap _ _ _ (De.dvC X (.slice fa fm fc)).toArray _ _ HRr.out)
     have hkr : Kp [R8] V2 (V2.setRow R8 (De.dvC X (.slice fa fm fc)).toArray) := (Kp.refl [R8] _).setRow (.inl (by simp)) _
     have HTe := Lib.hid (show Tq (V2.setRow R8 (De.dvC X (.slice fa fm fc)).toArray) tb (k5 + 2) from by obtain ⟨kz, hkz, hz⟩ := HTq3.out; exact ⟨kz, hkz, hz.kp hkr (by intro q hq; simp at hq; subst hq; have := HRge.out; have := HT5.out.lt; omega)⟩)
     have hkR : Kp [tb] w5 (V2.setRow R8 (De.dvC X (.slice fa fm fc)).toArray) := hHeld.up hkr (by intro z hz; simp at hz; subst hz; exact .inr HRge.out)
     generalize V2.setRow R8 (De.dvC X (.slice fa fm fc)).toArray = we at *
     clear hHeld
     refine hK.out _ _ hkR (fun hHeld => ?_)
     try simp only [Act.put]
     clear hK
     clear hkR hkr
     refine wpAnyH_take (i := 10) (oi := { dst := some 8, op := Op.assign (Operand.tmp 35), type := 4, pos := "law.go:180", after := #[{ on := 7, ground := Ground.data }, { on := 9, ground := Ground.chain }, { on := 0, ground := Ground.phase }, { on := 1, ground := Ground.phase }, { on := 2, ground := Ground.phase }, { on := 3, ground := Ground.phase }, { on := 4, ground := Ground.phase }, { on := 5, ground := Ground.phase }, { on := 6, ground := Ground.phase }, { on := 7, ground := Ground.phase }, { on := 8, ground := Ground.phase }, { on := 9, ground := Ground.phase }], guard := none }) (v := .bool bh) rfl (by kernel_rfl) (by kernel_rfl) (by kernel_rfl) (fun _ _ _ h => h) (Or.inl ⟨by rfl, fun w hSw => by (try dsimp only at hSw); go_simp⟩) hHeld ?_
     try simp only [Act.put, List.setIfInBounds_toArray, List.set_cons_zero, List.set_cons_succ]
     have HSe := Lib.hid hHeld
     refine wpAnyH_done (by kernel_rfl) ?_ _
     clear hHeld
     go_wp2
     go_meet
     exact ⟨R8, X, fa, fm, fc, rfl, HRe, HRge, HSX, HXi, HTe, HSe⟩
   obtain ⟨R8, X, fa, fm, fc, rfl, HRx, HRge, HSX, HXi, HTx, HKx⟩ := hcut
   obtain ⟨w6, hw6⟩ : ∃ W, W = wc := ⟨_, rfl⟩
   subst hw6
   obtain ⟨k6, hk6, hT6⟩ := HTx.out
   have HT6 := Lib.hid hT6
   obtain ⟨⟨xi, xp, xn, xo, xu, xd, xl, xk, xm, xa⟩, hX⟩ : ∃ Z, Z = X := ⟨_, rfl⟩
   subst hX
   have HB6 := Lib.hid (show De.BoxAt w6 R8 #[.int .i64 xi, .int .i64 xp, .string xn, .string xo, .string xu, .string xd, .string xl, .int .i64 xk, .int .i64 xm, .slice fa fm fc] from HRx.out)
   have HRn := Lib.hid (show tb < R8 from by have := HRge.out; have := HT5.out.lt; omega)
   clear hT6 HRx HTx
   have HAt := Lib.hid (De.attrs2_any tb k6 w6 (by omega) HT6.out)
   go_upto_region 10 with (go_at_call 47; refine Calls.mono (by with_reducible exact HAt.out) ?_; rintro e w7 ⟨u, l, k7, rfl, hown, hgd, hln, hk7, hT, hg, hsm⟩; obtain ⟨ad, ac, hu, -⟩ := hown.has.form; subst hu; have HOw := Lib.hid hown; have HT7 := Lib.hid (show Tp w7 tb k7 from hT); have HK67 := Lib.hid (show Kp [tb] w6 w7 from Kp.of_grown hg); have HSm := Lib.hid hsm; have HLl := Lib.hid hln; have HB7 := Lib.hid (show De.BoxAt w7 R8 #[.int .i64 xi, .int .i64 xp, .string xn, .string xo, .string xu, .string xd, .string xl, .int .i64 xk, .int .i64 xm, .slice fa fm fc] from (HK67.out.block R8 (block_lt HB6.out) (by have := HRn.out; simp; omega)).trans HB6.out); have dc := HB7.out.cell; have df := HB7.out.frozen; have HB7b := Lib.hid (HB7.out.set 5 (.string ⟨#[111, 116, 104, 101, 114]⟩)); have dc2 := HB7b.out.cell; have df2 := HB7b.out.frozen; clear hown hT hg hsm hgd hln)
   have HB8 := Lib.hid (show De.BoxAt ((w7.setCell ⟨R8, 5, none⟩ (.string ⟨#[111, 116, 104, 101, 114]⟩)).setCell ⟨R8, 9, none⟩ (.slice ad l.length ac)) R8 #[.int .i64 xi, .int .i64 xp, .string xn, .string xo, .string xu, .string ⟨#[111, 116, 104, 101, 114]⟩, .string xl, .int .i64 xk, .int .i64 xm, .slice ad l.length ac] from HB7b.out.set 9 _)
   have hk78 : Kp [R8] w7 ((w7.setCell ⟨R8, 5, none⟩ (.string ⟨#[111, 116, 104, 101, 114]⟩)).setCell ⟨R8, 9, none⟩ (.slice ad l.length ac)) := ((Kp.refl [R8] w7).setCell (.inl (by simp)) _).setCell (.inl (by simp)) _
   generalize (w7.setCell ⟨R8, 5, none⟩ (.string ⟨#[111, 116, 104, 101, 114]⟩)).setCell ⟨R8, 9, none⟩ (.slice ad l.length ac) = w8 at *
   obtain ⟨an, han⟩ : ∃ n, l.length = n := ⟨_, rfl⟩
   have Han := Lib.hid han
   rw [han] at HB8 HOw ⊢
   have HT8 := Lib.hid (HT7.out.kp hk78 (by have := HRn.out; simp; omega))
   have HK8 := Lib.hid (show Kp [tb] w5 w8 from (HKx.out.trans HK67.out).up hk78 (by intro z hz; simp at hz; subst hz; exact .inr HRge.out))
   have HUb := Lib.hid (show ∀ b, (Value.slice ad an ac).ownBlock = some b → w6.heap.size ≤ b from fun b hb => (own_rng HOw.out b hb).1)
   have HRlt := Lib.hid (block_lt HB6.out)
   have HH8 := Lib.hid (show De.Has w8 (.slice ad an ac) l from HOw.out.has.other hk78.size (g := R8) (fun _ e => by have := HUb.out R8 e; have := HRlt.out; omega) fun b hb hne => hk78.block b hb (by simpa using hne))
   clear hk78 dc df dc2 df2 han
   have dc := HB8.out.cell
   go_upto_if 42 with fail
   go_cut [] (fun wx => ∃ nm : ByteArray, Hid (nm.size ≤ 300) ∧ Hid (De.BoxAt wx R8 #[.int .i64 xi, .int .i64 xp, .string nm, .string xo, .string xu, .string ⟨#[111, 116, 104, 101, 114]⟩, .string xl, .int .i64 xk, .int .i64 xm, .slice ad an ac]) ∧ Hid (De.Has wx (.slice ad an ac) l) ∧ Hid (Kp [tb] w5 wx))
   case first =>
    by_cases hk4 : xk = 4
    ·subst hk4
     go_wp2_with (go_at_call 20; refine Calls.mono (oneW [[101, 116, 104, 48], [101, 116, 104, 49], [108, 97, 110, 48], [116, 97, 112]] 4 rfl (by decide) (by decide) (by decide) (by omega) HT8.out _ rfl rfl) ?_; rintro e w9 ⟨y, hy, rfl, hT, hk⟩; have HK9 := Lib.hid hk; have Hy := Lib.hid hy; have HB9 := Lib.hid (show De.BoxAt w9 R8 #[.int .i64 xi, .int .i64 xp, .string xn, .string xo, .string xu, .string ⟨#[111, 116, 104, 101, 114]⟩, .string xl, .int .i64 4, .int .i64 xm, .slice ad an ac] from (HK9.out.block R8 (block_lt HB8.out) (by have := HRn.out; simp; omega)).trans HB8.out); have dc9 := HB9.out.cell; have df9 := HB9.out.frozen; clear hT hk hy)
     have HBx := Lib.hid (show De.BoxAt (w9.setCell ⟨R8, 2, none⟩ (.string (bs y))) R8 #[.int .i64 xi, .int .i64 xp, .string (bs y), .string xo, .string xu, .string ⟨#[111, 116, 104, 101, 114]⟩, .string xl, .int .i64 4, .int .i64 xm, .slice ad an ac] from HB9.out.set 2 _)
     have hkR : Kp [R8] w9 (w9.setCell ⟨R8, 2, none⟩ (.string (bs y))) := (Kp.refl _ _).setCell (p := ⟨R8, 2, none⟩) (.inl (by simp)) _
     generalize w9.setCell ⟨R8, 2, none⟩ (.string (bs y)) = wX at *
     have HHx := Lib.hid (show De.Has wX (.slice ad an ac) l from (HH8.out.other (g := tb) HK9.out.size (fun _ e => by have := HUb.out tb e; have := HRlt.out; have := HRn.out; omega) fun b hb hne => HK9.out.block b hb (by simpa using hne)).other (g := R8) hkR.size (fun _ e => by have := HUb.out R8 e; have := HRlt.out; omega) fun b hb hne => hkR.block b hb (by simpa using hne))
     have HKx := Lib.hid ((HK8.out.trans HK9.out).up hkR (by intro z hz; simp at hz; subst hz; exact .inr HRge.out))
     clear dc9 df9 hkR
     go_meet
     exact ⟨bs y, Lib.hid (show y.length ≤ 300 from Hy.out), HBx, HHx, HKx⟩
    ·have hkz : (xk == 4) = false := by simpa using hk4
     go_wp2
     go_meet
     exact ⟨xn, Lib.hid HSX.out.1.n, HB8, HH8, HK8⟩
   obtain ⟨nm, HNm, HBx, HHx, HKV2⟩ := hcut
   obtain ⟨w9, hw9⟩ : ∃ W, W = wc := ⟨_, rfl⟩
   subst hw9
   clear dc
   have HI45 := Lib.hid (show Calls Tryz.prog 45 #[.agg #[.slice va N vc], .agg #[.int .i64 xi, .int .i64 xp, .string nm, .string xo, .string xu, .string ⟨#[111, 116, 104, 101, 114]⟩, .string xl, .int .i64 xk, .int .i64 xm, .slice ad an ac]] w9 (StPost (L.map (·.1)) w9) from st45 (HTk.out _ HKV2.out) (by omega) (HTk.out _ HKV2.out).any.has ⟨xi, xp, nm, xo, xu, ⟨#[111, 116, 104, 101, 114]⟩, xl, xk, xm, .slice ad an ac⟩ l HHx.out ⟨HNm.out, HSX.out.1.o, HSX.out.1.s, (by decide : (5 : Nat) ≤ 300), HSX.out.1.i, HSm.out⟩ (by have := HLl.out; omega) (HMk.out _ HKV2.out) HXi.out)
   have t0 := HQk.out _ (HKV2.out.mono (by simp))
   go_wp2_with (first
    | (refine wpList_load_row rfl 34 _ rfl R8 rfl 34 #[.int .i64 xi, .int .i64 xp, .string nm, .string xo, .string xu, .string ⟨#[111, 116, 104, 101, 114]⟩, .string xl, .int .i64 xk, .int .i64 xm, .slice ad an ac] (0, 0) _ HBx.out Tryz.underlying34 rfl De.info34b ?_)
    | (go_at_call 45; refine Calls.mono (by with_reducible exact HI45.out) ?_; rintro e V2 ⟨na, nm2, nc, E, LY, rfl, HLn2, HD2, HSt2, HKv⟩; have HYV := Lib.hid (HYk.out _ (HKV2.out.trans (HKv.out.mono (by simp)))))
    | (refine wpList_store_row rfl 29 _ _ rfl Y #[.slice na nm2 nc] rfl rfl 29 #[.slice none 0 0] HYV.out info30b rfl (sl_one _ _ _) ?_))
   have HRe := Lib.hid (setRow_heap _ _ _ #[.slice na nm2 nc] _ _ HYV.out)
   have hkR : Kp [Y] V2 (V2.setRow Y #[.slice na nm2 nc]) := (Kp.refl [Y] _).setRow (.inl (by simp)) _
   have HKV3 := Lib.hid (HKV2.out.trans (HKv.out.mono (by simp)))
   have HXe := Lib.hid (((HTk.out _ HKV3.out).kpR hkR HYV.out).any.has)
   have HMe := Lib.hid (MaxT (HMk.out _ HKV3.out) H0Y.out hkR)
   generalize V2.setRow Y #[.slice na nm2 nc] = we at *
   have HDe := Lib.hid (dhasR HD2.out hkR HYV.out)
   have HSe := Lib.hid (show Kp [tb, Y] w5 we from (HKV3.out.mono (by simp)).trans (hkR.mono (by simp)))
   clear hkR t0
   go_meet
   exact ⟨E, na, nm2, nc, LY, rfl, HLn2, HRe, HDe, HSt2, HXe, HMe, HSe⟩
 obtain ⟨E, ya, yn, yc, LY, rfl, HLy, HYc, HDy, HSt, HXc, HMc, HKc⟩ := hcut
 obtain ⟨w6, hw6⟩ : ∃ W, W = wc := ⟨_, rfl⟩
 subst hw6
 have HFin := Lib.hid (fun (w' : World) (hk : Kp [tb, Y] w5 w') => (show Below w.heap.size w w' from ((HKL5.out.mono (by simp)).trans hk).below (Nat.le_refl _) (by intro x hx; simp at hx; have := Htb.out; have := HYt.out.1; omega)))
 clear HTk HMk HDV HYk HTr5 HM5 HY5 HKL5 HT5
 by_cases hE : E = 0
 rotate_left
 ·have hEn : (E != 0) = true := by rw [bne, beq_eq_false_iff_ne.2 hE]; rfl
  have hyn : yn = 0 := by rw [← HLy.out, HSt.out.1 hE]; rfl
  subst hyn
  have t1 := cell_one HYc.out
  go_wp2
  go_ret
  exact ⟨rfl, HFin.out _ HKc.out⟩
 subst hE
 have HOk := Lib.hid (show StOk (L.map (·.1)) (LY.map (·.1)) from HSt.out.2.1 rfl)
 have HCo := Lib.hid (sma_cok HOk.out.v HSt.out.2.2)
 have HCk := Lib.hid (show Calls Tryz.prog 16 #[.agg #[.slice ya yn yc]] w6 fun e w' => e = .returned (.int .i64 0) ∧ Kp [] w6 w' from by
  have h := De.checkTree_any (.slice ya yn yc) LY w6 HCo.out HDy.out HMc.out
  rw [treeT_valid HOk.out.v] at h
  exact h)
 have t1 := cell_one HYc.out
 go_upto_region 21 with (go_at_call 16; refine Calls.mono (by with_reducible exact HCk.out) ?_; rintro e w7 ⟨rfl, hk7⟩; have HK7 := Lib.hid hk7; clear hk7)
 clear t1
 have HX7 := Lib.hid (HXc.out.below HK7.out.bel)
 have HD7 := Lib.hid (HDy.out.below HK7.out.bel)
 have HY7 := Lib.hid ((HK7.out.block Y (block_lt HYc.out) (by simp)).trans HYc.out)
 have HQ7 := Lib.hid (HQk.out _ (HKc.out.trans (HK7.out.mono (by simp))))
 have HK57 := Lib.hid (HKc.out.trans (HK7.out.mono (by simp)))
 have HOx := Lib.hid (fun W (hk : Kp [] w7 W) n hn => De.origin_any (.slice va N vc) L n W HTok.out (HX7.out.below hk.bel) (cap_of HX7.out) hn)
 have HOy := Lib.hid (fun W (hk : Kp [] w7 W) n hn => De.origin_any (.slice ya yn yc) LY n W HCo.out.t (HD7.out.below hk.bel) (cap_of HD7.out) hn)
 have HVal := Lib.hid HTrV.out
 clear HXc HDy HCk HMc
 go_wp2
 go_loopw [9] (fun s9 wx => ∃ i : Nat, i ≤ N ∧ s9 = .int .i64 (i : Int) ∧ Hid (Kp [] w7 wx)) (fun s9 _ => N - (intOf s9).toNat)
 case atStart => exact ⟨0, by omega, rfl, Lib.hid (Kp.refl _ _)⟩
 case round =>
  obtain ⟨i, hi, rfl, HKr⟩ := hrel
  have HQk2 := Lib.hid (fun (W : World) (hk : Kp [] w7 W) => cell_kp hk HQ7.out)
  have HYk2 := Lib.hid (fun (W : World) (hk : Kp [] w7 W) => cell_kp hk (cell_one HY7.out))
  have t0 := HQk2.out _ HKr.out
  by_cases hlt : i < N
  ·have hiz : (i : Int) < (N : Int) := by omega
   have hwr : IntKind.i64.wrap ((i : Int) + 1) = ((i + 1 : Nat) : Int) := by rw [IntKind.wrap_i64]; have := HTok.out.n; rw [HN.out] at this; omega
   obtain ⟨x, hx⟩ : ∃ x, L[i]? = some x := ⟨L[i]'(by rw [HN.out]; exact hlt), List.getElem?_eq_getElem _⟩
   have HX := Lib.hid hx
   obtain ⟨g, o, rfl, hcp, hg, hrow⟩ := row_of HX7.out hx
   have hxw := HTok.out.wi x (List.mem_of_getElem? hx)
   have HIx := Lib.hid (show ∀ W, Kp [] w7 W → W.cell? ⟨g, o + i * 10, none⟩ = some (.int .i64 x.1.idx) from fun W hk => (hrow.below hg hk.bel).at_ i x hx 0 _ rfl)
   have HOx2 := Lib.hid (fun W (hk : Kp [] w7 W) => HOx.out W hk x.1.idx hxw)
   have HOy2 := Lib.hid (fun W (hk : Kp [] w7 W) => HOy.out W hk x.1.idx hxw)
   have hxm : x.1 ∈ L.map (·.1) := List.mem_map.2 ⟨x, List.mem_of_getElem? hx, rfl⟩
   have HT1 := Lib.hid (trlO_at HVal.out (List.mem_of_getElem? hx))
   have HT2 := Lib.hid (fun t (ht : De.trlO De.ADev.orig LY x.1.idx = some t) => st_trl HOk.out hxm ht)
   clear hx hcp hg hrow hxw hxm
   obtain ⟨o2, ho2⟩ : ∃ z, De.trlO De.ADev.orig LY x.1.idx = z := ⟨_, rfl⟩
   simp only [ho2] at HOy2 HT2
   simp only [HT1.out] at HOx2
   clear ho2
   go_upto_region 24 with fail
   clear t0
   refine wp_region_held_drew (S := fun W => Kp [] wr W) (by kernel_rfl) ((Kp.refl [] wr).drew 1) (fun hHeld => ?_)
   generalize hwd : wr.drew = wd at *
   clear hwd
   refine wpAnyH_take (i := 0) (oi := { dst := some 90, op := Op.load 29 (Operand.tmp 4), type := 29, pos := "law.go:194", after := #[], guard := none }) (v := .agg #[.slice (some ⟨g, o, none⟩) N vc]) rfl (by kernel_rfl) (by kernel_rfl) (by kernel_rfl) (fun _ _ _ h => h) (Or.inl ⟨by rfl, fun w hSw => by (try dsimp only at hSw); have t0 := HQk2.out _ (HKr.out.trans hSw); go_simp⟩) hHeld ?_
   try simp only [Act.put, List.setIfInBounds_toArray, List.set_cons_zero, List.set_cons_succ]
   refine wpAnyH_take (i := 1) (oi := { dst := some 91, op := Op.fieldAddr 29 (Operand.tmp 4) 0, type := 0, pos := "law.go:194", after := #[], guard := none }) (v := .pointer (some ⟨Q, 0, none⟩)) rfl (by kernel_rfl) (by kernel_rfl) (by kernel_rfl) (fun _ _ _ h => h) (Or.inl ⟨by rfl, fun w hSw => by (try dsimp only at hSw); go_simp⟩) hHeld ?_
   try simp only [Act.put, List.setIfInBounds_toArray, List.set_cons_zero, List.set_cons_succ]
   refine wpAnyH_take (i := 2) (oi := { dst := some 92, op := Op.load 22 (Operand.tmp 91), type := 22, pos := "law.go:194", after := #[{ on := 1, ground := Ground.data }], guard := none }) (v := .slice (some ⟨g, o, none⟩) N vc) rfl (by kernel_rfl) (by kernel_rfl) (by kernel_rfl) (fun _ _ _ h => h) (Or.inl ⟨by rfl, fun w hSw => by (try dsimp only at hSw); have t0 := HQk2.out _ (HKr.out.trans hSw); go_simp⟩) hHeld ?_
   try simp only [Act.put, List.setIfInBounds_toArray, List.set_cons_zero, List.set_cons_succ]
   refine wpAnyH_take (i := 3) (oi := { dst := some 93, op := Op.move (Operand.tmp 9), type := 3, pos := "law.go:194", after := #[], guard := none }) (v := .int .i64 (i : Int)) rfl (by kernel_rfl) (by kernel_rfl) (by kernel_rfl) (fun _ _ _ h => h) (Or.inl ⟨by rfl, fun w hSw => by (try dsimp only at hSw); go_simp⟩) hHeld ?_
   try simp only [Act.put, List.setIfInBounds_toArray, List.set_cons_zero, List.set_cons_succ]
   refine wpAnyH_take (i := 4) (oi := { dst := some 94, op := Op.indexAddr 22 (Operand.tmp 92) (Operand.tmp 93), type := 0, pos := "law.go:194", after := #[{ on := 2, ground := Ground.data }, { on := 3, ground := Ground.data }], guard := none }) (v := .pointer (some ⟨g, o + i * 10, none⟩)) rfl (by kernel_rfl) (by kernel_rfl) (by kernel_rfl) (fun _ _ _ h => h) (Or.inl ⟨by rfl, fun w hSw => by (try dsimp only at hSw); go_simp⟩) hHeld ?_
   try simp only [Act.put, List.setIfInBounds_toArray, List.set_cons_zero, List.set_cons_succ]
   refine wpAnyH_take (i := 5) (oi := { dst := some 95, op := Op.fieldAddr 34 (Operand.tmp 94) 0, type := 0, pos := "law.go:194", after := #[{ on := 4, ground := Ground.data }], guard := none }) (v := .pointer (some ⟨g, o + i * 10, none⟩)) rfl (by kernel_rfl) (by kernel_rfl) (by kernel_rfl) (fun _ _ _ h => h) (Or.inl ⟨by rfl, fun w hSw => by (try dsimp only at hSw); go_simp⟩) hHeld ?_
   try simp only [Act.put, List.setIfInBounds_toArray, List.set_cons_zero, List.set_cons_succ]
   refine wpAnyH_take (i := 6) (oi := { dst := some 96, op := Op.load 3 (Operand.tmp 95), type := 3, pos := "law.go:194", after := #[{ on := 5, ground := Ground.data }], guard := none }) (v := .int .i64 x.1.idx) rfl (by kernel_rfl) (by kernel_rfl) (by kernel_rfl) (fun _ _ _ h => h) (Or.inl ⟨by rfl, fun w hSw => by (try dsimp only at hSw); have t1 := HIx.out _ (HKr.out.trans hSw); go_simp⟩) hHeld ?_
   try simp only [Act.put, List.setIfInBounds_toArray, List.set_cons_zero, List.set_cons_succ]
   refine wpAnyH_ready (rs := [7]) (by kernel_rfl) (by simp) ?_
   refine AllReadyH.cons (o := { dst := some 97, op := Op.call { callee := Callee.value (Operand.func 30), args := #[Operand.tmp 90, Operand.tmp 96], argTypes := #[29, 3] }, type := 47, pos := "law.go:194", after := #[{ on := 0, ground := Ground.data }, { on := 6, ground := Ground.data }], guard := none }) rfl (fun K hK => ?_) AllReadyH.nil
   go_simp
   go_at_call 30
   refine Calls.mono (by with_reducible exact HOx2.out _ (HKr.out.trans hHeld)) ?_
   rintro e V ⟨u1, rfl, hu, hbv⟩
   dsimp only
   have HU1 := Lib.hid hu
   have hS := hHeld.trans hbv
   clear hu hbv
   clear hHeld
   refine hK.out _ _ hS (fun hHeld => ?_)
   try simp only [Act.put, List.setIfInBounds_toArray, List.set_cons_zero, List.set_cons_succ]
   clear hK
   clear hS
   refine wpAnyH_take (i := 8) (oi := { dst := some 89, op := Op.move (Operand.tmp 97), type := 47, pos := "law.go:194", after := #[{ on := 7, ground := Ground.data }], guard := none }) (v := .tuple #[.string u1, .bool (some (De.pth (De.org (L.map (·.1)) x.1))).isSome]) rfl (by kernel_rfl) (by kernel_rfl) (by kernel_rfl) (fun _ _ _ h => h) (Or.inl ⟨by rfl, fun w hSw => by (try dsimp only at hSw); go_simp⟩) hHeld ?_
   try simp only [Act.put, List.setIfInBounds_toArray, List.set_cons_zero, List.set_cons_succ]
   refine wpAnyH_take (i := 9) (oi := { dst := some 98, op := Op.extract (Operand.tmp 89) 0, type := 9, pos := "law.go:194", after := #[{ on := 8, ground := Ground.data }], guard := none }) (v := .string u1) rfl (by kernel_rfl) (by kernel_rfl) (by kernel_rfl) (fun _ _ _ h => h) (Or.inl ⟨by rfl, fun w hSw => by (try dsimp only at hSw); go_simp⟩) hHeld ?_
   try simp only [Act.put, List.setIfInBounds_toArray, List.set_cons_zero, List.set_cons_succ]
   refine wpAnyH_take (i := 10) (oi := { dst := some 99, op := Op.extract (Operand.tmp 89) 1, type := 4, pos := "law.go:194", after := #[{ on := 8, ground := Ground.data }, { on := 11, ground := Ground.gcOnly Departure.lateStores }], guard := none }) (v := .bool (some (De.pth (De.org (L.map (·.1)) x.1))).isSome) rfl (by kernel_rfl) (by kernel_rfl) (by kernel_rfl) (fun _ _ _ h => h) (Or.inl ⟨by rfl, fun w hSw => by (try dsimp only at hSw); go_simp⟩) hHeld ?_
   try simp only [Act.put, List.setIfInBounds_toArray, List.set_cons_zero, List.set_cons_succ]
   refine wpAnyH_take (i := 11) (oi := { dst := some 10, op := Op.assign (Operand.tmp 98), type := 9, pos := "law.go:194", after := #[{ on := 9, ground := Ground.data }, { on := 7, ground := Ground.chain }, { on := 0, ground := Ground.phase }, { on := 1, ground := Ground.phase }, { on := 2, ground := Ground.phase }, { on := 3, ground := Ground.phase }, { on := 4, ground := Ground.phase }, { on := 5, ground := Ground.phase }, { on := 6, ground := Ground.phase }, { on := 7, ground := Ground.phase }, { on := 8, ground := Ground.phase }, { on := 9, ground := Ground.phase }, { on := 10, ground := Ground.textOnly Departure.lateStores }], guard := none }) (v := .string u1) rfl (by kernel_rfl) (by kernel_rfl) (by kernel_rfl) (fun _ _ _ h => h) (Or.inl ⟨by rfl, fun w hSw => by (try dsimp only at hSw); go_simp⟩) hHeld ?_
   try simp only [Act.put, List.setIfInBounds_toArray, List.set_cons_zero, List.set_cons_succ]
   refine wpAnyH_take (i := 12) (oi := { dst := some 11, op := Op.assign (Operand.tmp 99), type := 4, pos := "law.go:194", after := #[{ on := 10, ground := Ground.data }, { on := 11, ground := Ground.chain }, { on := 0, ground := Ground.phase }, { on := 1, ground := Ground.phase }, { on := 2, ground := Ground.phase }, { on := 3, ground := Ground.phase }, { on := 4, ground := Ground.phase }, { on := 5, ground := Ground.phase }, { on := 6, ground := Ground.phase }, { on := 7, ground := Ground.phase }, { on := 8, ground := Ground.phase }, { on := 9, ground := Ground.phase }, { on := 10, ground := Ground.phase }, { on := 11, ground := Ground.phase }], guard := none }) (v := .bool (some (De.pth (De.org (L.map (·.1)) x.1))).isSome) rfl (by kernel_rfl) (by kernel_rfl) (by kernel_rfl) (fun _ _ _ h => h) (Or.inl ⟨by rfl, fun w hSw => by (try dsimp only at hSw); go_simp⟩) hHeld ?_
   try simp only [Act.put, List.setIfInBounds_toArray, List.set_cons_zero, List.set_cons_succ]
   have HSe := Lib.hid hHeld
   refine wpAnyH_done (by kernel_rfl) ?_ _
   clear hHeld
   have HK24 := Lib.hid (HKr.out.trans HSe.out)
   obtain ⟨w8, hw8⟩ : ∃ W, W = V := ⟨_, rfl⟩
   subst hw8
   clear HSe
   go_upto_region 25 with fail
   refine wp_region_held_drew (S := fun W => Kp [] w8 W) (by kernel_rfl) ((Kp.refl [] w8).drew 1) (fun hHeld => ?_)
   generalize hwd : w8.drew = wd at *
   clear hwd
   refine wpAnyH_take (i := 0) (oi := { dst := some 101, op := Op.load 29 (Operand.tmp 5), type := 29, pos := "law.go:195", after := #[], guard := none }) (v := .agg #[.slice ya yn yc]) rfl (by kernel_rfl) (by kernel_rfl) (by kernel_rfl) (fun _ _ _ h => h) (Or.inl ⟨by rfl, fun w hSw => by (try dsimp only at hSw); have t0 := HYk2.out _ (HK24.out.trans hSw); go_simp⟩) hHeld ?_
   try simp only [Act.put, List.setIfInBounds_toArray, List.set_cons_zero, List.set_cons_succ]
   refine wpAnyH_take (i := 1) (oi := { dst := some 102, op := Op.fieldAddr 29 (Operand.tmp 4) 0, type := 0, pos := "law.go:195", after := #[], guard := none }) (v := .pointer (some ⟨Q, 0, none⟩)) rfl (by kernel_rfl) (by kernel_rfl) (by kernel_rfl) (fun _ _ _ h => h) (Or.inl ⟨by rfl, fun w hSw => by (try dsimp only at hSw); go_simp⟩) hHeld ?_
   try simp only [Act.put, List.setIfInBounds_toArray, List.set_cons_zero, List.set_cons_succ]
   refine wpAnyH_take (i := 2) (oi := { dst := some 103, op := Op.load 22 (Operand.tmp 102), type := 22, pos := "law.go:195", after := #[{ on := 1, ground := Ground.data }], guard := none }) (v := .slice (some ⟨g, o, none⟩) N vc) rfl (by kernel_rfl) (by kernel_rfl) (by kernel_rfl) (fun _ _ _ h => h) (Or.inl ⟨by rfl, fun w hSw => by (try dsimp only at hSw); have t0 := HQk2.out _ (HK24.out.trans hSw); go_simp⟩) hHeld ?_
   try simp only [Act.put, List.setIfInBounds_toArray, List.set_cons_zero, List.set_cons_succ]
   refine wpAnyH_take (i := 3) (oi := { dst := some 104, op := Op.move (Operand.tmp 9), type := 3, pos := "law.go:195", after := #[], guard := none }) (v := .int .i64 (i : Int)) rfl (by kernel_rfl) (by kernel_rfl) (by kernel_rfl) (fun _ _ _ h => h) (Or.inl ⟨by rfl, fun w hSw => by (try dsimp only at hSw); go_simp⟩) hHeld ?_
   try simp only [Act.put, List.setIfInBounds_toArray, List.set_cons_zero, List.set_cons_succ]
   refine wpAnyH_take (i := 4) (oi := { dst := some 105, op := Op.indexAddr 22 (Operand.tmp 103) (Operand.tmp 104), type := 0, pos := "law.go:195", after := #[{ on := 2, ground := Ground.data }, { on := 3, ground := Ground.data }], guard := none }) (v := .pointer (some ⟨g, o + i * 10, none⟩)) rfl (by kernel_rfl) (by kernel_rfl) (by kernel_rfl) (fun _ _ _ h => h) (Or.inl ⟨by rfl, fun w hSw => by (try dsimp only at hSw); go_simp⟩) hHeld ?_
   try simp only [Act.put, List.setIfInBounds_toArray, List.set_cons_zero, List.set_cons_succ]
   refine wpAnyH_take (i := 5) (oi := { dst := some 106, op := Op.fieldAddr 34 (Operand.tmp 105) 0, type := 0, pos := "law.go:195", after := #[{ on := 4, ground := Ground.data }], guard := none }) (v := .pointer (some ⟨g, o + i * 10, none⟩)) rfl (by kernel_rfl) (by kernel_rfl) (by kernel_rfl) (fun _ _ _ h => h) (Or.inl ⟨by rfl, fun w hSw => by (try dsimp only at hSw); go_simp⟩) hHeld ?_
   try simp only [Act.put, List.setIfInBounds_toArray, List.set_cons_zero, List.set_cons_succ]
   refine wpAnyH_take (i := 6) (oi := { dst := some 107, op := Op.load 3 (Operand.tmp 106), type := 3, pos := "law.go:195", after := #[{ on := 5, ground := Ground.data }], guard := none }) (v := .int .i64 x.1.idx) rfl (by kernel_rfl) (by kernel_rfl) (by kernel_rfl) (fun _ _ _ h => h) (Or.inl ⟨by rfl, fun w hSw => by (try dsimp only at hSw); have t1 := HIx.out _ (HK24.out.trans hSw); go_simp⟩) hHeld ?_
   try simp only [Act.put, List.setIfInBounds_toArray, List.set_cons_zero, List.set_cons_succ]
   refine wpAnyH_ready (rs := [7]) (by kernel_rfl) (by simp) ?_
   refine AllReadyH.cons (o := { dst := some 108, op := Op.call { callee := Callee.value (Operand.func 30), args := #[Operand.tmp 101, Operand.tmp 107], argTypes := #[29, 3] }, type := 47, pos := "law.go:195", after := #[{ on := 0, ground := Ground.data }, { on := 6, ground := Ground.data }], guard := none }) rfl (fun K hK => ?_) AllReadyH.nil
   go_simp
   go_at_call 30
   refine Calls.mono (by with_reducible exact HOy2.out _ (HK24.out.trans hHeld)) ?_
   rintro e V ⟨u2, rfl, hu, hbv⟩
   dsimp only
   have HU2 := Lib.hid hu
   have hS := hHeld.trans hbv
   clear hu hbv
   clear hHeld
   refine hK.out _ _ hS (fun hHeld => ?_)
   try simp only [Act.put, List.setIfInBounds_toArray, List.set_cons_zero, List.set_cons_succ]
   clear hK
   clear hS
   refine wpAnyH_take (i := 8) (oi := { dst := some 100, op := Op.move (Operand.tmp 108), type := 47, pos := "law.go:195", after := #[{ on := 7, ground := Ground.data }], guard := none }) (v := .tuple #[.string u2, .bool o2.isSome]) rfl (by kernel_rfl) (by kernel_rfl) (by kernel_rfl) (fun _ _ _ h => h) (Or.inl ⟨by rfl, fun w hSw => by (try dsimp only at hSw); go_simp⟩) hHeld ?_
   try simp only [Act.put, List.setIfInBounds_toArray, List.set_cons_zero, List.set_cons_succ]
   refine wpAnyH_take (i := 9) (oi := { dst := some 109, op := Op.extract (Operand.tmp 100) 0, type := 9, pos := "law.go:195", after := #[{ on := 8, ground := Ground.data }], guard := none }) (v := .string u2) rfl (by kernel_rfl) (by kernel_rfl) (by kernel_rfl) (fun _ _ _ h => h) (Or.inl ⟨by rfl, fun w hSw => by (try dsimp only at hSw); go_simp⟩) hHeld ?_
   try simp only [Act.put, List.setIfInBounds_toArray, List.set_cons_zero, List.set_cons_succ]
   refine wpAnyH_take (i := 10) (oi := { dst := some 110, op := Op.extract (Operand.tmp 100) 1, type := 4, pos := "law.go:195", after := #[{ on := 8, ground := Ground.data }, { on := 11, ground := Ground.gcOnly Departure.lateStores }], guard := none }) (v := .bool o2.isSome) rfl (by kernel_rfl) (by kernel_rfl) (by kernel_rfl) (fun _ _ _ h => h) (Or.inl ⟨by rfl, fun w hSw => by (try dsimp only at hSw); go_simp⟩) hHeld ?_
   try simp only [Act.put, List.setIfInBounds_toArray, List.set_cons_zero, List.set_cons_succ]
   refine wpAnyH_take (i := 11) (oi := { dst := some 12, op := Op.assign (Operand.tmp 109), type := 9, pos := "law.go:195", after := #[{ on := 9, ground := Ground.data }, { on := 7, ground := Ground.chain }, { on := 0, ground := Ground.phase }, { on := 1, ground := Ground.phase }, { on := 2, ground := Ground.phase }, { on := 3, ground := Ground.phase }, { on := 4, ground := Ground.phase }, { on := 5, ground := Ground.phase }, { on := 6, ground := Ground.phase }, { on := 7, ground := Ground.phase }, { on := 8, ground := Ground.phase }, { on := 9, ground := Ground.phase }, { on := 10, ground := Ground.textOnly Departure.lateStores }], guard := none }) (v := .string u2) rfl (by kernel_rfl) (by kernel_rfl) (by kernel_rfl) (fun _ _ _ h => h) (Or.inl ⟨by rfl, fun w hSw => by (try dsimp only at hSw); go_simp⟩) hHeld ?_
   try simp only [Act.put, List.setIfInBounds_toArray, List.set_cons_zero, List.set_cons_succ]
   refine wpAnyH_take (i := 12) (oi := { dst := some 13, op := Op.assign (Operand.tmp 110), type := 4, pos := "law.go:195", after := #[{ on := 10, ground := Ground.data }, { on := 11, ground := Ground.chain }, { on := 0, ground := Ground.phase }, { on := 1, ground := Ground.phase }, { on := 2, ground := Ground.phase }, { on := 3, ground := Ground.phase }, { on := 4, ground := Ground.phase }, { on := 5, ground := Ground.phase }, { on := 6, ground := Ground.phase }, { on := 7, ground := Ground.phase }, { on := 8, ground := Ground.phase }, { on := 9, ground := Ground.phase }, { on := 10, ground := Ground.phase }, { on := 11, ground := Ground.phase }], guard := none }) (v := .bool o2.isSome) rfl (by kernel_rfl) (by kernel_rfl) (by kernel_rfl) (fun _ _ _ h => h) (Or.inl ⟨by rfl, fun w hSw => by (try dsimp only at hSw); go_simp⟩) hHeld ?_
   try simp only [Act.put, List.setIfInBounds_toArray, List.set_cons_zero, List.set_cons_succ]
   have HSe := Lib.hid hHeld
   refine wpAnyH_done (by kernel_rfl) ?_ _
   clear hHeld
   cases o2 with
   | none =>
    go_wp2
    exact ⟨⟨i + 1, by omega, rfl, Lib.hid (HK24.out.trans HSe.out)⟩, by simp [intOf]; omega⟩
   | some t =>
    have hu : u2 = u1 := by
     have h1 := HU1.out
     have h2 := HU2.out
     simp only [Option.getD_some] at h1 h2
     rw [De.bytes_of h1, De.bytes_of h2, HT2.out t rfl]
    subst hu
    have hne : (u2.toList != u2.toList) = false := by simp
    go_wp2
    exact ⟨⟨i + 1, by omega, rfl, Lib.hid (HK24.out.trans HSe.out)⟩, by simp [intOf]; omega⟩
  ·obtain rfl : i = N := by omega
   have hiz : ¬ (i : Int) < (i : Int) := by omega
   go_wp2
   go_ret
   exact ⟨rfl, by first | exact HFin.out _ (HK57.out.trans (HKr.out.mono (by simp))) | (rw [← Htb.out]; exact HFin.out _ (HK57.out.trans (HKr.out.mono (by simp))))⟩
end Go.Proofs.YtldcediiobfhiaaGreatDoor
