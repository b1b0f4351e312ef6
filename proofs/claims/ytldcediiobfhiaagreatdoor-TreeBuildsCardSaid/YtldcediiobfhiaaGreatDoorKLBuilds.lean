/- TreeBuilds: the devices of a tree, inserted in any order in which parents come first, give the tree. -/
import Derived.Test.YtldcediiobfhiaaGreatDoorKZ3
import Derived.Test.YtldcediiobfhiaaGreatDoorKV7
import Derived.Deep.MidRow
namespace Go.Proofs.YtldcediiobfhiaaGreatDoor
open Go.RowKit
def lenOf : Value → Nat
 | .slice _ n _ => n
 | _ => 0
set_option maxHeartbeats 16000000 in
set_option maxRecDepth 100000 in
theorem builds_walk (a0 : Option Addr) (n0 c0 : Nat) (w : World) (hm : De.Max w) (hi : Ints w w.heap.size (.slice a0 n0 c0)) : Calls Tryz.prog 10 #[.slice a0 n0 c0] w fun e w' => e = .returned (.bool true) ∧ Below w.heap.size w w' := by
 obtain ⟨tb, htb⟩ : ∃ tb, w.heap.size = tb := ⟨_, rfl⟩
 obtain ⟨W0, hW⟩ : ∃ W0, w.alloc (.cells #[.slice a0 n0 c0, .int .i64 0] 27) = W0 := ⟨_, rfl⟩
 have hk0 : Kp [] w W0 := by rw [← hW]; exact (Kp.refl [] w).alloc _
 have hT0 : Tp W0 tb 0 := by rw [← hW, ← htb]; exact tape_new hi
 have HTr0 := Lib.hid (tree9 (by omega) hT0 (hm.below hk0.bel))
 have HK0 := Lib.hid (show Kp [tb] w W0 from hk0.mono (by simp))
 have Htb := Lib.hid htb
 have H0t := Lib.hid (max_tp (hm.below hk0.bel) hT0)
 have HM0 := Lib.hid (hm.below hk0.bel)
 clear hk0 hT0 hi hm
 go_enter Tryz.func10, Tryz.ntmps10
 go_upto_region 3 with (first
  | (go_at_call 13; refine Calls.mono (by with_reducible exact HTr0.out) ?_; rintro e w1 ⟨va, N, vc, L, rfl, HN, hNc, hN9, HTr, k1, hk1, HT, HK1⟩; have H1v := Lib.hid (show (#[.slice va N vc] : Array Value).all (·.oneCell') = true from by simp [Value.oneCell']))
  | (refine De.wpList_store_new w1 29 _ #[.slice va N vc] rfl _ _ rfl rfl rfl info30b rfl H1v.out ?_))
 obtain ⟨Q, hQ⟩ : ∃ Q, w1.heap.size = Q := ⟨_, rfl⟩
 have hq1 := heap_alloc_last w1 (.cells #[.slice va N vc] 29)
 have hka := (Kp.refl [] w1).alloc (.cells #[.slice va N vc] 29)
 generalize w1.alloc (.cells #[.slice va N vc] 29) = w2 at *
 rw [hQ] at hq1 ⊢
 have HQ2 := Lib.hid hq1
 have t0 := cell_one hq1
 have HT2 := Lib.hid (HT.out.kp hka (by simp))
 have HTr2 := Lib.hid (HTr.out.kp hka)
 have HK2 := Lib.hid ((HK0.out.trans HK1.out).trans (hka.mono (by simp)))
 have HM2 := Lib.hid (MaxT (MaxT HM0.out H0t.out HK1.out) H0t.out (hka.mono (by simp)))
 have HQt := Lib.hid (show tb < Q from by rw [← hQ]; exact HT.out.lt)
 have HTok := Lib.hid (tree_tok HTr2.out (by omega))
 have HLn := Lib.hid (show ([] : List De.DV).length + L.length ≤ 100000 from by have := HTok.out.n; simp; omega)
 go_upto_region 4 with (refine wpList_append_dvs rfl _ _ rfl w2.heap.size (.slice none 0 0) (.slice va N vc) [] L rfl (World.ownsRow_nil _ _ _ _) rfl HTr2.out.any.has HLn.out (Nat.le_refl _) ?_; intro v5 w3 hown hgr; have HOw := Lib.hid hown; have HK3 := Lib.hid (show Kp [] w2 w3 from kp_grownS (Kp.refl [] w2) hgr (fun b hb => by cases hb)); clear hown hgr)
 clear t0
 obtain ⟨la0, lc0, hv5⟩ := own_form HOw.out
 simp only [List.nil_append, HN.out] at hv5
 subst hv5
 have HLs := Lib.hid (show De.DHas w3 (.slice la0 N lc0) L from by
  have h1 : De.DHas w3 (.slice la0 N lc0) ([] ++ L) := De.DOwn.has ⟨HOw.out, fun x hx => dhas_ats (HTr2.out.kp HK3.out).any.has x hx⟩
  simpa using h1)
 obtain ⟨Y, hY⟩ : ∃ Y, w3.heap.size = Y := ⟨_, rfl⟩
 have hq3 := heap_alloc_last w3 (.cells #[.slice none 0 0] 29)
 have hka := (Kp.refl [] w3).alloc (.cells #[.slice none 0 0] 29)
 have hkb := HK3.out.trans hka
 go_wp2
 generalize w3.alloc (.cells #[.slice none 0 0] 29) = wL at *
 rw [hY] at hq3
 have HTL := Lib.hid (HT2.out.kp hkb (by simp))
 have HTrL := Lib.hid (HTr2.out.kp hkb)
 have HKL := Lib.hid (HK2.out.trans (hkb.mono (by simp)))
 have HML := Lib.hid (HM2.out.below hkb.bel)
 have HQL := Lib.hid ((hkb.block Q (block_lt HQ2.out) (by simp)).trans HQ2.out)
 have HYt := Lib.hid (show tb < Y ∧ Y ≠ Q from by
  have h1 := block_lt HQ2.out
  have h2 := HK3.out.size
  have h3 := HQt.out
  omega)
 have HYL := Lib.hid (show Y < wL.heap.size from block_lt hq3)
 have HB0 := Lib.hid (show Bl L (.slice va N vc) tb Y wL la0 N lc0 from ⟨L, [], none, 0, 0, _, HN.out, ⟨HTrL.out.any.has, HLs.out.below hka.bel, .inl ⟨none, 0, rfl, rfl⟩⟩, hq3, De.Part.start _, HTL.out, by omega, HML.out⟩)
 have HFin := Lib.hid (fun (w' : World) (hk : Kp [tb, Y] wL w') => (show Below w.heap.size w w' from ((HKL.out.mono (by simp)).trans hk).below (Nat.le_refl _) (by intro x hx; simp at hx; have := Htb.out; have := HYt.out.1; omega)))
 have HQk := Lib.hid (fun (W : World) (hk : Kp [tb, Y] wL W) => cell_one ((hk.block Q (block_lt HQL.out) (by have := HQt.out; have := HYt.out.2; simp; omega)).trans HQL.out))
 have HI34 := Lib.hid (fun (X : De.ADev) (u : Value) => show (Tryz.prog.info? 34).map (·.size) = some (De.dvC X u).toArray.size from De.info34b)
 clear hq3 hka hkb hY HOw HLs HK3 HT2 HTr2 HK2 HM2 HQ2 HLn
 go_loopw [5] (fun s5 wx => ∃ la m lc, s5 = .slice la m lc ∧ Hid (Bl L (.slice va N vc) tb Y wx la m lc) ∧ Hid (Kp [tb, Y] wL wx)) (fun s5 _ => lenOf s5)
 case atStart => exact ⟨la0, N, lc0, rfl, HB0, Lib.hid (Kp.refl _ _)⟩
 case round =>
  obtain ⟨la, m, lc, rfl, HB, HKr⟩ := hrel
  obtain ⟨LL, LY, ya, yn, yc, k, hlen, hbx, hY, hpt, hT, hkm, hM⟩ := HB.out
  have HBx := Lib.hid hbx
  have HY := Lib.hid hY
  have HPt := Lib.hid hpt
  have HT := Lib.hid hT
  have HM := Lib.hid hM
  have HLen := Lib.hid hlen
  have H0 := Lib.hid (max_tp hM hT)
  have HmN := Lib.hid (show m ≤ 100000 from by
   have h1 := part_len hpt
   have h2 := HTok.out.n
   simp only [List.length_map] at h1
   omega)
  clear hbx hY hpt hT hM hlen HB HB0
  by_cases hm0 : m = 0
  ·subst hm0
   have HSame := Lib.hid (show Calls Tryz.prog 42 #[.agg #[.slice va N vc], .agg #[.slice ya yn yc]] wr fun e w' => e = .returned (.bool true) ∧ Kp [] wr w' from (De.sameTree_any (.slice va N vc) (.slice ya yn yc) L LY wr (by have := HTok.out.n; omega) (fun x hx => by have := (HTrL.out.sml x hx).2; omega) HBx.out.x HBx.out.y).mono fun e w' ⟨he, hb⟩ => ⟨by
    have h0 : LL = [] := List.length_eq_zero_iff.1 HLen.out
    have h1 := HPt.out
    rw [h0] at h1
    rw [he, De.sameL_iff.2 (h1.done HTrL.out.val).symm], Kp.of_below hb⟩)
   have HKn := Lib.hid (fun W (hk : Kp [] wr W) => De.known_any W (HM.out.below hk.bel))
   have t0 := HQk.out _ HKr.out
   have t1 := cell_one HY.out
   go_wp2_with (first
    | (go_at_call 42; refine Calls.mono (by with_reducible exact HSame.out) ?_; rintro e w6 ⟨rfl, hk6⟩; have HK6 := Lib.hid hk6; clear hk6)
    | (go_at_call 12; refine Calls.mono (by with_reducible exact HKn.out _ HK6.out) ?_; rintro e w7 ⟨rfl, hk7⟩; have HK7 := Lib.hid (HK6.out.trans hk7); clear hk7))
   go_ret
   exact ⟨rfl, HFin.out _ (HKr.out.trans (HK7.out.mono (by simp)))⟩
  ·have hmz : (0 : Int) < (m : Int) := by omega
   have HNx := Lib.hid (show Calls Tryz.prog 14 #[.pointer (some ⟨tb, 0, none⟩), .int .i64 (m : Int)] wr fun e w' => ∃ r : Nat, r < m ∧ e = .returned (.int .i64 r) ∧ Tp w' tb (k + 1) ∧ Kp [tb] wr w' from next_kp m (by omega) (by have := HmN.out; omega) (by omega) HT.out)
   go_upto_region 7 with (go_at_call 14; refine Calls.mono (by with_reducible exact HNx.out) ?_; rintro e w1 ⟨r, hr, rfl, hT1, hk1⟩; have HT1 := Lib.hid hT1; have HK1 := Lib.hid hk1; clear hT1 hk1)
   have HB1 := Lib.hid (HBx.out.kpT HT.out HK1.out)
   have HY1 := Lib.hid ((HK1.out.block Y (block_lt HY.out) (by have := HYt.out.1; simp; omega)).trans HY.out)
   have HM1 := Lib.hid (MaxT HM.out H0.out HK1.out)
   have HKw1 := Lib.hid (HKr.out.trans (HK1.out.mono (by simp)))
   obtain ⟨x, hx⟩ : ∃ x, LL[r]? = some x := ⟨LL[r]'(by rw [HLen.out]; exact hr), List.getElem?_eq_getElem _⟩
   have HX := Lib.hid hx
   obtain ⟨g, o, rfl, hcp, hg, hrow⟩ := row_of HB1.out.l hx
   rw [HLen.out] at hcp
   have HRow := Lib.hid hrow
   have Hg := Lib.hid hg
   have HIx := Lib.hid (show ∀ W, Kp [] w1 W → W.cell? ⟨g, o + r * 10 + 1, none⟩ = some (.int .i64 x.1.par) from fun W hk => (HRow.out.below Hg.out hk.bel).at_ r x HX.out 1 _ rfl)
   have HYk := Lib.hid (fun (W : World) (hk : Kp [] w1 W) => cell_one ((hk.block Y (block_lt HY1.out) (by simp)).trans HY1.out))
   have hwx : (Lit.int .i64 x.1.par).wf = true := (tok_sub HTok.out (M := LL) (fun z hz => HPt.out.left.subset (List.mem_map.2 ⟨z, hz, rfl⟩)) (by rw [HLen.out]; exact HmN.out)).wp x (List.mem_of_getElem? hx)
   obtain ⟨XF, hXF⟩ : ∃ X, valA (De.fnd (LY.map (·.1)) x.1.par) = X := ⟨_, rfl⟩
   obtain ⟨bh, hbh⟩ : ∃ b, (De.fnd (LY.map (·.1)) x.1.par).isSome = b := ⟨_, rfl⟩
   have HFd := Lib.hid (show ∀ W, Kp [] w1 W → Calls Tryz.prog 21 #[.agg #[.slice ya yn yc], .int .i64 x.1.par] W fun e w' => ∃ a m c, e = .returned (.tuple #[.agg (De.dvC XF (.slice a m c)).toArray, .bool bh]) ∧ Kp [] W w' from fun W hk => by
    rw [← hXF, ← hbh]
    exact find_part HTrL.out (by omega) (HB1.out.kp hk).y HPt.out _ hwx)
   have Hbh := Lib.hid hbh
   clear hx hrow hg hwx hXF hbh HBx HY HM HT HNx
   go_cut [9] (fun s9 wx => s9 = .bool bh ∧ Hid (Kp [] w1 wx))
   case first =>
    refine wp_region_held_drew (S := fun W => Kp [] w1 W) (by kernel_rfl) ((Kp.refl [] w1).drew 1) (fun hHeld => ?_)
    generalize hwd : w1.drew = wd at *
    clear hwd
    refine wpAnyH_take (i := 0) (oi := { dst := some 28, op := Op.load 29 (Operand.tmp 6), type := 29, pos := "law.go:211", after := #[], guard := none }) (v := .agg #[.slice ya yn yc]) rfl (by kernel_rfl) (by kernel_rfl) (by kernel_rfl) (fun _ _ _ h => h) (Or.inl ⟨by rfl, fun w hSw => by (try dsimp only at hSw); have t0 := HYk.out _ hSw; go_simp⟩) hHeld ?_
    try simp only [Act.put, List.setIfInBounds_toArray, List.set_cons_zero, List.set_cons_succ]
    refine wpAnyH_take (i := 1) (oi := { dst := some 29, op := Op.move (Operand.tmp 5), type := 22, pos := "law.go:211", after := #[], guard := none }) (v := .slice (some ⟨g, o, none⟩) m lc) rfl (by kernel_rfl) (by kernel_rfl) (by kernel_rfl) (fun _ _ _ h => h) (Or.inl ⟨by rfl, fun w hSw => by (try dsimp only at hSw); go_simp⟩) hHeld ?_
    try simp only [Act.put, List.setIfInBounds_toArray, List.set_cons_zero, List.set_cons_succ]
    refine wpAnyH_take (i := 2) (oi := { dst := some 30, op := Op.move (Operand.tmp 7), type := 3, pos := "law.go:211", after := #[], guard := none }) (v := .int .i64 (r : Int)) rfl (by kernel_rfl) (by kernel_rfl) (by kernel_rfl) (fun _ _ _ h => h) (Or.inl ⟨by rfl, fun w hSw => by (try dsimp only at hSw); go_simp⟩) hHeld ?_
    try simp only [Act.put, List.setIfInBounds_toArray, List.set_cons_zero, List.set_cons_succ]
    refine wpAnyH_take (i := 3) (oi := { dst := some 31, op := Op.indexAddr 22 (Operand.tmp 29) (Operand.tmp 30), type := 0, pos := "law.go:211", after := #[{ on := 1, ground := Ground.data }, { on := 2, ground := Ground.data }], guard := none }) (v := .pointer (some ⟨g, o + r * 10, none⟩)) rfl (by kernel_rfl) (by kernel_rfl) (by kernel_rfl) (fun _ _ _ h => h) (Or.inl ⟨by rfl, fun w hSw => by (try dsimp only at hSw); go_simp⟩) hHeld ?_
    try simp only [Act.put, List.setIfInBounds_toArray, List.set_cons_zero, List.set_cons_succ]
    refine wpAnyH_take (i := 4) (oi := { dst := some 32, op := Op.fieldAddr 34 (Operand.tmp 31) 1, type := 0, pos := "law.go:211", after := #[{ on := 3, ground := Ground.data }], guard := none }) (v := .pointer (some ⟨g, o + r * 10 + 1, none⟩)) rfl (by kernel_rfl) (by kernel_rfl) (by kernel_rfl) (fun _ _ _ h => h) (Or.inl ⟨by rfl, fun w hSw => by (try dsimp only at hSw); go_simp⟩) hHeld ?_
    try simp only [Act.put, List.setIfInBounds_toArray, List.set_cons_zero, List.set_cons_succ]
    refine wpAnyH_take (i := 5) (oi := { dst := some 33, op := Op.load 3 (Operand.tmp 32), type := 3, pos := "law.go:211", after := #[{ on := 4, ground := Ground.data }], guard := none }) (v := .int .i64 x.1.par) rfl (by kernel_rfl) (by kernel_rfl) (by kernel_rfl) (fun _ _ _ h => h) (Or.inl ⟨by rfl, fun w hSw => by (try dsimp only at hSw); have t1 := HIx.out _ hSw; go_simp⟩) hHeld ?_
    try simp only [Act.put, List.setIfInBounds_toArray, List.set_cons_zero, List.set_cons_succ]
    refine wpAnyH_ready (rs := [6, 10]) (by kernel_rfl) (by simp) ?_
    refine AllReadyH.cons (o := { dst := some 34, op := Op.call { callee := Callee.value (Operand.func 21), args := #[Operand.tmp 28, Operand.tmp 33], argTypes := #[29, 3] }, type := 42, pos := "law.go:211", after := #[{ on := 0, ground := Ground.data }, { on := 5, ground := Ground.data }], guard := none }) rfl (fun K hK => ?_) (AllReadyH.cons (o := { dst := some 8, op := Op.alloc 34, type := 0, pos := "law.go:211", after := #[], guard := none }) rfl (fun K hK => ?_) AllReadyH.nil)
    ·skip
     go_simp
     go_at_call 21
     refine Calls.mono (by with_reducible exact HFd.out _ hHeld) ?_
     rintro e V ⟨fa, fm, fc, rfl, hkv⟩
     dsimp only
     have HSt := Lib.hid (dv_one XF fa fm fc)
     have hS := hHeld.trans hkv
     clear hkv
     clear hHeld
     refine hK.out _ _ hS (fun hHeld => ?_)
     try simp only [Act.put, List.setIfInBounds_toArray, List.set_cons_zero, List.set_cons_succ]
     clear hK
     clear hS
     refine wpAnyH_take (i := 7) (oi := { dst := some 27, op := Op.move (Operand.tmp 34), type := 42, pos := "law.go:211", after := #[{ on := 6, ground := Ground.data }], guard := none }) (v := .tuple #[.agg (De.dvC XF (.slice fa fm fc)).toArray, .bool bh]) rfl (by kernel_rfl) (by kernel_rfl) (by kernel_rfl) (fun _ _ _ h => h) (Or.inl ⟨by rfl, fun w hSw => by (try dsimp only at hSw); go_simp⟩) hHeld ?_
     try simp only [Act.put, List.setIfInBounds_toArray, List.set_cons_zero, List.set_cons_succ]
     refine wpAnyH_take (i := 8) (oi := { dst := some 35, op := Op.extract (Operand.tmp 27) 0, type := 34, pos := "law.go:211", after := #[{ on := 7, ground := Ground.data }], guard := none }) (v := .agg (De.dvC XF (.slice fa fm fc)).toArray) rfl (by kernel_rfl) (by kernel_rfl) (by kernel_rfl) (fun _ _ _ h => h) (Or.inl ⟨by rfl, fun w hSw => by (try dsimp only at hSw); go_simp⟩) hHeld ?_
     try simp only [Act.put, List.setIfInBounds_toArray, List.set_cons_zero, List.set_cons_succ]
     refine wpAnyH_take (i := 9) (oi := { dst := some 36, op := Op.extract (Operand.tmp 27) 1, type := 4, pos := "law.go:211", after := #[{ on := 7, ground := Ground.data }, { on := 11, ground := Ground.gcOnly Departure.lateStores }], guard := none }) (v := .bool bh) rfl (by kernel_rfl) (by kernel_rfl) (by kernel_rfl) (fun _ _ _ h => h) (Or.inl ⟨by rfl, fun w hSw => by (try dsimp only at hSw); go_simp⟩) hHeld ?_
     try simp only [Act.put, List.setIfInBounds_toArray, List.set_cons_zero, List.set_cons_succ]
     refine wpAnyH_ready (rs := [10]) (by kernel_rfl) (by simp) ?_
     refine AllReadyH.cons (o := { dst := some 8, op := Op.alloc 34, type := 0, pos := "law.go:211", after := #[], guard := none }) rfl (fun K hK => ?_) AllReadyH.nil
     go_simp
     have hkn := (Kp.refl [] V).alloc (.cells #[.int .i64 0, .int .i64 0, .string ⟨#[]⟩, .string ⟨#[]⟩, .string ⟨#[]⟩, .string ⟨#[]⟩, .string ⟨#[]⟩, .int .i64 0, .int .i64 0, .slice none 0 0] 34)
     have hr8 := heap_alloc_last V (.cells #[.int .i64 0, .int .i64 0, .string ⟨#[]⟩, .string ⟨#[]⟩, .string ⟨#[]⟩, .string ⟨#[]⟩, .string ⟨#[]⟩, .int .i64 0, .int .i64 0, .slice none 0 0] 34)
     obtain ⟨R8, hR8⟩ : ∃ R, V.heap.size = R := ⟨_, rfl⟩
     generalize V.alloc (.cells #[.int .i64 0, .int .i64 0, .string ⟨#[]⟩, .string ⟨#[]⟩, .string ⟨#[]⟩, .string ⟨#[]⟩, .string ⟨#[]⟩, .int .i64 0, .int .i64 0, .slice none 0 0] 34) = w8 at *
     rw [hR8] at hr8 ⊢
     have HRr := Lib.hid hr8
     have HRge := Lib.hid (show w1.heap.size ≤ R8 from by rw [← hR8]; exact hHeld.size)
     have hS := hHeld.trans hkn
     clear hkn hr8 hR8
     clear hHeld
     refine hK.out _ _ hS (fun hHeld => ?_)
     try simp only [Act.put, List.setIfInBounds_toArray, List.set_cons_zero, List.set_cons_succ]
     clear hK
     clear hS
     refine wpAnyH_ready (rs := [11]) (by kernel_rfl) (by simp) ?_
     refine AllReadyH.cons (o := { dst := none, op := Op.store 34 (Operand.tmp 8) (Operand.tmp 35), type := 0, pos := "law.go:211", after := #[{ on := 10, ground := Ground.data }, { on := 8, ground := Ground.data }, { on := 6, ground := Ground.chain }, { on := 0, ground := Ground.phase }, { on := 1, ground := Ground.phase }, { on := 2, ground := Ground.phase }, { on := 3, ground := Ground.phase }, { on := 4, ground := Ground.phase }, { on := 5, ground := Ground.phase }, { on := 6, ground := Ground.phase }, { on := 7, ground := Ground.phase }, { on := 8, ground := Ground.phase }, { on := 9, ground := Ground.textOnly Departure.lateStores }, { on := 10, ground := Ground.phase }], guard := none }) rfl (fun K hK => ?_) AllReadyH.nil
     refine step_store rfl 34 (.tmp 8) (.tmp 35) rfl R8 (De.dvC XF (.slice fa fm fc)).toArray rfl rfl 34 #[.int .i64 0, .int .i64 0, .string ⟨#[]⟩, .string ⟨#[]⟩, .string ⟨#[]⟩, .string ⟨#[]⟩, .string ⟨#[]⟩, .int .i64 0, .int .i64 0, .slice none 0 0] HRr.out (HI34.out _ _) rfl HSt.out ?_
     have hkR : Kp [] w1 (w8.setRow R8 (De.dvC XF (.slice fa fm fc)).toArray) := hHeld.up ((Kp.refl [R8] _).setRow (.inl (by simp)) _) (by intro z hz; simp at hz; subst hz; exact .inr HRge.out)
     generalize w8.setRow R8 (De.dvC XF (.slice fa fm fc)).toArray = we at *
     clear hHeld
     refine hK.out _ _ hkR (fun hHeld => ?_)
     try simp only [Act.put]
     clear hK
     clear hkR
     refine wpAnyH_take (i := 12) (oi := { dst := some 9, op := Op.assign (Operand.tmp 36), type := 4, pos := "law.go:211", after := #[{ on := 9, ground := Ground.data }, { on := 11, ground := Ground.chain }, { on := 0, ground := Ground.phase }, { on := 1, ground := Ground.phase }, { on := 2, ground := Ground.phase }, { on := 3, ground := Ground.phase }, { on := 4, ground := Ground.phase }, { on := 5, ground := Ground.phase }, { on := 6, ground := Ground.phase }, { on := 7, ground := Ground.phase }, { on := 8, ground := Ground.phase }, { on := 9, ground := Ground.phase }, { on := 10, ground := Ground.phase }, { on := 11, ground := Ground.phase }], guard := none }) (v := .bool bh) rfl (by kernel_rfl) (by kernel_rfl) (by kernel_rfl) (fun _ _ _ h => h) (Or.inl ⟨by rfl, fun w hSw => by (try dsimp only at hSw); go_simp⟩) hHeld ?_
     try simp only [Act.put, List.setIfInBounds_toArray, List.set_cons_zero, List.set_cons_succ]
     have HSe := Lib.hid hHeld
     refine wpAnyH_done (by kernel_rfl) ?_ _
     clear hHeld
     go_wp2
     go_meet
     exact ⟨rfl, HSe⟩
    ·skip
     go_simp
     have hkn := (Kp.refl [] wd).alloc (.cells #[.int .i64 0, .int .i64 0, .string ⟨#[]⟩, .string ⟨#[]⟩, .string ⟨#[]⟩, .string ⟨#[]⟩, .string ⟨#[]⟩, .int .i64 0, .int .i64 0, .slice none 0 0] 34)
     have hr8 := heap_alloc_last wd (.cells #[.int .i64 0, .int .i64 0, .string ⟨#[]⟩, .string ⟨#[]⟩, .string ⟨#[]⟩, .string ⟨#[]⟩, .string ⟨#[]⟩, .int .i64 0, .int .i64 0, .slice none 0 0] 34)
     obtain ⟨R8, hR8⟩ : ∃ R, wd.heap.size = R := ⟨_, rfl⟩
     generalize wd.alloc (.cells #[.int .i64 0, .int .i64 0, .string ⟨#[]⟩, .string ⟨#[]⟩, .string ⟨#[]⟩, .string ⟨#[]⟩, .string ⟨#[]⟩, .int .i64 0, .int .i64 0, .slice none 0 0] 34) = w8 at *
     rw [hR8] at hr8 ⊢
     have HRr := Lib.hid hr8
     have HRge := Lib.hid (show w1.heap.size ≤ R8 from by rw [← hR8]; exact hHeld.size)
     have hS := hHeld.trans hkn
     clear hkn hr8 hR8
     clear hHeld
     refine hK.out _ _ hS (fun hHeld => ?_)
     try simp only [Act.put, List.setIfInBounds_toArray, List.set_cons_zero, List.set_cons_succ]
     clear hK
     clear hS
     refine wpAnyH_ready (rs := [6]) (by kernel_rfl) (by simp) ?_
     refine AllReadyH.cons (o := { dst := some 34, op := Op.call { callee := Callee.value (Operand.func 21), args := #[Operand.tmp 28, Operand.tmp 33], argTypes := #[29, 3] }, type := 42, pos := "law.go:211", after := #[{ on := 0, ground := Ground.data }, { on := 5, ground := Ground.data }], guard := none }) rfl (fun K hK => ?_) AllReadyH.nil
     go_simp
     go_at_call 21
     refine Calls.mono (by with_reducible exact HFd.out _ hHeld) ?_
     rintro e V ⟨fa, fm, fc, rfl, hkv⟩
     dsimp only
     have HSt := Lib.hid (dv_one XF fa fm fc)
     have hrv := (hkv.block R8 (block_lt HRr.out) (by simp)).trans HRr.out
     clear HRr
     have HRr := Lib.hid hrv
     have hS := hHeld.trans hkv
     clear hkv hrv
     clear hHeld
     refine hK.out _ _ hS (fun hHeld => ?_)
     try simp only [Act.put, List.setIfInBounds_toArray, List.set_cons_zero, List.set_cons_succ]
     clear hK
     clear hS
     refine wpAnyH_take (i := 7) (oi := { dst := some 27, op := Op.move (Operand.tmp 34), type := 42, pos := "law.go:211", after := #[{ on := 6, ground := Ground.data }], guard := none }) (v := .tuple #[.agg (De.dvC XF (.slice fa fm fc)).toArray, .bool bh]) rfl (by kernel_rfl) (by kernel_rfl) (by kernel_rfl) (fun _ _ _ h => h) (Or.inl ⟨by rfl, fun w hSw => by (try dsimp only at hSw); go_simp⟩) hHeld ?_
     try simp only [Act.put, List.setIfInBounds_toArray, List.set_cons_zero, List.set_cons_succ]
     refine wpAnyH_take (i := 8) (oi := { dst := some 35, op := Op.extract (Operand.tmp 27) 0, type := 34, pos := "law.go:211", after := #[{ on := 7, ground := Ground.data }], guard := none }) (v := .agg (De.dvC XF (.slice fa fm fc)).toArray) rfl (by kernel_rfl) (by kernel_rfl) (by kernel_rfl) (fun _ _ _ h => h) (Or.inl ⟨by rfl, fun w hSw => by (try dsimp only at hSw); go_simp⟩) hHeld ?_
     try simp only [Act.put, List.setIfInBounds_toArray, List.set_cons_zero, List.set_cons_succ]
     refine wpAnyH_take (i := 9) (oi := { dst := some 36, op := Op.extract (Operand.tmp 27) 1, type := 4, pos := "law.go:211", after := #[{ on := 7, ground := Ground.data }, { on := 11, ground := Ground.gcOnly Departure.lateStores }], guard := none }) (v := .bool bh) rfl (by kernel_rfl) (by kernel_rfl) (by kernel_rfl) (fun _ _ _ h => h) (Or.inl ⟨by rfl, fun w hSw => by (try dsimp only at hSw); go_simp⟩) hHeld ?_
     try simp only [Act.put, List.setIfInBounds_toArray, List.set_cons_zero, List.set_cons_succ]
     refine wpAnyH_ready (rs := [11]) (by kernel_rfl) (by simp) ?_
     refine AllReadyH.cons (o := { dst := none, op := Op.store 34 (Operand.tmp 8) (Operand.tmp 35), type := 0, pos := "law.go:211", after := #[{ on := 10, ground := Ground.data }, { on := 8, ground := Ground.data }, { on := 6, ground := Ground.chain }, { on := 0, ground := Ground.phase }, { on := 1, ground := Ground.phase }, { on := 2, ground := Ground.phase }, { on := 3, ground := Ground.phase }, { on := 4, ground := Ground.phase }, { on := 5, ground := Ground.phase }, { on := 6, ground := Ground.phase }, { on := 7, ground := Ground.phase }, { on := 8, ground := Ground.phase }, { on := 9, ground := Ground.textOnly Departure.lateStores }, { on := 10, ground := Ground.phase }], guard := none }) rfl (fun K hK => ?_) AllReadyH.nil
     refine step_store rfl 34 (.tmp 8) (.tmp 35) rfl R8 (De.dvC XF (.slice fa fm fc)).toArray rfl rfl 34 #[.int .i64 0, .int .i64 0, .string ⟨#[]⟩, .string ⟨#[]⟩, .string ⟨#[]⟩, .string ⟨#[]⟩, .string ⟨#[]⟩, .int .i64 0, .int .i64 0, .slice none 0 0] HRr.out (HI34.out _ _) rfl HSt.out ?_
     have hkR : Kp [] w1 (V.setRow R8 (De.dvC XF (.slice fa fm fc)).toArray) := hHeld.up ((Kp.refl [R8] _).setRow (.inl (by simp)) _) (by intro z hz; simp at hz; subst hz; exact .inr HRge.out)
     generalize V.setRow R8 (De.dvC XF (.slice fa fm fc)).toArray = we at *
     clear hHeld
     refine hK.out _ _ hkR (fun hHeld => ?_)
     try simp only [Act.put]
     clear hK
     clear hkR
     refine wpAnyH_take (i := 12) (oi := { dst := some 9, op := Op.assign (Operand.tmp 36), type := 4, pos := "law.go:211", after := #[{ on := 9, ground := Ground.data }, { on := 11, ground := Ground.chain }, { on := 0, ground := Ground.phase }, { on := 1, ground := Ground.phase }, { on := 2, ground := Ground.phase }, { on := 3, ground := Ground.phase }, { on := 4, ground := Ground.phase }, { on := 5, ground := Ground.phase }, { on := 6, ground := Ground.phase }, { on := 7, ground := Ground.phase }, { on := 8, ground := Ground.phase }, { on := 9, ground := Ground.phase }, { on := 10, ground := Ground.phase }, { on := 11, ground := Ground.phase }], guard := none }) (v := .bool bh) rfl (by kernel_rfl) (by kernel_rfl) (by kernel_rfl) (fun _ _ _ h => h) (Or.inl ⟨by rfl, fun w hSw => by (try dsimp only at hSw); go_simp⟩) hHeld ?_
     try simp only [Act.put, List.setIfInBounds_toArray, List.set_cons_zero, List.set_cons_succ]
     have HSe := Lib.hid hHeld
     refine wpAnyH_done (by kernel_rfl) ?_ _
     clear hHeld
     go_wp2
     go_meet
     exact ⟨rfl, HSe⟩
   obtain ⟨rfl, HK12⟩ := hcut
   obtain ⟨w2, hw2⟩ : ∃ W, W = wc := ⟨_, rfl⟩
   subst hw2
   have t1 := HIx.out _ HK12.out
   go_upto_region 8 with fail
   go_cut [46] (fun s46 wx => ∃ b46 : Bool, s46 = .bool b46 ∧ Hid (b46 = false → x.1.par = 0 ∨ ∃ p ∈ LY.map (·.1), p.idx = x.1.par) ∧ wx = w2)
   case first =>
    by_cases hp0 : x.1.par = 0
    ·rw [hp0] at t1
     have HP0 := Lib.hid hp0
     clear hp0
     go_wp2
     go_meet
     exact ⟨_, rfl, Lib.hid fun _ => .inl HP0.out, rfl⟩
    ·cases bh with
     | true =>
      go_wp2
      go_meet
      exact ⟨_, rfl, Lib.hid fun _ => .inr (find_par Hbh.out), rfl⟩
     | false =>
      go_wp2
      go_meet
      exact ⟨x.1.par != 0, rfl, Lib.hid fun h => .inl (by simpa using h), rfl⟩
   obtain ⟨b46, rfl, HB46, hwc⟩ := hcut
   obtain rfl : wc = w2 := hwc
   go_upto_if 46 with fail
   go_cut [7] (fun s7 wx => ∃ (r2 : Nat) (x2 : De.DV), s7 = .int .i64 (r2 : Int) ∧ r2 < m ∧ Hid (LL[r2]? = some x2) ∧ Hid (x2.1.par = 0 ∨ ∃ p ∈ LY.map (·.1), p.idx = x2.1.par) ∧ wx = wc)
   case first =>
    cases b46 with
    | false =>
     go_wp2
     go_meet
     exact ⟨r, x, rfl, hr, HX, Lib.hid (HB46.out (by first | rfl | trivial)), rfl⟩
    | true =>
     have h0m : 0 < m := by omega
     have HX0 := Lib.hid (show ∃ x0, LL[0]? = some x0 from ⟨LL[0]'(by rw [HLen.out]; exact h0m), List.getElem?_eq_getElem _⟩)
     go_wp2
     go_meet
     obtain ⟨x0, hx0⟩ := HX0.out
     exact ⟨0, x0, rfl, h0m, Lib.hid hx0, Lib.hid (HPt.out.first HTrL.out.val (by rw [List.getElem?_map, hx0]; rfl)), rfl⟩
   obtain ⟨r2, x2, rfl, hr2, HX2, HP2, hwc⟩ := hcut
   subst hwc
   obtain ⟨w2, hw2⟩ : ∃ W, W = wc := ⟨_, rfl⟩
   subst hw2
   have HB2 := Lib.hid (HB1.out.kp HK12.out)
   have HT2 := Lib.hid (HT1.out.kp HK12.out (by simp))
   have HM2 := Lib.hid (HM1.out.below HK12.out.bel)
   have HY2 := Lib.hid ((HK12.out.block Y (block_lt HY1.out) (by simp)).trans HY1.out)
   have HKw2 := Lib.hid (HKw1.out.trans (HK12.out.mono (by simp)))
   have hrow := HRow.out.below Hg.out HK12.out.bel
   have hg := Nat.lt_of_lt_of_le Hg.out HK12.out.size
   clear t1 HYk HIx HFd HRow Hg HB1 HY1 HM1 HKw1 HT1 HK12 HX Hbh hr
   have HRow := Lib.hid hrow
   have Hg := Lib.hid hg
   clear hrow hg
   have HYk := Lib.hid (fun (W : World) (hk : Kp [] w2 W) => cell_one ((hk.block Y (block_lt HY2.out) (by simp)).trans HY2.out))
   have HRn := Lib.hid (show ∀ W, Kp [] w2 W → W.rangeAt g (o + r2 * 10) (De.dvC x2.1 x2.2) from fun W hk => (HRow.out.below Hg.out hk.bel).at_ r2 x2 HX2.out)
   have HI40 := Lib.hid (fun (W : World) (hk : Kp [] w2 W) => insert_part HTrL.out (by omega) (HB2.out.kp hk).y HPt.out HX2.out HP2.out ((HRow.out.below Hg.out hk.bel).ats x2 (List.mem_of_getElem? HX2.out)) (HM2.out.below hk.bel))
   go_upto_region 10 with fail
   go_cut [10, 11] (fun s10 s11 wx => ∃ (R8 : Nat) (na : Option Addr) (nn nc : Nat) (L2 : List De.DV), s10 = .pointer (some ⟨R8, 0, none⟩) ∧ s11 = .int .i64 0 ∧ Hid (wx.heap[R8]? = some (.cells #[.slice na nn nc] 29 (0, 0))) ∧ Hid (De.DHas wx (.slice na nn nc) L2) ∧ Hid (De.Part (L.map (·.1)) (L2.map (·.1)) ((LL.take r2 ++ LL.drop (r2 + 1)).map (·.1))) ∧ Hid (Kp [] w2 wx))
   case first =>
    refine wp_region_held_drew (S := fun W => Kp [] w2 W) (by kernel_rfl) ((Kp.refl [] w2).drew 1) (fun hHeld => ?_)
    generalize hwd : w2.drew = wd at *
    clear hwd
    refine wpAnyH_take (i := 0) (oi := { dst := some 48, op := Op.load 29 (Operand.tmp 6), type := 29, pos := "law.go:215", after := #[], guard := none }) (v := .agg #[.slice ya yn yc]) rfl (by kernel_rfl) (by kernel_rfl) (by kernel_rfl) (fun _ _ _ h => h) (Or.inl ⟨by rfl, fun w hSw => by (try dsimp only at hSw); have t0 := HYk.out _ hSw; go_simp⟩) hHeld ?_
    try simp only [Act.put, List.setIfInBounds_toArray, List.set_cons_zero, List.set_cons_succ]
    refine wpAnyH_take (i := 1) (oi := { dst := some 49, op := Op.move (Operand.tmp 5), type := 22, pos := "law.go:215", after := #[], guard := none }) (v := .slice (some ⟨g, o, none⟩) m lc) rfl (by kernel_rfl) (by kernel_rfl) (by kernel_rfl) (fun _ _ _ h => h) (Or.inl ⟨by rfl, fun w hSw => by (try dsimp only at hSw); go_simp⟩) hHeld ?_
    try simp only [Act.put, List.setIfInBounds_toArray, List.set_cons_zero, List.set_cons_succ]
    refine wpAnyH_take (i := 2) (oi := { dst := some 50, op := Op.move (Operand.tmp 7), type := 3, pos := "law.go:215", after := #[], guard := none }) (v := .int .i64 (r2 : Int)) rfl (by kernel_rfl) (by kernel_rfl) (by kernel_rfl) (fun _ _ _ h => h) (Or.inl ⟨by rfl, fun w hSw => by (try dsimp only at hSw); go_simp⟩) hHeld ?_
    try simp only [Act.put, List.setIfInBounds_toArray, List.set_cons_zero, List.set_cons_succ]
    refine wpAnyH_take (i := 3) (oi := { dst := some 51, op := Op.indexAddr 22 (Operand.tmp 49) (Operand.tmp 50), type := 0, pos := "law.go:215", after := #[{ on := 1, ground := Ground.data }, { on := 2, ground := Ground.data }], guard := none }) (v := .pointer (some ⟨g, o + r2 * 10, none⟩)) rfl (by kernel_rfl) (by kernel_rfl) (by kernel_rfl) (fun _ _ _ h => h) (Or.inl ⟨by rfl, fun w hSw => by (try dsimp only at hSw); go_simp⟩) hHeld ?_
    try simp only [Act.put, List.setIfInBounds_toArray, List.set_cons_zero, List.set_cons_succ]
    refine wpAnyH_take (i := 4) (oi := { dst := some 52, op := Op.load 34 (Operand.tmp 51), type := 34, pos := "law.go:215", after := #[{ on := 3, ground := Ground.data }], guard := none }) (v := .agg (De.dvC x2.1 x2.2).toArray) rfl (by kernel_rfl) (by kernel_rfl) (by kernel_rfl) (fun _ _ _ h => h) (yieldsIf_load_mid (by rfl) 34 _ rfl g (o + r2 * 10) rfl (De.dvC x2.1 x2.2) _ (fun w hSw => HRn.out _ hSw) Tryz.underlying34 rfl De.info34b) hHeld ?_
    try simp only [Act.put, List.setIfInBounds_toArray, List.set_cons_zero, List.set_cons_succ]
    refine wpAnyH_ready (rs := [5, 9]) (by kernel_rfl) (by simp) ?_
    refine AllReadyH.cons (o := { dst := some 53, op := Op.call { callee := Callee.value (Operand.func 40), args := #[Operand.tmp 48, Operand.tmp 52], argTypes := #[29, 34] }, type := 52, pos := "law.go:215", after := #[{ on := 0, ground := Ground.data }, { on := 4, ground := Ground.data }], guard := none }) rfl (fun K hK => ?_) (AllReadyH.cons (o := { dst := some 10, op := Op.alloc 29, type := 0, pos := "law.go:215", after := #[], guard := none }) rfl (fun K hK => ?_) AllReadyH.nil)
    ·skip
     go_simp
     go_at_call 40
     refine Calls.mono (by with_reducible exact HI40.out _ hHeld) ?_
     rintro e V ⟨na, nn, nc, L2, rfl, HD2, HP2, HKv⟩
     dsimp only
     have hS := hHeld.trans HKv.out
     clear hHeld
     refine hK.out _ _ hS (fun hHeld => ?_)
     try simp only [Act.put, List.setIfInBounds_toArray, List.set_cons_zero, List.set_cons_succ]
     clear hK
     clear hS
     refine wpAnyH_take (i := 6) (oi := { dst := some 47, op := Op.move (Operand.tmp 53), type := 52, pos := "law.go:215", after := #[{ on := 5, ground := Ground.data }], guard := none }) (v := .tuple #[.agg #[.slice na nn nc], .int .i64 0]) rfl (by kernel_rfl) (by kernel_rfl) (by kernel_rfl) (fun _ _ _ h => h) (Or.inl ⟨by rfl, fun w hSw => by (try dsimp only at hSw); go_simp⟩) hHeld ?_
     try simp only [Act.put, List.setIfInBounds_toArray, List.set_cons_zero, List.set_cons_succ]
     refine wpAnyH_take (i := 7) (oi := { dst := some 54, op := Op.extract (Operand.tmp 47) 0, type := 29, pos := "law.go:215", after := #[{ on := 6, ground := Ground.data }], guard := none }) (v := .agg #[.slice na nn nc]) rfl (by kernel_rfl) (by kernel_rfl) (by kernel_rfl) (fun _ _ _ h => h) (Or.inl ⟨by rfl, fun w hSw => by (try dsimp only at hSw); go_simp⟩) hHeld ?_
     try simp only [Act.put, List.setIfInBounds_toArray, List.set_cons_zero, List.set_cons_succ]
     refine wpAnyH_take (i := 8) (oi := { dst := some 55, op := Op.extract (Operand.tmp 47) 1, type := 36, pos := "law.go:215", after := #[{ on := 6, ground := Ground.data }, { on := 10, ground := Ground.gcOnly Departure.lateStores }], guard := none }) (v := .int .i64 0) rfl (by kernel_rfl) (by kernel_rfl) (by kernel_rfl) (fun _ _ _ h => h) (Or.inl ⟨by rfl, fun w hSw => by (try dsimp only at hSw); go_simp⟩) hHeld ?_
     try simp only [Act.put, List.setIfInBounds_toArray, List.set_cons_zero, List.set_cons_succ]
     refine wpAnyH_ready (rs := [9]) (by kernel_rfl) (by simp) ?_
     refine AllReadyH.cons (o := { dst := some 10, op := Op.alloc 29, type := 0, pos := "law.go:215", after := #[], guard := none }) rfl (fun K hK => ?_) AllReadyH.nil
     go_simp
     have hkn := (Kp.refl [] V).alloc (.cells #[.slice none 0 0] 29)
     have hr8 := heap_alloc_last V (.cells #[.slice none 0 0] 29)
     obtain ⟨R8, hR8⟩ : ∃ R, V.heap.size = R := ⟨_, rfl⟩
     generalize V.alloc (.cells #[.slice none 0 0] 29) = w8 at *
     rw [hR8] at hr8 ⊢
     have HRr := Lib.hid hr8
     have HRge := Lib.hid (show w2.heap.size ≤ R8 from by rw [← hR8]; exact hHeld.size)
     have hd2 := HD2.out.below hkn.bel
     clear HD2
     have HD2 := Lib.hid hd2
     have hS := hHeld.trans hkn
     clear hkn hr8 hR8 hd2
     clear hHeld
     refine hK.out _ _ hS (fun hHeld => ?_)
     try simp only [Act.put, List.setIfInBounds_toArray, List.set_cons_zero, List.set_cons_succ]
     clear hK
     clear hS
     refine wpAnyH_ready (rs := [10]) (by kernel_rfl) (by simp) ?_
     refine AllReadyH.cons (o := { dst := none, op := Op.store 29 (Operand.tmp 10) (Operand.tmp 54), type := 0, pos := "law.go:215", after := #[{ on := 9, ground := Ground.data }, { on := 7, ground := Ground.data }, { on := 5, ground := Ground.chain }, { on := 0, ground := Ground.phase }, { on := 1, ground := Ground.phase }, { on := 2, ground := Ground.phase }, { on := 3, ground := Ground.phase }, { on := 4, ground := Ground.phase }, { on := 5, ground := Ground.phase }, { on := 6, ground := Ground.phase }, { on := 7, ground := Ground.phase }, { on := 8, ground := Ground.textOnly Departure.lateStores }, { on := 9, ground := Ground.phase }], guard := none }) rfl (fun K hK => ?_) AllReadyH.nil
     refine step_store rfl 29 (.tmp 10) (.tmp 54) rfl R8 #[.slice na nn nc] rfl rfl 29 #[.slice none 0 0] HRr.out info30b rfl (sl_one _ _ _) ?_
     have HRe := Lib.hid (setRow_heap _ _ _ #[.slice na nn nc] _ _ HRr.out)
     have hkR : Kp [R8] w8 (w8.setRow R8 #[.slice na nn nc]) := (Kp.refl [R8] _).setRow (.inl (by simp)) _
     generalize w8.setRow R8 #[.slice na nn nc] = we at *
     have HDe := Lib.hid (dhasR HD2.out hkR HRr.out)
     have hS := hHeld.up hkR (by intro z hz; simp at hz; subst hz; exact .inr HRge.out)
     clear hkR
     clear hHeld
     refine hK.out _ _ hS (fun hHeld => ?_)
     try simp only [Act.put]
     clear hK
     clear hS
     refine wpAnyH_take (i := 11) (oi := { dst := some 11, op := Op.assign (Operand.tmp 55), type := 36, pos := "law.go:215", after := #[{ on := 8, ground := Ground.data }, { on := 10, ground := Ground.chain }, { on := 0, ground := Ground.phase }, { on := 1, ground := Ground.phase }, { on := 2, ground := Ground.phase }, { on := 3, ground := Ground.phase }, { on := 4, ground := Ground.phase }, { on := 5, ground := Ground.phase }, { on := 6, ground := Ground.phase }, { on := 7, ground := Ground.phase }, { on := 8, ground := Ground.phase }, { on := 9, ground := Ground.phase }, { on := 10, ground := Ground.phase }], guard := none }) (v := .int .i64 0) rfl (by kernel_rfl) (by kernel_rfl) (by kernel_rfl) (fun _ _ _ h => h) (Or.inl ⟨by rfl, fun w hSw => by (try dsimp only at hSw); go_simp⟩) hHeld ?_
     try simp only [Act.put, List.setIfInBounds_toArray, List.set_cons_zero, List.set_cons_succ]
     have HSe := Lib.hid hHeld
     refine wpAnyH_done (by kernel_rfl) ?_ _
     clear hHeld
     go_wp2
     go_meet
     exact ⟨R8, na, nn, nc, L2, rfl, rfl, HRe, HDe, HP2, HSe⟩
    ·skip
     go_simp
     have hkn := (Kp.refl [] wd).alloc (.cells #[.slice none 0 0] 29)
     have hr8 := heap_alloc_last wd (.cells #[.slice none 0 0] 29)
     obtain ⟨R8, hR8⟩ : ∃ R, wd.heap.size = R := ⟨_, rfl⟩
     generalize wd.alloc (.cells #[.slice none 0 0] 29) = w8 at *
     rw [hR8] at hr8 ⊢
     have HRr := Lib.hid hr8
     have HRge := Lib.hid (show w2.heap.size ≤ R8 from by rw [← hR8]; exact hHeld.size)
     have hS := hHeld.trans hkn
     clear hkn hr8 hR8
     clear hHeld
     refine hK.out _ _ hS (fun hHeld => ?_)
     try simp only [Act.put, List.setIfInBounds_toArray, List.set_cons_zero, List.set_cons_succ]
     clear hK
     clear hS
     refine wpAnyH_ready (rs := [5]) (by kernel_rfl) (by simp) ?_
     refine AllReadyH.cons (o := { dst := some 53, op := Op.call { callee := Callee.value (Operand.func 40), args := #[Operand.tmp 48, Operand.tmp 52], argTypes := #[29, 34] }, type := 52, pos := "law.go:215", after := #[{ on := 0, ground := Ground.data }, { on := 4, ground := Ground.data }], guard := none }) rfl (fun K hK => ?_) AllReadyH.nil
     go_simp
     go_at_call 40
     refine Calls.mono (by with_reducible exact HI40.out _ hHeld) ?_
     rintro e V ⟨na, nn, nc, L2, rfl, HD2, HP2, HKv⟩
     dsimp only
     have hrv := (HKv.out.block R8 (block_lt HRr.out) (by simp)).trans HRr.out
     clear HRr
     have HRr := Lib.hid hrv
     have hS := hHeld.trans HKv.out
     clear hrv
     clear hHeld
     refine hK.out _ _ hS (fun hHeld => ?_)
     try simp only [Act.put, List.setIfInBounds_toArray, List.set_cons_zero, List.set_cons_succ]
     clear hK
     clear hS
     refine wpAnyH_take (i := 6) (oi := { dst := some 47, op := Op.move (Operand.tmp 53), type := 52, pos := "law.go:215", after := #[{ on := 5, ground := Ground.data }], guard := none }) (v := .tuple #[.agg #[.slice na nn nc], .int .i64 0]) rfl (by kernel_rfl) (by kernel_rfl) (by kernel_rfl) (fun _ _ _ h => h) (Or.inl ⟨by rfl, fun w hSw => by (try dsimp only at hSw); go_simp⟩) hHeld ?_
     try simp only [Act.put, List.setIfInBounds_toArray, List.set_cons_zero, List.set_cons_succ]
     refine wpAnyH_take (i := 7) (oi := { dst := some 54, op := Op.extract (Operand.tmp 47) 0, type := 29, pos := "law.go:215", after := #[{ on := 6, ground := Ground.data }], guard := none }) (v := .agg #[.slice na nn nc]) rfl (by kernel_rfl) (by kernel_rfl) (by kernel_rfl) (fun _ _ _ h => h) (Or.inl ⟨by rfl, fun w hSw => by (try dsimp only at hSw); go_simp⟩) hHeld ?_
     try simp only [Act.put, List.setIfInBounds_toArray, List.set_cons_zero, List.set_cons_succ]
     refine wpAnyH_take (i := 8) (oi := { dst := some 55, op := Op.extract (Operand.tmp 47) 1, type := 36, pos := "law.go:215", after := #[{ on := 6, ground := Ground.data }, { on := 10, ground := Ground.gcOnly Departure.lateStores }], guard := none }) (v := .int .i64 0) rfl (by kernel_rfl) (by kernel_rfl) (by kernel_rfl) (fun _ _ _ h => h) (Or.inl ⟨by rfl, fun w hSw => by (try dsimp only at hSw); go_simp⟩) hHeld ?_
     try simp only [Act.put, List.setIfInBounds_toArray, List.set_cons_zero, List.set_cons_succ]
     refine wpAnyH_ready (rs := [10]) (by kernel_rfl) (by simp) ?_
     refine AllReadyH.cons (o := { dst := none, op := Op.store 29 (Operand.tmp 10) (Operand.tmp 54), type := 0, pos := "law.go:215", after := #[{ on := 9, ground := Ground.data }, { on := 7, ground := Ground.data }, { on := 5, ground := Ground.chain }, { on := 0, ground := Ground.phase }, { on := 1, ground := Ground.phase }, { on := 2, ground := Ground.phase }, { on := 3, ground := Ground.phase }, { on := 4, ground := Ground.phase }, { on := 5, ground := Ground.phase }, { on := 6, ground := Ground.phase }, { on := 7, ground := Ground.phase }, { on := 8, ground := Ground.textOnly Departure.lateStores }, { on := 9, ground := Ground.phase }], guard := none }) rfl (fun K hK => ?_) AllReadyH.nil
     refine step_store rfl 29 (.tmp 10) (.tmp 54) rfl R8 #[.slice na nn nc] rfl rfl 29 #[.slice none 0 0] HRr.out info30b rfl (sl_one _ _ _) ?_
     have HRe := Lib.hid (setRow_heap _ _ _ #[.slice na nn nc] _ _ HRr.out)
     have hkR : Kp [R8] V (V.setRow R8 #[.slice na nn nc]) := (Kp.refl [R8] _).setRow (.inl (by simp)) _
     generalize V.setRow R8 #[.slice na nn nc] = we at *
     have HDe := Lib.hid (dhasR HD2.out hkR HRr.out)
     have hS := hHeld.up hkR (by intro z hz; simp at hz; subst hz; exact .inr HRge.out)
     clear hkR
     clear hHeld
     refine hK.out _ _ hS (fun hHeld => ?_)
     try simp only [Act.put]
     clear hK
     clear hS
     refine wpAnyH_take (i := 11) (oi := { dst := some 11, op := Op.assign (Operand.tmp 55), type := 36, pos := "law.go:215", after := #[{ on := 8, ground := Ground.data }, { on := 10, ground := Ground.chain }, { on := 0, ground := Ground.phase }, { on := 1, ground := Ground.phase }, { on := 2, ground := Ground.phase }, { on := 3, ground := Ground.phase }, { on := 4, ground := Ground.phase }, { on := 5, ground := Ground.phase }, { on := 6, ground := Ground.phase }, { on := 7, ground := Ground.phase }, { on := 8, ground := Ground.phase }, { on := 9, ground := Ground.phase }, { on := 10, ground := Ground.phase }], guard := none }) (v := .int .i64 0) rfl (by kernel_rfl) (by kernel_rfl) (by kernel_rfl) (fun _ _ _ h => h) (Or.inl ⟨by rfl, fun w hSw => by (try dsimp only at hSw); go_simp⟩) hHeld ?_
     try simp only [Act.put, List.setIfInBounds_toArray, List.set_cons_zero, List.set_cons_succ]
     have HSe := Lib.hid hHeld
     refine wpAnyH_done (by kernel_rfl) ?_ _
     clear hHeld
     go_wp2
     go_meet
     exact ⟨R8, na, nn, nc, L2, rfl, rfl, HRe, HDe, HP2, HSe⟩
   obtain ⟨R8, na, nn, nc, L2, rfl, rfl, HR8, HD2, HPn, HK23⟩ := hcut
   obtain ⟨w3, hw3⟩ : ∃ W, W = wc := ⟨_, rfl⟩
   subst hw3
   have HY3 := Lib.hid ((HK23.out.block Y (block_lt HY2.out) (by simp)).trans HY2.out)
   have t0 := cell_one HR8.out
   go_upto_region 14 with (refine wpList_store_row rfl 29 _ _ rfl Y #[.slice na nn nc] rfl rfl 29 #[.slice ya yn yc] HY3.out info30b rfl (sl_one _ _ _) ?_)
   clear t0
   have hY4 := setRow_heap _ _ _ #[.slice na nn nc] _ _ HY3.out
   have hkY : Kp [Y] w3 (w3.setRow Y #[.slice na nn nc]) := (Kp.refl [Y] _).setRow (.inl (by simp)) _
   generalize w3.setRow Y #[.slice na nn nc] = w4 at *
   have HY4 := Lib.hid hY4
   have H0Y := Lib.hid (show 0 ≠ Y from by have := HYt.out.1; omega)
   have HB4 := Lib.hid ((show Bx L LL L2 (.slice va N vc) (.slice (some ⟨g, o, none⟩) m lc) (.slice na nn nc) w3 from ⟨(HB2.out.kp HK23.out).x, (HB2.out.kp HK23.out).l, HD2.out⟩).kpR hkY HY3.out)
   have HT4 := Lib.hid ((HT2.out.kp HK23.out (by simp)).kp hkY (by have := HYt.out.1; simp; omega))
   have HM4 := Lib.hid (MaxT (HM2.out.below HK23.out.bel) H0Y.out hkY)
   have HKw4 := Lib.hid ((HKw2.out.trans (HK23.out.mono (by simp))).trans (hkY.mono (by simp)))
   clear hY4 hkY
   have hlz : (LL.take r2).length = r2 ∧ (LL.drop (r2 + 1)).length = m - (r2 + 1) := by
    rw [List.length_take, List.length_drop, HLen.out]
    omega
   have HLa := Lib.hid (show ([] : List De.DV).length + (LL.take r2).length ≤ 100000 from by rw [hlz.1]; have := HmN.out; simp; omega)
   have HLb := Lib.hid (show (LL.take r2).length + (LL.drop (r2 + 1)).length ≤ 100000 from by rw [hlz.1, hlz.2]; have := HmN.out; omega)
   have HLc := Lib.hid (show (LL.take r2 ++ LL.drop (r2 + 1)).length = m - 1 from by rw [List.length_append, hlz.1, hlz.2]; omega)
   obtain ⟨o2, ho2⟩ : ∃ q, (if lc = r2 + 1 then o else o + (r2 + 1) * 10) = q := ⟨_, rfl⟩
   have Ho2 := Lib.hid ho2
   have HY1 := Lib.hid (show ∀ W, Kp [] w4 W → De.DHas W (.slice (some ⟨g, o, none⟩) r2 lc) (LL.take r2) from fun W hk => by
    obtain ⟨g', o', e, h1, h2, h3⟩ := row_of (HB4.out.kp hk).l HX2.out
    injection e with e
    injection e with e1 e2
    subst e1
    subst e2
    exact dhas_take h3 h2 HLen.out hcp (by omega))
   have HY2' := Lib.hid (show ∀ W, Kp [] w4 W → De.DHas W (.slice (some ⟨g, o2, none⟩) (m - (r2 + 1)) (lc - (r2 + 1))) (LL.drop (r2 + 1)) from fun W hk => by
    obtain ⟨g', o', e, h1, h2, h3⟩ := row_of (HB4.out.kp hk).l HX2.out
    injection e with e
    injection e with e1 e2
    subst e1
    subst e2
    exact dhas_drop h3 h2 HLen.out hcp (by omega) Ho2.out)
   clear ho2 hlz HY2
   have HY2 := HY2'
   clear HY2'
   have hw1 : IntKind.i64.wrap ((r2 : Int) + 1) = ((r2 + 1 : Nat) : Int) := by rw [IntKind.wrap_i64]; have := HmN.out; omega
   have hrz : (r2 : Int) ≤ (lc : Int) := by omega
   have hrc : ¬ lc < r2 + 1 := by omega
   have hrm : (r2 : Int) + 1 ≤ (m : Int) := by omega
   have hrn : r2 + 1 ≤ m := by omega
   refine wp_region_held_drew (S := fun W => Kp [] w4 W) (by kernel_rfl) ((Kp.refl [] w4).drew 1) (fun hHeld => ?_)
   generalize hwd : w4.drew = wd at *
   clear hwd
   refine wpAnyH_take (i := 0) (oi := { dst := some 59, op := Op.move (Operand.tmp 5), type := 22, pos := "law.go:220", after := #[], guard := none }) (v := .slice (some ⟨g, o, none⟩) m lc) rfl (by kernel_rfl) (by kernel_rfl) (by kernel_rfl) (fun _ _ _ h => h) (Or.inl ⟨by rfl, fun w hSw => by (try dsimp only at hSw); go_simp⟩) hHeld ?_
   try simp only [Act.put, List.setIfInBounds_toArray, List.set_cons_zero, List.set_cons_succ]
   refine wpAnyH_take (i := 1) (oi := { dst := some 60, op := Op.move (Operand.tmp 7), type := 3, pos := "law.go:220", after := #[], guard := none }) (v := .int .i64 (r2 : Int)) rfl (by kernel_rfl) (by kernel_rfl) (by kernel_rfl) (fun _ _ _ h => h) (Or.inl ⟨by rfl, fun w hSw => by (try dsimp only at hSw); go_simp⟩) hHeld ?_
   try simp only [Act.put, List.setIfInBounds_toArray, List.set_cons_zero, List.set_cons_succ]
   refine wpAnyH_take (i := 2) (oi := { dst := some 61, op := Op.slice 22 (Operand.tmp 59) none (some (Operand.tmp 60)) none, type := 22, pos := "law.go:220", after := #[{ on := 0, ground := Ground.data }, { on := 1, ground := Ground.data }], guard := none }) (v := .slice (some ⟨g, o, none⟩) r2 lc) rfl (by kernel_rfl) (by kernel_rfl) (by kernel_rfl) (fun _ _ _ h => h) (Or.inl ⟨by rfl, fun w hSw => by (try dsimp only at hSw); go_simp⟩) hHeld ?_
   try simp only [Act.put, List.setIfInBounds_toArray, List.set_cons_zero, List.set_cons_succ]
   refine wpAnyH_take (i := 4) (oi := { dst := some 63, op := Op.move (Operand.tmp 5), type := 22, pos := "law.go:220", after := #[], guard := none }) (v := .slice (some ⟨g, o, none⟩) m lc) rfl (by kernel_rfl) (by kernel_rfl) (by kernel_rfl) (fun _ _ _ h => h) (Or.inl ⟨by rfl, fun w hSw => by (try dsimp only at hSw); go_simp⟩) hHeld ?_
   try simp only [Act.put, List.setIfInBounds_toArray, List.set_cons_zero, List.set_cons_succ]
   refine wpAnyH_take (i := 5) (oi := { dst := some 64, op := Op.move (Operand.tmp 7), type := 3, pos := "law.go:220", after := #[], guard := none }) (v := .int .i64 (r2 : Int)) rfl (by kernel_rfl) (by kernel_rfl) (by kernel_rfl) (fun _ _ _ h => h) (Or.inl ⟨by rfl, fun w hSw => by (try dsimp only at hSw); go_simp⟩) hHeld ?_
   try simp only [Act.put, List.setIfInBounds_toArray, List.set_cons_zero, List.set_cons_succ]
   refine wpAnyH_take (i := 6) (oi := { dst := some 65, op := Op.binOp BinOp.add 3 (Operand.tmp 64) (Operand.const (Value.int IntKind.i64 1)) 3, type := 3, pos := "law.go:220", after := #[{ on := 5, ground := Ground.data }], guard := none }) (v := .int .i64 ((r2 + 1 : Nat) : Int)) rfl (by kernel_rfl) (by kernel_rfl) (by kernel_rfl) (fun _ _ _ h => h) (Or.inl ⟨by rfl, fun w hSw => by (try dsimp only at hSw); go_simp⟩) hHeld ?_
   try simp only [Act.put, List.setIfInBounds_toArray, List.set_cons_zero, List.set_cons_succ]
   refine wpAnyH_take (i := 7) (oi := { dst := some 66, op := Op.slice 22 (Operand.tmp 63) (some (Operand.tmp 65)) none none, type := 22, pos := "law.go:220", after := #[{ on := 4, ground := Ground.data }, { on := 6, ground := Ground.data }], guard := none }) (v := .slice (some ⟨g, o2, none⟩) (m - (r2 + 1)) (lc - (r2 + 1))) rfl (by kernel_rfl) (by kernel_rfl) (by kernel_rfl) (fun _ _ _ h => h) (Or.inl ⟨by rfl, fun w hSw => by (try dsimp only at hSw); go_simp; rw [← Ho2.out]; split <;> first | (split <;> rfl) | (exfalso; omega)⟩) hHeld ?_
   try simp only [Act.put, List.setIfInBounds_toArray, List.set_cons_zero, List.set_cons_succ]
   refine wpAnyH_ready (rs := [3]) (by kernel_rfl) (by simp) ?_
   refine AllReadyH.cons (o := { dst := some 62, op := Op.call { callee := Callee.builtin Builtin.append, args := #[Operand.const (Value.slice none 0 0), Operand.tmp 61], argTypes := #[22, 22] }, type := 22, pos := "law.go:220", after := #[{ on := 2, ground := Ground.data }], guard := none }) rfl (fun K hK => ?_) AllReadyH.nil
   obtain ⟨v6, w6, hrun, how, hgr⟩ := run_append_dvs (w := wd) (base := w4.heap.size) (v := .slice none 0 0) (xs := []) (ys := LL.take r2) (ty := 22) (World.ownsRow_nil _ _ _ _) (HY1.out _ hHeld) HLa.out hHeld.size
   have HR := Lib.hid hrun
   have HO6 := Lib.hid how
   have hS : Kp [] w4 w6 := kp_grownS hHeld hgr (fun b hb => by cases hb)
   clear hrun how hgr
   refine step_append_run rfl _ _ rfl _ _ _ rfl rfl HR.out ?_
   clear hHeld
   refine hK.out _ _ hS (fun hHeld => ?_)
   try simp only [Act.put, List.setIfInBounds_toArray, List.set_cons_zero, List.set_cons_succ]
   clear hK
   clear hS HR
   refine wpAnyH_ready (rs := [8]) (by kernel_rfl) (by simp) ?_
   refine AllReadyH.cons (o := { dst := some 67, op := Op.call { callee := Callee.builtin Builtin.append, args := #[Operand.tmp 62, Operand.tmp 66], argTypes := #[22, 22] }, type := 22, pos := "law.go:220", after := #[{ on := 3, ground := Ground.data }, { on := 7, ground := Ground.data }, { on := 3, ground := Ground.chain }], guard := none }) rfl (fun K hK => ?_) AllReadyH.nil
   obtain ⟨v9, w9, hrun, how, hgr⟩ := run_append_dvs (w := w6) (base := w4.heap.size) (v := v6) (xs := LL.take r2) (ys := LL.drop (r2 + 1)) (ty := 22) HO6.out (HY2.out _ hHeld) HLb.out hHeld.size
   have HR := Lib.hid hrun
   have HO9 := Lib.hid how
   have hS : Kp [] w4 w9 := kp_grownS hHeld hgr (fun b hb => (HO6.out.lt b hb).1)
   clear hrun how hgr
   refine step_append_run rfl _ _ rfl _ _ _ rfl rfl HR.out ?_
   clear hHeld
   refine hK.out _ _ hS (fun hHeld => ?_)
   try simp only [Act.put, List.setIfInBounds_toArray, List.set_cons_zero, List.set_cons_succ]
   clear hK
   clear hS HR
   refine wpAnyH_take (i := 9) (oi := { dst := some 5, op := Op.assign (Operand.tmp 67), type := 22, pos := "law.go:220", after := #[{ on := 8, ground := Ground.data }, { on := 8, ground := Ground.chain }, { on := 0, ground := Ground.phase }, { on := 1, ground := Ground.phase }, { on := 2, ground := Ground.phase }, { on := 3, ground := Ground.phase }, { on := 4, ground := Ground.phase }, { on := 5, ground := Ground.phase }, { on := 6, ground := Ground.phase }, { on := 7, ground := Ground.phase }, { on := 8, ground := Ground.phase }], guard := none }) (v := v9) rfl (by kernel_rfl) (by kernel_rfl) (by kernel_rfl) (fun _ _ _ h => h) (Or.inl ⟨by rfl, fun w hSw => by (try dsimp only at hSw); go_simp⟩) hHeld ?_
   try simp only [Act.put, List.setIfInBounds_toArray, List.set_cons_zero, List.set_cons_succ]
   have HSe := Lib.hid hHeld
   refine wpAnyH_done (by kernel_rfl) ?_ _
   clear hHeld
   go_wp2
   obtain ⟨fa, fc, hv9⟩ := own_form HO9.out
   rw [HLc.out] at hv9
   subst hv9
   have hb9 := HB4.out.kp HSe.out
   exact ⟨⟨fa, m - 1, fc, rfl, Lib.hid ⟨LL.take r2 ++ LL.drop (r2 + 1), L2, na, nn, nc, k + 1, HLc.out, ⟨hb9.x, by
    have h1 := De.DOwn.has (W := w9) (B := w4.heap.size) (l := LL.take r2 ++ LL.drop (r2 + 1)) ⟨HO9.out, fun z hz => dhas_ats hb9.l z (by
     rcases List.mem_append.1 hz with h | h
     ·exact List.mem_of_mem_take h
     ·exact List.mem_of_mem_drop h)⟩
    exact h1, hb9.y⟩, (HSe.out.block Y (block_lt HY4.out) (by simp)).trans HY4.out, HPn.out, HT4.out.kp HSe.out (by simp), by omega, HM4.out.below HSe.out.bel⟩, Lib.hid (HKw4.out.trans (HSe.out.mono (by simp)))⟩, by simp [lenOf]; omega⟩
end Go.Proofs.YtldcediiobfhiaaGreatDoor
