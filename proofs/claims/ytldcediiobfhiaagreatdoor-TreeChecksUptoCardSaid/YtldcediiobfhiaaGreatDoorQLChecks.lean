/- TreeChecks: what is wrong with any list of devices, and with valid trees that have one fault, as the reference has it. -/
import Derived.Test.YtldcediiobfhiaaGreatDoorQZD
import Derived.Test.YtldcediiobfhiaaGreatDoorQV7
import Derived.Deep.MidRow
namespace Go.Proofs.YtldcediiobfhiaaGreatDoor
open Go.RowKit
/-- What the box of the tree holds behind the switch. -/
def ChkX (Q tb : Nat) (w2 wx : World) : Prop := ∃ xa xn xc LX, wx.heap[Q]? = some (.cells #[.slice xa xn xc] 29 (0, 0)) ∧ De.DHas wx (.slice xa xn xc) LX ∧ De.ROk LX ∧ Kp [tb, Q] w2 wx
set_option maxHeartbeats 16000000 in
set_option maxRecDepth 100000 in
theorem checks_walk (ra : Option Addr) (rn rc : Nat) (LR : List De.DV) (a0 : Option Addr) (n0 c0 : Nat) (w : World) (hm : De.Max w) (hraw : De.DHas w (.slice ra rn rc) LR) (hrok : rn ≤ 40 → De.ROk LR) (hi : Ints w w.heap.size (.slice a0 n0 c0)) : Calls Tryz.prog 3 #[.slice ra rn rc, .slice a0 n0 c0] w fun e w' => e = .returned (.bool true) ∧ Below w.heap.size w w' := by
 by_cases h40 : 40 < rn
 ·have hz : (40 : Int) < (rn : Int) := by omega
  have HKn := Lib.hid (De.known_any w hm)
  clear hm hi hraw hrok h40
  go_enter Tryz.func3, Tryz.ntmps3
  go_wp2_with (go_at_call 12; refine Calls.mono (by with_reducible exact HKn.out) ?_; rintro e w7 ⟨rfl, hk7⟩; have HK7 := Lib.hid hk7; clear hk7)
  go_ret
  exact ⟨rfl, HK7.out.bel⟩
 have hz40 : ¬ (40 : Int) < (rn : Int) := by omega
 have HRaw := Lib.hid hraw
 have HRok := Lib.hid (hrok (by omega))
 clear hraw hrok h40
 obtain ⟨tb, htb⟩ : ∃ tb, w.heap.size = tb := ⟨_, rfl⟩
 obtain ⟨W0, hW⟩ : ∃ W0, w.alloc (.cells #[.slice a0 n0 c0, .int .i64 0] 27) = W0 := ⟨_, rfl⟩
 have hk0 : Kp [] w W0 := by rw [← hW]; exact (Kp.refl [] w).alloc _
 have hT0 : Tp W0 tb 0 := by rw [← hW, ← htb]; exact tape_new hi
 have HTr0 := Lib.hid (tree9 (by omega) hT0 (hm.below hk0.bel))
 have HK0 := Lib.hid (show Kp [tb] w W0 from hk0.mono (by simp))
 have Htb := Lib.hid htb
 have H0t := Lib.hid (max_tp (hm.below hk0.bel) hT0)
 have HM0 := Lib.hid (hm.below hk0.bel)
 clear hk0 hT0 hi hm
 go_enter Tryz.func3, Tryz.ntmps3
 go_upto_region 5 with (first
  | (go_at_call 13; refine Calls.mono (by with_reducible exact HTr0.out) ?_; rintro e w1 ⟨va, N, vc, L, rfl, HN, hNc, hN9, HTr, k1, hk1, HT, HK1⟩; have H1v := Lib.hid (show (#[.slice va N vc] : Array Value).all (·.oneCell') = true from by simp [Value.oneCell']))
  | (refine De.wpList_store_new w1 29 _ #[.slice va N vc] rfl _ _ rfl rfl rfl info30b rfl H1v.out ?_))
 obtain ⟨Q, hQ⟩ : ∃ Q, w1.heap.size = Q := ⟨_, rfl⟩
 have hq1 := heap_alloc_last w1 (.cells #[.slice va N vc] 29)
 have hka := (Kp.refl [] w1).alloc (.cells #[.slice va N vc] 29)
 generalize w1.alloc (.cells #[.slice va N vc] 29) = w2 at *
 rw [hQ] at hq1 ⊢
 have HQ2 := Lib.hid hq1
 have t0 := cell_one hq1
 have HT2 := Lib.hid (HT.out.kp hka (by simp))
 have HTr2 := Lib.hid (HTr.out.kp hka)
 have HK2 := Lib.hid ((HK0.out.trans HK1.out).trans (hka.mono (by simp)))
 have HM2 := Lib.hid (MaxT (MaxT HM0.out H0t.out HK1.out) H0t.out (hka.mono (by simp)))
 have HQt := Lib.hid (show tb < Q from by rw [← hQ]; exact HT.out.lt)
 have HTok := Lib.hid (tree_tok HTr2.out (by omega))
 have HSw := Lib.hid (tree_smw HTr2.out (by omega))
 go_upto_if 22 with fail
 go_cut [] (fun wx => Hid (ChkX Q tb w2 wx))
 case first =>
  by_cases hN0 : N = 0
  ·subst hN0
   go_wp2
   go_meet
   exact Lib.hid ⟨va, 0, vc, L, HQ2.out, HTr2.out.any.has, rok_of (by have := HTok.out.n; rw [HN.out]; omega) HSw.out, Kp.refl _ _⟩
  have hNz : (0 : Int) < (N : Int) := by omega
  have HLn := Lib.hid (show ([] : List De.DV).length + L.length ≤ 100000 from by have := HTok.out.n; simp; omega)
  go_upto_region 8 with (refine wpList_append_dvs rfl _ _ rfl w2.heap.size (.slice none 0 0) (.slice va N vc) [] L rfl (World.ownsRow_nil _ _ _ _) rfl HTr2.out.any.has HLn.out (Nat.le_refl _) ?_; intro v5 w3 hown hgr; obtain ⟨la, lc, hv5⟩ := own_form hown; simp only [List.nil_append, HN.out] at hv5; subst hv5; have HOw := Lib.hid hown; have HK3 := Lib.hid (show Kp [] w2 w3 from kp_grownS (Kp.refl [] w2) hgr (fun b hb => by cases hb)); have HQ3 := Lib.hid ((HK3.out.block Q (block_lt HQ2.out) (by simp)).trans HQ2.out); have q0 := cell_one HQ3.out; have qf := frz_one HQ3.out; clear hown hgr)
  clear t0
  have hne : L ≠ [] := fun e => by have h := HN.out; rw [e] at h; simp at h; omega
  obtain ⟨g, lc', hv5, hg5, hc5, hcl⟩ := De.Cl.start (w := w2) (W := w3) (u := .slice la N lc) (l := L) ⟨HOw.out, fun y hy => (dhas_ats HTr2.out.any.has y hy).below HK3.out.bel⟩ hne HK3.out.bel (fun y hy => dhas_ats HTr2.out.any.has y hy)
  rw [HN.out] at hv5 hc5
  injection hv5 with e1 e2 e3
  subst e1
  subst e3
  have HGt := Lib.hid (show g ≠ tb ∧ g ≠ Q ∧ w2.heap.size ≤ g from by have h1 := block_lt HQ2.out; have h2 := HQt.out; omega)
  have HR3 := Lib.hid (Rw.of_cl hcl)
  have HC5 := Lib.hid hc5
  have hQ4 := De.box_set1 HQ3.out (.slice (some ⟨g, 0, none⟩) N lc)
  have hk34 : Kp [Q] w3 (w3.setCell ⟨Q, 0, none⟩ (.slice (some ⟨g, 0, none⟩) N lc)) := (Kp.refl _ _).setCell (p := ⟨Q, 0, none⟩) (.inl (by simp)) _
  generalize w3.setCell ⟨Q, 0, none⟩ (.slice (some ⟨g, 0, none⟩) N lc) = w4 at *
  have HQ4 := Lib.hid hQ4
  have HRw4 := Lib.hid (HR3.out.kpR hk34 HQ3.out HGt.out.2.1)
  have HT4 := Lib.hid ((HT2.out.kp HK3.out (by simp)).kp hk34 (by have := HQt.out; simp; omega))
  have HK24 := Lib.hid (show Kp [tb, Q] w2 w4 from (HK3.out.mono (by simp)).trans (hk34.mono (by simp)))
  have HOw4 := Lib.hid (ownsRow_keep HOw.out (fun b _ hb => by
   have e : g = b := Option.some.inj hb
   subst e
   exact hk34.block g HR3.out.lt (by have := HGt.out.2.1; simpa using this)))
  clear hcl hg5 hc5 hQ4 hk34 q0 qf hne HOw
  have HNk := Lib.hid (show Calls Tryz.prog 14 #[.pointer (some ⟨tb, 0, none⟩), .int .i64 (N : Int)] w4 fun e w' => ∃ r : Nat, r < N ∧ e = .returned (.int .i64 r) ∧ Tp w' tb (k1 + 1) ∧ Kp [tb] w4 w' from next_kp N (by omega) (by omega) (by omega) HT4.out)
  go_upto_region 9 with (go_at_call 14; refine Calls.mono (by with_reducible exact HNk.out) ?_; rintro e w5 ⟨kk, hkk, rfl, hT5, hk5⟩; have HT5 := Lib.hid hT5; have HK5 := Lib.hid hk5; clear hT5 hk5)
  have HN8 := Lib.hid (show Calls Tryz.prog 14 #[.pointer (some ⟨tb, 0, none⟩), .int .i64 8] w5 fun e w' => ∃ r : Nat, r < 8 ∧ e = .returned (.int .i64 r) ∧ Tp w' tb (k1 + 1 + 1) ∧ Kp [tb] w5 w' from next_kp 8 (by omega) (by omega) (by omega) HT5.out)
  go_upto_block 0 with (go_at_call 14; refine Calls.mono (by with_reducible exact HN8.out) ?_; rintro e w6 ⟨r, hr, rfl, hT6, hk6⟩; have HT6' := Lib.hid hT6; have HK6 := Lib.hid hk6; clear hT6 hk6)
  obtain ⟨k6, hk6⟩ : ∃ k, k1 + 1 + 1 = k := ⟨_, rfl⟩
  have hk6b : k6 ≤ 500 := by omega
  have HT6 := Lib.hid (show Tp w6 tb k6 from by rw [← hk6]; exact HT6'.out)
  have HK46 := Lib.hid (HK5.out.trans HK6.out)
  have HRw6 := Lib.hid (HRw4.out.kpT HT4.out HK46.out HGt.out.1)
  have HQ6 := Lib.hid ((HK46.out.block Q (block_lt HQ4.out) (by have := HQt.out; simp; omega)).trans HQ4.out)
  have HK26 := Lib.hid (HK24.out.trans (HK46.out.mono (by simp)))
  have HOw6 := Lib.hid (ownsRow_keep HOw4.out (fun b _ hb => by
   have e : g = b := Option.some.inj hb
   subst e
   exact HK46.out.block g HRw4.out.lt (by have := HGt.out.1; simpa using this)))
  have HQk := Lib.hid (fun (W : World) (hk : Kp [tb, g] w6 W) => cell_one ((hk.block Q (block_lt HQ6.out) (by have := HQt.out; have := HGt.out.2.1; simp; omega)).trans HQ6.out))
  have HEnd := Lib.hid (fun (we : World) (LX : List De.DV) (hk : Kp [tb, g] w6 we) (hr : Rw g LX we) (hn : LX.length = N) (hs : ∀ y ∈ LX, SmW y.1) => (show Hid (ChkX Q tb w2 we) from Lib.hid
   ⟨some ⟨g, 0, none⟩, N, lc, LX, (hk.block Q (block_lt HQ6.out) (by have := HQt.out; have := HGt.out.2.1; simp; omega)).trans HQ6.out, by
    have h := hr.has (c := lc) (by rw [hn]; exact HC5.out)
    rw [hn] at h
    exact h, rok_of (by rw [hn]; omega) hs, HK26.out.up hk (by intro z hz; simp at hz; rcases hz with rfl | rfl; exact .inl (by simp); exact .inr HGt.out.2.2)⟩))
  have HQ0 := Lib.hid (fun (W : World) (hk : Kp [tb] w6 W) => (hk.block Q (block_lt HQ6.out) (by have := HQt.out; simp; omega)).trans HQ6.out)
  have HQ1 := Lib.hid (fun (W : World) (hk : Kp [tb] w6 W) => cell_one (HQ0.out W hk))
  have HDV := Lib.hid (fun W (hk : Kp [] w6 W) => (show Calls Tryz.prog 15 #[.pointer (some ⟨tb, 0, none⟩), .agg #[.slice (some ⟨g, 0, none⟩) N lc]] W (WdPost2 tb k6 W) from by
   have h := wdev2_any (k := k6) (by omega) (HT6.out.kp hk (by simp)) L (some ⟨g, 0, none⟩) lc (by have := HTok.out.n; have := HN.out; omega) HTok.out.wi (fun i x hx => ⟨g, 0, rfl, Nat.lt_of_lt_of_le HRw6.out.lt hk.size, HGt.out.1, fun j y hy => by
    have h := (HRw6.out.kp0 hk).row j y hy 0 _ rfl
    rw [Nat.zero_add]
    exact h⟩)
   rw [HN.out] at h
   exact h))
  obtain ⟨⟨⟨xi, xp, xn, xo, xu, xd, xl, xk, xm, xa⟩, xv⟩, hx⟩ : ∃ x, L[kk]? = some x := ⟨L[kk]'(by rw [HN.out]; exact hkk), List.getElem?_eq_getElem _⟩
  have HX := Lib.hid hx
  have HSX := Lib.hid (HSw.out _ (List.mem_of_getElem? hx))
  have hkz : (kk : Int) < (N : Int) := by omega
  clear hx hk6 HT6' HNk HN8 HT4 HT5 HK5 HK6 HK24 HK46 HRw4 HOw4 HR3 HQ3 HQ4 HK3
  have hr8 : r = 0 ∨ r = 1 ∨ r = 2 ∨ r = 3 ∨ r = 4 ∨ r = 5 ∨ r = 6 ∨ r = 7 := by omega
  rcases hr8 with rfl | rfl | rfl | rfl | rfl | rfl | rfl | rfl
  ·go_upto_region 11 with fail
   refine wp_region_held_drew (S := fun W => Kp [tb, g] w6 W) (by kernel_rfl) ((Kp.refl [tb, g] w6).drew 1) (fun hHeld => ?_)
   have HKd := Lib.hid (show Kp [] w6 w6.drew from (Kp.refl [] w6).drew 1)
   generalize hwd : w6.drew = wd at *
   clear hwd
   refine wpAnyH_take (i := 0) (oi := { dst := some 34, op := Op.fieldAddr 29 (Operand.tmp 6) 0, type := 0, pos := "law.go:44", after := #[], guard := none }) (v := .pointer (some ⟨Q, 0, none⟩)) rfl (by kernel_rfl) (by kernel_rfl) (by kernel_rfl) (fun _ _ _ h => h) (Or.inl ⟨by rfl, fun w hSw => by (try dsimp only at hSw); go_simp⟩) hHeld ?_
   try simp only [Act.put, List.setIfInBounds_toArray, List.set_cons_zero, List.set_cons_succ]
   refine wpAnyH_take (i := 1) (oi := { dst := some 35, op := Op.load 22 (Operand.tmp 34), type := 22, pos := "law.go:44", after := #[{ on := 0, ground := Ground.data }], guard := none }) (v := .slice (some ⟨g, 0, none⟩) N lc) rfl (by kernel_rfl) (by kernel_rfl) (by kernel_rfl) (fun _ _ _ h => h) (Or.inl ⟨by rfl, fun w hSw => by (try dsimp only at hSw); have t0 := HQk.out _ hSw; go_simp⟩) hHeld ?_
   try simp only [Act.put, List.setIfInBounds_toArray, List.set_cons_zero, List.set_cons_succ]
   refine wpAnyH_take (i := 2) (oi := { dst := some 36, op := Op.move (Operand.tmp 8), type := 3, pos := "law.go:44", after := #[], guard := none }) (v := .int .i64 (kk : Int)) rfl (by kernel_rfl) (by kernel_rfl) (by kernel_rfl) (fun _ _ _ h => h) (Or.inl ⟨by rfl, fun w hSw => by (try dsimp only at hSw); go_simp⟩) hHeld ?_
   try simp only [Act.put, List.setIfInBounds_toArray, List.set_cons_zero, List.set_cons_succ]
   refine wpAnyH_take (i := 3) (oi := { dst := some 37, op := Op.move (Operand.tmp 5), type := 25, pos := "law.go:44", after := #[], guard := none }) (v := .pointer (some ⟨tb, 0, none⟩)) rfl (by kernel_rfl) (by kernel_rfl) (by kernel_rfl) (fun _ _ _ h => h) (Or.inl ⟨by rfl, fun w hSw => by (try dsimp only at hSw); go_simp⟩) hHeld ?_
   try simp only [Act.put, List.setIfInBounds_toArray, List.set_cons_zero, List.set_cons_succ]
   refine wpAnyH_ready (rs := [4]) (by kernel_rfl) (by simp) ?_
   refine AllReadyH.cons (o := { dst := some 38, op := Op.call { callee := Callee.value (Operand.func 14), args := #[Operand.tmp 37, Operand.const (Value.int IntKind.i64 12)], argTypes := #[25, 3] }, type := 3, pos := "law.go:44", after := #[{ on := 3, ground := Ground.data }], guard := none }) rfl (fun K hK => ?_) AllReadyH.nil
   have HNx := Lib.hid (show Calls Tryz.prog 14 #[.pointer (some ⟨tb, 0, none⟩), .int .i64 12] wd fun e w' => ∃ r : Nat, r < 12 ∧ e = .returned (.int .i64 r) ∧ Tp w' tb (k6 + 1) ∧ Kp [tb] wd w' from next_kp 12 (by omega) (by omega) (by omega) (HT6.out.kp HKd.out (by simp)))
   go_simp
   go_at_call 14
   refine Calls.mono (by with_reducible exact HNx.out) ?_
   rintro e V ⟨rv, hrv, rfl, hTv, hkv⟩
   dsimp only
   have HRv := Lib.hid ((HRw6.out.kp0 HKd.out).kpT (HT6.out.kp HKd.out (by simp)) hkv HGt.out.1)
   have hw1 := wrap1 (show rv < 100 by omega)
   have hS := hHeld.trans (hkv.mono (by simp))
   clear hTv hkv
   clear hHeld
   refine hK.out _ _ hS (fun hHeld => ?_)
   try simp only [Act.put, List.setIfInBounds_toArray, List.set_cons_zero, List.set_cons_succ]
   clear hK
   clear hS
   refine wpAnyH_take (i := 5) (oi := { dst := some 39, op := Op.indexAddr 22 (Operand.tmp 35) (Operand.tmp 36), type := 0, pos := "law.go:44", after := #[{ on := 1, ground := Ground.data }, { on := 2, ground := Ground.data }, { on := 0, ground := Ground.phase }, { on := 1, ground := Ground.phase }, { on := 2, ground := Ground.phase }, { on := 3, ground := Ground.phase }, { on := 4, ground := Ground.phase }], guard := none }) (v := .pointer (some ⟨g, kk * 10, none⟩)) rfl (by kernel_rfl) (by kernel_rfl) (by kernel_rfl) (fun _ _ _ h => h) (Or.inl ⟨by rfl, fun w hSw => by (try dsimp only at hSw); go_simp⟩) hHeld ?_
   try simp only [Act.put, List.setIfInBounds_toArray, List.set_cons_zero, List.set_cons_succ]
   refine wpAnyH_take (i := 6) (oi := { dst := some 40, op := Op.fieldAddr 34 (Operand.tmp 39) 1, type := 0, pos := "law.go:44", after := #[{ on := 5, ground := Ground.data }, { on := 0, ground := Ground.phase }, { on := 1, ground := Ground.phase }, { on := 2, ground := Ground.phase }, { on := 3, ground := Ground.phase }, { on := 4, ground := Ground.phase }], guard := none }) (v := .pointer (some ⟨g, kk * 10 + 1, none⟩)) rfl (by kernel_rfl) (by kernel_rfl) (by kernel_rfl) (fun _ _ _ h => h) (Or.inl ⟨by rfl, fun w hSw => by (try dsimp only at hSw); go_simp⟩) hHeld ?_
   try simp only [Act.put, List.setIfInBounds_toArray, List.set_cons_zero, List.set_cons_succ]
   refine wpAnyH_ready (rs := [7]) (by kernel_rfl) (by simp) ?_
   refine AllReadyH.cons (o := { dst := none, op := Op.store 3 (Operand.tmp 40) (Operand.tmp 38), type := 0, pos := "law.go:44", after := #[{ on := 6, ground := Ground.data }, { on := 4, ground := Ground.data }, { on := 4, ground := Ground.chain }, { on := 0, ground := Ground.phase }, { on := 1, ground := Ground.phase }, { on := 2, ground := Ground.phase }, { on := 3, ground := Ground.phase }, { on := 4, ground := Ground.phase }], guard := none }) rfl (fun K hK => ?_) AllReadyH.nil
   have c0 : V.cell? ⟨g, kk * 10 + 1, none⟩ = some (.int .i64 xp) := HRv.out.row kk _ HX.out 1 _ rfl
   have f0 : V.frozen? ⟨g, kk * 10 + 1, none⟩ = false := HRv.out.fr _
   go_simp
   have HRe := Lib.hid (show Rw g (L.set kk (⟨xi, (rv : Int), xn, xo, xu, xd, xl, xk, xm, xa⟩, xv)) (V.setCell ⟨g, kk * 10 + 1, none⟩ (.int .i64 (rv : Int))) from HRv.out.set1 (m := 1) (y := (⟨xi, (rv : Int), xn, xo, xu, xd, xl, xk, xm, xa⟩, xv)) HX.out (by decide) rfl rfl rfl)
   have hkR : Kp [g] V (V.setCell ⟨g, kk * 10 + 1, none⟩ (.int .i64 (rv : Int))) := (Kp.refl _ _).setCell (p := ⟨g, kk * 10 + 1, none⟩) (.inl (by simp)) _
   generalize V.setCell ⟨g, kk * 10 + 1, none⟩ (.int .i64 (rv : Int)) = we at *
   have hS := hHeld.trans (hkR.mono (by simp))
   clear hkR c0 f0
   clear hHeld
   refine hK.out _ _ hS (fun hHeld => ?_)
   try simp only [Act.put, List.setIfInBounds_toArray, List.set_cons_zero, List.set_cons_succ]
   clear hK
   clear hS
   have HSe := Lib.hid hHeld
   refine wpAnyH_done (by kernel_rfl) ?_ _
   clear hHeld
   go_wp2
   go_meet
   exact HEnd.out _ _ HSe.out HRe.out (by rw [List.length_set, HN.out]) (smw_set HSw.out ⟨⟨⟨HSX.out.1.1.n, HSX.out.1.1.o, HSX.out.1.1.s, HSX.out.1.1.r, HSX.out.1.1.i, HSX.out.1.1.a⟩, HSX.out.1.2⟩, HSX.out.2.1, (show (Lit.int .i64 (rv : Int)).wf = true from wf_num (by omega) (by omega))⟩)
  ·go_upto_region 13 with fail
   refine wp_region_held_drew (S := fun W => Kp [tb, g] w6 W) (by kernel_rfl) ((Kp.refl [tb, g] w6).drew 1) (fun hHeld => ?_)
   have HKd := Lib.hid (show Kp [] w6 w6.drew from (Kp.refl [] w6).drew 1)
   generalize hwd : w6.drew = wd at *
   clear hwd
   refine wpAnyH_take (i := 0) (oi := { dst := some 43, op := Op.fieldAddr 29 (Operand.tmp 6) 0, type := 0, pos := "law.go:46", after := #[], guard := none }) (v := .pointer (some ⟨Q, 0, none⟩)) rfl (by kernel_rfl) (by kernel_rfl) (by kernel_rfl) (fun _ _ _ h => h) (Or.inl ⟨by rfl, fun w hSw => by (try dsimp only at hSw); go_simp⟩) hHeld ?_
   try simp only [Act.put, List.setIfInBounds_toArray, List.set_cons_zero, List.set_cons_succ]
   refine wpAnyH_take (i := 1) (oi := { dst := some 44, op := Op.load 22 (Operand.tmp 43), type := 22, pos := "law.go:46", after := #[{ on := 0, ground := Ground.data }], guard := none }) (v := .slice (some ⟨g, 0, none⟩) N lc) rfl (by kernel_rfl) (by kernel_rfl) (by kernel_rfl) (fun _ _ _ h => h) (Or.inl ⟨by rfl, fun w hSw => by (try dsimp only at hSw); have t0 := HQk.out _ hSw; go_simp⟩) hHeld ?_
   try simp only [Act.put, List.setIfInBounds_toArray, List.set_cons_zero, List.set_cons_succ]
   refine wpAnyH_take (i := 2) (oi := { dst := some 45, op := Op.move (Operand.tmp 8), type := 3, pos := "law.go:46", after := #[], guard := none }) (v := .int .i64 (kk : Int)) rfl (by kernel_rfl) (by kernel_rfl) (by kernel_rfl) (fun _ _ _ h => h) (Or.inl ⟨by rfl, fun w hSw => by (try dsimp only at hSw); go_simp⟩) hHeld ?_
   try simp only [Act.put, List.setIfInBounds_toArray, List.set_cons_zero, List.set_cons_succ]
   refine wpAnyH_take (i := 3) (oi := { dst := some 46, op := Op.move (Operand.tmp 5), type := 25, pos := "law.go:46", after := #[], guard := none }) (v := .pointer (some ⟨tb, 0, none⟩)) rfl (by kernel_rfl) (by kernel_rfl) (by kernel_rfl) (fun _ _ _ h => h) (Or.inl ⟨by rfl, fun w hSw => by (try dsimp only at hSw); go_simp⟩) hHeld ?_
   try simp only [Act.put, List.setIfInBounds_toArray, List.set_cons_zero, List.set_cons_succ]
   refine wpAnyH_ready (rs := [4]) (by kernel_rfl) (by simp) ?_
   refine AllReadyH.cons (o := { dst := some 47, op := Op.call { callee := Callee.value (Operand.func 14), args := #[Operand.tmp 46, Operand.const (Value.int IntKind.i64 12)], argTypes := #[25, 3] }, type := 3, pos := "law.go:46", after := #[{ on := 3, ground := Ground.data }], guard := none }) rfl (fun K hK => ?_) AllReadyH.nil
   have HNx := Lib.hid (show Calls Tryz.prog 14 #[.pointer (some ⟨tb, 0, none⟩), .int .i64 12] wd fun e w' => ∃ r : Nat, r < 12 ∧ e = .returned (.int .i64 r) ∧ Tp w' tb (k6 + 1) ∧ Kp [tb] wd w' from next_kp 12 (by omega) (by omega) (by omega) (HT6.out.kp HKd.out (by simp)))
   go_simp
   go_at_call 14
   refine Calls.mono (by with_reducible exact HNx.out) ?_
   rintro e V ⟨rv, hrv, rfl, hTv, hkv⟩
   dsimp only
   have HRv := Lib.hid ((HRw6.out.kp0 HKd.out).kpT (HT6.out.kp HKd.out (by simp)) hkv HGt.out.1)
   have hw1 := wrap1 (show rv < 100 by omega)
   have hS := hHeld.trans (hkv.mono (by simp))
   clear hTv hkv
   clear hHeld
   refine hK.out _ _ hS (fun hHeld => ?_)
   try simp only [Act.put, List.setIfInBounds_toArray, List.set_cons_zero, List.set_cons_succ]
   clear hK
   clear hS
   refine wpAnyH_take (i := 5) (oi := { dst := some 48, op := Op.binOp BinOp.add 3 (Operand.const (Value.int IntKind.i64 1)) (Operand.tmp 47) 3, type := 3, pos := "law.go:46", after := #[{ on := 4, ground := Ground.data }], guard := none }) (v := .int .i64 (1 + (rv : Int))) rfl (by kernel_rfl) (by kernel_rfl) (by kernel_rfl) (fun _ _ _ h => h) (Or.inl ⟨by rfl, fun w hSw => by (try dsimp only at hSw); go_simp⟩) hHeld ?_
   try simp only [Act.put, List.setIfInBounds_toArray, List.set_cons_zero, List.set_cons_succ]
   refine wpAnyH_take (i := 6) (oi := { dst := some 49, op := Op.indexAddr 22 (Operand.tmp 44) (Operand.tmp 45), type := 0, pos := "law.go:46", after := #[{ on := 1, ground := Ground.data }, { on := 2, ground := Ground.data }, { on := 0, ground := Ground.phase }, { on := 1, ground := Ground.phase }, { on := 2, ground := Ground.phase }, { on := 3, ground := Ground.phase }, { on := 4, ground := Ground.phase }, { on := 5, ground := Ground.phase }], guard := none }) (v := .pointer (some ⟨g, kk * 10, none⟩)) rfl (by kernel_rfl) (by kernel_rfl) (by kernel_rfl) (fun _ _ _ h => h) (Or.inl ⟨by rfl, fun w hSw => by (try dsimp only at hSw); go_simp⟩) hHeld ?_
   try simp only [Act.put, List.setIfInBounds_toArray, List.set_cons_zero, List.set_cons_succ]
   refine wpAnyH_take (i := 7) (oi := { dst := some 50, op := Op.fieldAddr 34 (Operand.tmp 49) 0, type := 0, pos := "law.go:46", after := #[{ on := 6, ground := Ground.data }, { on := 0, ground := Ground.phase }, { on := 1, ground := Ground.phase }, { on := 2, ground := Ground.phase }, { on := 3, ground := Ground.phase }, { on := 4, ground := Ground.phase }, { on := 5, ground := Ground.phase }], guard := none }) (v := .pointer (some ⟨g, kk * 10, none⟩)) rfl (by kernel_rfl) (by kernel_rfl) (by kernel_rfl) (fun _ _ _ h => h) (Or.inl ⟨by rfl, fun w hSw => by (try dsimp only at hSw); go_simp⟩) hHeld ?_
   try simp only [Act.put, List.setIfInBounds_toArray, List.set_cons_zero, List.set_cons_succ]
   refine wpAnyH_ready (rs := [8]) (by kernel_rfl) (by simp) ?_
   refine AllReadyH.cons (o := { dst := none, op := Op.store 3 (Operand.tmp 50) (Operand.tmp 48), type := 0, pos := "law.go:46", after := #[{ on := 7, ground := Ground.data }, { on := 5, ground := Ground.data }, { on := 4, ground := Ground.chain }, { on := 0, ground := Ground.phase }, { on := 1, ground := Ground.phase }, { on := 2, ground := Ground.phase }, { on := 3, ground := Ground.phase }, { on := 4, ground := Ground.phase }, { on := 5, ground := Ground.phase }], guard := none }) rfl (fun K hK => ?_) AllReadyH.nil
   have c0 : V.cell? ⟨g, kk * 10, none⟩ = some (.int .i64 xi) := HRv.out.row kk _ HX.out 0 _ rfl
   have f0 : V.frozen? ⟨g, kk * 10, none⟩ = false := HRv.out.fr _
   go_simp
   have HRe := Lib.hid (show Rw g (L.set kk (⟨1 + (rv : Int), xp, xn, xo, xu, xd, xl, xk, xm, xa⟩, xv)) (V.setCell ⟨g, kk * 10, none⟩ (.int .i64 (1 + (rv : Int)))) from HRv.out.set1 (m := 0) (y := (⟨1 + (rv : Int), xp, xn, xo, xu, xd, xl, xk, xm, xa⟩, xv)) HX.out (by decide) rfl rfl rfl)
   have hkR : Kp [g] V (V.setCell ⟨g, kk * 10, none⟩ (.int .i64 (1 + (rv : Int)))) := (Kp.refl _ _).setCell (p := ⟨g, kk * 10, none⟩) (.inl (by simp)) _
   generalize V.setCell ⟨g, kk * 10, none⟩ (.int .i64 (1 + (rv : Int))) = we at *
   have hS := hHeld.trans (hkR.mono (by simp))
   clear hkR c0 f0
   clear hHeld
   refine hK.out _ _ hS (fun hHeld => ?_)
   try simp only [Act.put, List.setIfInBounds_toArray, List.set_cons_zero, List.set_cons_succ]
   clear hK
   clear hS
   have HSe := Lib.hid hHeld
   refine wpAnyH_done (by kernel_rfl) ?_ _
   clear hHeld
   go_wp2
   go_meet
   exact HEnd.out _ _ HSe.out HRe.out (by rw [List.length_set, HN.out]) (smw_set HSw.out ⟨⟨⟨HSX.out.1.1.n, HSX.out.1.1.o, HSX.out.1.1.s, HSX.out.1.1.r, HSX.out.1.1.i, HSX.out.1.1.a⟩, HSX.out.1.2⟩, (show (Lit.int .i64 (1 + (rv : Int))).wf = true from wf_num (by omega) (by omega)), HSX.out.2.2⟩)
  ·go_upto_region 15 with fail
   refine wp_region_held_drew (S := fun W => Kp [tb, g] w6 W) (by kernel_rfl) ((Kp.refl [tb, g] w6).drew 1) (fun hHeld => ?_)
   have HKd := Lib.hid (show Kp [] w6 w6.drew from (Kp.refl [] w6).drew 1)
   generalize hwd : w6.drew = wd at *
   clear hwd
   obtain ⟨zk, hzk⟩ : ∃ z : De.DV, z = (⟨xi, xp, xn, xo, xu, xd, xl, xk, xm, xa⟩, xv) := ⟨_, rfl⟩
   have HXz := Lib.hid (show L[kk]? = some zk from by rw [hzk]; exact HX.out)
   have HSz := Lib.hid (show SmW zk.1 from by rw [hzk]; exact HSX.out)
   obtain ⟨z0, hz0⟩ : ∃ z, L[0]? = some z := ⟨L[0]'(by rw [HN.out]; omega), List.getElem?_eq_getElem _⟩
   have HX0 := Lib.hid hz0
   have HS0 := Lib.hid (HSw.out _ (List.mem_of_getElem? hz0))
   clear hzk hz0
   have HRd := Lib.hid (HRw6.out.kp0 HKd.out)
   have HO0 := Lib.hid (show (De.dvC z0.1 z0.2).toArray.all (·.oneCell') = true from all_oneCell_toArray (De.dvC_one (a := z0.1) (HRd.out.ats z0 (List.mem_of_getElem? HX0.out)).one))
   have HOk := Lib.hid (show (De.dvC zk.1 zk.2).toArray.all (·.oneCell') = true from all_oneCell_toArray (De.dvC_one (a := zk.1) (HRd.out.ats zk (List.mem_of_getElem? HXz.out)).one))
   refine wpAnyH_take (i := 0) (oi := { dst := some 53, op := Op.fieldAddr 29 (Operand.tmp 6) 0, type := 0, pos := "law.go:48", after := #[], guard := none }) (v := .pointer (some ⟨Q, 0, none⟩)) rfl (by kernel_rfl) (by kernel_rfl) (by kernel_rfl) (fun _ _ _ h => h) (Or.inl ⟨by rfl, fun w hSw => by (try dsimp only at hSw); go_simp⟩) hHeld ?_
   try simp only [Act.put, List.setIfInBounds_toArray, List.set_cons_zero, List.set_cons_succ]
   refine wpAnyH_take (i := 1) (oi := { dst := some 54, op := Op.load 22 (Operand.tmp 53), type := 22, pos := "law.go:48", after := #[{ on := 0, ground := Ground.data }], guard := none }) (v := .slice (some ⟨g, 0, none⟩) N lc) rfl (by kernel_rfl) (by kernel_rfl) (by kernel_rfl) (fun _ _ _ h => h) (Or.inl ⟨by rfl, fun w hSw => by (try dsimp only at hSw); have t0 := HQk.out _ hSw; go_simp⟩) hHeld ?_
   try simp only [Act.put, List.setIfInBounds_toArray, List.set_cons_zero, List.set_cons_succ]
   refine wpAnyH_take (i := 2) (oi := { dst := some 55, op := Op.move (Operand.tmp 8), type := 3, pos := "law.go:48", after := #[], guard := none }) (v := .int .i64 (kk : Int)) rfl (by kernel_rfl) (by kernel_rfl) (by kernel_rfl) (fun _ _ _ h => h) (Or.inl ⟨by rfl, fun w hSw => by (try dsimp only at hSw); go_simp⟩) hHeld ?_
   try simp only [Act.put, List.setIfInBounds_toArray, List.set_cons_zero, List.set_cons_succ]
   refine wpAnyH_take (i := 3) (oi := { dst := some 56, op := Op.fieldAddr 29 (Operand.tmp 6) 0, type := 0, pos := "law.go:48", after := #[{ on := 15, ground := Ground.gcOnly Departure.lateStores }], guard := none }) (v := .pointer (some ⟨Q, 0, none⟩)) rfl (by kernel_rfl) (by kernel_rfl) (by kernel_rfl) (fun _ _ _ h => h) (Or.inl ⟨by rfl, fun w hSw => by (try dsimp only at hSw); go_simp⟩) hHeld ?_
   try simp only [Act.put, List.setIfInBounds_toArray, List.set_cons_zero, List.set_cons_succ]
   refine wpAnyH_take (i := 4) (oi := { dst := some 57, op := Op.load 22 (Operand.tmp 56), type := 22, pos := "law.go:48", after := #[{ on := 3, ground := Ground.data }, { on := 15, ground := Ground.gcOnly Departure.lateStores }], guard := none }) (v := .slice (some ⟨g, 0, none⟩) N lc) rfl (by kernel_rfl) (by kernel_rfl) (by kernel_rfl) (fun _ _ _ h => h) (Or.inl ⟨by rfl, fun w hSw => by (try dsimp only at hSw); have t0 := HQk.out _ hSw; go_simp⟩) hHeld ?_
   try simp only [Act.put, List.setIfInBounds_toArray, List.set_cons_zero, List.set_cons_succ]
   refine wpAnyH_take (i := 5) (oi := { dst := some 58, op := Op.fieldAddr 29 (Operand.tmp 6) 0, type := 0, pos := "law.go:48", after := #[], guard := none }) (v := .pointer (some ⟨Q, 0, none⟩)) rfl (by kernel_rfl) (by kernel_rfl) (by kernel_rfl) (fun _ _ _ h => h) (Or.inl ⟨by rfl, fun w hSw => by (try dsimp only at hSw); go_simp⟩) hHeld ?_
   try simp only [Act.put, List.setIfInBounds_toArray, List.set_cons_zero, List.set_cons_succ]
   refine wpAnyH_take (i := 6) (oi := { dst := some 59, op := Op.load 22 (Operand.tmp 58), type := 22, pos := "law.go:48", after := #[{ on := 5, ground := Ground.data }], guard := none }) (v := .slice (some ⟨g, 0, none⟩) N lc) rfl (by kernel_rfl) (by kernel_rfl) (by kernel_rfl) (fun _ _ _ h => h) (Or.inl ⟨by rfl, fun w hSw => by (try dsimp only at hSw); have t0 := HQk.out _ hSw; go_simp⟩) hHeld ?_
   try simp only [Act.put, List.setIfInBounds_toArray, List.set_cons_zero, List.set_cons_succ]
   refine wpAnyH_take (i := 7) (oi := { dst := some 60, op := Op.indexAddr 22 (Operand.tmp 59) (Operand.const (Value.int IntKind.i64 0)), type := 0, pos := "law.go:48", after := #[{ on := 6, ground := Ground.data }], guard := none }) (v := .pointer (some ⟨g, 0, none⟩)) rfl (by kernel_rfl) (by kernel_rfl) (by kernel_rfl) (fun _ _ _ h => h) (Or.inl ⟨by rfl, fun w hSw => by (try dsimp only at hSw); go_simp⟩) hHeld ?_
   try simp only [Act.put, List.setIfInBounds_toArray, List.set_cons_zero, List.set_cons_succ]
   refine wpAnyH_take (i := 9) (oi := { dst := some 62, op := Op.fieldAddr 29 (Operand.tmp 6) 0, type := 0, pos := "law.go:48", after := #[], guard := none }) (v := .pointer (some ⟨Q, 0, none⟩)) rfl (by kernel_rfl) (by kernel_rfl) (by kernel_rfl) (fun _ _ _ h => h) (Or.inl ⟨by rfl, fun w hSw => by (try dsimp only at hSw); go_simp⟩) hHeld ?_
   try simp only [Act.put, List.setIfInBounds_toArray, List.set_cons_zero, List.set_cons_succ]
   refine wpAnyH_take (i := 10) (oi := { dst := some 63, op := Op.load 22 (Operand.tmp 62), type := 22, pos := "law.go:48", after := #[{ on := 9, ground := Ground.data }], guard := none }) (v := .slice (some ⟨g, 0, none⟩) N lc) rfl (by kernel_rfl) (by kernel_rfl) (by kernel_rfl) (fun _ _ _ h => h) (Or.inl ⟨by rfl, fun w hSw => by (try dsimp only at hSw); have t0 := HQk.out _ hSw; go_simp⟩) hHeld ?_
   try simp only [Act.put, List.setIfInBounds_toArray, List.set_cons_zero, List.set_cons_succ]
   refine wpAnyH_take (i := 11) (oi := { dst := some 64, op := Op.move (Operand.tmp 8), type := 3, pos := "law.go:48", after := #[], guard := none }) (v := .int .i64 (kk : Int)) rfl (by kernel_rfl) (by kernel_rfl) (by kernel_rfl) (fun _ _ _ h => h) (Or.inl ⟨by rfl, fun w hSw => by (try dsimp only at hSw); go_simp⟩) hHeld ?_
   try simp only [Act.put, List.setIfInBounds_toArray, List.set_cons_zero, List.set_cons_succ]
   refine wpAnyH_take (i := 12) (oi := { dst := some 65, op := Op.indexAddr 22 (Operand.tmp 63) (Operand.tmp 64), type := 0, pos := "law.go:48", after := #[{ on := 10, ground := Ground.data }, { on := 11, ground := Ground.data }], guard := none }) (v := .pointer (some ⟨g, kk * 10, none⟩)) rfl (by kernel_rfl) (by kernel_rfl) (by kernel_rfl) (fun _ _ _ h => h) (Or.inl ⟨by rfl, fun w hSw => by (try dsimp only at hSw); go_simp⟩) hHeld ?_
   try simp only [Act.put, List.setIfInBounds_toArray, List.set_cons_zero, List.set_cons_succ]
   refine wpAnyH_ready (rs := [8, 13]) (by kernel_rfl) (by simp) ?_
   refine AllReadyH.cons (o := { dst := some 61, op := Op.load 34 (Operand.tmp 60), type := 34, pos := "law.go:48", after := #[{ on := 7, ground := Ground.data }], guard := none }) rfl (fun K hK => ?_) (AllReadyH.cons (o := { dst := some 66, op := Op.load 34 (Operand.tmp 65), type := 34, pos := "law.go:48", after := #[{ on := 12, ground := Ground.data }], guard := none }) rfl (fun K hK => ?_) AllReadyH.nil)
   ·skip
    refine step_load_mid rfl 34 (.tmp 60) rfl g 0 rfl (De.dvC z0.1 z0.2) _ (show wd.rangeAt g 0 _ from HRd.out.row 0 _ HX0.out) Tryz.underlying34 rfl De.info34b ?_
    have hS := hHeld
    clear hHeld
    refine hK.out _ _ hS (fun hHeld => ?_)
    try simp only [Act.put, List.setIfInBounds_toArray, List.set_cons_zero, List.set_cons_succ]
    clear hK
    clear hS
    refine wpAnyH_ready (rs := [13]) (by kernel_rfl) (by simp) ?_
    refine AllReadyH.cons (o := { dst := some 66, op := Op.load 34 (Operand.tmp 65), type := 34, pos := "law.go:48", after := #[{ on := 12, ground := Ground.data }], guard := none }) rfl (fun K hK => ?_) AllReadyH.nil
    refine step_load_mid rfl 34 (.tmp 65) rfl g (kk * 10) rfl (De.dvC zk.1 zk.2) _ (HRd.out.row kk _ HXz.out) Tryz.underlying34 rfl De.info34b ?_
    have hS := hHeld
    clear hHeld
    refine hK.out _ _ hS (fun hHeld => ?_)
    try simp only [Act.put, List.setIfInBounds_toArray, List.set_cons_zero, List.set_cons_succ]
    clear hK
    clear hS
    refine wpAnyH_take (i := 14) (oi := { dst := some 67, op := Op.indexAddr 22 (Operand.tmp 54) (Operand.tmp 55), type := 0, pos := "law.go:48", after := #[{ on := 1, ground := Ground.data }, { on := 2, ground := Ground.data }, { on := 0, ground := Ground.phase }, { on := 1, ground := Ground.phase }, { on := 2, ground := Ground.phase }, { on := 3, ground := Ground.textOnly Departure.lateStores }, { on := 4, ground := Ground.textOnly Departure.lateStores }, { on := 5, ground := Ground.phase }, { on := 6, ground := Ground.phase }, { on := 7, ground := Ground.phase }, { on := 8, ground := Ground.phase }, { on := 9, ground := Ground.textOnly Departure.lateStores }, { on := 10, ground := Ground.textOnly Departure.lateStores }, { on := 11, ground := Ground.textOnly Departure.lateStores }, { on := 12, ground := Ground.textOnly Departure.lateStoresUnsure }, { on := 13, ground := Ground.phase }], guard := none }) (v := .pointer (some ⟨g, kk * 10, none⟩)) rfl (by kernel_rfl) (by kernel_rfl) (by kernel_rfl) (fun _ _ _ h => h) (Or.inl ⟨by rfl, fun w hSw => by (try dsimp only at hSw); go_simp⟩) hHeld ?_
    try simp only [Act.put, List.setIfInBounds_toArray, List.set_cons_zero, List.set_cons_succ]
    refine wpAnyH_ready (rs := [15]) (by kernel_rfl) (by simp) ?_
    refine AllReadyH.cons (o := { dst := none, op := Op.store 34 (Operand.tmp 67) (Operand.tmp 61), type := 0, pos := "law.go:48", after := #[{ on := 14, ground := Ground.data }, { on := 8, ground := Ground.data }, { on := 0, ground := Ground.phase }, { on := 1, ground := Ground.phase }, { on := 2, ground := Ground.phase }, { on := 3, ground := Ground.textOnly Departure.lateStores }, { on := 4, ground := Ground.textOnly Departure.lateStores }, { on := 5, ground := Ground.phase }, { on := 6, ground := Ground.phase }, { on := 7, ground := Ground.phase }, { on := 8, ground := Ground.phase }, { on := 9, ground := Ground.textOnly Departure.lateStores }, { on := 10, ground := Ground.textOnly Departure.lateStores }, { on := 11, ground := Ground.textOnly Departure.lateStores }, { on := 12, ground := Ground.textOnly Departure.lateStoresUnsure }, { on := 13, ground := Ground.phase }], guard := none }) rfl (fun K hK => ?_) AllReadyH.nil
    refine step_store_mid rfl 34 (.tmp 67) (.tmp 61) rfl g (kk * 10) (De.dvC z0.1 z0.2).toArray rfl rfl (fun j hj => ⟨(HRd.out.row kk _ HXz.out).isSome j hj, HRd.out.fr _⟩) De.info34b HO0.out ?_
    have HR1 := Lib.hid (show Rw g (L.set kk z0) (wd.setCells g (kk * 10) (De.dvC z0.1 z0.2).toArray.toList) from HRd.out.put HXz.out (HRd.out.ats z0 (List.mem_of_getElem? HX0.out)) (HRd.out.ne z0 (List.mem_of_getElem? HX0.out)))
    have hk1 : Kp [g] wd (wd.setCells g (kk * 10) (De.dvC z0.1 z0.2).toArray.toList) := kp_cells _ _ _ _
    have HR1s := Lib.hid hk1.size
    have HR1o := Lib.hid (fun b (hb : b < wd.heap.size) (hn : b ≠ g) => hk1.block b hb (by simpa using hn))
    generalize wd.setCells g (kk * 10) (De.dvC z0.1 z0.2).toArray.toList = wf at *
    have hS := hHeld.trans (hk1.mono (by simp))
    clear hk1
    clear hHeld
    refine hK.out _ _ hS (fun hHeld => ?_)
    try simp only [Act.put]
    clear hK
    clear hS
    refine wpAnyH_take (i := 16) (oi := { dst := some 68, op := Op.indexAddr 22 (Operand.tmp 57) (Operand.const (Value.int IntKind.i64 0)), type := 0, pos := "law.go:48", after := #[{ on := 4, ground := Ground.data }, { on := 0, ground := Ground.phase }, { on := 1, ground := Ground.phase }, { on := 2, ground := Ground.phase }, { on := 3, ground := Ground.phase }, { on := 4, ground := Ground.phase }, { on := 5, ground := Ground.phase }, { on := 6, ground := Ground.phase }, { on := 7, ground := Ground.phase }, { on := 8, ground := Ground.phase }, { on := 9, ground := Ground.phase }, { on := 10, ground := Ground.phase }, { on := 11, ground := Ground.phase }, { on := 12, ground := Ground.phase }, { on := 13, ground := Ground.phase }, { on := 14, ground := Ground.phase }, { on := 15, ground := Ground.phase }], guard := none }) (v := .pointer (some ⟨g, 0, none⟩)) rfl (by kernel_rfl) (by kernel_rfl) (by kernel_rfl) (fun _ _ _ h => h) (Or.inl ⟨by rfl, fun w hSw => by (try dsimp only at hSw); go_simp⟩) hHeld ?_
    try simp only [Act.put, List.setIfInBounds_toArray, List.set_cons_zero, List.set_cons_succ]
    refine wpAnyH_ready (rs := [17]) (by kernel_rfl) (by simp) ?_
    refine AllReadyH.cons (o := { dst := none, op := Op.store 34 (Operand.tmp 68) (Operand.tmp 66), type := 0, pos := "law.go:48", after := #[{ on := 16, ground := Ground.data }, { on := 13, ground := Ground.data }, { on := 15, ground := Ground.chain }, { on := 0, ground := Ground.phase }, { on := 1, ground := Ground.phase }, { on := 2, ground := Ground.phase }, { on := 3, ground := Ground.phase }, { on := 4, ground := Ground.phase }, { on := 5, ground := Ground.phase }, { on := 6, ground := Ground.phase }, { on := 7, ground := Ground.phase }, { on := 8, ground := Ground.phase }, { on := 9, ground := Ground.phase }, { on := 10, ground := Ground.phase }, { on := 11, ground := Ground.phase }, { on := 12, ground := Ground.phase }, { on := 13, ground := Ground.phase }, { on := 14, ground := Ground.phase }, { on := 15, ground := Ground.phase }], guard := none }) rfl (fun K hK => ?_) AllReadyH.nil
    obtain ⟨z1, hz1⟩ : ∃ z, (L.set kk z0)[0]? = some z := ⟨(L.set kk z0)[0]'(by rw [List.length_set, HN.out]; omega), List.getElem?_eq_getElem _⟩
    have HX1 := Lib.hid hz1
    clear hz1
    have HAk := Lib.hid (show De.Has wf zk.2 zk.1.ats from (HRd.out.ats zk (List.mem_of_getElem? HXz.out)).other (g := g) HR1s.out (HRd.out.ne zk (List.mem_of_getElem? HXz.out)) HR1o.out)
    refine step_store_mid rfl 34 (.tmp 68) (.tmp 66) rfl g 0 (De.dvC zk.1 zk.2).toArray rfl rfl (fun j hj => ⟨(HR1.out.row 0 _ HX1.out).isSome j hj, HR1.out.fr _⟩) De.info34b HOk.out ?_
    have HR2 := Lib.hid (show Rw g ((L.set kk z0).set 0 zk) (wf.setCells g 0 (De.dvC zk.1 zk.2).toArray.toList) from HR1.out.put (i := 0) HX1.out HAk.out (HRd.out.ne zk (List.mem_of_getElem? HXz.out)))
    have hk1 : Kp [g] wf (wf.setCells g 0 (De.dvC zk.1 zk.2).toArray.toList) := kp_cells _ _ _ _
    generalize wf.setCells g 0 (De.dvC zk.1 zk.2).toArray.toList = we at *
    have hS := hHeld.trans (hk1.mono (by simp))
    clear hk1
    clear hHeld
    refine hK.out _ _ hS (fun hHeld => ?_)
    try simp only [Act.put]
    clear hK
    clear hS
    have HSe := Lib.hid hHeld
    refine wpAnyH_done (by kernel_rfl) ?_ _
    clear hHeld
    go_wp2
    go_meet
    exact HEnd.out _ _ HSe.out HR2.out (by rw [List.length_set, List.length_set, HN.out]) (smw_set (smw_set HSw.out HS0.out) HSz.out)
   ·skip
    refine step_load_mid rfl 34 (.tmp 65) rfl g (kk * 10) rfl (De.dvC zk.1 zk.2) _ (HRd.out.row kk _ HXz.out) Tryz.underlying34 rfl De.info34b ?_
    have hS := hHeld
    clear hHeld
    refine hK.out _ _ hS (fun hHeld => ?_)
    try simp only [Act.put, List.setIfInBounds_toArray, List.set_cons_zero, List.set_cons_succ]
    clear hK
    clear hS
    refine wpAnyH_ready (rs := [8]) (by kernel_rfl) (by simp) ?_
    refine AllReadyH.cons (o := { dst := some 61, op := Op.load 34 (Operand.tmp 60), type := 34, pos := "law.go:48", after := #[{ on := 7, ground := Ground.data }], guard := none }) rfl (fun K hK => ?_) AllReadyH.nil
    refine step_load_mid rfl 34 (.tmp 60) rfl g 0 rfl (De.dvC z0.1 z0.2) _ (show wd.rangeAt g 0 _ from HRd.out.row 0 _ HX0.out) Tryz.underlying34 rfl De.info34b ?_
    have hS := hHeld
    clear hHeld
    refine hK.out _ _ hS (fun hHeld => ?_)
    try simp only [Act.put, List.setIfInBounds_toArray, List.set_cons_zero, List.set_cons_succ]
    clear hK
    clear hS
    refine wpAnyH_take (i := 14) (oi := { dst := some 67, op := Op.indexAddr 22 (Operand.tmp 54) (Operand.tmp 55), type := 0, pos := "law.go:48", after := #[{ on := 1, ground := Ground.data }, { on := 2, ground := Ground.data }, { on := 0, ground := Ground.phase }, { on := 1, ground := Ground.phase }, { on := 2, ground := Ground.phase }, { on := 3, ground := Ground.textOnly Departure.lateStores }, { on := 4, ground := Ground.textOnly Departure.lateStores }, { on := 5, ground := Ground.phase }, { on := 6, ground := Ground.phase }, { on := 7, ground := Ground.phase }, { on := 8, ground := Ground.phase }, { on := 9, ground := Ground.textOnly Departure.lateStores }, { on := 10, ground := Ground.textOnly Departure.lateStores }, { on := 11, ground := Ground.textOnly Departure.lateStores }, { on := 12, ground := Ground.textOnly Departure.lateStoresUnsure }, { on := 13, ground := Ground.phase }], guard := none }) (v := .pointer (some ⟨g, kk * 10, none⟩)) rfl (by kernel_rfl) (by kernel_rfl) (by kernel_rfl) (fun _ _ _ h => h) (Or.inl ⟨by rfl, fun w hSw => by (try dsimp only at hSw); go_simp⟩) hHeld ?_
    try simp only [Act.put, List.setIfInBounds_toArray, List.set_cons_zero, List.set_cons_succ]
    refine wpAnyH_ready (rs := [15]) (by kernel_rfl) (by simp) ?_
    refine AllReadyH.cons (o := { dst := none, op := Op.store 34 (Operand.tmp 67) (Operand.tmp 61), type := 0, pos := "law.go:48", after := #[{ on := 14, ground := Ground.data }, { on := 8, ground := Ground.data }, { on := 0, ground := Ground.phase }, { on := 1, ground := Ground.phase }, { on := 2, ground := Ground.phase }, { on := 3, ground := Ground.textOnly Departure.lateStores }, { on := 4, ground := Ground.textOnly Departure.lateStores }, { on := 5, ground := Ground.phase }, { on := 6, ground := Ground.phase }, { on := 7, ground := Ground.phase }, { on := 8, ground := Ground.phase }, { on := 9, ground := Ground.textOnly Departure.lateStores }, { on := 10, ground := Ground.textOnly Departure.lateStores }, { on := 11, ground := Ground.textOnly Departure.lateStores }, { on := 12, ground := Ground.textOnly Departure.lateStoresUnsure }, { on := 13, ground := Ground.phase }], guard := none }) rfl (fun K hK => ?_) AllReadyH.nil
    refine step_store_mid rfl 34 (.tmp 67) (.tmp 61) rfl g (kk * 10) (De.dvC z0.1 z0.2).toArray rfl rfl (fun j hj => ⟨(HRd.out.row kk _ HXz.out).isSome j hj, HRd.out.fr _⟩) De.info34b HO0.out ?_
    have HR1 := Lib.hid (show Rw g (L.set kk z0) (wd.setCells g (kk * 10) (De.dvC z0.1 z0.2).toArray.toList) from HRd.out.put HXz.out (HRd.out.ats z0 (List.mem_of_getElem? HX0.out)) (HRd.out.ne z0 (List.mem_of_getElem? HX0.out)))
    have hk1 : Kp [g] wd (wd.setCells g (kk * 10) (De.dvC z0.1 z0.2).toArray.toList) := kp_cells _ _ _ _
    have HR1s := Lib.hid hk1.size
    have HR1o := Lib.hid (fun b (hb : b < wd.heap.size) (hn : b ≠ g) => hk1.block b hb (by simpa using hn))
    generalize wd.setCells g (kk * 10) (De.dvC z0.1 z0.2).toArray.toList = wf at *
    have hS := hHeld.trans (hk1.mono (by simp))
    clear hk1
    clear hHeld
    refine hK.out _ _ hS (fun hHeld => ?_)
    try simp only [Act.put]
    clear hK
    clear hS
    refine wpAnyH_take (i := 16) (oi := { dst := some 68, op := Op.indexAddr 22 (Operand.tmp 57) (Operand.const (Value.int IntKind.i64 0)), type := 0, pos := "law.go:48", after := #[{ on := 4, ground := Ground.data }, { on := 0, ground := Ground.phase }, { on := 1, ground := Ground.phase }, { on := 2, ground := Ground.phase }, { on := 3, ground := Ground.phase }, { on := 4, ground := Ground.phase }, { on := 5, ground := Ground.phase }, { on := 6, ground := Ground.phase }, { on := 7, ground := Ground.phase }, { on := 8, ground := Ground.phase }, { on := 9, ground := Ground.phase }, { on := 10, ground := Ground.phase }, { on := 11, ground := Ground.phase }, { on := 12, ground := Ground.phase }, { on := 13, ground := Ground.phase }, { on := 14, ground := Ground.phase }, { on := 15, ground := Ground.phase }], guard := none }) (v := .pointer (some ⟨g, 0, none⟩)) rfl (by kernel_rfl) (by kernel_rfl) (by kernel_rfl) (fun _ _ _ h => h) (Or.inl ⟨by rfl, fun w hSw => by (try dsimp only at hSw); go_simp⟩) hHeld ?_
    try simp only [Act.put, List.setIfInBounds_toArray, List.set_cons_zero, List.set_cons_succ]
    refine wpAnyH_ready (rs := [17]) (by kernel_rfl) (by simp) ?_
    refine AllReadyH.cons (o := { dst := none, op := Op.store 34 (Operand.tmp 68) (Operand.tmp 66), type := 0, pos := "law.go:48", after := #[{ on := 16, ground := Ground.data }, { on := 13, ground := Ground.data }, { on := 15, ground := Ground.chain }, { on := 0, ground := Ground.phase }, { on := 1, ground := Ground.phase }, { on := 2, ground := Ground.phase }, { on := 3, ground := Ground.phase }, { on := 4, ground := Ground.phase }, { on := 5, ground := Ground.phase }, { on := 6, ground := Ground.phase }, { on := 7, ground := Ground.phase }, { on := 8, ground := Ground.phase }, { on := 9, ground := Ground.phase }, { on := 10, ground := Ground.phase }, { on := 11, ground := Ground.phase }, { on := 12, ground := Ground.phase }, { on := 13, ground := Ground.phase }, { on := 14, ground := Ground.phase }, { on := 15, ground := Ground.phase }], guard := none }) rfl (fun K hK => ?_) AllReadyH.nil
    obtain ⟨z1, hz1⟩ : ∃ z, (L.set kk z0)[0]? = some z := ⟨(L.set kk z0)[0]'(by rw [List.length_set, HN.out]; omega), List.getElem?_eq_getElem _⟩
    have HX1 := Lib.hid hz1
    clear hz1
    have HAk := Lib.hid (show De.Has wf zk.2 zk.1.ats from (HRd.out.ats zk (List.mem_of_getElem? HXz.out)).other (g := g) HR1s.out (HRd.out.ne zk (List.mem_of_getElem? HXz.out)) HR1o.out)
    refine step_store_mid rfl 34 (.tmp 68) (.tmp 66) rfl g 0 (De.dvC zk.1 zk.2).toArray rfl rfl (fun j hj => ⟨(HR1.out.row 0 _ HX1.out).isSome j hj, HR1.out.fr _⟩) De.info34b HOk.out ?_
    have HR2 := Lib.hid (show Rw g ((L.set kk z0).set 0 zk) (wf.setCells g 0 (De.dvC zk.1 zk.2).toArray.toList) from HR1.out.put (i := 0) HX1.out HAk.out (HRd.out.ne zk (List.mem_of_getElem? HXz.out)))
    have hk1 : Kp [g] wf (wf.setCells g 0 (De.dvC zk.1 zk.2).toArray.toList) := kp_cells _ _ _ _
    generalize wf.setCells g 0 (De.dvC zk.1 zk.2).toArray.toList = we at *
    have hS := hHeld.trans (hk1.mono (by simp))
    clear hk1
    clear hHeld
    refine hK.out _ _ hS (fun hHeld => ?_)
    try simp only [Act.put]
    clear hK
    clear hS
    have HSe := Lib.hid hHeld
    refine wpAnyH_done (by kernel_rfl) ?_ _
    clear hHeld
    go_wp2
    go_meet
    exact HEnd.out _ _ HSe.out HR2.out (by rw [List.length_set, List.length_set, HN.out]) (smw_set (smw_set HSw.out HS0.out) HSz.out)
  ·go_upto_region 17 with fail
   refine wp_region_held_drew (S := fun W => Kp [tb, g] w6 W) (by kernel_rfl) ((Kp.refl [tb, g] w6).drew 1) (fun hHeld => ?_)
   have HKd := Lib.hid (show Kp [] w6 w6.drew from (Kp.refl [] w6).drew 1)
   generalize hwd : w6.drew = wd at *
   clear hwd
   refine wpAnyH_take (i := 0) (oi := { dst := some 71, op := Op.fieldAddr 29 (Operand.tmp 6) 0, type := 0, pos := "law.go:50", after := #[], guard := none }) (v := .pointer (some ⟨Q, 0, none⟩)) rfl (by kernel_rfl) (by kernel_rfl) (by kernel_rfl) (fun _ _ _ h => h) (Or.inl ⟨by rfl, fun w hSw => by (try dsimp only at hSw); go_simp⟩) hHeld ?_
   try simp only [Act.put, List.setIfInBounds_toArray, List.set_cons_zero, List.set_cons_succ]
   refine wpAnyH_take (i := 1) (oi := { dst := some 72, op := Op.load 22 (Operand.tmp 71), type := 22, pos := "law.go:50", after := #[{ on := 0, ground := Ground.data }], guard := none }) (v := .slice (some ⟨g, 0, none⟩) N lc) rfl (by kernel_rfl) (by kernel_rfl) (by kernel_rfl) (fun _ _ _ h => h) (Or.inl ⟨by rfl, fun w hSw => by (try dsimp only at hSw); have t0 := HQk.out _ hSw; go_simp⟩) hHeld ?_
   try simp only [Act.put, List.setIfInBounds_toArray, List.set_cons_zero, List.set_cons_succ]
   refine wpAnyH_take (i := 2) (oi := { dst := some 73, op := Op.move (Operand.tmp 8), type := 3, pos := "law.go:50", after := #[], guard := none }) (v := .int .i64 (kk : Int)) rfl (by kernel_rfl) (by kernel_rfl) (by kernel_rfl) (fun _ _ _ h => h) (Or.inl ⟨by rfl, fun w hSw => by (try dsimp only at hSw); go_simp⟩) hHeld ?_
   try simp only [Act.put, List.setIfInBounds_toArray, List.set_cons_zero, List.set_cons_succ]
   refine wpAnyH_take (i := 3) (oi := { dst := some 74, op := Op.move (Operand.tmp 5), type := 25, pos := "law.go:50", after := #[], guard := none }) (v := .pointer (some ⟨tb, 0, none⟩)) rfl (by kernel_rfl) (by kernel_rfl) (by kernel_rfl) (fun _ _ _ h => h) (Or.inl ⟨by rfl, fun w hSw => by (try dsimp only at hSw); go_simp⟩) hHeld ?_
   try simp only [Act.put, List.setIfInBounds_toArray, List.set_cons_zero, List.set_cons_succ]
   refine wpAnyH_ready (rs := [4]) (by kernel_rfl) (by simp) ?_
   refine AllReadyH.cons (o := { dst := some 75, op := Op.call { callee := Callee.value (Operand.func 14), args := #[Operand.tmp 74, Operand.const (Value.int IntKind.i64 9)], argTypes := #[25, 3] }, type := 3, pos := "law.go:50", after := #[{ on := 3, ground := Ground.data }], guard := none }) rfl (fun K hK => ?_) AllReadyH.nil
   have HNx := Lib.hid (show Calls Tryz.prog 14 #[.pointer (some ⟨tb, 0, none⟩), .int .i64 9] wd fun e w' => ∃ r : Nat, r < 9 ∧ e = .returned (.int .i64 r) ∧ Tp w' tb (k6 + 1) ∧ Kp [tb] wd w' from next_kp 9 (by omega) (by omega) (by omega) (HT6.out.kp HKd.out (by simp)))
   go_simp
   go_at_call 14
   refine Calls.mono (by with_reducible exact HNx.out) ?_
   rintro e V ⟨rv, hrv, rfl, hTv, hkv⟩
   dsimp only
   have HRv := Lib.hid ((HRw6.out.kp0 HKd.out).kpT (HT6.out.kp HKd.out (by simp)) hkv HGt.out.1)
   have hw1 := wrap1 (show rv < 100 by omega)
   have hS := hHeld.trans (hkv.mono (by simp))
   clear hTv hkv
   clear hHeld
   refine hK.out _ _ hS (fun hHeld => ?_)
   try simp only [Act.put, List.setIfInBounds_toArray, List.set_cons_zero, List.set_cons_succ]
   clear hK
   clear hS
   refine wpAnyH_take (i := 5) (oi := { dst := some 76, op := Op.indexAddr 22 (Operand.tmp 72) (Operand.tmp 73), type := 0, pos := "law.go:50", after := #[{ on := 1, ground := Ground.data }, { on := 2, ground := Ground.data }, { on := 0, ground := Ground.phase }, { on := 1, ground := Ground.phase }, { on := 2, ground := Ground.phase }, { on := 3, ground := Ground.phase }, { on := 4, ground := Ground.phase }], guard := none }) (v := .pointer (some ⟨g, kk * 10, none⟩)) rfl (by kernel_rfl) (by kernel_rfl) (by kernel_rfl) (fun _ _ _ h => h) (Or.inl ⟨by rfl, fun w hSw => by (try dsimp only at hSw); go_simp⟩) hHeld ?_
   try simp only [Act.put, List.setIfInBounds_toArray, List.set_cons_zero, List.set_cons_succ]
   refine wpAnyH_take (i := 6) (oi := { dst := some 77, op := Op.fieldAddr 34 (Operand.tmp 76) 8, type := 0, pos := "law.go:50", after := #[{ on := 5, ground := Ground.data }, { on := 0, ground := Ground.phase }, { on := 1, ground := Ground.phase }, { on := 2, ground := Ground.phase }, { on := 3, ground := Ground.phase }, { on := 4, ground := Ground.phase }], guard := none }) (v := .pointer (some ⟨g, kk * 10 + 8, none⟩)) rfl (by kernel_rfl) (by kernel_rfl) (by kernel_rfl) (fun _ _ _ h => h) (Or.inl ⟨by rfl, fun w hSw => by (try dsimp only at hSw); go_simp⟩) hHeld ?_
   try simp only [Act.put, List.setIfInBounds_toArray, List.set_cons_zero, List.set_cons_succ]
   refine wpAnyH_ready (rs := [7]) (by kernel_rfl) (by simp) ?_
   refine AllReadyH.cons (o := { dst := none, op := Op.store 3 (Operand.tmp 77) (Operand.tmp 75), type := 0, pos := "law.go:50", after := #[{ on := 6, ground := Ground.data }, { on := 4, ground := Ground.data }, { on := 4, ground := Ground.chain }, { on := 0, ground := Ground.phase }, { on := 1, ground := Ground.phase }, { on := 2, ground := Ground.phase }, { on := 3, ground := Ground.phase }, { on := 4, ground := Ground.phase }], guard := none }) rfl (fun K hK => ?_) AllReadyH.nil
   have c0 : V.cell? ⟨g, kk * 10 + 8, none⟩ = some (.int .i64 xm) := HRv.out.row kk _ HX.out 8 _ rfl
   have f0 : V.frozen? ⟨g, kk * 10 + 8, none⟩ = false := HRv.out.fr _
   go_simp
   have HRe := Lib.hid (show Rw g (L.set kk (⟨xi, xp, xn, xo, xu, xd, xl, xk, (rv : Int), xa⟩, xv)) (V.setCell ⟨g, kk * 10 + 8, none⟩ (.int .i64 (rv : Int))) from HRv.out.set1 (m := 8) (y := (⟨xi, xp, xn, xo, xu, xd, xl, xk, (rv : Int), xa⟩, xv)) HX.out (by decide) rfl rfl rfl)
   have hkR : Kp [g] V (V.setCell ⟨g, kk * 10 + 8, none⟩ (.int .i64 (rv : Int))) := (Kp.refl _ _).setCell (p := ⟨g, kk * 10 + 8, none⟩) (.inl (by simp)) _
   generalize V.setCell ⟨g, kk * 10 + 8, none⟩ (.int .i64 (rv : Int)) = we at *
   have hS := hHeld.trans (hkR.mono (by simp))
   clear hkR c0 f0
   clear hHeld
   refine hK.out _ _ hS (fun hHeld => ?_)
   try simp only [Act.put, List.setIfInBounds_toArray, List.set_cons_zero, List.set_cons_succ]
   clear hK
   clear hS
   have HSe := Lib.hid hHeld
   refine wpAnyH_done (by kernel_rfl) ?_ _
   clear hHeld
   go_wp2
   go_meet
   exact HEnd.out _ _ HSe.out HRe.out (by rw [List.length_set, HN.out]) (smw_set HSw.out ⟨⟨⟨HSX.out.1.1.n, HSX.out.1.1.o, HSX.out.1.1.s, HSX.out.1.1.r, HSX.out.1.1.i, HSX.out.1.1.a⟩, HSX.out.1.2⟩, HSX.out.2.1, HSX.out.2.2⟩)
  ·go_upto_region 19 with fail
   refine wp_region_held_drew (S := fun W => Kp [tb, Q, g] w6 W) (by kernel_rfl) ((Kp.refl [tb, Q, g] w6).drew 1) (fun hHeld => ?_)
   have HKd := Lib.hid (show Kp [] w6 w6.drew from (Kp.refl [] w6).drew 1)
   generalize hwd : w6.drew = wd at *
   clear hwd
   have HKt := Lib.hid (show Kp [tb] w6 wd from HKd.out.mono (by simp))
   refine wpAnyH_take (i := 0) (oi := { dst := some 80, op := Op.fieldAddr 29 (Operand.tmp 6) 0, type := 0, pos := "law.go:52", after := #[], guard := none }) (v := .pointer (some ⟨Q, 0, none⟩)) rfl (by kernel_rfl) (by kernel_rfl) (by kernel_rfl) (fun _ _ _ h => h) (Or.inl ⟨by rfl, fun w hSw => by (try dsimp only at hSw); go_simp⟩) hHeld ?_
   try simp only [Act.put, List.setIfInBounds_toArray, List.set_cons_zero, List.set_cons_succ]
   refine wpAnyH_take (i := 2) (oi := { dst := some 82, op := Op.move (Operand.tmp 5), type := 25, pos := "law.go:52", after := #[], guard := none }) (v := .pointer (some ⟨tb, 0, none⟩)) rfl (by kernel_rfl) (by kernel_rfl) (by kernel_rfl) (fun _ _ _ h => h) (Or.inl ⟨by rfl, fun w hSw => by (try dsimp only at hSw); go_simp⟩) hHeld ?_
   try simp only [Act.put, List.setIfInBounds_toArray, List.set_cons_zero, List.set_cons_succ]
   refine wpAnyH_ready (rs := [1, 3]) (by kernel_rfl) (by simp) ?_
   refine AllReadyH.cons (o := { dst := some 81, op := Op.load 22 (Operand.tmp 80), type := 22, pos := "law.go:52", after := #[{ on := 0, ground := Ground.data }], guard := none }) rfl (fun K hK => ?_) (AllReadyH.cons (o := { dst := some 83, op := Op.load 29 (Operand.tmp 6), type := 29, pos := "law.go:52", after := #[], guard := none }) rfl (fun K hK => ?_) AllReadyH.nil)
   ·skip
    have t0 := HQ1.out _ HKt.out
    go_simp
    clear t0
    have hS := hHeld
    clear hHeld
    refine hK.out _ _ hS (fun hHeld => ?_)
    try simp only [Act.put, List.setIfInBounds_toArray, List.set_cons_zero, List.set_cons_succ]
    clear hK
    clear hS
    refine wpAnyH_ready (rs := [3]) (by kernel_rfl) (by simp) ?_
    refine AllReadyH.cons (o := { dst := some 83, op := Op.load 29 (Operand.tmp 6), type := 29, pos := "law.go:52", after := #[], guard := none }) rfl (fun K hK => ?_) AllReadyH.nil
    have t0 := HQ1.out _ HKt.out
    go_simp
    clear t0
    have hS := hHeld
    clear hHeld
    refine hK.out _ _ hS (fun hHeld => ?_)
    try simp only [Act.put, List.setIfInBounds_toArray, List.set_cons_zero, List.set_cons_succ]
    clear hK
    clear hS
    refine wpAnyH_ready (rs := [4]) (by kernel_rfl) (by simp) ?_
    refine AllReadyH.cons (o := { dst := some 84, op := Op.call { callee := Callee.value (Operand.func 15), args := #[Operand.tmp 82, Operand.tmp 83], argTypes := #[25, 29] }, type := 34, pos := "law.go:52", after := #[{ on := 2, ground := Ground.data }, { on := 3, ground := Ground.data }], guard := none }) rfl (fun K hK => ?_) AllReadyH.nil
    have HDVd := Lib.hid (HDV.out _ HKd.out)
    go_simp
    go_at_call 15
    refine Calls.mono (by with_reducible exact HDVd.out) ?_
    rintro e V ⟨⟨ei, ep, en, eo, eu, ed, el, ek, em, ev⟩, l2, rfl, hat, hsx, hll, ⟨kd, hkd, htp⟩, hkp, hfr, HWi, HWp⟩
    dsimp only [De.devV, De.devC] at *
    have HA2 := Lib.hid hat
    have HSX2 := Lib.hid (show SmW ⟨ei, ep, en, eo, eu, ed, el, ek, em, l2⟩ from ⟨sma_dev (d := ⟨ei, ep, en, eo, eu, ed, el, ek, em, ev⟩) hsx hll, HWi.out, HWp.out⟩)
    have HKV := Lib.hid (HKt.out.trans hkp)
    have HEvg := Lib.hid (show ∀ b, ev.ownBlock = some b → wd.heap.size ≤ b from hfr)
    have HKdw := Lib.hid HKd.out.size
    have hS := hHeld.trans (hkp.mono (by simp))
    clear hat hsx hll htp hkp hfr
    clear hHeld
    refine hK.out _ _ hS (fun hHeld => ?_)
    try simp only [Act.put, List.setIfInBounds_toArray, List.set_cons_zero, List.set_cons_succ]
    clear hK
    clear hS
    refine wpAnyH_ready (rs := [5]) (by kernel_rfl) (by simp) ?_
    refine AllReadyH.cons (o := { dst := some 85, op := Op.buildSlice 22 1 #[(0, Operand.tmp 84)], type := 22, pos := "law.go:52", after := #[{ on := 4, ground := Ground.data }], guard := none }) rfl (fun K hK => ?_) AllReadyH.nil
    go_simp
    have hka := (Kp.refl [] V).alloc (.cells #[.int .i64 ei, .int .i64 ep, .string en, .string eo, .string eu, .string ed, .string el, .int .i64 ek, .int .i64 em, ev] 34)
    have hg8 := heap_alloc_last V (.cells #[.int .i64 ei, .int .i64 ep, .string en, .string eo, .string eu, .string ed, .string el, .int .i64 ek, .int .i64 em, ev] 34)
    obtain ⟨G, hG⟩ : ∃ G, V.heap.size = G := ⟨_, rfl⟩
    generalize V.alloc (.cells #[.int .i64 ei, .int .i64 ep, .string en, .string eo, .string eu, .string ed, .string el, .int .i64 ek, .int .i64 em, ev] 34) = V2 at *
    rw [hG] at hg8 ⊢
    have HY := Lib.hid (one_row (x := (⟨ei, ep, en, eo, eu, ed, el, ek, em, l2⟩, ev)) hg8 (HA2.out.below hka.bel))
    have HKV2 := Lib.hid (HKV.out.trans (hka.mono (by simp)))
    have HKVb := Lib.hid hka.bel
    have hS := hHeld.trans (hka.mono (by simp))
    clear hka hg8 hG
    clear hHeld
    refine hK.out _ _ hS (fun hHeld => ?_)
    try simp only [Act.put, List.setIfInBounds_toArray, List.set_cons_zero, List.set_cons_succ]
    clear hK
    clear hS
    refine wpAnyH_ready (rs := [6]) (by kernel_rfl) (by simp) ?_
    refine AllReadyH.cons (o := { dst := some 86, op := Op.call { callee := Callee.builtin Builtin.append, args := #[Operand.tmp 81, Operand.tmp 85], argTypes := #[22, 22] }, type := 22, pos := "law.go:52", after := #[{ on := 1, ground := Ground.data }, { on := 5, ground := Ground.data }, { on := 4, ground := Ground.chain }], guard := none }) rfl (fun K hK => ?_) AllReadyH.nil
    have HOv := Lib.hid (ownsRow_keep HOw6.out (fun b _ hb => by
     have e : g = b := Option.some.inj hb
     subst e
     exact HKV2.out.block g HRw6.out.lt (by have := HGt.out.1; simpa using this)))
    have HRv := Lib.hid (HRw6.out.kpT HT6.out HKV2.out HGt.out.1)
    obtain ⟨v7, w7, hrun, how, hgr⟩ := run_append_dvs (w := V2) (base := w2.heap.size) (v := .slice (some ⟨g, 0, none⟩) N lc) (xs := [] ++ L) (ys := [(⟨ei, ep, en, eo, eu, ed, el, ek, em, l2⟩, ev)]) (ty := 22) HOv.out HY.out (by simp; have := HTok.out.n; have := HN.out; omega) (by have := HK26.out.size; have := HKV2.out.size; omega)
    have HRu := Lib.hid hrun
    have HK7 := Lib.hid (show Kp [g] V2 w7 from Kp.of_grown hgr)
    obtain ⟨fa, fc, hv7⟩ := own_form how
    obtain ⟨LY, hLY⟩ : ∃ l, ([] ++ L) ++ [((⟨ei, ep, en, eo, eu, ed, el, ek, em, l2⟩ : De.ADev), ev)] = l := ⟨_, rfl⟩
    have HLY := Lib.hid (show LY = L ++ [((⟨ei, ep, en, eo, eu, ed, el, ek, em, l2⟩ : De.ADev), ev)] from hLY.symm)
    rw [hLY] at how hv7
    subst hv7
    obtain ⟨M, hM⟩ : ∃ m, LY.length = m := ⟨_, rfl⟩
    have HM := Lib.hid hM
    have HOx := Lib.hid how
    rw [hM] at HRu
    clear hrun how hgr hLY hM
    refine step_append_run rfl _ _ rfl _ _ _ rfl rfl HRu.out ?_
    have hS := hHeld.trans (HK7.out.mono (by simp))
    clear hHeld
    refine hK.out _ _ hS (fun hHeld => ?_)
    try simp only [Act.put, List.setIfInBounds_toArray, List.set_cons_zero, List.set_cons_succ]
    clear hK
    clear hS HRu
    refine wpAnyH_take (i := 7) (oi := { dst := some 87, op := Op.fieldAddr 29 (Operand.tmp 6) 0, type := 0, pos := "law.go:52", after := #[{ on := 0, ground := Ground.phase }, { on := 1, ground := Ground.phase }, { on := 2, ground := Ground.phase }, { on := 3, ground := Ground.phase }, { on := 4, ground := Ground.phase }, { on := 5, ground := Ground.phase }, { on := 6, ground := Ground.phase }], guard := none }) (v := .pointer (some ⟨Q, 0, none⟩)) rfl (by kernel_rfl) (by kernel_rfl) (by kernel_rfl) (fun _ _ _ h => h) (Or.inl ⟨by rfl, fun w hSw => by (try dsimp only at hSw); go_simp⟩) hHeld ?_
    try simp only [Act.put, List.setIfInBounds_toArray, List.set_cons_zero, List.set_cons_succ]
    refine wpAnyH_ready (rs := [8]) (by kernel_rfl) (by simp) ?_
    refine AllReadyH.cons (o := { dst := none, op := Op.store 22 (Operand.tmp 87) (Operand.tmp 86), type := 0, pos := "law.go:52", after := #[{ on := 7, ground := Ground.data }, { on := 6, ground := Ground.data }, { on := 6, ground := Ground.chain }, { on := 0, ground := Ground.phase }, { on := 1, ground := Ground.phase }, { on := 2, ground := Ground.phase }, { on := 3, ground := Ground.phase }, { on := 4, ground := Ground.phase }, { on := 5, ground := Ground.phase }, { on := 6, ground := Ground.phase }], guard := none }) rfl (fun K hK => ?_) AllReadyH.nil
    have HQ7 := Lib.hid ((HK7.out.block Q (block_lt (HQ0.out _ HKV2.out)) (by have := HGt.out.2.1; simp; omega)).trans (HQ0.out _ HKV2.out))
    have q0 := cell_one HQ7.out
    have qf := frz_one HQ7.out
    go_simp
    have HQ8 := Lib.hid (De.box_set1 HQ7.out (.slice fa M fc))
    have hkQ : Kp [Q] w7 (w7.setCell ⟨Q, 0, none⟩ (.slice fa M fc)) := (Kp.refl _ _).setCell (p := ⟨Q, 0, none⟩) (.inl (by simp)) _
    generalize w7.setCell ⟨Q, 0, none⟩ (.slice fa M fc) = we at *
    have hS := hHeld.trans (hkQ.mono (by simp))
    have HkQ := Lib.hid hkQ
    clear q0 qf hkQ
    clear hHeld
    refine hK.out _ _ hS (fun hHeld => ?_)
    try simp only [Act.put, List.setIfInBounds_toArray, List.set_cons_zero, List.set_cons_succ]
    clear hK
    clear hS
    have HSe := Lib.hid hHeld
    refine wpAnyH_done (by kernel_rfl) ?_ _
    clear hHeld
    have HD7 := Lib.hid (show De.DHas w7 (.slice fa M fc) LY from by
     have h := De.DOwn.has (W := w7) (B := w2.heap.size) (v := .slice fa LY.length fc) (l := LY) ⟨HOx.out, fun z hz => by
      rw [HLY.out] at hz
      rcases List.mem_append.1 hz with h | h
      ·exact (HRv.out.ats z h).other (g := g) HK7.out.size (HRv.out.ne z h) fun b hb hn => HK7.out.block b hb (by simpa using hn)
      ·rw [List.mem_singleton.1 h]
       exact (HA2.out.below HKVb.out).other (g := g) HK7.out.size (fun hne e => by have h1 := HA2.out.lt hne g e; have h2 := HEvg.out g e; have := HRw6.out.lt; have := HKdw.out; omega) fun b hb hn => HK7.out.block b hb (by simpa using hn)⟩
     rw [HM.out] at h
     exact h)
    have HE := Lib.hid (show Hid (ChkX Q tb w2 we) from Lib.hid ⟨fa, M, fc, LY, HQ8.out, dhasR HD7.out HkQ.out HQ7.out, rok_of (by rw [HLY.out, List.length_append, List.length_singleton, HN.out]; omega) (fun y hy => by
     rw [HLY.out] at hy
     rcases List.mem_append.1 hy with h | h
     ·exact HSw.out y h
     ·rw [List.mem_singleton.1 h]; exact HSX2.out), HK26.out.up HSe.out (by intro z hz; simp at hz; rcases hz with rfl | rfl | rfl; exact .inl (by simp); exact .inl (by simp); exact .inr HGt.out.2.2)⟩)
    go_wp2
    go_meet
    exact HE.out
   ·skip
    have t0 := HQ1.out _ HKt.out
    go_simp
    clear t0
    have hS := hHeld
    clear hHeld
    refine hK.out _ _ hS (fun hHeld => ?_)
    try simp only [Act.put, List.setIfInBounds_toArray, List.set_cons_zero, List.set_cons_succ]
    clear hK
    clear hS
    refine wpAnyH_ready (rs := [1, 4]) (by kernel_rfl) (by simp) ?_
    refine AllReadyH.cons (o := { dst := some 81, op := Op.load 22 (Operand.tmp 80), type := 22, pos := "law.go:52", after := #[{ on := 0, ground := Ground.data }], guard := none }) rfl (fun K hK => ?_) (AllReadyH.cons (o := { dst := some 84, op := Op.call { callee := Callee.value (Operand.func 15), args := #[Operand.tmp 82, Operand.tmp 83], argTypes := #[25, 29] }, type := 34, pos := "law.go:52", after := #[{ on := 2, ground := Ground.data }, { on := 3, ground := Ground.data }], guard := none }) rfl (fun K hK => ?_) AllReadyH.nil)
    ·skip
     have t0 := HQ1.out _ HKt.out
     go_simp
     clear t0
     have hS := hHeld
     clear hHeld
     refine hK.out _ _ hS (fun hHeld => ?_)
     try simp only [Act.put, List.setIfInBounds_toArray, List.set_cons_zero, List.set_cons_succ]
     clear hK
     clear hS
     refine wpAnyH_ready (rs := [4]) (by kernel_rfl) (by simp) ?_
     refine AllReadyH.cons (o := { dst := some 84, op := Op.call { callee := Callee.value (Operand.func 15), args := #[Operand.tmp 82, Operand.tmp 83], argTypes := #[25, 29] }, type := 34, pos := "law.go:52", after := #[{ on := 2, ground := Ground.data }, { on := 3, ground := Ground.data }], guard := none }) rfl (fun K hK => ?_) AllReadyH.nil
     have HDVd := Lib.hid (HDV.out _ HKd.out)
     go_simp
     go_at_call 15
     refine Calls.mono (by with_reducible exact HDVd.out) ?_
     rintro e V ⟨⟨ei, ep, en, eo, eu, ed, el, ek, em, ev⟩, l2, rfl, hat, hsx, hll, ⟨kd, hkd, htp⟩, hkp, hfr, HWi, HWp⟩
     dsimp only [De.devV, De.devC] at *
     have HA2 := Lib.hid hat
     have HSX2 := Lib.hid (show SmW ⟨ei, ep, en, eo, eu, ed, el, ek, em, l2⟩ from ⟨sma_dev (d := ⟨ei, ep, en, eo, eu, ed, el, ek, em, ev⟩) hsx hll, HWi.out, HWp.out⟩)
     have HKV := Lib.hid (HKt.out.trans hkp)
     have HEvg := Lib.hid (show ∀ b, ev.ownBlock = some b → wd.heap.size ≤ b from hfr)
     have HKdw := Lib.hid HKd.out.size
     have hS := hHeld.trans (hkp.mono (by simp))
     clear hat hsx hll htp hkp hfr
     clear hHeld
     refine hK.out _ _ hS (fun hHeld => ?_)
     try simp only [Act.put, List.setIfInBounds_toArray, List.set_cons_zero, List.set_cons_succ]
     clear hK
     clear hS
     refine wpAnyH_ready (rs := [5]) (by kernel_rfl) (by simp) ?_
     refine AllReadyH.cons (o := { dst := some 85, op := Op.buildSlice 22 1 #[(0, Operand.tmp 84)], type := 22, pos := "law.go:52", after := #[{ on := 4, ground := Ground.data }], guard := none }) rfl (fun K hK => ?_) AllReadyH.nil
     go_simp
     have hka := (Kp.refl [] V).alloc (.cells #[.int .i64 ei, .int .i64 ep, .string en, .string eo, .string eu, .string ed, .string el, .int .i64 ek, .int .i64 em, ev] 34)
     have hg8 := heap_alloc_last V (.cells #[.int .i64 ei, .int .i64 ep, .string en, .string eo, .string eu, .string ed, .string el, .int .i64 ek, .int .i64 em, ev] 34)
     obtain ⟨G, hG⟩ : ∃ G, V.heap.size = G := ⟨_, rfl⟩
     generalize V.alloc (.cells #[.int .i64 ei, .int .i64 ep, .string en, .string eo, .string eu, .string ed, .string el, .int .i64 ek, .int .i64 em, ev] 34) = V2 at *
     rw [hG] at hg8 ⊢
     have HY := Lib.hid (one_row (x := (⟨ei, ep, en, eo, eu, ed, el, ek, em, l2⟩, ev)) hg8 (HA2.out.below hka.bel))
     have HKV2 := Lib.hid (HKV.out.trans (hka.mono (by simp)))
     have HKVb := Lib.hid hka.bel
     have hS := hHeld.trans (hka.mono (by simp))
     clear hka hg8 hG
     clear hHeld
     refine hK.out _ _ hS (fun hHeld => ?_)
     try simp only [Act.put, List.setIfInBounds_toArray, List.set_cons_zero, List.set_cons_succ]
     clear hK
     clear hS
     refine wpAnyH_ready (rs := [6]) (by kernel_rfl) (by simp) ?_
     refine AllReadyH.cons (o := { dst := some 86, op := Op.call { callee := Callee.builtin Builtin.append, args := #[Operand.tmp 81, Operand.tmp 85], argTypes := #[22, 22] }, type := 22, pos := "law.go:52", after := #[{ on := 1, ground := Ground.data }, { on := 5, ground := Ground.data }, { on := 4, ground := Ground.chain }], guard := none }) rfl (fun K hK => ?_) AllReadyH.nil
     have HOv := Lib.hid (ownsRow_keep HOw6.out (fun b _ hb => by
      have e : g = b := Option.some.inj hb
      subst e
      exact HKV2.out.block g HRw6.out.lt (by have := HGt.out.1; simpa using this)))
     have HRv := Lib.hid (HRw6.out.kpT HT6.out HKV2.out HGt.out.1)
     obtain ⟨v7, w7, hrun, how, hgr⟩ := run_append_dvs (w := V2) (base := w2.heap.size) (v := .slice (some ⟨g, 0, none⟩) N lc) (xs := [] ++ L) (ys := [(⟨ei, ep, en, eo, eu, ed, el, ek, em, l2⟩, ev)]) (ty := 22) HOv.out HY.out (by simp; have := HTok.out.n; have := HN.out; omega) (by have := HK26.out.size; have := HKV2.out.size; omega)
     have HRu := Lib.hid hrun
     have HK7 := Lib.hid (show Kp [g] V2 w7 from Kp.of_grown hgr)
     obtain ⟨fa, fc, hv7⟩ := own_form how
     obtain ⟨LY, hLY⟩ : ∃ l, ([] ++ L) ++ [((⟨ei, ep, en, eo, eu, ed, el, ek, em, l2⟩ : De.ADev), ev)] = l := ⟨_, rfl⟩
     have HLY := Lib.hid (show LY = L ++ [((⟨ei, ep, en, eo, eu, ed, el, ek, em, l2⟩ : De.ADev), ev)] from hLY.symm)
     rw [hLY] at how hv7
     subst hv7
     obtain ⟨M, hM⟩ : ∃ m, LY.length = m := ⟨_, rfl⟩
     have HM := Lib.hid hM
     have HOx := Lib.hid how
     rw [hM] at HRu
     clear hrun how hgr hLY hM
     refine step_append_run rfl _ _ rfl _ _ _ rfl rfl HRu.out ?_
     have hS := hHeld.trans (HK7.out.mono (by simp))
     clear hHeld
     refine hK.out _ _ hS (fun hHeld => ?_)
     try simp only [Act.put, List.setIfInBounds_toArray, List.set_cons_zero, List.set_cons_succ]
     clear hK
     clear hS HRu
     refine wpAnyH_take (i := 7) (oi := { dst := some 87, op := Op.fieldAddr 29 (Operand.tmp 6) 0, type := 0, pos := "law.go:52", after := #[{ on := 0, ground := Ground.phase }, { on := 1, ground := Ground.phase }, { on := 2, ground := Ground.phase }, { on := 3, ground := Ground.phase }, { on := 4, ground := Ground.phase }, { on := 5, ground := Ground.phase }, { on := 6, ground := Ground.phase }], guard := none }) (v := .pointer (some ⟨Q, 0, none⟩)) rfl (by kernel_rfl) (by kernel_rfl) (by kernel_rfl) (fun _ _ _ h => h) (Or.inl ⟨by rfl, fun w hSw => by (try dsimp only at hSw); go_simp⟩) hHeld ?_
     try simp only [Act.put, List.setIfInBounds_toArray, List.set_cons_zero, List.set_cons_succ]
     refine wpAnyH_ready (rs := [8]) (by kernel_rfl) (by simp) ?_
     refine AllReadyH.cons (o := { dst := none, op := Op.store 22 (Operand.tmp 87) (Operand.tmp 86), type := 0, pos := "law.go:52", after := #[{ on := 7, ground := Ground.data }, { on := 6, ground := Ground.data }, { on := 6, ground := Ground.chain }, { on := 0, ground := Ground.phase }, { on := 1, ground := Ground.phase }, { on := 2, ground := Ground.phase }, { on := 3, ground := Ground.phase }, { on := 4, ground := Ground.phase }, { on := 5, ground := Ground.phase }, { on := 6, ground := Ground.phase }], guard := none }) rfl (fun K hK => ?_) AllReadyH.nil
     have HQ7 := Lib.hid ((HK7.out.block Q (block_lt (HQ0.out _ HKV2.out)) (by have := HGt.out.2.1; simp; omega)).trans (HQ0.out _ HKV2.out))
     have q0 := cell_one HQ7.out
     have qf := frz_one HQ7.out
     go_simp
     have HQ8 := Lib.hid (De.box_set1 HQ7.out (.slice fa M fc))
     have hkQ : Kp [Q] w7 (w7.setCell ⟨Q, 0, none⟩ (.slice fa M fc)) := (Kp.refl _ _).setCell (p := ⟨Q, 0, none⟩) (.inl (by simp)) _
     generalize w7.setCell ⟨Q, 0, none⟩ (.slice fa M fc) = we at *
     have hS := hHeld.trans (hkQ.mono (by simp))
     have HkQ := Lib.hid hkQ
     clear q0 qf hkQ
     clear hHeld
     refine hK.out _ _ hS (fun hHeld => ?_)
     try simp only [Act.put, List.setIfInBounds_toArray, List.set_cons_zero, List.set_cons_succ]
     clear hK
     clear hS
     have HSe := Lib.hid hHeld
     refine wpAnyH_done (by kernel_rfl) ?_ _
     clear hHeld
     have HD7 := Lib.hid (show De.DHas w7 (.slice fa M fc) LY from by
      have h := De.DOwn.has (W := w7) (B := w2.heap.size) (v := .slice fa LY.length fc) (l := LY) ⟨HOx.out, fun z hz => by
       rw [HLY.out] at hz
       rcases List.mem_append.1 hz with h | h
       ·exact (HRv.out.ats z h).other (g := g) HK7.out.size (HRv.out.ne z h) fun b hb hn => HK7.out.block b hb (by simpa using hn)
       ·rw [List.mem_singleton.1 h]
        exact (HA2.out.below HKVb.out).other (g := g) HK7.out.size (fun hne e => by have h1 := HA2.out.lt hne g e; have h2 := HEvg.out g e; have := HRw6.out.lt; have := HKdw.out; omega) fun b hb hn => HK7.out.block b hb (by simpa using hn)⟩
      rw [HM.out] at h
      exact h)
     have HE := Lib.hid (show Hid (ChkX Q tb w2 we) from Lib.hid ⟨fa, M, fc, LY, HQ8.out, dhasR HD7.out HkQ.out HQ7.out, rok_of (by rw [HLY.out, List.length_append, List.length_singleton, HN.out]; omega) (fun y hy => by
      rw [HLY.out] at hy
      rcases List.mem_append.1 hy with h | h
      ·exact HSw.out y h
      ·rw [List.mem_singleton.1 h]; exact HSX2.out), HK26.out.up HSe.out (by intro z hz; simp at hz; rcases hz with rfl | rfl | rfl; exact .inl (by simp); exact .inl (by simp); exact .inr HGt.out.2.2)⟩)
     go_wp2
     go_meet
     exact HE.out
    ·skip
     have HDVd := Lib.hid (HDV.out _ HKd.out)
     go_simp
     go_at_call 15
     refine Calls.mono (by with_reducible exact HDVd.out) ?_
     rintro e V ⟨⟨ei, ep, en, eo, eu, ed, el, ek, em, ev⟩, l2, rfl, hat, hsx, hll, ⟨kd, hkd, htp⟩, hkp, hfr, HWi, HWp⟩
     dsimp only [De.devV, De.devC] at *
     have HA2 := Lib.hid hat
     have HSX2 := Lib.hid (show SmW ⟨ei, ep, en, eo, eu, ed, el, ek, em, l2⟩ from ⟨sma_dev (d := ⟨ei, ep, en, eo, eu, ed, el, ek, em, ev⟩) hsx hll, HWi.out, HWp.out⟩)
     have HKV := Lib.hid (HKt.out.trans hkp)
     have HEvg := Lib.hid (show ∀ b, ev.ownBlock = some b → wd.heap.size ≤ b from hfr)
     have HKdw := Lib.hid HKd.out.size
     have hS := hHeld.trans (hkp.mono (by simp))
     clear hat hsx hll htp hkp hfr
     clear hHeld
     refine hK.out _ _ hS (fun hHeld => ?_)
     try simp only [Act.put, List.setIfInBounds_toArray, List.set_cons_zero, List.set_cons_succ]
     clear hK
     clear hS
     refine wpAnyH_ready (rs := [1, 5]) (by kernel_rfl) (by simp) ?_
     refine AllReadyH.cons (o := { dst := some 81, op := Op.load 22 (Operand.tmp 80), type := 22, pos := "law.go:52", after := #[{ on := 0, ground := Ground.data }], guard := none }) rfl (fun K hK => ?_) (AllReadyH.cons (o := { dst := some 85, op := Op.buildSlice 22 1 #[(0, Operand.tmp 84)], type := 22, pos := "law.go:52", after := #[{ on := 4, ground := Ground.data }], guard := none }) rfl (fun K hK => ?_) AllReadyH.nil)
     ·skip
      have t0 := HQ1.out _ HKV.out
      go_simp
      clear t0
      have hS := hHeld
      clear hHeld
      refine hK.out _ _ hS (fun hHeld => ?_)
      try simp only [Act.put, List.setIfInBounds_toArray, List.set_cons_zero, List.set_cons_succ]
      clear hK
      clear hS
      refine wpAnyH_ready (rs := [5]) (by kernel_rfl) (by simp) ?_
      refine AllReadyH.cons (o := { dst := some 85, op := Op.buildSlice 22 1 #[(0, Operand.tmp 84)], type := 22, pos := "law.go:52", after := #[{ on := 4, ground := Ground.data }], guard := none }) rfl (fun K hK => ?_) AllReadyH.nil
      go_simp
      have hka := (Kp.refl [] V).alloc (.cells #[.int .i64 ei, .int .i64 ep, .string en, .string eo, .string eu, .string ed, .string el, .int .i64 ek, .int .i64 em, ev] 34)
      have hg8 := heap_alloc_last V (.cells #[.int .i64 ei, .int .i64 ep, .string en, .string eo, .string eu, .string ed, .string el, .int .i64 ek, .int .i64 em, ev] 34)
      obtain ⟨G, hG⟩ : ∃ G, V.heap.size = G := ⟨_, rfl⟩
      generalize V.alloc (.cells #[.int .i64 ei, .int .i64 ep, .string en, .string eo, .string eu, .string ed, .string el, .int .i64 ek, .int .i64 em, ev] 34) = V2 at *
      rw [hG] at hg8 ⊢
      have HY := Lib.hid (one_row (x := (⟨ei, ep, en, eo, eu, ed, el, ek, em, l2⟩, ev)) hg8 (HA2.out.below hka.bel))
      have HKV2 := Lib.hid (HKV.out.trans (hka.mono (by simp)))
      have HKVb := Lib.hid hka.bel
      have hS := hHeld.trans (hka.mono (by simp))
      clear hka hg8 hG
      clear hHeld
      refine hK.out _ _ hS (fun hHeld => ?_)
      try simp only [Act.put, List.setIfInBounds_toArray, List.set_cons_zero, List.set_cons_succ]
      clear hK
      clear hS
      refine wpAnyH_ready (rs := [6]) (by kernel_rfl) (by simp) ?_
      refine AllReadyH.cons (o := { dst := some 86, op := Op.call { callee := Callee.builtin Builtin.append, args := #[Operand.tmp 81, Operand.tmp 85], argTypes := #[22, 22] }, type := 22, pos := "law.go:52", after := #[{ on := 1, ground := Ground.data }, { on := 5, ground := Ground.data }, { on := 4, ground := Ground.chain }], guard := none }) rfl (fun K hK => ?_) AllReadyH.nil
      have HOv := Lib.hid (ownsRow_keep HOw6.out (fun b _ hb => by
       have e : g = b := Option.some.inj hb
       subst e
       exact HKV2.out.block g HRw6.out.lt (by have := HGt.out.1; simpa using this)))
      have HRv := Lib.hid (HRw6.out.kpT HT6.out HKV2.out HGt.out.1)
      obtain ⟨v7, w7, hrun, how, hgr⟩ := run_append_dvs (w := V2) (base := w2.heap.size) (v := .slice (some ⟨g, 0, none⟩) N lc) (xs := [] ++ L) (ys := [(⟨ei, ep, en, eo, eu, ed, el, ek, em, l2⟩, ev)]) (ty := 22) HOv.out HY.out (by simp; have := HTok.out.n; have := HN.out; omega) (by have := HK26.out.size; have := HKV2.out.size; omega)
      have HRu := Lib.hid hrun
      have HK7 := Lib.hid (show Kp [g] V2 w7 from Kp.of_grown hgr)
      obtain ⟨fa, fc, hv7⟩ := own_form how
      obtain ⟨LY, hLY⟩ : ∃ l, ([] ++ L) ++ [((⟨ei, ep, en, eo, eu, ed, el, ek, em, l2⟩ : De.ADev), ev)] = l := ⟨_, rfl⟩
      have HLY := Lib.hid (show LY = L ++ [((⟨ei, ep, en, eo, eu, ed, el, ek, em, l2⟩ : De.ADev), ev)] from hLY.symm)
      rw [hLY] at how hv7
      subst hv7
      obtain ⟨M, hM⟩ : ∃ m, LY.length = m := ⟨_, rfl⟩
      have HM := Lib.hid hM
      have HOx := Lib.hid how
      rw [hM] at HRu
      clear hrun how hgr hLY hM
      refine step_append_run rfl _ _ rfl _ _ _ rfl rfl HRu.out ?_
      have hS := hHeld.trans (HK7.out.mono (by simp))
      clear hHeld
      refine hK.out _ _ hS (fun hHeld => ?_)
      try simp only [Act.put, List.setIfInBounds_toArray, List.set_cons_zero, List.set_cons_succ]
      clear hK
      clear hS HRu
      refine wpAnyH_take (i := 7) (oi := { dst := some 87, op := Op.fieldAddr 29 (Operand.tmp 6) 0, type := 0, pos := "law.go:52", after := #[{ on := 0, ground := Ground.phase }, { on := 1, ground := Ground.phase }, { on := 2, ground := Ground.phase }, { on := 3, ground := Ground.phase }, { on := 4, ground := Ground.phase }, { on := 5, ground := Ground.phase }, { on := 6, ground := Ground.phase }], guard := none }) (v := .pointer (some ⟨Q, 0, none⟩)) rfl (by kernel_rfl) (by kernel_rfl) (by kernel_rfl) (fun _ _ _ h => h) (Or.inl ⟨by rfl, fun w hSw => by (try dsimp only at hSw); go_simp⟩) hHeld ?_
      try simp only [Act.put, List.setIfInBounds_toArray, List.set_cons_zero, List.set_cons_succ]
      refine wpAnyH_ready (rs := [8]) (by kernel_rfl) (by simp) ?_
      refine AllReadyH.cons (o := { dst := none, op := Op.store 22 (Operand.tmp 87) (Operand.tmp 86), type := 0, pos := "law.go:52", after := #[{ on := 7, ground := Ground.data }, { on := 6, ground := Ground.data }, { on := 6, ground := Ground.chain }, { on := 0, ground := Ground.phase }, { on := 1, ground := Ground.phase }, { on := 2, ground := Ground.phase }, { on := 3, ground := Ground.phase }, { on := 4, ground := Ground.phase }, { on := 5, ground := Ground.phase }, { on := 6, ground := Ground.phase }], guard := none }) rfl (fun K hK => ?_) AllReadyH.nil
      have HQ7 := Lib.hid ((HK7.out.block Q (block_lt (HQ0.out _ HKV2.out)) (by have := HGt.out.2.1; simp; omega)).trans (HQ0.out _ HKV2.out))
      have q0 := cell_one HQ7.out
      have qf := frz_one HQ7.out
      go_simp
      have HQ8 := Lib.hid (De.box_set1 HQ7.out (.slice fa M fc))
      have hkQ : Kp [Q] w7 (w7.setCell ⟨Q, 0, none⟩ (.slice fa M fc)) := (Kp.refl _ _).setCell (p := ⟨Q, 0, none⟩) (.inl (by simp)) _
      generalize w7.setCell ⟨Q, 0, none⟩ (.slice fa M fc) = we at *
      have hS := hHeld.trans (hkQ.mono (by simp))
      have HkQ := Lib.hid hkQ
      clear q0 qf hkQ
      clear hHeld
      refine hK.out _ _ hS (fun hHeld => ?_)
      try simp only [Act.put, List.setIfInBounds_toArray, List.set_cons_zero, List.set_cons_succ]
      clear hK
      clear hS
      have HSe := Lib.hid hHeld
      refine wpAnyH_done (by kernel_rfl) ?_ _
      clear hHeld
      have HD7 := Lib.hid (show De.DHas w7 (.slice fa M fc) LY from by
       have h := De.DOwn.has (W := w7) (B := w2.heap.size) (v := .slice fa LY.length fc) (l := LY) ⟨HOx.out, fun z hz => by
        rw [HLY.out] at hz
        rcases List.mem_append.1 hz with h | h
        ·exact (HRv.out.ats z h).other (g := g) HK7.out.size (HRv.out.ne z h) fun b hb hn => HK7.out.block b hb (by simpa using hn)
        ·rw [List.mem_singleton.1 h]
         exact (HA2.out.below HKVb.out).other (g := g) HK7.out.size (fun hne e => by have h1 := HA2.out.lt hne g e; have h2 := HEvg.out g e; have := HRw6.out.lt; have := HKdw.out; omega) fun b hb hn => HK7.out.block b hb (by simpa using hn)⟩
       rw [HM.out] at h
       exact h)
      have HE := Lib.hid (show Hid (ChkX Q tb w2 we) from Lib.hid ⟨fa, M, fc, LY, HQ8.out, dhasR HD7.out HkQ.out HQ7.out, rok_of (by rw [HLY.out, List.length_append, List.length_singleton, HN.out]; omega) (fun y hy => by
       rw [HLY.out] at hy
       rcases List.mem_append.1 hy with h | h
       ·exact HSw.out y h
       ·rw [List.mem_singleton.1 h]; exact HSX2.out), HK26.out.up HSe.out (by intro z hz; simp at hz; rcases hz with rfl | rfl | rfl; exact .inl (by simp); exact .inl (by simp); exact .inr HGt.out.2.2)⟩)
      go_wp2
      go_meet
      exact HE.out
     ·skip
      go_simp
      have hka := (Kp.refl [] V).alloc (.cells #[.int .i64 ei, .int .i64 ep, .string en, .string eo, .string eu, .string ed, .string el, .int .i64 ek, .int .i64 em, ev] 34)
      have hg8 := heap_alloc_last V (.cells #[.int .i64 ei, .int .i64 ep, .string en, .string eo, .string eu, .string ed, .string el, .int .i64 ek, .int .i64 em, ev] 34)
      obtain ⟨G, hG⟩ : ∃ G, V.heap.size = G := ⟨_, rfl⟩
      generalize V.alloc (.cells #[.int .i64 ei, .int .i64 ep, .string en, .string eo, .string eu, .string ed, .string el, .int .i64 ek, .int .i64 em, ev] 34) = V2 at *
      rw [hG] at hg8 ⊢
      have HY := Lib.hid (one_row (x := (⟨ei, ep, en, eo, eu, ed, el, ek, em, l2⟩, ev)) hg8 (HA2.out.below hka.bel))
      have HKV2 := Lib.hid (HKV.out.trans (hka.mono (by simp)))
      have HKVb := Lib.hid hka.bel
      have hS := hHeld.trans (hka.mono (by simp))
      clear hka hg8 hG
      clear hHeld
      refine hK.out _ _ hS (fun hHeld => ?_)
      try simp only [Act.put, List.setIfInBounds_toArray, List.set_cons_zero, List.set_cons_succ]
      clear hK
      clear hS
      refine wpAnyH_ready (rs := [1]) (by kernel_rfl) (by simp) ?_
      refine AllReadyH.cons (o := { dst := some 81, op := Op.load 22 (Operand.tmp 80), type := 22, pos := "law.go:52", after := #[{ on := 0, ground := Ground.data }], guard := none }) rfl (fun K hK => ?_) AllReadyH.nil
      have t0 := HQ1.out _ HKV2.out
      go_simp
      clear t0
      have hS := hHeld
      clear hHeld
      refine hK.out _ _ hS (fun hHeld => ?_)
      try simp only [Act.put, List.setIfInBounds_toArray, List.set_cons_zero, List.set_cons_succ]
      clear hK
      clear hS
      refine wpAnyH_ready (rs := [6]) (by kernel_rfl) (by simp) ?_
      refine AllReadyH.cons (o := { dst := some 86, op := Op.call { callee := Callee.builtin Builtin.append, args := #[Operand.tmp 81, Operand.tmp 85], argTypes := #[22, 22] }, type := 22, pos := "law.go:52", after := #[{ on := 1, ground := Ground.data }, { on := 5, ground := Ground.data }, { on := 4, ground := Ground.chain }], guard := none }) rfl (fun K hK => ?_) AllReadyH.nil
      have HOv := Lib.hid (ownsRow_keep HOw6.out (fun b _ hb => by
       have e : g = b := Option.some.inj hb
       subst e
       exact HKV2.out.block g HRw6.out.lt (by have := HGt.out.1; simpa using this)))
      have HRv := Lib.hid (HRw6.out.kpT HT6.out HKV2.out HGt.out.1)
      obtain ⟨v7, w7, hrun, how, hgr⟩ := run_append_dvs (w := V2) (base := w2.heap.size) (v := .slice (some ⟨g, 0, none⟩) N lc) (xs := [] ++ L) (ys := [(⟨ei, ep, en, eo, eu, ed, el, ek, em, l2⟩, ev)]) (ty := 22) HOv.out HY.out (by simp; have := HTok.out.n; have := HN.out; omega) (by have := HK26.out.size; have := HKV2.out.size; omega)
      have HRu := Lib.hid hrun
      have HK7 := Lib.hid (show Kp [g] V2 w7 from Kp.of_grown hgr)
      obtain ⟨fa, fc, hv7⟩ := own_form how
      obtain ⟨LY, hLY⟩ : ∃ l, ([] ++ L) ++ [((⟨ei, ep, en, eo, eu, ed, el, ek, em, l2⟩ : De.ADev), ev)] = l := ⟨_, rfl⟩
      have HLY := Lib.hid (show LY = L ++ [((⟨ei, ep, en, eo, eu, ed, el, ek, em, l2⟩ : De.ADev), ev)] from hLY.symm)
      rw [hLY] at how hv7
      subst hv7
      obtain ⟨M, hM⟩ : ∃ m, LY.length = m := ⟨_, rfl⟩
      have HM := Lib.hid hM
      have HOx := Lib.hid how
      rw [hM] at HRu
      clear hrun how hgr hLY hM
      refine step_append_run rfl _ _ rfl _ _ _ rfl rfl HRu.out ?_
      have hS := hHeld.trans (HK7.out.mono (by simp))
      clear hHeld
      refine hK.out _ _ hS (fun hHeld => ?_)
      try simp only [Act.put, List.setIfInBounds_toArray, List.set_cons_zero, List.set_cons_succ]
      clear hK
      clear hS HRu
      refine wpAnyH_take (i := 7) (oi := { dst := some 87, op := Op.fieldAddr 29 (Operand.tmp 6) 0, type := 0, pos := "law.go:52", after := #[{ on := 0, ground := Ground.phase }, { on := 1, ground := Ground.phase }, { on := 2, ground := Ground.phase }, { on := 3, ground := Ground.phase }, { on := 4, ground := Ground.phase }, { on := 5, ground := Ground.phase }, { on := 6, ground := Ground.phase }], guard := none }) (v := .pointer (some ⟨Q, 0, none⟩)) rfl (by kernel_rfl) (by kernel_rfl) (by kernel_rfl) (fun _ _ _ h => h) (Or.inl ⟨by rfl, fun w hSw => by (try dsimp only at hSw); go_simp⟩) hHeld ?_
      try simp only [Act.put, List.setIfInBounds_toArray, List.set_cons_zero, List.set_cons_succ]
      refine wpAnyH_ready (rs := [8]) (by kernel_rfl) (by simp) ?_
      refine AllReadyH.cons (o := { dst := none, op := Op.store 22 (Operand.tmp 87) (Operand.tmp 86), type := 0, pos := "law.go:52", after := #[{ on := 7, ground := Ground.data }, { on := 6, ground := Ground.data }, { on := 6, ground := Ground.chain }, { on := 0, ground := Ground.phase }, { on := 1, ground := Ground.phase }, { on := 2, ground := Ground.phase }, { on := 3, ground := Ground.phase }, { on := 4, ground := Ground.phase }, { on := 5, ground := Ground.phase }, { on := 6, ground := Ground.phase }], guard := none }) rfl (fun K hK => ?_) AllReadyH.nil
      have HQ7 := Lib.hid ((HK7.out.block Q (block_lt (HQ0.out _ HKV2.out)) (by have := HGt.out.2.1; simp; omega)).trans (HQ0.out _ HKV2.out))
      have q0 := cell_one HQ7.out
      have qf := frz_one HQ7.out
      go_simp
      have HQ8 := Lib.hid (De.box_set1 HQ7.out (.slice fa M fc))
      have hkQ : Kp [Q] w7 (w7.setCell ⟨Q, 0, none⟩ (.slice fa M fc)) := (Kp.refl _ _).setCell (p := ⟨Q, 0, none⟩) (.inl (by simp)) _
      generalize w7.setCell ⟨Q, 0, none⟩ (.slice fa M fc) = we at *
      have hS := hHeld.trans (hkQ.mono (by simp))
      have HkQ := Lib.hid hkQ
      clear q0 qf hkQ
      clear hHeld
      refine hK.out _ _ hS (fun hHeld => ?_)
      try simp only [Act.put, List.setIfInBounds_toArray, List.set_cons_zero, List.set_cons_succ]
      clear hK
      clear hS
      have HSe := Lib.hid hHeld
      refine wpAnyH_done (by kernel_rfl) ?_ _
      clear hHeld
      have HD7 := Lib.hid (show De.DHas w7 (.slice fa M fc) LY from by
       have h := De.DOwn.has (W := w7) (B := w2.heap.size) (v := .slice fa LY.length fc) (l := LY) ⟨HOx.out, fun z hz => by
        rw [HLY.out] at hz
        rcases List.mem_append.1 hz with h | h
        ·exact (HRv.out.ats z h).other (g := g) HK7.out.size (HRv.out.ne z h) fun b hb hn => HK7.out.block b hb (by simpa using hn)
        ·rw [List.mem_singleton.1 h]
         exact (HA2.out.below HKVb.out).other (g := g) HK7.out.size (fun hne e => by have h1 := HA2.out.lt hne g e; have h2 := HEvg.out g e; have := HRw6.out.lt; have := HKdw.out; omega) fun b hb hn => HK7.out.block b hb (by simpa using hn)⟩
       rw [HM.out] at h
       exact h)
      have HE := Lib.hid (show Hid (ChkX Q tb w2 we) from Lib.hid ⟨fa, M, fc, LY, HQ8.out, dhasR HD7.out HkQ.out HQ7.out, rok_of (by rw [HLY.out, List.length_append, List.length_singleton, HN.out]; omega) (fun y hy => by
       rw [HLY.out] at hy
       rcases List.mem_append.1 hy with h | h
       ·exact HSw.out y h
       ·rw [List.mem_singleton.1 h]; exact HSX2.out), HK26.out.up HSe.out (by intro z hz; simp at hz; rcases hz with rfl | rfl | rfl; exact .inl (by simp); exact .inl (by simp); exact .inr HGt.out.2.2)⟩)
      go_wp2
      go_meet
      exact HE.out
  ·go_upto_region 21 with fail
   refine wp_region_held_drew (S := fun W => Kp [tb, g] w6 W) (by kernel_rfl) ((Kp.refl [tb, g] w6).drew 1) (fun hHeld => ?_)
   have HKd := Lib.hid (show Kp [] w6 w6.drew from (Kp.refl [] w6).drew 1)
   generalize hwd : w6.drew = wd at *
   clear hwd
   refine wpAnyH_take (i := 0) (oi := { dst := some 90, op := Op.fieldAddr 29 (Operand.tmp 6) 0, type := 0, pos := "law.go:54", after := #[], guard := none }) (v := .pointer (some ⟨Q, 0, none⟩)) rfl (by kernel_rfl) (by kernel_rfl) (by kernel_rfl) (fun _ _ _ h => h) (Or.inl ⟨by rfl, fun w hSw => by (try dsimp only at hSw); go_simp⟩) hHeld ?_
   try simp only [Act.put, List.setIfInBounds_toArray, List.set_cons_zero, List.set_cons_succ]
   refine wpAnyH_take (i := 1) (oi := { dst := some 91, op := Op.load 22 (Operand.tmp 90), type := 22, pos := "law.go:54", after := #[{ on := 0, ground := Ground.data }], guard := none }) (v := .slice (some ⟨g, 0, none⟩) N lc) rfl (by kernel_rfl) (by kernel_rfl) (by kernel_rfl) (fun _ _ _ h => h) (Or.inl ⟨by rfl, fun w hSw => by (try dsimp only at hSw); have t0 := HQk.out _ hSw; go_simp⟩) hHeld ?_
   try simp only [Act.put, List.setIfInBounds_toArray, List.set_cons_zero, List.set_cons_succ]
   refine wpAnyH_take (i := 2) (oi := { dst := some 92, op := Op.move (Operand.tmp 8), type := 3, pos := "law.go:54", after := #[], guard := none }) (v := .int .i64 (kk : Int)) rfl (by kernel_rfl) (by kernel_rfl) (by kernel_rfl) (fun _ _ _ h => h) (Or.inl ⟨by rfl, fun w hSw => by (try dsimp only at hSw); go_simp⟩) hHeld ?_
   try simp only [Act.put, List.setIfInBounds_toArray, List.set_cons_zero, List.set_cons_succ]
   refine wpAnyH_take (i := 3) (oi := { dst := some 93, op := Op.fieldAddr 29 (Operand.tmp 6) 0, type := 0, pos := "law.go:54", after := #[{ on := 8, ground := Ground.gcOnly Departure.lateStores }], guard := none }) (v := .pointer (some ⟨Q, 0, none⟩)) rfl (by kernel_rfl) (by kernel_rfl) (by kernel_rfl) (fun _ _ _ h => h) (Or.inl ⟨by rfl, fun w hSw => by (try dsimp only at hSw); go_simp⟩) hHeld ?_
   try simp only [Act.put, List.setIfInBounds_toArray, List.set_cons_zero, List.set_cons_succ]
   refine wpAnyH_take (i := 4) (oi := { dst := some 94, op := Op.load 22 (Operand.tmp 93), type := 22, pos := "law.go:54", after := #[{ on := 3, ground := Ground.data }, { on := 8, ground := Ground.gcOnly Departure.lateStores }], guard := none }) (v := .slice (some ⟨g, 0, none⟩) N lc) rfl (by kernel_rfl) (by kernel_rfl) (by kernel_rfl) (fun _ _ _ h => h) (Or.inl ⟨by rfl, fun w hSw => by (try dsimp only at hSw); have t0 := HQk.out _ hSw; go_simp⟩) hHeld ?_
   try simp only [Act.put, List.setIfInBounds_toArray, List.set_cons_zero, List.set_cons_succ]
   refine wpAnyH_take (i := 5) (oi := { dst := some 95, op := Op.move (Operand.tmp 8), type := 3, pos := "law.go:54", after := #[{ on := 8, ground := Ground.gcOnly Departure.lateStores }], guard := none }) (v := .int .i64 (kk : Int)) rfl (by kernel_rfl) (by kernel_rfl) (by kernel_rfl) (fun _ _ _ h => h) (Or.inl ⟨by rfl, fun w hSw => by (try dsimp only at hSw); go_simp⟩) hHeld ?_
   try simp only [Act.put, List.setIfInBounds_toArray, List.set_cons_zero, List.set_cons_succ]
   refine wpAnyH_take (i := 6) (oi := { dst := some 96, op := Op.indexAddr 22 (Operand.tmp 91) (Operand.tmp 92), type := 0, pos := "law.go:54", after := #[{ on := 1, ground := Ground.data }, { on := 2, ground := Ground.data }, { on := 0, ground := Ground.phase }, { on := 1, ground := Ground.phase }, { on := 2, ground := Ground.phase }, { on := 3, ground := Ground.textOnly Departure.lateStores }, { on := 4, ground := Ground.textOnly Departure.lateStores }, { on := 5, ground := Ground.textOnly Departure.lateStores }], guard := none }) (v := .pointer (some ⟨g, kk * 10, none⟩)) rfl (by kernel_rfl) (by kernel_rfl) (by kernel_rfl) (fun _ _ _ h => h) (Or.inl ⟨by rfl, fun w hSw => by (try dsimp only at hSw); go_simp⟩) hHeld ?_
   try simp only [Act.put, List.setIfInBounds_toArray, List.set_cons_zero, List.set_cons_succ]
   refine wpAnyH_take (i := 7) (oi := { dst := some 97, op := Op.fieldAddr 34 (Operand.tmp 96) 3, type := 0, pos := "law.go:54", after := #[{ on := 6, ground := Ground.data }, { on := 0, ground := Ground.phase }, { on := 1, ground := Ground.phase }, { on := 2, ground := Ground.phase }, { on := 3, ground := Ground.textOnly Departure.lateStores }, { on := 4, ground := Ground.textOnly Departure.lateStores }, { on := 5, ground := Ground.textOnly Departure.lateStores }], guard := none }) (v := .pointer (some ⟨g, kk * 10 + 3, none⟩)) rfl (by kernel_rfl) (by kernel_rfl) (by kernel_rfl) (fun _ _ _ h => h) (Or.inl ⟨by rfl, fun w hSw => by (try dsimp only at hSw); go_simp⟩) hHeld ?_
   try simp only [Act.put, List.setIfInBounds_toArray, List.set_cons_zero, List.set_cons_succ]
   have HRv := Lib.hid (HRw6.out.kp0 HKd.out)
   refine wpAnyH_ready (rs := [8]) (by kernel_rfl) (by simp) ?_
   refine AllReadyH.cons (o := { dst := none, op := Op.store 9 (Operand.tmp 97) (Operand.const (Value.string { data := #[122, 122] })), type := 0, pos := "law.go:54", after := #[{ on := 7, ground := Ground.data }, { on := 0, ground := Ground.phase }, { on := 1, ground := Ground.phase }, { on := 2, ground := Ground.phase }, { on := 3, ground := Ground.textOnly Departure.lateStores }, { on := 4, ground := Ground.textOnly Departure.lateStores }, { on := 5, ground := Ground.textOnly Departure.lateStores }], guard := none }) rfl (fun K hK => ?_) AllReadyH.nil
   have c0 : wd.cell? ⟨g, kk * 10 + 3, none⟩ = some (.string xo) := HRv.out.row kk _ HX.out 3 _ rfl
   have f0 : wd.frozen? ⟨g, kk * 10 + 3, none⟩ = false := HRv.out.fr _
   go_simp
   have HR1 := Lib.hid (show Rw g (L.set kk (⟨xi, xp, xn, ⟨#[122, 122]⟩, xu, xd, xl, xk, xm, xa⟩, xv)) (wd.setCell ⟨g, kk * 10 + 3, none⟩ (.string ⟨#[122, 122]⟩)) from HRv.out.set1 (m := 3) (y := (⟨xi, xp, xn, ⟨#[122, 122]⟩, xu, xd, xl, xk, xm, xa⟩, xv)) HX.out (by decide) rfl rfl rfl)
   have hkR : Kp [g] wd (wd.setCell ⟨g, kk * 10 + 3, none⟩ (.string ⟨#[122, 122]⟩)) := (Kp.refl _ _).setCell (p := ⟨g, kk * 10 + 3, none⟩) (.inl (by simp)) _
   generalize wd.setCell ⟨g, kk * 10 + 3, none⟩ (.string ⟨#[122, 122]⟩) = wf at *
   have hS := hHeld.trans (hkR.mono (by simp))
   clear hkR c0 f0
   clear hHeld
   refine hK.out _ _ hS (fun hHeld => ?_)
   try simp only [Act.put, List.setIfInBounds_toArray, List.set_cons_zero, List.set_cons_succ]
   clear hK
   clear hS
   refine wpAnyH_take (i := 9) (oi := { dst := some 98, op := Op.indexAddr 22 (Operand.tmp 94) (Operand.tmp 95), type := 0, pos := "law.go:54", after := #[{ on := 4, ground := Ground.data }, { on := 5, ground := Ground.data }, { on := 0, ground := Ground.phase }, { on := 1, ground := Ground.phase }, { on := 2, ground := Ground.phase }, { on := 3, ground := Ground.phase }, { on := 4, ground := Ground.phase }, { on := 5, ground := Ground.phase }, { on := 6, ground := Ground.phase }, { on := 7, ground := Ground.phase }, { on := 8, ground := Ground.phase }], guard := none }) (v := .pointer (some ⟨g, kk * 10, none⟩)) rfl (by kernel_rfl) (by kernel_rfl) (by kernel_rfl) (fun _ _ _ h => h) (Or.inl ⟨by rfl, fun w hSw => by (try dsimp only at hSw); go_simp⟩) hHeld ?_
   try simp only [Act.put, List.setIfInBounds_toArray, List.set_cons_zero, List.set_cons_succ]
   refine wpAnyH_take (i := 10) (oi := { dst := some 99, op := Op.fieldAddr 34 (Operand.tmp 98) 2, type := 0, pos := "law.go:54", after := #[{ on := 9, ground := Ground.data }, { on := 0, ground := Ground.phase }, { on := 1, ground := Ground.phase }, { on := 2, ground := Ground.phase }, { on := 3, ground := Ground.phase }, { on := 4, ground := Ground.phase }, { on := 5, ground := Ground.phase }, { on := 6, ground := Ground.phase }, { on := 7, ground := Ground.phase }, { on := 8, ground := Ground.phase }], guard := none }) (v := .pointer (some ⟨g, kk * 10 + 2, none⟩)) rfl (by kernel_rfl) (by kernel_rfl) (by kernel_rfl) (fun _ _ _ h => h) (Or.inl ⟨by rfl, fun w hSw => by (try dsimp only at hSw); go_simp⟩) hHeld ?_
   try simp only [Act.put, List.setIfInBounds_toArray, List.set_cons_zero, List.set_cons_succ]
   have HX1 := Lib.hid (show (L.set kk (⟨xi, xp, xn, ⟨#[122, 122]⟩, xu, xd, xl, xk, xm, xa⟩, xv))[kk]? = some (⟨xi, xp, xn, ⟨#[122, 122]⟩, xu, xd, xl, xk, xm, xa⟩, xv) from List.getElem?_set_self (by rw [HN.out]; exact hkk))
   refine wpAnyH_ready (rs := [11]) (by kernel_rfl) (by simp) ?_
   refine AllReadyH.cons (o := { dst := none, op := Op.store 9 (Operand.tmp 99) (Operand.const (Value.string { data := #[122, 122] })), type := 0, pos := "law.go:54", after := #[{ on := 10, ground := Ground.data }, { on := 8, ground := Ground.chain }, { on := 0, ground := Ground.phase }, { on := 1, ground := Ground.phase }, { on := 2, ground := Ground.phase }, { on := 3, ground := Ground.phase }, { on := 4, ground := Ground.phase }, { on := 5, ground := Ground.phase }, { on := 6, ground := Ground.phase }, { on := 7, ground := Ground.phase }, { on := 8, ground := Ground.phase }], guard := none }) rfl (fun K hK => ?_) AllReadyH.nil
   have c0 : wf.cell? ⟨g, kk * 10 + 2, none⟩ = some (.string xn) := HR1.out.row kk _ HX1.out 2 _ rfl
   have f0 : wf.frozen? ⟨g, kk * 10 + 2, none⟩ = false := HR1.out.fr _
   go_simp
   have HRe := Lib.hid (show Rw g ((L.set kk (⟨xi, xp, xn, ⟨#[122, 122]⟩, xu, xd, xl, xk, xm, xa⟩, xv)).set kk (⟨xi, xp, ⟨#[122, 122]⟩, ⟨#[122, 122]⟩, xu, xd, xl, xk, xm, xa⟩, xv)) (wf.setCell ⟨g, kk * 10 + 2, none⟩ (.string ⟨#[122, 122]⟩)) from HR1.out.set1 (m := 2) (y := (⟨xi, xp, ⟨#[122, 122]⟩, ⟨#[122, 122]⟩, xu, xd, xl, xk, xm, xa⟩, xv)) HX1.out (by decide) rfl rfl rfl)
   have hkR : Kp [g] wf (wf.setCell ⟨g, kk * 10 + 2, none⟩ (.string ⟨#[122, 122]⟩)) := (Kp.refl _ _).setCell (p := ⟨g, kk * 10 + 2, none⟩) (.inl (by simp)) _
   generalize wf.setCell ⟨g, kk * 10 + 2, none⟩ (.string ⟨#[122, 122]⟩) = we at *
   have hS := hHeld.trans (hkR.mono (by simp))
   clear hkR c0 f0
   clear hHeld
   refine hK.out _ _ hS (fun hHeld => ?_)
   try simp only [Act.put, List.setIfInBounds_toArray, List.set_cons_zero, List.set_cons_succ]
   clear hK
   clear hS
   have HSe := Lib.hid hHeld
   refine wpAnyH_done (by kernel_rfl) ?_ _
   clear hHeld
   go_wp2
   go_meet
   exact HEnd.out _ _ HSe.out HRe.out (by rw [List.length_set, List.length_set, HN.out]) (smw_set (smw_set HSw.out ⟨⟨⟨HSX.out.1.1.n, (by decide : (2 : Nat) ≤ 300), HSX.out.1.1.s, HSX.out.1.1.r, HSX.out.1.1.i, HSX.out.1.1.a⟩, HSX.out.1.2⟩, HSX.out.2.1, HSX.out.2.2⟩) ⟨⟨⟨(by decide : (2 : Nat) ≤ 300), (by decide : (2 : Nat) ≤ 300), HSX.out.1.1.s, HSX.out.1.1.r, HSX.out.1.1.i, HSX.out.1.1.a⟩, HSX.out.1.2⟩, HSX.out.2.1, HSX.out.2.2⟩)
  ·go_wp2
   go_meet
   exact HEnd.out w6 L (Kp.refl _ _) HRw6.out HN.out HSw.out
  ·go_wp2
   go_meet
   exact HEnd.out w6 L (Kp.refl _ _) HRw6.out HN.out HSw.out
 obtain ⟨xa, xn, xc, LX, hQx, hDx, hRx, hKx⟩ := hcut.out
 have HQc := Lib.hid hQx
 have HDx := Lib.hid hDx
 have HRx := Lib.hid hRx
 have HKx := Lib.hid hKx
 clear hQx hDx hRx hKx hcut
 have HBw := Lib.hid (show Below w.heap.size w wc from ((HK2.out.mono (by simp)).trans HKx.out).below (Nat.le_refl _) (by intro x hx; simp at hx; have := Htb.out; have := HQt.out; omega))
 have HMc := Lib.hid (show De.Max wc from by
  obtain ⟨m, hm⟩ := HM2.out
  exact ⟨m, cell_kpT HKx.out (World.block_lt_of_cell? w2 _ hm) (by have := H0t.out; have := HQt.out; simp; omega) hm⟩)
 have HFin := Lib.hid (fun (w' : World) (hk : Kp [] wc w') => (show Below w.heap.size w w' from HBw.out.trans (hk.bel.mono HBw.out.size)))
 obtain ⟨T1, hT1⟩ : ∃ t, treeN (LR.map (·.1)) = t := ⟨_, rfl⟩
 obtain ⟨T2, hT2⟩ : ∃ t, treeN (LX.map (·.1)) = t := ⟨_, rfl⟩
 have HR16 := Lib.hid (fun W (hk : Kp [] wc W) => (show Calls Tryz.prog 16 #[.agg #[.slice ra rn rc]] W fun e w' => e = .returned (.int .i64 T1) ∧ Kp [] W w' from by
  have h := De.checkTreeR_any (.slice ra rn rc) LR W HRok.out ((HRaw.out.below HBw.out).below hk.bel) (HMc.out.below hk.bel)
  rw [treeT_eq, hT1] at h
  exact h))
 have HR17 := Lib.hid (fun W (hk : Kp [] wc W) => (show Calls Tryz.prog 17 #[.agg #[.slice ra rn rc]] W fun e w' => e = .returned (.int .i64 T1) ∧ Kp [] W w' from by
  have h := refTree_any (.slice ra rn rc) LR W HRok.out ((HRaw.out.below HBw.out).below hk.bel) (HMc.out.below hk.bel)
  rw [hT1] at h
  exact h))
 have HX16 := Lib.hid (fun W (hk : Kp [] wc W) => (show Calls Tryz.prog 16 #[.agg #[.slice xa xn xc]] W fun e w' => e = .returned (.int .i64 T2) ∧ Kp [] W w' from by
  have h := De.checkTreeR_any (.slice xa xn xc) LX W HRx.out (HDx.out.below hk.bel) (HMc.out.below hk.bel)
  rw [treeT_eq, hT2] at h
  exact h))
 have HX17 := Lib.hid (fun W (hk : Kp [] wc W) => (show Calls Tryz.prog 17 #[.agg #[.slice xa xn xc]] W fun e w' => e = .returned (.int .i64 T2) ∧ Kp [] W w' from by
  have h := refTree_any (.slice xa xn xc) LX W HRx.out (HDx.out.below hk.bel) (HMc.out.below hk.bel)
  rw [hT2] at h
  exact h))
 have HKn := Lib.hid (fun W (hk : Kp [] wc W) => De.known_any W (HMc.out.below hk.bel))
 have HQx := Lib.hid (fun (W : World) (hk : Kp [] wc W) => cell_kp hk (cell_one HQc.out))
 clear hT1 hT2
 have he1 : (T1 == T1) = true := by simp
 have he2 : (T2 == T2) = true := by simp
 go_upto_region 22 with fail
 refine wp_region_held_drew (S := fun W => Kp [] wc W) (by kernel_rfl) ((Kp.refl [] wc).drew 1) (fun hHeld => ?_)
 generalize hwd : wc.drew = wd at *
 clear hwd
 refine wpAnyH_take (i := 0) (oi := { dst := some 100, op := Op.move (Operand.tmp 0), type := 22, pos := "law.go:57", after := #[], guard := none }) (v := .slice ra rn rc) rfl (by kernel_rfl) (by kernel_rfl) (by kernel_rfl) (fun _ _ _ h => h) (Or.inl ⟨by rfl, fun w hSw => by (try dsimp only at hSw); go_simp⟩) hHeld ?_
 try simp only [Act.put, List.setIfInBounds_toArray, List.set_cons_zero, List.set_cons_succ]
 refine wpAnyH_take (i := 1) (oi := { dst := some 101, op := Op.build 29 #[(0, Operand.tmp 100)], type := 29, pos := "law.go:57", after := #[{ on := 0, ground := Ground.data }], guard := none }) (v := .agg #[.slice ra rn rc]) rfl (by kernel_rfl) (by kernel_rfl) (by kernel_rfl) (fun _ _ _ h => h) (Or.inl ⟨by rfl, fun w hSw => by (try dsimp only at hSw); go_simp⟩) hHeld ?_
 try simp only [Act.put, List.setIfInBounds_toArray, List.set_cons_zero, List.set_cons_succ]
 refine wpAnyH_take (i := 3) (oi := { dst := some 103, op := Op.move (Operand.tmp 0), type := 22, pos := "law.go:57", after := #[], guard := none }) (v := .slice ra rn rc) rfl (by kernel_rfl) (by kernel_rfl) (by kernel_rfl) (fun _ _ _ h => h) (Or.inl ⟨by rfl, fun w hSw => by (try dsimp only at hSw); go_simp⟩) hHeld ?_
 try simp only [Act.put, List.setIfInBounds_toArray, List.set_cons_zero, List.set_cons_succ]
 refine wpAnyH_take (i := 4) (oi := { dst := some 104, op := Op.build 29 #[(0, Operand.tmp 103)], type := 29, pos := "law.go:57", after := #[{ on := 3, ground := Ground.data }], guard := none }) (v := .agg #[.slice ra rn rc]) rfl (by kernel_rfl) (by kernel_rfl) (by kernel_rfl) (fun _ _ _ h => h) (Or.inl ⟨by rfl, fun w hSw => by (try dsimp only at hSw); go_simp⟩) hHeld ?_
 try simp only [Act.put, List.setIfInBounds_toArray, List.set_cons_zero, List.set_cons_succ]
 refine wpAnyH_ready (rs := [2]) (by kernel_rfl) (by simp) ?_
 refine AllReadyH.cons (o := { dst := some 102, op := Op.call { callee := Callee.value (Operand.func 16), args := #[Operand.tmp 101], argTypes := #[29] }, type := 36, pos := "law.go:57", after := #[{ on := 1, ground := Ground.data }], guard := none }) rfl (fun K hK => ?_) AllReadyH.nil
 go_simp
 go_at_call 16
 refine Calls.mono (by with_reducible exact HR16.out _ hHeld) ?_
 rintro e Va ⟨rfl, hbv⟩
 dsimp only
 have hS := hHeld.trans hbv
 clear hbv
 clear hHeld
 refine hK.out _ _ hS (fun hHeld => ?_)
 try simp only [Act.put, List.setIfInBounds_toArray, List.set_cons_zero, List.set_cons_succ]
 clear hK
 clear hS
 refine wpAnyH_ready (rs := [5]) (by kernel_rfl) (by simp) ?_
 refine AllReadyH.cons (o := { dst := some 105, op := Op.call { callee := Callee.value (Operand.func 17), args := #[Operand.tmp 104], argTypes := #[29] }, type := 36, pos := "law.go:57", after := #[{ on := 4, ground := Ground.data }, { on := 2, ground := Ground.chain }], guard := none }) rfl (fun K hK => ?_) AllReadyH.nil
 go_simp
 go_at_call 17
 refine Calls.mono (by with_reducible exact HR17.out _ hHeld) ?_
 rintro e Vb ⟨rfl, hbv⟩
 dsimp only
 have hS := hHeld.trans hbv
 clear hbv
 clear hHeld
 refine hK.out _ _ hS (fun hHeld => ?_)
 try simp only [Act.put, List.setIfInBounds_toArray, List.set_cons_zero, List.set_cons_succ]
 clear hK
 clear hS
 refine wpAnyH_take (i := 6) (oi := { dst := some 106, op := Op.binOp BinOp.eql 36 (Operand.tmp 102) (Operand.tmp 105) 36, type := 4, pos := "law.go:57", after := #[{ on := 2, ground := Ground.data }, { on := 5, ground := Ground.data }], guard := none }) (v := .bool true) rfl (by kernel_rfl) (by kernel_rfl) (by kernel_rfl) (fun _ _ _ h => h) (Or.inl ⟨by rfl, fun w hSw => by (try dsimp only at hSw); go_simp⟩) hHeld ?_
 try simp only [Act.put, List.setIfInBounds_toArray, List.set_cons_zero, List.set_cons_succ]
 refine wpAnyH_take (i := 7) (oi := { dst := some 107, op := Op.move (Operand.tmp 106), type := 4, pos := "law.go:57", after := #[{ on := 6, ground := Ground.data }, { on := 5, ground := Ground.chain }], guard := none }) (v := .bool true) rfl (by kernel_rfl) (by kernel_rfl) (by kernel_rfl) (fun _ _ _ h => h) (Or.inl ⟨by rfl, fun w hSw => by (try dsimp only at hSw); go_simp⟩) hHeld ?_
 try simp only [Act.put, List.setIfInBounds_toArray, List.set_cons_zero, List.set_cons_succ]
 refine wpAnyH_take (i := 8) (oi := { dst := some 108, op := Op.load 29 (Operand.tmp 6), type := 29, pos := "law.go:57", after := #[{ on := 7, ground := Ground.guard }], guard := some (7, true) }) (v := .agg #[.slice xa xn xc]) rfl (by kernel_rfl) (by kernel_rfl) (by kernel_rfl) (fun _ _ _ h => h) (Or.inl ⟨by rfl, fun w hSw => by (try dsimp only at hSw); have t0 := HQx.out _ hSw; go_simp⟩) hHeld ?_
 try simp only [Act.put, List.setIfInBounds_toArray, List.set_cons_zero, List.set_cons_succ]
 refine wpAnyH_take (i := 10) (oi := { dst := some 110, op := Op.load 29 (Operand.tmp 6), type := 29, pos := "law.go:57", after := #[{ on := 7, ground := Ground.guard }], guard := some (7, true) }) (v := .agg #[.slice xa xn xc]) rfl (by kernel_rfl) (by kernel_rfl) (by kernel_rfl) (fun _ _ _ h => h) (Or.inl ⟨by rfl, fun w hSw => by (try dsimp only at hSw); have t0 := HQx.out _ hSw; go_simp⟩) hHeld ?_
 try simp only [Act.put, List.setIfInBounds_toArray, List.set_cons_zero, List.set_cons_succ]
 refine wpAnyH_ready (rs := [9]) (by kernel_rfl) (by simp) ?_
 refine AllReadyH.cons (o := { dst := some 109, op := Op.call { callee := Callee.value (Operand.func 16), args := #[Operand.tmp 108], argTypes := #[29] }, type := 36, pos := "law.go:57", after := #[{ on := 8, ground := Ground.data }, { on := 7, ground := Ground.chain }, { on := 7, ground := Ground.guard }], guard := some (7, true) }) rfl (fun K hK => ?_) AllReadyH.nil
 go_simp
 go_at_call 16
 refine Calls.mono (by with_reducible exact HX16.out _ hHeld) ?_
 rintro e Vc ⟨rfl, hbv⟩
 dsimp only
 have hS := hHeld.trans hbv
 clear hbv
 clear hHeld
 refine hK.out _ _ hS (fun hHeld => ?_)
 try simp only [Act.put, List.setIfInBounds_toArray, List.set_cons_zero, List.set_cons_succ]
 clear hK
 clear hS
 refine wpAnyH_ready (rs := [11]) (by kernel_rfl) (by simp) ?_
 refine AllReadyH.cons (o := { dst := some 111, op := Op.call { callee := Callee.value (Operand.func 17), args := #[Operand.tmp 110], argTypes := #[29] }, type := 36, pos := "law.go:57", after := #[{ on := 10, ground := Ground.data }, { on := 9, ground := Ground.chain }, { on := 7, ground := Ground.guard }], guard := some (7, true) }) rfl (fun K hK => ?_) AllReadyH.nil
 go_simp
 go_at_call 17
 refine Calls.mono (by with_reducible exact HX17.out _ hHeld) ?_
 rintro e Vd ⟨rfl, hbv⟩
 dsimp only
 have hS := hHeld.trans hbv
 clear hbv
 clear hHeld
 refine hK.out _ _ hS (fun hHeld => ?_)
 try simp only [Act.put, List.setIfInBounds_toArray, List.set_cons_zero, List.set_cons_succ]
 clear hK
 clear hS
 refine wpAnyH_take (i := 12) (oi := { dst := some 112, op := Op.binOp BinOp.eql 36 (Operand.tmp 109) (Operand.tmp 111) 36, type := 4, pos := "law.go:57", after := #[{ on := 9, ground := Ground.data }, { on := 11, ground := Ground.data }, { on := 7, ground := Ground.guard }], guard := some (7, true) }) (v := .bool true) rfl (by kernel_rfl) (by kernel_rfl) (by kernel_rfl) (fun _ _ _ h => h) (Or.inl ⟨by rfl, fun w hSw => by (try dsimp only at hSw); go_simp⟩) hHeld ?_
 try simp only [Act.put, List.setIfInBounds_toArray, List.set_cons_zero, List.set_cons_succ]
 refine wpAnyH_take (i := 13) (oi := { dst := some 113, op := Op.pick (Operand.tmp 107) (Operand.tmp 112) (Operand.const (Value.bool false)), type := 4, pos := "law.go:57", after := #[{ on := 7, ground := Ground.data }, { on := 12, ground := Ground.data }], guard := none }) (v := .bool true) rfl (by kernel_rfl) (by kernel_rfl) (by kernel_rfl) (fun _ _ _ h => h) (Or.inl ⟨by rfl, fun w hSw => by (try dsimp only at hSw); go_simp⟩) hHeld ?_
 try simp only [Act.put, List.setIfInBounds_toArray, List.set_cons_zero, List.set_cons_succ]
 refine wpAnyH_take (i := 14) (oi := { dst := some 114, op := Op.move (Operand.tmp 113), type := 4, pos := "law.go:57", after := #[{ on := 13, ground := Ground.data }, { on := 11, ground := Ground.chain }], guard := none }) (v := .bool true) rfl (by kernel_rfl) (by kernel_rfl) (by kernel_rfl) (fun _ _ _ h => h) (Or.inl ⟨by rfl, fun w hSw => by (try dsimp only at hSw); go_simp⟩) hHeld ?_
 try simp only [Act.put, List.setIfInBounds_toArray, List.set_cons_zero, List.set_cons_succ]
 refine wpAnyH_ready (rs := [15]) (by kernel_rfl) (by simp) ?_
 refine AllReadyH.cons (o := { dst := some 115, op := Op.call { callee := Callee.value (Operand.func 12), args := #[], argTypes := #[] }, type := 4, pos := "law.go:57", after := #[{ on := 14, ground := Ground.chain }, { on := 14, ground := Ground.guard }], guard := some (14, true) }) rfl (fun K hK => ?_) AllReadyH.nil
 go_simp
 go_at_call 12
 refine Calls.mono (by with_reducible exact HKn.out _ hHeld) ?_
 rintro e Ve ⟨rfl, hbv⟩
 dsimp only
 have hS := hHeld.trans hbv
 clear hbv
 clear hHeld
 refine hK.out _ _ hS (fun hHeld => ?_)
 try simp only [Act.put, List.setIfInBounds_toArray, List.set_cons_zero, List.set_cons_succ]
 clear hK
 clear hS
 refine wpAnyH_take (i := 16) (oi := { dst := some 116, op := Op.pick (Operand.tmp 114) (Operand.tmp 115) (Operand.const (Value.bool false)), type := 4, pos := "law.go:57", after := #[{ on := 14, ground := Ground.data }, { on := 15, ground := Ground.data }], guard := none }) (v := .bool true) rfl (by kernel_rfl) (by kernel_rfl) (by kernel_rfl) (fun _ _ _ h => h) (Or.inl ⟨by rfl, fun w hSw => by (try dsimp only at hSw); go_simp⟩) hHeld ?_
 try simp only [Act.put, List.setIfInBounds_toArray, List.set_cons_zero, List.set_cons_succ]
 refine wpAnyH_take (i := 17) (oi := { dst := some 4, op := Op.assign (Operand.tmp 116), type := 4, pos := "law.go:57", after := #[{ on := 16, ground := Ground.data }, { on := 15, ground := Ground.chain }, { on := 0, ground := Ground.phase }, { on := 1, ground := Ground.phase }, { on := 2, ground := Ground.phase }, { on := 3, ground := Ground.phase }, { on := 4, ground := Ground.phase }, { on := 5, ground := Ground.phase }, { on := 6, ground := Ground.phase }, { on := 7, ground := Ground.phase }, { on := 8, ground := Ground.phase }, { on := 9, ground := Ground.phase }, { on := 10, ground := Ground.phase }, { on := 11, ground := Ground.phase }, { on := 12, ground := Ground.phase }, { on := 13, ground := Ground.phase }, { on := 14, ground := Ground.phase }, { on := 15, ground := Ground.phase }, { on := 16, ground := Ground.phase }], guard := none }) (v := .bool true) rfl (by kernel_rfl) (by kernel_rfl) (by kernel_rfl) (fun _ _ _ h => h) (Or.inl ⟨by rfl, fun w hSw => by (try dsimp only at hSw); go_simp⟩) hHeld ?_
 try simp only [Act.put, List.setIfInBounds_toArray, List.set_cons_zero, List.set_cons_succ]
 have HSe := Lib.hid hHeld
 refine wpAnyH_done (by kernel_rfl) ?_ _
 clear hHeld
 go_wp2
 go_ret
 exact ⟨rfl, HFin.out _ HSe.out⟩
end Go.Proofs.YtldcediiobfhiaaGreatDoor
