/- MatchNearest: the rule's ancestor is the nearest device at which all upward terms hold. -/
import Derived.Test.YtljkljnfbcmjdaaGreatDoorKU5
open Go.Lib renaming hid → qH
open Go.Calls renaming mono → cM
open Go.Act renaming put → aP
open List renaming setIfInBounds_toArray → lA, set_cons_zero → lB, set_cons_succ → lC
namespace Go.Proofs.YtljkljnfbcmjdaaGreatDoor
open Go.RowKit
set_option maxHeartbeats 16000000 in
set_option maxRecDepth 100000 in
theorem nearest_walk (a0 : Option Addr) (n0 c0 : Nat) (w : World) (hm : De.Max w) (hi : Ints w w.heap.size (.slice a0 n0 c0)) : Calls Tryz.prog 4 #[.slice a0 n0 c0] w fun e w' => e = .returned (.bool true) ∧ Below w.heap.size w w' := by
 obtain ⟨tb, htb⟩ : ∃ tb, w.heap.size = tb := ⟨_, rfl⟩
 obtain ⟨W0, hW⟩ : ∃ W0, w.alloc (.cells #[.slice a0 n0 c0, .int .i64 0] 27) = W0 := ⟨_, rfl⟩
 have hk0 : Kp [] w W0 := by rw [← hW]; exact (Kp.refl [] w).alloc _
 have hT0 : Tp W0 tb 0 := by rw [← hW, ← htb]; exact tape_new hi
 have HTr0 := qH (tree9 (by omega) hT0 (hm.below hk0.bel))
 have HK0 := qH (show Kp [tb] w W0 from hk0.mono (by simp))
 have Htb := qH htb
 have HKn := qH (fun W => known_any W)
 clear hk0 hT0 hi hm
 go_enter Tryz.func4, Tryz.ntmps4
 go_upto_region 3 with (first
  | (go_at_call 6; refine cM (by with_reducible exact HTr0.out) ?_; rintro e w1 ⟨va, N, vc, L, rfl, HN, hNc, hN9, HTr, k1, hk1, HT, HK1⟩; have H1v := qH (show (#[.slice va N vc] : Array Value).all (·.oneCell') = true from by simp [Value.oneCell']))
  | (refine wpList_store_new w1 30 _ #[.slice va N vc] rfl _ _ rfl rfl rfl info30b rfl H1v.out ?_))
 obtain ⟨Q, hQ⟩ : ∃ Q, w1.heap.size = Q := ⟨_, rfl⟩
 have hq1 := heap_alloc_last w1 (.cells #[.slice va N vc] 30)
 have hka := (Kp.refl [] w1).alloc (.cells #[.slice va N vc] 30)
 generalize w1.alloc (.cells #[.slice va N vc] 30) = w2 at *
 rw [hQ] at hq1 ⊢
 have HQ2 := qH hq1
 have t0 := cell_one hq1
 have HT2 := qH (HT.out.kp hka (by simp))
 have HTr2 := qH (HTr.out.kp hka)
 have HK2 := qH ((HK0.out.trans HK1.out).trans (hka.mono (by simp)))
 have HQt := qH (show tb < Q from by rw [← hQ]; exact HT.out.lt)
 have HSm := qH (some_any (by omega) HT2.out HTr2.out (by omega))
 clear hq1 hka hQ HT HTr HTr0 HK1 hW htb
 go_upto_region 4 with (go_at_call 7; refine cM (by with_reducible exact HSm.out) ?_; rintro e w3 ⟨q, rfl, hqw, ⟨k3, hk3, hT3⟩, hkp3⟩; have HT3 := qH hT3; have HTr3 := qH (HTr2.out.kpT hkp3 (by omega)); have HQ3 := qH ((hkp3.block Q (block_lt HQ2.out) (by have := HQt.out; simp; omega)).trans HQ2.out); have HK3 := qH (HK2.out.trans hkp3); have HQw := qH hqw; clear hT3 hkp3 hqw t0)
 have HUp0 := qH (upw_any (by omega) HT3.out)
 go_upto_region 5 with (go_at_call 8; refine cM (by with_reducible exact HUp0.out) ?_; rintro e w4 ⟨u, lt, rfl, hown, hl3, hsm, hT4, hkp4⟩; have HO4 := qH hown; have HSmT := qH hsm; have HTr4 := qH (HTr3.out.kpT hkp4 (by omega)); have HQ4 := qH ((hkp4.block Q (block_lt HQ3.out) (by have := HQt.out; simp; omega)).trans HQ3.out); have HK4 := qH (HK3.out.trans hkp4); clear hT4 hkp4 hown hsm)
 have t0 := cell_one HQ4.out
 have HSl := qH (show SmL lt from fun t ht => Nat.le_trans (HSmT.out t ht).2 (by decide))
 obtain ⟨ad, cp, huf⟩ := HO4.out.form
 have HV := qH (huf ▸ HO4.out.has)
 obtain ⟨T, hT⟩ : ∃ T, lt.length = T := ⟨_, rfl⟩
 have HTl := qH hT
 have HOk := qH (tree_ok HTr4.out (by omega))
 have HAn := qH (fun W (hk : Kp [] w4 W) => ancestor_all lt ad cp L va vc q W (by omega) HSl.out (HV.out.kp0 hk) HOk.out (by rw [HN.out]; exact HTr4.out.any.has.below hk.bel) (by rw [HN.out]; exact hNc) HQw.out HTr4.out.val)
 have HFd := qH (fun W (hk : Kp [] w4 W) => De.find_any (.slice va N vc) L q W HOk.out.n (fun x hx => (HOk.out.sm x hx).n) (HTr4.out.any.has.below hk.bel) HOk.out.wi HQw.out)
 have HAs := qH (fun W (hk : Kp [] w4 W) => De.ancestors_any (.slice va N vc) L q W HOk.out.n (fun x hx => (HOk.out.sm x hx).n) (HTr4.out.any.has.below hk.bel) (fun a n c e => by injection e with e1 e2 e3; omega) HOk.out.wi HOk.out.wp HQw.out)
 have HFu := qH (found_ups HTr4.out.val (q := q))
 rw [HN.out, hT] at HAn
 rw [hT] at huf hl3
 subst huf
 obtain ⟨an, ok, hao⟩ : ∃ an ok, ancU lt (De.ups (L.map (·.1)) q) = (an, ok) := ⟨_, _, rfl⟩
 rw [hao] at HAn
 have HAO := qH hao
 clear hao hT HT2 HTr2 HK2 HT3 HTr3 HK3 HUp0 HSm HK0
 go_upto_region 6 with (go_at_call 9; refine cM (by with_reducible exact HAn.out _ (Kp.refl [] w4)) ?_; rintro e w5 ⟨rfl, hk5⟩; have HK5 := qH hk5; have HQ5 := qH ((hk5.block Q (block_lt HQ4.out) (by simp)).trans HQ4.out); clear hk5 t0)
 have t0 := cell_one HQ5.out
 have hfd := HFd.out w5 HK5.out
 have HFin0 := qH (fun (w' : World) (hk : Kp [] w4 w') => (show Below w.heap.size w w' from (HK4.out.trans (hk.mono (by simp))).below (Nat.le_refl _) (by intro x hx; simp at hx; have := Htb.out; omega)))
 cases hf : (De.lastI (L.map (·.1)) q).bind (fun p => L[p]?) with
 | none =>
  have HF0 := qH (show an = 0 ∧ ok = false from by
   have h1 := ancU_none (lt := lt) (c := De.ups (L.map (·.1)) q) (by rw [HFu.out.2 hf]; intro a ha; cases ha)
   rw [HAO.out] at h1
   injection h1 with h1 h2
   exact ⟨h1, h2⟩)
  rw [hf] at hfd
  have HFX := qH (show Calls Tryz.prog 11 #[.agg #[.slice va N vc], .int .i64 q] w5 fun e w' => e = .returned (.tuple #[.agg De.zeroC, .bool false]) ∧ Kp [] w5 w' from hfd.mono fun e w' ⟨h1, h2⟩ => ⟨h2, Kp.of_bel h1⟩)
  obtain ⟨e1, e2⟩ := HF0.out
  subst e1
  subst e2
  clear hfd hf
  go_wp2_with (first
   | (go_at_call 11; refine cM (by with_reducible exact HFX.out) ?_; rintro e w6 ⟨rfl, hk6⟩; have HK6 := qH (HK5.out.trans hk6); clear hk6)
   | (refine wpList_store_new w6 40 _ De.zeroC rfl _ _ rfl rfl rfl De.info34b rfl De.zeroC_one ?_)
   | (go_at_call 5; refine cM (by with_reducible exact HKn.out _) ?_; rintro e w7 ⟨rfl, hk7⟩; have HK7 := qH (((HK6.out.alloc (.cells De.zeroC 40))).trans hk7); clear hk7))
  go_ret
  exact ⟨rfl, HFin0.out _ HK7.out⟩
 | some y =>
  have HUp1 := qH (HFu.out.1 y hf)
  rw [hf] at hfd
  have HFX := qH (show Calls Tryz.prog 11 #[.agg #[.slice va N vc], .int .i64 q] w5 fun e w' => ∃ ub uc2, e = .returned (.tuple #[De.devV (De.devOf y.1 (.slice ub y.1.ats.length uc2)), .bool true]) ∧ Kp [] w5 w' ∧ De.Has w' (.slice ub y.1.ats.length uc2) y.1.ats from hfd.mono fun e w' ⟨h1, u, h2, h3⟩ => by
   obtain ⟨ub, uc2, rfl, -⟩ := h3.has.form
   exact ⟨ub, uc2, h2, Kp.of_bel h1, h3.has⟩)
  have HSy := qH (show SmA y.1 from by
   obtain ⟨p, hp1, hp2⟩ := Option.bind_eq_some_iff.1 hf
   exact HOk.out.sm y (List.mem_of_getElem? hp2))
  clear hfd hf
  obtain ⟨un, hun⟩ : ∃ n, y.1.ats.length = n := ⟨_, rfl⟩
  rw [hun] at HFX
  have H1y := qH (fun ub uc2 => show (De.dvC y.1 (.slice ub un uc2)).toArray.all (·.oneCell') = true from by
   rw [Array.all_eq_true_iff_forall_mem]
   intro v hv
   exact De.dvC_one rfl v (by simpa using hv))
  clear hun
  go_upto_region 9 with (first
   | (go_at_call 11; refine cM (by with_reducible exact HFX.out) ?_; rintro e w6 ⟨ub, uc2, rfl, hk6, hat⟩; have HK6 := qH (HK5.out.trans hk6); have HAt := qH hat; clear hk6 hat)
   | (refine wpList_store_new w6 40 _ (De.dvC y.1 (.slice ub un uc2)).toArray rfl _ _ rfl rfl rfl De.info34b rfl (H1y.out ub uc2) ?_))
  obtain ⟨D, hD⟩ : ∃ D, w6.heap.size = D := ⟨_, rfl⟩
  have hd6 := heap_alloc_last w6 (.cells (De.dvC y.1 (.slice ub un uc2)).toArray 40)
  have hkd := (Kp.refl [] w6).alloc (.cells (De.dvC y.1 (.slice ub un uc2)).toArray 40)
  generalize w6.alloc (.cells (De.dvC y.1 (.slice ub un uc2)).toArray 40) = w7 at *
  rw [hD] at hd6 ⊢
  have HD7 := qH hd6
  have HK7 := qH (HK6.out.trans hkd)
  have HAt7 := qH (HAt.out.below hkd.bel)
  have HQ7 := qH ((HK7.out.block Q (block_lt HQ4.out) (by simp)).trans HQ4.out)
  clear hd6 hkd hD t0
  have hdr := (Kp.refl [] w7).drew 1
  go_cut [11] (fun s11 wx => ∃ (ca : Option Addr) (M cc : Nat) (C : List De.DV), s11 = .slice ca M cc ∧ Hid (C.length = M) ∧ Hid (De.DHas wx (.slice ca M cc) C) ∧ Hid (C.map (·.1) = De.ups (L.map (·.1)) q) ∧ Hid (Kp [] w7 wx))
  case first =>
   refine wp_region_held_drew (S := fun W => Kp [] w7 W) (by kernel_rfl) hdr (fun hHeld => ?_)
   generalize hwd : w7.drew = wd at *
   have HWd := qH (show wd.heap.size = w7.heap.size from by rw [← hwd]; rfl)
   clear hwd
   refine wpAnyH_take (i := 0) (oi := ⟨some 45, .load 40 (.tmp 9), 40, "law.go:126", #[], none⟩) (v := .agg #[.int .i64 y.1.idx, .int .i64 y.1.par, .string y.1.name, .string y.1.orig, .string y.1.sub, .string y.1.drv, .string y.1.ali, .int .i64 y.1.kind, .int .i64 y.1.num, .slice ub un uc2]) rfl (by kernel_rfl) (by kernel_rfl) (by kernel_rfl) (fun _ _ _ h => h) (Or.inl ⟨by rfl, fun w hSw => by (try dsimp only at hSw); have dd := (show De.BoxAt w D (De.dvC y.1 (.slice ub un uc2)).toArray from (hSw.block D (block_lt HD7.out) (by simp)).trans HD7.out).cell; unfold De.dvC at dd; go_simp⟩) hHeld ?_
   try simp only [aP, lA, lB, lC]
   refine wpAnyH_take (i := 2) (oi := ⟨some 47, .load 30 (.tmp 4), 30, "law.go:126", #[], none⟩) (v := .agg #[.slice va N vc]) rfl (by kernel_rfl) (by kernel_rfl) (by kernel_rfl) (fun _ _ _ h => h) (Or.inl ⟨by rfl, fun w hSw => by (try dsimp only at hSw); have t0 := cell_one ((hSw.block Q (block_lt HQ7.out) (by simp)).trans HQ7.out); go_simp⟩) hHeld ?_
   try simp only [aP, lA, lB, lC]
   refine wpAnyH_take (i := 3) (oi := ⟨some 48, .move (.tmp 5), 3, "law.go:126", #[], none⟩) (v := .int .i64 q) rfl (by kernel_rfl) (by kernel_rfl) (by kernel_rfl) (fun _ _ _ h => h) (Or.inl ⟨by rfl, fun w hSw => by (try dsimp only at hSw); go_simp⟩) hHeld ?_
   try simp only [aP, lA, lB, lC]
   refine wpAnyH_ready (rs := [1, 4]) (by kernel_rfl) (by simp) ?_
   refine AllReadyH.cons (o := ⟨some 46, .buildSlice 28 1 #[(0, .tmp 45)], 28, "law.go:126", #[⟨0, .data⟩], none⟩) rfl (fun K hK => ?_) (AllReadyH.cons (o := ⟨some 49, .call { callee := .value (.func 12), args := #[.tmp 47, .tmp 48], argTypes := #[30, 3] }, 28, "law.go:126", #[⟨2, .data⟩, ⟨3, .data⟩], none⟩) rfl (fun K hK => ?_) AllReadyH.nil)
   ·skip
    go_simp
    have hkn := (Kp.refl [] wd).alloc (.cells #[.int .i64 y.1.idx, .int .i64 y.1.par, .string y.1.name, .string y.1.orig, .string y.1.sub, .string y.1.drv, .string y.1.ali, .int .i64 y.1.kind, .int .i64 y.1.num, .slice ub un uc2] 40)
    have hg8 := heap_alloc_last wd (.cells #[.int .i64 y.1.idx, .int .i64 y.1.par, .string y.1.name, .string y.1.orig, .string y.1.sub, .string y.1.drv, .string y.1.ali, .int .i64 y.1.kind, .int .i64 y.1.num, .slice ub un uc2] 40)
    obtain ⟨G, hG⟩ : ∃ G, wd.heap.size = G := ⟨_, rfl⟩
    generalize wd.alloc (.cells #[.int .i64 y.1.idx, .int .i64 y.1.par, .string y.1.name, .string y.1.orig, .string y.1.sub, .string y.1.drv, .string y.1.ali, .int .i64 y.1.kind, .int .i64 y.1.num, .slice ub un uc2] 40) = w8 at *
    rw [hG] at hg8 ⊢
    have HG8 := qH (show w8.heap[G]? = some (.cells (De.dvC (y.1, Value.slice ub un uc2).1 (y.1, Value.slice ub un uc2).2).toArray 40 (0, 0)) from hg8)
    have hS := hHeld.trans hkn
    have HGe := qH (show w7.heap.size ≤ G from by rw [← hG]; exact hHeld.size)
    clear hkn hg8
    clear hHeld
    refine hK.out _ _ hS (fun hHeld => ?_)
    try simp only [aP, lA, lB, lC]
    clear hK
    have HGl := qH (block_lt HG8.out)
    refine wpAnyH_ready (rs := [4]) (by kernel_rfl) (by simp) ?_
    refine AllReadyH.cons (o := ⟨some 49, .call { callee := .value (.func 12), args := #[.tmp 47, .tmp 48], argTypes := #[30, 3] }, 28, "law.go:126", #[⟨2, .data⟩, ⟨3, .data⟩], none⟩) rfl (fun K hK => ?_) AllReadyH.nil
    go_simp
    go_at_call 12
    refine cM (by with_reducible exact HAs.out _ (HK7.out.trans hHeld)) ?_
    rintro e w10 ⟨yv, LA, rfl, hla, hyd, hfr, hbl⟩
    dsimp only
    have hkc := Kp.of_bel hbl
    have HLA := qH hla
    have HY := qH hyd
    have HYn := qH (show ∀ x ∈ LA, x.1.ats ≠ [] → x.2.ownBlock ≠ some G from fun x hx hne e => absurd (hfr x hx hne _ e) (by have := HGl.out; omega))
    have HG8 := qH ((hkc.block G (block_lt HG8.out) (by simp)).trans HG8.out)
    have hS := hHeld.trans hkc
    clear hla hyd hfr hbl hkc
    clear hHeld
    refine hK.out _ _ hS (fun hHeld => ?_)
    try simp only [aP, lA, lB, lC]
    clear hK
    refine wpAnyH_ready (rs := [5]) (by kernel_rfl) (by simp) ?_
    refine AllReadyH.cons (o := ⟨some 50, .call { callee := .builtin .append, args := #[.tmp 46, .tmp 49], argTypes := #[28, 28] }, 28, "law.go:126", #[⟨1, .data⟩, ⟨4, .data⟩, ⟨4, .chain⟩], none⟩) rfl (fun K hK => ?_) AllReadyH.nil
    have hlaL : LA.length ≤ 1000 := by
     rw [← List.length_map (f := (·.1)), HLA.out, List.length_map]
     unfold De.ancOf
     split
     ·simp
     ·split
      ·simp
      ·exact Nat.le_trans (De.ancL_len _ _) (by omega)
    obtain ⟨v9, w9, hrun, how, hgr⟩ := run_append_dvs (w := w10) (base := w7.heap.size) (v := .slice (some ⟨G, 0, none⟩) 1 1) (xs := [(y.1, .slice ub un uc2)]) (ys := LA) (ty := 28) (own_one40 HG8.out HGe.out) HY.out (by show 1 + _ ≤ _; omega) hHeld.size
    have HR := qH hrun
    have HO9 := qH how
    have HGr := qH hgr
    have hkS : Kp [] w7 w9 := kp_grownS hHeld hgr (fun b hb => by have := HGe.out; have e : G = b := (by simpa [Value.ownBlock] using hb); omega)
    clear hrun how hgr hlaL
    refine step_append_run rfl _ _ rfl _ _ _ rfl rfl HR.out ?_
    clear hHeld
    refine hK.out _ _ hkS (fun hHeld => ?_)
    try simp only [aP, lA, lB, lC]
    clear hK
    clear HR
    refine wpAnyH_ready (rs := [6]) (by kernel_rfl) (by simp) ?_
    refine AllReadyH.cons (o := ⟨some 11, .assign (.tmp 50), 28, "law.go:126", #[⟨5, .data⟩, ⟨5, .chain⟩, ⟨0, .phase⟩, ⟨1, .phase⟩, ⟨2, .phase⟩, ⟨3, .phase⟩, ⟨4, .phase⟩, ⟨5, .phase⟩], none⟩) rfl (fun K hK => ?_) AllReadyH.nil
    have HSf := qH hHeld
    go_simp
    clear hHeld
    refine hK.out _ _ HSf.out (fun hHeld => ?_)
    try simp only [aP, lA, lB, lC]
    clear hK
    refine wpAnyH_done (by kernel_rfl) ?_ _
    clear hHeld
    have HCd : De.DHas w9 v9 ([(y.1, .slice ub un uc2)] ++ LA) := by
     refine De.DOwn.has (B := w7.heap.size) ⟨HO9.out, fun x hx => ?_⟩
     rcases List.mem_cons.1 hx with rfl | hx
     ·exact HAt7.out.below HSf.out.bel
     ·exact (dh_ats HY.out x hx).other HGr.out.size (g := G) (fun hne e => HYn.out x hx hne e) (fun b' hb' hne => HGr.out.block b' hb' (by intro e; injection e with e; exact hne e))
    obtain ⟨ca, cc, hcf, -⟩ := HCd.form
    have HCd2 := qH (hcf ▸ HCd)
    have HC2 := qH (show ([(y.1, Value.slice ub un uc2)] ++ LA).map (·.1) = De.ups (L.map (·.1)) q from by rw [HUp1.out, List.map_append, HLA.out]; rfl)
    subst hcf
    clear HCd
    go_wp2
    go_meet
    exact ⟨ca, _, cc, _, rfl, qH rfl, HCd2, HC2, HSf⟩
   ·skip
    go_simp
    go_at_call 12
    refine cM (by with_reducible exact HAs.out _ (HK7.out.trans hHeld)) ?_
    rintro e w10 ⟨yv, LA, rfl, hla, hyd, hfr, hbl⟩
    dsimp only
    have hkc := Kp.of_bel hbl
    have HLA := qH hla
    have HY := qH hyd
    have hS := hHeld.trans hkc
    clear hla hyd hfr hbl hkc
    clear hHeld
    refine hK.out _ _ hS (fun hHeld => ?_)
    try simp only [aP, lA, lB, lC]
    clear hK
    refine wpAnyH_ready (rs := [1]) (by kernel_rfl) (by simp) ?_
    refine AllReadyH.cons (o := ⟨some 46, .buildSlice 28 1 #[(0, .tmp 45)], 28, "law.go:126", #[⟨0, .data⟩], none⟩) rfl (fun K hK => ?_) AllReadyH.nil
    go_simp
    have hkn := (Kp.refl [] w10).alloc (.cells #[.int .i64 y.1.idx, .int .i64 y.1.par, .string y.1.name, .string y.1.orig, .string y.1.sub, .string y.1.drv, .string y.1.ali, .int .i64 y.1.kind, .int .i64 y.1.num, .slice ub un uc2] 40)
    have hg8 := heap_alloc_last w10 (.cells #[.int .i64 y.1.idx, .int .i64 y.1.par, .string y.1.name, .string y.1.orig, .string y.1.sub, .string y.1.drv, .string y.1.ali, .int .i64 y.1.kind, .int .i64 y.1.num, .slice ub un uc2] 40)
    obtain ⟨G, hG⟩ : ∃ G, w10.heap.size = G := ⟨_, rfl⟩
    generalize w10.alloc (.cells #[.int .i64 y.1.idx, .int .i64 y.1.par, .string y.1.name, .string y.1.orig, .string y.1.sub, .string y.1.drv, .string y.1.ali, .int .i64 y.1.kind, .int .i64 y.1.num, .slice ub un uc2] 40) = w8 at *
    rw [hG] at hg8 ⊢
    have HG8 := qH (show w8.heap[G]? = some (.cells (De.dvC (y.1, Value.slice ub un uc2).1 (y.1, Value.slice ub un uc2).2).toArray 40 (0, 0)) from hg8)
    have hS := hHeld.trans hkn
    have HGe := qH (show w7.heap.size ≤ G from by rw [← hG]; exact hHeld.size)
    have HYn := qH (show ∀ x ∈ LA, x.1.ats ≠ [] → x.2.ownBlock ≠ some G from fun x hx hne e => absurd ((dh_ats HY.out x hx).lt hne _ e) (by omega))
    have HY := qH (HY.out.below hkn.bel)
    clear hkn hg8
    clear hHeld
    refine hK.out _ _ hS (fun hHeld => ?_)
    try simp only [aP, lA, lB, lC]
    clear hK
    refine wpAnyH_ready (rs := [5]) (by kernel_rfl) (by simp) ?_
    refine AllReadyH.cons (o := ⟨some 50, .call { callee := .builtin .append, args := #[.tmp 46, .tmp 49], argTypes := #[28, 28] }, 28, "law.go:126", #[⟨1, .data⟩, ⟨4, .data⟩, ⟨4, .chain⟩], none⟩) rfl (fun K hK => ?_) AllReadyH.nil
    have hlaL : LA.length ≤ 1000 := by
     rw [← List.length_map (f := (·.1)), HLA.out, List.length_map]
     unfold De.ancOf
     split
     ·simp
     ·split
      ·simp
      ·exact Nat.le_trans (De.ancL_len _ _) (by omega)
    obtain ⟨v9, w9, hrun, how, hgr⟩ := run_append_dvs (w := w8) (base := w7.heap.size) (v := .slice (some ⟨G, 0, none⟩) 1 1) (xs := [(y.1, .slice ub un uc2)]) (ys := LA) (ty := 28) (own_one40 HG8.out HGe.out) HY.out (by show 1 + _ ≤ _; omega) hHeld.size
    have HR := qH hrun
    have HO9 := qH how
    have HGr := qH hgr
    have hkS : Kp [] w7 w9 := kp_grownS hHeld hgr (fun b hb => by have := HGe.out; have e : G = b := (by simpa [Value.ownBlock] using hb); omega)
    clear hrun how hgr hlaL
    refine step_append_run rfl _ _ rfl _ _ _ rfl rfl HR.out ?_
    clear hHeld
    refine hK.out _ _ hkS (fun hHeld => ?_)
    try simp only [aP, lA, lB, lC]
    clear hK
    clear HR
    refine wpAnyH_ready (rs := [6]) (by kernel_rfl) (by simp) ?_
    refine AllReadyH.cons (o := ⟨some 11, .assign (.tmp 50), 28, "law.go:126", #[⟨5, .data⟩, ⟨5, .chain⟩, ⟨0, .phase⟩, ⟨1, .phase⟩, ⟨2, .phase⟩, ⟨3, .phase⟩, ⟨4, .phase⟩, ⟨5, .phase⟩], none⟩) rfl (fun K hK => ?_) AllReadyH.nil
    have HSf := qH hHeld
    go_simp
    clear hHeld
    refine hK.out _ _ HSf.out (fun hHeld => ?_)
    try simp only [aP, lA, lB, lC]
    clear hK
    refine wpAnyH_done (by kernel_rfl) ?_ _
    clear hHeld
    have HCd : De.DHas w9 v9 ([(y.1, .slice ub un uc2)] ++ LA) := by
     refine De.DOwn.has (B := w7.heap.size) ⟨HO9.out, fun x hx => ?_⟩
     rcases List.mem_cons.1 hx with rfl | hx
     ·exact HAt7.out.below HSf.out.bel
     ·exact (dh_ats HY.out x hx).other HGr.out.size (g := G) (fun hne e => HYn.out x hx hne e) (fun b' hb' hne => HGr.out.block b' hb' (by intro e; injection e with e; exact hne e))
    obtain ⟨ca, cc, hcf, -⟩ := HCd.form
    have HCd2 := qH (hcf ▸ HCd)
    have HC2 := qH (show ([(y.1, Value.slice ub un uc2)] ++ LA).map (·.1) = De.ups (L.map (·.1)) q from by rw [HUp1.out, List.map_append, HLA.out]; rfl)
    subst hcf
    clear HCd
    go_wp2
    go_meet
    exact ⟨ca, _, cc, _, rfl, qH rfl, HCd2, HC2, HSf⟩
  case rest =>
   obtain ⟨ca, M, cc, C, rfl, HM, HCh, HCu, HKc⟩ := hcut
   rename World => W9
   have HCm := qH (show ∀ x ∈ C, SmA x.1 from fun x hx => by
    have : x.1 ∈ De.ups (L.map (·.1)) q := by rw [← HCu.out]; exact List.mem_map_of_mem hx
    obtain ⟨z, hz, he⟩ := List.mem_map.1 (up_mem this)
    rw [← he]
    exact HOk.out.sm z hz)
   have hM9 : M ≤ 1000000 := by
    rw [← HM.out, ← List.length_map (f := (·.1)), HCu.out]
    have := De.up_len (L.map (·.1)) (L.map (·.1)).length q
    rw [List.length_map] at this
    unfold De.ups
    rw [List.length_map]
    have := HN.out
    omega
   rw [← HCu.out] at HAO
   have HKw := qH (HK7.out.trans HKc.out)
   have HTf := qH (show ∀ (k : Nat) (t : Tm), lt[k]? = some t → ∃ b o, ad = some ⟨b, o, none⟩ ∧ tmT.Row w4 b o lt from fun k t ht => by
    obtain ⟨a', c', he, hr⟩ := HV.out.form
    obtain ⟨b, o, hb, _, hrow⟩ := hr (fun e => by rw [e] at ht; simp at ht)
    injection he with e1 e2 e3
    exact ⟨b, o, by rw [e1, hb], hrow⟩)
   have hT3 : T ≤ 3 := hl3
   go_wp2
   go_loopw [12, 13, 14] (fun s12 _ _ wx => ∃ i : Nat, i ≤ M ∧ s12 = .int .i64 (i : Int) ∧ Hid (∀ x ∈ C.take i, holdA lt x.1 = false) ∧ Hid (Kp [] W9 wx)) (fun s12 _ _ _ => M - (intOf s12).toNat)
   case atStart => exact ⟨0, by omega, rfl, qH (by simp), qH (Kp.refl [] _)⟩
   case round =>
    obtain ⟨i, hi, rfl, Hall, HKi⟩ := hrel
    rename World => WO
    by_cases hlti : i < M
    ·have hii : (i : Int) < (M : Int) := by omega
     have hi0 : (0 : Int) ≤ (i : Int) := by omega
     obtain ⟨x, hx⟩ : ∃ x, C[i]? = some x := ⟨C[i]'(by rw [HM.out]; exact hlti), List.getElem?_eq_getElem _⟩
     obtain ⟨g, o, rfl, hr⟩ : ∃ g o, ca = some ⟨g, o, none⟩ ∧ De.DRow W9 g o C := by
      obtain ⟨a', c', he, hr⟩ := HCh.out.form
      obtain ⟨b, o, hb, _, _, hrow⟩ := hr (fun e => by rw [e] at hx; simp at hx)
      injection he with e1 e2 e3
      exact ⟨b, o, by rw [e1, hb], hrow⟩
     have Hran := qH (range_kp (hr.at_ i x hx) HKi.out)
     have Hats := qH ((hr.ats x (List.mem_of_getElem? hx)).below HKi.out.bel)
     have Hx := qH hx
     have Hsm := qH (HCm.out x (List.mem_of_getElem? hx))
     clear hx hr
     go_wp2
     go_loopw [13, 14] (fun s13 s14 wx => ∃ j : Nat, j ≤ T ∧ s14 = .int .i64 (j : Int) ∧ s13 = .bool (allA (lt.take j) x.1) ∧ Kp [] WO wx) (fun _ s14 _ => T - (intOf s14).toNat)
     case atStart => exact ⟨0, by omega, rfl, rfl, Kp.refl [] _⟩
     case round =>
      obtain ⟨j, hj, rfl, rfl, hkx⟩ := hrel
      have Hkx := qH hkx
      clear hkx
      obtain ⟨ba, hba⟩ : ∃ b, allA (lt.take j) x.1 = b := ⟨_, rfl⟩
      rw [hba]
      have Hba := qH hba
      clear hba
      by_cases hltj : j < T
      ·have hjj : (j : Int) < (T : Int) := by omega
       have hj0 : (0 : Int) ≤ (j : Int) := by omega
       obtain ⟨t, ht⟩ : ∃ t, lt[j]? = some t := ⟨lt[j]'(by rw [HTl.out]; exact hltj), List.getElem?_eq_getElem _⟩
       obtain ⟨gt, ot, rfl, hrt⟩ := HTf.out j t ht
       have Htm := qH (range_kp (show w4.rangeAt gt (ot + j * 4) (tmT.cf t) from hrt j t ht) (HKw.out.trans HKi.out))
       have Ht := qH ht
       have HUp := qH (fun W => up_call t W 13 (upward_any t W))
       have HDv := qH (fun W (hk : Kp [] WO W) => dev_call t x W 14 (device_any t (De.devOf x.1 x.2) x.1.ats W (HSl.out t (List.mem_of_getElem? Ht.out)) (Hsm.out.d' x.2) (by have := Hsm.out.n; omega) (Hats.out.below hk.bel)))
       clear ht hrt
       go_upto_region 17 with fail
       cases ba with
       | false =>
        have Hnx := qH (show allA (lt.take (j + 1)) x.1 = false from by rw [allA_snoc x.1 Ht.out, Hba.out]; rfl)
        refine wp_region_held_drew (S := fun W => Kp [] wr W) (by kernel_rfl) ((Kp.refl [] wr).drew 1) (fun hHeld => ?_)
        refine wpAnyH_take (i := 0) (oi := ⟨some 63, .move (.tmp 13), 4, "law.go:130", #[], none⟩) (v := .bool false) rfl (by kernel_rfl) (by kernel_rfl) (by kernel_rfl) (fun _ _ _ h => h) (Or.inl ⟨by rfl, fun w hSw => by (try dsimp only at hSw); go_simp⟩) hHeld ?_
        try simp only [aP, lA, lB, lC]
        refine wpAnyH_take (i := 1) (oi := ⟨some 64, .move (.tmp 63), 4, "law.go:130", #[⟨0, .data⟩], none⟩) (v := .bool false) rfl (by kernel_rfl) (by kernel_rfl) (by kernel_rfl) (fun _ _ _ h => h) (Or.inl ⟨by rfl, fun w hSw => by (try dsimp only at hSw); go_simp⟩) hHeld ?_
        try simp only [aP, lA, lB, lC]
        refine wpAnyH_take (i := 2) (oi := ⟨some 65, .move (.tmp 6), 23, "law.go:130", #[⟨1, .guard⟩], some (1, true)⟩) (v := undef) rfl (by kernel_rfl) (by kernel_rfl) (by kernel_rfl) (fun _ _ _ h => h) (Or.inr ⟨by rfl, rfl⟩) hHeld ?_
        try simp only [aP, lA, lB, lC]
        refine wpAnyH_take (i := 3) (oi := ⟨some 66, .move (.tmp 14), 3, "law.go:130", #[⟨1, .guard⟩], some (1, true)⟩) (v := undef) rfl (by kernel_rfl) (by kernel_rfl) (by kernel_rfl) (fun _ _ _ h => h) (Or.inr ⟨by rfl, rfl⟩) hHeld ?_
        try simp only [aP, lA, lB, lC]
        refine wpAnyH_take (i := 4) (oi := ⟨some 67, .indexAddr 23 (.tmp 65) (.tmp 66), 0, "law.go:130", #[⟨2, .data⟩, ⟨3, .data⟩, ⟨1, .guard⟩], some (1, true)⟩) (v := undef) rfl (by kernel_rfl) (by kernel_rfl) (by kernel_rfl) (fun _ _ _ h => h) (Or.inr ⟨by rfl, rfl⟩) hHeld ?_
        try simp only [aP, lA, lB, lC]
        refine wpAnyH_take (i := 5) (oi := ⟨some 68, .load 46 (.tmp 67), 46, "law.go:130", #[⟨4, .data⟩, ⟨1, .guard⟩], some (1, true)⟩) (v := undef) rfl (by kernel_rfl) (by kernel_rfl) (by kernel_rfl) (fun _ _ _ h => h) (Or.inr ⟨by rfl, rfl⟩) hHeld ?_
        try simp only [aP, lA, lB, lC]
        refine wpAnyH_take (i := 6) (oi := ⟨some 69, .call { callee := .value (.func 13), args := #[.tmp 68], argTypes := #[46] }, 4, "law.go:130", #[⟨5, .data⟩, ⟨1, .chain⟩, ⟨1, .guard⟩], some (1, true)⟩) (v := undef) rfl (by kernel_rfl) (by kernel_rfl) (by kernel_rfl) (fun _ _ _ h => h) (Or.inr ⟨by rfl, rfl⟩) hHeld ?_
        try simp only [aP, lA, lB, lC]
        refine wpAnyH_take (i := 7) (oi := ⟨some 70, .unOp .not 4 (.tmp 69), 4, "law.go:130", #[⟨6, .data⟩, ⟨1, .guard⟩], some (1, true)⟩) (v := undef) rfl (by kernel_rfl) (by kernel_rfl) (by kernel_rfl) (fun _ _ _ h => h) (Or.inr ⟨by rfl, rfl⟩) hHeld ?_
        try simp only [aP, lA, lB, lC]
        refine wpAnyH_take (i := 8) (oi := ⟨some 71, .move (.tmp 70), 4, "law.go:130", #[⟨7, .data⟩, ⟨6, .chain⟩, ⟨1, .guard⟩], some (1, true)⟩) (v := undef) rfl (by kernel_rfl) (by kernel_rfl) (by kernel_rfl) (fun _ _ _ h => h) (Or.inr ⟨by rfl, rfl⟩) hHeld ?_
        try simp only [aP, lA, lB, lC]
        refine wpAnyH_take (i := 9) (oi := ⟨some 72, .move (.tmp 6), 23, "law.go:130", #[⟨8, .guard⟩], some (8, false)⟩) (v := undef) rfl (by kernel_rfl) (by kernel_rfl) (by kernel_rfl) (fun _ _ _ h => h) (Or.inr ⟨by rfl, rfl⟩) hHeld ?_
        try simp only [aP, lA, lB, lC]
        refine wpAnyH_take (i := 10) (oi := ⟨some 73, .move (.tmp 14), 3, "law.go:130", #[⟨8, .guard⟩], some (8, false)⟩) (v := undef) rfl (by kernel_rfl) (by kernel_rfl) (by kernel_rfl) (fun _ _ _ h => h) (Or.inr ⟨by rfl, rfl⟩) hHeld ?_
        try simp only [aP, lA, lB, lC]
        refine wpAnyH_take (i := 11) (oi := ⟨some 74, .indexAddr 23 (.tmp 72) (.tmp 73), 0, "law.go:130", #[⟨9, .data⟩, ⟨10, .data⟩, ⟨8, .guard⟩], some (8, false)⟩) (v := undef) rfl (by kernel_rfl) (by kernel_rfl) (by kernel_rfl) (fun _ _ _ h => h) (Or.inr ⟨by rfl, rfl⟩) hHeld ?_
        try simp only [aP, lA, lB, lC]
        refine wpAnyH_take (i := 12) (oi := ⟨some 75, .load 46 (.tmp 74), 46, "law.go:130", #[⟨11, .data⟩, ⟨8, .guard⟩], some (8, false)⟩) (v := undef) rfl (by kernel_rfl) (by kernel_rfl) (by kernel_rfl) (fun _ _ _ h => h) (Or.inr ⟨by rfl, rfl⟩) hHeld ?_
        try simp only [aP, lA, lB, lC]
        refine wpAnyH_take (i := 13) (oi := ⟨some 76, .move (.tmp 11), 28, "law.go:130", #[⟨8, .guard⟩], some (8, false)⟩) (v := undef) rfl (by kernel_rfl) (by kernel_rfl) (by kernel_rfl) (fun _ _ _ h => h) (Or.inr ⟨by rfl, rfl⟩) hHeld ?_
        try simp only [aP, lA, lB, lC]
        refine wpAnyH_take (i := 14) (oi := ⟨some 77, .move (.tmp 12), 3, "law.go:130", #[⟨8, .guard⟩], some (8, false)⟩) (v := undef) rfl (by kernel_rfl) (by kernel_rfl) (by kernel_rfl) (fun _ _ _ h => h) (Or.inr ⟨by rfl, rfl⟩) hHeld ?_
        try simp only [aP, lA, lB, lC]
        refine wpAnyH_take (i := 15) (oi := ⟨some 78, .indexAddr 28 (.tmp 76) (.tmp 77), 0, "law.go:130", #[⟨13, .data⟩, ⟨14, .data⟩, ⟨8, .guard⟩], some (8, false)⟩) (v := undef) rfl (by kernel_rfl) (by kernel_rfl) (by kernel_rfl) (fun _ _ _ h => h) (Or.inr ⟨by rfl, rfl⟩) hHeld ?_
        try simp only [aP, lA, lB, lC]
        refine wpAnyH_take (i := 16) (oi := ⟨some 79, .load 40 (.tmp 78), 40, "law.go:130", #[⟨15, .data⟩, ⟨8, .guard⟩], some (8, false)⟩) (v := undef) rfl (by kernel_rfl) (by kernel_rfl) (by kernel_rfl) (fun _ _ _ h => h) (Or.inr ⟨by rfl, rfl⟩) hHeld ?_
        try simp only [aP, lA, lB, lC]
        refine wpAnyH_take (i := 17) (oi := ⟨some 80, .call { callee := .value (.func 14), args := #[.tmp 75, .tmp 79], argTypes := #[46, 40] }, 4, "law.go:130", #[⟨12, .data⟩, ⟨16, .data⟩, ⟨8, .chain⟩, ⟨8, .guard⟩], some (8, false)⟩) (v := undef) rfl (by kernel_rfl) (by kernel_rfl) (by kernel_rfl) (fun _ _ _ h => h) (Or.inr ⟨by rfl, rfl⟩) hHeld ?_
        try simp only [aP, lA, lB, lC]
        refine wpAnyH_take (i := 18) (oi := ⟨some 81, .pick (.tmp 71) (.const (.bool true)) (.tmp 80), 4, "law.go:130", #[⟨8, .data⟩, ⟨17, .data⟩, ⟨1, .guard⟩], some (1, true)⟩) (v := undef) rfl (by kernel_rfl) (by kernel_rfl) (by kernel_rfl) (fun _ _ _ h => h) (Or.inr ⟨by rfl, rfl⟩) hHeld ?_
        try simp only [aP, lA, lB, lC]
        refine wpAnyH_take (i := 19) (oi := ⟨some 82, .pick (.tmp 64) (.tmp 81) (.const (.bool false)), 4, "law.go:130", #[⟨1, .data⟩, ⟨18, .data⟩], none⟩) (v := .bool false) rfl (by kernel_rfl) (by kernel_rfl) (by kernel_rfl) (fun _ _ _ h => h) (Or.inl ⟨by rfl, fun w hSw => by (try dsimp only at hSw); go_simp⟩) hHeld ?_
        try simp only [aP, lA, lB, lC]
        refine wpAnyH_ready (rs := [20]) (by kernel_rfl) (by simp) ?_
        refine AllReadyH.cons (o := ⟨some 13, .assign (.tmp 82), 4, "law.go:130", #[⟨19, .data⟩, ⟨17, .chain⟩, ⟨0, .phase⟩, ⟨1, .phase⟩, ⟨2, .phase⟩, ⟨3, .phase⟩, ⟨4, .phase⟩, ⟨5, .phase⟩, ⟨6, .phase⟩, ⟨7, .phase⟩, ⟨8, .phase⟩, ⟨9, .phase⟩, ⟨10, .phase⟩, ⟨11, .phase⟩, ⟨12, .phase⟩, ⟨13, .phase⟩, ⟨14, .phase⟩, ⟨15, .phase⟩, ⟨16, .phase⟩, ⟨17, .phase⟩, ⟨18, .phase⟩, ⟨19, .phase⟩], none⟩) rfl (fun K hK => ?_) AllReadyH.nil
        have HSf := qH hHeld
        go_simp
        clear hHeld
        refine hK.out _ _ HSf.out (fun hHeld => ?_)
        try simp only [aP, lA, lB, lC]
        clear hK
        refine wpAnyH_done (by kernel_rfl) ?_ _
        clear hHeld
        go_wp2
        exact ⟨⟨j + 1, by omega, by go_num, by rw [Hnx.out], Hkx.out.trans HSf.out⟩, by (simp [intOf] <;> omega)⟩
       | true =>
        cases hu : upB t with
        | false =>
         rw [hu] at HUp
         have Hnx := qH (show allA (lt.take (j + 1)) x.1 = true from by rw [allA_snoc x.1 Ht.out, Hba.out]; unfold missA; rw [hu]; rfl)
         clear hu
         refine wp_region_held_drew (S := fun W => Kp [] wr W) (by kernel_rfl) ((Kp.refl [] wr).drew 1) (fun hHeld => ?_)
         refine wpAnyH_take (i := 0) (oi := ⟨some 63, .move (.tmp 13), 4, "law.go:130", #[], none⟩) (v := .bool true) rfl (by kernel_rfl) (by kernel_rfl) (by kernel_rfl) (fun _ _ _ h => h) (Or.inl ⟨by rfl, fun w hSw => by (try dsimp only at hSw); go_simp⟩) hHeld ?_
         try simp only [aP, lA, lB, lC]
         refine wpAnyH_take (i := 1) (oi := ⟨some 64, .move (.tmp 63), 4, "law.go:130", #[⟨0, .data⟩], none⟩) (v := .bool true) rfl (by kernel_rfl) (by kernel_rfl) (by kernel_rfl) (fun _ _ _ h => h) (Or.inl ⟨by rfl, fun w hSw => by (try dsimp only at hSw); go_simp⟩) hHeld ?_
         try simp only [aP, lA, lB, lC]
         refine wpAnyH_take (i := 2) (oi := ⟨some 65, .move (.tmp 6), 23, "law.go:130", #[⟨1, .guard⟩], some (1, true)⟩) (v := .slice (some ⟨gt, ot, none⟩) T cp) rfl (by kernel_rfl) (by kernel_rfl) (by kernel_rfl) (fun _ _ _ h => h) (Or.inl ⟨by rfl, fun w hSw => by (try dsimp only at hSw); go_simp⟩) hHeld ?_
         try simp only [aP, lA, lB, lC]
         refine wpAnyH_take (i := 3) (oi := ⟨some 66, .move (.tmp 14), 3, "law.go:130", #[⟨1, .guard⟩], some (1, true)⟩) (v := .int .i64 (j : Int)) rfl (by kernel_rfl) (by kernel_rfl) (by kernel_rfl) (fun _ _ _ h => h) (Or.inl ⟨by rfl, fun w hSw => by (try dsimp only at hSw); go_simp⟩) hHeld ?_
         try simp only [aP, lA, lB, lC]
         refine wpAnyH_take (i := 4) (oi := ⟨some 67, .indexAddr 23 (.tmp 65) (.tmp 66), 0, "law.go:130", #[⟨2, .data⟩, ⟨3, .data⟩, ⟨1, .guard⟩], some (1, true)⟩) (v := .pointer (some ⟨gt, ot + j * 4, none⟩)) rfl (by kernel_rfl) (by kernel_rfl) (by kernel_rfl) (fun _ _ _ h => h) (Or.inl ⟨by rfl, fun w hSw => by (try dsimp only at hSw); go_simp⟩) hHeld ?_
         try simp only [aP, lA, lB, lC]
         refine wpAnyH_take (i := 5) (oi := ⟨some 68, .load 46 (.tmp 67), 46, "law.go:130", #[⟨4, .data⟩, ⟨1, .guard⟩], some (1, true)⟩) (v := .agg #[.int .i64 t.key, .string (bs t.name), .int .i64 t.op, .string (bs t.val)]) rfl (by kernel_rfl) (by kernel_rfl) (by kernel_rfl) (fun _ _ _ h => h) (Or.inl ⟨by rfl, fun w hSw => by (try dsimp only at hSw); obtain ⟨e0, e1, e2, e3⟩ := tm_all (range_kp Htm.out (Hkx.out.trans hSw)); go_simp⟩) hHeld ?_
         try simp only [aP, lA, lB, lC]
         refine wpAnyH_ready (rs := [6]) (by kernel_rfl) (by simp) ?_
         refine AllReadyH.cons (o := ⟨some 69, .call { callee := .value (.func 13), args := #[.tmp 68], argTypes := #[46] }, 4, "law.go:130", #[⟨5, .data⟩, ⟨1, .chain⟩, ⟨1, .guard⟩], some (1, true)⟩) rfl (fun K hK => ?_) AllReadyH.nil
         go_simp
         go_at_call 13
         refine cM (by with_reducible exact HUp.out _) ?_
         rintro e w5 ⟨rfl, hk5⟩
         dsimp only
         have hH := hHeld.trans hk5
         clear hk5
         clear hHeld
         refine hK.out _ _ hH (fun hHeld => ?_)
         try simp only [aP, lA, lB, lC]
         clear hK
         refine wpAnyH_take (i := 7) (oi := ⟨some 70, .unOp .not 4 (.tmp 69), 4, "law.go:130", #[⟨6, .data⟩, ⟨1, .guard⟩], some (1, true)⟩) (v := .bool true) rfl (by kernel_rfl) (by kernel_rfl) (by kernel_rfl) (fun _ _ _ h => h) (Or.inl ⟨by rfl, fun w hSw => by (try dsimp only at hSw); go_simp⟩) hHeld ?_
         try simp only [aP, lA, lB, lC]
         refine wpAnyH_take (i := 8) (oi := ⟨some 71, .move (.tmp 70), 4, "law.go:130", #[⟨7, .data⟩, ⟨6, .chain⟩, ⟨1, .guard⟩], some (1, true)⟩) (v := .bool true) rfl (by kernel_rfl) (by kernel_rfl) (by kernel_rfl) (fun _ _ _ h => h) (Or.inl ⟨by rfl, fun w hSw => by (try dsimp only at hSw); go_simp⟩) hHeld ?_
         try simp only [aP, lA, lB, lC]
         refine wpAnyH_take (i := 9) (oi := ⟨some 72, .move (.tmp 6), 23, "law.go:130", #[⟨8, .guard⟩], some (8, false)⟩) (v := undef) rfl (by kernel_rfl) (by kernel_rfl) (by kernel_rfl) (fun _ _ _ h => h) (Or.inr ⟨by rfl, rfl⟩) hHeld ?_
         try simp only [aP, lA, lB, lC]
         refine wpAnyH_take (i := 10) (oi := ⟨some 73, .move (.tmp 14), 3, "law.go:130", #[⟨8, .guard⟩], some (8, false)⟩) (v := undef) rfl (by kernel_rfl) (by kernel_rfl) (by kernel_rfl) (fun _ _ _ h => h) (Or.inr ⟨by rfl, rfl⟩) hHeld ?_
         try simp only [aP, lA, lB, lC]
         refine wpAnyH_take (i := 11) (oi := ⟨some 74, .indexAddr 23 (.tmp 72) (.tmp 73), 0, "law.go:130", #[⟨9, .data⟩, ⟨10, .data⟩, ⟨8, .guard⟩], some (8, false)⟩) (v := undef) rfl (by kernel_rfl) (by kernel_rfl) (by kernel_rfl) (fun _ _ _ h => h) (Or.inr ⟨by rfl, rfl⟩) hHeld ?_
         try simp only [aP, lA, lB, lC]
         refine wpAnyH_take (i := 12) (oi := ⟨some 75, .load 46 (.tmp 74), 46, "law.go:130", #[⟨11, .data⟩, ⟨8, .guard⟩], some (8, false)⟩) (v := undef) rfl (by kernel_rfl) (by kernel_rfl) (by kernel_rfl) (fun _ _ _ h => h) (Or.inr ⟨by rfl, rfl⟩) hHeld ?_
         try simp only [aP, lA, lB, lC]
         refine wpAnyH_take (i := 13) (oi := ⟨some 76, .move (.tmp 11), 28, "law.go:130", #[⟨8, .guard⟩], some (8, false)⟩) (v := undef) rfl (by kernel_rfl) (by kernel_rfl) (by kernel_rfl) (fun _ _ _ h => h) (Or.inr ⟨by rfl, rfl⟩) hHeld ?_
         try simp only [aP, lA, lB, lC]
         refine wpAnyH_take (i := 14) (oi := ⟨some 77, .move (.tmp 12), 3, "law.go:130", #[⟨8, .guard⟩], some (8, false)⟩) (v := undef) rfl (by kernel_rfl) (by kernel_rfl) (by kernel_rfl) (fun _ _ _ h => h) (Or.inr ⟨by rfl, rfl⟩) hHeld ?_
         try simp only [aP, lA, lB, lC]
         refine wpAnyH_take (i := 15) (oi := ⟨some 78, .indexAddr 28 (.tmp 76) (.tmp 77), 0, "law.go:130", #[⟨13, .data⟩, ⟨14, .data⟩, ⟨8, .guard⟩], some (8, false)⟩) (v := undef) rfl (by kernel_rfl) (by kernel_rfl) (by kernel_rfl) (fun _ _ _ h => h) (Or.inr ⟨by rfl, rfl⟩) hHeld ?_
         try simp only [aP, lA, lB, lC]
         refine wpAnyH_take (i := 16) (oi := ⟨some 79, .load 40 (.tmp 78), 40, "law.go:130", #[⟨15, .data⟩, ⟨8, .guard⟩], some (8, false)⟩) (v := undef) rfl (by kernel_rfl) (by kernel_rfl) (by kernel_rfl) (fun _ _ _ h => h) (Or.inr ⟨by rfl, rfl⟩) hHeld ?_
         try simp only [aP, lA, lB, lC]
         refine wpAnyH_take (i := 17) (oi := ⟨some 80, .call { callee := .value (.func 14), args := #[.tmp 75, .tmp 79], argTypes := #[46, 40] }, 4, "law.go:130", #[⟨12, .data⟩, ⟨16, .data⟩, ⟨8, .chain⟩, ⟨8, .guard⟩], some (8, false)⟩) (v := undef) rfl (by kernel_rfl) (by kernel_rfl) (by kernel_rfl) (fun _ _ _ h => h) (Or.inr ⟨by rfl, rfl⟩) hHeld ?_
         try simp only [aP, lA, lB, lC]
         refine wpAnyH_take (i := 18) (oi := ⟨some 81, .pick (.tmp 71) (.const (.bool true)) (.tmp 80), 4, "law.go:130", #[⟨8, .data⟩, ⟨17, .data⟩, ⟨1, .guard⟩], some (1, true)⟩) (v := .bool true) rfl (by kernel_rfl) (by kernel_rfl) (by kernel_rfl) (fun _ _ _ h => h) (Or.inl ⟨by rfl, fun w hSw => by (try dsimp only at hSw); go_simp⟩) hHeld ?_
         try simp only [aP, lA, lB, lC]
         refine wpAnyH_take (i := 19) (oi := ⟨some 82, .pick (.tmp 64) (.tmp 81) (.const (.bool false)), 4, "law.go:130", #[⟨1, .data⟩, ⟨18, .data⟩], none⟩) (v := .bool true) rfl (by kernel_rfl) (by kernel_rfl) (by kernel_rfl) (fun _ _ _ h => h) (Or.inl ⟨by rfl, fun w hSw => by (try dsimp only at hSw); go_simp⟩) hHeld ?_
         try simp only [aP, lA, lB, lC]
         refine wpAnyH_ready (rs := [20]) (by kernel_rfl) (by simp) ?_
         refine AllReadyH.cons (o := ⟨some 13, .assign (.tmp 82), 4, "law.go:130", #[⟨19, .data⟩, ⟨17, .chain⟩, ⟨0, .phase⟩, ⟨1, .phase⟩, ⟨2, .phase⟩, ⟨3, .phase⟩, ⟨4, .phase⟩, ⟨5, .phase⟩, ⟨6, .phase⟩, ⟨7, .phase⟩, ⟨8, .phase⟩, ⟨9, .phase⟩, ⟨10, .phase⟩, ⟨11, .phase⟩, ⟨12, .phase⟩, ⟨13, .phase⟩, ⟨14, .phase⟩, ⟨15, .phase⟩, ⟨16, .phase⟩, ⟨17, .phase⟩, ⟨18, .phase⟩, ⟨19, .phase⟩], none⟩) rfl (fun K hK => ?_) AllReadyH.nil
         have HSf := qH hHeld
         go_simp
         clear hHeld
         refine hK.out _ _ HSf.out (fun hHeld => ?_)
         try simp only [aP, lA, lB, lC]
         clear hK
         refine wpAnyH_done (by kernel_rfl) ?_ _
         clear hHeld
         go_wp2
         exact ⟨⟨j + 1, by omega, by go_num, by rw [Hnx.out], Hkx.out.trans HSf.out⟩, by (simp [intOf] <;> omega)⟩
        | true =>
         rw [hu] at HUp
         obtain ⟨dv, hdv⟩ : ∃ b, devA t x.1 = b := ⟨_, rfl⟩
         rw [hdv] at HDv
         have Hnx := qH (show allA (lt.take (j + 1)) x.1 = dv from by rw [allA_snoc x.1 Ht.out, Hba.out, ← hdv]; unfold missA; rw [hu]; simp)
         clear hu hdv
         refine wp_region_held_drew (S := fun W => Kp [] wr W) (by kernel_rfl) ((Kp.refl [] wr).drew 1) (fun hHeld => ?_)
         refine wpAnyH_take (i := 0) (oi := ⟨some 63, .move (.tmp 13), 4, "law.go:130", #[], none⟩) (v := .bool true) rfl (by kernel_rfl) (by kernel_rfl) (by kernel_rfl) (fun _ _ _ h => h) (Or.inl ⟨by rfl, fun w hSw => by (try dsimp only at hSw); go_simp⟩) hHeld ?_
         try simp only [aP, lA, lB, lC]
         refine wpAnyH_take (i := 1) (oi := ⟨some 64, .move (.tmp 63), 4, "law.go:130", #[⟨0, .data⟩], none⟩) (v := .bool true) rfl (by kernel_rfl) (by kernel_rfl) (by kernel_rfl) (fun _ _ _ h => h) (Or.inl ⟨by rfl, fun w hSw => by (try dsimp only at hSw); go_simp⟩) hHeld ?_
         try simp only [aP, lA, lB, lC]
         refine wpAnyH_take (i := 2) (oi := ⟨some 65, .move (.tmp 6), 23, "law.go:130", #[⟨1, .guard⟩], some (1, true)⟩) (v := .slice (some ⟨gt, ot, none⟩) T cp) rfl (by kernel_rfl) (by kernel_rfl) (by kernel_rfl) (fun _ _ _ h => h) (Or.inl ⟨by rfl, fun w hSw => by (try dsimp only at hSw); go_simp⟩) hHeld ?_
         try simp only [aP, lA, lB, lC]
         refine wpAnyH_take (i := 3) (oi := ⟨some 66, .move (.tmp 14), 3, "law.go:130", #[⟨1, .guard⟩], some (1, true)⟩) (v := .int .i64 (j : Int)) rfl (by kernel_rfl) (by kernel_rfl) (by kernel_rfl) (fun _ _ _ h => h) (Or.inl ⟨by rfl, fun w hSw => by (try dsimp only at hSw); go_simp⟩) hHeld ?_
         try simp only [aP, lA, lB, lC]
         refine wpAnyH_take (i := 4) (oi := ⟨some 67, .indexAddr 23 (.tmp 65) (.tmp 66), 0, "law.go:130", #[⟨2, .data⟩, ⟨3, .data⟩, ⟨1, .guard⟩], some (1, true)⟩) (v := .pointer (some ⟨gt, ot + j * 4, none⟩)) rfl (by kernel_rfl) (by kernel_rfl) (by kernel_rfl) (fun _ _ _ h => h) (Or.inl ⟨by rfl, fun w hSw => by (try dsimp only at hSw); go_simp⟩) hHeld ?_
         try simp only [aP, lA, lB, lC]
         refine wpAnyH_take (i := 5) (oi := ⟨some 68, .load 46 (.tmp 67), 46, "law.go:130", #[⟨4, .data⟩, ⟨1, .guard⟩], some (1, true)⟩) (v := .agg #[.int .i64 t.key, .string (bs t.name), .int .i64 t.op, .string (bs t.val)]) rfl (by kernel_rfl) (by kernel_rfl) (by kernel_rfl) (fun _ _ _ h => h) (Or.inl ⟨by rfl, fun w hSw => by (try dsimp only at hSw); obtain ⟨e0, e1, e2, e3⟩ := tm_all (range_kp Htm.out (Hkx.out.trans hSw)); go_simp⟩) hHeld ?_
         try simp only [aP, lA, lB, lC]
         refine wpAnyH_ready (rs := [6]) (by kernel_rfl) (by simp) ?_
         refine AllReadyH.cons (o := ⟨some 69, .call { callee := .value (.func 13), args := #[.tmp 68], argTypes := #[46] }, 4, "law.go:130", #[⟨5, .data⟩, ⟨1, .chain⟩, ⟨1, .guard⟩], some (1, true)⟩) rfl (fun K hK => ?_) AllReadyH.nil
         go_simp
         go_at_call 13
         refine cM (by with_reducible exact HUp.out _) ?_
         rintro e w5 ⟨rfl, hk5⟩
         dsimp only
         have hH := hHeld.trans hk5
         clear hk5
         clear hHeld
         refine hK.out _ _ hH (fun hHeld => ?_)
         try simp only [aP, lA, lB, lC]
         clear hK
         refine wpAnyH_take (i := 7) (oi := ⟨some 70, .unOp .not 4 (.tmp 69), 4, "law.go:130", #[⟨6, .data⟩, ⟨1, .guard⟩], some (1, true)⟩) (v := .bool false) rfl (by kernel_rfl) (by kernel_rfl) (by kernel_rfl) (fun _ _ _ h => h) (Or.inl ⟨by rfl, fun w hSw => by (try dsimp only at hSw); go_simp⟩) hHeld ?_
         try simp only [aP, lA, lB, lC]
         refine wpAnyH_take (i := 8) (oi := ⟨some 71, .move (.tmp 70), 4, "law.go:130", #[⟨7, .data⟩, ⟨6, .chain⟩, ⟨1, .guard⟩], some (1, true)⟩) (v := .bool false) rfl (by kernel_rfl) (by kernel_rfl) (by kernel_rfl) (fun _ _ _ h => h) (Or.inl ⟨by rfl, fun w hSw => by (try dsimp only at hSw); go_simp⟩) hHeld ?_
         try simp only [aP, lA, lB, lC]
         refine wpAnyH_take (i := 9) (oi := ⟨some 72, .move (.tmp 6), 23, "law.go:130", #[⟨8, .guard⟩], some (8, false)⟩) (v := .slice (some ⟨gt, ot, none⟩) T cp) rfl (by kernel_rfl) (by kernel_rfl) (by kernel_rfl) (fun _ _ _ h => h) (Or.inl ⟨by rfl, fun w hSw => by (try dsimp only at hSw); go_simp⟩) hHeld ?_
         try simp only [aP, lA, lB, lC]
         refine wpAnyH_take (i := 10) (oi := ⟨some 73, .move (.tmp 14), 3, "law.go:130", #[⟨8, .guard⟩], some (8, false)⟩) (v := .int .i64 (j : Int)) rfl (by kernel_rfl) (by kernel_rfl) (by kernel_rfl) (fun _ _ _ h => h) (Or.inl ⟨by rfl, fun w hSw => by (try dsimp only at hSw); go_simp⟩) hHeld ?_
         try simp only [aP, lA, lB, lC]
         refine wpAnyH_take (i := 11) (oi := ⟨some 74, .indexAddr 23 (.tmp 72) (.tmp 73), 0, "law.go:130", #[⟨9, .data⟩, ⟨10, .data⟩, ⟨8, .guard⟩], some (8, false)⟩) (v := .pointer (some ⟨gt, ot + j * 4, none⟩)) rfl (by kernel_rfl) (by kernel_rfl) (by kernel_rfl) (fun _ _ _ h => h) (Or.inl ⟨by rfl, fun w hSw => by (try dsimp only at hSw); go_simp⟩) hHeld ?_
         try simp only [aP, lA, lB, lC]
         refine wpAnyH_take (i := 12) (oi := ⟨some 75, .load 46 (.tmp 74), 46, "law.go:130", #[⟨11, .data⟩, ⟨8, .guard⟩], some (8, false)⟩) (v := .agg #[.int .i64 t.key, .string (bs t.name), .int .i64 t.op, .string (bs t.val)]) rfl (by kernel_rfl) (by kernel_rfl) (by kernel_rfl) (fun _ _ _ h => h) (Or.inl ⟨by rfl, fun w hSw => by (try dsimp only at hSw); obtain ⟨e0, e1, e2, e3⟩ := tm_all (range_kp Htm.out (Hkx.out.trans hSw)); go_simp⟩) hHeld ?_
         try simp only [aP, lA, lB, lC]
         refine wpAnyH_take (i := 13) (oi := ⟨some 76, .move (.tmp 11), 28, "law.go:130", #[⟨8, .guard⟩], some (8, false)⟩) (v := .slice (some ⟨g, o, none⟩) M cc) rfl (by kernel_rfl) (by kernel_rfl) (by kernel_rfl) (fun _ _ _ h => h) (Or.inl ⟨by rfl, fun w hSw => by (try dsimp only at hSw); go_simp⟩) hHeld ?_
         try simp only [aP, lA, lB, lC]
         refine wpAnyH_take (i := 14) (oi := ⟨some 77, .move (.tmp 12), 3, "law.go:130", #[⟨8, .guard⟩], some (8, false)⟩) (v := .int .i64 (i : Int)) rfl (by kernel_rfl) (by kernel_rfl) (by kernel_rfl) (fun _ _ _ h => h) (Or.inl ⟨by rfl, fun w hSw => by (try dsimp only at hSw); go_simp⟩) hHeld ?_
         try simp only [aP, lA, lB, lC]
         refine wpAnyH_take (i := 15) (oi := ⟨some 78, .indexAddr 28 (.tmp 76) (.tmp 77), 0, "law.go:130", #[⟨13, .data⟩, ⟨14, .data⟩, ⟨8, .guard⟩], some (8, false)⟩) (v := .pointer (some ⟨g, o + i * 10, none⟩)) rfl (by kernel_rfl) (by kernel_rfl) (by kernel_rfl) (fun _ _ _ h => h) (Or.inl ⟨by rfl, fun w hSw => by (try dsimp only at hSw); go_simp⟩) hHeld ?_
         try simp only [aP, lA, lB, lC]
         refine wpAnyH_take (i := 16) (oi := ⟨some 79, .load 40 (.tmp 78), 40, "law.go:130", #[⟨15, .data⟩, ⟨8, .guard⟩], some (8, false)⟩) (v := .agg #[.int .i64 x.1.idx, .int .i64 x.1.par, .string x.1.name, .string x.1.orig, .string x.1.sub, .string x.1.drv, .string x.1.ali, .int .i64 x.1.kind, .int .i64 x.1.num, x.2]) rfl (by kernel_rfl) (by kernel_rfl) (by kernel_rfl) (fun _ _ _ h => h) (Or.inl ⟨by rfl, fun w hSw => by (try dsimp only at hSw); obtain ⟨d0, d1, d2, d3, d4, d5, d6, d7, d8, d9⟩ := dvC_all (range_kp Hran.out (Hkx.out.trans hSw)); go_simp⟩) hHeld ?_
         try simp only [aP, lA, lB, lC]
         refine wpAnyH_ready (rs := [17]) (by kernel_rfl) (by simp) ?_
         refine AllReadyH.cons (o := ⟨some 80, .call { callee := .value (.func 14), args := #[.tmp 75, .tmp 79], argTypes := #[46, 40] }, 4, "law.go:130", #[⟨12, .data⟩, ⟨16, .data⟩, ⟨8, .chain⟩, ⟨8, .guard⟩], some (8, false)⟩) rfl (fun K hK => ?_) AllReadyH.nil
         go_simp
         go_at_call 14
         refine cM (by with_reducible exact HDv.out _ (Hkx.out.trans hHeld)) ?_
         rintro e w6 ⟨rfl, hk6⟩
         dsimp only
         have hH := hHeld.trans hk6
         clear hk6
         clear hHeld
         refine hK.out _ _ hH (fun hHeld => ?_)
         try simp only [aP, lA, lB, lC]
         clear hK
         refine wpAnyH_take (i := 18) (oi := ⟨some 81, .pick (.tmp 71) (.const (.bool true)) (.tmp 80), 4, "law.go:130", #[⟨8, .data⟩, ⟨17, .data⟩, ⟨1, .guard⟩], some (1, true)⟩) (v := .bool dv) rfl (by kernel_rfl) (by kernel_rfl) (by kernel_rfl) (fun _ _ _ h => h) (Or.inl ⟨by rfl, fun w hSw => by (try dsimp only at hSw); go_simp⟩) hHeld ?_
         try simp only [aP, lA, lB, lC]
         refine wpAnyH_take (i := 19) (oi := ⟨some 82, .pick (.tmp 64) (.tmp 81) (.const (.bool false)), 4, "law.go:130", #[⟨1, .data⟩, ⟨18, .data⟩], none⟩) (v := .bool dv) rfl (by kernel_rfl) (by kernel_rfl) (by kernel_rfl) (fun _ _ _ h => h) (Or.inl ⟨by rfl, fun w hSw => by (try dsimp only at hSw); go_simp⟩) hHeld ?_
         try simp only [aP, lA, lB, lC]
         refine wpAnyH_ready (rs := [20]) (by kernel_rfl) (by simp) ?_
         refine AllReadyH.cons (o := ⟨some 13, .assign (.tmp 82), 4, "law.go:130", #[⟨19, .data⟩, ⟨17, .chain⟩, ⟨0, .phase⟩, ⟨1, .phase⟩, ⟨2, .phase⟩, ⟨3, .phase⟩, ⟨4, .phase⟩, ⟨5, .phase⟩, ⟨6, .phase⟩, ⟨7, .phase⟩, ⟨8, .phase⟩, ⟨9, .phase⟩, ⟨10, .phase⟩, ⟨11, .phase⟩, ⟨12, .phase⟩, ⟨13, .phase⟩, ⟨14, .phase⟩, ⟨15, .phase⟩, ⟨16, .phase⟩, ⟨17, .phase⟩, ⟨18, .phase⟩, ⟨19, .phase⟩], none⟩) rfl (fun K hK => ?_) AllReadyH.nil
         have HSf := qH hHeld
         go_simp
         clear hHeld
         refine hK.out _ _ HSf.out (fun hHeld => ?_)
         try simp only [aP, lA, lB, lC]
         clear hK
         refine wpAnyH_done (by kernel_rfl) ?_ _
         clear hHeld
         go_wp2
         exact ⟨⟨j + 1, by omega, by go_num, by rw [Hnx.out], Hkx.out.trans HSf.out⟩, by (simp [intOf] <;> omega)⟩
      ·obtain rfl : j = T := by omega
       have hjj : ¬ (j : Int) < (j : Int) := by omega
       have Hh := qH (show holdA lt x.1 = ba from by rw [← Hba.out, ← allA_hold, List.take_of_length_le (by rw [HTl.out]; exact Nat.le_refl _)])
       cases ba with
       | true =>
        have hfin : an = x.1.idx ∧ ok = true := by
         have h1 := ancU_some (lt := lt) (c := C.map (·.1)) (i := i) (a := x.1) (fun y hy => by
          rw [← List.map_take] at hy
          obtain ⟨z, hz, rfl⟩ := List.mem_map.1 hy
          exact Hall.out z hz) (by rw [List.getElem?_map, Hx.out]; rfl) Hh.out
         rw [HAO.out] at h1
         injection h1 with h1 h2
         exact ⟨h1, h2⟩
        obtain ⟨e1, e2⟩ := hfin
        subst e1
        subst e2
        obtain ⟨d0, -, -, -, -, -⟩ := De.dvC_cells (range_kp Hran.out Hkx.out)
        go_wp2_with (go_at_call 5; refine cM (by with_reducible exact HKn.out _) ?_; rintro e wk ⟨rfl, hkk⟩; have HKk := qH (HKw.out.trans (HKi.out.trans (Hkx.out.trans hkk))); clear hkk)
        go_ret
        exact ⟨rfl, HFin0.out _ HKk.out⟩
       | false =>
        have Hall2 := qH (show ∀ y ∈ C.take (i + 1), holdA lt y.1 = false from fun y hy => by
         rw [List.take_add_one, Hx.out] at hy
         rcases List.mem_append.1 hy with hy | hy
         ·exact Hall.out y hy
         ·rw [show y = x by simpa using hy]
          exact Hh.out)
        go_wp2
        exact ⟨⟨i + 1, by omega, by go_num, Hall2, qH (HKi.out.trans Hkx.out)⟩, by (simp [intOf] <;> omega)⟩
    ·obtain rfl : i = M := by omega
     have hii : ¬ (i : Int) < (i : Int) := by omega
     have hfin : an = 0 ∧ ok = false := by
      have h1 := ancU_none (lt := lt) (c := C.map (·.1)) (fun y hy => by
       obtain ⟨z, hz, rfl⟩ := List.mem_map.1 hy
       exact Hall.out z (by rw [List.take_of_length_le (by rw [HM.out]; exact Nat.le_refl _)]; exact hz))
      rw [HAO.out] at h1
      injection h1 with h1 h2
      exact ⟨h1, h2⟩
     obtain ⟨e1, e2⟩ := hfin
     subst e1
     subst e2
     go_wp2_with (go_at_call 5; refine cM (by with_reducible exact HKn.out _) ?_; rintro e wk ⟨rfl, hkk⟩; have HKk := qH (HKw.out.trans (HKi.out.trans hkk)); clear hkk)
     go_ret
     exact ⟨rfl, HFin0.out _ HKk.out⟩
end Go.Proofs.YtljkljnfbcmjdaaGreatDoor
