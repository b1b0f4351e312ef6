/- TreeChanges: the trees without a subtree and with an exchanged device, or the errors, as the reference has them. -/
import Derived.Test.YtldcediiobfhiaaGreatDoorKZB
import Derived.Test.YtldcediiobfhiaaGreatDoorKV7
import Derived.Deep.MidRow
namespace Go.Proofs.YtldcediiobfhiaaGreatDoor
open Go.RowKit
set_option maxHeartbeats 16000000 in
set_option maxRecDepth 100000 in
theorem changes_walk (a0 : Option Addr) (n0 c0 : Nat) (d : De.Dev) (la : List De.Atr) (w : World) (hm : De.Max w) (hi : Ints w w.heap.size (.slice a0 n0 c0)) (hd : De.Has w d.av la) (hla : la.length ≤ 9223372036854775807) (hs : De.Sized d la) (hwi : (Lit.int .i64 d.idx).wf = true) (hwp : (Lit.int .i64 d.par).wf = true) : Calls Tryz.prog 8 #[.slice a0 n0 c0, De.devV d] w fun e w' => e = .returned (.bool true) ∧ Below w.heap.size w w' := by
 obtain ⟨di, dp, dn, do_, du, dd, dl, dk, dm, dv⟩ := d
 unfold De.devV De.devC
 dsimp only at hd hwi hwp ⊢
 obtain ⟨X1, hX1⟩ : ∃ X : De.ADev, (⟨di, dp, dn, do_, du, dd, dl, dk, dm, la⟩ : De.ADev) = X := ⟨_, rfl⟩
 have HX1 := Lib.hid hX1
 have HG1 := Lib.hid (show De.Has w dv X1.ats ∧ De.Sized (De.devOf X1 dv) X1.ats ∧ X1.ats.length ≤ 9223372036854775807 ∧ (Lit.int .i64 X1.idx).wf = true ∧ (Lit.int .i64 X1.par).wf = true from by
  rw [← hX1]
  exact ⟨hd, hs, hla, hwi, hwp⟩)
 clear hX1 hd hs hla hwi hwp
 obtain ⟨P0, hP0⟩ : ∃ P, w.heap.size = P := ⟨_, rfl⟩
 obtain ⟨wz, hwz⟩ : ∃ W, w.alloc (.cells #[.int .i64 di, .int .i64 dp, .string dn, .string do_, .string du, .string dd, .string dl, .int .i64 dk, .int .i64 dm, dv] 34) = W := ⟨_, rfl⟩
 have hkz : Kp [] w wz := by rw [← hwz]; exact (Kp.refl [] w).alloc _
 have hpz : wz.heap[P0]? = some (.cells #[.int .i64 di, .int .i64 dp, .string dn, .string do_, .string du, .string dd, .string dl, .int .i64 dk, .int .i64 dm, dv] 34 (0, 0)) := by rw [← hwz, ← hP0]; exact heap_alloc_last w _
 have hiz : Ints wz wz.heap.size (.slice a0 n0 c0) := by
  rcases hi with h | ⟨b, o, n, c, h1, h2, h3⟩
  ·exact .inl h
  ·exact .inr ⟨b, o, n, c, h1, Nat.lt_of_lt_of_le h2 hkz.size, fun j hj => by obtain ⟨z, hz⟩ := h3 j hj; exact ⟨z, cell_kp hkz hz⟩⟩
 have hmz := hm.below hkz.bel
 have HKz := Lib.hid hkz
 have HPz := Lib.hid hpz
 have HPw := Lib.hid hP0
 clear hkz hpz hi hm
 obtain ⟨tb, htb⟩ : ∃ tb, wz.heap.size = tb := ⟨_, rfl⟩
 obtain ⟨W0, hW⟩ : ∃ W0, wz.alloc (.cells #[.slice a0 n0 c0, .int .i64 0] 27) = W0 := ⟨_, rfl⟩
 have hk0 : Kp [] wz W0 := by rw [← hW]; exact (Kp.refl [] wz).alloc _
 have hT0 : Tp W0 tb 0 := by rw [← hW, ← htb]; exact tape_new hiz
 have HTr0 := Lib.hid (tree9 (by omega) hT0 (hmz.below hk0.bel))
 have HK0 := Lib.hid (show Kp [tb] wz W0 from hk0.mono (by simp))
 have Htb := Lib.hid htb
 have H0t := Lib.hid (max_tp (hmz.below hk0.bel) hT0)
 have HM0 := Lib.hid (hmz.below hk0.bel)
 clear hk0 hT0
 go_enter Tryz.func8, Tryz.ntmps8
 go_upto_region 3 with (first
  | (go_at_call 13; refine Calls.mono (by with_reducible exact HTr0.out) ?_; rintro e w1 ⟨va, N, vc, L, rfl, HN, hNc, hN9, HTr, k1, hk1, HT, HK1⟩; have H1v := Lib.hid (show (#[.slice va N vc] : Array Value).all (·.oneCell') = true from by simp [Value.oneCell']))
  | (refine De.wpList_store_new w1 29 _ #[.slice va N vc] rfl _ _ rfl rfl rfl info30b rfl H1v.out ?_))
 obtain ⟨Q, hQ⟩ : ∃ Q, w1.heap.size = Q := ⟨_, rfl⟩
 have hq1 := heap_alloc_last w1 (.cells #[.slice va N vc] 29)
 have hka := (Kp.refl [] w1).alloc (.cells #[.slice va N vc] 29)
 generalize w1.alloc (.cells #[.slice va N vc] 29) = w2 at *
 rw [hQ] at hq1 ⊢
 have HQ2 := Lib.hid hq1
 have t0 := cell_one hq1
 have HT2 := Lib.hid (HT.out.kp hka (by simp))
 have HTr2 := Lib.hid (HTr.out.kp hka)
 have HK2 := Lib.hid ((HK0.out.trans HK1.out).trans (hka.mono (by simp)))
 have HM2 := Lib.hid (MaxT (MaxT HM0.out H0t.out HK1.out) H0t.out (hka.mono (by simp)))
 have HQt := Lib.hid (show tb < Q from by rw [← hQ]; exact HT.out.lt)
 have HTok := Lib.hid (tree_tok HTr2.out (by omega))
 have HTb2 := Lib.hid HT2.out.lt
 have HQk := Lib.hid (fun (W : World) (hk : Kp [tb] w2 W) => cell_one ((hk.block Q (block_lt HQ2.out) (by have := HQt.out; simp; omega)).trans HQ2.out))
 have HP0t := Lib.hid (show P0 ≠ tb ∧ P0 < wz.heap.size from ⟨by have := block_lt HPz.out; have := Htb.out; omega, block_lt HPz.out⟩)
 have HP0 := Lib.hid (show ∀ W, Kp [tb] w2 W → W.rangeAt P0 0 [.int .i64 di, .int .i64 dp, .string dn, .string do_, .string du, .string dd, .string dl, .int .i64 dk, .int .i64 dm, dv] from fun W hk j u hu => by
  rw [cell_of_row _ _ _ _ _ _ (((HK2.out.trans hk).block P0 HP0t.out.2 (by have := HP0t.out.1; simpa using this)).trans HPz.out)]
  simpa using hu)
 have HSm := Lib.hid (some_any (k := k1) (by omega) HT2.out HTr2.out (by omega))
 have HTr3 := Lib.hid (fun W (hk : Kp [tb] w2 W) => HTr2.out.kpT hk (by omega))
 have HMk := Lib.hid (fun W (hk : Kp [tb] w2 W) => MaxT HM2.out H0t.out hk)
 go_upto_region 4 with (go_at_call 18; refine Calls.mono (by with_reducible exact HSm.out) ?_; rintro e w3 ⟨z, rfl, hz, ⟨k3, hk3, hT3⟩, hk23⟩; have HZ := Lib.hid hz; have HT3 := Lib.hid hT3; have HK3 := Lib.hid hk23; clear hz hT3 hk23)
 clear t0
 have t0 := HQk.out _ HK3.out
 obtain ⟨E, hE⟩ : ∃ E, remE L z = E := ⟨_, rfl⟩
 obtain ⟨A, hA⟩ : ∃ A, (remR L z).map (·.1) = A := ⟨_, rfl⟩
 have HAs := Lib.hid (show A.length ≤ 1000000 ∧ ∀ a ∈ A, a.ats.length ≤ 1000000 from by rw [← hA]; exact rem_small HTr2.out (by omega) z)
 have H43 := Lib.hid (show Calls Tryz.prog 43 #[.agg #[.slice va N vc], .int .i64 z] w3 (ChgPost E A w3) from by
  rw [← hE, ← hA]
  exact ch43 (HTr3.out _ HK3.out) (by omega) (HTr3.out _ HK3.out).any.has z HZ.out)
 have H44 := Lib.hid (show ∀ W, Kp [] w3 W → Calls Tryz.prog 44 #[.agg #[.slice va N vc], .int .i64 z] W (ChgPost E A W) from fun W hk => by
  rw [← hE, ← hA]
  exact ch44 (HTr3.out _ HK3.out) (by omega) ((HTr3.out _ HK3.out).any.has.below hk.bel) z)
 clear hE hA
 go_upto_region 5 with (first
  | (go_at_call 43; refine Calls.mono (by with_reducible exact H43.out) ?_; rintro e w4 ⟨a1, n1, c1, L1, rfl, HL1, HD1, HK4⟩)
  | (refine De.wpList_store_new w4 29 _ #[.slice a1 n1 c1] rfl _ _ rfl rfl rfl info30b rfl (sl_one _ _ _) ?_))
 clear t0
 obtain ⟨A8, hA8⟩ : ∃ B, w4.heap.size = B := ⟨_, rfl⟩
 have hqn := heap_alloc_last w4 (.cells #[.slice a1 n1 c1] 29)
 have hka := (Kp.refl [] w4).alloc (.cells #[.slice a1 n1 c1] 29)
 generalize w4.alloc (.cells #[.slice a1 n1 c1] 29) = w5 at *
 rw [hA8] at hqn ⊢
 have HA5 := Lib.hid hqn
 have HKnw5 := Lib.hid hka
 have HSzA8 := Lib.hid hA8
 clear hqn hka hA8
 try dsimp only [Act.put]
 have HK35 := Lib.hid (HK4.out.trans HKnw5.out)
 have HD1' := Lib.hid (HD1.out.below HKnw5.out.bel)
 have t0 := HQk.out _ (HK3.out.trans (HK35.out.mono (by simp)))
 go_upto_region 6 with (first
  | (go_at_call 44; refine Calls.mono (by with_reducible exact H44.out _ HK35.out) ?_; rintro e w6 ⟨a2, n2, c2, L2, rfl, HL2, HD2, HK6⟩)
  | (refine De.wpList_store_new w6 29 _ #[.slice a2 n2 c2] rfl _ _ rfl rfl rfl info30b rfl (sl_one _ _ _) ?_))
 clear t0
 obtain ⟨B10, hB10⟩ : ∃ B, w6.heap.size = B := ⟨_, rfl⟩
 have hqn := heap_alloc_last w6 (.cells #[.slice a2 n2 c2] 29)
 have hka := (Kp.refl [] w6).alloc (.cells #[.slice a2 n2 c2] 29)
 generalize w6.alloc (.cells #[.slice a2 n2 c2] 29) = w7 at *
 rw [hB10] at hqn ⊢
 have HB7 := Lib.hid hqn
 have HKnw7 := Lib.hid hka
 have HSzB10 := Lib.hid hB10
 clear hqn hka hB10
 try dsimp only [Act.put]
 have HK57 := Lib.hid (HK6.out.trans HKnw7.out)
 have HK37 := Lib.hid (HK35.out.trans HK57.out)
 have HA7 := Lib.hid ((HK57.out.block A8 (block_lt HA5.out) (by simp)).trans HA5.out)
 have HAB := Lib.hid (show A8 < B10 from by have h1 := block_lt HA5.out; have h2 := HK6.out.size; have h3 := HSzB10.out; omega)
 have HS7 := Lib.hid (same42 HAs.out.1 HAs.out.2 HL1.out HL2.out (HD1'.out.below HK57.out.bel) (HD2.out.below HKnw7.out.bel))
 have t1 := cell_one HA7.out
 have t2 := cell_one HB7.out
 have hne : (E != E) = false := by simp
 go_upto_region 8 with (go_at_call 42; refine Calls.mono (by with_reducible exact HS7.out) ?_; rintro e w8 ⟨rfl, hk8⟩; have HK8 := Lib.hid hk8; clear hk8)
 clear t1 t2 hne H43 H44
 have HK38 := Lib.hid (HK37.out.trans HK8.out)
 have HK28 := Lib.hid (HK3.out.trans (HK38.out.mono (by simp)))
 have HT8 := Lib.hid (HT3.out.kp HK38.out (by simp))
 have HA8 := Lib.hid ((HK8.out.block A8 (block_lt HA7.out) (by simp)).trans HA7.out)
 have HB8 := Lib.hid ((HK8.out.block B10 (block_lt HB7.out) (by simp)).trans HB7.out)
 have HAt := Lib.hid (show tb < A8 ∧ A8 ≠ Q from by
  have h1 := HT3.out.lt
  have h2 := HK4.out.size
  have h3 := HSzA8.out
  have h4 := HK3.out.size
  have h5 := block_lt HQ2.out
  omega)
 have HAtQ := Lib.hid (show Q < A8 from by have h1 := block_lt HQ2.out; have h2 := HK3.out.size; have h3 := HK4.out.size; have h4 := HSzA8.out; omega)
 have HTr8 := Lib.hid (HTr3.out _ HK28.out)
 have HM8 := Lib.hid (HMk.out _ HK28.out)
 have HQ8 := Lib.hid ((HK28.out.block Q (block_lt HQ2.out) (by have := HQt.out; simp; omega)).trans HQ2.out)
 have HTt := Lib.hid (show tb < w8.heap.size from HT8.out.lt)
 clear HD1 HD1' HD2 HL1 HL2 HK4 HK6 HKnw5 HKnw7 HK35 HK57 HK37 HA5 HA7 HB7 HS7 HAs HSzA8 HSzB10 HK8 HT3
 have HDV := Lib.hid (show Calls Tryz.prog 15 #[.pointer (some ⟨tb, 0, none⟩), .agg #[.slice va N vc]] w8 (WdPost2 tb k3 w8) from by
  obtain ⟨va', vc', hvf, hvc, hvr⟩ := HTr8.out.any.wform
  have h := wdev2_any (k := k3) (by omega) HT8.out L va vc (by have := HTr8.out.len; omega) HTok.out.wi (fun i x hx => by
   obtain ⟨g, o, e, hg, hc⟩ := hvr i x hx
   injection hvf with e1 e2 e3
   exact ⟨g, o, e1.trans e, hg, by
    have := HTr8.out.off.v g (by rw [e1, e]; rfl)
    omega, hc⟩)
  rw [HN.out] at h
  exact h)
 have t0 := cell_one HQ8.out
 go_upto_region 9 with (first
  | (go_at_call 15; refine Calls.mono (by with_reducible exact HDV.out) ?_; rintro e w9 ⟨⟨ei, ep, en, eo, eu, ed, el, ek, em, ev⟩, l2, rfl, hat, hsx, hll, ⟨k9, hk9, htp⟩, hkp, hfr, HWi, HWp⟩; dsimp only [De.devV, De.devC] at *; have HA2 := Lib.hid hat; have HSX := Lib.hid hsx; have HLL := Lib.hid hll; have HT9 := Lib.hid htp; have HK89 := Lib.hid hkp; have HFr := Lib.hid hfr; have HOne := Lib.hid (show (#[.int .i64 ei, .int .i64 ep, .string en, .string eo, .string eu, .string ed, .string el, .int .i64 ek, .int .i64 em, ev] : Array Value).all (·.oneCell') = true from all_oneCell_toArray (De.dvC_one (a := ⟨ei, ep, en, eo, eu, ed, el, ek, em, l2⟩) hat.one)); clear hat hsx hll htp hkp hfr)
  | (refine De.wpList_store_new w9 34 _ #[.int .i64 ei, .int .i64 ep, .string en, .string eo, .string eu, .string ed, .string el, .int .i64 ek, .int .i64 em, ev] rfl _ _ rfl rfl rfl De.info34b rfl HOne.out ?_))
 clear t0
 obtain ⟨D12, hD12⟩ : ∃ B, w9.heap.size = B := ⟨_, rfl⟩
 have hqn := heap_alloc_last w9 (.cells #[.int .i64 ei, .int .i64 ep, .string en, .string eo, .string eu, .string ed, .string el, .int .i64 ek, .int .i64 em, ev] 34)
 have hka := (Kp.refl [] w9).alloc (.cells #[.int .i64 ei, .int .i64 ep, .string en, .string eo, .string eu, .string ed, .string el, .int .i64 ek, .int .i64 em, ev] 34)
 generalize w9.alloc (.cells #[.int .i64 ei, .int .i64 ep, .string en, .string eo, .string eu, .string ed, .string el, .int .i64 ek, .int .i64 em, ev] 34) = wA at *
 rw [hD12] at hqn ⊢
 have HD10 := Lib.hid hqn
 have HKnwA := Lib.hid hka
 have HSzD12 := Lib.hid hD12
 clear hqn hka hD12
 try dsimp only [Act.put]
 have HEv := Lib.hid (show l2 ≠ [] → ∀ b, ev.ownBlock = some b → b ≠ D12 ∧ b ≠ tb from fun hne b hb => by
  have h1 := HA2.out.lt hne b hb
  have h2 := HFr.out b hb
  have h3 := HSzD12.out
  have h4 := HTt.out
  omega)
 have HKA := Lib.hid (show Kp [tb] w9 wA from HKnwA.out.mono (by simp))
 have HTA := Lib.hid (HT9.out.kp HKnwA.out (by simp))
 have HK8A := Lib.hid (HK89.out.trans HKA.out)
 have HQA := Lib.hid ((HK8A.out.block Q (block_lt HQ8.out) (by have := HQt.out; simp; omega)).trans HQ8.out)
 have HTrA := Lib.hid (HTr8.out.kpT HK8A.out (by omega))
 have H22 := Lib.hid (rf22 HTrA.out (by omega) HTrA.out.any.has z)
 have t0 := cell_one HQA.out
 go_upto_region 10 with (first
  | (go_at_call 22; refine Calls.mono (by with_reducible exact H22.out) ?_; rintro e wB ⟨⟨xi, xp, xn, xo, xu, xd, xl, xk, xm, xa⟩, oa, om, oc, ob, rfl, HSO, HOi, HKB⟩; dsimp only [De.dvC] at *; have HOne2 := Lib.hid (show (#[.int .i64 xi, .int .i64 xp, .string xn, .string xo, .string xu, .string xd, .string xl, .int .i64 xk, .int .i64 xm, .slice oa om oc] : Array Value).all (·.oneCell') = true from dv_one ⟨xi, xp, xn, xo, xu, xd, xl, xk, xm, xa⟩ oa om oc))
  | (refine De.wpList_store_new wB 34 _ #[.int .i64 xi, .int .i64 xp, .string xn, .string xo, .string xu, .string xd, .string xl, .int .i64 xk, .int .i64 xm, .slice oa om oc] rfl _ _ rfl rfl rfl De.info34b rfl HOne2.out ?_))
 clear t0
 obtain ⟨O13, hO13⟩ : ∃ B, wB.heap.size = B := ⟨_, rfl⟩
 have hqn := heap_alloc_last wB (.cells #[.int .i64 xi, .int .i64 xp, .string xn, .string xo, .string xu, .string xd, .string xl, .int .i64 xk, .int .i64 xm, .slice oa om oc] 34)
 have hka := (Kp.refl [] wB).alloc (.cells #[.int .i64 xi, .int .i64 xp, .string xn, .string xo, .string xu, .string xd, .string xl, .int .i64 xk, .int .i64 xm, .slice oa om oc] 34)
 generalize wB.alloc (.cells #[.int .i64 xi, .int .i64 xp, .string xn, .string xo, .string xu, .string xd, .string xl, .int .i64 xk, .int .i64 xm, .slice oa om oc] 34) = wC at *
 rw [hO13] at hqn ⊢
 have HO13 := Lib.hid hqn
 have HKnwC := Lib.hid hka
 have HSzO13 := Lib.hid hO13
 clear hqn hka hO13
 try dsimp only [Act.put]
 have HKAC := Lib.hid (HKB.out.trans HKnwC.out)
 have HBD := Lib.hid (show De.BoxAt wC D12 #[.int .i64 ei, .int .i64 ep, .string en, .string eo, .string eu, .string ed, .string el, .int .i64 ek, .int .i64 em, ev] from (HKAC.out.block D12 (block_lt HD10.out) (by simp)).trans HD10.out)
 have HBO := Lib.hid (show De.BoxAt wC O13 #[.int .i64 xi, .int .i64 xp, .string xn, .string xo, .string xu, .string xd, .string xl, .int .i64 xk, .int .i64 xm, .slice oa om oc] from HO13.out)
 have HOl := Lib.hid (show D12 < O13 from by have h1 := block_lt HD10.out; have h2 := HKB.out.size; have h3 := HSzO13.out; omega)
 have HOD := Lib.hid (show O13 ≠ D12 from by have := HOl.out; omega)
 have HTC := Lib.hid (HTA.out.kp HKAC.out (by simp))
 have HKC := Lib.hid (show Kp [tb] w9 wC from HKA.out.trans (HKAC.out.mono (by simp)))
 have HHC := Lib.hid (show De.Has wC ev l2 from (HA2.out.below HKnwA.out.bel).below HKAC.out.bel)
 have HDt := Lib.hid (show tb < D12 ∧ w9.heap.size ≤ D12 from by have h1 := HT9.out.lt; have h2 := HSzD12.out; omega)
 clear HKnwA HKA HTA HQA HTrA H22 HKnwC HKAC HD10 HO13 HKB HSzD12 HSzO13 HOne HOne2 HT9 HA2 HT8
 have HC2 := Lib.hid (show k9 ≤ 1000 from by omega)
 go_upto_if 55 with fail
 go_cut [] (fun wx => Hid (DvAt D12 ev l2 tb w9 wx))
 case first =>
  cases ob with
  | false =>
   go_wp2
   go_meet
   exact Lib.hid ⟨⟨ei, ep, en, eo, eu, ed, el, ek, em, ev⟩, rfl, HBD.out, HSX.out, HWi.out, HHC.out, HKC.out⟩
  | true =>
   have dc := HBD.out.cell
   have df := HBD.out.frozen
   have oc0 := HBO.out.cell
   go_upto_region 12 with fail
   have HB1 := Lib.hid (show De.BoxAt (wC.setCell ⟨D12, 0, none⟩ (.int .i64 xi)) D12 #[.int .i64 xi, .int .i64 ep, .string en, .string eo, .string eu, .string ed, .string el, .int .i64 ek, .int .i64 em, ev] from HBD.out.set 0 _)
   have hkD : Kp [D12] wC (wC.setCell ⟨D12, 0, none⟩ (.int .i64 xi)) := (Kp.refl _ _).setCell (p := ⟨D12, 0, none⟩) (.inl (by simp)) _
   generalize wC.setCell ⟨D12, 0, none⟩ (.int .i64 xi) = wD at *
   clear dc df oc0
   have HKD := Lib.hid hkD
   have HTD := Lib.hid (HTC.out.kp hkD (by have := HDt.out.1; simp; omega))
   have HBO1 := Lib.hid (show De.BoxAt wD O13 #[.int .i64 xi, .int .i64 xp, .string xn, .string xo, .string xu, .string xd, .string xl, .int .i64 xk, .int .i64 xm, .slice oa om oc] from (hkD.block O13 (block_lt HBO.out) (by have := HOD.out; simpa using this)).trans HBO.out)
   have HKD9 := Lib.hid (HKC.out.up hkD (by intro z hz; simp at hz; subst hz; exact .inr HDt.out.2))
   have HHD := Lib.hid (hasSet HHC.out hkD (fun hne b e => by have := (HEv.out hne b e).1; simpa using this))
   clear hkD
   have HN6 := Lib.hid (show Calls Tryz.prog 14 #[.pointer (some ⟨tb, 0, none⟩), .int .i64 6] wD fun e w' => ∃ r : Nat, r < 6 ∧ e = .returned (.int .i64 r) ∧ Tp w' tb (k9 + 1) ∧ Kp [tb] wD w' from next_kp 6 (by omega) (by omega) (by have := HC2.out; omega) HTD.out)
   go_upto_if 61 with (go_at_call 14; refine Calls.mono (by with_reducible exact HN6.out) ?_; rintro e wE ⟨r, hr, rfl, hTE, hkE⟩; have HTE := Lib.hid hTE; have HKE := Lib.hid hkE; clear hTE hkE)
   have HB2 := Lib.hid (show De.BoxAt wE D12 #[.int .i64 xi, .int .i64 ep, .string en, .string eo, .string eu, .string ed, .string el, .int .i64 ek, .int .i64 em, ev] from (HKE.out.block D12 (block_lt HB1.out) (by have := HDt.out.1; simp; omega)).trans HB1.out)
   have HBO2 := Lib.hid (show De.BoxAt wE O13 #[.int .i64 xi, .int .i64 xp, .string xn, .string xo, .string xu, .string xd, .string xl, .int .i64 xk, .int .i64 xm, .slice oa om oc] from (HKE.out.block O13 (block_lt HBO1.out) (by have := HOl.out; have := HDt.out.1; simp; omega)).trans HBO1.out)
   have HKE9 := Lib.hid (HKD9.out.trans HKE.out)
   have HHE := Lib.hid (hasSet HHD.out HKE.out (fun hne b e => by have := (HEv.out hne b e).2; simpa using this))
   go_cut [] (fun wx => Hid (DvAt D12 ev l2 tb w9 wx))
   case first =>
    by_cases hr0 : r = 0
    ·subst hr0
     go_wp2
     go_meet
     exact Lib.hid ⟨⟨xi, ep, en, eo, eu, ed, el, ek, em, ev⟩, rfl, HB2.out, ⟨HSX.out.n, HSX.out.o, HSX.out.s, HSX.out.r, HSX.out.i, HSX.out.a⟩, HOi.out, HHE.out, HKE9.out⟩
    ·have hrz : (0 : Int) < (r : Int) := by omega
     go_upto_region 13 with fail
     refine wp_region_held_drew (S := fun W => Kp [D12] wE W) (by kernel_rfl) ((Kp.refl [D12] wE).drew 1) (fun hHeld => ?_)
     have HB3 := Lib.hid (show De.BoxAt wE.drew D12 #[.int .i64 xi, .int .i64 ep, .string en, .string eo, .string eu, .string ed, .string el, .int .i64 ek, .int .i64 em, ev] from HB2.out)
     generalize hwd : wE.drew = wd at *
     clear hwd
     refine wpAnyH_take (i := 0) (oi := { dst := some 62, op := Op.fieldAddr 34 (Operand.tmp 13) 1, type := 0, pos := "law.go:144", after := #[], guard := none }) (v := .pointer (some ⟨O13, 1, none⟩)) rfl (by kernel_rfl) (by kernel_rfl) (by kernel_rfl) (fun _ _ _ h => h) (Or.inl ⟨by rfl, fun w hSw => by (try dsimp only at hSw); go_simp⟩) hHeld ?_
     try simp only [Act.put, List.setIfInBounds_toArray, List.set_cons_zero, List.set_cons_succ]
     refine wpAnyH_take (i := 1) (oi := { dst := some 63, op := Op.load 3 (Operand.tmp 62), type := 3, pos := "law.go:144", after := #[{ on := 0, ground := Ground.data }], guard := none }) (v := .int .i64 xp) rfl (by kernel_rfl) (by kernel_rfl) (by kernel_rfl) (fun _ _ _ h => h) (Or.inl ⟨by rfl, fun w hSw => by (try dsimp only at hSw); have oc0 := (show De.BoxAt w O13 #[.int .i64 xi, .int .i64 xp, .string xn, .string xo, .string xu, .string xd, .string xl, .int .i64 xk, .int .i64 xm, .slice oa om oc] from (hSw.block O13 (block_lt HBO2.out) (by have := HOD.out; simpa using this)).trans HBO2.out).cell; go_simp⟩) hHeld ?_
     try simp only [Act.put, List.setIfInBounds_toArray, List.set_cons_zero, List.set_cons_succ]
     refine wpAnyH_take (i := 2) (oi := { dst := some 64, op := Op.fieldAddr 34 (Operand.tmp 13) 3, type := 0, pos := "law.go:144", after := #[{ on := 7, ground := Ground.gcOnly Departure.lateStores }], guard := none }) (v := .pointer (some ⟨O13, 3, none⟩)) rfl (by kernel_rfl) (by kernel_rfl) (by kernel_rfl) (fun _ _ _ h => h) (Or.inl ⟨by rfl, fun w hSw => by (try dsimp only at hSw); go_simp⟩) hHeld ?_
     try simp only [Act.put, List.setIfInBounds_toArray, List.set_cons_zero, List.set_cons_succ]
     refine wpAnyH_take (i := 3) (oi := { dst := some 65, op := Op.load 9 (Operand.tmp 64), type := 9, pos := "law.go:144", after := #[{ on := 2, ground := Ground.data }, { on := 7, ground := Ground.gcOnly Departure.lateStores }], guard := none }) (v := .string xo) rfl (by kernel_rfl) (by kernel_rfl) (by kernel_rfl) (fun _ _ _ h => h) (Or.inl ⟨by rfl, fun w hSw => by (try dsimp only at hSw); have oc0 := (show De.BoxAt w O13 #[.int .i64 xi, .int .i64 xp, .string xn, .string xo, .string xu, .string xd, .string xl, .int .i64 xk, .int .i64 xm, .slice oa om oc] from (hSw.block O13 (block_lt HBO2.out) (by have := HOD.out; simpa using this)).trans HBO2.out).cell; go_simp⟩) hHeld ?_
     try simp only [Act.put, List.setIfInBounds_toArray, List.set_cons_zero, List.set_cons_succ]
     refine wpAnyH_take (i := 4) (oi := { dst := some 66, op := Op.fieldAddr 34 (Operand.tmp 13) 7, type := 0, pos := "law.go:144", after := #[{ on := 9, ground := Ground.gcOnly Departure.lateStores }], guard := none }) (v := .pointer (some ⟨O13, 7, none⟩)) rfl (by kernel_rfl) (by kernel_rfl) (by kernel_rfl) (fun _ _ _ h => h) (Or.inl ⟨by rfl, fun w hSw => by (try dsimp only at hSw); go_simp⟩) hHeld ?_
     try simp only [Act.put, List.setIfInBounds_toArray, List.set_cons_zero, List.set_cons_succ]
     refine wpAnyH_take (i := 5) (oi := { dst := some 67, op := Op.load 3 (Operand.tmp 66), type := 3, pos := "law.go:144", after := #[{ on := 4, ground := Ground.data }, { on := 9, ground := Ground.gcOnly Departure.lateStores }], guard := none }) (v := .int .i64 xk) rfl (by kernel_rfl) (by kernel_rfl) (by kernel_rfl) (fun _ _ _ h => h) (Or.inl ⟨by rfl, fun w hSw => by (try dsimp only at hSw); have oc0 := (show De.BoxAt w O13 #[.int .i64 xi, .int .i64 xp, .string xn, .string xo, .string xu, .string xd, .string xl, .int .i64 xk, .int .i64 xm, .slice oa om oc] from (hSw.block O13 (block_lt HBO2.out) (by have := HOD.out; simpa using this)).trans HBO2.out).cell; go_simp⟩) hHeld ?_
     try simp only [Act.put, List.setIfInBounds_toArray, List.set_cons_zero, List.set_cons_succ]
     refine wpAnyH_take (i := 6) (oi := { dst := some 68, op := Op.fieldAddr 34 (Operand.tmp 12) 1, type := 0, pos := "law.go:144", after := #[{ on := 0, ground := Ground.phase }, { on := 1, ground := Ground.phase }, { on := 2, ground := Ground.textOnly Departure.lateStores }, { on := 3, ground := Ground.textOnly Departure.lateStores }, { on := 4, ground := Ground.textOnly Departure.lateStores }, { on := 5, ground := Ground.textOnly Departure.lateStores }], guard := none }) (v := .pointer (some ⟨D12, 1, none⟩)) rfl (by kernel_rfl) (by kernel_rfl) (by kernel_rfl) (fun _ _ _ h => h) (Or.inl ⟨by rfl, fun w hSw => by (try dsimp only at hSw); go_simp⟩) hHeld ?_
     try simp only [Act.put, List.setIfInBounds_toArray, List.set_cons_zero, List.set_cons_succ]
     refine wpAnyH_ready (rs := [7]) (by kernel_rfl) (by simp) ?_
     refine AllReadyH.cons (o := { dst := none, op := Op.store 3 (Operand.tmp 68) (Operand.tmp 63), type := 0, pos := "law.go:144", after := #[{ on := 6, ground := Ground.data }, { on := 1, ground := Ground.data }, { on := 0, ground := Ground.phase }, { on := 1, ground := Ground.phase }, { on := 2, ground := Ground.textOnly Departure.lateStores }, { on := 3, ground := Ground.textOnly Departure.lateStores }, { on := 4, ground := Ground.textOnly Departure.lateStores }, { on := 5, ground := Ground.textOnly Departure.lateStores }], guard := none }) rfl (fun K hK => ?_) AllReadyH.nil
     have dc := HB3.out.cell
     have df := HB3.out.frozen
     go_simp
     have HB4 := Lib.hid (show De.BoxAt (wd.setCell ⟨D12, 1, none⟩ (.int .i64 xp)) D12 #[.int .i64 xi, .int .i64 xp, .string en, .string eo, .string eu, .string ed, .string el, .int .i64 ek, .int .i64 em, ev] from HB3.out.set 1 _)
     have hkR : Kp [D12] wd (wd.setCell ⟨D12, 1, none⟩ (.int .i64 xp)) := (Kp.refl _ _).setCell (p := ⟨D12, 1, none⟩) (.inl (by simp)) _
     generalize wd.setCell ⟨D12, 1, none⟩ (.int .i64 xp) = wf at *
     have hS := hHeld.trans hkR
     clear hkR dc df
     clear hHeld
     refine hK.out _ _ hS (fun hHeld => ?_)
     try simp only [Act.put, List.setIfInBounds_toArray, List.set_cons_zero, List.set_cons_succ]
     clear hK
     clear hS
     refine wpAnyH_take (i := 8) (oi := { dst := some 69, op := Op.fieldAddr 34 (Operand.tmp 12) 3, type := 0, pos := "law.go:144", after := #[{ on := 0, ground := Ground.phase }, { on := 1, ground := Ground.phase }, { on := 2, ground := Ground.phase }, { on := 3, ground := Ground.phase }, { on := 4, ground := Ground.textOnly Departure.lateStores }, { on := 5, ground := Ground.textOnly Departure.lateStores }, { on := 6, ground := Ground.phase }, { on := 7, ground := Ground.phase }], guard := none }) (v := .pointer (some ⟨D12, 3, none⟩)) rfl (by kernel_rfl) (by kernel_rfl) (by kernel_rfl) (fun _ _ _ h => h) (Or.inl ⟨by rfl, fun w hSw => by (try dsimp only at hSw); go_simp⟩) hHeld ?_
     try simp only [Act.put, List.setIfInBounds_toArray, List.set_cons_zero, List.set_cons_succ]
     refine wpAnyH_ready (rs := [9]) (by kernel_rfl) (by simp) ?_
     refine AllReadyH.cons (o := { dst := none, op := Op.store 9 (Operand.tmp 69) (Operand.tmp 65), type := 0, pos := "law.go:144", after := #[{ on := 8, ground := Ground.data }, { on := 3, ground := Ground.data }, { on := 7, ground := Ground.chain }, { on := 0, ground := Ground.phase }, { on := 1, ground := Ground.phase }, { on := 2, ground := Ground.phase }, { on := 3, ground := Ground.phase }, { on := 4, ground := Ground.textOnly Departure.lateStores }, { on := 5, ground := Ground.textOnly Departure.lateStores }, { on := 6, ground := Ground.phase }, { on := 7, ground := Ground.phase }], guard := none }) rfl (fun K hK => ?_) AllReadyH.nil
     have dc := HB4.out.cell
     have df := HB4.out.frozen
     go_simp
     have HB5 := Lib.hid (show De.BoxAt (wf.setCell ⟨D12, 3, none⟩ (.string xo)) D12 #[.int .i64 xi, .int .i64 xp, .string en, .string xo, .string eu, .string ed, .string el, .int .i64 ek, .int .i64 em, ev] from HB4.out.set 3 _)
     have hkR : Kp [D12] wf (wf.setCell ⟨D12, 3, none⟩ (.string xo)) := (Kp.refl _ _).setCell (p := ⟨D12, 3, none⟩) (.inl (by simp)) _
     generalize wf.setCell ⟨D12, 3, none⟩ (.string xo) = wg at *
     have hS := hHeld.trans hkR
     clear hkR dc df
     clear hHeld
     refine hK.out _ _ hS (fun hHeld => ?_)
     try simp only [Act.put, List.setIfInBounds_toArray, List.set_cons_zero, List.set_cons_succ]
     clear hK
     clear hS
     refine wpAnyH_take (i := 10) (oi := { dst := some 70, op := Op.fieldAddr 34 (Operand.tmp 12) 7, type := 0, pos := "law.go:144", after := #[{ on := 0, ground := Ground.phase }, { on := 1, ground := Ground.phase }, { on := 2, ground := Ground.phase }, { on := 3, ground := Ground.phase }, { on := 4, ground := Ground.phase }, { on := 5, ground := Ground.phase }, { on := 6, ground := Ground.phase }, { on := 7, ground := Ground.phase }, { on := 8, ground := Ground.phase }, { on := 9, ground := Ground.phase }], guard := none }) (v := .pointer (some ⟨D12, 7, none⟩)) rfl (by kernel_rfl) (by kernel_rfl) (by kernel_rfl) (fun _ _ _ h => h) (Or.inl ⟨by rfl, fun w hSw => by (try dsimp only at hSw); go_simp⟩) hHeld ?_
     try simp only [Act.put, List.setIfInBounds_toArray, List.set_cons_zero, List.set_cons_succ]
     refine wpAnyH_ready (rs := [11]) (by kernel_rfl) (by simp) ?_
     refine AllReadyH.cons (o := { dst := none, op := Op.store 3 (Operand.tmp 70) (Operand.tmp 67), type := 0, pos := "law.go:144", after := #[{ on := 10, ground := Ground.data }, { on := 5, ground := Ground.data }, { on := 9, ground := Ground.chain }, { on := 0, ground := Ground.phase }, { on := 1, ground := Ground.phase }, { on := 2, ground := Ground.phase }, { on := 3, ground := Ground.phase }, { on := 4, ground := Ground.phase }, { on := 5, ground := Ground.phase }, { on := 6, ground := Ground.phase }, { on := 7, ground := Ground.phase }, { on := 8, ground := Ground.phase }, { on := 9, ground := Ground.phase }], guard := none }) rfl (fun K hK => ?_) AllReadyH.nil
     have dc := HB5.out.cell
     have df := HB5.out.frozen
     go_simp
     have HB6 := Lib.hid (show De.BoxAt (wg.setCell ⟨D12, 7, none⟩ (.int .i64 xk)) D12 #[.int .i64 xi, .int .i64 xp, .string en, .string xo, .string eu, .string ed, .string el, .int .i64 xk, .int .i64 em, ev] from HB5.out.set 7 _)
     have hkR : Kp [D12] wg (wg.setCell ⟨D12, 7, none⟩ (.int .i64 xk)) := (Kp.refl _ _).setCell (p := ⟨D12, 7, none⟩) (.inl (by simp)) _
     generalize wg.setCell ⟨D12, 7, none⟩ (.int .i64 xk) = wh at *
     have hS := hHeld.trans hkR
     clear hkR dc df
     clear hHeld
     refine hK.out _ _ hS (fun hHeld => ?_)
     try simp only [Act.put, List.setIfInBounds_toArray, List.set_cons_zero, List.set_cons_succ]
     clear hK
     clear hS
     have HKh := Lib.hid hHeld
     refine wpAnyH_done (by kernel_rfl) ?_ _
     clear hHeld
     have HBOh := Lib.hid (show De.BoxAt wh O13 #[.int .i64 xi, .int .i64 xp, .string xn, .string xo, .string xu, .string xd, .string xl, .int .i64 xk, .int .i64 xm, .slice oa om oc] from (HKh.out.block O13 (block_lt HBO2.out) (by have := HOD.out; simpa using this)).trans HBO2.out)
     have dc := HB6.out.cell
     have df := HB6.out.frozen
     have oc0 := HBOh.out.cell
     go_upto_region 15 with fail
     have HB7 := Lib.hid (show De.BoxAt (wh.setCell ⟨D12, 2, none⟩ (.string xn)) D12 #[.int .i64 xi, .int .i64 xp, .string xn, .string xo, .string eu, .string ed, .string el, .int .i64 xk, .int .i64 em, ev] from HB6.out.set 2 _)
     have hkD : Kp [D12] wh (wh.setCell ⟨D12, 2, none⟩ (.string xn)) := (Kp.refl _ _).setCell (p := ⟨D12, 2, none⟩) (.inl (by simp)) _
     generalize wh.setCell ⟨D12, 2, none⟩ (.string xn) = wj at *
     clear dc df oc0
     have HKj := Lib.hid (HKh.out.trans hkD)
     clear hkD
     have HTj := Lib.hid (HTE.out.kp HKj.out (by have := HDt.out.1; simp; omega))
     have HHj := Lib.hid (hasSet HHE.out HKj.out (fun hne b e => by have := (HEv.out hne b e).1; simpa using this))
     have HKj9 := Lib.hid (HKE9.out.up HKj.out (by intro z hz; simp at hz; subst hz; exact .inr HDt.out.2))
     have dc := HB7.out.cell
     go_upto_if 76 with fail
     go_cut [] (fun wx => ∃ nm : ByteArray, Hid (nm.size ≤ 300) ∧ Hid (De.BoxAt wx D12 #[.int .i64 xi, .int .i64 xp, .string nm, .string xo, .string eu, .string ed, .string el, .int .i64 xk, .int .i64 em, ev]) ∧ Hid (De.Has wx ev l2) ∧ Hid (Kp [tb] w9 wx))
     case first =>
      by_cases hk4 : xk = 4
      ·subst hk4
       go_wp2_with (go_at_call 20; refine Calls.mono (oneW [[101, 116, 104, 48], [101, 116, 104, 49], [108, 97, 110, 48], [116, 97, 112]] 4 rfl (by decide) (by decide) (by decide) (by have := HC2.out; omega) HTj.out _ rfl rfl) ?_; rintro e wk ⟨y, hy, rfl, hT, hk⟩; have HKk := Lib.hid hk; have Hy := Lib.hid hy; have HB9 := Lib.hid (show De.BoxAt wk D12 #[.int .i64 xi, .int .i64 xp, .string xn, .string xo, .string eu, .string ed, .string el, .int .i64 4, .int .i64 em, ev] from (HKk.out.block D12 (block_lt HB7.out) (by have := HDt.out.1; simp; omega)).trans HB7.out); have dc9 := HB9.out.cell; have df9 := HB9.out.frozen; clear hT hk hy)
       have HBx := Lib.hid (show De.BoxAt (wk.setCell ⟨D12, 2, none⟩ (.string (bs y))) D12 #[.int .i64 xi, .int .i64 xp, .string (bs y), .string xo, .string eu, .string ed, .string el, .int .i64 4, .int .i64 em, ev] from HB9.out.set 2 _)
       have hkR : Kp [D12] wk (wk.setCell ⟨D12, 2, none⟩ (.string (bs y))) := (Kp.refl _ _).setCell (p := ⟨D12, 2, none⟩) (.inl (by simp)) _
       generalize wk.setCell ⟨D12, 2, none⟩ (.string (bs y)) = wX at *
       have HHx := Lib.hid (hasSet (hasSet HHj.out HKk.out (fun hne b e => by have := (HEv.out hne b e).2; simpa using this)) hkR (fun hne b e => by have := (HEv.out hne b e).1; simpa using this))
       have HKx := Lib.hid ((HKj9.out.trans HKk.out).up hkR (by intro z hz; simp at hz; subst hz; exact .inr HDt.out.2))
       clear dc9 df9 hkR
       go_meet
       exact ⟨bs y, Lib.hid (show y.length ≤ 300 from Hy.out), HBx, HHx, HKx⟩
      ·have hkz : (xk == 4) = false := by simpa using hk4
       go_wp2
       go_meet
       exact ⟨xn, Lib.hid HSO.out.1.n, HB7, HHj, HKj9⟩
     obtain ⟨nm, HNm, HBx, HHx, HKx⟩ := hcut
     obtain ⟨wk, hwk⟩ : ∃ W, W = wc := ⟨_, rfl⟩
     subst hwk
     clear dc
     have dc := HBx.out.cell
     have df := HBx.out.frozen
     have HSm2 := Lib.hid (fun (k m : Int) => (show SmX ⟨xi, xp, nm, xo, eu, ed, el, k, m, ev⟩ l2 from ⟨HNm.out, HSO.out.1.o, HSX.out.s, HSX.out.r, HSX.out.i, HSX.out.a⟩))
     have HSc := Lib.hid (show De.BoxAt (wk.setCell ⟨D12, 8, none⟩ (.int .i64 0)) D12 #[.int .i64 xi, .int .i64 xp, .string nm, .string xo, .string eu, .string ed, .string el, .int .i64 xk, .int .i64 0, ev] from HBx.out.set 8 _)
     have hkZ : Kp [D12] wk (wk.setCell ⟨D12, 8, none⟩ (.int .i64 0)) := (Kp.refl _ _).setCell (p := ⟨D12, 8, none⟩) (.inl (by simp)) _
     have HPut := Lib.hid (DvAt.put (d' := ⟨xi, xp, nm, xo, eu, ed, el, xk, 0, ev⟩) HKx.out HDt.out.2 HHx.out HEv.out hkZ HSc.out rfl (HSm2.out xk 0) HOi.out)
     clear hkZ
     by_cases hk1 : xk = 1
     ·have hk1b : (xk == 1) = true := by simpa using hk1
      clear hk1
      go_wp2
      go_meet
      exact HPut
     ·have hk1b : (xk == 1) = false := by simpa using hk1
      by_cases hk4 : xk = 4
      ·have hk4b : (xk == 4) = true := by simpa using hk4
       clear hk1 hk4
       go_wp2
       go_meet
       exact HPut
      ·have hk4b : (xk == 4) = false := by simpa using hk4
       clear hk1 hk4
       go_wp2
       go_meet
       exact Lib.hid ⟨⟨xi, xp, nm, xo, eu, ed, el, xk, em, ev⟩, rfl, HBx.out, HSm2.out xk em, HOi.out, HHx.out, HKx.out⟩
   have HDv := hcut
   go_wp2
   go_meet
   exact HDv
 obtain ⟨⟨fi, fp, fn, fo, fu, fd, fl, fk, fm, fv⟩, hav, hbx, hsm, hwf, hhas, hkp⟩ := hcut.out
 dsimp only [De.devC] at hav hbx hsm hwf
 subst hav
 obtain ⟨wF, hwF⟩ : ∃ W, W = wc := ⟨_, rfl⟩
 subst hwF
 have HBF := Lib.hid hbx
 have HSF := Lib.hid hsm
 have HWF := Lib.hid hwf
 have HHF := Lib.hid hhas
 have HKF := Lib.hid hkp
 clear hbx hsm hwf hhas hkp hcut HBD HBO HOD HOl HTC HKC HHC HSX HWi HWp HSO HOi HC2 HDt HEv HFr
 have HK2F := Lib.hid (HK28.out.trans (HK89.out.trans HKF.out))
 have HPF := Lib.hid (show wF.heap[P0]? = some (.cells #[.int .i64 di, .int .i64 dp, .string dn, .string do_, .string du, .string dd, .string dl, .int .i64 dk, .int .i64 dm, dv] 34 (0, 0)) from ((HK2.out.trans HK2F.out).block P0 HP0t.out.2 (by have := HP0t.out.1; simpa using this)).trans HPz.out)
 go_upto_region 20 with (first
  | (refine wpList_load_row rfl 34 _ rfl P0 rfl 34 #[.int .i64 di, .int .i64 dp, .string dn, .string do_, .string du, .string dd, .string dl, .int .i64 dk, .int .i64 dm, dv] (0, 0) _ HPF.out Tryz.underlying34 rfl De.info34b ?_)
  | (refine wpList_load_row rfl 34 _ rfl D12 rfl 34 #[.int .i64 fi, .int .i64 fp, .string fn, .string fo, .string fu, .string fd, .string fl, .int .i64 fk, .int .i64 fm, fv] (0, 0) _ HBF.out Tryz.underlying34 rfl De.info34b ?_))
 have hka := (Kp.refl [] wF).alloc (.cells (TwoB X1 ⟨fi, fp, fn, fo, fu, fd, fl, fk, fm, l2⟩ dv fv) 34)
 have hr4 : TwoAt (wF.alloc (.cells (TwoB X1 ⟨fi, fp, fn, fo, fu, fd, fl, fk, fm, l2⟩ dv fv) 34)) wF.heap.size X1 ⟨fi, fp, fn, fo, fu, fd, fl, fk, fm, l2⟩ dv fv := heap_alloc_last wF _
 obtain ⟨wL, hwL⟩ : ∃ W, wF.alloc (.cells (TwoB X1 ⟨fi, fp, fn, fo, fu, fd, fl, fk, fm, l2⟩ dv fv) 34) = W := ⟨_, rfl⟩
 rw [hwL] at hka hr4
 simp only [TwoB, ← HX1.out] at hwL
 simp only [hwL]
 obtain ⟨R, hR⟩ : ∃ R, wF.heap.size = R := ⟨_, rfl⟩
 rw [hR] at hr4 ⊢
 obtain ⟨X2, hX2⟩ : ∃ X : De.ADev, (⟨fi, fp, fn, fo, fu, fd, fl, fk, fm, l2⟩ : De.ADev) = X := ⟨_, rfl⟩
 have HG2 := Lib.hid (show De.Sized (De.devOf X2 fv) X2.ats ∧ X2.ats.length ≤ 9223372036854775807 ∧ (Lit.int .i64 X2.idx).wf = true from by
  rw [← hX2]
  exact ⟨sized_sml HSF.out, by have := HLL.out; show l2.length ≤ _; omega, HWF.out⟩)
 have HH2 := Lib.hid (show De.Has wL fv X2.ats from by rw [← hX2]; exact HHF.out.below hka.bel)
 rw [hX2] at hr4
 have HKFL := Lib.hid hka
 have HK2L := Lib.hid (HK2F.out.trans (hka.mono (by simp)))
 have HTrL := Lib.hid (HTr3.out _ HK2L.out)
 have HKwL := Lib.hid (show Below w.heap.size w wL from ((HKz.out.mono (by simp)).trans (HK2.out.trans HK2L.out)).below (Nat.le_refl _) (by intro x hx; simp at hx; have := Htb.out; have := HKz.out.size; omega))
 have HK8L := Lib.hid ((HK89.out.trans HKF.out).trans (hka.mono (by simp)))
 have HH1 := Lib.hid (HG1.out.1.below HKwL.out)
 have HCS := Lib.hid (show ChS L (.slice va N vc) [(X1, dv), (X2, fv)] (.slice (some ⟨R, 0, none⟩) 2 2) A8 B10 Q wL from
  ⟨HTrL.out.any.has, hr4.has HH1.out HH2.out, HMk.out _ HK2L.out, ⟨_, _, _, (HK8L.out.block A8 (block_lt HA8.out) (by have := HAt.out.1; simp; omega)).trans HA8.out⟩, ⟨_, _, _, (HK8L.out.block B10 (block_lt HB8.out) (by have := HAt.out.1; have := HAB.out; simp; omega)).trans HB8.out⟩, (HK2L.out.block Q (block_lt HQ2.out) (by have := HQt.out; simp; omega)).trans HQ2.out⟩)
 have HQA := Lib.hid (show Q ≠ A8 ∧ Q ≠ B10 ∧ A8 ≠ B10 ∧ 0 ≠ A8 ∧ 0 ≠ B10 from by
  have h1 := HAt.out
  have h2 := HAB.out
  have h3 := HAtQ.out
  omega)
 have HFin := Lib.hid (fun (w' : World) (hk : Kp [A8, B10] wL w') => (show Below w.heap.size w w' from HKwL.out.trans (hk.below HKwL.out.size (by intro x hx; simp at hx; have := Htb.out; have := HKz.out.size; have := HAt.out.1; have := HAB.out; omega))))
 have HLM := Lib.hid (fun (x : De.DV) => chg_small HTrL.out (by omega) (De.devOf x.1 x.2) x.1.ats)
 clear hka hr4 hwL hR hX2 HPF HBF HSF HWF HHF HKF HK2F HA8 HB8 HK8L HK89 HKFL HH1 HH2 HTr8 HM8 HQ8
 go_wp2
 go_loopw [16] (fun s16 wx => ∃ i : Nat, i ≤ 2 ∧ s16 = .int .i64 (i : Int) ∧ Hid (ChS L (.slice va N vc) [(X1, dv), (X2, fv)] (.slice (some ⟨R, 0, none⟩) 2 2) A8 B10 Q wx) ∧ Hid (Kp [A8, B10] wL wx)) (fun s16 _ => 2 - (intOf s16).toNat)
 case atStart => exact ⟨0, by omega, rfl, HCS, Lib.hid (Kp.refl _ _)⟩
 case round =>
  obtain ⟨i, hi, rfl, HS, HKr⟩ := hrel
  by_cases hlt : i < 2
  ·have hiz : (i : Int) < 2 := by omega
   have hwr : IntKind.i64.wrap ((i : Int) + 1) = ((i + 1 : Nat) : Int) := by rw [IntKind.wrap_i64]; omega
   obtain ⟨x, hx⟩ : ∃ x, [(X1, dv), (X2, fv)][i]? = some x := ⟨[(X1, dv), (X2, fv)][i]'hlt, List.getElem?_eq_getElem _⟩
   have HX := Lib.hid hx
   have HG := Lib.hid (show De.Sized (De.devOf x.1 x.2) x.1.ats ∧ x.1.ats.length ≤ 9223372036854775807 ∧ (Lit.int .i64 x.1.idx).wf = true from by
    rcases List.mem_cons.1 (List.mem_of_getElem? hx) with rfl | h
    ·exact ⟨HG1.out.2.1, HG1.out.2.2.1, HG1.out.2.2.2.1⟩
    ·rw [List.mem_singleton.1 h]
     exact HG2.out)
   have HRx := Lib.hid (fun W (hS : ChS L (.slice va N vc) [(X1, dv), (X2, fv)] (.slice (some ⟨R, 0, none⟩) 2 2) A8 B10 Q W) => (show W.rangeAt R (i * 10) (De.dvC x.1 x.2) from by
    obtain ⟨g, o, e, -, -, h2⟩ := row_of hS.l HX.out
    injection e with e
    injection e with e1 e2
    subst e1
    subst e2
    have h3 := h2.at_ i x HX.out
    rwa [Nat.zero_add] at h3))
   obtain ⟨E, hE⟩ : ∃ E, chgT (L.map (·.1)) x.1 = E := ⟨_, rfl⟩
   obtain ⟨A, hA⟩ : ∃ A, chgR (L.map (·.1)) x.1 = A := ⟨_, rfl⟩
   have HAs := Lib.hid (show A.length ≤ 1000000 ∧ ∀ a ∈ A, a.ats.length ≤ 1000000 from by rw [← hA]; exact HLM.out x)
   have H45 := Lib.hid (fun W (hS : ChS L (.slice va N vc) [(X1, dv), (X2, fv)] (.slice (some ⟨R, 0, none⟩) 2 2) A8 B10 Q W) => (show Calls Tryz.prog 45 #[.agg #[.slice va N vc], .agg (De.dvC x.1 x.2).toArray] W (ChgPost E A W) from by
    rw [← hE, ← hA]
    exact ch45 HTrL.out (by omega) hS.t (De.devOf x.1 x.2) x.1.ats (dhas_ats hS.l x (List.mem_of_getElem? HX.out)) HG.out.1 HG.out.2.1 hS.m HG.out.2.2))
   have H46 := Lib.hid (fun W (hS : ChS L (.slice va N vc) [(X1, dv), (X2, fv)] (.slice (some ⟨R, 0, none⟩) 2 2) A8 B10 Q W) => (show Calls Tryz.prog 46 #[.agg #[.slice va N vc], .agg (De.dvC x.1 x.2).toArray] W (ChgPost E A W) from by
    rw [← hE, ← hA]
    exact ch46 HTrL.out (by omega) hS.t (De.devOf x.1 x.2) x.1.ats (dhas_ats hS.l x (List.mem_of_getElem? HX.out)) HG.out.1 HG.out.2.1 hS.m))
   clear hx hE hA
   go_upto_region 23 with fail
   refine wp_region_held_drew (S := fun W => Kp [A8] wr W) (by kernel_rfl) ((Kp.refl [A8] wr).drew 1) (fun hHeld => ?_)
   have HSd := Lib.hid (HS.out.kp (show Kp [] wr wr.drew from (Kp.refl [] wr).drew 1))
   generalize hwd : wr.drew = wd at *
   clear hwd
   refine wpAnyH_take (i := 0) (oi := { dst := some 100, op := Op.load 29 (Operand.tmp 6), type := 29, pos := "law.go:156", after := #[], guard := none }) (v := .agg #[.slice va N vc]) rfl (by kernel_rfl) (by kernel_rfl) (by kernel_rfl) (fun _ _ _ h => h) (Or.inl ⟨by rfl, fun w hSw => by (try dsimp only at hSw); have t0 := cell_one ((hSw.block Q (block_lt HS.out.q) (by have := HQA.out; simp; omega)).trans HS.out.q); go_simp⟩) hHeld ?_
   try simp only [Act.put, List.setIfInBounds_toArray, List.set_cons_zero, List.set_cons_succ]
   refine wpAnyH_take (i := 1) (oi := { dst := some 101, op := Op.move (Operand.tmp 15), type := 22, pos := "law.go:156", after := #[], guard := none }) (v := .slice (some ⟨R, 0, none⟩) 2 2) rfl (by kernel_rfl) (by kernel_rfl) (by kernel_rfl) (fun _ _ _ h => h) (Or.inl ⟨by rfl, fun w hSw => by (try dsimp only at hSw); go_simp⟩) hHeld ?_
   try simp only [Act.put, List.setIfInBounds_toArray, List.set_cons_zero, List.set_cons_succ]
   refine wpAnyH_take (i := 2) (oi := { dst := some 102, op := Op.move (Operand.tmp 16), type := 3, pos := "law.go:156", after := #[], guard := none }) (v := .int .i64 (i : Int)) rfl (by kernel_rfl) (by kernel_rfl) (by kernel_rfl) (fun _ _ _ h => h) (Or.inl ⟨by rfl, fun w hSw => by (try dsimp only at hSw); go_simp⟩) hHeld ?_
   try simp only [Act.put, List.setIfInBounds_toArray, List.set_cons_zero, List.set_cons_succ]
   refine wpAnyH_take (i := 3) (oi := { dst := some 103, op := Op.indexAddr 22 (Operand.tmp 101) (Operand.tmp 102), type := 0, pos := "law.go:156", after := #[{ on := 1, ground := Ground.data }, { on := 2, ground := Ground.data }], guard := none }) (v := .pointer (some ⟨R, i * 10, none⟩)) rfl (by kernel_rfl) (by kernel_rfl) (by kernel_rfl) (fun _ _ _ h => h) (Or.inl ⟨by rfl, fun w hSw => by (try dsimp only at hSw); go_simp⟩) hHeld ?_
   try simp only [Act.put, List.setIfInBounds_toArray, List.set_cons_zero, List.set_cons_succ]
   have HRw := Lib.hid (fun W (hk : Kp [A8] wr W) => (show W.rangeAt R (i * 10) (De.dvC x.1 x.2) from by
    have h1 := HRx.out _ HS.out
    obtain ⟨ba, bn, bc, hb⟩ := HS.out.a
    obtain ⟨g, o, e, -, -, h2⟩ := row_of (dhasR HS.out.l hk hb) HX.out
    injection e with e
    injection e with e1 e2
    subst e1
    subst e2
    have h3 := h2.at_ i x HX.out
    rwa [Nat.zero_add] at h3))
   refine wpAnyH_take (i := 4) (oi := { dst := some 104, op := Op.load 34 (Operand.tmp 103), type := 34, pos := "law.go:156", after := #[{ on := 3, ground := Ground.data }], guard := none }) (v := .agg (De.dvC x.1 x.2).toArray) rfl (by kernel_rfl) (by kernel_rfl) (by kernel_rfl) (fun _ _ _ h => h) (yieldsIf_load_mid (by rfl) 34 _ rfl R (i * 10) rfl (De.dvC x.1 x.2) _ (fun w hSw => HRw.out _ hSw) Tryz.underlying34 rfl De.info34b) hHeld ?_
   try simp only [Act.put, List.setIfInBounds_toArray, List.set_cons_zero, List.set_cons_succ]
   refine wpAnyH_ready (rs := [5]) (by kernel_rfl) (by simp) ?_
   refine AllReadyH.cons (o := { dst := some 105, op := Op.call { callee := Callee.value (Operand.func 45), args := #[Operand.tmp 100, Operand.tmp 104], argTypes := #[29, 34] }, type := 52, pos := "law.go:156", after := #[{ on := 0, ground := Ground.data }, { on := 4, ground := Ground.data }], guard := none }) rfl (fun K hK => ?_) AllReadyH.nil
   go_simp
   go_at_call 45
   refine Calls.mono (by with_reducible exact H45.out _ HSd.out) ?_
   rintro e V1 ⟨na1, nn1, nc1, LL1, rfl, HL1, HD1, HKv1⟩
   dsimp only
   have HSV := Lib.hid (HSd.out.kp HKv1.out)
   have hS := hHeld.trans (HKv1.out.mono (by simp))
   clear hHeld
   refine hK.out _ _ hS (fun hHeld => ?_)
   try simp only [Act.put, List.setIfInBounds_toArray, List.set_cons_zero, List.set_cons_succ]
   clear hK
   clear hS
   refine wpAnyH_take (i := 6) (oi := { dst := some 99, op := Op.move (Operand.tmp 105), type := 52, pos := "law.go:156", after := #[{ on := 5, ground := Ground.data }], guard := none }) (v := .tuple #[.agg #[.slice na1 nn1 nc1], .int .i64 E]) rfl (by kernel_rfl) (by kernel_rfl) (by kernel_rfl) (fun _ _ _ h => h) (Or.inl ⟨by rfl, fun w hSw => by (try dsimp only at hSw); go_simp⟩) hHeld ?_
   try simp only [Act.put, List.setIfInBounds_toArray, List.set_cons_zero, List.set_cons_succ]
   refine wpAnyH_take (i := 7) (oi := { dst := some 106, op := Op.extract (Operand.tmp 99) 0, type := 29, pos := "law.go:156", after := #[{ on := 6, ground := Ground.data }], guard := none }) (v := .agg #[.slice na1 nn1 nc1]) rfl (by kernel_rfl) (by kernel_rfl) (by kernel_rfl) (fun _ _ _ h => h) (Or.inl ⟨by rfl, fun w hSw => by (try dsimp only at hSw); go_simp⟩) hHeld ?_
   try simp only [Act.put, List.setIfInBounds_toArray, List.set_cons_zero, List.set_cons_succ]
   refine wpAnyH_take (i := 8) (oi := { dst := some 107, op := Op.extract (Operand.tmp 99) 1, type := 36, pos := "law.go:156", after := #[{ on := 6, ground := Ground.data }, { on := 9, ground := Ground.gcOnly Departure.lateStores }], guard := none }) (v := .int .i64 E) rfl (by kernel_rfl) (by kernel_rfl) (by kernel_rfl) (fun _ _ _ h => h) (Or.inl ⟨by rfl, fun w hSw => by (try dsimp only at hSw); go_simp⟩) hHeld ?_
   try simp only [Act.put, List.setIfInBounds_toArray, List.set_cons_zero, List.set_cons_succ]
   refine wpAnyH_ready (rs := [9]) (by kernel_rfl) (by simp) ?_
   refine AllReadyH.cons (o := { dst := none, op := Op.store 29 (Operand.tmp 8) (Operand.tmp 106), type := 0, pos := "law.go:156", after := #[{ on := 7, ground := Ground.data }, { on := 5, ground := Ground.chain }, { on := 0, ground := Ground.phase }, { on := 1, ground := Ground.phase }, { on := 2, ground := Ground.phase }, { on := 3, ground := Ground.phase }, { on := 4, ground := Ground.phase }, { on := 5, ground := Ground.phase }, { on := 6, ground := Ground.phase }, { on := 7, ground := Ground.phase }, { on := 8, ground := Ground.textOnly Departure.lateStores }], guard := none }) rfl (fun K hK => ?_) AllReadyH.nil
   obtain ⟨ba, bn, bc, hb⟩ := HSV.out.a
   have HBv := Lib.hid hb
   clear hb
   refine step_store rfl 29 (.tmp 8) (.tmp 106) rfl A8 #[.slice na1 nn1 nc1] rfl rfl 29 #[.slice ba bn bc] HBv.out info30b rfl (sl_one _ _ _) ?_
   have HAe := Lib.hid (setRow_heap _ _ _ #[.slice na1 nn1 nc1] _ _ HBv.out)
   have hkR : Kp [A8] V1 (V1.setRow A8 #[.slice na1 nn1 nc1]) := (Kp.refl [A8] _).setRow (.inl (by simp)) _
   generalize V1.setRow A8 #[.slice na1 nn1 nc1] = we1 at *
   have HSA := Lib.hid (HSV.out.setA hkR ⟨_, _, _, HAe.out⟩ HQA.out.2.2.2.1 (fun e => HQA.out.2.2.1 e.symm) HQA.out.1)
   have HD1e := Lib.hid (dhasR HD1.out hkR HBv.out)
   have hS := hHeld.trans hkR
   clear hkR
   clear hHeld
   refine hK.out _ _ hS (fun hHeld => ?_)
   try simp only [Act.put]
   clear hK
   clear hS
   refine wpAnyH_take (i := 10) (oi := { dst := some 9, op := Op.assign (Operand.tmp 107), type := 36, pos := "law.go:156", after := #[{ on := 8, ground := Ground.data }, { on := 9, ground := Ground.chain }, { on := 0, ground := Ground.phase }, { on := 1, ground := Ground.phase }, { on := 2, ground := Ground.phase }, { on := 3, ground := Ground.phase }, { on := 4, ground := Ground.phase }, { on := 5, ground := Ground.phase }, { on := 6, ground := Ground.phase }, { on := 7, ground := Ground.phase }, { on := 8, ground := Ground.phase }, { on := 9, ground := Ground.phase }], guard := none }) (v := .int .i64 E) rfl (by kernel_rfl) (by kernel_rfl) (by kernel_rfl) (fun _ _ _ h => h) (Or.inl ⟨by rfl, fun w hSw => by (try dsimp only at hSw); go_simp⟩) hHeld ?_
   try simp only [Act.put, List.setIfInBounds_toArray, List.set_cons_zero, List.set_cons_succ]
   have HSe1 := Lib.hid hHeld
   refine wpAnyH_done (by kernel_rfl) ?_ _
   clear hHeld
   clear HBv HSV HSd
   go_upto_region 24 with fail
   refine wp_region_held_drew (S := fun W => Kp [B10] we1 W) (by kernel_rfl) ((Kp.refl [B10] we1).drew 1) (fun hHeld => ?_)
   have HSd := Lib.hid (HSA.out.kp (show Kp [] we1 we1.drew from (Kp.refl [] we1).drew 1))
   have HD1a := Lib.hid (HD1e.out.below (show Below we1.heap.size we1 we1.drew from ((Kp.refl [] we1).drew 1).bel))
   generalize hwd : we1.drew = wd at *
   clear hwd
   refine wpAnyH_take (i := 0) (oi := { dst := some 109, op := Op.load 29 (Operand.tmp 6), type := 29, pos := "law.go:157", after := #[], guard := none }) (v := .agg #[.slice va N vc]) rfl (by kernel_rfl) (by kernel_rfl) (by kernel_rfl) (fun _ _ _ h => h) (Or.inl ⟨by rfl, fun w hSw => by (try dsimp only at hSw); have t0 := cell_one ((hSw.block Q (block_lt HSA.out.q) (by have := HQA.out; simp; omega)).trans HSA.out.q); go_simp⟩) hHeld ?_
   try simp only [Act.put, List.setIfInBounds_toArray, List.set_cons_zero, List.set_cons_succ]
   refine wpAnyH_take (i := 1) (oi := { dst := some 110, op := Op.move (Operand.tmp 15), type := 22, pos := "law.go:157", after := #[], guard := none }) (v := .slice (some ⟨R, 0, none⟩) 2 2) rfl (by kernel_rfl) (by kernel_rfl) (by kernel_rfl) (fun _ _ _ h => h) (Or.inl ⟨by rfl, fun w hSw => by (try dsimp only at hSw); go_simp⟩) hHeld ?_
   try simp only [Act.put, List.setIfInBounds_toArray, List.set_cons_zero, List.set_cons_succ]
   refine wpAnyH_take (i := 2) (oi := { dst := some 111, op := Op.move (Operand.tmp 16), type := 3, pos := "law.go:157", after := #[], guard := none }) (v := .int .i64 (i : Int)) rfl (by kernel_rfl) (by kernel_rfl) (by kernel_rfl) (fun _ _ _ h => h) (Or.inl ⟨by rfl, fun w hSw => by (try dsimp only at hSw); go_simp⟩) hHeld ?_
   try simp only [Act.put, List.setIfInBounds_toArray, List.set_cons_zero, List.set_cons_succ]
   refine wpAnyH_take (i := 3) (oi := { dst := some 112, op := Op.indexAddr 22 (Operand.tmp 110) (Operand.tmp 111), type := 0, pos := "law.go:157", after := #[{ on := 1, ground := Ground.data }, { on := 2, ground := Ground.data }], guard := none }) (v := .pointer (some ⟨R, i * 10, none⟩)) rfl (by kernel_rfl) (by kernel_rfl) (by kernel_rfl) (fun _ _ _ h => h) (Or.inl ⟨by rfl, fun w hSw => by (try dsimp only at hSw); go_simp⟩) hHeld ?_
   try simp only [Act.put, List.setIfInBounds_toArray, List.set_cons_zero, List.set_cons_succ]
   have HRw := Lib.hid (fun W (hk : Kp [B10] we1 W) => (show W.rangeAt R (i * 10) (De.dvC x.1 x.2) from by
    have h1 := HRx.out _ HSA.out
    obtain ⟨ba, bn, bc, hb⟩ := HSA.out.b
    obtain ⟨g, o, e, -, -, h2⟩ := row_of (dhasR HSA.out.l hk hb) HX.out
    injection e with e
    injection e with e1 e2
    subst e1
    subst e2
    have h3 := h2.at_ i x HX.out
    rwa [Nat.zero_add] at h3))
   refine wpAnyH_take (i := 4) (oi := { dst := some 113, op := Op.load 34 (Operand.tmp 112), type := 34, pos := "law.go:157", after := #[{ on := 3, ground := Ground.data }], guard := none }) (v := .agg (De.dvC x.1 x.2).toArray) rfl (by kernel_rfl) (by kernel_rfl) (by kernel_rfl) (fun _ _ _ h => h) (yieldsIf_load_mid (by rfl) 34 _ rfl R (i * 10) rfl (De.dvC x.1 x.2) _ (fun w hSw => HRw.out _ hSw) Tryz.underlying34 rfl De.info34b) hHeld ?_
   try simp only [Act.put, List.setIfInBounds_toArray, List.set_cons_zero, List.set_cons_succ]
   refine wpAnyH_ready (rs := [5]) (by kernel_rfl) (by simp) ?_
   refine AllReadyH.cons (o := { dst := some 114, op := Op.call { callee := Callee.value (Operand.func 46), args := #[Operand.tmp 109, Operand.tmp 113], argTypes := #[29, 34] }, type := 52, pos := "law.go:157", after := #[{ on := 0, ground := Ground.data }, { on := 4, ground := Ground.data }], guard := none }) rfl (fun K hK => ?_) AllReadyH.nil
   go_simp
   go_at_call 46
   refine Calls.mono (by with_reducible exact H46.out _ HSd.out) ?_
   rintro e V2 ⟨na2, nn2, nc2, LL2, rfl, HL2, HD2, HKv2⟩
   dsimp only
   have HSV := Lib.hid (HSd.out.kp HKv2.out)
   have hS := hHeld.trans (HKv2.out.mono (by simp))
   have HD1v := Lib.hid (HD1a.out.below HKv2.out.bel)
   clear hHeld
   refine hK.out _ _ hS (fun hHeld => ?_)
   try simp only [Act.put, List.setIfInBounds_toArray, List.set_cons_zero, List.set_cons_succ]
   clear hK
   clear hS
   refine wpAnyH_take (i := 6) (oi := { dst := some 108, op := Op.move (Operand.tmp 114), type := 52, pos := "law.go:157", after := #[{ on := 5, ground := Ground.data }], guard := none }) (v := .tuple #[.agg #[.slice na2 nn2 nc2], .int .i64 E]) rfl (by kernel_rfl) (by kernel_rfl) (by kernel_rfl) (fun _ _ _ h => h) (Or.inl ⟨by rfl, fun w hSw => by (try dsimp only at hSw); go_simp⟩) hHeld ?_
   try simp only [Act.put, List.setIfInBounds_toArray, List.set_cons_zero, List.set_cons_succ]
   refine wpAnyH_take (i := 7) (oi := { dst := some 115, op := Op.extract (Operand.tmp 108) 0, type := 29, pos := "law.go:157", after := #[{ on := 6, ground := Ground.data }], guard := none }) (v := .agg #[.slice na2 nn2 nc2]) rfl (by kernel_rfl) (by kernel_rfl) (by kernel_rfl) (fun _ _ _ h => h) (Or.inl ⟨by rfl, fun w hSw => by (try dsimp only at hSw); go_simp⟩) hHeld ?_
   try simp only [Act.put, List.setIfInBounds_toArray, List.set_cons_zero, List.set_cons_succ]
   refine wpAnyH_take (i := 8) (oi := { dst := some 116, op := Op.extract (Operand.tmp 108) 1, type := 36, pos := "law.go:157", after := #[{ on := 6, ground := Ground.data }, { on := 9, ground := Ground.gcOnly Departure.lateStores }], guard := none }) (v := .int .i64 E) rfl (by kernel_rfl) (by kernel_rfl) (by kernel_rfl) (fun _ _ _ h => h) (Or.inl ⟨by rfl, fun w hSw => by (try dsimp only at hSw); go_simp⟩) hHeld ?_
   try simp only [Act.put, List.setIfInBounds_toArray, List.set_cons_zero, List.set_cons_succ]
   refine wpAnyH_ready (rs := [9]) (by kernel_rfl) (by simp) ?_
   refine AllReadyH.cons (o := { dst := none, op := Op.store 29 (Operand.tmp 10) (Operand.tmp 115), type := 0, pos := "law.go:157", after := #[{ on := 7, ground := Ground.data }, { on := 5, ground := Ground.chain }, { on := 0, ground := Ground.phase }, { on := 1, ground := Ground.phase }, { on := 2, ground := Ground.phase }, { on := 3, ground := Ground.phase }, { on := 4, ground := Ground.phase }, { on := 5, ground := Ground.phase }, { on := 6, ground := Ground.phase }, { on := 7, ground := Ground.phase }, { on := 8, ground := Ground.textOnly Departure.lateStores }], guard := none }) rfl (fun K hK => ?_) AllReadyH.nil
   obtain ⟨ba, bn, bc, hb⟩ := HSV.out.b
   have HBv := Lib.hid hb
   clear hb
   refine step_store rfl 29 (.tmp 10) (.tmp 115) rfl B10 #[.slice na2 nn2 nc2] rfl rfl 29 #[.slice ba bn bc] HBv.out info30b rfl (sl_one _ _ _) ?_
   have HBe := Lib.hid (setRow_heap _ _ _ #[.slice na2 nn2 nc2] _ _ HBv.out)
   have hkR : Kp [B10] V2 (V2.setRow B10 #[.slice na2 nn2 nc2]) := (Kp.refl [B10] _).setRow (.inl (by simp)) _
   generalize V2.setRow B10 #[.slice na2 nn2 nc2] = we2 at *
   have HSB := Lib.hid (HSV.out.setB hkR ⟨_, _, _, HBe.out⟩ HQA.out.2.2.2.2 HQA.out.2.2.1 HQA.out.2.1)
   have HD2e := Lib.hid (dhasR HD2.out hkR HBv.out)
   have HD1b := Lib.hid (dhasR HD1v.out hkR HBv.out)
   have hS := hHeld.trans hkR
   clear hkR
   clear hHeld
   refine hK.out _ _ hS (fun hHeld => ?_)
   try simp only [Act.put]
   clear hK
   clear hS
   refine wpAnyH_take (i := 10) (oi := { dst := some 11, op := Op.assign (Operand.tmp 116), type := 36, pos := "law.go:157", after := #[{ on := 8, ground := Ground.data }, { on := 9, ground := Ground.chain }, { on := 0, ground := Ground.phase }, { on := 1, ground := Ground.phase }, { on := 2, ground := Ground.phase }, { on := 3, ground := Ground.phase }, { on := 4, ground := Ground.phase }, { on := 5, ground := Ground.phase }, { on := 6, ground := Ground.phase }, { on := 7, ground := Ground.phase }, { on := 8, ground := Ground.phase }, { on := 9, ground := Ground.phase }], guard := none }) (v := .int .i64 E) rfl (by kernel_rfl) (by kernel_rfl) (by kernel_rfl) (fun _ _ _ h => h) (Or.inl ⟨by rfl, fun w hSw => by (try dsimp only at hSw); go_simp⟩) hHeld ?_
   try simp only [Act.put, List.setIfInBounds_toArray, List.set_cons_zero, List.set_cons_succ]
   have HSe2 := Lib.hid hHeld
   refine wpAnyH_done (by kernel_rfl) ?_ _
   clear hHeld
   clear HBv HSV HSd
   have HA24 := Lib.hid ((HSe2.out.block A8 (block_lt HAe.out) (by have := HQA.out.2.2.1; simpa using this)).trans HAe.out)
   have HS42 := Lib.hid (same42 HAs.out.1 HAs.out.2 HL1.out HL2.out HD1b.out HD2e.out)
   have t1 := cell_one HA24.out
   have t2 := cell_one HBe.out
   have hne : (E != E) = false := by simp
   go_wp2_with (go_at_call 42; refine Calls.mono (by with_reducible exact HS42.out) ?_; rintro e w42 ⟨rfl, hk42⟩; have HK42 := Lib.hid hk42; clear hk42)
   exact ⟨⟨i + 1, by omega, rfl, Lib.hid (HSB.out.kp HK42.out), Lib.hid (((HKr.out.trans (HSe1.out.mono (by simp))).trans (HSe2.out.mono (by simp))).trans (HK42.out.mono (by simp)))⟩, by simp [intOf]; omega⟩
  ·obtain rfl : i = 2 := by omega
   have HKn := Lib.hid (De.known_any wr HS.out.m)
   go_wp2_with (go_at_call 12; refine Calls.mono (by with_reducible exact HKn.out) ?_; rintro e w7 ⟨rfl, hk7⟩; have HK7 := Lib.hid hk7; clear hk7)
   go_ret
   exact ⟨rfl, HFin.out _ (HKr.out.trans (HK7.out.mono (by simp)))⟩
end Go.Proofs.YtldcediiobfhiaaGreatDoor
