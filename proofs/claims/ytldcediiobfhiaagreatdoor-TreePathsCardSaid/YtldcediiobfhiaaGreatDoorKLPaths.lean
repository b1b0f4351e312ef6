/- TreePaths: the origin and the path of the device with any Index. -/
import Derived.Test.YtldcediiobfhiaaGreatDoorKV8
namespace Go.Proofs.YtldcediiobfhiaaGreatDoor
open Go.RowKit
set_option maxHeartbeats 16000000 in
set_option maxRecDepth 100000 in
theorem paths_walk (a0 : Option Addr) (n0 c0 : Nat) (w : World) (hm : De.Max w) (hi : Ints w w.heap.size (.slice a0 n0 c0)) : Calls Tryz.prog 5 #[.slice a0 n0 c0] w fun e w' => e = .returned (.bool true) ∧ Below w.heap.size w w' := by
 obtain ⟨tb, htb⟩ : ∃ tb, w.heap.size = tb := ⟨_, rfl⟩
 obtain ⟨W0, hW⟩ : ∃ W0, w.alloc (.cells #[.slice a0 n0 c0, .int .i64 0] 27) = W0 := ⟨_, rfl⟩
 have hk0 : Kp [] w W0 := by rw [← hW]; exact (Kp.refl [] w).alloc _
 have hT0 : Tp W0 tb 0 := by rw [← hW, ← htb]; exact tape_new hi
 have HTr0 := Lib.hid (tree9 (by omega) hT0 (hm.below hk0.bel))
 have HK0 := Lib.hid (show Kp [tb] w W0 from hk0.mono (by simp))
 have Htb := Lib.hid htb
 have H0t := Lib.hid (max_tp (hm.below hk0.bel) hT0)
 have HM0 := Lib.hid (hm.below hk0.bel)
 have HM := Lib.hid hm
 clear hk0 hT0 hi hm
 go_enter Tryz.func5, Tryz.ntmps5
 go_upto_region 3 with (first
  | (go_at_call 13; refine Calls.mono (by with_reducible exact HTr0.out) ?_; rintro e w1 ⟨va, N, vc, L, rfl, HN, hNc, hN9, HTr, k1, hk1, HT, HK1⟩; have H1v := Lib.hid (show (#[.slice va N vc] : Array Value).all (·.oneCell') = true from by simp [Value.oneCell']))
  | (refine De.wpList_store_new w1 29 _ #[.slice va N vc] rfl _ _ rfl rfl rfl info30b rfl H1v.out ?_))
 obtain ⟨Q, hQ⟩ : ∃ Q, w1.heap.size = Q := ⟨_, rfl⟩
 have hq1 := heap_alloc_last w1 (.cells #[.slice va N vc] 29)
 have hka := (Kp.refl [] w1).alloc (.cells #[.slice va N vc] 29)
 generalize w1.alloc (.cells #[.slice va N vc] 29) = w2 at *
 rw [hQ] at hq1 ⊢
 have HQ2 := Lib.hid hq1
 have t0 := cell_one hq1
 have HT2 := Lib.hid (HT.out.kp hka (by simp))
 have HTr2 := Lib.hid (HTr.out.kp hka)
 have HK2 := Lib.hid ((HK0.out.trans HK1.out).trans (hka.mono (by simp)))
 have HM2 := Lib.hid (MaxT (MaxT HM0.out H0t.out HK1.out) H0t.out (hka.mono (by simp)))
 have HQt := Lib.hid (show tb < Q from by rw [← hQ]; exact HT.out.lt)
 have HSm := Lib.hid (some_any (by omega) HT2.out HTr2.out (by omega))
 clear hq1 hka hQ HT HTr HTr0 HK1 hW htb
 go_upto_region 4 with (go_at_call 18; refine Calls.mono (by with_reducible exact HSm.out) ?_; rintro e w3 ⟨q, rfl, hqw, ⟨k3, hk3, hT3⟩, hkp3⟩; have HTr3 := Lib.hid (HTr2.out.kpT hkp3 (by omega)); have HQ3 := Lib.hid ((hkp3.block Q (block_lt HQ2.out) (by have := HQt.out; simp; omega)).trans HQ2.out); have HK3 := Lib.hid (HK2.out.trans hkp3); have HM3 := Lib.hid (MaxT HM2.out H0t.out hkp3); have HQw := Lib.hid hqw; clear hT3 hkp3 hqw t0)
 have HTok := Lib.hid (tree_tok HTr3.out (by omega))
 have hcap : ∀ a n c, (Value.slice va N vc) = .slice a n c → n ≤ c := fun a n c e => by injection e with e1 e2 e3; omega
 have HOr := Lib.hid (fun W (hk : Kp [] w3 W) => De.origin_any (.slice va N vc) L q W HTok.out (HTr3.out.any.has.below hk.bel) hcap HQw.out)
 have HPa := Lib.hid (fun W (hk : Kp [] w3 W) => De.path_any (.slice va N vc) L q W HTok.out (HTr3.out.any.has.below hk.bel) hcap HQw.out)
 have HFd := Lib.hid (fun W (hk : Kp [] w3 W) => De.refFind_any (.slice va N vc) L q W (by have := HTok.out.n; omega) (HTr3.out.any.has.below hk.bel))
 have HPl := Lib.hid (fun W (hk : Kp [] w3 W) => refPlace_any (.slice va N vc) L q W HTok.out.n (HTr3.out.any.has.below hk.bel) HTok.out.o)
 have HRp := Lib.hid (fun W (hk : Kp [] w3 W) => refPath_any (.slice va N vc) L q W HTok.out.n (HTr3.out.any.has.below hk.bel) HTok.out.m)
 have HKn := Lib.hid (fun W (hk : Kp [] w3 W) => De.known_any W (HM3.out.below hk.bel))
 have HFin := Lib.hid (fun (w' : World) (hk : Kp [] w3 w') => (show Below w.heap.size w w' from (HK3.out.trans (hk.mono (by simp))).below (Nat.le_refl _) (by intro x hx; simp at hx; have := Htb.out; omega)))
 have HV := Lib.hid HTr3.out.val
 obtain ⟨ub, hub⟩ : ∃ b, (De.gotL L q).isSome = b := ⟨_, rfl⟩
 have e1 := trl_some De.ADev.orig L q
 have e2 := trl_some De.ADev.name L q
 have e3 := has_eq HV.out.tidy q
 have e4 := trl_orig HV.out q
 have e5 := trl_name HV.out q
 rw [hub] at e1 e2 e3
 obtain ⟨PO, hPO⟩ : ∃ P, (De.trlO De.ADev.orig L q).getD [] = P := ⟨_, rfl⟩
 obtain ⟨PN, hPN⟩ : ∃ P, (De.trlO De.ADev.name L q).getD [] = P := ⟨_, rfl⟩
 rw [hPO] at e4
 rw [hPN] at e5
 have HO2 := Lib.hid (show ∀ W, Kp [] w3 W → Calls Tryz.prog 30 #[.agg #[.slice va N vc], .int .i64 q] W fun e w' => e = .returned (.tuple #[.string (bs PO), .bool ub]) ∧ Kp [] w3 w' from fun W hk => (HOr.out W hk).mono fun e w' ⟨u, he, hu, hk2⟩ => ⟨by
  rw [he, e1, De.bytes_of hu, hPO]
  rfl, hk.trans hk2⟩)
 have HP2 := Lib.hid (show ∀ W, Kp [] w3 W → Calls Tryz.prog 31 #[.agg #[.slice va N vc], .int .i64 q] W fun e w' => e = .returned (.tuple #[.string (bs PN), .bool ub]) ∧ Kp [] w3 w' from fun W hk => (HPa.out W hk).mono fun e w' ⟨u, he, hu, hk2⟩ => ⟨by
  rw [he, e2, De.bytes_of hu, hPN]
  rfl, hk.trans hk2⟩)
 have HL2 := Lib.hid (show ∀ W, Kp [] w3 W → Calls Tryz.prog 19 #[.agg #[.slice va N vc], .int .i64 q] W fun e w' => e = .returned (.string (bs PO)) ∧ Kp [] w3 w' from fun W hk => (HPl.out W hk).mono fun e w' ⟨he, hk2⟩ => ⟨by rw [he, e4], hk.trans hk2⟩)
 have HR2 := Lib.hid (show ∀ W, Kp [] w3 W → Calls Tryz.prog 32 #[.agg #[.slice va N vc], .int .i64 q] W fun e w' => e = .returned (.string (bs PN)) ∧ Kp [] w3 w' from fun W hk => (HRp.out W hk).mono fun e w' ⟨he, hk2⟩ => ⟨by rw [he, e5], hk.trans hk2⟩)
 have HF2 := Lib.hid (show ∀ W, Kp [] w3 W → Calls Tryz.prog 22 #[.agg #[.slice va N vc], .int .i64 q] W fun e w' => ∃ C : Array Value, C.all (·.oneCell') = true ∧ C.size = 10 ∧ e = .returned (.tuple #[.agg C, .bool ub]) ∧ Kp [] w3 w' from fun W hk => (HFd.out W hk).mono fun e w' ⟨hb, he⟩ => by
  cases hx : (De.idxP (L.map (·.1)) q).bind fun p => L[p]? with
  | none =>
   rw [hx] at he e3
   subst e3
   exact ⟨De.zeroC, De.zeroC_one, rfl, he, hk.trans (Kp.of_below hb)⟩
  | some x =>
   rw [hx] at he e3
   subst e3
   refine ⟨De.devC (De.devOf x.1 x.2), ?_, rfl, he, hk.trans (Kp.of_below hb)⟩
   obtain ⟨p, hp, hx2⟩ := Option.bind_eq_some_iff.1 hx
   obtain ⟨b, n, c, hv⟩ := HTr3.out.any.has.slices x (List.mem_of_getElem? hx2)
   rw [hv]
   rw [Array.all_eq_true_iff_forall_mem]
   intro v hv2
   have : v ∈ De.dvC x.1 (.slice b n c) := by
    have h3 : v ∈ (De.dvC x.1 (.slice b n c)).toArray := hv2
    simpa using h3
   exact De.dvC_one rfl v this)
 have HQk := Lib.hid (fun W (hk : Kp [] w3 W) => cell_one ((hk.block Q (block_lt HQ3.out) (by simp)).trans HQ3.out))
 clear e1 e2 e3 e4 e5 hPO hPN hub hcap HOr HPa HFd HPl HRp HT2 HTr2 HK2 HSm
 generalize bs PO = SO at *
 generalize bs PN = SN at *
 have t0 := HQk.out w3 (Kp.refl [] w3)
 go_upto_region 5 with (go_at_call 30; refine Calls.mono (by with_reducible exact HO2.out _ (Kp.refl [] w3)) ?_; rintro e w4 ⟨rfl, hk4⟩; have HK4 := Lib.hid hk4; clear hk4)
 clear t0
 have t0 := HQk.out _ HK4.out
 go_upto_region 6 with (go_at_call 31; refine Calls.mono (by with_reducible exact HP2.out _ HK4.out) ?_; rintro e w5 ⟨rfl, hk5⟩; have HK5 := Lib.hid hk5; clear hk5)
 clear t0
 have t0 := HQk.out _ HK5.out
 go_upto_region 7 with (first
  | (go_at_call 22; refine Calls.mono (by with_reducible exact HF2.out _ HK5.out) ?_; rintro e w6 ⟨C, hC1, hC2, rfl, hk6⟩; have HK6 := Lib.hid hk6; have HC1 := Lib.hid hC1; have HC3 := Lib.hid (show De.zeroC.size = C.size by rw [hC2]; rfl); have HC2 := Lib.hid (show (Tryz.prog.info? 34).map (·.size) = some C.size by rw [hC2]; exact De.info34b); clear hk6 hC1 hC2)
  | (refine De.wpList_store_new w6 34 _ C rfl _ _ rfl rfl rfl HC2.out HC3.out HC1.out ?_))
 clear t0
 obtain ⟨w7, hw7⟩ : ∃ w7, w6.alloc (.cells C 34) = w7 := ⟨_, rfl⟩
 have HK7 := Lib.hid (show Kp [] w3 w7 by rw [← hw7]; exact HK6.out.alloc _)
 have t0 := HQk.out _ HK7.out
 cases ub with
 | true =>
  go_wp2_with (first
   | (go_at_call 19; refine Calls.mono (by with_reducible exact HL2.out _ HK7.out) ?_; rintro e w8 ⟨rfl, hk8⟩; have t1 := HQk.out _ hk8; have HK8 := Lib.hid hk8; clear hk8)
   | (go_at_call 32; refine Calls.mono (by with_reducible exact HR2.out _ HK8.out) ?_; rintro e w9 ⟨rfl, hk9⟩; have HK9 := Lib.hid hk9; clear hk9)
   | (go_at_call 12; refine Calls.mono (by with_reducible exact HKn.out _ HK9.out) ?_; rintro e w10 ⟨rfl, hk10⟩; have HK10 := Lib.hid (HK9.out.trans hk10); clear hk10))
  go_ret
  exact ⟨rfl, HFin.out _ HK10.out⟩
 | false =>
  go_wp2_with (first
   | (go_at_call 19; refine Calls.mono (by with_reducible exact HL2.out _ HK7.out) ?_; rintro e w8 ⟨rfl, hk8⟩; have t1 := HQk.out _ hk8; have HK8 := Lib.hid hk8; clear hk8)
   | (go_at_call 32; refine Calls.mono (by with_reducible exact HR2.out _ HK8.out) ?_; rintro e w9 ⟨rfl, hk9⟩; have HK9 := Lib.hid hk9; clear hk9)
   | (go_at_call 12; refine Calls.mono (by with_reducible exact HKn.out _ HK9.out) ?_; rintro e w10 ⟨rfl, hk10⟩; have HK10 := Lib.hid (HK9.out.trans hk10); clear hk10))
  go_ret
  exact ⟨rfl, HFin.out _ HK10.out⟩
end Go.Proofs.YtldcediiobfhiaaGreatDoor
