/- TreeFinds: the device with any Index, origin, interface name and node name. -/
import Derived.Test.YtldcediiobfhiaaGreatDoorKX5
namespace Go.Proofs.YtldcediiobfhiaaGreatDoor
open Go.RowKit
set_option maxHeartbeats 16000000 in
set_option maxRecDepth 100000 in
theorem finds_walk (a0 : Option Addr) (n0 c0 : Nat) (s : ByteArray) (hs : s.size ≤ 4611686018427387904) (w : World) (hm : De.Max w) (hi : Ints w w.heap.size (.slice a0 n0 c0)) : Calls Tryz.prog 4 #[.slice a0 n0 c0, .string s] w fun e w' => e = .returned (.bool true) ∧ Below w.heap.size w w' := by
 obtain ⟨tb, htb⟩ : ∃ tb, w.heap.size = tb := ⟨_, rfl⟩
 obtain ⟨W0, hW⟩ : ∃ W0, w.alloc (.cells #[.slice a0 n0 c0, .int .i64 0] 27) = W0 := ⟨_, rfl⟩
 have hk0 : Kp [] w W0 := by rw [← hW]; exact (Kp.refl [] w).alloc _
 have hT0 : Tp W0 tb 0 := by rw [← hW, ← htb]; exact tape_new hi
 have HTr0 := Lib.hid (tree9 (by omega) hT0 (hm.below hk0.bel))
 have HK0 := Lib.hid (show Kp [tb] w W0 from hk0.mono (by simp))
 have Htb := Lib.hid htb
 have H0t := Lib.hid (max_tp (hm.below hk0.bel) hT0)
 have HM0 := Lib.hid (hm.below hk0.bel)
 have Hs := Lib.hid hs
 clear hk0 hT0 hi hm hs
 go_enter Tryz.func4, Tryz.ntmps4
 go_upto_region 3 with (first
  | (go_at_call 13; refine Calls.mono (by with_reducible exact HTr0.out) ?_; rintro e w1 ⟨va, N, vc, L, rfl, HN, hNc, hN9, HTr, k1, hk1, HT, HK1⟩; have H1v := Lib.hid (show (#[.slice va N vc] : Array Value).all (·.oneCell') = true from by simp [Value.oneCell']))
  | (refine De.wpList_store_new w1 29 _ #[.slice va N vc] rfl _ _ rfl rfl rfl info30b rfl H1v.out ?_))
 obtain ⟨Q, hQ⟩ : ∃ Q, w1.heap.size = Q := ⟨_, rfl⟩
 have hq1 := heap_alloc_last w1 (.cells #[.slice va N vc] 29)
 have hka := (Kp.refl [] w1).alloc (.cells #[.slice va N vc] 29)
 generalize w1.alloc (.cells #[.slice va N vc] 29) = w2 at *
 rw [hQ] at hq1 ⊢
 have HQ2 := Lib.hid hq1
 have t0 := cell_one hq1
 have HT2 := Lib.hid (HT.out.kp hka (by simp))
 have HTr2 := Lib.hid (HTr.out.kp hka)
 have HK2 := Lib.hid ((HK0.out.trans HK1.out).trans (hka.mono (by simp)))
 have HM2 := Lib.hid (MaxT (MaxT HM0.out H0t.out HK1.out) H0t.out (hka.mono (by simp)))
 have HQt := Lib.hid (show tb < Q from by rw [← hQ]; exact HT.out.lt)
 have HSm := Lib.hid (some_any (by omega) HT2.out HTr2.out (by omega))
 clear hq1 hka hQ HT HTr HTr0 HK1 hW htb
 go_upto_region 4 with (go_at_call 18; refine Calls.mono (by with_reducible exact HSm.out) ?_; rintro e w3 ⟨q, rfl, hqw, ⟨k3, hk3, hT3⟩, hkp3⟩; have HTr3 := Lib.hid (HTr2.out.kpT hkp3 (by omega)); have HQ3 := Lib.hid ((hkp3.block Q (block_lt HQ2.out) (by have := HQt.out; simp; omega)).trans HQ2.out); have HK3 := Lib.hid (HK2.out.trans hkp3); have HM3 := Lib.hid (MaxT HM2.out H0t.out hkp3); have HQw := Lib.hid hqw; have HT3 := Lib.hid hT3; clear hT3 hkp3 hqw t0)
 have HTok := Lib.hid (tree_tok HTr3.out (by omega))
 have t0 := cell_one HQ3.out
 obtain ⟨SO, hSO⟩ : ∃ SO, bs (De.pth (orgL L q)) = SO := ⟨_, rfl⟩
 have HSO := Lib.hid (show SO.size ≤ 4611686018427387904 from by rw [← hSO, bs_size]; have := pth_len _ (orgL_mem HTok.out.o q); have := orgL_len L q; have := HTok.out.n; omega)
 have HPl := Lib.hid (show Calls Tryz.prog 19 #[.agg #[.slice va N vc], .int .i64 q] w3 fun e w' => e = .returned (.string SO) ∧ Kp [] w3 w' from (refPlace_any (.slice va N vc) L q w3 HTok.out.n HTr3.out.any.has HTok.out.o).mono fun e w' ⟨he, hk2⟩ => ⟨by rw [he, hSO], hk2⟩)
 clear hSO HSm HT2 HTr2 HK2
 go_upto_region 5 with (go_at_call 19; refine Calls.mono (by with_reducible exact HPl.out) ?_; rintro e w4 ⟨rfl, hk4⟩; have HK4 := Lib.hid hk4; have HT4 := Lib.hid (HT3.out.kp hk4 (by simp)); clear hk4)
 clear t0
 go_cut [31] (fun s31 wx => ∃ bb : Bool, s31 = .bool bb ∧ Hid (Tq wx tb 500) ∧ Hid (Kp [tb] w4 wx))
 case first =>
  have HNx := Lib.hid (show Calls Tryz.prog 14 #[.pointer (some ⟨tb, 0, none⟩), .int .i64 2] w4 fun e w' => ∃ r : Nat, r < 2 ∧ e = .returned (.int .i64 r) ∧ Tp w' tb (k3 + 1) ∧ Kp [tb] w4 w' from next_kp 2 (by omega) (by omega) (by omega) HT4.out)
  cases hE : SO.toList.isEmpty with
  | true =>
   go_wp2
   go_meet
   exact ⟨false, rfl, Lib.hid ⟨k3, by omega, HT4.out⟩, Lib.hid (Kp.refl _ _)⟩
  | false =>
   go_wp2_with (go_at_call 14; refine Calls.mono (by with_reducible exact HNx.out) ?_; rintro e w5 ⟨r, hr, rfl, hT5, hk5⟩; have HT5 := Lib.hid hT5; have HK5 := Lib.hid hk5; clear hT5 hk5)
   go_meet
   exact ⟨_, rfl, Lib.hid ⟨k3 + 1, by omega, HT5.out⟩, Lib.hid HK5.out⟩
 obtain ⟨bb, rfl, HT5, HK5⟩ := hcut
 go_upto_if 31 with fail
 go_cut [1] (fun s1 wx => ∃ s2 : ByteArray, s1 = .string s2 ∧ Hid (s2.size ≤ 4611686018427387904) ∧ wx = wc)
 case first =>
  cases bb with
  | true =>
   go_wp2
   go_meet
   exact ⟨SO, rfl, HSO, rfl⟩
  | false =>
   go_wp2
   go_meet
   exact ⟨s, rfl, Hs, rfl⟩
 obtain ⟨s2, rfl, HS2, rfl⟩ := hcut
 have HQ4 := Lib.hid ((HK4.out.block Q (block_lt HQ3.out) (by simp)).trans HQ3.out)
 have HQ5 := Lib.hid ((HK5.out.block Q (block_lt HQ4.out) (by have := HQt.out; simp; omega)).trans HQ4.out)
 have HTr5 := Lib.hid ((HTr3.out.kp HK4.out).kpT HK5.out (by omega))
 have HM5 := Lib.hid (MaxT (HM3.out.below HK4.out.bel) H0t.out HK5.out)
 have HKw5 := Lib.hid ((HK3.out.trans (HK4.out.mono (by simp))).trans HK5.out)
 obtain ⟨k5, hk5, hT5⟩ := HT5.out
 have HON := Lib.hid (fun n hn => oneF (tb := tb) s2 HS2.out (by omega) hT5 n hn)
 clear hT5 HT5 HK5 HQ3 HQ4 HTr3 HT3 HT4 HK3 HK4 HM2 HM3 HPl
 obtain ⟨R, hR⟩ : ∃ R, wc.heap.size = R := ⟨_, rfl⟩
 go_upto_region 8 with (go_at_call 20; refine Calls.mono (by with_reducible exact HON.out _ (by first | rfl | assumption)) ?_; rintro e w6 ⟨nm, hnm, rfl, hT6, hk6⟩; have HTr6 := Lib.hid (HTr5.out.kpT hk6 (by omega)); have HQ6 := Lib.hid ((hk6.block Q (block_lt HQ5.out) (by have := HQt.out; simp; omega)).trans HQ5.out); have HK6 := Lib.hid (HKw5.out.trans hk6); have HM6 := Lib.hid (MaxT HM5.out H0t.out hk6); have HNm := Lib.hid hnm; clear hT6 hk6 hnm)
 clear hR HTr5 HQ5 HKw5 HM5 HON
 have hcap : ∀ a n c, (Value.slice va N vc) = .slice a n c → n ≤ c := fun a n c e => by injection e with e1 e2 e3; omega
 have HV := Lib.hid HTr6.out.val
 have hmem : ∀ (o : Option De.DV), (∀ x, o = some x → x ∈ L) → ∀ x, o = some x → De.Has w6 x.2 x.1.ats := fun o h x hx => dhas_ats HTr6.out.any.has x (h x hx)
 have hal : ∀ x ∈ L, x.1.ats.length ≤ 1000000 := fun x hx => by have := (HTr6.out.sml x hx).2; omega
 obtain ⟨X1, hX1⟩ : ∃ X, valA (De.fnd (L.map (·.1)) q) = X := ⟨_, rfl⟩
 obtain ⟨b1, hb1⟩ : ∃ b, (De.fnd (L.map (·.1)) q).isSome = b := ⟨_, rfl⟩
 have HP1 := Lib.hid (show ∀ W, Kp [] w6 W → Calls Tryz.prog 21 #[.agg #[.slice va N vc], .int .i64 q] W fun e w' => ∃ a n c, e = .returned (.tuple #[.agg (De.dvC X1 (.slice a n c)).toArray, .bool b1]) ∧ De.Owns w' W.heap.size (.slice a n c) X1.ats ∧ Kp [] W w' from fun W hk => (De.find_any (.slice va N vc) L q W (by have := HTok.out.n; omega) hal (HTr6.out.any.has.below hk.bel) HTok.out.wi HQw.out).mono fun e w' h => by rw [← hX1, ← hb1]; exact found_form ((got_bind L q).trans (got_fnd HV.out.tidy q)) h)
 have HR1 := Lib.hid (show ∀ W, Kp [] w6 W → Calls Tryz.prog 22 #[.agg #[.slice va N vc], .int .i64 q] W fun e w' => ∃ a n c, e = .returned (.tuple #[.agg (De.dvC X1 (.slice a n c)).toArray, .bool b1]) ∧ De.Has w6 (.slice a n c) X1.ats ∧ Kp [] W w' from fun W hk => (De.refFind_any (.slice va N vc) L q W (by have := HTok.out.n; omega) (HTr6.out.any.has.below hk.bel)).mono fun e w' h => by rw [← hX1, ← hb1]; exact ref_form (idx_fnd q) h (hmem _ (fun x hx => by obtain ⟨p, hp, hx2⟩ := Option.bind_eq_some_iff.1 hx; exact List.mem_of_getElem? hx2)))
 have HLen1 := Lib.hid (show X1.ats.length ≤ 9223372036854775807 from by rw [← hX1]; exact val_len (h2 := 1000000) (by decide) (fun x hx => by obtain ⟨hm, -⟩ := De.fnd_mem hx; obtain ⟨y, hy, rfl⟩ := List.mem_map.1 hm; exact hal y hy))
 clear hX1 hb1
 obtain ⟨X2, hX2⟩ : ∃ X, valA ((L.find? (atP L s2)).map (·.1)) = X := ⟨_, rfl⟩
 obtain ⟨b2, hb2⟩ : ∃ b, ((L.find? (atP L s2)).map (·.1)).isSome = b := ⟨_, rfl⟩
 have HP2 := Lib.hid (show ∀ W, Kp [] w6 W → Calls Tryz.prog 24 #[.agg #[.slice va N vc], .string s2] W fun e w' => ∃ a n c, e = .returned (.tuple #[.agg (De.dvC X2 (.slice a n c)).toArray, .bool b2]) ∧ De.Owns w' W.heap.size (.slice a n c) X2.ats ∧ Kp [] W w' from fun W hk => (De.at_any (.slice va N vc) L s2 W HTok.out hal (HTr6.out.any.has.below hk.bel) hcap HS2.out).mono fun e w' ⟨r, hr, h⟩ => by rw [← hX2, ← hb2]; exact found_form (congrArg (Option.map (·.1)) ((atR_find HV.out s2 r hr).trans (at_eq HV.out s2))) h)
 have HR2 := Lib.hid (show ∀ W, Kp [] w6 W → Calls Tryz.prog 25 #[.agg #[.slice va N vc], .string s2] W fun e w' => ∃ a n c, e = .returned (.tuple #[.agg (De.dvC X2 (.slice a n c)).toArray, .bool b2]) ∧ De.Has w6 (.slice a n c) X2.ats ∧ Kp [] W w' from fun W hk => (refAt_any (.slice va N vc) L s2 W HTok.out.n (HTr6.out.any.has.below hk.bel) HTok.out.o).mono fun e w' h => by rw [← hX2, ← hb2]; exact ref_form rfl h (hmem _ (fun x hx => List.mem_of_find?_eq_some hx)))
 have HLen2 := Lib.hid (show X2.ats.length ≤ 9223372036854775807 from by rw [← hX2]; exact val_len (h2 := 1000000) (by decide) (fun x hx => by obtain ⟨y, hy, rfl⟩ := Option.map_eq_some_iff.1 hx; exact hal y (List.mem_of_find?_eq_some hy)))
 clear hX2 hb2
 obtain ⟨X3, hX3⟩ : ∃ X, valA ((L.find? (ifP nm)).map (·.1)) = X := ⟨_, rfl⟩
 obtain ⟨b3, hb3⟩ : ∃ b, ((L.find? (ifP nm)).map (·.1)).isSome = b := ⟨_, rfl⟩
 have HP3 := Lib.hid (show ∀ W, Kp [] w6 W → Calls Tryz.prog 26 #[.agg #[.slice va N vc], .string nm] W fun e w' => ∃ a n c, e = .returned (.tuple #[.agg (De.dvC X3 (.slice a n c)).toArray, .bool b3]) ∧ De.Owns w' W.heap.size (.slice a n c) X3.ats ∧ Kp [] W w' from fun W hk => (De.interface_any De.kI De.bI (.slice va N vc) L nm W (by have := HTok.out.n; omega) hal (HTr6.out.any.has.below hk.bel) (fun x hx => by have := HTok.out.m x hx; unfold De.kI; omega) (fun x _ W2 _ => De.interfaceOf_any x.1 x.2 W2) HNm.out).mono fun e w' h => by rw [← hX3, ← hb3]; exact found_form (congrArg (Option.map (·.1)) (if_eq HV.out nm)) h)
 have HR3 := Lib.hid (show ∀ W, Kp [] w6 W → Calls Tryz.prog 27 #[.agg #[.slice va N vc], .string nm] W fun e w' => ∃ a n c, e = .returned (.tuple #[.agg (De.dvC X3 (.slice a n c)).toArray, .bool b3]) ∧ De.Has w6 (.slice a n c) X3.ats ∧ Kp [] W w' from fun W hk => (refInterface_any (.slice va N vc) L nm W HTok.out.n (HTr6.out.any.has.below hk.bel)).mono fun e w' h => by rw [← hX3, ← hb3]; exact ref_form rfl h (hmem _ (fun x hx => List.mem_of_find?_eq_some hx)))
 have HLen3 := Lib.hid (show X3.ats.length ≤ 9223372036854775807 from by rw [← hX3]; exact val_len (h2 := 1000000) (by decide) (fun x hx => by obtain ⟨y, hy, rfl⟩ := Option.map_eq_some_iff.1 hx; exact hal y (List.mem_of_find?_eq_some hy)))
 clear hX3 hb3
 obtain ⟨X4, hX4⟩ : ∃ X, valA ((L.find? (ndP nm)).map (·.1)) = X := ⟨_, rfl⟩
 obtain ⟨b4, hb4⟩ : ∃ b, ((L.find? (ndP nm)).map (·.1)).isSome = b := ⟨_, rfl⟩
 have HP4 := Lib.hid (show ∀ W, Kp [] w6 W → Calls Tryz.prog 28 #[.agg #[.slice va N vc], .string nm] W fun e w' => ∃ a n c, e = .returned (.tuple #[.agg (De.dvC X4 (.slice a n c)).toArray, .bool b4]) ∧ De.Owns w' W.heap.size (.slice a n c) X4.ats ∧ Kp [] W w' from fun W hk => (De.nodeAt_any De.kN De.bN (.slice va N vc) L nm W (by have := HTok.out.n; omega) hal (HTr6.out.any.has.below hk.bel) (fun x hx => kN_size x.1 (HTok.out.o x hx)) (fun x hx W2 hb => De.nodeK_any x.1 x.2 W2 (by have := HTok.out.o x hx; omega) (HM6.out.below (hk.bel.trans (hb.mono hk.size)))) HNm.out).mono fun e w' h => by rw [← hX4, ← hb4]; exact found_form (congrArg (Option.map (·.1)) (nd_eq HV.out nm)) h)
 have HR4 := Lib.hid (show ∀ W, Kp [] w6 W → Calls Tryz.prog 29 #[.agg #[.slice va N vc], .string nm] W fun e w' => ∃ a n c, e = .returned (.tuple #[.agg (De.dvC X4 (.slice a n c)).toArray, .bool b4]) ∧ De.Has w6 (.slice a n c) X4.ats ∧ Kp [] W w' from fun W hk => (refNodeAt_any (.slice va N vc) L nm W HTok.out.n (HTr6.out.any.has.below hk.bel) (fun x hx => by have := HTok.out.o x hx; omega) (HM6.out.below hk.bel)).mono fun e w' h => by rw [← hX4, ← hb4]; exact ref_form rfl h (hmem _ (fun x hx => List.mem_of_find?_eq_some hx)))
 have HLen4 := Lib.hid (show X4.ats.length ≤ 9223372036854775807 from by rw [← hX4]; exact val_len (h2 := 1000000) (by decide) (fun x hx => by obtain ⟨y, hy, rfl⟩ := Option.map_eq_some_iff.1 hx; exact hal y (List.mem_of_find?_eq_some hy)))
 clear hX4 hb4
 have HSame := Lib.hid (fun (X : De.ADev) (u v : Value) W (hu : De.Has W u X.ats) (hv : De.Has W v X.ats) (hl : X.ats.length ≤ 9223372036854775807) => (show Calls Tryz.prog 23 #[.agg (De.dvC X u).toArray, .agg (De.dvC X v).toArray] W fun e w' => e = .returned (.bool true) ∧ Kp [] W w' from (De.sameDevice_any (De.devOf X u) (De.devOf X v) X.ats X.ats W hl hu hv).mono fun e w' ⟨he, hb⟩ => ⟨by rw [he, sameD_self], Kp.of_below hb⟩))
 have HKn := Lib.hid (fun W (hk : Kp [] w6 W) => De.known_any W (HM6.out.below hk.bel))
 have HFin := Lib.hid (fun (w' : World) (hk : Kp [] w6 w') => (show Below w.heap.size w w' from (HK6.out.trans (hk.mono (by simp))).below (Nat.le_refl _) (by intro x hx; simp at hx; have := Htb.out; omega)))
 have HQk := Lib.hid (fun W (hk : Kp [] w6 W) => cell_one ((hk.block Q (block_lt HQ6.out) (by simp)).trans HQ6.out))
 have HI := Lib.hid (fun (X : De.ADev) (u : Value) => show (Tryz.prog.info? 34).map (·.size) = some (De.dvC X u).toArray.size from De.info34b)
 clear hmem hal hcap
 have t0 := HQk.out w6 (Kp.refl [] w6)
 go_upto_region 9 with (first
  | (go_at_call 21; refine Calls.mono (by with_reducible exact HP1.out _ (Kp.refl [] w6)) ?_; rintro e wa1 ⟨p1a, p1n, p1c, rfl, hown, hk⟩; have HOw := Lib.hid hown; have HKa1 := Lib.hid ((Kp.refl [] w6).trans hk); have HSt := Lib.hid (dv_one X1 p1a p1n p1c); clear hown hk)
  | (refine De.wpList_store_new wa1 34 _ (De.dvC X1 (.slice p1a p1n p1c)).toArray rfl _ _ rfl rfl rfl (HI.out _ _) rfl HSt.out ?_))
 obtain ⟨A, hA⟩ : ∃ A, wa1.heap.size = A := ⟨_, rfl⟩
 have hrA := heap_alloc_last wa1 (.cells (De.dvC X1 (.slice p1a p1n p1c)).toArray 34)
 have hka := (Kp.refl [] wa1).alloc (.cells (De.dvC X1 (.slice p1a p1n p1c)).toArray 34)
 obtain ⟨wb1, hwb⟩ : ∃ W, wa1.alloc (.cells (De.dvC X1 (.slice p1a p1n p1c)).toArray 34) = W := ⟨_, rfl⟩
 simp only [hwb, hA] at hrA hka ⊢
 have HAg := Lib.hid (show w6.heap.size ≤ A from by rw [← hA]; exact HKa1.out.size)
 have HAb1 := Lib.hid hrA
 have HKb1 := Lib.hid (HKa1.out.trans hka)
 have HOb := Lib.hid (HOw.out.below hka.bel)
 clear hA hrA hka hwb HOw t0
 have t0 := HQk.out wb1 HKb1.out
 go_upto_region 10 with (first
  | (go_at_call 22; refine Calls.mono (by with_reducible exact HR1.out _ HKb1.out) ?_; rintro e wd1 ⟨q1a, q1n, q1c, rfl, hh, hk⟩; have HHr := Lib.hid hh; have HKd1 := Lib.hid (HKb1.out.trans hk); have HAd1 := Lib.hid ((hk.block A (block_lt HAb1.out) (by simp)).trans HAb1.out); have HOd := Lib.hid (HOb.out.below hk.bel); have HSt2 := Lib.hid (dv_one X1 q1a q1n q1c); clear hh hk)
  | (refine De.wpList_store_new wd1 34 _ (De.dvC X1 (.slice q1a q1n q1c)).toArray rfl _ _ rfl rfl rfl (HI.out _ _) rfl HSt2.out ?_))
 obtain ⟨B, hB⟩ : ∃ B, wd1.heap.size = B := ⟨_, rfl⟩
 have hrB := heap_alloc_last wd1 (.cells (De.dvC X1 (.slice q1a q1n q1c)).toArray 34)
 have hka := (Kp.refl [] wd1).alloc (.cells (De.dvC X1 (.slice q1a q1n q1c)).toArray 34)
 obtain ⟨we1, hwe⟩ : ∃ W, wd1.alloc (.cells (De.dvC X1 (.slice q1a q1n q1c)).toArray 34) = W := ⟨_, rfl⟩
 simp only [hwe, hB] at hrB hka ⊢
 have HBg := Lib.hid (show w6.heap.size ≤ B from by rw [← hB]; exact HKd1.out.size)
 have HAB := Lib.hid (show A < B from by rw [← hB]; exact block_lt HAd1.out)
 have HBe1 := Lib.hid hrB
 have HAe1 := Lib.hid ((hka.block A (block_lt HAd1.out) (by simp)).trans HAd1.out)
 have HKe1 := Lib.hid (HKd1.out.trans hka)
 have HOe := Lib.hid (HOd.out.below hka.bel)
 clear hB hrB hka hwe HOb HOd t0
 have HSa := Lib.hid (show Calls Tryz.prog 23 #[.agg #[.int .i64 X1.idx, .int .i64 X1.par, .string X1.name, .string X1.orig, .string X1.sub, .string X1.drv, .string X1.ali, .int .i64 X1.kind, .int .i64 X1.num, .slice p1a p1n p1c], .agg #[.int .i64 X1.idx, .int .i64 X1.par, .string X1.name, .string X1.orig, .string X1.sub, .string X1.drv, .string X1.ali, .int .i64 X1.kind, .int .i64 X1.num, .slice q1a q1n q1c]] we1 (fun e w' => e = .returned (.bool true) ∧ Kp [] we1 w') from HSame.out X1 (.slice p1a p1n p1c) (.slice q1a q1n q1c) we1 HOe.out.has (HHr.out.below HKe1.out.bel) HLen1.out)
 have da := (show De.BoxAt we1 A (De.dvC X1 (.slice p1a p1n p1c)).toArray from HAe1.out).cell
 have db := (show De.BoxAt we1 B (De.dvC X1 (.slice q1a q1n q1c)).toArray from HBe1.out).cell
 unfold De.dvC at da db
 go_upto_region 12 with (first
  | (go_at_call 23; refine Calls.mono (by with_reducible exact HSa.out) ?_; rintro e wf1 ⟨rfl, hk⟩; have HAf1 := Lib.hid ((hk.block A (block_lt HAe1.out) (by simp)).trans HAe1.out); have HBf1 := Lib.hid ((hk.block B (block_lt HBe1.out) (by simp)).trans HBe1.out); have HKwf1 := Lib.hid (HKe1.out.trans hk); have HBl := Lib.hid (block_lt HBf1.out); clear hk))
 clear HSa HOe HHr HSt HSt2 da db
 have t0 := HQk.out wf1 HKwf1.out
 go_upto_region 13 with (first
  | (go_at_call 24; refine Calls.mono (by with_reducible exact HP2.out _ HKwf1.out) ?_; rintro e wa2 ⟨p2a, p2n, p2c, rfl, hown, hk⟩; have HOw := Lib.hid hown; have HAa := Lib.hid ((hk.block A (block_lt HAf1.out) (by simp)).trans HAf1.out); have HBa := Lib.hid ((hk.block B (block_lt HBf1.out) (by simp)).trans HBf1.out); have HAl := Lib.hid (block_lt HAf1.out); have HKa2 := Lib.hid (HKwf1.out.trans hk); have HSt := Lib.hid (dv_one X2 p2a p2n p2c); clear hown hk)
  | (refine wpList_store_row rfl 34 _ _ rfl A (De.dvC X2 (.slice p2a p2n p2c)).toArray rfl rfl 34 (De.dvC X1 (.slice p1a p1n p1c)).toArray (by with_reducible exact HAa.out) (HI.out _ _) rfl HSt.out ?_))
 obtain ⟨wb2, hwb⟩ : ∃ W, wa2.setRow A (De.dvC X2 (.slice p2a p2n p2c)).toArray = W := ⟨_, rfl⟩
 simp only [hwb]
 have HAb2 := Lib.hid (show wb2.heap[A]? = some (.cells (De.dvC X2 (.slice p2a p2n p2c)).toArray 34 (0, 0)) from by rw [← hwb]; exact setRow_heap _ _ _ _ _ _ HAa.out)
 have HBb := Lib.hid (show wb2.heap[B]? = some (.cells (De.dvC X1 (.slice q1a q1n q1c)).toArray 34 (0, 0)) from by rw [← hwb]; exact (setRow_other _ _ _ _ (by have := HAB.out; omega)).trans HBa.out)
 have HKb2 := Lib.hid (show Kp [] w6 wb2 from by rw [← hwb]; exact HKa2.out.setRow (.inr HAg.out) _)
 have HOb := Lib.hid (show De.Owns wb2 wf1.heap.size (.slice p2a p2n p2c) X2.ats from HOw.out.keep fun b _ hb => by rw [← hwb]; exact setRow_other _ _ _ _ (by have h1 := ((show wa2.ownsRow wf1.heap.size 99 2 (.slice p2a p2n p2c) X2.ats.length (De.cellsP X2.ats) from HOw.out).lt b hb).1; have := HAl.out; omega))
 clear hwb HOw t0 HAa HBa
 have t0 := HQk.out wb2 HKb2.out
 go_upto_region 14 with (first
  | (go_at_call 25; refine Calls.mono (by with_reducible exact HR2.out _ HKb2.out) ?_; rintro e wd2 ⟨q2a, q2n, q2c, rfl, hh, hk⟩; have HHr := Lib.hid hh; have HKd2 := Lib.hid (HKb2.out.trans hk); have HAd2 := Lib.hid ((hk.block A (block_lt HAb2.out) (by simp)).trans HAb2.out); have HBd := Lib.hid ((hk.block B (block_lt HBb.out) (by simp)).trans HBb.out); have HOd := Lib.hid (HOb.out.below hk.bel); have HSt2 := Lib.hid (dv_one X2 q2a q2n q2c); clear hh hk)
  | (refine wpList_store_row rfl 34 _ _ rfl B (De.dvC X2 (.slice q2a q2n q2c)).toArray rfl rfl 34 (De.dvC X1 (.slice q1a q1n q1c)).toArray (by with_reducible exact HBd.out) (HI.out _ _) rfl HSt2.out ?_))
 obtain ⟨we2, hwe⟩ : ∃ W, wd2.setRow B (De.dvC X2 (.slice q2a q2n q2c)).toArray = W := ⟨_, rfl⟩
 simp only [hwe]
 have HBe2 := Lib.hid (show we2.heap[B]? = some (.cells (De.dvC X2 (.slice q2a q2n q2c)).toArray 34 (0, 0)) from by rw [← hwe]; exact setRow_heap _ _ _ _ _ _ HBd.out)
 have HAe2 := Lib.hid (show we2.heap[A]? = some (.cells (De.dvC X2 (.slice p2a p2n p2c)).toArray 34 (0, 0)) from by rw [← hwe]; exact (setRow_other _ _ _ _ (by have := HAB.out; omega)).trans HAd2.out)
 have HKe2 := Lib.hid (show Kp [] w6 we2 from by rw [← hwe]; exact HKd2.out.setRow (.inr HBg.out) _)
 have HOe := Lib.hid (show De.Owns we2 wf1.heap.size (.slice p2a p2n p2c) X2.ats from HOd.out.keep fun b _ hb => by rw [← hwe]; exact setRow_other _ _ _ _ (by have h1 := ((show wd2.ownsRow wf1.heap.size 99 2 (.slice p2a p2n p2c) X2.ats.length (De.cellsP X2.ats) from HOd.out).lt b hb).1; have := HBl.out; omega))
 clear hwe HOb HOd t0 HBb HBd
 have HSa := Lib.hid (show Calls Tryz.prog 23 #[.agg #[.int .i64 X2.idx, .int .i64 X2.par, .string X2.name, .string X2.orig, .string X2.sub, .string X2.drv, .string X2.ali, .int .i64 X2.kind, .int .i64 X2.num, .slice p2a p2n p2c], .agg #[.int .i64 X2.idx, .int .i64 X2.par, .string X2.name, .string X2.orig, .string X2.sub, .string X2.drv, .string X2.ali, .int .i64 X2.kind, .int .i64 X2.num, .slice q2a q2n q2c]] we2 (fun e w' => e = .returned (.bool true) ∧ Kp [] we2 w') from HSame.out X2 (.slice p2a p2n p2c) (.slice q2a q2n q2c) we2 HOe.out.has (HHr.out.below HKe2.out.bel) HLen2.out)
 have da := (show De.BoxAt we2 A (De.dvC X2 (.slice p2a p2n p2c)).toArray from HAe2.out).cell
 have db := (show De.BoxAt we2 B (De.dvC X2 (.slice q2a q2n q2c)).toArray from HBe2.out).cell
 unfold De.dvC at da db
 go_upto_region 16 with (first
  | (go_at_call 23; refine Calls.mono (by with_reducible exact HSa.out) ?_; rintro e wf2 ⟨rfl, hk⟩; have HAf2 := Lib.hid ((hk.block A (block_lt HAe2.out) (by simp)).trans HAe2.out); have HBf2 := Lib.hid ((hk.block B (block_lt HBe2.out) (by simp)).trans HBe2.out); have HKwf2 := Lib.hid (HKe2.out.trans hk); have HBl := Lib.hid (block_lt HBf2.out); clear hk))
 clear HSa HOe HHr HSt HSt2 da db
 have t0 := HQk.out wf2 HKwf2.out
 go_upto_region 17 with (first
  | (go_at_call 26; refine Calls.mono (by with_reducible exact HP3.out _ HKwf2.out) ?_; rintro e wa3 ⟨p3a, p3n, p3c, rfl, hown, hk⟩; have HOw := Lib.hid hown; have HAa := Lib.hid ((hk.block A (block_lt HAf2.out) (by simp)).trans HAf2.out); have HBa := Lib.hid ((hk.block B (block_lt HBf2.out) (by simp)).trans HBf2.out); have HAl := Lib.hid (block_lt HAf2.out); have HKa3 := Lib.hid (HKwf2.out.trans hk); have HSt := Lib.hid (dv_one X3 p3a p3n p3c); clear hown hk)
  | (refine wpList_store_row rfl 34 _ _ rfl A (De.dvC X3 (.slice p3a p3n p3c)).toArray rfl rfl 34 (De.dvC X2 (.slice p2a p2n p2c)).toArray (by with_reducible exact HAa.out) (HI.out _ _) rfl HSt.out ?_))
 obtain ⟨wb3, hwb⟩ : ∃ W, wa3.setRow A (De.dvC X3 (.slice p3a p3n p3c)).toArray = W := ⟨_, rfl⟩
 simp only [hwb]
 have HAb3 := Lib.hid (show wb3.heap[A]? = some (.cells (De.dvC X3 (.slice p3a p3n p3c)).toArray 34 (0, 0)) from by rw [← hwb]; exact setRow_heap _ _ _ _ _ _ HAa.out)
 have HBb := Lib.hid (show wb3.heap[B]? = some (.cells (De.dvC X2 (.slice q2a q2n q2c)).toArray 34 (0, 0)) from by rw [← hwb]; exact (setRow_other _ _ _ _ (by have := HAB.out; omega)).trans HBa.out)
 have HKb3 := Lib.hid (show Kp [] w6 wb3 from by rw [← hwb]; exact HKa3.out.setRow (.inr HAg.out) _)
 have HOb := Lib.hid (show De.Owns wb3 wf2.heap.size (.slice p3a p3n p3c) X3.ats from HOw.out.keep fun b _ hb => by rw [← hwb]; exact setRow_other _ _ _ _ (by have h1 := ((show wa3.ownsRow wf2.heap.size 99 2 (.slice p3a p3n p3c) X3.ats.length (De.cellsP X3.ats) from HOw.out).lt b hb).1; have := HAl.out; omega))
 clear hwb HOw t0 HAa HBa
 have t0 := HQk.out wb3 HKb3.out
 go_upto_region 18 with (first
  | (go_at_call 27; refine Calls.mono (by with_reducible exact HR3.out _ HKb3.out) ?_; rintro e wd3 ⟨q3a, q3n, q3c, rfl, hh, hk⟩; have HHr := Lib.hid hh; have HKd3 := Lib.hid (HKb3.out.trans hk); have HAd3 := Lib.hid ((hk.block A (block_lt HAb3.out) (by simp)).trans HAb3.out); have HBd := Lib.hid ((hk.block B (block_lt HBb.out) (by simp)).trans HBb.out); have HOd := Lib.hid (HOb.out.below hk.bel); have HSt2 := Lib.hid (dv_one X3 q3a q3n q3c); clear hh hk)
  | (refine wpList_store_row rfl 34 _ _ rfl B (De.dvC X3 (.slice q3a q3n q3c)).toArray rfl rfl 34 (De.dvC X2 (.slice q2a q2n q2c)).toArray (by with_reducible exact HBd.out) (HI.out _ _) rfl HSt2.out ?_))
 obtain ⟨we3, hwe⟩ : ∃ W, wd3.setRow B (De.dvC X3 (.slice q3a q3n q3c)).toArray = W := ⟨_, rfl⟩
 simp only [hwe]
 have HBe3 := Lib.hid (show we3.heap[B]? = some (.cells (De.dvC X3 (.slice q3a q3n q3c)).toArray 34 (0, 0)) from by rw [← hwe]; exact setRow_heap _ _ _ _ _ _ HBd.out)
 have HAe3 := Lib.hid (show we3.heap[A]? = some (.cells (De.dvC X3 (.slice p3a p3n p3c)).toArray 34 (0, 0)) from by rw [← hwe]; exact (setRow_other _ _ _ _ (by have := HAB.out; omega)).trans HAd3.out)
 have HKe3 := Lib.hid (show Kp [] w6 we3 from by rw [← hwe]; exact HKd3.out.setRow (.inr HBg.out) _)
 have HOe := Lib.hid (show De.Owns we3 wf2.heap.size (.slice p3a p3n p3c) X3.ats from HOd.out.keep fun b _ hb => by rw [← hwe]; exact setRow_other _ _ _ _ (by have h1 := ((show wd3.ownsRow wf2.heap.size 99 2 (.slice p3a p3n p3c) X3.ats.length (De.cellsP X3.ats) from HOd.out).lt b hb).1; have := HBl.out; omega))
 clear hwe HOb HOd t0 HBb HBd
 have HSa := Lib.hid (show Calls Tryz.prog 23 #[.agg #[.int .i64 X3.idx, .int .i64 X3.par, .string X3.name, .string X3.orig, .string X3.sub, .string X3.drv, .string X3.ali, .int .i64 X3.kind, .int .i64 X3.num, .slice p3a p3n p3c], .agg #[.int .i64 X3.idx, .int .i64 X3.par, .string X3.name, .string X3.orig, .string X3.sub, .string X3.drv, .string X3.ali, .int .i64 X3.kind, .int .i64 X3.num, .slice q3a q3n q3c]] we3 (fun e w' => e = .returned (.bool true) ∧ Kp [] we3 w') from HSame.out X3 (.slice p3a p3n p3c) (.slice q3a q3n q3c) we3 HOe.out.has (HHr.out.below HKe3.out.bel) HLen3.out)
 have da := (show De.BoxAt we3 A (De.dvC X3 (.slice p3a p3n p3c)).toArray from HAe3.out).cell
 have db := (show De.BoxAt we3 B (De.dvC X3 (.slice q3a q3n q3c)).toArray from HBe3.out).cell
 unfold De.dvC at da db
 go_upto_region 20 with (first
  | (go_at_call 23; refine Calls.mono (by with_reducible exact HSa.out) ?_; rintro e wf3 ⟨rfl, hk⟩; have HAf3 := Lib.hid ((hk.block A (block_lt HAe3.out) (by simp)).trans HAe3.out); have HBf3 := Lib.hid ((hk.block B (block_lt HBe3.out) (by simp)).trans HBe3.out); have HKwf3 := Lib.hid (HKe3.out.trans hk); have HBl := Lib.hid (block_lt HBf3.out); clear hk))
 clear HSa HOe HHr HSt HSt2 da db
 have t0 := HQk.out wf3 HKwf3.out
 go_upto_region 21 with (first
  | (go_at_call 28; refine Calls.mono (by with_reducible exact HP4.out _ HKwf3.out) ?_; rintro e wa4 ⟨p4a, p4n, p4c, rfl, hown, hk⟩; have HOw := Lib.hid hown; have HAa := Lib.hid ((hk.block A (block_lt HAf3.out) (by simp)).trans HAf3.out); have HBa := Lib.hid ((hk.block B (block_lt HBf3.out) (by simp)).trans HBf3.out); have HAl := Lib.hid (block_lt HAf3.out); have HKa4 := Lib.hid (HKwf3.out.trans hk); have HSt := Lib.hid (dv_one X4 p4a p4n p4c); clear hown hk)
  | (refine wpList_store_row rfl 34 _ _ rfl A (De.dvC X4 (.slice p4a p4n p4c)).toArray rfl rfl 34 (De.dvC X3 (.slice p3a p3n p3c)).toArray (by with_reducible exact HAa.out) (HI.out _ _) rfl HSt.out ?_))
 obtain ⟨wb4, hwb⟩ : ∃ W, wa4.setRow A (De.dvC X4 (.slice p4a p4n p4c)).toArray = W := ⟨_, rfl⟩
 simp only [hwb]
 have HAb4 := Lib.hid (show wb4.heap[A]? = some (.cells (De.dvC X4 (.slice p4a p4n p4c)).toArray 34 (0, 0)) from by rw [← hwb]; exact setRow_heap _ _ _ _ _ _ HAa.out)
 have HBb := Lib.hid (show wb4.heap[B]? = some (.cells (De.dvC X3 (.slice q3a q3n q3c)).toArray 34 (0, 0)) from by rw [← hwb]; exact (setRow_other _ _ _ _ (by have := HAB.out; omega)).trans HBa.out)
 have HKb4 := Lib.hid (show Kp [] w6 wb4 from by rw [← hwb]; exact HKa4.out.setRow (.inr HAg.out) _)
 have HOb := Lib.hid (show De.Owns wb4 wf3.heap.size (.slice p4a p4n p4c) X4.ats from HOw.out.keep fun b _ hb => by rw [← hwb]; exact setRow_other _ _ _ _ (by have h1 := ((show wa4.ownsRow wf3.heap.size 99 2 (.slice p4a p4n p4c) X4.ats.length (De.cellsP X4.ats) from HOw.out).lt b hb).1; have := HAl.out; omega))
 clear hwb HOw t0 HAa HBa
 have t0 := HQk.out wb4 HKb4.out
 go_upto_region 22 with (first
  | (go_at_call 29; refine Calls.mono (by with_reducible exact HR4.out _ HKb4.out) ?_; rintro e wd4 ⟨q4a, q4n, q4c, rfl, hh, hk⟩; have HHr := Lib.hid hh; have HKd4 := Lib.hid (HKb4.out.trans hk); have HAd4 := Lib.hid ((hk.block A (block_lt HAb4.out) (by simp)).trans HAb4.out); have HBd := Lib.hid ((hk.block B (block_lt HBb.out) (by simp)).trans HBb.out); have HOd := Lib.hid (HOb.out.below hk.bel); have HSt2 := Lib.hid (dv_one X4 q4a q4n q4c); clear hh hk)
  | (refine wpList_store_row rfl 34 _ _ rfl B (De.dvC X4 (.slice q4a q4n q4c)).toArray rfl rfl 34 (De.dvC X3 (.slice q3a q3n q3c)).toArray (by with_reducible exact HBd.out) (HI.out _ _) rfl HSt2.out ?_))
 obtain ⟨we4, hwe⟩ : ∃ W, wd4.setRow B (De.dvC X4 (.slice q4a q4n q4c)).toArray = W := ⟨_, rfl⟩
 simp only [hwe]
 have HBe4 := Lib.hid (show we4.heap[B]? = some (.cells (De.dvC X4 (.slice q4a q4n q4c)).toArray 34 (0, 0)) from by rw [← hwe]; exact setRow_heap _ _ _ _ _ _ HBd.out)
 have HAe4 := Lib.hid (show we4.heap[A]? = some (.cells (De.dvC X4 (.slice p4a p4n p4c)).toArray 34 (0, 0)) from by rw [← hwe]; exact (setRow_other _ _ _ _ (by have := HAB.out; omega)).trans HAd4.out)
 have HKe4 := Lib.hid (show Kp [] w6 we4 from by rw [← hwe]; exact HKd4.out.setRow (.inr HBg.out) _)
 have HOe := Lib.hid (show De.Owns we4 wf3.heap.size (.slice p4a p4n p4c) X4.ats from HOd.out.keep fun b _ hb => by rw [← hwe]; exact setRow_other _ _ _ _ (by have h1 := ((show wd4.ownsRow wf3.heap.size 99 2 (.slice p4a p4n p4c) X4.ats.length (De.cellsP X4.ats) from HOd.out).lt b hb).1; have := HBl.out; omega))
 clear hwe HOb HOd t0 HBb HBd
 have HSa := Lib.hid (show Calls Tryz.prog 23 #[.agg #[.int .i64 X4.idx, .int .i64 X4.par, .string X4.name, .string X4.orig, .string X4.sub, .string X4.drv, .string X4.ali, .int .i64 X4.kind, .int .i64 X4.num, .slice p4a p4n p4c], .agg #[.int .i64 X4.idx, .int .i64 X4.par, .string X4.name, .string X4.orig, .string X4.sub, .string X4.drv, .string X4.ali, .int .i64 X4.kind, .int .i64 X4.num, .slice q4a q4n q4c]] we4 (fun e w' => e = .returned (.bool true) ∧ Kp [] we4 w') from HSame.out X4 (.slice p4a p4n p4c) (.slice q4a q4n q4c) we4 HOe.out.has (HHr.out.below HKe4.out.bel) HLen4.out)
 have da := (show De.BoxAt we4 A (De.dvC X4 (.slice p4a p4n p4c)).toArray from HAe4.out).cell
 have db := (show De.BoxAt we4 B (De.dvC X4 (.slice q4a q4n q4c)).toArray from HBe4.out).cell
 unfold De.dvC at da db
 go_wp2_with (first
  | (go_at_call 23; refine Calls.mono (by with_reducible exact HSa.out) ?_; rintro e wf4 ⟨rfl, hk⟩; have HAf4 := Lib.hid ((hk.block A (block_lt HAe4.out) (by simp)).trans HAe4.out); have HBf4 := Lib.hid ((hk.block B (block_lt HBe4.out) (by simp)).trans HBe4.out); have HKwf4 := Lib.hid (HKe4.out.trans hk); have HBl := Lib.hid (block_lt HBf4.out); clear hk)
  | (go_at_call 12; refine Calls.mono (by with_reducible exact HKn.out _ HKwf4.out) ?_; rintro e w10 ⟨rfl, hk10⟩; have HK10 := Lib.hid (HKwf4.out.trans hk10); clear hk10))
 go_ret
 exact ⟨rfl, HFin.out _ HK10.out⟩
end Go.Proofs.YtldcediiobfhiaaGreatDoor
