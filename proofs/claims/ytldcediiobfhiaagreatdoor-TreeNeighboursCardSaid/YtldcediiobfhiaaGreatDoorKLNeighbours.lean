/- TreeNeighbours: a subtree is a row of neighbours. -/
import Derived.Test.YtldcediiobfhiaaGreatDoorKSf
namespace Go.Proofs.YtldcediiobfhiaaGreatDoor
open Go.RowKit
set_option maxHeartbeats 16000000 in
set_option maxRecDepth 100000 in
theorem neighbours_walk (a0 : Option Addr) (n0 c0 : Nat) (w : World) (hm : De.Max w) (hi : Ints w w.heap.size (.slice a0 n0 c0)) : Calls Tryz.prog 11 #[.slice a0 n0 c0] w fun e w' => e = .returned (.bool true) ∧ Below w.heap.size w w' := by
 obtain ⟨tb, htb⟩ : ∃ tb, w.heap.size = tb := ⟨_, rfl⟩
 obtain ⟨W0, hW⟩ : ∃ W0, w.alloc (.cells #[.slice a0 n0 c0, .int .i64 0] 27) = W0 := ⟨_, rfl⟩
 have hk0 : Kp [] w W0 := by rw [← hW]; exact (Kp.refl [] w).alloc _
 have hT0 : Tp W0 tb 0 := by rw [← hW, ← htb]; exact tape_new hi
 have HTr0 := Lib.hid (tree10 (by omega) hT0 (hm.below hk0.bel))
 have HK0 := Lib.hid (show Kp [tb] w W0 from hk0.mono (by simp))
 have Htb := Lib.hid htb
 have H0t := Lib.hid (max_tp (hm.below hk0.bel) hT0)
 have HM0 := Lib.hid (hm.below hk0.bel)
 clear hk0 hT0 hi hm
 go_enter Tryz.func11, Tryz.ntmps11
 go_upto_region 3 with (first
  | (go_at_call 13; refine Calls.mono (by with_reducible exact HTr0.out) ?_; rintro e w1 ⟨va, N, vc, L, rfl, HN, hNc, hN10, HTr, k1, hk1, HT, HK1⟩; have H1v := Lib.hid (show (#[.slice va N vc] : Array Value).all (·.oneCell') = true from by simp [Value.oneCell']))
  | (refine De.wpList_store_new w1 29 _ #[.slice va N vc] rfl _ _ rfl rfl rfl info30b rfl H1v.out ?_))
 obtain ⟨Q, hQ⟩ : ∃ Q, w1.heap.size = Q := ⟨_, rfl⟩
 have hq1 := heap_alloc_last w1 (.cells #[.slice va N vc] 29)
 have hka := (Kp.refl [] w1).alloc (.cells #[.slice va N vc] 29)
 generalize w1.alloc (.cells #[.slice va N vc] 29) = w2 at *
 rw [hQ] at hq1 ⊢
 have HQ2 := Lib.hid hq1
 have t0 := cell_one hq1
 have HT2 := Lib.hid (HT.out.kp hka (by simp))
 have HTr2 := Lib.hid (HTr.out.kp hka)
 have HK2 := Lib.hid ((HK0.out.trans HK1.out).trans (hka.mono (by simp)))
 have HM2 := Lib.hid (MaxT (MaxT HM0.out H0t.out HK1.out) H0t.out (hka.mono (by simp)))
 have HQt := Lib.hid (show tb < Q from by rw [← hQ]; exact HT.out.lt)
 have HSm := Lib.hid (some_any (by omega) HT2.out HTr2.out (by omega))
 clear hq1 hka hQ HT HTr HTr0 HK1 hW htb
 go_upto_region 4 with (go_at_call 18; refine Calls.mono (by with_reducible exact HSm.out) ?_; rintro e w3 ⟨q, rfl, hqw, ⟨k3, hk3, hT3⟩, hkp3⟩; have HTr3 := Lib.hid (HTr2.out.kpT hkp3 (by omega)); have HQ3 := Lib.hid ((hkp3.block Q (block_lt HQ2.out) (by have := HQt.out; simp; omega)).trans HQ2.out); have HK3 := Lib.hid (HK2.out.trans hkp3); have HM3 := Lib.hid (MaxT HM2.out H0t.out hkp3); have HQw := Lib.hid hqw; have HT3 := Lib.hid hT3; clear hT3 hkp3 hqw t0)
 have HTok := Lib.hid (tree_tok HTr3.out (by omega))
 have hcap : ∀ a n c, (Value.slice va N vc) = .slice a n c → n ≤ c := fun a n c e => by injection e with e1 e2 e3; omega
 have HV := Lib.hid HTr3.out.val
 have hn6 : L.length ≤ 1000000 := by have := HTok.out.n; omega
 have hal : ∀ x ∈ L, x.1.ats.length ≤ 1000000 := fun x hx => by have := (HTr3.out.sml x hx).2; omega
 obtain ⟨A4, hA4⟩ : ∃ A, (L.map (·.1)).filter (fun e => De.bel (L.map (·.1)) e q) = A := ⟨_, rfl⟩
 have HA4 := Lib.hid hA4
 have HB4 := Lib.hid (show A4.length ≤ 1000000 ∧ ∀ a ∈ A4, a.ats.length ≤ 1000000 from by
  rw [← hA4]
  refine ⟨?_, fun a ha => ?_⟩
  ·have := List.length_filter_le (fun e => De.bel (L.map (·.1)) e q) (L.map (·.1))
   rw [List.length_map] at this
   omega
  ·obtain ⟨x, hx, rfl⟩ := List.mem_map.1 (List.mem_filter.1 ha).1
   exact hal x hx)
 have HC38 := Lib.hid (show Calls Tryz.prog 38 #[.agg #[.slice va N vc], .int .i64 q] w3 (LPn A4 w3) from (De.subtree_any (.slice va N vc) L q w3 hn6 hal HTr3.out.any.has hcap HTok.out.wi HTok.out.wp HQw.out).mono fun e w' ⟨u, L1, he, h1, h2, _, h3⟩ => lpn_of he (h1.trans ((De.sub_eq HV.out q).trans hA4)) h2 h3)
 have HOr := Lib.hid (fun (z : Int) (hz : (Lit.int .i64 z).wf = true) W (hk : Kp [] w3 W) => De.origin_any (.slice va N vc) L z W HTok.out (HTr3.out.any.has.below hk.bel) hcap hz)
 have HKn := Lib.hid (fun W (hk : Kp [] w3 W) => De.known_any W (HM3.out.below hk.bel))
 have HFin := Lib.hid (fun (w' : World) (hk : Kp [] w3 w') => (show Below w.heap.size w w' from (HK3.out.trans (hk.mono (by simp))).below (Nat.le_refl _) (by intro x hx; simp at hx; have := Htb.out; omega)))
 clear hA4 hal hn6 hcap HTr2 HT2 HK2 HSm
 have t0 := cell_one HQ3.out
 go_upto_region 5 with (go_at_call 38; refine Calls.mono (by with_reducible exact HC38.out) ?_; rintro e w4 ⟨sa, sc, L4, rfl, HL4, HD4, HK4⟩)
 have HQ4 := Lib.hid ((HK4.out.block Q (block_lt HQ3.out) (by simp)).trans HQ3.out)
 clear t0
 have t0 := cell_one HQ4.out
 cases hgl : De.gotL L q with
 | none =>
  have HA0 := Lib.hid (show A4.length = 0 from by
   rw [← HA4.out, List.filter_eq_nil_iff.2 (fun e _ => by rw [De.bel_none (got_none hgl) e]; simp)]
   rfl)
  have HO0 := Lib.hid (show Calls Tryz.prog 30 #[.agg #[.slice va N vc], .int .i64 q] w4 fun e w' => ∃ u, e = .returned (.tuple #[.string u, .bool false]) ∧ Kp [] w3 w' from (HOr.out q HQw.out w4 HK4.out).mono fun e w' ⟨u, he, hu, hk2⟩ => ⟨u, by
   rw [he, trl_some, hgl]
   rfl, HK4.out.trans hk2⟩)
  obtain ⟨AL, hAL⟩ : ∃ n, A4.length = n := ⟨_, rfl⟩
  have hz := HA0.out
  rw [hAL] at hz ⊢
  subst hz
  clear hgl hAL
  go_wp2_with (first
   | (go_at_call 30; refine Calls.mono (by with_reducible exact HO0.out) ?_; rintro e w5 ⟨u, rfl, hk5⟩; have HK5 := Lib.hid hk5; clear hk5)
   | (go_at_call 12; refine Calls.mono (by with_reducible exact HKn.out _ HK5.out) ?_; rintro e w6 ⟨rfl, hk6⟩; have HK6 := Lib.hid (HK5.out.trans hk6); clear hk6))
  go_ret
  exact ⟨rfl, HFin.out _ HK6.out⟩
 | some d =>
  obtain ⟨p, hp, hpq⟩ := got_at hgl
  have hdm := List.mem_of_getElem? hp
  have hpN : p < N := by rw [← HN.out]; exact (List.getElem?_eq_some_iff.1 hp).1
  have hpa := map_at hp
  obtain ⟨OD, hOD⟩ : ∃ O, De.pth (De.org (L.map (·.1)) d.1) = O := ⟨_, rfl⟩
  have htr := trlO_at HV.out hdm
  rw [hpq, hOD] at htr
  have HO0 := Lib.hid (show Calls Tryz.prog 30 #[.agg #[.slice va N vc], .int .i64 q] w4 fun e w' => e = .returned (.tuple #[.string (bs OD), .bool true]) ∧ Kp [] w4 w' from (HOr.out q HQw.out w4 HK4.out).mono fun e w' ⟨u, he, hu, hk2⟩ => ⟨by
   rw [he, De.bytes_of hu, htr]
   rfl, hk2⟩)
  have HOD := Lib.hid hOD
  have HDz := Lib.hid (org_sz HV.out HTok.out.o HTok.out.n hdm)
  have HPQ := Lib.hid hpq
  have HPA := Lib.hid hpa
  have HDM := Lib.hid (show d.1 ∈ L.map (·.1) from List.mem_map.2 ⟨d, hdm, rfl⟩)
  obtain ⟨g, o, rfl, hcp, hg, hrow⟩ := row_of HTr3.out.any.has hp
  have HRow := Lib.hid hrow
  have Hg := Lib.hid hg
  clear hgl htr hOD hpq hpa hrow hg hdm
  go_upto_region 8 with (go_at_call 30; refine Calls.mono (by with_reducible exact HO0.out) ?_; rintro e w5 ⟨rfl, hk5⟩; have HK45 := Lib.hid hk5; have HK5 := Lib.hid (HK4.out.trans hk5); clear hk5)
  clear t0
  have HQk := Lib.hid (fun W (hk : Kp [] w5 W) => cell_one (((HK5.out.trans hk).block Q (block_lt HQ3.out) (by simp)).trans HQ3.out))
  have HAlen := Lib.hid (show A4 = ((L.map (·.1)).drop p).take A4.length from by
   have := sub_row HV.out HPA.out
   rw [HPQ.out, HA4.out] at this
   exact this)
  have hAle : p + A4.length ≤ N := by
   have h1 := congrArg List.length HAlen.out
   rw [List.length_take, List.length_drop, List.length_map, HN.out] at h1
   omega
  obtain ⟨M, hM⟩ : ∃ n, A4.length = n := ⟨_, rfl⟩
  have HMl := Lib.hid hM
  rw [hM] at hAle ⊢
  have HSz := Lib.hid (show (bs OD).size ≤ 4611686018427387904 from by
   rw [bs_size, ← HOD.out]
   exact HDz.out)
  clear hM
  go_wp2
  go_loopw [9, 10, 11] (fun s9 s10 s11 wx => ∃ i : Nat, i ≤ N ∧ s11 = .int .i64 (i : Int) ∧ s9 = .int .i64 (if p < i then (p : Int) else -1) ∧ s10 = .int .i64 ((((L.map (·.1)).take i).filter fun e => De.bel (L.map (·.1)) e q).length : Int) ∧ Kp [] w5 wx) (fun _ _ s11 _ => N - (intOf s11).toNat)
  case atStart => exact ⟨0, by omega, rfl, by rw [if_neg (Nat.not_lt_zero p)], rfl, Kp.refl [] _⟩
  case round =>
   obtain ⟨i, hi, rfl, rfl, rfl, hkx⟩ := hrel
   have HKx := Lib.hid hkx
   have t0 := HQk.out _ hkx
   clear hkx
   by_cases hlt : i < N
   ·have hiz : (i : Int) < (N : Int) := by omega
    obtain ⟨x, hx⟩ : ∃ x, L[i]? = some x := ⟨L[i]'(by rw [HN.out]; exact hlt), List.getElem?_eq_getElem _⟩
    have hxm := List.mem_of_getElem? hx
    have HXm := Lib.hid (show x.1 ∈ L.map (·.1) from List.mem_map.2 ⟨x, hxm, rfl⟩)
    have HIx := Lib.hid (show ∀ W, Kp [] w5 W → W.cell? ⟨g, o + i * 10, none⟩ = some (.int .i64 x.1.idx) from fun W hk => (HRow.out.below Hg.out (HK5.out.trans hk).bel).at_ i x hx 0 _ rfl)
    obtain ⟨OI, hOI⟩ : ∃ O, De.pth (De.org (L.map (·.1)) x.1) = O := ⟨_, rfl⟩
    have htx := trlO_at HV.out hxm
    rw [hOI] at htx
    have HOi := Lib.hid (show ∀ W, Kp [] w5 W → Calls Tryz.prog 30 #[.agg #[.slice (some ⟨g, o, none⟩) N vc], .int .i64 x.1.idx] W fun e w' => e = .returned (.tuple #[.string (bs OI), .bool true]) ∧ Kp [] W w' from fun W hk => (HOr.out x.1.idx (HTok.out.wi x hxm) W (HK5.out.trans hk)).mono fun e w' ⟨u, he, hu, hk2⟩ => ⟨by
     rw [he, De.bytes_of hu, htx]
     rfl, hk2⟩)
    have hbb := ben_bel HV.out HDM.out HXm.out
    rw [HPQ.out, HOD.out, hOI] at hbb
    obtain ⟨bw, hbw⟩ : ∃ b, Nm.benB OD OI = b := ⟨_, rfl⟩
    rw [hbw] at hbb
    have HUn := Lib.hid (show ∀ W, Calls Tryz.prog 48 #[.string (bs OD), .string (bs OI)] W fun e w' => e = .returned (.tuple #[.bool bw, .int .i64 0]) ∧ Kp [] W w' from fun W => (Nm.under_any (bs OD) (bs OI) W HSz.out (by
     rw [bs_size, ← hOI]
     exact org_sz HV.out HTok.out.o HTok.out.n hxm)).mono fun e w' ⟨he, hb⟩ => ⟨by
     have e1 := org_path HV.out HDM.out
     have e2 := org_path HV.out HXm.out
     rw [HOD.out] at e1
     rw [hOI] at e2
     rw [he, bs_data, bs_data, Nm.underB, e1, e2, hbw]
     rfl, Kp.of_below hb⟩)
    have HTs := Lib.hid (take_succ_filter (P := fun e => De.bel (L.map (·.1)) e q) (map_at hx))
    have HPi := Lib.hid (show x.1.idx = q → i = p from fun e => by
     have h1 := De.uniq_at HV.out.tidy.uniq (map_at hx) HPA.out (e.trans HPQ.out.symm)
     exact h1.1)
    have HIp := Lib.hid (show i = p → x.1.idx = q from fun e => by
     subst e
     have h1 := map_at hx
     rw [HPA.out] at h1
     rw [← Option.some.inj h1]
     exact HPQ.out)
    have HBs := Lib.hid (show x.1.idx = q → bw = false from fun e => by
     have h1 := De.uniq_mem HV.out.tidy HXm.out HDM.out (e.trans HPQ.out.symm)
     rw [h1, HOD.out] at hOI
     rw [← hbw, ← hOI, ← HOD.out]
     exact ben_self HV.out HDM.out)
    have HCi := Lib.hid (show (((L.map (·.1)).take i).filter fun e => De.bel (L.map (·.1)) e q).length ≤ i from by
     have h1 := List.length_filter_le (fun e => De.bel (L.map (·.1)) e q) ((L.map (·.1)).take i)
     have h2 := List.length_take_le i (L.map (·.1))
     omega)
    obtain ⟨C, hC⟩ : ∃ C, (((L.map (·.1)).take i).filter fun e => De.bel (L.map (·.1)) e q).length = C := ⟨_, rfl⟩
    obtain ⟨C2, hC2⟩ : ∃ C, (((L.map (·.1)).take (i + 1)).filter fun e => De.bel (L.map (·.1)) e q).length = C := ⟨_, rfl⟩
    rw [hC, hC2] at HTs
    rw [hC] at HCi ⊢
    have HC2 := Lib.hid hC2
    have HBb := Lib.hid hbb
    have hCl : C ≤ 1000000 := by have := HCi.out; have := HTok.out.n; have := HN.out; omega
    have hil : i ≤ 1000000 := by have := HTok.out.n; have := HN.out; omega
    clear hx hxm htx hOI hbb hbw hC hC2
    obtain ⟨z9, hz9⟩ : ∃ z : Int, (if p < i then (p : Int) else -1) = z := ⟨_, rfl⟩
    have HZ9 := Lib.hid hz9
    rw [hz9]
    clear hz9
    go_upto_region 12 with fail
    refine wp_region_held_drew (S := fun W => Kp [] w5 W) (by kernel_rfl) (HKx.out.drew 1) (fun hHeld => ?_)
    generalize hwd : wr.drew = wd at *
    clear hwd
    refine wpAnyH_take (i := 0) (oi := { dst := some 49, op := Op.load 29 (Operand.tmp 4), type := 29, pos := "law.go:237", after := #[], guard := none }) (v := .agg #[.slice (some ⟨g, o, none⟩) N vc]) rfl (by kernel_rfl) (by kernel_rfl) (by kernel_rfl) (fun _ _ _ h => h) (Or.inl ⟨by rfl, fun w hSw => by (try dsimp only at hSw); have t0 := HQk.out _ hSw; go_simp⟩) hHeld ?_
    try simp only [Act.put, List.setIfInBounds_toArray, List.set_cons_zero, List.set_cons_succ]
    refine wpAnyH_take (i := 1) (oi := { dst := some 50, op := Op.fieldAddr 29 (Operand.tmp 4) 0, type := 0, pos := "law.go:237", after := #[], guard := none }) (v := .pointer (some ⟨Q, 0, none⟩)) rfl (by kernel_rfl) (by kernel_rfl) (by kernel_rfl) (fun _ _ _ h => h) (Or.inl ⟨by rfl, fun w hSw => by (try dsimp only at hSw); go_simp⟩) hHeld ?_
    try simp only [Act.put, List.setIfInBounds_toArray, List.set_cons_zero, List.set_cons_succ]
    refine wpAnyH_take (i := 2) (oi := { dst := some 51, op := Op.load 22 (Operand.tmp 50), type := 22, pos := "law.go:237", after := #[{ on := 1, ground := Ground.data }], guard := none }) (v := .slice (some ⟨g, o, none⟩) N vc) rfl (by kernel_rfl) (by kernel_rfl) (by kernel_rfl) (fun _ _ _ h => h) (Or.inl ⟨by rfl, fun w hSw => by (try dsimp only at hSw); have t0 := HQk.out _ hSw; go_simp⟩) hHeld ?_
    try simp only [Act.put, List.setIfInBounds_toArray, List.set_cons_zero, List.set_cons_succ]
    refine wpAnyH_take (i := 3) (oi := { dst := some 52, op := Op.move (Operand.tmp 11), type := 3, pos := "law.go:237", after := #[], guard := none }) (v := .int .i64 (i : Int)) rfl (by kernel_rfl) (by kernel_rfl) (by kernel_rfl) (fun _ _ _ h => h) (Or.inl ⟨by rfl, fun w hSw => by (try dsimp only at hSw); go_simp⟩) hHeld ?_
    try simp only [Act.put, List.setIfInBounds_toArray, List.set_cons_zero, List.set_cons_succ]
    refine wpAnyH_take (i := 4) (oi := { dst := some 53, op := Op.indexAddr 22 (Operand.tmp 51) (Operand.tmp 52), type := 0, pos := "law.go:237", after := #[{ on := 2, ground := Ground.data }, { on := 3, ground := Ground.data }], guard := none }) (v := .pointer (some ⟨g, o + i * 10, none⟩)) rfl (by kernel_rfl) (by kernel_rfl) (by kernel_rfl) (fun _ _ _ h => h) (Or.inl ⟨by rfl, fun w hSw => by (try dsimp only at hSw); go_simp⟩) hHeld ?_
    try simp only [Act.put, List.setIfInBounds_toArray, List.set_cons_zero, List.set_cons_succ]
    refine wpAnyH_take (i := 5) (oi := { dst := some 54, op := Op.fieldAddr 34 (Operand.tmp 53) 0, type := 0, pos := "law.go:237", after := #[{ on := 4, ground := Ground.data }], guard := none }) (v := .pointer (some ⟨g, o + i * 10, none⟩)) rfl (by kernel_rfl) (by kernel_rfl) (by kernel_rfl) (fun _ _ _ h => h) (Or.inl ⟨by rfl, fun w hSw => by (try dsimp only at hSw); go_simp⟩) hHeld ?_
    try simp only [Act.put, List.setIfInBounds_toArray, List.set_cons_zero, List.set_cons_succ]
    refine wpAnyH_take (i := 6) (oi := { dst := some 55, op := Op.load 3 (Operand.tmp 54), type := 3, pos := "law.go:237", after := #[{ on := 5, ground := Ground.data }], guard := none }) (v := .int .i64 x.1.idx) rfl (by kernel_rfl) (by kernel_rfl) (by kernel_rfl) (fun _ _ _ h => h) (Or.inl ⟨by rfl, fun w hSw => by (try dsimp only at hSw); have t1 := HIx.out _ hSw; go_simp⟩) hHeld ?_
    try simp only [Act.put, List.setIfInBounds_toArray, List.set_cons_zero, List.set_cons_succ]
    refine wpAnyH_ready (rs := [7]) (by kernel_rfl) (by simp) ?_
    refine AllReadyH.cons (o := { dst := some 56, op := Op.call { callee := Callee.value (Operand.func 30), args := #[Operand.tmp 49, Operand.tmp 55], argTypes := #[29, 3] }, type := 47, pos := "law.go:237", after := #[{ on := 0, ground := Ground.data }, { on := 6, ground := Ground.data }], guard := none }) rfl (fun K hK => ?_) AllReadyH.nil
    go_simp
    go_at_call 30
    refine Calls.mono (by with_reducible exact HOi.out _ hHeld) ?_
    rintro e V ⟨rfl, hkv⟩
    dsimp only
    have HSv := Lib.hid (hHeld.trans hkv)
    clear hkv
    clear hHeld
    refine hK.out _ _ HSv.out (fun hHeld => ?_)
    try simp only [Act.put, List.setIfInBounds_toArray, List.set_cons_zero, List.set_cons_succ]
    clear hK
    refine wpAnyH_take (i := 8) (oi := { dst := some 48, op := Op.move (Operand.tmp 56), type := 47, pos := "law.go:237", after := #[{ on := 7, ground := Ground.data }], guard := none }) (v := .tuple #[.string (bs OI), .bool true]) rfl (by kernel_rfl) (by kernel_rfl) (by kernel_rfl) (fun _ _ _ h => h) (Or.inl ⟨by rfl, fun w hSw => by (try dsimp only at hSw); go_simp⟩) hHeld ?_
    try simp only [Act.put, List.setIfInBounds_toArray, List.set_cons_zero, List.set_cons_succ]
    refine wpAnyH_take (i := 9) (oi := { dst := some 57, op := Op.extract (Operand.tmp 48) 0, type := 9, pos := "law.go:237", after := #[{ on := 8, ground := Ground.data }], guard := none }) (v := .string (bs OI)) rfl (by kernel_rfl) (by kernel_rfl) (by kernel_rfl) (fun _ _ _ h => h) (Or.inl ⟨by rfl, fun w hSw => by (try dsimp only at hSw); go_simp⟩) hHeld ?_
    try simp only [Act.put, List.setIfInBounds_toArray, List.set_cons_zero, List.set_cons_succ]
    refine wpAnyH_take (i := 10) (oi := { dst := some 58, op := Op.extract (Operand.tmp 48) 1, type := 4, pos := "law.go:237", after := #[{ on := 8, ground := Ground.data }, { on := 11, ground := Ground.gcOnly Departure.lateStores }], guard := none }) (v := .bool true) rfl (by kernel_rfl) (by kernel_rfl) (by kernel_rfl) (fun _ _ _ h => h) (Or.inl ⟨by rfl, fun w hSw => by (try dsimp only at hSw); go_simp⟩) hHeld ?_
    try simp only [Act.put, List.setIfInBounds_toArray, List.set_cons_zero, List.set_cons_succ]
    refine wpAnyH_take (i := 11) (oi := { dst := some 12, op := Op.assign (Operand.tmp 57), type := 9, pos := "law.go:237", after := #[{ on := 9, ground := Ground.data }, { on := 7, ground := Ground.chain }, { on := 0, ground := Ground.phase }, { on := 1, ground := Ground.phase }, { on := 2, ground := Ground.phase }, { on := 3, ground := Ground.phase }, { on := 4, ground := Ground.phase }, { on := 5, ground := Ground.phase }, { on := 6, ground := Ground.phase }, { on := 7, ground := Ground.phase }, { on := 8, ground := Ground.phase }, { on := 9, ground := Ground.phase }, { on := 10, ground := Ground.textOnly Departure.lateStores }], guard := none }) (v := .string (bs OI)) rfl (by kernel_rfl) (by kernel_rfl) (by kernel_rfl) (fun _ _ _ h => h) (Or.inl ⟨by rfl, fun w hSw => by (try dsimp only at hSw); go_simp⟩) hHeld ?_
    try simp only [Act.put, List.setIfInBounds_toArray, List.set_cons_zero, List.set_cons_succ]
    refine wpAnyH_take (i := 12) (oi := { dst := some 13, op := Op.assign (Operand.tmp 58), type := 4, pos := "law.go:237", after := #[{ on := 10, ground := Ground.data }, { on := 11, ground := Ground.chain }, { on := 0, ground := Ground.phase }, { on := 1, ground := Ground.phase }, { on := 2, ground := Ground.phase }, { on := 3, ground := Ground.phase }, { on := 4, ground := Ground.phase }, { on := 5, ground := Ground.phase }, { on := 6, ground := Ground.phase }, { on := 7, ground := Ground.phase }, { on := 8, ground := Ground.phase }, { on := 9, ground := Ground.phase }, { on := 10, ground := Ground.phase }, { on := 11, ground := Ground.phase }], guard := none }) (v := .bool true) rfl (by kernel_rfl) (by kernel_rfl) (by kernel_rfl) (fun _ _ _ h => h) (Or.inl ⟨by rfl, fun w hSw => by (try dsimp only at hSw); go_simp⟩) hHeld ?_
    try simp only [Act.put, List.setIfInBounds_toArray, List.set_cons_zero, List.set_cons_succ]
    refine wpAnyH_done (by kernel_rfl) ?_ _
    clear hHeld
    have t0 := HQk.out _ HSv.out
    have t1 := HIx.out _ HSv.out
    by_cases hq : x.1.idx = q
    ·have hbf := HBs.out hq
     subst hbf
     have hip := HPi.out hq
     have hb1 := HBb.out
     rw [hq, beq_self_eq_true, Bool.or_true] at hb1
     have HT1 := Lib.hid (show C2 = C + 1 from by have h1 := HTs.out; rw [← hb1] at h1; simpa using h1)
     have HE9 := Lib.hid (show (i : Int) = if p < i + 1 then (p : Int) else -1 from by rw [if_pos (by omega), hip])
     have hwc : IntKind.i64.wrap ((C : Int) + 1) = ((C + 1 : Nat) : Int) := by rw [IntKind.wrap_i64]; omega
     rw [hq] at HIx t1
     clear hb1 hq hip
     go_wp2_with (go_at_call 48; refine Calls.mono (by with_reducible exact HUn.out _) ?_; rintro e V2 ⟨rfl, hk2⟩; have HS2 := Lib.hid (HSv.out.trans hk2); have t0 := HQk.out _ HS2.out; have t1 := HIx.out _ HS2.out; clear hk2)
     exact ⟨⟨i + 1, by omega, rfl, by rw [← HE9.out], by rw [HC2.out, HT1.out]; rfl, HS2.out⟩, by simp [intOf]; omega⟩
    ·have hqb : (x.1.idx == q) = false := by simpa using hq
     have HE9 := Lib.hid (show z9 = if p < i + 1 then (p : Int) else -1 from by
      rw [← HZ9.out]
      by_cases h1 : p < i
      ·rw [if_pos h1, if_pos (by omega)]
      ·rw [if_neg h1, if_neg (fun h2 => hq (HIp.out (by omega)))])
     cases bw with
     | true =>
      have HT1 := Lib.hid (show C2 = C + 1 from by have h1 := HTs.out; rw [← HBb.out] at h1; simpa using h1)
      have hwc : IntKind.i64.wrap ((C : Int) + 1) = ((C + 1 : Nat) : Int) := by rw [IntKind.wrap_i64]; omega
      clear hqb
      go_wp2_with (go_at_call 48; refine Calls.mono (by with_reducible exact HUn.out _) ?_; rintro e V2 ⟨rfl, hk2⟩; have HS2 := Lib.hid (HSv.out.trans hk2); have t0 := HQk.out _ HS2.out; have t1 := HIx.out _ HS2.out; clear hk2)
      exact ⟨⟨i + 1, by omega, rfl, by rw [← HE9.out], by rw [HC2.out, HT1.out]; rfl, HS2.out⟩, by simp [intOf]; omega⟩
     | false =>
      have HT1 := Lib.hid (show C2 = C from by have h1 := HTs.out; rw [← HBb.out, hqb] at h1; simpa using h1)
      clear hqb
      go_wp2_with (go_at_call 48; refine Calls.mono (by with_reducible exact HUn.out _) ?_; rintro e V2 ⟨rfl, hk2⟩; have HS2 := Lib.hid (HSv.out.trans hk2); have t0 := HQk.out _ HS2.out; have t1 := HIx.out _ HS2.out; clear hk2)
      exact ⟨⟨i + 1, by omega, rfl, by rw [← HE9.out], by rw [HC2.out, HT1.out], HS2.out⟩, by simp [intOf]; omega⟩
   ·obtain rfl : i = N := by omega
    have hiz : ¬ (i : Int) < (i : Int) := by omega
    rw [if_pos hpN]
    have hfl : (((L.map (·.1)).take i).filter fun e => De.bel (L.map (·.1)) e q).length = M := by
     rw [List.take_of_length_le (by rw [List.length_map, HN.out]; exact Nat.le_refl _), HA4.out]
     exact HMl.out
    rw [hfl]
    have hv1 : vc ≠ p := by omega
    have hm6 : M ≤ 1000000 := by have := HB4.out.1; have := HMl.out; omega
    have hi6 : i ≤ 100000 := by have := HTok.out.n; have := HN.out; omega
    have hpi : (p : Int) + (M : Int) ≤ (i : Int) := by omega
    have hwp : IntKind.i64.wrap ((p : Int) + (M : Int)) = ((p + M : Nat) : Int) := by rw [IntKind.wrap_i64]; omega
    have HSm := Lib.hid (show Calls Tryz.prog 33 #[.slice sa M sc, .slice (some ⟨g, o + p * 10, none⟩) M (vc - p)] wr fun e w' => e = .returned (.bool true) ∧ Kp [] wr w' from
     same33_any _ _ L4 ((L.drop p).take M) A4 wr HB4.out.1 HB4.out.2 HL4.out (by
      rw [List.map_take, List.map_drop, ← HMl.out]
      exact HAlen.out.symm) (by
      rw [← HMl.out]
      exact HD4.out.below (HK45.out.trans HKx.out).bel) (.inr ⟨g, o + p * 10, vc - p, by
       rw [List.length_take, List.length_drop, HN.out, Nat.min_eq_left (by omega)], by rw [List.length_take]; omega, Nat.lt_of_lt_of_le Hg.out (HK5.out.trans HKx.out).size, DRow.take (DRow.drop (HRow.out.below Hg.out (HK5.out.trans HKx.out).bel) p) M⟩))
    have HK3x := Lib.hid (HK5.out.trans HKx.out)
    go_wp2_with (first
     | (go_at_call 33; refine Calls.mono (by with_reducible exact HSm.out) ?_; rintro e w6 ⟨rfl, hk6⟩; have HK6 := Lib.hid (HK3x.out.trans hk6); clear hk6)
     | (go_at_call 12; refine Calls.mono (by with_reducible exact HKn.out _ HK6.out) ?_; rintro e w7 ⟨rfl, hk7⟩; have HK7 := Lib.hid (HK6.out.trans hk7); clear hk7))
    go_ret
    exact ⟨rfl, HFin.out _ HK7.out⟩
end Go.Proofs.YtldcediiobfhiaaGreatDoor
