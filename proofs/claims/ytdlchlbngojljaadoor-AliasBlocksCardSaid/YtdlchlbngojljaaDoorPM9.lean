/- The reference: Matches, Found. The reference's Put: a text goes into an ascending row, once. The reference's Find. -/
import Derived.Test.YtdlchlbngojljaaDoorPM
import Derived.Test.YtdlchlbngojljaaDoorPRg
import Derived.Test.YtdlchlbngojljaaDoorPVV
import Derived.Test.YtdlchlbngojljaaDoorPM2
import Derived.Sort.Walk0
namespace Go.Proofs.YtdlchlbngojljaaDoor
open Go.RowKit Go.Maps
theorem rmatch_G (p s : Tx) (w : World) (hp : p.length ≤ 1000000) (hs : s.length ≤ 4611686018427387000) : Calls Tryd.prog 41 #[.string (bs p), .string (bs s)] w (fun e w' => e = .returned (.bool (hitG p s)) ∧ Kp [] w w') :=
 (Gl.refMatch_any (bs p) (bs s) w (by rw [bs_size]; omega) (by rw [bs_size]; omega)).mono fun e w' h => ⟨by rw [h.1, bs_data, bs_data], Kp.of_bel h.2⟩
theorem any_take_no {α : Type} {f : α → Bool} {l : List α} {i : Nat} {x : α} (hx : l[i]? = some x) (h : ∀ k ∈ l.take i, f k = false) (e : f x = false) : ∀ k ∈ l.take (i + 1), f k = false := by
 rw [List.take_add_one, hx]
 intro k hk
 rcases List.mem_append.1 hk with h1 | h1
 ·exact h k h1
 ·simp only [Option.toList, List.mem_singleton] at h1
  rw [h1]; exact e
theorem any_all {α : Type} {f : α → Bool} {l : List α} {i : Nat} (hi : l.length ≤ i) (h : ∀ k ∈ l.take i, f k = false) : l.any f = false := by
 rw [List.take_of_length_le hi] at h
 exact List.any_eq_false.2 fun k hk => by rw [h k hk]; simp
theorem any_hit {α : Type} {f : α → Bool} {l : List α} {i : Nat} {x : α} (hx : l[i]? = some x) (e : f x = true) : l.any f = true := List.any_eq_true.2 ⟨x, List.mem_of_getElem? hx, e⟩
theorem yieldsIf_me {ops : Array Oper} {S : World → Prop} {op : Oper} {a : Act} (hw : Region.wanted op (yielded ops a.tmps) = true) (x : Operand) (ho : op.op = .load 51 x)
  (b o : Nat) (hx : a.eval x = .pointer (some ⟨b, o, none⟩)) (m : Me) (hS : ∀ w, S w → w.rangeAt b o (meC m).toList) : YieldsIf Tryd.prog ops S op (.agg (meC m)) a := by
 have h := yieldsIf_load_mid (P := Tryd.prog) (S := S) hw 51 x ho b o hx (meC m).toList _ hS Tryd.underlying51 rfl info51
 rwa [Array.toArray_toList] at h
theorem yieldsIf_cf {ops : Array Oper} {S : World → Prop} {op : Oper} {a : Act} (hw : Region.wanted op (yielded ops a.tmps) = true) (x : Operand) (ho : op.op = .load 31 x)
  (b : Nat) (hx : a.eval x = .pointer (some ⟨b, 0, none⟩)) (cs : Array Value) (hS : ∀ w, S w → w.heap[b]? = some (.cells cs 31 (0, 0))) (hi : (Tryd.prog.info? 31).map (·.size) = some cs.size) : YieldsIf Tryd.prog ops S op (.agg cs) a := by
 have h := yieldsIf_load_mid (P := Tryd.prog) (S := S) hw 31 x ho b 0 hx cs.toList _ (fun w hw' j u hj => by
  rw [Nat.zero_add, cell_of_row _ _ _ _ _ _ (hS w hw')]
  simpa using hj) Tryd.underlying31 rfl (by simpa using hi)
 rwa [Array.toArray_toList] at h
set_option maxHeartbeats 4000000 in
set_option maxRecDepth 100000 in
theorem refMatches_any {w : World} {A : Nat} {x : Me} {al : List Tx} (s : Tx) (hs : s.length ≤ 4611686018427387000) (hl : al.length ≤ 1000000) (hp : ∀ p ∈ al, p.length ≤ 1000000) (hU : stT.HasB A w x.al.v al) :
  Calls Tryd.prog 40 #[.agg (meC x), .string (bs s)] w fun e w' => e = .returned (.bool (!s.isEmpty && al.any fun p => hitG p s)) ∧ Kp [] w w' := by
 have hra := heap_alloc_last w (.cells (meC x) 51)
 have hka := (Kp.refl [] w).alloc (.cells (meC x) 51)
 obtain ⟨P, hP⟩ : ∃ R, w.heap.size = R := ⟨_, rfl⟩
 obtain ⟨W, hW⟩ : ∃ W, w.alloc (.cells (meC x) 51) = W := ⟨_, rfl⟩
 rw [hP, hW] at hra
 rw [hW] at hka
 have hUW := hU.kp hka (by simp)
 obtain ⟨ua, hua⟩ : ∃ u, x.al.v = u := ⟨_, rfl⟩
 have HPc := Lib.hid (show ∀ V, Kp [] W V → V.cell? ⟨P, 1, none⟩ = some ua from fun V hV => by rw [cell_of_row _ _ _ _ _ _ ((hV.block P (block_lt hra) (by simp)).trans hra), ← hua]; rfl)
 rw [hua] at hUW
 obtain ⟨aa, ca, rfl, har⟩ := hUW.form
 obtain ⟨N, hN⟩ : ∃ n, al.length = n := ⟨_, rfl⟩
 rw [hN] at HPc hl
 have HN := Lib.hid hN
 have HAr := Lib.hid har
 have Hka := Lib.hid hka
 have HW := Lib.hid hW
 have HP := Lib.hid hP
 have HMt := Lib.hid (show ∀ p ∈ al, ∀ V, Calls Tryd.prog 41 #[.string (bs p), .string (bs s)] V (fun e w' => e = .returned (.bool (hitG p s)) ∧ Kp [] V w') from fun p hm V => rmatch_G p s V (hp p hm) hs)
 have HSm := Lib.hid hs
 clear hra hka hP hW hU hUW hua hN har hp hs
 go_enter Tryd.func40, Tryd.ntmps40
 go_upto_block 0 with fail
 rw [HW.out, HP.out]
 go_wp2
 go_loopw [5] (fun s5 wx => ∃ i : Nat, i ≤ N ∧ s5 = .int .i64 (i : Int) ∧ Hid (∀ p ∈ al.take i, hitG p s = false) ∧ Hid (Kp [] W wx)) (fun s5 _ => N - (intOf s5).toNat)
 case atStart => exact ⟨0, by omega, rfl, Lib.hid (by simp), Lib.hid (Kp.refl [] W)⟩
 case round =>
  obtain ⟨i, hi, rfl, hno, hK⟩ := hrel
  have d0 := HPc.out _ hK.out
  by_cases hlt : i < N
  ·have hiz : (i : Int) < (N : Int) := by omega
   cases hse : s.isEmpty with
   | true =>
    have hte2 : (bs s).toList = [] := by rw [toL]; exact List.isEmpty_iff.1 hse
    have hte3 : (bs s).toList.isEmpty = true := by rw [toL]; exact hse
    have Hse := Lib.hid hse
    clear hse
    go_wp2
    go_ret
    exact ⟨by rw [Hse.out]; rfl, Hka.out.trans hK.out⟩
   | false =>
    have hte2 : ¬ ((bs s).toList = []) := fun h => by rw [toL] at h; rw [h] at hse; simp at hse
    have hte3 : (bs s).toList.isEmpty = false := by rw [toL]; exact hse
    have Hse := Lib.hid hse
    clear hse
    obtain ⟨p, hp⟩ : ∃ p, al[i]? = some p := ⟨_, List.getElem?_eq_getElem (by rw [HN.out]; exact hlt)⟩
    obtain ⟨g, o, rfl, hgl, _, hr⟩ := HAr.out (fun e => by rw [e] at hp; simp at hp)
    have c0 := st_cell (hr.keep (hK.out.block g hgl (by simp))) hp
    have HC := Lib.hid (HMt.out p (List.mem_of_getElem? hp))
    have Hp := Lib.hid hp
    clear hr hp
    cases hh : hitG p s with
    | true =>
     have Han := Lib.hid (any_hit (f := fun p => hitG p s) Hp.out hh)
     rw [hh] at HC
     clear hh
     go_wp2_with fail
     refine Calls.mono (by with_reducible exact HC.out _) ?_
     rintro e w3 ⟨rfl, hk3⟩
     have HK3 := Lib.hid (hK.out.trans hk3)
     clear hk3
     go_wp2
     go_ret
     exact ⟨by rw [Han.out, Hse.out]; rfl, Hka.out.trans HK3.out⟩
    | false =>
     have Hno2 := Lib.hid (any_take_no (f := fun p => hitG p s) Hp.out hno.out hh)
     rw [hh] at HC
     clear hh
     go_wp2_with fail
     refine Calls.mono (by with_reducible exact HC.out _) ?_
     rintro e w3 ⟨rfl, hk3⟩
     have HK3 := Lib.hid (hK.out.trans hk3)
     clear hk3
     go_wp2
     refine ⟨⟨i + 1, by omega, by go_num, Hno2, HK3⟩, by simp [intOf]; omega⟩
  ·have hiz : ¬ ((i : Int) < (N : Int)) := by omega
   have Han := Lib.hid (any_all (f := fun p => hitG p s) (by rw [HN.out]; omega) hno.out)
   go_wp2
   go_ret
   exact ⟨by rw [Han.out]; simp, Hka.out.trans hK.out⟩
set_option maxHeartbeats 8000000 in
set_option maxRecDepth 100000 in
theorem refFound_any {w : World} {A : Nat} {mv bv ov kv xv : Value} {l : List Mx} {C : Cf} (x : Mx) (hx : x ∈ l) (s : Tx) (hs : s.length ≤ 4611686018427387000) (hC : CAt A w mv bv xv l C) (hT : CTy C) :
  Calls Tryd.prog 25 #[.agg (cfV mv bv ov kv xv), .agg (meC x.1), .string (bs s)] w fun e w' => e = .returned (.bool (fndM hitG C x.2 s)) ∧ Kp [] w w' := by
 have hra := heap_alloc_last w (.cells (cfV mv bv ov kv xv) 31)
 have hka := (Kp.refl [] w).alloc (.cells (cfV mv bv ov kv xv) 31)
 obtain ⟨P1, hP1⟩ : ∃ R, w.heap.size = R := ⟨_, rfl⟩
 obtain ⟨Wa, hWa⟩ : ∃ W, w.alloc (.cells (cfV mv bv ov kv xv) 31) = W := ⟨_, rfl⟩
 have hsa : Wa.heap.size = P1 + 1 := by rw [← hWa, World.size_alloc, hP1]
 rw [hP1, hWa] at hra
 rw [hWa] at hka
 have hrb := heap_alloc_last Wa (.cells (meC x.1) 51)
 have hkb := (Kp.refl [] Wa).alloc (.cells (meC x.1) 51)
 obtain ⟨P2, hP2⟩ : ∃ R, P1 + 1 = R := ⟨_, rfl⟩
 obtain ⟨W, hW⟩ : ∃ W, Wa.alloc (.cells (meC x.1) 51) = W := ⟨_, rfl⟩
 rw [hsa, hP2, hW] at hrb
 rw [hW] at hkb
 have hra2 := (hkb.block P1 (block_lt hra) (by simp)).trans hra
 have hkW := hka.trans hkb
 have hCW := hC.kp hkW (by simp)
 have hxm : x.2 ∈ C.mods := by rw [hC.eq]; exact List.mem_map.2 ⟨x, hx, rfl⟩
 have hok := hCW.ms.ok x hx
 have HMe := Lib.hid (show ∀ V, Kp [] W V → V.heap[P2]? = some (.cells (meC x.1) 51 (0, 0)) from fun V hV => (hV.block P2 (block_lt hrb) (by simp)).trans hrb)
 have HM0 := Lib.hid (show ∀ V, Kp [] W V → V.cell? ⟨P2, 0, none⟩ = some (.string (bs x.1.nm)) from fun V hV => by rw [cell_of_row _ _ _ _ _ _ (HMe.out V hV)]; rfl)
 have HC1 := Lib.hid (show ∀ V, Kp [] W V → V.cell? ⟨P1, 1, none⟩ = some bv from fun V hV => by rw [cell_of_row _ _ _ _ _ _ ((hV.block P1 (block_lt hra2) (by simp)).trans hra2)]; rfl)
 have HC4 := Lib.hid (show ∀ V, Kp [] W V → V.cell? ⟨P1, 4, none⟩ = some xv from fun V hV => by rw [cell_of_row _ _ _ _ _ _ ((hV.block P1 (block_lt hra2) (by simp)).trans hra2)]; rfl)
 have HMs := Lib.hid (show ∀ V, Kp [] W V → Calls Tryd.prog 40 #[.agg (meC x.1), .string (bs s)] V (fun e w' => e = .returned (.bool (!s.isEmpty && matM hitG x.2 s)) ∧ Kp [] V w') from fun V hV => refMatches_any s hs (by have := hT.al x.2 hxm; omega) (fun p hp => by have := hT.pt x.2 hxm p hp; omega) (hok.2.kp hV (by simp)))
 have HIn := Lib.hid (show ∀ V, Kp [] W V → Calls Tryd.prog 19 #[bv, .string (bs x.1.nm)] V (fun e w' => e = .returned (.bool (C.bl.contains x.2.name)) ∧ Kp [] V w') from fun V hV => by rw [← hok.1]; exact in_any _ (by have := hT.bl; omega) (hCW.bl.kp hV (by simp)))
 obtain ⟨xa, xc, hxv, hxr⟩ := hCW.ex.form
 obtain ⟨N, hN⟩ : ∃ n, C.ex.length = n := ⟨_, rfl⟩
 have hNb : N ≤ 1000000 := by have := hT.ex; omega
 rw [hxv, hN] at HC4
 have HN := Lib.hid hN
 have HXr := Lib.hid hxr
 have HMtd := Lib.hid (show ∀ e ∈ C.ex, ∀ V, Calls Tryd.prog 41 #[.string (bs e.1), .string (bs s)] V (fun e' w' => e' = .returned (.bool (hitG e.1 s)) ∧ Kp [] V w') from fun e he V => rmatch_G e.1 s V (by have := (hT.xt e he).1; omega) hs)
 have Hnm := Lib.hid hok.1
 have HkW := Lib.hid hkW
 have HWa := Lib.hid hWa
 have HW := Lib.hid hW
 have HP1 := Lib.hid hP1
 have HP2 := Lib.hid hP2
 have Hsa := Lib.hid hsa
 obtain ⟨cv, hcv⟩ : ∃ cv, cfV mv bv ov kv xv = cv := ⟨_, rfl⟩
 rw [hcv] at HWa ⊢
 clear hra hka hra2 hrb hkb hP1 hP2 hW hWa hsa hkW hC hCW hok hxm hxr hN hxv hcv hT hs hx
 unfold fndM
 cases hse : s.isEmpty with
 | true =>
  have hte2 : (bs s).toList = [] := by rw [toL]; exact List.isEmpty_iff.1 hse
  have hte3 : (bs s).toList.isEmpty = true := by rw [toL]; exact hse
  clear hse
  go_enter Tryd.func25, Tryd.ntmps25
  go_upto_region 1 with fail
  rw [HWa.out, HP1.out, HW.out, HP2.out]
  go_wp2
  go_ret
  exact ⟨rfl, HkW.out⟩
 | false =>
  rw [hse] at HMs
  have hte2 : ¬ ((bs s).toList = []) := fun h => by rw [toL] at h; rw [h] at hse; simp at hse
  have hte3 : (bs s).toList.isEmpty = false := by rw [toL]; exact hse
  clear hse
  obtain ⟨b1, hb1⟩ : ∃ b, matM hitG x.2 s = b := ⟨_, rfl⟩
  obtain ⟨b2, hb2⟩ : ∃ b, C.bl.contains x.2.name = b := ⟨_, rfl⟩
  rw [hb1] at HMs ⊢
  rw [hb2] at HIn ⊢
  rw [Bool.not_false, Bool.true_and] at *
  clear hb1 hb2
  have HM1 := Lib.hid (HMe.out W (Kp.refl [] W))
  go_enter Tryd.func25, Tryd.ntmps25
  go_upto_region 1 with fail
  rw [HWa.out, HP1.out, HW.out, HP2.out]
  cases b1 with
  | true =>
   go_wp2_with (refine wpList_load_row rfl 51 _ rfl P2 rfl 51 (meC x.1) _ _ HM1.out Tryd.underlying51 rfl info51b ?_)
   refine Calls.mono (by with_reducible exact HMs.out W (Kp.refl [] W)) ?_
   rintro e W3 ⟨rfl, hk3⟩
   have HK3 := Lib.hid hk3
   have d0 := HC1.out _ hk3
   have d1 := HM0.out _ hk3
   clear hk3
   cases b2 with
   | false =>
    go_wp2_with fail
    refine Calls.mono (by with_reducible exact HIn.out W3 HK3.out) ?_
    rintro e W4 ⟨rfl, hk4⟩
    have HK4 := Lib.hid (HK3.out.trans hk4)
    clear hk4
    go_wp2
    go_ret
    exact ⟨by simp, HkW.out.trans HK4.out⟩
   | true =>
    go_wp2_with fail
    refine Calls.mono (by with_reducible exact HIn.out W3 HK3.out) ?_
    rintro e W4 ⟨rfl, hk4⟩
    have HK4 := Lib.hid (HK3.out.trans hk4)
    clear hk4 d0 d1
    go_wp2
    go_loopw [7] (fun s7 wx => ∃ i : Nat, i ≤ N ∧ s7 = .int .i64 (i : Int) ∧ Hid (∀ e ∈ C.ex.take i, (e.2 == x.2.name && hitG e.1 s) = false) ∧ Hid (Kp [] W wx)) (fun s7 _ => N - (intOf s7).toNat)
    case atStart => exact ⟨0, by omega, rfl, Lib.hid (by simp), HK4⟩
    case round =>
     obtain ⟨i, hi, rfl, hno, hK⟩ := hrel
     have d0 := HC4.out _ hK.out
     by_cases hlt : i < N
     ·have hiz : (i : Int) < (N : Int) := by omega
      obtain ⟨e, he⟩ : ∃ e, C.ex[i]? = some e := ⟨_, List.getElem?_eq_getElem (by rw [HN.out]; exact hlt)⟩
      obtain ⟨g, o, rfl, hgl, _, hr⟩ := HXr.out (fun h => by rw [h] at he; simp at he)
      have Hce := Lib.hid (show ∀ V, Kp [] W V → V.cell? ⟨g, o + i * 2, none⟩ = some (.string (bs e.1)) ∧ V.cell? ⟨g, o + i * 2 + 1, none⟩ = some (.string (bs e.2)) from fun V hV => at_cell (hr.keep (hV.block g hgl (by simp))) he)
      have HMt := Lib.hid (HMtd.out e (List.mem_of_getElem? he))
      have He := Lib.hid he
      clear hr he
      have hbq := bs_eq e.2 x.1.nm
      rw [Hnm.out] at hbq
      cases hq : e.2 == x.2.name with
      | true =>
       rw [hq, ← Hnm.out] at hbq
       obtain ⟨hm, hhm⟩ : ∃ b, hitG e.1 s = b := ⟨_, rfl⟩
       rw [hhm] at HMt
       have Hq := Lib.hid hq
       have Hhm := Lib.hid hhm
       clear hq hhm
       go_upto_region 8 with fail
       clear d0
       refine wp_region_held_drew (S := fun X => Kp [] wr X) (by kernel_rfl) ((Kp.refl [] wr).drew 1) (fun hHeld => ?_)
       generalize hwd : wr.drew = wd at *
       clear hwd
       refine wpAnyH_take (i := 0) (oi := ⟨some 28, .fieldAddr 31 (.tmp 3) 4, 0, "ref.go:39", #[], none⟩) (v := .pointer (some ⟨P1, 4, none⟩)) rfl (by kernel_rfl) (by kernel_rfl) (by kernel_rfl) (fun _ _ _ h => h) (Or.inl ⟨by rfl, fun w hSw => by (try dsimp only at hSw); go_simp⟩) hHeld ?_
       try simp only [Act.put, List.setIfInBounds_toArray, List.set_cons_zero, List.set_cons_succ]
       refine wpAnyH_take (i := 1) (oi := ⟨some 29, .load 29 (.tmp 28), 29, "ref.go:39", #[⟨0, .data⟩], none⟩) (v := .slice (some ⟨g, o, none⟩) N xc) rfl (by kernel_rfl) (by kernel_rfl) (by kernel_rfl) (fun _ _ _ h => h) (Or.inl ⟨by rfl, fun w hSw => by (try dsimp only at hSw); have t1 := HC4.out _ (hK.out.trans hSw); go_simp⟩) hHeld ?_
       try simp only [Act.put, List.setIfInBounds_toArray, List.set_cons_zero, List.set_cons_succ]
       refine wpAnyH_take (i := 2) (oi := ⟨some 30, .move (.tmp 7), 3, "ref.go:39", #[], none⟩) (v := .int .i64 (i : Int)) rfl (by kernel_rfl) (by kernel_rfl) (by kernel_rfl) (fun _ _ _ h => h) (Or.inl ⟨by rfl, fun w hSw => by (try dsimp only at hSw); go_simp⟩) hHeld ?_
       try simp only [Act.put, List.setIfInBounds_toArray, List.set_cons_zero, List.set_cons_succ]
       refine wpAnyH_take (i := 3) (oi := ⟨some 31, .indexAddr 29 (.tmp 29) (.tmp 30), 0, "ref.go:39", #[⟨1, .data⟩, ⟨2, .data⟩], none⟩) (v := .pointer (some ⟨g, o + i * 2, none⟩)) rfl (by kernel_rfl) (by kernel_rfl) (by kernel_rfl) (fun _ _ _ h => h) (Or.inl ⟨by rfl, fun w hSw => by (try dsimp only at hSw); go_simp⟩) hHeld ?_
       try simp only [Act.put, List.setIfInBounds_toArray, List.set_cons_zero, List.set_cons_succ]
       refine wpAnyH_take (i := 4) (oi := ⟨some 32, .fieldAddr 48 (.tmp 31) 1, 0, "ref.go:39", #[⟨3, .data⟩], none⟩) (v := .pointer (some ⟨g, o + i * 2 + 1, none⟩)) rfl (by kernel_rfl) (by kernel_rfl) (by kernel_rfl) (fun _ _ _ h => h) (Or.inl ⟨by rfl, fun w hSw => by (try dsimp only at hSw); go_simp⟩) hHeld ?_
       try simp only [Act.put, List.setIfInBounds_toArray, List.set_cons_zero, List.set_cons_succ]
       refine wpAnyH_take (i := 5) (oi := ⟨some 33, .load 9 (.tmp 32), 9, "ref.go:39", #[⟨4, .data⟩], none⟩) (v := .string (bs e.2)) rfl (by kernel_rfl) (by kernel_rfl) (by kernel_rfl) (fun _ _ _ h => h) (Or.inl ⟨by rfl, fun w hSw => by (try dsimp only at hSw); have t1 := Hce.out _ (hK.out.trans hSw); have t2 := t1.2; go_simp⟩) hHeld ?_
       try simp only [Act.put, List.setIfInBounds_toArray, List.set_cons_zero, List.set_cons_succ]
       refine wpAnyH_take (i := 6) (oi := ⟨some 34, .fieldAddr 51 (.tmp 4) 0, 0, "ref.go:39", #[], none⟩) (v := .pointer (some ⟨P2, 0, none⟩)) rfl (by kernel_rfl) (by kernel_rfl) (by kernel_rfl) (fun _ _ _ h => h) (Or.inl ⟨by rfl, fun w hSw => by (try dsimp only at hSw); go_simp⟩) hHeld ?_
       try simp only [Act.put, List.setIfInBounds_toArray, List.set_cons_zero, List.set_cons_succ]
       refine wpAnyH_take (i := 7) (oi := ⟨some 35, .load 9 (.tmp 34), 9, "ref.go:39", #[⟨6, .data⟩], none⟩) (v := .string (bs x.1.nm)) rfl (by kernel_rfl) (by kernel_rfl) (by kernel_rfl) (fun _ _ _ h => h) (Or.inl ⟨by rfl, fun w hSw => by (try dsimp only at hSw); have t1 := HM0.out _ (hK.out.trans hSw); go_simp⟩) hHeld ?_
       try simp only [Act.put, List.setIfInBounds_toArray, List.set_cons_zero, List.set_cons_succ]
       refine wpAnyH_take (i := 8) (oi := ⟨some 36, .binOp .eql 9 (.tmp 33) (.tmp 35) 9, 4, "ref.go:39", #[⟨5, .data⟩, ⟨7, .data⟩], none⟩) (v := .bool true) rfl (by kernel_rfl) (by kernel_rfl) (by kernel_rfl) (fun _ _ _ h => h) (Or.inl ⟨by rfl, fun w hSw => by (try dsimp only at hSw); go_simp⟩) hHeld ?_
       try simp only [Act.put, List.setIfInBounds_toArray, List.set_cons_zero, List.set_cons_succ]
       refine wpAnyH_take (i := 9) (oi := ⟨some 37, .move (.tmp 36), 4, "ref.go:39", #[⟨8, .data⟩], none⟩) (v := .bool true) rfl (by kernel_rfl) (by kernel_rfl) (by kernel_rfl) (fun _ _ _ h => h) (Or.inl ⟨by rfl, fun w hSw => by (try dsimp only at hSw); go_simp⟩) hHeld ?_
       try simp only [Act.put, List.setIfInBounds_toArray, List.set_cons_zero, List.set_cons_succ]
       refine wpAnyH_take (i := 10) (oi := ⟨some 38, .fieldAddr 31 (.tmp 3) 4, 0, "ref.go:39", #[⟨9, .guard⟩], some (9, true)⟩) (v := .pointer (some ⟨P1, 4, none⟩)) rfl (by kernel_rfl) (by kernel_rfl) (by kernel_rfl) (fun _ _ _ h => h) (Or.inl ⟨by rfl, fun w hSw => by (try dsimp only at hSw); go_simp⟩) hHeld ?_
       try simp only [Act.put, List.setIfInBounds_toArray, List.set_cons_zero, List.set_cons_succ]
       refine wpAnyH_take (i := 11) (oi := ⟨some 39, .load 29 (.tmp 38), 29, "ref.go:39", #[⟨10, .data⟩, ⟨9, .guard⟩], some (9, true)⟩) (v := .slice (some ⟨g, o, none⟩) N xc) rfl (by kernel_rfl) (by kernel_rfl) (by kernel_rfl) (fun _ _ _ h => h) (Or.inl ⟨by rfl, fun w hSw => by (try dsimp only at hSw); have t1 := HC4.out _ (hK.out.trans hSw); go_simp⟩) hHeld ?_
       try simp only [Act.put, List.setIfInBounds_toArray, List.set_cons_zero, List.set_cons_succ]
       refine wpAnyH_take (i := 12) (oi := ⟨some 40, .move (.tmp 7), 3, "ref.go:39", #[⟨9, .guard⟩], some (9, true)⟩) (v := .int .i64 (i : Int)) rfl (by kernel_rfl) (by kernel_rfl) (by kernel_rfl) (fun _ _ _ h => h) (Or.inl ⟨by rfl, fun w hSw => by (try dsimp only at hSw); go_simp⟩) hHeld ?_
       try simp only [Act.put, List.setIfInBounds_toArray, List.set_cons_zero, List.set_cons_succ]
       refine wpAnyH_take (i := 13) (oi := ⟨some 41, .indexAddr 29 (.tmp 39) (.tmp 40), 0, "ref.go:39", #[⟨11, .data⟩, ⟨12, .data⟩, ⟨9, .guard⟩], some (9, true)⟩) (v := .pointer (some ⟨g, o + i * 2, none⟩)) rfl (by kernel_rfl) (by kernel_rfl) (by kernel_rfl) (fun _ _ _ h => h) (Or.inl ⟨by rfl, fun w hSw => by (try dsimp only at hSw); go_simp⟩) hHeld ?_
       try simp only [Act.put, List.setIfInBounds_toArray, List.set_cons_zero, List.set_cons_succ]
       refine wpAnyH_take (i := 14) (oi := ⟨some 42, .fieldAddr 48 (.tmp 41) 0, 0, "ref.go:39", #[⟨13, .data⟩, ⟨9, .guard⟩], some (9, true)⟩) (v := .pointer (some ⟨g, o + i * 2, none⟩)) rfl (by kernel_rfl) (by kernel_rfl) (by kernel_rfl) (fun _ _ _ h => h) (Or.inl ⟨by rfl, fun w hSw => by (try dsimp only at hSw); go_simp⟩) hHeld ?_
       try simp only [Act.put, List.setIfInBounds_toArray, List.set_cons_zero, List.set_cons_succ]
       refine wpAnyH_take (i := 15) (oi := ⟨some 43, .load 9 (.tmp 42), 9, "ref.go:39", #[⟨14, .data⟩, ⟨9, .guard⟩], some (9, true)⟩) (v := .string (bs e.1)) rfl (by kernel_rfl) (by kernel_rfl) (by kernel_rfl) (fun _ _ _ h => h) (Or.inl ⟨by rfl, fun w hSw => by (try dsimp only at hSw); have t1 := Hce.out _ (hK.out.trans hSw); have t2 := t1.1; go_simp⟩) hHeld ?_
       try simp only [Act.put, List.setIfInBounds_toArray, List.set_cons_zero, List.set_cons_succ]
       refine wpAnyH_take (i := 16) (oi := ⟨some 44, .move (.tmp 2), 9, "ref.go:39", #[⟨9, .guard⟩], some (9, true)⟩) (v := .string (bs s)) rfl (by kernel_rfl) (by kernel_rfl) (by kernel_rfl) (fun _ _ _ h => h) (Or.inl ⟨by rfl, fun w hSw => by (try dsimp only at hSw); go_simp⟩) hHeld ?_
       try simp only [Act.put, List.setIfInBounds_toArray, List.set_cons_zero, List.set_cons_succ]
       refine wpAnyH_ready (rs := [17]) (by kernel_rfl) (by simp) ?_
       refine AllReadyH.cons (o := ⟨some 45, .call { callee := .value (.func 41), args := #[.tmp 43, .tmp 44], argTypes := #[9, 9] }, 4, "ref.go:39", #[⟨15, .data⟩, ⟨16, .data⟩, ⟨9, .chain⟩, ⟨9, .guard⟩], some (9, true)⟩) rfl (fun K hK => ?_) AllReadyH.nil
       go_simp
       go_at_call 41
       refine Calls.mono (by with_reducible exact HMt.out _) ?_
       rintro e9 V ⟨rfl, hk7⟩
       dsimp only
       have hS := hHeld.trans hk7
       clear hHeld
       refine hK.out _ _ hS (fun hHeld => ?_)
       try simp only [Act.put, List.setIfInBounds_toArray, List.set_cons_zero, List.set_cons_succ]
       clear hK
       clear hS hk7
       refine wpAnyH_take (i := 18) (oi := ⟨some 46, .pick (.tmp 37) (.tmp 45) (.const (.bool false)), 4, "ref.go:39", #[⟨9, .data⟩, ⟨17, .data⟩], none⟩) (v := .bool hm) rfl (by kernel_rfl) (by kernel_rfl) (by kernel_rfl) (fun _ _ _ h => h) (Or.inl ⟨by rfl, fun w hSw => by (try dsimp only at hSw); go_simp⟩) hHeld ?_
       try simp only [Act.put, List.setIfInBounds_toArray, List.set_cons_zero, List.set_cons_succ]
       have HK3 := Lib.hid (hK.out.trans hHeld)
       refine wpAnyH_done (by kernel_rfl) ?_ _
       clear hHeld
       cases hm with
       | true =>
        have Han := Lib.hid (any_hit (f := fun e : Tx × Tx => e.2 == x.2.name && hitG e.1 s) He.out (by show (e.2 == x.2.name && hitG e.1 s) = true; rw [Hq.out, Hhm.out]; rfl))
        go_wp2
        go_ret
        exact ⟨by rw [Han.out]; rfl, HkW.out.trans HK3.out⟩
       | false =>
        have Hno2 := Lib.hid (any_take_no (f := fun e : Tx × Tx => e.2 == x.2.name && hitG e.1 s) He.out hno.out (by show (e.2 == x.2.name && hitG e.1 s) = false; rw [Hq.out, Hhm.out]; rfl))
        go_wp2
        refine ⟨⟨i + 1, by omega, by go_num, Hno2, HK3⟩, by simp [intOf]; omega⟩
      | false =>
       rw [hq, ← Hnm.out] at hbq
       have Hno2 := Lib.hid (any_take_no (f := fun e : Tx × Tx => e.2 == x.2.name && hitG e.1 s) He.out hno.out (by show (e.2 == x.2.name && hitG e.1 s) = false; rw [hq]; rfl))
       clear hq
       go_upto_region 8 with fail
       clear d0
       refine wp_region_held_drew (S := fun X => Kp [] wr X) (by kernel_rfl) ((Kp.refl [] wr).drew 1) (fun hHeld => ?_)
       generalize hwd : wr.drew = wd at *
       clear hwd
       refine wpAnyH_take (i := 0) (oi := ⟨some 28, .fieldAddr 31 (.tmp 3) 4, 0, "ref.go:39", #[], none⟩) (v := .pointer (some ⟨P1, 4, none⟩)) rfl (by kernel_rfl) (by kernel_rfl) (by kernel_rfl) (fun _ _ _ h => h) (Or.inl ⟨by rfl, fun w hSw => by (try dsimp only at hSw); go_simp⟩) hHeld ?_
       try simp only [Act.put, List.setIfInBounds_toArray, List.set_cons_zero, List.set_cons_succ]
       refine wpAnyH_take (i := 1) (oi := ⟨some 29, .load 29 (.tmp 28), 29, "ref.go:39", #[⟨0, .data⟩], none⟩) (v := .slice (some ⟨g, o, none⟩) N xc) rfl (by kernel_rfl) (by kernel_rfl) (by kernel_rfl) (fun _ _ _ h => h) (Or.inl ⟨by rfl, fun w hSw => by (try dsimp only at hSw); have t1 := HC4.out _ (hK.out.trans hSw); go_simp⟩) hHeld ?_
       try simp only [Act.put, List.setIfInBounds_toArray, List.set_cons_zero, List.set_cons_succ]
       refine wpAnyH_take (i := 2) (oi := ⟨some 30, .move (.tmp 7), 3, "ref.go:39", #[], none⟩) (v := .int .i64 (i : Int)) rfl (by kernel_rfl) (by kernel_rfl) (by kernel_rfl) (fun _ _ _ h => h) (Or.inl ⟨by rfl, fun w hSw => by (try dsimp only at hSw); go_simp⟩) hHeld ?_
       try simp only [Act.put, List.setIfInBounds_toArray, List.set_cons_zero, List.set_cons_succ]
       refine wpAnyH_take (i := 3) (oi := ⟨some 31, .indexAddr 29 (.tmp 29) (.tmp 30), 0, "ref.go:39", #[⟨1, .data⟩, ⟨2, .data⟩], none⟩) (v := .pointer (some ⟨g, o + i * 2, none⟩)) rfl (by kernel_rfl) (by kernel_rfl) (by kernel_rfl) (fun _ _ _ h => h) (Or.inl ⟨by rfl, fun w hSw => by (try dsimp only at hSw); go_simp⟩) hHeld ?_
       try simp only [Act.put, List.setIfInBounds_toArray, List.set_cons_zero, List.set_cons_succ]
       refine wpAnyH_take (i := 4) (oi := ⟨some 32, .fieldAddr 48 (.tmp 31) 1, 0, "ref.go:39", #[⟨3, .data⟩], none⟩) (v := .pointer (some ⟨g, o + i * 2 + 1, none⟩)) rfl (by kernel_rfl) (by kernel_rfl) (by kernel_rfl) (fun _ _ _ h => h) (Or.inl ⟨by rfl, fun w hSw => by (try dsimp only at hSw); go_simp⟩) hHeld ?_
       try simp only [Act.put, List.setIfInBounds_toArray, List.set_cons_zero, List.set_cons_succ]
       refine wpAnyH_take (i := 5) (oi := ⟨some 33, .load 9 (.tmp 32), 9, "ref.go:39", #[⟨4, .data⟩], none⟩) (v := .string (bs e.2)) rfl (by kernel_rfl) (by kernel_rfl) (by kernel_rfl) (fun _ _ _ h => h) (Or.inl ⟨by rfl, fun w hSw => by (try dsimp only at hSw); have t1 := Hce.out _ (hK.out.trans hSw); have t2 := t1.2; go_simp⟩) hHeld ?_
       try simp only [Act.put, List.setIfInBounds_toArray, List.set_cons_zero, List.set_cons_succ]
       refine wpAnyH_take (i := 6) (oi := ⟨some 34, .fieldAddr 51 (.tmp 4) 0, 0, "ref.go:39", #[], none⟩) (v := .pointer (some ⟨P2, 0, none⟩)) rfl (by kernel_rfl) (by kernel_rfl) (by kernel_rfl) (fun _ _ _ h => h) (Or.inl ⟨by rfl, fun w hSw => by (try dsimp only at hSw); go_simp⟩) hHeld ?_
       try simp only [Act.put, List.setIfInBounds_toArray, List.set_cons_zero, List.set_cons_succ]
       refine wpAnyH_take (i := 7) (oi := ⟨some 35, .load 9 (.tmp 34), 9, "ref.go:39", #[⟨6, .data⟩], none⟩) (v := .string (bs x.1.nm)) rfl (by kernel_rfl) (by kernel_rfl) (by kernel_rfl) (fun _ _ _ h => h) (Or.inl ⟨by rfl, fun w hSw => by (try dsimp only at hSw); have t1 := HM0.out _ (hK.out.trans hSw); go_simp⟩) hHeld ?_
       try simp only [Act.put, List.setIfInBounds_toArray, List.set_cons_zero, List.set_cons_succ]
       refine wpAnyH_take (i := 8) (oi := ⟨some 36, .binOp .eql 9 (.tmp 33) (.tmp 35) 9, 4, "ref.go:39", #[⟨5, .data⟩, ⟨7, .data⟩], none⟩) (v := .bool false) rfl (by kernel_rfl) (by kernel_rfl) (by kernel_rfl) (fun _ _ _ h => h) (Or.inl ⟨by rfl, fun w hSw => by (try dsimp only at hSw); go_simp⟩) hHeld ?_
       try simp only [Act.put, List.setIfInBounds_toArray, List.set_cons_zero, List.set_cons_succ]
       refine wpAnyH_take (i := 9) (oi := ⟨some 37, .move (.tmp 36), 4, "ref.go:39", #[⟨8, .data⟩], none⟩) (v := .bool false) rfl (by kernel_rfl) (by kernel_rfl) (by kernel_rfl) (fun _ _ _ h => h) (Or.inl ⟨by rfl, fun w hSw => by (try dsimp only at hSw); go_simp⟩) hHeld ?_
       try simp only [Act.put, List.setIfInBounds_toArray, List.set_cons_zero, List.set_cons_succ]
       refine wpAnyH_take (i := 10) (oi := ⟨some 38, .fieldAddr 31 (.tmp 3) 4, 0, "ref.go:39", #[⟨9, .guard⟩], some (9, true)⟩) (v := undef) rfl (by kernel_rfl) (by kernel_rfl) (by kernel_rfl) (fun _ _ _ h => h) (Or.inr ⟨by rfl, rfl⟩) hHeld ?_
       try simp only [Act.put, List.setIfInBounds_toArray, List.set_cons_zero, List.set_cons_succ]
       refine wpAnyH_take (i := 11) (oi := ⟨some 39, .load 29 (.tmp 38), 29, "ref.go:39", #[⟨10, .data⟩, ⟨9, .guard⟩], some (9, true)⟩) (v := undef) rfl (by kernel_rfl) (by kernel_rfl) (by kernel_rfl) (fun _ _ _ h => h) (Or.inr ⟨by rfl, rfl⟩) hHeld ?_
       try simp only [Act.put, List.setIfInBounds_toArray, List.set_cons_zero, List.set_cons_succ]
       refine wpAnyH_take (i := 12) (oi := ⟨some 40, .move (.tmp 7), 3, "ref.go:39", #[⟨9, .guard⟩], some (9, true)⟩) (v := undef) rfl (by kernel_rfl) (by kernel_rfl) (by kernel_rfl) (fun _ _ _ h => h) (Or.inr ⟨by rfl, rfl⟩) hHeld ?_
       try simp only [Act.put, List.setIfInBounds_toArray, List.set_cons_zero, List.set_cons_succ]
       refine wpAnyH_take (i := 13) (oi := ⟨some 41, .indexAddr 29 (.tmp 39) (.tmp 40), 0, "ref.go:39", #[⟨11, .data⟩, ⟨12, .data⟩, ⟨9, .guard⟩], some (9, true)⟩) (v := undef) rfl (by kernel_rfl) (by kernel_rfl) (by kernel_rfl) (fun _ _ _ h => h) (Or.inr ⟨by rfl, rfl⟩) hHeld ?_
       try simp only [Act.put, List.setIfInBounds_toArray, List.set_cons_zero, List.set_cons_succ]
       refine wpAnyH_take (i := 14) (oi := ⟨some 42, .fieldAddr 48 (.tmp 41) 0, 0, "ref.go:39", #[⟨13, .data⟩, ⟨9, .guard⟩], some (9, true)⟩) (v := undef) rfl (by kernel_rfl) (by kernel_rfl) (by kernel_rfl) (fun _ _ _ h => h) (Or.inr ⟨by rfl, rfl⟩) hHeld ?_
       try simp only [Act.put, List.setIfInBounds_toArray, List.set_cons_zero, List.set_cons_succ]
       refine wpAnyH_take (i := 15) (oi := ⟨some 43, .load 9 (.tmp 42), 9, "ref.go:39", #[⟨14, .data⟩, ⟨9, .guard⟩], some (9, true)⟩) (v := undef) rfl (by kernel_rfl) (by kernel_rfl) (by kernel_rfl) (fun _ _ _ h => h) (Or.inr ⟨by rfl, rfl⟩) hHeld ?_
       try simp only [Act.put, List.setIfInBounds_toArray, List.set_cons_zero, List.set_cons_succ]
       refine wpAnyH_take (i := 16) (oi := ⟨some 44, .move (.tmp 2), 9, "ref.go:39", #[⟨9, .guard⟩], some (9, true)⟩) (v := undef) rfl (by kernel_rfl) (by kernel_rfl) (by kernel_rfl) (fun _ _ _ h => h) (Or.inr ⟨by rfl, rfl⟩) hHeld ?_
       try simp only [Act.put, List.setIfInBounds_toArray, List.set_cons_zero, List.set_cons_succ]
       refine wpAnyH_take (i := 17) (oi := ⟨some 45, .call { callee := .value (.func 41), args := #[.tmp 43, .tmp 44], argTypes := #[9, 9] }, 4, "ref.go:39", #[⟨15, .data⟩, ⟨16, .data⟩, ⟨9, .chain⟩, ⟨9, .guard⟩], some (9, true)⟩) (v := undef) rfl (by kernel_rfl) (by kernel_rfl) (by kernel_rfl) (fun _ _ _ h => h) (Or.inr ⟨by rfl, rfl⟩) hHeld ?_
       try simp only [Act.put, List.setIfInBounds_toArray, List.set_cons_zero, List.set_cons_succ]
       refine wpAnyH_take (i := 18) (oi := ⟨some 46, .pick (.tmp 37) (.tmp 45) (.const (.bool false)), 4, "ref.go:39", #[⟨9, .data⟩, ⟨17, .data⟩], none⟩) (v := .bool false) rfl (by kernel_rfl) (by kernel_rfl) (by kernel_rfl) (fun _ _ _ h => h) (Or.inl ⟨by rfl, fun w hSw => by (try dsimp only at hSw); go_simp⟩) hHeld ?_
       try simp only [Act.put, List.setIfInBounds_toArray, List.set_cons_zero, List.set_cons_succ]
       have HK3 := Lib.hid (hK.out.trans hHeld)
       refine wpAnyH_done (by kernel_rfl) ?_ _
       clear hHeld
       go_wp2
       refine ⟨⟨i + 1, by omega, by go_num, Hno2, HK3⟩, by simp [intOf]; omega⟩
     ·have hiz : ¬ ((i : Int) < (N : Int)) := by omega
      have Han := Lib.hid (any_all (f := fun e : Tx × Tx => e.2 == x.2.name && hitG e.1 s) (by rw [HN.out]; omega) hno.out)
      go_wp2
      go_ret
      exact ⟨by rw [Han.out]; rfl, HkW.out.trans hK.out⟩
  | false =>
   go_wp2_with (refine wpList_load_row rfl 51 _ rfl P2 rfl 51 (meC x.1) _ _ HM1.out Tryd.underlying51 rfl info51b ?_)
   refine Calls.mono (by with_reducible exact HMs.out W (Kp.refl [] W)) ?_
   rintro e W4 ⟨rfl, hk4⟩
   have HK4 := Lib.hid hk4
   clear hk4
   go_wp2
   go_loopw [7] (fun s7 wx => ∃ i : Nat, i ≤ N ∧ s7 = .int .i64 (i : Int) ∧ Hid (∀ e ∈ C.ex.take i, (e.2 == x.2.name && hitG e.1 s) = false) ∧ Hid (Kp [] W wx)) (fun s7 _ => N - (intOf s7).toNat)
   case atStart => exact ⟨0, by omega, rfl, Lib.hid (by simp), HK4⟩
   case round =>
    obtain ⟨i, hi, rfl, hno, hK⟩ := hrel
    have d0 := HC4.out _ hK.out
    by_cases hlt : i < N
    ·have hiz : (i : Int) < (N : Int) := by omega
     obtain ⟨e, he⟩ : ∃ e, C.ex[i]? = some e := ⟨_, List.getElem?_eq_getElem (by rw [HN.out]; exact hlt)⟩
     obtain ⟨g, o, rfl, hgl, _, hr⟩ := HXr.out (fun h => by rw [h] at he; simp at he)
     have Hce := Lib.hid (show ∀ V, Kp [] W V → V.cell? ⟨g, o + i * 2, none⟩ = some (.string (bs e.1)) ∧ V.cell? ⟨g, o + i * 2 + 1, none⟩ = some (.string (bs e.2)) from fun V hV => at_cell (hr.keep (hV.block g hgl (by simp))) he)
     have HMt := Lib.hid (HMtd.out e (List.mem_of_getElem? he))
     have He := Lib.hid he
     clear hr he
     have hbq := bs_eq e.2 x.1.nm
     rw [Hnm.out] at hbq
     cases hq : e.2 == x.2.name with
     | true =>
      rw [hq, ← Hnm.out] at hbq
      obtain ⟨hm, hhm⟩ : ∃ b, hitG e.1 s = b := ⟨_, rfl⟩
      rw [hhm] at HMt
      have Hq := Lib.hid hq
      have Hhm := Lib.hid hhm
      clear hq hhm
      go_upto_region 8 with fail
      clear d0
      refine wp_region_held_drew (S := fun X => Kp [] wr X) (by kernel_rfl) ((Kp.refl [] wr).drew 1) (fun hHeld => ?_)
      generalize hwd : wr.drew = wd at *
      clear hwd
      refine wpAnyH_take (i := 0) (oi := ⟨some 28, .fieldAddr 31 (.tmp 3) 4, 0, "ref.go:39", #[], none⟩) (v := .pointer (some ⟨P1, 4, none⟩)) rfl (by kernel_rfl) (by kernel_rfl) (by kernel_rfl) (fun _ _ _ h => h) (Or.inl ⟨by rfl, fun w hSw => by (try dsimp only at hSw); go_simp⟩) hHeld ?_
      try simp only [Act.put, List.setIfInBounds_toArray, List.set_cons_zero, List.set_cons_succ]
      refine wpAnyH_take (i := 1) (oi := ⟨some 29, .load 29 (.tmp 28), 29, "ref.go:39", #[⟨0, .data⟩], none⟩) (v := .slice (some ⟨g, o, none⟩) N xc) rfl (by kernel_rfl) (by kernel_rfl) (by kernel_rfl) (fun _ _ _ h => h) (Or.inl ⟨by rfl, fun w hSw => by (try dsimp only at hSw); have t1 := HC4.out _ (hK.out.trans hSw); go_simp⟩) hHeld ?_
      try simp only [Act.put, List.setIfInBounds_toArray, List.set_cons_zero, List.set_cons_succ]
      refine wpAnyH_take (i := 2) (oi := ⟨some 30, .move (.tmp 7), 3, "ref.go:39", #[], none⟩) (v := .int .i64 (i : Int)) rfl (by kernel_rfl) (by kernel_rfl) (by kernel_rfl) (fun _ _ _ h => h) (Or.inl ⟨by rfl, fun w hSw => by (try dsimp only at hSw); go_simp⟩) hHeld ?_
      try simp only [Act.put, List.setIfInBounds_toArray, List.set_cons_zero, List.set_cons_succ]
      refine wpAnyH_take (i := 3) (oi := ⟨some 31, .indexAddr 29 (.tmp 29) (.tmp 30), 0, "ref.go:39", #[⟨1, .data⟩, ⟨2, .data⟩], none⟩) (v := .pointer (some ⟨g, o + i * 2, none⟩)) rfl (by kernel_rfl) (by kernel_rfl) (by kernel_rfl) (fun _ _ _ h => h) (Or.inl ⟨by rfl, fun w hSw => by (try dsimp only at hSw); go_simp⟩) hHeld ?_
      try simp only [Act.put, List.setIfInBounds_toArray, List.set_cons_zero, List.set_cons_succ]
      refine wpAnyH_take (i := 4) (oi := ⟨some 32, .fieldAddr 48 (.tmp 31) 1, 0, "ref.go:39", #[⟨3, .data⟩], none⟩) (v := .pointer (some ⟨g, o + i * 2 + 1, none⟩)) rfl (by kernel_rfl) (by kernel_rfl) (by kernel_rfl) (fun _ _ _ h => h) (Or.inl ⟨by rfl, fun w hSw => by (try dsimp only at hSw); go_simp⟩) hHeld ?_
      try simp only [Act.put, List.setIfInBounds_toArray, List.set_cons_zero, List.set_cons_succ]
      refine wpAnyH_take (i := 5) (oi := ⟨some 33, .load 9 (.tmp 32), 9, "ref.go:39", #[⟨4, .data⟩], none⟩) (v := .string (bs e.2)) rfl (by kernel_rfl) (by kernel_rfl) (by kernel_rfl) (fun _ _ _ h => h) (Or.inl ⟨by rfl, fun w hSw => by (try dsimp only at hSw); have t1 := Hce.out _ (hK.out.trans hSw); have t2 := t1.2; go_simp⟩) hHeld ?_
      try simp only [Act.put, List.setIfInBounds_toArray, List.set_cons_zero, List.set_cons_succ]
      refine wpAnyH_take (i := 6) (oi := ⟨some 34, .fieldAddr 51 (.tmp 4) 0, 0, "ref.go:39", #[], none⟩) (v := .pointer (some ⟨P2, 0, none⟩)) rfl (by kernel_rfl) (by kernel_rfl) (by kernel_rfl) (fun _ _ _ h => h) (Or.inl ⟨by rfl, fun w hSw => by (try dsimp only at hSw); go_simp⟩) hHeld ?_
      try simp only [Act.put, List.setIfInBounds_toArray, List.set_cons_zero, List.set_cons_succ]
      refine wpAnyH_take (i := 7) (oi := ⟨some 35, .load 9 (.tmp 34), 9, "ref.go:39", #[⟨6, .data⟩], none⟩) (v := .string (bs x.1.nm)) rfl (by kernel_rfl) (by kernel_rfl) (by kernel_rfl) (fun _ _ _ h => h) (Or.inl ⟨by rfl, fun w hSw => by (try dsimp only at hSw); have t1 := HM0.out _ (hK.out.trans hSw); go_simp⟩) hHeld ?_
      try simp only [Act.put, List.setIfInBounds_toArray, List.set_cons_zero, List.set_cons_succ]
      refine wpAnyH_take (i := 8) (oi := ⟨some 36, .binOp .eql 9 (.tmp 33) (.tmp 35) 9, 4, "ref.go:39", #[⟨5, .data⟩, ⟨7, .data⟩], none⟩) (v := .bool true) rfl (by kernel_rfl) (by kernel_rfl) (by kernel_rfl) (fun _ _ _ h => h) (Or.inl ⟨by rfl, fun w hSw => by (try dsimp only at hSw); go_simp⟩) hHeld ?_
      try simp only [Act.put, List.setIfInBounds_toArray, List.set_cons_zero, List.set_cons_succ]
      refine wpAnyH_take (i := 9) (oi := ⟨some 37, .move (.tmp 36), 4, "ref.go:39", #[⟨8, .data⟩], none⟩) (v := .bool true) rfl (by kernel_rfl) (by kernel_rfl) (by kernel_rfl) (fun _ _ _ h => h) (Or.inl ⟨by rfl, fun w hSw => by (try dsimp only at hSw); go_simp⟩) hHeld ?_
      try simp only [Act.put, List.setIfInBounds_toArray, List.set_cons_zero, List.set_cons_succ]
      refine wpAnyH_take (i := 10) (oi := ⟨some 38, .fieldAddr 31 (.tmp 3) 4, 0, "ref.go:39", #[⟨9, .guard⟩], some (9, true)⟩) (v := .pointer (some ⟨P1, 4, none⟩)) rfl (by kernel_rfl) (by kernel_rfl) (by kernel_rfl) (fun _ _ _ h => h) (Or.inl ⟨by rfl, fun w hSw => by (try dsimp only at hSw); go_simp⟩) hHeld ?_
      try simp only [Act.put, List.setIfInBounds_toArray, List.set_cons_zero, List.set_cons_succ]
      refine wpAnyH_take (i := 11) (oi := ⟨some 39, .load 29 (.tmp 38), 29, "ref.go:39", #[⟨10, .data⟩, ⟨9, .guard⟩], some (9, true)⟩) (v := .slice (some ⟨g, o, none⟩) N xc) rfl (by kernel_rfl) (by kernel_rfl) (by kernel_rfl) (fun _ _ _ h => h) (Or.inl ⟨by rfl, fun w hSw => by (try dsimp only at hSw); have t1 := HC4.out _ (hK.out.trans hSw); go_simp⟩) hHeld ?_
      try simp only [Act.put, List.setIfInBounds_toArray, List.set_cons_zero, List.set_cons_succ]
      refine wpAnyH_take (i := 12) (oi := ⟨some 40, .move (.tmp 7), 3, "ref.go:39", #[⟨9, .guard⟩], some (9, true)⟩) (v := .int .i64 (i : Int)) rfl (by kernel_rfl) (by kernel_rfl) (by kernel_rfl) (fun _ _ _ h => h) (Or.inl ⟨by rfl, fun w hSw => by (try dsimp only at hSw); go_simp⟩) hHeld ?_
      try simp only [Act.put, List.setIfInBounds_toArray, List.set_cons_zero, List.set_cons_succ]
      refine wpAnyH_take (i := 13) (oi := ⟨some 41, .indexAddr 29 (.tmp 39) (.tmp 40), 0, "ref.go:39", #[⟨11, .data⟩, ⟨12, .data⟩, ⟨9, .guard⟩], some (9, true)⟩) (v := .pointer (some ⟨g, o + i * 2, none⟩)) rfl (by kernel_rfl) (by kernel_rfl) (by kernel_rfl) (fun _ _ _ h => h) (Or.inl ⟨by rfl, fun w hSw => by (try dsimp only at hSw); go_simp⟩) hHeld ?_
      try simp only [Act.put, List.setIfInBounds_toArray, List.set_cons_zero, List.set_cons_succ]
      refine wpAnyH_take (i := 14) (oi := ⟨some 42, .fieldAddr 48 (.tmp 41) 0, 0, "ref.go:39", #[⟨13, .data⟩, ⟨9, .guard⟩], some (9, true)⟩) (v := .pointer (some ⟨g, o + i * 2, none⟩)) rfl (by kernel_rfl) (by kernel_rfl) (by kernel_rfl) (fun _ _ _ h => h) (Or.inl ⟨by rfl, fun w hSw => by (try dsimp only at hSw); go_simp⟩) hHeld ?_
      try simp only [Act.put, List.setIfInBounds_toArray, List.set_cons_zero, List.set_cons_succ]
      refine wpAnyH_take (i := 15) (oi := ⟨some 43, .load 9 (.tmp 42), 9, "ref.go:39", #[⟨14, .data⟩, ⟨9, .guard⟩], some (9, true)⟩) (v := .string (bs e.1)) rfl (by kernel_rfl) (by kernel_rfl) (by kernel_rfl) (fun _ _ _ h => h) (Or.inl ⟨by rfl, fun w hSw => by (try dsimp only at hSw); have t1 := Hce.out _ (hK.out.trans hSw); have t2 := t1.1; go_simp⟩) hHeld ?_
      try simp only [Act.put, List.setIfInBounds_toArray, List.set_cons_zero, List.set_cons_succ]
      refine wpAnyH_take (i := 16) (oi := ⟨some 44, .move (.tmp 2), 9, "ref.go:39", #[⟨9, .guard⟩], some (9, true)⟩) (v := .string (bs s)) rfl (by kernel_rfl) (by kernel_rfl) (by kernel_rfl) (fun _ _ _ h => h) (Or.inl ⟨by rfl, fun w hSw => by (try dsimp only at hSw); go_simp⟩) hHeld ?_
      try simp only [Act.put, List.setIfInBounds_toArray, List.set_cons_zero, List.set_cons_succ]
      refine wpAnyH_ready (rs := [17]) (by kernel_rfl) (by simp) ?_
      refine AllReadyH.cons (o := ⟨some 45, .call { callee := .value (.func 41), args := #[.tmp 43, .tmp 44], argTypes := #[9, 9] }, 4, "ref.go:39", #[⟨15, .data⟩, ⟨16, .data⟩, ⟨9, .chain⟩, ⟨9, .guard⟩], some (9, true)⟩) rfl (fun K hK => ?_) AllReadyH.nil
      go_simp
      go_at_call 41
      refine Calls.mono (by with_reducible exact HMt.out _) ?_
      rintro e9 V ⟨rfl, hk7⟩
      dsimp only
      have hS := hHeld.trans hk7
      clear hHeld
      refine hK.out _ _ hS (fun hHeld => ?_)
      try simp only [Act.put, List.setIfInBounds_toArray, List.set_cons_zero, List.set_cons_succ]
      clear hK
      clear hS hk7
      refine wpAnyH_take (i := 18) (oi := ⟨some 46, .pick (.tmp 37) (.tmp 45) (.const (.bool false)), 4, "ref.go:39", #[⟨9, .data⟩, ⟨17, .data⟩], none⟩) (v := .bool hm) rfl (by kernel_rfl) (by kernel_rfl) (by kernel_rfl) (fun _ _ _ h => h) (Or.inl ⟨by rfl, fun w hSw => by (try dsimp only at hSw); go_simp⟩) hHeld ?_
      try simp only [Act.put, List.setIfInBounds_toArray, List.set_cons_zero, List.set_cons_succ]
      have HK3 := Lib.hid (hK.out.trans hHeld)
      refine wpAnyH_done (by kernel_rfl) ?_ _
      clear hHeld
      cases hm with
      | true =>
       have Han := Lib.hid (any_hit (f := fun e : Tx × Tx => e.2 == x.2.name && hitG e.1 s) He.out (by show (e.2 == x.2.name && hitG e.1 s) = true; rw [Hq.out, Hhm.out]; rfl))
       go_wp2
       go_ret
       exact ⟨by rw [Han.out]; rfl, HkW.out.trans HK3.out⟩
      | false =>
       have Hno2 := Lib.hid (any_take_no (f := fun e : Tx × Tx => e.2 == x.2.name && hitG e.1 s) He.out hno.out (by show (e.2 == x.2.name && hitG e.1 s) = false; rw [Hq.out, Hhm.out]; rfl))
       go_wp2
       refine ⟨⟨i + 1, by omega, by go_num, Hno2, HK3⟩, by simp [intOf]; omega⟩
     | false =>
      rw [hq, ← Hnm.out] at hbq
      have Hno2 := Lib.hid (any_take_no (f := fun e : Tx × Tx => e.2 == x.2.name && hitG e.1 s) He.out hno.out (by show (e.2 == x.2.name && hitG e.1 s) = false; rw [hq]; rfl))
      clear hq
      go_upto_region 8 with fail
      clear d0
      refine wp_region_held_drew (S := fun X => Kp [] wr X) (by kernel_rfl) ((Kp.refl [] wr).drew 1) (fun hHeld => ?_)
      generalize hwd : wr.drew = wd at *
      clear hwd
      refine wpAnyH_take (i := 0) (oi := ⟨some 28, .fieldAddr 31 (.tmp 3) 4, 0, "ref.go:39", #[], none⟩) (v := .pointer (some ⟨P1, 4, none⟩)) rfl (by kernel_rfl) (by kernel_rfl) (by kernel_rfl) (fun _ _ _ h => h) (Or.inl ⟨by rfl, fun w hSw => by (try dsimp only at hSw); go_simp⟩) hHeld ?_
      try simp only [Act.put, List.setIfInBounds_toArray, List.set_cons_zero, List.set_cons_succ]
      refine wpAnyH_take (i := 1) (oi := ⟨some 29, .load 29 (.tmp 28), 29, "ref.go:39", #[⟨0, .data⟩], none⟩) (v := .slice (some ⟨g, o, none⟩) N xc) rfl (by kernel_rfl) (by kernel_rfl) (by kernel_rfl) (fun _ _ _ h => h) (Or.inl ⟨by rfl, fun w hSw => by (try dsimp only at hSw); have t1 := HC4.out _ (hK.out.trans hSw); go_simp⟩) hHeld ?_
      try simp only [Act.put, List.setIfInBounds_toArray, List.set_cons_zero, List.set_cons_succ]
      refine wpAnyH_take (i := 2) (oi := ⟨some 30, .move (.tmp 7), 3, "ref.go:39", #[], none⟩) (v := .int .i64 (i : Int)) rfl (by kernel_rfl) (by kernel_rfl) (by kernel_rfl) (fun _ _ _ h => h) (Or.inl ⟨by rfl, fun w hSw => by (try dsimp only at hSw); go_simp⟩) hHeld ?_
      try simp only [Act.put, List.setIfInBounds_toArray, List.set_cons_zero, List.set_cons_succ]
      refine wpAnyH_take (i := 3) (oi := ⟨some 31, .indexAddr 29 (.tmp 29) (.tmp 30), 0, "ref.go:39", #[⟨1, .data⟩, ⟨2, .data⟩], none⟩) (v := .pointer (some ⟨g, o + i * 2, none⟩)) rfl (by kernel_rfl) (by kernel_rfl) (by kernel_rfl) (fun _ _ _ h => h) (Or.inl ⟨by rfl, fun w hSw => by (try dsimp only at hSw); go_simp⟩) hHeld ?_
      try simp only [Act.put, List.setIfInBounds_toArray, List.set_cons_zero, List.set_cons_succ]
      refine wpAnyH_take (i := 4) (oi := ⟨some 32, .fieldAddr 48 (.tmp 31) 1, 0, "ref.go:39", #[⟨3, .data⟩], none⟩) (v := .pointer (some ⟨g, o + i * 2 + 1, none⟩)) rfl (by kernel_rfl) (by kernel_rfl) (by kernel_rfl) (fun _ _ _ h => h) (Or.inl ⟨by rfl, fun w hSw => by (try dsimp only at hSw); go_simp⟩) hHeld ?_
      try simp only [Act.put, List.setIfInBounds_toArray, List.set_cons_zero, List.set_cons_succ]
      refine wpAnyH_take (i := 5) (oi := ⟨some 33, .load 9 (.tmp 32), 9, "ref.go:39", #[⟨4, .data⟩], none⟩) (v := .string (bs e.2)) rfl (by kernel_rfl) (by kernel_rfl) (by kernel_rfl) (fun _ _ _ h => h) (Or.inl ⟨by rfl, fun w hSw => by (try dsimp only at hSw); have t1 := Hce.out _ (hK.out.trans hSw); have t2 := t1.2; go_simp⟩) hHeld ?_
      try simp only [Act.put, List.setIfInBounds_toArray, List.set_cons_zero, List.set_cons_succ]
      refine wpAnyH_take (i := 6) (oi := ⟨some 34, .fieldAddr 51 (.tmp 4) 0, 0, "ref.go:39", #[], none⟩) (v := .pointer (some ⟨P2, 0, none⟩)) rfl (by kernel_rfl) (by kernel_rfl) (by kernel_rfl) (fun _ _ _ h => h) (Or.inl ⟨by rfl, fun w hSw => by (try dsimp only at hSw); go_simp⟩) hHeld ?_
      try simp only [Act.put, List.setIfInBounds_toArray, List.set_cons_zero, List.set_cons_succ]
      refine wpAnyH_take (i := 7) (oi := ⟨some 35, .load 9 (.tmp 34), 9, "ref.go:39", #[⟨6, .data⟩], none⟩) (v := .string (bs x.1.nm)) rfl (by kernel_rfl) (by kernel_rfl) (by kernel_rfl) (fun _ _ _ h => h) (Or.inl ⟨by rfl, fun w hSw => by (try dsimp only at hSw); have t1 := HM0.out _ (hK.out.trans hSw); go_simp⟩) hHeld ?_
      try simp only [Act.put, List.setIfInBounds_toArray, List.set_cons_zero, List.set_cons_succ]
      refine wpAnyH_take (i := 8) (oi := ⟨some 36, .binOp .eql 9 (.tmp 33) (.tmp 35) 9, 4, "ref.go:39", #[⟨5, .data⟩, ⟨7, .data⟩], none⟩) (v := .bool false) rfl (by kernel_rfl) (by kernel_rfl) (by kernel_rfl) (fun _ _ _ h => h) (Or.inl ⟨by rfl, fun w hSw => by (try dsimp only at hSw); go_simp⟩) hHeld ?_
      try simp only [Act.put, List.setIfInBounds_toArray, List.set_cons_zero, List.set_cons_succ]
      refine wpAnyH_take (i := 9) (oi := ⟨some 37, .move (.tmp 36), 4, "ref.go:39", #[⟨8, .data⟩], none⟩) (v := .bool false) rfl (by kernel_rfl) (by kernel_rfl) (by kernel_rfl) (fun _ _ _ h => h) (Or.inl ⟨by rfl, fun w hSw => by (try dsimp only at hSw); go_simp⟩) hHeld ?_
      try simp only [Act.put, List.setIfInBounds_toArray, List.set_cons_zero, List.set_cons_succ]
      refine wpAnyH_take (i := 10) (oi := ⟨some 38, .fieldAddr 31 (.tmp 3) 4, 0, "ref.go:39", #[⟨9, .guard⟩], some (9, true)⟩) (v := undef) rfl (by kernel_rfl) (by kernel_rfl) (by kernel_rfl) (fun _ _ _ h => h) (Or.inr ⟨by rfl, rfl⟩) hHeld ?_
      try simp only [Act.put, List.setIfInBounds_toArray, List.set_cons_zero, List.set_cons_succ]
      refine wpAnyH_take (i := 11) (oi := ⟨some 39, .load 29 (.tmp 38), 29, "ref.go:39", #[⟨10, .data⟩, ⟨9, .guard⟩], some (9, true)⟩) (v := undef) rfl (by kernel_rfl) (by kernel_rfl) (by kernel_rfl) (fun _ _ _ h => h) (Or.inr ⟨by rfl, rfl⟩) hHeld ?_
      try simp only [Act.put, List.setIfInBounds_toArray, List.set_cons_zero, List.set_cons_succ]
      refine wpAnyH_take (i := 12) (oi := ⟨some 40, .move (.tmp 7), 3, "ref.go:39", #[⟨9, .guard⟩], some (9, true)⟩) (v := undef) rfl (by kernel_rfl) (by kernel_rfl) (by kernel_rfl) (fun _ _ _ h => h) (Or.inr ⟨by rfl, rfl⟩) hHeld ?_
      try simp only [Act.put, List.setIfInBounds_toArray, List.set_cons_zero, List.set_cons_succ]
      refine wpAnyH_take (i := 13) (oi := ⟨some 41, .indexAddr 29 (.tmp 39) (.tmp 40), 0, "ref.go:39", #[⟨11, .data⟩, ⟨12, .data⟩, ⟨9, .guard⟩], some (9, true)⟩) (v := undef) rfl (by kernel_rfl) (by kernel_rfl) (by kernel_rfl) (fun _ _ _ h => h) (Or.inr ⟨by rfl, rfl⟩) hHeld ?_
      try simp only [Act.put, List.setIfInBounds_toArray, List.set_cons_zero, List.set_cons_succ]
      refine wpAnyH_take (i := 14) (oi := ⟨some 42, .fieldAddr 48 (.tmp 41) 0, 0, "ref.go:39", #[⟨13, .data⟩, ⟨9, .guard⟩], some (9, true)⟩) (v := undef) rfl (by kernel_rfl) (by kernel_rfl) (by kernel_rfl) (fun _ _ _ h => h) (Or.inr ⟨by rfl, rfl⟩) hHeld ?_
      try simp only [Act.put, List.setIfInBounds_toArray, List.set_cons_zero, List.set_cons_succ]
      refine wpAnyH_take (i := 15) (oi := ⟨some 43, .load 9 (.tmp 42), 9, "ref.go:39", #[⟨14, .data⟩, ⟨9, .guard⟩], some (9, true)⟩) (v := undef) rfl (by kernel_rfl) (by kernel_rfl) (by kernel_rfl) (fun _ _ _ h => h) (Or.inr ⟨by rfl, rfl⟩) hHeld ?_
      try simp only [Act.put, List.setIfInBounds_toArray, List.set_cons_zero, List.set_cons_succ]
      refine wpAnyH_take (i := 16) (oi := ⟨some 44, .move (.tmp 2), 9, "ref.go:39", #[⟨9, .guard⟩], some (9, true)⟩) (v := undef) rfl (by kernel_rfl) (by kernel_rfl) (by kernel_rfl) (fun _ _ _ h => h) (Or.inr ⟨by rfl, rfl⟩) hHeld ?_
      try simp only [Act.put, List.setIfInBounds_toArray, List.set_cons_zero, List.set_cons_succ]
      refine wpAnyH_take (i := 17) (oi := ⟨some 45, .call { callee := .value (.func 41), args := #[.tmp 43, .tmp 44], argTypes := #[9, 9] }, 4, "ref.go:39", #[⟨15, .data⟩, ⟨16, .data⟩, ⟨9, .chain⟩, ⟨9, .guard⟩], some (9, true)⟩) (v := undef) rfl (by kernel_rfl) (by kernel_rfl) (by kernel_rfl) (fun _ _ _ h => h) (Or.inr ⟨by rfl, rfl⟩) hHeld ?_
      try simp only [Act.put, List.setIfInBounds_toArray, List.set_cons_zero, List.set_cons_succ]
      refine wpAnyH_take (i := 18) (oi := ⟨some 46, .pick (.tmp 37) (.tmp 45) (.const (.bool false)), 4, "ref.go:39", #[⟨9, .data⟩, ⟨17, .data⟩], none⟩) (v := .bool false) rfl (by kernel_rfl) (by kernel_rfl) (by kernel_rfl) (fun _ _ _ h => h) (Or.inl ⟨by rfl, fun w hSw => by (try dsimp only at hSw); go_simp⟩) hHeld ?_
      try simp only [Act.put, List.setIfInBounds_toArray, List.set_cons_zero, List.set_cons_succ]
      have HK3 := Lib.hid (hK.out.trans hHeld)
      refine wpAnyH_done (by kernel_rfl) ?_ _
      clear hHeld
      go_wp2
      refine ⟨⟨i + 1, by omega, by go_num, Hno2, HK3⟩, by simp [intOf]; omega⟩
    ·have hiz : ¬ ((i : Int) < (N : Int)) := by omega
     have Han := Lib.hid (any_all (f := fun e : Tx × Tx => e.2 == x.2.name && hitG e.1 s) (by rw [HN.out]; omega) hno.out)
     go_wp2
     go_ret
     exact ⟨by rw [Han.out]; rfl, HkW.out.trans hK.out⟩
end Go.Proofs.YtdlchlbngojljaaDoor
namespace Go.Proofs.YtdlchlbngojljaaDoor
open Go.RowKit Go.Maps
theorem row_cellS {α : Type} {r : RT α} {x : α} {W : World} {R : Nat} {A : Array Value} {t : TypeId} (h : W.heap[R]? = some (.cells A t (0, 0))) (hA : A.toList = r.cf x) : W.rangeAt R 0 (r.cf x) := fun j u hj => by
 rw [Nat.zero_add, cell_of_row _ _ _ _ _ _ h, ← hj, ← hA]
 simp
theorem putS_at : ∀ {l : List Tx} {s : Tx} {i : Nat}, (∀ x ∈ l.take i, x < s) → i ≤ l.length → (∀ x, l[i]? = some x → ¬ x < s) → putS l s = if l[i]? = some s then l else l.take i ++ s :: l.drop i
 | [], s, i, _, hi, _ => by
  obtain rfl : i = 0 := by simpa using hi
  simp [putS]
 | y :: r, s, 0, _, _, hn => by
  have h1 := hn y rfl
  unfold putS
  rw [if_neg h1]
  by_cases h2 : y = s
  ·subst h2
   simp
  ·rw [if_neg h2]
   simp [h2]
 | y :: r, s, i + 1, ht, hi, hn => by
  have h1 : y < s := ht y (by simp)
  have ih := putS_at (l := r) (s := s) (i := i) (fun x hx => ht x (by simp [hx])) (by simpa using hi) (fun x hx => hn x (by simpa using hx))
  unfold putS
  rw [if_pos h1, ih]
  simp only [List.getElem?_cons_succ, List.take_succ_cons, List.drop_succ_cons]
  split <;> rfl
theorem run_append_anyN {α : Type} {r : RT α} {w : World} {base : Nat} {v y : Value} {xs ys : List α} (ty : TypeId) (hown : r.Own w base v xs) (hy : r.Any w y ys) (hb1 : xs.length + ys.length ≤ 1000000) (hb : base ≤ w.heap.size) :
  ∃ v' w', (Builtin.append_ #[r.sl, r.sl] ty #[v, y]).run Tryd.prog w = .ok v' w' ∧ r.Own w' base v' (xs ++ ys) ∧ w.grownBy w' v.ownBlock := by
 by_cases hne : xs = []
 ·subst hne
  rcases hy with ⟨rfl, rfl⟩ | ⟨b, p, c, rfl, hrow⟩
  ·obtain ⟨i0, hi0, hz0, hz1, hz2⟩ := info_parts r.info
   rcases hown.form2 with ⟨rfl, _⟩ | ⟨g, cap, rfl, _, _, hcap, _, _⟩
   ·exact ⟨_, w, run_append_nothing w r.sl r.sl ty r.ty i0 r.und hi0 none 0 0 (Nat.le_refl _) _ (Src.ofNil w r.und 0), hown, World.grownBy.refl _ _⟩
   ·exact ⟨_, w, run_append_nothing w r.sl r.sl ty r.ty i0 r.und hi0 _ _ _ hcap _ (Src.ofNil w r.und 0), by rw [List.append_nil]; exact hown, World.grownBy.refl _ _⟩
  ·obtain ⟨i0, hi0, hz0, hz1, hz2⟩ := info_parts r.info
   obtain ⟨v', w', h1, h2, h3, _⟩ := run_append_own (P := Tryd.prog) w base r.sl ty r.ty i0 _ r.sz r.bt r.und hi0 hz0 hz1 hz2 r.zs r.pos v ([] : List α).length (r.cells []) hown ⟨b, p, none⟩ ys.length c (r.cells ys)
    (r.cells_len ys) (fun j u hj => by
     rw [show (⟨b, p, none⟩ : Addr).add j = ⟨b, p + j, none⟩ from add_addr b p j]
     exact hrow.all j u hj) (r.cells_one ys) (by unfold maxLen; omega) (by
     have := r.btl
     have : (([] : List α).length + ys.length) * r.bt ≤ 1000000 * 256 := Nat.mul_le_mul (by omega) this
     omega) hb
   refine ⟨v', w', h1, ?_, h3⟩
   unfold RT.Own
   rw [List.length_append, RT.cells_append]
   exact h2
 ·exact run_append_any ty hown hne hy hb1 hb
theorem st_take {w : World} {g : Nat} {l : List Tx} (h : stT.Row w g 0 l) (i : Nat) : stT.Row w g 0 (l.take i) := fun j x hx => h j x (by
 rw [List.getElem?_take] at hx
 split at hx
 ·exact hx
 ·cases hx)
theorem st_drop {w : World} {g : Nat} {l : List Tx} (h : stT.Row w g 0 l) (i : Nat) : stT.Row w g i (l.drop i) := fun j x hx => by
 rw [List.getElem?_drop] at hx
 have := h (i + j) x hx
 have e : stT.sz = 1 := rfl
 rw [e, Nat.mul_one, Nat.zero_add] at this
 rw [e, Nat.mul_one]
 exact this
theorem any_takeS {w : World} {g c : Nat} {l : List Tx} (h : stT.Row w g 0 l) {i : Nat} (hi : i ≤ l.length) : stT.Any w (.slice (some ⟨g, 0, none⟩) i c) (l.take i) := .inr ⟨g, 0, c, by rw [List.length_take_of_le hi], st_take h i⟩
theorem any_dropS {w : World} {g c o2 : Nat} {l : List Tx} (h : stT.Row w g 0 l) {i : Nat} (hi : i ≤ l.length) (hc : l.length ≤ c) (ho : (if c = i then 0 else i) = o2) : stT.Any w (.slice (some ⟨g, o2, none⟩) (l.length - i) (c - i)) (l.drop i) := by
 by_cases he : c = i
 ·refine .inr ⟨g, o2, c - i, by rw [List.length_drop], fun j x hx => ?_⟩
  rw [List.drop_eq_nil_of_le (by omega)] at hx
  simp at hx
 ·rw [if_neg he] at ho
  subst ho
  exact .inr ⟨g, i, c - i, by rw [List.length_drop], st_drop h i⟩
set_option maxHeartbeats 8000000 in
set_option maxRecDepth 100000 in
theorem put_any {w : World} {B : Nat} {v : Value} {l : List Tx} (s : Tx) (hl : l.length ≤ 100000) (hB : B ≤ w.heap.size) (hO : stT.Own w B v l) :
  Calls Tryd.prog 26 #[v, .string (bs s)] w fun e w' => ∃ v', Hid (stT.Own w' B v' (putS l s)) ∧ e = .returned v' ∧ Kp [] w w' := by
 have HO := Lib.hid hO
 have HB := Lib.hid hB
 rcases hO.form2 with ⟨rfl, rfl⟩ | ⟨g, c, rfl, hBg, hgl, hcap, hfr, hrow⟩
 ·clear hO hB hl
  go_enter Tryd.func26, Tryd.ntmps26
  go_wp2
  go_loopw [5] (fun s5 wx => s5 = .int .i64 ((0 : Nat) : Int) ∧ wx = w) (fun _ _ => 0)
  case atStart => exact ⟨rfl, rfl⟩
  case round =>
   obtain ⟨rfl, rfl⟩ := hrel
   have hK0 := Lib.hid (Kp.refl [] wr)
   have HBr := HB
   obtain ⟨l, hl0⟩ : ∃ l : List Tx, [] = l := ⟨_, rfl⟩
   obtain ⟨i, hi0⟩ : ∃ i : Nat, 0 = i := ⟨_, rfl⟩
   have HA1 := Lib.hid (show ∀ W, Kp [] wr W → stT.Any W (.slice none 0 0) (l.take i) from fun W _ => .inl ⟨rfl, by rw [← hl0]; simp⟩)
   have HA2 := Lib.hid (show ∀ W, Kp [] wr W → stT.Any W (.slice none 0 0) (l.drop i) from fun W _ => .inl ⟨rfl, by rw [← hl0]; simp⟩)
   have HLa := Lib.hid (show ([] : List Tx).length + (l.take i).length ≤ 1000000 from by rw [← hl0]; simp)
   have HLb := Lib.hid (show ([] ++ l.take i ++ [s]).length + (l.drop i).length ≤ 1000000 from by rw [← hl0]; simp)
   have Hput := Lib.hid (show putS [] s = l.take i ++ s :: l.drop i from by rw [← hl0]; simp [putS])
   clear hl0 hi0
   go_upto_region 6 with fail
   refine wp_region_held_drew (S := fun X => Kp [] wr X) (by kernel_rfl) ((Kp.refl [] wr).drew 1) (fun hHeld => ?_)
   generalize hwd : wr.drew = wd at *
   clear hwd
   refine wpAnyH_take (i := 0) (oi := ⟨some 33, .move (.tmp 0), 28, "ref.go:27", #[], none⟩) (v := .slice none 0 0) rfl (by kernel_rfl) (by kernel_rfl) (by kernel_rfl) (fun _ _ _ h => h) (Or.inl ⟨by rfl, fun w hSw => by (try dsimp only at hSw); go_simp⟩) hHeld ?_
   try simp only [Act.put, List.setIfInBounds_toArray, List.set_cons_zero, List.set_cons_succ]
   refine wpAnyH_take (i := 1) (oi := ⟨some 34, .move (.tmp 5), 3, "ref.go:27", #[], none⟩) (v := .int .i64 ((0 : Nat) : Int)) rfl (by kernel_rfl) (by kernel_rfl) (by kernel_rfl) (fun _ _ _ h => h) (Or.inl ⟨by rfl, fun w hSw => by (try dsimp only at hSw); go_simp⟩) hHeld ?_
   try simp only [Act.put, List.setIfInBounds_toArray, List.set_cons_zero, List.set_cons_succ]
   refine wpAnyH_take (i := 2) (oi := ⟨some 35, .slice 28 (.tmp 33) none (some (.tmp 34)) none, 28, "ref.go:27", #[⟨0, .data⟩, ⟨1, .data⟩], none⟩) (v := .slice none 0 0) rfl (by kernel_rfl) (by kernel_rfl) (by kernel_rfl) (fun _ _ _ h => h) (Or.inl ⟨by rfl, fun w hSw => by (try dsimp only at hSw); go_simp⟩) hHeld ?_
   try simp only [Act.put, List.setIfInBounds_toArray, List.set_cons_zero, List.set_cons_succ]
   refine wpAnyH_take (i := 4) (oi := ⟨some 37, .move (.tmp 1), 9, "ref.go:27", #[], none⟩) (v := .string (bs s)) rfl (by kernel_rfl) (by kernel_rfl) (by kernel_rfl) (fun _ _ _ h => h) (Or.inl ⟨by rfl, fun w hSw => by (try dsimp only at hSw); go_simp⟩) hHeld ?_
   try simp only [Act.put, List.setIfInBounds_toArray, List.set_cons_zero, List.set_cons_succ]
   refine wpAnyH_take (i := 7) (oi := ⟨some 40, .move (.tmp 0), 28, "ref.go:27", #[], none⟩) (v := .slice none 0 0) rfl (by kernel_rfl) (by kernel_rfl) (by kernel_rfl) (fun _ _ _ h => h) (Or.inl ⟨by rfl, fun w hSw => by (try dsimp only at hSw); go_simp⟩) hHeld ?_
   try simp only [Act.put, List.setIfInBounds_toArray, List.set_cons_zero, List.set_cons_succ]
   refine wpAnyH_take (i := 8) (oi := ⟨some 41, .move (.tmp 5), 3, "ref.go:27", #[], none⟩) (v := .int .i64 ((0 : Nat) : Int)) rfl (by kernel_rfl) (by kernel_rfl) (by kernel_rfl) (fun _ _ _ h => h) (Or.inl ⟨by rfl, fun w hSw => by (try dsimp only at hSw); go_simp⟩) hHeld ?_
   try simp only [Act.put, List.setIfInBounds_toArray, List.set_cons_zero, List.set_cons_succ]
   refine wpAnyH_take (i := 9) (oi := ⟨some 42, .slice 28 (.tmp 40) (some (.tmp 41)) none none, 28, "ref.go:27", #[⟨7, .data⟩, ⟨8, .data⟩], none⟩) (v := .slice none 0 0) rfl (by kernel_rfl) (by kernel_rfl) (by kernel_rfl) (fun _ _ _ h => h) (Or.inl ⟨by rfl, fun w hSw => by (try dsimp only at hSw); go_simp⟩) hHeld ?_
   try simp only [Act.put, List.setIfInBounds_toArray, List.set_cons_zero, List.set_cons_succ]
   refine wpAnyH_ready (rs := [3, 5]) (by kernel_rfl) (by simp) ?_
   refine AllReadyH.cons (o := ⟨some 36, .call { callee := .builtin .append, args := #[.const (.slice none 0 0), .tmp 35], argTypes := #[28, 28] }, 28, "ref.go:27", #[⟨2, .data⟩], none⟩) rfl (fun K hK => ?_) (AllReadyH.cons (o := ⟨some 38, .buildSlice 28 1 #[(0, .tmp 37)], 28, "ref.go:27", #[⟨4, .data⟩], none⟩) rfl (fun K hK => ?_) AllReadyH.nil)
   ·skip
    obtain ⟨v6, w6, hrun, how, hgr⟩ := run_append_anyN (r := stT) (w := wd) (base := wr.heap.size) (v := .slice none 0 0) (xs := []) (ys := l.take i) 28 (RT.Own.nil _ _ _) (HA1.out _ hHeld) HLa.out hHeld.size
    have HR := Lib.hid hrun
    have HO6 := Lib.hid how
    have hS : Kp [] wr w6 := kp_grownS hHeld hgr (fun b hb => by cases hb)
    clear hrun how hgr
    refine step_append_run rfl 28 _ _ rfl _ _ _ rfl rfl HR.out ?_
    clear hHeld
    refine hK.out _ _ hS (fun hHeld => ?_)
    try simp only [Act.put, List.setIfInBounds_toArray, List.set_cons_zero, List.set_cons_succ]
    clear hK
    clear hS HR
    refine wpAnyH_ready (rs := [5]) (by kernel_rfl) (by simp) ?_
    refine AllReadyH.cons (o := ⟨some 38, .buildSlice 28 1 #[(0, .tmp 37)], 28, "ref.go:27", #[⟨4, .data⟩], none⟩) rfl (fun K hK => ?_) AllReadyH.nil
    go_simp
    have hr7 := heap_alloc_last w6 (.cells #[.string (bs s)] 9)
    have hk7 := (Kp.refl [] w6).alloc (.cells #[.string (bs s)] 9)
    have HO7 := Lib.hid (HO6.out.kp0 hk7)
    clear HO6
    have HO6 := HO7
    clear HO7
    obtain ⟨R7, hR7⟩ : ∃ R, w6.heap.size = R := ⟨_, rfl⟩
    generalize w6.alloc (.cells #[.string (bs s)] 9) = w7 at *
    rw [hR7] at hr7 ⊢
    have HM7 := Lib.hid hr7
    have hS := hHeld.trans hk7
    clear hr7 hk7 hR7
    clear hHeld
    refine hK.out _ _ hS (fun hHeld => ?_)
    try simp only [Act.put, List.setIfInBounds_toArray, List.set_cons_zero, List.set_cons_succ]
    clear hK
    clear hS
    refine wpAnyH_ready (rs := [6]) (by kernel_rfl) (by simp) ?_
    refine AllReadyH.cons (o := ⟨some 39, .call { callee := .builtin .append, args := #[.tmp 36, .tmp 38], argTypes := #[28, 28] }, 28, "ref.go:27", #[⟨3, .data⟩, ⟨5, .data⟩, ⟨3, .chain⟩], none⟩) rfl (fun K hK => ?_) AllReadyH.nil
    obtain ⟨v8, w8, hrun, how, hgr⟩ := run_append_r (r := stT) (c := 1) s 28 HO6.out (row_cellS HM7.out rfl) (by have := HLa.out; rw [List.length_append]; exact this) hHeld.size
    have HR := Lib.hid hrun
    have HO8 := Lib.hid how
    have hS : Kp [] wr w8 := kp_grownS hHeld hgr (fun b hb => (HO6.out.ge b hb).1)
    clear hrun how hgr
    refine step_append_run rfl 28 _ _ rfl _ _ _ rfl rfl HR.out ?_
    clear hHeld
    refine hK.out _ _ hS (fun hHeld => ?_)
    try simp only [Act.put, List.setIfInBounds_toArray, List.set_cons_zero, List.set_cons_succ]
    clear hK
    clear hS HR HO6 HM7
    refine wpAnyH_ready (rs := [10]) (by kernel_rfl) (by simp) ?_
    refine AllReadyH.cons (o := ⟨some 43, .call { callee := .builtin .append, args := #[.tmp 39, .tmp 42], argTypes := #[28, 28] }, 28, "ref.go:27", #[⟨6, .data⟩, ⟨9, .data⟩, ⟨6, .chain⟩], none⟩) rfl (fun K hK => ?_) AllReadyH.nil
    obtain ⟨v9, w9, hrun, how, hgr⟩ := run_append_anyN (r := stT) (w := w8) (base := wr.heap.size) (v := v8) (xs := [] ++ l.take i ++ [s]) (ys := l.drop i) 28 HO8.out (HA2.out _ hHeld) HLb.out hHeld.size
    have HR := Lib.hid hrun
    have HO9 := Lib.hid how
    have hS : Kp [] wr w9 := kp_grownS hHeld hgr (fun b hb => (HO8.out.ge b hb).1)
    clear hrun how hgr
    refine step_append_run rfl 28 _ _ rfl _ _ _ rfl rfl HR.out ?_
    clear hHeld
    refine hK.out _ _ hS (fun hHeld => ?_)
    try simp only [Act.put, List.setIfInBounds_toArray, List.set_cons_zero, List.set_cons_succ]
    clear hK
    clear hS HR HO8
    refine wpAnyH_take (i := 11) (oi := ⟨some 4, .assign (.tmp 43), 28, "ref.go:27", #[⟨10, .data⟩, ⟨10, .chain⟩, ⟨0, .phase⟩, ⟨1, .phase⟩, ⟨2, .phase⟩, ⟨3, .phase⟩, ⟨4, .phase⟩, ⟨5, .phase⟩, ⟨6, .phase⟩, ⟨7, .phase⟩, ⟨8, .phase⟩, ⟨9, .phase⟩, ⟨10, .phase⟩], none⟩) (v := v9) rfl (by kernel_rfl) (by kernel_rfl) (by kernel_rfl) (fun _ _ _ h => h) (Or.inl ⟨by rfl, fun w hSw => by (try dsimp only at hSw); go_simp⟩) hHeld ?_
    try simp only [Act.put, List.setIfInBounds_toArray, List.set_cons_zero, List.set_cons_succ]
    have HSe := Lib.hid hHeld
    refine wpAnyH_done (by kernel_rfl) ?_ _
    clear hHeld
    go_wp2
    go_ret
    exact ⟨_, Lib.hid (by rw [Hput.out]; simpa using HO9.out.down HBr.out), rfl, hK0.out.trans HSe.out⟩
   ·skip
    go_simp
    have hr7 := heap_alloc_last wd (.cells #[.string (bs s)] 9)
    have hk7 := (Kp.refl [] wd).alloc (.cells #[.string (bs s)] 9)
    obtain ⟨R7, hR7⟩ : ∃ R, wd.heap.size = R := ⟨_, rfl⟩
    generalize wd.alloc (.cells #[.string (bs s)] 9) = w7 at *
    rw [hR7] at hr7 ⊢
    have HM7 := Lib.hid hr7
    have hS := hHeld.trans hk7
    clear hr7 hk7 hR7
    clear hHeld
    refine hK.out _ _ hS (fun hHeld => ?_)
    try simp only [Act.put, List.setIfInBounds_toArray, List.set_cons_zero, List.set_cons_succ]
    clear hK
    clear hS
    refine wpAnyH_ready (rs := [3]) (by kernel_rfl) (by simp) ?_
    refine AllReadyH.cons (o := ⟨some 36, .call { callee := .builtin .append, args := #[.const (.slice none 0 0), .tmp 35], argTypes := #[28, 28] }, 28, "ref.go:27", #[⟨2, .data⟩], none⟩) rfl (fun K hK => ?_) AllReadyH.nil
    obtain ⟨v6, w6, hrun, how, hgr⟩ := run_append_anyN (r := stT) (w := w7) (base := wr.heap.size) (v := .slice none 0 0) (xs := []) (ys := l.take i) 28 (RT.Own.nil _ _ _) (HA1.out _ hHeld) HLa.out hHeld.size
    have HR := Lib.hid hrun
    have HO6 := Lib.hid how
    have hS : Kp [] wr w6 := kp_grownS hHeld hgr (fun b hb => by cases hb)
    have hm8 := (hgr.block R7 (block_lt HM7.out) (by intro h; cases h)).trans HM7.out
    clear HM7
    have HM7 := Lib.hid hm8
    clear hm8
    clear hrun how hgr
    refine step_append_run rfl 28 _ _ rfl _ _ _ rfl rfl HR.out ?_
    clear hHeld
    refine hK.out _ _ hS (fun hHeld => ?_)
    try simp only [Act.put, List.setIfInBounds_toArray, List.set_cons_zero, List.set_cons_succ]
    clear hK
    clear hS HR
    refine wpAnyH_ready (rs := [6]) (by kernel_rfl) (by simp) ?_
    refine AllReadyH.cons (o := ⟨some 39, .call { callee := .builtin .append, args := #[.tmp 36, .tmp 38], argTypes := #[28, 28] }, 28, "ref.go:27", #[⟨3, .data⟩, ⟨5, .data⟩, ⟨3, .chain⟩], none⟩) rfl (fun K hK => ?_) AllReadyH.nil
    obtain ⟨v8, w8, hrun, how, hgr⟩ := run_append_r (r := stT) (c := 1) s 28 HO6.out (row_cellS HM7.out rfl) (by have := HLa.out; rw [List.length_append]; exact this) hHeld.size
    have HR := Lib.hid hrun
    have HO8 := Lib.hid how
    have hS : Kp [] wr w8 := kp_grownS hHeld hgr (fun b hb => (HO6.out.ge b hb).1)
    clear hrun how hgr
    refine step_append_run rfl 28 _ _ rfl _ _ _ rfl rfl HR.out ?_
    clear hHeld
    refine hK.out _ _ hS (fun hHeld => ?_)
    try simp only [Act.put, List.setIfInBounds_toArray, List.set_cons_zero, List.set_cons_succ]
    clear hK
    clear hS HR HO6 HM7
    refine wpAnyH_ready (rs := [10]) (by kernel_rfl) (by simp) ?_
    refine AllReadyH.cons (o := ⟨some 43, .call { callee := .builtin .append, args := #[.tmp 39, .tmp 42], argTypes := #[28, 28] }, 28, "ref.go:27", #[⟨6, .data⟩, ⟨9, .data⟩, ⟨6, .chain⟩], none⟩) rfl (fun K hK => ?_) AllReadyH.nil
    obtain ⟨v9, w9, hrun, how, hgr⟩ := run_append_anyN (r := stT) (w := w8) (base := wr.heap.size) (v := v8) (xs := [] ++ l.take i ++ [s]) (ys := l.drop i) 28 HO8.out (HA2.out _ hHeld) HLb.out hHeld.size
    have HR := Lib.hid hrun
    have HO9 := Lib.hid how
    have hS : Kp [] wr w9 := kp_grownS hHeld hgr (fun b hb => (HO8.out.ge b hb).1)
    clear hrun how hgr
    refine step_append_run rfl 28 _ _ rfl _ _ _ rfl rfl HR.out ?_
    clear hHeld
    refine hK.out _ _ hS (fun hHeld => ?_)
    try simp only [Act.put, List.setIfInBounds_toArray, List.set_cons_zero, List.set_cons_succ]
    clear hK
    clear hS HR HO8
    refine wpAnyH_take (i := 11) (oi := ⟨some 4, .assign (.tmp 43), 28, "ref.go:27", #[⟨10, .data⟩, ⟨10, .chain⟩, ⟨0, .phase⟩, ⟨1, .phase⟩, ⟨2, .phase⟩, ⟨3, .phase⟩, ⟨4, .phase⟩, ⟨5, .phase⟩, ⟨6, .phase⟩, ⟨7, .phase⟩, ⟨8, .phase⟩, ⟨9, .phase⟩, ⟨10, .phase⟩], none⟩) (v := v9) rfl (by kernel_rfl) (by kernel_rfl) (by kernel_rfl) (fun _ _ _ h => h) (Or.inl ⟨by rfl, fun w hSw => by (try dsimp only at hSw); go_simp⟩) hHeld ?_
    try simp only [Act.put, List.setIfInBounds_toArray, List.set_cons_zero, List.set_cons_succ]
    have HSe := Lib.hid hHeld
    refine wpAnyH_done (by kernel_rfl) ?_ _
    clear hHeld
    go_wp2
    go_ret
    exact ⟨_, Lib.hid (by rw [Hput.out]; simpa using HO9.out.down HBr.out), rfl, hK0.out.trans HSe.out⟩
 ·obtain ⟨N, hN⟩ : ∃ n, l.length = n := ⟨_, rfl⟩
  have HN := Lib.hid hN
  rw [hN] at hl hcap HO ⊢
  have HRow := Lib.hid (show ∀ W, Kp [] w W → stT.Row W g 0 l from fun W h => hrow.keep (h.block g hgl (by simp)))
  clear hO hB hN hBg hgl hfr hrow
  go_enter Tryd.func26, Tryd.ntmps26
  go_wp2
  go_loopw [5] (fun s5 wx => ∃ i : Nat, i ≤ N ∧ s5 = .int .i64 (i : Int) ∧ Hid (∀ x ∈ l.take i, x < s) ∧ Hid (Kp [] w wx)) (fun s5 _ => N - (intOf s5).toNat)
  case atStart => exact ⟨0, by omega, rfl, Lib.hid (by simp), Lib.hid (Kp.refl [] w)⟩
  case round =>
   obtain ⟨i, hi, rfl, hno, hK0⟩ := hrel
   have HBr := Lib.hid (Nat.le_trans HB.out hK0.out.size)
   obtain ⟨o2, ho2⟩ : ∃ q, (if c = i then 0 else i) = q := ⟨_, rfl⟩
   have Ho2 := Lib.hid ho2
   have HA1 := Lib.hid (show ∀ W, Kp [] wr W → stT.Any W (.slice (some ⟨g, 0, none⟩) i c) (l.take i) from fun W h => any_takeS (HRow.out W (hK0.out.trans h)) (by rw [HN.out]; exact hi))
   have HA2 := Lib.hid (show ∀ W, Kp [] wr W → stT.Any W (.slice (some ⟨g, o2, none⟩) (N - i) (c - i)) (l.drop i) from fun W h => by
    have h9 := any_dropS (HRow.out W (hK0.out.trans h)) (i := i) (by rw [HN.out]; exact hi) (by rw [HN.out]; exact hcap) ho2
    rwa [HN.out] at h9)
   have HLa := Lib.hid (show ([] : List Tx).length + (l.take i).length ≤ 1000000 from by rw [List.length_take_of_le (by rw [HN.out]; exact hi)]; simp; omega)
   have HLb := Lib.hid (show ([] ++ l.take i ++ [s]).length + (l.drop i).length ≤ 1000000 from by rw [List.length_append, List.nil_append, List.length_take_of_le (by rw [HN.out]; exact hi), List.length_drop, HN.out]; simp; omega)
   have HPut := Lib.hid (show (∀ x, l[i]? = some x → ¬ x < s) → putS l s = if l[i]? = some s then l else l.take i ++ s :: l.drop i from fun h => putS_at hno.out (by rw [HN.out]; exact hi) h)
   clear ho2
   by_cases hlt : i < N
   ·have hiz : (i : Int) < (N : Int) := by omega
    obtain ⟨x, hx⟩ : ∃ x, l[i]? = some x := ⟨_, List.getElem?_eq_getElem (by rw [HN.out]; exact hlt)⟩
    have c0 := st_cell (HRow.out _ hK0.out) hx
    rw [Nat.zero_add] at c0
    have Hx := Lib.hid hx
    have hbl := bytesLess_eq (bs x).toList (bs s).toList
    have heq := bs_eq x s
    rw [toL, toL] at hbl
    have hbl2 : Op.bytesLess (bs x).toList (bs s).toList = decide (x < s) := by rw [toL, toL]; exact hbl
    clear hbl hx
    by_cases hxs : x < s
    ·rw [decide_eq_true hxs] at hbl2
     have Hno2 := Lib.hid (show ∀ y ∈ l.take (i + 1), y < s from by
      rw [List.take_add_one, Hx.out]
      intro y hy
      rcases List.mem_append.1 hy with h1 | h1
      ·exact hno.out y h1
      ·simp only [Option.toList, List.mem_singleton] at h1
       rw [h1]; exact hxs)
     clear hxs heq
     go_wp2
     refine ⟨⟨i + 1, by omega, by go_num, Hno2, hK0⟩, by simp [intOf]; omega⟩
    ·rw [decide_eq_false hxs] at hbl2
     have hput := HPut.out (fun y hy => by rw [Hx.out] at hy; cases hy; exact hxs)
     rw [Hx.out] at hput
     clear hxs
     cases hq : x == s with
     | true =>
      rw [hq] at heq
      have hxe : x = s := by simpa using hq
      rw [if_pos (by rw [hxe])] at hput
      have Hput := Lib.hid hput
      clear hput hq hxe
      go_wp2
      go_ret
      exact ⟨_, Lib.hid (by rw [Hput.out]; have h9 := HO.out; rw [← HN.out] at h9 ⊢; exact h9.kp0 hK0.out), rfl, hK0.out⟩
     | false =>
      rw [hq] at heq
      have hxe : ¬ (x = s) := by simpa using hq
      rw [if_neg (by intro h; exact hxe (Option.some.inj h))] at hput
      have Hput := Lib.hid hput
      clear hput hq hxe
      go_upto_region 6 with fail
      clear c0
      refine wp_region_held_drew (S := fun X => Kp [] wr X) (by kernel_rfl) ((Kp.refl [] wr).drew 1) (fun hHeld => ?_)
      generalize hwd : wr.drew = wd at *
      clear hwd
      refine wpAnyH_take (i := 0) (oi := ⟨some 33, .move (.tmp 0), 28, "ref.go:27", #[], none⟩) (v := .slice (some ⟨g, 0, none⟩) N c) rfl (by kernel_rfl) (by kernel_rfl) (by kernel_rfl) (fun _ _ _ h => h) (Or.inl ⟨by rfl, fun w hSw => by (try dsimp only at hSw); go_simp⟩) hHeld ?_
      try simp only [Act.put, List.setIfInBounds_toArray, List.set_cons_zero, List.set_cons_succ]
      refine wpAnyH_take (i := 1) (oi := ⟨some 34, .move (.tmp 5), 3, "ref.go:27", #[], none⟩) (v := .int .i64 (i : Int)) rfl (by kernel_rfl) (by kernel_rfl) (by kernel_rfl) (fun _ _ _ h => h) (Or.inl ⟨by rfl, fun w hSw => by (try dsimp only at hSw); go_simp⟩) hHeld ?_
      try simp only [Act.put, List.setIfInBounds_toArray, List.set_cons_zero, List.set_cons_succ]
      refine wpAnyH_take (i := 2) (oi := ⟨some 35, .slice 28 (.tmp 33) none (some (.tmp 34)) none, 28, "ref.go:27", #[⟨0, .data⟩, ⟨1, .data⟩], none⟩) (v := .slice (some ⟨g, 0, none⟩) i c) rfl (by kernel_rfl) (by kernel_rfl) (by kernel_rfl) (fun _ _ _ h => h) (Or.inl ⟨by rfl, fun w hSw => by (try dsimp only at hSw); go_simp; first | done | (intro h; exfalso; omega)⟩) hHeld ?_
      try simp only [Act.put, List.setIfInBounds_toArray, List.set_cons_zero, List.set_cons_succ]
      refine wpAnyH_take (i := 4) (oi := ⟨some 37, .move (.tmp 1), 9, "ref.go:27", #[], none⟩) (v := .string (bs s)) rfl (by kernel_rfl) (by kernel_rfl) (by kernel_rfl) (fun _ _ _ h => h) (Or.inl ⟨by rfl, fun w hSw => by (try dsimp only at hSw); go_simp⟩) hHeld ?_
      try simp only [Act.put, List.setIfInBounds_toArray, List.set_cons_zero, List.set_cons_succ]
      refine wpAnyH_take (i := 7) (oi := ⟨some 40, .move (.tmp 0), 28, "ref.go:27", #[], none⟩) (v := .slice (some ⟨g, 0, none⟩) N c) rfl (by kernel_rfl) (by kernel_rfl) (by kernel_rfl) (fun _ _ _ h => h) (Or.inl ⟨by rfl, fun w hSw => by (try dsimp only at hSw); go_simp⟩) hHeld ?_
      try simp only [Act.put, List.setIfInBounds_toArray, List.set_cons_zero, List.set_cons_succ]
      refine wpAnyH_take (i := 8) (oi := ⟨some 41, .move (.tmp 5), 3, "ref.go:27", #[], none⟩) (v := .int .i64 (i : Int)) rfl (by kernel_rfl) (by kernel_rfl) (by kernel_rfl) (fun _ _ _ h => h) (Or.inl ⟨by rfl, fun w hSw => by (try dsimp only at hSw); go_simp⟩) hHeld ?_
      try simp only [Act.put, List.setIfInBounds_toArray, List.set_cons_zero, List.set_cons_succ]
      refine wpAnyH_take (i := 9) (oi := ⟨some 42, .slice 28 (.tmp 40) (some (.tmp 41)) none none, 28, "ref.go:27", #[⟨7, .data⟩, ⟨8, .data⟩], none⟩) (v := .slice (some ⟨g, o2, none⟩) (N - i) (c - i)) rfl (by kernel_rfl) (by kernel_rfl) (by kernel_rfl) (fun _ _ _ h => h) (Or.inl ⟨by rfl, fun w hSw => by (try dsimp only at hSw); go_simp; rw [← Ho2.out]; split <;> rfl⟩) hHeld ?_
      try simp only [Act.put, List.setIfInBounds_toArray, List.set_cons_zero, List.set_cons_succ]
      refine wpAnyH_ready (rs := [3, 5]) (by kernel_rfl) (by simp) ?_
      refine AllReadyH.cons (o := ⟨some 36, .call { callee := .builtin .append, args := #[.const (.slice none 0 0), .tmp 35], argTypes := #[28, 28] }, 28, "ref.go:27", #[⟨2, .data⟩], none⟩) rfl (fun K hK => ?_) (AllReadyH.cons (o := ⟨some 38, .buildSlice 28 1 #[(0, .tmp 37)], 28, "ref.go:27", #[⟨4, .data⟩], none⟩) rfl (fun K hK => ?_) AllReadyH.nil)
      ·skip
       obtain ⟨v6, w6, hrun, how, hgr⟩ := run_append_anyN (r := stT) (w := wd) (base := wr.heap.size) (v := .slice none 0 0) (xs := []) (ys := l.take i) 28 (RT.Own.nil _ _ _) (HA1.out _ hHeld) HLa.out hHeld.size
       have HR := Lib.hid hrun
       have HO6 := Lib.hid how
       have hS : Kp [] wr w6 := kp_grownS hHeld hgr (fun b hb => by cases hb)
       clear hrun how hgr
       refine step_append_run rfl 28 _ _ rfl _ _ _ rfl rfl HR.out ?_
       clear hHeld
       refine hK.out _ _ hS (fun hHeld => ?_)
       try simp only [Act.put, List.setIfInBounds_toArray, List.set_cons_zero, List.set_cons_succ]
       clear hK
       clear hS HR
       refine wpAnyH_ready (rs := [5]) (by kernel_rfl) (by simp) ?_
       refine AllReadyH.cons (o := ⟨some 38, .buildSlice 28 1 #[(0, .tmp 37)], 28, "ref.go:27", #[⟨4, .data⟩], none⟩) rfl (fun K hK => ?_) AllReadyH.nil
       go_simp
       have hr7 := heap_alloc_last w6 (.cells #[.string (bs s)] 9)
       have hk7 := (Kp.refl [] w6).alloc (.cells #[.string (bs s)] 9)
       have HO7 := Lib.hid (HO6.out.kp0 hk7)
       clear HO6
       have HO6 := HO7
       clear HO7
       obtain ⟨R7, hR7⟩ : ∃ R, w6.heap.size = R := ⟨_, rfl⟩
       generalize w6.alloc (.cells #[.string (bs s)] 9) = w7 at *
       rw [hR7] at hr7 ⊢
       have HM7 := Lib.hid hr7
       have hS := hHeld.trans hk7
       clear hr7 hk7 hR7
       clear hHeld
       refine hK.out _ _ hS (fun hHeld => ?_)
       try simp only [Act.put, List.setIfInBounds_toArray, List.set_cons_zero, List.set_cons_succ]
       clear hK
       clear hS
       refine wpAnyH_ready (rs := [6]) (by kernel_rfl) (by simp) ?_
       refine AllReadyH.cons (o := ⟨some 39, .call { callee := .builtin .append, args := #[.tmp 36, .tmp 38], argTypes := #[28, 28] }, 28, "ref.go:27", #[⟨3, .data⟩, ⟨5, .data⟩, ⟨3, .chain⟩], none⟩) rfl (fun K hK => ?_) AllReadyH.nil
       obtain ⟨v8, w8, hrun, how, hgr⟩ := run_append_r (r := stT) (c := 1) s 28 HO6.out (row_cellS HM7.out rfl) (by have := HLa.out; rw [List.length_append]; exact this) hHeld.size
       have HR := Lib.hid hrun
       have HO8 := Lib.hid how
       have hS : Kp [] wr w8 := kp_grownS hHeld hgr (fun b hb => (HO6.out.ge b hb).1)
       clear hrun how hgr
       refine step_append_run rfl 28 _ _ rfl _ _ _ rfl rfl HR.out ?_
       clear hHeld
       refine hK.out _ _ hS (fun hHeld => ?_)
       try simp only [Act.put, List.setIfInBounds_toArray, List.set_cons_zero, List.set_cons_succ]
       clear hK
       clear hS HR HO6 HM7
       refine wpAnyH_ready (rs := [10]) (by kernel_rfl) (by simp) ?_
       refine AllReadyH.cons (o := ⟨some 43, .call { callee := .builtin .append, args := #[.tmp 39, .tmp 42], argTypes := #[28, 28] }, 28, "ref.go:27", #[⟨6, .data⟩, ⟨9, .data⟩, ⟨6, .chain⟩], none⟩) rfl (fun K hK => ?_) AllReadyH.nil
       obtain ⟨v9, w9, hrun, how, hgr⟩ := run_append_anyN (r := stT) (w := w8) (base := wr.heap.size) (v := v8) (xs := [] ++ l.take i ++ [s]) (ys := l.drop i) 28 HO8.out (HA2.out _ hHeld) HLb.out hHeld.size
       have HR := Lib.hid hrun
       have HO9 := Lib.hid how
       have hS : Kp [] wr w9 := kp_grownS hHeld hgr (fun b hb => (HO8.out.ge b hb).1)
       clear hrun how hgr
       refine step_append_run rfl 28 _ _ rfl _ _ _ rfl rfl HR.out ?_
       clear hHeld
       refine hK.out _ _ hS (fun hHeld => ?_)
       try simp only [Act.put, List.setIfInBounds_toArray, List.set_cons_zero, List.set_cons_succ]
       clear hK
       clear hS HR HO8
       refine wpAnyH_take (i := 11) (oi := ⟨some 4, .assign (.tmp 43), 28, "ref.go:27", #[⟨10, .data⟩, ⟨10, .chain⟩, ⟨0, .phase⟩, ⟨1, .phase⟩, ⟨2, .phase⟩, ⟨3, .phase⟩, ⟨4, .phase⟩, ⟨5, .phase⟩, ⟨6, .phase⟩, ⟨7, .phase⟩, ⟨8, .phase⟩, ⟨9, .phase⟩, ⟨10, .phase⟩], none⟩) (v := v9) rfl (by kernel_rfl) (by kernel_rfl) (by kernel_rfl) (fun _ _ _ h => h) (Or.inl ⟨by rfl, fun w hSw => by (try dsimp only at hSw); go_simp⟩) hHeld ?_
       try simp only [Act.put, List.setIfInBounds_toArray, List.set_cons_zero, List.set_cons_succ]
       have HSe := Lib.hid hHeld
       refine wpAnyH_done (by kernel_rfl) ?_ _
       clear hHeld
       go_wp2
       go_ret
       exact ⟨_, Lib.hid (by rw [Hput.out]; simpa using HO9.out.down HBr.out), rfl, hK0.out.trans HSe.out⟩
      ·skip
       go_simp
       have hr7 := heap_alloc_last wd (.cells #[.string (bs s)] 9)
       have hk7 := (Kp.refl [] wd).alloc (.cells #[.string (bs s)] 9)
       obtain ⟨R7, hR7⟩ : ∃ R, wd.heap.size = R := ⟨_, rfl⟩
       generalize wd.alloc (.cells #[.string (bs s)] 9) = w7 at *
       rw [hR7] at hr7 ⊢
       have HM7 := Lib.hid hr7
       have hS := hHeld.trans hk7
       clear hr7 hk7 hR7
       clear hHeld
       refine hK.out _ _ hS (fun hHeld => ?_)
       try simp only [Act.put, List.setIfInBounds_toArray, List.set_cons_zero, List.set_cons_succ]
       clear hK
       clear hS
       refine wpAnyH_ready (rs := [3]) (by kernel_rfl) (by simp) ?_
       refine AllReadyH.cons (o := ⟨some 36, .call { callee := .builtin .append, args := #[.const (.slice none 0 0), .tmp 35], argTypes := #[28, 28] }, 28, "ref.go:27", #[⟨2, .data⟩], none⟩) rfl (fun K hK => ?_) AllReadyH.nil
       obtain ⟨v6, w6, hrun, how, hgr⟩ := run_append_anyN (r := stT) (w := w7) (base := wr.heap.size) (v := .slice none 0 0) (xs := []) (ys := l.take i) 28 (RT.Own.nil _ _ _) (HA1.out _ hHeld) HLa.out hHeld.size
       have HR := Lib.hid hrun
       have HO6 := Lib.hid how
       have hS : Kp [] wr w6 := kp_grownS hHeld hgr (fun b hb => by cases hb)
       have hm8 := (hgr.block R7 (block_lt HM7.out) (by intro h; cases h)).trans HM7.out
       clear HM7
       have HM7 := Lib.hid hm8
       clear hm8
       clear hrun how hgr
       refine step_append_run rfl 28 _ _ rfl _ _ _ rfl rfl HR.out ?_
       clear hHeld
       refine hK.out _ _ hS (fun hHeld => ?_)
       try simp only [Act.put, List.setIfInBounds_toArray, List.set_cons_zero, List.set_cons_succ]
       clear hK
       clear hS HR
       refine wpAnyH_ready (rs := [6]) (by kernel_rfl) (by simp) ?_
       refine AllReadyH.cons (o := ⟨some 39, .call { callee := .builtin .append, args := #[.tmp 36, .tmp 38], argTypes := #[28, 28] }, 28, "ref.go:27", #[⟨3, .data⟩, ⟨5, .data⟩, ⟨3, .chain⟩], none⟩) rfl (fun K hK => ?_) AllReadyH.nil
       obtain ⟨v8, w8, hrun, how, hgr⟩ := run_append_r (r := stT) (c := 1) s 28 HO6.out (row_cellS HM7.out rfl) (by have := HLa.out; rw [List.length_append]; exact this) hHeld.size
       have HR := Lib.hid hrun
       have HO8 := Lib.hid how
       have hS : Kp [] wr w8 := kp_grownS hHeld hgr (fun b hb => (HO6.out.ge b hb).1)
       clear hrun how hgr
       refine step_append_run rfl 28 _ _ rfl _ _ _ rfl rfl HR.out ?_
       clear hHeld
       refine hK.out _ _ hS (fun hHeld => ?_)
       try simp only [Act.put, List.setIfInBounds_toArray, List.set_cons_zero, List.set_cons_succ]
       clear hK
       clear hS HR HO6 HM7
       refine wpAnyH_ready (rs := [10]) (by kernel_rfl) (by simp) ?_
       refine AllReadyH.cons (o := ⟨some 43, .call { callee := .builtin .append, args := #[.tmp 39, .tmp 42], argTypes := #[28, 28] }, 28, "ref.go:27", #[⟨6, .data⟩, ⟨9, .data⟩, ⟨6, .chain⟩], none⟩) rfl (fun K hK => ?_) AllReadyH.nil
       obtain ⟨v9, w9, hrun, how, hgr⟩ := run_append_anyN (r := stT) (w := w8) (base := wr.heap.size) (v := v8) (xs := [] ++ l.take i ++ [s]) (ys := l.drop i) 28 HO8.out (HA2.out _ hHeld) HLb.out hHeld.size
       have HR := Lib.hid hrun
       have HO9 := Lib.hid how
       have hS : Kp [] wr w9 := kp_grownS hHeld hgr (fun b hb => (HO8.out.ge b hb).1)
       clear hrun how hgr
       refine step_append_run rfl 28 _ _ rfl _ _ _ rfl rfl HR.out ?_
       clear hHeld
       refine hK.out _ _ hS (fun hHeld => ?_)
       try simp only [Act.put, List.setIfInBounds_toArray, List.set_cons_zero, List.set_cons_succ]
       clear hK
       clear hS HR HO8
       refine wpAnyH_take (i := 11) (oi := ⟨some 4, .assign (.tmp 43), 28, "ref.go:27", #[⟨10, .data⟩, ⟨10, .chain⟩, ⟨0, .phase⟩, ⟨1, .phase⟩, ⟨2, .phase⟩, ⟨3, .phase⟩, ⟨4, .phase⟩, ⟨5, .phase⟩, ⟨6, .phase⟩, ⟨7, .phase⟩, ⟨8, .phase⟩, ⟨9, .phase⟩, ⟨10, .phase⟩], none⟩) (v := v9) rfl (by kernel_rfl) (by kernel_rfl) (by kernel_rfl) (fun _ _ _ h => h) (Or.inl ⟨by rfl, fun w hSw => by (try dsimp only at hSw); go_simp⟩) hHeld ?_
       try simp only [Act.put, List.setIfInBounds_toArray, List.set_cons_zero, List.set_cons_succ]
       have HSe := Lib.hid hHeld
       refine wpAnyH_done (by kernel_rfl) ?_ _
       clear hHeld
       go_wp2
       go_ret
       exact ⟨_, Lib.hid (by rw [Hput.out]; simpa using HO9.out.down HBr.out), rfl, hK0.out.trans HSe.out⟩
   ·have hiz : ¬ ((i : Int) < (N : Int)) := by omega
    have hput := HPut.out (fun y hy => by have := (List.getElem?_eq_some_iff.1 hy).1; rw [HN.out] at this; omega)
    rw [List.getElem?_eq_none (by rw [HN.out]; omega), if_neg (by simp)] at hput
    have Hput := Lib.hid hput
    clear hput
    go_upto_region 6 with fail
    refine wp_region_held_drew (S := fun X => Kp [] wr X) (by kernel_rfl) ((Kp.refl [] wr).drew 1) (fun hHeld => ?_)
    generalize hwd : wr.drew = wd at *
    clear hwd
    refine wpAnyH_take (i := 0) (oi := ⟨some 33, .move (.tmp 0), 28, "ref.go:27", #[], none⟩) (v := .slice (some ⟨g, 0, none⟩) N c) rfl (by kernel_rfl) (by kernel_rfl) (by kernel_rfl) (fun _ _ _ h => h) (Or.inl ⟨by rfl, fun w hSw => by (try dsimp only at hSw); go_simp⟩) hHeld ?_
    try simp only [Act.put, List.setIfInBounds_toArray, List.set_cons_zero, List.set_cons_succ]
    refine wpAnyH_take (i := 1) (oi := ⟨some 34, .move (.tmp 5), 3, "ref.go:27", #[], none⟩) (v := .int .i64 (i : Int)) rfl (by kernel_rfl) (by kernel_rfl) (by kernel_rfl) (fun _ _ _ h => h) (Or.inl ⟨by rfl, fun w hSw => by (try dsimp only at hSw); go_simp⟩) hHeld ?_
    try simp only [Act.put, List.setIfInBounds_toArray, List.set_cons_zero, List.set_cons_succ]
    refine wpAnyH_take (i := 2) (oi := ⟨some 35, .slice 28 (.tmp 33) none (some (.tmp 34)) none, 28, "ref.go:27", #[⟨0, .data⟩, ⟨1, .data⟩], none⟩) (v := .slice (some ⟨g, 0, none⟩) i c) rfl (by kernel_rfl) (by kernel_rfl) (by kernel_rfl) (fun _ _ _ h => h) (Or.inl ⟨by rfl, fun w hSw => by (try dsimp only at hSw); go_simp; first | done | (intro h; exfalso; omega)⟩) hHeld ?_
    try simp only [Act.put, List.setIfInBounds_toArray, List.set_cons_zero, List.set_cons_succ]
    refine wpAnyH_take (i := 4) (oi := ⟨some 37, .move (.tmp 1), 9, "ref.go:27", #[], none⟩) (v := .string (bs s)) rfl (by kernel_rfl) (by kernel_rfl) (by kernel_rfl) (fun _ _ _ h => h) (Or.inl ⟨by rfl, fun w hSw => by (try dsimp only at hSw); go_simp⟩) hHeld ?_
    try simp only [Act.put, List.setIfInBounds_toArray, List.set_cons_zero, List.set_cons_succ]
    refine wpAnyH_take (i := 7) (oi := ⟨some 40, .move (.tmp 0), 28, "ref.go:27", #[], none⟩) (v := .slice (some ⟨g, 0, none⟩) N c) rfl (by kernel_rfl) (by kernel_rfl) (by kernel_rfl) (fun _ _ _ h => h) (Or.inl ⟨by rfl, fun w hSw => by (try dsimp only at hSw); go_simp⟩) hHeld ?_
    try simp only [Act.put, List.setIfInBounds_toArray, List.set_cons_zero, List.set_cons_succ]
    refine wpAnyH_take (i := 8) (oi := ⟨some 41, .move (.tmp 5), 3, "ref.go:27", #[], none⟩) (v := .int .i64 (i : Int)) rfl (by kernel_rfl) (by kernel_rfl) (by kernel_rfl) (fun _ _ _ h => h) (Or.inl ⟨by rfl, fun w hSw => by (try dsimp only at hSw); go_simp⟩) hHeld ?_
    try simp only [Act.put, List.setIfInBounds_toArray, List.set_cons_zero, List.set_cons_succ]
    refine wpAnyH_take (i := 9) (oi := ⟨some 42, .slice 28 (.tmp 40) (some (.tmp 41)) none none, 28, "ref.go:27", #[⟨7, .data⟩, ⟨8, .data⟩], none⟩) (v := .slice (some ⟨g, o2, none⟩) (N - i) (c - i)) rfl (by kernel_rfl) (by kernel_rfl) (by kernel_rfl) (fun _ _ _ h => h) (Or.inl ⟨by rfl, fun w hSw => by (try dsimp only at hSw); go_simp; rw [← Ho2.out]; split <;> rfl⟩) hHeld ?_
    try simp only [Act.put, List.setIfInBounds_toArray, List.set_cons_zero, List.set_cons_succ]
    refine wpAnyH_ready (rs := [3, 5]) (by kernel_rfl) (by simp) ?_
    refine AllReadyH.cons (o := ⟨some 36, .call { callee := .builtin .append, args := #[.const (.slice none 0 0), .tmp 35], argTypes := #[28, 28] }, 28, "ref.go:27", #[⟨2, .data⟩], none⟩) rfl (fun K hK => ?_) (AllReadyH.cons (o := ⟨some 38, .buildSlice 28 1 #[(0, .tmp 37)], 28, "ref.go:27", #[⟨4, .data⟩], none⟩) rfl (fun K hK => ?_) AllReadyH.nil)
    ·skip
     obtain ⟨v6, w6, hrun, how, hgr⟩ := run_append_anyN (r := stT) (w := wd) (base := wr.heap.size) (v := .slice none 0 0) (xs := []) (ys := l.take i) 28 (RT.Own.nil _ _ _) (HA1.out _ hHeld) HLa.out hHeld.size
     have HR := Lib.hid hrun
     have HO6 := Lib.hid how
     have hS : Kp [] wr w6 := kp_grownS hHeld hgr (fun b hb => by cases hb)
     clear hrun how hgr
     refine step_append_run rfl 28 _ _ rfl _ _ _ rfl rfl HR.out ?_
     clear hHeld
     refine hK.out _ _ hS (fun hHeld => ?_)
     try simp only [Act.put, List.setIfInBounds_toArray, List.set_cons_zero, List.set_cons_succ]
     clear hK
     clear hS HR
     refine wpAnyH_ready (rs := [5]) (by kernel_rfl) (by simp) ?_
     refine AllReadyH.cons (o := ⟨some 38, .buildSlice 28 1 #[(0, .tmp 37)], 28, "ref.go:27", #[⟨4, .data⟩], none⟩) rfl (fun K hK => ?_) AllReadyH.nil
     go_simp
     have hr7 := heap_alloc_last w6 (.cells #[.string (bs s)] 9)
     have hk7 := (Kp.refl [] w6).alloc (.cells #[.string (bs s)] 9)
     have HO7 := Lib.hid (HO6.out.kp0 hk7)
     clear HO6
     have HO6 := HO7
     clear HO7
     obtain ⟨R7, hR7⟩ : ∃ R, w6.heap.size = R := ⟨_, rfl⟩
     generalize w6.alloc (.cells #[.string (bs s)] 9) = w7 at *
     rw [hR7] at hr7 ⊢
     have HM7 := Lib.hid hr7
     have hS := hHeld.trans hk7
     clear hr7 hk7 hR7
     clear hHeld
     refine hK.out _ _ hS (fun hHeld => ?_)
     try simp only [Act.put, List.setIfInBounds_toArray, List.set_cons_zero, List.set_cons_succ]
     clear hK
     clear hS
     refine wpAnyH_ready (rs := [6]) (by kernel_rfl) (by simp) ?_
     refine AllReadyH.cons (o := ⟨some 39, .call { callee := .builtin .append, args := #[.tmp 36, .tmp 38], argTypes := #[28, 28] }, 28, "ref.go:27", #[⟨3, .data⟩, ⟨5, .data⟩, ⟨3, .chain⟩], none⟩) rfl (fun K hK => ?_) AllReadyH.nil
     obtain ⟨v8, w8, hrun, how, hgr⟩ := run_append_r (r := stT) (c := 1) s 28 HO6.out (row_cellS HM7.out rfl) (by have := HLa.out; rw [List.length_append]; exact this) hHeld.size
     have HR := Lib.hid hrun
     have HO8 := Lib.hid how
     have hS : Kp [] wr w8 := kp_grownS hHeld hgr (fun b hb => (HO6.out.ge b hb).1)
     clear hrun how hgr
     refine step_append_run rfl 28 _ _ rfl _ _ _ rfl rfl HR.out ?_
     clear hHeld
     refine hK.out _ _ hS (fun hHeld => ?_)
     try simp only [Act.put, List.setIfInBounds_toArray, List.set_cons_zero, List.set_cons_succ]
     clear hK
     clear hS HR HO6 HM7
     refine wpAnyH_ready (rs := [10]) (by kernel_rfl) (by simp) ?_
     refine AllReadyH.cons (o := ⟨some 43, .call { callee := .builtin .append, args := #[.tmp 39, .tmp 42], argTypes := #[28, 28] }, 28, "ref.go:27", #[⟨6, .data⟩, ⟨9, .data⟩, ⟨6, .chain⟩], none⟩) rfl (fun K hK => ?_) AllReadyH.nil
     obtain ⟨v9, w9, hrun, how, hgr⟩ := run_append_anyN (r := stT) (w := w8) (base := wr.heap.size) (v := v8) (xs := [] ++ l.take i ++ [s]) (ys := l.drop i) 28 HO8.out (HA2.out _ hHeld) HLb.out hHeld.size
     have HR := Lib.hid hrun
     have HO9 := Lib.hid how
     have hS : Kp [] wr w9 := kp_grownS hHeld hgr (fun b hb => (HO8.out.ge b hb).1)
     clear hrun how hgr
     refine step_append_run rfl 28 _ _ rfl _ _ _ rfl rfl HR.out ?_
     clear hHeld
     refine hK.out _ _ hS (fun hHeld => ?_)
     try simp only [Act.put, List.setIfInBounds_toArray, List.set_cons_zero, List.set_cons_succ]
     clear hK
     clear hS HR HO8
     refine wpAnyH_take (i := 11) (oi := ⟨some 4, .assign (.tmp 43), 28, "ref.go:27", #[⟨10, .data⟩, ⟨10, .chain⟩, ⟨0, .phase⟩, ⟨1, .phase⟩, ⟨2, .phase⟩, ⟨3, .phase⟩, ⟨4, .phase⟩, ⟨5, .phase⟩, ⟨6, .phase⟩, ⟨7, .phase⟩, ⟨8, .phase⟩, ⟨9, .phase⟩, ⟨10, .phase⟩], none⟩) (v := v9) rfl (by kernel_rfl) (by kernel_rfl) (by kernel_rfl) (fun _ _ _ h => h) (Or.inl ⟨by rfl, fun w hSw => by (try dsimp only at hSw); go_simp⟩) hHeld ?_
     try simp only [Act.put, List.setIfInBounds_toArray, List.set_cons_zero, List.set_cons_succ]
     have HSe := Lib.hid hHeld
     refine wpAnyH_done (by kernel_rfl) ?_ _
     clear hHeld
     go_wp2
     go_ret
     exact ⟨_, Lib.hid (by rw [Hput.out]; simpa using HO9.out.down HBr.out), rfl, hK0.out.trans HSe.out⟩
    ·skip
     go_simp
     have hr7 := heap_alloc_last wd (.cells #[.string (bs s)] 9)
     have hk7 := (Kp.refl [] wd).alloc (.cells #[.string (bs s)] 9)
     obtain ⟨R7, hR7⟩ : ∃ R, wd.heap.size = R := ⟨_, rfl⟩
     generalize wd.alloc (.cells #[.string (bs s)] 9) = w7 at *
     rw [hR7] at hr7 ⊢
     have HM7 := Lib.hid hr7
     have hS := hHeld.trans hk7
     clear hr7 hk7 hR7
     clear hHeld
     refine hK.out _ _ hS (fun hHeld => ?_)
     try simp only [Act.put, List.setIfInBounds_toArray, List.set_cons_zero, List.set_cons_succ]
     clear hK
     clear hS
     refine wpAnyH_ready (rs := [3]) (by kernel_rfl) (by simp) ?_
     refine AllReadyH.cons (o := ⟨some 36, .call { callee := .builtin .append, args := #[.const (.slice none 0 0), .tmp 35], argTypes := #[28, 28] }, 28, "ref.go:27", #[⟨2, .data⟩], none⟩) rfl (fun K hK => ?_) AllReadyH.nil
     obtain ⟨v6, w6, hrun, how, hgr⟩ := run_append_anyN (r := stT) (w := w7) (base := wr.heap.size) (v := .slice none 0 0) (xs := []) (ys := l.take i) 28 (RT.Own.nil _ _ _) (HA1.out _ hHeld) HLa.out hHeld.size
     have HR := Lib.hid hrun
     have HO6 := Lib.hid how
     have hS : Kp [] wr w6 := kp_grownS hHeld hgr (fun b hb => by cases hb)
     have hm8 := (hgr.block R7 (block_lt HM7.out) (by intro h; cases h)).trans HM7.out
     clear HM7
     have HM7 := Lib.hid hm8
     clear hm8
     clear hrun how hgr
     refine step_append_run rfl 28 _ _ rfl _ _ _ rfl rfl HR.out ?_
     clear hHeld
     refine hK.out _ _ hS (fun hHeld => ?_)
     try simp only [Act.put, List.setIfInBounds_toArray, List.set_cons_zero, List.set_cons_succ]
     clear hK
     clear hS HR
     refine wpAnyH_ready (rs := [6]) (by kernel_rfl) (by simp) ?_
     refine AllReadyH.cons (o := ⟨some 39, .call { callee := .builtin .append, args := #[.tmp 36, .tmp 38], argTypes := #[28, 28] }, 28, "ref.go:27", #[⟨3, .data⟩, ⟨5, .data⟩, ⟨3, .chain⟩], none⟩) rfl (fun K hK => ?_) AllReadyH.nil
     obtain ⟨v8, w8, hrun, how, hgr⟩ := run_append_r (r := stT) (c := 1) s 28 HO6.out (row_cellS HM7.out rfl) (by have := HLa.out; rw [List.length_append]; exact this) hHeld.size
     have HR := Lib.hid hrun
     have HO8 := Lib.hid how
     have hS : Kp [] wr w8 := kp_grownS hHeld hgr (fun b hb => (HO6.out.ge b hb).1)
     clear hrun how hgr
     refine step_append_run rfl 28 _ _ rfl _ _ _ rfl rfl HR.out ?_
     clear hHeld
     refine hK.out _ _ hS (fun hHeld => ?_)
     try simp only [Act.put, List.setIfInBounds_toArray, List.set_cons_zero, List.set_cons_succ]
     clear hK
     clear hS HR HO6 HM7
     refine wpAnyH_ready (rs := [10]) (by kernel_rfl) (by simp) ?_
     refine AllReadyH.cons (o := ⟨some 43, .call { callee := .builtin .append, args := #[.tmp 39, .tmp 42], argTypes := #[28, 28] }, 28, "ref.go:27", #[⟨6, .data⟩, ⟨9, .data⟩, ⟨6, .chain⟩], none⟩) rfl (fun K hK => ?_) AllReadyH.nil
     obtain ⟨v9, w9, hrun, how, hgr⟩ := run_append_anyN (r := stT) (w := w8) (base := wr.heap.size) (v := v8) (xs := [] ++ l.take i ++ [s]) (ys := l.drop i) 28 HO8.out (HA2.out _ hHeld) HLb.out hHeld.size
     have HR := Lib.hid hrun
     have HO9 := Lib.hid how
     have hS : Kp [] wr w9 := kp_grownS hHeld hgr (fun b hb => (HO8.out.ge b hb).1)
     clear hrun how hgr
     refine step_append_run rfl 28 _ _ rfl _ _ _ rfl rfl HR.out ?_
     clear hHeld
     refine hK.out _ _ hS (fun hHeld => ?_)
     try simp only [Act.put, List.setIfInBounds_toArray, List.set_cons_zero, List.set_cons_succ]
     clear hK
     clear hS HR HO8
     refine wpAnyH_take (i := 11) (oi := ⟨some 4, .assign (.tmp 43), 28, "ref.go:27", #[⟨10, .data⟩, ⟨10, .chain⟩, ⟨0, .phase⟩, ⟨1, .phase⟩, ⟨2, .phase⟩, ⟨3, .phase⟩, ⟨4, .phase⟩, ⟨5, .phase⟩, ⟨6, .phase⟩, ⟨7, .phase⟩, ⟨8, .phase⟩, ⟨9, .phase⟩, ⟨10, .phase⟩], none⟩) (v := v9) rfl (by kernel_rfl) (by kernel_rfl) (by kernel_rfl) (fun _ _ _ h => h) (Or.inl ⟨by rfl, fun w hSw => by (try dsimp only at hSw); go_simp⟩) hHeld ?_
     try simp only [Act.put, List.setIfInBounds_toArray, List.set_cons_zero, List.set_cons_succ]
     have HSe := Lib.hid hHeld
     refine wpAnyH_done (by kernel_rfl) ?_ _
     clear hHeld
     go_wp2
     go_ret
     exact ⟨_, Lib.hid (by rw [Hput.out]; simpa using HO9.out.down HBr.out), rfl, hK0.out.trans HSe.out⟩
end Go.Proofs.YtdlchlbngojljaaDoor
namespace Go.Proofs.YtdlchlbngojljaaDoor
open Go.RowKit Go.Maps
theorem putS_len : ∀ (l : List Tx) (s : Tx), (putS l s).length ≤ l.length + 1
 | [], s => by simp [putS]
 | y :: l, s => by
  unfold putS
  split
  ·have := putS_len l s
   simp only [List.length_cons]
   omega
  ·split
   ·simp only [List.length_cons]; omega
   ·simp only [List.length_cons]; omega
def stepF (C : Cf) (s : Tx) (o : List Tx) (m : Md) : List Tx := if fndM hitG C m s then putS o m.name else o
theorem stepF_len (C : Cf) (s : Tx) : ∀ (l : List Md) (o : List Tx), (l.foldl (stepF C s) o).length ≤ o.length + l.length
 | [], o => by simp
 | m :: l, o => by
  rw [List.foldl_cons]
  have h1 := stepF_len C s l (stepF C s o m)
  have h2 : (stepF C s o m).length ≤ o.length + 1 := by
   unfold stepF
   split
   ·exact putS_len _ _
   ·omega
  simp only [List.length_cons]
  omega
theorem stepF_take {C : Cf} {s : Tx} {l : List Md} {i : Nat} {m : Md} (h : l[i]? = some m) : (l.take (i + 1)).foldl (stepF C s) [] = stepF C s ((l.take i).foldl (stepF C s) []) m := by
 rw [List.take_add_one, h, List.foldl_append]
 rfl
theorem stepF_all (C : Cf) (s : Tx) {i : Nat} (hi : C.mods.length ≤ i) : (C.mods.take i).foldl (stepF C s) [] = findR hitG C s := by
 rw [List.take_of_length_le hi]
 rfl
set_option maxHeartbeats 8000000 in
set_option maxRecDepth 100000 in
theorem refFind_any {w : World} {A : Nat} {mv bv ov kv xv : Value} {l : List Mx} {C : Cf} (s : Tx) (hs : s.length ≤ 4611686018427387000) (hC : CAt A w mv bv xv l C) (hT : CTy C) :
  Calls Tryd.prog 11 #[.agg (cfV mv bv ov kv xv), .string (bs s)] w (IFPost (findR hitG C s) w) := by
 have hra := heap_alloc_last w (.cells (cfV mv bv ov kv xv) 31)
 have hka := (Kp.refl [] w).alloc (.cells (cfV mv bv ov kv xv) 31)
 obtain ⟨P, hP⟩ : ∃ R, w.heap.size = R := ⟨_, rfl⟩
 obtain ⟨W, hW⟩ : ∃ W, w.alloc (.cells (cfV mv bv ov kv xv) 31) = W := ⟨_, rfl⟩
 rw [hP, hW] at hra
 rw [hW] at hka
 have hCW := hC.kp hka (by simp)
 obtain ⟨ua, uc, hmv, hur⟩ := hCW.ms.has.form
 obtain ⟨N, hN⟩ : ∃ n, l.length = n := ⟨_, rfl⟩
 have hNb : N ≤ 1000 := by have := hT.ms; rw [hC.eq, List.length_map] at this; omega
 rw [hN] at hmv
 have HC0 := Lib.hid (show ∀ V, Kp [] W V → V.cell? ⟨P, 0, none⟩ = some (.slice ua N uc) from fun V hV => by rw [cell_of_row _ _ _ _ _ _ ((hV.block P (block_lt hra) (by simp)).trans hra), ← hmv]; rfl)
 have HFnd := Lib.hid (show ∀ x ∈ l, ∀ V, Kp [] W V → Calls Tryd.prog 25 #[.agg (cfV mv bv ov kv xv), .agg (meC x.1), .string (bs s)] V (fun e w' => e = .returned (.bool (fndM hitG C x.2 s)) ∧ Kp [] V w') from fun x hx V hV => refFound_any x hx s hs (hCW.kp hV (by simp)) hT)
 have Hnm := Lib.hid (show ∀ x ∈ l, x.1.nm = x.2.name from fun x hx => (hCW.ms.ok x hx).1)
 have HN := Lib.hid hN
 have Hur := Lib.hid hur
 have Hka := Lib.hid hka
 have HW := Lib.hid hW
 have HP := Lib.hid hP
 have Heq := Lib.hid hC.eq
 obtain ⟨cv, hcv⟩ : ∃ cv, cfV mv bv ov kv xv = cv := ⟨_, rfl⟩
 have Hinf := Lib.hid (show (Tryd.prog.info? 31).map (·.size) = some cv.size from by rw [← hcv]; exact info31b)
 rw [hcv] at HW HFnd hra ⊢
 have Hld := Lib.hid (show ∀ V, Kp [] W V → V.heap[P]? = some (.cells cv 31 (0, 0)) from fun V hV => (hV.block P (block_lt hra) (by simp)).trans hra)
 have HlW := Lib.hid hka.size
 unfold IFPost
 clear hra hka hP hW hC hCW hN hmv hur hcv hT hs
 go_enter Tryd.func11, Tryd.ntmps11
 go_upto_block 0 with fail
 rw [HW.out, HP.out]
 go_wp2
 go_loopw [5, 6] (fun s5 s6 wx => ∃ i : Nat, i ≤ N ∧ s6 = .int .i64 (i : Int) ∧ Hid (stT.Own wx W.heap.size s5 ((C.mods.take i).foldl (stepF C s) [])) ∧ Hid (Kp [] W wx)) (fun _ s6 _ => N - (intOf s6).toNat)
 case atStart => exact ⟨0, by omega, rfl, Lib.hid (RT.Own.nil _ _ _), Lib.hid (Kp.refl [] W)⟩
 case round =>
  obtain ⟨i, hi, rfl, hO, hKw⟩ := hrel
  have d0 := HC0.out _ hKw.out
  by_cases hlt : i < N
  ·have hiz : (i : Int) < (N : Int) := by omega
   obtain ⟨x, hx⟩ : ∃ x, l[i]? = some x := ⟨_, List.getElem?_eq_getElem (by rw [HN.out]; exact hlt)⟩
   obtain ⟨g, o, rfl, hgl, _, hr⟩ := Hur.out (fun h => by rw [h] at hx; simp at hx)
   have hxm : C.mods[i]? = some x.2 := by rw [Heq.out, List.getElem?_map, hx]; rfl
   have Htk := Lib.hid (stepF_take (C := C) (s := s) hxm)
   have Hro := Lib.hid (show ∀ V, Kp [] W V → V.rangeAt g (o + i * 6) (meC x.1).toList from fun V hV => row_at (hr.keep (hV.block g hgl (by simp))) hx)
   have Hn0 := Lib.hid (show ∀ V, Kp [] W V → V.cell? ⟨g, o + i * 6, none⟩ = some (.string (bs x.1.nm)) from fun V hV => (md_cell (hr.keep (hV.block g hgl (by simp))) hx).1)
   have HFn := Lib.hid (HFnd.out x (List.mem_of_getElem? hx))
   have Hxn := Lib.hid (Hnm.out x (List.mem_of_getElem? hx))
   have Hln := Lib.hid (show ((C.mods.take i).foldl (stepF C s) []).length ≤ 100000 from by
    have h1 := stepF_len C s (C.mods.take i) []
    have h2 := List.length_take_le i C.mods
    rw [List.length_nil] at h1
    omega)
   clear hr hx hxm
   obtain ⟨fb, hfb⟩ : ∃ b, fndM hitG C x.2 s = b := ⟨_, rfl⟩
   rw [hfb] at HFn
   have Hfb := Lib.hid hfb
   clear hfb
   go_upto_region 5 with fail
   clear d0
   refine wp_region_held_drew (S := fun X => Kp [] wr X) (by kernel_rfl) ((Kp.refl [] wr).drew 1) (fun hHeld => ?_)
   generalize hwd : wr.drew = wd at *
   clear hwd
   refine wpAnyH_take (i := 0) (oi := ⟨some 14, .load 31 (.tmp 2), 31, "ref.go:50", #[], none⟩) (v := .agg cv) rfl (by kernel_rfl) (by kernel_rfl) (by kernel_rfl) (fun _ _ _ h => h) (yieldsIf_cf (by rfl) (.tmp 2) rfl P rfl cv (fun w hSw => Hld.out _ (hKw.out.trans hSw)) Hinf.out) hHeld ?_
   try simp only [Act.put, List.setIfInBounds_toArray, List.set_cons_zero, List.set_cons_succ]
   refine wpAnyH_take (i := 1) (oi := ⟨some 15, .fieldAddr 31 (.tmp 2) 0, 0, "ref.go:50", #[], none⟩) (v := .pointer (some ⟨P, 0, none⟩)) rfl (by kernel_rfl) (by kernel_rfl) (by kernel_rfl) (fun _ _ _ h => h) (Or.inl ⟨by rfl, fun w hSw => by (try dsimp only at hSw); go_simp⟩) hHeld ?_
   try simp only [Act.put, List.setIfInBounds_toArray, List.set_cons_zero, List.set_cons_succ]
   refine wpAnyH_take (i := 2) (oi := ⟨some 16, .load 27 (.tmp 15), 27, "ref.go:50", #[⟨1, .data⟩], none⟩) (v := .slice (some ⟨g, o, none⟩) N uc) rfl (by kernel_rfl) (by kernel_rfl) (by kernel_rfl) (fun _ _ _ h => h) (Or.inl ⟨by rfl, fun w hSw => by (try dsimp only at hSw); have t1 := HC0.out _ (hKw.out.trans hSw); go_simp⟩) hHeld ?_
   try simp only [Act.put, List.setIfInBounds_toArray, List.set_cons_zero, List.set_cons_succ]
   refine wpAnyH_take (i := 3) (oi := ⟨some 17, .move (.tmp 6), 3, "ref.go:50", #[], none⟩) (v := .int .i64 (i : Int)) rfl (by kernel_rfl) (by kernel_rfl) (by kernel_rfl) (fun _ _ _ h => h) (Or.inl ⟨by rfl, fun w hSw => by (try dsimp only at hSw); go_simp⟩) hHeld ?_
   try simp only [Act.put, List.setIfInBounds_toArray, List.set_cons_zero, List.set_cons_succ]
   refine wpAnyH_take (i := 4) (oi := ⟨some 18, .indexAddr 27 (.tmp 16) (.tmp 17), 0, "ref.go:50", #[⟨2, .data⟩, ⟨3, .data⟩], none⟩) (v := .pointer (some ⟨g, o + i * 6, none⟩)) rfl (by kernel_rfl) (by kernel_rfl) (by kernel_rfl) (fun _ _ _ h => h) (Or.inl ⟨by rfl, fun w hSw => by (try dsimp only at hSw); go_simp⟩) hHeld ?_
   try simp only [Act.put, List.setIfInBounds_toArray, List.set_cons_zero, List.set_cons_succ]
   refine wpAnyH_take (i := 5) (oi := ⟨some 19, .load 51 (.tmp 18), 51, "ref.go:50", #[⟨4, .data⟩], none⟩) (v := .agg (meC x.1)) rfl (by kernel_rfl) (by kernel_rfl) (by kernel_rfl) (fun _ _ _ h => h) (yieldsIf_me (by rfl) (.tmp 18) rfl g (o + i * 6) rfl x.1 (fun w hSw => Hro.out _ (hKw.out.trans hSw))) hHeld ?_
   try simp only [Act.put, List.setIfInBounds_toArray, List.set_cons_zero, List.set_cons_succ]
   refine wpAnyH_take (i := 6) (oi := ⟨some 20, .move (.tmp 1), 9, "ref.go:50", #[], none⟩) (v := .string (bs s)) rfl (by kernel_rfl) (by kernel_rfl) (by kernel_rfl) (fun _ _ _ h => h) (Or.inl ⟨by rfl, fun w hSw => by (try dsimp only at hSw); go_simp⟩) hHeld ?_
   try simp only [Act.put, List.setIfInBounds_toArray, List.set_cons_zero, List.set_cons_succ]
   refine wpAnyH_ready (rs := [7]) (by kernel_rfl) (by simp) ?_
   refine AllReadyH.cons (o := ⟨some 21, .call { callee := .value (.func 25), args := #[.tmp 14, .tmp 19, .tmp 20], argTypes := #[31, 51, 9] }, 4, "ref.go:50", #[⟨0, .data⟩, ⟨5, .data⟩, ⟨6, .data⟩], none⟩) rfl (fun K hK => ?_) AllReadyH.nil
   go_simp
   go_at_call 25
   refine Calls.mono (by with_reducible exact HFn.out _ (hKw.out.trans hHeld)) ?_
   rintro e9 V ⟨rfl, hk7⟩
   dsimp only
   have hS := hHeld.trans hk7
   clear hHeld
   refine hK.out _ _ hS (fun hHeld => ?_)
   try simp only [Act.put, List.setIfInBounds_toArray, List.set_cons_zero, List.set_cons_succ]
   clear hK
   clear hS hk7
   have HK3 := Lib.hid (hKw.out.trans hHeld)
   have HK7 := Lib.hid hHeld
   refine wpAnyH_done (by kernel_rfl) ?_ _
   clear hHeld
   cases fb with
   | true =>
    have d0 := HC0.out _ HK3.out
    have d1 := Hn0.out _ HK3.out
    have HPu := Lib.hid (put_any (w := V) (B := W.heap.size) x.1.nm Hln.out HK3.out.size (hO.out.kp0 HK7.out))
    go_wp2_with fail
    refine Calls.mono (by with_reducible exact HPu.out) ?_
    rintro e9 V2 ⟨v2, hv2, rfl, hk2⟩
    have HK4 := Lib.hid (HK3.out.trans hk2)
    clear hk2 d0 d1 HPu
    go_wp2
    refine ⟨⟨i + 1, by omega, by go_num, Lib.hid (by rw [Htk.out]; unfold stepF; rw [Hfb.out, if_pos rfl, ← Hxn.out]; exact hv2.out), HK4⟩, by simp [intOf]; omega⟩
   | false =>
    go_wp2
    refine ⟨⟨i + 1, by omega, by go_num, Lib.hid (by rw [Htk.out]; unfold stepF; rw [Hfb.out, if_neg (by simp)]; exact hO.out.kp0 HK7.out), HK3⟩, by simp [intOf]; omega⟩
  ·have hiz : ¬ ((i : Int) < (N : Int)) := by omega
   have Hfin := Lib.hid (stepF_all C s (i := i) (by rw [Heq.out, List.length_map, HN.out]; omega))
   go_wp2
   go_ret
   exact ⟨_, Lib.hid (by rw [← Hfin.out]; exact hO.out.hasB HlW.out), rfl, Hka.out.trans hKw.out⟩
end Go.Proofs.YtdlchlbngojljaaDoor
