/- The reference's least text that two modules share. -/
import Derived.Test.YtdlchlbngojljaaDoorQM
import Derived.Test.YtdlchlbngojljaaDoorQRy
namespace Go.Proofs.YtdlchlbngojljaaDoor
open Go.RowKit Go.Maps
open Gl (lessB)
theorem com_G33 (p q : Tx) (w : World) (hp : p.length ≤ 16) (hq : q.length ≤ 16) : ComC 33 w p q :=
 (Gl.refCommon_any (bs p) (bs q) w (by rw [bs_size]; omega) (by rw [bs_size]; omega) (fun _ _ => by rw [bs_size]; exact hp) (fun _ _ => by rw [bs_size]; exact hq)).mono fun e w' h => by
  obtain ⟨er, he⟩ := comRes_eq p q
  exact ⟨⟨er, by rw [h.1, bs_data, bs_data, he]⟩, Kp.of_bel h.2⟩
theorem shr_nil (le : Tx → Tx → Bool) (com : Tx → Tx → Option Tx) (l : List Tx) (st : Option Tx) : l.foldl (shrRow le com []) st = st := by
 induction l with
 | nil => rfl
 | cons x r ih => exact ih
theorem ali_none {ms : List Md} {n : Tx} (h : (modN ms n).isSome = false) : aliN ms n = [] := by
 unfold aliN
 cases hm : modN ms n with
 | none => rfl
 | some m => rw [hm] at h; cases h
set_option maxHeartbeats 8000000 in
set_option maxRecDepth 100000 in
theorem refShared_any {w : World} {A : Nat} {mv bv ov kv xv : Value} {l : List Mx} {C : Cf} (a b : Tx) (hC : CAt A w mv bv xv l C) (hT : CTy C) :
  Calls Tryd.prog 18 #[.agg (cfV mv bv ov kv xv), .string (bs a), .string (bs b)] w (ShPost C a b w) := by
 have hra := heap_alloc_last w (.cells (cfV mv bv ov kv xv) 31)
 have hka := (Kp.refl [] w).alloc (.cells (cfV mv bv ov kv xv) 31)
 obtain ⟨R, hR⟩ : ∃ R, w.heap.size = R := ⟨_, rfl⟩
 obtain ⟨W, hW⟩ : ∃ W, w.alloc (.cells (cfV mv bv ov kv xv) 31) = W := ⟨_, rfl⟩
 rw [hR, hW] at hra
 rw [hW] at hka
 have hCW := hC.kp hka (by simp)
 have hml : l.length ≤ 1000000 := by have := hT.ms; rw [hC.eq, List.length_map] at this; omega
 obtain ⟨ka, hkaa⟩ : ∃ b, (modN C.mods a).isSome = b := ⟨_, rfl⟩
 obtain ⟨kb, hkbb⟩ : ∃ x, (modN C.mods b).isSome = x := ⟨_, rfl⟩
 have HAl := Lib.hid (show ∀ V, Kp [] W V → Calls Tryd.prog 21 #[mv, .string (bs a)] V (fun e w' => (∃ x : Me, Hid (stT.HasB A w' x.al.v (aliN C.mods a)) ∧ e = .returned (.tuple #[.agg (meC x), .bool ka])) ∧ Kp [] V w') from fun V hV => by rw [← hkaa, hC.eq]; exact module_any a hml (hCW.ms.kp hV (by simp)))
 have HBl := Lib.hid (show ∀ V, Kp [] W V → Calls Tryd.prog 21 #[mv, .string (bs b)] V (fun e w' => (∃ x : Me, Hid (stT.HasB A w' x.al.v (aliN C.mods b)) ∧ e = .returned (.tuple #[.agg (meC x), .bool kb])) ∧ Kp [] V w') from fun V hV => by rw [← hkbb, hC.eq]; exact module_any b hml (hCW.ms.kp hV (by simp)))
 have HC0 := Lib.hid (show ∀ V, Kp [] W V → V.cell? ⟨R, 0, none⟩ = some mv from fun V hV => by rw [cell_of_row _ _ _ _ _ _ ((hV.block R (block_lt hra) (by simp)).trans hra)]; rfl)
 have Hka := Lib.hid hka
 have HW := Lib.hid hW
 have HR := Lib.hid hR
 obtain ⟨xa, hxa⟩ : ∃ x, aliN C.mods a = x := ⟨_, rfl⟩
 obtain ⟨xb, hxb⟩ : ∃ x, aliN C.mods b = x := ⟨_, rfl⟩
 have h1 := ali_al hT a
 have h2 := ali_al hT b
 rw [hxa] at h1
 rw [hxb] at h2
 obtain ⟨RS, hRS⟩ : ∃ r, shrL lessB comG xa xb = r := ⟨_, rfl⟩
 unfold ShPost
 rw [hxa, hxb, hRS]
 rw [hxa] at HAl
 rw [hxb] at HBl
 have HRS := Lib.hid hRS
 have Hpa := Lib.hid h1.2
 have Hpb := Lib.hid h2.2
 have Hna := Lib.hid (show ka = false → xa = [] from fun h => by rw [← hxa]; exact ali_none (hkaa.trans h))
 have Hnb := Lib.hid (show kb = false → xb = [] from fun h => by rw [← hxb]; exact ali_none (hkbb.trans h))
 have hla := h1.1
 have hlb := h2.1
 obtain ⟨cv, hcv⟩ : ∃ cv, cfV mv bv ov kv xv = cv := ⟨_, rfl⟩
 rw [hcv] at HW ⊢
 clear hra hka hR hW hC hcv hT hCW hml hxa hxb hRS h1 h2 hkaa hkbb
 go_enter Tryd.func18, Tryd.ntmps18
 go_upto_region 1 with fail
 rw [HW.out, HR.out]
 have t0 := HC0.out W (Kp.refl [] W)
 go_wp2_with fail
 refine Calls.mono (by with_reducible exact HAl.out _ (Kp.refl [] W)) ?_
 rintro e V1 ⟨⟨ya, hux, rfl⟩, hkx⟩
 obtain ⟨RA, hRx⟩ : ∃ r, V1.heap.size = r := ⟨_, rfl⟩
 obtain ⟨W1, hWx⟩ : ∃ X, V1.alloc (.cells (meC ya) 51) = X := ⟨_, rfl⟩
 have hky : Kp [] V1 W1 := by rw [← hWx]; exact (Kp.refl [] _).alloc _
 have hry := heap_alloc_last V1 (.cells (meC ya) 51)
 rw [hRx, hWx] at hry
 have HRa := Lib.hid (show ∀ X, Kp [] W1 X → X.cell? ⟨RA, 1, none⟩ = some ya.al.v from fun X hX => by rw [cell_of_row _ _ _ _ _ _ ((hX.block RA (block_lt hry) (by simp)).trans hry)]; rfl)
 have HUa := Lib.hid (hux.out.kp hky (by simp))
 have HK1 := Lib.hid (hkx.trans hky)
 have HOx := Lib.hid (meC_one ya)
 have HRx := Lib.hid hRx
 have HWx := Lib.hid hWx
 clear t0 hux hkx hRx hWx hky hry
 go_upto_region 2 with (refine Gl.wpList_store_new V1 51 _ (meC ya) rfl _ _ rfl rfl rfl info51b rfl HOx.out ?_)
 rw [HRx.out, HWx.out]
 clear HRx HWx HOx
 have HBl1 := Lib.hid fun V (hV : Kp [] W1 V) => HBl.out V (HK1.out.trans hV)
 have t0 := HC0.out W1 HK1.out
 go_wp2_with fail
 refine Calls.mono (by with_reducible exact HBl1.out _ (Kp.refl [] W1)) ?_
 rintro e V2 ⟨⟨yb, hux, rfl⟩, hkx⟩
 obtain ⟨RB, hRx⟩ : ∃ r, V2.heap.size = r := ⟨_, rfl⟩
 obtain ⟨Vb, hWx⟩ : ∃ X, V2.alloc (.cells (meC yb) 51) = X := ⟨_, rfl⟩
 have hky : Kp [] V2 Vb := by rw [← hWx]; exact (Kp.refl [] _).alloc _
 have hry := heap_alloc_last V2 (.cells (meC yb) 51)
 rw [hRx, hWx] at hry
 have HRb := Lib.hid (show ∀ X, Kp [] Vb X → X.cell? ⟨RB, 1, none⟩ = some yb.al.v from fun X hX => by rw [cell_of_row _ _ _ _ _ _ ((hX.block RB (block_lt hry) (by simp)).trans hry)]; rfl)
 have HUb := Lib.hid (hux.out.kp hky (by simp))
 have HK2 := Lib.hid (hkx.trans hky)
 have HOx := Lib.hid (meC_one yb)
 have HRx := Lib.hid hRx
 have HWx := Lib.hid hWx
 clear t0 hux hkx hRx hWx hky hry
 go_upto_region 3 with (refine Gl.wpList_store_new V2 51 _ (meC yb) rfl _ _ rfl rfl rfl info51b rfl HOx.out ?_)
 rw [HRx.out, HWx.out]
 clear HRx HWx HOx
 have hUa2 := Lib.hid (HUa.out.kp HK2.out (by simp))
 have HRa2 := Lib.hid (show ∀ V, Kp [] Vb V → V.cell? ⟨RA, 1, none⟩ = some ya.al.v from fun V hV => HRa.out V (HK2.out.trans hV))
 have HSe := Lib.hid (HK1.out.trans HK2.out)
 clear HRa HUa HAl HBl HBl1 HC0 HK1 HK2
 have HUa := hUa2
 have HRa := HRa2
 clear hUa2 HRa2
 obtain ⟨ua, hua⟩ : ∃ u, ya.al.v = u := ⟨_, rfl⟩
 obtain ⟨ub, hub⟩ : ∃ u, yb.al.v = u := ⟨_, rfl⟩
 rw [hua] at HUa HRa
 rw [hub] at HUb HRb
 clear hua hub
 obtain ⟨aa, ca, rfl, har⟩ := HUa.out.form
 obtain ⟨ab, cb, rfl, hbr⟩ := HUb.out.form
 obtain ⟨N1, hN1⟩ : ∃ n, xa.length = n := ⟨_, rfl⟩
 obtain ⟨N2, hN2⟩ : ∃ n, xb.length = n := ⟨_, rfl⟩
 rw [hN1] at hla HUa HRa
 rw [hN2] at hlb HUb HRb
 have HN1 := Lib.hid hN1
 have HN2 := Lib.hid hN2
 have HAr := Lib.hid har
 have HBr := Lib.hid hbr
 clear hN1 hN2 har hbr HUa HUb
 go_wp2
 go_loopw [12, 13, 14] (fun s12 s13 s14 wx => ∃ (i : Nat) (st : Option Tx), i ≤ N1 ∧ s14 = .int .i64 (i : Int) ∧ s12 = .string (bs (st.getD [])) ∧ s13 = .bool st.isSome ∧ Hid (st = (xa.take i).foldl (shrRow lessB comG xb) none) ∧ Hid (Kp [] Vb wx)) (fun _ _ s14 _ => N1 - (intOf s14).toNat)
 case atStart => exact ⟨0, none, by omega, rfl, rfl, rfl, Lib.hid rfl, Lib.hid (Kp.refl [] Vb)⟩
 case round =>
  obtain ⟨i, st0, hi, rfl, rfl, rfl, hst, hK⟩ := hrel
  by_cases hlt : i < N1
  ·have hiz : (i : Int) < (N1 : Int) := by omega
   have d0 := HRa.out _ hK.out
   have d1 := HRb.out _ hK.out
   cases ka with
   | false =>
    exfalso
    have h9 := HN1.out
    rw [Hna.out rfl, List.length_nil] at h9
    omega
   | true =>
   cases kb with
   | false =>
    have hfin := hst.out
    have hrs := HRS.out
    rw [Hnb.out rfl] at hfin hrs
    unfold shrL at hrs
    rw [shr_nil] at hfin hrs
    have hfin2 : st0 = RS := hfin.trans hrs
    clear hfin hrs hst
    subst hfin2
    go_wp2
    go_ret2
    exact ⟨rfl, Hka.out.trans (HSe.out.trans hK.out)⟩
   | true =>
   obtain ⟨p, hp⟩ : ∃ p, xa[i]? = some p := ⟨_, List.getElem?_eq_getElem (by rw [HN1.out]; exact hlt)⟩
   obtain ⟨g, o, rfl, hgl, _, hr⟩ := HAr.out (fun e => by rw [e] at hp; simp at hp)
   have Hcp := Lib.hid (show ∀ V, Kp [] Vb V → V.cell? ⟨g, o + i, none⟩ = some (.string (bs p)) from fun V hV => st_cell (hr.keep (hV.block g hgl (by simp))) hp)
   have hpl := Hpa.out p (List.mem_of_getElem? hp)
   have Htk := Lib.hid (shrL_take (le := lessB) (com := comG) (ys := xb) hp)
   clear hr hp
   go_wp2
   go_loopw [12, 13, 15] (fun s12 s13 s15 wx => ∃ (j : Nat) (st : Option Tx), j ≤ N2 ∧ s15 = .int .i64 (j : Int) ∧ s12 = .string (bs (st.getD [])) ∧ s13 = .bool st.isSome ∧ Hid (st = shrRow lessB comG (xb.take j) st0 p) ∧ Hid (Kp [] Vb wx)) (fun _ _ s15 _ => N2 - (intOf s15).toNat)
   case atStart => exact ⟨0, st0, by omega, rfl, rfl, rfl, Lib.hid rfl, hK⟩
   case round =>
    clear hK
    obtain ⟨j, st, hj, rfl, rfl, rfl, hst2, hK⟩ := hrel
    clear d0 d1
    have d0 := HRa.out _ hK.out
    have d1 := HRb.out _ hK.out
    have e0 := Hcp.out _ hK.out
    by_cases hjl : j < N2
    ·have hjz : (j : Int) < (N2 : Int) := by omega
     obtain ⟨q, hq⟩ : ∃ q, xb[j]? = some q := ⟨_, List.getElem?_eq_getElem (by rw [HN2.out]; exact hjl)⟩
     obtain ⟨g2, o2, rfl, hgl2, _, hr⟩ := HBr.out (fun e => by rw [e] at hq; simp at hq)
     have Hcq := Lib.hid (show ∀ V, Kp [] Vb V → V.cell? ⟨g2, o2 + j, none⟩ = some (.string (bs q)) from fun V hV => st_cell (hr.keep (hV.block g2 hgl2 (by simp))) hq)
     have hql := Hpb.out q (List.mem_of_getElem? hq)
     have Htk2 := Lib.hid (shrRow_take (le := lessB) (com := comG) hq st0 p)
     have HCm := Lib.hid (show ∀ W, ComC 33 W p q from fun W => com_G33 p q W hpl hql)
     unfold ComC at HCm
     clear hr hq d0 e0
     go_upto_region 10 with fail
     clear d1
     refine wp_region_held_drew (S := fun X => Kp [] wr X) (by kernel_rfl) ((Kp.refl [] wr).drew 1) (fun hHeld => ?_)
     generalize hwd : wr.drew = wd at *
     clear hwd
     refine wpAnyH_take (i := 0) (oi := ⟨some 54, .fieldAddr 51 (.tmp 8) 1, 0, "ref.go:67", #[], none⟩) (v := .pointer (some ⟨RA, 1, none⟩)) rfl (by kernel_rfl) (by kernel_rfl) (by kernel_rfl) (fun _ _ _ h => h) (Or.inl ⟨by rfl, fun w hSw => by (try dsimp only at hSw); go_simp⟩) hHeld ?_
     try simp only [Act.put, List.setIfInBounds_toArray, List.set_cons_zero, List.set_cons_succ]
     refine wpAnyH_take (i := 1) (oi := ⟨some 55, .load 28 (.tmp 54), 28, "ref.go:67", #[⟨0, .data⟩], none⟩) (v := .slice (some ⟨g, o, none⟩) N1 ca) rfl (by kernel_rfl) (by kernel_rfl) (by kernel_rfl) (fun _ _ _ h => h) (Or.inl ⟨by rfl, fun w hSw => by (try dsimp only at hSw); have t1 := HRa.out _ (hK.out.trans hSw); go_simp⟩) hHeld ?_
     try simp only [Act.put, List.setIfInBounds_toArray, List.set_cons_zero, List.set_cons_succ]
     refine wpAnyH_take (i := 2) (oi := ⟨some 56, .move (.tmp 14), 3, "ref.go:67", #[], none⟩) (v := .int .i64 (i : Int)) rfl (by kernel_rfl) (by kernel_rfl) (by kernel_rfl) (fun _ _ _ h => h) (Or.inl ⟨by rfl, fun w hSw => by (try dsimp only at hSw); go_simp⟩) hHeld ?_
     try simp only [Act.put, List.setIfInBounds_toArray, List.set_cons_zero, List.set_cons_succ]
     refine wpAnyH_take (i := 3) (oi := ⟨some 57, .indexAddr 28 (.tmp 55) (.tmp 56), 0, "ref.go:67", #[⟨1, .data⟩, ⟨2, .data⟩], none⟩) (v := .pointer (some ⟨g, o + i, none⟩)) rfl (by kernel_rfl) (by kernel_rfl) (by kernel_rfl) (fun _ _ _ h => h) (Or.inl ⟨by rfl, fun w hSw => by (try dsimp only at hSw); go_simp⟩) hHeld ?_
     try simp only [Act.put, List.setIfInBounds_toArray, List.set_cons_zero, List.set_cons_succ]
     refine wpAnyH_take (i := 4) (oi := ⟨some 58, .load 9 (.tmp 57), 9, "ref.go:67", #[⟨3, .data⟩], none⟩) (v := .string (bs p)) rfl (by kernel_rfl) (by kernel_rfl) (by kernel_rfl) (fun _ _ _ h => h) (Or.inl ⟨by rfl, fun w hSw => by (try dsimp only at hSw); have t1 := Hcp.out _ (hK.out.trans hSw); go_simp⟩) hHeld ?_
     try simp only [Act.put, List.setIfInBounds_toArray, List.set_cons_zero, List.set_cons_succ]
     refine wpAnyH_take (i := 5) (oi := ⟨some 59, .fieldAddr 51 (.tmp 10) 1, 0, "ref.go:67", #[], none⟩) (v := .pointer (some ⟨RB, 1, none⟩)) rfl (by kernel_rfl) (by kernel_rfl) (by kernel_rfl) (fun _ _ _ h => h) (Or.inl ⟨by rfl, fun w hSw => by (try dsimp only at hSw); go_simp⟩) hHeld ?_
     try simp only [Act.put, List.setIfInBounds_toArray, List.set_cons_zero, List.set_cons_succ]
     refine wpAnyH_take (i := 6) (oi := ⟨some 60, .load 28 (.tmp 59), 28, "ref.go:67", #[⟨5, .data⟩], none⟩) (v := .slice (some ⟨g2, o2, none⟩) N2 cb) rfl (by kernel_rfl) (by kernel_rfl) (by kernel_rfl) (fun _ _ _ h => h) (Or.inl ⟨by rfl, fun w hSw => by (try dsimp only at hSw); have t1 := HRb.out _ (hK.out.trans hSw); go_simp⟩) hHeld ?_
     try simp only [Act.put, List.setIfInBounds_toArray, List.set_cons_zero, List.set_cons_succ]
     refine wpAnyH_take (i := 7) (oi := ⟨some 61, .move (.tmp 15), 3, "ref.go:67", #[], none⟩) (v := .int .i64 (j : Int)) rfl (by kernel_rfl) (by kernel_rfl) (by kernel_rfl) (fun _ _ _ h => h) (Or.inl ⟨by rfl, fun w hSw => by (try dsimp only at hSw); go_simp⟩) hHeld ?_
     try simp only [Act.put, List.setIfInBounds_toArray, List.set_cons_zero, List.set_cons_succ]
     refine wpAnyH_take (i := 8) (oi := ⟨some 62, .indexAddr 28 (.tmp 60) (.tmp 61), 0, "ref.go:67", #[⟨6, .data⟩, ⟨7, .data⟩], none⟩) (v := .pointer (some ⟨g2, o2 + j, none⟩)) rfl (by kernel_rfl) (by kernel_rfl) (by kernel_rfl) (fun _ _ _ h => h) (Or.inl ⟨by rfl, fun w hSw => by (try dsimp only at hSw); go_simp⟩) hHeld ?_
     try simp only [Act.put, List.setIfInBounds_toArray, List.set_cons_zero, List.set_cons_succ]
     refine wpAnyH_take (i := 9) (oi := ⟨some 63, .load 9 (.tmp 62), 9, "ref.go:67", #[⟨8, .data⟩], none⟩) (v := .string (bs q)) rfl (by kernel_rfl) (by kernel_rfl) (by kernel_rfl) (fun _ _ _ h => h) (Or.inl ⟨by rfl, fun w hSw => by (try dsimp only at hSw); have t1 := Hcq.out _ (hK.out.trans hSw); go_simp⟩) hHeld ?_
     try simp only [Act.put, List.setIfInBounds_toArray, List.set_cons_zero, List.set_cons_succ]
     refine wpAnyH_ready (rs := [10]) (by kernel_rfl) (by simp) ?_
     refine AllReadyH.cons (o := ⟨some 64, .call { callee := .value (.func 33), args := #[.tmp 58, .tmp 63], argTypes := #[9, 9] }, 71, "ref.go:67", #[⟨4, .data⟩, ⟨9, .data⟩], none⟩) rfl (fun K hK => ?_) AllReadyH.nil
     go_simp
     go_at_call 33
     refine Calls.mono (by with_reducible exact HCm.out _) ?_
     rintro e V ⟨⟨er, rfl⟩, hk7⟩
     dsimp only
     have hS := hHeld.trans hk7
     clear hHeld
     refine hK.out _ _ hS (fun hHeld => ?_)
     try simp only [Act.put, List.setIfInBounds_toArray, List.set_cons_zero, List.set_cons_succ]
     clear hK
     clear hS hk7
     refine wpAnyH_take (i := 11) (oi := ⟨some 53, .move (.tmp 64), 71, "ref.go:67", #[⟨10, .data⟩], none⟩) (v := .tuple #[.string (bs ((comG p q).getD [])), .bool (comG p q).isSome, .int .i64 er]) rfl (by kernel_rfl) (by kernel_rfl) (by kernel_rfl) (fun _ _ _ h => h) (Or.inl ⟨by rfl, fun w hSw => by (try dsimp only at hSw); go_simp⟩) hHeld ?_
     try simp only [Act.put, List.setIfInBounds_toArray, List.set_cons_zero, List.set_cons_succ]
     refine wpAnyH_take (i := 12) (oi := ⟨some 65, .extract (.tmp 53) 0, 9, "ref.go:67", #[⟨11, .data⟩], none⟩) (v := .string (bs ((comG p q).getD []))) rfl (by kernel_rfl) (by kernel_rfl) (by kernel_rfl) (fun _ _ _ h => h) (Or.inl ⟨by rfl, fun w hSw => by (try dsimp only at hSw); go_simp⟩) hHeld ?_
     try simp only [Act.put, List.setIfInBounds_toArray, List.set_cons_zero, List.set_cons_succ]
     refine wpAnyH_take (i := 13) (oi := ⟨some 66, .extract (.tmp 53) 1, 4, "ref.go:67", #[⟨11, .data⟩, { on := 15, ground := .gcOnly Departure.lateStores }], none⟩) (v := .bool (comG p q).isSome) rfl (by kernel_rfl) (by kernel_rfl) (by kernel_rfl) (fun _ _ _ h => h) (Or.inl ⟨by rfl, fun w hSw => by (try dsimp only at hSw); go_simp⟩) hHeld ?_
     try simp only [Act.put, List.setIfInBounds_toArray, List.set_cons_zero, List.set_cons_succ]
     refine wpAnyH_take (i := 14) (oi := ⟨some 67, .extract (.tmp 53) 2, 70, "ref.go:67", #[⟨11, .data⟩, { on := 16, ground := .gcOnly Departure.lateStores }], none⟩) (v := .int .i64 er) rfl (by kernel_rfl) (by kernel_rfl) (by kernel_rfl) (fun _ _ _ h => h) (Or.inl ⟨by rfl, fun w hSw => by (try dsimp only at hSw); go_simp⟩) hHeld ?_
     try simp only [Act.put, List.setIfInBounds_toArray, List.set_cons_zero, List.set_cons_succ]
     refine wpAnyH_take (i := 15) (oi := ⟨some 16, .assign (.tmp 65), 9, "ref.go:67", #[⟨12, .data⟩, ⟨10, .chain⟩, ⟨0, .phase⟩, ⟨1, .phase⟩, ⟨2, .phase⟩, ⟨3, .phase⟩, ⟨4, .phase⟩, ⟨5, .phase⟩, ⟨6, .phase⟩, ⟨7, .phase⟩, ⟨8, .phase⟩, ⟨9, .phase⟩, ⟨10, .phase⟩, ⟨11, .phase⟩, ⟨12, .phase⟩, { on := 13, ground := .textOnly Departure.lateStores }, { on := 14, ground := .textOnly Departure.lateStores }], none⟩) (v := .string (bs ((comG p q).getD []))) rfl (by kernel_rfl) (by kernel_rfl) (by kernel_rfl) (fun _ _ _ h => h) (Or.inl ⟨by rfl, fun w hSw => by (try dsimp only at hSw); go_simp⟩) hHeld ?_
     try simp only [Act.put, List.setIfInBounds_toArray, List.set_cons_zero, List.set_cons_succ]
     refine wpAnyH_take (i := 16) (oi := ⟨some 17, .assign (.tmp 66), 4, "ref.go:67", #[⟨13, .data⟩, ⟨15, .chain⟩, ⟨0, .phase⟩, ⟨1, .phase⟩, ⟨2, .phase⟩, ⟨3, .phase⟩, ⟨4, .phase⟩, ⟨5, .phase⟩, ⟨6, .phase⟩, ⟨7, .phase⟩, ⟨8, .phase⟩, ⟨9, .phase⟩, ⟨10, .phase⟩, ⟨11, .phase⟩, ⟨12, .phase⟩, ⟨13, .phase⟩, { on := 14, ground := .textOnly Departure.lateStores }, ⟨15, .phase⟩], none⟩) (v := .bool (comG p q).isSome) rfl (by kernel_rfl) (by kernel_rfl) (by kernel_rfl) (fun _ _ _ h => h) (Or.inl ⟨by rfl, fun w hSw => by (try dsimp only at hSw); go_simp⟩) hHeld ?_
     try simp only [Act.put, List.setIfInBounds_toArray, List.set_cons_zero, List.set_cons_succ]
     refine wpAnyH_take (i := 17) (oi := ⟨some 18, .assign (.tmp 67), 70, "ref.go:67", #[⟨14, .data⟩, ⟨16, .chain⟩, ⟨0, .phase⟩, ⟨1, .phase⟩, ⟨2, .phase⟩, ⟨3, .phase⟩, ⟨4, .phase⟩, ⟨5, .phase⟩, ⟨6, .phase⟩, ⟨7, .phase⟩, ⟨8, .phase⟩, ⟨9, .phase⟩, ⟨10, .phase⟩, ⟨11, .phase⟩, ⟨12, .phase⟩, ⟨13, .phase⟩, ⟨14, .phase⟩, ⟨15, .phase⟩, ⟨16, .phase⟩], none⟩) (v := .int .i64 er) rfl (by kernel_rfl) (by kernel_rfl) (by kernel_rfl) (fun _ _ _ h => h) (Or.inl ⟨by rfl, fun w hSw => by (try dsimp only at hSw); go_simp⟩) hHeld ?_
     try simp only [Act.put, List.setIfInBounds_toArray, List.set_cons_zero, List.set_cons_succ]
     have HK3 := Lib.hid (hK.out.trans hHeld)
     refine wpAnyH_done (by kernel_rfl) ?_ _
     clear hHeld
     cases hcm : comG p q with
     | none =>
      rw [Option.isSome_none]
      have Hcm := Lib.hid hcm
      clear hcm
      go_wp2
      refine ⟨⟨j + 1, st, by omega, by go_num, rfl, rfl, Lib.hid (by rw [Htk2.out, Hcm.out, ← hst2.out]; rfl), HK3⟩, by simp [intOf]; omega⟩
     | some t =>
      rw [Option.isSome_some, Option.getD_some]
      have Hcm := Lib.hid hcm
      clear hcm
      cases st with
      | none =>
       rw [Option.isSome_none]
       go_wp2
       refine ⟨⟨j + 1, some t, by omega, by go_num, rfl, rfl, Lib.hid (by rw [Htk2.out, Hcm.out, ← hst2.out]; rfl), HK3⟩, by simp [intOf]; omega⟩
      | some l0 =>
       rw [Option.isSome_some, Option.getD_some]
       have HLs := Lib.hid fun V => less34_any t l0 V
       cases hle : lessB t l0 with
       | true =>
        have Hle := Lib.hid hle
        rw [hle] at HLs
        clear hle
        go_wp2_with fail
        refine Calls.mono (by with_reducible exact HLs.out _) ?_
        rintro e w4 ⟨rfl, rfl⟩
        go_wp2
        refine ⟨⟨j + 1, some t, by omega, by go_num, rfl, rfl, Lib.hid (by rw [Htk2.out, Hcm.out, ← hst2.out]; simp [updS, Hle.out]), HK3⟩, by simp [intOf]; omega⟩
       | false =>
        have Hle := Lib.hid hle
        rw [hle] at HLs
        clear hle
        go_wp2_with fail
        refine Calls.mono (by with_reducible exact HLs.out _) ?_
        rintro e w4 ⟨rfl, rfl⟩
        go_wp2
        refine ⟨⟨j + 1, some l0, by omega, by go_num, rfl, rfl, Lib.hid (by rw [Htk2.out, Hcm.out, ← hst2.out]; simp [updS, Hle.out]), HK3⟩, by simp [intOf]; omega⟩
    ·have hjz : ¬ ((j : Int) < (N2 : Int)) := by omega
     have hfin := hst2.out
     rw [List.take_of_length_le (by rw [HN2.out]; omega), hst.out, ← Htk.out] at hfin
     have Hfin := Lib.hid hfin
     clear hfin
     go_wp2
     refine ⟨⟨i + 1, st, by omega, by go_num, rfl, rfl, Hfin, hK⟩, by simp [intOf]; omega⟩
  ·have hiz : ¬ ((i : Int) < (N1 : Int)) := by omega
   have d0 := HRa.out _ hK.out
   have hfin := hst.out
   rw [List.take_of_length_le (by rw [HN1.out]; omega)] at hfin
   have hfin2 : st0 = RS := hfin.trans HRS.out
   subst hfin2
   go_wp2
   go_ret2
   exact ⟨rfl, Hka.out.trans (HSe.out.trans hK.out)⟩
end Go.Proofs.YtdlchlbngojljaaDoor
