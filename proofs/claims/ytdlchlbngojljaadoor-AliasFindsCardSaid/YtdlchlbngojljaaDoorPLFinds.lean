/- AliasFinds: the law's walk. -/
import Derived.Test.YtdlchlbngojljaaDoorPLMeets
import Derived.Test.YtdlchlbngojljaaDoorPM9
namespace Go.Proofs.YtdlchlbngojljaaDoor
open Go.RowKit Go.Maps
open Gl (lessB)
set_option maxHeartbeats 16000000 in
set_option maxRecDepth 100000 in
theorem aliasFinds_walk (la : Option Addr) (ln lc : Nat) (ss : ByteArray) (w : World) (hT : Gl.TabAt w) (hI : Ints w w.heap.size (.slice la ln lc)) : Calls Tryd.prog 3 #[.slice la ln lc, .string ss] w fun e w' => e = .returned (.bool true) ∧ Below w.heap.size w w' := by
 obtain ⟨s, rfl⟩ : ∃ x, ss = bs x := ⟨_, (bs_of ss).symm⟩
 by_cases hgt : (300 : Int) < ((bs s).size : Int)
 ·have HK0 := Lib.hid (known_any w hT)
  clear hT hI
  go_enter Tryd.func3, Tryd.ntmps3
  go_wp2_with fail
  refine Calls.mono (by with_reducible exact HK0.out) ?_
  rintro e W1 ⟨rfl, hk1⟩
  go_wp2
  go_ret
  exact ⟨rfl, kp_bel (tb := w.heap.size) (hk1.mono (by simp)) (Nat.le_refl _)⟩
 have hsl : s.length ≤ 300 := by rw [bs_size] at hgt; omega
 have htp := tp_new hI
 have hk1 := (Kp.refl [] w).alloc (.cells #[.slice la ln lc, .int .i64 0] 26)
 obtain ⟨tb, htb⟩ : ∃ b, w.heap.size = b := ⟨_, rfl⟩
 obtain ⟨W1, hW1⟩ : ∃ W, w.alloc (.cells #[.slice la ln lc, .int .i64 0] 26) = W := ⟨_, rfl⟩
 rw [hW1, htb] at htp
 rw [hW1] at hk1
 have h0 : 0 < tb := by rw [← htb]; exact hT.lt
 have HCf := Lib.hid (config_any (by omega) htp)
 have HKn := Lib.hid fun W (h : Gl.TabAt W) => known_any W h
 have HTab := Lib.hid (show ∀ W, Kp [tb] W1 W → Gl.TabAt W from fun W h => tab_keep hT ((h.block 0 (by have := hk1.size; omega) (by simp; omega)).trans (hk1.block 0 (by omega) (by simp))))
 have Htb := Lib.hid htb
 have HW1 := Lib.hid hW1
 have Hk1 := Lib.hid hk1
 unfold CfPost at HCf
 clear htp hk1 htb hW1 hI hT
 go_enter Tryd.func3, Tryd.ntmps3
 go_upto_region 4 with fail
 rw [Htb.out, HW1.out]
 go_wp2_with fail
 refine Calls.mono (by with_reducible exact HCf.out) ?_
 rintro e W2 ⟨v, ⟨mv, bv, ov, kv, xv, l, C, q1, rfl, hat, hsub, hbl, hex, hbs, hxs, hq1, hT2, hk2, hov, hkv⟩, rfl⟩
 obtain ⟨c4, hc4⟩ : ∃ b, W2.heap.size = b := ⟨_, rfl⟩
 have hone := cf_one (mv := mv) (bv := bv) (ov := ov) (kv := kv) (xv := xv) (fun z hz => by
  simp only [List.mem_cons, List.not_mem_nil, or_false] at hz
  rcases hz with rfl | rfl | rfl | rfl | rfl
  ·exact has_sl hat.ms.has
  ·exact has_sl hat.bl
  ·exact hov
  ·exact hkv
  ·exact has_sl hat.ex)
 obtain ⟨W3, hW3⟩ : ∃ W, W2.alloc (.cells (cfV mv bv ov kv xv) 31) = W := ⟨_, rfl⟩
 have hk3 : Kp [] W2 W3 := by rw [← hW3]; exact (Kp.refl [] W2).alloc _
 have hr3 := heap_alloc_last W2 (.cells (cfV mv bv ov kv xv) 31)
 rw [hW3, hc4] at hr3
 have Hone := Lib.hid hone
 have Hc4 := Lib.hid hc4
 have HW3 := Lib.hid hW3
 have Hr3 := Lib.hid hr3
 have Hk3 := Lib.hid hk3
 have HT2 := Lib.hid hT2
 have Hk2 := Lib.hid hk2
 have Hq1 := Lib.hid hq1
 have Hat := Lib.hid hat
 have Hsub := Lib.hid hsub
 have Hty := Lib.hid (sub_ty hsub (by omega) (by omega) (fun s hs => Nat.le_trans (hbs s hs) (by omega)) (fun e he => ⟨Nat.le_trans (hxs e he).1 (by omega), Nat.le_trans (hxs e he).2 (by omega)⟩))
 have Hov := Lib.hid hov
 have Hkv := Lib.hid hkv
 clear hone hc4 hW3 hr3 hk3 hT2 hk2 hq1 hat hsub hbl hex hbs hxs hov hkv HCf
 go_upto_region 5 with (refine Gl.wpList_store_new W2 31 _ (cfV mv bv ov kv xv) rfl _ _ rfl rfl rfl info31b rfl Hone.out ?_)
 rw [Hc4.out, HW3.out]
 have hlt : tb < c4 := by have := HT2.out.lt; have := Hc4.out; omega
 have hT3 : Tp W3 tb q1 := HT2.out.kp Hk3.out (by simp)
 have hk13 : Kp [tb] W1 W3 := Hk2.out.trans (Hk3.out.mono (by simp))
 have hW1s : W1.heap.size = tb + 1 := by have := Htb.out; rw [← HW1.out, World.size_alloc]; omega
 have hat3 := Hat.out.kp Hk3.out (by simp)
 have hty := Hty.out
 have hr3 := Hr3.out
 have hTb3 := HTab.out W3 hk13
 have HNw := Lib.hid (newG_any (ov := ov) (kv := kv) hat3 hty hTb3)
 unfold NewPost at HNw
 obtain ⟨cv, hcv⟩ : ∃ c, cfV mv bv ov kv xv = c := ⟨_, rfl⟩
 have HNv := Lib.hid (show Calls Tryd.prog 9 #[.agg cv] W3 (fun e w' => ∃ v, Hid (IxAt W3.heap.size w' v (ents preG C)) ∧ e = .returned v ∧ Kp [] W3 w') from by rw [← hcv]; exact HNw.out)
 clear HNw
 rw [hcv] at hr3
 have Hinf := Lib.hid (show (Tryd.prog.info? 31).map (·.size) = some cv.size from by rw [← hcv]; exact info31b)
 have HldT := Lib.hid (show ∀ W, Kp [tb] W3 W → W.heap[c4]? = some (.cells cv 31 (0, 0)) from fun W h => (h.block c4 (block_lt hr3) (by simp; omega)).trans hr3)
 have HTW := Lib.hid (show ∀ W, Kp [tb] W3 W → Gl.TabAt W from fun W h => HTab.out W (hk13.trans h))
 have HFfd := Lib.hid (show ∀ (z : Tx), z.length ≤ 300 → ∀ W, Kp [tb] W3 W → Calls Tryd.prog 13 #[.agg cv, .string (bs z)] W (fun e w' => ∃ v, Hid (stT.HasB 0 w' v (findR hitG C z)) ∧ e = .returned v ∧ Kp [] W w') from fun z hz W h => by
  rw [← hcv]
  exact (find_any z (by omega) (hat3.kp h (by simp; omega)) hty (HTab.out W (hk13.trans h))).mono fun e w' h => by
   obtain ⟨v, h1, h2, h3⟩ := h
   exact ⟨v, Lib.hid (h1.out.low (Nat.zero_le _)), h2, h3⟩)
 have HRfd := Lib.hid (show ∀ (z : Tx), z.length ≤ 300 → ∀ W, Kp [tb] W3 W → Calls Tryd.prog 11 #[.agg cv, .string (bs z)] W (fun e w' => ∃ v, Hid (stT.HasB 0 w' v (findR hitG C z)) ∧ e = .returned v ∧ Kp [] W w') from fun z hz W h => by
  rw [← hcv]
  exact (refFind_any z (by omega) (hat3.kp h (by simp; omega)) hty).mono fun e w' h => by
   obtain ⟨v, h1, h2, h3⟩ := h
   exact ⟨v, Lib.hid (h1.out.low (Nat.zero_le _)), h2, h3⟩)
 have HT3 := Lib.hid hT3
 have HK13 := Lib.hid hk13
 have Hlen := Lib.hid (show ∀ z, (findR hitG C z).length ≤ 8 from fun z => found_le Hsub.out z)
 have hs3 : tb < W3.heap.size := by have := HT2.out.lt; have := Hk3.out.size; omega
 clear hT3 hk13 hat3 hcv hr3 HT2 Hat Hty Hr3 Hk3 Hk2 Hone hTb3
 have HLd0 := Lib.hid (HldT.out W3 (Kp.refl _ _))
 go_wp2_with (refine wpList_load_row rfl 31 _ rfl c4 rfl 31 cv _ _ HLd0.out Tryd.underlying31 rfl Hinf.out ?_)
 refine Calls.mono (by with_reducible exact HNv.out) ?_
 rintro e W5 ⟨ix, hix, rfl, hk5⟩
 have HK5 := Lib.hid (show Kp [tb] W3 W5 from hk5.mono (by simp))
 have HT5 := Lib.hid (HT3.out.kp hk5 (by simp))
 obtain ⟨X, hX⟩ : ∃ X, ix = .pointer (some ⟨X, 0, none⟩) := by obtain ⟨X, _, _, _, _, h, _⟩ := hix.out; exact ⟨X, h⟩
 subst hX
 clear hk5 HNv HT3 HLd0
 go_wp2_with fail
 refine Calls.mono (by with_reducible exact HKn.out _ (HTW.out W5 HK5.out)) ?_
 rintro e W6 ⟨rfl, hk6⟩
 have HK6 := Lib.hid (HK5.out.trans (hk6.mono (by simp)))
 have HT6 := Lib.hid (HT5.out.kp hk6 (by simp))
 have HIx6 := Lib.hid (hix.out.kp hk6 (by simp))
 clear hk6 HT5 HK5 hix
 have HA6 := Lib.hid (alias_any (by have := Hq1.out; omega) HT6.out)
 unfold AlPost at HA6
 go_wp2_with fail
 refine Calls.mono (by with_reducible exact HA6.out) ?_
 rintro e W7 ⟨x1, hx1, hT7, hk7, rfl⟩
 have hx1l := al_len hx1
 have HA7 := Lib.hid (alias_any (by have := Hq1.out; omega) hT7.out)
 unfold AlPost at HA7
 have HK7 := Lib.hid (HK6.out.trans hk7.out)
 have HIx7 := Lib.hid (HIx6.out.kp hk7.out (by simpa using hs3))
 clear hT7 hk7 HA6 HT6 HIx6 HK6
 go_wp2_with fail
 refine Calls.mono (by with_reducible exact HA7.out) ?_
 rintro e W8 ⟨x2, hx2, hT8, hk8, rfl⟩
 have hx2l := al_len hx2
 have HK8 := Lib.hid (HK7.out.trans hk8.out)
 have HIx8 := Lib.hid (HIx7.out.kp hk8.out (by simpa using hs3))
 clear hT8 hk8 HA7 HIx7 HK7
 obtain ⟨R9, hR9⟩ : ∃ R, W8.heap.size = R := ⟨_, rfl⟩
 obtain ⟨W9, hW9⟩ : ∃ W, W8.alloc (.cells #[.string (bs s), .string (bs x1), .string (bs x2)] 9) = W := ⟨_, rfl⟩
 have hk9 : Kp [] W8 W9 := by rw [← hW9]; exact (Kp.refl [] _).alloc _
 have hr9 := heap_alloc_last W8 (.cells #[.string (bs s), .string (bs x1), .string (bs x2)] 9)
 rw [hR9, hW9] at hr9
 obtain ⟨zl, hzl⟩ : ∃ zl : List Tx, [s, x1, x2] = zl := ⟨_, rfl⟩
 have HZd := Lib.hid (show ∀ (i : Nat) (z : Tx), zl[i]? = some z → z.length ≤ 300 ∧ ∀ V, Kp [] W9 V → V.cell? ⟨R9, i, none⟩ = some (.string (bs z)) from fun i z hz => by
  rw [← hzl] at hz
  refine ⟨?_, fun V hV => ?_⟩
  ·have := List.mem_of_getElem? hz
   simp only [List.mem_cons, List.not_mem_nil, or_false] at this
   rcases this with rfl | rfl | rfl <;> omega
  ·rw [cell_of_row _ _ _ _ _ _ ((hV.block R9 (block_lt hr9) (by simp)).trans hr9), List.getElem?_toArray]
   match i, hz with
   | 0, hz => cases hz; rfl
   | 1, hz => cases hz; rfl
   | 2, hz => cases hz; rfl
   | _ + 3, hz => simp at hz)
 have Hzlen := Lib.hid (show zl.length = 3 from by rw [← hzl]; rfl)
 have HK9 := Lib.hid (HK8.out.trans (hk9.mono (by simp)))
 have HIx9 := Lib.hid (HIx8.out.kp hk9 (by simp))
 have Hld := Lib.hid (show ∀ W, Kp [] W9 W → W.heap[c4]? = some (.cells cv 31 (0, 0)) from fun W h => HldT.out W (HK9.out.trans (h.mono (by simp))))
 have HR9 := Lib.hid hR9
 have HW9 := Lib.hid hW9
 have Hty := Lib.hid hty
 clear hk9 hr9 hzl hR9 hW9 HIx8 HK8 hx1 hx2 hty HldT
 go_upto_block 0 with fail
 rw [HR9.out, HW9.out]
 go_wp2
 go_loopw [9] (fun s9 wx => ∃ i : Nat, i ≤ 3 ∧ s9 = .int .i64 (i : Int) ∧ Hid (Kp [] W9 wx)) (fun s9 _ => 3 - (intOf s9).toNat)
 case atStart => exact ⟨0, by omega, rfl, Lib.hid (Kp.refl [] W9)⟩
 case round =>
  obtain ⟨i, hi, rfl, hKw⟩ := hrel
  by_cases hlt3 : i < 3
  ·have hiz : (i : Int) < 3 := by omega
   obtain ⟨z, hz⟩ : ∃ z, zl[i]? = some z := ⟨_, List.getElem?_eq_getElem (by rw [Hzlen.out]; exact hlt3)⟩
   obtain ⟨hzl, hzc⟩ := HZd.out i z hz
   have HZ := Lib.hid hzc
   have HRf := Lib.hid (show ∀ W, Kp [] W9 W → Calls Tryd.prog 11 #[.agg cv, .string (bs z)] W (fun e w' => ∃ v, Hid (stT.HasB 0 w' v (findR hitG C z)) ∧ e = .returned v ∧ Kp [] W w') from fun W h => HRfd.out z hzl W (HK9.out.trans (h.mono (by simp))))
   have HFf := Lib.hid (show ∀ W, Kp [] W9 W → Calls Tryd.prog 13 #[.agg cv, .string (bs z)] W (fun e w' => ∃ v, Hid (stT.HasB 0 w' v (findR hitG C z)) ∧ e = .returned v ∧ Kp [] W w') from fun W h => HFfd.out z hzl W (HK9.out.trans (h.mono (by simp))))
   have HIf := Lib.hid (show ∀ W, Kp [] W9 W → Calls Tryd.prog 14 #[.pointer (some ⟨X, 0, none⟩), .string (bs z)] W (fun e w' => ∃ v, Hid (stT.HasB 0 w' v (findR hitG C z)) ∧ e = .returned v ∧ Kp [] W w') from fun W h =>
    (ixG_any z (by omega) Hty.out (HIx9.out.kp h (by simp))).mono fun e w' h => by
     obtain ⟨v, h1, h2, h3⟩ := h
     exact ⟨v, Lib.hid (h1.out.low (Nat.zero_le _)), h2, h3⟩)
   obtain ⟨FL, hFL⟩ : ∃ l, findR hitG C z = l := ⟨_, rfl⟩
   have hFl := Hlen.out z
   rw [hFL] at HRf HFf HIf hFl
   have HSm := Lib.hid (show ∀ (W : World) (u v : Value), Hid (stT.HasB 0 W u FL) → Hid (stT.HasB 0 W v FL) → Calls Tryd.prog 12 #[u, v] W (fun e w' => e = .returned (.bool true) ∧ Kp [] W w') from fun W u v hu hv => by
    have h9 := sameTexts_any (by omega) hu.out hv.out
    rwa [beq_self_eq_true] at h9)
   clear hz hzc hFL hFl hzl
   go_upto_region 12 with fail
   refine wp_region_held_drew (S := fun X => Kp [] wr X) (by kernel_rfl) ((Kp.refl [] wr).drew 1) (fun hHeld => ?_)
   generalize hwd : wr.drew = wd at *
   clear hwd
   refine wpAnyH_take (i := 0) (oi := ⟨some 40, .load 31 (.tmp 6), 31, "law.go:58", #[], none⟩) (v := .agg cv) rfl (by kernel_rfl) (by kernel_rfl) (by kernel_rfl) (fun _ _ _ h => h) (yieldsIf_cf (by rfl) (.tmp 6) rfl c4 rfl cv (fun w hSw => Hld.out _ (hKw.out.trans hSw)) Hinf.out) hHeld ?_
   try simp only [Act.put, List.setIfInBounds_toArray, List.set_cons_zero, List.set_cons_succ]
   refine wpAnyH_take (i := 1) (oi := ⟨some 41, .move (.tmp 8), 28, "law.go:58", #[], none⟩) (v := .slice (some ⟨R9, 0, none⟩) 3 3) rfl (by kernel_rfl) (by kernel_rfl) (by kernel_rfl) (fun _ _ _ h => h) (Or.inl ⟨by rfl, fun w hSw => by (try dsimp only at hSw); go_simp⟩) hHeld ?_
   try simp only [Act.put, List.setIfInBounds_toArray, List.set_cons_zero, List.set_cons_succ]
   refine wpAnyH_take (i := 2) (oi := ⟨some 42, .move (.tmp 9), 3, "law.go:58", #[], none⟩) (v := .int .i64 (i : Int)) rfl (by kernel_rfl) (by kernel_rfl) (by kernel_rfl) (fun _ _ _ h => h) (Or.inl ⟨by rfl, fun w hSw => by (try dsimp only at hSw); go_simp⟩) hHeld ?_
   try simp only [Act.put, List.setIfInBounds_toArray, List.set_cons_zero, List.set_cons_succ]
   refine wpAnyH_take (i := 3) (oi := ⟨some 43, .indexAddr 28 (.tmp 41) (.tmp 42), 0, "law.go:58", #[⟨1, .data⟩, ⟨2, .data⟩], none⟩) (v := .pointer (some ⟨R9, i, none⟩)) rfl (by kernel_rfl) (by kernel_rfl) (by kernel_rfl) (fun _ _ _ h => h) (Or.inl ⟨by rfl, fun w hSw => by (try dsimp only at hSw); go_simp⟩) hHeld ?_
   try simp only [Act.put, List.setIfInBounds_toArray, List.set_cons_zero, List.set_cons_succ]
   refine wpAnyH_take (i := 4) (oi := ⟨some 44, .load 9 (.tmp 43), 9, "law.go:58", #[⟨3, .data⟩], none⟩) (v := .string (bs z)) rfl (by kernel_rfl) (by kernel_rfl) (by kernel_rfl) (fun _ _ _ h => h) (Or.inl ⟨by rfl, fun w hSw => by (try dsimp only at hSw); have t1 := HZ.out _ (hKw.out.trans hSw); go_simp⟩) hHeld ?_
   try simp only [Act.put, List.setIfInBounds_toArray, List.set_cons_zero, List.set_cons_succ]
   refine wpAnyH_ready (rs := [5]) (by kernel_rfl) (by simp) ?_
   refine AllReadyH.cons (o := ⟨some 45, .call { callee := .value (.func 11), args := #[.tmp 40, .tmp 44], argTypes := #[31, 9] }, 28, "law.go:58", #[⟨0, .data⟩, ⟨4, .data⟩], none⟩) rfl (fun K hK => ?_) AllReadyH.nil
   go_simp
   go_at_call 11
   refine Calls.mono (by with_reducible exact HRf.out _ (hKw.out.trans hHeld)) ?_
   rintro e9 V1 ⟨u1, hu1, rfl, hk7⟩
   dsimp only
   have hS := hHeld.trans hk7
   clear hHeld
   refine hK.out _ _ hS (fun hHeld => ?_)
   try simp only [Act.put, List.setIfInBounds_toArray, List.set_cons_zero, List.set_cons_succ]
   clear hK
   clear hS hk7
   refine wpAnyH_take (i := 6) (oi := ⟨some 10, .assign (.tmp 45), 28, "law.go:58", #[⟨5, .data⟩, ⟨5, .chain⟩, ⟨0, .phase⟩, ⟨1, .phase⟩, ⟨2, .phase⟩, ⟨3, .phase⟩, ⟨4, .phase⟩, ⟨5, .phase⟩], none⟩) (v := u1) rfl (by kernel_rfl) (by kernel_rfl) (by kernel_rfl) (fun _ _ _ h => h) (Or.inl ⟨by rfl, fun w hSw => by (try dsimp only at hSw); go_simp⟩) hHeld ?_
   try simp only [Act.put, List.setIfInBounds_toArray, List.set_cons_zero, List.set_cons_succ]
   have HK1 := Lib.hid (hKw.out.trans hHeld)
   refine wpAnyH_done (by kernel_rfl) ?_ _
   clear hHeld
   go_upto_region 13 with fail
   refine wp_region_held_drew (S := fun X => Kp [] V1 X) (by kernel_rfl) ((Kp.refl [] V1).drew 1) (fun hHeld => ?_)
   generalize hwd : V1.drew = wd at *
   clear hwd
   refine wpAnyH_take (i := 0) (oi := ⟨some 46, .load 31 (.tmp 6), 31, "law.go:59", #[], none⟩) (v := .agg cv) rfl (by kernel_rfl) (by kernel_rfl) (by kernel_rfl) (fun _ _ _ h => h) (yieldsIf_cf (by rfl) (.tmp 6) rfl c4 rfl cv (fun w hSw => Hld.out _ (HK1.out.trans hSw)) Hinf.out) hHeld ?_
   try simp only [Act.put, List.setIfInBounds_toArray, List.set_cons_zero, List.set_cons_succ]
   refine wpAnyH_take (i := 1) (oi := ⟨some 47, .move (.tmp 8), 28, "law.go:59", #[], none⟩) (v := .slice (some ⟨R9, 0, none⟩) 3 3) rfl (by kernel_rfl) (by kernel_rfl) (by kernel_rfl) (fun _ _ _ h => h) (Or.inl ⟨by rfl, fun w hSw => by (try dsimp only at hSw); go_simp⟩) hHeld ?_
   try simp only [Act.put, List.setIfInBounds_toArray, List.set_cons_zero, List.set_cons_succ]
   refine wpAnyH_take (i := 2) (oi := ⟨some 48, .move (.tmp 9), 3, "law.go:59", #[], none⟩) (v := .int .i64 (i : Int)) rfl (by kernel_rfl) (by kernel_rfl) (by kernel_rfl) (fun _ _ _ h => h) (Or.inl ⟨by rfl, fun w hSw => by (try dsimp only at hSw); go_simp⟩) hHeld ?_
   try simp only [Act.put, List.setIfInBounds_toArray, List.set_cons_zero, List.set_cons_succ]
   refine wpAnyH_take (i := 3) (oi := ⟨some 49, .indexAddr 28 (.tmp 47) (.tmp 48), 0, "law.go:59", #[⟨1, .data⟩, ⟨2, .data⟩], none⟩) (v := .pointer (some ⟨R9, i, none⟩)) rfl (by kernel_rfl) (by kernel_rfl) (by kernel_rfl) (fun _ _ _ h => h) (Or.inl ⟨by rfl, fun w hSw => by (try dsimp only at hSw); go_simp⟩) hHeld ?_
   try simp only [Act.put, List.setIfInBounds_toArray, List.set_cons_zero, List.set_cons_succ]
   refine wpAnyH_take (i := 4) (oi := ⟨some 50, .load 9 (.tmp 49), 9, "law.go:59", #[⟨3, .data⟩], none⟩) (v := .string (bs z)) rfl (by kernel_rfl) (by kernel_rfl) (by kernel_rfl) (fun _ _ _ h => h) (Or.inl ⟨by rfl, fun w hSw => by (try dsimp only at hSw); have t1 := HZ.out _ (HK1.out.trans hSw); go_simp⟩) hHeld ?_
   try simp only [Act.put, List.setIfInBounds_toArray, List.set_cons_zero, List.set_cons_succ]
   refine wpAnyH_take (i := 6) (oi := ⟨some 52, .move (.tmp 10), 28, "law.go:59", #[], none⟩) (v := u1) rfl (by kernel_rfl) (by kernel_rfl) (by kernel_rfl) (fun _ _ _ h => h) (Or.inl ⟨by rfl, fun w hSw => by (try dsimp only at hSw); go_simp⟩) hHeld ?_
   try simp only [Act.put, List.setIfInBounds_toArray, List.set_cons_zero, List.set_cons_succ]
   refine wpAnyH_ready (rs := [5]) (by kernel_rfl) (by simp) ?_
   refine AllReadyH.cons (o := ⟨some 51, .call { callee := .value (.func 13), args := #[.tmp 46, .tmp 50], argTypes := #[31, 9] }, 28, "law.go:59", #[⟨0, .data⟩, ⟨4, .data⟩], none⟩) rfl (fun K hK => ?_) AllReadyH.nil
   go_simp
   go_at_call 13
   refine Calls.mono (by with_reducible exact HFf.out _ (HK1.out.trans hHeld)) ?_
   rintro e9 V2 ⟨u2, hu2, rfl, hk7⟩
   dsimp only
   have hS := hHeld.trans hk7
   clear hHeld
   refine hK.out _ _ hS (fun hHeld => ?_)
   try simp only [Act.put, List.setIfInBounds_toArray, List.set_cons_zero, List.set_cons_succ]
   clear hK
   clear hS hk7
   refine wpAnyH_ready (rs := [7]) (by kernel_rfl) (by simp) ?_
   refine AllReadyH.cons (o := ⟨some 53, .call { callee := .value (.func 12), args := #[.tmp 51, .tmp 52], argTypes := #[28, 28] }, 4, "law.go:59", #[⟨5, .data⟩, ⟨6, .data⟩, ⟨5, .chain⟩], none⟩) rfl (fun K hK => ?_) AllReadyH.nil
   go_simp
   go_at_call 12
   refine Calls.mono (by with_reducible exact HSm.out _ _ _ hu2 (Lib.hid (hu1.out.kp hHeld (by simp)))) ?_
   rintro e9 V3 ⟨rfl, hk7⟩
   dsimp only
   have hS := hHeld.trans hk7
   clear hHeld
   refine hK.out _ _ hS (fun hHeld => ?_)
   try simp only [Act.put, List.setIfInBounds_toArray, List.set_cons_zero, List.set_cons_succ]
   clear hK
   clear hS hk7
   refine wpAnyH_take (i := 8) (oi := ⟨some 54, .unOp .not 4 (.tmp 53), 4, "law.go:59", #[⟨7, .data⟩], none⟩) (v := .bool false) rfl (by kernel_rfl) (by kernel_rfl) (by kernel_rfl) (fun _ _ _ h => h) (Or.inl ⟨by rfl, fun w hSw => by (try dsimp only at hSw); go_simp⟩) hHeld ?_
   try simp only [Act.put, List.setIfInBounds_toArray, List.set_cons_zero, List.set_cons_succ]
   refine wpAnyH_take (i := 9) (oi := ⟨some 55, .move (.tmp 54), 4, "law.go:59", #[⟨8, .data⟩, ⟨7, .chain⟩], none⟩) (v := .bool false) rfl (by kernel_rfl) (by kernel_rfl) (by kernel_rfl) (fun _ _ _ h => h) (Or.inl ⟨by rfl, fun w hSw => by (try dsimp only at hSw); go_simp⟩) hHeld ?_
   try simp only [Act.put, List.setIfInBounds_toArray, List.set_cons_zero, List.set_cons_succ]
   refine wpAnyH_take (i := 10) (oi := ⟨some 56, .move (.tmp 7), 33, "law.go:59", #[⟨9, .guard⟩], some (9, false)⟩) (v := .pointer (some ⟨X, 0, none⟩)) rfl (by kernel_rfl) (by kernel_rfl) (by kernel_rfl) (fun _ _ _ h => h) (Or.inl ⟨by rfl, fun w hSw => by (try dsimp only at hSw); go_simp⟩) hHeld ?_
   try simp only [Act.put, List.setIfInBounds_toArray, List.set_cons_zero, List.set_cons_succ]
   refine wpAnyH_take (i := 11) (oi := ⟨some 57, .move (.tmp 8), 28, "law.go:59", #[⟨9, .guard⟩], some (9, false)⟩) (v := .slice (some ⟨R9, 0, none⟩) 3 3) rfl (by kernel_rfl) (by kernel_rfl) (by kernel_rfl) (fun _ _ _ h => h) (Or.inl ⟨by rfl, fun w hSw => by (try dsimp only at hSw); go_simp⟩) hHeld ?_
   try simp only [Act.put, List.setIfInBounds_toArray, List.set_cons_zero, List.set_cons_succ]
   refine wpAnyH_take (i := 12) (oi := ⟨some 58, .move (.tmp 9), 3, "law.go:59", #[⟨9, .guard⟩], some (9, false)⟩) (v := .int .i64 (i : Int)) rfl (by kernel_rfl) (by kernel_rfl) (by kernel_rfl) (fun _ _ _ h => h) (Or.inl ⟨by rfl, fun w hSw => by (try dsimp only at hSw); go_simp⟩) hHeld ?_
   try simp only [Act.put, List.setIfInBounds_toArray, List.set_cons_zero, List.set_cons_succ]
   refine wpAnyH_take (i := 13) (oi := ⟨some 59, .indexAddr 28 (.tmp 57) (.tmp 58), 0, "law.go:59", #[⟨11, .data⟩, ⟨12, .data⟩, ⟨9, .guard⟩], some (9, false)⟩) (v := .pointer (some ⟨R9, i, none⟩)) rfl (by kernel_rfl) (by kernel_rfl) (by kernel_rfl) (fun _ _ _ h => h) (Or.inl ⟨by rfl, fun w hSw => by (try dsimp only at hSw); go_simp⟩) hHeld ?_
   try simp only [Act.put, List.setIfInBounds_toArray, List.set_cons_zero, List.set_cons_succ]
   refine wpAnyH_take (i := 14) (oi := ⟨some 60, .load 9 (.tmp 59), 9, "law.go:59", #[⟨13, .data⟩, ⟨9, .guard⟩], some (9, false)⟩) (v := .string (bs z)) rfl (by kernel_rfl) (by kernel_rfl) (by kernel_rfl) (fun _ _ _ h => h) (Or.inl ⟨by rfl, fun w hSw => by (try dsimp only at hSw); have t1 := HZ.out _ (HK1.out.trans hSw); go_simp⟩) hHeld ?_
   try simp only [Act.put, List.setIfInBounds_toArray, List.set_cons_zero, List.set_cons_succ]
   refine wpAnyH_take (i := 16) (oi := ⟨some 62, .move (.tmp 10), 28, "law.go:59", #[⟨9, .guard⟩], some (9, false)⟩) (v := u1) rfl (by kernel_rfl) (by kernel_rfl) (by kernel_rfl) (fun _ _ _ h => h) (Or.inl ⟨by rfl, fun w hSw => by (try dsimp only at hSw); go_simp⟩) hHeld ?_
   try simp only [Act.put, List.setIfInBounds_toArray, List.set_cons_zero, List.set_cons_succ]
   refine wpAnyH_ready (rs := [15]) (by kernel_rfl) (by simp) ?_
   refine AllReadyH.cons (o := ⟨some 61, .call { callee := .value (.func 14), args := #[.tmp 56, .tmp 60], argTypes := #[33, 9] }, 28, "law.go:59", #[⟨10, .data⟩, ⟨14, .data⟩, ⟨9, .chain⟩, ⟨9, .guard⟩], some (9, false)⟩) rfl (fun K hK => ?_) AllReadyH.nil
   go_simp
   go_at_call 14
   refine Calls.mono (by with_reducible exact HIf.out _ (HK1.out.trans hHeld)) ?_
   rintro e9 V4 ⟨u4, hu4, rfl, hk7⟩
   dsimp only
   have hS := hHeld.trans hk7
   clear hHeld
   refine hK.out _ _ hS (fun hHeld => ?_)
   try simp only [Act.put, List.setIfInBounds_toArray, List.set_cons_zero, List.set_cons_succ]
   clear hK
   clear hS hk7
   refine wpAnyH_ready (rs := [17]) (by kernel_rfl) (by simp) ?_
   refine AllReadyH.cons (o := ⟨some 63, .call { callee := .value (.func 12), args := #[.tmp 61, .tmp 62], argTypes := #[28, 28] }, 4, "law.go:59", #[⟨15, .data⟩, ⟨16, .data⟩, ⟨15, .chain⟩, ⟨9, .guard⟩], some (9, false)⟩) rfl (fun K hK => ?_) AllReadyH.nil
   go_simp
   go_at_call 12
   refine Calls.mono (by with_reducible exact HSm.out _ _ _ hu4 (Lib.hid (hu1.out.kp hHeld (by simp)))) ?_
   rintro e9 V5 ⟨rfl, hk7⟩
   dsimp only
   have hS := hHeld.trans hk7
   clear hHeld
   refine hK.out _ _ hS (fun hHeld => ?_)
   try simp only [Act.put, List.setIfInBounds_toArray, List.set_cons_zero, List.set_cons_succ]
   clear hK
   clear hS hk7
   refine wpAnyH_take (i := 18) (oi := ⟨some 64, .unOp .not 4 (.tmp 63), 4, "law.go:59", #[⟨17, .data⟩, ⟨9, .guard⟩], some (9, false)⟩) (v := .bool false) rfl (by kernel_rfl) (by kernel_rfl) (by kernel_rfl) (fun _ _ _ h => h) (Or.inl ⟨by rfl, fun w hSw => by (try dsimp only at hSw); go_simp⟩) hHeld ?_
   try simp only [Act.put, List.setIfInBounds_toArray, List.set_cons_zero, List.set_cons_succ]
   refine wpAnyH_take (i := 19) (oi := ⟨some 65, .pick (.tmp 55) (.const (.bool true)) (.tmp 64), 4, "law.go:59", #[⟨9, .data⟩, ⟨18, .data⟩], none⟩) (v := .bool false) rfl (by kernel_rfl) (by kernel_rfl) (by kernel_rfl) (fun _ _ _ h => h) (Or.inl ⟨by rfl, fun w hSw => by (try dsimp only at hSw); go_simp⟩) hHeld ?_
   try simp only [Act.put, List.setIfInBounds_toArray, List.set_cons_zero, List.set_cons_succ]
   have HK5 := Lib.hid (HK1.out.trans hHeld)
   refine wpAnyH_done (by kernel_rfl) ?_ _
   clear hHeld
   go_wp2
   refine ⟨⟨i + 1, by omega, by go_num, HK5⟩, by simp [intOf]; omega⟩
  ·have hiz : ¬ ((i : Int) < 3) := by omega
   go_wp2
   go_ret
   exact ⟨rfl, kp_bel ((Hk1.out.mono (by simp)).trans (HK13.out.trans (HK9.out.trans (hKw.out.mono (by simp))))) (by have := Htb.out; omega)⟩
end Go.Proofs.YtdlchlbngojljaaDoor
