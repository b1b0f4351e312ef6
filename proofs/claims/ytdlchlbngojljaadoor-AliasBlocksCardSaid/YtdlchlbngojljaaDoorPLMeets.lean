/- AliasMeets: the law's walk. -/
import Derived.Test.YtdlchlbngojljaaDoorPD3
namespace Go.Proofs.YtdlchlbngojljaaDoor
open Go.RowKit Go.Maps
open Gl (lessB)
/-- A whole configuration that lies in a block, read in a region that draws. -/
theorem yieldsIf_row31 {ops : Array Oper} {S : World → Prop} {op : Oper} {a : Act} (hw : Region.wanted op (yielded ops a.tmps) = true) (x : Operand) (ho : op.op = .load 31 x)
  (b : Nat) (hx : a.eval x = .pointer (some ⟨b, 0, none⟩)) (cs : Array Value) (hS : ∀ w, S w → w.heap[b]? = some (.cells cs 31 (0, 0))) (hi : (Tryd.prog.info? 31).map (·.size) = some cs.size) : YieldsIf Tryd.prog ops S op (.agg cs) a := by
 have h := yieldsIf_load_mid (P := Tryd.prog) (S := S) hw 31 x ho b 0 hx cs.toList _ (fun w hw' j u hj => by
  rw [Nat.zero_add, cell_of_row _ _ _ _ _ _ (hS w hw')]
  simpa using hj) Tryd.underlying31 rfl (by simpa using hi)
 rwa [Array.toArray_toList] at h
/-- 'meets' for one text. -/
theorem meets2 {ms : List Md} (hn : (ms.map (·.name)).Nodup) {s x y : Tx} (hs : s.length ≤ 1000000) (hx : x ∈ findR hitG ⟨ms, [], []⟩ s) (hy : y ∈ findR hitG ⟨ms, [], []⟩ s) :
  ∃ t, shrL lessB comG (aliN ms x) (aliN ms y) = some t ∧ t.length ≤ 2000000000 ∧ (t.isEmpty = false → x ∈ findR hitG ⟨ms, [], []⟩ t ∧ y ∈ findR hitG ⟨ms, [], []⟩ t) := by
 have one : ∀ z, z ∈ findR hitG ⟨ms, [], []⟩ s → ∃ m ∈ ms, m.name = z ∧ aliN ms z = m.al ∧ ∃ p ∈ m.al, hitG p s = true := by
  intro z hz
  obtain ⟨m, hm, hf, hname⟩ := (findR_mem hitG ⟨ms, [], []⟩ s z).1 hz
  refine ⟨m, hm, hname, ?_, ?_⟩
  ·have : ms.find? (fun k => k.name == z) = some m := by
    clear hx hy hz hf
    induction ms with
    | nil => simp at hm
    | cons k r ih =>
     rw [List.map_cons, List.nodup_cons] at hn
     rw [List.find?_cons]
     rcases List.mem_cons.1 hm with e | e
     ·subst e
      rw [hname]
      simp
     ·have : ¬ (k.name = z) := fun e' => hn.1 (List.mem_map.2 ⟨m, e, hname.trans e'.symm⟩)
      have hb : (k.name == z) = false := by simpa using this
      rw [hb]
      exact ih hn.2 e
   unfold aliN modN
   rw [this]
   rfl
  ·unfold fndM matM at hf
   rw [Bool.and_eq_true, Bool.or_eq_true] at hf
   rcases hf.2 with h | h
   ·rw [Bool.and_eq_true] at h
    obtain ⟨p, hp, hh⟩ := List.any_eq_true.1 h.1
    exact ⟨p, hp, hh⟩
   ·simp at h
 obtain ⟨mx, hmx, hnx, hax, px, hpx, hhx⟩ := one x hx
 obtain ⟨my, hmy, hny, hay, py, hpy, hhy⟩ := one y hy
 obtain ⟨g1, g2⟩ := shrL_gen lessB comG (fun t => t.length ≤ 2000000000 ∧ (∃ p ∈ aliN ms x, hitG p t = true) ∧ ∃ q ∈ aliN ms y, hitG q t = true) (aliN ms y) (aliN ms x) none (by simp) (fun p hp q hq t ht => ⟨(com_hit ht).2.2, ⟨p, hp, (com_hit ht).1⟩, ⟨q, hq, (com_hit ht).2.1⟩⟩)
 have hsm := g2 (.inr ⟨px, by rw [hax]; exact hpx, py, by rw [hay]; exact hpy, com_some hs hhx hhy⟩)
 obtain ⟨t, ht⟩ := Option.isSome_iff_exists.1 hsm
 obtain ⟨htl, ⟨p, hp, hpt⟩, q, hq, hqt⟩ := g1 t ht
 refine ⟨t, ht, htl, fun hte => ⟨?_, ?_⟩⟩
 ·refine (findR_mem hitG _ t x).2 ⟨mx, hmx, ?_, hnx⟩
  unfold fndM matM
  rw [hte, List.any_eq_true.2 ⟨p, by rw [← hax]; exact hp, hpt⟩]
  rfl
 ·refine (findR_mem hitG _ t y).2 ⟨my, hmy, ?_, hny⟩
  unfold fndM matM
  rw [hte, List.any_eq_true.2 ⟨q, by rw [← hay]; exact hq, hqt⟩]
  rfl
theorem setCell_box {W : World} {P : Nat} {cs : Array Value} {t : TypeId} (h : W.heap[P]? = some (.cells cs t (0, 0))) (j : Nat) (u : Value) : (W.setCell ⟨P, j, none⟩ u).heap[P]? = some (.cells (cs.setIfInBounds j u) t (0, 0)) := by
 simp [World.setCell, Array.getElem?_modify, h]
theorem cf_one {mv bv ov kv xv : Value} (h : ∀ v ∈ [mv, bv, ov, kv, xv], ∃ a n c, v = .slice a n c) : (cfV mv bv ov kv xv).all (·.oneCell') = true := by
 obtain ⟨_, _, _, e0⟩ := h mv (by simp)
 obtain ⟨_, _, _, e1⟩ := h bv (by simp)
 obtain ⟨_, _, _, e2⟩ := h ov (by simp)
 obtain ⟨_, _, _, e3⟩ := h kv (by simp)
 obtain ⟨_, _, _, e4⟩ := h xv (by simp)
 unfold cfV
 rw [e0, e1, e2, e3, e4]
 simp [Value.oneCell']
theorem has_sl {α : Type} {r : RT α} {B : Nat} {w : World} {v : Value} {l : List α} (h : r.HasB B w v l) : ∃ a n c, v = .slice a n c := by
 obtain ⟨a, c, e, _⟩ := h.form
 exact ⟨a, _, c, e⟩
theorem found_le {C : Cf} (h : C.mods.Sublist allMd) (s : Tx) : (findR hitG C s).length ≤ 8 := by
 have h1 := sub_len (b := C.mods.map (·.name)) (asc_nodup (findR_asc hitG C s)) (fun z hz => by
  obtain ⟨m, hm, _, hmn⟩ := (findR_mem hitG C s z).1 hz
  exact List.mem_map.2 ⟨m, hm, hmn⟩)
 have h2 := h.length_le
 rw [List.length_map] at h1
 have h3 : allMd.length = 8 := rfl
 omega
set_option maxHeartbeats 16000000 in
set_option maxRecDepth 100000 in
theorem aliasMeets_walk (la : Option Addr) (ln lc : Nat) (w : World) (hT : Gl.TabAt w) (hI : Ints w w.heap.size (.slice la ln lc)) : Calls Tryd.prog 5 #[.slice la ln lc] w fun e w' => e = .returned (.bool true) ∧ Below w.heap.size w w' := by
 have htp := tp_new hI
 have hk1 := (Kp.refl [] w).alloc (.cells #[.slice la ln lc, .int .i64 0] 26)
 obtain ⟨tb, htb⟩ : ∃ b, w.heap.size = b := ⟨_, rfl⟩
 obtain ⟨W1, hW1⟩ : ∃ W, w.alloc (.cells #[.slice la ln lc, .int .i64 0] 26) = W := ⟨_, rfl⟩
 rw [hW1, htb] at htp
 rw [hW1] at hk1
 have h0 : 0 < tb := by rw [← htb]; exact hT.lt
 have HCf := Lib.hid (config_any (by omega) htp)
 have HKn := Lib.hid fun W (h : Gl.TabAt W) => known_any W h
 have HTab := Lib.hid (show ∀ W, Kp [tb] W1 W → Gl.TabAt W from fun W h => tab_keep hT ((h.block 0 (by have := hk1.size; omega) (by simp; omega)).trans (hk1.block 0 (by omega) (by simp))))
 have Htb := Lib.hid htb
 have HW1 := Lib.hid hW1
 have Hk1 := Lib.hid hk1
 unfold CfPost at HCf
 clear htp hk1 htb hW1 hI hT
 go_enter Tryd.func5, Tryd.ntmps5
 go_upto_region 2 with fail
 rw [Htb.out, HW1.out]
 go_wp2_with fail
 refine Calls.mono (by with_reducible exact HCf.out) ?_
 rintro e W2 ⟨v, ⟨mv, bv, ov, kv, xv, l, C, q1, rfl, hat, hsub, hbl, hex, hbs, hxs, hq1, hT2, hk2, hov, hkv⟩, rfl⟩
 obtain ⟨c4, hc4⟩ : ∃ b, W2.heap.size = b := ⟨_, rfl⟩
 have hone := cf_one (mv := mv) (bv := bv) (ov := ov) (kv := kv) (xv := xv) (fun z hz => by
  simp only [List.mem_cons, List.not_mem_nil, or_false] at hz
  rcases hz with rfl | rfl | rfl | rfl | rfl
  ·exact has_sl hat.ms.has
  ·exact has_sl hat.bl
  ·exact hov
  ·exact hkv
  ·exact has_sl hat.ex)
 obtain ⟨W3, hW3⟩ : ∃ W, W2.alloc (.cells (cfV mv bv ov kv xv) 31) = W := ⟨_, rfl⟩
 have hk3 : Kp [] W2 W3 := by rw [← hW3]; exact (Kp.refl [] W2).alloc _
 have hr3 := heap_alloc_last W2 (.cells (cfV mv bv ov kv xv) 31)
 rw [hW3, hc4] at hr3
 have Hone := Lib.hid hone
 have Hc4 := Lib.hid hc4
 have HW3 := Lib.hid hW3
 have Hr3 := Lib.hid hr3
 have Hk3 := Lib.hid hk3
 have HT2 := Lib.hid hT2
 have Hk2 := Lib.hid hk2
 have Hq1 := Lib.hid hq1
 have Hat := Lib.hid hat
 have Hsub := Lib.hid hsub
 have Hov := Lib.hid hov
 have Hkv := Lib.hid hkv
 clear hone hc4 hW3 hr3 hk3 hT2 hk2 hq1 hat hsub hbl hex hbs hxs hov hkv HCf
 go_upto_region 3 with (refine Gl.wpList_store_new W2 31 _ (cfV mv bv ov kv xv) rfl _ _ rfl rfl rfl info31b rfl Hone.out ?_)
 rw [Hc4.out, HW3.out]
 have e1 : W3.cell? ⟨c4, 4, none⟩ = some xv := by rw [cell_of_row _ _ _ _ _ _ Hr3.out]; rfl
 have e2 : W3.cell? ⟨c4, 1, none⟩ = some bv := by rw [cell_of_row _ _ _ _ _ _ Hr3.out]; rfl
 have e3 : ∀ o, W3.frozen? ⟨c4, o, none⟩ = false := fun o => by simp [World.frozen?, Hr3.out]
 go_upto_region 4 with fail
 clear e1 e2 e3
 obtain ⟨W4, hW4⟩ : ∃ W, (W3.setCell ⟨c4, 4, none⟩ (.slice none 0 0)).setCell ⟨c4, 1, none⟩ (.slice none 0 0) = W := ⟨_, rfl⟩
 have hr4 : W4.heap[c4]? = some (.cells (cfV mv (.slice none 0 0) ov kv (.slice none 0 0)) 31 (0, 0)) := by rw [← hW4]; exact setCell_box (setCell_box Hr3.out 4 _) 1 _
 have hk4 : Kp [c4] W3 W4 := by rw [← hW4]; exact ((Kp.refl [c4] W3).setCell (p := ⟨c4, 4, none⟩) (.inl (by simp)) _).setCell (p := ⟨c4, 1, none⟩) (.inl (by simp)) _
 rw [hW4]
 have hlt : tb < c4 := by have := HT2.out.lt; have := Hc4.out; omega
 have hT4 : Tp W4 tb q1 := (HT2.out.kp Hk3.out (by simp)).kp hk4 (by simpa using hlt)
 have hk24 : Kp [] W2 W4 := Hk3.out.up hk4 (by intro z hz; simp at hz; exact .inr (by have := Hc4.out; omega))
 have hk14 : Kp [tb] W1 W4 := Hk2.out.trans (hk24.mono (by simp))
 have hW1s : W1.heap.size = tb + 1 := by have := Htb.out; rw [← HW1.out, World.size_alloc]; omega
 obtain ⟨C', hC'⟩ : ∃ c : Cf, (⟨C.mods, [], []⟩ : Cf) = c := ⟨_, rfl⟩
 have hat4 : CAt W1.heap.size W4 mv (.slice none 0 0) (.slice none 0 0) l C' := by
  rw [← hC']
  exact ⟨Hat.out.ms.kp hk24 (by simp), Hat.out.eq, ⟨.inl ⟨none, 0, rfl, rfl⟩, fun b hb => by cases hb⟩, ⟨.inl ⟨none, 0, rfl, rfl⟩, fun b hb => by cases hb⟩⟩
 have hty : CTy C' := by
  rw [← hC']
  exact sub_ty Hsub.out (by simp) (by simp) (by simp) (by simp)
 have HSub := Lib.hid (show C'.mods.Sublist allMd ∧ C' = ⟨C'.mods, [], []⟩ from by rw [← hC']; exact ⟨Hsub.out, rfl⟩)
 obtain ⟨cv, hcv⟩ : ∃ c, cfV mv (.slice none 0 0) ov kv (.slice none 0 0) = c := ⟨_, rfl⟩
 rw [hcv] at hr4
 have Hinf := Lib.hid (show (Tryd.prog.info? 31).map (·.size) = some cv.size from by rw [← hcv]; exact info31b)
 have Hld := Lib.hid (show ∀ W, Kp [tb] W4 W → W.heap[c4]? = some (.cells cv 31 (0, 0)) from fun W h => (h.block c4 (block_lt hr4) (by simp; omega)).trans hr4)
 have hTW : ∀ W, Kp [tb] W4 W → Gl.TabAt W := fun W h => HTab.out W (hk14.trans h)
 have HFd := Lib.hid (show ∀ (s : Tx), s.length ≤ 4000000000 → ∀ W, Kp [tb] W4 W → Calls Tryd.prog 13 #[.agg cv, .string (bs s)] W (fun e w' => ∃ v, Hid (stT.HasB 0 w' v (findR hitG C' s)) ∧ e = .returned v ∧ Kp [] W w') from fun s hs W h => by
  rw [← hcv]
  exact (find_any s (by omega) (hat4.kp h (by simp; omega)) hty (hTW W h)).mono fun e w' h => by
   obtain ⟨v, h1, h2, h3⟩ := h
   exact ⟨v, Lib.hid (h1.out.low (Nat.zero_le _)), h2, h3⟩)
 have HShd := Lib.hid (show ∀ (a b : Tx), ∀ W, Kp [tb] W4 W → Calls Tryd.prog 17 #[.agg cv, .string (bs a), .string (bs b)] W (ShPost C' a b W) from fun a b W h => by
  rw [← hcv]
  exact shared_any a b (hat4.kp h (by simp; omega)) hty (hTW W h))
 have HTd := Lib.hid (show Tp W4.drew tb q1 from hT4.keep fun b hb => rfl)
 have HAl := Lib.hid (show ∀ W, Tp W tb q1 → Calls Tryd.prog 10 #[.pointer (some ⟨tb, 0, none⟩)] W (AlPost tb q1 W) from fun W h => alias_any (by have := Hq1.out; omega) h)
 have HK14 := Lib.hid hk14
 have HTW := Lib.hid hTW
 clear hW4 hr4 hk4 hT4 hk24 hk14 hat4 hty hcv hTW hC' HT2 Hat Hsub Hr3 Hk3 HW3 Hk2 Hone
 refine wp_region_held_drew (S := fun X => Kp [tb] W4 X) (by kernel_rfl) ((Kp.refl [tb] W4).drew 1) (fun hHeld => ?_)
 generalize hwd : W4.drew = wd at *
 clear hwd
 refine wpAnyH_take (i := 0) (oi := ⟨some 18, .load 31 (.tmp 4), 31, "law.go:83", #[], none⟩) (v := .agg cv) rfl (by kernel_rfl) (by kernel_rfl) (by kernel_rfl) (fun _ _ _ h => h) (yieldsIf_row31 (by rfl) (.tmp 4) rfl c4 rfl cv (fun w hSw => Hld.out _ hSw) Hinf.out) hHeld ?_
 try simp only [Act.put, List.setIfInBounds_toArray, List.set_cons_zero, List.set_cons_succ]
 refine wpAnyH_take (i := 1) (oi := ⟨some 19, .move (.tmp 3), 24, "law.go:83", #[], none⟩) (v := .pointer (some ⟨tb, 0, none⟩)) rfl (by kernel_rfl) (by kernel_rfl) (by kernel_rfl) (fun _ _ _ h => h) (Or.inl ⟨by rfl, fun w hSw => by (try dsimp only at hSw); go_simp⟩) hHeld ?_
 try simp only [Act.put, List.setIfInBounds_toArray, List.set_cons_zero, List.set_cons_succ]
 refine wpAnyH_ready (rs := [2]) (by kernel_rfl) (by simp) ?_
 refine AllReadyH.cons (o := ⟨some 20, .call { callee := .value (.func 10), args := #[.tmp 19], argTypes := #[24] }, 9, "law.go:83", #[⟨1, .data⟩], none⟩) rfl (fun K hK => ?_) AllReadyH.nil
 go_simp
 go_at_call 10
 refine Calls.mono (by with_reducible exact HAl.out _ HTd.out) ?_
 unfold AlPost
 rintro e W5 ⟨s, hs, hT5, hk5, rfl⟩
 dsimp only
 have hS := hHeld.trans hk5.out
 have HS5 := Lib.hid hs
 clear hHeld
 refine hK.out _ _ hS (fun hHeld => ?_)
 try simp only [Act.put, List.setIfInBounds_toArray, List.set_cons_zero, List.set_cons_succ]
 clear hK
 clear hS
 refine wpAnyH_ready (rs := [3]) (by kernel_rfl) (by simp) ?_
 refine AllReadyH.cons (o := ⟨some 21, .call { callee := .value (.func 13), args := #[.tmp 18, .tmp 20], argTypes := #[31, 9] }, 28, "law.go:83", #[⟨0, .data⟩, ⟨2, .data⟩, ⟨2, .chain⟩], none⟩) rfl (fun K hK => ?_) AllReadyH.nil
 have HFn := Lib.hid (HFd.out s (by have := al_len HS5.out; omega) W5 hHeld)
 go_simp
 go_at_call 13
 refine Calls.mono (by with_reducible exact HFn.out) ?_
 rintro e W6 ⟨u, hu, rfl, hk6⟩
 dsimp only
 have hS := hHeld.trans (hk6.mono (by simp))
 clear hHeld
 refine hK.out _ _ hS (fun hHeld => ?_)
 try simp only [Act.put, List.setIfInBounds_toArray, List.set_cons_zero, List.set_cons_succ]
 clear hK
 clear hS hk6
 refine wpAnyH_take (i := 4) (oi := ⟨some 5, .assign (.tmp 21), 28, "law.go:83", #[⟨3, .data⟩, ⟨3, .chain⟩, ⟨0, .phase⟩, ⟨1, .phase⟩, ⟨2, .phase⟩, ⟨3, .phase⟩], none⟩) (v := u) rfl (by kernel_rfl) (by kernel_rfl) (by kernel_rfl) (fun _ _ _ h => h) (Or.inl ⟨by rfl, fun w hSw => by (try dsimp only at hSw); go_simp⟩) hHeld ?_
 try simp only [Act.put, List.setIfInBounds_toArray, List.set_cons_zero, List.set_cons_succ]
 have HS6 := Lib.hid hHeld
 refine wpAnyH_done (by kernel_rfl) ?_ _
 clear hHeld
 have hfin : ∃ u0 FL, u = u0 ∧ findR hitG C' s = FL := ⟨_, _, rfl, rfl⟩
 obtain ⟨ua, uc, rfl, hur⟩ := hu.out.form
 obtain ⟨FL, hFL⟩ : ∃ l, findR hitG C' s = l := ⟨_, rfl⟩
 rw [hFL] at hu hur ⊢
 obtain ⟨N, hN⟩ : ∃ n, FL.length = n := ⟨_, rfl⟩
 rw [hN] at hu ⊢
 have hNb : N ≤ 8 := by rw [← hN, ← hFL]; exact found_le HSub.out.1 s
 have HFL := Lib.hid hFL
 have HN := Lib.hid hN
 have HUr := Lib.hid hur
 clear hfin hur hFL hN hT5 hk5 HAl HTd HFn hu
 go_wp2
 go_loopw [6] (fun s6 wx => ∃ i : Nat, i ≤ N ∧ s6 = .int .i64 (i : Int) ∧ Hid (Kp [] W6 wx)) (fun s6 _ => N - (intOf s6).toNat)
 case atStart => exact ⟨0, by omega, rfl, Lib.hid (Kp.refl [] W6)⟩
 case round =>
  obtain ⟨i, hi, rfl, hK⟩ := hrel
  by_cases hlt2 : i < N
  ·have hiz : (i : Int) < (N : Int) := by omega
   go_wp2
   go_loopw [7] (fun s7 wx => ∃ j : Nat, j ≤ N ∧ s7 = .int .i64 (j : Int) ∧ Hid (Kp [] W6 wx)) (fun s7 _ => N - (intOf s7).toNat)
   case atStart => exact ⟨0, by omega, rfl, hK⟩
   case round =>
    clear hK
    obtain ⟨j, hj, rfl, hK⟩ := hrel
    by_cases hjl : j < N
    ·have hjz : (j : Int) < (N : Int) := by omega
     obtain ⟨x, hx⟩ : ∃ x, FL[i]? = some x := ⟨_, List.getElem?_eq_getElem (by rw [HN.out]; exact hlt2)⟩
     obtain ⟨y, hy⟩ : ∃ y, FL[j]? = some y := ⟨_, List.getElem?_eq_getElem (by rw [HN.out]; exact hjl)⟩
     obtain ⟨g, o, rfl, hgl, _, hr⟩ := HUr.out (fun e => by rw [e] at hx; simp at hx)
     obtain ⟨t, ht, htl, htm⟩ := meets2 (sub_nodup HSub.out.1) (s := s) (by have := al_len HS5.out; omega) (show x ∈ findR hitG ⟨C'.mods, [], []⟩ s from by rw [← HSub.out.2, HFL.out]; exact List.mem_of_getElem? hx) (show y ∈ findR hitG ⟨C'.mods, [], []⟩ s from by rw [← HSub.out.2, HFL.out]; exact List.mem_of_getElem? hy)
     rw [← HSub.out.2] at htm
     have hk4r : Kp [tb] W4 wr := HS6.out.trans (hK.out.mono (by simp))
     have Hcx := Lib.hid (show ∀ W, Kp [] wr W → W.cell? ⟨g, o + i, none⟩ = some (.string (bs x)) from fun W h => st_cell (hr.keep ((hK.out.trans h).block g hgl (by simp))) hx)
     have Hcy := Lib.hid (show ∀ W, Kp [] wr W → W.cell? ⟨g, o + j, none⟩ = some (.string (bs y)) from fun W h => st_cell (hr.keep ((hK.out.trans h).block g hgl (by simp))) hy)
     have Hldr := Lib.hid (show ∀ W, Kp [] wr W → W.heap[c4]? = some (.cells cv 31 (0, 0)) from fun W h => Hld.out W (hk4r.trans (h.mono (by simp))))
     have HSh := Lib.hid (show ∀ W, Kp [] wr W → Calls Tryd.prog 17 #[.agg cv, .string (bs x), .string (bs y)] W (fun e w' => e = .returned (.tuple #[.string (bs t), .bool true]) ∧ Kp [] W w') from fun W h => by
      have h9 := HShd.out x y W (hk4r.trans (h.mono (by simp)))
      unfold ShPost at h9
      rw [ht] at h9
      exact h9)
     have Htm := Lib.hid htm
     have HF2 := Lib.hid (show ∀ W, Kp [] wr W → Calls Tryd.prog 13 #[.agg cv, .string (bs t)] W (fun e w' => ∃ v, Hid (stT.HasB 0 w' v (findR hitG C' t)) ∧ e = .returned v ∧ Kp [] W w') from fun W h => HFd.out t (by omega) W (hk4r.trans (h.mono (by simp))))
     clear hx hy hr ht htm hk4r htl
     go_upto_region 11 with fail
     refine wp_region_held_drew (S := fun X => Kp [] wr X) (by kernel_rfl) ((Kp.refl [] wr).drew 1) (fun hHeld => ?_)
     generalize hwd : wr.drew = wd at *
     clear hwd
     refine wpAnyH_take (i := 0) (oi := ⟨some 35, .load 31 (.tmp 4), 31, "law.go:86", #[], none⟩) (v := .agg cv) rfl (by kernel_rfl) (by kernel_rfl) (by kernel_rfl) (fun _ _ _ h => h) (yieldsIf_row31 (by rfl) (.tmp 4) rfl c4 rfl cv (fun w hSw => Hldr.out _ hSw) Hinf.out) hHeld ?_
     try simp only [Act.put, List.setIfInBounds_toArray, List.set_cons_zero, List.set_cons_succ]
     refine wpAnyH_take (i := 1) (oi := ⟨some 36, .move (.tmp 5), 28, "law.go:86", #[], none⟩) (v := .slice (some ⟨g, o, none⟩) N uc) rfl (by kernel_rfl) (by kernel_rfl) (by kernel_rfl) (fun _ _ _ h => h) (Or.inl ⟨by rfl, fun w hSw => by (try dsimp only at hSw); go_simp⟩) hHeld ?_
     try simp only [Act.put, List.setIfInBounds_toArray, List.set_cons_zero, List.set_cons_succ]
     refine wpAnyH_take (i := 2) (oi := ⟨some 37, .move (.tmp 6), 3, "law.go:86", #[], none⟩) (v := .int .i64 (i : Int)) rfl (by kernel_rfl) (by kernel_rfl) (by kernel_rfl) (fun _ _ _ h => h) (Or.inl ⟨by rfl, fun w hSw => by (try dsimp only at hSw); go_simp⟩) hHeld ?_
     try simp only [Act.put, List.setIfInBounds_toArray, List.set_cons_zero, List.set_cons_succ]
     refine wpAnyH_take (i := 3) (oi := ⟨some 38, .indexAddr 28 (.tmp 36) (.tmp 37), 0, "law.go:86", #[⟨1, .data⟩, ⟨2, .data⟩], none⟩) (v := .pointer (some ⟨g, o + i, none⟩)) rfl (by kernel_rfl) (by kernel_rfl) (by kernel_rfl) (fun _ _ _ h => h) (Or.inl ⟨by rfl, fun w hSw => by (try dsimp only at hSw); go_simp⟩) hHeld ?_
     try simp only [Act.put, List.setIfInBounds_toArray, List.set_cons_zero, List.set_cons_succ]
     refine wpAnyH_take (i := 4) (oi := ⟨some 39, .load 9 (.tmp 38), 9, "law.go:86", #[⟨3, .data⟩], none⟩) (v := .string (bs x)) rfl (by kernel_rfl) (by kernel_rfl) (by kernel_rfl) (fun _ _ _ h => h) (Or.inl ⟨by rfl, fun w hSw => by (try dsimp only at hSw); have t1 := Hcx.out _ hSw; go_simp⟩) hHeld ?_
     try simp only [Act.put, List.setIfInBounds_toArray, List.set_cons_zero, List.set_cons_succ]
     refine wpAnyH_take (i := 5) (oi := ⟨some 40, .move (.tmp 5), 28, "law.go:86", #[], none⟩) (v := .slice (some ⟨g, o, none⟩) N uc) rfl (by kernel_rfl) (by kernel_rfl) (by kernel_rfl) (fun _ _ _ h => h) (Or.inl ⟨by rfl, fun w hSw => by (try dsimp only at hSw); go_simp⟩) hHeld ?_
     try simp only [Act.put, List.setIfInBounds_toArray, List.set_cons_zero, List.set_cons_succ]
     refine wpAnyH_take (i := 6) (oi := ⟨some 41, .move (.tmp 7), 3, "law.go:86", #[], none⟩) (v := .int .i64 (j : Int)) rfl (by kernel_rfl) (by kernel_rfl) (by kernel_rfl) (fun _ _ _ h => h) (Or.inl ⟨by rfl, fun w hSw => by (try dsimp only at hSw); go_simp⟩) hHeld ?_
     try simp only [Act.put, List.setIfInBounds_toArray, List.set_cons_zero, List.set_cons_succ]
     refine wpAnyH_take (i := 7) (oi := ⟨some 42, .indexAddr 28 (.tmp 40) (.tmp 41), 0, "law.go:86", #[⟨5, .data⟩, ⟨6, .data⟩], none⟩) (v := .pointer (some ⟨g, o + j, none⟩)) rfl (by kernel_rfl) (by kernel_rfl) (by kernel_rfl) (fun _ _ _ h => h) (Or.inl ⟨by rfl, fun w hSw => by (try dsimp only at hSw); go_simp⟩) hHeld ?_
     try simp only [Act.put, List.setIfInBounds_toArray, List.set_cons_zero, List.set_cons_succ]
     refine wpAnyH_take (i := 8) (oi := ⟨some 43, .load 9 (.tmp 42), 9, "law.go:86", #[⟨7, .data⟩], none⟩) (v := .string (bs y)) rfl (by kernel_rfl) (by kernel_rfl) (by kernel_rfl) (fun _ _ _ h => h) (Or.inl ⟨by rfl, fun w hSw => by (try dsimp only at hSw); have t1 := Hcy.out _ hSw; go_simp⟩) hHeld ?_
     try simp only [Act.put, List.setIfInBounds_toArray, List.set_cons_zero, List.set_cons_succ]
     refine wpAnyH_ready (rs := [9]) (by kernel_rfl) (by simp) ?_
     refine AllReadyH.cons (o := ⟨some 44, .call { callee := .value (.func 17), args := #[.tmp 35, .tmp 39, .tmp 43], argTypes := #[31, 9, 9] }, 42, "law.go:86", #[⟨0, .data⟩, ⟨4, .data⟩, ⟨8, .data⟩], none⟩) rfl (fun K hK => ?_) AllReadyH.nil
     go_simp
     go_at_call 17
     refine Calls.mono (by with_reducible exact HSh.out _ hHeld) ?_
     rintro e V ⟨rfl, hk7⟩
     dsimp only
     have hS := hHeld.trans hk7
     clear hHeld
     refine hK.out _ _ hS (fun hHeld => ?_)
     try simp only [Act.put, List.setIfInBounds_toArray, List.set_cons_zero, List.set_cons_succ]
     clear hK
     clear hS hk7
     refine wpAnyH_take (i := 10) (oi := ⟨some 34, .move (.tmp 44), 42, "law.go:86", #[⟨9, .data⟩], none⟩) (v := .tuple #[.string (bs t), .bool true]) rfl (by kernel_rfl) (by kernel_rfl) (by kernel_rfl) (fun _ _ _ h => h) (Or.inl ⟨by rfl, fun w hSw => by (try dsimp only at hSw); go_simp⟩) hHeld ?_
     try simp only [Act.put, List.setIfInBounds_toArray, List.set_cons_zero, List.set_cons_succ]
     refine wpAnyH_take (i := 11) (oi := ⟨some 45, .extract (.tmp 34) 0, 9, "law.go:86", #[⟨10, .data⟩], none⟩) (v := .string (bs t)) rfl (by kernel_rfl) (by kernel_rfl) (by kernel_rfl) (fun _ _ _ h => h) (Or.inl ⟨by rfl, fun w hSw => by (try dsimp only at hSw); go_simp⟩) hHeld ?_
     try simp only [Act.put, List.setIfInBounds_toArray, List.set_cons_zero, List.set_cons_succ]
     refine wpAnyH_take (i := 12) (oi := ⟨some 46, .extract (.tmp 34) 1, 4, "law.go:86", #[⟨10, .data⟩, { on := 13, ground := .gcOnly Departure.lateStores }], none⟩) (v := .bool true) rfl (by kernel_rfl) (by kernel_rfl) (by kernel_rfl) (fun _ _ _ h => h) (Or.inl ⟨by rfl, fun w hSw => by (try dsimp only at hSw); go_simp⟩) hHeld ?_
     try simp only [Act.put, List.setIfInBounds_toArray, List.set_cons_zero, List.set_cons_succ]
     refine wpAnyH_take (i := 13) (oi := ⟨some 8, .assign (.tmp 45), 9, "law.go:86", #[⟨11, .data⟩, ⟨9, .chain⟩, ⟨0, .phase⟩, ⟨1, .phase⟩, ⟨2, .phase⟩, ⟨3, .phase⟩, ⟨4, .phase⟩, ⟨5, .phase⟩, ⟨6, .phase⟩, ⟨7, .phase⟩, ⟨8, .phase⟩, ⟨9, .phase⟩, ⟨10, .phase⟩, ⟨11, .phase⟩, { on := 12, ground := .textOnly Departure.lateStores }], none⟩) (v := .string (bs t)) rfl (by kernel_rfl) (by kernel_rfl) (by kernel_rfl) (fun _ _ _ h => h) (Or.inl ⟨by rfl, fun w hSw => by (try dsimp only at hSw); go_simp⟩) hHeld ?_
     try simp only [Act.put, List.setIfInBounds_toArray, List.set_cons_zero, List.set_cons_succ]
     refine wpAnyH_take (i := 14) (oi := ⟨some 9, .assign (.tmp 46), 4, "law.go:86", #[⟨12, .data⟩, ⟨13, .chain⟩, ⟨0, .phase⟩, ⟨1, .phase⟩, ⟨2, .phase⟩, ⟨3, .phase⟩, ⟨4, .phase⟩, ⟨5, .phase⟩, ⟨6, .phase⟩, ⟨7, .phase⟩, ⟨8, .phase⟩, ⟨9, .phase⟩, ⟨10, .phase⟩, ⟨11, .phase⟩, ⟨12, .phase⟩, ⟨13, .phase⟩], none⟩) (v := .bool true) rfl (by kernel_rfl) (by kernel_rfl) (by kernel_rfl) (fun _ _ _ h => h) (Or.inl ⟨by rfl, fun w hSw => by (try dsimp only at hSw); go_simp⟩) hHeld ?_
     try simp only [Act.put, List.setIfInBounds_toArray, List.set_cons_zero, List.set_cons_succ]
     have HS7 := Lib.hid hHeld
     refine wpAnyH_done (by kernel_rfl) ?_ _
     clear hHeld
     go_upto_region 14 with fail
     go_wp2_with (refine wpList_load_row rfl 31 _ rfl c4 rfl 31 cv _ _ (Hldr.out V HS7.out) Tryd.underlying31 rfl Hinf.out ?_)
     refine Calls.mono (by with_reducible exact HF2.out V HS7.out) ?_
     rintro e W8 ⟨u2, hu2, rfl, hk8⟩
     have HS8 := Lib.hid (HS7.out.trans hk8)
     have d1 := Hcx.out _ HS8.out
     clear hk8
     cases hte : t.isEmpty with
     | true =>
      have hte2 : (bs t).toList = [] := by rw [toL]; exact List.isEmpty_iff.1 hte
      clear hte
      go_wp2
      refine ⟨⟨j + 1, by omega, by go_num, Lib.hid (hK.out.trans HS8.out)⟩, by simp [intOf]; omega⟩
     | false =>
      have hte2 : ¬ ((bs t).toList = []) := fun h => by rw [toL] at h; rw [h] at hte; simp at hte
      have hm := Htm.out hte
      have hln : (findR hitG C' t).length ≤ 1000000 := by have := found_le HSub.out.1 t; omega
      have HIx := Lib.hid (show ∀ W, Kp [] W8 W → Calls Tryd.prog 19 #[u2, .string (bs x)] W (fun e w' => e = .returned (.bool true) ∧ Kp [] W w') from fun W h => by
       have h9 := in_any x hln (hu2.out.kp h (by simp))
       rwa [List.contains_iff_mem.2 hm.1] at h9)
      have HIy := Lib.hid (show ∀ W, Kp [] W8 W → Calls Tryd.prog 19 #[u2, .string (bs y)] W (fun e w' => e = .returned (.bool true) ∧ Kp [] W w') from fun W h => by
       have h9 := in_any y hln (hu2.out.kp h (by simp))
       rwa [List.contains_iff_mem.2 hm.2] at h9)
      clear hte hm hln
      go_wp2_with fail
      refine Calls.mono (by with_reducible exact HIx.out _ (Kp.refl [] W8)) ?_
      rintro e W9 ⟨rfl, hk9⟩
      have d2 := Hcy.out _ (HS8.out.trans hk9)
      have HK9 := Lib.hid hk9
      clear hk9
      go_wp2_with fail
      refine Calls.mono (by with_reducible exact HIy.out _ HK9.out) ?_
      rintro e W10 ⟨rfl, hk10⟩
      have HK10 := Lib.hid (HK9.out.trans hk10)
      clear hk10
      go_wp2
      refine ⟨⟨j + 1, by omega, by go_num, Lib.hid ((hK.out.trans HS8.out).trans HK10.out)⟩, by simp [intOf]; omega⟩
    ·have hjz : ¬ ((j : Int) < (N : Int)) := by omega
     go_wp2
     refine ⟨⟨i + 1, by omega, by go_num, hK⟩, by simp [intOf]; omega⟩
  ·have hiz : ¬ ((i : Int) < (N : Int)) := by omega
   have hk4r : Kp [tb] W4 wr := HS6.out.trans (hK.out.mono (by simp))
   have HTr := Lib.hid (HTW.out wr hk4r)
   have HKr := Lib.hid (HK14.out.trans hk4r)
   clear hk4r
   go_wp2_with fail
   refine Calls.mono (by with_reducible exact HKn.out _ HTr.out) ?_
   rintro e W11 ⟨rfl, hk11⟩
   have HK11 := Lib.hid (HKr.out.trans (hk11.mono (by simp)))
   clear hk11
   go_wp2
   go_ret
   exact ⟨rfl, kp_bel ((Hk1.out.mono (by simp)).trans HK11.out) (by have := Htb.out; omega)⟩
end Go.Proofs.YtdlchlbngojljaaDoor
