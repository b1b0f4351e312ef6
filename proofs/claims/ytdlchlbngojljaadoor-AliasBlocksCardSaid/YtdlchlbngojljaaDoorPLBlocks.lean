/- AliasBlocks: the law's walk. -/
import Derived.Test.YtdlchlbngojljaaDoorPLMeets
import Derived.Test.YtdlchlbngojljaaDoorPM9
namespace Go.Proofs.YtdlchlbngojljaaDoor
open Go.RowKit Go.Maps
open Gl (lessB)
def nmB : List Tx := [[104, 105, 100], [110, 105, 99], [111, 116, 104, 101, 114], [99, 111, 114, 101]]
theorem nmB_len {x : Tx} (h : x ∈ nmB) : x.length ≤ 10 := by
 have : ∀ x ∈ nmB, x.length ≤ 10 := by decide
 exact this x h
theorem run_append_has {α : Type} {r : RT α} {w : World} {base : Nat} {v y : Value} {xs ys : List α} (ty : TypeId) (hown : r.Own w base v xs) (hy : r.Has w y ys) (hb1 : xs.length + ys.length ≤ 1000000) (hb : base ≤ w.heap.size) :
  ∃ v' w', (Builtin.append_ #[r.sl, r.sl] ty #[v, y]).run Tryd.prog w = .ok v' w' ∧ r.Own w' base v' (xs ++ ys) ∧ w.grownBy w' v.ownBlock := by
 obtain ⟨i0, hi0, hz0, hz1, hz2⟩ := info_parts r.info
 have hbt : (xs.length + ys.length) * r.bt ≤ 140737488355328 := by
  have := r.btl
  have : (xs.length + ys.length) * r.bt ≤ 1000000 * 256 := Nat.mul_le_mul (by omega) this
  omega
 have go : ∀ (p : Addr) (c : Nat), y = .slice (some p) ys.length c → (∀ j u, (r.cells ys)[j]? = some u → w.cell? (p.add j) = some u) → ∃ v' w', (Builtin.append_ #[r.sl, r.sl] ty #[v, y]).run Tryd.prog w = .ok v' w' ∧ r.Own w' base v' (xs ++ ys) ∧ w.grownBy w' v.ownBlock := by
  intro p c hp hcell
  subst hp
  obtain ⟨v', w', h1, h2, h3, _⟩ := run_append_own (P := Tryd.prog) w base r.sl ty r.ty i0 _ r.sz r.bt r.und hi0 hz0 hz1 hz2 r.zs r.pos v xs.length (r.cells xs) hown p ys.length c (r.cells ys)
   (r.cells_len ys) hcell (r.cells_one ys) (by unfold maxLen; omega) hbt hb
  refine ⟨v', w', h1, ?_, h3⟩
  unfold RT.Own
  rw [List.length_append, RT.cells_append]
  exact h2
 rcases hy with ⟨a, c, rfl, rfl⟩ | ⟨b, p, c, rfl, _, hrow⟩
 ·cases a with
  | some p => exact go p c rfl (by intro j u hj; simp [RT.cells] at hj)
  | none =>
   rcases hown.form2 with ⟨rfl, h2⟩ | ⟨g, cap, rfl, _, _, hcap, _, _⟩
   ·exact ⟨_, w, run_append_nothing w r.sl r.sl ty r.ty i0 r.und hi0 none 0 0 (Nat.le_refl _) _ (Src.ofNil w r.und c), by rw [List.append_nil]; exact hown, World.grownBy.refl _ _⟩
   ·exact ⟨_, w, run_append_nothing w r.sl r.sl ty r.ty i0 r.und hi0 _ _ _ hcap _ (Src.ofNil w r.und c), by rw [List.append_nil]; exact hown, World.grownBy.refl _ _⟩
 ·exact go ⟨b, p, none⟩ c rfl (fun j u hj => by
   rw [show (⟨b, p, none⟩ : Addr).add j = ⟨b, p + j, none⟩ from add_addr b p j]
   exact hrow.all j u hj)
theorem wpList_append_has {α : Type} {r : RT α} {ops : Array Oper} {rest : List Oper} {o : Oper} {a : Act} {w : World} {Q : Exit → Act → World → Prop} (hg : o.guard = none) (s y : Operand)
  (hop : o.op = Op.call { callee := Callee.builtin Builtin.append, args := #[s, y], argTypes := #[r.sl, r.sl] }) (base : Nat)
  (v yv : Value) (xs ys : List α) (hs : a.eval s = v) (hown : r.Own w base v xs) (hx : a.eval y = yv) (hy : r.Has w yv ys) (hb1 : xs.length + ys.length ≤ 1000000) (hb : base ≤ w.heap.size)
  (hK : ∀ v' w', r.Own w' base v' (xs ++ ys) → w.grownBy w' v.ownBlock → wpList Tryd.prog ops Q rest (a.put o.dst v') w') : wpList Tryd.prog ops Q (o :: rest) a w := by
 refine wpList_plain hg fun K hK' => ?_
 obtain ⟨v', w', h1, h2, h3⟩ := run_append_has o.type hown hy hb1 hb
 unfold Oper.wp
 simp [execOp, hop, resolve, invoke, builtin, hs, hx, h1, Result.andThen]
 exact hK' _ _ (hK v' w' h2 h3)
theorem any_snoc {α : Type} {f : α → Bool} {l : List α} {i : Nat} {x : α} (h : l[i]? = some x) : (l.take (i + 1)).any f = ((l.take i).any f || f x) := by
 rw [List.take_add_one, h]
 simp
theorem star_any {x : Tx} (h : x ∈ alL) : hitG [42] x = true := by
 have : ∀ x ∈ alL, hitG [42] x = true := by decide +kernel
 exact this x h
set_option maxHeartbeats 32000000 in
set_option maxRecDepth 100000 in
theorem aliasBlocks_walk (la : Option Addr) (ln lc : Nat) (w : World) (hT : Gl.TabAt w) (hI : Ints w w.heap.size (.slice la ln lc)) : Calls Tryd.prog 6 #[.slice la ln lc] w fun e w' => e = .returned (.bool true) ∧ Below w.heap.size w w' := by
 have htp := tp_new hI
 have hk1 := (Kp.refl [] w).alloc (.cells #[.slice la ln lc, .int .i64 0] 26)
 obtain ⟨tb, htb⟩ : ∃ b, w.heap.size = b := ⟨_, rfl⟩
 obtain ⟨W1, hW1⟩ : ∃ W, w.alloc (.cells #[.slice la ln lc, .int .i64 0] 26) = W := ⟨_, rfl⟩
 rw [hW1, htb] at htp
 rw [hW1] at hk1
 have h0 : 0 < tb := by rw [← htb]; exact hT.lt
 have HCf := Lib.hid (config_any (by omega) htp)
 have HKn := Lib.hid fun W (h : Gl.TabAt W) => known_any W h
 have HTab := Lib.hid (show ∀ W, Kp [tb] W1 W → Gl.TabAt W from fun W h => tab_keep hT ((h.block 0 (by have := hk1.size; omega) (by simp; omega)).trans (hk1.block 0 (by omega) (by simp))))
 have Htb := Lib.hid htb
 have HW1 := Lib.hid hW1
 have Hk1 := Lib.hid hk1
 unfold CfPost at HCf
 clear htp hk1 htb hW1 hI hT
 go_enter Tryd.func6, Tryd.ntmps6
 go_upto_region 2 with fail
 rw [Htb.out, HW1.out]
 go_wp2_with fail
 refine Calls.mono (by with_reducible exact HCf.out) ?_
 rintro e W2 ⟨v, ⟨mv, bv, ov, kv, xv, l, C, q1, rfl, hat, hsub, hbl, hex, hbs, hxs, hq1, hT2, hk2, hov, hkv⟩, rfl⟩
 obtain ⟨c4, hc4⟩ : ∃ b, W2.heap.size = b := ⟨_, rfl⟩
 have hone := cf_one (mv := mv) (bv := bv) (ov := ov) (kv := kv) (xv := xv) (fun z hz => by
  simp only [List.mem_cons, List.not_mem_nil, or_false] at hz
  rcases hz with rfl | rfl | rfl | rfl | rfl
  ·exact has_sl hat.ms.has
  ·exact has_sl hat.bl
  ·exact hov
  ·exact hkv
  ·exact has_sl hat.ex)
 obtain ⟨W3, hW3⟩ : ∃ W, W2.alloc (.cells (cfV mv bv ov kv xv) 31) = W := ⟨_, rfl⟩
 have hk3 : Kp [] W2 W3 := by rw [← hW3]; exact (Kp.refl [] W2).alloc _
 have hr3 := heap_alloc_last W2 (.cells (cfV mv bv ov kv xv) 31)
 rw [hW3, hc4] at hr3
 have Hone := Lib.hid hone
 have Hc4 := Lib.hid hc4
 have HW3 := Lib.hid hW3
 have Hr3 := Lib.hid hr3
 have Hk3 := Lib.hid hk3
 have HT2 := Lib.hid hT2
 have Hk2 := Lib.hid hk2
 have Hq1 := Lib.hid hq1
 have Hat := Lib.hid hat
 have Hsub := Lib.hid hsub
 have Hov := Lib.hid hov
 have Hkv := Lib.hid hkv
 have Hbl := Lib.hid hbl
 have Hex := Lib.hid hex
 have Hbs := Lib.hid hbs
 have Hxs := Lib.hid hxs
 clear hone hc4 hW3 hr3 hk3 hT2 hk2 hq1 hat hsub hbl hex hbs hxs hov hkv HCf
 go_upto_region 3 with (refine Gl.wpList_store_new W2 31 _ (cfV mv bv ov kv xv) rfl _ _ rfl rfl rfl info31b rfl Hone.out ?_)
 rw [Hc4.out, HW3.out]
 have hlt : tb < c4 := by have := HT2.out.lt; have := Hc4.out; omega
 have HT3 := Lib.hid (HT2.out.kp Hk3.out (by simp))
 have hk13 : Kp [tb] W1 W3 := Hk2.out.trans (Hk3.out.mono (by simp))
 have hW1s : W1.heap.size = tb + 1 := by have := Htb.out; rw [← HW1.out, World.size_alloc]; omega
 have Hat3 := Lib.hid (Hat.out.kp Hk3.out (by simp))
 have hr3 := Hr3.out
 have Hinf := Lib.hid (show (Tryd.prog.info? 31).map (·.size) = some (5 : Nat) from info31b)
 have Hld := Lib.hid (show ∀ W, Kp [tb] W3 W → W.heap[c4]? = some (.cells (cfV mv bv ov kv xv) 31 (0, 0)) from fun W h => (h.block c4 (block_lt hr3) (by simp; omega)).trans hr3)
 have HTW := Lib.hid (show ∀ W, Kp [tb] W3 W → Gl.TabAt W from fun W h => HTab.out W (hk13.trans h))
 have HK13 := Lib.hid hk13
 have HW1s := Lib.hid hW1s
 have HSz := Lib.hid (show l.length ≤ 1000000 from by have h1 := Hsub.out.length_le; have h2 := Hat3.out.eq; have h3 : allMd.length = 8 := rfl; rw [h2, List.length_map] at h1; omega)
 have Hsz3 := Lib.hid (show tb < W3.heap.size from by have := HT2.out.lt; have := Hk3.out.size; omega)
 clear hk13 hr3 HT2 Hat Hr3 Hk3 Hk2 hW1s
 have HA3 := Lib.hid (alias_any (by have := Hq1.out; omega) HT3.out)
 unfold AlPost at HA3
 go_wp2_with fail
 refine Calls.mono (by with_reducible exact HA3.out) ?_
 rintro e W5 ⟨s, hs, hT5, hk5, rfl⟩
 have hsl := al_len hs
 have hone := one_new nmB (by decide) (by decide) (by have := Hq1.out; omega) hT5.out
 obtain ⟨B6, hB⟩ : ∃ B, W5.heap.size = B := ⟨_, rfl⟩
 obtain ⟨AB6, hA⟩ : ∃ X, W5.alloc (.cells #[.string ⟨#[104, 105, 100]⟩, .string ⟨#[110, 105, 99]⟩, .string ⟨#[111, 116, 104, 101, 114]⟩, .string ⟨#[99, 111, 114, 101]⟩] 9) = X := ⟨_, rfl⟩
 have HO := Lib.hid (show Calls Tryd.prog 16 #[.pointer (some ⟨tb, 0, none⟩), .slice (some ⟨B6, 0, none⟩) 4 4] AB6 (fun e w' => ∃ x, x ∈ nmB ∧ e = .returned (.string (bs x)) ∧ Tp w' tb (q1 + 1 + 1) ∧ Kp [tb] W5 w') from by rw [← hA, ← hB]; exact hone)
 have HB := Lib.hid hB
 have HA := Lib.hid hA
 have HSt := Lib.hid hs
 clear hone hB hA hs HA3 HT3 hT5
 go_wp2_with fail
 rw [HB.out, HA.out]
 refine Calls.mono (by with_reducible exact HO.out) ?_
 rintro e W6 ⟨m, hm, rfl, _, hk6⟩
 have hml := nmB_len hm
 have HK6 := Lib.hid (hk5.out.trans hk6)
 clear hk6 hk5 HO HB HA hm
 have HFb := Lib.hid (find_any (ov := ov) (kv := kv) s (by omega) (Hat3.out.kp HK6.out (by have := HW1s.out; simp; omega)) (sub_ty Hsub.out (by have := Hbl.out; omega) (by have := Hex.out; omega) (fun t ht => Nat.le_trans (Hbs.out t ht) (by omega)) (fun t ht => ⟨Nat.le_trans (Hxs.out t ht).1 (by omega), Nat.le_trans (Hxs.out t ht).2 (by omega)⟩)) (HTW.out W6 HK6.out))
 unfold IFPost at HFb
 have HLd6 := Lib.hid (Hld.out W6 HK6.out)
 go_wp2_with (refine wpList_load_row rfl 31 _ rfl c4 rfl 31 (cfV mv bv ov kv xv) _ _ HLd6.out Tryd.underlying31 rfl Hinf.out ?_)
 refine Calls.mono (by with_reducible exact HFb.out) ?_
 rintro e W7 ⟨vb, hvb, rfl, hk7⟩
 have HVb := Lib.hid (hvb.out.low (Nat.zero_le _))
 have HK7 := Lib.hid (HK6.out.trans (hk7.mono (by simp)))
 clear hk7 hvb HFb HLd6 HK6
 obtain ⟨d, hd⟩ : ∃ r, W7.heap.size = r := ⟨_, rfl⟩
 obtain ⟨W8, hW8⟩ : ∃ X, W7.alloc (.cells (cfV mv bv ov kv xv) 31) = X := ⟨_, rfl⟩
 have hk8 : Kp [] W7 W8 := by rw [← hW8]; exact (Kp.refl [] _).alloc _
 have hr8 := heap_alloc_last W7 (.cells (cfV mv bv ov kv xv) 31)
 rw [hd, hW8] at hr8
 have Hk8 := Lib.hid hk8
 have Hr8 := Lib.hid hr8
 have HK8 := Lib.hid (HK7.out.trans (hk8.mono (by simp)))
 have Hd := Lib.hid hd
 have HW8 := Lib.hid hW8
 have HLd7 := Lib.hid (Hld.out W7 HK7.out)
 have Hat8 := Lib.hid (Hat3.out.kp HK8.out (by have := HW1s.out; simp; omega))
 clear hd hW8 hk8 hr8
 go_upto_region 6 with (first | (refine wpList_load_row rfl 31 _ rfl c4 rfl 31 (cfV mv bv ov kv xv) _ _ HLd7.out Tryd.underlying31 rfl Hinf.out ?_) | (refine Gl.wpList_store_new W7 31 _ (cfV mv bv ov kv xv) rfl _ _ rfl rfl rfl info31b rfl Hone.out ?_))
 rw [Hd.out, HW8.out]
 try simp only [Act.put]
 have e0 : W8.cell? ⟨c4, 1, none⟩ = some bv := by rw [cell_of_row _ _ _ _ _ _ (Hld.out W8 HK8.out)]; rfl
 have Hln1 := Lib.hid (show ([] : List Tx).length + C.bl.length ≤ 1000000 from by have := Hbl.out; rw [List.length_nil]; omega)
 go_upto_region 7 with (first
  | (refine wpList_append_has (r := stT) rfl _ _ rfl W8.heap.size (.slice none 0 0) bv [] C.bl rfl (RT.Own.nil _ _ _) rfl Hat8.out.bl.1 Hln1.out (Nat.le_refl _) ?_; intro v9 W9 hown hgr; have HO9 := Lib.hid hown; have HK9 := Lib.hid (show Kp [] W8 W9 from kp_grownS (Kp.refl [] _) hgr (fun b hb => by cases hb)); clear hown hgr; obtain ⟨R10, hR10⟩ : ∃ R, W9.heap.size = R := ⟨_, rfl⟩; obtain ⟨W10, hW10⟩ : ∃ X, W9.alloc (.cells #[.string (bs m)] 9) = X := ⟨_, rfl⟩; have hk10 : Kp [] W9 W10 := (by rw [← hW10]; exact (Kp.refl [] _).alloc _); have hr10 := heap_alloc_last W9 (.cells #[.string (bs m)] 9); rw [hR10, hW10] at hr10; have HM10 := Lib.hid hr10; have HK10 := Lib.hid (HK9.out.trans hk10); have HO10 := Lib.hid (HO9.out.kp0 hk10); have HR10 := Lib.hid hR10; have HW10 := Lib.hid hW10; clear hk10 hr10 hR10 hW10 HO9)
  | (rw [HR10.out, HW10.out]; refine wpList_append_r (r := stT) rfl _ _ rfl W8.heap.size v9 ([] ++ C.bl) rfl HO10.out R10 1 m rfl (row_cellS HM10.out rfl) (by have := Hln1.out; rw [List.length_append]; exact this) HK10.out.size ?_; intro v11 W11 hown hgr; have HO11 := Lib.hid hown; have HK11 := Lib.hid (show Kp [] W8 W11 from kp_grownS HK10.out hgr (fun b hb => (HO10.out.ge b hb).1)); have hvf := hown.form; clear hown hgr; obtain ⟨a11, c11, hvf⟩ := hvf; obtain ⟨n11, hn11⟩ : ∃ n, ([] ++ C.bl ++ [m]).length = n := ⟨_, rfl⟩; rw [hn11] at hvf; subst hvf; clear hn11; have hrd := (HK11.out.block d (block_lt Hr8.out) (by simp)).trans Hr8.out; have e1 : W11.cell? ⟨d, 1, none⟩ = some bv := (by rw [cell_of_row _ _ _ _ _ _ hrd]; rfl); have e2 : W11.frozen? ⟨d, 1, none⟩ = false := (by simp [World.frozen?, hrd])))
 try simp only [Act.put]
 clear e0 e1 e2 HM10 HO10 HR10 HW10 HK10 HK9 Hln1
 obtain ⟨W12, hW12⟩ : ∃ X, W11.setCell ⟨d, 1, none⟩ (.slice a11 n11 c11) = X := ⟨_, rfl⟩
 have hr12 : W12.heap[d]? = some (.cells (cfV mv (.slice a11 n11 c11) ov kv xv) 31 (0, 0)) := by rw [← hW12]; exact setCell_box hrd 1 _
 have hdW8 := block_lt Hr8.out
 have hk12 : Kp [] W7 W12 := by rw [← hW12]; exact (Hk8.out.trans HK11.out).setCell (p := ⟨d, 1, none⟩) (.inr (by have := Hd.out; simp; omega)) _
 have hO12 : stT.Own W12 W8.heap.size (.slice a11 n11 c11) ([] ++ C.bl ++ [m]) := by rw [← hW12]; exact HO11.out.set (p := ⟨d, 1, none⟩) (fun b hb => by have := (HO11.out.ge b hb).1; simp; omega) _
 rw [hW12]
 have hK12 : Kp [tb] W3 W12 := HK7.out.trans (hk12.mono (by simp))
 have hA8 : W1.heap.size ≤ W8.heap.size := Nat.le_trans HK13.out.size HK8.out.size
 have hat12 : CAt W1.heap.size W12 mv (.slice a11 n11 c11) xv l ⟨C.mods, C.bl ++ [m], C.ex⟩ := by
  have h9 := Hat3.out.kp hK12 (by have := HW1s.out; simp; omega)
  rw [List.nil_append] at hO12
  exact ⟨h9.ms, h9.eq, hO12.hasB hA8, h9.ex⟩
 have HAt12 := Lib.hid hat12
 have HRd12 := Lib.hid (show ∀ W, Kp [] W12 W → W.heap[d]? = some (.cells (cfV mv (.slice a11 n11 c11) ov kv xv) 31 (0, 0)) from fun W h => (h.block d (block_lt hr12) (by simp)).trans hr12)
 have HTy1 := Lib.hid (sub_ty (C := ⟨C.mods, C.bl ++ [m], C.ex⟩) Hsub.out (by have := Hbl.out; simp; omega) (by have := Hex.out; show C.ex.length ≤ 1000; omega) (fun t ht => by
  rcases List.mem_append.1 ht with h | h
  ·exact Nat.le_trans (Hbs.out t h) (by omega)
  ·rw [List.mem_singleton.1 h]; omega) (fun t ht => ⟨Nat.le_trans (Hxs.out t ht).1 (by omega), Nat.le_trans (Hxs.out t ht).2 (by omega)⟩))
 obtain ⟨xa, xc, hxv, hxr⟩ := hat12.ex.form
 obtain ⟨NX, hNX⟩ : ∃ n, C.ex.length = n := ⟨_, rfl⟩
 have hxv2 : xv = .slice xa NX xc := by rw [← hNX]; exact hxv
 have HC4 := Lib.hid (show ∀ W, Kp [tb] W3 W → W.cell? ⟨c4, 4, none⟩ = some (.slice xa NX xc) from fun W h => by rw [cell_of_row _ _ _ _ _ _ (Hld.out W h), ← hxv2]; rfl)
 have HXr := Lib.hid hxr
 have HNX := Lib.hid hNX
 have Hk12 := Lib.hid hk12
 have HK12 := Lib.hid hK12
 have hNXb : NX ≤ 2 := by rw [← hNX]; exact Hex.out
 have HMt := Lib.hid (show ∀ e ∈ C.ex, ∀ V, Calls Tryd.prog 20 #[.string (bs e.1), .string (bs s)] V (fun e' w' => e' = .returned (.bool (hitG e.1 s)) ∧ Kp [] V w') from fun e he V => by
  have h9 := mat_G e.1 s V (by have := (Hxs.out e he).1; omega) (by omega)
  unfold MatC at h9
  exact h9)
 clear hW12 hr12 hrd hdW8 hk12 hO12 hK12 hA8 hat12 hxv hxv2 hxr hNX HO11 HK11 Hk8 Hr8 HW8 HLd7 Hat8 HK8
 go_wp2
 go_loopw [9, 10] (fun s9 s10 wx => ∃ (i : Nat) (b : Bool), i ≤ NX ∧ s10 = .int .i64 (i : Int) ∧ s9 = .bool b ∧ Hid (((C.ex.take i).any fun e => e.2 == m && hitG e.1 s) = b) ∧ Hid (Kp [] W12 wx)) (fun _ s10 _ => NX - (intOf s10).toNat)
 case atStart => exact ⟨0, false, by omega, rfl, rfl, Lib.hid (by simp), Lib.hid (Kp.refl [] W12)⟩
 case round =>
  obtain ⟨i, b, hi, rfl, rfl, hb, hKw⟩ := hrel
  have d0 := HC4.out _ (HK12.out.trans (hKw.out.mono (by simp)))
  by_cases hltx : i < NX
  ·have hiz : (i : Int) < (NX : Int) := by omega
   obtain ⟨x, hx⟩ : ∃ e, C.ex[i]? = some e := ⟨_, List.getElem?_eq_getElem (by rw [HNX.out]; exact hltx)⟩
   have Hsn := Lib.hid (any_snoc (f := fun e : Tx × Tx => e.2 == m && hitG e.1 s) hx)
   cases b with
   | true =>
    clear hx
    go_wp2
    refine ⟨⟨i + 1, true, by omega, by go_num, rfl, Lib.hid (by rw [Hsn.out, hb.out]; rfl), hKw⟩, by simp [intOf]; omega⟩
   | false =>
    obtain ⟨g, o, rfl, hgl, _, hr⟩ := HXr.out (fun h => by change C.ex = [] at h; rw [h] at hx; simp at hx)
    have hcl := at_cell (hr.keep (hKw.out.block g hgl (by simp))) hx
    obtain ⟨c0, c1⟩ := hcl
    have HM := Lib.hid (HMt.out x (List.mem_of_getElem? hx))
    have hbq := bs_eq x.2 m
    clear hx hr
    cases hq : x.2 == m with
    | false =>
     rw [hq] at hbq
     have Hq := Lib.hid hq
     clear hq
     go_wp2
     refine ⟨⟨i + 1, false, by omega, by go_num, rfl, Lib.hid (by rw [Hsn.out, hb.out]; simp [Hq.out]), hKw⟩, by simp [intOf]; omega⟩
    | true =>
     rw [hq] at hbq
     have Hq := Lib.hid hq
     clear hq
     go_wp2_with fail
     refine Calls.mono (by with_reducible exact HM.out _) ?_
     rintro e9 V1 ⟨rfl, hk1⟩
     have HK1 := Lib.hid (hKw.out.trans hk1)
     clear hk1
     go_wp2
     refine ⟨⟨i + 1, hitG x.1 s, by omega, by go_num, by simp, Lib.hid (by rw [Hsn.out, hb.out]; simp [Hq.out]), HK1⟩, by simp [intOf]; omega⟩
  ·have hiz : ¬ ((i : Int) < (NX : Int)) := by omega
   have hby := hb.out
   rw [List.take_of_length_le (by rw [HNX.out]; omega)] at hby
   have HBy := Lib.hid hby
   obtain ⟨W13, hW13⟩ : ∃ X, wr = X := ⟨_, rfl⟩
   subst hW13
   have HK13b := Lib.hid (HK12.out.trans (hKw.out.mono (by simp)))
   have HFa := Lib.hid (find_any (ov := ov) (kv := kv) s (by omega) (HAt12.out.kp hKw.out (by simp)) HTy1.out (HTW.out wr HK13b.out))
   unfold IFPost at HFa
   have HLd13 := Lib.hid (HRd12.out wr hKw.out)
   clear hby hb HAt12 HTy1
   go_wp2_with (refine wpList_load_row rfl 31 _ rfl d rfl 31 (cfV mv (.slice a11 n11 c11) ov kv xv) _ _ HLd13.out Tryd.underlying31 rfl Hinf.out ?_)
   refine Calls.mono (by with_reducible exact HFa.out) ?_
   rintro e W14 ⟨va, hva, rfl, hk14⟩
   have HVa := hva
   have HK14 := Lib.hid (HK13b.out.trans (hk14.mono (by simp)))
   have Hk14 := Lib.hid (hKw.out.trans hk14)
   have Hd13 := Lib.hid (show d < wr.heap.size from block_lt HLd13.out)
   clear hva hk14 HFa HLd13
   obtain ⟨ba, bc, rfl, hbr⟩ := HVb.out.form
   obtain ⟨FB, hFB⟩ : ∃ l, findR hitG C s = l := ⟨_, rfl⟩
   obtain ⟨FA, hFA⟩ : ∃ l, findR hitG ⟨C.mods, C.bl ++ [m], C.ex⟩ s = l := ⟨_, rfl⟩
   have hbll := blocks_len (hit := hitG) C s m
   have hblk := fun x => blocks (hit := hitG) C s m x
   have hal := found_le (C := ⟨C.mods, C.bl ++ [m], C.ex⟩) Hsub.out s
   have hbl8 := found_le Hsub.out s
   rw [hFB] at HVb hbr hbll hblk hbl8 ⊢
   rw [hFA] at HVa hbll hblk hal
   obtain ⟨NB, hNB⟩ : ∃ n, FB.length = n := ⟨_, rfl⟩
   rw [hNB] at HVb hbll hbl8 ⊢
   have HFB := Lib.hid hFB
   have HFA := Lib.hid hFA
   have HNB := Lib.hid hNB
   have HBr := Lib.hid hbr
   have Hblk := Lib.hid hblk
   have HInd := Lib.hid (show ∀ (z : Tx), ∀ W, Kp [] W14 W → Calls Tryd.prog 19 #[va, .string (bs z)] W (fun e w' => e = .returned (.bool (FA.contains z)) ∧ Kp [] W w') from fun z W h => in_any z (by omega) (HVa.out.kp h (by simp)))
   clear hFB hFA hNB hbr hblk
   go_wp2
   go_loopw [12] (fun s12 wx => ∃ i : Nat, i ≤ NB ∧ s12 = .int .i64 (i : Int) ∧ Hid (Kp [] W14 wx)) (fun s12 _ => NB - (intOf s12).toNat)
   case atStart => exact ⟨0, by omega, rfl, Lib.hid (Kp.refl [] W14)⟩
   case round =>
    clear hKw
    obtain ⟨i, hi2, rfl, hKw⟩ := hrel
    by_cases hltb : i < NB
    ·have hiz2 : (i : Int) < (NB : Int) := by omega
     obtain ⟨z, hz⟩ : ∃ z, FB[i]? = some z := ⟨_, List.getElem?_eq_getElem (by rw [HNB.out]; exact hltb)⟩
     obtain ⟨g, o, rfl, hgl, _, hr⟩ := HBr.out (fun h => by rw [h] at hz; simp at hz)
     have HZ := Lib.hid (show ∀ V, Kp [] W14 V → V.cell? ⟨g, o + i, none⟩ = some (.string (bs z)) from fun V hV => st_cell (hr.keep (((Hk12.out.trans Hk14.out).trans hV).block g hgl (by simp))) hz)
     have hcon := Hblk.out z (List.mem_of_getElem? hz)
     have HIn := Lib.hid (HInd.out z)
     have hbq := bs_eq z m
     rw [hcon, HBy.out] at HIn
     clear hz hr hcon
     cases hq : z == m with
     | false =>
      rw [hq] at hbq HIn
      rw [Bool.not_false, Bool.true_or] at HIn
      clear hq
      go_upto_region 16 with fail
      refine wp_region_held_drew (S := fun X => Kp [] wr X) (by kernel_rfl) ((Kp.refl [] wr).drew 1) (fun hHeld => ?_)
      generalize hwd : wr.drew = wd at *
      clear hwd
      refine wpAnyH_take (i := 0) (oi := ⟨some 74, .move (.tmp 11), 28, "law.go:113", #[], none⟩) (v := va) rfl (by kernel_rfl) (by kernel_rfl) (by kernel_rfl) (fun _ _ _ h => h) (Or.inl ⟨by rfl, fun w hSw => by (try dsimp only at hSw); go_simp⟩) hHeld ?_
      try simp only [Act.put, List.setIfInBounds_toArray, List.set_cons_zero, List.set_cons_succ]
      refine wpAnyH_take (i := 1) (oi := ⟨some 75, .move (.tmp 7), 28, "law.go:113", #[], none⟩) (v := .slice (some ⟨g, o, none⟩) NB bc) rfl (by kernel_rfl) (by kernel_rfl) (by kernel_rfl) (fun _ _ _ h => h) (Or.inl ⟨by rfl, fun w hSw => by (try dsimp only at hSw); go_simp⟩) hHeld ?_
      try simp only [Act.put, List.setIfInBounds_toArray, List.set_cons_zero, List.set_cons_succ]
      refine wpAnyH_take (i := 2) (oi := ⟨some 76, .move (.tmp 12), 3, "law.go:113", #[], none⟩) (v := .int .i64 (i : Int)) rfl (by kernel_rfl) (by kernel_rfl) (by kernel_rfl) (fun _ _ _ h => h) (Or.inl ⟨by rfl, fun w hSw => by (try dsimp only at hSw); go_simp⟩) hHeld ?_
      try simp only [Act.put, List.setIfInBounds_toArray, List.set_cons_zero, List.set_cons_succ]
      refine wpAnyH_take (i := 3) (oi := ⟨some 77, .indexAddr 28 (.tmp 75) (.tmp 76), 0, "law.go:113", #[⟨1, .data⟩, ⟨2, .data⟩], none⟩) (v := .pointer (some ⟨g, o + i, none⟩)) rfl (by kernel_rfl) (by kernel_rfl) (by kernel_rfl) (fun _ _ _ h => h) (Or.inl ⟨by rfl, fun w hSw => by (try dsimp only at hSw); go_simp⟩) hHeld ?_
      try simp only [Act.put, List.setIfInBounds_toArray, List.set_cons_zero, List.set_cons_succ]
      refine wpAnyH_take (i := 4) (oi := ⟨some 78, .load 9 (.tmp 77), 9, "law.go:113", #[⟨3, .data⟩], none⟩) (v := .string (bs z)) rfl (by kernel_rfl) (by kernel_rfl) (by kernel_rfl) (fun _ _ _ h => h) (Or.inl ⟨by rfl, fun w hSw => by (try dsimp only at hSw); have t1 := HZ.out _ (hKw.out.trans hSw); go_simp⟩) hHeld ?_
      try simp only [Act.put, List.setIfInBounds_toArray, List.set_cons_zero, List.set_cons_succ]
      refine wpAnyH_take (i := 6) (oi := ⟨some 80, .move (.tmp 7), 28, "law.go:113", #[], none⟩) (v := .slice (some ⟨g, o, none⟩) NB bc) rfl (by kernel_rfl) (by kernel_rfl) (by kernel_rfl) (fun _ _ _ h => h) (Or.inl ⟨by rfl, fun w hSw => by (try dsimp only at hSw); go_simp⟩) hHeld ?_
      try simp only [Act.put, List.setIfInBounds_toArray, List.set_cons_zero, List.set_cons_succ]
      refine wpAnyH_take (i := 7) (oi := ⟨some 81, .move (.tmp 12), 3, "law.go:113", #[], none⟩) (v := .int .i64 (i : Int)) rfl (by kernel_rfl) (by kernel_rfl) (by kernel_rfl) (fun _ _ _ h => h) (Or.inl ⟨by rfl, fun w hSw => by (try dsimp only at hSw); go_simp⟩) hHeld ?_
      try simp only [Act.put, List.setIfInBounds_toArray, List.set_cons_zero, List.set_cons_succ]
      refine wpAnyH_take (i := 8) (oi := ⟨some 82, .indexAddr 28 (.tmp 80) (.tmp 81), 0, "law.go:113", #[⟨6, .data⟩, ⟨7, .data⟩], none⟩) (v := .pointer (some ⟨g, o + i, none⟩)) rfl (by kernel_rfl) (by kernel_rfl) (by kernel_rfl) (fun _ _ _ h => h) (Or.inl ⟨by rfl, fun w hSw => by (try dsimp only at hSw); go_simp⟩) hHeld ?_
      try simp only [Act.put, List.setIfInBounds_toArray, List.set_cons_zero, List.set_cons_succ]
      refine wpAnyH_take (i := 9) (oi := ⟨some 83, .load 9 (.tmp 82), 9, "law.go:113", #[⟨8, .data⟩], none⟩) (v := .string (bs z)) rfl (by kernel_rfl) (by kernel_rfl) (by kernel_rfl) (fun _ _ _ h => h) (Or.inl ⟨by rfl, fun w hSw => by (try dsimp only at hSw); have t1 := HZ.out _ (hKw.out.trans hSw); go_simp⟩) hHeld ?_
      try simp only [Act.put, List.setIfInBounds_toArray, List.set_cons_zero, List.set_cons_succ]
      refine wpAnyH_take (i := 10) (oi := ⟨some 84, .move (.tmp 6), 9, "law.go:113", #[], none⟩) (v := .string (bs m)) rfl (by kernel_rfl) (by kernel_rfl) (by kernel_rfl) (fun _ _ _ h => h) (Or.inl ⟨by rfl, fun w hSw => by (try dsimp only at hSw); go_simp⟩) hHeld ?_
      try simp only [Act.put, List.setIfInBounds_toArray, List.set_cons_zero, List.set_cons_succ]
      refine wpAnyH_take (i := 11) (oi := ⟨some 85, .binOp .neq 9 (.tmp 83) (.tmp 84) 9, 4, "law.go:113", #[⟨9, .data⟩, ⟨10, .data⟩], none⟩) (v := .bool true) rfl (by kernel_rfl) (by kernel_rfl) (by kernel_rfl) (fun _ _ _ h => h) (Or.inl ⟨by rfl, fun w hSw => by (try dsimp only at hSw); go_simp⟩) hHeld ?_
      try simp only [Act.put, List.setIfInBounds_toArray, List.set_cons_zero, List.set_cons_succ]
      refine wpAnyH_ready (rs := [5]) (by kernel_rfl) (by simp) ?_
      refine AllReadyH.cons (o := ⟨some 79, .call { callee := .value (.func 19), args := #[.tmp 74, .tmp 78], argTypes := #[28, 9] }, 4, "law.go:113", #[⟨0, .data⟩, ⟨4, .data⟩], none⟩) rfl (fun K hK => ?_) AllReadyH.nil
      go_simp
      go_at_call 19
      refine Calls.mono (by with_reducible exact HIn.out _ (hKw.out.trans hHeld)) ?_
      rintro e9 V1 ⟨rfl, hk7⟩
      dsimp only
      have hS := hHeld.trans hk7
      clear hHeld
      refine hK.out _ _ hS (fun hHeld => ?_)
      try simp only [Act.put, List.setIfInBounds_toArray, List.set_cons_zero, List.set_cons_succ]
      clear hK
      clear hS hk7
      refine wpAnyH_take (i := 12) (oi := ⟨some 86, .move (.tmp 85), 4, "law.go:113", #[⟨11, .data⟩, ⟨5, .chain⟩], none⟩) (v := .bool true) rfl (by kernel_rfl) (by kernel_rfl) (by kernel_rfl) (fun _ _ _ h => h) (Or.inl ⟨by rfl, fun w hSw => by (try dsimp only at hSw); go_simp⟩) hHeld ?_
      try simp only [Act.put, List.setIfInBounds_toArray, List.set_cons_zero, List.set_cons_succ]
      refine wpAnyH_take (i := 13) (oi := ⟨some 87, .move (.tmp 9), 4, "law.go:113", #[⟨12, .guard⟩], some (12, false)⟩) (v := undef) rfl (by kernel_rfl) (by kernel_rfl) (by kernel_rfl) (fun _ _ _ h => h) (Or.inr ⟨by rfl, rfl⟩) hHeld ?_
      try simp only [Act.put, List.setIfInBounds_toArray, List.set_cons_zero, List.set_cons_succ]
      refine wpAnyH_take (i := 14) (oi := ⟨some 88, .pick (.tmp 86) (.const (.bool true)) (.tmp 87), 4, "law.go:113", #[⟨12, .data⟩, ⟨13, .data⟩], none⟩) (v := .bool true) rfl (by kernel_rfl) (by kernel_rfl) (by kernel_rfl) (fun _ _ _ h => h) (Or.inl ⟨by rfl, fun w hSw => by (try dsimp only at hSw); go_simp⟩) hHeld ?_
      try simp only [Act.put, List.setIfInBounds_toArray, List.set_cons_zero, List.set_cons_succ]
      refine wpAnyH_take (i := 15) (oi := ⟨some 89, .binOp .neq 4 (.tmp 79) (.tmp 88) 4, 4, "law.go:113", #[⟨5, .data⟩, ⟨14, .data⟩], none⟩) (v := .bool false) rfl (by kernel_rfl) (by kernel_rfl) (by kernel_rfl) (fun _ _ _ h => h) (Or.inl ⟨by rfl, fun w hSw => by (try dsimp only at hSw); go_simp⟩) hHeld ?_
      try simp only [Act.put, List.setIfInBounds_toArray, List.set_cons_zero, List.set_cons_succ]
      have HK1 := Lib.hid (hKw.out.trans hHeld)
      refine wpAnyH_done (by kernel_rfl) ?_ _
      clear hHeld
      go_wp2
      refine ⟨⟨i + 1, by omega, by go_num, HK1⟩, by simp [intOf]; omega⟩
     | true =>
      rw [hq] at hbq HIn
      rw [Bool.not_true, Bool.false_or] at HIn
      clear hq
      go_upto_region 16 with fail
      refine wp_region_held_drew (S := fun X => Kp [] wr X) (by kernel_rfl) ((Kp.refl [] wr).drew 1) (fun hHeld => ?_)
      generalize hwd : wr.drew = wd at *
      clear hwd
      refine wpAnyH_take (i := 0) (oi := ⟨some 74, .move (.tmp 11), 28, "law.go:113", #[], none⟩) (v := va) rfl (by kernel_rfl) (by kernel_rfl) (by kernel_rfl) (fun _ _ _ h => h) (Or.inl ⟨by rfl, fun w hSw => by (try dsimp only at hSw); go_simp⟩) hHeld ?_
      try simp only [Act.put, List.setIfInBounds_toArray, List.set_cons_zero, List.set_cons_succ]
      refine wpAnyH_take (i := 1) (oi := ⟨some 75, .move (.tmp 7), 28, "law.go:113", #[], none⟩) (v := .slice (some ⟨g, o, none⟩) NB bc) rfl (by kernel_rfl) (by kernel_rfl) (by kernel_rfl) (fun _ _ _ h => h) (Or.inl ⟨by rfl, fun w hSw => by (try dsimp only at hSw); go_simp⟩) hHeld ?_
      try simp only [Act.put, List.setIfInBounds_toArray, List.set_cons_zero, List.set_cons_succ]
      refine wpAnyH_take (i := 2) (oi := ⟨some 76, .move (.tmp 12), 3, "law.go:113", #[], none⟩) (v := .int .i64 (i : Int)) rfl (by kernel_rfl) (by kernel_rfl) (by kernel_rfl) (fun _ _ _ h => h) (Or.inl ⟨by rfl, fun w hSw => by (try dsimp only at hSw); go_simp⟩) hHeld ?_
      try simp only [Act.put, List.setIfInBounds_toArray, List.set_cons_zero, List.set_cons_succ]
      refine wpAnyH_take (i := 3) (oi := ⟨some 77, .indexAddr 28 (.tmp 75) (.tmp 76), 0, "law.go:113", #[⟨1, .data⟩, ⟨2, .data⟩], none⟩) (v := .pointer (some ⟨g, o + i, none⟩)) rfl (by kernel_rfl) (by kernel_rfl) (by kernel_rfl) (fun _ _ _ h => h) (Or.inl ⟨by rfl, fun w hSw => by (try dsimp only at hSw); go_simp⟩) hHeld ?_
      try simp only [Act.put, List.setIfInBounds_toArray, List.set_cons_zero, List.set_cons_succ]
      refine wpAnyH_take (i := 4) (oi := ⟨some 78, .load 9 (.tmp 77), 9, "law.go:113", #[⟨3, .data⟩], none⟩) (v := .string (bs z)) rfl (by kernel_rfl) (by kernel_rfl) (by kernel_rfl) (fun _ _ _ h => h) (Or.inl ⟨by rfl, fun w hSw => by (try dsimp only at hSw); have t1 := HZ.out _ (hKw.out.trans hSw); go_simp⟩) hHeld ?_
      try simp only [Act.put, List.setIfInBounds_toArray, List.set_cons_zero, List.set_cons_succ]
      refine wpAnyH_take (i := 6) (oi := ⟨some 80, .move (.tmp 7), 28, "law.go:113", #[], none⟩) (v := .slice (some ⟨g, o, none⟩) NB bc) rfl (by kernel_rfl) (by kernel_rfl) (by kernel_rfl) (fun _ _ _ h => h) (Or.inl ⟨by rfl, fun w hSw => by (try dsimp only at hSw); go_simp⟩) hHeld ?_
      try simp only [Act.put, List.setIfInBounds_toArray, List.set_cons_zero, List.set_cons_succ]
      refine wpAnyH_take (i := 7) (oi := ⟨some 81, .move (.tmp 12), 3, "law.go:113", #[], none⟩) (v := .int .i64 (i : Int)) rfl (by kernel_rfl) (by kernel_rfl) (by kernel_rfl) (fun _ _ _ h => h) (Or.inl ⟨by rfl, fun w hSw => by (try dsimp only at hSw); go_simp⟩) hHeld ?_
      try simp only [Act.put, List.setIfInBounds_toArray, List.set_cons_zero, List.set_cons_succ]
      refine wpAnyH_take (i := 8) (oi := ⟨some 82, .indexAddr 28 (.tmp 80) (.tmp 81), 0, "law.go:113", #[⟨6, .data⟩, ⟨7, .data⟩], none⟩) (v := .pointer (some ⟨g, o + i, none⟩)) rfl (by kernel_rfl) (by kernel_rfl) (by kernel_rfl) (fun _ _ _ h => h) (Or.inl ⟨by rfl, fun w hSw => by (try dsimp only at hSw); go_simp⟩) hHeld ?_
      try simp only [Act.put, List.setIfInBounds_toArray, List.set_cons_zero, List.set_cons_succ]
      refine wpAnyH_take (i := 9) (oi := ⟨some 83, .load 9 (.tmp 82), 9, "law.go:113", #[⟨8, .data⟩], none⟩) (v := .string (bs z)) rfl (by kernel_rfl) (by kernel_rfl) (by kernel_rfl) (fun _ _ _ h => h) (Or.inl ⟨by rfl, fun w hSw => by (try dsimp only at hSw); have t1 := HZ.out _ (hKw.out.trans hSw); go_simp⟩) hHeld ?_
      try simp only [Act.put, List.setIfInBounds_toArray, List.set_cons_zero, List.set_cons_succ]
      refine wpAnyH_take (i := 10) (oi := ⟨some 84, .move (.tmp 6), 9, "law.go:113", #[], none⟩) (v := .string (bs m)) rfl (by kernel_rfl) (by kernel_rfl) (by kernel_rfl) (fun _ _ _ h => h) (Or.inl ⟨by rfl, fun w hSw => by (try dsimp only at hSw); go_simp⟩) hHeld ?_
      try simp only [Act.put, List.setIfInBounds_toArray, List.set_cons_zero, List.set_cons_succ]
      refine wpAnyH_take (i := 11) (oi := ⟨some 85, .binOp .neq 9 (.tmp 83) (.tmp 84) 9, 4, "law.go:113", #[⟨9, .data⟩, ⟨10, .data⟩], none⟩) (v := .bool false) rfl (by kernel_rfl) (by kernel_rfl) (by kernel_rfl) (fun _ _ _ h => h) (Or.inl ⟨by rfl, fun w hSw => by (try dsimp only at hSw); go_simp⟩) hHeld ?_
      try simp only [Act.put, List.setIfInBounds_toArray, List.set_cons_zero, List.set_cons_succ]
      refine wpAnyH_ready (rs := [5]) (by kernel_rfl) (by simp) ?_
      refine AllReadyH.cons (o := ⟨some 79, .call { callee := .value (.func 19), args := #[.tmp 74, .tmp 78], argTypes := #[28, 9] }, 4, "law.go:113", #[⟨0, .data⟩, ⟨4, .data⟩], none⟩) rfl (fun K hK => ?_) AllReadyH.nil
      go_simp
      go_at_call 19
      refine Calls.mono (by with_reducible exact HIn.out _ (hKw.out.trans hHeld)) ?_
      rintro e9 V1 ⟨rfl, hk7⟩
      dsimp only
      have hS := hHeld.trans hk7
      clear hHeld
      refine hK.out _ _ hS (fun hHeld => ?_)
      try simp only [Act.put, List.setIfInBounds_toArray, List.set_cons_zero, List.set_cons_succ]
      clear hK
      clear hS hk7
      refine wpAnyH_take (i := 12) (oi := ⟨some 86, .move (.tmp 85), 4, "law.go:113", #[⟨11, .data⟩, ⟨5, .chain⟩], none⟩) (v := .bool false) rfl (by kernel_rfl) (by kernel_rfl) (by kernel_rfl) (fun _ _ _ h => h) (Or.inl ⟨by rfl, fun w hSw => by (try dsimp only at hSw); go_simp⟩) hHeld ?_
      try simp only [Act.put, List.setIfInBounds_toArray, List.set_cons_zero, List.set_cons_succ]
      refine wpAnyH_take (i := 13) (oi := ⟨some 87, .move (.tmp 9), 4, "law.go:113", #[⟨12, .guard⟩], some (12, false)⟩) (v := .bool b) rfl (by kernel_rfl) (by kernel_rfl) (by kernel_rfl) (fun _ _ _ h => h) (Or.inl ⟨by rfl, fun w hSw => by (try dsimp only at hSw); go_simp⟩) hHeld ?_
      try simp only [Act.put, List.setIfInBounds_toArray, List.set_cons_zero, List.set_cons_succ]
      refine wpAnyH_take (i := 14) (oi := ⟨some 88, .pick (.tmp 86) (.const (.bool true)) (.tmp 87), 4, "law.go:113", #[⟨12, .data⟩, ⟨13, .data⟩], none⟩) (v := .bool b) rfl (by kernel_rfl) (by kernel_rfl) (by kernel_rfl) (fun _ _ _ h => h) (Or.inl ⟨by rfl, fun w hSw => by (try dsimp only at hSw); go_simp⟩) hHeld ?_
      try simp only [Act.put, List.setIfInBounds_toArray, List.set_cons_zero, List.set_cons_succ]
      refine wpAnyH_take (i := 15) (oi := ⟨some 89, .binOp .neq 4 (.tmp 79) (.tmp 88) 4, 4, "law.go:113", #[⟨5, .data⟩, ⟨14, .data⟩], none⟩) (v := .bool false) rfl (by kernel_rfl) (by kernel_rfl) (by kernel_rfl) (fun _ _ _ h => h) (Or.inl ⟨by rfl, fun w hSw => by (try dsimp only at hSw); go_simp⟩) hHeld ?_
      try simp only [Act.put, List.setIfInBounds_toArray, List.set_cons_zero, List.set_cons_succ]
      have HK1 := Lib.hid (hKw.out.trans hHeld)
      refine wpAnyH_done (by kernel_rfl) ?_ _
      clear hHeld
      go_wp2
      refine ⟨⟨i + 1, by omega, by go_num, HK1⟩, by simp [intOf]; omega⟩
    ·have hiz2 : ¬ ((i : Int) < (NB : Int)) := by omega
     have HKr := Lib.hid (HK14.out.trans (hKw.out.mono (by simp)))
     have Hmo := Lib.hid (module_any m (by have := HSz.out; omega) (Hat3.out.ms.kp HKr.out (by have := HW1s.out; simp; omega)))
     obtain ⟨kx, hkx⟩ : ∃ b, (modN C.mods m).isSome = b := ⟨_, rfl⟩
     have Hmo2 := Lib.hid (show Calls Tryd.prog 21 #[mv, .string (bs m)] wr (fun e w' => (∃ x : Me, e = .returned (.tuple #[.agg (meC x), .bool kx])) ∧ Kp [] wr w') from Hmo.out.mono fun e w' h => by
      obtain ⟨⟨x, _, h1⟩, h2⟩ := h
      rw [← Hat3.out.eq, hkx] at h1
      exact ⟨⟨x, h1⟩, h2⟩)
     have e0 : wr.cell? ⟨c4, 0, none⟩ = some mv := by rw [cell_of_row _ _ _ _ _ _ (Hld.out wr HKr.out)]; rfl
     have Hkx := Lib.hid hkx
     clear Hmo hkx HInd HBr
     go_wp2_with fail
     refine Calls.mono (by with_reducible exact Hmo2.out) ?_
     rintro e9 W16 ⟨⟨xm, rfl⟩, hk16⟩
     obtain ⟨R17, hR17⟩ : ∃ r, W16.heap.size = r := ⟨_, rfl⟩
     obtain ⟨W17, hW17⟩ : ∃ X, W16.alloc (.cells (meC xm) 51) = X := ⟨_, rfl⟩
     have hk17 : Kp [] W16 W17 := by rw [← hW17]; exact (Kp.refl [] _).alloc _
     have hk1417 : Kp [] W14 W17 := hKw.out.trans (hk16.trans hk17)
     have HK17 := Lib.hid (HK14.out.trans (hk1417.mono (by simp)))
     have HRd17 := Lib.hid (HRd12.out W17 (Hk14.out.trans hk1417))
     have HLd17 := Lib.hid (Hld.out W17 HK17.out)
     have HOm := Lib.hid (meC_one xm)
     have HR17 := Lib.hid hR17
     have HW17 := Lib.hid hW17
     have Hk1417 := Lib.hid hk1417
     clear e0 Hmo2 hk16 hk17 hR17 hW17 hk1417
     go_upto_region 19 with (refine Gl.wpList_store_new W16 51 _ (meC xm) rfl _ _ rfl rfl rfl info51b rfl HOm.out ?_)
     rw [HR17.out, HW17.out]
     try simp only [Act.put]
     go_upto_region 20 with (first | (refine wpList_load_row rfl 31 _ rfl c4 rfl 31 (cfV mv bv ov kv xv) _ _ HLd17.out Tryd.underlying31 rfl Hinf.out ?_) | (refine wpList_store_row rfl 31 _ _ rfl d (cfV mv bv ov kv xv) rfl rfl 31 (cfV mv (.slice a11 n11 c11) ov kv xv) HRd17.out info31b rfl Hone.out ?_))
     try simp only [Act.put]
     obtain ⟨W18, hW18⟩ : ∃ X, W17.setRow d (cfV mv bv ov kv xv) = X := ⟨_, rfl⟩
     have hr18 : W18.heap[d]? = some (.cells (cfV mv bv ov kv xv) 31 (0, 0)) := by rw [← hW18]; exact setRow_heap _ _ _ _ _ _ HRd17.out
     have hkd18 : Kp [d] W14 W18 := by rw [← hW18]; exact (Hk1417.out.mono (by simp)).setRow (.inl (by simp)) _
     have hk18 : Kp [] W7 W18 := by rw [← hW18]; exact ((Hk12.out.trans Hk14.out).trans Hk1417.out).setRow (.inr (by have := Hd.out; omega)) _
     rw [hW18]
     have hK18 : Kp [tb] W3 W18 := HK7.out.trans (hk18.mono (by simp))
     have Hat18 := Lib.hid (Hat3.out.kp hK18 (by have := HW1s.out; simp; omega))
     have HK18 := Lib.hid hK18
     have Hkd18 := Lib.hid hkd18
     have Hk18 := Lib.hid hk18
     have Hr18 := Lib.hid hr18
     have Hln2 := Lib.hid (show ([] : List (Tx × Tx)).length + C.ex.length ≤ 1000000 from by have := Hex.out; rw [List.length_nil]; omega)
     clear hW18 hr18 hkd18 hk18 hK18 HRd17 HLd17 HOm HR17 HW17 Hk1417
     have e0 : W18.cell? ⟨c4, 4, none⟩ = some xv := by rw [cell_of_row _ _ _ _ _ _ (Hld.out W18 HK18.out)]; rfl
     go_upto_region 21 with (first
      | (refine wpList_append_has (r := atT) rfl _ _ rfl W18.heap.size (.slice none 0 0) xv [] C.ex rfl (RT.Own.nil _ _ _) rfl Hat18.out.ex.1 Hln2.out (Nat.le_refl _) ?_; intro v19 W19 hown hgr; have HO19 := Lib.hid hown; have HK19 := Lib.hid (show Kp [] W18 W19 from kp_grownS (Kp.refl [] _) hgr (fun b hb => by cases hb)); clear hown hgr; obtain ⟨R20, hR20⟩ : ∃ R, W19.heap.size = R := ⟨_, rfl⟩; obtain ⟨W20, hW20⟩ : ∃ X, W19.alloc (.cells #[.string ⟨#[42]⟩, .string (bs m)] 48) = X := ⟨_, rfl⟩; have hk20 : Kp [] W19 W20 := (by rw [← hW20]; exact (Kp.refl [] _).alloc _); have hr20 := heap_alloc_last W19 (.cells #[.string ⟨#[42]⟩, .string (bs m)] 48); rw [hR20, hW20] at hr20; have HM20 := Lib.hid hr20; have HK20 := Lib.hid (HK19.out.trans hk20); have HO20 := Lib.hid (HO19.out.kp0 hk20); have HR20 := Lib.hid hR20; have HW20 := Lib.hid hW20; clear hk20 hr20 hR20 hW20 HO19)
      | (rw [HR20.out, HW20.out]; refine wpList_append_r (r := atT) rfl _ _ rfl W18.heap.size v19 ([] ++ C.ex) rfl HO20.out R20 1 ([42], m) rfl (row_cellS HM20.out rfl) (by have := Hln2.out; rw [List.length_append]; exact this) HK20.out.size ?_; intro v21 W21 hown hgr; have HO21 := Lib.hid hown; have HK21 := Lib.hid (show Kp [] W18 W21 from kp_grownS HK20.out hgr (fun b hb => (HO20.out.ge b hb).1)); have hvf := hown.form; clear hown hgr; obtain ⟨a21, c21, hvf⟩ := hvf; obtain ⟨n21, hn21⟩ : ∃ n, ([] ++ C.ex ++ [(([42], m) : Tx × Tx)]).length = n := ⟨_, rfl⟩; rw [hn21] at hvf; subst hvf; clear hn21; have hrd := (HK21.out.block d (block_lt Hr18.out) (by simp)).trans Hr18.out; have e1 : W21.cell? ⟨d, 4, none⟩ = some xv := (by rw [cell_of_row _ _ _ _ _ _ hrd]; rfl); have e2 : W21.frozen? ⟨d, 4, none⟩ = false := (by simp [World.frozen?, hrd])))
     try simp only [Act.put]
     clear e0 e1 e2 HM20 HO20 HR20 HW20 HK20 HK19 Hln2
     obtain ⟨W22, hW22⟩ : ∃ X, W21.setCell ⟨d, 4, none⟩ (.slice a21 n21 c21) = X := ⟨_, rfl⟩
     have hr22 : W22.heap[d]? = some (.cells (cfV mv bv ov kv (.slice a21 n21 c21)) 31 (0, 0)) := by rw [← hW22]; exact setCell_box hrd 4 _
     have hdW18 := block_lt Hr18.out
     have hkd22 : Kp [d] W14 W22 := by rw [← hW22]; exact (Hkd18.out.trans (HK21.out.mono (by simp))).setCell (p := ⟨d, 4, none⟩) (.inl (by simp)) _
     have hk22 : Kp [] W7 W22 := by rw [← hW22]; exact (Hk18.out.trans HK21.out).setCell (p := ⟨d, 4, none⟩) (.inr (by have := Hd.out; simp; omega)) _
     have hO22 : atT.Own W22 W18.heap.size (.slice a21 n21 c21) ([] ++ C.ex ++ [([42], m)]) := by rw [← hW22]; exact HO21.out.set (p := ⟨d, 4, none⟩) (fun b hb => by have := (HO21.out.ge b hb).1; simp; omega) _
     rw [hW22]
     have hK22 : Kp [tb] W3 W22 := HK7.out.trans (hk22.mono (by simp))
     have hA18 : W1.heap.size ≤ W18.heap.size := Nat.le_trans HK13.out.size HK18.out.size
     have hat22 : CAt W1.heap.size W22 mv bv (.slice a21 n21 c21) l ⟨C.mods, C.bl, C.ex ++ [([42], m)]⟩ := by
      have h9 := Hat3.out.kp hK22 (by have := HW1s.out; simp; omega)
      rw [List.nil_append] at hO22
      exact ⟨h9.ms, h9.eq, h9.bl, hO22.hasB hA18⟩
     have hty2 := sub_ty (C := ⟨C.mods, C.bl, C.ex ++ [([42], m)]⟩) Hsub.out (by have := Hbl.out; show C.bl.length ≤ 1000; omega) (by have := Hex.out; simp; omega) (fun t ht => Nat.le_trans (Hbs.out t ht) (by omega)) (fun t ht => by
      rcases List.mem_append.1 ht with h | h
      ·exact ⟨Nat.le_trans (Hxs.out t h).1 (by omega), Nat.le_trans (Hxs.out t h).2 (by omega)⟩
      ·rw [List.mem_singleton.1 h]; exact ⟨by show (1 : Nat) ≤ 1000; omega, by show m.length ≤ 1000; omega⟩)
     have HFm := Lib.hid (find_any (ov := ov) (kv := kv) s (by omega) hat22 hty2 (HTW.out W22 hK22))
     unfold IFPost at HFm
     have HLd22 := Lib.hid hr22
     have HK22 := Lib.hid hK22
     have hVa22 := HVa.out.kp hkd22 (by have := Hd13.out; simpa using this)
     obtain ⟨aa, ac, rfl, _⟩ := hVa22.form
     obtain ⟨NA, hNA⟩ : ∃ n, FA.length = n := ⟨_, rfl⟩
     rw [hNA] at hbll ⊢
     clear hW22 hr22 hrd hdW18 hkd22 hk22 hO22 hK22 hA18 hat22 hty2 HO21 HK21 Hr18 Hk18 Hkd18 hVa22 hNA HVa HVb HRd12
     go_wp2_with (refine wpList_load_row rfl 31 _ rfl d rfl 31 (cfV mv bv ov kv (.slice a21 n21 c21)) _ _ HLd22.out Tryd.underlying31 rfl Hinf.out ?_)
     refine Calls.mono (by with_reducible exact HFm.out) ?_
     rintro e9 W23 ⟨vm, hvm, rfl, hk23⟩
     have HK23 := Lib.hid (HK22.out.trans (hk23.mono (by simp)))
     have hmm := more_mem (hit := hitG) C s m [42] (star_any HSt.out)
     have hml2 := more_len (hit := hitG) C s m [42]
     have hm8 := found_le (C := ⟨C.mods, C.bl, C.ex ++ [([42], m)]⟩) Hsub.out s
     obtain ⟨FM, hFM⟩ : ∃ l, findR hitG ⟨C.mods, C.bl, C.ex ++ [([42], m)]⟩ s = l := ⟨_, rfl⟩
     rw [hFM] at hvm hmm hml2 hm8
     rw [HFB.out, HNB.out] at hml2
     rw [Hkx.out] at hmm
     have HIm := Lib.hid (in_any m (by omega) hvm.out)
     rw [hmm] at HIm
     obtain ⟨ma, mc, rfl, _⟩ := hvm.out.form
     obtain ⟨NM, hNM⟩ : ∃ n, FM.length = n := ⟨_, rfl⟩
     rw [hNM] at HIm hml2 hm8 ⊢
     have hle1 : (NA : Int) ≤ (NB : Int) := by omega
     have hle2 : (NM : Int) ≤ (NB : Int) + 1 := by omega
     clear hk23 HFm HLd22 hvm hmm hFM hNM
     cases kx with
     | false =>
      rw [Bool.false_and] at HIm
      go_wp2_with fail
      refine Calls.mono (by with_reducible exact HIm.out) ?_
      rintro e9 W24 ⟨rfl, hk24⟩
      have HK24 := Lib.hid (HK23.out.trans (hk24.mono (by simp)))
      clear hk24
      go_wp2_with fail
      refine Calls.mono (by with_reducible exact HKn.out _ (HTW.out W24 HK24.out)) ?_
      rintro e9 W25 ⟨rfl, hk25⟩
      have HK25 := Lib.hid (HK24.out.trans (hk25.mono (by simp)))
      clear hk25
      go_wp2
      go_ret
      exact ⟨rfl, kp_bel ((Hk1.out.mono (by simp)).trans (HK13.out.trans HK25.out)) (by have := Htb.out; omega)⟩
     | true =>
      rw [Bool.true_and] at HIm
      cases hse : s.isEmpty with
      | true =>
       have hte2 : (bs s).toList = [] := by rw [toL]; exact List.isEmpty_iff.1 hse
       have hte3 : (bs s).toList.isEmpty = true := by rw [toL]; exact hse
       rw [hse, Bool.not_true] at HIm
       clear hse
       go_wp2_with fail
       refine Calls.mono (by with_reducible exact HIm.out) ?_
       rintro e9 W24 ⟨rfl, hk24⟩
       have HK24 := Lib.hid (HK23.out.trans (hk24.mono (by simp)))
       clear hk24
       go_wp2_with fail
       refine Calls.mono (by with_reducible exact HKn.out _ (HTW.out W24 HK24.out)) ?_
       rintro e9 W25 ⟨rfl, hk25⟩
       have HK25 := Lib.hid (HK24.out.trans (hk25.mono (by simp)))
       clear hk25
       go_wp2
       go_ret
       exact ⟨rfl, kp_bel ((Hk1.out.mono (by simp)).trans (HK13.out.trans HK25.out)) (by have := Htb.out; omega)⟩
      | false =>
       have hte2 : ¬ ((bs s).toList = []) := fun h => by rw [toL] at h; rw [h] at hse; simp at hse
       have hte3 : (bs s).toList.isEmpty = false := by rw [toL]; exact hse
       rw [hse, Bool.not_false] at HIm
       clear hse
       go_wp2_with fail
       refine Calls.mono (by with_reducible exact HIm.out) ?_
       rintro e9 W24 ⟨rfl, hk24⟩
       have HK24 := Lib.hid (HK23.out.trans (hk24.mono (by simp)))
       clear hk24
       go_wp2_with fail
       refine Calls.mono (by with_reducible exact HKn.out _ (HTW.out W24 HK24.out)) ?_
       rintro e9 W25 ⟨rfl, hk25⟩
       have HK25 := Lib.hid (HK24.out.trans (hk25.mono (by simp)))
       clear hk25
       go_wp2
       go_ret
       exact ⟨rfl, kp_bel ((Hk1.out.mono (by simp)).trans (HK13.out.trans HK25.out)) (by have := Htb.out; omega)⟩
end Go.Proofs.YtdlchlbngojljaaDoor
