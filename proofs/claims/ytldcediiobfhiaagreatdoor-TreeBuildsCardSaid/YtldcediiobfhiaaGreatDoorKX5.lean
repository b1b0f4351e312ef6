/- Node of the reference. What is found, as the law compares it. -/
import Derived.Test.YtldcediiobfhiaaGreatDoorKX3
import Derived.Test.YtldcediiobfhiaaGreatDoorKRf
import Derived.Test.YtldcediiobfhiaaGreatDoorKX2
import Derived.Test.YtldcediiobfhiaaGreatDoorKX4
import Derived.Test.YtldcediiobfhiaaGreatDoorKV8
import Derived.Test.YtldcediiobfhiaaGreatDoorKX1
namespace Go.Proofs.YtldcediiobfhiaaGreatDoor
open Go.RowKit
def ndP (o : ByteArray) (x : De.DV) : Bool := De.bN x.1 && ((De.kN x.1).toList == o.toList)
set_option maxHeartbeats 2000000 in
set_option maxRecDepth 100000 in
theorem refNodeAt_any (sv : Value) (l : List De.DV) (o : ByteArray) (w : World) (hl : l.length ≤ 100000) (h : De.DHas w sv l) (ho : ∀ x ∈ l, x.1.orig.size < 4294967281) (hm : De.Max w) :
  Calls Tryz.prog 29 #[.agg #[sv], .string o] w (De.RefPost (l.find? (ndP o)) w) := by
 obtain ⟨a, c, hsv, hrow⟩ := h.form
 obtain ⟨N, hN⟩ : ∃ N, l.length = N := ⟨_, rfl⟩
 rw [hN] at hsv hl
 obtain ⟨Bz, hBz⟩ : ∃ Bz, w.heap.size = Bz := ⟨_, rfl⟩
 subst hsv
 obtain ⟨W0, hW0⟩ : ∃ W0, (w.alloc (.cells #[.slice a N c] 29)).alloc (.cells De.zeroC 34) = W0 := ⟨_, rfl⟩
 have hs1 : (w.alloc (.cells #[.slice a N c] 29)).heap.size = Bz + 1 := by rw [World.size_alloc, hBz]
 have h1 : W0.heap[Bz + 1]? = some (.cells De.zeroC 34 (0, 0)) := by
  have := heap_alloc2_new w (.cells #[.slice a N c] 29) (.cells De.zeroC 34)
  rw [hBz, hW0] at this
  exact this
 have h0 : W0.heap[Bz]? = some (.cells #[.slice a N c] 29 (0, 0)) := by rw [← hW0, ← hBz]; exact heap_alloc2_old w _ _
 have hk0 : Kp [] w W0 := by rw [← hW0]; exact ((Kp.refl [] w).alloc _).alloc _
 have H1 := Lib.hid (fun W (hk : Kp [] W0 W) => (hk.block (Bz + 1) (block_lt h1) (by simp)).trans h1)
 have H0 := Lib.hid (fun W (hk : Kp [] W0 W) => cell_one ((hk.block Bz (block_lt h0) (by simp)).trans h0))
 have HK0 := Lib.hid hk0
 have HRow := Lib.hid hrow
 have HN := Lib.hid hN
 have HO := Lib.hid ho
 have HM := Lib.hid hm
 have Hwz := Lib.hid (show w.heap.size ≤ Bz + 1 by omega)
 clear h1 h0 h hs1 hk0 hrow ho hm
 unfold De.zeroC at hW0
 go_enter Tryz.func29, Tryz.ntmps29
 go_wp2
 go_loopw [6] (fun s6 wx => ∃ i : Nat, i ≤ N ∧ s6 = .int .i64 (i : Int) ∧ (∀ (k : Nat) x, k < i → l[k]? = some x → ndP o x = false) ∧ Kp [] W0 wx) (fun s6 _ => N - (intOf s6).toNat)
 case atStart => exact ⟨0, by omega, rfl, fun k x hk => absurd hk (Nat.not_lt_zero _), Kp.refl [] _⟩
 case round =>
  obtain ⟨i, hi, rfl, hinv, hkx⟩ := hrel
  have HI := Lib.hid hinv
  have HKx := Lib.hid hkx
  have t0 := H0.out _ hkx
  clear hinv hkx
  by_cases hlt : i < N
  ·have hiz : (i : Int) < (N : Int) := by omega
   obtain ⟨x, hx⟩ : ∃ x, l[i]? = some x := ⟨l[i]'(by rw [HN.out]; exact hlt), List.getElem?_eq_getElem _⟩
   obtain ⟨g, o', rfl, hcap, hg, hr⟩ := HRow.out (fun e => by rw [e] at hx; simp at hx)
   have HRa := Lib.hid (show ∀ W, Kp [] W0 W → W.rangeAt g (o' + i * 10) (De.dvC x.1 x.2) from fun W hk => (hr.below hg (HK0.out.trans hk).bel).at_ i x hx)
   have HX := Lib.hid hx
   have HH := Lib.hid (show De.Has w x.2 x.1.ats from hr.ats x (List.mem_of_getElem? hx))
   have HI1 := Lib.hid (show (Tryz.prog.info? 34).map (·.size) = some (De.dvC x.1 x.2).length from De.info34b)
   have HI2 := Lib.hid (show (Tryz.prog.info? 34).map (·.size) = some (De.dvC x.1 x.2).toArray.size from De.info34b)
   have h1x := HH.out.one
   have Hst := Lib.hid (show (De.dvC x.1 x.2).toArray.all (·.oneCell') = true from by
    rw [Array.all_eq_true_iff_forall_mem]
    intro v hv
    exact De.dvC_one h1x v (by simpa using hv))
   obtain ⟨kv, hkv⟩ : ∃ kv, De.kN x.1 = kv := ⟨_, rfl⟩
   obtain ⟨bv, hbv⟩ : ∃ bv, De.bN x.1 = bv := ⟨_, rfl⟩
   have HC := Lib.hid (show ∀ W, Kp [] W0 W → Calls Tryz.prog 69 #[.agg (De.dvC x.1 x.2).toArray] W (fun e w' => e = .returned (.tuple #[.string kv, .bool bv]) ∧ Kp [] W0 w') from fun W hk => (show Calls Tryz.prog 69 #[.agg (De.dvC x.1 x.2).toArray] W (De.Bel (.tuple #[.string (De.kN x.1), .bool (De.bN x.1)]) W) from De.refNode_any (De.devOf x.1 x.2) W (HO.out x (List.mem_of_getElem? hx)) (HM.out.below (HK0.out.trans hk).bel)).mono fun e w' ⟨he, hb⟩ => ⟨by rw [he, hkv, hbv], hk.trans (Kp.of_below hb)⟩)
   have hat0 : ndP o x = (bv && (kv.toList == o.toList)) := by unfold ndP; rw [hkv, hbv]
   have HR0 := Lib.hid (HRa.out _ HKx.out)
   clear hx hr hg hcap h1x hkv hbv
   have hstep : ndP o x = false → ∀ (k : Nat) y, k < i + 1 → l[k]? = some y → ndP o y = false := fun hf k y hk hy => by
    by_cases e : k = i
    ·subst e
     have h1 := HX.out
     rw [h1] at hy
     cases hy
     exact hf
    ·exact HI.out k y (by omega) hy
   have Hstep := Lib.hid hstep
   clear hstep
   cases bv with
   | false =>
    have Hat := Lib.hid (show ndP o x = false from hat0)
    clear hat0
    go_wp2_with (first
     | (refine wpList_load_mid rfl 34 _ rfl g (o' + i * 10) rfl (De.dvC x.1 x.2) _ (by with_reducible exact HR0.out) Tryz.underlying34 rfl HI1.out ?_)
     | (go_at_call 69; refine Calls.mono (by with_reducible exact HC.out _ HKx.out) ?_; rintro e W1 ⟨rfl, hk1⟩; have HK1 := Lib.hid hk1; clear hk1))
    exact ⟨⟨i + 1, by omega, rfl, Hstep.out Hat.out, HK1.out⟩, by simp [intOf]; omega⟩
   | true =>
    cases hq : (kv.toList == o.toList) with
    | false =>
     have Hat := Lib.hid (show ndP o x = false by rw [hat0, hq]; rfl)
     clear hat0
     go_wp2_with (first
      | (refine wpList_load_mid rfl 34 _ rfl g (o' + i * 10) rfl (De.dvC x.1 x.2) _ (by with_reducible exact HR0.out) Tryz.underlying34 rfl HI1.out ?_)
      | (go_at_call 69; refine Calls.mono (by with_reducible exact HC.out _ HKx.out) ?_; rintro e W1 ⟨rfl, hk1⟩; have HK1 := Lib.hid hk1; clear hk1))
     exact ⟨⟨i + 1, by omega, rfl, Hstep.out Hat.out, HK1.out⟩, by simp [intOf]; omega⟩
    | true =>
     have HF := Lib.hid (show l.find? (ndP o) = some x from find_first HX.out (by rw [hat0, hq]; rfl) HI.out)
     clear hat0
     go_wp2_with (first
      | (refine wpList_load_mid rfl 34 _ rfl g (o' + i * 10) rfl (De.dvC x.1 x.2) _ (by with_reducible exact HR0.out) Tryz.underlying34 rfl HI1.out ?_)
      | (go_at_call 69; refine Calls.mono (by with_reducible exact HC.out _ HKx.out) ?_; rintro e W1 ⟨rfl, hk1⟩; have HK1 := Lib.hid hk1; have HR2 := Lib.hid (HRa.out _ hk1); have HR1 := Lib.hid (H1.out _ hk1); have t1 := H0.out _ hk1; clear hk1)
      | (refine wpList_load_mid rfl 34 _ rfl g (o' + i * 10) rfl (De.dvC x.1 x.2) _ (by with_reducible exact HR2.out) Tryz.underlying34 rfl HI1.out ?_)
      | (refine wpList_store_row rfl 34 _ _ rfl (Bz + 1) (De.dvC x.1 x.2).toArray rfl rfl 34 De.zeroC (by with_reducible exact HR1.out) HI2.out rfl Hst.out ?_))
     exact bodyPost_ret (v := .tuple #[De.devV (De.devOf x.1 x.2), .bool true]) (De.results_row_tmp rfl _ _ (Bz + 1) 34 (De.dvC x.1 x.2).toArray _ _ _ rfl rfl (setRow_heap _ _ _ _ _ _ HR1.out) Tryz.underlying34 rfl HI2.out) rfl ⟨((HK0.out.trans HK1.out).setRow (.inr Hwz.out) _).bel, by rw [HF.out]⟩
  ·obtain rfl : i = N := by omega
   have hiz : ¬ (i : Int) < (i : Int) := by omega
   have HF := Lib.hid (show l.find? (ndP o) = none from by
    rw [List.find?_eq_none]
    intro x hx e
    obtain ⟨k, hk⟩ := List.mem_iff_getElem?.1 hx
    rw [HI.out k x (by rw [← HN.out]; exact (List.getElem?_eq_some_iff.1 hk).1) hk] at e
    cases e)
   have HR1 := Lib.hid (H1.out _ HKx.out)
   go_wp2_with (refine wpList_store_row rfl 34 _ _ rfl (Bz + 1) De.zeroC rfl rfl 34 De.zeroC HR1.out De.info34b rfl De.zeroC_one ?_)
   exact bodyPost_ret (v := .tuple #[.agg De.zeroC, .bool false]) (De.results_row_tmp rfl _ _ (Bz + 1) 34 De.zeroC _ _ _ rfl rfl (setRow_heap _ _ _ _ _ _ HR1.out) Tryz.underlying34 rfl De.info34b) rfl ⟨((HK0.out.trans HKx.out).setRow (.inr Hwz.out) _).bel, by rw [HF.out]⟩
end Go.Proofs.YtldcediiobfhiaaGreatDoor
namespace Go.Proofs.YtldcediiobfhiaaGreatDoor
open Go.RowKit
def zeroA : De.ADev := ⟨0, 0, ⟨#[]⟩, ⟨#[]⟩, ⟨#[]⟩, ⟨#[]⟩, ⟨#[]⟩, 0, 0, []⟩
def valA (o : Option De.ADev) : De.ADev := o.getD zeroA
theorem found_form {o : Option De.DV} {oa : Option De.ADev} {w w' : World} {e : Ending} (ho : o.map (·.1) = oa) (h : De.FoundPost o w e w') : ∃ a n c, e = .returned (.tuple #[.agg (De.dvC (valA oa) (.slice a n c)).toArray, .bool oa.isSome]) ∧ De.Owns w' w.heap.size (.slice a n c) (valA oa).ats ∧ Kp [] w w' := by
 obtain ⟨hb, h⟩ := h
 subst ho
 cases o with
 | none => exact ⟨none, 0, 0, h, De.Owns.nil _ _, Kp.of_below hb⟩
 | some x =>
  obtain ⟨u, h1, h2⟩ := h
  rcases h2.form with ⟨rfl, hl⟩ | ⟨g, cap, rfl, -⟩
  ·exact ⟨_, _, _, h1, h2, Kp.of_below hb⟩
  ·exact ⟨_, _, _, h1, h2, Kp.of_below hb⟩
theorem ref_form {o : Option De.DV} {oa : Option De.ADev} {w0 w w' : World} {e : Ending} (ho : o.map (·.1) = oa) (h : De.RefPost o w e w') (hh : ∀ x, o = some x → De.Has w0 x.2 x.1.ats) : ∃ a n c, e = .returned (.tuple #[.agg (De.dvC (valA oa) (.slice a n c)).toArray, .bool oa.isSome]) ∧ De.Has w0 (.slice a n c) (valA oa).ats ∧ Kp [] w w' := by
 obtain ⟨hb, h⟩ := h
 subst ho
 cases o with
 | none => exact ⟨none, 0, 0, h, (De.Owns.nil w0 0).has, Kp.of_below hb⟩
 | some x =>
  have h2 := hh x rfl
  obtain ⟨a, c, hf, -⟩ := h2.form
  refine ⟨a, x.1.ats.length, c, ?_, ?_, Kp.of_below hb⟩
  ·rw [← hf]
   exact h
  ·rw [← hf]
   exact h2
theorem val_len {o : Option De.ADev} {h2 : Nat} (hz : h2 ≤ 9223372036854775807) (h : ∀ x, o = some x → x.ats.length ≤ h2) : (valA o).ats.length ≤ 9223372036854775807 := by
 cases o with
 | none => exact Nat.zero_le _
 | some x => exact Nat.le_trans (h x rfl) hz
theorem dhas_ats {W : World} {v : Value} {l : List De.DV} (h : De.DHas W v l) (x : De.DV) (hx : x ∈ l) : De.Has W x.2 x.1.ats := by
 rcases h with ⟨a, c, -, rfl⟩ | ⟨g, o, c, -, -, -, hr⟩
 ·cases hx
 ·exact hr.ats x hx
theorem kN_size (a : De.ADev) (h : a.orig.size ≤ 300) : (De.kN a).size ≤ 4611686018427387904 := by
 unfold De.kN
 cases De.hasN a.kind with
 | false => exact Nat.zero_le _
 | true =>
  have := De.nodeOf_size a.orig
  rw [if_pos rfl]
  omega
theorem sameD_self (a : De.ADev) (u v : Value) : De.sameD (De.devOf a u) a.ats (De.devOf a v) a.ats = true := by
 simp [De.sameD, De.devOf]
theorem dv_one (a : De.ADev) (x : Option Addr) (n c : Nat) : (De.dvC a (.slice x n c)).toArray.all (·.oneCell') = true := by
 rw [Array.all_eq_true_iff_forall_mem]
 intro v hv
 exact De.dvC_one rfl v (by simpa using hv)
/-- The origin of a device of a valid tree, as the reference has it. -/
theorem org_eq {L : List De.DV} (hv : De.Valid sndA clA (L.map (·.1))) {x : De.DV} (hx : x ∈ L) : De.pth (orgL L x.1.idx) = De.pth (De.org (L.map (·.1)) x.1) := by
 rw [trl_orig hv]
 have hm : x.1 ∈ L.map (·.1) := List.mem_map.2 ⟨x, hx, rfl⟩
 have hg := got_fnd hv.tidy x.1.idx
 obtain ⟨i, hi, hd⟩ := List.getElem_of_mem hm
 have hf := De.fnd_at hv.tidy.uniq (i := i) (d := x.1) (by rw [List.getElem?_eq_getElem hi, hd])
 rw [hf] at hg
 obtain ⟨y, hy, hyx⟩ := Option.map_eq_some_iff.1 hg
 have : De.trlO De.ADev.orig L x.1.idx = some (De.trlA De.ADev.orig L y.1) := by
  unfold De.trlO
  rw [hy]
  rfl
 rw [this]
 show De.trlA De.ADev.orig L y.1 = _
 rw [hyx]
 exact trlA_org hv hx
theorem got_bind (L : List De.DV) (q : Int) : ((De.lastI (L.map (·.1)) q).bind fun p => L[p]?).map (·.1) = (De.gotL L q).map (·.1) := by
 unfold De.gotL
 cases De.lastI (L.map (·.1)) q <;> rfl
theorem at_eq {L : List De.DV} (hv : De.Valid sndA clA (L.map (·.1))) (o : ByteArray) : (L.find? fun x => decide (De.pth (De.org (L.map (·.1)) x.1) = o.data.toList)) = L.find? (atP L o) :=
 find_congr fun x hx => by
  unfold atP
  rw [org_eq hv hx, str_bs, bs_data]
theorem if_eq {L : List De.DV} (hv : De.Valid sndA clA (L.map (·.1))) (o : ByteArray) : ((De.lastK De.kI De.bI (L.map (·.1)) o.data.toList).bind fun p => L[p]?) = L.find? (ifP o) := by
 rw [De.lastK_one]
 ·refine find_congr fun x hx => ?_
  unfold De.hitK ifP De.kI De.bI
  rw [str_bs]
 ·refine (hv.iface_one o).imp fun {a b} h => ?_
  rintro ⟨h1, h2⟩
  refine h ⟨?_, ?_⟩
  ·unfold De.hitK De.kI De.bI at h1
   rw [← str_dec, str_bs]
   exact h1
  ·unfold De.hitK De.kI De.bI at h2
   rw [← str_dec, str_bs]
   exact h2
theorem nd_eq {L : List De.DV} (hv : De.Valid sndA clA (L.map (·.1))) (o : ByteArray) : ((De.lastK De.kN De.bN (L.map (·.1)) o.data.toList).bind fun p => L[p]?) = L.find? (ndP o) := by
 rw [De.lastK_one]
 ·refine find_congr fun x hx => ?_
  unfold De.hitK ndP
  rw [str_bs]
 ·refine (De.Valid.node_one hv o.data.toList).imp fun {a b} h => ?_
  have key : ∀ a, De.hitK De.kN De.bN o.data.toList a = true → decide (nodA a = some o.data.toList) = true := fun a h => by
   unfold De.hitK De.kN De.bN at h
   unfold nodA
   cases hk : De.hasN a.kind with
   | false => rw [hk] at h; cases h
   | true =>
    rw [hk] at h
    simpa using h
  rintro ⟨h1, h2⟩
  exact h ⟨key a h1, key b h2⟩
theorem oneF {w : World} {tb k : Nat} (s : ByteArray) (hs : s.size ≤ 4611686018427387904) (hk : k ≤ 1000000) (h : Tp w tb k) (n : Nat) (hn : w.heap.size = n) : Calls Tryz.prog 20 #[.pointer (some ⟨tb, 0, none⟩), .slice (some ⟨n, 0, none⟩) 7 7] (w.alloc (.cells #[.string ⟨#[101, 116, 104, 48]⟩, .string ⟨#[101, 116, 104, 49]⟩, .string ⟨#[108, 97, 110, 48]⟩, .string ⟨#[115, 100, 97]⟩, .string ⟨#[99, 47, 100, 48]⟩, .string ⟨#[116, 116, 121, 48]⟩, .string s] 9)) fun e w' =>
  ∃ x : ByteArray, x.size ≤ 4611686018427387904 ∧ e = .returned (.string x) ∧ Tp w' tb (k + 1) ∧ Kp [tb] w w' := by
 subst hn
 have hal : Kp [] w (w.alloc (.cells #[.string ⟨#[101, 116, 104, 48]⟩, .string ⟨#[101, 116, 104, 49]⟩, .string ⟨#[108, 97, 110, 48]⟩, .string ⟨#[115, 100, 97]⟩, .string ⟨#[99, 47, 100, 48]⟩, .string ⟨#[116, 116, 121, 48]⟩, .string s] 9)) := (Kp.refl [] w).alloc _
 have hlt := h.lt
 refine (one_any (c := 7) [[101, 116, 104, 48], [101, 116, 104, 49], [108, 97, 110, 48], [115, 100, 97], [99, 47, 100, 48], [116, 116, 121, 48], s.data.toList] (Nat.succ_le_succ (Nat.zero_le 6)) (by simp) hk (h.kp hal (by simp)) (by omega) (by simp) (fun j x hj => ?_)).mono fun e w' ⟨x, hx, he, ht, hk2⟩ => ⟨bs x, ?_, he, ht, (hal.mono (by simp)).trans hk2⟩
 ·rw [cell_of_row _ _ j _ _ _ (heap_alloc_last w _)]
  have hj7 : j < 7 := (List.getElem?_eq_some_iff.1 hj).1
  rcases (show j = 0 ∨ j = 1 ∨ j = 2 ∨ j = 3 ∨ j = 4 ∨ j = 5 ∨ j = 6 by omega) with rfl | rfl | rfl | rfl | rfl | rfl | rfl
  all_goals
   simp only [List.getElem?_cons_zero, List.getElem?_cons_succ, Option.some.injEq] at hj
   subst hj
   rfl
 ·rw [bs_size]
  simp only [List.mem_cons, List.not_mem_nil, or_false] at hx
  rcases hx with rfl | rfl | rfl | rfl | rfl | rfl | rfl
  all_goals first | (simp; done) | exact hs
end Go.Proofs.YtldcediiobfhiaaGreatDoor
