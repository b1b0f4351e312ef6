/- Children. -/
import Derived.Test.YtldcediiobfhiaaGreatDoorKRr
import Derived.Test.YtldcediiobfhiaaGreatDoorKDx
namespace Go.Proofs.YtldcediiobfhiaaGreatDoor.De
open Go.RowKit
/-- A row of devices of its own, whose attributes lie in rows of their own. -/
structure COwn (W : World) (B : Nat) (v : Value) (l : List DV) : Prop where
 row : W.ownsRow B 34 10 v l.length (dvsC l)
 ats : ∀ x ∈ l, Owns W B x.2 x.1.ats
theorem COwn.nil (W : World) (B : Nat) : COwn W B (.slice none 0 0) [] := ⟨World.ownsRow_nil _ _ _ _, fun x hx => by cases hx⟩
theorem COwn.has {W : World} {B : Nat} {v : Value} {l : List DV} (h : COwn W B v l) : DHas W v l := DOwn.has ⟨h.row, fun x hx => (h.ats x hx).has⟩
theorem COwn.below {W W' : World} {B : Nat} {v : Value} {l : List DV} (h : COwn W B v l) (hb : Below W.heap.size W W') : COwn W' B v l :=
 ⟨(DOwn.keep (⟨h.row, fun x hx => (h.ats x hx).has⟩ : DOwn W B v l) hb).row, fun x hx => (h.ats x hx).below hb⟩
theorem COwn.push {W W' : World} {B L vc : Nat} {va : Option Addr} {l : List DV} {d : ADev} {u v3 : Value} (h : COwn W B (.slice va L vc) l) (hu : Owns W B u d.ats) (hL : l.length = L) (h3 : W'.ownsRow B 34 10 v3 (L + 1) (dvsC l ++ dvC d u)) (hg : (W.alloc (.cells (dvC d u).toArray 34)).grownBy W' (Value.slice va L vc).ownBlock) : COwn W' B v3 (l ++ [(d, u)]) := by
 have hk : ∀ (z : Value) (k : List Atr), Owns W B z k → Owns W' B z k := fun z k ho => ho.keep fun b hb hz => by
  rw [hg.block b (by rw [World.size_alloc]; omega) (fun e => by
   rcases h.row.2 with ⟨hv, -⟩ | ⟨g, cap, cur, hv, -, hh, -⟩
   ·rw [hv] at e
    cases e
   ·rw [hv] at e
    have e2 : g = b := by simpa [Value.ownBlock] using e.symm
    rcases ho.2 with ⟨hz2, -⟩ | ⟨g2, cap2, cur2, hz2, -, hh2, -⟩
    ·rw [hz2] at hz
     cases hz
    ·rw [hz2] at hz
     have e3 : g2 = b := by simpa [Value.ownBlock] using hz
     rw [e2] at hh
     rw [e3, hh] at hh2
     simp at hh2)]
  exact Below.heap_alloc W _ b hb
 refine ⟨?_, fun x hx => ?_⟩
 ·rw [List.length_append, hL, dvsC_append]
  have h1 : dvsC [(d, u)] = dvC d u := by simp [dvsC]
  rw [h1]
  exact h3
 ·rcases List.mem_append.1 hx with hx | hx
  ·exact hk _ _ (h.ats x hx)
  ·rw [List.mem_singleton.1 hx]
   exact hk _ _ hu
set_option maxHeartbeats 2000000 in
set_option maxRecDepth 100000 in
theorem children_any (sv : Value) (l : List DV) (n : Int) (w : World) (hl : l.length ≤ 1000000) (hal : ∀ x ∈ l, x.1.ats.length ≤ 1000000) (h : DHas w sv l) : Calls Tryz.prog 36 #[.agg #[sv], .int .i64 n] w fun e w' => ∃ u L', e = .returned u ∧ L'.map (·.1) = (l.filter fun x => x.1.par == n).map (·.1) ∧ DHas w' u L' ∧ Below w.heap.size w w' := by
 obtain ⟨a, c, hsv, hrow⟩ := h.form
 obtain ⟨i0, hi0, hz0, hz1, hz2⟩ := info_parts info34
 have HD := Lib.hid h
 have HAl := Lib.hid hal
 have HRow := Lib.hid hrow
 obtain ⟨N, hN⟩ : ∃ N, l.length = N := ⟨_, rfl⟩
 rw [hN] at hsv hl
 have HN := Lib.hid hN
 obtain ⟨Bz, hBz⟩ : ∃ Bz, w.heap.size = Bz := ⟨_, rfl⟩
 subst hsv
 have h0 := heap_alloc_last w (.cells #[.slice a N c] 29)
 rw [hBz] at h0
 have H0 := Lib.hid h0
 have Hb0 := Lib.hid (show Below w.heap.size w (w.alloc (.cells #[.slice a N c] 29)) from (Below.refl _ w).alloc (Nat.le_refl _) _)
 have HS0 := Lib.hid (show (w.alloc (.cells #[.slice a N c] 29)).heap.size = Bz + 1 by rw [World.size_alloc, hBz])
 clear h0 h hN hrow hal
 go_enter Tryz.func36, Tryz.ntmps36
 go_wp2
 generalize w.alloc (.cells #[.slice a N c] 29) = W0 at *
 go_loopw [5, 11] (fun s5 s6 wx => ∃ (i : Nat) (v : Value) (out : List DV), i ≤ N ∧ s5 = v ∧ s6 = .int .i64 (i : Int) ∧ out.map (·.1) = ((l.take i).filter fun x => x.1.par == n).map (·.1) ∧ COwn wx (Bz + 1) v out ∧ Below W0.heap.size W0 wx) (fun _ s6 _ => N - (intOf s6).toNat)
 case atStart => exact ⟨0, _, [], by omega, rfl, rfl, rfl, COwn.nil _ _, Below.refl _ _⟩
 case round =>
  obtain ⟨i, v, out, hi, rfl, rfl, hout, hown, hbx⟩ := hrel
  have Hout := Lib.hid hout
  obtain ⟨va, vc, hv, _⟩ := hown.has.form
  obtain ⟨L, hL⟩ : ∃ L, out.length = L := ⟨_, rfl⟩
  have hLN : L ≤ 1000000 := by
   have h0 := congrArg List.length hout
   rw [List.length_map, List.length_map] at h0
   rw [← hL, h0]
   have h1 := List.length_filter_le (fun x : DV => x.1.par == n) (l.take i)
   have h2 := List.length_take_le i l
   omega
  rw [hL] at hv
  have HL := Lib.hid hL
  have Hown := Lib.hid (hv ▸ hown)
  have Hbx := Lib.hid hbx
  have HB := Lib.hid ((hbx.block Bz (Array.getElem?_eq_some_iff.1 H0.out).1).trans H0.out)
  have Hbw := Lib.hid (Hb0.out.trans (hbx.mono Hb0.out.size))
  have c0 := cell_of_row _ Bz 0 _ _ _ HB.out
  simp only [List.getElem?_toArray, List.getElem?_cons_zero] at c0
  clear hL hown hbx hout
  subst hv
  by_cases hlt : i < N
  ·have hiz : (i : Int) < (N : Int) := by omega
   obtain ⟨x, hx⟩ : ∃ x, l[i]? = some x := ⟨l[i]'(by rw [HN.out]; exact hlt), List.getElem?_eq_getElem _⟩
   obtain ⟨g, o, rfl, hcap, hg, hr⟩ := HRow.out (fun e => by rw [e] at hx; simp at hx)
   have hran := (hr.below hg Hbw.out).at_ i x hx
   obtain ⟨-, d1, -, -, -, -⟩ := dvC_cells hran
   have Hran := Lib.hid hran
   have Htk := Lib.hid (take_filter (p := fun x => x.1.par == n) hx)
   have Hax := Lib.hid ((HD.out.below Hbw.out).ats x (List.mem_of_getElem? hx))
   have Hxm := Lib.hid (List.mem_of_getElem? hx)
   have h1x := Hax.out.one
   have Hst := Lib.hid (show (dvC x.1 x.2).toArray.all (·.oneCell') = true from by
    rw [Array.all_eq_true_iff_forall_mem]
    intro v hv
    exact dvC_one h1x v (by simpa using hv))
   clear h1x
   clear hr hg hx hcap hran
   cases q : (x.1.par == n) with
   | false =>
    have Hn := Lib.hid (show out.map (·.1) = ((l.take (i + 1)).filter fun x => x.1.par == n).map (·.1) from by rw [Htk.out, Hout.out, q]; simp)
    obtain ⟨W1, hW1⟩ : ∃ W1, wr.alloc (.cells (dvC x.1 x.2).toArray 34) = W1 := ⟨_, rfl⟩
    have hb1 : Below wr.heap.size wr W1 := by rw [← hW1]; exact (Below.refl _ wr).alloc (Nat.le_refl _) _
    have w1p : W1.cell? ⟨wr.heap.size, 1, none⟩ = some (.int .i64 x.1.par) := (show BoxAt W1 wr.heap.size (dvC x.1 x.2).toArray from by rw [← hW1]; exact heap_alloc_last wr _).cell 1
    have Hb1 := Lib.hid hb1
    have HW1 := Lib.hid hW1
    clear hb1 hW1
    go_wp2_with (first
     | (refine wpList_load_mid rfl 34 _ rfl g (o + i * 10) rfl (dvC x.1 x.2) _ Hran.out Tryz.underlying34 rfl info34b ?_)
     | (refine wpList_store_new wr 34 _ (dvC x.1 x.2).toArray rfl _ _ rfl rfl rfl info34b rfl Hst.out ?_; rw [HW1.out]))
    have HO1 := Lib.hid (Hown.out.below Hb1.out)
    exact ⟨⟨i + 1, _, out, by omega, rfl, rfl, Hn.out, HO1.out, Hbx.out.trans (Hb1.out.mono Hbx.out.size)⟩, by simp [intOf]; omega⟩
   | true =>
    obtain ⟨W1, hW1⟩ : ∃ W1, wr.alloc (.cells (dvC x.1 x.2).toArray 34) = W1 := ⟨_, rfl⟩
    have hb1 : Below wr.heap.size wr W1 := by rw [← hW1]; exact (Below.refl _ wr).alloc (Nat.le_refl _) _
    have HCl := Lib.hid (show Calls Tryz.prog 65 #[.agg (dvC x.1 x.2).toArray] W1 fun e w' => ∃ u, e = .returned (.agg (dvC x.1 u).toArray) ∧ Owns w' W1.heap.size u x.1.ats ∧ Below W1.heap.size W1 w' from cloneDev_any x.1 x.2 W1 (HAl.out x Hxm.out) (Hax.out.below hb1))
    have Hb1 := Lib.hid hb1
    have HBx := Lib.hid (show W1.heap[wr.heap.size]? = some (.cells (dvC x.1 x.2).toArray 34 (0, 0)) from by rw [← hW1]; exact heap_alloc_last wr _)
    have HW1 := Lib.hid hW1
    clear hb1 hW1
    have w1p : W1.cell? ⟨wr.heap.size, 1, none⟩ = some (.int .i64 x.1.par) := (show BoxAt W1 wr.heap.size (dvC x.1 x.2).toArray from HBx.out).cell 1
    go_upto_region 6 with (first
     | (refine wpList_load_mid rfl 34 _ rfl g (o + i * 10) rfl (dvC x.1 x.2) _ Hran.out Tryz.underlying34 rfl info34b ?_)
     | (refine wpList_store_new wr 34 _ (dvC x.1 x.2).toArray rfl _ _ rfl rfl rfl info34b rfl Hst.out ?_; rw [HW1.out]))
    go_wp2_with (first
     | (refine wpList_load_row rfl 34 _ rfl wr.heap.size rfl 34 (dvC x.1 x.2).toArray (0, 0) _ (by with_reducible exact HBx.out) Tryz.underlying34 rfl info34b ?_)
     | (go_at_call 65; refine Calls.mono (by with_reducible exact HCl.out) ?_; rintro e W2 ⟨u, rfl, how, hb2⟩; have HOu := Lib.hid how; have Hb2 := Lib.hid hb2; have HOn := Lib.hid ((Hown.out.below Hb1.out).below hb2); have Hones := Lib.hid (dvC_one how.has.one (a := x.1)); have Hnews := Lib.hid (row_new W2 (dvC x.1 u) 34); have Hrow2 := Lib.hid (show W2.ownsRow (Bz + 1) 34 10 (.slice va L vc) L (dvsC out) from by (have := ((Hown.out.below Hb1.out).below hb2).row; rw [HL.out] at this; exact this)); have Hbase := Lib.hid (show Bz + 1 ≤ (W2.alloc (.cells (dvC x.1 u).toArray 34)).heap.size from by (rw [World.size_alloc]; have h1 := Hb1.out.size; have h2 := hb2.size; have h3 := Hbx.out.size; have h4 := HS0.out; omega)); clear how hb2)
     | (refine wpList_build_row rfl 22 34 _ rfl (dvC x.1 u).toArray i0 _ rfl Tryz.underlying22 hi0 hz0 (by rw [hz1]; rfl) (by show 0 < 10; omega) (by show (10 : Nat) ≤ 2 ^ 24; omega) ?_)
     | (at_builtin; refine wpList_append_own _ rfl _ _ 22 rfl (Bz + 1) 34 i0 _ 10 136 Tryz.underlying22 hi0 hz0 hz1 hz2 rfl (by decide) (.slice va L vc) L (dvsC out) rfl (Hrow2.out.alloc _) ⟨W2.heap.size, 0, none⟩ 1 1 (dvC x.1 u) rfl rfl Hnews.out Hones.out (by unfold maxLen; omega) (by omega) Hbase.out ?_; intro v3 w3 hown3 hgr3 _; have Hown3 := Lib.hid hown3; have Hgr3 := Lib.hid hgr3; clear hown3 hgr3))
    have hWz : W0.heap.size ≤ W1.heap.size := by have h1 := Hb1.out.size; have h3 := Hbx.out.size; omega
    have hend := COwn.push HOn.out (HOu.out.mono (by have h4 := HS0.out; omega)) HL.out Hown3.out Hgr3.out
    have Hend := Lib.hid hend
    have hgb : ∀ k, (Value.slice va L vc).ownBlock = some k → W0.heap.size ≤ k := fun k hk => by
     have h1 := (Hown.out.row.lt k hk).1
     have h2 := HS0.out
     omega
    have hb20 : Below W0.heap.size W0 W2 := (Hbx.out.trans (Hb1.out.mono Hbx.out.size)).trans (Hb2.out.mono hWz)
    have Hx3 := Lib.hid (show Below W0.heap.size W0 w3 from (hb20.alloc hb20.size (.cells (dvC x.1 u).toArray 34)).grown Hgr3.out (by rw [World.size_alloc]; have := hb20.size; omega) hgb)
    have Hn := Lib.hid (show (out ++ [(x.1, u)]).map (·.1) = ((l.take (i + 1)).filter fun x => x.1.par == n).map (·.1) from by rw [Htk.out, if_pos q, List.map_append, List.map_append, Hout.out]; rfl)
    clear hend hgb hb20 hWz
    exact ⟨⟨i + 1, _, out ++ [(x.1, u)], by omega, rfl, rfl, Hn.out, Hend.out, Hx3.out⟩, by simp [intOf]; omega⟩
  ·obtain rfl : i = N := by omega
   have Hfin := Lib.hid (show out.map (·.1) = (l.filter fun x => x.1.par == n).map (·.1) from by
    rw [Hout.out, ← HN.out, List.take_length])
   go_wp2
   go_ret
   exact ⟨.slice va L vc, rfl, out, Hfin.out, Hown.out.has, by rw [← hBz]; exact Hbw.out⟩
end Go.Proofs.YtldcediiobfhiaaGreatDoor.De
