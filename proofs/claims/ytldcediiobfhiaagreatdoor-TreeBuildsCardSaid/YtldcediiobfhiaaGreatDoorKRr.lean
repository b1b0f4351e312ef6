/- The reference's Children. The reference's Ancestors. The reference's Below and Subtree. The reference's Subtree. -/
import Derived.Test.YtldcediiobfhiaaGreatDoorKRd
import Derived.Deep.RegionHeld
namespace Go.Proofs.YtldcediiobfhiaaGreatDoor.De
open Go.RowKit
theorem take_filter {l : List DV} {p : DV → Bool} {i : Nat} {x : DV} (hx : l[i]? = some x) : (l.take (i + 1)).filter p = (l.take i).filter p ++ (if p x = true then [x] else []) := by
 rw [List.take_add_one, hx, List.filter_append]
 congr 1
 cases h : p x <;> simp [h]
set_option maxHeartbeats 2000000 in
set_option maxRecDepth 100000 in
theorem refChildren_any (sv : Value) (l : List DV) (n : Int) (w : World) (hl : l.length ≤ 1000000) (h : DHas w sv l) : Calls Tryz.prog 37 #[.agg #[sv], .int .i64 n] w fun e w' => ∃ u, e = .returned u ∧ DOwn w' w.heap.size u (l.filter fun x => x.1.par == n) ∧ Below w.heap.size w w' := by
 obtain ⟨a, c, hsv, hrow⟩ := h.form
 obtain ⟨i0, hi0, hz0, hz1, hz2⟩ := info_parts info34
 have HD := Lib.hid h
 have HRow := Lib.hid hrow
 obtain ⟨N, hN⟩ : ∃ N, l.length = N := ⟨_, rfl⟩
 rw [hN] at hsv hl
 have HN := Lib.hid hN
 obtain ⟨Bz, hBz⟩ : ∃ Bz, w.heap.size = Bz := ⟨_, rfl⟩
 subst hsv
 have h0 := heap_alloc_last w (.cells #[.slice a N c] 29)
 rw [hBz] at h0
 have H0 := Lib.hid h0
 have Hb0 := Lib.hid (show Below w.heap.size w (w.alloc (.cells #[.slice a N c] 29)) from (Below.refl _ w).alloc (Nat.le_refl _) _)
 have HS0 := Lib.hid (show (w.alloc (.cells #[.slice a N c] 29)).heap.size = Bz + 1 by rw [World.size_alloc, hBz])
 clear h0 h hN hrow
 go_enter Tryz.func37, Tryz.ntmps37
 go_wp2
 generalize w.alloc (.cells #[.slice a N c] 29) = W0 at *
 go_loopw [5, 6] (fun s5 s6 wx => ∃ (i : Nat) (v : Value), i ≤ N ∧ s5 = v ∧ s6 = .int .i64 (i : Int) ∧ DOwn wx (Bz + 1) v ((l.take i).filter fun x => x.1.par == n) ∧ Below W0.heap.size W0 wx) (fun _ s6 _ => N - (intOf s6).toNat)
 case atStart => exact ⟨0, _, by omega, rfl, rfl, by rw [List.take_zero]; exact DOwn.nil _ _, Below.refl _ _⟩
 case round =>
  obtain ⟨i, v, hi, rfl, rfl, hown, hbx⟩ := hrel
  obtain ⟨out, hout⟩ : ∃ out, ((l.take i).filter fun x => x.1.par == n) = out := ⟨_, rfl⟩
  rw [hout] at hown
  have Hout := Lib.hid hout
  obtain ⟨va, vc, hv, _⟩ := hown.has.form
  obtain ⟨L, hL⟩ : ∃ L, out.length = L := ⟨_, rfl⟩
  have hLN : L ≤ 1000000 := by
   rw [← hL, ← hout]
   have h1 := List.length_filter_le (fun x : DV => x.1.par == n) (l.take i)
   have h2 := List.length_take_le i l
   omega
  rw [hL] at hv
  have HL := Lib.hid hL
  have Hown := Lib.hid (hv ▸ hown)
  have Hbx := Lib.hid hbx
  have HB := Lib.hid ((hbx.block Bz (Array.getElem?_eq_some_iff.1 H0.out).1).trans H0.out)
  have Hbw := Lib.hid (Hb0.out.trans (hbx.mono Hb0.out.size))
  have c0 := cell_of_row _ Bz 0 _ _ _ HB.out
  simp only [List.getElem?_toArray, List.getElem?_cons_zero] at c0
  clear hL hown hbx hout
  subst hv
  by_cases hlt : i < N
  ·have hiz : (i : Int) < (N : Int) := by omega
   obtain ⟨x, hx⟩ : ∃ x, l[i]? = some x := ⟨l[i]'(by rw [HN.out]; exact hlt), List.getElem?_eq_getElem _⟩
   obtain ⟨g, o, rfl, hcap, hg, hr⟩ := HRow.out (fun e => by rw [e] at hx; simp at hx)
   have hran := (hr.below hg Hbw.out).at_ i x hx
   obtain ⟨-, d1, -, -, -, -⟩ := dvC_cells hran
   have Hran := Lib.hid hran
   have Htk := Lib.hid (take_filter (p := fun x => x.1.par == n) hx)
   have Hax := Lib.hid ((HD.out.below Hbw.out).ats x (List.mem_of_getElem? hx))
   have Hxm := Lib.hid (List.mem_of_getElem? hx)
   clear hr hg hx hcap hran
   cases q : (x.1.par == n) with
   | false =>
    have Hn := Lib.hid (show ((l.take (i + 1)).filter fun x => x.1.par == n) = out from by rw [Htk.out, Hout.out, q]; simp)
    go_wp2
    exact ⟨⟨i + 1, _, by omega, rfl, rfl, by rw [Hn.out]; exact Hown.out, Hbx.out⟩, by simp [intOf]; omega⟩
   | true =>
    have Hn := Lib.hid (show ((l.take (i + 1)).filter fun x => x.1.par == n) = out ++ [x] from by rw [Htk.out, Hout.out, if_pos q])
    have Hnews := Lib.hid (row_new wr (dvC x.1 x.2) 34)
    have Hones := Lib.hid (dvC_one Hax.out.one (a := x.1))
    have Hbase := Lib.hid (show Bz + 1 ≤ (wr.alloc (.cells (dvC x.1 x.2).toArray 34)).heap.size from by
     rw [World.size_alloc]
     have := Hbx.out.size
     have := HS0.out
     omega)
    have hrow2 : wr.ownsRow (Bz + 1) 34 10 (.slice va L vc) L (dvsC out) := by
     have := Hown.out.row
     rw [HL.out] at this
     exact this
    have Hrow2 := Lib.hid hrow2
    clear hrow2
    go_wp2_with (first
     | (refine wpList_load_mid rfl 34 _ rfl g (o + i * 10) rfl (dvC x.1 x.2) _ Hran.out Tryz.underlying34 rfl info34b ?_)
     | (refine wpList_build_row rfl 22 34 _ rfl (dvC x.1 x.2).toArray i0 _ rfl Tryz.underlying22 hi0 hz0 (by rw [hz1]; rfl) (by show 0 < 10; omega) (by show (10 : Nat) ≤ 2 ^ 24; omega) ?_)
     | (at_builtin; refine wpList_append_own _ rfl _ _ 22 rfl (Bz + 1) 34 i0 _ 10 136 Tryz.underlying22 hi0 hz0 hz1 hz2 rfl (by decide) _ L (dvsC out) rfl (Hrow2.out.alloc _) ⟨wr.heap.size, 0, none⟩ 1 1 (dvC x.1 x.2) rfl rfl Hnews.out Hones.out (by unfold maxLen; omega) (by omega) Hbase.out ?_; intro v3 w3 hown3 hgr3 _; have Hown3 := Lib.hid hown3; have Hgr3 := Lib.hid hgr3; clear hown3 hgr3))
    have hgb : ∀ k, (Value.slice va L vc).ownBlock = some k → W0.heap.size ≤ k := fun k hk => by
     have h1 := (Hown.out.row.lt k hk).1
     have h2 := HS0.out
     omega
    have hx3 : Below W0.heap.size W0 w3 := (Hbx.out.alloc Hbx.out.size (.cells (dvC x.1 x.2).toArray 34)).grown Hgr3.out (by rw [World.size_alloc]; have := Hbx.out.size; omega) hgb
    have hw3 : Below w.heap.size w w3 := Hb0.out.trans (hx3.mono Hb0.out.size)
    have hsub3 : ∀ y ∈ out ++ [x], y ∈ l := fun y hy => by
     rcases List.mem_append.1 hy with hy | hy
     ·rw [← Hout.out] at hy
      exact List.mem_of_mem_take (List.mem_filter.1 hy).1
     ·rw [List.mem_singleton.1 hy]
      exact Hxm.out
    have hown3 : DOwn w3 (Bz + 1) v3 (out ++ [x]) := ⟨by
     have h1 : (out ++ [x]).length = L + 1 := by rw [List.length_append, HL.out]; rfl
     have h2 : dvsC (out ++ [x]) = dvsC out ++ dvC x.1 x.2 := by rw [dvsC_append]; simp [dvsC]
     rw [h1, h2]
     exact Hown3.out, fun y hy => (HD.out.below hw3).ats y (hsub3 y hy)⟩
    have Hend := Lib.hid (And.intro hown3 hx3)
    clear hgb hx3 hw3 hsub3 hown3
    exact ⟨⟨i + 1, _, by omega, rfl, rfl, by rw [Hn.out]; exact Hend.out.1, Hend.out.2⟩, by simp [intOf]; omega⟩
  ·obtain rfl : i = N := by omega
   have Hfin := Lib.hid (show (l.filter fun x => x.1.par == n) = out from by
    rw [← Hout.out, ← HN.out, List.take_length])
   go_wp2
   go_ret
   exact ⟨_, rfl, by rw [Hfin.out]; exact ⟨ownsRow_mono' Hown.out.row (by have := HS0.out; have := Hb0.out.size; omega), Hown.out.ats⟩, by first | exact Hbw.out | (rw [← hBz]; exact Hbw.out)⟩
end Go.Proofs.YtldcediiobfhiaaGreatDoor.De
namespace Go.Proofs.YtldcediiobfhiaaGreatDoor.De
open Go.RowKit
theorem DHas.tail {W : World} {g c : Nat} {l : List DV} {ad : Addr} (h : DHas W (.slice (some ⟨g, 0, none⟩) l.length c) l) (hl : 0 < l.length) (hd : (if c = 1 then some (⟨g, 0, none⟩ : Addr) else some ⟨g, 1 * 10, none⟩) = some ad) : DHas W (.slice (some ad) (l.length - 1) (c - 1)) (l.drop 1) := by
 rcases h with ⟨_, _, _, rfl⟩ | ⟨g', o', c', hv, hc, hg, hr⟩
 ·simp at hl
 ·simp only [Value.slice.injEq, Option.some.injEq, Addr.mk.injEq] at hv
  obtain ⟨⟨rfl, rfl, -⟩, -, rfl⟩ := hv
  rcases Nat.lt_or_ge 1 l.length with h1 | h1
  ·rw [if_neg (by omega)] at hd
   obtain rfl := Option.some.inj hd
   refine Or.inr ⟨g, 10, c - 1, by rw [List.length_drop], by rw [List.length_drop]; omega, hg, ⟨fun j x hx => ?_, fun x hx => hr.ats x (List.mem_of_mem_drop hx)⟩⟩
   rw [List.getElem?_drop] at hx
   have := hr.at_ (1 + j) x hx
   rw [show 0 + (1 + j) * 10 = 10 + j * 10 by omega] at this
   exact this
  ·have h2 : l.length = 1 := by omega
   refine Or.inl ⟨some ad, c - 1, by rw [h2], ?_⟩
   rw [List.drop_of_length_le (by omega)]
set_option maxHeartbeats 2000000 in
set_option maxRecDepth 100000 in
theorem refAncestors_any (sv : Value) (l : List DV) (n : Int) (w : World) (hl : l.length ≤ 1000000) (h : DHas w sv l) : Calls Tryz.prog 35 #[.agg #[sv], .int .i64 n] w fun e w' => ∃ u, e = .returned u ∧ DHas w' u ((upD l l.length n).drop 1) ∧ Below w.heap.size w w' := by
 obtain ⟨a, c, hsv, _⟩ := h.form
 have HC := Lib.hid (fun W (hW : Below w.heap.size w W) => refChain_any sv l n W hl (h.below hW))
 obtain ⟨R, hR⟩ : ∃ R, upD l l.length n = R := ⟨_, rfl⟩
 rw [hR] at HC ⊢
 obtain ⟨N, hN⟩ : ∃ N, l.length = N := ⟨_, rfl⟩
 rw [hN] at hsv
 subst hsv
 have Hb0 := Lib.hid (show Below w.heap.size w (w.alloc (.cells #[.slice a N c] 29)) from (Below.refl _ w).alloc (Nat.le_refl _) _)
 clear h hR hN hl
 go_enter Tryz.func35, Tryz.ntmps35
 go_wp2_with fail
 refine (HC.out _ Hb0.out).mono ?_
 rintro e W1 ⟨u, rfl, hown, hb1⟩
 have hhas := hown.has
 have Hbw := Lib.hid (Hb0.out.trans (hb1.mono Hb0.out.size))
 obtain ⟨va, vc, rfl, hrow⟩ := hhas.form
 obtain ⟨L, hL⟩ : ∃ L, R.length = L := ⟨_, rfl⟩
 rcases Nat.eq_zero_or_pos L with h0 | h0
 ·have Hn := Lib.hid (show R.drop 1 = [] from List.drop_of_length_le (by omega))
  rw [hL, h0]
  clear hown hb1 hhas hrow hL h0
  go_wp2
  go_ret
  exact ⟨_, rfl, by rw [Hn.out]; exact Or.inl ⟨none, 0, rfl, rfl⟩, Hbw.out⟩
 ·have hne : R ≠ [] := fun e => by rw [e] at hL; simp at hL; omega
  obtain ⟨g, o, rfl, hcap, hg, _⟩ := hrow hne
  have ho : o = 0 := by
   rcases hown.row.2 with ⟨hv, _⟩ | ⟨g', cap, cur, hv, _⟩
   ·cases hv
   ·simp only [Value.slice.injEq, Option.some.injEq, Addr.mk.injEq] at hv
    exact hv.1.2.1
  subst ho
  obtain ⟨ad, had⟩ : ∃ ad : Addr, (if vc = 1 then some (⟨g, 0, none⟩ : Addr) else some ⟨g, 1 * 10, none⟩) = some ad := by split <;> exact ⟨_, rfl⟩
  have Ht := Lib.hid (hhas.tail (by omega) had)
  have hLz : (0 : Int) < (L : Int) := by omega
  have hLc : (L : Int) ≤ (vc : Int) := by omega
  have h1L : (1 : Int) ≤ (L : Int) := by omega
  rw [hL] at Ht ⊢
  clear hown hb1 hhas hrow hL hne hg
  go_wp2
  go_ret
  exact ⟨_, rfl, Ht.out, Hbw.out⟩
end Go.Proofs.YtldcediiobfhiaaGreatDoor.De
namespace Go.Proofs.YtldcediiobfhiaaGreatDoor.De
open Go.RowKit
theorem upD_len (l : List DV) : ∀ (k : Nat) (n : Int), (upD l k n).length ≤ k
 | 0, _ => Nat.le_refl _
 | k + 1, n => by
  unfold upD
  cases fndD l n with
  | none => exact Nat.zero_le _
  | some x => exact Nat.succ_le_succ (upD_len l k x.1.par)
theorem idxP_isSome : ∀ (l : List ADev) (n : Int), (idxP l n).isSome = l.any fun a => a.idx == n
 | [], _ => rfl
 | a :: l, n => by
  rw [idxP, List.any_cons]
  by_cases h : a.idx = n
  ·rw [if_pos h, h]
   simp
  ·rw [if_neg h, Option.isSome_map, idxP_isSome l n]
   have : (a.idx == n) = false := beq_eq_false_iff_ne.2 h
   rw [this, Bool.false_or]
theorem idxV_ge (o : Option Nat) : decide (0 ≤ idxV o) = o.isSome := by
 cases o with
 | none => rfl
 | some p =>
  show decide ((0 : Int) ≤ (p : Int)) = true
  exact decide_eq_true (by omega)
/-- Lying below, as the reference asks it. -/
theorem bel_up (l : List DV) (n top : Int) : (idxP ((upD l l.length n).map (·.1)) top).isSome = ((ups (l.map (·.1)) n).any fun a => a.idx == top) := by
 rw [idxP_isSome, upD_fst]
 unfold ups
 rw [List.length_map]
set_option maxHeartbeats 1000000 in
set_option maxRecDepth 100000 in
theorem refBelow_any (sv : Value) (l : List DV) (n top : Int) (w : World) (hl : l.length ≤ 1000000) (h : DHas w sv l) : Calls Tryz.prog 78 #[.agg #[sv], .int .i64 n, .int .i64 top] w (Bel (.bool ((ups (l.map (·.1)) n).any fun a => a.idx == top)) w) := by
 obtain ⟨a, c, hsv, _⟩ := h.form
 have HC := Lib.hid (fun W (hW : Below w.heap.size w W) => refChain_any sv l n W hl (h.below hW))
 have hbu := bel_up l n top
 have hlen := upD_len l l.length n
 obtain ⟨R, hR⟩ : ∃ R, upD l l.length n = R := ⟨_, rfl⟩
 rw [hR] at HC hbu hlen
 rw [← hbu]
 have HX := Lib.hid (fun (u : Value) W (hu : DHas W u R) => refIndex_any u R top W (by omega) hu)
 obtain ⟨o, ho⟩ : ∃ o, idxP (R.map (·.1)) top = o := ⟨_, rfl⟩
 rw [ho] at HX ⊢
 have hge := idxV_ge o
 obtain ⟨z, hz⟩ : ∃ z, idxV o = z := ⟨_, rfl⟩
 rw [hz] at HX hge
 obtain ⟨N, hN⟩ : ∃ N, l.length = N := ⟨_, rfl⟩
 rw [hN] at hsv
 subst hsv
 have Hb0 := Lib.hid (show Below w.heap.size w (w.alloc (.cells #[.slice a N c] 29)) from (Below.refl _ w).alloc (Nat.le_refl _) _)
 have Hge := Lib.hid hge
 clear h hR hN hl hbu hlen ho hz hge
 go_enter Tryz.func78, Tryz.ntmps78
 go_wp2_with fail
 refine (HC.out _ Hb0.out).mono ?_
 rintro e W1 ⟨u, rfl, hown, hb1⟩
 have Hu := Lib.hid hown.has
 have Hbw := Lib.hid (Hb0.out.trans (hb1.mono Hb0.out.size))
 clear hown hb1
 go_wp2_with fail
 refine (HX.out u W1 Hu.out).mono ?_
 rintro e W2 ⟨rfl, hb2⟩
 have Hb2 := Lib.hid (Hbw.out.trans (hb2.mono Hbw.out.size))
 clear hb2
 go_wp2
 go_ret
 exact ⟨by rw [← Hge.out]; rfl, Hb2.out⟩
end Go.Proofs.YtldcediiobfhiaaGreatDoor.De
namespace Go.Proofs.YtldcediiobfhiaaGreatDoor.De
open Go.RowKit
set_option maxHeartbeats 2000000 in
set_option maxRecDepth 100000 in
theorem refSubtree_any (sv : Value) (l : List DV) (n : Int) (w : World) (hl : l.length ≤ 1000000) (h : DHas w sv l) : Calls Tryz.prog 39 #[.agg #[sv], .int .i64 n] w fun e w' => ∃ u, e = .returned u ∧ DOwn w' w.heap.size u (l.filter fun x => (ups (l.map (·.1)) x.1.idx).any fun a => a.idx == n) ∧ Below w.heap.size w w' := by
 obtain ⟨a, c, hsv, hrow⟩ := h.form
 obtain ⟨i0, hi0, hz0, hz1, hz2⟩ := info_parts info34
 have HD := Lib.hid h
 have HRow := Lib.hid hrow
 have HBl := Lib.hid (fun (m : Int) W (hW : Below w.heap.size w W) => refBelow_any sv l m n W hl (h.below hW))
 obtain ⟨N, hN⟩ : ∃ N, l.length = N := ⟨_, rfl⟩
 rw [hN] at hsv hl
 have HN := Lib.hid hN
 obtain ⟨Bz, hBz⟩ : ∃ Bz, w.heap.size = Bz := ⟨_, rfl⟩
 subst hsv
 have h0 := heap_alloc_last w (.cells #[.slice a N c] 29)
 rw [hBz] at h0
 have H0 := Lib.hid h0
 have Hb0 := Lib.hid (show Below w.heap.size w (w.alloc (.cells #[.slice a N c] 29)) from (Below.refl _ w).alloc (Nat.le_refl _) _)
 have HS0 := Lib.hid (show (w.alloc (.cells #[.slice a N c] 29)).heap.size = Bz + 1 by rw [World.size_alloc, hBz])
 clear h0 h hN hrow
 go_enter Tryz.func39, Tryz.ntmps39
 go_wp2
 generalize w.alloc (.cells #[.slice a N c] 29) = W0 at *
 go_loopw [5, 6] (fun s5 s6 wx => ∃ (i : Nat) (v : Value), i ≤ N ∧ s5 = v ∧ s6 = .int .i64 (i : Int) ∧ DOwn wx (Bz + 1) v ((l.take i).filter fun x => (ups (l.map (·.1)) x.1.idx).any fun a => a.idx == n) ∧ Below W0.heap.size W0 wx) (fun _ s6 _ => N - (intOf s6).toNat)
 case atStart => exact ⟨0, _, by omega, rfl, rfl, by rw [List.take_zero]; exact DOwn.nil _ _, Below.refl _ _⟩
 case round =>
  obtain ⟨i, v, hi, rfl, rfl, hown, hbx⟩ := hrel
  obtain ⟨out, hout⟩ : ∃ out, ((l.take i).filter fun x => (ups (l.map (·.1)) x.1.idx).any fun a => a.idx == n) = out := ⟨_, rfl⟩
  rw [hout] at hown
  have Hout := Lib.hid hout
  obtain ⟨va, vc, hv, _⟩ := hown.has.form
  obtain ⟨L, hL⟩ : ∃ L, out.length = L := ⟨_, rfl⟩
  have hLN : L ≤ 1000000 := by
   rw [← hL, ← hout]
   have h1 := List.length_filter_le (fun x : DV => (ups (l.map (·.1)) x.1.idx).any fun a => a.idx == n) (l.take i)
   have h2 := List.length_take_le i l
   omega
  rw [hL] at hv
  have HL := Lib.hid hL
  have Hown := Lib.hid (hv ▸ hown)
  have Hbx := Lib.hid hbx
  have HB := Lib.hid ((hbx.block Bz (Array.getElem?_eq_some_iff.1 H0.out).1).trans H0.out)
  have Hbw := Lib.hid (Hb0.out.trans (hbx.mono Hb0.out.size))
  have c0 := cell_of_row _ Bz 0 _ _ _ HB.out
  simp only [List.getElem?_toArray, List.getElem?_cons_zero] at c0
  clear hL hown hbx hout
  subst hv
  by_cases hlt : i < N
  ·have hiz : (i : Int) < (N : Int) := by omega
   obtain ⟨x, hx⟩ : ∃ x, l[i]? = some x := ⟨l[i]'(by rw [HN.out]; exact hlt), List.getElem?_eq_getElem _⟩
   obtain ⟨g, o, rfl, hcap, hg, hr⟩ := HRow.out (fun e => by rw [e] at hx; simp at hx)
   have hran := (hr.below hg Hbw.out).at_ i x hx
   have Hd := Lib.hid (dvC_cells hran).1
   have Hran := Lib.hid hran
   have Htk := Lib.hid (take_filter (p := fun x => (ups (l.map (·.1)) x.1.idx).any fun a => a.idx == n) hx)
   have Hax := Lib.hid ((HD.out.below Hbw.out).ats x (List.mem_of_getElem? hx))
   have Hxm := Lib.hid (List.mem_of_getElem? hx)
   clear hr hg hx hcap hran
   obtain ⟨q, hq⟩ : ∃ q, ((ups (l.map (·.1)) x.1.idx).any fun a => a.idx == n) = q := ⟨_, rfl⟩
   have hbl := fun W (hW : Below w.heap.size w W) => HBl.out x.1.idx W hW
   rw [hq] at hbl
   have HBq := Lib.hid hbl
   have Hq := Lib.hid hq
   have HS := Lib.hid (show ∀ W, Below wr.heap.size wr W → (W.heap[Bz]? = some (.cells #[.slice (some ⟨g, o, none⟩) N c] 29 (0, 0)) ∧ W.cell? ⟨Bz, 0, none⟩ = some (.slice (some ⟨g, o, none⟩) N c) ∧ W.cell? ⟨g, o + i * 10, none⟩ = some (.int .i64 x.1.idx)) from fun W hW => by
    have h1 := (hW.block Bz (Array.getElem?_eq_some_iff.1 HB.out).1).trans HB.out
    refine ⟨h1, ?_, ?_⟩
    ·rw [cell_of_row _ _ 0 _ _ _ h1]
     rfl
    ·exact (hW.cell (p := ⟨g, o + i * 10, none⟩) (World.block_lt_of_cell? _ _ Hd.out)).trans Hd.out)
   clear hbl hq
   go_wp2
   refine wp_region_held_drew (S := fun W => (W.heap[Bz]? = some (.cells #[.slice (some ⟨g, o, none⟩) N c] 29 (0, 0)) ∧ W.cell? ⟨Bz, 0, none⟩ = some (.slice (some ⟨g, o, none⟩) N c) ∧ W.cell? ⟨g, o + i * 10, none⟩ = some (.int .i64 x.1.idx))) (by kernel_rfl) (HS.out _ (Below.refl _ _).drew) (fun hHeld => ?_)
   refine wpAnyH_take (i := 0) (oi := { dst := some 14, op := Op.load 29 (Operand.tmp 2), type := 29, pos := "ref.go:128", after := #[], guard := none }) (v := .agg #[.slice (some ⟨g, o, none⟩) N c]) rfl (by kernel_rfl) (by kernel_rfl) (by kernel_rfl) (fun _ _ _ h => h) (yieldsIf_load_row (by rfl) 29 (.tmp 2) rfl Bz rfl 29 #[.slice (some ⟨g, o, none⟩) N c] (0, 0) _ (fun w h => h.1) Tryz.underlying29 rfl (by kernel_rfl)) (by assumption) ?_
   try simp only [Act.put, List.setIfInBounds_toArray, List.set_cons_zero, List.set_cons_succ]
   refine wpAnyH_take (i := 1) (oi := { dst := some 15, op := Op.fieldAddr 29 (Operand.tmp 2) 0, type := 0, pos := "ref.go:128", after := #[], guard := none }) (v := .pointer (some ⟨Bz, 0, none⟩)) rfl (by kernel_rfl) (by kernel_rfl) (by kernel_rfl) (fun _ _ _ h => h) (Or.inl ⟨by rfl, fun w hSw => by clear hSw; go_simp⟩) (by assumption) ?_
   try simp only [Act.put, List.setIfInBounds_toArray, List.set_cons_zero, List.set_cons_succ]
   refine wpAnyH_take (i := 2) (oi := { dst := some 16, op := Op.load 22 (Operand.tmp 15), type := 22, pos := "ref.go:128", after := #[{ on := 1, ground := Ground.data }], guard := none }) (v := .slice (some ⟨g, o, none⟩) N c) rfl (by kernel_rfl) (by kernel_rfl) (by kernel_rfl) (fun _ _ _ h => h) (Or.inl ⟨by rfl, fun w hSw => by obtain ⟨hS0, hS1, hS2⟩ := hSw; clear hS0 hS2; go_simp⟩) (by assumption) ?_
   try simp only [Act.put, List.setIfInBounds_toArray, List.set_cons_zero, List.set_cons_succ]
   refine wpAnyH_take (i := 3) (oi := { dst := some 17, op := Op.move (Operand.tmp 6), type := 3, pos := "ref.go:128", after := #[], guard := none }) (v := .int .i64 (i : Int)) rfl (by kernel_rfl) (by kernel_rfl) (by kernel_rfl) (fun _ _ _ h => h) (Or.inl ⟨by rfl, fun w hSw => by clear hSw; go_simp⟩) (by assumption) ?_
   try simp only [Act.put, List.setIfInBounds_toArray, List.set_cons_zero, List.set_cons_succ]
   refine wpAnyH_take (i := 4) (oi := { dst := some 18, op := Op.indexAddr 22 (Operand.tmp 16) (Operand.tmp 17), type := 0, pos := "ref.go:128", after := #[{ on := 2, ground := Ground.data }, { on := 3, ground := Ground.data }], guard := none }) (v := .pointer (some ⟨g, o + i * 10, none⟩)) rfl (by kernel_rfl) (by kernel_rfl) (by kernel_rfl) (fun _ _ _ h => h) (Or.inl ⟨by rfl, fun w hSw => by clear hSw; go_simp⟩) (by assumption) ?_
   try simp only [Act.put, List.setIfInBounds_toArray, List.set_cons_zero, List.set_cons_succ]
   refine wpAnyH_take (i := 5) (oi := { dst := some 19, op := Op.fieldAddr 34 (Operand.tmp 18) 0, type := 0, pos := "ref.go:128", after := #[{ on := 4, ground := Ground.data }], guard := none }) (v := .pointer (some ⟨g, o + i * 10, none⟩)) rfl (by kernel_rfl) (by kernel_rfl) (by kernel_rfl) (fun _ _ _ h => h) (Or.inl ⟨by rfl, fun w hSw => by clear hSw; go_simp⟩) (by assumption) ?_
   try simp only [Act.put, List.setIfInBounds_toArray, List.set_cons_zero, List.set_cons_succ]
   refine wpAnyH_take (i := 6) (oi := { dst := some 20, op := Op.load 3 (Operand.tmp 19), type := 3, pos := "ref.go:128", after := #[{ on := 5, ground := Ground.data }], guard := none }) (v := .int .i64 x.1.idx) rfl (by kernel_rfl) (by kernel_rfl) (by kernel_rfl) (fun _ _ _ h => h) (Or.inl ⟨by rfl, fun w hSw => by obtain ⟨hS0, hS1, hS2⟩ := hSw; clear hS0 hS1; go_simp⟩) (by assumption) ?_
   try simp only [Act.put, List.setIfInBounds_toArray, List.set_cons_zero, List.set_cons_succ]
   refine wpAnyH_take (i := 7) (oi := { dst := some 21, op := Op.move (Operand.tmp 1), type := 3, pos := "ref.go:128", after := #[], guard := none }) (v := .int .i64 n) rfl (by kernel_rfl) (by kernel_rfl) (by kernel_rfl) (fun _ _ _ h => h) (Or.inl ⟨by rfl, fun w hSw => by clear hSw; go_simp⟩) (by assumption) ?_
   try simp only [Act.put, List.setIfInBounds_toArray, List.set_cons_zero, List.set_cons_succ]
   refine wpAnyH_ready (rs := [8]) (by kernel_rfl) (by simp) ?_
   refine AllReadyH.cons (o := { dst := some 22, op := Op.call { callee := Callee.value (Operand.func 78), args := #[Operand.tmp 14, Operand.tmp 20, Operand.tmp 21], argTypes := #[29, 3, 3] }, type := 4, pos := "ref.go:128", after := #[{ on := 0, ground := Ground.data }, { on := 6, ground := Ground.data }, { on := 7, ground := Ground.data }], guard := none }) rfl (fun K hK => ?_) AllReadyH.nil
   go_simp
   refine (HBq.out wr.drew Hbw.out.drew).mono ?_
   rintro e W2 ⟨rfl, hb2⟩
   dsimp only
   have hb3 : Below wr.heap.size wr W2 := ((Below.refl _ wr).drew).trans hb2
   refine hK.out _ _ (HS.out _ hb3) (fun hHeld => ?_)
   try simp only [Act.put, List.setIfInBounds_toArray, List.set_cons_zero, List.set_cons_succ]
   clear hK
   refine wpAnyH_done (by kernel_rfl) ?_ _
   have Hown2 := Lib.hid (Hown.out.keep hb3)
   have Hbx2 := Lib.hid (Hbx.out.trans (hb3.mono Hbx.out.size))
   have hran2 : W2.rangeAt g (o + i * 10) (dvC x.1 x.2) := fun m v hv => (hb3.cell (p := ⟨g, o + i * 10 + m, none⟩) (World.block_lt_of_cell? _ _ (Hran.out m v hv))).trans (Hran.out m v hv)
   have Hran2 := Lib.hid hran2
   have hB2 := (hb3.block Bz (Array.getElem?_eq_some_iff.1 HB.out).1).trans HB.out
   have c02 := cell_of_row _ Bz 0 _ _ _ hB2
   simp only [List.getElem?_toArray, List.getElem?_cons_zero] at c02
   clear hb2 hb3 hHeld hran2 hB2 c0
   cases q with
   | false =>
    have Hn := Lib.hid (show ((l.take (i + 1)).filter fun x => (ups (l.map (·.1)) x.1.idx).any fun a => a.idx == n) = out from by rw [Htk.out, Hout.out, if_neg (by rw [Hq.out]; simp)]; simp)
    go_wp2
    exact ⟨⟨i + 1, _, by omega, rfl, rfl, by rw [Hn.out]; exact Hown2.out, Hbx2.out⟩, by simp [intOf]; omega⟩
   | true =>
    have Hn := Lib.hid (show ((l.take (i + 1)).filter fun x => (ups (l.map (·.1)) x.1.idx).any fun a => a.idx == n) = out ++ [x] from by rw [Htk.out, Hout.out, if_pos Hq.out])
    have Hnews := Lib.hid (row_new W2 (dvC x.1 x.2) 34)
    have Hones := Lib.hid (dvC_one Hax.out.one (a := x.1))
    have Hbase := Lib.hid (show Bz + 1 ≤ (W2.alloc (.cells (dvC x.1 x.2).toArray 34)).heap.size from by
     rw [World.size_alloc]
     have := Hbx2.out.size
     have := HS0.out
     omega)
    have hrow2 : W2.ownsRow (Bz + 1) 34 10 (.slice va L vc) L (dvsC out) := by
     have := Hown2.out.row
     rw [HL.out] at this
     exact this
    have Hrow2 := Lib.hid hrow2
    clear hrow2
    go_wp2_with (first
     | (refine wpList_load_mid rfl 34 _ rfl g (o + i * 10) rfl (dvC x.1 x.2) _ Hran2.out Tryz.underlying34 rfl info34b ?_)
     | (refine wpList_build_row rfl 22 34 _ rfl (dvC x.1 x.2).toArray i0 _ rfl Tryz.underlying22 hi0 hz0 (by rw [hz1]; rfl) (by show 0 < 10; omega) (by show (10 : Nat) ≤ 2 ^ 24; omega) ?_)
     | (at_builtin; refine wpList_append_own _ rfl _ _ 22 rfl (Bz + 1) 34 i0 _ 10 136 Tryz.underlying22 hi0 hz0 hz1 hz2 rfl (by decide) _ L (dvsC out) rfl (Hrow2.out.alloc _) ⟨W2.heap.size, 0, none⟩ 1 1 (dvC x.1 x.2) rfl rfl Hnews.out Hones.out (by unfold maxLen; omega) (by omega) Hbase.out ?_; intro v3 w3 hown3 hgr3 _; have Hown3 := Lib.hid hown3; have Hgr3 := Lib.hid hgr3; clear hown3 hgr3))
    have hgb : ∀ k, (Value.slice va L vc).ownBlock = some k → W0.heap.size ≤ k := fun k hk => by
     have h1 := (Hown2.out.row.lt k hk).1
     have h2 := HS0.out
     omega
    have hx3 : Below W0.heap.size W0 w3 := (Hbx2.out.alloc Hbx2.out.size (.cells (dvC x.1 x.2).toArray 34)).grown Hgr3.out (by rw [World.size_alloc]; have := Hbx2.out.size; omega) hgb
    have hw3 : Below w.heap.size w w3 := Hb0.out.trans (hx3.mono Hb0.out.size)
    have hsub3 : ∀ y ∈ out ++ [x], y ∈ l := fun y hy => by
     rcases List.mem_append.1 hy with hy | hy
     ·rw [← Hout.out] at hy
      exact List.mem_of_mem_take (List.mem_filter.1 hy).1
     ·rw [List.mem_singleton.1 hy]
      exact Hxm.out
    have hown3 : DOwn w3 (Bz + 1) v3 (out ++ [x]) := ⟨by
     have h1 : (out ++ [x]).length = L + 1 := by rw [List.length_append, HL.out]; rfl
     have h2 : dvsC (out ++ [x]) = dvsC out ++ dvC x.1 x.2 := by rw [dvsC_append]; simp [dvsC]
     rw [h1, h2]
     exact Hown3.out, fun y hy => (HD.out.below hw3).ats y (hsub3 y hy)⟩
    have Hend := Lib.hid (And.intro hown3 hx3)
    clear hgb hx3 hw3 hsub3 hown3
    exact ⟨⟨i + 1, _, by omega, rfl, rfl, by rw [Hn.out]; exact Hend.out.1, Hend.out.2⟩, by simp [intOf]; omega⟩
  ·obtain rfl : i = N := by omega
   have Hfin := Lib.hid (show (l.filter fun x => (ups (l.map (·.1)) x.1.idx).any fun a => a.idx == n) = out from by
    rw [← Hout.out, ← HN.out, List.take_length])
   go_wp2
   go_ret
   exact ⟨_, rfl, by rw [Hfin.out]; exact ⟨ownsRow_mono' Hown.out.row (by have := HS0.out; have := Hb0.out.size; omega), Hown.out.ats⟩, by first | exact Hbw.out | (rw [← hBz]; exact Hbw.out)⟩
end Go.Proofs.YtldcediiobfhiaaGreatDoor.De
