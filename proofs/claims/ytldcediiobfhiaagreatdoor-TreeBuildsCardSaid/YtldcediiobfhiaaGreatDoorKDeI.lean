/- Ancestors. -/
import Derived.Test.YtldcediiobfhiaaGreatDoorKDf
namespace Go.Proofs.YtldcediiobfhiaaGreatDoor.De
open Go.RowKit Go.Maps
theorem collect_any (w : World) (Bd Bv V M N c : Nat) (par : Int) (a : Option Addr) (l : List DV) (D : DataW Unit)
  (hwf : (Lit.int .i64 par).wf = true) (hwl : ∀ x ∈ l, (Lit.int .i64 x.1.par).wf = true) (hsl : ∀ x ∈ l, ∃ b n c, x.2 = .slice b n c) (hI : It w.heap.size w Bd Bv V M N c par a l D) :
  Calls Tryz.prog 75 #[.func (.func 110) #[] #[.pointer (some ⟨Bd, 0, none⟩), .pointer (some ⟨Bv, 0, none⟩)]] w fun e w' => ∃ u, e = .returned u ∧ w'.ownsRow w.heap.size 34 10 u (ancL l 7 par).length (dvsC (ancL l 7 par)) ∧ Below w.heap.size w w' := by
 have HA := Lib.hid (appendSeq_any w Bd Bv V M N c par a l D hwf hwl hsl hI)
 clear hI
 go_enter Tryz.func75, Tryz.ntmps75
 go_wp2_with (go_at_call 109; refine Calls.mono (by with_reducible exact HA.out) ?_; rintro e w2 ⟨u, rfl, ho, hb⟩)
 go_ret
 exact ⟨_, rfl, ho, hb⟩
theorem anc_any (V : Nat) (a : ADev) (v : Value) (w : World) : Calls Tryz.prog 76 #[.pointer (some ⟨V, 0, none⟩), .agg (dvC a v).toArray] w fun e w' =>
  e = .returned (.func (.func 110) #[] #[.pointer (some ⟨w.heap.size + 1, 0, none⟩), .pointer (some ⟨w.heap.size, 0, none⟩)]) ∧ w' = (w.alloc (.cells #[.pointer (some ⟨V, 0, none⟩)] 64)).alloc (.cells (dvC a v).toArray 34) := by
 unfold dvC
 go_enter Tryz.func76, Tryz.ntmps76
 go_wp2
 go_ret
 exact ⟨rfl, rfl⟩
def ancOf (l : List DV) (n : Int) : List DV := match lastI (l.map (·.1)) n with
 | none => []
 | some q => match l[q]? with
  | none => []
  | some x => ancL l 7 x.1.par
theorem ancOf_mem {l : List DV} {n : Int} {x : DV} (h : x ∈ ancOf l n) : x ∈ l := by
 unfold ancOf at h
 split at h
 ·cases h
 ·split at h
  ·cases h
  ·exact ancL_mem _ _ _ h
set_option maxRecDepth 100000 in
set_option maxHeartbeats 4000000 in
theorem ancestors_any (sv : Value) (l : List DV) (n : Int) (w : World) (hl : l.length ≤ 1000000) (hal : ∀ x ∈ l, x.1.ats.length ≤ 1000000) (h : DHas w sv l) (hc : ∀ a n c, sv = .slice a n c → n ≤ c)
  (hwf : ∀ x ∈ l, (Lit.int .i64 x.1.idx).wf = true) (hwp : ∀ x ∈ l, (Lit.int .i64 x.1.par).wf = true) (hn : (Lit.int .i64 n).wf = true) :
  Calls Tryz.prog 34 #[.agg #[sv], .int .i64 n] w fun e w' => ∃ u L, e = .returned u ∧ L.map (·.1) = (ancOf l n).map (·.1) ∧ DHas w' u L ∧ (∀ x ∈ L, x.1.ats ≠ [] → ∀ b, x.2.ownBlock = some b → w.heap.size ≤ b) ∧ Below w.heap.size w w' := by
 obtain ⟨a0, c0, rfl, hrow⟩ := h.form
 have hboxw := heap_alloc_last w (.cells #[.slice a0 l.length c0] 29)
 have hb0 := (Below.refl _ w).alloc (Nat.le_refl _) (.cells #[.slice a0 l.length c0] 29)
 have hs1 : (w.alloc (.cells #[.slice a0 l.length c0] 29)).heap.size = w.heap.size + 1 := by simp
 have HAts := Lib.hid (show ∀ x ∈ l, Has w x.2 x.1.ats by
  rcases h with ⟨a, c, hv, rfl⟩ | ⟨g, o, c, hv, _, _, hr⟩
  ·intro x hx
   cases hx
  ·exact hr.ats)
 obtain ⟨W1, hW1⟩ : ∃ W1, w.alloc (.cells #[.slice a0 l.length c0] 29) = W1 := ⟨_, rfl⟩
 rw [hW1] at hboxw hb0 hs1
 have HV := Lib.hid (viewOf_any (.slice a0 l.length c0) l W1 hl (h.below hb0) hc hwf)
 have b0 : W1.cell? ⟨w.heap.size, 0, none⟩ = some (.slice a0 l.length c0) := by rw [cell_of_row _ _ 0 _ _ _ hboxw]; rfl
 have HB0 := Lib.hid hb0
 have HBx := Lib.hid hboxw
 have HRow := Lib.hid hrow
 have Hn := Lib.hid hn
 have Hwp := Lib.hid hwp
 have Hl := Lib.hid hl
 have Hal := Lib.hid hal
 have Hs1 := Lib.hid hs1
 obtain ⟨N, hN⟩ : ∃ N, l.length = N := ⟨_, rfl⟩
 have HN := Lib.hid hN
 rw [hN] at hW1 HV b0 HBx ⊢
 clear h hrow hboxw hb0 hs1 hc hwf hwp hn hal hl hN
 go_enter Tryz.func34, Tryz.ntmps34
 go_upto_region 2 with (go_at_call 52; refine Calls.mono (by with_reducible exact HV.out) ?_; rintro e w2 ⟨V, M, D, sv', rfl, hV1, hM1, hvw, hb1⟩)
 obtain ⟨a, c, rfl, hrv⟩ := hvw.dev.form
 have v0 : w2.cell? ⟨V, 0, none⟩ = some (.slice a l.length c) := by rw [cell_of_row _ _ _ _ _ _ hvw.box]; rfl
 have v1 : w2.cell? ⟨V, 1, none⟩ = some (.map (some M)) := by rw [cell_of_row _ _ _ _ _ _ hvw.box]; rfl
 have HO := Lib.hid hvw.map.own
 have HVw := Lib.hid hvw
 have HB1 := Lib.hid hb1
 have HBall := Lib.hid (HB0.out.trans (hb1.mono (by have := Hs1.out; omega)))
 have bx := (hb1.cell (p := ⟨w.heap.size, 0, none⟩) (block_lt HBx.out)).trans b0
 have Hbx := Lib.hid bx
 cases hp : lastI (l.map (·.1)) n with
 | none =>
  have hh := hvw.map.has n Hn.out
  rw [hp] at hh
  have Hh := Lib.hid hh
  have hz : ancOf l n = [] := by unfold ancOf; rw [hp]
  have HZ := Lib.hid hz
  clear hh hz hp hvw hb1 hrv
  go_wp2_with (at_lookup; refine wpList_lookup_own_ok_int _ rfl _ _ 82 rfl 3 3 .i64 lawI Tryz.underlying82 Tryz.underlying3 (Tryz.zeroValue3 _) M l.length D rfl HO.out _ _ rfl (keyI Hn.out) ?_; intro c hat hwc; rw [Hh.out]; clear hat hwc)
  go_ret
  exact ⟨_, [], rfl, by rw [HZ.out], .inl ⟨none, 0, rfl, rfl⟩, fun _ h => (by cases h), HBall.out⟩
 | some q =>
  obtain ⟨y, hy, -⟩ := lastI_some hp
  rw [List.getElem?_map, Option.map_eq_some_iff] at hy
  obtain ⟨x, hx, -⟩ := hy
  have hxm := List.mem_of_getElem? hx
  have hqN : q < N := by
   rw [← HN.out]
   exact (List.getElem?_eq_some_iff.1 hx).1
  have hqz : (q : Int) < (N : Int) := by omega
  have hz : ancOf l n = ancL l 7 x.1.par := by unfold ancOf; rw [hp]; simp only [hx]
  have HZ := Lib.hid hz
  obtain ⟨g, o, rfl, hcap, hg, hr⟩ := HRow.out (fun e => by rw [e] at hx; simp at hx)
  have Hran := Lib.hid ((hr.below hg HBall.out).at_ q x hx)
  have Hpx := Lib.hid (Hwp.out x hxm)
  have hh := hvw.map.has n Hn.out
  have hat' := hvw.map.val n q Hn.out hp
  rw [hp] at hh
  have Hh := Lib.hid hh
  have Hat := Lib.hid hat'
  have Hsl := Lib.hid (show ∀ x ∈ l, ∃ b n c, x.2 = .slice b n c from fun y hy => by
   obtain ⟨b, c, hv, -⟩ := (HAts.out y hy).form
   exact ⟨b, _, c, hv⟩)
  obtain ⟨ax, vx⟩ := x
  obtain ⟨vb, vn, vc, hvx⟩ := Hsl.out _ hxm
  simp only at hvx Hran Hpx HZ
  subst hvx
  have HI1 := Lib.hid (show (Tryz.prog.info? 34).map (·.size) = some (dvC ax (.slice vb vn vc)).length from info34b)
  have HC1 := Lib.hid (fun W => anc_any V ax (.slice vb vn vc) W)
  -- what the iterator reads, in the world behind its making
  obtain ⟨w3, hw3⟩ : ∃ w3, (w2.alloc (.cells #[.pointer (some ⟨V, 0, none⟩)] 64)).alloc (.cells (dvC ax (.slice vb vn vc)).toArray 34) = w3 := ⟨_, rfl⟩
  have hz2 : w3.heap.size = w2.heap.size + 1 + 1 := by rw [← hw3]; simp
  have hb23 : Below w2.heap.size w2 w3 := by rw [← hw3]; exact ((Below.refl _ w2).alloc (Nat.le_refl _) _).alloc (by simp) _
  have hbv : w3.heap[w2.heap.size]? = some (.cells #[.pointer (some ⟨V, 0, none⟩)] 64 (0, 0)) := by rw [← hw3]; exact heap_alloc2_old w2 _ _
  have hbd : w3.heap[w2.heap.size + 1]? = some (.cells (dvC ax (.slice vb vn vc)).toArray 34 (0, 0)) := by
   have := heap_alloc_last (w2.alloc (.cells #[.pointer (some ⟨V, 0, none⟩)] 64)) (.cells (dvC ax (.slice vb vn vc)).toArray 34)
   rw [hw3] at this
   simpa using this
  have hvl := block_lt hvw.box
  have hml := hvw.map.lt
  have hIt : It w3.heap.size w3 (w2.heap.size + 1) w2.heap.size V M l.length c ax.par a l D :=
   ⟨by rw [cell_of_row _ _ _ _ _ _ hbd]; rfl, by omega, by rw [cell_of_row _ _ _ _ _ _ hbv]; rfl, by omega, (hb23.cell (p := ⟨V, 0, none⟩) hvl).trans v0, (hb23.cell (p := ⟨V, 1, none⟩) hvl).trans v1, by omega,
    hvw.map.below hb23, by omega, rfl, fun hne => by
     obtain ⟨g', o', e, _, hg', hr'⟩ := hrv hne
     exact ⟨g', o', e, by omega, fun j y hy => (hr'.below hg' hb23).at_ j y hy⟩⟩
  have HC2 := Lib.hid (collect_any w3 _ _ _ _ _ _ _ _ _ _ Hpx.out Hwp.out Hsl.out hIt)
  have HBw3 := Lib.hid (HBall.out.trans (hb23.mono HBall.out.size))
  have HW3 := Lib.hid hw3
  clear hh hat' hz hp hvw hb1 hrv hr hx hIt hz2 hb23 hbv hbd hvl hml hw3
  go_wp2_with (first
   | (at_lookup; refine wpList_lookup_own_ok_int _ rfl _ _ 82 rfl 3 3 .i64 lawI Tryz.underlying82 Tryz.underlying3 (Tryz.zeroValue3 _) M l.length D rfl HO.out _ _ rfl (keyI Hn.out) ?_; intro c hat hwc; rw [Hh.out]; rw [Hat.out] at hat; obtain rfl : (q : Int) = c := (by simpa using hat); clear hat hwc)
   | (refine wpList_load_mid rfl 34 _ rfl g (o + q * 10) rfl (dvC ax (.slice vb vn vc)) _ (by with_reducible exact Hran.out) Tryz.underlying34 rfl HI1.out ?_)
   | (go_at_call 76; refine Calls.mono (by with_reducible exact HC1.out _) ?_; rintro e w3' ⟨rfl, rfl⟩; rw [HW3.out])
   | (go_at_call 75; refine Calls.mono (by with_reducible exact HC2.out) ?_; rintro e w4 ⟨u, rfl, ho, hb4⟩))
  have hbw4 := HBw3.out.trans (hb4.mono HBw3.out.size)
  have hown : DOwn w4 w3.heap.size u (ancL l 7 ax.par) := ⟨ho, fun y hy => (HAts.out y (ancL_mem _ _ _ hy)).below hbw4⟩
  refine (clones_any u (ancL l 7 ax.par) w4 (by have := ancL_len (l := l) 7 ax.par; omega) (fun y hy => Hal.out y (ancL_mem _ _ _ hy)) hown.has).mono ?_
  rintro e w5 ⟨u2, L, rfl, hL, hD, hfr, hb5⟩
  have HFr := Lib.hid (show ∀ x ∈ L, x.1.ats ≠ [] → ∀ b, x.2.ownBlock = some b → w.heap.size ≤ b from fun x hx hne b hb => Nat.le_trans hbw4.size (hfr x hx hne b hb))
  have HE := Lib.hid (show L.map (·.1) = (ancOf l n).map (·.1) by rw [hL, HZ.out])
  have HD := Lib.hid hD
  have HB5 := Lib.hid (hbw4.trans (hb5.mono hbw4.size))
  clear ho hb4 hbw4 hown hL hD hb5 hfr
  go_wp2
  go_ret
  exact ⟨_, L, rfl, HE.out, HD.out, HFr.out, HB5.out⟩
end Go.Proofs.YtldcediiobfhiaaGreatDoor.De
