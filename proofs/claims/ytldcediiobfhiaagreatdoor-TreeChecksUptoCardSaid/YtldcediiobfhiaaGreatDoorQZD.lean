/- The program's Check of any list, whatever the length of its texts. The reference's Check of any list. A row of devices that is written in the middle. -/
import Derived.Test.YtldcediiobfhiaaGreatDoorQZ9
import Derived.Test.YtldcediiobfhiaaGreatDoorQZ4
import Derived.Test.YtldcediiobfhiaaGreatDoorQZ3
import Derived.Test.YtldcediiobfhiaaGreatDoorQXt
import Derived.Deep.MidRow
namespace Go.Proofs.YtldcediiobfhiaaGreatDoor.De
open Go.RowKit Go.Maps
theorem chk_name {d : Dev} {la : List Atr} (h : checkE d la = 0) : d.name.size ≤ 300 := by
 unfold checkE at h
 by_cases h1 : placeB d = false
 ·rw [if_pos h1] at h; cases h
 rw [if_neg h1] at h
 by_cases h2 : textsB d = false
 ·rw [if_pos h2] at h; cases h
 have h6 : textsB d = true := by simpa using h2
 unfold textsB at h6
 simp only [Bool.and_eq_true] at h6
 have h7 := h6.1
 unfold validB Nm.nameB at h7
 simp only [Bool.and_eq_true, decide_eq_true_eq] at h7
 have h8 := h7.1.1.2
 have h9 : d.name.data.toList.length = d.name.size := Array.length_toList
 omega
/-- What Check asks of the devices that it is given, of moderate length. -/
structure ROk (l : List DV) : Prop where
 n : l.length ≤ 90000
 wi : ∀ x ∈ l, (Lit.int .i64 x.1.idx).wf = true
 wp : ∀ x ∈ l, (Lit.int .i64 x.1.par).wf = true
 s : ∀ x ∈ l, Sized (devOf x.1 x.2) x.1.ats
 a : ∀ x ∈ l, x.1.ats.length ≤ 9223372036854775807
theorem tok_nil : TOk ([] : List DV) := ⟨by simp, fun _ h => (by cases h), fun _ h => (by cases h), fun _ h => (by cases h), fun _ h => (by cases h)⟩
theorem tok_snoc {l : List DV} (h : TOk l) {x : DV} (hn : l.length < 100000) (hi : (Lit.int .i64 x.1.idx).wf = true) (hp : (Lit.int .i64 x.1.par).wf = true) (hc : checkE (devOf x.1 x.2) x.1.ats = 0) : TOk (l ++ [x]) := by
 have h1 := (chk_small hc).1
 have h2 := chk_name hc
 refine ⟨by rw [List.length_append, List.length_singleton]; omega, fun y hy => ?_, fun y hy => ?_, fun y hy => ?_, fun y hy => ?_⟩
 all_goals (rcases List.mem_append.1 hy with g | g)
 ·exact h.wi y g
 ·rw [List.mem_singleton.1 g]; exact hi
 ·exact h.wp y g
 ·rw [List.mem_singleton.1 g]; exact hp
 ·exact h.o y g
 ·rw [List.mem_singleton.1 g]; exact h1
 ·exact h.m y g
 ·rw [List.mem_singleton.1 g]; exact h2
theorem next_sound {l : List DV} {d : Dev} {la : List Atr} (h : nextT l d la = 0) : checkE d la = 0 := by
 cases Classical.em (checkE d la = 0) with
 | inl h0 => exact h0
 | inr h0 =>
  have hA : admT (l.map (·.1)) d la = 41 := by unfold admT; rw [if_pos h0]
  unfold nextT at h
  rw [hA, if_pos (by decide)] at h
  cases h
set_option maxRecDepth 100000 in
set_option maxHeartbeats 4000000 in
theorem checkNextBad_any {w : World} {V M : Nat} {sv : Value} {l : List DV} {D : DataW Unit} (hV : View w V sv M l D) (d : Dev) (la : List Atr) (hd : Has w d.av la) (hs : Sized d la) (hbad : checkE d la ≠ 0) (hla : la.length ≤ 9223372036854775807) (hm : Max w) (hi : (Lit.int .i64 d.idx).wf = true) (hp : (Lit.int .i64 d.par).wf = true) :
  Calls Tryz.prog 53 #[.pointer (some ⟨V, 0, none⟩), devV d] w fun e w' => e = .returned (.int .i64 (nextT l d la)) ∧ Kp [] w w' := by
 obtain ⟨b, c, hav, -⟩ := hd.form
 obtain ⟨n, hn⟩ : ∃ n, la.length = n := ⟨_, rfl⟩
 rw [hn] at hav
 obtain ⟨W1, hW1⟩ : ∃ W1, w.alloc (.cells #[.int .i64 d.idx, .int .i64 d.par, .string d.name, .string d.orig, .string d.sub, .string d.drv, .string d.ali, .int .i64 d.kind, .int .i64 d.num, .slice b n c] 34) = W1 := ⟨_, rfl⟩
 obtain ⟨B, hB⟩ : ∃ B, w.heap.size = B := ⟨_, rfl⟩
 have hk1 : Kp [] w W1 := by rw [← hW1]; exact (Kp.refl [] w).alloc _
 have hbx : BoxAt W1 B #[.int .i64 d.idx, .int .i64 d.par, .string d.name, .string d.orig, .string d.sub, .string d.drv, .string d.ali, .int .i64 d.kind, .int .i64 d.num, .slice b n c] := by rw [← hW1, ← hB]; exact heap_alloc_last w _
 have hV1 := hV.below hk1.bel
 have HA := Lib.hid (admit_any hV1 d la (hd.below hk1.bel) hs hla (hm.kp hk1) hi hp)
 have HK := Lib.hid hk1
 have hAe : admT (l.map (·.1)) d la = 41 := by unfold admT; rw [if_pos hbad]
 have hR : nextT l d la = 41 := by unfold nextT; rw [hAe, if_pos (by decide)]
 rw [hR]
 rw [hAe] at HA
 have HBXk := Lib.hid (fun W (h : Kp [] W1 W) => box_row hbx h)
 have Hav := Lib.hid hav
 clear hV hV1 hm hk1 hbx hR hAe hd hs hi hp hn hbad
 obtain ⟨di, dp, dn, dor, du, dd, dl, dk, dm, dv⟩ := d
 simp only at hav
 subst hav
 unfold devV devC at *
 simp only at HA HBXk hW1 ⊢
 go_enter Tryz.func53, Tryz.ntmps53
 have HKw := Kp.refl [] W1
 have cx0 : W1.cell? ⟨B, 0, none⟩ = some (.int .i64 di) := (HBXk.out _ HKw).cell 0
 have cx1 : W1.cell? ⟨B, 1, none⟩ = some (.int .i64 dp) := (HBXk.out _ HKw).cell 1
 have cx2 : W1.cell? ⟨B, 2, none⟩ = some (.string dn) := (HBXk.out _ HKw).cell 2
 have cx3 : W1.cell? ⟨B, 3, none⟩ = some (.string dor) := (HBXk.out _ HKw).cell 3
 have cx4 : W1.cell? ⟨B, 4, none⟩ = some (.string du) := (HBXk.out _ HKw).cell 4
 have cx5 : W1.cell? ⟨B, 5, none⟩ = some (.string dd) := (HBXk.out _ HKw).cell 5
 have cx6 : W1.cell? ⟨B, 6, none⟩ = some (.string dl) := (HBXk.out _ HKw).cell 6
 have cx7 : W1.cell? ⟨B, 7, none⟩ = some (.int .i64 dk) := (HBXk.out _ HKw).cell 7
 have cx8 : W1.cell? ⟨B, 8, none⟩ = some (.int .i64 dm) := (HBXk.out _ HKw).cell 8
 have cx9 : W1.cell? ⟨B, 9, none⟩ = some (.slice b n c) := (HBXk.out _ HKw).cell 9
 clear HKw
 go_wp2_with (go_at_call 79; refine Calls.mono (by with_reducible exact HA.out) ?_; rintro e W2 ⟨rfl, hk2⟩; have HK2 := Lib.hid (HK.out.trans hk2); clear hk2)
 go_ret
 exact ⟨rfl, HK2.out⟩
theorem nextR_any {w : World} {V M : Nat} {sv : Value} {l : List DV} {D : DataW Unit} (hV : View w V sv M l D) (ht : TOk l) (d : Dev) (la : List Atr) (hd : Has w d.av la) (hs : Sized d la) (hla : la.length ≤ 9223372036854775807) (hm : Max w) (hi : (Lit.int .i64 d.idx).wf = true) (hp : (Lit.int .i64 d.par).wf = true) :
  Calls Tryz.prog 53 #[.pointer (some ⟨V, 0, none⟩), devV d] w fun e w' => e = .returned (.int .i64 (nextT l d la)) ∧ Kp [] w w' := by
 by_cases hc : checkE d la = 0
 ·exact checkNext_any hV ht d la hd hs (chk_small hc).1 hla hm hi hp
 ·exact checkNextBad_any hV d la hd hs hc hla hm hi hp
set_option maxRecDepth 100000 in
set_option maxHeartbeats 8000000 in
theorem checkTreeR_any (sv : Value) (l : List DV) (w : World) (hc : ROk l) (h : DHas w sv l) (hm : Max w) :
  Calls Tryz.prog 16 #[.agg #[sv]] w fun e w' => e = .returned (.int .i64 (treeT l)) ∧ Kp [] w w' := by
 obtain ⟨a, c, rfl, hrow⟩ := h.form
 obtain ⟨L, hL⟩ : ∃ L, l.length = L := ⟨_, rfl⟩
 obtain ⟨R, hR⟩ : ∃ R, treeT l = R := ⟨_, rfl⟩
 have hsl := h.slices
 rw [hR]
 unfold treeT at hR
 rw [hL] at hR ⊢
 obtain ⟨W1, hW1⟩ : ∃ W1, w.alloc (.cells #[.slice a L c] 29) = W1 := ⟨_, rfl⟩
 obtain ⟨Bz, hBz⟩ : ∃ B, w.heap.size = B := ⟨_, rfl⟩
 have hk1 : Kp [] w W1 := by rw [← hW1]; exact (Kp.refl [] w).alloc _
 have hbx : W1.heap[Bz]? = some (.cells #[.slice a L c] 29 (0, 0)) := by rw [← hW1, ← hBz]; exact heap_alloc_last w _
 have c0 : W1.cell? ⟨Bz, 0, none⟩ = some (.slice a L c) := by rw [cell_of_row _ _ 0 _ _ _ hbx]; rfl
 have HK1 := Lib.hid hk1
 by_cases h256 : 256 < L
 ·have hz : (256 : Int) < (L : Int) := by omega
  have HR := Lib.hid (show R = 40 from hR.symm.trans (if_pos h256))
  clear hR hc h hm hrow hL hk1 hbx hsl h256
  go_enter Tryz.func16, Tryz.ntmps16
  go_wp2
  go_ret
  exact ⟨by rw [HR.out]; rfl, HK1.out⟩
 have hz : ¬ (256 : Int) < (L : Int) := by omega
 have HR := Lib.hid ((if_neg h256).symm.trans hR)
 have HV := Lib.hid (viewOf0_any W1)
 have HL := Lib.hid hL
 have HC := Lib.hid hc
 have HD1 := Lib.hid (h.below hk1.bel)
 have HM1 := Lib.hid (hm.kp hk1)
 have HRow := Lib.hid (fun (hne : l ≠ []) => hrow hne)
 have Hbx := Lib.hid hbx
 have HSL := Lib.hid hsl
 have H256 := Lib.hid h256
 clear hR hc h hm hrow hL hk1 hbx hsl h256
 go_enter Tryz.func16, Tryz.ntmps16
 go_upto_region 4 with (go_at_call 52; refine Calls.mono (by with_reducible exact HV.out) ?_; rintro e W2 ⟨V, M, D0, rfl, hO⟩; have HO := Lib.hid hO; have c2 : W2.cell? ⟨Bz, 0, none⟩ = some (.slice a L c) := ((hO.bel.cell (World.block_lt_of_cell? W1 _ c0)).trans c0); clear hO)
 clear c0
 go_wp2
 go_loopw [16] (fun s16 wx => ∃ (i B : Nat) (svv : Value) (D : DataW Unit), i ≤ L ∧ s16 = .int .i64 (i : Int) ∧ OView W1 wx V M B svv (l.take i) D ∧ TOk (l.take i) ∧ chkG (l.take i) (l.drop i) = R) (fun s16 _ => L - (intOf s16).toNat)
 case atStart => exact ⟨0, _, _, D0, by omega, rfl, HO.out, tok_nil, HR.out⟩
 case round =>
  clear HO c2
  obtain ⟨i, B, svv, D, hi, rfl, hO, hTk, hR⟩ := hrel
  by_cases hlt : i < L
  ·have hiz : (i : Int) < (L : Int) := by omega
   obtain ⟨x, hx⟩ : ∃ x, l[i]? = some x := ⟨l[i]'(by rw [HL.out]; exact hlt), List.getElem?_eq_getElem _⟩
   obtain ⟨g, o, rfl, hcap, hg, hr⟩ := HRow.out (fun e => by rw [e] at hx; simp at hx)
   have hxm := List.mem_of_getElem? hx
   obtain ⟨vb, vn, vc, hv⟩ := HSL.out x hxm
   have hr1 := hr.below hg HK1.out.bel
   have hg1 : g < W1.heap.size := Nat.lt_of_lt_of_le hg HK1.out.size
   have hran := (hr1.below hg1 hO.bel).at_ i x hx
   have hat := hr1.ats x hxm
   have hcs := HC.out.s x hxm
   have hca := HC.out.a x hxm
   have hwi := HC.out.wi x hxm
   have hwp := HC.out.wp x hxm
   rw [chkG_at hx] at hR
   have htk : l.take (i + 1) = l.take i ++ [x] := by rw [List.take_add_one, hx]; rfl
   obtain ⟨ax, sx⟩ := x
   simp only at hv hran hat hcs hca hwi hwp hR
   subst hv
   have hst : (dvC ax (.slice vb vn vc)).toArray.all (·.oneCell') = true := by
    rw [Array.all_eq_true_iff_forall_mem]
    intro v hv
    exact dvC_one rfl v (by simpa using hv)
   obtain ⟨W3, hW3⟩ : ∃ W3, wr.alloc (.cells (dvC ax (.slice vb vn vc)).toArray 34) = W3 := ⟨_, rfl⟩
   have hk3 : Kp [] wr W3 := by rw [← hW3]; exact (Kp.refl [] wr).alloc _
   have hb3 : W3.heap[wr.heap.size]? = some (.cells (dvC ax (.slice vb vn vc)).toArray 34 (0, 0)) := by rw [← hW3]; exact heap_alloc_last wr _
   have hO3 := hO.kp hk3
   obtain ⟨E, hE⟩ : ∃ E, nextT (l.take i) (devOf ax (.slice vb vn vc)) ax.ats = E := ⟨_, rfl⟩
   have hcall : Calls Tryz.prog 53 #[.pointer (some ⟨V, 0, none⟩), .agg (dvC ax (.slice vb vn vc)).toArray] W3 fun e w' => e = .returned (.int .i64 E) ∧ Kp [] W3 w' := by
    rw [← hE]
    exact nextR_any hO3.view hTk (devOf ax (.slice vb vn vc)) ax.ats (hat.below hO3.bel) hcs hca (HM1.out.below hO3.bel) hwi hwp
   have HTN := Lib.hid (fun (h : E = 0) => tok_snoc hTk (x := (ax, .slice vb vn vc)) (by rw [List.length_take]; have := HC.out.n; omega) hwi hwp (next_sound (hE.trans h)))
   rw [hE] at hR
   have HRan := Lib.hid hran
   have HI1 := Lib.hid (show (Tryz.prog.info? 34).map (·.size) = some (dvC ax (.slice vb vn vc)).length from info34b)
   have HI2 := Lib.hid (show (Tryz.prog.info? 34).map (·.size) = some (dvC ax (.slice vb vn vc)).toArray.size from info34b)
   have Hst := Lib.hid hst
   have HB3 := Lib.hid hb3
   have HO3 := Lib.hid hO3
   have HRR := Lib.hid hR
   have Hcall := Lib.hid hcall
   have HAT := Lib.hid hat
   have HTK := Lib.hid htk
   have HWI := Lib.hid hwi
   have HX := Lib.hid hx
   clear hran hst hb3 hO3 hR hcall hat htk hwi hO hr hr1 hg hg1 hxm hcs hca hwp hcap hx hk3
   by_cases hE0 : E = 0
   ·subst hE0
    have HR2 := Lib.hid ((if_neg (by simp)).symm.trans HRR.out)
    clear HRR hE
    go_wp2_with (first
     | (refine wpList_load_mid rfl 34 _ rfl g (o + i * 10) rfl (dvC ax (.slice vb vn vc)) _ (by with_reducible exact HRan.out) Tryz.underlying34 rfl HI1.out ?_)
     | (refine wpList_store_new wr 34 _ (dvC ax (.slice vb vn vc)).toArray rfl _ _ rfl rfl rfl HI2.out rfl Hst.out ?_; rw [hW3])
     | (refine wpList_load_row rfl 34 _ rfl wr.heap.size rfl 34 (dvC ax (.slice vb vn vc)).toArray (0, 0) _ (by with_reducible exact HB3.out) Tryz.underlying34 rfl HI2.out ?_)
     | (refine wpList_load_row rfl 34 _ rfl wr.heap.size rfl 34 (dvC ax (.slice vb vn vc)).toArray (0, 0) _ (by with_reducible exact HB5.out) Tryz.underlying34 rfl HI2.out ?_)
     | (go_at_call 53; refine Calls.mono (by with_reducible exact Hcall.out) ?_; rintro e W5 ⟨rfl, hk5⟩; have HB5 := Lib.hid ((hk5.block _ (block_lt HB3.out) (by simp)).trans HB3.out); have HO5 := Lib.hid (HO3.out.kp hk5); have HADD := Lib.hid (show Calls Tryz.prog 54 #[.pointer (some ⟨V, 0, none⟩), .agg (dvC ax (.slice vb vn vc)).toArray] W5 _ from add_any HO5.out ax vb vn vc HAT.out HWI.out (by rw [List.length_take]; have := H256.out; omega)); clear hk5)
     | (go_at_call 54; refine Calls.mono (by with_reducible exact HADD.out) ?_; rintro e W6 ⟨rfl, sv6, D6, hO6⟩; have HO6 := Lib.hid hO6; clear hO6))
    exact ⟨⟨i + 1, B, sv6, D6, by omega, by go_num, by rw [HTK.out]; exact HO6.out, by rw [HTK.out]; exact HTN.out (by first | rfl | trivial), HR2.out⟩, by simp [intOf]; omega⟩
   ·have hEb : (E == 0) = false := beq_eq_false_iff_ne.2 hE0
    have HR2 := Lib.hid ((if_pos hE0).symm.trans HRR.out)
    clear HRR hE hE0
    go_wp2_with (first
     | (refine wpList_load_mid rfl 34 _ rfl g (o + i * 10) rfl (dvC ax (.slice vb vn vc)) _ (by with_reducible exact HRan.out) Tryz.underlying34 rfl HI1.out ?_)
     | (refine wpList_store_new wr 34 _ (dvC ax (.slice vb vn vc)).toArray rfl _ _ rfl rfl rfl HI2.out rfl Hst.out ?_; rw [hW3])
     | (refine wpList_load_row rfl 34 _ rfl wr.heap.size rfl 34 (dvC ax (.slice vb vn vc)).toArray (0, 0) _ (by with_reducible exact HB3.out) Tryz.underlying34 rfl HI2.out ?_)
     | (go_at_call 53; refine Calls.mono (by with_reducible exact Hcall.out) ?_; rintro e W5 ⟨rfl, hk5⟩; have HK5 := Lib.hid ((HK1.out.trans (Kp.of_below HO3.out.bel)).trans hk5); clear hk5))
    go_ret
    exact ⟨by rw [← HR2.out]; rfl, HK5.out⟩
  ·obtain rfl : i = L := by omega
   have hiz : ¬ (i : Int) < (i : Int) := by omega
   have HR2 := Lib.hid (show R = 0 from by rw [← hR, ← HL.out, List.drop_length]; rfl)
   have HK5 := Lib.hid (HK1.out.trans (Kp.of_below hO.bel))
   clear hO hR
   go_wp2
   go_ret
   exact ⟨by rw [HR2.out]; rfl, HK5.out⟩
end Go.Proofs.YtldcediiobfhiaaGreatDoor.De
namespace Go.Proofs.YtldcediiobfhiaaGreatDoor
open Go.RowKit
theorem own_snoc {l : List De.DV} {i : Nat} {x : De.DV} (hx : l[i]? = some x) (hv : De.Valid sndA clA ((l.take i).map (·.1))) (hs : sndA x.1 = true) (hf : De.fnd ((l.take i).map (·.1)) x.1.idx = none) (hp : x.1.par = 0 ∨ ∃ e ∈ (l.take i).map (·.1), e.idx = x.1.par) : orgL (l.take (i + 1)) x.1.idx = De.org ((l.take i).map (·.1)) x.1 := by
 have htk : l.take (i + 1) = l.take i ++ [x] := by rw [List.take_add_one, hx]; rfl
 have hi : i < l.length := (List.getElem?_eq_some_iff.1 hx).1
 have ht : De.Tidy ((l.take (i + 1)).map (·.1)) := by
  rw [htk, List.map_append]
  exact hv.tidy.snoc (snd_num hs).1 (De.fnd_none hf) hp
 rw [orgL_org ht (i := i) (x := x) (by rw [List.getElem?_take, if_pos (by omega), hx])]
 rw [htk, List.map_append] at ht ⊢
 unfold De.org
 rw [De.ups_append ht (by
  rcases hp with h | ⟨e, he, h⟩
  ·exact .inl h
  ·right
   cases hf2 : De.fnd ((l.take i).map (·.1)) x.1.par with
   | none => exact absurd h (De.fnd_none hf2 e he)
   | some d => exact ⟨d, rfl⟩)]
theorem last_take {l : List De.DV} {j : Nat} {y : De.DV} (hy : l[j]? = some y) : ((l.take (j + 1)).map (·.1)).getLast? = some y.1 := by
 rw [List.take_add_one, hy, List.map_append]
 simp
set_option maxHeartbeats 16000000 in
set_option maxRecDepth 100000 in
theorem refTree_any (sv : Value) (l : List De.DV) (w : World) (hc : De.ROk l) (h : De.DHas w sv l) (hm : De.Max w) :
  Calls Tryz.prog 17 #[.agg #[sv]] w fun e w' => e = .returned (.int .i64 (treeN (l.map (·.1)))) ∧ Kp [] w w' := by
 obtain ⟨ta, tc, rfl, hrow⟩ := h.form
 obtain ⟨N, hN⟩ : ∃ N, l.length = N := ⟨_, rfl⟩
 obtain ⟨T, hT⟩ : ∃ T, treeN (l.map (·.1)) = T := ⟨_, rfl⟩
 rw [hT]
 unfold treeN at hT
 rw [List.length_map, hN] at hT
 rw [hN]
 obtain ⟨Bz, hBz⟩ : ∃ B, w.heap.size = B := ⟨_, rfl⟩
 obtain ⟨W1, hW1⟩ : ∃ W1, w.alloc (.cells #[.slice ta N tc] 29) = W1 := ⟨_, rfl⟩
 have hk1 : Kp [] w W1 := by rw [← hW1]; exact (Kp.refl [] w).alloc _
 have hbx : W1.heap[Bz]? = some (.cells #[.slice ta N tc] 29 (0, 0)) := by rw [← hW1, ← hBz]; exact heap_alloc_last w _
 have HK1 := Lib.hid hk1
 have HN := Lib.hid hN
 have HC := Lib.hid hc
 have HB1 := Lib.hid hbx
 have HM1 := Lib.hid (hm.below hk1.bel)
 have HD1 := Lib.hid (h.below hk1.bel)
 have HRow := Lib.hid hrow
 have t0 := cell_one hbx
 clear hm h hc hrow hk1 hbx hN
 by_cases h256 : 256 < N
 ·have hz : (256 : Int) < (N : Int) := by omega
  have HT := Lib.hid (show T = 40 from hT.symm.trans (if_pos h256))
  clear hT
  go_enter Tryz.func17, Tryz.ntmps17
  go_wp2
  go_ret
  exact ⟨by rw [HT.out]; rfl, HK1.out⟩
 have hz : ¬ (256 : Int) < (N : Int) := by omega
 have HT := Lib.hid ((if_neg h256).symm.trans hT)
 clear hT
 go_enter Tryz.func17, Tryz.ntmps17
 go_wp2
 clear t0 hW1
 have HQk := Lib.hid (fun (W : World) (hk : Kp [] W1 W) => cell_one ((hk.block Bz (block_lt HB1.out) (by simp)).trans HB1.out))
 go_loopw [3] (fun s3 wx => ∃ i : Nat, i ≤ N ∧ s3 = .int .i64 (i : Int) ∧ Hid (De.Valid sndA clA ((l.take i).map (·.1))) ∧ Hid (chkLN ((l.take i).map (·.1)) ((l.drop i).map (·.1)) = T) ∧ Hid (Kp [] W1 wx)) (fun s3 _ => N - (intOf s3).toNat)
 case atStart => exact ⟨0, by omega, rfl, Lib.hid (.nil _ _), HT, Lib.hid (Kp.refl _ _)⟩
 case round =>
  clear HT
  obtain ⟨i, hi, rfl, HV, HR, HKr⟩ := hrel
  have t0 := HQk.out _ HKr.out
  by_cases hlt : i < N
  rotate_left
  ·obtain rfl : i = N := by omega
   have hiz : ¬ (i : Int) < (i : Int) := by omega
   have HT := Lib.hid (show T = 0 from by rw [← HR.out, ← HN.out, List.drop_length]; rfl)
   go_wp2
   go_ret
   exact ⟨by rw [HT.out]; rfl, HK1.out.trans HKr.out⟩
  have hiz : (i : Int) < (N : Int) := by omega
  have hwr : IntKind.i64.wrap ((i : Int) + 1) = ((i + 1 : Nat) : Int) := by rw [IntKind.wrap_i64]; omega
  obtain ⟨⟨⟨xi, xp, xn, xo, xu, xd, xl, xk, xm, xa⟩, xv⟩, hx⟩ : ∃ x, l[i]? = some x := ⟨l[i]'(by rw [HN.out]; exact hlt), List.getElem?_eq_getElem _⟩
  have HX := Lib.hid hx
  have hxm := List.mem_of_getElem? hx
  obtain ⟨g, o, rfl, hcp, hg, hrw⟩ := HRow.out (fun e => by rw [e] at hx; simp at hx)
  rw [HN.out] at hcp
  have HRw := Lib.hid (fun W (hk : Kp [] W1 W) => hrw.below hg (HK1.out.trans hk).bel)
  have HRx := Lib.hid (fun W (hk : Kp [] W1 W) => (show W.rangeAt g (o + i * 10) [.int .i64 xi, .int .i64 xp, .string xn, .string xo, .string xu, .string xd, .string xl, .int .i64 xk, .int .i64 xm, xv] from (HRw.out W hk).at_ i _ HX.out))
  have HDt := Lib.hid (fun W (hk : Kp [] W1 W) => dhas_take (r := i) (HRw.out W hk) (Nat.lt_of_lt_of_le hg (HK1.out.trans hk).size) HN.out hcp (by omega))
  have HDt1 := Lib.hid (fun W (hk : Kp [] W1 W) => dhas_take (r := i + 1) (HRw.out W hk) (Nat.lt_of_lt_of_le hg (HK1.out.trans hk).size) HN.out hcp (by omega))
  have HAx := Lib.hid (fun W (hk : Kp [] W1 W) => dhas_ats (HD1.out.below hk.bel) _ hxm)
  have HSz := Lib.hid (HC.out.s _ hxm)
  have HLa := Lib.hid (HC.out.a _ hxm)
  have hci : (i : Int) ≤ (tc : Int) := by omega
  have hci1 : (i : Int) + 1 ≤ (tc : Int) := by omega
  have hciN : ¬ tc < i := by omega
  have hi0 : ¬ (i : Int) + 1 < 0 := by omega
  have hciN1 : ¬ tc < i + 1 := by omega
  have HXo := Lib.hid (show (#[.int .i64 xi, .int .i64 xp, .string xn, .string xo, .string xu, .string xd, .string xl, .int .i64 xk, .int .i64 xm, xv] : Array Value).all (·.oneCell') = true from all_oneCell_toArray (De.dvC_one (a := ⟨xi, xp, xn, xo, xu, xd, xl, xk, xm, xa⟩) (HAx.out _ HKr.out).one))
  have HRr := Lib.hid (HRx.out _ HKr.out)
  obtain ⟨X, hX⟩ : ∃ X : De.ADev, (⟨xi, xp, xn, xo, xu, xd, xl, xk, xm, xa⟩ : De.ADev) = X := ⟨_, rfl⟩
  have HXe := Lib.hid hX
  have hdrop : l.drop i = (⟨xi, xp, xn, xo, xu, xd, xl, xk, xm, xa⟩, xv) :: l.drop (i + 1) := by
   obtain ⟨hil, he⟩ := List.getElem?_eq_some_iff.1 hx
   rw [List.drop_eq_getElem_cons hil, he]
  have htk : l.take (i + 1) = l.take i ++ [(⟨xi, xp, xn, xo, xu, xd, xl, xk, xm, xa⟩, xv)] := by rw [List.take_add_one, hx]; rfl
  have hR := HR.out
  rw [hdrop, List.map_cons, hX] at hR
  obtain ⟨P, hP⟩ : ∃ P, (l.take i).map (·.1) = P := ⟨_, rfl⟩
  have HPe := Lib.hid hP
  have hPN : (l.take (i + 1)).map (·.1) = P ++ [X] := by rw [htk, List.map_append, hP, ← hX]; rfl
  have HPN := Lib.hid hPN
  have hVP := HV.out
  rw [hP] at hR hVP
  rw [chkLN] at hR
  have HVP := Lib.hid hVP
  have HR2 := Lib.hid hR
  obtain ⟨ck, hck⟩ : ∃ z, De.checkE ⟨xi, xp, xn, xo, xu, xd, xl, xk, xm, xv⟩ xa = z := ⟨_, rfl⟩
  have HCK := Lib.hid (fun W (hk : Kp [] W1 W) => (show Calls Tryz.prog 55 #[.agg #[.int .i64 xi, .int .i64 xp, .string xn, .string xo, .string xu, .string xd, .string xl, .int .i64 xk, .int .i64 xm, xv]] W (De.Bel (.int .i64 ck) W) from by
   rw [← hck]
   exact De.refCheck_any ⟨xi, xp, xn, xo, xu, xd, xl, xk, xm, xv⟩ xa W HLa.out (HAx.out W hk) HSz.out (HM1.out.below hk.bel)))
  have HS := Lib.hid (show sndA X = decide (ck = 0) from by
   rw [← hX, ← hck]
   exact snd_chk ⟨xi, xp, xn, xo, xu, xd, xl, xk, xm, xv⟩ xa)
  have HSm := Lib.hid (fun (h0 : ck = 0) => (chk_small (d := ⟨xi, xp, xn, xo, xu, xd, xl, xk, xm, xv⟩) (la := xa) (hck.trans h0)).1)
  clear hR hVP hx hxm hdrop htk hrw hg hck HV HR HRow HD1 HSz HLa hP hPN
  have HI := Lib.hid (show X.idx = xi ∧ X.par = xp ∧ X.orig = xo from by rw [← hX]; exact ⟨rfl, rfl, rfl⟩)
  go_upto_region 7 with (first
   | (refine wpList_load_mid rfl 34 _ rfl g (o + i * 10) rfl [.int .i64 xi, .int .i64 xp, .string xn, .string xo, .string xu, .string xd, .string xl, .int .i64 xk, .int .i64 xm, xv] _ (by with_reducible exact HRr.out) Tryz.underlying34 rfl De.info34b ?_)
   | (refine De.wpList_store_new wr 34 _ #[.int .i64 xi, .int .i64 xp, .string xn, .string xo, .string xu, .string xd, .string xl, .int .i64 xk, .int .i64 xm, xv] rfl _ _ rfl rfl rfl De.info34b rfl HXo.out ?_))
  clear t0
  obtain ⟨D, hD⟩ : ∃ B, wr.heap.size = B := ⟨_, rfl⟩
  have hqn := heap_alloc_last wr (.cells #[.int .i64 xi, .int .i64 xp, .string xn, .string xo, .string xu, .string xd, .string xl, .int .i64 xk, .int .i64 xm, xv] 34)
  have hka := (Kp.refl [] wr).alloc (.cells #[.int .i64 xi, .int .i64 xp, .string xn, .string xo, .string xu, .string xd, .string xl, .int .i64 xk, .int .i64 xm, xv] 34)
  generalize wr.alloc (.cells #[.int .i64 xi, .int .i64 xp, .string xn, .string xo, .string xu, .string xd, .string xl, .int .i64 xk, .int .i64 xm, xv] 34) = w2 at *
  rw [hD] at hqn ⊢
  have HK2 := Lib.hid (HKr.out.trans hka)
  have HB2 := Lib.hid (show De.BoxAt w2 D #[.int .i64 xi, .int .i64 xp, .string xn, .string xo, .string xu, .string xd, .string xl, .int .i64 xk, .int .i64 xm, xv] from hqn)
  clear hqn hka hD hX
  have t0 := HQk.out _ HK2.out
  by_cases q1 : ck = 0
  rotate_left
  ·have q1n : (ck != 0) = true := by rw [bne, beq_eq_false_iff_ne.2 q1]; rfl
   have HT := Lib.hid (show T = 41 from by
    rw [← HR2.out]
    have hc : chkN P X = 41 := by unfold chkN; rw [if_pos (by rw [HS.out, decide_eq_false q1])]
    rw [hc, if_pos (by decide)])
   go_upto_region 9 with (first
    | (refine wpList_load_row rfl 34 _ rfl D rfl 34 #[.int .i64 xi, .int .i64 xp, .string xn, .string xo, .string xu, .string xd, .string xl, .int .i64 xk, .int .i64 xm, xv] (0, 0) _ HB2.out Tryz.underlying34 rfl De.info34b ?_)
    | (go_at_call 55; refine Calls.mono (by with_reducible exact HCK.out _ HK2.out) ?_; rintro e W3 ⟨rfl, hb1⟩; have HK3 := Lib.hid (HK2.out.trans (Kp.of_bel hb1)); clear hb1))
   go_wp2
   go_ret
   exact ⟨by rw [HT.out]; rfl, HK1.out.trans HK3.out⟩
  subst q1
  have HS1 := Lib.hid (show sndA X = true from by rw [HS.out]; rfl)
  have HXs := Lib.hid (HSm.out (by first | rfl | trivial))
  clear HS HSm
  go_upto_region 10 with (first
   | (refine wpList_load_row rfl 34 _ rfl D rfl 34 #[.int .i64 xi, .int .i64 xp, .string xn, .string xo, .string xu, .string xd, .string xl, .int .i64 xk, .int .i64 xm, xv] (0, 0) _ HB2.out Tryz.underlying34 rfl De.info34b ?_)
   | (go_at_call 55; refine Calls.mono (by with_reducible exact HCK.out _ HK2.out) ?_; rintro e W3 ⟨rfl, hb1⟩; have HK23 := Lib.hid (Kp.of_bel hb1); clear hb1))
  clear t0
  have HK3 := Lib.hid (HK2.out.trans HK23.out)
  have HB3 := Lib.hid (show De.BoxAt W3 D #[.int .i64 xi, .int .i64 xp, .string xn, .string xo, .string xu, .string xd, .string xl, .int .i64 xk, .int .i64 xm, xv] from (HK23.out.block D (block_lt HB2.out) (by simp)).trans HB2.out)
  have hln : (l.take i).length = i := by rw [List.length_take, HN.out]; omega
  have HIX := Lib.hid (fun n W (hk : Kp [] W1 W) => (show Calls Tryz.prog 56 #[.slice (some ⟨g, o, none⟩) i tc, .int .i64 n] W (De.Bel (.int .i64 (De.idxV (De.idxP P n))) W) from by
   rw [← HPe.out]
   exact De.refIndex_any (.slice (some ⟨g, o, none⟩) i tc) (l.take i) n W (by rw [hln]; omega) (HDt.out W hk)))
  have HIs := Lib.hid (fun (n z : Int) (hz : De.idxV (De.idxP P n) = z) => (show (0 ≤ z ∧ (De.fnd P n).isSome = true) ∨ (z = -1 ∧ De.fnd P n = none) from by
   have h := idx_some (l := l.take i) (n := n) (z := z) (by rw [HPe.out]; exact hz)
   rw [HPe.out] at h
   exact h))
  obtain ⟨z1, hz1⟩ : ∃ z, De.idxV (De.idxP P xi) = z := ⟨_, rfl⟩
  have HI1 := Lib.hid (fun W (hk : Kp [] W1 W) => by have := HIX.out xi W hk; rw [hz1] at this; exact this)
  have d0 : W3.cell? ⟨D, 0, none⟩ = some (.int .i64 xi) := HB3.out.cell 0
  rcases HIs.out xi z1 hz1 with ⟨hz, hsome⟩ | ⟨rfl, hnone⟩
  ·have HT := Lib.hid (show T = 44 from by
    rw [← HR2.out]
    have hc : chkN P X = 44 := by unfold chkN; rw [if_neg (by rw [HS1.out]; simp), if_pos (by rw [HI.out.1]; exact hsome)]
    rw [hc, if_pos (by decide)])
   clear hsome hz1
   go_upto_region 11 with (go_at_call 56; refine Calls.mono (by with_reducible exact HI1.out _ HK3.out) ?_; rintro e W4 ⟨rfl, hb2⟩; have HK4 := Lib.hid (HK3.out.trans (Kp.of_bel hb2)); clear hb2)
   go_wp2
   go_ret
   exact ⟨by rw [HT.out]; rfl, HK1.out.trans HK4.out⟩
  have HF := Lib.hid hnone
  clear hnone hz1
  go_upto_region 12 with (go_at_call 56; refine Calls.mono (by with_reducible exact HI1.out _ HK3.out) ?_; rintro e W4 ⟨rfl, hb2⟩; have HK34 := Lib.hid (Kp.of_bel hb2); clear hb2)
  clear d0 HI1
  have HK4 := Lib.hid (HK3.out.trans HK34.out)
  have HB4 := Lib.hid (show De.BoxAt W4 D #[.int .i64 xi, .int .i64 xp, .string xn, .string xo, .string xu, .string xd, .string xl, .int .i64 xk, .int .i64 xm, xv] from (HK34.out.block D (block_lt HB3.out) (by simp)).trans HB3.out)
  have d1 : W4.cell? ⟨D, 1, none⟩ = some (.int .i64 xp) := HB4.out.cell 1
  obtain ⟨z2, hz2⟩ : ∃ z, De.idxV (De.idxP P xp) = z := ⟨_, rfl⟩
  have HI2 := Lib.hid (fun W (hk : Kp [] W1 W) => by have := HIX.out xp W hk; rw [hz2] at this; exact this)
  obtain ⟨bad, hbad⟩ : ∃ b : Bool, b = true ↔ (X.par ≠ 0 ∧ De.fnd P X.par = none) := ⟨decide (X.par ≠ 0 ∧ De.fnd P X.par = none), by simp⟩
  have Hbad := Lib.hid hbad
  clear hbad
  go_cut [45] from 12 to 84 (fun s45 wx => s45 = .bool bad ∧ Hid (Kp [] W4 wx))
  case first =>
   by_cases p0 : xp = 0
   ·have Hb := Lib.hid (show bad = false from by
     cases hb : bad with
     | false => rfl
     | true => exact absurd (HI.out.2.1.trans p0) (Hbad.out.1 hb).1)
    subst p0
    go_wp2
    go_meet
    exact ⟨by rw [Hb.out], Lib.hid (Kp.refl _ _)⟩
   ·have p0n : (xp != 0) = true := by rw [bne, beq_eq_false_iff_ne.2 p0]; rfl
    have Hp0 := Lib.hid (show X.par ≠ 0 from by rw [HI.out.2.1]; exact p0)
    rcases HIs.out xp z2 hz2 with ⟨hz, hsome⟩ | ⟨rfl, hnone⟩
    ·have Hb := Lib.hid (show bad = false from by
      cases hb : bad with
      | false => rfl
      | true => have := (Hbad.out.1 hb).2; rw [HI.out.2.1] at this; rw [this] at hsome; cases hsome)
     have hzn : ¬ z2 < 0 := by omega
     clear hsome p0
     go_wp2_with (go_at_call 56; refine Calls.mono (by with_reducible exact HI2.out _ HK4.out) ?_; rintro e W5 ⟨rfl, hb3⟩; have HK5 := Lib.hid (Kp.of_bel hb3); clear hb3)
     go_meet
     exact ⟨by rw [Hb.out]; simp only [decide_eq_false_iff_not, Value.bool.injEq]; omega, HK5⟩
    ·have Hb := Lib.hid (show bad = true from Hbad.out.2 ⟨Hp0.out, by rw [HI.out.2.1]; exact hnone⟩)
     clear hnone p0
     go_wp2_with (go_at_call 56; refine Calls.mono (by with_reducible exact HI2.out _ HK4.out) ?_; rintro e W5 ⟨rfl, hb3⟩; have HK5 := Lib.hid (Kp.of_bel hb3); clear hb3)
     go_meet
     exact ⟨by rw [Hb.out], HK5⟩
  obtain ⟨rfl, HK45⟩ := hcut
  clear d1 HI2 hz2
  have HK5 := Lib.hid (HK4.out.trans HK45.out)
  have HB5 := Lib.hid (show De.BoxAt wc D #[.int .i64 xi, .int .i64 xp, .string xn, .string xo, .string xu, .string xd, .string xl, .int .i64 xk, .int .i64 xm, xv] from (HK45.out.block D (block_lt HB4.out) (by simp)).trans HB4.out)
  obtain ⟨w5, hw5⟩ : ∃ W, W = wc := ⟨_, rfl⟩
  subst hw5
  have HF2 := Lib.hid (show (De.fnd P X.idx).isSome = false from by rw [HI.out.1, HF.out]; rfl)
  cases bad with
  | true =>
   have HT := Lib.hid (show T = 42 from by
    rw [← HR2.out]
    have hc : chkN P X = 42 := by unfold chkN; rw [if_neg (by rw [HS1.out]; simp), if_neg (by rw [HF2.out]; simp), if_pos (Hbad.out.1 rfl)]
    rw [hc, if_pos (by decide)])
   go_upto_region 13 with fail
   go_wp2
   go_ret
   exact ⟨by rw [HT.out]; rfl, HK1.out.trans HK5.out⟩
  | false =>
  have HNp := Lib.hid (show ¬ (X.par ≠ 0 ∧ De.fnd P X.par = none) from fun h => by have := Hbad.out.2 h; cases this)
  have HPar := Lib.hid (De.par_of HNp.out)
  have HOx := Lib.hid (show orgL (l.take (i + 1)) xi = De.org P X from by
   have h := own_snoc HX.out (by rw [HPe.out]; exact HVP.out) (by rw [HXe.out]; exact HS1.out) (by rw [HPe.out]; exact HF.out) (by rw [HPe.out, HXe.out]; exact HPar.out)
   rw [HPe.out] at h
   rw [← HXe.out]
   exact h)
  have HOr := Lib.hid (fun W (hk : Kp [] W1 W) => (show Calls Tryz.prog 57 #[.agg #[.slice (some ⟨g, o, none⟩) (i + 1) tc], .int .i64 xi] W fun e w' => ∃ u, e = .returned u ∧ stT.Own w' W.heap.size u (De.org P X) ∧ Kp [] W w' from by
   rw [← HOx.out]
   exact refOrigin_any (.slice (some ⟨g, o, none⟩) (i + 1) tc) (l.take (i + 1)) xi W (by rw [List.length_take, HN.out]; omega) (HDt1.out W hk)))
  clear Hbad HIs HIX
  go_upto_region 14 with fail
  refine wp_region_held_drew (S := fun W => Kp [] w5 W) (by kernel_rfl) ((Kp.refl [] w5).drew 1) (fun hHeld => ?_)
  generalize hwd : w5.drew = wd at *
  clear hwd
  refine wpAnyH_take (i := 0) (oi := { dst := some 46, op := Op.fieldAddr 29 (Operand.tmp 1) 0, type := 0, pos := "ref.go:165", after := #[], guard := none }) (v := .pointer (some ⟨Bz, 0, none⟩)) rfl (by kernel_rfl) (by kernel_rfl) (by kernel_rfl) (fun _ _ _ h => h) (Or.inl ⟨by rfl, fun w hSw => by (try dsimp only at hSw); go_simp⟩) hHeld ?_
  try simp only [Act.put, List.setIfInBounds_toArray, List.set_cons_zero, List.set_cons_succ]
  refine wpAnyH_take (i := 1) (oi := { dst := some 47, op := Op.load 22 (Operand.tmp 46), type := 22, pos := "ref.go:165", after := #[{ on := 0, ground := Ground.data }], guard := none }) (v := .slice (some ⟨g, o, none⟩) N tc) rfl (by kernel_rfl) (by kernel_rfl) (by kernel_rfl) (fun _ _ _ h => h) (Or.inl ⟨by rfl, fun w hSw => by (try dsimp only at hSw); have t0 := HQk.out _ (HK5.out.trans hSw); go_simp⟩) hHeld ?_
  try simp only [Act.put, List.setIfInBounds_toArray, List.set_cons_zero, List.set_cons_succ]
  refine wpAnyH_take (i := 2) (oi := { dst := some 48, op := Op.move (Operand.tmp 3), type := 3, pos := "ref.go:165", after := #[], guard := none }) (v := .int .i64 (i : Int)) rfl (by kernel_rfl) (by kernel_rfl) (by kernel_rfl) (fun _ _ _ h => h) (Or.inl ⟨by rfl, fun w hSw => by (try dsimp only at hSw); go_simp⟩) hHeld ?_
  try simp only [Act.put, List.setIfInBounds_toArray, List.set_cons_zero, List.set_cons_succ]
  refine wpAnyH_take (i := 3) (oi := { dst := some 49, op := Op.binOp BinOp.add 3 (Operand.tmp 48) (Operand.const (Value.int IntKind.i64 1)) 3, type := 3, pos := "ref.go:165", after := #[{ on := 2, ground := Ground.data }], guard := none }) (v := .int .i64 ((i + 1 : Nat) : Int)) rfl (by kernel_rfl) (by kernel_rfl) (by kernel_rfl) (fun _ _ _ h => h) (Or.inl ⟨by rfl, fun w hSw => by (try dsimp only at hSw); go_simp⟩) hHeld ?_
  try simp only [Act.put, List.setIfInBounds_toArray, List.set_cons_zero, List.set_cons_succ]
  refine wpAnyH_take (i := 4) (oi := { dst := some 50, op := Op.slice 22 (Operand.tmp 47) none (some (Operand.tmp 49)) none, type := 22, pos := "ref.go:165", after := #[{ on := 1, ground := Ground.data }, { on := 3, ground := Ground.data }], guard := none }) (v := .slice (some ⟨g, o, none⟩) (i + 1) tc) rfl (by kernel_rfl) (by kernel_rfl) (by kernel_rfl) (fun _ _ _ h => h) (Or.inl ⟨by rfl, fun w hSw => by (try dsimp only at hSw); go_simp⟩) hHeld ?_
  try simp only [Act.put, List.setIfInBounds_toArray, List.set_cons_zero, List.set_cons_succ]
  refine wpAnyH_take (i := 5) (oi := { dst := some 51, op := Op.build 29 #[(0, Operand.tmp 50)], type := 29, pos := "ref.go:165", after := #[{ on := 4, ground := Ground.data }], guard := none }) (v := .agg #[.slice (some ⟨g, o, none⟩) (i + 1) tc]) rfl (by kernel_rfl) (by kernel_rfl) (by kernel_rfl) (fun _ _ _ h => h) (Or.inl ⟨by rfl, fun w hSw => by (try dsimp only at hSw); go_simp⟩) hHeld ?_
  try simp only [Act.put, List.setIfInBounds_toArray, List.set_cons_zero, List.set_cons_succ]
  refine wpAnyH_take (i := 6) (oi := { dst := some 52, op := Op.fieldAddr 34 (Operand.tmp 4) 0, type := 0, pos := "ref.go:165", after := #[], guard := none }) (v := .pointer (some ⟨D, 0, none⟩)) rfl (by kernel_rfl) (by kernel_rfl) (by kernel_rfl) (fun _ _ _ h => h) (Or.inl ⟨by rfl, fun w hSw => by (try dsimp only at hSw); go_simp⟩) hHeld ?_
  try simp only [Act.put, List.setIfInBounds_toArray, List.set_cons_zero, List.set_cons_succ]
  refine wpAnyH_take (i := 7) (oi := { dst := some 53, op := Op.load 3 (Operand.tmp 52), type := 3, pos := "ref.go:165", after := #[{ on := 6, ground := Ground.data }], guard := none }) (v := .int .i64 xi) rfl (by kernel_rfl) (by kernel_rfl) (by kernel_rfl) (fun _ _ _ h => h) (Or.inl ⟨by rfl, fun w hSw => by (try dsimp only at hSw); have d0 := (show De.BoxAt w D #[.int .i64 xi, .int .i64 xp, .string xn, .string xo, .string xu, .string xd, .string xl, .int .i64 xk, .int .i64 xm, xv] from (hSw.block D (block_lt HB5.out) (by simp)).trans HB5.out).cell 0; go_simp⟩) hHeld ?_
  try simp only [Act.put, List.setIfInBounds_toArray, List.set_cons_zero, List.set_cons_succ]
  refine wpAnyH_ready (rs := [8]) (by kernel_rfl) (by simp) ?_
  refine AllReadyH.cons (o := { dst := some 54, op := Op.call { callee := Callee.value (Operand.func 57), args := #[Operand.tmp 51, Operand.tmp 53], argTypes := #[29, 3] }, type := 62, pos := "ref.go:165", after := #[{ on := 5, ground := Ground.data }, { on := 7, ground := Ground.data }], guard := none }) rfl (fun K hK => ?_) AllReadyH.nil
  go_simp
  go_at_call 57
  refine Calls.mono (by with_reducible exact HOr.out _ (HK5.out.trans hHeld)) ?_
  rintro e V6 ⟨u, rfl, hown, hbv⟩
  dsimp only
  have HOw := Lib.hid hown
  have hS := hHeld.trans hbv
  clear hown hbv
  clear hHeld
  refine hK.out _ _ hS (fun hHeld => ?_)
  try simp only [Act.put, List.setIfInBounds_toArray, List.set_cons_zero, List.set_cons_succ]
  clear hK
  clear hS
  refine wpAnyH_take (i := 9) (oi := { dst := some 6, op := Op.assign (Operand.tmp 54), type := 62, pos := "ref.go:165", after := #[{ on := 8, ground := Ground.data }, { on := 8, ground := Ground.chain }, { on := 0, ground := Ground.phase }, { on := 1, ground := Ground.phase }, { on := 2, ground := Ground.phase }, { on := 3, ground := Ground.phase }, { on := 4, ground := Ground.phase }, { on := 5, ground := Ground.phase }, { on := 6, ground := Ground.phase }, { on := 7, ground := Ground.phase }, { on := 8, ground := Ground.phase }], guard := none }) (v := u) rfl (by kernel_rfl) (by kernel_rfl) (by kernel_rfl) (fun _ _ _ h => h) (Or.inl ⟨by rfl, fun w hSw => by (try dsimp only at hSw); go_simp⟩) hHeld ?_
  try simp only [Act.put, List.setIfInBounds_toArray, List.set_cons_zero, List.set_cons_succ]
  have HSe := Lib.hid hHeld
  refine wpAnyH_done (by kernel_rfl) ?_ _
  clear hHeld
  obtain ⟨oa, ocp, hu⟩ := HOw.out.form
  subst hu
  obtain ⟨M, hM⟩ : ∃ M, (De.org P X).length = M := ⟨_, rfl⟩
  have HM := Lib.hid hM
  rw [hM]
  clear hM
  obtain ⟨w6, hw6⟩ : ∃ W, W = V6 := ⟨_, rfl⟩
  subst hw6
  have HK6 := Lib.hid (HK5.out.trans HSe.out)
  have HB6 := Lib.hid (show De.BoxAt w6 D #[.int .i64 xi, .int .i64 xp, .string xn, .string xo, .string xu, .string xd, .string xl, .int .i64 xk, .int .i64 xm, xv] from (HSe.out.block D (block_lt HB5.out) (by simp)).trans HB5.out)
  by_cases h7 : 7 < M
  ·have h7z : (7 : Int) < (M : Int) := by omega
   have HT := Lib.hid (show T = 46 from by
    rw [← HR2.out]
    have hc : chkN P X = 46 := by unfold chkN; rw [if_neg (by rw [HS1.out]; simp), if_neg (by rw [HF2.out]; simp), if_neg HNp.out, if_pos (by rw [HM.out]; exact h7)]
    rw [hc, if_pos (by decide)])
   go_upto_region 16 with fail
   go_wp2
   go_ret
   exact ⟨by rw [HT.out]; rfl, HK1.out.trans HK6.out⟩
  have h7z : ¬ (7 : Int) < (M : Int) := by omega
  go_upto_region 17 with fail
  go_cut [73] from 12 to 84 (fun s73 wx => s73 = .bool (!De.endsB P X) ∧ Hid (Kp [] w6 wx))
  case first =>
   cases i with
   | zero =>
    have HE := Lib.hid (show De.endsB P X = true from by rw [← HPe.out]; rfl)
    go_wp2
    go_meet
    exact ⟨by rw [HE.out]; rfl, Lib.hid (Kp.refl _ _)⟩
   | succ j =>
    have hj0 : (0 : Int) < ((j + 1 : Nat) : Int) := by omega
    have hjw : IntKind.i64.wrap (((j + 1 : Nat) : Int) - 1) = (j : Int) := by rw [IntKind.wrap_i64]; omega
    have hjz : (j : Int) < ((j + 1 : Nat) : Int) := by omega
    obtain ⟨⟨⟨yi, yp, yn, yo, yu, yd, yl, yk, ym, ya⟩, yv⟩, hy⟩ : ∃ y, l[j]? = some y := ⟨l[j]'(by rw [HN.out]; omega), List.getElem?_eq_getElem _⟩
    have HEn := Lib.hid (show De.endsB P X = decide (De.cmpN (De.org P ⟨yi, yp, yn, yo, yu, yd, yl, yk, ym, ya⟩) (De.org P X) < 0) from by
     unfold De.endsB
     rw [← HPe.out, last_take hy])
    have HOy := Lib.hid (show orgL (l.take (j + 1)) yi = De.org P ⟨yi, yp, yn, yo, yu, yd, yl, yk, ym, ya⟩ from by
     have h := orgL_org (l := l.take (j + 1)) (by rw [HPe.out]; exact HVP.out.tidy) (i := j) (x := (⟨yi, yp, yn, yo, yu, yd, yl, yk, ym, ya⟩, yv)) (by rw [List.getElem?_take, if_pos (by omega), hy])
     rw [HPe.out] at h
     exact h)
    have HOr2 := Lib.hid (show Calls Tryz.prog 57 #[.agg #[.slice (some ⟨g, o, none⟩) (j + 1) tc], .int .i64 yi] w6 fun e w' => ∃ u, e = .returned u ∧ stT.Own w' w6.heap.size u (De.org P ⟨yi, yp, yn, yo, yu, yd, yl, yk, ym, ya⟩) ∧ Kp [] w6 w' from by
     rw [← HOy.out]
     exact refOrigin_any (.slice (some ⟨g, o, none⟩) (j + 1) tc) (l.take (j + 1)) yi w6 (by rw [List.length_take, HN.out]; omega) (HDt.out _ HK6.out))
    have y0 : w6.cell? ⟨g, o + j * 10, none⟩ = some (.int .i64 yi) := (HRw.out _ HK6.out).at_ j _ hy 0 _ rfl
    have HL1 := Lib.hid (show (De.org P ⟨yi, yp, yn, yo, yu, yd, yl, yk, ym, ya⟩).length ≤ 1000000 from by
     rw [← HOy.out]
     have := orgL_len (l.take (j + 1)) yi
     rw [List.length_take, HN.out] at this
     omega)
    have HL2 := Lib.hid (show (De.org P X).length ≤ 1000000 from by rw [HM.out]; omega)
    have HOw6 := Lib.hid (fun W (hk : Kp [] w6 W) => (show stT.Has W (.slice oa M ocp) (De.org P X) from by
     have h := HOw.out.has.kp0 hk
     rw [HM.out] at h
     exact h))
    obtain ⟨c, hcm⟩ : ∃ c, De.cmpN (De.org P ⟨yi, yp, yn, yo, yu, yd, yl, yk, ym, ya⟩) (De.org P X) = c := ⟨_, rfl⟩
    rw [hcm] at HEn
    have HCm := Lib.hid (fun u2 W (hk : Kp [] w6 W) (h2 : stT.Has W u2 (De.org P ⟨yi, yp, yn, yo, yu, yd, yl, yk, ym, ya⟩)) => (show Calls Tryz.prog 58 #[u2, .slice oa M ocp] W (Nm.Draws (.int .i64 c) W) from by
     rw [← hcm]
     exact refCompare_any u2 (.slice oa M ocp) _ _ W HL1.out HL2.out h2 (HOw6.out W hk)))
    clear hy hcm
    go_wp2_with (first
     | (go_at_call 57; refine Calls.mono (by with_reducible exact HOr2.out) ?_; rintro e W7 ⟨u2, rfl, hown2, hk7⟩; have HO2 := Lib.hid hown2; have HK7 := Lib.hid hk7; clear hown2 hk7)
     | (go_at_call 58; refine Calls.mono (by with_reducible exact HCm.out _ _ HK7.out HO2.out.has) ?_; rintro e W8 ⟨rfl, nd, rfl⟩))
    go_meet
    refine ⟨?_, Lib.hid (HK7.out.trans ((Kp.refl [] W7).drew nd))⟩
    rw [HEn.out]
    by_cases hc0 : c < 0
    ·have : ¬ 0 ≤ c := by omega
     simp [hc0, this]
    ·have : 0 ≤ c := by omega
     simp [hc0, this]
  obtain ⟨rfl, HK67⟩ := hcut
  obtain ⟨w7, hw7⟩ : ∃ W, W = wc := ⟨_, rfl⟩
  subst hw7
  have HK7 := Lib.hid (HK6.out.trans HK67.out)
  have HB7 := Lib.hid (show De.BoxAt w7 D #[.int .i64 xi, .int .i64 xp, .string xn, .string xo, .string xu, .string xd, .string xl, .int .i64 xk, .int .i64 xm, xv] from (HK67.out.block D (block_lt HB6.out) (by simp)).trans HB6.out)
  cases hE : De.endsB P X with
  | false =>
   have HT := Lib.hid (show T = 43 from by
    rw [← HR2.out]
    have hc : chkN P X = 43 := by unfold chkN; rw [if_neg (by rw [HS1.out]; simp), if_neg (by rw [HF2.out]; simp), if_neg HNp.out, if_neg (by rw [HM.out]; exact h7), if_pos hE]
    rw [hc, if_pos (by decide)])
   clear hE
   go_upto_region 18 with fail
   go_wp2
   go_ret
   exact ⟨by rw [HT.out]; rfl, HK1.out.trans HK7.out⟩
  | true =>
  have HEt := Lib.hid hE
  have HM7 := Lib.hid (show ¬ 7 < (De.org P X).length from by rw [HM.out]; exact h7)
  clear hE HOw HOr
  have HCl := Lib.hid (fun (k : Nat) (y : De.DV) (hy : l[k]? = some y) (hk : k < i) W (hw : Kp [] W1 W) => (show Calls Tryz.prog 59 #[De.devV (De.devOf y.1 y.2), .agg #[.int .i64 xi, .int .i64 xp, .string xn, .string xo, .string xu, .string xd, .string xl, .int .i64 xk, .int .i64 xm, xv]] W (De.Bel (.bool (clA y.1 X)) W) from by
   have hym : y.1 ∈ P := by
    rw [← HPe.out]
    exact List.mem_map.2 ⟨y, List.mem_of_getElem? (i := k) (by rw [List.getElem?_take, if_pos hk, hy]), rfl⟩
   have hys := HVP.out.sound _ hym
   have h1 : y.1.orig.size ≤ 300 := (chk_small (d := vDev y.1) (la := y.1.ats) (of_decide_eq_true hys)).1
   have h2 := clash_any (De.devOf y.1 y.2) ⟨xi, xp, xn, xo, xu, xd, xl, xk, xm, xv⟩ W (by show y.1.orig.size < _; omega) (by have := HXs.out; show xo.size < _; have h3 : xo.size ≤ 300 := this; omega) (HM1.out.below hw.bel)
   rw [clash_cl y ⟨xi, xp, xn, xo, xu, xd, xl, xk, xm, xv⟩ xa, show aOf ⟨xi, xp, xn, xo, xu, xd, xl, xk, xm, xv⟩ xa = X from HXe.out] at h2
   exact h2))
  go_upto_region 19 with fail
  go_wp2
  go_loopw [7] (fun s7 wx => ∃ k : Nat, k ≤ i ∧ s7 = .int .i64 (k : Int) ∧ Hid (∀ (m : Nat) (y : De.DV), m < k → l[m]? = some y → clA y.1 X = false) ∧ Hid (Kp [] w7 wx)) (fun s7 _ => i - (intOf s7).toNat)
  case atStart => exact ⟨0, by omega, rfl, Lib.hid fun m y hm => absurd hm (Nat.not_lt_zero _), Lib.hid (Kp.refl _ _)⟩
  case round =>
   obtain ⟨k, hk, rfl, HInv, HKq⟩ := hrel
   have HKk := Lib.hid (HK7.out.trans HKq.out)
   have HBk := Lib.hid (show De.BoxAt wr D #[.int .i64 xi, .int .i64 xp, .string xn, .string xo, .string xu, .string xd, .string xl, .int .i64 xk, .int .i64 xm, xv] from (HKq.out.block D (block_lt HB7.out) (by simp)).trans HB7.out)
   by_cases hkl : k < i
   ·have hkz : (k : Int) < (i : Int) := by omega
    have hwk : IntKind.i64.wrap ((k : Int) + 1) = ((k + 1 : Nat) : Int) := by rw [IntKind.wrap_i64]; omega
    obtain ⟨⟨⟨yi, yp, yn, yo, yu, yd, yl, yk, ym, ya⟩, yv⟩, hy⟩ : ∃ y, l[k]? = some y := ⟨l[k]'(by rw [HN.out]; omega), List.getElem?_eq_getElem _⟩
    have HY := Lib.hid hy
    have HRy := Lib.hid (fun W (hw : Kp [] wr W) => (show W.rangeAt g (o + k * 10) [.int .i64 yi, .int .i64 yp, .string yn, .string yo, .string yu, .string yd, .string yl, .int .i64 yk, .int .i64 ym, yv] from (HRw.out W (HKk.out.trans hw)).at_ k _ HY.out))
    obtain ⟨cb, hcb⟩ : ∃ b, clA ⟨yi, yp, yn, yo, yu, yd, yl, yk, ym, ya⟩ X = b := ⟨_, rfl⟩
    have HCb := Lib.hid hcb
    have HC59 := Lib.hid (fun W (hw : Kp [] wr W) => (show Calls Tryz.prog 59 #[.agg #[.int .i64 yi, .int .i64 yp, .string yn, .string yo, .string yu, .string yd, .string yl, .int .i64 yk, .int .i64 ym, yv], .agg #[.int .i64 xi, .int .i64 xp, .string xn, .string xo, .string xu, .string xd, .string xl, .int .i64 xk, .int .i64 xm, xv]] W (De.Bel (.bool cb) W) from by
     have h := HCl.out k _ HY.out hkl W (HKk.out.trans hw)
     rw [hcb] at h
     exact h))
    clear hy hcb
    go_upto_region 22 with fail
    refine wp_region_held_drew (S := fun W => Kp [] wr W) (by kernel_rfl) ((Kp.refl [] wr).drew 1) (fun hHeld => ?_)
    generalize hwd : wr.drew = wd at *
    clear hwd
    refine wpAnyH_take (i := 0) (oi := { dst := some 79, op := Op.move (Operand.tmp 5), type := 22, pos := "ref.go:173", after := #[], guard := none }) (v := .slice (some ⟨g, o, none⟩) i tc) rfl (by kernel_rfl) (by kernel_rfl) (by kernel_rfl) (fun _ _ _ h => h) (Or.inl ⟨by rfl, fun w hSw => by (try dsimp only at hSw); go_simp⟩) hHeld ?_
    try simp only [Act.put, List.setIfInBounds_toArray, List.set_cons_zero, List.set_cons_succ]
    refine wpAnyH_take (i := 1) (oi := { dst := some 80, op := Op.move (Operand.tmp 7), type := 3, pos := "ref.go:173", after := #[], guard := none }) (v := .int .i64 (k : Int)) rfl (by kernel_rfl) (by kernel_rfl) (by kernel_rfl) (fun _ _ _ h => h) (Or.inl ⟨by rfl, fun w hSw => by (try dsimp only at hSw); go_simp⟩) hHeld ?_
    try simp only [Act.put, List.setIfInBounds_toArray, List.set_cons_zero, List.set_cons_succ]
    refine wpAnyH_take (i := 2) (oi := { dst := some 81, op := Op.indexAddr 22 (Operand.tmp 79) (Operand.tmp 80), type := 0, pos := "ref.go:173", after := #[{ on := 0, ground := Ground.data }, { on := 1, ground := Ground.data }], guard := none }) (v := .pointer (some ⟨g, o + k * 10, none⟩)) rfl (by kernel_rfl) (by kernel_rfl) (by kernel_rfl) (fun _ _ _ h => h) (Or.inl ⟨by rfl, fun w hSw => by (try dsimp only at hSw); go_simp⟩) hHeld ?_
    try simp only [Act.put, List.setIfInBounds_toArray, List.set_cons_zero, List.set_cons_succ]
    refine wpAnyH_take (i := 3) (oi := { dst := some 82, op := Op.load 34 (Operand.tmp 81), type := 34, pos := "ref.go:173", after := #[{ on := 2, ground := Ground.data }], guard := none }) (v := .agg #[.int .i64 yi, .int .i64 yp, .string yn, .string yo, .string yu, .string yd, .string yl, .int .i64 yk, .int .i64 ym, yv]) rfl (by kernel_rfl) (by kernel_rfl) (by kernel_rfl) (fun _ _ _ h => h) (yieldsIf_load_mid (by rfl) 34 _ rfl g (o + k * 10) rfl [.int .i64 yi, .int .i64 yp, .string yn, .string yo, .string yu, .string yd, .string yl, .int .i64 yk, .int .i64 ym, yv] _ (fun w hSw => HRy.out _ hSw) Tryz.underlying34 rfl De.info34b) hHeld ?_
    try simp only [Act.put, List.setIfInBounds_toArray, List.set_cons_zero, List.set_cons_succ]
    refine wpAnyH_take (i := 4) (oi := { dst := some 83, op := Op.load 34 (Operand.tmp 4), type := 34, pos := "ref.go:173", after := #[], guard := none }) (v := .agg #[.int .i64 xi, .int .i64 xp, .string xn, .string xo, .string xu, .string xd, .string xl, .int .i64 xk, .int .i64 xm, xv]) rfl (by kernel_rfl) (by kernel_rfl) (by kernel_rfl) (fun _ _ _ h => h) (Or.inl ⟨by rfl, fun w hSw => by (try dsimp only at hSw); have dz := (show De.BoxAt w D #[.int .i64 xi, .int .i64 xp, .string xn, .string xo, .string xu, .string xd, .string xl, .int .i64 xk, .int .i64 xm, xv] from (hSw.block D (block_lt HBk.out) (by simp)).trans HBk.out).cell; go_simp⟩) hHeld ?_
    try simp only [Act.put, List.setIfInBounds_toArray, List.set_cons_zero, List.set_cons_succ]
    refine wpAnyH_ready (rs := [5]) (by kernel_rfl) (by simp) ?_
    refine AllReadyH.cons (o := { dst := some 84, op := Op.call { callee := Callee.value (Operand.func 59), args := #[Operand.tmp 82, Operand.tmp 83], argTypes := #[34, 34] }, type := 4, pos := "ref.go:173", after := #[{ on := 3, ground := Ground.data }, { on := 4, ground := Ground.data }], guard := none }) rfl (fun K hK => ?_) AllReadyH.nil
    go_simp
    go_at_call 59
    refine Calls.mono (by with_reducible exact HC59.out _ hHeld) ?_
    rintro e V ⟨rfl, hbv⟩
    dsimp only
    have hS := hHeld.trans (Kp.of_bel hbv)
    clear hbv
    clear hHeld
    refine hK.out _ _ hS (fun hHeld => ?_)
    try simp only [Act.put, List.setIfInBounds_toArray, List.set_cons_zero, List.set_cons_succ]
    clear hK
    clear hS
    have HSe := Lib.hid hHeld
    refine wpAnyH_done (by kernel_rfl) ?_ _
    clear hHeld
    obtain ⟨we, hwe⟩ : ∃ W, W = V := ⟨_, rfl⟩
    subst hwe
    cases cb with
    | true =>
     have HT := Lib.hid (show T = 44 from by
      rw [← HR2.out]
      have hany : (P.any fun e => clA e X) = true := by
       refine List.any_eq_true.2 ⟨⟨yi, yp, yn, yo, yu, yd, yl, yk, ym, ya⟩, ?_, HCb.out⟩
       rw [← HPe.out]
       exact List.mem_map.2 ⟨_, List.mem_of_getElem? (i := k) (by rw [List.getElem?_take, if_pos hkl]; exact HY.out), rfl⟩
      have hc : chkN P X = 44 := by unfold chkN; rw [if_neg (by rw [HS1.out]; simp), if_neg (by rw [HF2.out]; simp), if_neg HNp.out, if_neg HM7.out, if_neg (by rw [HEt.out]; simp), if_pos hany]
      rw [hc, if_pos (by decide)])
     go_upto_region 23 with fail
     go_wp2
     go_ret
     exact ⟨by rw [HT.out]; rfl, HK1.out.trans (HKk.out.trans HSe.out)⟩
    | false =>
     go_wp2
     exact ⟨⟨k + 1, by omega, rfl, Lib.hid fun m y hm hy => by
      by_cases e : m = k
      ·subst e
       rw [HY.out] at hy
       injection hy with hy
       subst hy
       exact HCb.out
      ·exact HInv.out m y (by omega) hy, Lib.hid (HKq.out.trans HSe.out)⟩, by simp [intOf]; omega⟩
   ·obtain rfl : k = i := by omega
    have hkz : ¬ (k : Int) < (k : Int) := by omega
    have hc0 : chkN P X = 0 := by
     have hany : (P.any fun e => clA e X) = false := by
      rw [List.any_eq_false]
      intro e he
      rw [← HPe.out] at he
      obtain ⟨y, hy, rfl⟩ := List.mem_map.1 he
      obtain ⟨m, hm, hmy⟩ := List.getElem_of_mem hy
      have hm2 : m < k := by rw [List.length_take] at hm; omega
      have hy2 : l[m]? = some y := by
       have h := List.getElem?_eq_getElem hm
       rw [hmy, List.getElem?_take, if_pos hm2] at h
       exact h
      rw [HInv.out m y hm2 hy2]
      simp
     unfold chkN
     rw [if_neg (by rw [HS1.out]; simp), if_neg (by rw [HF2.out]; simp), if_neg HNp.out, if_neg HM7.out, if_neg (by rw [HEt.out]; simp), if_neg (by rw [hany]; simp)]
    have HVn := Lib.hid (show De.Valid sndA clA ((l.take (k + 1)).map (·.1)) from by
     rw [HPN.out]
     refine HVP.out.snoc clA_symm (fun d h => snd_num h) ?_ (chkN_zero.1 hc0)
     rw [← HPe.out, List.length_map, List.length_take]
     omega)
    have HRn := Lib.hid (show chkLN ((l.take (k + 1)).map (·.1)) ((l.drop (k + 1)).map (·.1)) = T from by
     rw [HPN.out, ← HR2.out, hc0, if_neg (by simp)])
    clear hc0
    go_wp2
    exact ⟨⟨k + 1, by omega, rfl, HVn, HRn, HKk⟩, by simp [intOf]; omega⟩
end Go.Proofs.YtldcediiobfhiaaGreatDoor
namespace Go.Proofs.YtldcediiobfhiaaGreatDoor
open Go.RowKit
structure Rw (g : Nat) (L : List De.DV) (W : World) : Prop where
 row : ∀ (j : Nat) x, L[j]? = some x → W.rangeAt g (j * 10) (De.dvC x.1 x.2)
 ats : ∀ x ∈ L, De.Has W x.2 x.1.ats
 ne : ∀ x ∈ L, x.1.ats ≠ [] → x.2.ownBlock ≠ some g
 fr : ∀ j, W.frozen? ⟨g, j, none⟩ = false
 lt : g < W.heap.size
theorem Rw.of_cl {w W : World} {g : Nat} {L : List De.DV} (h : De.Cl w g L W) : Rw g L W := ⟨h.row, h.ats, h.ne, h.fr, h.lt⟩
theorem rng_same {W W' : World} {g o : Nat} {l : List Value} (h : W.rangeAt g o l) (e : W'.heap[g]? = W.heap[g]?) : W'.rangeAt g o l := fun m v hv => by
 have := h m v hv
 simp only [World.cell?, e] at this ⊢
 exact this
theorem frz_same {W W' : World} {g o : Nat} (h : W.frozen? ⟨g, o, none⟩ = false) (e : W'.heap[g]? = W.heap[g]?) : W'.frozen? ⟨g, o, none⟩ = false := by
 simp only [World.frozen?, e] at h ⊢
 exact h
theorem Rw.kp0 {W W' : World} {g : Nat} {L : List De.DV} (h : Rw g L W) (hk : Kp [] W W') : Rw g L W' :=
 have e := hk.block g h.lt (by simp)
 ⟨fun j x hx => rng_same (h.row j x hx) e, fun x hx => (h.ats x hx).below hk.bel, h.ne, fun j => frz_same (h.fr j) e, Nat.lt_of_lt_of_le h.lt hk.size⟩
theorem Rw.kpT {W W' : World} {g tb k : Nat} {L : List De.DV} (h : Rw g L W) (ht : Tp W tb k) (hk : Kp [tb] W W') (hg : g ≠ tb) : Rw g L W' :=
 have e := hk.block g h.lt (by simpa using hg)
 ⟨fun j x hx => rng_same (h.row j x hx) e, fun x hx => hasT2 (h.ats x hx) ht hk, h.ne, fun j => frz_same (h.fr j) e, Nat.lt_of_lt_of_le h.lt hk.size⟩
theorem Rw.kpR {W W' : World} {g R n c : Nat} {a : Option Addr} {L : List De.DV} (h : Rw g L W) (hk : Kp [R] W W') (hR : W.heap[R]? = some (.cells #[.slice a n c] 29 (0, 0))) (hg : g ≠ R) : Rw g L W' :=
 have e := hk.block g h.lt (by simpa using hg)
 ⟨fun j x hx => rng_same (h.row j x hx) e, fun x hx => hasR (h.ats x hx) hk hR, h.ne, fun j => frz_same (h.fr j) e, Nat.lt_of_lt_of_le h.lt hk.size⟩
theorem Rw.has {W : World} {g c : Nat} {L : List De.DV} (h : Rw g L W) (hc : L.length ≤ c) : De.DHas W (.slice (some ⟨g, 0, none⟩) L.length c) L :=
 .inr ⟨g, 0, c, rfl, hc, h.lt, ⟨fun j x hx => by rw [Nat.zero_add]; exact h.row j x hx, h.ats⟩⟩
/-- A whole device is put at a place. -/
theorem Rw.put {W : World} {g i : Nat} {L : List De.DV} {x y : De.DV} (h : Rw g L W) (hx : L[i]? = some x) (hu : De.Has W y.2 y.1.ats) (hn : y.1.ats ≠ [] → y.2.ownBlock ≠ some g) :
  Rw g (L.set i y) (W.setCells g (i * 10) (De.dvC y.1 y.2)) := by
 have hsz := De.size_setCells g (De.dvC y.1 y.2) (i * 10) W
 have hil := (List.getElem?_eq_some_iff.1 hx).1
 have hth : W.there g (i * 10) (De.dvC y.1 y.2).length := fun j hj => ⟨(h.row i x hx).isSome j (by rw [De.dvC_len] at hj ⊢; exact hj), h.fr _⟩
 have hoth : ∀ b, b < W.heap.size → b ≠ g → (W.setCells g (i * 10) (De.dvC y.1 y.2)).heap[b]? = W.heap[b]? := fun b hb hne => World.heap_setCells_other W g _ _ hb hne
 have hA : ∀ {v : Value} {l : List De.Atr}, De.Has W v l → (l ≠ [] → v.ownBlock ≠ some g) → De.Has (W.setCells g (i * 10) (De.dvC y.1 y.2)) v l := fun hh hne => hh.other (Nat.le_of_eq hsz.symm) hne hoth
 refine ⟨fun j z hz => ?_, fun z hz => ?_, fun z hz => ?_, fun j => by rw [World.frozen?_setCells]; exact h.fr j, by rw [hsz]; exact h.lt⟩
 ·by_cases hji : j = i
  ·subst hji
   rw [List.getElem?_set_self hil] at hz
   cases hz
   exact World.rangeAt_setCells_same W g _ _ hth
  ·rw [List.getElem?_set_ne (fun e => hji e.symm)] at hz
   refine World.rangeAt_setCells_apart (h.row j z hz) g _ _ (.inr ?_)
   rw [De.dvC_len, De.dvC_len]
   omega
 ·rcases List.mem_or_eq_of_mem_set hz with hm | rfl
  ·exact hA (h.ats z hm) (h.ne z hm)
  ·exact hA hu hn
 ·rcases List.mem_or_eq_of_mem_set hz with hm | rfl
  ·exact h.ne z hm
  ·exact hn
/-- One cell of a device is set. -/
theorem Rw.set1 {W : World} {g i m : Nat} {L : List De.DV} {x y : De.DV} {v : Value} (h : Rw g L W) (hx : L[i]? = some x) (hm : m < 10) (h1 : y.1.ats = x.1.ats) (h2 : y.2 = x.2) (hc : De.dvC y.1 y.2 = (De.dvC x.1 x.2).set m v) :
  Rw g (L.set i y) (W.setCell ⟨g, i * 10 + m, none⟩ v) := by
 have hil := (List.getElem?_eq_some_iff.1 hx).1
 have hsz : (W.setCell ⟨g, i * 10 + m, none⟩ v).heap.size = W.heap.size := by simp [World.setCell]
 have hoth : ∀ b, b < W.heap.size → b ≠ g → (W.setCell ⟨g, i * 10 + m, none⟩ v).heap[b]? = W.heap[b]? := fun b _ hne => Below.heap_setCell W ⟨g, i * 10 + m, none⟩ v b hne
 have hA : ∀ {u : Value} {l : List De.Atr}, De.Has W u l → (l ≠ [] → u.ownBlock ≠ some g) → De.Has (W.setCell ⟨g, i * 10 + m, none⟩ v) u l := fun hh hne => hh.other (Nat.le_of_eq hsz.symm) hne hoth
 have hcm : (W.cell? ⟨g, i * 10 + m, none⟩).isSome = true := (h.row i x hx).isSome m (by rw [De.dvC_len]; exact hm)
 refine ⟨fun j z hz q u hu => ?_, fun z hz => ?_, fun z hz => ?_, fun j => ?_, by rw [hsz]; exact h.lt⟩
 ·by_cases hji : j = i
  ·subst hji
   rw [List.getElem?_set_self hil] at hz
   cases hz
   rw [hc] at hu
   by_cases hq : q = m
   ·subst hq
    rw [List.getElem?_set_self (by rw [De.dvC_len]; exact hm)] at hu
    cases hu
    exact World.cell?_setCell_same' W _ _ hcm
   ·rw [List.getElem?_set_ne (fun e => hq e.symm)] at hu
    rw [World.cell?_setCell_other _ _ _ _ (by intro e; injection e with _ e _; omega)]
    exact h.row j x hx q u hu
  ·rw [List.getElem?_set_ne (fun e => hji e.symm)] at hz
   have hq : q < 10 := by
    have := (List.getElem?_eq_some_iff.1 hu).1
    rw [De.dvC_len] at this
    exact this
   rw [World.cell?_setCell_other _ _ _ _ (by intro e; injection e with _ e _; omega)]
   exact h.row j z hz q u hu
 ·rcases List.mem_or_eq_of_mem_set hz with hm | rfl
  ·exact hA (h.ats z hm) (h.ne z hm)
  ·rw [h1, h2]
   exact hA (h.ats x (List.mem_of_getElem? hx)) (h.ne x (List.mem_of_getElem? hx))
 ·rcases List.mem_or_eq_of_mem_set hz with hm | rfl
  ·exact h.ne z hm
  ·rw [h1, h2]
   exact h.ne x (List.mem_of_getElem? hx)
 ·rw [World.frozen?_setCell]
  exact h.fr j
theorem kp_cells (W : World) (g o : Nat) (vs : List Value) : Kp [g] W (W.setCells g o vs) := by
 have hb : ∀ (vs : List Value) (o : Nat) (W : World), Kp [g] W (W.setCells g o vs) := fun vs => by
  induction vs with
  | nil => exact fun _ W => Kp.refl _ W
  | cons v r ih =>
   intro o W
   rw [World.setCells]
   exact ((Kp.refl [g] W).setCell (p := ⟨g, o, none⟩) (.inl (by simp)) v).trans (ih (o + 1) _)
 exact hb vs o W
theorem step_store_mid {ops : Array Oper} {o : Oper} {a : Act} {w : World} {K : Act → World → Prop} {Q : Exit → Act → World → Prop} {E : Prop} (hgd : o.guard = none) (ty : TypeId) (x y : Operand) (ho : o.op = .store ty x y)
  (b off : Nat) (cells : Array Value) (hx : a.eval x = .pointer (some ⟨b, off, none⟩)) (hy : a.eval y = .agg cells) (ht : w.there b off cells.size) (hi : (Tryz.prog.info? ty).map (·.size) = some cells.size)
  (h1 : cells.all (·.oneCell') = true) (hK : K (a.put o.dst undef) (w.setCells b off cells.toList)) :
  if Region.wanted o (yielded ops a.tmps) = true then Oper.wp Tryz.prog o a w K Q else E := by
 rw [if_pos (by simp [Region.wanted, hgd])]
 exact wp_store_mid ty x y ho b off cells hx hy ht hi h1 hK
theorem step_load_mid {ops : Array Oper} {o : Oper} {a : Act} {w : World} {K : Act → World → Prop} {Q : Exit → Act → World → Prop} {E : Prop} (hgd : o.guard = none) (ty : TypeId) (x : Operand) (ho : o.op = .load ty x)
  (b off : Nat) (hx : a.eval x = .pointer (some ⟨b, off, none⟩)) (cs : List Value) (d : TypeDesc) (hc : w.rangeAt b off cs) (hu : Tryz.prog.underlying ty = some d) (hd : d.isRow = true) (hi : (Tryz.prog.info? ty).map (·.size) = some cs.length)
  (hK : K (a.put o.dst (.agg cs.toArray)) w) :
  if Region.wanted o (yielded ops a.tmps) = true then Oper.wp Tryz.prog o a w K Q else E := by
 rw [if_pos (by simp [Region.wanted, hgd])]
 exact wp_load_mid ty x ho b off hx cs d hc hu hd hi hK
/-- Lists of small devices may be checked. -/
def SmW (a : De.ADev) : Prop := SmA a ∧ (Lit.int .i64 a.idx).wf = true ∧ (Lit.int .i64 a.par).wf = true
theorem rok_of {L : List De.DV} (hn : L.length ≤ 90000) (h : ∀ y ∈ L, SmW y.1) : De.ROk L :=
 ⟨hn, fun y hy => (h y hy).2.1, fun y hy => (h y hy).2.2, fun y hy => sized_sml (sma_smx (h y hy).1 _), fun y hy => by have := (h y hy).1.2; omega⟩
theorem tree_smw {W : World} {B n : Nat} {v : Value} {L : List De.DV} (ht : TreeAt W B n v L) (hn : n ≤ 90000) : ∀ y ∈ L, SmW y.1 := fun y hy =>
 ⟨sma_of (ht.sml y hy), (tree_tok ht (by omega)).wi y hy, (tree_tok ht (by omega)).wp y hy⟩
theorem smw_set {L : List De.DV} {i : Nat} {y : De.DV} (h : ∀ x ∈ L, SmW x.1) (hy : SmW y.1) : ∀ x ∈ L.set i y, SmW x.1 := fun x hx => by
 rcases List.mem_or_eq_of_mem_set hx with hm | rfl
 ·exact h x hm
 ·exact hy
end Go.Proofs.YtldcediiobfhiaaGreatDoor
