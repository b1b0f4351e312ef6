/- checkNext. Check. Insert, where it says an error. -/
import Derived.Test.YtldcediiobfhiaaGreatDoorQV4
import Derived.Test.YtldcediiobfhiaaGreatDoorQU2
import Derived.Test.YtldcediiobfhiaaGreatDoorQV5
namespace Go.Proofs.YtldcediiobfhiaaGreatDoor.De
open Go.RowKit Go.Maps
/-- What keeps a device from being the next one. -/
def nextT (l : List DV) (d : Dev) (la : List Atr) : Int :=
 if admT (l.map (·.1)) d la ≠ 0 then admT (l.map (·.1)) d la
 else if 7 < Lib.countByte (orgB l (aOf d la)).data.toList 47 then 46
 else if endsE l (orgB l (aOf d la)) = false then 43
 else if clsB l d = true then 44 else 0
theorem box_row {W1 W : World} {B : Nat} {r : Array Value} (h : BoxAt W1 B r) (hk : Kp [] W1 W) : BoxAt W B r := (hk.block B (block_lt h) (by simp)).trans h
set_option maxRecDepth 100000 in
set_option maxHeartbeats 4000000 in
theorem checkNext_any {w : World} {V M : Nat} {sv : Value} {l : List DV} {D : DataW Unit} (hV : View w V sv M l D) (ht : TOk l) (d : Dev) (la : List Atr) (hd : Has w d.av la) (hs : Sized d la) (ho : d.orig.size ≤ 300) (hla : la.length ≤ 9223372036854775807) (hm : Max w) (hi : (Lit.int .i64 d.idx).wf = true) (hp : (Lit.int .i64 d.par).wf = true) :
  Calls Tryz.prog 53 #[.pointer (some ⟨V, 0, none⟩), devV d] w fun e w' => e = .returned (.int .i64 (nextT l d la)) ∧ Kp [] w w' := by
 obtain ⟨b, c, hav, -⟩ := hd.form
 obtain ⟨n, hn⟩ : ∃ n, la.length = n := ⟨_, rfl⟩
 rw [hn] at hav
 obtain ⟨W1, hW1⟩ : ∃ W1, w.alloc (.cells #[.int .i64 d.idx, .int .i64 d.par, .string d.name, .string d.orig, .string d.sub, .string d.drv, .string d.ali, .int .i64 d.kind, .int .i64 d.num, .slice b n c] 34) = W1 := ⟨_, rfl⟩
 obtain ⟨B, hB⟩ : ∃ B, w.heap.size = B := ⟨_, rfl⟩
 have hk1 : Kp [] w W1 := by rw [← hW1]; exact (Kp.refl [] w).alloc _
 have hbx : BoxAt W1 B #[.int .i64 d.idx, .int .i64 d.par, .string d.name, .string d.orig, .string d.sub, .string d.drv, .string d.ali, .int .i64 d.kind, .int .i64 d.num, .slice b n c] := by rw [← hW1, ← hB]; exact heap_alloc_last w _
 have hV1 := hV.below hk1.bel
 have HA := Lib.hid (admit_any hV1 d la (hd.below hk1.bel) hs hla (hm.kp hk1) hi hp)
 have HO := Lib.hid fun W (h : Kp [] W1 W) => origin80_val (hV1.below h.bel) (aOf d la) b n c ht ho hp
 have HZ := Lib.hid (orgB_size ht (d := aOf d la) ho)
 have HE := Lib.hid fun W (h : Kp [] W1 W) => endsAhead_any (hV1.below h.bel) ht (orgB l (aOf d la)) (by have := HZ.out; omega)
 have HC := Lib.hid fun W (h : Kp [] W1 W) => clashes_any (hV1.below h.bel) ht d (by omega) ((hm.kp hk1).kp h)
 have HD := Lib.hid fun W => depth81_any (orgB l (aOf d la)) W
 have HK := Lib.hid hk1
 obtain ⟨R, hR⟩ : ∃ R, nextT l d la = R := ⟨_, rfl⟩
 rw [hR]
 unfold nextT at hR
 obtain ⟨A, hA⟩ : ∃ A, admT (l.map (·.1)) d la = A := ⟨_, rfl⟩
 obtain ⟨u, hu⟩ : ∃ u, orgB l (aOf d la) = u := ⟨_, rfl⟩
 rw [hA] at HA hR
 rw [hu] at HO HE HD hR
 obtain ⟨Z, hZ⟩ : ∃ Z, Lib.countByte u.data.toList 47 = Z := ⟨_, rfl⟩
 obtain ⟨q1, hq1⟩ : ∃ q, endsE l u = q := ⟨_, rfl⟩
 obtain ⟨q2, hq2⟩ : ∃ q, clsB l d = q := ⟨_, rfl⟩
 rw [hZ] at HD hR
 rw [hq1] at HE hR
 rw [hq2] at HC hR
 have HBXk := Lib.hid (fun W (h : Kp [] W1 W) => box_row hbx h)
 have HR := Lib.hid hR
 have Hav := Lib.hid hav
 unfold aOf at HO
 simp only at HO
 clear hV hV1 hm hk1 hbx hR hA hu hZ hq1 hq2 hd hs hi hp ht HZ hn
 obtain ⟨di, dp, dn, dor, du, dd, dl, dk, dm, dv⟩ := d
 simp only at hav
 subst hav
 unfold devV devC at *
 simp only at HA HO HE HC HBXk hW1 ho ⊢
 go_enter Tryz.func53, Tryz.ntmps53
 have HKw := Kp.refl [] W1
 have cx0 : W1.cell? ⟨B, 0, none⟩ = some (.int .i64 di) := (HBXk.out _ HKw).cell 0
 have cx1 : W1.cell? ⟨B, 1, none⟩ = some (.int .i64 dp) := (HBXk.out _ HKw).cell 1
 have cx2 : W1.cell? ⟨B, 2, none⟩ = some (.string dn) := (HBXk.out _ HKw).cell 2
 have cx3 : W1.cell? ⟨B, 3, none⟩ = some (.string dor) := (HBXk.out _ HKw).cell 3
 have cx4 : W1.cell? ⟨B, 4, none⟩ = some (.string du) := (HBXk.out _ HKw).cell 4
 have cx5 : W1.cell? ⟨B, 5, none⟩ = some (.string dd) := (HBXk.out _ HKw).cell 5
 have cx6 : W1.cell? ⟨B, 6, none⟩ = some (.string dl) := (HBXk.out _ HKw).cell 6
 have cx7 : W1.cell? ⟨B, 7, none⟩ = some (.int .i64 dk) := (HBXk.out _ HKw).cell 7
 have cx8 : W1.cell? ⟨B, 8, none⟩ = some (.int .i64 dm) := (HBXk.out _ HKw).cell 8
 have cx9 : W1.cell? ⟨B, 9, none⟩ = some (.slice b n c) := (HBXk.out _ HKw).cell 9
 clear HKw
 by_cases hA0 : A = 0
 rotate_left
 ·have hA1 : (A == 0) = false := beq_eq_false_iff_ne.2 hA0
  have HRa := Lib.hid (show R = A from HR.out.symm.trans (if_pos hA0))
  clear HR hA0
  go_wp2_with (go_at_call 79; refine Calls.mono (by with_reducible exact HA.out) ?_; rintro e W2 ⟨rfl, hk2⟩; have HK2 := Lib.hid (HK.out.trans hk2); clear hk2)
  go_ret
  exact ⟨by rw [HRa.out]; rfl, HK2.out⟩
 subst hA0
 have HR1 := Lib.hid ((if_neg (by simp)).symm.trans HR.out)
 clear HR
 go_upto_region 4 with (go_at_call 79; refine Calls.mono (by with_reducible exact HA.out) ?_; rintro e W2 ⟨rfl, HKw⟩)
 clear cx0 cx1 cx2 cx3 cx4 cx5 cx6 cx7 cx8 cx9
 have cx0 : W2.cell? ⟨B, 0, none⟩ = some (.int .i64 di) := (HBXk.out _ HKw).cell 0
 have cx1 : W2.cell? ⟨B, 1, none⟩ = some (.int .i64 dp) := (HBXk.out _ HKw).cell 1
 have cx2 : W2.cell? ⟨B, 2, none⟩ = some (.string dn) := (HBXk.out _ HKw).cell 2
 have cx3 : W2.cell? ⟨B, 3, none⟩ = some (.string dor) := (HBXk.out _ HKw).cell 3
 have cx4 : W2.cell? ⟨B, 4, none⟩ = some (.string du) := (HBXk.out _ HKw).cell 4
 have cx5 : W2.cell? ⟨B, 5, none⟩ = some (.string dd) := (HBXk.out _ HKw).cell 5
 have cx6 : W2.cell? ⟨B, 6, none⟩ = some (.string dl) := (HBXk.out _ HKw).cell 6
 have cx7 : W2.cell? ⟨B, 7, none⟩ = some (.int .i64 dk) := (HBXk.out _ HKw).cell 7
 have cx8 : W2.cell? ⟨B, 8, none⟩ = some (.int .i64 dm) := (HBXk.out _ HKw).cell 8
 have cx9 : W2.cell? ⟨B, 9, none⟩ = some (.slice b n c) := (HBXk.out _ HKw).cell 9
 have HK2 := Lib.hid HKw
 clear HKw
 go_upto_region 5 with (go_at_call 80; refine Calls.mono (by with_reducible exact HO.out _ HK2.out) ?_; rintro e W3 ⟨rfl, hk3⟩; have HK3 := Lib.hid (HK2.out.trans hk3); clear hk3)
 clear cx0 cx1 cx2 cx3 cx4 cx5 cx6 cx7 cx8 cx9
 by_cases hZ7 : 7 < Z
 ·have hz : (7 : Int) < (Z : Int) := by omega
  have HR2 := Lib.hid (show R = 46 from HR1.out.symm.trans (if_pos hZ7))
  clear HR1 hZ7
  go_wp2_with (go_at_call 81; refine Calls.mono (by with_reducible exact HD.out _) ?_; rintro e W4 ⟨rfl, rfl⟩)
  go_ret
  exact ⟨by rw [HR2.out]; rfl, HK.out.trans HK3.out⟩
 have hz : ¬ (7 : Int) < (Z : Int) := by omega
 have HR2 := Lib.hid ((if_neg hZ7).symm.trans HR1.out)
 clear HR1 hZ7
 cases q1 with
 | false =>
  have HR3 := Lib.hid (show R = 43 from HR2.out.symm.trans (if_pos rfl))
  clear HR2
  go_wp2_with (first
   | (go_at_call 81; refine Calls.mono (by with_reducible exact HD.out _) ?_; rintro e W4 ⟨rfl, rfl⟩)
   | (go_at_call 91; refine Calls.mono (by with_reducible exact HE.out _ HK3.out) ?_; rintro e W5 ⟨rfl, hk5⟩; have HK5 := Lib.hid (HK3.out.trans hk5); clear hk5))
  go_ret
  exact ⟨by rw [HR3.out]; rfl, HK.out.trans HK5.out⟩
 | true =>
  have HR3 := Lib.hid ((if_neg (by simp)).symm.trans HR2.out)
  clear HR2
  go_upto_region 9 with (first
   | (go_at_call 81; refine Calls.mono (by with_reducible exact HD.out _) ?_; rintro e W4 ⟨rfl, rfl⟩)
   | (go_at_call 91; refine Calls.mono (by with_reducible exact HE.out _ HK3.out) ?_; rintro e W5 ⟨rfl, hk5⟩; have HKw := (HK3.out.trans hk5); clear hk5))
  have cx0 : W5.cell? ⟨B, 0, none⟩ = some (.int .i64 di) := (HBXk.out _ HKw).cell 0
  have cx1 : W5.cell? ⟨B, 1, none⟩ = some (.int .i64 dp) := (HBXk.out _ HKw).cell 1
  have cx2 : W5.cell? ⟨B, 2, none⟩ = some (.string dn) := (HBXk.out _ HKw).cell 2
  have cx3 : W5.cell? ⟨B, 3, none⟩ = some (.string dor) := (HBXk.out _ HKw).cell 3
  have cx4 : W5.cell? ⟨B, 4, none⟩ = some (.string du) := (HBXk.out _ HKw).cell 4
  have cx5 : W5.cell? ⟨B, 5, none⟩ = some (.string dd) := (HBXk.out _ HKw).cell 5
  have cx6 : W5.cell? ⟨B, 6, none⟩ = some (.string dl) := (HBXk.out _ HKw).cell 6
  have cx7 : W5.cell? ⟨B, 7, none⟩ = some (.int .i64 dk) := (HBXk.out _ HKw).cell 7
  have cx8 : W5.cell? ⟨B, 8, none⟩ = some (.int .i64 dm) := (HBXk.out _ HKw).cell 8
  have cx9 : W5.cell? ⟨B, 9, none⟩ = some (.slice b n c) := (HBXk.out _ HKw).cell 9
  have HK5 := Lib.hid HKw
  clear HKw
  cases q2 with
  | true =>
   have HR4 := Lib.hid (show R = 44 from HR3.out.symm.trans (if_pos rfl))
   clear HR3
   go_wp2_with (go_at_call 82; refine Calls.mono (by with_reducible exact HC.out _ HK5.out) ?_; rintro e W6 ⟨rfl, hk6⟩; have HK6 := Lib.hid (HK5.out.trans hk6); clear hk6)
   go_ret
   exact ⟨by rw [HR4.out]; rfl, HK.out.trans HK6.out⟩
  | false =>
   have HR4 := Lib.hid (show R = 0 from HR3.out.symm.trans (if_neg (by simp)))
   clear HR3
   go_wp2_with (go_at_call 82; refine Calls.mono (by with_reducible exact HC.out _ HK5.out) ?_; rintro e W6 ⟨rfl, hk6⟩; have HK6 := Lib.hid (HK5.out.trans hk6); clear hk6)
   go_ret
   exact ⟨by rw [HR4.out]; rfl, HK.out.trans HK6.out⟩
end Go.Proofs.YtldcediiobfhiaaGreatDoor.De
namespace Go.Proofs.YtldcediiobfhiaaGreatDoor.De
open Go.RowKit Go.Maps
def chkG (p : List DV) : List DV → Int
 | [] => 0
 | x :: r => if nextT p (devOf x.1 x.2) x.1.ats ≠ 0 then nextT p (devOf x.1 x.2) x.1.ats else chkG (p ++ [x]) r
def treeT (l : List DV) : Int := if 256 < l.length then 40 else chkG [] l
theorem chkG_at {l : List DV} {i : Nat} {x : DV} (h : l[i]? = some x) : chkG (l.take i) (l.drop i) = if nextT (l.take i) (devOf x.1 x.2) x.1.ats ≠ 0 then nextT (l.take i) (devOf x.1 x.2) x.1.ats else chkG (l.take (i + 1)) (l.drop (i + 1)) := by
 obtain ⟨hi, rfl⟩ := List.getElem?_eq_some_iff.1 h
 rw [List.drop_eq_getElem_cons hi, chkG, List.take_add_one, List.getElem?_eq_getElem hi]
 rfl
/-- What Check asks of the devices that it is given. -/
structure COk (l : List DV) : Prop where
 t : TOk l
 s : ∀ x ∈ l, Sized (devOf x.1 x.2) x.1.ats
 a : ∀ x ∈ l, x.1.ats.length ≤ 9223372036854775807
theorem TOk.take {l : List DV} (h : TOk l) (i : Nat) : TOk (l.take i) :=
 ⟨by rw [List.length_take]; have := h.n; omega, fun x hx => h.wi x (List.mem_of_mem_take hx), fun x hx => h.wp x (List.mem_of_mem_take hx), fun x hx => h.o x (List.mem_of_mem_take hx), fun x hx => h.m x (List.mem_of_mem_take hx)⟩
set_option maxRecDepth 100000 in
set_option maxHeartbeats 8000000 in
theorem checkTree_any (sv : Value) (l : List DV) (w : World) (hc : COk l) (h : DHas w sv l) (hm : Max w) :
  Calls Tryz.prog 16 #[.agg #[sv]] w fun e w' => e = .returned (.int .i64 (treeT l)) ∧ Kp [] w w' := by
 obtain ⟨a, c, rfl, hrow⟩ := h.form
 obtain ⟨L, hL⟩ : ∃ L, l.length = L := ⟨_, rfl⟩
 obtain ⟨R, hR⟩ : ∃ R, treeT l = R := ⟨_, rfl⟩
 have hsl := h.slices
 rw [hR]
 unfold treeT at hR
 rw [hL] at hR ⊢
 obtain ⟨W1, hW1⟩ : ∃ W1, w.alloc (.cells #[.slice a L c] 29) = W1 := ⟨_, rfl⟩
 obtain ⟨Bz, hBz⟩ : ∃ B, w.heap.size = B := ⟨_, rfl⟩
 have hk1 : Kp [] w W1 := by rw [← hW1]; exact (Kp.refl [] w).alloc _
 have hbx : W1.heap[Bz]? = some (.cells #[.slice a L c] 29 (0, 0)) := by rw [← hW1, ← hBz]; exact heap_alloc_last w _
 have c0 : W1.cell? ⟨Bz, 0, none⟩ = some (.slice a L c) := by rw [cell_of_row _ _ 0 _ _ _ hbx]; rfl
 have HK1 := Lib.hid hk1
 by_cases h256 : 256 < L
 ·have hz : (256 : Int) < (L : Int) := by omega
  have HR := Lib.hid (show R = 40 from hR.symm.trans (if_pos h256))
  clear hR hc h hm hrow hL hk1 hbx hsl h256
  go_enter Tryz.func16, Tryz.ntmps16
  go_wp2
  go_ret
  exact ⟨by rw [HR.out]; rfl, HK1.out⟩
 have hz : ¬ (256 : Int) < (L : Int) := by omega
 have HR := Lib.hid ((if_neg h256).symm.trans hR)
 have HV := Lib.hid (viewOf0_any W1)
 have HL := Lib.hid hL
 have HC := Lib.hid hc
 have HD1 := Lib.hid (h.below hk1.bel)
 have HM1 := Lib.hid (hm.kp hk1)
 have HRow := Lib.hid (fun (hne : l ≠ []) => hrow hne)
 have Hbx := Lib.hid hbx
 have HSL := Lib.hid hsl
 have H256 := Lib.hid h256
 clear hR hc h hm hrow hL hk1 hbx hsl h256
 go_enter Tryz.func16, Tryz.ntmps16
 go_upto_region 4 with (go_at_call 52; refine Calls.mono (by with_reducible exact HV.out) ?_; rintro e W2 ⟨V, M, D0, rfl, hO⟩; have HO := Lib.hid hO; have c2 : W2.cell? ⟨Bz, 0, none⟩ = some (.slice a L c) := ((hO.bel.cell (World.block_lt_of_cell? W1 _ c0)).trans c0); clear hO)
 clear c0
 go_wp2
 go_loopw [16] (fun s16 wx => ∃ (i B : Nat) (svv : Value) (D : DataW Unit), i ≤ L ∧ s16 = .int .i64 (i : Int) ∧ OView W1 wx V M B svv (l.take i) D ∧ chkG (l.take i) (l.drop i) = R) (fun s16 _ => L - (intOf s16).toNat)
 case atStart => exact ⟨0, _, _, D0, by omega, rfl, HO.out, HR.out⟩
 case round =>
  clear HO c2
  obtain ⟨i, B, svv, D, hi, rfl, hO, hR⟩ := hrel
  by_cases hlt : i < L
  ·have hiz : (i : Int) < (L : Int) := by omega
   obtain ⟨x, hx⟩ : ∃ x, l[i]? = some x := ⟨l[i]'(by rw [HL.out]; exact hlt), List.getElem?_eq_getElem _⟩
   obtain ⟨g, o, rfl, hcap, hg, hr⟩ := HRow.out (fun e => by rw [e] at hx; simp at hx)
   have hxm := List.mem_of_getElem? hx
   obtain ⟨vb, vn, vc, hv⟩ := HSL.out x hxm
   have hr1 := hr.below hg HK1.out.bel
   have hg1 : g < W1.heap.size := Nat.lt_of_lt_of_le hg HK1.out.size
   have hran := (hr1.below hg1 hO.bel).at_ i x hx
   have hat := hr1.ats x hxm
   have hcs := HC.out.s x hxm
   have hca := HC.out.a x hxm
   have hwi := HC.out.t.wi x hxm
   have hwp := HC.out.t.wp x hxm
   have hor := HC.out.t.o x hxm
   rw [chkG_at hx] at hR
   have htk : l.take (i + 1) = l.take i ++ [x] := by rw [List.take_add_one, hx]; rfl
   obtain ⟨ax, sx⟩ := x
   simp only at hv hran hat hcs hca hwi hwp hor hR
   subst hv
   have hst : (dvC ax (.slice vb vn vc)).toArray.all (·.oneCell') = true := by
    rw [Array.all_eq_true_iff_forall_mem]
    intro v hv
    exact dvC_one rfl v (by simpa using hv)
   obtain ⟨W3, hW3⟩ : ∃ W3, wr.alloc (.cells (dvC ax (.slice vb vn vc)).toArray 34) = W3 := ⟨_, rfl⟩
   have hk3 : Kp [] wr W3 := by rw [← hW3]; exact (Kp.refl [] wr).alloc _
   have hb3 : W3.heap[wr.heap.size]? = some (.cells (dvC ax (.slice vb vn vc)).toArray 34 (0, 0)) := by rw [← hW3]; exact heap_alloc_last wr _
   have hO3 := hO.kp hk3
   obtain ⟨E, hE⟩ : ∃ E, nextT (l.take i) (devOf ax (.slice vb vn vc)) ax.ats = E := ⟨_, rfl⟩
   have hcall : Calls Tryz.prog 53 #[.pointer (some ⟨V, 0, none⟩), .agg (dvC ax (.slice vb vn vc)).toArray] W3 fun e w' => e = .returned (.int .i64 E) ∧ Kp [] W3 w' := by
    rw [← hE]
    exact checkNext_any hO3.view (HC.out.t.take i) (devOf ax (.slice vb vn vc)) ax.ats (hat.below hO3.bel) hcs hor hca (HM1.out.below hO3.bel) hwi hwp
   rw [hE] at hR
   have HRan := Lib.hid hran
   have HI1 := Lib.hid (show (Tryz.prog.info? 34).map (·.size) = some (dvC ax (.slice vb vn vc)).length from info34b)
   have HI2 := Lib.hid (show (Tryz.prog.info? 34).map (·.size) = some (dvC ax (.slice vb vn vc)).toArray.size from info34b)
   have Hst := Lib.hid hst
   have HB3 := Lib.hid hb3
   have HO3 := Lib.hid hO3
   have HRR := Lib.hid hR
   have Hcall := Lib.hid hcall
   have HAT := Lib.hid hat
   have HTK := Lib.hid htk
   have HWI := Lib.hid hwi
   have HX := Lib.hid hx
   clear hran hst hb3 hO3 hR hcall hat htk hwi hO hr hr1 hg hg1 hxm hcs hca hwp hor hcap hx hk3
   by_cases hE0 : E = 0
   ·subst hE0
    have HR2 := Lib.hid ((if_neg (by simp)).symm.trans HRR.out)
    clear HRR hE
    go_wp2_with (first
     | (refine wpList_load_mid rfl 34 _ rfl g (o + i * 10) rfl (dvC ax (.slice vb vn vc)) _ (by with_reducible exact HRan.out) Tryz.underlying34 rfl HI1.out ?_)
     | (refine wpList_store_new wr 34 _ (dvC ax (.slice vb vn vc)).toArray rfl _ _ rfl rfl rfl HI2.out rfl Hst.out ?_; rw [hW3])
     | (refine wpList_load_row rfl 34 _ rfl wr.heap.size rfl 34 (dvC ax (.slice vb vn vc)).toArray (0, 0) _ (by with_reducible exact HB3.out) Tryz.underlying34 rfl HI2.out ?_)
     | (refine wpList_load_row rfl 34 _ rfl wr.heap.size rfl 34 (dvC ax (.slice vb vn vc)).toArray (0, 0) _ (by with_reducible exact HB5.out) Tryz.underlying34 rfl HI2.out ?_)
     | (go_at_call 53; refine Calls.mono (by with_reducible exact Hcall.out) ?_; rintro e W5 ⟨rfl, hk5⟩; have HB5 := Lib.hid ((hk5.block _ (block_lt HB3.out) (by simp)).trans HB3.out); have HO5 := Lib.hid (HO3.out.kp hk5); have HADD := Lib.hid (show Calls Tryz.prog 54 #[.pointer (some ⟨V, 0, none⟩), .agg (dvC ax (.slice vb vn vc)).toArray] W5 _ from add_any HO5.out ax vb vn vc HAT.out HWI.out (by rw [List.length_take]; have := H256.out; omega)); clear hk5)
     | (go_at_call 54; refine Calls.mono (by with_reducible exact HADD.out) ?_; rintro e W6 ⟨rfl, sv6, D6, hO6⟩; have HO6 := Lib.hid hO6; clear hO6))
    exact ⟨⟨i + 1, B, sv6, D6, by omega, by go_num, by rw [HTK.out]; exact HO6.out, HR2.out⟩, by simp [intOf]; omega⟩
   ·have hEb : (E == 0) = false := beq_eq_false_iff_ne.2 hE0
    have HR2 := Lib.hid ((if_pos hE0).symm.trans HRR.out)
    clear HRR hE hE0
    go_wp2_with (first
     | (refine wpList_load_mid rfl 34 _ rfl g (o + i * 10) rfl (dvC ax (.slice vb vn vc)) _ (by with_reducible exact HRan.out) Tryz.underlying34 rfl HI1.out ?_)
     | (refine wpList_store_new wr 34 _ (dvC ax (.slice vb vn vc)).toArray rfl _ _ rfl rfl rfl HI2.out rfl Hst.out ?_; rw [hW3])
     | (refine wpList_load_row rfl 34 _ rfl wr.heap.size rfl 34 (dvC ax (.slice vb vn vc)).toArray (0, 0) _ (by with_reducible exact HB3.out) Tryz.underlying34 rfl HI2.out ?_)
     | (go_at_call 53; refine Calls.mono (by with_reducible exact Hcall.out) ?_; rintro e W5 ⟨rfl, hk5⟩; have HK5 := Lib.hid ((HK1.out.trans (Kp.of_below HO3.out.bel)).trans hk5); clear hk5))
    go_ret
    exact ⟨by rw [← HR2.out]; rfl, HK5.out⟩
  ·obtain rfl : i = L := by omega
   have hiz : ¬ (i : Int) < (i : Int) := by omega
   have HR2 := Lib.hid (show R = 0 from by rw [← hR, ← HL.out, List.drop_length]; rfl)
   have HK5 := Lib.hid (HK1.out.trans (Kp.of_below hO.bel))
   clear hO hR
   go_wp2
   go_ret
   exact ⟨by rw [HR2.out]; rfl, HK5.out⟩
end Go.Proofs.YtldcediiobfhiaaGreatDoor.De
namespace Go.Proofs.YtldcediiobfhiaaGreatDoor.De
open Go.RowKit Go.Maps
/-- What Insert answers, the place of the origin given. -/
def insP (l : List DV) (d : Dev) (la : List Atr) (r : Nat) : Int :=
 if admT (l.map (·.1)) d la ≠ 0 then admT (l.map (·.1)) d la
 else if 256 ≤ l.length then 40
 else if 7 < Lib.countByte (orgB l (aOf d la)).data.toList 47 then 46
 else if hasAt l (orgB l (aOf d la)) r = true then 44
 else if clsB l d = true then 44 else 0
/-- Whether Insert comes to look for the place. -/
def insAt (l : List DV) (d : Dev) (la : List Atr) : Prop := admT (l.map (·.1)) d la = 0 ∧ l.length < 256 ∧ Lib.countByte (orgB l (aOf d la)).data.toList 47 ≤ 7
set_option maxRecDepth 100000 in
set_option maxHeartbeats 8000000 in
theorem insertErr_any (sv : Value) (l : List DV) (d : Dev) (la : List Atr) (w : World) (ht : TOk l) (h : DHas w sv l) (hcap : ∀ a n c, sv = .slice a n c → n ≤ c) (hd : Has w d.av la) (hs : Sized d la) (ho : d.orig.size ≤ 300) (hla : la.length ≤ 9223372036854775807) (hm : Max w) (hi : (Lit.int .i64 d.idx).wf = true) (hp : (Lit.int .i64 d.par).wf = true)
  (E : Int) (hE : E ≠ 0) (hres : ∀ r, (insAt l d la → PlaceOf l (orgB l (aOf d la)) r) → insP l d la r = E) :
  Calls Tryz.prog 40 #[.agg #[sv], devV d] w fun e w' => e = .returned (.tuple #[.agg #[.slice none 0 0], .int .i64 E]) ∧ Kp [] w w' := by
 obtain ⟨b, c, hav, -⟩ := hd.form
 obtain ⟨n, hn⟩ : ∃ n, la.length = n := ⟨_, rfl⟩
 rw [hn] at hav
 obtain ⟨ta, tc, rfl, -⟩ := h.form
 obtain ⟨L, hL⟩ : ∃ L, l.length = L := ⟨_, rfl⟩
 have HL := Lib.hid hL
 rw [hL]
 obtain ⟨Bz, hBz⟩ : ∃ B, w.heap.size = B := ⟨_, rfl⟩
 obtain ⟨di, hdi⟩ : ∃ x, d.idx = x := ⟨_, rfl⟩
 obtain ⟨dp, hdp⟩ : ∃ x, d.par = x := ⟨_, rfl⟩
 obtain ⟨dn, hdn⟩ : ∃ x, d.name = x := ⟨_, rfl⟩
 obtain ⟨dor, hdor⟩ : ∃ x, d.orig = x := ⟨_, rfl⟩
 obtain ⟨du, hdu⟩ : ∃ x, d.sub = x := ⟨_, rfl⟩
 obtain ⟨dd, hdd⟩ : ∃ x, d.drv = x := ⟨_, rfl⟩
 obtain ⟨dl, hdl⟩ : ∃ x, d.ali = x := ⟨_, rfl⟩
 obtain ⟨dk, hdk⟩ : ∃ x, d.kind = x := ⟨_, rfl⟩
 obtain ⟨dm, hdm⟩ : ∃ x, d.num = x := ⟨_, rfl⟩
 have hdv : devV d = .agg #[.int .i64 di, .int .i64 dp, .string dn, .string dor, .string du, .string dd, .string dl, .int .i64 dk, .int .i64 dm, .slice b n c] := by unfold devV devC; rw [hdi, hdp, hdn, hdor, hdu, hdd, hdl, hdk, hdm, hav]
 obtain ⟨W0, hW⟩ : ∃ W0, ((w.alloc (.cells #[.slice ta L tc] 29)).alloc (.cells #[.int .i64 di, .int .i64 dp, .string dn, .string dor, .string du, .string dd, .string dl, .int .i64 dk, .int .i64 dm, .slice b n c] 34)).alloc (.cells #[.slice none 0 0] 29) = W0 := ⟨_, rfl⟩
 have HK0 := Lib.hid (show Kp [] w W0 from by rw [← hW]; exact (((Kp.refl [] w).alloc _).alloc _).alloc _)
 have HS0 := Lib.hid (show W0.heap.size = Bz + 3 from by rw [← hW, World.size_alloc, World.size_alloc, World.size_alloc, hBz])
 have HF := Lib.hid (show ∀ W, Kp [] W0 W → W.heap[Bz]? = some (.cells #[.slice ta L tc] 29 (0, 0)) ∧ BoxAt W (Bz + 1) #[.int .i64 di, .int .i64 dp, .string dn, .string dor, .string du, .string dd, .string dl, .int .i64 dk, .int .i64 dm, .slice b n c] ∧ W.heap[Bz + 2]? = some (.cells #[.slice none 0 0] 29 (0, 0)) from fun W hk => by
  have h1 := heap_alloc2_old w (.cells #[.slice ta L tc] 29) (.cells #[.int .i64 di, .int .i64 dp, .string dn, .string dor, .string du, .string dd, .string dl, .int .i64 dk, .int .i64 dm, .slice b n c] 34)
  have h2 := heap_alloc_last (w.alloc (.cells #[.slice ta L tc] 29)) (.cells #[.int .i64 di, .int .i64 dp, .string dn, .string dor, .string du, .string dd, .string dl, .int .i64 dk, .int .i64 dm, .slice b n c] 34)
  have h3 := heap_alloc_last ((w.alloc (.cells #[.slice ta L tc] 29)).alloc (.cells #[.int .i64 di, .int .i64 dp, .string dn, .string dor, .string du, .string dd, .string dl, .int .i64 dk, .int .i64 dm, .slice b n c] 34)) (.cells #[.slice none 0 0] 29)
  have hb := Below.heap_alloc ((w.alloc (.cells #[.slice ta L tc] 29)).alloc (.cells #[.int .i64 di, .int .i64 dp, .string dn, .string dor, .string du, .string dd, .string dl, .int .i64 dk, .int .i64 dm, .slice b n c] 34)) (.cells #[.slice none 0 0] 29)
  rw [hW] at h3 hb
  rw [World.size_alloc, World.size_alloc, hBz] at h3
  rw [World.size_alloc, hBz] at h2
  rw [hBz] at h1
  have hs := HS0.out
  refine ⟨(hk.block Bz (by omega) (by simp)).trans ((hb Bz (by rw [World.size_alloc, World.size_alloc]; omega)).trans h1), (hk.block (Bz + 1) (by omega) (by simp)).trans ((hb (Bz + 1) (by rw [World.size_alloc, World.size_alloc]; omega)).trans h2), (hk.block (Bz + 2) (by omega) (by simp)).trans h3⟩)
 have Hwz := Lib.hid (show w.heap.size ≤ Bz + 2 by omega)
 have hv := viewOf_any (.slice ta l.length tc) l W0 (by have := ht.n; omega) (h.below HK0.out.bel) hcap ht.wi
 rw [hL] at hv
 have HV := Lib.hid hv
 have HA := Lib.hid fun V M sv' D W (hk : Kp [] W0 W) (hV : View W V sv' M l D) => admit_any hV d la ((hd.below HK0.out.bel).below hk.bel) hs hla ((hm.kp HK0.out).kp hk) hi hp
 have HO := Lib.hid fun V M sv' D W (hV : View W V sv' M l D) => origin80_val hV (aOf d la) b n c ht ho hp
 have HZ := Lib.hid (orgB_size ht (d := aOf d la) ho)
 have HP := Lib.hid fun V M sv' D W (hV : View W V sv' M l D) => place_any hV ht (orgB l (aOf d la)) (by have := HZ.out; omega)
 have HC := Lib.hid fun V M sv' D W (hk : Kp [] W0 W) (hV : View W V sv' M l D) => clashes_any hV ht d (by omega) ((hm.kp HK0.out).kp hk)
 have HD := Lib.hid fun W => depth81_any (orgB l (aOf d la)) W
 have HRS := Lib.hid hres
 have HE := Lib.hid hE
 clear hs hla hm hi hp hd ht h hcap hv hE hres ho
 rw [hdv]
 simp only [hdv] at HA
 have HAOF := Lib.hid (show (Value.agg #[.int .i64 (aOf d la).idx, .int .i64 (aOf d la).par, .string (aOf d la).name, .string (aOf d la).orig, .string (aOf d la).sub, .string (aOf d la).drv, .string (aOf d la).ali, .int .i64 (aOf d la).kind, .int .i64 (aOf d la).num, .slice b n c]) = .agg #[.int .i64 di, .int .i64 dp, .string dn, .string dor, .string du, .string dd, .string dl, .int .i64 dk, .int .i64 dm, .slice b n c] from by
  unfold aOf
  simp only
  rw [hdi, hdp, hdn, hdor, hdu, hdd, hdl, hdk, hdm])
 rw [HAOF.out] at HO
 have HAO2 := Lib.hid (show (Value.agg #[.int .i64 d.idx, .int .i64 d.par, .string d.name, .string d.orig, .string d.sub, .string d.drv, .string d.ali, .int .i64 d.kind, .int .i64 d.num, d.av]) = .agg #[.int .i64 di, .int .i64 dp, .string dn, .string dor, .string du, .string dd, .string dl, .int .i64 dk, .int .i64 dm, .slice b n c] from by rw [hdi, hdp, hdn, hdor, hdu, hdd, hdl, hdk, hdm, hav])
 rw [HAO2.out] at HC
 clear hdv hdi hdp hdn hdor hdu hdd hdl hdk hdm hav hn
 have HAt := Lib.hid (show insAt l d la ↔ admT (l.map (·.1)) d la = 0 ∧ l.length < 256 ∧ Lib.countByte (orgB l (aOf d la)).data.toList 47 ≤ 7 from Iff.rfl)
 have HIP := Lib.hid (fun r => show insP l d la r = (if admT (l.map (·.1)) d la ≠ 0 then admT (l.map (·.1)) d la else if 256 ≤ l.length then 40 else if 7 < Lib.countByte (orgB l (aOf d la)).data.toList 47 then 46 else if hasAt l (orgB l (aOf d la)) r = true then 44 else if clsB l d = true then 44 else 0) from rfl)
 obtain ⟨A, hA⟩ : ∃ A, admT (l.map (·.1)) d la = A := ⟨_, rfl⟩
 obtain ⟨u, hu⟩ : ∃ u, orgB l (aOf d la) = u := ⟨_, rfl⟩
 simp only [hA] at HA HIP HAt
 simp only [hu] at HO HP HD HIP HRS HAt
 obtain ⟨Z, hZ⟩ : ∃ Z, Lib.countByte u.data.toList 47 = Z := ⟨_, rfl⟩
 simp only [hZ] at HD HIP HAt
 obtain ⟨q2, hq2⟩ : ∃ q, clsB l d = q := ⟨_, rfl⟩
 simp only [hq2] at HC HIP
 simp only [hL] at HIP HAt
 clear hA hu hZ hq2 HZ hL
 go_enter Tryz.func40, Tryz.ntmps40
 have t0 : W0.cell? ⟨Bz, 0, none⟩ = some (.slice ta L tc) := by rw [cell_of_row _ _ _ _ _ _ (HF.out _ (Kp.refl [] W0)).1]; rfl
 go_upto_region 2 with (go_at_call 52; refine Calls.mono (by with_reducible exact HV.out) ?_; rintro e W2 ⟨V, M, D, sv', rfl, -, -, hV2, hb2⟩; have HK2 := Lib.hid (Kp.of_below hb2); have HV2 := Lib.hid hV2; clear hb2 hV2)
 clear t0
 have cx0 : W2.cell? ⟨Bz + 1, 0, none⟩ = some (.int .i64 di) := (HF.out _ HK2.out).2.1.cell 0
 have cx1 : W2.cell? ⟨Bz + 1, 1, none⟩ = some (.int .i64 dp) := (HF.out _ HK2.out).2.1.cell 1
 have cx2 : W2.cell? ⟨Bz + 1, 2, none⟩ = some (.string dn) := (HF.out _ HK2.out).2.1.cell 2
 have cx3 : W2.cell? ⟨Bz + 1, 3, none⟩ = some (.string dor) := (HF.out _ HK2.out).2.1.cell 3
 have cx4 : W2.cell? ⟨Bz + 1, 4, none⟩ = some (.string du) := (HF.out _ HK2.out).2.1.cell 4
 have cx5 : W2.cell? ⟨Bz + 1, 5, none⟩ = some (.string dd) := (HF.out _ HK2.out).2.1.cell 5
 have cx6 : W2.cell? ⟨Bz + 1, 6, none⟩ = some (.string dl) := (HF.out _ HK2.out).2.1.cell 6
 have cx7 : W2.cell? ⟨Bz + 1, 7, none⟩ = some (.int .i64 dk) := (HF.out _ HK2.out).2.1.cell 7
 have cx8 : W2.cell? ⟨Bz + 1, 8, none⟩ = some (.int .i64 dm) := (HF.out _ HK2.out).2.1.cell 8
 have cx9 : W2.cell? ⟨Bz + 1, 9, none⟩ = some (.slice b n c) := (HF.out _ HK2.out).2.1.cell 9
 by_cases hA0 : A = 0
 rotate_left
 ·have hA1 : (A == 0) = false := beq_eq_false_iff_ne.2 hA0
  have HX := Lib.hid (show A = E from by
   rw [← HRS.out 0 (fun hc => absurd (HAt.out.1 hc).1 hA0), HIP.out, if_pos hA0])
  clear hA0
  go_upto_region 4 with (go_at_call 79; refine Calls.mono (by with_reducible exact HA.out _ _ _ _ _ HK2.out HV2.out) ?_; rintro e W3 ⟨rfl, hk3⟩; have HK3 := Lib.hid (HK2.out.trans hk3); clear hk3)
  have HR1 := Lib.hid (HF.out _ HK3.out).2.2
  have HKZ := Lib.hid HK3.out
  go_wp2_with (refine wpList_store_row rfl 29 _ _ rfl (Bz + 2) #[.slice none 0 0] rfl rfl 29 #[.slice none 0 0] HR1.out info30b rfl one30 ?_)
  exact bodyPost_ret (v := .tuple #[.agg #[.slice none 0 0], .int .i64 A]) (De.results_row_tmp rfl _ _ (Bz + 2) 29 #[.slice none 0 0] _ _ _ rfl rfl (setRow_heap _ _ _ _ _ _ HR1.out) Tryz.underlying29 rfl info30b) rfl ⟨by rw [HX.out], (HK0.out.trans HKZ.out).setRow (.inr Hwz.out) _⟩
 subst hA0
 go_upto_region 5 with (go_at_call 79; refine Calls.mono (by with_reducible exact HA.out _ _ _ _ _ HK2.out HV2.out) ?_; rintro e W3 ⟨rfl, hk3⟩; have HV3 := Lib.hid (HV2.out.below hk3.bel); have HK3 := Lib.hid (HK2.out.trans hk3); clear hk3)
 clear cx0 cx1 cx2 cx3 cx4 cx5 cx6 cx7 cx8 cx9
 have cx0 : W3.cell? ⟨Bz + 1, 0, none⟩ = some (.int .i64 di) := (HF.out _ HK3.out).2.1.cell 0
 have cx1 : W3.cell? ⟨Bz + 1, 1, none⟩ = some (.int .i64 dp) := (HF.out _ HK3.out).2.1.cell 1
 have cx2 : W3.cell? ⟨Bz + 1, 2, none⟩ = some (.string dn) := (HF.out _ HK3.out).2.1.cell 2
 have cx3 : W3.cell? ⟨Bz + 1, 3, none⟩ = some (.string dor) := (HF.out _ HK3.out).2.1.cell 3
 have cx4 : W3.cell? ⟨Bz + 1, 4, none⟩ = some (.string du) := (HF.out _ HK3.out).2.1.cell 4
 have cx5 : W3.cell? ⟨Bz + 1, 5, none⟩ = some (.string dd) := (HF.out _ HK3.out).2.1.cell 5
 have cx6 : W3.cell? ⟨Bz + 1, 6, none⟩ = some (.string dl) := (HF.out _ HK3.out).2.1.cell 6
 have cx7 : W3.cell? ⟨Bz + 1, 7, none⟩ = some (.int .i64 dk) := (HF.out _ HK3.out).2.1.cell 7
 have cx8 : W3.cell? ⟨Bz + 1, 8, none⟩ = some (.int .i64 dm) := (HF.out _ HK3.out).2.1.cell 8
 have cx9 : W3.cell? ⟨Bz + 1, 9, none⟩ = some (.slice b n c) := (HF.out _ HK3.out).2.1.cell 9
 have t3 : W3.cell? ⟨Bz, 0, none⟩ = some (.slice ta L tc) := by rw [cell_of_row _ _ _ _ _ _ (HF.out _ HK3.out).1]; rfl
 by_cases hL6 : 256 ≤ L
 ·have hLz : (256 : Int) ≤ (L : Int) := by omega
  have HX := Lib.hid (show (40 : Int) = E from by
   rw [← HRS.out 0 (fun hc => absurd (HAt.out.1 hc).2.1 (by omega)), HIP.out, if_neg (by simp), if_pos hL6])
  clear hL6
  go_upto_region 6 with fail
  have HR1 := Lib.hid (HF.out _ HK3.out).2.2
  have HKZ := Lib.hid HK3.out
  go_wp2_with (refine wpList_store_row rfl 29 _ _ rfl (Bz + 2) #[.slice none 0 0] rfl rfl 29 #[.slice none 0 0] HR1.out info30b rfl one30 ?_)
  exact bodyPost_ret (v := .tuple #[.agg #[.slice none 0 0], .int .i64 40]) (De.results_row_tmp rfl _ _ (Bz + 2) 29 #[.slice none 0 0] _ _ _ rfl rfl (setRow_heap _ _ _ _ _ _ HR1.out) Tryz.underlying29 rfl info30b) rfl ⟨by rw [HX.out], (HK0.out.trans HKZ.out).setRow (.inr Hwz.out) _⟩
 have hLz : ¬ (256 : Int) ≤ (L : Int) := by omega
 go_upto_region 8 with (go_at_call 80; refine Calls.mono (by with_reducible exact HO.out _ _ _ _ _ HV3.out) ?_; rintro e W4 ⟨rfl, hk4⟩; have HV4 := Lib.hid (HV3.out.below hk4.bel); have HK4 := Lib.hid (HK3.out.trans hk4); clear hk4)
 clear cx0 cx1 cx2 cx3 cx4 cx5 cx6 cx7 cx8 cx9
 clear t3
 by_cases hZ7 : 7 < Z
 ·have hz : (7 : Int) < (Z : Int) := by omega
  have HX := Lib.hid (show (46 : Int) = E from by
   rw [← HRS.out 0 (fun hc => absurd (HAt.out.1 hc).2.2 (by omega)), HIP.out, if_neg (by simp), if_neg hL6, if_pos hZ7])
  clear hL6 hZ7
  go_upto_region 9 with (go_at_call 81; refine Calls.mono (by with_reducible exact HD.out _) ?_; rintro e W5 ⟨rfl, rfl⟩)
  have HR1 := Lib.hid (HF.out _ HK4.out).2.2
  have HKZ := Lib.hid HK4.out
  go_wp2_with (refine wpList_store_row rfl 29 _ _ rfl (Bz + 2) #[.slice none 0 0] rfl rfl 29 #[.slice none 0 0] HR1.out info30b rfl one30 ?_)
  exact bodyPost_ret (v := .tuple #[.agg #[.slice none 0 0], .int .i64 46]) (De.results_row_tmp rfl _ _ (Bz + 2) 29 #[.slice none 0 0] _ _ _ rfl rfl (setRow_heap _ _ _ _ _ _ HR1.out) Tryz.underlying29 rfl info30b) rfl ⟨by rw [HX.out], (HK0.out.trans HKZ.out).setRow (.inr Hwz.out) _⟩
 have hz : ¬ (7 : Int) < (Z : Int) := by omega
 go_upto_region 11 with (first
  | (go_at_call 81; refine Calls.mono (by with_reducible exact HD.out _) ?_; rintro e W5 ⟨rfl, rfl⟩)
  | (go_at_call 64; refine Calls.mono (by with_reducible exact HP.out _ _ _ _ _ HV4.out) ?_; rintro e W6 ⟨r, rfl, hpl, hk6⟩; have HV6 := Lib.hid (HV4.out.below hk6.bel); have HK6 := Lib.hid (HK4.out.trans hk6); have HPL := Lib.hid hpl; clear hk6 hpl))
 have cx0 : W6.cell? ⟨Bz + 1, 0, none⟩ = some (.int .i64 di) := (HF.out _ HK6.out).2.1.cell 0
 have cx1 : W6.cell? ⟨Bz + 1, 1, none⟩ = some (.int .i64 dp) := (HF.out _ HK6.out).2.1.cell 1
 have cx2 : W6.cell? ⟨Bz + 1, 2, none⟩ = some (.string dn) := (HF.out _ HK6.out).2.1.cell 2
 have cx3 : W6.cell? ⟨Bz + 1, 3, none⟩ = some (.string dor) := (HF.out _ HK6.out).2.1.cell 3
 have cx4 : W6.cell? ⟨Bz + 1, 4, none⟩ = some (.string du) := (HF.out _ HK6.out).2.1.cell 4
 have cx5 : W6.cell? ⟨Bz + 1, 5, none⟩ = some (.string dd) := (HF.out _ HK6.out).2.1.cell 5
 have cx6 : W6.cell? ⟨Bz + 1, 6, none⟩ = some (.string dl) := (HF.out _ HK6.out).2.1.cell 6
 have cx7 : W6.cell? ⟨Bz + 1, 7, none⟩ = some (.int .i64 dk) := (HF.out _ HK6.out).2.1.cell 7
 have cx8 : W6.cell? ⟨Bz + 1, 8, none⟩ = some (.int .i64 dm) := (HF.out _ HK6.out).2.1.cell 8
 have cx9 : W6.cell? ⟨Bz + 1, 9, none⟩ = some (.slice b n c) := (HF.out _ HK6.out).2.1.cell 9
 have hip : insP l d la r = E := HRS.out r (fun _ => HPL.out)
 rw [HIP.out, if_neg (by simp), if_neg hL6, if_neg hZ7] at hip
 clear hL6 hZ7
 cases hh : hasAt l u r with
 | true =>
  rw [hh, if_pos rfl] at hip
  have HX := Lib.hid hip
  clear hip hh
  go_upto_region 12 with fail
  have HR1 := Lib.hid (HF.out _ HK6.out).2.2
  have HKZ := Lib.hid HK6.out
  go_wp2_with (refine wpList_store_row rfl 29 _ _ rfl (Bz + 2) #[.slice none 0 0] rfl rfl 29 #[.slice none 0 0] HR1.out info30b rfl one30 ?_)
  exact bodyPost_ret (v := .tuple #[.agg #[.slice none 0 0], .int .i64 44]) (De.results_row_tmp rfl _ _ (Bz + 2) 29 #[.slice none 0 0] _ _ _ rfl rfl (setRow_heap _ _ _ _ _ _ HR1.out) Tryz.underlying29 rfl info30b) rfl ⟨by rw [HX.out], (HK0.out.trans HKZ.out).setRow (.inr Hwz.out) _⟩
 | false =>
  rw [hh, if_neg (by simp)] at hip
  cases q2 with
  | true =>
   rw [if_pos rfl] at hip
   have HX := Lib.hid hip
   clear hip hh
   go_upto_region 12 with (go_at_call 82; refine Calls.mono (by with_reducible exact HC.out _ _ _ _ _ HK6.out HV6.out) ?_; rintro e W7 ⟨rfl, hk7⟩; have HK7 := Lib.hid (HK6.out.trans hk7); clear hk7)
   have HR1 := Lib.hid (HF.out _ HK7.out).2.2
   have HKZ := Lib.hid HK7.out
   go_wp2_with (refine wpList_store_row rfl 29 _ _ rfl (Bz + 2) #[.slice none 0 0] rfl rfl 29 #[.slice none 0 0] HR1.out info30b rfl one30 ?_)
   exact bodyPost_ret (v := .tuple #[.agg #[.slice none 0 0], .int .i64 44]) (De.results_row_tmp rfl _ _ (Bz + 2) 29 #[.slice none 0 0] _ _ _ rfl rfl (setRow_heap _ _ _ _ _ _ HR1.out) Tryz.underlying29 rfl info30b) rfl ⟨by rw [HX.out], (HK0.out.trans HKZ.out).setRow (.inr Hwz.out) _⟩
  | false =>
   rw [if_neg (by simp)] at hip
   exact absurd hip.symm HE.out
end Go.Proofs.YtldcediiobfhiaaGreatDoor.De
