/- Insert, where it says no error. Insert of the program and of the reference answer the same, on lists. Insert of the program into a valid tree. -/
import Derived.Test.YtldcediiobfhiaaGreatDoorKV6
import Derived.Test.YtldcediiobfhiaaGreatDoorKZ1
import Derived.Test.YtldcediiobfhiaaGreatDoorKU4
import Derived.Test.YtldcediiobfhiaaGreatDoorKSe
namespace Go.Proofs.YtldcediiobfhiaaGreatDoor.De
open Go.RowKit Go.Maps
theorem kp_belowS {S : List Nat} {w0 w w' : World} (h : Kp S w0 w) (g : Below w0.heap.size w w') : Kp S w0 w' :=
 ⟨g.os.trans h.os, g.tape.trans h.tape, g.output.trans h.output, Nat.le_trans h.size g.size, fun k hk hs => (g.block k hk).trans (h.block k hk hs)⟩
theorem box_set1 {w : World} {g : Nat} {v : Value} (h : w.heap[g]? = some (.cells #[v] 29 (0, 0))) (u : Value) : (w.setCell ⟨g, 0, none⟩ u).heap[g]? = some (.cells #[u] 29 (0, 0)) := by
 show (w.heap.modify g _)[g]? = _
 rw [Array.getElem?_modify, if_pos rfl, h]
 rfl
theorem dany_ne {W : World} {v : Value} {l : List DV} (h : DHas W v l) (hl : l ≠ []) : DAny W v l := by
 rcases h with ⟨a, c, -, h0⟩ | h
 ·exact absurd h0 hl
 ·exact .inr h
theorem DIn.below {W W' : World} {B : Nat} {v : Value} {L : List DV} (h : DIn W B v L) (hb : Below W.heap.size W W') : DIn W' B v L :=
 ⟨(DOwn.keep (⟨h.row, h.ats⟩ : DOwn W B v L) hb).row, fun x hx => (h.ats x hx).below hb, h.ne⟩
set_option maxRecDepth 100000 in
set_option maxHeartbeats 8000000 in
theorem insertOk_any (sv : Value) (l : List DV) (d : Dev) (la : List Atr) (w : World) (ht : TOk l) (h : DHas w sv l) (hcap : ∀ a n c, sv = .slice a n c → n ≤ c) (hd : Has w d.av la) (hs : Sized d la) (ho : d.orig.size ≤ 300) (hla : la.length ≤ 9223372036854775807) (hm : Max w) (hi : (Lit.int .i64 d.idx).wf = true) (hp : (Lit.int .i64 d.par).wf = true)
  (hal : ∀ x ∈ l, x.1.ats.length ≤ 1000000) (hla6 : la.length ≤ 1000000) (hat : insAt l d la) (hres : ∀ r, PlaceOf l (orgB l (aOf d la)) r → insP l d la r = 0) :
  Calls Tryz.prog 40 #[.agg #[sv], devV d] w fun e w' => ∃ r u L', PlaceOf l (orgB l (aOf d la)) r ∧ e = .returned (.tuple #[.agg #[u], .int .i64 0]) ∧ L'.map (·.1) = (l.map (·.1)).take r ++ aOf d la :: (l.map (·.1)).drop r ∧ DHas w' u L' ∧ Kp [] w w' := by
 obtain ⟨b, c, hav, -⟩ := hd.form
 obtain ⟨n, hn⟩ : ∃ n, la.length = n := ⟨_, rfl⟩
 rw [hn] at hav
 obtain ⟨ta, tc, rfl, -⟩ := h.form
 obtain ⟨L, hL⟩ : ∃ L, l.length = L := ⟨_, rfl⟩
 have HL := Lib.hid hL
 rw [hL]
 obtain ⟨Bz, hBz⟩ : ∃ B, w.heap.size = B := ⟨_, rfl⟩
 obtain ⟨di, hdi⟩ : ∃ x, d.idx = x := ⟨_, rfl⟩
 obtain ⟨dp, hdp⟩ : ∃ x, d.par = x := ⟨_, rfl⟩
 obtain ⟨dn, hdn⟩ : ∃ x, d.name = x := ⟨_, rfl⟩
 obtain ⟨dor, hdor⟩ : ∃ x, d.orig = x := ⟨_, rfl⟩
 obtain ⟨du, hdu⟩ : ∃ x, d.sub = x := ⟨_, rfl⟩
 obtain ⟨dd, hdd⟩ : ∃ x, d.drv = x := ⟨_, rfl⟩
 obtain ⟨dl, hdl⟩ : ∃ x, d.ali = x := ⟨_, rfl⟩
 obtain ⟨dk, hdk⟩ : ∃ x, d.kind = x := ⟨_, rfl⟩
 obtain ⟨dm, hdm⟩ : ∃ x, d.num = x := ⟨_, rfl⟩
 have hdv : devV d = .agg #[.int .i64 di, .int .i64 dp, .string dn, .string dor, .string du, .string dd, .string dl, .int .i64 dk, .int .i64 dm, .slice b n c] := by unfold devV devC; rw [hdi, hdp, hdn, hdor, hdu, hdd, hdl, hdk, hdm, hav]
 obtain ⟨W0, hW⟩ : ∃ W0, ((w.alloc (.cells #[.slice ta L tc] 29)).alloc (.cells #[.int .i64 di, .int .i64 dp, .string dn, .string dor, .string du, .string dd, .string dl, .int .i64 dk, .int .i64 dm, .slice b n c] 34)).alloc (.cells #[.slice none 0 0] 29) = W0 := ⟨_, rfl⟩
 have HK0 := Lib.hid (show Kp [] w W0 from by rw [← hW]; exact (((Kp.refl [] w).alloc _).alloc _).alloc _)
 have HS0 := Lib.hid (show W0.heap.size = Bz + 3 from by rw [← hW, World.size_alloc, World.size_alloc, World.size_alloc, hBz])
 have HF := Lib.hid (show ∀ W, Kp [] W0 W → W.heap[Bz]? = some (.cells #[.slice ta L tc] 29 (0, 0)) ∧ BoxAt W (Bz + 1) #[.int .i64 di, .int .i64 dp, .string dn, .string dor, .string du, .string dd, .string dl, .int .i64 dk, .int .i64 dm, .slice b n c] ∧ W.heap[Bz + 2]? = some (.cells #[.slice none 0 0] 29 (0, 0)) from fun W hk => by
  have h1 := heap_alloc2_old w (.cells #[.slice ta L tc] 29) (.cells #[.int .i64 di, .int .i64 dp, .string dn, .string dor, .string du, .string dd, .string dl, .int .i64 dk, .int .i64 dm, .slice b n c] 34)
  have h2 := heap_alloc_last (w.alloc (.cells #[.slice ta L tc] 29)) (.cells #[.int .i64 di, .int .i64 dp, .string dn, .string dor, .string du, .string dd, .string dl, .int .i64 dk, .int .i64 dm, .slice b n c] 34)
  have h3 := heap_alloc_last ((w.alloc (.cells #[.slice ta L tc] 29)).alloc (.cells #[.int .i64 di, .int .i64 dp, .string dn, .string dor, .string du, .string dd, .string dl, .int .i64 dk, .int .i64 dm, .slice b n c] 34)) (.cells #[.slice none 0 0] 29)
  have hb := Below.heap_alloc ((w.alloc (.cells #[.slice ta L tc] 29)).alloc (.cells #[.int .i64 di, .int .i64 dp, .string dn, .string dor, .string du, .string dd, .string dl, .int .i64 dk, .int .i64 dm, .slice b n c] 34)) (.cells #[.slice none 0 0] 29)
  rw [hW] at h3 hb
  rw [World.size_alloc, World.size_alloc, hBz] at h3
  rw [World.size_alloc, hBz] at h2
  rw [hBz] at h1
  have hs := HS0.out
  refine ⟨(hk.block Bz (by omega) (by simp)).trans ((hb Bz (by rw [World.size_alloc, World.size_alloc]; omega)).trans h1), (hk.block (Bz + 1) (by omega) (by simp)).trans ((hb (Bz + 1) (by rw [World.size_alloc, World.size_alloc]; omega)).trans h2), (hk.block (Bz + 2) (by omega) (by simp)).trans h3⟩)
 have Hwz := Lib.hid (show w.heap.size ≤ Bz + 2 by omega)
 have hv := viewOf_any (.slice ta l.length tc) l W0 (by have := ht.n; omega) (h.below HK0.out.bel) hcap ht.wi
 rw [hL] at hv
 have HV := Lib.hid hv
 have HA := Lib.hid fun V M sv' D W (hk : Kp [] W0 W) (hV : View W V sv' M l D) => admit_any hV d la ((hd.below HK0.out.bel).below hk.bel) hs hla ((hm.kp HK0.out).kp hk) hi hp
 have HO := Lib.hid fun V M sv' D W (hV : View W V sv' M l D) => origin80_val hV (aOf d la) b n c ht ho hp
 have HZ := Lib.hid (orgB_size ht (d := aOf d la) ho)
 have HP := Lib.hid fun V M sv' D W (hV : View W V sv' M l D) => place_any hV ht (orgB l (aOf d la)) (by have := HZ.out; omega)
 have HC := Lib.hid fun V M sv' D W (hk : Kp [] W0 W) (hV : View W V sv' M l D) => clashes_any hV ht d (by omega) ((hm.kp HK0.out).kp hk)
 have HD := Lib.hid fun W => depth81_any (orgB l (aOf d la)) W
 have HRS := Lib.hid hres
 have HIA := Lib.hid hat
 have HCl := Lib.hid (fun W (hk : Below w.heap.size w W) => clonesO_any (.slice ta l.length tc) l W (by have := ht.n; omega) hal (h.below hk))
 have HAOU := Lib.hid (fun (u : Value) => show devV (devOf (aOf d la) u) = .agg #[.int .i64 di, .int .i64 dp, .string dn, .string dor, .string du, .string dd, .string dl, .int .i64 dk, .int .i64 dm, u] from by
  unfold devV devC devOf aOf
  simp only
  rw [hdi, hdp, hdn, hdor, hdu, hdd, hdl, hdk, hdm])
 have HAOA := Lib.hid (fun (u : Value) => show (dvC (aOf d la) u).toArray = #[.int .i64 di, .int .i64 dp, .string dn, .string dor, .string du, .string dd, .string dl, .int .i64 dk, .int .i64 dm, u] from by
  unfold dvC aOf
  simp only
  rw [hdi, hdp, hdn, hdor, hdu, hdd, hdl, hdk, hdm])
 have HCd := Lib.hid (fun W (hk : Below w.heap.size w W) => (show Calls Tryz.prog 65 #[.agg #[.int .i64 di, .int .i64 dp, .string dn, .string dor, .string du, .string dd, .string dl, .int .i64 dk, .int .i64 dm, .slice b n c]] W (fun e w' => ∃ a m c, e = .returned (.agg #[.int .i64 di, .int .i64 dp, .string dn, .string dor, .string du, .string dd, .string dl, .int .i64 dk, .int .i64 dm, .slice a m c]) ∧ Owns w' W.heap.size (.slice a m c) la ∧ Below W.heap.size W w') from by
  rw [← HAOU.out]
  refine (cloneDev_any (aOf d la) (.slice b n c) W hla6 (by rw [← hav]; exact hd.below hk)).mono fun e w' ⟨u, he, ho, hb⟩ => ?_
  rcases ho.form with ⟨rfl, hz⟩ | ⟨g, cap, rfl, -⟩
  ·exact ⟨none, 0, 0, by rw [he, HAOU.out], ho, hb⟩
  ·exact ⟨some ⟨g, 0, none⟩, _, cap, by rw [he, HAOU.out], ho, hb⟩))
 have HT6 := Lib.hid (show l.length ≤ 1000000 from by have := ht.n; omega)
 clear hs hla hm hi hp hd ht h hcap hv hres ho hal hla6 hat
 rw [hdv]
 simp only [hdv] at HA
 have HAOF := Lib.hid (show (Value.agg #[.int .i64 (aOf d la).idx, .int .i64 (aOf d la).par, .string (aOf d la).name, .string (aOf d la).orig, .string (aOf d la).sub, .string (aOf d la).drv, .string (aOf d la).ali, .int .i64 (aOf d la).kind, .int .i64 (aOf d la).num, .slice b n c]) = .agg #[.int .i64 di, .int .i64 dp, .string dn, .string dor, .string du, .string dd, .string dl, .int .i64 dk, .int .i64 dm, .slice b n c] from by
  unfold aOf
  simp only
  rw [hdi, hdp, hdn, hdor, hdu, hdd, hdl, hdk, hdm])
 rw [HAOF.out] at HO
 rw [hL] at HCl
 have HAO2 := Lib.hid (show (Value.agg #[.int .i64 d.idx, .int .i64 d.par, .string d.name, .string d.orig, .string d.sub, .string d.drv, .string d.ali, .int .i64 d.kind, .int .i64 d.num, d.av]) = .agg #[.int .i64 di, .int .i64 dp, .string dn, .string dor, .string du, .string dd, .string dl, .int .i64 dk, .int .i64 dm, .slice b n c] from by rw [hdi, hdp, hdn, hdor, hdu, hdd, hdl, hdk, hdm, hav])
 rw [HAO2.out] at HC
 clear hdv hdi hdp hdn hdor hdu hdd hdl hdk hdm hav hn
 have HAt := Lib.hid (show insAt l d la ↔ admT (l.map (·.1)) d la = 0 ∧ l.length < 256 ∧ Lib.countByte (orgB l (aOf d la)).data.toList 47 ≤ 7 from Iff.rfl)
 have HIP := Lib.hid (fun r => show insP l d la r = (if admT (l.map (·.1)) d la ≠ 0 then admT (l.map (·.1)) d la else if 256 ≤ l.length then 40 else if 7 < Lib.countByte (orgB l (aOf d la)).data.toList 47 then 46 else if hasAt l (orgB l (aOf d la)) r = true then 44 else if clsB l d = true then 44 else 0) from rfl)
 obtain ⟨A, hA⟩ : ∃ A, admT (l.map (·.1)) d la = A := ⟨_, rfl⟩
 obtain ⟨u, hu⟩ : ∃ u, orgB l (aOf d la) = u := ⟨_, rfl⟩
 have HU := Lib.hid hu
 simp only [hA] at HA HIP HAt
 simp only [hu] at HO HP HD HIP HRS HAt
 obtain ⟨Z, hZ⟩ : ∃ Z, Lib.countByte u.data.toList 47 = Z := ⟨_, rfl⟩
 simp only [hZ] at HD HIP HAt
 obtain ⟨q2, hq2⟩ : ∃ q, clsB l d = q := ⟨_, rfl⟩
 simp only [hq2] at HC HIP
 simp only [hL] at HIP HAt
 clear hA hu hZ hq2 HZ hL
 go_enter Tryz.func40, Tryz.ntmps40
 have t0 : W0.cell? ⟨Bz, 0, none⟩ = some (.slice ta L tc) := by rw [cell_of_row _ _ _ _ _ _ (HF.out _ (Kp.refl [] W0)).1]; rfl
 go_upto_region 2 with (go_at_call 52; refine Calls.mono (by with_reducible exact HV.out) ?_; rintro e W2 ⟨V, M, D, sv', rfl, -, -, hV2, hb2⟩; have HK2 := Lib.hid (Kp.of_below hb2); have HV2 := Lib.hid hV2; clear hb2 hV2)
 clear t0
 have cx0 : W2.cell? ⟨Bz + 1, 0, none⟩ = some (.int .i64 di) := (HF.out _ HK2.out).2.1.cell 0
 have cx1 : W2.cell? ⟨Bz + 1, 1, none⟩ = some (.int .i64 dp) := (HF.out _ HK2.out).2.1.cell 1
 have cx2 : W2.cell? ⟨Bz + 1, 2, none⟩ = some (.string dn) := (HF.out _ HK2.out).2.1.cell 2
 have cx3 : W2.cell? ⟨Bz + 1, 3, none⟩ = some (.string dor) := (HF.out _ HK2.out).2.1.cell 3
 have cx4 : W2.cell? ⟨Bz + 1, 4, none⟩ = some (.string du) := (HF.out _ HK2.out).2.1.cell 4
 have cx5 : W2.cell? ⟨Bz + 1, 5, none⟩ = some (.string dd) := (HF.out _ HK2.out).2.1.cell 5
 have cx6 : W2.cell? ⟨Bz + 1, 6, none⟩ = some (.string dl) := (HF.out _ HK2.out).2.1.cell 6
 have cx7 : W2.cell? ⟨Bz + 1, 7, none⟩ = some (.int .i64 dk) := (HF.out _ HK2.out).2.1.cell 7
 have cx8 : W2.cell? ⟨Bz + 1, 8, none⟩ = some (.int .i64 dm) := (HF.out _ HK2.out).2.1.cell 8
 have cx9 : W2.cell? ⟨Bz + 1, 9, none⟩ = some (.slice b n c) := (HF.out _ HK2.out).2.1.cell 9
 have hA0 : A = 0 := (HAt.out.1 HIA.out).1
 subst hA0
 go_upto_region 5 with (go_at_call 79; refine Calls.mono (by with_reducible exact HA.out _ _ _ _ _ HK2.out HV2.out) ?_; rintro e W3 ⟨rfl, hk3⟩; have HV3 := Lib.hid (HV2.out.below hk3.bel); have HK3 := Lib.hid (HK2.out.trans hk3); clear hk3)
 clear cx0 cx1 cx2 cx3 cx4 cx5 cx6 cx7 cx8 cx9
 have cx0 : W3.cell? ⟨Bz + 1, 0, none⟩ = some (.int .i64 di) := (HF.out _ HK3.out).2.1.cell 0
 have cx1 : W3.cell? ⟨Bz + 1, 1, none⟩ = some (.int .i64 dp) := (HF.out _ HK3.out).2.1.cell 1
 have cx2 : W3.cell? ⟨Bz + 1, 2, none⟩ = some (.string dn) := (HF.out _ HK3.out).2.1.cell 2
 have cx3 : W3.cell? ⟨Bz + 1, 3, none⟩ = some (.string dor) := (HF.out _ HK3.out).2.1.cell 3
 have cx4 : W3.cell? ⟨Bz + 1, 4, none⟩ = some (.string du) := (HF.out _ HK3.out).2.1.cell 4
 have cx5 : W3.cell? ⟨Bz + 1, 5, none⟩ = some (.string dd) := (HF.out _ HK3.out).2.1.cell 5
 have cx6 : W3.cell? ⟨Bz + 1, 6, none⟩ = some (.string dl) := (HF.out _ HK3.out).2.1.cell 6
 have cx7 : W3.cell? ⟨Bz + 1, 7, none⟩ = some (.int .i64 dk) := (HF.out _ HK3.out).2.1.cell 7
 have cx8 : W3.cell? ⟨Bz + 1, 8, none⟩ = some (.int .i64 dm) := (HF.out _ HK3.out).2.1.cell 8
 have cx9 : W3.cell? ⟨Bz + 1, 9, none⟩ = some (.slice b n c) := (HF.out _ HK3.out).2.1.cell 9
 have t3 : W3.cell? ⟨Bz, 0, none⟩ = some (.slice ta L tc) := by rw [cell_of_row _ _ _ _ _ _ (HF.out _ HK3.out).1]; rfl
 have hL6 : ¬ 256 ≤ L := by have := (HAt.out.1 HIA.out).2.1; omega
 have hLz : ¬ (256 : Int) ≤ (L : Int) := by omega
 go_upto_region 8 with (go_at_call 80; refine Calls.mono (by with_reducible exact HO.out _ _ _ _ _ HV3.out) ?_; rintro e W4 ⟨rfl, hk4⟩; have HV4 := Lib.hid (HV3.out.below hk4.bel); have HK4 := Lib.hid (HK3.out.trans hk4); clear hk4)
 clear cx0 cx1 cx2 cx3 cx4 cx5 cx6 cx7 cx8 cx9
 clear t3
 have hZ7 : ¬ 7 < Z := by have := (HAt.out.1 HIA.out).2.2; omega
 have hz : ¬ (7 : Int) < (Z : Int) := by omega
 go_upto_region 11 with (first
  | (go_at_call 81; refine Calls.mono (by with_reducible exact HD.out _) ?_; rintro e W5 ⟨rfl, rfl⟩)
  | (go_at_call 64; refine Calls.mono (by with_reducible exact HP.out _ _ _ _ _ HV4.out) ?_; rintro e W6 ⟨r, rfl, hpl, hk6⟩; have HV6 := Lib.hid (HV4.out.below hk6.bel); have HK6 := Lib.hid (HK4.out.trans hk6); have HPL := Lib.hid hpl; clear hk6 hpl))
 have cx0 : W6.cell? ⟨Bz + 1, 0, none⟩ = some (.int .i64 di) := (HF.out _ HK6.out).2.1.cell 0
 have cx1 : W6.cell? ⟨Bz + 1, 1, none⟩ = some (.int .i64 dp) := (HF.out _ HK6.out).2.1.cell 1
 have cx2 : W6.cell? ⟨Bz + 1, 2, none⟩ = some (.string dn) := (HF.out _ HK6.out).2.1.cell 2
 have cx3 : W6.cell? ⟨Bz + 1, 3, none⟩ = some (.string dor) := (HF.out _ HK6.out).2.1.cell 3
 have cx4 : W6.cell? ⟨Bz + 1, 4, none⟩ = some (.string du) := (HF.out _ HK6.out).2.1.cell 4
 have cx5 : W6.cell? ⟨Bz + 1, 5, none⟩ = some (.string dd) := (HF.out _ HK6.out).2.1.cell 5
 have cx6 : W6.cell? ⟨Bz + 1, 6, none⟩ = some (.string dl) := (HF.out _ HK6.out).2.1.cell 6
 have cx7 : W6.cell? ⟨Bz + 1, 7, none⟩ = some (.int .i64 dk) := (HF.out _ HK6.out).2.1.cell 7
 have cx8 : W6.cell? ⟨Bz + 1, 8, none⟩ = some (.int .i64 dm) := (HF.out _ HK6.out).2.1.cell 8
 have cx9 : W6.cell? ⟨Bz + 1, 9, none⟩ = some (.slice b n c) := (HF.out _ HK6.out).2.1.cell 9
 have hip : insP l d la r = 0 := HRS.out r HPL.out
 rw [HIP.out, if_neg (by simp), if_neg hL6, if_neg hZ7] at hip
 clear hL6 hZ7
 cases hh : hasAt l u r with
 | true =>
  rw [hh, if_pos rfl] at hip
  cases hip
 | false =>
  rw [hh, if_neg (by simp)] at hip
  cases q2 with
  | true =>
   rw [if_pos rfl] at hip
   cases hip
  | false =>
   clear hip hh
   go_upto_region 13 with (go_at_call 82; refine Calls.mono (by with_reducible exact HC.out _ _ _ _ _ HK6.out HV6.out) ?_; rintro e W7 ⟨rfl, hk7⟩; have HK7 := Lib.hid (HK6.out.trans hk7); clear hk7)
   clear cx0 cx1 cx2 cx3 cx4 cx5 cx6 cx7 cx8 cx9
   have HC0 := Lib.hid (HF.out _ HK7.out).1
   have HC1 := Lib.hid (HF.out _ HK7.out).2.1
   have HC2 := Lib.hid (HF.out _ HK7.out).2.2
   have HB0 := Lib.hid (block_lt HC0.out)
   have HB1 := Lib.hid (block_lt HC1.out)
   have HB2 := Lib.hid (block_lt HC2.out)
   have HKw := Lib.hid (show ∀ W, Kp [Bz + 2] W7 W → Below w.heap.size w W from fun W hk => (HK0.out.trans HK7.out).bel.trans (hk.below (HK0.out.trans HK7.out).size (by intro x hx; simp at hx; have := Hwz.out; omega)))
   have HPS := Lib.hid (show ∀ W W', (Kp [Bz + 2] W7 W ∧ ∃ a m c, W.heap[Bz + 2]? = some (.cells #[.slice a m c] 29 (0, 0))) → Below W7.heap.size W W' → (Kp [Bz + 2] W7 W' ∧ ∃ a m c, W'.heap[Bz + 2]? = some (.cells #[.slice a m c] 29 (0, 0))) from fun W W' h g => ⟨kp_belowS h.1 g, by obtain ⟨a, m, c, hv⟩ := h.2; exact ⟨a, m, c, (g.block (Bz + 2) HB2.out).trans hv⟩⟩)
   have HKe := Lib.hid (show ∀ W, Kp [Bz + 2] W7 W → Kp [] w W from fun W hk => Kp.of_below (HKw.out W hk))
   refine wp_region_held_drew (S := fun W => Kp [Bz + 2] W7 W ∧ ∃ a m c, W.heap[Bz + 2]? = some (.cells #[.slice a m c] 29 (0, 0))) (by kernel_rfl) ⟨(Kp.refl [Bz + 2] W7).drew 1, _, _, _, HC2.out⟩ (fun hHeld => ?_)
   generalize hwd : W7.drew = wd at *
   clear hwd
   refine wpAnyH_take (i := 0) (oi := { dst := some 45, op := Op.fieldAddr 29 (Operand.tmp 2) 0, type := 0, pos := "tree.go:108", after := #[], guard := none }) (v := .pointer (some ⟨Bz, 0, none⟩)) rfl (by kernel_rfl) (by kernel_rfl) (by kernel_rfl) (fun _ _ _ h => h) (Or.inl ⟨by rfl, fun w hSw => by (try dsimp only at hSw); go_simp⟩) hHeld ?_
   try simp only [Act.put, List.setIfInBounds_toArray, List.set_cons_zero, List.set_cons_succ]
   refine wpAnyH_take (i := 1) (oi := { dst := some 46, op := Op.load 22 (Operand.tmp 45), type := 22, pos := "tree.go:108", after := #[{ on := 0, ground := Ground.data }], guard := none }) (v := .slice ta L tc) rfl (by kernel_rfl) (by kernel_rfl) (by kernel_rfl) (fun _ _ _ h => h) (Or.inl ⟨by rfl, fun w hSw => by (try dsimp only at hSw); have t0 := cell_one ((hSw.1.block Bz HB0.out (by simp)).trans HC0.out); go_simp⟩) hHeld ?_
   try simp only [Act.put, List.setIfInBounds_toArray, List.set_cons_zero, List.set_cons_succ]
   refine wpAnyH_take (i := 3) (oi := { dst := some 48, op := Op.move (Operand.tmp 9), type := 3, pos := "tree.go:108", after := #[], guard := none }) (v := .int .i64 (r : Int)) rfl (by kernel_rfl) (by kernel_rfl) (by kernel_rfl) (fun _ _ _ h => h) (Or.inl ⟨by rfl, fun w hSw => by (try dsimp only at hSw); go_simp⟩) hHeld ?_
   try simp only [Act.put, List.setIfInBounds_toArray, List.set_cons_zero, List.set_cons_succ]
   refine wpAnyH_take (i := 4) (oi := { dst := some 49, op := Op.load 34 (Operand.tmp 3), type := 34, pos := "tree.go:108", after := #[], guard := none }) (v := .agg #[.int .i64 di, .int .i64 dp, .string dn, .string dor, .string du, .string dd, .string dl, .int .i64 dk, .int .i64 dm, .slice b n c]) rfl (by kernel_rfl) (by kernel_rfl) (by kernel_rfl) (fun _ _ _ h => h) (Or.inl ⟨by rfl, fun w hSw => by (try dsimp only at hSw); have dz := (show BoxAt w (Bz + 1) #[.int .i64 di, .int .i64 dp, .string dn, .string dor, .string du, .string dd, .string dl, .int .i64 dk, .int .i64 dm, .slice b n c] from (hSw.1.block (Bz + 1) HB1.out (by simp)).trans HC1.out).cell; go_simp⟩) hHeld ?_
   try simp only [Act.put, List.setIfInBounds_toArray, List.set_cons_zero, List.set_cons_succ]
   refine wpAnyH_ready (rs := [2]) (by kernel_rfl) (by simp) ?_
   refine AllReadyH.cons (o := { dst := some 47, op := Op.call { callee := Callee.value (Operand.func 74), args := #[Operand.tmp 46], argTypes := #[22] }, type := 22, pos := "tree.go:108", after := #[{ on := 1, ground := Ground.data }], guard := none }) rfl (fun K hK => ?_) AllReadyH.nil
   go_simp
   go_at_call 74
   refine Calls.mono (by with_reducible exact HCl.out _ (HKw.out _ hHeld.1)) ?_
   rintro e V1 ⟨u1, l1, rfl, hl1, hdin, hb1⟩
   dsimp only
   have HL1 := Lib.hid hl1
   have HDin := Lib.hid hdin
   have HW1 := Lib.hid (show wd.heap.size ≤ V1.heap.size from hb1.size)
   have HWd := Lib.hid (show W7.heap.size ≤ wd.heap.size from hHeld.1.size)
   have HS1 := Lib.hid (HPS.out _ V1 hHeld (hb1.mono hHeld.1.size))
   clear hl1 hdin hb1
   clear hHeld
   refine hK.out _ _ HS1.out (fun hHeld => ?_)
   try simp only [Act.put, List.setIfInBounds_toArray, List.set_cons_zero, List.set_cons_succ]
   clear hK
   refine wpAnyH_ready (rs := [5]) (by kernel_rfl) (by simp) ?_
   refine AllReadyH.cons (o := { dst := some 50, op := Op.call { callee := Callee.value (Operand.func 65), args := #[Operand.tmp 49], argTypes := #[34] }, type := 34, pos := "tree.go:108", after := #[{ on := 4, ground := Ground.data }, { on := 2, ground := Ground.chain }], guard := none }) rfl (fun K hK => ?_) AllReadyH.nil
   go_simp
   go_at_call 65
   refine Calls.mono (by with_reducible exact HCd.out _ (HKw.out _ hHeld.1)) ?_
   rintro e V2 ⟨ub, un, uc, rfl, hown, hb2⟩
   dsimp only
   have HOw := Lib.hid hown
   have HDin2 := Lib.hid (HDin.out.below hb2)
   have HV12 := Lib.hid (show V1.heap.size ≤ V2.heap.size from hb2.size)
   have HS2 := Lib.hid (HPS.out _ V2 hHeld (hb2.mono hHeld.1.size))
   clear hown hb2
   clear hHeld
   refine hK.out _ _ HS2.out (fun hHeld => ?_)
   try simp only [Act.put, List.setIfInBounds_toArray, List.set_cons_zero, List.set_cons_succ]
   clear hK
   refine wpAnyH_ready (rs := [6]) (by kernel_rfl) (by simp) ?_
   refine AllReadyH.cons (o := { dst := some 51, op := Op.buildSlice 22 1 #[(0, Operand.tmp 50)], type := 22, pos := "tree.go:108", after := #[{ on := 5, ground := Ground.data }], guard := none }) rfl (fun K hK => ?_) AllReadyH.nil
   go_simp
   obtain ⟨V3, hV3⟩ : ∃ V, V2.alloc (.cells #[.int .i64 di, .int .i64 dp, .string dn, .string dor, .string du, .string dd, .string dl, .int .i64 dk, .int .i64 dm, .slice ub un uc] 34) = V := ⟨_, rfl⟩
   obtain ⟨vb, hvb⟩ : ∃ b, V2.heap.size = b := ⟨_, rfl⟩
   have hb3 : Below V2.heap.size V2 V3 := by rw [← hV3]; exact (Below.refl _ V2).alloc (Nat.le_refl _) _
   have HO1 := Lib.hid (show OneAt V3 vb (aOf d la, .slice ub un uc) from by unfold OneAt; rw [HAOA.out, ← hV3, ← hvb]; exact heap_alloc_last V2 _)
   have HS3 := Lib.hid (HPS.out _ V3 hHeld (hb3.mono hHeld.1.size))
   have HDin3 := Lib.hid (HDin2.out.below hb3)
   have HOw3 := Lib.hid (HOw.out.below hb3)
   have HVb := Lib.hid (show V1.heap.size ≤ vb from by rw [← hvb]; exact HV12.out)
   have HV3 := Lib.hid (show wd.heap.size ≤ V3.heap.size from Nat.le_trans HW1.out (Nat.le_trans HV12.out hb3.size))
   have HIns := Lib.hid (insert_any wd.heap.size vb r (aOf d la, .slice ub un uc) u1 l1 V3 (by have h1 := congrArg List.length HL1.out; rw [List.length_map, List.length_map] at h1; have := HT6.out; omega) (by have h1 := congrArg List.length HL1.out; rw [List.length_map, List.length_map] at h1; have := HPL.out.1; omega) HDin3.out HV3.out HO1.out HOw3.out.has (fun hne b2 hb hc => by have h1 := HOw.out.ge hne b2 hb; have h2 := (HDin.out.row.lt b2 hc).2; omega) (fun hc => by have h2 := (HDin.out.row.lt vb hc).2; have := HVb.out; omega))
   rw [hV3, hvb]
   clear hHeld hb3 hV3 hvb
   refine hK.out _ _ HS3.out (fun hHeld => ?_)
   try simp only [Act.put, List.setIfInBounds_toArray, List.set_cons_zero, List.set_cons_succ]
   clear hK
   refine wpAnyH_ready (rs := [7]) (by kernel_rfl) (by simp) ?_
   refine AllReadyH.cons (o := { dst := some 52, op := Op.call { callee := Callee.value (Operand.func 83), args := #[Operand.tmp 47, Operand.tmp 48, Operand.tmp 51], argTypes := #[22, 3, 22] }, type := 22, pos := "tree.go:108", after := #[{ on := 2, ground := Ground.data }, { on := 3, ground := Ground.data }, { on := 6, ground := Ground.data }, { on := 5, ground := Ground.chain }], guard := none }) rfl (fun K hK => ?_) AllReadyH.nil
   go_simp
   go_at_call 83
   refine Calls.mono (by with_reducible exact HIns.out) ?_
   rintro e V4 ⟨u4, rfl, hd4, hb4⟩
   dsimp only
   obtain ⟨xa, xc, hu4, -⟩ := hd4.form
   subst hu4
   have HD4 := Lib.hid hd4
   have HS4 := Lib.hid (HPS.out _ V4 hHeld (hb4.mono HWd.out))
   clear hd4 hb4
   obtain ⟨xn, hxn⟩ : ∃ n, (l1.take r ++ (aOf d la, Value.slice ub un uc) :: l1.drop r).length = n := ⟨_, rfl⟩
   rw [hxn] at HD4 ⊢
   clear hHeld
   refine hK.out _ _ HS4.out (fun hHeld => ?_)
   try simp only [Act.put, List.setIfInBounds_toArray, List.set_cons_zero, List.set_cons_succ]
   clear hK
   refine wpAnyH_take (i := 8) (oi := { dst := some 53, op := Op.build 29 #[(0, Operand.tmp 52)], type := 29, pos := "tree.go:108", after := #[{ on := 7, ground := Ground.data }], guard := none }) (v := .agg #[.slice xa xn xc]) rfl (by kernel_rfl) (by kernel_rfl) (by kernel_rfl) (fun _ _ _ h => h) (Or.inl ⟨by rfl, fun w hSw => by (try dsimp only at hSw); go_simp⟩) hHeld ?_
   try simp only [Act.put, List.setIfInBounds_toArray, List.set_cons_zero, List.set_cons_succ]
   refine wpAnyH_ready (rs := [9]) (by kernel_rfl) (by simp) ?_
   refine AllReadyH.cons (o := { dst := none, op := Op.store 29 (Operand.tmp 4) (Operand.tmp 53), type := 0, pos := "tree.go:108", after := #[{ on := 8, ground := Ground.data }, { on := 7, ground := Ground.chain }, { on := 0, ground := Ground.phase }, { on := 1, ground := Ground.phase }, { on := 2, ground := Ground.phase }, { on := 3, ground := Ground.phase }, { on := 4, ground := Ground.phase }, { on := 5, ground := Ground.phase }, { on := 6, ground := Ground.phase }, { on := 7, ground := Ground.phase }, { on := 8, ground := Ground.phase }], guard := none }) rfl (fun K hK => ?_) AllReadyH.nil
   obtain ⟨v4a, v4m, v4c, hv4⟩ := hHeld.2
   have HV4 := Lib.hid hv4
   have d0 := cell_one hv4
   have f0 : V4.frozen? ⟨Bz + 2, 0, none⟩ = false := by simp [World.frozen?, hv4]
   go_simp
   have HN5 := Lib.hid (show (V4.setCell ⟨Bz + 2, 0, none⟩ (.slice xa xn xc)).heap[Bz + 2]? = some (.cells #[.slice xa xn xc] 29 (0, 0)) from box_set1 hv4 _)
   have HS5 := Lib.hid (show Kp [Bz + 2] W7 (V4.setCell ⟨Bz + 2, 0, none⟩ (.slice xa xn xc)) ∧ ∃ a m c, (V4.setCell ⟨Bz + 2, 0, none⟩ (.slice xa xn xc)).heap[Bz + 2]? = some (.cells #[.slice a m c] 29 (0, 0)) from ⟨hHeld.1.setCell (.inl (by simp)) _, _, _, _, HN5.out⟩)
   clear hHeld hv4 d0 f0
   refine hK.out _ _ HS5.out (fun hHeld => ?_)
   try simp only [Act.put, List.setIfInBounds_toArray, List.set_cons_zero, List.set_cons_succ]
   clear hK
   refine wpAnyH_take (i := 10) (oi := { dst := some 5, op := Op.assign (Operand.const (Value.int IntKind.i64 0)), type := 36, pos := "tree.go:108", after := #[{ on := 9, ground := Ground.chain }, { on := 0, ground := Ground.phase }, { on := 1, ground := Ground.phase }, { on := 2, ground := Ground.phase }, { on := 3, ground := Ground.phase }, { on := 4, ground := Ground.phase }, { on := 5, ground := Ground.phase }, { on := 6, ground := Ground.phase }, { on := 7, ground := Ground.phase }, { on := 8, ground := Ground.phase }, { on := 9, ground := Ground.phase }], guard := none }) (v := .int .i64 0) rfl (by kernel_rfl) (by kernel_rfl) (by kernel_rfl) (fun _ _ _ h => h) (Or.inl ⟨by rfl, fun w hSw => by (try dsimp only at hSw); go_simp⟩) hHeld ?_
   try simp only [Act.put, List.setIfInBounds_toArray, List.set_cons_zero, List.set_cons_succ]
   refine wpAnyH_done (by kernel_rfl) ?_ _
   clear hHeld
   have HD5 := Lib.hid (show DHas (V4.setCell ⟨Bz + 2, 0, none⟩ (.slice xa xn xc)) (.slice xa xn xc) (l1.take r ++ (aOf d la, Value.slice ub un uc) :: l1.drop r) from (DAny.kpR (dany_ne HD4.out (by simp)) ((Kp.refl [Bz + 2] V4).setCell (.inl (by simp)) _) HV4.out).has)
   have HM := Lib.hid (show (l1.take r ++ (aOf d la, Value.slice ub un uc) :: l1.drop r).map (·.1) = (l.map (·.1)).take r ++ aOf d la :: (l.map (·.1)).drop r from by
    rw [← HL1.out, List.map_append, List.map_take, List.map_cons, List.map_drop])
   go_wp2
   exact bodyPost_ret (v := .tuple #[.agg #[.slice xa xn xc], .int .i64 0]) (De.results_row_tmp rfl _ _ (Bz + 2) 29 #[.slice xa xn xc] _ _ _ rfl rfl HN5.out Tryz.underlying29 rfl info30b) rfl ⟨r, by rw [HU.out]; exact HPL.out, .slice xa xn xc, rfl, _, HM.out, HD5.out, HKe.out _ HS5.out.1⟩
end Go.Proofs.YtldcediiobfhiaaGreatDoor.De
namespace Go.Proofs.YtldcediiobfhiaaGreatDoor
open Go.RowKit
theorem last_fnd {l : List De.ADev} (ht : De.Tidy l) (n : Int) : (De.lastI l n).isSome = (De.fnd l n).isSome := by
 rw [De.lastI_fnd ht n]
 cases hp : De.lastI l n with
 | none => rfl
 | some p =>
  obtain ⟨a, ha, -⟩ := De.lastI_some hp
  show true = (l[p]?).isSome
  rw [ha]
  rfl
theorem snd_chk (d : De.Dev) (la : List De.Atr) : sndA (aOf d la) = decide (De.checkE d la = 0) := rfl
theorem adm_ins {l : List De.ADev} (ht : De.Tidy l) (d : De.Dev) (la : List De.Atr) : De.admT l d la = if sndA (aOf d la) = false then 41 else if (De.fnd l d.idx).isSome then 44 else if d.par ≠ 0 ∧ De.fnd l d.par = none then 42 else 0 := by
 unfold De.admT
 rw [last_fnd ht, last_fnd ht, snd_chk]
 by_cases h1 : De.checkE d la = 0
 ·rw [if_neg (fun h => h h1), if_neg (show ¬ (decide (De.checkE d la = 0) = false) by simp [h1])]
  cases h2 : (De.fnd l d.idx).isSome with
  | true => rfl
  | false =>
   rw [if_neg (show ¬ (false = true) by simp), if_neg (show ¬ (false = true) by simp)]
   cases h3 : De.fnd l d.par <;> simp
 ·rw [if_pos h1, if_pos (show decide (De.checkE d la = 0) = false by simp [h1])]
theorem any_congr2 {α : Type} {p q : α → Bool} : ∀ {l : List α}, (∀ x ∈ l, p x = q x) → l.any p = l.any q
 | [], _ => rfl
 | a :: l, h => by
  rw [List.any_cons, List.any_cons, h a (List.mem_cons_self ..), any_congr2 fun x hx => h x (List.mem_cons_of_mem _ hx)]
theorem find_any2 {α : Type} (p : α → Bool) : ∀ l : List α, (l.find? p).isSome = l.any p
 | [] => rfl
 | a :: l => by
  rw [List.find?_cons, List.any_cons]
  cases h : p a with
  | true => rfl
  | false => rw [find_any2 p l]; rfl
theorem org_names2 {l : List De.ADev} (hv : De.Valid sndA clA l) {d : De.ADev} (hs : sndA d = true) : ∀ s ∈ De.org l d, Nm.nameB Nm.NameSet s = true := fun s hs2 => by
 unfold De.org at hs2
 rw [List.mem_reverse, List.mem_map] at hs2
 obtain ⟨e, he, rfl⟩ := hs2
 rcases List.mem_cons.1 he with rfl | he
 ·exact snd_orig hs
 ·exact snd_orig (hv.sound _ (De.up_mem _ _ e he))
theorem trlA_new {L : List De.DV} (hv : De.Valid sndA clA (L.map (·.1))) {d : De.ADev} (hp : d.par = 0 ∨ ∃ p ∈ L.map (·.1), p.idx = d.par) : De.trlA De.ADev.orig L d = De.pth (De.org (L.map (·.1)) d) := by
 unfold De.trlA
 rw [ancL_fst hv.tidy, hv.up7 hp]
 exact De.trail_org _ _
theorem place_eq {L : List De.DV} (hv : De.Valid sndA clA (L.map (·.1))) {o : ByteArray} {ys : List (List UInt8)} (ho : o.data.toList = De.pth ys) (h0 : ys ≠ []) (hy : ∀ y ∈ ys, Nm.nameB Nm.NameSet y = true) {r : Nat} (hp : De.PlaceOf L o r) : r = De.placeL (L.map (·.1)) ys := by
 have hat : ∀ (i : Nat) x, L[i]? = some x → (i < De.placeL (L.map (·.1)) ys ↔ De.cmpN (De.org (L.map (·.1)) x.1) ys < 0) := fun i x hx => hv.place_lt ys (by rw [List.getElem?_map, hx]; rfl)
 obtain ⟨h1, h2, h3⟩ := hp
 have hle := De.placeL_le (L.map (·.1)) ys
 rw [List.length_map] at hle
 rcases Nat.lt_trichotomy r (De.placeL (L.map (·.1)) ys) with g | g | g
 ·have hrl : r < L.length := by omega
  have h4 := h3 hrl
  unfold De.befB at h4
  obtain ⟨x, hx⟩ : ∃ x, L[r]? = some x := ⟨_, List.getElem?_eq_getElem hrl⟩
  rw [hx] at h4
  have h4 := of_decide_eq_true h4
  rw [ordA_path hv (List.mem_of_getElem? hx) ho h0 hy] at h4
  have := (hat r x hx).1 g
  omega
 ·exact g
 ·have hrl : r - 1 < L.length := by omega
  have h4 := h2 (by omega)
  unfold De.befB at h4
  obtain ⟨x, hx⟩ : ∃ x, L[r - 1]? = some x := ⟨_, List.getElem?_eq_getElem hrl⟩
  rw [hx] at h4
  have h4 := of_decide_eq_false h4
  rw [ordA_path hv (List.mem_of_getElem? hx) ho h0 hy] at h4
  have := (hat (r - 1) x hx).2 (by omega)
  omega
/-- A device whose parent is known: its origin as a text. -/
theorem orgB_new {L : List De.DV} (hv : De.Valid sndA clA (L.map (·.1))) {d : De.ADev} (hp : d.par = 0 ∨ ∃ p ∈ L.map (·.1), p.idx = d.par) : (De.orgB L d).data.toList = De.pth (De.org (L.map (·.1)) d) := by
 rw [De.orgB_list, trlA_new hv hp]
theorem count_new {L : List De.DV} (hv : De.Valid sndA clA (L.map (·.1))) {d : De.ADev} (hs : sndA d = true) (hp : d.par = 0 ∨ ∃ p ∈ L.map (·.1), p.idx = d.par) : Lib.countByte (De.orgB L d).data.toList 47 = (De.org (L.map (·.1)) d).length := by
 rw [orgB_new hv hp]
 exact De.pth_count _ fun s hs2 => Nm.free_name (org_names2 hv hs s hs2)
theorem has_any {L : List De.DV} (hv : De.Valid sndA clA (L.map (·.1))) {d : De.ADev} (hs : sndA d = true) (hp : d.par = 0 ∨ ∃ p ∈ L.map (·.1), p.idx = d.par) {r : Nat} (hr : De.PlaceOf L (De.orgB L d) r) : De.hasAt L (De.orgB L d) r = (L.map (·.1)).any fun e => De.org (L.map (·.1)) e == De.org (L.map (·.1)) d := by
 have h1 := atR_find hv (De.orgB L d) r hr
 have h2 : De.hasAt L (De.orgB L d) r = (De.atR L (De.orgB L d) r).isSome := by
  unfold De.atR
  cases hh : De.hasAt L (De.orgB L d) r with
  | false => rfl
  | true =>
   unfold De.hasAt at hh
   cases hx : L[r]? with
   | none => rw [hx] at hh; cases hh
   | some x => rfl
 rw [h2, h1, find_any2, List.any_map]
 refine any_congr2 fun x hx => ?_
 show decide _ = (De.org (L.map (·.1)) x.1 == De.org (L.map (·.1)) d)
 rw [orgB_new hv hp, Bool.eq_iff_iff, decide_eq_true_eq, beq_iff_eq]
 exact ⟨fun e => pth_names_inj (org_names hv (List.mem_map.2 ⟨x, hx, rfl⟩)) (org_names2 hv hs) e, fun e => by rw [e]⟩
theorem cls_any {L : List De.DV} (d : De.Dev) (la : List De.Atr) (hf : ∀ e ∈ L.map (·.1), e.idx ≠ d.idx) : De.clsB L d = (L.map (·.1)).any fun e => clA e (aOf d la) := by
 unfold De.clsB
 rw [List.any_map]
 refine any_congr2 fun x hx => ?_
 have h1 : (x.1.idx != d.idx) = true := by simpa using hf x.1 (List.mem_map.2 ⟨x, hx, rfl⟩)
 rw [h1, Bool.true_and]
 exact (clash_cl (aOf d la, d.av) (De.devOf x.1 x.2) x.1.ats).trans (clA_symm _ _)
theorem any_or {α : Type} (l : List α) (p q : α → Bool) : l.any (fun x => p x || q x) = (l.any p || l.any q) := by
 induction l with
 | nil => rfl
 | cons a l ih =>
  rw [List.any_cons, List.any_cons, List.any_cons, ih]
  cases p a <;> cases q a <;> cases l.any p <;> rfl
/-- The same error. -/
theorem ins_eq {L : List De.DV} (hv : De.Valid sndA clA (L.map (·.1))) (d : De.Dev) (la : List De.Atr) (r : Nat) (hr : De.insAt L d la → De.PlaceOf L (De.orgB L (aOf d la)) r) : De.insP L d la r = insT (L.map (·.1)) (aOf d la) := by
 unfold De.insAt at hr
 unfold De.insP insT
 rw [adm_ins hv.tidy] at hr ⊢
 cases h1 : sndA (aOf d la) with
 | false => rfl
 | true =>
  rw [h1] at hr
  rw [if_neg (by simp)] at hr
  rw [if_neg (show ¬ (true = false) by simp), if_neg (show ¬ (true = false) by simp)]
  show (if (if (De.fnd (L.map (·.1)) d.idx).isSome = true then (44 : Int) else if d.par ≠ 0 ∧ De.fnd (L.map (·.1)) d.par = none then 42 else 0) ≠ 0 then _ else _) = (if (De.fnd (L.map (·.1)) d.idx).isSome = true then (44 : Int) else if d.par ≠ 0 ∧ De.fnd (L.map (·.1)) d.par = none then 42 else _)
  cases h2 : (De.fnd (L.map (·.1)) d.idx).isSome with
  | true => rfl
  | false =>
   rw [h2] at hr
   rw [if_neg (by simp)] at hr
   rw [if_neg (show ¬ (false = true) by simp), if_neg (show ¬ (false = true) by simp)]
   by_cases h3 : d.par ≠ 0 ∧ De.fnd (L.map (·.1)) d.par = none
   ·rw [if_pos h3, if_pos h3]
    rfl
   ·rw [if_neg h3] at hr
    rw [if_neg h3, if_neg h3, if_neg (by simp), List.length_map]
    by_cases h4 : 256 ≤ L.length
    ·rw [if_pos h4, if_pos h4]
    ·have hp : (aOf d la).par = 0 ∨ ∃ p ∈ L.map (·.1), p.idx = (aOf d la).par := De.par_of (d := aOf d la) h3
     have hcn := count_new hv h1 hp
     rw [if_neg h4, if_neg h4, hcn]
     rw [hcn] at hr
     by_cases h5 : 7 < (De.org (L.map (·.1)) (aOf d la)).length
     ·rw [if_pos h5, if_pos h5]
     ·have hr2 := hr ⟨rfl, by omega, by omega⟩
      have hf : ∀ e ∈ L.map (·.1), e.idx ≠ d.idx := De.fresh_of (by rw [h2]; simp)
      rw [if_neg h5, if_neg h5, has_any hv h1 hp hr2, cls_any d la hf, any_or]
      cases (L.map (·.1)).any (fun e => De.org (L.map (·.1)) e == De.org (L.map (·.1)) (aOf d la)) <;> cases (L.map (·.1)).any (fun e => clA e (aOf d la)) <;> rfl
/-- Whether Insert comes to the place. -/
theorem insAt_of {L : List De.DV} (hv : De.Valid sndA clA (L.map (·.1))) {d : De.Dev} {la : List De.Atr} (h : insT (L.map (·.1)) (aOf d la) = 0) : De.insAt L d la := by
 have hf := insT_fits h
 have h1 : sndA (aOf d la) = true := hf.snd
 refine ⟨?_, by have := hf.room; rw [List.length_map] at this; exact this, by rw [count_new hv h1 hf.par]; exact hf.depth⟩
 rw [adm_ins hv.tidy, h1, if_neg (by simp), if_neg, if_neg]
 ·rintro ⟨h2, h3⟩
  rcases hf.par with h4 | ⟨p, hp, hpe⟩
  ·exact h2 h4
  ·exact De.fnd_none h3 p hp hpe
 ·intro h2
  cases hfd : De.fnd (L.map (·.1)) d.idx with
  | none => rw [hfd] at h2; cases h2
  | some e => exact hf.fresh e (De.fnd_mem hfd).1 (De.fnd_mem hfd).2
theorem ins_list {L : List De.DV} (hv : De.Valid sndA clA (L.map (·.1))) {d : De.Dev} {la : List De.Atr} (h : insT (L.map (·.1)) (aOf d la) = 0) {r : Nat} (hr : De.PlaceOf L (De.orgB L (aOf d la)) r) : (L.map (·.1)).take r ++ aOf d la :: (L.map (·.1)).drop r = De.insL (L.map (·.1)) (aOf d la) := by
 have hf := insT_fits h
 have he := place_eq hv (orgB_new hv hf.par) (De.org_ne _ _) (org_names2 hv hf.snd) hr
 rw [placeL_take, ← he]
end Go.Proofs.YtldcediiobfhiaaGreatDoor
namespace Go.Proofs.YtldcediiobfhiaaGreatDoor
open Go.RowKit
/-- The list that Insert returns. -/
def insR (l : List De.ADev) (d : De.ADev) : List De.ADev := if insT l d = 0 then De.insL l d else []
theorem insertT_any {v : Value} {L : List De.DV} (d : De.Dev) (la : List De.Atr) {w : World} (hv : De.Valid sndA clA (L.map (·.1))) (ht : De.TOk L) (h : De.DHas w v L) (hcap : ∀ a n c, v = .slice a n c → n ≤ c) (hd : De.Has w d.av la) (hs : De.Sized d la) (ho : d.orig.size ≤ 300) (hla : la.length ≤ 1000000) (hm : De.Max w) (hi : (Lit.int .i64 d.idx).wf = true) (hp : (Lit.int .i64 d.par).wf = true) (hal : ∀ x ∈ L, x.1.ats.length ≤ 1000000) :
  Calls Tryz.prog 40 #[.agg #[v], De.devV d] w fun e w' => ∃ a m c L', e = .returned (.tuple #[.agg #[.slice a m c], .int .i64 (insT (L.map (·.1)) (aOf d la))]) ∧ Hid (L'.map (·.1) = insR (L.map (·.1)) (aOf d la)) ∧ Hid (De.DHas w' (.slice a m c) L') ∧ Hid (Kp [] w w') := by
 by_cases h0 : insT (L.map (·.1)) (aOf d la) = 0
 ·refine (De.insertOk_any v L d la w ht h hcap hd hs ho (by omega) hm hi hp hal hla (insAt_of hv h0) (fun r hr => (ins_eq hv d la r fun _ => hr).trans h0)).mono ?_
  rintro e w' ⟨r, u, L', hr, rfl, hL, hD, hk⟩
  obtain ⟨a, c, hu, -⟩ := hD.form
  subst hu
  exact ⟨a, _, c, L', by rw [h0], Lib.hid (by rw [hL, ins_list hv h0 hr, insR, if_pos h0]), Lib.hid hD, Lib.hid hk⟩
 ·refine (De.insertErr_any v L d la w ht h hcap hd hs ho (by omega) hm hi hp _ h0 (fun r hr => ins_eq hv d la r hr)).mono ?_
  rintro e w' ⟨rfl, hk⟩
  exact ⟨none, 0, 0, [], rfl, Lib.hid (by rw [insR, if_neg h0]; rfl), Lib.hid (.inl ⟨none, 0, rfl, rfl⟩), Lib.hid hk⟩
end Go.Proofs.YtldcediiobfhiaaGreatDoor
