/- Change of the program. Change of the reference. -/
import Derived.Test.YtldcediiobfhiaaGreatDoorKZ9
import Derived.Test.YtldcediiobfhiaaGreatDoorKZ4
namespace Go.Proofs.YtldcediiobfhiaaGreatDoor.De
open Go.RowKit Go.Maps
theorem sp_eq (ap bp ak bk : Int) (ao bo : ByteArray) : ((ap == bp) && ((ao.toList == bo.toList) && (ak == bk))) = decide (ap = bp ∧ ao = bo ∧ ak = bk) := by
 rw [str_dec, Bool.decide_and, Bool.decide_and]
 rfl
set_option maxRecDepth 100000 in
set_option maxHeartbeats 2000000 in
theorem same86_any (ai ap : Int) (an ao au ad al : ByteArray) (ak am : Int) (va : Value) (bi bp : Int) (bn bo bu bd bl : ByteArray) (bk bm : Int) (vb : Value) (w : World) :
  Calls Tryz.prog 86 #[.agg #[.int .i64 ai, .int .i64 ap, .string an, .string ao, .string au, .string ad, .string al, .int .i64 ak, .int .i64 am, va], .agg #[.int .i64 bi, .int .i64 bp, .string bn, .string bo, .string bu, .string bd, .string bl, .int .i64 bk, .int .i64 bm, vb]] w fun e w' => e = .returned (.bool (decide (ap = bp ∧ ao = bo ∧ ak = bk))) ∧ Kp [] w w' := by
 obtain ⟨W1, hW1⟩ : ∃ W1, (w.alloc (.cells #[.int .i64 ai, .int .i64 ap, .string an, .string ao, .string au, .string ad, .string al, .int .i64 ak, .int .i64 am, va] 34)).alloc (.cells #[.int .i64 bi, .int .i64 bp, .string bn, .string bo, .string bu, .string bd, .string bl, .int .i64 bk, .int .i64 bm, vb] 34) = W1 := ⟨_, rfl⟩
 obtain ⟨B, hB⟩ : ∃ B, w.heap.size = B := ⟨_, rfl⟩
 have hk1 : Kp [] w W1 := by rw [← hW1]; exact ((Kp.refl [] w).alloc _).alloc _
 have hba : BoxAt W1 B #[.int .i64 ai, .int .i64 ap, .string an, .string ao, .string au, .string ad, .string al, .int .i64 ak, .int .i64 am, va] := by rw [← hW1, ← hB]; exact heap_alloc2_old w _ _
 have hbb : BoxAt W1 (B + 1) #[.int .i64 bi, .int .i64 bp, .string bn, .string bo, .string bu, .string bd, .string bl, .int .i64 bk, .int .i64 bm, vb] := by
  have h := heap_alloc_last (w.alloc (.cells #[.int .i64 ai, .int .i64 ap, .string an, .string ao, .string au, .string ad, .string al, .int .i64 ak, .int .i64 am, va] 34)) (.cells #[.int .i64 bi, .int .i64 bp, .string bn, .string bo, .string bu, .string bd, .string bl, .int .i64 bk, .int .i64 bm, vb] 34)
  rw [hW1, World.size_alloc, hB] at h
  exact h
 have a1 : W1.cell? ⟨B, 1, none⟩ = some (.int .i64 ap) := hba.cell 1
 have a3 : W1.cell? ⟨B, 3, none⟩ = some (.string ao) := hba.cell 3
 have a7 : W1.cell? ⟨B, 7, none⟩ = some (.int .i64 ak) := hba.cell 7
 have b1 : W1.cell? ⟨B + 1, 1, none⟩ = some (.int .i64 bp) := hbb.cell 1
 have b3 : W1.cell? ⟨B + 1, 3, none⟩ = some (.string bo) := hbb.cell 3
 have b7 : W1.cell? ⟨B + 1, 7, none⟩ = some (.int .i64 bk) := hbb.cell 7
 have HK := Lib.hid hk1
 rw [← sp_eq]
 obtain ⟨q, hq⟩ : ∃ q, (ao.toList == bo.toList) = q := ⟨_, rfl⟩
 obtain ⟨p, hp⟩ : ∃ p, (ap == bp) = p := ⟨_, rfl⟩
 obtain ⟨r, hr⟩ : ∃ r, (ak == bk) = r := ⟨_, rfl⟩
 rw [hq, hp, hr]
 clear hk1 hba hbb
 cases p with
 | false =>
  go_enter Tryz.func86, Tryz.ntmps86
  go_wp2
  go_ret
  exact ⟨rfl, HK.out⟩
 | true =>
  cases q with
  | false =>
   go_enter Tryz.func86, Tryz.ntmps86
   go_wp2
   go_ret
   exact ⟨rfl, HK.out⟩
  | true =>
   go_enter Tryz.func86, Tryz.ntmps86
   go_wp2
   go_ret
   exact ⟨by simp, HK.out⟩
/-- A row in which a device was put at a place. -/
theorem Cl.put {w W : World} {g i : Nat} {L : List DV} {x y : DV} (h : Cl w g L W) (hg : w.heap.size ≤ g) (hx : L[i]? = some x) (hu : Has W y.2 y.1.ats) (hn : y.1.ats ≠ [] → y.2.ownBlock ≠ some g) :
  Cl w g (L.set i y) (W.setCells g (i * 10) (dvC y.1 y.2)) := by
 have hsz := size_setCells g (dvC y.1 y.2) (i * 10) W
 have hil := (List.getElem?_eq_some_iff.1 hx).1
 have hth : W.there g (i * 10) (dvC y.1 y.2).length := fun j hj => ⟨(h.row i x hx).isSome j (by rw [dvC_len] at hj ⊢; exact hj), h.fr _⟩
 have hoth : ∀ b, b < W.heap.size → b ≠ g → (W.setCells g (i * 10) (dvC y.1 y.2)).heap[b]? = W.heap[b]? := fun b hb hne => World.heap_setCells_other W g _ _ hb hne
 have hA : ∀ {v : Value} {l : List Atr}, Has W v l → (l ≠ [] → v.ownBlock ≠ some g) → Has (W.setCells g (i * 10) (dvC y.1 y.2)) v l := fun hh hne => hh.other (Nat.le_of_eq hsz.symm) hne hoth
 refine ⟨fun j z hz => ?_, fun z hz => ?_, fun z hz => ?_, fun j => by rw [World.frozen?_setCells]; exact h.fr j, below_setCells g hg _ _ h.bl, by rw [hsz]; exact h.lt⟩
 ·by_cases hji : j = i
  ·subst hji
   rw [List.getElem?_set_self hil] at hz
   cases hz
   exact World.rangeAt_setCells_same W g _ _ hth
  ·rw [List.getElem?_set_ne (fun e => hji e.symm)] at hz
   refine World.rangeAt_setCells_apart (h.row j z hz) g _ _ (.inr ?_)
   rw [dvC_len, dvC_len]
   omega
 ·rcases List.mem_or_eq_of_mem_set hz with hm | rfl
  ·exact hA (h.ats z hm) (h.ne z hm)
  ·exact hA hu hn
 ·rcases List.mem_or_eq_of_mem_set hz with hm | rfl
  ·exact h.ne z hm
  ·exact hn
theorem DIn.cl {w W : World} {B : Nat} {u : Value} {l : List DV} (h : DIn W B u l) (_hB : w.heap.size ≤ B) (hl : l ≠ []) (hb : Below w.heap.size w W) : ∃ g c, u = .slice (some ⟨g, 0, none⟩) l.length c ∧ B ≤ g ∧ l.length ≤ c ∧ Cl w g l W := by
 have hh := h.has
 rcases h.row.2 with ⟨_, h0⟩ | ⟨g, cap, cur, rfl, hB2, hg, hc, _, _, ht⟩
 ·exact absurd (List.length_eq_zero_iff.1 h0) hl
 ·refine ⟨g, cap, rfl, hB2, hc, ?_, h.ats, fun x hx hne e => (h.ne x hx hne g e).2 rfl, fun j => by simp [World.frozen?, hg], hb, block_lt hg⟩
  rcases hh with ⟨a, c, hv, h0⟩ | ⟨g', o', c', hv, _, _, hr⟩
  ·exact absurd h0 hl
  ·simp only [Value.slice.injEq, Option.some.injEq, Addr.mk.injEq] at hv
   obtain ⟨⟨rfl, rfl, -⟩, -, -⟩ := hv
   intro j x hx
   have := hr.at_ j x hx
   rwa [Nat.zero_add] at this
set_option maxRecDepth 100000 in
set_option maxHeartbeats 8000000 in
theorem change_any (sv : Value) (l : List DV) (d : Dev) (la : List Atr) (w : World) (hv0 : Valid sndA clA (l.map (·.1))) (ht : TOk l) (h : DHas w sv l) (hcap : ∀ a n c, sv = .slice a n c → n ≤ c) (hd : Has w d.av la) (hs : Sized d la) (hla : la.length ≤ 9223372036854775807) (hm : Max w) (hi : (Lit.int .i64 d.idx).wf = true) (hal : ∀ x ∈ l, x.1.ats.length ≤ 1000000) :
  Calls Tryz.prog 45 #[.agg #[sv], devV d] w fun e w' => ∃ a m c L', e = .returned (.tuple #[.agg #[.slice a m c], .int .i64 (chgT (l.map (·.1)) (aOf d la))]) ∧ Hid (L'.map (·.1) = chgR (l.map (·.1)) (aOf d la)) ∧ Hid (DHas w' (.slice a m c) L') ∧ Hid (Kp [] w w') := by
 obtain ⟨b, c, hav, -⟩ := hd.form
 obtain ⟨n, hn⟩ : ∃ n, la.length = n := ⟨_, rfl⟩
 rw [hn] at hav
 obtain ⟨ta, tc, rfl, hrow⟩ := h.form
 obtain ⟨L, hL⟩ : ∃ L, l.length = L := ⟨_, rfl⟩
 have HL := Lib.hid hL
 rw [hL]
 obtain ⟨Bz, hBz⟩ : ∃ B, w.heap.size = B := ⟨_, rfl⟩
 obtain ⟨di, hdi⟩ : ∃ x, d.idx = x := ⟨_, rfl⟩
 obtain ⟨dp, hdp⟩ : ∃ x, d.par = x := ⟨_, rfl⟩
 obtain ⟨dn, hdn⟩ : ∃ x, d.name = x := ⟨_, rfl⟩
 obtain ⟨dor, hdor⟩ : ∃ x, d.orig = x := ⟨_, rfl⟩
 obtain ⟨du, hdu⟩ : ∃ x, d.sub = x := ⟨_, rfl⟩
 obtain ⟨dd, hdd⟩ : ∃ x, d.drv = x := ⟨_, rfl⟩
 obtain ⟨dl, hdl⟩ : ∃ x, d.ali = x := ⟨_, rfl⟩
 obtain ⟨dk, hdk⟩ : ∃ x, d.kind = x := ⟨_, rfl⟩
 obtain ⟨dm, hdm⟩ : ∃ x, d.num = x := ⟨_, rfl⟩
 have hdv : devV d = .agg #[.int .i64 di, .int .i64 dp, .string dn, .string dor, .string du, .string dd, .string dl, .int .i64 dk, .int .i64 dm, .slice b n c] := by unfold devV devC; rw [hdi, hdp, hdn, hdor, hdu, hdd, hdl, hdk, hdm, hav]
 obtain ⟨W0, hW⟩ : ∃ W0, ((w.alloc (.cells #[.slice ta L tc] 29)).alloc (.cells #[.int .i64 di, .int .i64 dp, .string dn, .string dor, .string du, .string dd, .string dl, .int .i64 dk, .int .i64 dm, .slice b n c] 34)).alloc (.cells #[.slice none 0 0] 29) = W0 := ⟨_, rfl⟩
 have HK0 := Lib.hid (show Kp [] w W0 from by rw [← hW]; exact (((Kp.refl [] w).alloc _).alloc _).alloc _)
 have HS0 := Lib.hid (show W0.heap.size = Bz + 3 from by rw [← hW, World.size_alloc, World.size_alloc, World.size_alloc, hBz])
 have HF := Lib.hid (show ∀ W, Kp [] W0 W → W.heap[Bz]? = some (.cells #[.slice ta L tc] 29 (0, 0)) ∧ BoxAt W (Bz + 1) #[.int .i64 di, .int .i64 dp, .string dn, .string dor, .string du, .string dd, .string dl, .int .i64 dk, .int .i64 dm, .slice b n c] ∧ W.heap[Bz + 2]? = some (.cells #[.slice none 0 0] 29 (0, 0)) from fun W hk => by
  have h1 := heap_alloc2_old w (.cells #[.slice ta L tc] 29) (.cells #[.int .i64 di, .int .i64 dp, .string dn, .string dor, .string du, .string dd, .string dl, .int .i64 dk, .int .i64 dm, .slice b n c] 34)
  have h2 := heap_alloc_last (w.alloc (.cells #[.slice ta L tc] 29)) (.cells #[.int .i64 di, .int .i64 dp, .string dn, .string dor, .string du, .string dd, .string dl, .int .i64 dk, .int .i64 dm, .slice b n c] 34)
  have h3 := heap_alloc_last ((w.alloc (.cells #[.slice ta L tc] 29)).alloc (.cells #[.int .i64 di, .int .i64 dp, .string dn, .string dor, .string du, .string dd, .string dl, .int .i64 dk, .int .i64 dm, .slice b n c] 34)) (.cells #[.slice none 0 0] 29)
  have hb := Below.heap_alloc ((w.alloc (.cells #[.slice ta L tc] 29)).alloc (.cells #[.int .i64 di, .int .i64 dp, .string dn, .string dor, .string du, .string dd, .string dl, .int .i64 dk, .int .i64 dm, .slice b n c] 34)) (.cells #[.slice none 0 0] 29)
  rw [hW] at h3 hb
  rw [World.size_alloc, World.size_alloc, hBz] at h3
  rw [World.size_alloc, hBz] at h2
  rw [hBz] at h1
  have hs := HS0.out
  refine ⟨(hk.block Bz (by omega) (by simp)).trans ((hb Bz (by rw [World.size_alloc, World.size_alloc]; omega)).trans h1), (hk.block (Bz + 1) (by omega) (by simp)).trans ((hb (Bz + 1) (by rw [World.size_alloc, World.size_alloc]; omega)).trans h2), (hk.block (Bz + 2) (by omega) (by simp)).trans h3⟩)
 have Hwz := Lib.hid (show w.heap.size ≤ Bz + 2 by omega)
 have hv := viewOf_any (.slice ta l.length tc) l W0 (by have := ht.n; omega) (h.below HK0.out.bel) hcap ht.wi
 rw [hL] at hv
 have HV := Lib.hid hv
 have HCk := Lib.hid fun W (hk : Kp [] W0 W) => check_any d la W hla ((hd.below HK0.out.bel).below hk.bel) hs ((hm.kp HK0.out).kp hk)
 have HC := Lib.hid fun V M sv' D W (hz : checkE d la = 0) (hk : Kp [] W0 W) (hV : View W V sv' M l D) => clashes_any hV ht d (by have := (chk_small hz).1; omega) ((hm.kp HK0.out).kp hk)
 have HCl := Lib.hid (fun W (hk : Below w.heap.size w W) => clonesO_any (.slice ta l.length tc) l W (by have := ht.n; omega) hal (h.below hk))
 have HAOU := Lib.hid (fun (u : Value) => show devV (devOf (aOf d la) u) = .agg #[.int .i64 di, .int .i64 dp, .string dn, .string dor, .string du, .string dd, .string dl, .int .i64 dk, .int .i64 dm, u] from by
  unfold devV devC devOf aOf
  simp only
  rw [hdi, hdp, hdn, hdor, hdu, hdd, hdl, hdk, hdm])
 have HAOA := Lib.hid (fun (u : Value) => show (dvC (aOf d la) u).toArray = #[.int .i64 di, .int .i64 dp, .string dn, .string dor, .string du, .string dd, .string dl, .int .i64 dk, .int .i64 dm, u] from by
  unfold dvC aOf
  simp only
  rw [hdi, hdp, hdn, hdor, hdu, hdd, hdl, hdk, hdm])
 have HCd := Lib.hid (fun (hz : checkE d la = 0) W (hk : Below w.heap.size w W) => (show Calls Tryz.prog 65 #[.agg #[.int .i64 di, .int .i64 dp, .string dn, .string dor, .string du, .string dd, .string dl, .int .i64 dk, .int .i64 dm, .slice b n c]] W (fun e w' => ∃ a m c, e = .returned (.agg #[.int .i64 di, .int .i64 dp, .string dn, .string dor, .string du, .string dd, .string dl, .int .i64 dk, .int .i64 dm, .slice a m c]) ∧ Owns w' W.heap.size (.slice a m c) la ∧ Below W.heap.size W w') from by
  rw [← HAOU.out]
  refine (cloneDev_any (aOf d la) (.slice b n c) W (show la.length ≤ 1000000 from by have := (chk_small hz).2; omega) (by rw [← hav]; exact hd.below hk)).mono fun e w' ⟨u, he, ho, hb⟩ => ?_
  rcases ho.form with ⟨rfl, hz⟩ | ⟨g, cap, rfl, -⟩
  ·exact ⟨none, 0, 0, by rw [he, HAOU.out], ho, hb⟩
  ·exact ⟨some ⟨g, 0, none⟩, _, cap, by rw [he, HAOU.out], ho, hb⟩))
 have HAts := Lib.hid h.slices
 have HRow := Lib.hid hrow
 have Hi := Lib.hid (show (Lit.int .i64 di).wf = true from by rw [← hdi]; exact hi)
 have HTd := Lib.hid hv0.tidy
 have HChg := Lib.hid (fun (q : Nat) (x : DV) (hx : l[q]? = some x) (hxi : x.1.idx = d.idx) => (show chgT (l.map (·.1)) (aOf d la) = if checkE d la ≠ 0 then 41 else if ¬ (dp = x.1.par ∧ dor = x.1.orig ∧ dk = x.1.kind) then 42 else if clsB l d = true then 44 else 0 from by
  rw [chgT_at hv0.tidy (q := q) (x := x.1) (by rw [List.getElem?_map, hx]; rfl) hxi, snd_chk, cls_any2 d la]
  show (if decide (checkE d la = 0) = false then (41 : Int) else if ¬ (x.1.par = d.par ∧ x.1.orig = d.orig ∧ x.1.kind = d.kind) then 42 else _) = _
  rw [hdp, hdor, hdk]
  have e1 : (decide (checkE d la = 0) = false) = (checkE d la ≠ 0) := by simp
  have e2 : (x.1.par = dp ∧ x.1.orig = dor ∧ x.1.kind = dk) = (dp = x.1.par ∧ dor = x.1.orig ∧ dk = x.1.kind) := by
   rw [eq_comm (a := x.1.par), eq_comm (a := x.1.orig), eq_comm (a := x.1.kind)]
  simp only [e1, e2]))
 have HLast := Lib.hid (show lastI (l.map (·.1)) di = lastI (l.map (·.1)) d.idx from by rw [hdi])
 have HNo := Lib.hid (show lastI (l.map (·.1)) d.idx = none → chgT (l.map (·.1)) (aOf d la) = 45 from fun hn => by
  have h1 := last_fnd hv0.tidy d.idx
  rw [hn] at h1
  unfold chgT
  cases hf : fnd (l.map (·.1)) (aOf d la).idx with
  | none => rfl
  | some o => rw [show (aOf d la).idx = d.idx from rfl] at hf; rw [hf] at h1; cases h1)
 have HSet := Lib.hid (fun (q : Nat) (x : DV) (hx : l[q]? = some x) (hxi : x.1.idx = d.idx) => chgL_set hv0.tidy (q := q) (x := x.1) (d := aOf d la) (by rw [List.getElem?_map, hx]; rfl) hxi)
 have HNil := Lib.hid (show chgT (l.map (·.1)) (aOf d la) ≠ 0 → chgR (l.map (·.1)) (aOf d la) = [] from fun h => by unfold chgR; rw [if_neg h])
 have HOkk := Lib.hid (show chgT (l.map (·.1)) (aOf d la) = 0 → chgR (l.map (·.1)) (aOf d la) = chgL (l.map (·.1)) (aOf d la) from fun h => by unfold chgR; rw [if_pos h])
 have HIx := Lib.hid hdi
 clear hs hla hm hi hd ht h hcap hv hal hv0 hrow
 rw [hdv]
 simp only [hdv] at HCk
 have HAO2 := Lib.hid (show (Value.agg #[.int .i64 d.idx, .int .i64 d.par, .string d.name, .string d.orig, .string d.sub, .string d.drv, .string d.ali, .int .i64 d.kind, .int .i64 d.num, d.av]) = .agg #[.int .i64 di, .int .i64 dp, .string dn, .string dor, .string du, .string dd, .string dl, .int .i64 dk, .int .i64 dm, .slice b n c] from by rw [hdi, hdp, hdn, hdor, hdu, hdd, hdl, hdk, hdm, hav])
 rw [HAO2.out] at HC
 clear hdv hdi hdp hdn hdor hdu hdd hdl hdk hdm hav hn
 obtain ⟨E, hE⟩ : ∃ E, checkE d la = E := ⟨_, rfl⟩
 obtain ⟨q2, hq2⟩ : ∃ q, clsB l d = q := ⟨_, rfl⟩
 obtain ⟨T, hT⟩ : ∃ T, chgT (l.map (·.1)) (aOf d la) = T := ⟨_, rfl⟩
 simp only [hE] at HCk HC HCd HChg
 simp only [hq2] at HC HChg
 simp only [hT] at HChg HNo HNil HOkk ⊢
 rw [hL] at HCl
 clear hE hq2 hT hL
 go_enter Tryz.func45, Tryz.ntmps45
 have t0 : W0.cell? ⟨Bz, 0, none⟩ = some (.slice ta L tc) := by rw [cell_of_row _ _ _ _ _ _ (HF.out _ (Kp.refl [] W0)).1]; rfl
 go_upto_region 2 with (go_at_call 52; refine Calls.mono (by with_reducible exact HV.out) ?_; rintro e W2 ⟨V, M, D, sv', rfl, -, -, hV2, hb2⟩; have HK2 := Lib.hid (Kp.of_below hb2); have HV2 := Lib.hid hV2; clear hb2 hV2)
 clear t0
 have v1 : W2.cell? ⟨V, 1, none⟩ = some (.map (some M)) := by rw [cell_of_row _ _ _ _ _ _ HV2.out.box]; rfl
 have c0 : W2.cell? ⟨Bz + 1, 0, none⟩ = some (.int .i64 di) := (HF.out _ HK2.out).2.1.cell 0
 cases hp : lastI (l.map (·.1)) di with
 | none =>
  have hl0 : ∀ n, (Instr.lookup 82 (.map (some M)) (.int .i64 di) true).run Tryz.prog (W2.drewN n) = .ok (.tuple #[.int .i64 0, .bool false]) (W2.drewN n) := fun n => by
   have h := (HV2.out.map.below ((Kp.refl [] W2).drew n).bel).look Hi.out
   rw [hp] at h
   exact h
  have HT := Lib.hid (show T = 45 from HNo.out (by rw [← HLast.out]; exact hp))
  clear hp
  go_quiet (fail)
  have HKq := Lib.hid fun n => (Kp.refl [] W2).drew n
  go_upto_region 4 with fail
  have HR1 := Lib.hid (HF.out _ (HK2.out.trans (HKq.out nq))).2.2
  have HKZ := Lib.hid ((HK2.out.trans (HKq.out nq)))
  go_wp2_with (refine wpList_store_row rfl 29 _ _ rfl (Bz + 2) #[.slice none 0 0] rfl rfl 29 #[.slice none 0 0] HR1.out info30b rfl one30 ?_)
  exact bodyPost_ret (v := .tuple #[.agg #[.slice none 0 0], .int .i64 45]) (De.results_row_tmp rfl _ _ (Bz + 2) 29 #[.slice none 0 0] _ _ _ rfl rfl (setRow_heap _ _ _ _ _ _ HR1.out) Tryz.underlying29 rfl info30b) rfl ⟨none, 0, 0, [], by rw [HT.out], Lib.hid (by rw [HNil.out (by rw [HT.out]; decide)]; rfl), Lib.hid (.inl ⟨none, 0, rfl, rfl⟩), Lib.hid ((HK0.out.trans HKZ.out).setRow (.inr Hwz.out) _)⟩
 | some q =>
  obtain ⟨y, hy, hyi⟩ := lastI_some hp
  rw [List.getElem?_map, Option.map_eq_some_iff] at hy
  obtain ⟨x, hx, hxe⟩ := hy
  have hxi : x.1.idx = d.idx := by rw [hxe, hyi, HIx.out]
  have HX := Lib.hid hx
  have HXi := Lib.hid hxi
  have hl0 : ∀ n, (Instr.lookup 82 (.map (some M)) (.int .i64 di) true).run Tryz.prog (W2.drewN n) = .ok (.tuple #[.int .i64 (q : Int), .bool true]) (W2.drewN n) := fun n => by
   have h := (HV2.out.map.below ((Kp.refl [] W2).drew n).bel).look Hi.out
   rw [hp] at h
   exact h
  have hqL : q < L := by rw [← HL.out]; exact (List.getElem?_eq_some_iff.1 hx).1
  obtain ⟨xb, xn0, xc, hxv⟩ := HAts.out x (List.mem_of_getElem? hx)
  have hch := HChg.out q x hx hxi
  clear hp hx hxi hxe hyi
  go_quiet (fail)
  have HKq := Lib.hid fun n => (Kp.refl [] W2).drew n
  obtain ⟨W3, hW3⟩ : ∃ W, W2.drewN nq = W := ⟨_, rfl⟩
  have HK3 := Lib.hid (show Kp [] W0 W3 from by rw [← hW3]; exact HK2.out.trans (HKq.out nq))
  have HV3 := Lib.hid (show View W3 V sv' M l D from by rw [← hW3]; exact HV2.out.below (HKq.out nq).bel)
  rw [hW3]
  clear v1 c0 hl0
  have HT3 := Lib.hid (HF.out _ HK3.out).1
  have HB3 := Lib.hid (HF.out _ HK3.out).2.1
  obtain ⟨g, o, rfl, hcp, hg, hrw⟩ := HRow.out (fun e => by have h := HX.out; rw [e] at h; simp at h)
  have HRw := Lib.hid hrw
  have Hg := Lib.hid hg
  obtain ⟨⟨xi, xp, xn, xo, xu, xd, xl, xk, xm, xa⟩, xv⟩ := x
  dsimp only at hch hxv
  subst hxv
  clear hrw hg HRow
  have cx0 : W3.cell? ⟨Bz + 1, 0, none⟩ = some (.int .i64 di) := (HF.out _ HK3.out).2.1.cell 0
  have cx1 : W3.cell? ⟨Bz + 1, 1, none⟩ = some (.int .i64 dp) := (HF.out _ HK3.out).2.1.cell 1
  have cx2 : W3.cell? ⟨Bz + 1, 2, none⟩ = some (.string dn) := (HF.out _ HK3.out).2.1.cell 2
  have cx3 : W3.cell? ⟨Bz + 1, 3, none⟩ = some (.string dor) := (HF.out _ HK3.out).2.1.cell 3
  have cx4 : W3.cell? ⟨Bz + 1, 4, none⟩ = some (.string du) := (HF.out _ HK3.out).2.1.cell 4
  have cx5 : W3.cell? ⟨Bz + 1, 5, none⟩ = some (.string dd) := (HF.out _ HK3.out).2.1.cell 5
  have cx6 : W3.cell? ⟨Bz + 1, 6, none⟩ = some (.string dl) := (HF.out _ HK3.out).2.1.cell 6
  have cx7 : W3.cell? ⟨Bz + 1, 7, none⟩ = some (.int .i64 dk) := (HF.out _ HK3.out).2.1.cell 7
  have cx8 : W3.cell? ⟨Bz + 1, 8, none⟩ = some (.int .i64 dm) := (HF.out _ HK3.out).2.1.cell 8
  have cx9 : W3.cell? ⟨Bz + 1, 9, none⟩ = some (.slice b n c) := (HF.out _ HK3.out).2.1.cell 9
  by_cases q1 : E = 0
  rotate_left
  ·have q1n : (E != 0) = true := by rw [bne, beq_eq_false_iff_ne.2 q1]; rfl
   rw [if_pos q1] at hch
   have HT := Lib.hid hch
   clear hch
   go_upto_region 6 with (go_at_call 85; refine Calls.mono (by with_reducible exact HCk.out _ HK3.out) ?_; rintro e W4 ⟨rfl, hb4⟩; have HK4 := Lib.hid (HK3.out.trans (Kp.of_below hb4)); clear hb4)
   have HR1 := Lib.hid (HF.out _ (HK4.out)).2.2
   have HKZ := Lib.hid (HK4.out)
   go_wp2_with (refine wpList_store_row rfl 29 _ _ rfl (Bz + 2) #[.slice none 0 0] rfl rfl 29 #[.slice none 0 0] HR1.out info30b rfl one30 ?_)
   exact bodyPost_ret (v := .tuple #[.agg #[.slice none 0 0], .int .i64 41]) (De.results_row_tmp rfl _ _ (Bz + 2) 29 #[.slice none 0 0] _ _ _ rfl rfl (setRow_heap _ _ _ _ _ _ HR1.out) Tryz.underlying29 rfl info30b) rfl ⟨none, 0, 0, [], by rw [HT.out], Lib.hid (by rw [HNil.out (by rw [HT.out]; decide)]; rfl), Lib.hid (.inl ⟨none, 0, rfl, rfl⟩), Lib.hid ((HK0.out.trans HKZ.out).setRow (.inr Hwz.out) _)⟩
  subst q1
  rw [if_neg (by simp)] at hch
  go_upto_region 7 with (go_at_call 85; refine Calls.mono (by with_reducible exact HCk.out _ HK3.out) ?_; rintro e W4 ⟨rfl, hb4⟩; have HK4 := Lib.hid (HK3.out.trans (Kp.of_below hb4)); have HV4 := Lib.hid (HV3.out.below hb4); clear hb4)
  clear cx0 cx1 cx2 cx3 cx4 cx5 cx6 cx7 cx8 cx9
  have HT4 := Lib.hid (HF.out _ HK4.out).1
  have HB4 := Lib.hid (HF.out _ HK4.out).2.1
  have HRq := Lib.hid (fun W (hk : Kp [] W4 W) => (show W.rangeAt g (o + q * 10) [.int .i64 xi, .int .i64 xp, .string xn, .string xo, .string xu, .string xd, .string xl, .int .i64 xk, .int .i64 xm, .slice xb xn0 xc] from (HRw.out.below Hg.out ((HK0.out.trans HK4.out).trans hk).bel).at_ q _ HX.out))
  obtain ⟨bad, hbad⟩ : ∃ b : Bool, decide (dp = xp ∧ dor = xo ∧ dk = xk) = b := ⟨_, rfl⟩
  have HSp := Lib.hid (fun W => by have h := same86_any di dp dn dor du dd dl dk dm (.slice b n c) xi xp xn xo xu xd xl xk xm (.slice xb xn0 xc) W; rw [hbad] at h; exact h)
  have hqz : (q : Int) < (L : Int) := by omega
  refine wp_region_held_drew (S := fun W => Kp [] W4 W) (by kernel_rfl) ((Kp.refl [] W4).drew 1) (fun hHeld => ?_)
  generalize hwd : W4.drew = wd at *
  clear hwd
  refine wpAnyH_take (i := 0) (oi := { dst := some 32, op := Op.load 34 (Operand.tmp 3), type := 34, pos := "tree.go:134", after := #[], guard := none }) (v := .agg #[.int .i64 di, .int .i64 dp, .string dn, .string dor, .string du, .string dd, .string dl, .int .i64 dk, .int .i64 dm, .slice b n c]) rfl (by kernel_rfl) (by kernel_rfl) (by kernel_rfl) (fun _ _ _ h => h) (Or.inl ⟨by rfl, fun w hSw => by (try dsimp only at hSw); have dz := (show BoxAt w (Bz + 1) #[.int .i64 di, .int .i64 dp, .string dn, .string dor, .string du, .string dd, .string dl, .int .i64 dk, .int .i64 dm, .slice b n c] from (hSw.block (Bz + 1) (block_lt HB4.out) (by simp)).trans HB4.out).cell; go_simp⟩) hHeld ?_
  try simp only [Act.put, List.setIfInBounds_toArray, List.set_cons_zero, List.set_cons_succ]
  refine wpAnyH_take (i := 1) (oi := { dst := some 33, op := Op.fieldAddr 29 (Operand.tmp 2) 0, type := 0, pos := "tree.go:134", after := #[], guard := none }) (v := .pointer (some ⟨Bz, 0, none⟩)) rfl (by kernel_rfl) (by kernel_rfl) (by kernel_rfl) (fun _ _ _ h => h) (Or.inl ⟨by rfl, fun w hSw => by (try dsimp only at hSw); go_simp⟩) hHeld ?_
  try simp only [Act.put, List.setIfInBounds_toArray, List.set_cons_zero, List.set_cons_succ]
  refine wpAnyH_take (i := 2) (oi := { dst := some 34, op := Op.load 22 (Operand.tmp 33), type := 22, pos := "tree.go:134", after := #[{ on := 1, ground := Ground.data }], guard := none }) (v := .slice (some ⟨g, o, none⟩) L tc) rfl (by kernel_rfl) (by kernel_rfl) (by kernel_rfl) (fun _ _ _ h => h) (Or.inl ⟨by rfl, fun w hSw => by (try dsimp only at hSw); have t0 := cell_one ((hSw.block Bz (block_lt HT4.out) (by simp)).trans HT4.out); go_simp⟩) hHeld ?_
  try simp only [Act.put, List.setIfInBounds_toArray, List.set_cons_zero, List.set_cons_succ]
  refine wpAnyH_take (i := 3) (oi := { dst := some 35, op := Op.move (Operand.tmp 7), type := 3, pos := "tree.go:134", after := #[], guard := none }) (v := .int .i64 (q : Int)) rfl (by kernel_rfl) (by kernel_rfl) (by kernel_rfl) (fun _ _ _ h => h) (Or.inl ⟨by rfl, fun w hSw => by (try dsimp only at hSw); go_simp⟩) hHeld ?_
  try simp only [Act.put, List.setIfInBounds_toArray, List.set_cons_zero, List.set_cons_succ]
  refine wpAnyH_take (i := 4) (oi := { dst := some 36, op := Op.indexAddr 22 (Operand.tmp 34) (Operand.tmp 35), type := 0, pos := "tree.go:134", after := #[{ on := 2, ground := Ground.data }, { on := 3, ground := Ground.data }], guard := none }) (v := .pointer (some ⟨g, o + q * 10, none⟩)) rfl (by kernel_rfl) (by kernel_rfl) (by kernel_rfl) (fun _ _ _ h => h) (Or.inl ⟨by rfl, fun w hSw => by (try dsimp only at hSw); go_simp⟩) hHeld ?_
  try simp only [Act.put, List.setIfInBounds_toArray, List.set_cons_zero, List.set_cons_succ]
  refine wpAnyH_take (i := 5) (oi := { dst := some 37, op := Op.load 34 (Operand.tmp 36), type := 34, pos := "tree.go:134", after := #[{ on := 4, ground := Ground.data }], guard := none }) (v := .agg #[.int .i64 xi, .int .i64 xp, .string xn, .string xo, .string xu, .string xd, .string xl, .int .i64 xk, .int .i64 xm, .slice xb xn0 xc]) rfl (by kernel_rfl) (by kernel_rfl) (by kernel_rfl) (fun _ _ _ h => h) (yieldsIf_load_mid (by rfl) 34 _ rfl g (o + q * 10) rfl [.int .i64 xi, .int .i64 xp, .string xn, .string xo, .string xu, .string xd, .string xl, .int .i64 xk, .int .i64 xm, .slice xb xn0 xc] _ (fun w hSw => HRq.out _ hSw) Tryz.underlying34 rfl info34b) hHeld ?_
  try simp only [Act.put, List.setIfInBounds_toArray, List.set_cons_zero, List.set_cons_succ]
  refine wpAnyH_ready (rs := [6]) (by kernel_rfl) (by simp) ?_
  refine AllReadyH.cons (o := { dst := some 38, op := Op.call { callee := Callee.value (Operand.func 86), args := #[Operand.tmp 32, Operand.tmp 37], argTypes := #[34, 34] }, type := 4, pos := "tree.go:134", after := #[{ on := 0, ground := Ground.data }, { on := 5, ground := Ground.data }], guard := none }) rfl (fun K hK => ?_) AllReadyH.nil
  go_simp
  go_at_call 86
  refine Calls.mono (by with_reducible exact HSp.out _) ?_
  rintro e V7 ⟨rfl, hbv⟩
  dsimp only
  have hS := hHeld.trans hbv
  clear hbv
  clear hHeld
  refine hK.out _ _ hS (fun hHeld => ?_)
  try simp only [Act.put, List.setIfInBounds_toArray, List.set_cons_zero, List.set_cons_succ]
  clear hK
  clear hS
  refine wpAnyH_take (i := 7) (oi := { dst := some 39, op := Op.unOp UnOp.not 4 (Operand.tmp 38), type := 4, pos := "tree.go:134", after := #[{ on := 6, ground := Ground.data }], guard := none }) (v := .bool (!bad)) rfl (by kernel_rfl) (by kernel_rfl) (by kernel_rfl) (fun _ _ _ h => h) (Or.inl ⟨by rfl, fun w hSw => by (try dsimp only at hSw); go_simp⟩) hHeld ?_
  try simp only [Act.put, List.setIfInBounds_toArray, List.set_cons_zero, List.set_cons_succ]
  refine wpAnyH_take (i := 8) (oi := { dst := some 31, op := Op.assign (Operand.tmp 39), type := 4, pos := "tree.go:134", after := #[{ on := 7, ground := Ground.data }, { on := 6, ground := Ground.chain }], guard := none }) (v := .bool (!bad)) rfl (by kernel_rfl) (by kernel_rfl) (by kernel_rfl) (fun _ _ _ h => h) (Or.inl ⟨by rfl, fun w hSw => by (try dsimp only at hSw); go_simp⟩) hHeld ?_
  try simp only [Act.put, List.setIfInBounds_toArray, List.set_cons_zero, List.set_cons_succ]
  have HSe := Lib.hid hHeld
  refine wpAnyH_done (by kernel_rfl) ?_ _
  clear hHeld
  have HK7 := Lib.hid (HK4.out.trans HSe.out)
  have HV7 := Lib.hid (HV4.out.below HSe.out.bel)
  obtain ⟨W7, hW7⟩ : ∃ W, W = V7 := ⟨_, rfl⟩
  subst hW7
  cases bad with
  | false =>
   have HT := Lib.hid (show T = 42 from by rw [hch, if_pos (by simpa using hbad)])
   clear hch hbad
   go_upto_region 8 with fail
   have HR1 := Lib.hid (HF.out _ (HK7.out)).2.2
   have HKZ := Lib.hid (HK7.out)
   go_wp2_with (refine wpList_store_row rfl 29 _ _ rfl (Bz + 2) #[.slice none 0 0] rfl rfl 29 #[.slice none 0 0] HR1.out info30b rfl one30 ?_)
   exact bodyPost_ret (v := .tuple #[.agg #[.slice none 0 0], .int .i64 42]) (De.results_row_tmp rfl _ _ (Bz + 2) 29 #[.slice none 0 0] _ _ _ rfl rfl (setRow_heap _ _ _ _ _ _ HR1.out) Tryz.underlying29 rfl info30b) rfl ⟨none, 0, 0, [], by rw [HT.out], Lib.hid (by rw [HNil.out (by rw [HT.out]; decide)]; rfl), Lib.hid (.inl ⟨none, 0, rfl, rfl⟩), Lib.hid ((HK0.out.trans HKZ.out).setRow (.inr Hwz.out) _)⟩
  | true =>
   rw [if_neg (by simpa using hbad)] at hch
   clear hbad
   have cx0 : W7.cell? ⟨Bz + 1, 0, none⟩ = some (.int .i64 di) := (HF.out _ HK7.out).2.1.cell 0
   have cx1 : W7.cell? ⟨Bz + 1, 1, none⟩ = some (.int .i64 dp) := (HF.out _ HK7.out).2.1.cell 1
   have cx2 : W7.cell? ⟨Bz + 1, 2, none⟩ = some (.string dn) := (HF.out _ HK7.out).2.1.cell 2
   have cx3 : W7.cell? ⟨Bz + 1, 3, none⟩ = some (.string dor) := (HF.out _ HK7.out).2.1.cell 3
   have cx4 : W7.cell? ⟨Bz + 1, 4, none⟩ = some (.string du) := (HF.out _ HK7.out).2.1.cell 4
   have cx5 : W7.cell? ⟨Bz + 1, 5, none⟩ = some (.string dd) := (HF.out _ HK7.out).2.1.cell 5
   have cx6 : W7.cell? ⟨Bz + 1, 6, none⟩ = some (.string dl) := (HF.out _ HK7.out).2.1.cell 6
   have cx7 : W7.cell? ⟨Bz + 1, 7, none⟩ = some (.int .i64 dk) := (HF.out _ HK7.out).2.1.cell 7
   have cx8 : W7.cell? ⟨Bz + 1, 8, none⟩ = some (.int .i64 dm) := (HF.out _ HK7.out).2.1.cell 8
   have cx9 : W7.cell? ⟨Bz + 1, 9, none⟩ = some (.slice b n c) := (HF.out _ HK7.out).2.1.cell 9
   cases q2 with
   | true =>
    have HT := Lib.hid (show T = 44 from by rw [hch, if_pos rfl])
    clear hch
    go_upto_region 10 with (go_at_call 82; refine Calls.mono (by with_reducible exact HC.out _ _ _ _ _ (by first | rfl | trivial) HK7.out HV7.out) ?_; rintro e W8 ⟨rfl, hk8⟩; have HK8 := Lib.hid (HK7.out.trans hk8); clear hk8)
    have HR1 := Lib.hid (HF.out _ (HK8.out)).2.2
    have HKZ := Lib.hid (HK8.out)
    go_wp2_with (refine wpList_store_row rfl 29 _ _ rfl (Bz + 2) #[.slice none 0 0] rfl rfl 29 #[.slice none 0 0] HR1.out info30b rfl one30 ?_)
    exact bodyPost_ret (v := .tuple #[.agg #[.slice none 0 0], .int .i64 44]) (De.results_row_tmp rfl _ _ (Bz + 2) 29 #[.slice none 0 0] _ _ _ rfl rfl (setRow_heap _ _ _ _ _ _ HR1.out) Tryz.underlying29 rfl info30b) rfl ⟨none, 0, 0, [], by rw [HT.out], Lib.hid (by rw [HNil.out (by rw [HT.out]; decide)]; rfl), Lib.hid (.inl ⟨none, 0, rfl, rfl⟩), Lib.hid ((HK0.out.trans HKZ.out).setRow (.inr Hwz.out) _)⟩
   | false =>
    have HT := Lib.hid (show T = 0 from by rw [hch, if_neg (by simp)])
    clear hch
    have HT0 := Lib.hid (fun W (hk : Kp [] W0 W) => cell_one (HF.out _ hk).1)
    go_upto_region 11 with (go_at_call 82; refine Calls.mono (by with_reducible exact HC.out _ _ _ _ _ (by first | rfl | trivial) HK7.out HV7.out) ?_; rintro e W8 ⟨rfl, hk8⟩; have HK8 := Lib.hid (HK7.out.trans hk8); clear hk8)
    clear cx0 cx1 cx2 cx3 cx4 cx5 cx6 cx7 cx8 cx9
    have t0 := HT0.out _ HK8.out
    have HBw := Lib.hid (HK0.out.trans HK8.out).bel
    go_upto_region 12 with (go_at_call 74; refine Calls.mono (by with_reducible exact HCl.out _ HBw.out) ?_; rintro e V1 ⟨u1, l1, rfl, hl1, hdin, hb1⟩; have HL1 := Lib.hid hl1; have HDin := Lib.hid hdin; have HB1 := Lib.hid hb1; clear hl1 hdin hb1)
    clear t0
    have hl1n : l1.length = L := by rw [← HL.out, ← List.length_map (f := (·.1)), HL1.out, List.length_map]
    have hne : l1 ≠ [] := fun e => by rw [e] at hl1n; simp at hl1n; omega
    have HBw1 := Lib.hid (HBw.out.trans (HB1.out.mono HBw.out.size))
    obtain ⟨g5, c5, rfl, hg5, hc5, hcl⟩ := HDin.out.cl HBw.out.size hne HBw1.out
    obtain ⟨y, hy⟩ : ∃ y, l1[q]? = some y := ⟨l1[q]'(by omega), List.getElem?_eq_getElem _⟩
    have HY := Lib.hid hy
    rw [hl1n] at hc5 ⊢
    have HCl1 := Lib.hid hcl
    have Hg5 := Lib.hid hg5
    have HKV := Lib.hid (Kp.of_below HB1.out)
    have cx0 : V1.cell? ⟨Bz + 1, 0, none⟩ = some (.int .i64 di) := (HF.out _ (HK8.out.trans HKV.out)).2.1.cell 0
    have cx1 : V1.cell? ⟨Bz + 1, 1, none⟩ = some (.int .i64 dp) := (HF.out _ (HK8.out.trans HKV.out)).2.1.cell 1
    have cx2 : V1.cell? ⟨Bz + 1, 2, none⟩ = some (.string dn) := (HF.out _ (HK8.out.trans HKV.out)).2.1.cell 2
    have cx3 : V1.cell? ⟨Bz + 1, 3, none⟩ = some (.string dor) := (HF.out _ (HK8.out.trans HKV.out)).2.1.cell 3
    have cx4 : V1.cell? ⟨Bz + 1, 4, none⟩ = some (.string du) := (HF.out _ (HK8.out.trans HKV.out)).2.1.cell 4
    have cx5 : V1.cell? ⟨Bz + 1, 5, none⟩ = some (.string dd) := (HF.out _ (HK8.out.trans HKV.out)).2.1.cell 5
    have cx6 : V1.cell? ⟨Bz + 1, 6, none⟩ = some (.string dl) := (HF.out _ (HK8.out.trans HKV.out)).2.1.cell 6
    have cx7 : V1.cell? ⟨Bz + 1, 7, none⟩ = some (.int .i64 dk) := (HF.out _ (HK8.out.trans HKV.out)).2.1.cell 7
    have cx8 : V1.cell? ⟨Bz + 1, 8, none⟩ = some (.int .i64 dm) := (HF.out _ (HK8.out.trans HKV.out)).2.1.cell 8
    have cx9 : V1.cell? ⟨Bz + 1, 9, none⟩ = some (.slice b n c) := (HF.out _ (HK8.out.trans HKV.out)).2.1.cell 9
    clear hy hcl hne hg5
    have HL1n := Lib.hid hl1n
    clear hl1n
    have HOwn := Lib.hid (fun (u : Value) (h : u.oneCell' = true) => (show (#[.int .i64 di, .int .i64 dp, .string dn, .string dor, .string du, .string dd, .string dl, .int .i64 dk, .int .i64 dm, u] : Array Value).all (·.oneCell') = true from by rw [← HAOA.out u]; exact all_oneCell_toArray (dvC_one (a := aOf d la) h)))
    have HI34 := Lib.hid (fun (u : Value) => (show (Tryz.prog.info? 34).map (·.size) = some (#[.int .i64 di, .int .i64 dp, .string dn, .string dor, .string du, .string dd, .string dl, .int .i64 dk, .int .i64 dm, u] : Array Value).size from info34b))
    go_upto_region 13 with (first
     | (go_at_call 65; refine Calls.mono (by with_reducible exact HCd.out (by first | rfl | trivial) _ HBw1.out) ?_; rintro e V2 ⟨ub, un, uc, rfl, hown, hb2⟩; have HOw := Lib.hid hown; have HB2 := Lib.hid hb2; have HC2 := Lib.hid (HCl1.out.below hb2); clear hown hb2)
     | (refine wpList_store_mid rfl 34 _ _ rfl g5 (q * 10) #[.int .i64 di, .int .i64 dp, .string dn, .string dor, .string du, .string dd, .string dl, .int .i64 dk, .int .i64 dm, .slice ub un uc] rfl rfl (fun j hj => ⟨(HC2.out.row q _ HY.out).isSome j (by rw [dvC_len]; exact hj), HC2.out.fr _⟩) (HI34.out _) (HOwn.out _ HOw.out.has.one) ?_))
    clear cx0 cx1 cx2 cx3 cx4 cx5 cx6 cx7 cx8 cx9
    have HP0 := Lib.hid (Cl.put (y := (aOf d la, .slice ub un uc)) HC2.out (Nat.le_trans HBw.out.size Hg5.out) HY.out HOw.out.has (fun hne => HOw.out.new hne HCl1.out.lt))
    have HUL := Lib.hid (show (#[.int .i64 di, .int .i64 dp, .string dn, .string dor, .string du, .string dd, .string dl, .int .i64 dk, .int .i64 dm, .slice ub un uc] : Array Value).toList = dvC (aOf d la) (.slice ub un uc) from by rw [← HAOA.out])
    have hp := HP0.out
    rw [← HUL.out] at hp
    have hR2 := (HF.out _ (HK8.out.trans (HKV.out.trans (Kp.of_below HB2.out)))).2.2
    have HRlt := Lib.hid (block_lt (HF.out _ HK8.out).2.2)
    have hR3 : (V2.setCells g5 (q * 10) (#[.int .i64 di, .int .i64 dp, .string dn, .string dor, .string du, .string dd, .string dl, .int .i64 dk, .int .i64 dm, .slice ub un uc] : Array Value).toList).heap[Bz + 2]? = some (.cells #[.slice none 0 0] 29 (0, 0)) := (World.heap_setCells_other V2 g5 _ _ (block_lt hR2) (by have := HRlt.out; have := Hg5.out; omega)).trans hR2
    obtain ⟨V3, hV3⟩ : ∃ W, V2.setCells g5 (q * 10) (#[.int .i64 di, .int .i64 dp, .string dn, .string dor, .string du, .string dd, .string dl, .int .i64 dk, .int .i64 dm, .slice ub un uc] : Array Value).toList = W := ⟨_, rfl⟩
    rw [hV3] at hp hR3 ⊢
    have HP := Lib.hid hp
    have HR3 := Lib.hid hR3
    clear hp hR2 hR3 hV3
    go_wp2_with (refine wpList_store_row rfl 29 _ _ rfl (Bz + 2) #[.slice (some ⟨g5, 0, none⟩) L c5] rfl rfl 29 #[.slice none 0 0] HR3.out info30b rfl (sl_one _ _ _) ?_)
    have HRe := Lib.hid (setRow_heap _ _ _ #[.slice (some ⟨g5, 0, none⟩) L c5] _ _ HR3.out)
    have hkR : Kp [Bz + 2] V3 (V3.setRow (Bz + 2) #[.slice (some ⟨g5, 0, none⟩) L c5]) := (Kp.refl _ _).setRow (.inl (by simp)) _
    have hD : DHas V3 (.slice (some ⟨g5, 0, none⟩) L c5) (l1.set q (aOf d la, .slice ub un uc)) := by
     have h := HP.out.has (c := c5) (by rw [List.length_set, HL1n.out]; exact hc5)
     rw [List.length_set, HL1n.out] at h
     exact h
    exact bodyPost_ret (v := .tuple #[.agg #[.slice (some ⟨g5, 0, none⟩) L c5], .int .i64 0]) (De.results_row_tmp rfl _ _ (Bz + 2) 29 #[.slice (some ⟨g5, 0, none⟩) L c5] _ _ _ rfl rfl HRe.out Tryz.underlying29 rfl info30b) rfl ⟨some ⟨g5, 0, none⟩, L, c5, by rw [HT.out], l1.set q (aOf d la, .slice ub un uc), Lib.hid (by rw [HOkk.out HT.out, HSet.out q _ HX.out HXi.out, List.map_set, HL1.out]), Lib.hid (dhasR hD hkR HR3.out), Lib.hid ((Kp.of_below HP.out.bl).setRow (.inr Hwz.out) _)⟩
end Go.Proofs.YtldcediiobfhiaaGreatDoor.De
namespace Go.Proofs.YtldcediiobfhiaaGreatDoor
open Go.RowKit
theorem chg_any {l : List De.DV} (ht : De.Tidy (l.map (·.1))) (d : De.Dev) (la : List De.Atr) {q : Nat} {x : De.DV} (hx : l[q]? = some x) (hxi : x.1.idx = d.idx) :
  ((∃ (k : Nat) (y : De.DV), l[k]? = some y ∧ k ≠ q ∧ clashD (De.devOf y.1 y.2) d = true) → ((l.map (·.1)).any fun e => e.idx != (aOf d la).idx && clA e (aOf d la)) = true) ∧
  ((∀ (k : Nat) (y : De.DV), l[k]? = some y → k ≠ q → clashD (De.devOf y.1 y.2) d = false) → ((l.map (·.1)).any fun e => e.idx != (aOf d la).idx && clA e (aOf d la)) = false) := by
 have hx1 : (l.map (·.1))[q]? = some x.1 := by rw [List.getElem?_map, hx]; rfl
 refine ⟨fun ⟨k, y, hy, hk, hc⟩ => ?_, fun h => ?_⟩
 ·refine List.any_eq_true.2 ⟨y.1, List.mem_map.2 ⟨y, List.mem_of_getElem? hy, rfl⟩, ?_⟩
  rw [← clash_cl y d la, hc, Bool.and_true, bne_iff_ne]
  intro e
  exact hk (De.uniq_at ht.uniq (by rw [List.getElem?_map, hy]; rfl) hx1 (e.trans hxi.symm)).1
 ·rw [List.any_eq_false]
  intro e he
  obtain ⟨y, hy, rfl⟩ := List.mem_map.1 he
  obtain ⟨k, hk, hky⟩ := List.getElem_of_mem hy
  have hy2 : l[k]? = some y := by rw [List.getElem?_eq_getElem hk, hky]
  by_cases e : k = q
  ·subst e
   rw [hx] at hy2
   injection hy2 with hy2
   subst hy2
   have : (x.1.idx != (aOf d la).idx) = false := by rw [show (aOf d la).idx = d.idx from rfl, hxi]; simp
   rw [this]
   simp
  ·rw [← clash_cl y d la, h k y hy2 e]
   simp
/-- What Change returns. -/
def ChgPost (T : Int) (R : List De.ADev) (w : World) (e : Ending) (w' : World) : Prop := ∃ a m c L', e = .returned (.tuple #[.agg #[.slice a m c], .int .i64 T]) ∧ Hid (L'.map (·.1) = R) ∧ Hid (De.DHas w' (.slice a m c) L') ∧ Hid (Kp [] w w')
set_option maxHeartbeats 8000000 in
set_option maxRecDepth 100000 in
theorem refChange_any (sv : Value) (l : List De.DV) (d : De.Dev) (la : List De.Atr) (w : World) (hv : De.Valid sndA clA (l.map (·.1))) (hsv : De.DHas w sv l) (hd : De.Has w d.av la) (hs : De.Sized d la) (hla : la.length ≤ 9223372036854775807) (hsl : ∀ x ∈ l, x.1.orig.size < 1000000) (hm : De.Max w) :
  Calls Tryz.prog 46 #[.agg #[sv], De.devV d] w (ChgPost (chgT (l.map (·.1)) (aOf d la)) (chgR (l.map (·.1)) (aOf d la)) w) := by
 have hN256 : l.length ≤ 256 := by
  have := hv.size
  rwa [List.length_map] at this
 have hform : ∃ a c, sv = .slice a l.length c ∧ (∀ (i : Nat) (x : De.DV), l[i]? = some x → ∃ g o, a = some ⟨g, o, none⟩ ∧ g < w.heap.size ∧ De.DRow w g o l) := by
  rcases hsv with ⟨a, c, h1, h2⟩ | ⟨g, o, c, h1, hc, hg, hr⟩
  ·exact ⟨a, c, by rw [h1, h2]; rfl, fun i x hx => by rw [h2] at hx; simp at hx⟩
  ·exact ⟨_, c, h1, fun i x hx => ⟨g, o, rfl, hg, hr⟩⟩
 obtain ⟨a, c, rfl, hrow⟩ := hform
 have HIX := Lib.hid (fun W (hk : Kp [] w W) => De.refIndex_any (.slice a l.length c) l d.idx W (by omega) (hsv.below hk.bel))
 have HCK := Lib.hid (fun W (hk : Kp [] w W) => De.refCheck_any d la W hla (hd.below hk.bel) hs (hm.below hk.bel))
 have HCL := Lib.hid (fun (hz : De.checkE d la = 0) x (hx : x ∈ l) W (hk : Kp [] w W) => clash_any (De.devOf x.1 x.2) d W (hsl x hx) (by have := (chk_small hz).1; omega) (hm.below hk.bel))
 have HSV := Lib.hid hsv
 have HRow := Lib.hid hrow
 have HD := Lib.hid hd
 have HDlt := Lib.hid (show la ≠ [] → ∀ b, d.av.ownBlock = some b → b < w.heap.size from fun hne b hb => hd.lt hne b hb)
 have HD1 := Lib.hid hd.one
 have HAny := Lib.hid (fun (q : Nat) (x : De.DV) (hx : l[q]? = some x) (hxi : x.1.idx = d.idx) => chg_any hv.tidy d la hx hxi)
 have HChg := Lib.hid (fun (q : Nat) (x : De.DV) (hx : l[q]? = some x) (hxi : x.1.idx = d.idx) => (show chgT (l.map (·.1)) (aOf d la) = if De.checkE d la ≠ 0 then 41 else if ¬ (x.1.par = d.par ∧ x.1.orig = d.orig ∧ x.1.kind = d.kind) then 42 else if ((l.map (·.1)).any fun e => e.idx != (aOf d la).idx && clA e (aOf d la)) = true then 44 else 0 from by
  rw [chgT_at hv.tidy (q := q) (x := x.1) (by rw [List.getElem?_map, hx]; rfl) hxi, snd_chk]
  have e1 : (decide (De.checkE d la = 0) = false) = (De.checkE d la ≠ 0) := by simp
  simp only [e1]
  rfl))
 have HSet := Lib.hid (fun (q : Nat) (x : De.DV) (hx : l[q]? = some x) (hxi : x.1.idx = d.idx) => chgL_set hv.tidy (q := q) (x := x.1) (d := aOf d la) (by rw [List.getElem?_map, hx]; rfl) hxi)
 have HNo := Lib.hid (show De.idxP (l.map (·.1)) d.idx = none → chgT (l.map (·.1)) (aOf d la) = 45 from fun hn => by
  unfold chgT
  rw [show (aOf d la).idx = d.idx from rfl, De.idxP_fnd, hn]
  rfl)
 have HNil := Lib.hid (show chgT (l.map (·.1)) (aOf d la) ≠ 0 → chgR (l.map (·.1)) (aOf d la) = [] from fun h => by unfold chgR; rw [if_neg h])
 have HOkk := Lib.hid (show chgT (l.map (·.1)) (aOf d la) = 0 → chgR (l.map (·.1)) (aOf d la) = De.chgL (l.map (·.1)) (aOf d la) from fun h => by unfold chgR; rw [if_pos h])
 have HAo := Lib.hid (show (De.dvC (aOf d la) d.av).toArray = De.devC d from rfl)
 have HAa := Lib.hid (show (aOf d la).ats = la from rfl)
 have HAt := Lib.hid (dhas_ats hsv)
 obtain ⟨N, hN⟩ : ∃ N, l.length = N := ⟨_, rfl⟩
 have HN := Lib.hid hN
 clear hsv hd hs hla hm hrow hv hsl
 obtain ⟨A, hA⟩ : ∃ A, aOf d la = A := ⟨_, rfl⟩
 obtain ⟨T, hT⟩ : ∃ T, chgT (l.map (·.1)) A = T := ⟨_, rfl⟩
 simp only [hA] at HAny HChg HSet HNo HNil HOkk HAo HAa ⊢
 simp only [hT] at HChg HNo HNil HOkk ⊢
 clear hA hT
 obtain ⟨di, dp, dn, do_, du, dd, dl, dk, dm, dv⟩ := d
 unfold De.devV De.devC at *
 unfold De.devOf at HCL HAny
 simp only at HIX HCK HCL HD HDlt HD1 HChg HSet HNo HAo HAny ⊢
 rw [hN] at HIX HSV hN256 ⊢
 clear hN
 obtain ⟨Bz, hBz⟩ : ∃ Bz, w.heap.size = Bz := ⟨_, rfl⟩
 obtain ⟨W0, hW⟩ : ∃ W0, ((w.alloc (.cells #[.slice a N c] 29)).alloc (.cells #[.int .i64 di, .int .i64 dp, .string dn, .string do_, .string du, .string dd, .string dl, .int .i64 dk, .int .i64 dm, dv] 34)).alloc (.cells #[.slice none 0 0] 29) = W0 := ⟨_, rfl⟩
 have HK0 := Lib.hid (show Kp [] w W0 from by rw [← hW]; exact (((Kp.refl [] w).alloc _).alloc _).alloc _)
 have HS0 := Lib.hid (show W0.heap.size = Bz + 3 from by rw [← hW, World.size_alloc, World.size_alloc, World.size_alloc, hBz])
 have HF := Lib.hid (show ∀ W, Kp [] W0 W → W.heap[Bz]? = some (.cells #[.slice a N c] 29 (0, 0)) ∧ De.BoxAt W (Bz + 1) #[.int .i64 di, .int .i64 dp, .string dn, .string do_, .string du, .string dd, .string dl, .int .i64 dk, .int .i64 dm, dv] ∧ W.heap[Bz + 2]? = some (.cells #[.slice none 0 0] 29 (0, 0)) from fun W hk => by
  have h1 := heap_alloc2_old w (.cells #[.slice a N c] 29) (.cells #[.int .i64 di, .int .i64 dp, .string dn, .string do_, .string du, .string dd, .string dl, .int .i64 dk, .int .i64 dm, dv] 34)
  have h2 := heap_alloc_last (w.alloc (.cells #[.slice a N c] 29)) (.cells #[.int .i64 di, .int .i64 dp, .string dn, .string do_, .string du, .string dd, .string dl, .int .i64 dk, .int .i64 dm, dv] 34)
  have h3 := heap_alloc_last ((w.alloc (.cells #[.slice a N c] 29)).alloc (.cells #[.int .i64 di, .int .i64 dp, .string dn, .string do_, .string du, .string dd, .string dl, .int .i64 dk, .int .i64 dm, dv] 34)) (.cells #[.slice none 0 0] 29)
  have hb := Below.heap_alloc ((w.alloc (.cells #[.slice a N c] 29)).alloc (.cells #[.int .i64 di, .int .i64 dp, .string dn, .string do_, .string du, .string dd, .string dl, .int .i64 dk, .int .i64 dm, dv] 34)) (.cells #[.slice none 0 0] 29)
  rw [hW] at h3 hb
  rw [World.size_alloc, World.size_alloc, hBz] at h3
  rw [World.size_alloc, hBz] at h2
  rw [hBz] at h1
  have hs := HS0.out
  refine ⟨(hk.block Bz (by omega) (by simp)).trans ((hb Bz (by rw [World.size_alloc, World.size_alloc]; omega)).trans h1), (hk.block (Bz + 1) (by omega) (by simp)).trans ((hb (Bz + 1) (by rw [World.size_alloc, World.size_alloc]; omega)).trans h2), (hk.block (Bz + 2) (by omega) (by simp)).trans h3⟩)
 obtain ⟨f1, f2, f3⟩ := HF.out W0 (Kp.refl [] W0)
 have t0 := (cell_of_row _ _ 0 _ _ _ f1)
 simp only [List.getElem?_toArray, List.getElem?_cons_zero] at t0
 have dc := f2.cell
 have d0 : W0.cell? ⟨Bz + 1, 0, none⟩ = some (.int .i64 di) := dc 0
 clear f1 f2 f3 dc
 have HBz := Lib.hid hBz
 have Hwz := Lib.hid (show w.heap.size ≤ Bz + 2 by omega)
 obtain ⟨ck, hck⟩ : ∃ z, De.checkE ⟨di, dp, dn, do_, du, dd, dl, dk, dm, dv⟩ la = z := ⟨_, rfl⟩
 simp only [hck] at HCK HCL HChg
 clear hck
 have HErr := Lib.hid (fun (W : World) (E : Int) (hE : E ≠ 0) (hT : T = E) (hk : Kp [] W0 W) (hr : W.heap[Bz + 2]? = some (.cells #[.slice none 0 0] 29 (0, 0))) => (show ChgPost T (chgR (l.map (·.1)) A) w (.returned (.tuple #[.agg #[.slice none 0 0], .int .i64 E])) (W.setRow (Bz + 2) #[.slice none 0 0]) from
  ⟨none, 0, 0, [], by rw [hT], Lib.hid (by rw [HNil.out (by rw [hT]; exact hE)]; rfl), Lib.hid (.inl ⟨none, 0, rfl, rfl⟩), Lib.hid ((HK0.out.trans hk).setRow (.inr Hwz.out) _)⟩))
 cases hp : De.idxP (l.map (·.1)) di with
 | none =>
  have HT := Lib.hid (HNo.out hp)
  have HI := Lib.hid (fun W (hk : Kp [] w W) => by have := HIX.out W hk; rw [hp] at this; exact this)
  clear hp
  go_enter Tryz.func46, Tryz.ntmps46
  go_upto_region 3 with (go_at_call 56; refine Calls.mono (by with_reducible exact HI.out _ HK0.out) ?_; rintro e W2 ⟨rfl, hb2⟩; have HK2 := Lib.hid (Kp.of_bel hb2); clear hb2)
  have HR1 := Lib.hid (HF.out _ HK2.out).2.2
  go_wp2_with (refine wpList_store_row rfl 29 _ _ rfl (Bz + 2) #[.slice none 0 0] rfl rfl 29 #[.slice none 0 0] HR1.out info30b rfl one30 ?_)
  exact bodyPost_ret (v := .tuple #[.agg #[.slice none 0 0], .int .i64 45]) (De.results_row_tmp rfl _ _ (Bz + 2) 29 #[.slice none 0 0] _ _ _ rfl rfl (setRow_heap _ _ _ _ _ _ HR1.out) Tryz.underlying29 rfl info30b) rfl (HErr.out _ 45 (by decide) HT.out HK2.out HR1.out)
 | some q =>
  obtain ⟨y, hy, hyi⟩ := De.idxP_some hp
  rw [List.getElem?_map, Option.map_eq_some_iff] at hy
  obtain ⟨x, hx, hxe⟩ := hy
  have hxi : x.1.idx = di := by rw [hxe, hyi]
  have HX := Lib.hid hx
  have hch := HChg.out q x hx hxi
  have HAn := Lib.hid (HAny.out q x hx hxi)
  have HSt := Lib.hid (HSet.out q x hx hxi)
  have hqN : q < N := by rw [← HN.out]; exact (List.getElem?_eq_some_iff.1 hx).1
  have HI := Lib.hid (fun W (hk : Kp [] w W) => by have := HIX.out W hk; rw [hp] at this; exact this)
  obtain ⟨g, o, rfl, hg, hrw⟩ := HRow.out q x hx
  have HRw := Lib.hid hrw
  have Hg := Lib.hid hg
  clear hp hx hxi hxe hyi HNo HIX HSet HAny HChg HRow hg hrw
  have hqz : ¬ (q : Int) < 0 := by omega
  simp only [De.idxV] at HI
  go_enter Tryz.func46, Tryz.ntmps46
  go_upto_region 4 with (go_at_call 56; refine Calls.mono (by with_reducible exact HI.out _ HK0.out) ?_; rintro e W2 ⟨rfl, hb2⟩; have HK2 := Lib.hid (Kp.of_bel hb2); clear hb2)
  clear t0 d0 hW hBz
  have HB2 := Lib.hid (HF.out _ HK2.out).2.1
  by_cases q1 : ck = 0
  rotate_left
  ·have q1n : (ck != 0) = true := by rw [bne, beq_eq_false_iff_ne.2 q1]; rfl
   rw [if_pos q1] at hch
   have HT := Lib.hid hch
   clear hch
   go_upto_region 5 with (first
    | (refine wpList_load_row rfl 34 _ rfl (Bz + 1) rfl 34 #[.int .i64 di, .int .i64 dp, .string dn, .string do_, .string du, .string dd, .string dl, .int .i64 dk, .int .i64 dm, dv] (0, 0) _ HB2.out Tryz.underlying34 rfl De.info34b ?_)
    | (go_at_call 55; refine Calls.mono (by with_reducible exact HCK.out _ (HK0.out.trans HK2.out)) ?_; rintro e W3 ⟨rfl, hb1⟩; have HK3 := Lib.hid (HK2.out.trans (Kp.of_bel hb1)); clear hb1))
   have HR1 := Lib.hid (HF.out _ HK3.out).2.2
   go_wp2_with (refine wpList_store_row rfl 29 _ _ rfl (Bz + 2) #[.slice none 0 0] rfl rfl 29 #[.slice none 0 0] HR1.out info30b rfl one30 ?_)
   exact bodyPost_ret (v := .tuple #[.agg #[.slice none 0 0], .int .i64 41]) (De.results_row_tmp rfl _ _ (Bz + 2) 29 #[.slice none 0 0] _ _ _ rfl rfl (setRow_heap _ _ _ _ _ _ HR1.out) Tryz.underlying29 rfl info30b) rfl (HErr.out _ 41 (by decide) HT.out HK3.out HR1.out)
  subst q1
  rw [if_neg (by simp)] at hch
  go_upto_region 6 with (first
   | (refine wpList_load_row rfl 34 _ rfl (Bz + 1) rfl 34 #[.int .i64 di, .int .i64 dp, .string dn, .string do_, .string du, .string dd, .string dl, .int .i64 dk, .int .i64 dm, dv] (0, 0) _ HB2.out Tryz.underlying34 rfl De.info34b ?_)
   | (go_at_call 55; refine Calls.mono (by with_reducible exact HCK.out _ (HK0.out.trans HK2.out)) ?_; rintro e W3 ⟨rfl, hb1⟩; have HK3 := Lib.hid (HK2.out.trans (Kp.of_bel hb1)); clear hb1))
  obtain ⟨f1, f2, f3⟩ := HF.out W3 HK3.out
  have t0 := (cell_of_row _ _ 0 _ _ _ f1)
  simp only [List.getElem?_toArray, List.getElem?_cons_zero] at t0
  clear f1 f2 f3
  obtain ⟨⟨xi, xp, xn, xo, xu, xd, xl, xk, xm, xa⟩, xv⟩ := x
  simp only at hch
  have HR6 := Lib.hid (show W3.rangeAt g (o + q * 10) [.int .i64 xi, .int .i64 xp, .string xn, .string xo, .string xu, .string xd, .string xl, .int .i64 xk, .int .i64 xm, xv] from (HRw.out.below Hg.out (HK0.out.trans HK3.out).bel).at_ q _ HX.out)
  have HXo := Lib.hid (show (#[.int .i64 xi, .int .i64 xp, .string xn, .string xo, .string xu, .string xd, .string xl, .int .i64 xk, .int .i64 xm, xv] : Array Value).all (·.oneCell') = true from all_oneCell_toArray (De.dvC_one (a := ⟨xi, xp, xn, xo, xu, xd, xl, xk, xm, xa⟩) (HAt.out _ (List.mem_of_getElem? HX.out)).one))
  have hqc : (q : Int) < (N : Int) := by omega
  go_upto_region 7 with (first
   | (refine wpList_load_mid rfl 34 _ rfl g (o + q * 10) rfl [.int .i64 xi, .int .i64 xp, .string xn, .string xo, .string xu, .string xd, .string xl, .int .i64 xk, .int .i64 xm, xv] _ (by with_reducible exact HR6.out) Tryz.underlying34 rfl De.info34b ?_)
   | (refine De.wpList_store_new W3 34 _ #[.int .i64 xi, .int .i64 xp, .string xn, .string xo, .string xu, .string xd, .string xl, .int .i64 xk, .int .i64 xm, xv] rfl _ _ rfl rfl rfl De.info34b rfl HXo.out ?_))
  clear t0
  obtain ⟨Q, hQ⟩ : ∃ Q, W3.heap.size = Q := ⟨_, rfl⟩
  have hq1 := heap_alloc_last W3 (.cells #[.int .i64 xi, .int .i64 xp, .string xn, .string xo, .string xu, .string xd, .string xl, .int .i64 xk, .int .i64 xm, xv] 34)
  have hka := (Kp.refl [] W3).alloc (.cells #[.int .i64 xi, .int .i64 xp, .string xn, .string xo, .string xu, .string xd, .string xl, .int .i64 xk, .int .i64 xm, xv] 34)
  generalize W3.alloc (.cells #[.int .i64 xi, .int .i64 xp, .string xn, .string xo, .string xu, .string xd, .string xl, .int .i64 xk, .int .i64 xm, xv] 34) = W4 at *
  rw [hQ] at hq1 ⊢
  have HK4 := Lib.hid (HK3.out.trans hka)
  have HQ := Lib.hid (show De.BoxAt W4 Q #[.int .i64 xi, .int .i64 xp, .string xn, .string xo, .string xu, .string xd, .string xl, .int .i64 xk, .int .i64 xm, xv] from hq1)
  have HB4 := Lib.hid (HF.out _ HK4.out).2.1
  have a1 : W4.cell? ⟨Q, 1, none⟩ = some (.int .i64 xp) := HQ.out.cell 1
  have a3 : W4.cell? ⟨Q, 3, none⟩ = some (.string xo) := HQ.out.cell 3
  have a7 : W4.cell? ⟨Q, 7, none⟩ = some (.int .i64 xk) := HQ.out.cell 7
  have b1 : W4.cell? ⟨Bz + 1, 1, none⟩ = some (.int .i64 dp) := HB4.out.cell 1
  have b3 : W4.cell? ⟨Bz + 1, 3, none⟩ = some (.string do_) := HB4.out.cell 3
  have b7 : W4.cell? ⟨Bz + 1, 7, none⟩ = some (.int .i64 dk) := HB4.out.cell 7
  clear hka hq1 hQ
  obtain ⟨bad, hbad⟩ : ∃ b : Bool, b = !((xp == dp) && ((xo.toList == do_.toList) && (xk == dk))) := ⟨_, rfl⟩
  have hbad2 : bad = true ↔ ¬ (xp = dp ∧ xo = do_ ∧ xk = dk) := by
   rw [hbad, De.sp_eq, Bool.not_eq_true', decide_eq_false_iff_not]
  have Hbad := Lib.hid hbad2
  have Hch := Lib.hid hch
  clear hbad2 hch
  dsimp only [Act.put]
  go_cut [45] (fun s45 wx => s45 = .bool bad ∧ wx = W4)
  case first =>
   obtain ⟨p1, hp1⟩ : ∃ r, (xp == dp) = r := ⟨_, rfl⟩
   obtain ⟨p2, hp2⟩ : ∃ r, (xo.toList == do_.toList) = r := ⟨_, rfl⟩
   obtain ⟨p3, hp3⟩ : ∃ r, (xk == dk) = r := ⟨_, rfl⟩
   rw [hp1, hp2, hp3] at hbad
   have hn1 : (xp != dp) = !p1 := by rw [bne, hp1]
   have hn3 : (xk != dk) = !p3 := by rw [bne, hp3]
   have hn2 : (xo.toList != do_.toList) = !p2 := by rw [bne, hp2]
   cases p1 with
   | false =>
    rw [Bool.not_false] at hn1
    go_wp2
    go_meet
    exact ⟨by rw [hbad]; rfl, rfl⟩
   | true =>
    rw [Bool.not_true] at hn1
    cases p2 with
    | false =>
     rw [Bool.not_false] at hn2
     go_wp2
     go_meet
     exact ⟨by rw [hbad]; rfl, rfl⟩
    | true =>
     rw [Bool.not_true] at hn2
     go_wp2
     go_meet
     exact ⟨by rw [hbad]; simp, rfl⟩
  obtain ⟨rfl, hwc⟩ := hcut
  subst hwc
  clear a1 a3 a7 b1 b3 b7 hbad
  cases bad with
  | true =>
   have HT := Lib.hid (show T = 42 from by rw [Hch.out, if_pos (Hbad.out.1 rfl)])
   go_upto_region 8 with fail
   have HR1 := Lib.hid (HF.out _ HK4.out).2.2
   go_wp2_with (refine wpList_store_row rfl 29 _ _ rfl (Bz + 2) #[.slice none 0 0] rfl rfl 29 #[.slice none 0 0] HR1.out info30b rfl one30 ?_)
   exact bodyPost_ret (v := .tuple #[.agg #[.slice none 0 0], .int .i64 42]) (De.results_row_tmp rfl _ _ (Bz + 2) 29 #[.slice none 0 0] _ _ _ rfl rfl (setRow_heap _ _ _ _ _ _ HR1.out) Tryz.underlying29 rfl info30b) rfl (HErr.out _ 42 (by decide) HT.out HK4.out HR1.out)
  | false =>
   have hch2 := Hch.out
   rw [if_neg (fun h => by have := Hbad.out.2 h; cases this)] at hch2
   have Hch2 := Lib.hid hch2
   clear hch2 Hch Hbad
   clear hqc
   go_upto_region 9 with fail
   go_wp2
   have HRc := Lib.hid (show ∀ W, Kp [] wc W → ∀ (i : Nat) (y : De.DV), l[i]? = some y → W.rangeAt g (o + i * 10) (De.dvC y.1 y.2) from fun W hk i y hy => (HRw.out.below Hg.out ((HK0.out.trans HK4.out).trans hk).bel).at_ i y hy)
   clear HI HCK HQ HB2 HR6 HXo
   go_loopw [8] (fun s8 wx => ∃ i : Nat, i ≤ N ∧ s8 = .int .i64 (i : Int) ∧ Hid (∀ (k : Nat) (y : De.DV), k < i → l[k]? = some y → k ≠ q → clashD (De.devOf y.1 y.2) ⟨di, dp, dn, do_, du, dd, dl, dk, dm, dv⟩ = false) ∧ Hid (Kp [] wc wx)) (fun s8 _ => N - (intOf s8).toNat)
   case atStart => exact ⟨0, by omega, rfl, Lib.hid fun k y hk => absurd hk (Nat.not_lt_zero _), Lib.hid (Kp.refl _ _)⟩
   case round =>
    obtain ⟨i, hi, rfl, HInv, HKr⟩ := hrel
    obtain ⟨f1, f2, f3⟩ := HF.out wr (HK4.out.trans HKr.out)
    have t0 := (cell_of_row _ _ 0 _ _ _ f1)
    simp only [List.getElem?_toArray, List.getElem?_cons_zero] at t0
    have HB5 := Lib.hid f2
    have HR5 := Lib.hid f3
    have HT5 := Lib.hid f1
    clear f1 f2 f3
    by_cases hlt : i < N
    ·have hiz : (i : Int) < (N : Int) := by omega
     have hwr : IntKind.i64.wrap ((i : Int) + 1) = ((i + 1 : Nat) : Int) := by rw [IntKind.wrap_i64]; omega
     by_cases hiq : i = q
     ·subst hiq
      have hne : ((i : Int) != (i : Int)) = false := by simp
      go_upto_region 12 with fail
      refine wp_region_held_drew (S := fun W => Kp [] wr W) (by kernel_rfl) ((Kp.refl [] wr).drew 1) (fun hHeld => ?_)
      generalize hwd : wr.drew = wd at *
      clear hwd
      refine wpAnyH_take (i := 0) (oi := { dst := some 54, op := Op.move (Operand.tmp 8), type := 3, pos := "ref.go:241", after := #[], guard := none }) (v := .int .i64 (i : Int)) rfl (by kernel_rfl) (by kernel_rfl) (by kernel_rfl) (fun _ _ _ h => h) (Or.inl ⟨by rfl, fun w hSw => by (try dsimp only at hSw); go_simp⟩) hHeld ?_
      try simp only [Act.put, List.setIfInBounds_toArray, List.set_cons_zero, List.set_cons_succ]
      refine wpAnyH_take (i := 1) (oi := { dst := some 55, op := Op.move (Operand.tmp 6), type := 3, pos := "ref.go:241", after := #[], guard := none }) (v := .int .i64 (i : Int)) rfl (by kernel_rfl) (by kernel_rfl) (by kernel_rfl) (fun _ _ _ h => h) (Or.inl ⟨by rfl, fun w hSw => by (try dsimp only at hSw); go_simp⟩) hHeld ?_
      try simp only [Act.put, List.setIfInBounds_toArray, List.set_cons_zero, List.set_cons_succ]
      refine wpAnyH_take (i := 2) (oi := { dst := some 56, op := Op.binOp BinOp.neq 3 (Operand.tmp 54) (Operand.tmp 55) 3, type := 4, pos := "ref.go:241", after := #[{ on := 0, ground := Ground.data }, { on := 1, ground := Ground.data }], guard := none }) (v := .bool false) rfl (by kernel_rfl) (by kernel_rfl) (by kernel_rfl) (fun _ _ _ h => h) (Or.inl ⟨by rfl, fun w hSw => by (try dsimp only at hSw); go_simp⟩) hHeld ?_
      try simp only [Act.put, List.setIfInBounds_toArray, List.set_cons_zero, List.set_cons_succ]
      refine wpAnyH_take (i := 3) (oi := { dst := some 57, op := Op.move (Operand.tmp 56), type := 4, pos := "ref.go:241", after := #[{ on := 2, ground := Ground.data }], guard := none }) (v := .bool false) rfl (by kernel_rfl) (by kernel_rfl) (by kernel_rfl) (fun _ _ _ h => h) (Or.inl ⟨by rfl, fun w hSw => by (try dsimp only at hSw); go_simp⟩) hHeld ?_
      try simp only [Act.put, List.setIfInBounds_toArray, List.set_cons_zero, List.set_cons_succ]
      refine wpAnyH_take (i := 4) (oi := { dst := some 58, op := Op.fieldAddr 29 (Operand.tmp 2) 0, type := 0, pos := "ref.go:241", after := #[{ on := 3, ground := Ground.guard }], guard := some (3, true) }) (v := undef) rfl (by kernel_rfl) (by kernel_rfl) (by kernel_rfl) (fun _ _ _ h => h) (Or.inr ⟨by rfl, rfl⟩) hHeld ?_
      try simp only [Act.put, List.setIfInBounds_toArray, List.set_cons_zero, List.set_cons_succ]
      refine wpAnyH_take (i := 5) (oi := { dst := some 59, op := Op.load 22 (Operand.tmp 58), type := 22, pos := "ref.go:241", after := #[{ on := 4, ground := Ground.data }, { on := 3, ground := Ground.guard }], guard := some (3, true) }) (v := undef) rfl (by kernel_rfl) (by kernel_rfl) (by kernel_rfl) (fun _ _ _ h => h) (Or.inr ⟨by rfl, rfl⟩) hHeld ?_
      try simp only [Act.put, List.setIfInBounds_toArray, List.set_cons_zero, List.set_cons_succ]
      refine wpAnyH_take (i := 6) (oi := { dst := some 60, op := Op.move (Operand.tmp 8), type := 3, pos := "ref.go:241", after := #[{ on := 3, ground := Ground.guard }], guard := some (3, true) }) (v := undef) rfl (by kernel_rfl) (by kernel_rfl) (by kernel_rfl) (fun _ _ _ h => h) (Or.inr ⟨by rfl, rfl⟩) hHeld ?_
      try simp only [Act.put, List.setIfInBounds_toArray, List.set_cons_zero, List.set_cons_succ]
      refine wpAnyH_take (i := 7) (oi := { dst := some 61, op := Op.indexAddr 22 (Operand.tmp 59) (Operand.tmp 60), type := 0, pos := "ref.go:241", after := #[{ on := 5, ground := Ground.data }, { on := 6, ground := Ground.data }, { on := 3, ground := Ground.guard }], guard := some (3, true) }) (v := undef) rfl (by kernel_rfl) (by kernel_rfl) (by kernel_rfl) (fun _ _ _ h => h) (Or.inr ⟨by rfl, rfl⟩) hHeld ?_
      try simp only [Act.put, List.setIfInBounds_toArray, List.set_cons_zero, List.set_cons_succ]
      refine wpAnyH_take (i := 8) (oi := { dst := some 62, op := Op.load 34 (Operand.tmp 61), type := 34, pos := "ref.go:241", after := #[{ on := 7, ground := Ground.data }, { on := 3, ground := Ground.guard }], guard := some (3, true) }) (v := undef) rfl (by kernel_rfl) (by kernel_rfl) (by kernel_rfl) (fun _ _ _ h => h) (Or.inr ⟨by rfl, rfl⟩) hHeld ?_
      try simp only [Act.put, List.setIfInBounds_toArray, List.set_cons_zero, List.set_cons_succ]
      refine wpAnyH_take (i := 9) (oi := { dst := some 63, op := Op.load 34 (Operand.tmp 3), type := 34, pos := "ref.go:241", after := #[{ on := 3, ground := Ground.guard }], guard := some (3, true) }) (v := undef) rfl (by kernel_rfl) (by kernel_rfl) (by kernel_rfl) (fun _ _ _ h => h) (Or.inr ⟨by rfl, rfl⟩) hHeld ?_
      try simp only [Act.put, List.setIfInBounds_toArray, List.set_cons_zero, List.set_cons_succ]
      refine wpAnyH_take (i := 10) (oi := { dst := some 64, op := Op.call { callee := Callee.value (Operand.func 59), args := #[Operand.tmp 62, Operand.tmp 63], argTypes := #[34, 34] }, type := 4, pos := "ref.go:241", after := #[{ on := 8, ground := Ground.data }, { on := 9, ground := Ground.data }, { on := 3, ground := Ground.chain }, { on := 3, ground := Ground.guard }], guard := some (3, true) }) (v := undef) rfl (by kernel_rfl) (by kernel_rfl) (by kernel_rfl) (fun _ _ _ h => h) (Or.inr ⟨by rfl, rfl⟩) hHeld ?_
      try simp only [Act.put, List.setIfInBounds_toArray, List.set_cons_zero, List.set_cons_succ]
      refine wpAnyH_take (i := 11) (oi := { dst := some 65, op := Op.pick (Operand.tmp 57) (Operand.tmp 64) (Operand.const (Value.bool false)), type := 4, pos := "ref.go:241", after := #[{ on := 3, ground := Ground.data }, { on := 10, ground := Ground.data }], guard := none }) (v := .bool false) rfl (by kernel_rfl) (by kernel_rfl) (by kernel_rfl) (fun _ _ _ h => h) (Or.inl ⟨by rfl, fun w hSw => by (try dsimp only at hSw); go_simp⟩) hHeld ?_
      try simp only [Act.put, List.setIfInBounds_toArray, List.set_cons_zero, List.set_cons_succ]
      have HSe := Lib.hid hHeld
      refine wpAnyH_done (by kernel_rfl) ?_ _
      clear hHeld
      go_wp2
      exact ⟨⟨i + 1, by omega, rfl, Lib.hid fun k y hk hy hne => HInv.out k y (by omega) hy hne, Lib.hid (HKr.out.trans HSe.out)⟩, by simp [intOf]; omega⟩
     ·have hne : ((i : Int) != (q : Int)) = true := by rw [bne_iff_ne]; omega
      obtain ⟨⟨⟨yi, yp, yn, yo, yu, yd, yl, yk, ym, ya⟩, yv⟩, hy⟩ : ∃ y, l[i]? = some y := ⟨l[i]'(by rw [HN.out]; exact hlt), List.getElem?_eq_getElem _⟩
      have HY := Lib.hid hy
      have HRy := Lib.hid (fun W (hk : Kp [] wr W) => (show W.rangeAt g (o + i * 10) [.int .i64 yi, .int .i64 yp, .string yn, .string yo, .string yu, .string yd, .string yl, .int .i64 yk, .int .i64 ym, yv] from HRc.out W (HKr.out.trans hk) i _ HY.out))
      have HCy := Lib.hid (fun W (hk : Kp [] wr W) => HCL.out (by first | rfl | trivial) _ (List.mem_of_getElem? HY.out) W ((HK0.out.trans HK4.out).trans (HKr.out.trans hk)))
      obtain ⟨cb, hcb⟩ : ∃ b, clashD (De.devOf (⟨yi, yp, yn, yo, yu, yd, yl, yk, ym, ya⟩ : De.ADev) yv) ⟨di, dp, dn, do_, du, dd, dl, dk, dm, dv⟩ = b := ⟨_, rfl⟩
      have HCb := Lib.hid hcb
      unfold De.devOf at hcb
      simp only at HCy
      simp only [hcb] at HCy
      clear hy hcb
      go_upto_region 12 with fail
      refine wp_region_held_drew (S := fun W => Kp [] wr W) (by kernel_rfl) ((Kp.refl [] wr).drew 1) (fun hHeld => ?_)
      generalize hwd : wr.drew = wd at *
      clear hwd
      refine wpAnyH_take (i := 0) (oi := { dst := some 54, op := Op.move (Operand.tmp 8), type := 3, pos := "ref.go:241", after := #[], guard := none }) (v := .int .i64 (i : Int)) rfl (by kernel_rfl) (by kernel_rfl) (by kernel_rfl) (fun _ _ _ h => h) (Or.inl ⟨by rfl, fun w hSw => by (try dsimp only at hSw); go_simp⟩) hHeld ?_
      try simp only [Act.put, List.setIfInBounds_toArray, List.set_cons_zero, List.set_cons_succ]
      refine wpAnyH_take (i := 1) (oi := { dst := some 55, op := Op.move (Operand.tmp 6), type := 3, pos := "ref.go:241", after := #[], guard := none }) (v := .int .i64 (q : Int)) rfl (by kernel_rfl) (by kernel_rfl) (by kernel_rfl) (fun _ _ _ h => h) (Or.inl ⟨by rfl, fun w hSw => by (try dsimp only at hSw); go_simp⟩) hHeld ?_
      try simp only [Act.put, List.setIfInBounds_toArray, List.set_cons_zero, List.set_cons_succ]
      refine wpAnyH_take (i := 2) (oi := { dst := some 56, op := Op.binOp BinOp.neq 3 (Operand.tmp 54) (Operand.tmp 55) 3, type := 4, pos := "ref.go:241", after := #[{ on := 0, ground := Ground.data }, { on := 1, ground := Ground.data }], guard := none }) (v := .bool true) rfl (by kernel_rfl) (by kernel_rfl) (by kernel_rfl) (fun _ _ _ h => h) (Or.inl ⟨by rfl, fun w hSw => by (try dsimp only at hSw); go_simp⟩) hHeld ?_
      try simp only [Act.put, List.setIfInBounds_toArray, List.set_cons_zero, List.set_cons_succ]
      refine wpAnyH_take (i := 3) (oi := { dst := some 57, op := Op.move (Operand.tmp 56), type := 4, pos := "ref.go:241", after := #[{ on := 2, ground := Ground.data }], guard := none }) (v := .bool true) rfl (by kernel_rfl) (by kernel_rfl) (by kernel_rfl) (fun _ _ _ h => h) (Or.inl ⟨by rfl, fun w hSw => by (try dsimp only at hSw); go_simp⟩) hHeld ?_
      try simp only [Act.put, List.setIfInBounds_toArray, List.set_cons_zero, List.set_cons_succ]
      refine wpAnyH_take (i := 4) (oi := { dst := some 58, op := Op.fieldAddr 29 (Operand.tmp 2) 0, type := 0, pos := "ref.go:241", after := #[{ on := 3, ground := Ground.guard }], guard := some (3, true) }) (v := .pointer (some ⟨Bz, 0, none⟩)) rfl (by kernel_rfl) (by kernel_rfl) (by kernel_rfl) (fun _ _ _ h => h) (Or.inl ⟨by rfl, fun w hSw => by (try dsimp only at hSw); go_simp⟩) hHeld ?_
      try simp only [Act.put, List.setIfInBounds_toArray, List.set_cons_zero, List.set_cons_succ]
      refine wpAnyH_take (i := 5) (oi := { dst := some 59, op := Op.load 22 (Operand.tmp 58), type := 22, pos := "ref.go:241", after := #[{ on := 4, ground := Ground.data }, { on := 3, ground := Ground.guard }], guard := some (3, true) }) (v := .slice (some ⟨g, o, none⟩) N c) rfl (by kernel_rfl) (by kernel_rfl) (by kernel_rfl) (fun _ _ _ h => h) (Or.inl ⟨by rfl, fun w hSw => by (try dsimp only at hSw); have t0 := cell_one ((hSw.block Bz (block_lt HT5.out) (by simp)).trans HT5.out); go_simp⟩) hHeld ?_
      try simp only [Act.put, List.setIfInBounds_toArray, List.set_cons_zero, List.set_cons_succ]
      refine wpAnyH_take (i := 6) (oi := { dst := some 60, op := Op.move (Operand.tmp 8), type := 3, pos := "ref.go:241", after := #[{ on := 3, ground := Ground.guard }], guard := some (3, true) }) (v := .int .i64 (i : Int)) rfl (by kernel_rfl) (by kernel_rfl) (by kernel_rfl) (fun _ _ _ h => h) (Or.inl ⟨by rfl, fun w hSw => by (try dsimp only at hSw); go_simp⟩) hHeld ?_
      try simp only [Act.put, List.setIfInBounds_toArray, List.set_cons_zero, List.set_cons_succ]
      refine wpAnyH_take (i := 7) (oi := { dst := some 61, op := Op.indexAddr 22 (Operand.tmp 59) (Operand.tmp 60), type := 0, pos := "ref.go:241", after := #[{ on := 5, ground := Ground.data }, { on := 6, ground := Ground.data }, { on := 3, ground := Ground.guard }], guard := some (3, true) }) (v := .pointer (some ⟨g, o + i * 10, none⟩)) rfl (by kernel_rfl) (by kernel_rfl) (by kernel_rfl) (fun _ _ _ h => h) (Or.inl ⟨by rfl, fun w hSw => by (try dsimp only at hSw); go_simp⟩) hHeld ?_
      try simp only [Act.put, List.setIfInBounds_toArray, List.set_cons_zero, List.set_cons_succ]
      refine wpAnyH_take (i := 8) (oi := { dst := some 62, op := Op.load 34 (Operand.tmp 61), type := 34, pos := "ref.go:241", after := #[{ on := 7, ground := Ground.data }, { on := 3, ground := Ground.guard }], guard := some (3, true) }) (v := .agg #[.int .i64 yi, .int .i64 yp, .string yn, .string yo, .string yu, .string yd, .string yl, .int .i64 yk, .int .i64 ym, yv]) rfl (by kernel_rfl) (by kernel_rfl) (by kernel_rfl) (fun _ _ _ h => h) (yieldsIf_load_mid (by rfl) 34 _ rfl g (o + i * 10) rfl [.int .i64 yi, .int .i64 yp, .string yn, .string yo, .string yu, .string yd, .string yl, .int .i64 yk, .int .i64 ym, yv] _ (fun w hSw => HRy.out _ hSw) Tryz.underlying34 rfl De.info34b) hHeld ?_
      try simp only [Act.put, List.setIfInBounds_toArray, List.set_cons_zero, List.set_cons_succ]
      refine wpAnyH_take (i := 9) (oi := { dst := some 63, op := Op.load 34 (Operand.tmp 3), type := 34, pos := "ref.go:241", after := #[{ on := 3, ground := Ground.guard }], guard := some (3, true) }) (v := .agg #[.int .i64 di, .int .i64 dp, .string dn, .string do_, .string du, .string dd, .string dl, .int .i64 dk, .int .i64 dm, dv]) rfl (by kernel_rfl) (by kernel_rfl) (by kernel_rfl) (fun _ _ _ h => h) (Or.inl ⟨by rfl, fun w hSw => by (try dsimp only at hSw); have dz := (show De.BoxAt w (Bz + 1) #[.int .i64 di, .int .i64 dp, .string dn, .string do_, .string du, .string dd, .string dl, .int .i64 dk, .int .i64 dm, dv] from (hSw.block (Bz + 1) (block_lt HB5.out) (by simp)).trans HB5.out).cell; go_simp⟩) hHeld ?_
      try simp only [Act.put, List.setIfInBounds_toArray, List.set_cons_zero, List.set_cons_succ]
      refine wpAnyH_ready (rs := [10]) (by kernel_rfl) (by simp) ?_
      refine AllReadyH.cons (o := { dst := some 64, op := Op.call { callee := Callee.value (Operand.func 59), args := #[Operand.tmp 62, Operand.tmp 63], argTypes := #[34, 34] }, type := 4, pos := "ref.go:241", after := #[{ on := 8, ground := Ground.data }, { on := 9, ground := Ground.data }, { on := 3, ground := Ground.chain }, { on := 3, ground := Ground.guard }], guard := some (3, true) }) rfl (fun K hK => ?_) AllReadyH.nil
      go_simp
      go_at_call 59
      refine Calls.mono (by with_reducible exact HCy.out _ hHeld) ?_
      rintro e V ⟨rfl, hbv⟩
      dsimp only
      have hS := hHeld.trans (Kp.of_bel hbv)
      clear hbv
      clear hHeld
      refine hK.out _ _ hS (fun hHeld => ?_)
      try simp only [Act.put, List.setIfInBounds_toArray, List.set_cons_zero, List.set_cons_succ]
      clear hK
      clear hS
      refine wpAnyH_take (i := 11) (oi := { dst := some 65, op := Op.pick (Operand.tmp 57) (Operand.tmp 64) (Operand.const (Value.bool false)), type := 4, pos := "ref.go:241", after := #[{ on := 3, ground := Ground.data }, { on := 10, ground := Ground.data }], guard := none }) (v := .bool cb) rfl (by kernel_rfl) (by kernel_rfl) (by kernel_rfl) (fun _ _ _ h => h) (Or.inl ⟨by rfl, fun w hSw => by (try dsimp only at hSw); go_simp⟩) hHeld ?_
      try simp only [Act.put, List.setIfInBounds_toArray, List.set_cons_zero, List.set_cons_succ]
      have HSe := Lib.hid hHeld
      refine wpAnyH_done (by kernel_rfl) ?_ _
      clear hHeld
      obtain ⟨we, hwe⟩ : ∃ W, W = V := ⟨_, rfl⟩
      subst hwe
      cases cb with
      | false =>
       go_wp2
       exact ⟨⟨i + 1, by omega, rfl, Lib.hid fun k y hk hy hne => by
        by_cases e : k = i
        ·subst e
         rw [HY.out] at hy
         injection hy with hy
         subst hy
         exact HCb.out
        ·exact HInv.out k y (by omega) hy hne, Lib.hid (HKr.out.trans HSe.out)⟩, by simp [intOf]; omega⟩
      | true =>
       have HT := Lib.hid (show T = 44 from by rw [Hch2.out, if_pos (HAn.out.1 ⟨i, _, HY.out, hiq, HCb.out⟩)])
       have HKe := Lib.hid (HK4.out.trans (HKr.out.trans HSe.out))
       go_upto_region 13 with fail
       have HR1 := Lib.hid (HF.out _ HKe.out).2.2
       go_wp2_with (refine wpList_store_row rfl 29 _ _ rfl (Bz + 2) #[.slice none 0 0] rfl rfl 29 #[.slice none 0 0] HR1.out info30b rfl one30 ?_)
       exact bodyPost_ret (v := .tuple #[.agg #[.slice none 0 0], .int .i64 44]) (De.results_row_tmp rfl _ _ (Bz + 2) 29 #[.slice none 0 0] _ _ _ rfl rfl (setRow_heap _ _ _ _ _ _ HR1.out) Tryz.underlying29 rfl info30b) rfl (HErr.out _ 44 (by decide) HT.out HKe.out HR1.out)
    ·obtain rfl : i = N := by omega
     have hiz : ¬ (i : Int) < (i : Int) := by omega
     have HT0 := Lib.hid (show T = 0 from by
      rw [Hch2.out, if_neg (by
       rw [HAn.out.2 fun k y hy hne => HInv.out k y (by rw [← HN.out]; exact (List.getElem?_eq_some_iff.1 hy).1) hy hne]
       simp)])
     have HKc := Lib.hid (HK0.out.trans (HK4.out.trans HKr.out))
     have HSr := Lib.hid (HSV.out.below HKc.out.bel)
     have HLn := Lib.hid (show ([] : List De.DV).length + l.length ≤ 100000 from by rw [HN.out]; simp; omega)
     go_upto_region 15 with (first
      | (refine wpList_append_dvs rfl _ _ rfl wr.heap.size (.slice none 0 0) (.slice (some ⟨g, o, none⟩) i c) [] l rfl (World.ownsRow_nil _ _ _ _) rfl HSr.out HLn.out (Nat.le_refl _) ?_; intro v5 w3 hown hgr; obtain ⟨la0, lc0, hv5⟩ := own_form hown; simp only [List.nil_append, HN.out] at hv5; subst hv5; have HOw := Lib.hid hown; have HK3' := Lib.hid (show Kp [] wr w3 from kp_grownS (Kp.refl [] wr) hgr (fun b hb => by cases hb)); clear hown hgr)
      | (refine De.wpList_store_new w3 29 _ #[.slice la0 i lc0] rfl _ _ rfl rfl rfl info30b rfl (sl_one _ _ _) ?_))
     obtain ⟨Y9, hY9⟩ : ∃ B, w3.heap.size = B := ⟨_, rfl⟩
     have hq9 := heap_alloc_last w3 (.cells #[.slice la0 i lc0] 29)
     have hka := (Kp.refl [] w3).alloc (.cells #[.slice la0 i lc0] 29)
     obtain ⟨w4, hw4⟩ : ∃ W, w3.alloc (.cells #[.slice la0 i lc0] 29) = W := ⟨_, rfl⟩
     rw [hw4] at hq9 hka ⊢
     rw [hY9] at hq9 ⊢
     have hne : l ≠ [] := fun e => by have h := HX.out; rw [e] at h; simp at h
     have hb13 := HK3'.out.bel
     obtain ⟨g5, c5, hv5, hg5, hc5, hcl⟩ := De.Cl.start (w := wr) (W := w3) (u := .slice la0 i lc0) (l := l) ⟨HOw.out, fun y hy => (HAt.out y hy).below (HKc.out.trans HK3'.out).bel⟩ hne hb13 (fun y hy => (HAt.out y hy).below HKc.out.bel)
     rw [HN.out] at hv5 hc5
     injection hv5 with e1 e2 e3
     subst e1
     subst e3
     have HC4 := Lib.hid (hcl.below hka.bel)
     have HY9 := Lib.hid hq9
     have Hg5 := Lib.hid hg5
     have hgY : g5 < Y9 := by rw [← hY9]; exact hcl.lt
     have HK34 := Lib.hid (HK3'.out.trans hka)
     have HK0r := Lib.hid (HK4.out.trans HKr.out)
     have HB6 := Lib.hid (HF.out _ (HK0r.out.trans HK34.out)).2.1
     have HR6 := Lib.hid (HF.out _ (HK0r.out.trans HK34.out)).2.2
     have HRlt := Lib.hid (block_lt (HF.out _ HK0r.out).2.2)
     have HDL := Lib.hid (show (#[.int .i64 di, .int .i64 dp, .string dn, .string do_, .string du, .string dd, .string dl, .int .i64 dk, .int .i64 dm, dv] : Array Value).toList = De.dvC A dv from by rw [← HAo.out])
     have HD1a := Lib.hid (show (#[.int .i64 di, .int .i64 dp, .string dn, .string do_, .string du, .string dd, .string dl, .int .i64 dk, .int .i64 dm, dv] : Array Value).all (·.oneCell') = true from by rw [← HAo.out]; exact all_oneCell_toArray (De.dvC_one (a := A) HD1.out))
     have HPut := Lib.hid (De.Cl.put (y := (A, dv)) HC4.out hg5 HX.out (show De.Has w4 dv A.ats from by rw [HAa.out]; exact HD.out.below (HKc.out.trans HK34.out).bel) (fun hn e => by
      have h1 := HDlt.out (by rw [← HAa.out]; exact hn) g5 e
      have h2 := HKc.out.size
      have := Hg5.out
      omega))
     have t9 := cell_one hq9
     clear hq9 hka hw4 hcl hb13 hne t0 HOw
     have hqi : (q : Int) < (i : Int) := by omega
     go_upto_region 16 with (first
      | (refine wpList_load_row rfl 34 _ rfl (Bz + 1) rfl 34 #[.int .i64 di, .int .i64 dp, .string dn, .string do_, .string du, .string dd, .string dl, .int .i64 dk, .int .i64 dm, dv] (0, 0) _ HB6.out Tryz.underlying34 rfl De.info34b ?_)
      | (refine wpList_store_mid rfl 34 _ _ rfl g5 (q * 10) #[.int .i64 di, .int .i64 dp, .string dn, .string do_, .string du, .string dd, .string dl, .int .i64 dk, .int .i64 dm, dv] rfl rfl (fun j hj => ⟨(HC4.out.row q _ HX.out).isSome j (by rw [De.dvC_len]; exact hj), HC4.out.fr _⟩) De.info34b HD1a.out ?_))
     have hp := HPut.out
     rw [← HDL.out] at hp
     have hoth : ∀ b, b < w4.heap.size → b ≠ g5 → (w4.setCells g5 (q * 10) (#[.int .i64 di, .int .i64 dp, .string dn, .string do_, .string du, .string dd, .string dl, .int .i64 dk, .int .i64 dm, dv] : Array Value).toList).heap[b]? = w4.heap[b]? := fun b hb hne => World.heap_setCells_other w4 g5 _ _ hb hne
     obtain ⟨w5, hw5⟩ : ∃ W, w4.setCells g5 (q * 10) (#[.int .i64 di, .int .i64 dp, .string dn, .string do_, .string du, .string dd, .string dl, .int .i64 dk, .int .i64 dm, dv] : Array Value).toList = W := ⟨_, rfl⟩
     rw [hw5] at hp hoth ⊢
     clear hw5 t9
     have HP := Lib.hid hp
     have HY5 := Lib.hid ((hoth Y9 (block_lt HY9.out) (by omega)).trans HY9.out)
     have HR5' := Lib.hid ((hoth (Bz + 2) (block_lt HR6.out) (by have := HRlt.out; have := Hg5.out; omega)).trans HR6.out)
     have t9 := cell_one HY5.out
     clear hp hoth
     go_wp2_with (refine wpList_store_row rfl 29 _ _ rfl (Bz + 2) #[.slice (some ⟨g5, 0, none⟩) i lc0] rfl rfl 29 #[.slice none 0 0] HR5'.out info30b rfl (sl_one _ _ _) ?_)
     have HRe := Lib.hid (setRow_heap _ _ _ #[.slice (some ⟨g5, 0, none⟩) i lc0] _ _ HR5'.out)
     have hkR : Kp [Bz + 2] w5 (w5.setRow (Bz + 2) #[.slice (some ⟨g5, 0, none⟩) i lc0]) := (Kp.refl _ _).setRow (.inl (by simp)) _
     have hD : De.DHas w5 (.slice (some ⟨g5, 0, none⟩) i lc0) (l.set q (A, dv)) := by
      have h := HP.out.has (c := lc0) (by rw [List.length_set, HN.out]; exact hc5)
      rw [List.length_set, HN.out] at h
      exact h
     exact bodyPost_ret (v := .tuple #[.agg #[.slice (some ⟨g5, 0, none⟩) i lc0], .int .i64 0]) (De.results_row_tmp rfl _ _ (Bz + 2) 29 #[.slice (some ⟨g5, 0, none⟩) i lc0] _ _ _ rfl rfl HRe.out Tryz.underlying29 rfl info30b) rfl ⟨_, _, _, l.set q (A, dv), by rw [HT0.out], Lib.hid (by rw [HOkk.out HT0.out, HSt.out, List.map_set]), Lib.hid (dhasR hD hkR HR5'.out), Lib.hid ((HKc.out.trans (Kp.of_bel HP.out.bl)).setRow (.inr Hwz.out) _)⟩
end Go.Proofs.YtldcediiobfhiaaGreatDoor
