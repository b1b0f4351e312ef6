/- lookup by Index; Find. -/
import Derived.Test.YtldcediiobfhiaaGreatDoorKD2
import Derived.Maps.OwnSet
import Derived.Laws.ResultCell
namespace Go.Proofs.YtldcediiobfhiaaGreatDoor.De
open Go.RowKit Go.Maps
theorem results_row_tmp {P : Program} {fn : Func} {p u : Tmp} {ty : TypeId} (h : fn.results = #[.cell p ty, .tmp u]) (tmps : Array Value) (w : World) (g : Nat) (t : TypeId) (cs : Array Value) (fr : Nat × Nat) (d : TypeDesc) (v : Value)
  (hp : tmps.getD p undef = .pointer (some ⟨g, 0, none⟩)) (hv : tmps.getD u undef = v) (hg : w.heap[g]? = some (.cells cs t fr))
  (hu : P.underlying ty = some d) (hd : (match d with | .struct _ | .array _ _ => true | _ => false) = true) (hi : (P.info? ty).map (·.size) = some cs.size) :
  (results fn tmps).run P w = .ok (.tuple #[.agg cs, v]) w := by
 rw [results_cell_tmp h, hp, hv]
 simp [asAddr, run_loadVar_row w g t ty cs fr d hg hu hd hi, Result.andThen]
theorem zeroC_one : zeroC.all (·.oneCell') = true := by simp [zeroC, Value.oneCell']
/-- What a finder answers: a copy of the device, or the zero device. -/
def FoundPost (o : Option DV) (w : World) (e : Ending) (w' : World) : Prop := Below w.heap.size w w' ∧ match o with
 | none => e = .returned (.tuple #[.agg zeroC, .bool false])
 | some x => ∃ u, e = .returned (.tuple #[devV (devOf x.1 u), .bool true]) ∧ Owns w' w.heap.size u x.1.ats
set_option maxHeartbeats 1000000 in
set_option maxRecDepth 100000 in
theorem lookupI_any (sv : Value) (l : List DV) (n : Int) (w : World) (hl : l.length ≤ 1000000) (hal : ∀ x ∈ l, x.1.ats.length ≤ 1000000) (h : DHas w sv l) (hwf : ∀ x ∈ l, (Lit.int .i64 x.1.idx).wf = true) (hn : (Lit.int .i64 n).wf = true) :
  Calls Tryz.prog 61 #[.agg #[sv], .int .i64 n, .func (.func 62) #[] #[]] w (FoundPost ((lastI (l.map (·.1)) n).bind fun p => l[p]?) w) := by
 obtain ⟨a, c, rfl, hrow⟩ := h.form
 have HD := Lib.hid h
 have HRow := Lib.hid hrow
 have HAl := Lib.hid hal
 have Hn := Lib.hid hn
 have HP := Lib.hid (fun W (hW : Below w.heap.size w W) => placesI_any (.slice a l.length c) l W hl (h.below hW) hwf)
 obtain ⟨R, hR⟩ : ∃ R, ((lastI (l.map (·.1)) n).bind fun p => l[p]?) = R := ⟨_, rfl⟩
 rw [hR]
 have HRes := Lib.hid hR
 clear hR
 obtain ⟨N, hN⟩ : ∃ N, l.length = N := ⟨_, rfl⟩
 rw [hN] at HP hl ⊢
 have HN := Lib.hid hN
 obtain ⟨Bz, hBz⟩ : ∃ Bz, w.heap.size = Bz := ⟨_, rfl⟩
 have hs1 : (w.alloc (.cells #[.slice a N c] 29)).heap.size = Bz + 1 := by rw [World.size_alloc, hBz]
 have h0 := heap_alloc2_old w (.cells #[.slice a N c] 29) (.cells zeroC 34)
 have h1 := heap_alloc2_new w (.cells #[.slice a N c] 29) (.cells zeroC 34)
 rw [hBz] at h0
 rw [hBz] at h1
 have c0 := cell_of_row _ Bz 0 _ _ _ h0
 simp only [List.getElem?_toArray, List.getElem?_cons_zero] at c0
 have Hb0 := Lib.hid (show Below w.heap.size w ((w.alloc (.cells #[.slice a N c] 29)).alloc (.cells zeroC 34)) from ((Below.refl _ w).alloc (Nat.le_refl _) _).alloc (by rw [World.size_alloc]; omega) _)
 have H0 := Lib.hid h0
 have H1 := Lib.hid h1
 have Hsz := Lib.hid (show ((w.alloc (.cells #[.slice a N c] 29)).alloc (.cells zeroC 34)).heap.size = Bz + 2 by rw [World.size_alloc, hs1])
 clear h0 h1 h hal hrow hwf hn hs1
 go_enter Tryz.func61, Tryz.ntmps61
 go_wp2_with fail
 refine (HP.out _ Hb0.out).mono ?_
 rintro e W1 ⟨M, D, rfl, hM, him, hb1⟩
 rw [Hsz.out] at hb1
 have HI := Lib.hid him
 have HB1 := Lib.hid ((hb1.block Bz (by omega)).trans H0.out)
 have HR1 := Lib.hid ((hb1.block (Bz + 1) (by omega)).trans H1.out)
 have Hbw := Lib.hid (Hb0.out.trans (hb1.mono (by omega)))
 have c01 := cell_of_row _ Bz 0 _ _ _ HB1.out
 simp only [List.getElem?_toArray, List.getElem?_cons_zero] at c01
 clear him hb1 hM c0
 cases hp : lastI (l.map (·.1)) n with
 | none =>
  have hh := HI.out.has n Hn.out
  rw [hp] at hh
  have Hh := Lib.hid hh
  have Hr := Lib.hid (show R = none from by rw [← HRes.out, hp]; rfl)
  clear hh hp
  go_wp2_with (first
   | (at_lookup; refine wpList_lookup_own_ok_int _ rfl _ _ 82 rfl 3 3 .i64 lawI Tryz.underlying82 Tryz.underlying3 (Tryz.zeroValue3 _) M N D rfl HI.out.own _ _ rfl (keyI Hn.out) ?_; intro c hat hwc; rw [Hh.out]; clear hat hwc)
   | (refine wpList_store_row rfl 34 _ _ rfl (Bz + 1) zeroC rfl rfl 34 zeroC HR1.out info34b rfl zeroC_one ?_))
  exact bodyPost_ret (v := .tuple #[.agg zeroC, .bool false]) (results_row_tmp rfl _ _ (Bz + 1) 34 zeroC _ _ _ rfl rfl (setRow_heap _ _ _ _ _ _ HR1.out) Tryz.underlying34 rfl info34b) rfl ⟨below_setRow Hbw.out (by omega) _, by rw [Hr.out]⟩
 | some p =>
  obtain ⟨y, hy, -⟩ := lastI_some hp
  rw [List.getElem?_map, Option.map_eq_some_iff] at hy
  obtain ⟨x, hx, -⟩ := hy
  have hpN : p < N := by
   rw [← HN.out]
   exact (List.getElem?_eq_some_iff.1 hx).1
  have hpz : (p : Int) < (N : Int) := by omega
  have Hr := Lib.hid (show R = some x from by rw [← HRes.out, hp]; exact hx)
  obtain ⟨g, o, rfl, hcap, hg, hr⟩ := HRow.out (fun e => by rw [e] at hx; simp at hx)
  have Hran := Lib.hid ((hr.below hg Hbw.out).at_ p x hx)
  have hxm := List.mem_of_getElem? hx
  have HC := Lib.hid (fun W (hW : Below w.heap.size w W) => cloneDev_any x.1 x.2 W (HAl.out x hxm) ((hr.ats x hxm).below hW))
  have hh := HI.out.has n Hn.out
  have hat' := HI.out.val n p Hn.out hp
  rw [hp] at hh
  have Hh := Lib.hid hh
  have Hat := Lib.hid hat'
  clear hh hp hat' hr hg hx hxm
  go_wp2_with (first
   | (at_lookup; refine wpList_lookup_own_ok_int _ rfl _ _ 82 rfl 3 3 .i64 lawI Tryz.underlying82 Tryz.underlying3 (Tryz.zeroValue3 _) M N D rfl HI.out.own _ _ rfl (keyI Hn.out) ?_; intro c hat hwc; rw [Hh.out]; rw [Hat.out] at hat; obtain rfl : (p : Int) = c := (by simpa using hat); clear hat hwc)
   | (refine wpList_load_mid rfl 34 _ rfl g (o + p * 10) rfl (dvC x.1 x.2) _ Hran.out Tryz.underlying34 rfl info34b ?_))
  have hcall : Calls Tryz.prog 65 #[.agg (dvC x.1 x.2).toArray] W1 (fun e w' => ∃ u, e = .returned (devV (devOf x.1 u)) ∧ Owns w' W1.heap.size u x.1.ats ∧ Below W1.heap.size W1 w') := HC.out W1 Hbw.out
  refine hcall.mono ?_
  clear hcall
  rintro e W2 ⟨u, rfl, hown, hb2⟩
  have hW1 : Bz + 1 < W1.heap.size := (Array.getElem?_eq_some_iff.1 HR1.out).1
  have HR2 := Lib.hid ((hb2.block (Bz + 1) hW1).trans HR1.out)
  have Hone := Lib.hid (show (dvC x.1 u).toArray.all (·.oneCell') = true from by
   rw [Array.all_eq_true_iff_forall_mem]
   intro v hv
   exact dvC_one hown.has.one v (by simpa using hv))
  have Hown := Lib.hid (show Owns (W2.setRow (Bz + 1) (dvC x.1 u).toArray) w.heap.size u x.1.ats from (hown.keep fun b _ hb => setRow_other _ _ _ _ (by have := ((show W2.ownsRow W1.heap.size 99 2 u x.1.ats.length (cellsP x.1.ats) from hown).lt b hb).1; omega)).mono Hbw.out.size)
  have HbF := Lib.hid (show Below w.heap.size w (W2.setRow (Bz + 1) (dvC x.1 u).toArray) from below_setRow (Hbw.out.trans (hb2.mono Hbw.out.size)) (by omega) _)
  clear hown hb2 hW1
  go_wp2_with (refine wpList_store_row rfl 34 _ _ rfl (Bz + 1) (dvC x.1 u).toArray rfl rfl 34 zeroC HR2.out info34b rfl Hone.out ?_)
  exact bodyPost_ret (v := .tuple #[devV (devOf x.1 u), .bool true]) (results_row_tmp rfl _ _ (Bz + 1) 34 (dvC x.1 u).toArray _ _ _ rfl rfl (setRow_heap _ _ _ _ _ _ HR2.out) Tryz.underlying34 rfl info34b) rfl ⟨HbF.out, by rw [Hr.out]; exact ⟨u, rfl, Hown.out⟩⟩
set_option maxHeartbeats 1000000 in
set_option maxRecDepth 100000 in
theorem find_any (sv : Value) (l : List DV) (n : Int) (w : World) (hl : l.length ≤ 1000000) (hal : ∀ x ∈ l, x.1.ats.length ≤ 1000000) (h : DHas w sv l) (hwf : ∀ x ∈ l, (Lit.int .i64 x.1.idx).wf = true) (hn : (Lit.int .i64 n).wf = true) :
  Calls Tryz.prog 21 #[.agg #[sv], .int .i64 n] w (FoundPost ((lastI (l.map (·.1)) n).bind fun p => l[p]?) w) := by
 obtain ⟨a, c, hsv, _⟩ := h.form
 have HL := Lib.hid (fun W (hW : Below w.heap.size w W) => lookupI_any sv l n W hl hal (h.below hW) hwf hn)
 obtain ⟨R, hR⟩ : ∃ R, ((lastI (l.map (·.1)) n).bind fun p => l[p]?) = R := ⟨_, rfl⟩
 rw [hR] at HL ⊢
 obtain ⟨N, hN⟩ : ∃ N, l.length = N := ⟨_, rfl⟩
 rw [hN] at hsv
 obtain ⟨Bz, hBz⟩ : ∃ Bz, w.heap.size = Bz := ⟨_, rfl⟩
 subst hsv
 have hs1 : (w.alloc (.cells #[.slice a N c] 29)).heap.size = Bz + 1 := by rw [World.size_alloc, hBz]
 have h1 := heap_alloc2_new w (.cells #[.slice a N c] 29) (.cells zeroC 34)
 rw [hBz] at h1
 have Hb0 := Lib.hid (show Below w.heap.size w ((w.alloc (.cells #[.slice a N c] 29)).alloc (.cells zeroC 34)) from ((Below.refl _ w).alloc (Nat.le_refl _) _).alloc (by rw [World.size_alloc]; omega) _)
 have H1 := Lib.hid h1
 have Hsz := Lib.hid (show ((w.alloc (.cells #[.slice a N c] 29)).alloc (.cells zeroC 34)).heap.size = Bz + 2 by rw [World.size_alloc, hs1])
 clear h1 h hal hwf hn hs1 hR hN
 go_enter Tryz.func21, Tryz.ntmps21
 go_wp2_with fail
 refine (HL.out _ Hb0.out).mono ?_
 rintro e W1 ⟨hb1, hr⟩
 rw [Hsz.out] at hb1
 have HR1 := Lib.hid ((hb1.block (Bz + 1) (by omega)).trans H1.out)
 have Hbw := Lib.hid (Hb0.out.trans (hb1.mono (by omega)))
 clear hb1
 cases R with
 | none =>
  obtain rfl := hr
  go_wp2_with (refine wpList_store_row rfl 34 _ _ rfl (Bz + 1) zeroC rfl rfl 34 zeroC HR1.out info34b rfl zeroC_one ?_)
  exact bodyPost_ret (v := .tuple #[.agg zeroC, .bool false]) (results_row_tmp rfl _ _ (Bz + 1) 34 zeroC _ _ _ rfl rfl (setRow_heap _ _ _ _ _ _ HR1.out) Tryz.underlying34 rfl info34b) rfl ⟨below_setRow Hbw.out (by omega) _, rfl⟩
 | some x =>
  obtain ⟨u, rfl, hown⟩ := hr
  rw [Hsz.out] at hown
  have Hone := Lib.hid (show (dvC x.1 u).toArray.all (·.oneCell') = true from by
   rw [Array.all_eq_true_iff_forall_mem]
   intro v hv
   exact dvC_one hown.has.one v (by simpa using hv))
  have Hown := Lib.hid (show Owns (W1.setRow (Bz + 1) (dvC x.1 u).toArray) w.heap.size u x.1.ats from (hown.keep fun b _ hb => setRow_other _ _ _ _ (by have := ((show W1.ownsRow (Bz + 2) 99 2 u x.1.ats.length (cellsP x.1.ats) from hown).lt b hb).1; omega)).mono (by omega))
  clear hown
  go_wp2_with (refine wpList_store_row rfl 34 _ _ rfl (Bz + 1) (dvC x.1 u).toArray rfl rfl 34 zeroC HR1.out info34b rfl Hone.out ?_)
  exact bodyPost_ret (v := .tuple #[devV (devOf x.1 u), .bool true]) (results_row_tmp rfl _ _ (Bz + 1) 34 (dvC x.1 u).toArray _ _ _ rfl rfl (setRow_heap _ _ _ _ _ _ HR1.out) Tryz.underlying34 rfl info34b) rfl ⟨below_setRow Hbw.out (by omega) _, ⟨u, rfl, Hown.out⟩⟩
end Go.Proofs.YtldcediiobfhiaaGreatDoor.De
