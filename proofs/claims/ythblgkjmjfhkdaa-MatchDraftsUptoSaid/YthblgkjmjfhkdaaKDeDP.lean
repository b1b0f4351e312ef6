/- The view of a tree: its devices and a map from their Indexes to their places. -/
import Derived.Test.YthblgkjmjfhkdaaKDeDM
import Derived.Maps.Own
namespace Go.Proofs.Ythblgkjmjfhkdaa.De
open Go.RowKit Go.Maps

set_option maxHeartbeats 1000000 in
set_option maxRecDepth 100000 in
theorem clip_any (a : Option Addr) (n c : Nat) (w : World) (hn : n ≤ c) : Calls Try.prog 86 #[.slice a n c] w (fun e w' => e = .returned (.slice a n n) ∧ w' = w) := by
  have hnc : (n : Int) ≤ (c : Int) := by omega
  go_enter Try.func86, Try.ntmps86
  go_wp2
  go_ret
  exact ⟨rfl, rfl⟩

/-- A whole array stored into the block that was made last. -/
theorem wpList_store_new {P : Program} {ops : Array Oper} {rest : List Oper} {o : Oper} {a : Act} {Q : Exit → Act → World → Prop} (w : World) (t : TypeId) (c c' : Array Value) (hgd : o.guard = none) (x y : Operand) (ho : o.op = .store t x y)
    (hx : a.eval x = .pointer (some ⟨w.heap.size, 0, none⟩)) (hy : a.eval y = .agg c') (hi : (P.info? t).map (·.size) = some c'.size) (hc : c.size = c'.size) (h1 : c'.all (·.oneCell') = true)
    (h : wpList P ops Q rest (a.put o.dst undef) (w.alloc (.cells c' t))) : wpList P ops Q (o :: rest) a (w.alloc (.cells c t)) := by
  refine wpList_store_row hgd t x y ho w.heap.size c' hx hy t c (heap_alloc_last w _) hi hc h1 ?_
  rw [World.setRow_alloc_new]
  exact h

theorem run_makeMap_hint {P : Program} {t k e : TypeId} (ht : P.underlying t = some (.map k e)) (q : IntKind) (n : Int) (w : World) : (Instr.makeMap t (some (.int q n))).run P w = .ok (.map (some w.heap.size)) (w.alloc (.map #[] 0)) := by
  simp [Instr.makeMap, run_underlying ht, asInt, asIntOf]

theorem DRow.one {W : World} {g o : Nat} {l : List DV} (h : DRow W g o l) {j : Nat} {x : DV} (hx : l[j]? = some x) : W.rangeAt g (o + j * 10) (dvC x.1 x.2) := h.at_ j x hx

set_option maxHeartbeats 1000000 in
set_option maxRecDepth 100000 in
theorem placesI_any (sv : Value) (l : List DV) (w : World) (hl : l.length ≤ 1000000) (h : DHas w sv l) (hwf : ∀ x ∈ l, (Lit.int .i64 x.1.idx).wf = true) :
    Calls Try.prog 84 #[.agg #[sv], .func (.func 66) #[] #[]] w fun e w' => ∃ M D, e = .returned (.map (some M)) ∧ w.heap.size ≤ M ∧ IMap w' M l.length (lastI (l.map (·.1))) D ∧ Below w.heap.size w w' := by
  obtain ⟨a, c, rfl, hrow⟩ := h.form
  obtain ⟨N, hN⟩ : ∃ N, l.length = N := ⟨_, rfl⟩
  rw [hN] at hl ⊢
  have HN := Lib.hid hN
  have HRow := Lib.hid hrow
  have HWf := Lib.hid hwf
  have HI := Lib.hid fun (d : Dev) (W : World) => indexOf_any d W
  have hmm := fun (n : Int) (w : World) => run_makeMap_hint (P := Try.prog) Try.underlying106 .i64 n w
  clear hN hrow hwf h
  obtain ⟨Bz, hE⟩ : ∃ Bz, w.heap.size = Bz := ⟨_, rfl⟩
  have h0 := heap_alloc_last w (.cells #[.slice a N c] 35)
  rw [hE] at h0
  have c0 := cell_of_row _ Bz 0 _ _ _ h0
  simp only [List.getElem?_toArray, List.getElem?_cons_zero] at c0
  have hE1 : (w.alloc (.cells #[.slice a N c] 35)).heap.size = Bz + 1 := by rw [World.size_alloc, hE]
  have him := IMap.made (w.alloc (.cells #[.slice a N c] 35))
  rw [hE1] at him
  have hc0 : ((w.alloc (.cells #[.slice a N c] 35)).alloc (.map #[] 0)).cell? ⟨Bz, 0, none⟩ = some (.slice a N c) := by
    rw [World.cell?_alloc_lt _ _ _ (by rw [hE1]; exact Nat.lt_succ_self Bz)]
    exact c0
  have Him := Lib.hid him
  have Hb0 := Lib.hid (show Below w.heap.size w ((w.alloc (.cells #[.slice a N c] 35)).alloc (.map #[] 0)) from ((Below.refl _ w).alloc (Nat.le_refl _) _).alloc (by rw [World.size_alloc]; omega) _)
  clear him h0
  go_enter Try.func84, Try.ntmps84
  go_wp2
  go_loopw [17] (fun s17 wx => ∃ (i : Nat) (D : DataW Unit), i ≤ N ∧ s17 = .int .i64 (i : Int) ∧ IMap wx (Bz + 1) i (lastI ((l.take i).map (·.1))) D ∧ Below w.heap.size w wx) (fun s17 _ => N - (intOf s17).toNat)
  case atStart => exact ⟨0, _, by omega, rfl, Him.out, Hb0.out⟩
  case round =>
    clear Him Hb0 c0 hc0 hE1
    obtain ⟨i, D, hi, rfl, him, hbx⟩ := hrel
    have HM := Lib.hid him
    have Hbx := Lib.hid hbx
    clear him hbx
    by_cases hlt : i < N
    · have hiz : (i : Int) < (N : Int) := by omega
      obtain ⟨x, hx⟩ : ∃ x, l[i]? = some x := ⟨l[i]'(by rw [HN.out]; exact hlt), List.getElem?_eq_getElem _⟩
      obtain ⟨g, o, rfl, hcap, hg, hr⟩ := HRow.out (fun e => by rw [e] at hx; simp at hx)
      have Hran := Lib.hid ((hr.below hg Hbx.out).at_ i x hx)
      have hxm := List.mem_of_getElem? hx
      have Hwx := Lib.hid (HWf.out x hxm)
      have h1x := (hr.ats x hxm).one
      have Hst := Lib.hid (show (dvC x.1 x.2).toArray.all (·.oneCell') = true from by
        rw [Array.all_eq_true_iff_forall_mem]
        intro v hv
        exact dvC_one h1x v (by simpa using hv))
      have Htk := Lib.hid (show (l.take (i + 1)).map (·.1) = (l.take i).map (·.1) ++ [x.1] from by rw [List.take_add_one, hx, List.map_append]; rfl)
      have Htl := Lib.hid (show ((l.take i).map (·.1)).length = i from by rw [List.length_map, List.length_take, HN.out]; omega)
      have HB := Lib.hid (heap_alloc_last wr (.cells (dvC x.1 x.2).toArray 26))
      have HbA := Lib.hid (Hbx.out.alloc Hbx.out.size (.cells (dvC x.1 x.2).toArray 26))
      have HbA2 := Lib.hid ((Below.refl wr.heap.size wr).alloc (Nat.le_refl _) (.cells (dvC x.1 x.2).toArray 26))
      clear hr hg hx hxm h1x hcap
      go_wp2_with (first
        | (refine wpList_load_mid rfl 26 _ rfl g (o + i * 10) rfl (dvC x.1 x.2) _ Hran.out Try.underlying26 rfl info34b ?_)
        | (refine wpList_load_row rfl 26 _ rfl wr.heap.size rfl 26 (dvC x.1 x.2).toArray (0, 0) _ HB.out Try.underlying26 rfl info34b ?_)
        | (refine wpList_store_new wr 26 _ (dvC x.1 x.2).toArray rfl _ _ rfl rfl rfl info34b rfl Hst.out ?_))
      have hcall : Calls Try.prog 66 #[.agg (dvC x.1 x.2).toArray] (wr.alloc (.cells (dvC x.1 x.2).toArray 26)) (Bel (.tuple #[.int .i64 x.1.idx, .bool true]) (wr.alloc (.cells (dvC x.1 x.2).toArray 26))) := HI.out (devOf x.1 x.2) _
      refine hcall.mono ?_
      clear hcall
      rintro e W5 ⟨rfl, hb5⟩
      have hb51 : Below wr.heap.size wr W5 := HbA2.out.trans (hb5.mono HbA2.out.size)
      have HM5 := Lib.hid (HM.out.below hb51)
      have Hb5 := Lib.hid (Hbx.out.trans (hb51.mono Hbx.out.size))
      clear hb5 hb51 HB
      go_wp2_with (at_mapUpdate; refine wpList_mapUpdate_own _ rfl _ _ _ 106 rfl 3 3 lawI Try.underlying106 _ (Bz + 1) i D rfl HM5.out.own (by unfold maxLen; omega) _ _ _ rfl rfl (keyI Hwx.out) (.lit (.int .i64 (i : Int))) [] (plainElem_int Try.underlying3 (wfI (by omega))) ?_; intro w3 hown3 hgr3; have Hown3 := Lib.hid hown3; have Hgr3 := Lib.hid hgr3; clear hown3 hgr3)
      have him3 : IMap w3 (Bz + 1) (i + 1) (lastI ((l.take (i + 1)).map (·.1))) (D.put (.int .i64 x.1.idx) (.lit (.int .i64 (i : Int)))) := by
        rw [Htk.out, lastI_snoc, Htl.out]
        exact HM5.out.put Hwx.out Hown3.out
      have Hb3 := Lib.hid (Hb5.out.grown Hgr3.out Hb5.out.size (fun k hk => by cases hk; omega))
      have Him3 := Lib.hid him3
      clear him3
      exact ⟨⟨i + 1, _, by omega, rfl, Him3.out, Hb3.out⟩, by simp [intOf]; omega⟩
    · obtain rfl : i = N := by omega
      have hfin := HM.out
      rw [← HN.out, List.take_length] at hfin
      have Hfin := Lib.hid hfin
      clear hfin
      go_wp2
      go_ret
      exact ⟨Bz + 1, D, rfl, by omega, by rw [← HN.out]; exact Hfin.out, Hbx.out⟩
end Go.Proofs.Ythblgkjmjfhkdaa.De
