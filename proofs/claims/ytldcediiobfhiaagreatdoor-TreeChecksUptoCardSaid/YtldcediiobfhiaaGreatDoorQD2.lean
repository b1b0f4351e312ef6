/- Maps from numbers to places. The view of a tree: its devices and a map from their Indexes to their places. viewOf. -/
import Derived.Test.YtldcediiobfhiaaGreatDoorQDx
import Derived.Maps.OwnSet
import Derived.Maps.Own
import Derived.Deep.RegionHeld
namespace Go.Proofs.YtldcediiobfhiaaGreatDoor.De
open Go.RowKit Go.Maps
theorem wfI {x : Int} (h : -9223372036854775808 ≤ x ∧ x ≤ 9223372036854775807) : (Lit.int .i64 x).wf = true := WalkArith.wf_i64 h
theorem keyI {x : Int} (h : (Lit.int .i64 x).wf = true) : keyOf Tryz.prog 3 (.int .i64 x) = some (.int .i64 x) := Maps.keyOf_int_mk Tryz.underlying3 h
theorem lawI : Keyed Tryz.prog 3 := Maps.int_keyed Tryz.underlying3
/-- Block M is a map from numbers to places: those that f gives. -/
structure IMap (w : World) (M N : Nat) (f : Int → Option Nat) (D : DataW Unit) : Prop where
 own : w.ownsMap Tryz.prog 3 (plainElem Tryz.prog 3) M N D
 has : ∀ x, (Lit.int .i64 x).wf = true → Maps.has D (.int .i64 x) = (f x).isSome
 val : ∀ x p, (Lit.int .i64 x).wf = true → f x = some p → ∀ zd, D.atKey (.int .i64 x) zd = .lit (.int .i64 (p : Int))
theorem IMap.made (w : World) : IMap (w.alloc (.map #[] 0)) w.heap.size 0 (fun _ => none) (.map []) :=
 ⟨World.ownsMap_made _ _ _ _, fun x _ => by simp [Maps.has_eq], fun x p _ h => by cases h⟩
theorem IMap.kept {w w' : World} {M N : Nat} {f : Int → Option Nat} {D : DataW Unit} (h : IMap w M N f D) (hb : w'.heap[M]? = w.heap[M]?) : IMap w' M N f D := by
 obtain ⟨⟨es, clock, h1, h2⟩, h3, h4⟩ := h
 exact ⟨⟨es, clock, hb.trans h1, h2⟩, h3, h4⟩
theorem IMap.lt {w : World} {M N : Nat} {f : Int → Option Nat} {D : DataW Unit} (h : IMap w M N f D) : M < w.heap.size := h.own.lt
theorem IMap.below {w w' : World} {M N : Nat} {f : Int → Option Nat} {D : DataW Unit} (h : IMap w M N f D) (hb : Below w.heap.size w w') : IMap w' M N f D := h.kept (hb.block M h.lt)
def putI (f : Int → Option Nat) (x : Int) (p : Nat) : Int → Option Nat := fun y => if y = x then some p else f y
theorem IMap.put {w w' : World} {M N p : Nat} {x : Int} {f : Int → Option Nat} {D : DataW Unit} (h : IMap w M N f D) (hx : (Lit.int .i64 x).wf = true) (hown : w'.ownsMap Tryz.prog 3 (plainElem Tryz.prog 3) M (N + 1) (D.put (.int .i64 x) (.lit (.int .i64 (p : Int))))) : IMap w' M (N + 1) (putI f x p) (D.put (.int .i64 x) (.lit (.int .i64 (p : Int)))) := by
 have hkey := lawI.key (keyI hx)
 refine ⟨hown, fun y hy => ?_, fun y q hy hq zd => ?_⟩
 ·unfold putI
  by_cases e : y = x
  ·subst e
   rw [Maps.has_put_same h.own.isMap hkey, if_pos rfl]
   rfl
  ·rw [Maps.has_put_other (fun e' => e (by cases e'; rfl)), h.has y hy, if_neg e]
 ·unfold putI at hq
  by_cases e : y = x
  ·subst e
   rw [if_pos rfl] at hq
   obtain rfl := Option.some.inj hq
   exact Maps.atKey_put_same h.own.isMap hkey _ _
  ·rw [if_neg e] at hq
   rw [Maps.atKey_put_other (fun e' => e (by cases e'; rfl))]
   exact h.val y q hy hq zd
/-- The last place of an Index. -/
def lastI : List ADev → Int → Option Nat
 | [], _ => none
 | a :: l, n => match lastI l n with
  | some p => some (p + 1)
  | none => if a.idx = n then some 0 else none
theorem lastI_snoc : ∀ (l : List ADev) (a : ADev), lastI (l ++ [a]) = putI (lastI l) a.idx l.length
 | [], a => by
  funext n
  unfold putI lastI
  simp only [lastI, List.nil_append, List.length_nil]
  by_cases h : n = a.idx
  ·rw [if_pos h, if_pos h.symm]
  ·rw [if_neg h, if_neg (fun e => h e.symm)]
 | b :: l, a => by
  funext n
  have ih := congrFun (lastI_snoc l a) n
  rw [List.cons_append, lastI, ih]
  unfold putI
  by_cases h : n = a.idx
  ·rw [if_pos h, if_pos h]
   rfl
  ·rw [if_neg h, if_neg h, lastI]
theorem lastI_some : ∀ {l : List ADev} {n : Int} {p : Nat}, lastI l n = some p → ∃ a, l[p]? = some a ∧ a.idx = n
 | [], _, _, h => by cases h
 | a :: l, n, p, h => by
  unfold lastI at h
  cases hl : lastI l n with
  | some q =>
   rw [hl] at h
   obtain rfl := Option.some.inj h
   obtain ⟨b, hb, he⟩ := lastI_some hl
   exact ⟨b, by simpa using hb, he⟩
  | none =>
   rw [hl] at h
   simp only at h
   split at h
   ·rename_i he
    obtain rfl := Option.some.inj h
    exact ⟨a, rfl, he⟩
   ·cases h
theorem lastI_none : ∀ {l : List ADev} {n : Int}, lastI l n = none → ∀ a ∈ l, a.idx ≠ n
 | [], _, _, a, ha => by cases ha
 | b :: l, n, h, a, ha => by
  unfold lastI at h
  cases hl : lastI l n with
  | some q => rw [hl] at h; cases h
  | none =>
   rw [hl] at h
   simp only at h
   split at h
   ·cases h
   ·rename_i hne
    rcases List.mem_cons.1 ha with rfl | ha
    ·exact hne
    ·exact lastI_none hl a ha
/-- In a tidy list: the place of the device that is looked up. -/
theorem lastI_fnd {l : List ADev} (h : Tidy l) (n : Int) : fnd l n = (lastI l n).bind fun p => l[p]? := by
 cases hl : lastI l n with
 | none =>
  cases hf : fnd l n with
  | none => rfl
  | some e => exact absurd (fnd_mem hf).2 (lastI_none hl e (fnd_mem hf).1)
 | some p =>
  obtain ⟨a, ha, he⟩ := lastI_some hl
  show _ = l[p]?
  rw [ha, ← he]
  exact fnd_at h.uniq ha
end Go.Proofs.YtldcediiobfhiaaGreatDoor.De
namespace Go.Proofs.YtldcediiobfhiaaGreatDoor.De
open Go.RowKit Go.Maps
set_option maxHeartbeats 1000000 in
set_option maxRecDepth 100000 in
theorem clip_any (a : Option Addr) (n c : Nat) (w : World) (hn : n ≤ c) : Calls Tryz.prog 89 #[.slice a n c] w (fun e w' => e = .returned (.slice a n n) ∧ w' = w) := by
 have hnc : (n : Int) ≤ (c : Int) := by omega
 go_enter Tryz.func89, Tryz.ntmps89
 go_wp2
 go_ret
 exact ⟨rfl, rfl⟩
/-- A whole array stored into the block that was made last. -/
theorem wpList_store_new {P : Program} {ops : Array Oper} {rest : List Oper} {o : Oper} {a : Act} {Q : Exit → Act → World → Prop} (w : World) (t : TypeId) (c c' : Array Value) (hgd : o.guard = none) (x y : Operand) (ho : o.op = .store t x y)
  (hx : a.eval x = .pointer (some ⟨w.heap.size, 0, none⟩)) (hy : a.eval y = .agg c') (hi : (P.info? t).map (·.size) = some c'.size) (hc : c.size = c'.size) (h1 : c'.all (·.oneCell') = true)
  (h : wpList P ops Q rest (a.put o.dst undef) (w.alloc (.cells c' t))) : wpList P ops Q (o :: rest) a (w.alloc (.cells c t)) := by
 refine wpList_store_row hgd t x y ho w.heap.size c' hx hy t c (heap_alloc_last w _) hi hc h1 ?_
 rw [World.setRow_alloc_new]
 exact h
theorem run_makeMap_hint {P : Program} {t k e : TypeId} (ht : P.underlying t = some (.map k e)) (q : IntKind) (n : Int) (w : World) : (Instr.makeMap t (some (.int q n))).run P w = .ok (.map (some w.heap.size)) (w.alloc (.map #[] 0)) := by
 simp [Instr.makeMap, run_underlying ht, asInt, asIntOf]
theorem DRow.one {W : World} {g o : Nat} {l : List DV} (h : DRow W g o l) {j : Nat} {x : DV} (hx : l[j]? = some x) : W.rangeAt g (o + j * 10) (dvC x.1 x.2) := h.at_ j x hx
set_option maxHeartbeats 1000000 in
set_option maxRecDepth 100000 in
theorem placesI_any (sv : Value) (l : List DV) (w : World) (hl : l.length ≤ 1000000) (h : DHas w sv l) (hwf : ∀ x ∈ l, (Lit.int .i64 x.1.idx).wf = true) :
  Calls Tryz.prog 90 #[.agg #[sv], .func (.func 62) #[] #[]] w fun e w' => ∃ M D, e = .returned (.map (some M)) ∧ w.heap.size ≤ M ∧ IMap w' M l.length (lastI (l.map (·.1))) D ∧ Below w.heap.size w w' := by
 obtain ⟨a, c, rfl, hrow⟩ := h.form
 obtain ⟨N, hN⟩ : ∃ N, l.length = N := ⟨_, rfl⟩
 rw [hN] at hl ⊢
 have HN := Lib.hid hN
 have HRow := Lib.hid hrow
 have HWf := Lib.hid hwf
 have HI := Lib.hid fun (d : Dev) (W : World) => indexOf_any d W
 have hmm := fun (n : Int) (w : World) => run_makeMap_hint (P := Tryz.prog) Tryz.underlying82 .i64 n w
 clear hN hrow hwf h
 obtain ⟨Bz, hE⟩ : ∃ Bz, w.heap.size = Bz := ⟨_, rfl⟩
 have h0 := heap_alloc_last w (.cells #[.slice a N c] 29)
 rw [hE] at h0
 have c0 := cell_of_row _ Bz 0 _ _ _ h0
 simp only [List.getElem?_toArray, List.getElem?_cons_zero] at c0
 have hE1 : (w.alloc (.cells #[.slice a N c] 29)).heap.size = Bz + 1 := by rw [World.size_alloc, hE]
 have him := IMap.made (w.alloc (.cells #[.slice a N c] 29))
 rw [hE1] at him
 have hc0 : ((w.alloc (.cells #[.slice a N c] 29)).alloc (.map #[] 0)).cell? ⟨Bz, 0, none⟩ = some (.slice a N c) := by
  rw [World.cell?_alloc_lt _ _ _ (by rw [hE1]; exact Nat.lt_succ_self Bz)]
  exact c0
 have Him := Lib.hid him
 have Hb0 := Lib.hid (show Below w.heap.size w ((w.alloc (.cells #[.slice a N c] 29)).alloc (.map #[] 0)) from ((Below.refl _ w).alloc (Nat.le_refl _) _).alloc (by rw [World.size_alloc]; omega) _)
 clear him h0
 go_enter Tryz.func90, Tryz.ntmps90
 go_wp2
 go_loopw [17] (fun s17 wx => ∃ (i : Nat) (D : DataW Unit), i ≤ N ∧ s17 = .int .i64 (i : Int) ∧ IMap wx (Bz + 1) i (lastI ((l.take i).map (·.1))) D ∧ Below w.heap.size w wx) (fun s17 _ => N - (intOf s17).toNat)
 case atStart => exact ⟨0, _, by omega, rfl, Him.out, Hb0.out⟩
 case round =>
  clear Him Hb0 c0 hc0 hE1
  obtain ⟨i, D, hi, rfl, him, hbx⟩ := hrel
  have HM := Lib.hid him
  have Hbx := Lib.hid hbx
  clear him hbx
  by_cases hlt : i < N
  ·have hiz : (i : Int) < (N : Int) := by omega
   obtain ⟨x, hx⟩ : ∃ x, l[i]? = some x := ⟨l[i]'(by rw [HN.out]; exact hlt), List.getElem?_eq_getElem _⟩
   obtain ⟨g, o, rfl, hcap, hg, hr⟩ := HRow.out (fun e => by rw [e] at hx; simp at hx)
   have Hran := Lib.hid ((hr.below hg Hbx.out).at_ i x hx)
   have hxm := List.mem_of_getElem? hx
   have Hwx := Lib.hid (HWf.out x hxm)
   have h1x := (hr.ats x hxm).one
   have Hst := Lib.hid (show (dvC x.1 x.2).toArray.all (·.oneCell') = true from by
    rw [Array.all_eq_true_iff_forall_mem]
    intro v hv
    exact dvC_one h1x v (by simpa using hv))
   have Htk := Lib.hid (show (l.take (i + 1)).map (·.1) = (l.take i).map (·.1) ++ [x.1] from by rw [List.take_add_one, hx, List.map_append]; rfl)
   have Htl := Lib.hid (show ((l.take i).map (·.1)).length = i from by rw [List.length_map, List.length_take, HN.out]; omega)
   have HB := Lib.hid (heap_alloc_last wr (.cells (dvC x.1 x.2).toArray 34))
   have HbA := Lib.hid (Hbx.out.alloc Hbx.out.size (.cells (dvC x.1 x.2).toArray 34))
   have HbA2 := Lib.hid ((Below.refl wr.heap.size wr).alloc (Nat.le_refl _) (.cells (dvC x.1 x.2).toArray 34))
   clear hr hg hx hxm h1x hcap
   go_wp2_with (first
    | (refine wpList_load_mid rfl 34 _ rfl g (o + i * 10) rfl (dvC x.1 x.2) _ Hran.out Tryz.underlying34 rfl info34b ?_)
    | (refine wpList_load_row rfl 34 _ rfl wr.heap.size rfl 34 (dvC x.1 x.2).toArray (0, 0) _ HB.out Tryz.underlying34 rfl info34b ?_)
    | (refine wpList_store_new wr 34 _ (dvC x.1 x.2).toArray rfl _ _ rfl rfl rfl info34b rfl Hst.out ?_))
   have hcall : Calls Tryz.prog 62 #[.agg (dvC x.1 x.2).toArray] (wr.alloc (.cells (dvC x.1 x.2).toArray 34)) (Bel (.tuple #[.int .i64 x.1.idx, .bool true]) (wr.alloc (.cells (dvC x.1 x.2).toArray 34))) := HI.out (devOf x.1 x.2) _
   refine hcall.mono ?_
   clear hcall
   rintro e W5 ⟨rfl, hb5⟩
   have hb51 : Below wr.heap.size wr W5 := HbA2.out.trans (hb5.mono HbA2.out.size)
   have HM5 := Lib.hid (HM.out.below hb51)
   have Hb5 := Lib.hid (Hbx.out.trans (hb51.mono Hbx.out.size))
   clear hb5 hb51 HB
   go_wp2_with (at_mapUpdate; refine wpList_mapUpdate_own _ rfl _ _ _ 82 rfl 3 3 lawI Tryz.underlying82 _ (Bz + 1) i D rfl HM5.out.own (by unfold maxLen; omega) _ _ _ rfl rfl (keyI Hwx.out) (.lit (.int .i64 (i : Int))) [] (plainElem_int Tryz.underlying3 (wfI (by omega))) ?_; intro w3 hown3 hgr3; have Hown3 := Lib.hid hown3; have Hgr3 := Lib.hid hgr3; clear hown3 hgr3)
   have him3 : IMap w3 (Bz + 1) (i + 1) (lastI ((l.take (i + 1)).map (·.1))) (D.put (.int .i64 x.1.idx) (.lit (.int .i64 (i : Int)))) := by
    rw [Htk.out, lastI_snoc, Htl.out]
    exact HM5.out.put Hwx.out Hown3.out
   have Hb3 := Lib.hid (Hb5.out.grown Hgr3.out Hb5.out.size (fun k hk => by cases hk; omega))
   have Him3 := Lib.hid him3
   clear him3
   exact ⟨⟨i + 1, _, by omega, rfl, Him3.out, Hb3.out⟩, by simp [intOf]; omega⟩
  ·obtain rfl : i = N := by omega
   have hfin := HM.out
   rw [← HN.out, List.take_length] at hfin
   have Hfin := Lib.hid hfin
   clear hfin
   go_wp2
   go_ret
   exact ⟨Bz + 1, D, rfl, by omega, by rw [← HN.out]; exact Hfin.out, Hbx.out⟩
end Go.Proofs.YtldcediiobfhiaaGreatDoor.De
namespace Go.Proofs.YtldcediiobfhiaaGreatDoor.De
open Go.RowKit Go.Maps
theorem DHas.clip {W : World} {a : Option Addr} {c : Nat} {l : List DV} (h : DHas W (.slice a l.length c) l) : DHas W (.slice a l.length l.length) l := by
 rcases h with ⟨b, d, hv, rfl⟩ | ⟨g, o, d, hv, hc, hg, hr⟩
 ·exact Or.inl ⟨a, 0, rfl, rfl⟩
 ·simp only [Value.slice.injEq] at hv
  exact Or.inr ⟨g, o, l.length, by rw [hv.1], Nat.le_refl _, hg, hr⟩
/-- Block V is a view of the devices. -/
structure View (W : World) (V : Nat) (sv : Value) (M : Nat) (l : List DV) (D : DataW Unit) : Prop where
 box : W.heap[V]? = some (.cells #[sv, .map (some M)] 84 (0, 0))
 dev : DHas W sv l
 map : IMap W M l.length (lastI (l.map (·.1))) D
theorem View.below {W W' : World} {V M : Nat} {sv : Value} {l : List DV} {D : DataW Unit} (h : View W V sv M l D) (hb : Below W.heap.size W W') : View W' V sv M l D :=
 ⟨(hb.block V (Array.getElem?_eq_some_iff.1 h.box).1).trans h.box, h.dev.below hb, h.map.below hb⟩
/-- A load of a whole row yields in every world in which the row lies. -/
theorem yieldsIf_load_row {P : Program} {ops : Array Oper} {S : World → Prop} {op : Oper} {a : Act} (hw : Region.wanted op (yielded ops a.tmps) = true) (ty : TypeId) (x : Operand) (ho : op.op = .load ty x)
  (g : Nat) (hx : a.eval x = .pointer (some ⟨g, 0, none⟩)) (t : TypeId) (cs : Array Value) (fr : Nat × Nat) (d : TypeDesc) (hS : ∀ w, S w → w.heap[g]? = some (.cells cs t fr))
  (hu : P.underlying ty = some d) (hd : (match d with | .struct _ | .array _ _ => true | _ => false) = true) (hi : (P.info? ty).map (·.size) = some cs.size) : YieldsIf P ops S op (.agg cs) a :=
 .inl ⟨hw, fun w hw' => by
  unfold execOp
  simp only [ho, hx, Instr.loadAt, Instr.sureAddr, Sem.run_bind, Sem.run_pure, Result.andThen_ok, run_loadVar_row w g t ty cs fr d (hS w hw') hu hd hi]⟩
set_option maxHeartbeats 1000000 in
set_option maxRecDepth 100000 in
theorem viewOf_any (sv : Value) (l : List DV) (w : World) (hl : l.length ≤ 1000000) (h : DHas w sv l) (hc : ∀ a n c, sv = .slice a n c → n ≤ c) (hwf : ∀ x ∈ l, (Lit.int .i64 x.1.idx).wf = true) :
  Calls Tryz.prog 52 #[.agg #[sv]] w fun e w' => ∃ V M D sv', e = .returned (.pointer (some ⟨V, 0, none⟩)) ∧ w.heap.size ≤ V ∧ w.heap.size ≤ M ∧ View w' V sv' M l D ∧ Below w.heap.size w w' := by
 obtain ⟨a, c, rfl, hrow⟩ := h.form
 have hnc := hc a l.length c rfl
 have HD := Lib.hid h
 have HWf := Lib.hid hwf
 have Hhl := Lib.hid hl
 obtain ⟨N, hN⟩ : ∃ N, l.length = N := ⟨_, rfl⟩
 rw [hN] at hnc ⊢
 have HN := Lib.hid hN
 have hboxw := heap_alloc_last w (.cells #[.slice a N c] 29)
 have Hb0 := Lib.hid ((Below.refl _ w).alloc (Nat.le_refl _) (.cells #[.slice a N c] 29))
 clear hrow hl h hc hwf hN
 go_enter Tryz.func52, Tryz.ntmps52
 go_wp2
 generalize w.alloc (.cells #[.slice a N c] 29) = W1 at *
 obtain ⟨Bz, hBz⟩ : ∃ Bz, w.heap.size = Bz := ⟨_, rfl⟩
 rw [hBz] at hboxw ⊢
 have HBox := Lib.hid hboxw
 have HBz := Lib.hid hBz
 clear hboxw hBz
 have HS := Lib.hid (show ∀ W, Below W1.heap.size W1 W → (W.heap[Bz]? = some (.cells #[.slice a N c] 29 (0, 0)) ∧ W.cell? ⟨Bz, 0, none⟩ = some (.slice a N c)) from fun W hW => by
  have h1 := (hW.block Bz (Array.getElem?_eq_some_iff.1 HBox.out).1).trans HBox.out
  exact ⟨h1, by rw [cell_of_row _ _ 0 _ _ _ h1]; rfl⟩)
 have HP := Lib.hid (fun W (hW : Below w.heap.size w W) => placesI_any (.slice a l.length c) l W Hhl.out (HD.out.below hW) HWf.out)
 rw [HN.out] at HP
 refine wp_region_held_drew (S := fun W => W.heap[Bz]? = some (.cells #[.slice a N c] 29 (0, 0)) ∧ W.cell? ⟨Bz, 0, none⟩ = some (.slice a N c)) (by kernel_rfl) (HS.out _ (Below.refl _ _).drew) (fun hHeld => ?_)
 refine wpAnyH_take (i := 0) (oi := { dst := some 3, op := Op.fieldAddr 29 (Operand.tmp 1) 0, type := 0, pos := "view.go:24", after := #[], guard := none }) (v := .pointer (some ⟨Bz, 0, none⟩)) rfl (by kernel_rfl) (by kernel_rfl) (by kernel_rfl) (fun _ _ _ h => h) (Or.inl ⟨by rfl, fun w hSw => by clear hSw; go_simp⟩) (by assumption) ?_
 try simp only [Act.put, List.setIfInBounds_toArray, List.set_cons_zero, List.set_cons_succ]
 refine wpAnyH_take (i := 1) (oi := { dst := some 4, op := Op.load 22 (Operand.tmp 3), type := 22, pos := "view.go:24", after := #[{ on := 0, ground := Ground.data }], guard := none }) (v := .slice a N c) rfl (by kernel_rfl) (by kernel_rfl) (by kernel_rfl) (fun _ _ _ h => h) (Or.inl ⟨by rfl, fun w hSw => by obtain ⟨hS0, hS1⟩ := hSw; clear hS0; go_simp⟩) (by assumption) ?_
 try simp only [Act.put, List.setIfInBounds_toArray, List.set_cons_zero, List.set_cons_succ]
 refine wpAnyH_take (i := 3) (oi := { dst := some 6, op := Op.load 29 (Operand.tmp 1), type := 29, pos := "view.go:24", after := #[], guard := none }) (v := .agg #[.slice a N c]) rfl (by kernel_rfl) (by kernel_rfl) (by kernel_rfl) (fun _ _ _ h => h) (yieldsIf_load_row (by rfl) 29 (.tmp 1) rfl Bz rfl 29 #[.slice a N c] (0, 0) _ (fun w h => h.1) Tryz.underlying29 rfl (by kernel_rfl)) (by assumption) ?_
 try simp only [Act.put, List.setIfInBounds_toArray, List.set_cons_zero, List.set_cons_succ]
 refine wpAnyH_ready (rs := [2]) (by kernel_rfl) (by simp) ?_
 refine AllReadyH.cons (o := { dst := some 5, op := Op.call { callee := Callee.value (Operand.func 89), args := #[Operand.tmp 4], argTypes := #[22] }, type := 22, pos := "view.go:24", after := #[{ on := 1, ground := Ground.data }], guard := none }) rfl (fun K hK => ?_) AllReadyH.nil
 go_simp
 refine (clip_any a N c _ hnc).mono ?_
 rintro e W2 ⟨rfl, rfl⟩
 dsimp only
 refine hK.out _ _ (HS.out _ (Below.refl _ _).drew) (fun hHeld => ?_)
 try simp only [Act.put, List.setIfInBounds_toArray, List.set_cons_zero, List.set_cons_succ]
 clear hK
 refine wpAnyH_ready (rs := [4]) (by kernel_rfl) (by simp) ?_
 refine AllReadyH.cons (o := { dst := some 7, op := Op.call { callee := Callee.value (Operand.func 90), args := #[Operand.tmp 6, Operand.func 62], argTypes := #[29, 73] }, type := 82, pos := "view.go:24", after := #[{ on := 3, ground := Ground.data }, { on := 2, ground := Ground.chain }], guard := none }) rfl (fun K hK => ?_) AllReadyH.nil
 go_simp
 refine (HP.out W1.drew Hb0.out.drew).mono ?_
 rintro e W2 ⟨M, D, rfl, hM, him, hb⟩
 dsimp only
 have hb2 : Below W1.heap.size W1 W2 := ((Below.refl _ W1).drew).trans hb
 refine hK.out _ _ (HS.out _ hb2) (fun hHeld => ?_)
 try simp only [Act.put, List.setIfInBounds_toArray, List.set_cons_zero, List.set_cons_succ]
 clear hK
 refine wpAnyH_take (i := 5) (oi := { dst := some 8, op := Op.build 84 #[(0, Operand.tmp 5), (1, Operand.tmp 7)], type := 84, pos := "view.go:24", after := #[{ on := 2, ground := Ground.data }, { on := 4, ground := Ground.data }], guard := none }) (v := .agg #[.slice a N N, .map (some M)]) rfl (by kernel_rfl) (by kernel_rfl) (by kernel_rfl) (fun _ _ _ h => h) (Or.inl ⟨by rfl, fun w hSw => by clear hSw; go_simp⟩) (by assumption) ?_
 try simp only [Act.put, List.setIfInBounds_toArray, List.set_cons_zero, List.set_cons_succ]
 have hb3 := hb2.alloc hb2.size (.cells #[.slice a N N, .map (some M)] 84)
 refine wpAnyH_ready (rs := [6]) (by kernel_rfl) (by simp) ?_
 refine AllReadyH.cons (o := { dst := some 9, op := Op.box 84 (Operand.tmp 8), type := 64, pos := "view.go:24", after := #[{ on := 5, ground := Ground.data }], guard := none }) rfl (fun K hK => ?_) AllReadyH.nil
 go_simp
 refine hK.out _ _ (HS.out _ hb3) (fun hHeld => ?_)
 try simp only [Act.put, List.setIfInBounds_toArray, List.set_cons_zero, List.set_cons_succ]
 clear hK
 refine wpAnyH_take (i := 7) (oi := { dst := some 2, op := Op.assign (Operand.tmp 9), type := 64, pos := "view.go:24", after := #[{ on := 6, ground := Ground.data }, { on := 4, ground := Ground.chain }, { on := 0, ground := Ground.phase }, { on := 1, ground := Ground.phase }, { on := 2, ground := Ground.phase }, { on := 3, ground := Ground.phase }, { on := 4, ground := Ground.phase }, { on := 5, ground := Ground.phase }, { on := 6, ground := Ground.phase }], guard := none }) (v := .pointer (some ⟨W2.heap.size, 0, none⟩)) rfl (by kernel_rfl) (by kernel_rfl) (by kernel_rfl) (fun _ _ _ h => h) (Or.inl ⟨by rfl, fun w hSw => by clear hSw; go_simp⟩) (by assumption) ?_
 try simp only [Act.put, List.setIfInBounds_toArray, List.set_cons_zero, List.set_cons_succ]
 refine wpAnyH_done (by kernel_rfl) ?_ _
 have HV := Lib.hid (show View (W2.alloc (.cells #[.slice a N N, .map (some M)] 84)) W2.heap.size (.slice a N N) M l D from ⟨heap_alloc_last _ _, by
  have h1 := (HD.out.below (Hb0.out.trans (hb3.mono Hb0.out.size))).clip
  rw [HN.out] at h1
  exact h1, by
  rw [HN.out]
  exact him.below ((Below.refl _ W2).alloc (Nat.le_refl _) _)⟩)
 have HbF := Lib.hid (show Below w.heap.size w (W2.alloc (.cells #[.slice a N N, .map (some M)] 84)) from Hb0.out.trans (hb3.mono Hb0.out.size))
 have HMl := Lib.hid (show w.heap.size ≤ M ∧ w.heap.size ≤ W2.heap.size from ⟨Nat.le_trans Hb0.out.size hM, Nat.le_trans Hb0.out.size hb2.size⟩)
 clear him hM hb hb2 hb3 hHeld
 go_wp2
 go_ret
 exact ⟨W2.heap.size, M, D, _, rfl, HMl.out.2, HMl.out.1, HV.out, HbF.out⟩
end Go.Proofs.YtldcediiobfhiaaGreatDoor.De
