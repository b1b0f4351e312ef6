/- viewOf. -/
import Derived.Test.YthblgkjmjfhkdaaKDeDP
import Derived.Deep.RegionHeld
namespace Go.Proofs.Ythblgkjmjfhkdaa.De
open Go.RowKit Go.Maps

theorem DHas.clip {W : World} {a : Option Addr} {c : Nat} {l : List DV} (h : DHas W (.slice a l.length c) l) : DHas W (.slice a l.length l.length) l := by
  rcases h with ⟨b, d, hv, rfl⟩ | ⟨g, o, d, hv, hc, hg, hr⟩
  · exact Or.inl ⟨a, 0, rfl, rfl⟩
  · simp only [Value.slice.injEq] at hv
    exact Or.inr ⟨g, o, l.length, by rw [hv.1], Nat.le_refl _, hg, hr⟩

/-- Block V is a view of the devices. -/
structure View (W : World) (V : Nat) (sv : Value) (M : Nat) (l : List DV) (D : DataW Unit) : Prop where
  box : W.heap[V]? = some (.cells #[sv, .map (some M)] 108 (0, 0))
  dev : DHas W sv l
  map : IMap W M l.length (lastI (l.map (·.1))) D
theorem View.below {W W' : World} {V M : Nat} {sv : Value} {l : List DV} {D : DataW Unit} (h : View W V sv M l D) (hb : Below W.heap.size W W') : View W' V sv M l D :=
  ⟨(hb.block V (Array.getElem?_eq_some_iff.1 h.box).1).trans h.box, h.dev.below hb, h.map.below hb⟩

/-- A load of a whole row yields in every world in which the row lies. -/
theorem yieldsIf_load_row {P : Program} {ops : Array Oper} {S : World → Prop} {op : Oper} {a : Act} (hw : Region.wanted op (yielded ops a.tmps) = true) (ty : TypeId) (x : Operand) (ho : op.op = .load ty x)
    (g : Nat) (hx : a.eval x = .pointer (some ⟨g, 0, none⟩)) (t : TypeId) (cs : Array Value) (fr : Nat × Nat) (d : TypeDesc) (hS : ∀ w, S w → w.heap[g]? = some (.cells cs t fr))
    (hu : P.underlying ty = some d) (hd : (match d with | .struct _ | .array _ _ => true | _ => false) = true) (hi : (P.info? ty).map (·.size) = some cs.size) : YieldsIf P ops S op (.agg cs) a :=
  .inl ⟨hw, fun w hw' => by
    unfold execOp
    simp only [ho, hx, Instr.loadAt, Instr.sureAddr, Sem.run_bind, Sem.run_pure, Result.andThen_ok, run_loadVar_row w g t ty cs fr d (hS w hw') hu hd hi]⟩

set_option maxHeartbeats 1000000 in
set_option maxRecDepth 100000 in
theorem viewOf_any (sv : Value) (l : List DV) (w : World) (hl : l.length ≤ 1000000) (h : DHas w sv l) (hc : ∀ a n c, sv = .slice a n c → n ≤ c) (hwf : ∀ x ∈ l, (Lit.int .i64 x.1.idx).wf = true) :
    Calls Try.prog 67 #[.agg #[sv]] w fun e w' => ∃ V M D sv', e = .returned (.pointer (some ⟨V, 0, none⟩)) ∧ w.heap.size ≤ V ∧ w.heap.size ≤ M ∧ View w' V sv' M l D ∧ Below w.heap.size w w' := by
  obtain ⟨a, c, rfl, hrow⟩ := h.form
  have hnc := hc a l.length c rfl
  have HD := Lib.hid h
  have HWf := Lib.hid hwf
  have Hhl := Lib.hid hl
  obtain ⟨N, hN⟩ : ∃ N, l.length = N := ⟨_, rfl⟩
  rw [hN] at hnc ⊢
  have HN := Lib.hid hN
  have hboxw := heap_alloc_last w (.cells #[.slice a N c] 35)
  have Hb0 := Lib.hid ((Below.refl _ w).alloc (Nat.le_refl _) (.cells #[.slice a N c] 35))
  clear hrow hl h hc hwf hN
  go_enter Try.func67, Try.ntmps67
  go_wp2
  generalize w.alloc (.cells #[.slice a N c] 35) = W1 at *
  obtain ⟨Bz, hBz⟩ : ∃ Bz, w.heap.size = Bz := ⟨_, rfl⟩
  rw [hBz] at hboxw ⊢
  have HBox := Lib.hid hboxw
  have HBz := Lib.hid hBz
  clear hboxw hBz
  have HS := Lib.hid (show ∀ W, Below W1.heap.size W1 W → (W.heap[Bz]? = some (.cells #[.slice a N c] 35 (0, 0)) ∧ W.cell? ⟨Bz, 0, none⟩ = some (.slice a N c)) from fun W hW => by
    have h1 := (hW.block Bz (Array.getElem?_eq_some_iff.1 HBox.out).1).trans HBox.out
    exact ⟨h1, by rw [cell_of_row _ _ 0 _ _ _ h1]; rfl⟩)
  have HP := Lib.hid (fun W (hW : Below w.heap.size w W) => placesI_any (.slice a l.length c) l W Hhl.out (HD.out.below hW) HWf.out)
  rw [HN.out] at HP
  refine wp_region_held_drew (S := fun W => W.heap[Bz]? = some (.cells #[.slice a N c] 35 (0, 0)) ∧ W.cell? ⟨Bz, 0, none⟩ = some (.slice a N c)) (by kernel_rfl) (HS.out _ (Below.refl _ _).drew) (fun hHeld => ?_)
  refine wpAnyH_take (i := 0) (oi := { dst := some 3, op := Op.fieldAddr 35 (Operand.tmp 1) 0, type := 0, pos := "view.go:24", after := #[], guard := none }) (v := .pointer (some ⟨Bz, 0, none⟩)) rfl (by kernel_rfl) (by kernel_rfl) (by kernel_rfl) (fun _ _ _ h => h) (Or.inl ⟨by rfl, fun w hSw => by clear hSw; go_simp⟩) (by assumption) ?_
  try simp only [Act.put, List.setIfInBounds_toArray, List.set_cons_zero, List.set_cons_succ]
  refine wpAnyH_take (i := 1) (oi := { dst := some 4, op := Op.load 33 (Operand.tmp 3), type := 33, pos := "view.go:24", after := #[{ on := 0, ground := Ground.data }], guard := none }) (v := .slice a N c) rfl (by kernel_rfl) (by kernel_rfl) (by kernel_rfl) (fun _ _ _ h => h) (Or.inl ⟨by rfl, fun w hSw => by obtain ⟨hS0, hS1⟩ := hSw; clear hS0; go_simp⟩) (by assumption) ?_
  try simp only [Act.put, List.setIfInBounds_toArray, List.set_cons_zero, List.set_cons_succ]
  refine wpAnyH_take (i := 3) (oi := { dst := some 6, op := Op.load 35 (Operand.tmp 1), type := 35, pos := "view.go:24", after := #[], guard := none }) (v := .agg #[.slice a N c]) rfl (by kernel_rfl) (by kernel_rfl) (by kernel_rfl) (fun _ _ _ h => h) (yieldsIf_load_row (by rfl) 35 (.tmp 1) rfl Bz rfl 35 #[.slice a N c] (0, 0) _ (fun w h => h.1) Try.underlying35 rfl (by kernel_rfl)) (by assumption) ?_
  try simp only [Act.put, List.setIfInBounds_toArray, List.set_cons_zero, List.set_cons_succ]
  refine wpAnyH_ready (rs := [2]) (by kernel_rfl) (by simp) ?_
  refine AllReadyH.cons (o := { dst := some 5, op := Op.call { callee := Callee.value (Operand.func 86), args := #[Operand.tmp 4], argTypes := #[33] }, type := 33, pos := "view.go:24", after := #[{ on := 1, ground := Ground.data }], guard := none }) rfl (fun K hK => ?_) AllReadyH.nil
  go_simp
  refine (clip_any a N c _ hnc).mono ?_
  rintro e W2 ⟨rfl, rfl⟩
  dsimp only
  refine hK.out _ _ (HS.out _ (Below.refl _ _).drew) (fun hHeld => ?_)
  try simp only [Act.put, List.setIfInBounds_toArray, List.set_cons_zero, List.set_cons_succ]
  clear hK
  refine wpAnyH_ready (rs := [4]) (by kernel_rfl) (by simp) ?_
  refine AllReadyH.cons (o := { dst := some 7, op := Op.call { callee := Callee.value (Operand.func 84), args := #[Operand.tmp 6, Operand.func 66], argTypes := #[35, 103] }, type := 106, pos := "view.go:24", after := #[{ on := 3, ground := Ground.data }, { on := 2, ground := Ground.chain }], guard := none }) rfl (fun K hK => ?_) AllReadyH.nil
  go_simp
  refine (HP.out W1.drew Hb0.out.drew).mono ?_
  rintro e W2 ⟨M, D, rfl, hM, him, hb⟩
  dsimp only
  have hb2 : Below W1.heap.size W1 W2 := ((Below.refl _ W1).drew).trans hb
  refine hK.out _ _ (HS.out _ hb2) (fun hHeld => ?_)
  try simp only [Act.put, List.setIfInBounds_toArray, List.set_cons_zero, List.set_cons_succ]
  clear hK
  refine wpAnyH_take (i := 5) (oi := { dst := some 8, op := Op.build 108 #[(0, Operand.tmp 5), (1, Operand.tmp 7)], type := 108, pos := "view.go:24", after := #[{ on := 2, ground := Ground.data }, { on := 4, ground := Ground.data }], guard := none }) (v := .agg #[.slice a N N, .map (some M)]) rfl (by kernel_rfl) (by kernel_rfl) (by kernel_rfl) (fun _ _ _ h => h) (Or.inl ⟨by rfl, fun w hSw => by clear hSw; go_simp⟩) (by assumption) ?_
  try simp only [Act.put, List.setIfInBounds_toArray, List.set_cons_zero, List.set_cons_succ]
  have hb3 := hb2.alloc hb2.size (.cells #[.slice a N N, .map (some M)] 108)
  refine wpAnyH_ready (rs := [6]) (by kernel_rfl) (by simp) ?_
  refine AllReadyH.cons (o := { dst := some 9, op := Op.box 108 (Operand.tmp 8), type := 104, pos := "view.go:24", after := #[{ on := 5, ground := Ground.data }], guard := none }) rfl (fun K hK => ?_) AllReadyH.nil
  go_simp
  refine hK.out _ _ (HS.out _ hb3) (fun hHeld => ?_)
  try simp only [Act.put, List.setIfInBounds_toArray, List.set_cons_zero, List.set_cons_succ]
  clear hK
  refine wpAnyH_take (i := 7) (oi := { dst := some 2, op := Op.assign (Operand.tmp 9), type := 104, pos := "view.go:24", after := #[{ on := 6, ground := Ground.data }, { on := 4, ground := Ground.chain }, { on := 0, ground := Ground.phase }, { on := 1, ground := Ground.phase }, { on := 2, ground := Ground.phase }, { on := 3, ground := Ground.phase }, { on := 4, ground := Ground.phase }, { on := 5, ground := Ground.phase }, { on := 6, ground := Ground.phase }], guard := none }) (v := .pointer (some ⟨W2.heap.size, 0, none⟩)) rfl (by kernel_rfl) (by kernel_rfl) (by kernel_rfl) (fun _ _ _ h => h) (Or.inl ⟨by rfl, fun w hSw => by clear hSw; go_simp⟩) (by assumption) ?_
  try simp only [Act.put, List.setIfInBounds_toArray, List.set_cons_zero, List.set_cons_succ]
  refine wpAnyH_done (by kernel_rfl) ?_ _
  have HV := Lib.hid (show View (W2.alloc (.cells #[.slice a N N, .map (some M)] 108)) W2.heap.size (.slice a N N) M l D from ⟨heap_alloc_last _ _, by
    have h1 := (HD.out.below (Hb0.out.trans (hb3.mono Hb0.out.size))).clip
    rw [HN.out] at h1
    exact h1, by
    rw [HN.out]
    exact him.below ((Below.refl _ W2).alloc (Nat.le_refl _) _)⟩)
  have HbF := Lib.hid (show Below w.heap.size w (W2.alloc (.cells #[.slice a N N, .map (some M)] 108)) from Hb0.out.trans (hb3.mono Hb0.out.size))
  have HMl := Lib.hid (show w.heap.size ≤ M ∧ w.heap.size ≤ W2.heap.size from ⟨Nat.le_trans Hb0.out.size hM, Nat.le_trans Hb0.out.size hb2.size⟩)
  clear him hM hb hb2 hb3 hHeld
  go_wp2
  go_ret
  exact ⟨W2.heap.size, M, D, _, rfl, HMl.out.2, HMl.out.1, HV.out, HbF.out⟩
end Go.Proofs.Ythblgkjmjfhkdaa.De
