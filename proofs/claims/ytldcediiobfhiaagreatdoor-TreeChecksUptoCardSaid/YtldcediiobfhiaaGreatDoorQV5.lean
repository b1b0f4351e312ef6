/- A view of no devices. add. -/
import Derived.Test.YtldcediiobfhiaaGreatDoorQD2
import Derived.Test.YtldcediiobfhiaaGreatDoorQAB
import Derived.StillTailTactics
import Derived.Test.YtldcediiobfhiaaGreatDoorQMg
namespace Go.Proofs.YtldcediiobfhiaaGreatDoor.De
open Go.RowKit Go.Maps
/-- Block V is a view whose devices lie in a row of its own, made since the world w0. -/
structure OView (w0 W : World) (V M B : Nat) (sv : Value) (l : List DV) (D : DataW Unit) : Prop where
 box : W.heap[V]? = some (.cells #[sv, .map (some M)] 84 (0, 0))
 own : W.ownsRow B 34 10 sv l.length (dvsC l)
 ats : ∀ x ∈ l, Has w0 x.2 x.1.ats
 map : IMap W M l.length (lastI (l.map (·.1))) D
 bel : Below w0.heap.size w0 W
 lv : w0.heap.size ≤ V
 lm : w0.heap.size ≤ M
 mv : M < V
 vb : V < B
 bs : B ≤ W.heap.size
theorem OView.view {w0 W : World} {V M B : Nat} {sv : Value} {l : List DV} {D : DataW Unit} (h : OView w0 W V M B sv l D) : View W V sv M l D := ⟨h.box, DOwn.has ⟨h.own, fun x hx => (h.ats x hx).below h.bel⟩, h.map⟩
theorem OView.kp {w0 W W' : World} {V M B : Nat} {sv : Value} {l : List DV} {D : DataW Unit} (h : OView w0 W V M B sv l D) (hk : Kp [] W W') : OView w0 W' V M B sv l D :=
 have hb := hk.below (Nat.le_refl _) (by simp)
 ⟨(hk.block V (Array.getElem?_eq_some_iff.1 h.box).1 (by simp)).trans h.box, h.own.kept (row := none) ⟨hk.os, hk.tape, hk.output, hk.size, fun k hk1 _ => hk.block k hk1 (by simp)⟩ (by cases sv.ownBlock <;> simp), h.ats, h.map.below hb, h.bel.trans (hb.mono h.bel.size), h.lv, h.lm, h.mv, h.vb, Nat.le_trans h.bs hk.size⟩
set_option maxHeartbeats 1000000 in
set_option maxRecDepth 100000 in
theorem viewOf0_any (w : World) :
  Calls Tryz.prog 52 #[.agg #[.slice none 0 0]] w fun e w' => ∃ V M D, e = .returned (.pointer (some ⟨V, 0, none⟩)) ∧ OView w w' V M w'.heap.size (.slice none 0 0) [] D := by
 obtain ⟨l, hl0⟩ : ∃ l : List DV, l = [] := ⟨_, rfl⟩
 obtain ⟨a, ha⟩ : ∃ a : Option Addr, a = none := ⟨_, rfl⟩
 obtain ⟨c, hc0⟩ : ∃ c : Nat, c = 0 := ⟨_, rfl⟩
 have h : DHas w (.slice a l.length c) l := by subst hl0; exact .inl ⟨_, _, rfl, rfl⟩
 have hwf : ∀ x ∈ l, (Lit.int .i64 x.1.idx).wf = true := by subst hl0; simp
 have hl : l.length ≤ 1000000 := by subst hl0; simp
 have hnc : l.length ≤ c := by subst hl0; simp
 have hrow : l ≠ [] → False := fun h => h hl0
 have hc : True := trivial
 have hshow : (Value.slice none 0 0) = .slice a l.length c := by subst hl0 ha hc0; rfl
 rw [hshow]
 have HL0 := Lib.hid hl0
 have HA0 := Lib.hid ha
 have HC0 := Lib.hid hc0
 clear hl0 ha hc0 hshow
 have HD := Lib.hid h
 have HWf := Lib.hid hwf
 have Hhl := Lib.hid hl
 obtain ⟨N, hN⟩ : ∃ N, l.length = N := ⟨_, rfl⟩
 rw [hN] at hnc ⊢
 have HN := Lib.hid hN
 have hboxw := heap_alloc_last w (.cells #[.slice a N c] 29)
 have Hb0 := Lib.hid ((Below.refl _ w).alloc (Nat.le_refl _) (.cells #[.slice a N c] 29))
 clear hrow hl h hc hwf hN
 go_enter Tryz.func52, Tryz.ntmps52
 go_wp2
 generalize w.alloc (.cells #[.slice a N c] 29) = W1 at *
 obtain ⟨Bz, hBz⟩ : ∃ Bz, w.heap.size = Bz := ⟨_, rfl⟩
 rw [hBz] at hboxw ⊢
 have HBox := Lib.hid hboxw
 have HBz := Lib.hid hBz
 clear hboxw hBz
 have HS := Lib.hid (show ∀ W, Below W1.heap.size W1 W → (W.heap[Bz]? = some (.cells #[.slice a N c] 29 (0, 0)) ∧ W.cell? ⟨Bz, 0, none⟩ = some (.slice a N c)) from fun W hW => by
  have h1 := (hW.block Bz (Array.getElem?_eq_some_iff.1 HBox.out).1).trans HBox.out
  exact ⟨h1, by rw [cell_of_row _ _ 0 _ _ _ h1]; rfl⟩)
 have HP := Lib.hid (fun W (hW : Below w.heap.size w W) => placesI_any (.slice a l.length c) l W Hhl.out (HD.out.below hW) HWf.out)
 rw [HN.out] at HP
 refine wp_region_held_drew (S := fun W => W.heap[Bz]? = some (.cells #[.slice a N c] 29 (0, 0)) ∧ W.cell? ⟨Bz, 0, none⟩ = some (.slice a N c)) (by kernel_rfl) (HS.out _ (Below.refl _ _).drew) (fun hHeld => ?_)
 refine wpAnyH_take (i := 0) (oi := { dst := some 3, op := Op.fieldAddr 29 (Operand.tmp 1) 0, type := 0, pos := "view.go:24", after := #[], guard := none }) (v := .pointer (some ⟨Bz, 0, none⟩)) rfl (by kernel_rfl) (by kernel_rfl) (by kernel_rfl) (fun _ _ _ h => h) (Or.inl ⟨by rfl, fun w hSw => by clear hSw; go_simp⟩) (by assumption) ?_
 try simp only [Act.put, List.setIfInBounds_toArray, List.set_cons_zero, List.set_cons_succ]
 refine wpAnyH_take (i := 1) (oi := { dst := some 4, op := Op.load 22 (Operand.tmp 3), type := 22, pos := "view.go:24", after := #[{ on := 0, ground := Ground.data }], guard := none }) (v := .slice a N c) rfl (by kernel_rfl) (by kernel_rfl) (by kernel_rfl) (fun _ _ _ h => h) (Or.inl ⟨by rfl, fun w hSw => by obtain ⟨hS0, hS1⟩ := hSw; clear hS0; go_simp⟩) (by assumption) ?_
 try simp only [Act.put, List.setIfInBounds_toArray, List.set_cons_zero, List.set_cons_succ]
 refine wpAnyH_take (i := 3) (oi := { dst := some 6, op := Op.load 29 (Operand.tmp 1), type := 29, pos := "view.go:24", after := #[], guard := none }) (v := .agg #[.slice a N c]) rfl (by kernel_rfl) (by kernel_rfl) (by kernel_rfl) (fun _ _ _ h => h) (yieldsIf_load_row (by rfl) 29 (.tmp 1) rfl Bz rfl 29 #[.slice a N c] (0, 0) _ (fun w h => h.1) Tryz.underlying29 rfl (by kernel_rfl)) (by assumption) ?_
 try simp only [Act.put, List.setIfInBounds_toArray, List.set_cons_zero, List.set_cons_succ]
 refine wpAnyH_ready (rs := [2]) (by kernel_rfl) (by simp) ?_
 refine AllReadyH.cons (o := { dst := some 5, op := Op.call { callee := Callee.value (Operand.func 89), args := #[Operand.tmp 4], argTypes := #[22] }, type := 22, pos := "view.go:24", after := #[{ on := 1, ground := Ground.data }], guard := none }) rfl (fun K hK => ?_) AllReadyH.nil
 go_simp
 refine (clip_any a N c _ hnc).mono ?_
 rintro e W2 ⟨rfl, rfl⟩
 dsimp only
 refine hK.out _ _ (HS.out _ (Below.refl _ _).drew) (fun hHeld => ?_)
 try simp only [Act.put, List.setIfInBounds_toArray, List.set_cons_zero, List.set_cons_succ]
 clear hK
 refine wpAnyH_ready (rs := [4]) (by kernel_rfl) (by simp) ?_
 refine AllReadyH.cons (o := { dst := some 7, op := Op.call { callee := Callee.value (Operand.func 90), args := #[Operand.tmp 6, Operand.func 62], argTypes := #[29, 73] }, type := 82, pos := "view.go:24", after := #[{ on := 3, ground := Ground.data }, { on := 2, ground := Ground.chain }], guard := none }) rfl (fun K hK => ?_) AllReadyH.nil
 go_simp
 refine (HP.out W1.drew Hb0.out.drew).mono ?_
 rintro e W2 ⟨M, D, rfl, hM, him, hb⟩
 dsimp only
 have hb2 : Below W1.heap.size W1 W2 := ((Below.refl _ W1).drew).trans hb
 refine hK.out _ _ (HS.out _ hb2) (fun hHeld => ?_)
 try simp only [Act.put, List.setIfInBounds_toArray, List.set_cons_zero, List.set_cons_succ]
 clear hK
 refine wpAnyH_take (i := 5) (oi := { dst := some 8, op := Op.build 84 #[(0, Operand.tmp 5), (1, Operand.tmp 7)], type := 84, pos := "view.go:24", after := #[{ on := 2, ground := Ground.data }, { on := 4, ground := Ground.data }], guard := none }) (v := .agg #[.slice a N N, .map (some M)]) rfl (by kernel_rfl) (by kernel_rfl) (by kernel_rfl) (fun _ _ _ h => h) (Or.inl ⟨by rfl, fun w hSw => by clear hSw; go_simp⟩) (by assumption) ?_
 try simp only [Act.put, List.setIfInBounds_toArray, List.set_cons_zero, List.set_cons_succ]
 have hb3 := hb2.alloc hb2.size (.cells #[.slice a N N, .map (some M)] 84)
 refine wpAnyH_ready (rs := [6]) (by kernel_rfl) (by simp) ?_
 refine AllReadyH.cons (o := { dst := some 9, op := Op.box 84 (Operand.tmp 8), type := 64, pos := "view.go:24", after := #[{ on := 5, ground := Ground.data }], guard := none }) rfl (fun K hK => ?_) AllReadyH.nil
 go_simp
 refine hK.out _ _ (HS.out _ hb3) (fun hHeld => ?_)
 try simp only [Act.put, List.setIfInBounds_toArray, List.set_cons_zero, List.set_cons_succ]
 clear hK
 refine wpAnyH_take (i := 7) (oi := { dst := some 2, op := Op.assign (Operand.tmp 9), type := 64, pos := "view.go:24", after := #[{ on := 6, ground := Ground.data }, { on := 4, ground := Ground.chain }, { on := 0, ground := Ground.phase }, { on := 1, ground := Ground.phase }, { on := 2, ground := Ground.phase }, { on := 3, ground := Ground.phase }, { on := 4, ground := Ground.phase }, { on := 5, ground := Ground.phase }, { on := 6, ground := Ground.phase }], guard := none }) (v := .pointer (some ⟨W2.heap.size, 0, none⟩)) rfl (by kernel_rfl) (by kernel_rfl) (by kernel_rfl) (fun _ _ _ h => h) (Or.inl ⟨by rfl, fun w hSw => by clear hSw; go_simp⟩) (by assumption) ?_
 try simp only [Act.put, List.setIfInBounds_toArray, List.set_cons_zero, List.set_cons_succ]
 refine wpAnyH_done (by kernel_rfl) ?_ _
 have HbF := Lib.hid (show Below w.heap.size w (W2.alloc (.cells #[.slice a N N, .map (some M)] 84)) from Hb0.out.trans (hb3.mono Hb0.out.size))
 have HMl := Lib.hid (show w.heap.size ≤ M ∧ w.heap.size ≤ W2.heap.size from ⟨Nat.le_trans Hb0.out.size hM, Nat.le_trans Hb0.out.size hb2.size⟩)
 have HMV := Lib.hid him.lt
 have HIM := Lib.hid (him.below ((Below.refl _ W2).alloc (Nat.le_refl _) (.cells #[.slice a N N, .map (some M)] 84)))
 clear him hM hb hb2 hb3 hHeld
 go_wp2
 go_ret
 have hN0 : N = 0 := by rw [← HN.out, HL0.out]; rfl
 have hl0 := HL0.out
 have ha0 := HA0.out
 have hc0 := HC0.out
 subst hc0
 subst hl0
 subst hN0
 subst ha0
 exact ⟨W2.heap.size, M, D, rfl, ⟨heap_alloc_last _ _, World.ownsRow_nil _ _ _ _, by simp, HIM.out, HbF.out, HMl.out.2, HMl.out.1, HMV.out, by simp, Nat.le_refl _⟩⟩
end Go.Proofs.YtldcediiobfhiaaGreatDoor.De
namespace Go.Proofs.YtldcediiobfhiaaGreatDoor.De
open Go.RowKit Go.Maps
theorem cell0 {W : World} {V M L vcp : Nat} {va : Option Addr} (h : W.heap[V]? = some (.cells #[.slice va L vcp, .map (some M)] 84 (0, 0))) : W.cell? ⟨V, 0, none⟩ = some (.slice va L vcp) := by rw [cell_of_row _ _ _ _ _ _ h]; rfl
theorem add_fin {w0 W1 wd W6 W7 : World} {V M B L vcp g7 cap7 : Nat} {va : Option Addr} {l : List DV} {d : ADev} {dv : Value} {D D' : DataW Unit} (hO : OView w0 W1 V M B (.slice va L vcp) l D) (hL : l.length = L) (hat : Has w0 dv d.ats) (hd4 : Below w0.heap.size w0 wd) (hd5 : IMap wd M (L + 1) (lastI ((l ++ [(d, dv)]).map (·.1))) D') (hkn : Kp [] wd W6) (hgr : W6.grownBy W7 (Value.slice va L vcp).ownBlock)
  (how : W7.ownsRow B 34 10 (.slice (some ⟨g7, 0, none⟩) (L + 1) cap7) (L + 1) (dvsC l ++ dvC d dv)) (hv : W7.heap[V]? = some (.cells #[.slice va L vcp, .map (some M)] 84 (0, 0))) (hg7 : B ≤ g7) (hg7s : g7 < W7.heap.size) (hnb : ∀ k, (Value.slice va L vcp).ownBlock = some k → k ≠ M ∧ k ≠ V) :
  OView w0 (W7.setCell ⟨V, 0, none⟩ (.slice (some ⟨g7, 0, none⟩) (L + 1) cap7)) V M B (.slice (some ⟨g7, 0, none⟩) (L + 1) cap7) (l ++ [(d, dv)]) D' := by
 have hVB := hO.vb
 have hMV := hO.mv
 have hb6 : Below w0.heap.size w0 W6 := hd4.trans (hkn.bel.mono hd4.size)
 have hb7 : Below w0.heap.size w0 W7 := hb6.grown hgr hb6.size (fun k hk => by have h1 := (hO.own.lt k hk).1; have h2 := hO.lv; omega)
 have hM7 : W7.heap[M]? = wd.heap[M]? := (hgr.block M (by have := hd5.lt; have := hkn.size; omega) (fun e => (hnb M e.symm).1 rfl)).trans (hkn.block M hd5.lt (by simp))
 refine ⟨?_, ?_, ?_, ?_, hb7.setCell hO.lv _, hO.lv, hO.lm, hMV, hVB, ?_⟩
 ·simp [World.setCell, Array.getElem?_modify, hv]
 ·rw [List.length_append, hL, dvsC_append]
  have h1 : dvsC [(d, dv)] = dvC d dv := by simp [dvsC]
  rw [h1]
  refine how.kept (row := some V) ⟨rfl, rfl, rfl, by simp, fun k hk hn => Below.heap_setCell W7 ⟨V, 0, none⟩ _ k (fun e => hn (by rw [e]))⟩ (.inr fun e => ?_)
  have e2 : g7 = V := by simpa [Value.ownBlock] using e
  omega
 ·intro x hx
  rcases List.mem_append.1 hx with hx | hx
  ·exact hO.ats x hx
  ·rw [List.mem_singleton.1 hx]
   exact hat
 ·rw [List.length_append, hL]
  exact hd5.kept ((Below.heap_setCell W7 ⟨V, 0, none⟩ _ M (by show M ≠ V; omega)).trans hM7)
 ·rw [World.size_setCell]
  omega
set_option maxRecDepth 100000 in
set_option maxHeartbeats 4000000 in
theorem add_any {w0 w : World} {V M B : Nat} {sv : Value} {l : List DV} {D : DataW Unit} (hO : OView w0 w V M B sv l D) (d : ADev) (b : Option Addr) (n c : Nat) (hat : Has w0 (.slice b n c) d.ats) (hwf : (Lit.int .i64 d.idx).wf = true) (hN : l.length + 1 ≤ 100000) :
  Calls Tryz.prog 54 #[.pointer (some ⟨V, 0, none⟩), .agg #[.int .i64 d.idx, .int .i64 d.par, .string d.name, .string d.orig, .string d.sub, .string d.drv, .string d.ali, .int .i64 d.kind, .int .i64 d.num, .slice b n c]] w fun e w' => e = .returned (.tuple #[]) ∧ ∃ sv' D', OView w0 w' V M B sv' (l ++ [(d, .slice b n c)]) D' := by
 obtain ⟨W1, hW1⟩ : ∃ W1, w.alloc (.cells #[.int .i64 d.idx, .int .i64 d.par, .string d.name, .string d.orig, .string d.sub, .string d.drv, .string d.ali, .int .i64 d.kind, .int .i64 d.num, .slice b n c] 34) = W1 := ⟨_, rfl⟩
 obtain ⟨Bd, hBd⟩ : ∃ B, w.heap.size = B := ⟨_, rfl⟩
 have hk1 : Kp [] w W1 := by rw [← hW1]; exact (Kp.refl [] w).alloc _
 have hbx : BoxAt W1 Bd #[.int .i64 d.idx, .int .i64 d.par, .string d.name, .string d.orig, .string d.sub, .string d.drv, .string d.ali, .int .i64 d.kind, .int .i64 d.num, .slice b n c] := by rw [← hW1, ← hBd]; exact heap_alloc_last w _
 have hO1 := hO.kp hk1
 obtain ⟨L, hL⟩ : ∃ L, l.length = L := ⟨_, rfl⟩
 have hsv : ∃ a cp, sv = .slice a L cp := by
  obtain ⟨a, cp, e, -⟩ := hO1.view.dev.form
  rw [hL] at e
  exact ⟨a, cp, e⟩
 obtain ⟨va, vcp, rfl⟩ := hsv
 have hnb3 : ∀ k, (Value.slice va L vcp).ownBlock = some k → k ≠ Bd := fun k hk e => by have := (hO.own.lt k hk).2; omega
 have v0 : W1.cell? ⟨V, 0, none⟩ = some (.slice va L vcp) := by rw [cell_of_row _ _ _ _ _ _ hO1.box]; rfl
 have v1 : W1.cell? ⟨V, 1, none⟩ = some (.map (some M)) := by rw [cell_of_row _ _ _ _ _ _ hO1.box]; rfl
 have c0 : W1.cell? ⟨Bd, 0, none⟩ = some (.int .i64 d.idx) := hbx.cell 0
 have HO := Lib.hid hO1
 have HBX := Lib.hid hbx
 have HL := Lib.hid hL
 have Hwf := Lib.hid hwf
 have HBd := Lib.hid (show B ≤ Bd by rw [← hBd]; exact hO.bs)
 have Hat := Lib.hid hat
 have HN := Lib.hid hN
 have hmb := HO.out.map.below (Below.refl _ W1).drew
 rw [hL] at hmb
 have HMb := Lib.hid hmb
 clear hmb
 clear hO hO1 hk1 hbx hL hwf hat hN
 go_enter Tryz.func54, Tryz.ntmps54
 go_upto_region 1 with fail
 go_still_tail 11, (by kernel_rfl)
 change wpList _ _ _ _ _ W1.drew
 go_upto_region 2 with (at_mapUpdate; refine wpList_mapUpdate_own _ rfl _ _ _ 82 rfl 3 3 lawI Tryz.underlying82 _ M L D rfl HMb.out.own (by have := HN.out; have := HL.out; unfold maxLen; omega) _ _ _ rfl rfl (keyI Hwf.out) (.lit (.int .i64 (L : Int))) [] (plainElem_int Tryz.underlying3 (wfI (by have := HN.out; have := HL.out; omega))) ?_; intro w3 hown3 hgr3; have Hown3 := Lib.hid hown3; have Hgr3 := Lib.hid hgr3; clear hown3 hgr3)
 have hLl : ((l.map (·.1))).length = L := by rw [List.length_map, HL.out]
 have Him3 := Lib.hid (show IMap w3 M (L + 1) (lastI ((l ++ [(d, Value.slice b n c)]).map (·.1))) (D.put (.int .i64 d.idx) (.lit (.int .i64 (L : Int)))) by
  rw [List.map_append]
  show IMap w3 M (L + 1) (lastI (l.map (·.1) ++ [d])) _
  rw [lastI_snoc, hLl]
  exact HMb.out.put Hwf.out Hown3.out)
 have hblk : ∀ k, k ≠ M → k < W1.heap.size → w3.heap[k]? = W1.heap[k]? := fun k h1 h2 => Hgr3.out.block k h2 (fun e => h1 (by cases e; rfl))
 have hVM : V ≠ M := by have := HO.out.mv; omega
 have hBM : Bd ≠ M := by have h1 := HO.out.mv; have h2 := HO.out.vb; have h3 := HBd.out; omega
 have hvb3 : w3.heap[V]? = some (.cells #[.slice va L vcp, .map (some M)] 84 (0, 0)) := (hblk V hVM (Array.getElem?_eq_some_iff.1 HO.out.box).1).trans HO.out.box
 have hbx3 : BoxAt w3 Bd #[.int .i64 d.idx, .int .i64 d.par, .string d.name, .string d.orig, .string d.sub, .string d.drv, .string d.ali, .int .i64 d.kind, .int .i64 d.num, .slice b n c] := (hblk Bd hBM (block_lt HBX.out)).trans HBX.out
 have u0 : w3.cell? ⟨V, 0, none⟩ = some (.slice va L vcp) := by rw [cell_of_row _ _ _ _ _ _ hvb3]; rfl
 have e0 : w3.cell? ⟨Bd, 0, none⟩ = some (.int .i64 d.idx) := hbx3.cell 0
 have e1 : w3.cell? ⟨Bd, 1, none⟩ = some (.int .i64 d.par) := hbx3.cell 1
 have e2 : w3.cell? ⟨Bd, 2, none⟩ = some (.string d.name) := hbx3.cell 2
 have e3 : w3.cell? ⟨Bd, 3, none⟩ = some (.string d.orig) := hbx3.cell 3
 have e4 : w3.cell? ⟨Bd, 4, none⟩ = some (.string d.sub) := hbx3.cell 4
 have e5 : w3.cell? ⟨Bd, 5, none⟩ = some (.string d.drv) := hbx3.cell 5
 have e6 : w3.cell? ⟨Bd, 6, none⟩ = some (.string d.ali) := hbx3.cell 6
 have e7 : w3.cell? ⟨Bd, 7, none⟩ = some (.int .i64 d.kind) := hbx3.cell 7
 have e8 : w3.cell? ⟨Bd, 8, none⟩ = some (.int .i64 d.num) := hbx3.cell 8
 have e9 : w3.cell? ⟨Bd, 9, none⟩ = some (.slice b n c) := hbx3.cell 9
 have hnb : ∀ k, (Value.slice va L vcp).ownBlock = some k → k ≠ M ∧ k ≠ V := fun k hk => by
  have h1 := (HO.out.own.lt k hk).1
  have h2 := HO.out.mv
  have h3 := HO.out.vb
  omega
 have hrow3 : w3.ownsRow B 34 10 (.slice va L vcp) L (dvsC l) := by
  have h1 := HO.out.own
  rw [HL.out] at h1
  refine World.ownsRow.kept (h1.drew) Hgr3.out ?_
  cases hq : (Value.slice va L vcp).ownBlock with
  | none => exact .inl rfl
  | some k => exact .inr fun e => (hnb k hq).1 (by cases e; rfl)
 have hb3 : Below w0.heap.size w0 w3 := (HO.out.bel.drew).grown Hgr3.out (by have := HO.out.bel.size; show _ ≤ W1.heap.size; omega) (fun k hk => by cases hk; exact HO.out.lm)
 have hz3 : W1.heap.size ≤ w3.drew.heap.size := Hgr3.out.size
 obtain ⟨i0, hi0, hz0, hz1, hz2⟩ := info_parts info34
 have hd1 : w3.drew.heap[V]? = some (.cells #[.slice va L vcp, .map (some M)] 84 (0, 0)) := hvb3
 have hd2 : BoxAt w3.drew Bd #[.int .i64 d.idx, .int .i64 d.par, .string d.name, .string d.orig, .string d.sub, .string d.drv, .string d.ali, .int .i64 d.kind, .int .i64 d.num, .slice b n c] := hbx3
 have hd3 : w3.drew.ownsRow B 34 10 (.slice va L vcp) L (dvsC l) := hrow3.drew
 have hd4 : Below w0.heap.size w0 w3.drew := hb3.drew
 have hd5 : IMap w3.drew M (L + 1) (lastI ((l ++ [(d, Value.slice b n c)]).map (·.1))) (D.put (.int .i64 d.idx) (.lit (.int .i64 (L : Int)))) := Him3.out.below (Below.refl _ w3).drew
 have hBs : B ≤ w3.drew.heap.size := by have := HO.out.bs; omega
 clear v0 v1 c0 hLl hblk hVM hBM hvb3 hbx3 hrow3 hb3 u0 e0 e1 e2 e3 e4 e5 e6 e7 e8 e9
 clear Hown3 Him3
 refine wp_region_held_drew (S := fun W => BoxAt W Bd #[.int .i64 d.idx, .int .i64 d.par, .string d.name, .string d.orig, .string d.sub, .string d.drv, .string d.ali, .int .i64 d.kind, .int .i64 d.num, .slice b n c]) (by kernel_rfl) hd2 (fun hHeld => ?_)
 generalize hwd : w3.drew = wd at *
 refine wpAnyH_take (i := 0) (oi := { dst := some 15, op := Op.move (Operand.tmp 0), type := 64, pos := "view.go:56", after := #[], guard := none }) (v := .pointer (some ⟨V, 0, none⟩)) rfl (by kernel_rfl) (by kernel_rfl) (by kernel_rfl) (fun _ _ _ h => h) (Or.inl ⟨by rfl, fun w hSw => by (try dsimp only at hSw); go_simp⟩) hHeld ?_
 try simp only [Act.put, List.setIfInBounds_toArray, List.set_cons_zero, List.set_cons_succ]
 refine wpAnyH_take (i := 1) (oi := { dst := some 16, op := Op.move (Operand.tmp 0), type := 64, pos := "view.go:56", after := #[], guard := none }) (v := .pointer (some ⟨V, 0, none⟩)) rfl (by kernel_rfl) (by kernel_rfl) (by kernel_rfl) (fun _ _ _ h => h) (Or.inl ⟨by rfl, fun w hSw => by (try dsimp only at hSw); go_simp⟩) hHeld ?_
 try simp only [Act.put, List.setIfInBounds_toArray, List.set_cons_zero, List.set_cons_succ]
 refine wpAnyH_take (i := 2) (oi := { dst := some 17, op := Op.nilCheck (Operand.tmp 16), type := 0, pos := "view.go:56", after := #[{ on := 1, ground := Ground.data }], guard := none }) (v := .pointer (some ⟨V, 0, none⟩)) rfl (by kernel_rfl) (by kernel_rfl) (by kernel_rfl) (fun _ _ _ h => h) (Or.inl ⟨by rfl, fun w hSw => by (try dsimp only at hSw); go_simp⟩) hHeld ?_
 try simp only [Act.put, List.setIfInBounds_toArray, List.set_cons_zero, List.set_cons_succ]
 refine wpAnyH_take (i := 3) (oi := { dst := some 18, op := Op.fieldAddr 84 (Operand.tmp 17) 0, type := 0, pos := "view.go:56", after := #[{ on := 2, ground := Ground.data }], guard := none }) (v := .pointer (some ⟨V, 0, none⟩)) rfl (by kernel_rfl) (by kernel_rfl) (by kernel_rfl) (fun _ _ _ h => h) (Or.inl ⟨by rfl, fun w hSw => by (try dsimp only at hSw); go_simp⟩) hHeld ?_
 try simp only [Act.put, List.setIfInBounds_toArray, List.set_cons_zero, List.set_cons_succ]
 refine wpAnyH_take (i := 5) (oi := { dst := some 20, op := Op.load 34 (Operand.tmp 3), type := 34, pos := "view.go:56", after := #[], guard := none }) (v := .agg #[.int .i64 d.idx, .int .i64 d.par, .string d.name, .string d.orig, .string d.sub, .string d.drv, .string d.ali, .int .i64 d.kind, .int .i64 d.num, .slice b n c]) rfl (by kernel_rfl) (by kernel_rfl) (by kernel_rfl) (fun _ _ _ h => h) (yieldsIf_load_row (by rfl) 34 (.tmp 3) rfl Bd rfl 34 #[.int .i64 d.idx, .int .i64 d.par, .string d.name, .string d.orig, .string d.sub, .string d.drv, .string d.ali, .int .i64 d.kind, .int .i64 d.num, .slice b n c] (0, 0) _ (fun w h => h) Tryz.underlying34 rfl info34b) hHeld ?_
 try simp only [Act.put, List.setIfInBounds_toArray, List.set_cons_zero, List.set_cons_succ]
 refine wpAnyH_ready (rs := [4, 6]) (by kernel_rfl) (by simp) ?_
 refine AllReadyH.cons (o := { dst := some 19, op := Op.load 22 (Operand.tmp 18), type := 22, pos := "view.go:56", after := #[{ on := 3, ground := Ground.data }], guard := none }) rfl (fun K hK => ?_) (AllReadyH.cons (o := { dst := some 21, op := Op.buildSlice 22 1 #[(0, Operand.tmp 20)], type := 22, pos := "view.go:56", after := #[{ on := 5, ground := Ground.data }], guard := none }) rfl (fun K hK => ?_) AllReadyH.nil)
 ·
  have q0 := cell0 hd1
  go_simp
  clear hHeld q0
  refine hK.out _ _ hd2 (fun hHeld => ?_)
  try simp only [Act.put, List.setIfInBounds_toArray, List.set_cons_zero, List.set_cons_succ]
  clear hK
  refine wpAnyH_ready (rs := [6]) (by kernel_rfl) (by simp) ?_
  refine AllReadyH.cons (o := { dst := some 21, op := Op.buildSlice 22 1 #[(0, Operand.tmp 20)], type := 22, pos := "view.go:56", after := #[{ on := 5, ground := Ground.data }], guard := none }) rfl (fun K hK => ?_) AllReadyH.nil
  go_simp
  have hkn := (Kp.refl [] wd).alloc (.cells #[.int .i64 d.idx, .int .i64 d.par, .string d.name, .string d.orig, .string d.sub, .string d.drv, .string d.ali, .int .i64 d.kind, .int .i64 d.num, .slice b n c] 34)
  have hg8 := heap_alloc_last wd (.cells #[.int .i64 d.idx, .int .i64 d.par, .string d.name, .string d.orig, .string d.sub, .string d.drv, .string d.ali, .int .i64 d.kind, .int .i64 d.num, .slice b n c] 34)
  have hsz := World.size_alloc wd (.cells #[.int .i64 d.idx, .int .i64 d.par, .string d.name, .string d.orig, .string d.sub, .string d.drv, .string d.ali, .int .i64 d.kind, .int .i64 d.num, .slice b n c] 34)
  generalize wd.alloc (.cells #[.int .i64 d.idx, .int .i64 d.par, .string d.name, .string d.orig, .string d.sub, .string d.drv, .string d.ali, .int .i64 d.kind, .int .i64 d.num, .slice b n c] 34) = W6 at *
  have hs6 : W6.heap[V]? = some (.cells #[.slice va L vcp, .map (some M)] 84 (0, 0)) ∧ BoxAt W6 Bd #[.int .i64 d.idx, .int .i64 d.par, .string d.name, .string d.orig, .string d.sub, .string d.drv, .string d.ali, .int .i64 d.kind, .int .i64 d.num, .slice b n c] := ⟨(hkn.block V (Array.getElem?_eq_some_iff.1 hd1).1 (by simp)).trans hd1, (hkn.block Bd (block_lt hd2) (by simp)).trans hd2⟩
  have how6 : W6.ownsRow B 34 10 (.slice va L vcp) L (dvsC l) := hd3.kept (row := none) ⟨hkn.os, hkn.tape, hkn.output, hkn.size, fun k hk1 _ => hkn.block k hk1 (by simp)⟩ (by cases (Value.slice va L vcp).ownBlock <;> simp)
  clear hHeld
  refine hK.out _ _ hs6.2 (fun hHeld => ?_)
  try simp only [Act.put, List.setIfInBounds_toArray, List.set_cons_zero, List.set_cons_succ]
  clear hK
  refine wpAnyH_ready (rs := [7]) (by kernel_rfl) (by simp) ?_
  refine AllReadyH.cons (o := { dst := some 22, op := Op.call { callee := Callee.builtin Builtin.append, args := #[Operand.tmp 19, Operand.tmp 21], argTypes := #[22, 22] }, type := 22, pos := "view.go:56", after := #[{ on := 4, ground := Ground.data }, { on := 6, ground := Ground.data }], guard := none }) rfl (fun K hK => ?_) AllReadyH.nil
  obtain ⟨v7, W7, hrun, how, hgr, -⟩ := run_append_own (P := Tryz.prog) W6 B 22 22 34 i0 _ 10 136 Tryz.underlying22 hi0 hz0 hz1 hz2 rfl (by decide) (.slice va L vcp) L _ how6 ⟨wd.heap.size, 0, none⟩ 1 1 (dvC d (.slice b n c)) rfl (fun j u hj => by rw [Addr.add_mid, Nat.zero_add, cell_of_row _ _ _ _ _ _ hg8]; exact (by simpa [dvC] using hj)) (dvC_one rfl) (by have := HN.out; have := HL.out; unfold maxLen; omega) (by have := HN.out; have := HL.out; omega) (by omega)
  have HR := Lib.hid hrun
  obtain ⟨g7, cap7, rfl, hg7, hg7s⟩ := how.form (by omega)
  have hs7 : W7.heap[V]? = some (.cells #[.slice va L vcp, .map (some M)] 84 (0, 0)) ∧ BoxAt W7 Bd #[.int .i64 d.idx, .int .i64 d.par, .string d.name, .string d.orig, .string d.sub, .string d.drv, .string d.ali, .int .i64 d.kind, .int .i64 d.num, .slice b n c] := ⟨(hgr.block V (Array.getElem?_eq_some_iff.1 hs6.1).1 (fun e => (hnb V e.symm).2 rfl)).trans hs6.1, (hgr.block Bd (block_lt hs6.2) (fun e => (hnb3 Bd e.symm) rfl)).trans hs6.2⟩
  clear hHeld hrun
  refine step_append_run rfl _ _ rfl _ _ _ rfl rfl HR.out ?_
  refine hK.out _ _ hs7.2 (fun hHeld => ?_)
  try simp only [Act.put, List.setIfInBounds_toArray, List.set_cons_zero, List.set_cons_succ]
  clear hK HR
  refine wpAnyH_take (i := 8) (oi := { dst := some 23, op := Op.nilCheck (Operand.tmp 15), type := 0, pos := "view.go:56", after := #[{ on := 0, ground := Ground.data }, { on := 0, ground := Ground.phase }, { on := 1, ground := Ground.phase }, { on := 2, ground := Ground.phase }, { on := 3, ground := Ground.phase }, { on := 4, ground := Ground.phase }, { on := 5, ground := Ground.phase }, { on := 6, ground := Ground.phase }, { on := 7, ground := Ground.phase }], guard := none }) (v := .pointer (some ⟨V, 0, none⟩)) rfl (by kernel_rfl) (by kernel_rfl) (by kernel_rfl) (fun _ _ _ h => h) (Or.inl ⟨by rfl, fun w hSw => by (try dsimp only at hSw); go_simp⟩) hHeld ?_
  try simp only [Act.put, List.setIfInBounds_toArray, List.set_cons_zero, List.set_cons_succ]
  refine wpAnyH_take (i := 9) (oi := { dst := some 24, op := Op.fieldAddr 84 (Operand.tmp 23) 0, type := 0, pos := "view.go:56", after := #[{ on := 8, ground := Ground.data }, { on := 0, ground := Ground.phase }, { on := 1, ground := Ground.phase }, { on := 2, ground := Ground.phase }, { on := 3, ground := Ground.phase }, { on := 4, ground := Ground.phase }, { on := 5, ground := Ground.phase }, { on := 6, ground := Ground.phase }, { on := 7, ground := Ground.phase }], guard := none }) (v := .pointer (some ⟨V, 0, none⟩)) rfl (by kernel_rfl) (by kernel_rfl) (by kernel_rfl) (fun _ _ _ h => h) (Or.inl ⟨by rfl, fun w hSw => by (try dsimp only at hSw); go_simp⟩) hHeld ?_
  try simp only [Act.put, List.setIfInBounds_toArray, List.set_cons_zero, List.set_cons_succ]
  refine wpAnyH_ready (rs := [10]) (by kernel_rfl) (by simp) ?_
  refine AllReadyH.cons (o := { dst := none, op := Op.store 22 (Operand.tmp 24) (Operand.tmp 22), type := 0, pos := "view.go:56", after := #[{ on := 9, ground := Ground.data }, { on := 7, ground := Ground.data }, { on := 7, ground := Ground.chain }, { on := 0, ground := Ground.phase }, { on := 1, ground := Ground.phase }, { on := 2, ground := Ground.phase }, { on := 3, ground := Ground.phase }, { on := 4, ground := Ground.phase }, { on := 5, ground := Ground.phase }, { on := 6, ground := Ground.phase }, { on := 7, ground := Ground.phase }], guard := none }) rfl (fun K hK => ?_) AllReadyH.nil
  have q0 := cell0 hs7.1
  have qf : W7.frozen? ⟨V, 0, none⟩ = false := by simp [World.frozen?, hs7.1]
  go_simp
  have hVB : V ≠ Bd := by have h1 := HO.out.vb; have h2 := HBd.out; omega
  have Hfin := Lib.hid (add_fin HO.out HL.out Hat.out hd4 hd5 hkn hgr how hs7.1 hg7 hg7s hnb)
  clear hHeld
  refine hK.out _ _ (hs7.2.set_other (Ne.symm hVB) _ _) (fun hHeld => ?_)
  try simp only [Act.put, List.setIfInBounds_toArray, List.set_cons_zero, List.set_cons_succ]
  clear hK
  refine wpAnyH_done (by kernel_rfl) ?_ _
  clear hHeld q0 qf
  go_wp2
  exact bodyPost_end (results_none rfl _ _ _) rfl ⟨rfl, _, _, Hfin.out⟩
 ·
  go_simp
  have hkn := (Kp.refl [] wd).alloc (.cells #[.int .i64 d.idx, .int .i64 d.par, .string d.name, .string d.orig, .string d.sub, .string d.drv, .string d.ali, .int .i64 d.kind, .int .i64 d.num, .slice b n c] 34)
  have hg8 := heap_alloc_last wd (.cells #[.int .i64 d.idx, .int .i64 d.par, .string d.name, .string d.orig, .string d.sub, .string d.drv, .string d.ali, .int .i64 d.kind, .int .i64 d.num, .slice b n c] 34)
  have hsz := World.size_alloc wd (.cells #[.int .i64 d.idx, .int .i64 d.par, .string d.name, .string d.orig, .string d.sub, .string d.drv, .string d.ali, .int .i64 d.kind, .int .i64 d.num, .slice b n c] 34)
  generalize wd.alloc (.cells #[.int .i64 d.idx, .int .i64 d.par, .string d.name, .string d.orig, .string d.sub, .string d.drv, .string d.ali, .int .i64 d.kind, .int .i64 d.num, .slice b n c] 34) = W6 at *
  have hs6 : W6.heap[V]? = some (.cells #[.slice va L vcp, .map (some M)] 84 (0, 0)) ∧ BoxAt W6 Bd #[.int .i64 d.idx, .int .i64 d.par, .string d.name, .string d.orig, .string d.sub, .string d.drv, .string d.ali, .int .i64 d.kind, .int .i64 d.num, .slice b n c] := ⟨(hkn.block V (Array.getElem?_eq_some_iff.1 hd1).1 (by simp)).trans hd1, (hkn.block Bd (block_lt hd2) (by simp)).trans hd2⟩
  have how6 : W6.ownsRow B 34 10 (.slice va L vcp) L (dvsC l) := hd3.kept (row := none) ⟨hkn.os, hkn.tape, hkn.output, hkn.size, fun k hk1 _ => hkn.block k hk1 (by simp)⟩ (by cases (Value.slice va L vcp).ownBlock <;> simp)
  clear hHeld
  refine hK.out _ _ hs6.2 (fun hHeld => ?_)
  try simp only [Act.put, List.setIfInBounds_toArray, List.set_cons_zero, List.set_cons_succ]
  clear hK
  refine wpAnyH_ready (rs := [4]) (by kernel_rfl) (by simp) ?_
  refine AllReadyH.cons (o := { dst := some 19, op := Op.load 22 (Operand.tmp 18), type := 22, pos := "view.go:56", after := #[{ on := 3, ground := Ground.data }], guard := none }) rfl (fun K hK => ?_) AllReadyH.nil
  have q0 := cell0 hs6.1
  go_simp
  clear hHeld q0
  refine hK.out _ _ hs6.2 (fun hHeld => ?_)
  try simp only [Act.put, List.setIfInBounds_toArray, List.set_cons_zero, List.set_cons_succ]
  clear hK
  refine wpAnyH_ready (rs := [7]) (by kernel_rfl) (by simp) ?_
  refine AllReadyH.cons (o := { dst := some 22, op := Op.call { callee := Callee.builtin Builtin.append, args := #[Operand.tmp 19, Operand.tmp 21], argTypes := #[22, 22] }, type := 22, pos := "view.go:56", after := #[{ on := 4, ground := Ground.data }, { on := 6, ground := Ground.data }], guard := none }) rfl (fun K hK => ?_) AllReadyH.nil
  obtain ⟨v7, W7, hrun, how, hgr, -⟩ := run_append_own (P := Tryz.prog) W6 B 22 22 34 i0 _ 10 136 Tryz.underlying22 hi0 hz0 hz1 hz2 rfl (by decide) (.slice va L vcp) L _ how6 ⟨wd.heap.size, 0, none⟩ 1 1 (dvC d (.slice b n c)) rfl (fun j u hj => by rw [Addr.add_mid, Nat.zero_add, cell_of_row _ _ _ _ _ _ hg8]; exact (by simpa [dvC] using hj)) (dvC_one rfl) (by have := HN.out; have := HL.out; unfold maxLen; omega) (by have := HN.out; have := HL.out; omega) (by omega)
  have HR := Lib.hid hrun
  obtain ⟨g7, cap7, rfl, hg7, hg7s⟩ := how.form (by omega)
  have hs7 : W7.heap[V]? = some (.cells #[.slice va L vcp, .map (some M)] 84 (0, 0)) ∧ BoxAt W7 Bd #[.int .i64 d.idx, .int .i64 d.par, .string d.name, .string d.orig, .string d.sub, .string d.drv, .string d.ali, .int .i64 d.kind, .int .i64 d.num, .slice b n c] := ⟨(hgr.block V (Array.getElem?_eq_some_iff.1 hs6.1).1 (fun e => (hnb V e.symm).2 rfl)).trans hs6.1, (hgr.block Bd (block_lt hs6.2) (fun e => (hnb3 Bd e.symm) rfl)).trans hs6.2⟩
  clear hHeld hrun
  refine step_append_run rfl _ _ rfl _ _ _ rfl rfl HR.out ?_
  refine hK.out _ _ hs7.2 (fun hHeld => ?_)
  try simp only [Act.put, List.setIfInBounds_toArray, List.set_cons_zero, List.set_cons_succ]
  clear hK HR
  refine wpAnyH_take (i := 8) (oi := { dst := some 23, op := Op.nilCheck (Operand.tmp 15), type := 0, pos := "view.go:56", after := #[{ on := 0, ground := Ground.data }, { on := 0, ground := Ground.phase }, { on := 1, ground := Ground.phase }, { on := 2, ground := Ground.phase }, { on := 3, ground := Ground.phase }, { on := 4, ground := Ground.phase }, { on := 5, ground := Ground.phase }, { on := 6, ground := Ground.phase }, { on := 7, ground := Ground.phase }], guard := none }) (v := .pointer (some ⟨V, 0, none⟩)) rfl (by kernel_rfl) (by kernel_rfl) (by kernel_rfl) (fun _ _ _ h => h) (Or.inl ⟨by rfl, fun w hSw => by (try dsimp only at hSw); go_simp⟩) hHeld ?_
  try simp only [Act.put, List.setIfInBounds_toArray, List.set_cons_zero, List.set_cons_succ]
  refine wpAnyH_take (i := 9) (oi := { dst := some 24, op := Op.fieldAddr 84 (Operand.tmp 23) 0, type := 0, pos := "view.go:56", after := #[{ on := 8, ground := Ground.data }, { on := 0, ground := Ground.phase }, { on := 1, ground := Ground.phase }, { on := 2, ground := Ground.phase }, { on := 3, ground := Ground.phase }, { on := 4, ground := Ground.phase }, { on := 5, ground := Ground.phase }, { on := 6, ground := Ground.phase }, { on := 7, ground := Ground.phase }], guard := none }) (v := .pointer (some ⟨V, 0, none⟩)) rfl (by kernel_rfl) (by kernel_rfl) (by kernel_rfl) (fun _ _ _ h => h) (Or.inl ⟨by rfl, fun w hSw => by (try dsimp only at hSw); go_simp⟩) hHeld ?_
  try simp only [Act.put, List.setIfInBounds_toArray, List.set_cons_zero, List.set_cons_succ]
  refine wpAnyH_ready (rs := [10]) (by kernel_rfl) (by simp) ?_
  refine AllReadyH.cons (o := { dst := none, op := Op.store 22 (Operand.tmp 24) (Operand.tmp 22), type := 0, pos := "view.go:56", after := #[{ on := 9, ground := Ground.data }, { on := 7, ground := Ground.data }, { on := 7, ground := Ground.chain }, { on := 0, ground := Ground.phase }, { on := 1, ground := Ground.phase }, { on := 2, ground := Ground.phase }, { on := 3, ground := Ground.phase }, { on := 4, ground := Ground.phase }, { on := 5, ground := Ground.phase }, { on := 6, ground := Ground.phase }, { on := 7, ground := Ground.phase }], guard := none }) rfl (fun K hK => ?_) AllReadyH.nil
  have q0 := cell0 hs7.1
  have qf : W7.frozen? ⟨V, 0, none⟩ = false := by simp [World.frozen?, hs7.1]
  go_simp
  have hVB : V ≠ Bd := by have h1 := HO.out.vb; have h2 := HBd.out; omega
  have Hfin := Lib.hid (add_fin HO.out HL.out Hat.out hd4 hd5 hkn hgr how hs7.1 hg7 hg7s hnb)
  clear hHeld
  refine hK.out _ _ (hs7.2.set_other (Ne.symm hVB) _ _) (fun hHeld => ?_)
  try simp only [Act.put, List.setIfInBounds_toArray, List.set_cons_zero, List.set_cons_succ]
  clear hK
  refine wpAnyH_done (by kernel_rfl) ?_ _
  clear hHeld q0 qf
  go_wp2
  exact bodyPost_end (results_none rfl _ _ _) rfl ⟨rfl, _, _, Hfin.out⟩
end Go.Proofs.YtldcediiobfhiaaGreatDoor.De
