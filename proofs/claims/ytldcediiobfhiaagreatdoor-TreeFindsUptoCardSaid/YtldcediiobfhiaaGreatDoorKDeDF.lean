/- Copies of attributes and of devices; what the program looks up devices by. -/
import Derived.Test.YtldcediiobfhiaaGreatDoorKDeDA
import Derived.Deep.QuietTactic
import Derived.BigQuiet
namespace Go.Proofs.YtldcediiobfhiaaGreatDoor.De
open Go.RowKit
theorem info34 : (Tryz.prog.info? 34).map (fun i => (i.zero, i.size, i.bytes)) = some (some (.agg zeroC), 10, 136) := by kernel_rfl
theorem dvsC_one {W : World} {l : List DV} (h : ∀ x ∈ l, Has W x.2 x.1.ats) : ∀ u ∈ dvsC l, u.oneCell' = true := fun u hu => by
 obtain ⟨x, hx, hu⟩ := List.mem_flatMap.1 hu
 exact dvC_one (h x hx).one u hu
theorem DRow.cells {W : World} {g o : Nat} {l : List DV} (h : DRow W g o l) : ∀ (j : Nat) u, (dvsC l)[j]? = some u → W.cell? ((⟨g, o, none⟩ : Addr).add j) = some u := fun j u hu => by
 rw [Addr.add_mid]
 have hj : j < l.length * 10 := by
  rw [← dvsC_len]
  exact (List.getElem?_eq_some_iff.1 hu).1
 obtain ⟨x, hx⟩ : ∃ x, l[j / 10]? = some x := ⟨_, List.getElem?_eq_getElem (by omega)⟩
 have h1 := dvsC_get l (j / 10) x (j % 10) hx (by omega)
 rw [show j / 10 * 10 + j % 10 = j by omega, hu] at h1
 have h2 := h.at_ (j / 10) x hx (j % 10) u h1.symm
 rw [show o + j / 10 * 10 + j % 10 = o + j by omega] at h2
 exact h2
set_option maxHeartbeats 1000000 in
set_option maxRecDepth 100000 in
theorem indexOf_any (d : Dev) (w : World) : Calls Tryz.prog 62 #[devV d] w (Bel (.tuple #[.int .i64 d.idx, .bool true]) w) := by
 obtain ⟨idx, par, name, orig, sub, drv, ali, kind, num, av⟩ := d
 unfold devV devC
 simp only
 go_enter Tryz.func62, Tryz.ntmps62
 go_wp2
 go_ret2
 exact ⟨rfl, (Below.refl _ w).alloc (Nat.le_refl _) _⟩
theorem info34b : (Tryz.prog.info? 34).map (·.size) = some 10 := by kernel_rfl
set_option maxHeartbeats 1000000 in
set_option maxRecDepth 100000 in
theorem cloneDev_any (a : ADev) (v : Value) (w : World) (hl : a.ats.length ≤ 1000000) (h : Has w v a.ats) : Calls Tryz.prog 65 #[devV (devOf a v)] w fun e w' => ∃ u, e = .returned (devV (devOf a u)) ∧ Owns w' w.heap.size u a.ats ∧ Below w.heap.size w w' := by
 have hv : devV (devOf a v) = .agg #[.int .i64 a.idx, .int .i64 a.par, .string a.name, .string a.orig, .string a.sub, .string a.drv, .string a.ali, .int .i64 a.kind, .int .i64 a.num, v] := rfl
 rw [hv]
 clear hv
 have HV := Lib.hid h.one
 obtain ⟨E, hE⟩ : ∃ E, w.heap.size = E := ⟨_, rfl⟩
 have hE1 : (w.alloc (.cells #[.int .i64 a.idx, .int .i64 a.par, .string a.name, .string a.orig, .string a.sub, .string a.drv, .string a.ali, .int .i64 a.kind, .int .i64 a.num, v] 34)).heap.size = E + 1 := by rw [World.size_alloc, hE]
 have h0 := heap_alloc2_old w (.cells #[.int .i64 a.idx, .int .i64 a.par, .string a.name, .string a.orig, .string a.sub, .string a.drv, .string a.ali, .int .i64 a.kind, .int .i64 a.num, v] 34) (.cells zeroC 34)
 have h1 := heap_alloc2_new w (.cells #[.int .i64 a.idx, .int .i64 a.par, .string a.name, .string a.orig, .string a.sub, .string a.drv, .string a.ali, .int .i64 a.kind, .int .i64 a.num, v] 34) (.cells zeroC 34)
 rw [hE] at h0
 rw [hE] at h1
 have hb : Below w.heap.size w ((w.alloc (.cells #[.int .i64 a.idx, .int .i64 a.par, .string a.name, .string a.orig, .string a.sub, .string a.drv, .string a.ali, .int .i64 a.kind, .int .i64 a.num, v] 34)).alloc (.cells zeroC 34)) := ((Below.refl _ w).alloc (Nat.le_refl _) _).alloc (by rw [World.size_alloc]; omega) _
 have c9 := cell_of_row _ E 9 _ _ _ h0
 simp only [List.getElem?_toArray, List.getElem?_cons_zero, List.getElem?_cons_succ] at c9
 have HC := Lib.hid (clone_any v a.ats _ hl (h.below hb))
 have H0 := Lib.hid h0
 have H1 := Lib.hid h1
 have Hb := Lib.hid hb
 clear h0 h1 hb h
 go_enter Tryz.func65, Tryz.ntmps65
 go_wp2_with fail
 refine HC.out.mono ?_
 rintro e W1 ⟨u, rfl, hown, hbl⟩
 obtain ⟨ua, un, uc, hue⟩ : ∃ a n c, u = .slice a n c := by
  rcases hown.form with ⟨h, _⟩ | ⟨g, cap, h, _⟩
  ·exact ⟨_, _, _, h⟩
  ·exact ⟨_, _, _, h⟩
 subst hue
 have hsz : ((w.alloc (.cells #[.int .i64 a.idx, .int .i64 a.par, .string a.name, .string a.orig, .string a.sub, .string a.drv, .string a.ali, .int .i64 a.kind, .int .i64 a.num, v] 34)).alloc (.cells zeroC 34)).heap.size = E + 2 := by rw [World.size_alloc, hE1]
 rw [hsz] at hown hbl
 have hu := hown.has.one
 have hB1 : BoxAt W1 E #[.int .i64 a.idx, .int .i64 a.par, .string a.name, .string a.orig, .string a.sub, .string a.drv, .string a.ali, .int .i64 a.kind, .int .i64 a.num, v] := (hbl.block E (by omega)).trans H0.out
 have hR1 : BoxAt W1 (E + 1) zeroC := (hbl.block (E + 1) (by omega)).trans H1.out
 have c9' := hB1.cell 9
 have f9 := hB1.frozen 9
 simp only [List.getElem?_toArray, List.getElem?_cons_zero, List.getElem?_cons_succ] at c9'
 have HB := Lib.hid (show (W1.setCell ⟨E, 9, none⟩ (.slice ua un uc)).heap[E]? = some (.cells #[.int .i64 a.idx, .int .i64 a.par, .string a.name, .string a.orig, .string a.sub, .string a.drv, .string a.ali, .int .i64 a.kind, .int .i64 a.num, (.slice ua un uc)] 34 (0, 0)) from hB1.set 9 (.slice ua un uc))
 have HR := Lib.hid (show (W1.setCell ⟨E, 9, none⟩ (.slice ua un uc)).heap[E + 1]? = some (.cells zeroC 34 (0, 0)) from hR1.set_other (by omega) 9 (.slice ua un uc))
 have hold : ∀ b, E + 2 ≤ b → ((W1.setCell ⟨E, 9, none⟩ (.slice ua un uc)).setRow (E + 1) #[.int .i64 a.idx, .int .i64 a.par, .string a.name, .string a.orig, .string a.sub, .string a.drv, .string a.ali, .int .i64 a.kind, .int .i64 a.num, (.slice ua un uc)]).heap[b]? = W1.heap[b]? := fun b hb => by
  rw [show ((W1.setCell ⟨E, 9, none⟩ (.slice ua un uc)).setRow (E + 1) #[.int .i64 a.idx, .int .i64 a.par, .string a.name, .string a.orig, .string a.sub, .string a.drv, .string a.ali, .int .i64 a.kind, .int .i64 a.num, (.slice ua un uc)]).heap[b]? = (W1.setCell ⟨E, 9, none⟩ (.slice ua un uc)).heap[b]? from setRow_other _ _ _ _ (by omega)]
  exact Below.heap_setCell W1 ⟨E, 9, none⟩ (.slice ua un uc) b (by show b ≠ E; omega)
 have Hown := Lib.hid (show Owns ((W1.setCell ⟨E, 9, none⟩ (.slice ua un uc)).setRow (E + 1) #[.int .i64 a.idx, .int .i64 a.par, .string a.name, .string a.orig, .string a.sub, .string a.drv, .string a.ali, .int .i64 a.kind, .int .i64 a.num, (.slice ua un uc)]) w.heap.size (.slice ua un uc) a.ats from (hown.keep fun b _ hb => hold b ((show W1.ownsRow (E + 2) 99 2 (.slice ua un uc) a.ats.length (cellsP a.ats) from hown).lt b hb).1).mono (by omega))
 have Hbl := Lib.hid (show Below w.heap.size w ((W1.setCell ⟨E, 9, none⟩ (.slice ua un uc)).setRow (E + 1) #[.int .i64 a.idx, .int .i64 a.par, .string a.name, .string a.orig, .string a.sub, .string a.drv, .string a.ali, .int .i64 a.kind, .int .i64 a.num, (.slice ua un uc)]) from below_setRow ((Hb.out.trans (hbl.mono (by omega))).setCell (show w.heap.size ≤ E by omega) (.slice ua un uc)) (by omega) #[.int .i64 a.idx, .int .i64 a.par, .string a.name, .string a.orig, .string a.sub, .string a.drv, .string a.ali, .int .i64 a.kind, .int .i64 a.num, (.slice ua un uc)])
 have Hu := Lib.hid hu
 clear hown hbl hu hB1 hR1 hold hsz
 go_wp2_with (first
  | (refine wpList_load_row rfl 34 _ rfl E rfl 34 #[.int .i64 a.idx, .int .i64 a.par, .string a.name, .string a.orig, .string a.sub, .string a.drv, .string a.ali, .int .i64 a.kind, .int .i64 a.num, (.slice ua un uc)] (0, 0) _ HB.out Tryz.underlying34 rfl info34b ?_)
  | (refine wpList_store_row rfl 34 _ _ rfl (E + 1) #[.int .i64 a.idx, .int .i64 a.par, .string a.name, .string a.orig, .string a.sub, .string a.drv, .string a.ali, .int .i64 a.kind, .int .i64 a.num, (.slice ua un uc)] rfl rfl 34 zeroC HR.out info34b rfl (by simp [Value.oneCell']) ?_))
 exact bodyPost_ret (v := .agg #[.int .i64 a.idx, .int .i64 a.par, .string a.name, .string a.orig, .string a.sub, .string a.drv, .string a.ali, .int .i64 a.kind, .int .i64 a.num, (.slice ua un uc)]) (results_cell_row rfl _ _ (E + 1) 34 #[.int .i64 a.idx, .int .i64 a.par, .string a.name, .string a.orig, .string a.sub, .string a.drv, .string a.ali, .int .i64 a.kind, .int .i64 a.num, (.slice ua un uc)] _ _ rfl (setRow_heap _ _ _ _ _ _ HR.out) Tryz.underlying34 rfl info34b) rfl ⟨(.slice ua un uc), rfl, Hown.out, Hbl.out⟩
end Go.Proofs.YtldcediiobfhiaaGreatDoor.De
