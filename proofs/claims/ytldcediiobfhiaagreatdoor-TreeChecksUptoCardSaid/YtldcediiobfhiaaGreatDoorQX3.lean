/- At of the reference. Interface of the reference. -/
import Derived.Test.YtldcediiobfhiaaGreatDoorQV8
import Derived.Deep.RegionHeld3
namespace Go.Proofs.YtldcediiobfhiaaGreatDoor
open Go.RowKit
theorem find_first {α : Type} {p : α → Bool} : ∀ {l : List α} {i : Nat} {x : α}, l[i]? = some x → p x = true → (∀ (k : Nat) y, k < i → l[k]? = some y → p y = false) → l.find? p = some x
 | [], _, _, h, _, _ => by simp at h
 | a :: l, 0, x, h, hp, _ => by
  simp only [List.getElem?_cons_zero, Option.some.injEq] at h
  subst h
  rw [List.find?_cons, hp]
 | a :: l, i + 1, x, h, hp, hk => by
  rw [List.find?_cons, hk 0 a (Nat.succ_pos i) rfl]
  exact find_first (by simpa using h) hp fun k y hki hy => hk (k + 1) y (by omega) (by simpa using hy)
end Go.Proofs.YtldcediiobfhiaaGreatDoor
namespace Go.Proofs.YtldcediiobfhiaaGreatDoor
open Go.RowKit
def ifP (o : ByteArray) (x : De.DV) : Bool := x.1.kind == 4 && (x.1.name.toList == o.toList)
set_option maxHeartbeats 2000000 in
set_option maxRecDepth 100000 in
theorem refInterface_any (sv : Value) (l : List De.DV) (o : ByteArray) (w : World) (hl : l.length ≤ 100000) (h : De.DHas w sv l) :
  Calls Tryz.prog 27 #[.agg #[sv], .string o] w (De.RefPost (l.find? (ifP o)) w) := by
 obtain ⟨a, c, hsv, hrow⟩ := h.form
 obtain ⟨N, hN⟩ : ∃ N, l.length = N := ⟨_, rfl⟩
 rw [hN] at hsv hl
 obtain ⟨Bz, hBz⟩ : ∃ Bz, w.heap.size = Bz := ⟨_, rfl⟩
 subst hsv
 obtain ⟨W0, hW0⟩ : ∃ W0, (w.alloc (.cells #[.slice a N c] 29)).alloc (.cells De.zeroC 34) = W0 := ⟨_, rfl⟩
 have hs1 : (w.alloc (.cells #[.slice a N c] 29)).heap.size = Bz + 1 := by rw [World.size_alloc, hBz]
 have h1 : W0.heap[Bz + 1]? = some (.cells De.zeroC 34 (0, 0)) := by
  have := heap_alloc2_new w (.cells #[.slice a N c] 29) (.cells De.zeroC 34)
  rw [hBz, hW0] at this
  exact this
 have h0 : W0.heap[Bz]? = some (.cells #[.slice a N c] 29 (0, 0)) := by rw [← hW0, ← hBz]; exact heap_alloc2_old w _ _
 have hk0 : Kp [] w W0 := by rw [← hW0]; exact ((Kp.refl [] w).alloc _).alloc _
 have H1 := Lib.hid (fun W (hk : Kp [] W0 W) => (hk.block (Bz + 1) (block_lt h1) (by simp)).trans h1)
 have H0 := Lib.hid (fun W (hk : Kp [] W0 W) => cell_one ((hk.block Bz (block_lt h0) (by simp)).trans h0))
 have HK0 := Lib.hid hk0
 have HRow := Lib.hid hrow
 have HN := Lib.hid hN
 have Hwz := Lib.hid (show w.heap.size ≤ Bz + 1 by omega)
 clear h1 h0 h hs1 hk0 hrow
 unfold De.zeroC at hW0
 go_enter Tryz.func27, Tryz.ntmps27
 go_wp2
 go_loopw [6] (fun s6 wx => ∃ i : Nat, i ≤ N ∧ s6 = .int .i64 (i : Int) ∧ (∀ (k : Nat) x, k < i → l[k]? = some x → ifP o x = false) ∧ Kp [] W0 wx) (fun s6 _ => N - (intOf s6).toNat)
 case atStart => exact ⟨0, by omega, rfl, fun k x hk => absurd hk (Nat.not_lt_zero _), Kp.refl [] _⟩
 case round =>
  obtain ⟨i, hi, rfl, hinv, hkx⟩ := hrel
  have HI := Lib.hid hinv
  have HKx := Lib.hid hkx
  have t0 := H0.out _ hkx
  clear hinv hkx
  by_cases hlt : i < N
  ·have hiz : (i : Int) < (N : Int) := by omega
   obtain ⟨x, hx⟩ : ∃ x, l[i]? = some x := ⟨l[i]'(by rw [HN.out]; exact hlt), List.getElem?_eq_getElem _⟩
   obtain ⟨g, o', rfl, hcap, hg, hr⟩ := HRow.out (fun e => by rw [e] at hx; simp at hx)
   have HRz := Lib.hid ((hr.below hg (HK0.out.trans HKx.out).bel).at_ i x hx)
   have HX := Lib.hid hx
   have HH := Lib.hid (show De.Has w x.2 x.1.ats from hr.ats x (List.mem_of_getElem? hx))
   have HI1 := Lib.hid (show (Tryz.prog.info? 34).map (·.size) = some (De.dvC x.1 x.2).length from De.info34b)
   have HI2 := Lib.hid (show (Tryz.prog.info? 34).map (·.size) = some (De.dvC x.1 x.2).toArray.size from De.info34b)
   have h1x := HH.out.one
   have Hst := Lib.hid (show (De.dvC x.1 x.2).toArray.all (·.oneCell') = true from by
    rw [Array.all_eq_true_iff_forall_mem]
    intro v hv
    exact De.dvC_one h1x v (by simpa using hv))
   obtain ⟨W1, hW1⟩ : ∃ W1, wr.alloc (.cells (De.dvC x.1 x.2).toArray 34) = W1 := ⟨_, rfl⟩
   have hbx : De.BoxAt W1 wr.heap.size (De.dvC x.1 x.2).toArray := by rw [← hW1]; exact heap_alloc_last wr _
   have HK1 := Lib.hid (show Kp [] W0 W1 from HKx.out.trans (by rw [← hW1]; exact (Kp.refl [] wr).alloc _))
   have b7 : W1.cell? ⟨wr.heap.size, 7, none⟩ = some (.int .i64 x.1.kind) := hbx.cell 7
   have b2 : W1.cell? ⟨wr.heap.size, 2, none⟩ = some (.string x.1.name) := hbx.cell 2
   have t1 := H0.out _ HK1.out
   have HBx := Lib.hid (show W1.heap[wr.heap.size]? = some (.cells (De.dvC x.1 x.2).toArray 34 (0, 0)) from hbx)
   have HW1 := Lib.hid hW1
   have HR1 := Lib.hid (H1.out _ HK1.out)
   clear hx hr hg hcap h1x hbx hW1
   have hstep : ifP o x = false → ∀ (k : Nat) y, k < i + 1 → l[k]? = some y → ifP o y = false := fun hf k y hk hy => by
    by_cases e : k = i
    ·subst e
     have h1 := HX.out
     rw [h1] at hy
     cases hy
     exact hf
    ·exact HI.out k y (by omega) hy
   have Hstep := Lib.hid hstep
   clear hstep
   cases hk4 : (x.1.kind == 4) with
   | false =>
    have Hat := Lib.hid (show ifP o x = false by unfold ifP; rw [hk4]; rfl)
    go_wp2_with (first
     | (refine wpList_load_mid rfl 34 _ rfl g (o' + i * 10) rfl (De.dvC x.1 x.2) _ (by with_reducible exact HRz.out) Tryz.underlying34 rfl HI1.out ?_)
     | (refine De.wpList_store_new wr 34 _ (De.dvC x.1 x.2).toArray rfl _ _ rfl rfl rfl HI2.out rfl Hst.out ?_; rw [HW1.out]))
    exact ⟨⟨i + 1, by omega, rfl, Hstep.out Hat.out, HK1.out⟩, by simp [intOf]; omega⟩
   | true =>
    cases hq : (x.1.name.toList == o.toList) with
    | false =>
     have Hat := Lib.hid (show ifP o x = false by unfold ifP; rw [hk4, hq]; rfl)
     go_wp2_with (first
      | (refine wpList_load_mid rfl 34 _ rfl g (o' + i * 10) rfl (De.dvC x.1 x.2) _ (by with_reducible exact HRz.out) Tryz.underlying34 rfl HI1.out ?_)
      | (refine De.wpList_store_new wr 34 _ (De.dvC x.1 x.2).toArray rfl _ _ rfl rfl rfl HI2.out rfl Hst.out ?_; rw [HW1.out]))
     exact ⟨⟨i + 1, by omega, rfl, Hstep.out Hat.out, HK1.out⟩, by simp [intOf]; omega⟩
    | true =>
     have HF := Lib.hid (show l.find? (ifP o) = some x from find_first HX.out (by unfold ifP; rw [hk4, hq]; rfl) HI.out)
     go_wp2_with (first
      | (refine wpList_load_mid rfl 34 _ rfl g (o' + i * 10) rfl (De.dvC x.1 x.2) _ (by with_reducible exact HRz.out) Tryz.underlying34 rfl HI1.out ?_)
      | (refine De.wpList_store_new wr 34 _ (De.dvC x.1 x.2).toArray rfl _ _ rfl rfl rfl HI2.out rfl Hst.out ?_; rw [HW1.out])
      | (refine wpList_load_row rfl 34 _ rfl wr.heap.size rfl 34 (De.dvC x.1 x.2).toArray (0, 0) _ (by with_reducible exact HBx.out) Tryz.underlying34 rfl HI2.out ?_)
      | (refine wpList_store_row rfl 34 _ _ rfl (Bz + 1) (De.dvC x.1 x.2).toArray rfl rfl 34 De.zeroC (by with_reducible exact HR1.out) HI2.out rfl Hst.out ?_))
     exact bodyPost_ret (v := .tuple #[De.devV (De.devOf x.1 x.2), .bool true]) (De.results_row_tmp rfl _ _ (Bz + 1) 34 (De.dvC x.1 x.2).toArray _ _ _ rfl rfl (setRow_heap _ _ _ _ _ _ HR1.out) Tryz.underlying34 rfl HI2.out) rfl ⟨((HK0.out.trans HK1.out).setRow (.inr Hwz.out) _).bel, by rw [HF.out]⟩
  ·obtain rfl : i = N := by omega
   have hiz : ¬ (i : Int) < (i : Int) := by omega
   have HF := Lib.hid (show l.find? (ifP o) = none from by
    rw [List.find?_eq_none]
    intro x hx e
    obtain ⟨k, hk⟩ := List.mem_iff_getElem?.1 hx
    rw [HI.out k x (by rw [← HN.out]; exact (List.getElem?_eq_some_iff.1 hk).1) hk] at e
    cases e)
   have HR1 := Lib.hid (H1.out _ HKx.out)
   go_wp2_with (refine wpList_store_row rfl 34 _ _ rfl (Bz + 1) De.zeroC rfl rfl 34 De.zeroC HR1.out De.info34b rfl De.zeroC_one ?_)
   exact bodyPost_ret (v := .tuple #[.agg De.zeroC, .bool false]) (De.results_row_tmp rfl _ _ (Bz + 1) 34 De.zeroC _ _ _ rfl rfl (setRow_heap _ _ _ _ _ _ HR1.out) Tryz.underlying34 rfl De.info34b) rfl ⟨((HK0.out.trans HKx.out).setRow (.inr Hwz.out) _).bel, by rw [HF.out]⟩
end Go.Proofs.YtldcediiobfhiaaGreatDoor
