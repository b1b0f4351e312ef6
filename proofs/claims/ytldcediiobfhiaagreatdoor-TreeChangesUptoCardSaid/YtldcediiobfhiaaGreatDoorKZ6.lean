/- Remove of the reference. slices.Grow of the nil slice, slices.Concat of two rows of devices. -/
import Derived.Test.YtldcediiobfhiaaGreatDoorKZ3
import Derived.Test.YtldcediiobfhiaaGreatDoorKRr
import Derived.Test.YtldcediiobfhiaaGreatDoorKMg
import Derived.Deep.MidRow
namespace Go.Proofs.YtldcediiobfhiaaGreatDoor
open Go.RowKit
/-- Whether a device lies below another or is it, as the reference asks. -/
def blw (l : List De.DV) (n : Int) (x : De.DV) : Bool := (De.ups (l.map (·.1)) x.1.idx).any fun a => a.idx == n
theorem take_succ_keep {l : List De.DV} {P : De.DV → Bool} {i : Nat} {e : De.DV} (h : l[i]? = some e) : (l.take (i + 1)).filter P = (l.take i).filter P ++ (if P e then [e] else []) := by
 rw [List.take_add_one, h, List.filter_append]
 congr 1
 show [e].filter P = _
 rw [List.filter_cons]
 cases P e <;> rfl
def remE (l : List De.DV) (n : Int) : Int := if (De.idxP (l.map (·.1)) n).isSome then 0 else 45
def remR (l : List De.DV) (n : Int) : List De.DV := if (De.idxP (l.map (·.1)) n).isSome then l.filter (fun x => !blw l n x) else []
set_option maxHeartbeats 8000000 in
set_option maxRecDepth 100000 in
theorem refRemove_any (sv : Value) (l : List De.DV) (n : Int) (w : World) (hl : l.length ≤ 90000) (h : De.DHas w sv l) : Calls Tryz.prog 44 #[.agg #[sv], .int .i64 n] w fun e w' => ∃ u, e = .returned (.tuple #[.agg #[u], .int .i64 (remE l n)]) ∧ Hid (De.DHas w' u (remR l n)) ∧ Hid (Kp [] w w') := by
 obtain ⟨a, c, hsv, hrow⟩ := h.form
 have HD := Lib.hid h
 have HRow := Lib.hid hrow
 have HIX := Lib.hid (fun W (hk : Below w.heap.size w W) => De.refIndex_any sv l n W (by omega) (h.below hk))
 have HB0 := Lib.hid (fun (m : Int) W (hW : Below w.heap.size w W) => De.refBelow_any sv l m n W (by omega) (h.below hW))
 obtain ⟨N, hN⟩ : ∃ N, l.length = N := ⟨_, rfl⟩
 rw [hN] at hsv hl
 have HN := Lib.hid hN
 obtain ⟨Bz, hBz⟩ : ∃ Bz, w.heap.size = Bz := ⟨_, rfl⟩
 subst hsv
 obtain ⟨W0, hW⟩ : ∃ W0, (w.alloc (.cells #[.slice a N c] 29)).alloc (.cells #[.slice none 0 0] 29) = W0 := ⟨_, rfl⟩
 have HK0 := Lib.hid (show Kp [] w W0 from by rw [← hW]; exact ((Kp.refl [] w).alloc _).alloc _)
 have HS0 := Lib.hid (show W0.heap.size = Bz + 2 from by rw [← hW, World.size_alloc, World.size_alloc, hBz])
 have h1 : W0.heap[Bz]? = some (.cells #[.slice a N c] 29 (0, 0)) := by rw [← hW, ← hBz]; exact heap_alloc2_old w _ _
 have h2 : W0.heap[Bz + 1]? = some (.cells #[.slice none 0 0] 29 (0, 0)) := by
  have := heap_alloc_last (w.alloc (.cells #[.slice a N c] 29)) (.cells #[.slice none 0 0] 29)
  rwa [hW, World.size_alloc, hBz] at this
 have H1 := Lib.hid h1
 have H2 := Lib.hid h2
 have t0 := cell_one h1
 clear h hN hrow h1 h2
 go_enter Tryz.func44, Tryz.ntmps44
 obtain ⟨ix, hix⟩ : ∃ o, De.idxP (l.map (·.1)) n = o := ⟨_, rfl⟩
 have HI2 := Lib.hid (show Calls Tryz.prog 56 #[.slice a N c, .int .i64 n] W0 fun e w' => e = .returned (.int .i64 (De.idxV ix)) ∧ Kp [] W0 w' from by
  rw [← hix]
  exact (HIX.out W0 (Kp.bel HK0.out)).mono fun e w' h => ⟨h.1, Kp.of_below h.2⟩)
 cases ix with
 | none =>
  have HE := Lib.hid (show remE l n = 45 ∧ remR l n = [] from by unfold remE remR; rw [hix]; exact ⟨rfl, rfl⟩)
  rw [HE.out.1, HE.out.2]
  clear hix
  unfold De.idxV at HI2
  go_upto_region 2 with (go_at_call 56; refine Calls.mono (by with_reducible exact HI2.out) ?_; rintro e W1 ⟨rfl, hk1⟩; have HK1 := Lib.hid hk1; clear hk1)
  have HR1 := Lib.hid ((HK1.out.block (Bz + 1) (block_lt H2.out) (by simp)).trans H2.out)
  clear t0
  go_wp2_with (refine wpList_store_row rfl 29 _ _ rfl (Bz + 1) #[.slice none 0 0] rfl rfl 29 #[.slice none 0 0] HR1.out info30b rfl one30 ?_)
  exact bodyPost_ret (v := .tuple #[.agg #[.slice none 0 0], .int .i64 45]) (De.results_row_tmp rfl _ _ (Bz + 1) 29 #[.slice none 0 0] _ _ _ rfl rfl (setRow_heap _ _ _ _ _ _ HR1.out) Tryz.underlying29 rfl info30b) rfl ⟨_, rfl, Lib.hid (.inl ⟨none, 0, rfl, rfl⟩), Lib.hid ((HK0.out.trans HK1.out).setRow (.inr (by omega)) _)⟩
 | some p =>
  have HE := Lib.hid (show remE l n = 0 ∧ remR l n = l.filter (fun x => !blw l n x) from by unfold remE remR; rw [hix]; exact ⟨rfl, rfl⟩)
  rw [HE.out.1, HE.out.2]
  clear hix HE
  unfold De.idxV at HI2
  have hpz : (0 : Int) ≤ (p : Int) := by omega
  go_upto_region 3 with (go_at_call 56; refine Calls.mono (by with_reducible exact HI2.out) ?_; rintro e W1 ⟨rfl, hk1⟩; have HK1 := Lib.hid hk1; clear hk1)
  clear t0
  have hq3 := heap_alloc_last W1 (.cells #[.slice none 0 0] 29)
  have hka := (Kp.refl [] W1).alloc (.cells #[.slice none 0 0] 29)
  obtain ⟨O, hO⟩ : ∃ O, W1.heap.size = O := ⟨_, rfl⟩
  have hsz : (W1.alloc (.cells #[.slice none 0 0] 29)).heap.size = O + 1 := by rw [World.size_alloc, hO]
  go_wp2
  generalize W1.alloc (.cells #[.slice none 0 0] 29) = w0 at *
  rw [hO] at hq3
  have HO0 := Lib.hid hsz
  have HOr := Lib.hid hq3
  have HOB := Lib.hid (show Bz + 1 < O from by have := HK1.out.size; have := HS0.out; omega)
  have Hw0 := Lib.hid ((HK0.out.trans HK1.out).trans hka)
  have H1w := Lib.hid (((HK1.out.trans hka).block Bz (block_lt H1.out) (by simp)).trans H1.out)
  have H2w := Lib.hid (((HK1.out.trans hka).block (Bz + 1) (block_lt H2.out) (by simp)).trans H2.out)
  have HBw := Lib.hid (fun W (hk : Kp [O] w0 W) => (show Below w.heap.size w W from ((Hw0.out.mono (by simp)).trans hk).below (Nat.le_refl _) (by intro z hz; simp at hz; have := HOB.out; omega)))
  have HTk := Lib.hid (fun W (hk : Kp [O] w0 W) => cell_one ((hk.block Bz (block_lt H1w.out) (by have := HOB.out; simp; omega)).trans H1w.out))
  clear hq3 hka hO hsz
  go_loopw [7] (fun s7 wx => ∃ i : Nat, i ≤ N ∧ s7 = .int .i64 (i : Int) ∧ ∃ v, Hid (wx.heap[O]? = some (.cells #[v] 29 (0, 0))) ∧ Hid (De.DOwn wx (O + 1) v ((l.take i).filter fun x => !blw l n x)) ∧ Hid (Kp [O] w0 wx)) (fun s7 _ => N - (intOf s7).toNat)
  case atStart => exact ⟨0, by omega, rfl, _, HOr, Lib.hid (by rw [List.take_zero]; exact De.DOwn.nil _ _), Lib.hid (Kp.refl _ _)⟩
  case round =>
   obtain ⟨i, hi, rfl, v, HOw1, HDo, HKr⟩ := hrel
   have t0 := HTk.out _ HKr.out
   by_cases hlt : i < N
   ·have hiz : (i : Int) < (N : Int) := by omega
    obtain ⟨x, hx⟩ : ∃ x, l[i]? = some x := ⟨l[i]'(by rw [HN.out]; exact hlt), List.getElem?_eq_getElem _⟩
    obtain ⟨g, o, rfl, hcap, hg, hr⟩ := HRow.out (fun e => by rw [e] at hx; simp at hx)
    have HRn := Lib.hid (show ∀ W, Kp [O] w0 W → W.rangeAt g (o + i * 10) (De.dvC x.1 x.2) from fun W hk => (hr.below hg (HBw.out W hk)).at_ i x hx)
    have HIx := Lib.hid (show ∀ W, Kp [O] w0 W → W.cell? ⟨g, o + i * 10, none⟩ = some (.int .i64 x.1.idx) from fun W hk => HRn.out W hk 0 _ rfl)
    have HAx := Lib.hid (show ∀ W, Kp [O] w0 W → De.Has W x.2 x.1.ats from fun W hk => dhas_ats (HD.out.below (HBw.out W hk)) x (List.mem_of_getElem? hx))
    obtain ⟨XS, hXS⟩ : ∃ q, ((l.take i).filter fun x => !blw l n x) = q := ⟨_, rfl⟩
    have HAs := Lib.hid (show ∀ W, Kp [O] w0 W → ∀ z ∈ XS, De.Has W z.2 z.1.ats from fun W hk z hz => dhas_ats (HD.out.below (HBw.out W hk)) z (List.mem_of_mem_take (List.mem_filter.1 (by rw [hXS]; exact hz)).1))
    have HLx := Lib.hid (show XS.length + [x].length ≤ 100000 from by
     have h1 := List.length_filter_le (fun x => !blw l n x) (l.take i)
     have h2 := List.length_take_le i l
     rw [hXS] at h1
     simp
     omega)
    obtain ⟨bb, hbb⟩ : ∃ b, blw l n x = b := ⟨_, rfl⟩
    have hts := take_succ_keep (P := fun x => !blw l n x) hx
    rw [hXS, hbb] at hts
    have HTk2 := Lib.hid hts
    have HBl := Lib.hid (show ∀ W, Kp [O] w0 W → Calls Tryz.prog 78 #[.agg #[.slice (some ⟨g, o, none⟩) N c], .int .i64 x.1.idx, .int .i64 n] W fun e w' => e = .returned (.bool bb) ∧ Below W.heap.size W w' from fun W hk => by
     rw [← hbb]
     exact (HB0.out x.1.idx W (HBw.out W hk)).mono fun e w' h => ⟨h.1, h.2⟩)
    rw [hXS] at HDo
    have HOwr := Lib.hid HDo.out.row
    clear hx hr hg hcap hXS hbb hts
    go_upto_region 7 with fail
    clear t0
    refine wp_region_held_drew (S := fun W => Kp [O] w0 W) (by kernel_rfl) (HKr.out.drew 1) (fun hHeld => ?_)
    generalize hwd : wr.drew = wd at *
    have HKd := Lib.hid (show Kp [] wr wd from by rw [← hwd]; exact (Kp.refl [] wr).drew 1)
    clear hwd
    refine wpAnyH_take (i := 0) (oi := { dst := some 21, op := Op.load 29 (Operand.tmp 2), type := 29, pos := "ref.go:221", after := #[], guard := none }) (v := .agg #[.slice (some ⟨g, o, none⟩) N c]) rfl (by kernel_rfl) (by kernel_rfl) (by kernel_rfl) (fun _ _ _ h => h) (Or.inl ⟨by rfl, fun w hSw => by (try dsimp only at hSw); have t0 := HTk.out _ hSw; go_simp⟩) hHeld ?_
    try simp only [Act.put, List.setIfInBounds_toArray, List.set_cons_zero, List.set_cons_succ]
    refine wpAnyH_take (i := 1) (oi := { dst := some 22, op := Op.fieldAddr 29 (Operand.tmp 2) 0, type := 0, pos := "ref.go:221", after := #[], guard := none }) (v := .pointer (some ⟨Bz, 0, none⟩)) rfl (by kernel_rfl) (by kernel_rfl) (by kernel_rfl) (fun _ _ _ h => h) (Or.inl ⟨by rfl, fun w hSw => by (try dsimp only at hSw); go_simp⟩) hHeld ?_
    try simp only [Act.put, List.setIfInBounds_toArray, List.set_cons_zero, List.set_cons_succ]
    refine wpAnyH_take (i := 2) (oi := { dst := some 23, op := Op.load 22 (Operand.tmp 22), type := 22, pos := "ref.go:221", after := #[{ on := 1, ground := Ground.data }], guard := none }) (v := .slice (some ⟨g, o, none⟩) N c) rfl (by kernel_rfl) (by kernel_rfl) (by kernel_rfl) (fun _ _ _ h => h) (Or.inl ⟨by rfl, fun w hSw => by (try dsimp only at hSw); have t0 := HTk.out _ hSw; go_simp⟩) hHeld ?_
    try simp only [Act.put, List.setIfInBounds_toArray, List.set_cons_zero, List.set_cons_succ]
    refine wpAnyH_take (i := 3) (oi := { dst := some 24, op := Op.move (Operand.tmp 7), type := 3, pos := "ref.go:221", after := #[], guard := none }) (v := .int .i64 (i : Int)) rfl (by kernel_rfl) (by kernel_rfl) (by kernel_rfl) (fun _ _ _ h => h) (Or.inl ⟨by rfl, fun w hSw => by (try dsimp only at hSw); go_simp⟩) hHeld ?_
    try simp only [Act.put, List.setIfInBounds_toArray, List.set_cons_zero, List.set_cons_succ]
    refine wpAnyH_take (i := 4) (oi := { dst := some 25, op := Op.indexAddr 22 (Operand.tmp 23) (Operand.tmp 24), type := 0, pos := "ref.go:221", after := #[{ on := 2, ground := Ground.data }, { on := 3, ground := Ground.data }], guard := none }) (v := .pointer (some ⟨g, o + i * 10, none⟩)) rfl (by kernel_rfl) (by kernel_rfl) (by kernel_rfl) (fun _ _ _ h => h) (Or.inl ⟨by rfl, fun w hSw => by (try dsimp only at hSw); go_simp⟩) hHeld ?_
    try simp only [Act.put, List.setIfInBounds_toArray, List.set_cons_zero, List.set_cons_succ]
    refine wpAnyH_take (i := 5) (oi := { dst := some 26, op := Op.fieldAddr 34 (Operand.tmp 25) 0, type := 0, pos := "ref.go:221", after := #[{ on := 4, ground := Ground.data }], guard := none }) (v := .pointer (some ⟨g, o + i * 10, none⟩)) rfl (by kernel_rfl) (by kernel_rfl) (by kernel_rfl) (fun _ _ _ h => h) (Or.inl ⟨by rfl, fun w hSw => by (try dsimp only at hSw); go_simp⟩) hHeld ?_
    try simp only [Act.put, List.setIfInBounds_toArray, List.set_cons_zero, List.set_cons_succ]
    refine wpAnyH_take (i := 6) (oi := { dst := some 27, op := Op.load 3 (Operand.tmp 26), type := 3, pos := "ref.go:221", after := #[{ on := 5, ground := Ground.data }], guard := none }) (v := .int .i64 x.1.idx) rfl (by kernel_rfl) (by kernel_rfl) (by kernel_rfl) (fun _ _ _ h => h) (Or.inl ⟨by rfl, fun w hSw => by (try dsimp only at hSw); have t1 := HIx.out _ hSw; go_simp⟩) hHeld ?_
    try simp only [Act.put, List.setIfInBounds_toArray, List.set_cons_zero, List.set_cons_succ]
    refine wpAnyH_take (i := 7) (oi := { dst := some 28, op := Op.move (Operand.tmp 1), type := 3, pos := "ref.go:221", after := #[], guard := none }) (v := .int .i64 n) rfl (by kernel_rfl) (by kernel_rfl) (by kernel_rfl) (fun _ _ _ h => h) (Or.inl ⟨by rfl, fun w hSw => by (try dsimp only at hSw); go_simp⟩) hHeld ?_
    try simp only [Act.put, List.setIfInBounds_toArray, List.set_cons_zero, List.set_cons_succ]
    refine wpAnyH_ready (rs := [8]) (by kernel_rfl) (by simp) ?_
    refine AllReadyH.cons (o := { dst := some 29, op := Op.call { callee := Callee.value (Operand.func 78), args := #[Operand.tmp 21, Operand.tmp 27, Operand.tmp 28], argTypes := #[29, 3, 3] }, type := 4, pos := "ref.go:221", after := #[{ on := 0, ground := Ground.data }, { on := 6, ground := Ground.data }, { on := 7, ground := Ground.data }], guard := none }) rfl (fun K hK => ?_) AllReadyH.nil
    go_simp
    go_at_call 78
    refine Calls.mono (by with_reducible exact HBl.out _ hHeld) ?_
    rintro e V ⟨rfl, hkv⟩
    dsimp only
    have HKV := Lib.hid (HKd.out.trans (Kp.of_below hkv))
    have hS := hHeld.trans ((Kp.of_below hkv).mono (by simp))
    clear hkv
    clear hHeld
    refine hK.out _ _ hS (fun hHeld => ?_)
    try simp only [Act.put, List.setIfInBounds_toArray, List.set_cons_zero, List.set_cons_succ]
    clear hK
    clear hS
    refine wpAnyH_take (i := 9) (oi := { dst := some 30, op := Op.unOp UnOp.not 4 (Operand.tmp 29), type := 4, pos := "ref.go:221", after := #[{ on := 8, ground := Ground.data }], guard := none }) (v := .bool (!bb)) rfl (by kernel_rfl) (by kernel_rfl) (by kernel_rfl) (fun _ _ _ h => h) (Or.inl ⟨by rfl, fun w hSw => by (try dsimp only at hSw); go_simp⟩) hHeld ?_
    try simp only [Act.put, List.setIfInBounds_toArray, List.set_cons_zero, List.set_cons_succ]
    have HSv := Lib.hid hHeld
    refine wpAnyH_done (by kernel_rfl) ?_ _
    clear hHeld
    have HOV := Lib.hid ((HKV.out.block O (block_lt HOw1.out) (by simp)).trans HOw1.out)
    have HOw := Lib.hid (ownsRow_keep HOwr.out fun b hB hb => HKV.out.block b (HOwr.out.lt b hb).2 (by simp))
    cases bb with
    | true =>
     go_wp2
     exact ⟨⟨i + 1, by omega, by go_num, v, HOV, Lib.hid (by
      have e := HTk2.out
      simp only [Bool.not_true, Bool.false_eq_true, if_false, List.append_nil] at e
      rw [e]
      exact ⟨HOw.out, fun z hz => HAs.out _ HSv.out z hz⟩), HSv⟩, by simp [intOf]; omega⟩
    | false =>
     have e2 := HTk2.out
     simp only [Bool.not_false, if_true] at e2
     clear HTk2
     have HTk2 := Lib.hid e2
     clear e2
     go_upto_region 8 with fail
     refine wp_region_held_drew (S := fun W => Kp [O] w0 W) (by kernel_rfl) (HSv.out.drew 1) (fun hHeld => ?_)
     generalize hwd : V.drew = wd at *
     have HKd := Lib.hid (show Kp [] V wd from by rw [← hwd]; exact (Kp.refl [] V).drew 1)
     clear hwd
     refine wpAnyH_take (i := 0) (oi := { dst := some 31, op := Op.fieldAddr 29 (Operand.tmp 6) 0, type := 0, pos := "ref.go:222", after := #[], guard := none }) (v := .pointer (some ⟨O, 0, none⟩)) rfl (by kernel_rfl) (by kernel_rfl) (by kernel_rfl) (fun _ _ _ h => h) (Or.inl ⟨by rfl, fun w hSw => by (try dsimp only at hSw); go_simp⟩) hHeld ?_
     try simp only [Act.put, List.setIfInBounds_toArray, List.set_cons_zero, List.set_cons_succ]
     refine wpAnyH_take (i := 2) (oi := { dst := some 33, op := Op.fieldAddr 29 (Operand.tmp 2) 0, type := 0, pos := "ref.go:222", after := #[], guard := none }) (v := .pointer (some ⟨Bz, 0, none⟩)) rfl (by kernel_rfl) (by kernel_rfl) (by kernel_rfl) (fun _ _ _ h => h) (Or.inl ⟨by rfl, fun w hSw => by (try dsimp only at hSw); go_simp⟩) hHeld ?_
     try simp only [Act.put, List.setIfInBounds_toArray, List.set_cons_zero, List.set_cons_succ]
     refine wpAnyH_take (i := 3) (oi := { dst := some 34, op := Op.load 22 (Operand.tmp 33), type := 22, pos := "ref.go:222", after := #[{ on := 2, ground := Ground.data }], guard := none }) (v := .slice (some ⟨g, o, none⟩) N c) rfl (by kernel_rfl) (by kernel_rfl) (by kernel_rfl) (fun _ _ _ h => h) (Or.inl ⟨by rfl, fun w hSw => by (try dsimp only at hSw); have t0 := HTk.out _ hSw; go_simp⟩) hHeld ?_
     try simp only [Act.put, List.setIfInBounds_toArray, List.set_cons_zero, List.set_cons_succ]
     refine wpAnyH_take (i := 4) (oi := { dst := some 35, op := Op.move (Operand.tmp 7), type := 3, pos := "ref.go:222", after := #[], guard := none }) (v := .int .i64 (i : Int)) rfl (by kernel_rfl) (by kernel_rfl) (by kernel_rfl) (fun _ _ _ h => h) (Or.inl ⟨by rfl, fun w hSw => by (try dsimp only at hSw); go_simp⟩) hHeld ?_
     try simp only [Act.put, List.setIfInBounds_toArray, List.set_cons_zero, List.set_cons_succ]
     refine wpAnyH_take (i := 5) (oi := { dst := some 36, op := Op.indexAddr 22 (Operand.tmp 34) (Operand.tmp 35), type := 0, pos := "ref.go:222", after := #[{ on := 3, ground := Ground.data }, { on := 4, ground := Ground.data }], guard := none }) (v := .pointer (some ⟨g, o + i * 10, none⟩)) rfl (by kernel_rfl) (by kernel_rfl) (by kernel_rfl) (fun _ _ _ h => h) (Or.inl ⟨by rfl, fun w hSw => by (try dsimp only at hSw); go_simp⟩) hHeld ?_
     try simp only [Act.put, List.setIfInBounds_toArray, List.set_cons_zero, List.set_cons_succ]
     refine wpAnyH_take (i := 6) (oi := { dst := some 37, op := Op.load 34 (Operand.tmp 36), type := 34, pos := "ref.go:222", after := #[{ on := 5, ground := Ground.data }], guard := none }) (v := .agg #[.int .i64 x.1.idx, .int .i64 x.1.par, .string x.1.name, .string x.1.orig, .string x.1.sub, .string x.1.drv, .string x.1.ali, .int .i64 x.1.kind, .int .i64 x.1.num, x.2]) rfl (by kernel_rfl) (by kernel_rfl) (by kernel_rfl) (fun _ _ _ h => h) (yieldsIf_load_mid (by rfl) 34 _ rfl g (o + i * 10) rfl [.int .i64 x.1.idx, .int .i64 x.1.par, .string x.1.name, .string x.1.orig, .string x.1.sub, .string x.1.drv, .string x.1.ali, .int .i64 x.1.kind, .int .i64 x.1.num, x.2] _ (fun w hSw => HRn.out _ hSw) Tryz.underlying34 rfl De.info34b) hHeld ?_
     try simp only [Act.put, List.setIfInBounds_toArray, List.set_cons_zero, List.set_cons_succ]
     have HOd := Lib.hid ((HKd.out.block O (block_lt HOV.out) (by simp)).trans HOV.out)
     refine wpAnyH_ready (rs := [1, 7]) (by kernel_rfl) (by simp) ?_
     refine AllReadyH.cons (o := { dst := some 32, op := Op.load 22 (Operand.tmp 31), type := 22, pos := "ref.go:222", after := #[{ on := 0, ground := Ground.data }], guard := none }) rfl (fun K hK => ?_) (AllReadyH.cons (o := { dst := some 38, op := Op.buildSlice 22 1 #[(0, Operand.tmp 37)], type := 22, pos := "ref.go:222", after := #[{ on := 6, ground := Ground.data }], guard := none }) rfl (fun K hK => ?_) AllReadyH.nil)
     ·skip
      have q0 := cell_one HOd.out
      go_simp
      clear q0
      have hS := hHeld
      clear hHeld
      refine hK.out _ _ hS (fun hHeld => ?_)
      try simp only [Act.put, List.setIfInBounds_toArray, List.set_cons_zero, List.set_cons_succ]
      clear hK
      clear hS
      refine wpAnyH_ready (rs := [7]) (by kernel_rfl) (by simp) ?_
      refine AllReadyH.cons (o := { dst := some 38, op := Op.buildSlice 22 1 #[(0, Operand.tmp 37)], type := 22, pos := "ref.go:222", after := #[{ on := 6, ground := Ground.data }], guard := none }) rfl (fun K hK => ?_) AllReadyH.nil
      go_simp
      have hkn := (Kp.refl [] wd).alloc (.cells #[.int .i64 x.1.idx, .int .i64 x.1.par, .string x.1.name, .string x.1.orig, .string x.1.sub, .string x.1.drv, .string x.1.ali, .int .i64 x.1.kind, .int .i64 x.1.num, x.2] 34)
      have hg8 := heap_alloc_last wd (.cells #[.int .i64 x.1.idx, .int .i64 x.1.par, .string x.1.name, .string x.1.orig, .string x.1.sub, .string x.1.drv, .string x.1.ali, .int .i64 x.1.kind, .int .i64 x.1.num, x.2] 34)
      obtain ⟨G, hG⟩ : ∃ G, wd.heap.size = G := ⟨_, rfl⟩
      generalize wd.alloc (.cells #[.int .i64 x.1.idx, .int .i64 x.1.par, .string x.1.name, .string x.1.orig, .string x.1.sub, .string x.1.drv, .string x.1.ali, .int .i64 x.1.kind, .int .i64 x.1.num, x.2] 34) = w8 at *
      rw [hG] at hg8 ⊢
      have HG8 := Lib.hid (show w8.heap[G]? = some (.cells (De.dvC x.1 x.2).toArray 34 (0, 0)) from hg8)
      have HK8 := Lib.hid (HKd.out.trans hkn)
      have HO8 := Lib.hid ((hkn.block O (block_lt HOd.out) (by simp)).trans HOd.out)
      have hS := hHeld.trans (hkn.mono (by simp))
      clear hkn hg8 hG
      clear hHeld
      refine hK.out _ _ hS (fun hHeld => ?_)
      try simp only [Act.put, List.setIfInBounds_toArray, List.set_cons_zero, List.set_cons_succ]
      clear hK
      clear hS
      refine wpAnyH_ready (rs := [8]) (by kernel_rfl) (by simp) ?_
      refine AllReadyH.cons (o := { dst := some 39, op := Op.call { callee := Callee.builtin Builtin.append, args := #[Operand.tmp 32, Operand.tmp 38], argTypes := #[22, 22] }, type := 22, pos := "ref.go:222", after := #[{ on := 1, ground := Ground.data }, { on := 7, ground := Ground.data }], guard := none }) rfl (fun K hK => ?_) AllReadyH.nil
      obtain ⟨v9, w9, hrun, how, hgr⟩ := run_append_dvs (w := w8) (base := O + 1) (v := v) (xs := XS) (ys := [x]) (ty := 22) (ownsRow_keep HOw.out fun b hB hb => HK8.out.block b (HOw.out.lt b hb).2 (by simp)) (one_row HG8.out (HAx.out _ hHeld)) HLx.out (by have := block_lt HO8.out; omega)
      obtain ⟨fa, fc, hv9⟩ := own_form how
      obtain ⟨ZL, hZL⟩ : ∃ q, (XS ++ [x]).length = q := ⟨_, rfl⟩
      rw [hZL] at hv9
      subst hv9
      clear hZL
      have HR := Lib.hid hrun
      have HO9 := Lib.hid how
      have hb9 : ∀ b, v.ownBlock = some b → O + 1 ≤ b := fun b hb => (HOw.out.lt b hb).1
      have hS : Kp [O] w0 w9 := kp_grownS hHeld hgr (fun b hb => by have := hb9 b hb; have := HO0.out; omega)
      have HB9 := Lib.hid (show w9.heap[O]? = some (.cells #[v] 29 (0, 0)) from (hgr.block O (block_lt HO8.out) (fun e => by have := hb9 O e.symm; omega)).trans HO8.out)
      clear hrun how hgr hb9
      refine step_append_run rfl _ _ rfl _ _ _ rfl rfl HR.out ?_
      clear hHeld
      refine hK.out _ _ hS (fun hHeld => ?_)
      try simp only [Act.put, List.setIfInBounds_toArray, List.set_cons_zero, List.set_cons_succ]
      clear hK
      clear hS HR
      refine wpAnyH_take (i := 9) (oi := { dst := some 40, op := Op.fieldAddr 29 (Operand.tmp 6) 0, type := 0, pos := "ref.go:222", after := #[{ on := 0, ground := Ground.phase }, { on := 1, ground := Ground.phase }, { on := 2, ground := Ground.phase }, { on := 3, ground := Ground.phase }, { on := 4, ground := Ground.phase }, { on := 5, ground := Ground.phase }, { on := 6, ground := Ground.phase }, { on := 7, ground := Ground.phase }, { on := 8, ground := Ground.phase }], guard := none }) (v := .pointer (some ⟨O, 0, none⟩)) rfl (by kernel_rfl) (by kernel_rfl) (by kernel_rfl) (fun _ _ _ h => h) (Or.inl ⟨by rfl, fun w hSw => by (try dsimp only at hSw); go_simp⟩) hHeld ?_
      try simp only [Act.put, List.setIfInBounds_toArray, List.set_cons_zero, List.set_cons_succ]
      refine wpAnyH_ready (rs := [10]) (by kernel_rfl) (by simp) ?_
      refine AllReadyH.cons (o := { dst := none, op := Op.store 22 (Operand.tmp 40) (Operand.tmp 39), type := 0, pos := "ref.go:222", after := #[{ on := 9, ground := Ground.data }, { on := 8, ground := Ground.data }, { on := 8, ground := Ground.chain }, { on := 0, ground := Ground.phase }, { on := 1, ground := Ground.phase }, { on := 2, ground := Ground.phase }, { on := 3, ground := Ground.phase }, { on := 4, ground := Ground.phase }, { on := 5, ground := Ground.phase }, { on := 6, ground := Ground.phase }, { on := 7, ground := Ground.phase }, { on := 8, ground := Ground.phase }], guard := none }) rfl (fun K hK => ?_) AllReadyH.nil
      have q0 := cell_one HB9.out
      have qf := frz_one HB9.out
      go_simp
      have HBe := Lib.hid (set_one (v := .slice fa ZL fc) HB9.out)
      have hkR : Kp [O] w9 (w9.setCell ⟨O, 0, none⟩ (.slice fa ZL fc)) := (Kp.refl _ _).setCell (p := ⟨O, 0, none⟩) (.inl (by simp)) _
      have HOe := Lib.hid (ownsRow_keep (W := w9) (W' := w9.setCell ⟨O, 0, none⟩ (.slice fa ZL fc)) HO9.out fun b hB hb => hkR.block b (HO9.out.lt b hb).2 (by simp; omega))
      generalize w9.setCell ⟨O, 0, none⟩ (.slice fa ZL fc) = we at *
      clear q0 qf
      have hS := hHeld.trans hkR
      clear hkR
      clear hHeld
      refine hK.out _ _ hS (fun hHeld => ?_)
      try simp only [Act.put, List.setIfInBounds_toArray, List.set_cons_zero, List.set_cons_succ]
      clear hK
      clear hS
      have HSe := Lib.hid hHeld
      refine wpAnyH_done (by kernel_rfl) ?_ _
      clear hHeld
      go_wp2
      exact ⟨⟨i + 1, by omega, by go_num, .slice fa ZL fc, HBe, Lib.hid (by rw [HTk2.out]; exact ⟨HOe.out, fun z hz => by rcases List.mem_append.1 hz with h | h; exact HAs.out _ HSe.out z h; (rw [List.mem_singleton.1 h]; exact HAx.out _ HSe.out)⟩), HSe⟩, by simp [intOf]; omega⟩
     ·skip
      go_simp
      have hkn := (Kp.refl [] wd).alloc (.cells #[.int .i64 x.1.idx, .int .i64 x.1.par, .string x.1.name, .string x.1.orig, .string x.1.sub, .string x.1.drv, .string x.1.ali, .int .i64 x.1.kind, .int .i64 x.1.num, x.2] 34)
      have hg8 := heap_alloc_last wd (.cells #[.int .i64 x.1.idx, .int .i64 x.1.par, .string x.1.name, .string x.1.orig, .string x.1.sub, .string x.1.drv, .string x.1.ali, .int .i64 x.1.kind, .int .i64 x.1.num, x.2] 34)
      obtain ⟨G, hG⟩ : ∃ G, wd.heap.size = G := ⟨_, rfl⟩
      generalize wd.alloc (.cells #[.int .i64 x.1.idx, .int .i64 x.1.par, .string x.1.name, .string x.1.orig, .string x.1.sub, .string x.1.drv, .string x.1.ali, .int .i64 x.1.kind, .int .i64 x.1.num, x.2] 34) = w8 at *
      rw [hG] at hg8 ⊢
      have HG8 := Lib.hid (show w8.heap[G]? = some (.cells (De.dvC x.1 x.2).toArray 34 (0, 0)) from hg8)
      have HK8 := Lib.hid (HKd.out.trans hkn)
      have HO8 := Lib.hid ((hkn.block O (block_lt HOd.out) (by simp)).trans HOd.out)
      have hS := hHeld.trans (hkn.mono (by simp))
      clear hkn hg8 hG
      clear hHeld
      refine hK.out _ _ hS (fun hHeld => ?_)
      try simp only [Act.put, List.setIfInBounds_toArray, List.set_cons_zero, List.set_cons_succ]
      clear hK
      clear hS
      refine wpAnyH_ready (rs := [1]) (by kernel_rfl) (by simp) ?_
      refine AllReadyH.cons (o := { dst := some 32, op := Op.load 22 (Operand.tmp 31), type := 22, pos := "ref.go:222", after := #[{ on := 0, ground := Ground.data }], guard := none }) rfl (fun K hK => ?_) AllReadyH.nil
      have q0 := cell_one HO8.out
      go_simp
      clear q0
      have hS := hHeld
      clear hHeld
      refine hK.out _ _ hS (fun hHeld => ?_)
      try simp only [Act.put, List.setIfInBounds_toArray, List.set_cons_zero, List.set_cons_succ]
      clear hK
      clear hS
      refine wpAnyH_ready (rs := [8]) (by kernel_rfl) (by simp) ?_
      refine AllReadyH.cons (o := { dst := some 39, op := Op.call { callee := Callee.builtin Builtin.append, args := #[Operand.tmp 32, Operand.tmp 38], argTypes := #[22, 22] }, type := 22, pos := "ref.go:222", after := #[{ on := 1, ground := Ground.data }, { on := 7, ground := Ground.data }], guard := none }) rfl (fun K hK => ?_) AllReadyH.nil
      obtain ⟨v9, w9, hrun, how, hgr⟩ := run_append_dvs (w := w8) (base := O + 1) (v := v) (xs := XS) (ys := [x]) (ty := 22) (ownsRow_keep HOw.out fun b hB hb => HK8.out.block b (HOw.out.lt b hb).2 (by simp)) (one_row HG8.out (HAx.out _ hHeld)) HLx.out (by have := block_lt HO8.out; omega)
      obtain ⟨fa, fc, hv9⟩ := own_form how
      obtain ⟨ZL, hZL⟩ : ∃ q, (XS ++ [x]).length = q := ⟨_, rfl⟩
      rw [hZL] at hv9
      subst hv9
      clear hZL
      have HR := Lib.hid hrun
      have HO9 := Lib.hid how
      have hb9 : ∀ b, v.ownBlock = some b → O + 1 ≤ b := fun b hb => (HOw.out.lt b hb).1
      have hS : Kp [O] w0 w9 := kp_grownS hHeld hgr (fun b hb => by have := hb9 b hb; have := HO0.out; omega)
      have HB9 := Lib.hid (show w9.heap[O]? = some (.cells #[v] 29 (0, 0)) from (hgr.block O (block_lt HO8.out) (fun e => by have := hb9 O e.symm; omega)).trans HO8.out)
      clear hrun how hgr hb9
      refine step_append_run rfl _ _ rfl _ _ _ rfl rfl HR.out ?_
      clear hHeld
      refine hK.out _ _ hS (fun hHeld => ?_)
      try simp only [Act.put, List.setIfInBounds_toArray, List.set_cons_zero, List.set_cons_succ]
      clear hK
      clear hS HR
      refine wpAnyH_take (i := 9) (oi := { dst := some 40, op := Op.fieldAddr 29 (Operand.tmp 6) 0, type := 0, pos := "ref.go:222", after := #[{ on := 0, ground := Ground.phase }, { on := 1, ground := Ground.phase }, { on := 2, ground := Ground.phase }, { on := 3, ground := Ground.phase }, { on := 4, ground := Ground.phase }, { on := 5, ground := Ground.phase }, { on := 6, ground := Ground.phase }, { on := 7, ground := Ground.phase }, { on := 8, ground := Ground.phase }], guard := none }) (v := .pointer (some ⟨O, 0, none⟩)) rfl (by kernel_rfl) (by kernel_rfl) (by kernel_rfl) (fun _ _ _ h => h) (Or.inl ⟨by rfl, fun w hSw => by (try dsimp only at hSw); go_simp⟩) hHeld ?_
      try simp only [Act.put, List.setIfInBounds_toArray, List.set_cons_zero, List.set_cons_succ]
      refine wpAnyH_ready (rs := [10]) (by kernel_rfl) (by simp) ?_
      refine AllReadyH.cons (o := { dst := none, op := Op.store 22 (Operand.tmp 40) (Operand.tmp 39), type := 0, pos := "ref.go:222", after := #[{ on := 9, ground := Ground.data }, { on := 8, ground := Ground.data }, { on := 8, ground := Ground.chain }, { on := 0, ground := Ground.phase }, { on := 1, ground := Ground.phase }, { on := 2, ground := Ground.phase }, { on := 3, ground := Ground.phase }, { on := 4, ground := Ground.phase }, { on := 5, ground := Ground.phase }, { on := 6, ground := Ground.phase }, { on := 7, ground := Ground.phase }, { on := 8, ground := Ground.phase }], guard := none }) rfl (fun K hK => ?_) AllReadyH.nil
      have q0 := cell_one HB9.out
      have qf := frz_one HB9.out
      go_simp
      have HBe := Lib.hid (set_one (v := .slice fa ZL fc) HB9.out)
      have hkR : Kp [O] w9 (w9.setCell ⟨O, 0, none⟩ (.slice fa ZL fc)) := (Kp.refl _ _).setCell (p := ⟨O, 0, none⟩) (.inl (by simp)) _
      have HOe := Lib.hid (ownsRow_keep (W := w9) (W' := w9.setCell ⟨O, 0, none⟩ (.slice fa ZL fc)) HO9.out fun b hB hb => hkR.block b (HO9.out.lt b hb).2 (by simp; omega))
      generalize w9.setCell ⟨O, 0, none⟩ (.slice fa ZL fc) = we at *
      clear q0 qf
      have hS := hHeld.trans hkR
      clear hkR
      clear hHeld
      refine hK.out _ _ hS (fun hHeld => ?_)
      try simp only [Act.put, List.setIfInBounds_toArray, List.set_cons_zero, List.set_cons_succ]
      clear hK
      clear hS
      have HSe := Lib.hid hHeld
      refine wpAnyH_done (by kernel_rfl) ?_ _
      clear hHeld
      go_wp2
      exact ⟨⟨i + 1, by omega, by go_num, .slice fa ZL fc, HBe, Lib.hid (by rw [HTk2.out]; exact ⟨HOe.out, fun z hz => by rcases List.mem_append.1 hz with h | h; exact HAs.out _ HSe.out z h; (rw [List.mem_singleton.1 h]; exact HAx.out _ HSe.out)⟩), HSe⟩, by simp [intOf]; omega⟩
   ·obtain rfl : i = N := by omega
    have hiz : ¬ (i : Int) < (i : Int) := by omega
    obtain ⟨va, vc, hv⟩ := own_form HDo.out.row
    obtain ⟨XL, hXL⟩ : ∃ q, ((l.take i).filter fun x => !blw l n x).length = q := ⟨_, rfl⟩
    rw [hXL] at hv
    subst hv
    have q0 := cell_one HOw1.out
    have HR1 := Lib.hid ((HKr.out.block (Bz + 1) (block_lt H2w.out) (by have := HOB.out; simp; omega)).trans H2w.out)
    have HEq := Lib.hid (show ((l.take i).filter fun x => !blw l n x) = l.filter fun x => !blw l n x from by rw [List.take_of_length_le (by rw [HN.out]; exact Nat.le_refl _)])
    go_wp2_with (refine wpList_store_row rfl 29 _ _ rfl (Bz + 1) #[.slice va XL vc] rfl rfl 29 #[.slice none 0 0] HR1.out info30b rfl (sl_one _ _ _) ?_)
    refine bodyPost_ret (v := .tuple #[.agg #[.slice va XL vc], .int .i64 0]) (De.results_row_tmp rfl _ _ (Bz + 1) 29 #[.slice va XL vc] _ _ _ rfl rfl (setRow_heap _ _ _ _ _ _ HR1.out) Tryz.underlying29 rfl info30b) rfl ⟨_, rfl, Lib.hid ?_, Lib.hid ?_⟩
    ·rw [← HEq.out]
     exact dhasR HDo.out.has ((Kp.refl [Bz + 1] _).setRow (.inl (by simp)) _) HR1.out
    ·exact (Kp.of_below (HBw.out _ HKr.out)).setRow (.inr (by omega)) _
end Go.Proofs.YtldcediiobfhiaaGreatDoor
namespace Go.Proofs.YtldcediiobfhiaaGreatDoor
open Go.RowKit
theorem zero_cells_size (k : Nat) : (Builtin.zeroCells (Value.agg De.zeroC).cells k).size = k * 10 := De.zero_size k
set_option maxHeartbeats 2000000 in
set_option maxRecDepth 100000 in
theorem grow_nil (n : Nat) (hn : n ≤ 200000) (w : World) : Calls Tryz.prog 118 #[.slice none 0 0, .int .i64 (n : Int)] w fun e w' => ∃ v, e = .returned v ∧ Hid (w'.ownsRow w.heap.size 34 10 v 0 []) ∧ Hid (Kp [] w w') := by
 obtain ⟨i0, hi0, hz0, hz1, hz2⟩ := info_parts De.info34
 have h1 : ¬ ((n : Int) < 0) := by omega
 have h2 : IntKind.i64.wrap (n : Int) = (n : Int) := by rw [IntKind.wrap_i64]; omega
 cases n with
 | zero =>
  go_enter Tryz.func118, Tryz.ntmps118
  go_wp2
  go_ret
  exact ⟨_, rfl, Lib.hid (World.ownsRow_nil _ _ _ _), Lib.hid (Kp.refl _ _)⟩
 | succ k =>
  have hold : (Builtin.firstCells i0.size 0 (.slice none 0 0)).run Tryz.prog w.drew = .ok (([] : List Value)).toArray w.drew := run_firstCells_none w.drew i0.size 0 0 0
  have hrz := fun ty => Lib.run_append_grow_zeros (P := Tryz.prog) w 22 3 ty 34 i0 _ .i64 .i64 Tryz.underlying22 Tryz.underlying3 hi0 hz0 none 0 0 [] hold (k + 1) (by omega) (by omega) (by omega) (by omega) (by rw [hz2]; omega)
   (by rw [hz2]; exact growslice_fits (by omega) (by omega))
  rw [show 0 + (k + 1) = k + 1 by omega] at hrz
  obtain ⟨G, hG⟩ : ∃ G, grownCap w (k + 1) 0 34 = G := ⟨_, rfl⟩
  have hG1 : k + 1 ≤ G := by rw [← hG]; exact grownCap_ge w _ _ _
  have hG2 : G ≤ maxLen := by rw [← hG]; exact grownCap_le_maxLen w _ _ _ (by unfold maxLen; omega)
  rw [hG] at hrz
  obtain ⟨row0, hrow0⟩ : ∃ row : Array Value, ([] : List Value).toArray ++ Builtin.zeroCells (Value.agg De.zeroC).cells (k + 1) ++ Builtin.zeroCells (Value.agg De.zeroC).cells (G - (k + 1)) = row := ⟨_, rfl⟩
  rw [hrow0] at hrz
  have hrs : row0.size = G * 10 := by
   rw [← hrow0, Array.size_append, Array.size_append, zero_cells_size, zero_cells_size]
   simp
   omega
  obtain ⟨W1, hW1⟩ : ∃ W1, w.drew.alloc (.cells row0 34) = W1 := ⟨_, rfl⟩
  rw [hW1] at hrz
  have hk1 : Kp [] w W1 := by rw [← hW1]; exact ((Kp.refl [] w).drew 1).alloc _
  have hn1 : W1.heap[w.heap.size]? = some (.cells row0 34 (0, 0)) := by rw [← hW1]; exact heap_alloc_last w.drew _
  have HO := Lib.hid (show W1.ownsRow w.heap.size 34 10 (.slice (some ⟨w.heap.size, 0, none⟩) 0 G) 0 [] from ⟨rfl, .inr ⟨w.heap.size, G, row0, rfl, Nat.le_refl _, hn1, Nat.zero_le _, hG2, hrs, by simp⟩⟩)
  have HK := Lib.hid hk1
  have HR := Lib.hid hrz
  have h3 : ((k + 1 : Nat) : Int) > 0 := by omega
  have hG3 : G ≤ 9223372036854775807 := by unfold maxLen at hG2; omega
  clear hrz hold hW1 hk1 hn1 hrs hrow0 hG
  go_enter Tryz.func118, Tryz.ntmps118
  go_wp2_with (at_builtin; refine Lib.wpList_append_run _ rfl _ _ _ _ rfl _ _ rfl rfl _ _ (HR.out _) ?_)
  all_goals (go_ret; exact ⟨_, rfl, HO, HK⟩)
theorem two_sl {W : World} {R : Nat} {u v : Value} (h : W.heap[R]? = some (.cells #[u, v] 22 (0, 0))) : W.cell? ⟨R, 0, none⟩ = some u ∧ W.cell? ⟨R, 1, none⟩ = some v := by
 constructor <;> (rw [cell_of_row _ _ _ _ _ _ h]; rfl)
set_option maxHeartbeats 4000000 in
set_option maxRecDepth 100000 in
/-- Concat of two rows. -/
theorem concat_any (R : Nat) (ua ub : Option Addr) (n m c1 c2 : Nat) (l1 l2 : List De.DV) (w : World) (hn : n + m ≤ 100000) (h : w.heap[R]? = some (.cells #[.slice ua n c1, .slice ub m c2] 22 (0, 0))) (hl1 : l1.length = n) (hl2 : l2.length = m) (h1 : De.DHas w (.slice ua n c1) l1) (h2 : De.DHas w (.slice ub m c2) l2) :
  Calls Tryz.prog 84 #[.slice (some ⟨R, 0, none⟩) 2 2] w fun e w' => ∃ v, e = .returned v ∧ Hid (De.DHas w' v (l1 ++ l2)) ∧ Hid (Kp [] w w') := by
 have HR := Lib.hid h
 have H1 := Lib.hid h1
 have H2 := Lib.hid h2
 have HL1 := Lib.hid hl1
 have HL2 := Lib.hid hl2
 have t0 := (two_sl h).1
 have t1 := (two_sl h).2
 obtain ⟨S, hS⟩ : ∃ S, n + m = S := ⟨_, rfl⟩
 have hw0 : IntKind.i64.wrap (n : Int) = (n : Int) := by rw [IntKind.wrap_i64]; omega
 have hw1 : IntKind.i64.wrap ((n : Int) + (m : Int)) = (S : Int) := by rw [IntKind.wrap_i64]; omega
 have hp0 : ¬ ((n : Int) < 0) := by omega
 have hp1 : ¬ ((S : Int) < 0) := by omega
 have HG := Lib.hid (grow_nil S (by omega) w)
 clear h h1 h2 hl1 hl2
 go_enter Tryz.func84, Tryz.ntmps84
 go_upto_region 3 with fail
 go_loopw [3, 11] (fun s3 s11 wx => ∃ i : Nat, i ≤ 2 ∧ s11 = .int .i64 (i : Int) ∧ s3 = .int .i64 ((if i = 0 then 0 else if i = 1 then n else S : Nat) : Int) ∧ wx = w) (fun _ s11 _ => 2 - (intOf s11).toNat)
 case atStart => exact ⟨0, by omega, rfl, rfl, rfl⟩
 case round =>
  obtain ⟨i, hi, rfl, rfl, hwx⟩ := hrel
  subst hwx
  obtain rfl | rfl | rfl : i = 0 ∨ i = 1 ∨ i = 2 := by omega
  ·go_wp2
   exact ⟨⟨1, by omega, by go_num, rfl, trivial⟩, by simp [intOf]⟩
  ·have hs : (if (1 : Nat) = 0 then 0 else if (1 : Nat) = 1 then n else S : Nat) = n := rfl
   rw [hs]
   go_wp2
   exact ⟨⟨2, by omega, by go_num, rfl, trivial⟩, by simp [intOf]⟩
  ·have hs : (if (2 : Nat) = 0 then 0 else if (2 : Nat) = 1 then n else S : Nat) = S := rfl
   rw [hs]
   go_upto_region 11 with (go_at_call 118; refine Calls.mono (by with_reducible exact HG.out) ?_; rintro e w1 ⟨v0, rfl, HO1, HK1⟩)
   clear t0 t1
   go_loopw [6, 27] (fun s6 s27 wx => ∃ (i : Nat) (XS : List De.DV), i ≤ 2 ∧ s27 = .int .i64 (i : Int) ∧ XS = (if i = 0 then [] else if i = 1 then l1 else l1 ++ l2) ∧ Hid (wx.ownsRow wr.heap.size 34 10 s6 XS.length (De.dvsC XS)) ∧ Hid (Kp [] wr wx)) (fun _ s27 _ => 2 - (intOf s27).toNat)
   case atStart => exact ⟨0, [], by omega, rfl, rfl, HO1, HK1⟩
   case round =>
    obtain ⟨i, XS, hi2, rfl, hXS, HO, HK⟩ := hrel
    have hw := HK.out.size
    have t0 := (two_sl ((HK.out.block R (block_lt HR.out) (by simp)).trans HR.out)).1
    have t1 := (two_sl ((HK.out.block R (block_lt HR.out) (by simp)).trans HR.out)).2
    obtain rfl | rfl | rfl : i = 0 ∨ i = 1 ∨ i = 2 := by omega
    ·obtain rfl : XS = [] := hXS
     have HLa := Lib.hid (show ([] : List De.DV).length + l1.length ≤ 100000 from by rw [HL1.out]; simp; omega)
     go_wp2_with (refine wpList_append_dvs rfl _ _ rfl _ _ (.slice ua n c1) [] l1 rfl HO.out rfl (H1.out.below HK.out.bel) HLa.out hw ?_; intro v5 w3 hown hgr; have HO5 := Lib.hid hown; have HK5 := Lib.hid (kp_grownS HK.out hgr (fun b hb => (HO.out.lt b hb).1)); clear hown hgr)
     exact ⟨⟨1, l1, by omega, by go_num, rfl, HO5, HK5⟩, by simp [intOf]⟩
    ·obtain rfl : XS = l1 := hXS
     have HLa := Lib.hid (show XS.length + l2.length ≤ 100000 from by rw [HL1.out, HL2.out]; omega)
     go_wp2_with (refine wpList_append_dvs rfl _ _ rfl _ _ (.slice ub m c2) XS l2 rfl HO.out rfl (H2.out.below HK.out.bel) HLa.out hw ?_; intro v5 w3 hown hgr; have HO5 := Lib.hid hown; have HK5 := Lib.hid (kp_grownS HK.out hgr (fun b hb => (HO.out.lt b hb).1)); clear hown hgr)
     exact ⟨⟨2, XS ++ l2, by omega, by go_num, rfl, HO5, HK5⟩, by simp [intOf]⟩
    ·obtain rfl : XS = l1 ++ l2 := hXS
     go_wp2
     go_ret
     exact ⟨_, rfl, Lib.hid (De.DOwn.has ⟨HO.out, fun z hz => by
      rcases List.mem_append.1 hz with h | h
      ·exact dhas_ats (H1.out.below HK.out.bel) z h
      ·exact dhas_ats (H2.out.below HK.out.bel) z h⟩), HK⟩
end Go.Proofs.YtldcediiobfhiaaGreatDoor
