/- Draft of the reference. -/
import Derived.Test.YthblgkjmjfhkdaaKMf
namespace Go.Proofs.Ythblgkjmjfhkdaa
open Go.RowKit

theorem cell_kp {w w' : World} {b o : Nat} {u : Value} (hk : Kp [] w w') (h : w.cell? ⟨b, o, none⟩ = some u) : w'.cell? ⟨b, o, none⟩ = some u := by
  have hl : b < w.heap.size := World.block_lt_of_cell? _ _ h
  simp only [World.cell?, hk.block b hl (by simp)] at h ⊢
  exact h
set_option maxRecDepth 100000 in
set_option maxHeartbeats 8000000 in
theorem refDraft_any (t : Tm) (act : ByteArray) (d : Dra) (pl : List De.Atr) (tl : List (List UInt8)) (w : World) (ht : t.val.length ≤ 4611686018427387904) (hs : SmR act d pl tl) (h : DrIn w d pl tl) :
    Calls Try.prog 18 #[.agg (tmC t), .string act, .agg (draC d)] w fun e w' => e = .returned (.bool (draftB t act d pl tl)) ∧ Kp [] w w' := by
  obtain ⟨k, n, o, vl⟩ := t
  simp only at ht
  obtain ⟨W0, hW⟩ : ∃ W0, (w.alloc (.cells (tmC ⟨k, n, o, vl⟩) 23)).alloc (.cells (draC d) 43) = W0 := ⟨_, rfl⟩
  obtain ⟨R, hR'⟩ : ∃ R, w.heap.size = R := ⟨_, rfl⟩
  obtain ⟨E, hE⟩ : ∃ E, R + 1 = E := ⟨_, rfl⟩
  have hk0 : Kp [] w W0 := by rw [← hW]; exact ((Kp.refl [] w).alloc _).alloc _
  have hb0 : MAt W0 R ⟨k, n, o, vl⟩ := by rw [← hW, ← hR']; exact heap_alloc2_old w _ _
  have hd0 : DAt W0 E d := by
    have := heap_alloc_last (w.alloc (.cells (tmC ⟨k, n, o, vl⟩) 23)) (.cells (draC d) 43)
    rw [hW] at this
    rw [← hE, ← hR']
    unfold DAt
    simpa using this
  obtain ⟨c0, c1, c2, c3⟩ := hb0.cells
  have HC := Lib.hid (fun W (hk : Kp [] W0 W) => (show (W.cell? ⟨R, 0, none⟩ = some (.int .i64 k) ∧ W.cell? ⟨R, 1, none⟩ = some (.string (bs n)) ∧ W.cell? ⟨R, 2, none⟩ = some (.int .i64 o) ∧ W.cell? ⟨R, 3, none⟩ = some (.string (bs vl))) ∧ (W.cell? ⟨E, 0, none⟩ = some (.slice d.props.a d.props.n d.props.c) ∧ W.cell? ⟨E, 10, none⟩ = some (.string d.res)) from
    have hd := (hd0.kp0 hk).cells
    ⟨(hb0.kp0 hk).cells, hd.1, hd.2.2.2.2.2.2.2.2.2.2.1⟩))
  have HS := Lib.hid (fun W => refMatch_any ⟨k, n, o, vl⟩ W)
  have HG := Lib.hid (fun W (hk : Kp [] W0 W) => De.refGet_any (bs n) (.slice d.props.a d.props.n d.props.c) pl W hs.pn (h.kp0 (hk0.trans hk)).p)
  have HH := Lib.hid (fun (s : ByteArray) (hs : s.size ≤ 4611686018427387904) W => (show Calls Try.prog 32 #[.agg (tmC ⟨k, n, o, vl⟩), .string s] W fun e w' => e = .returned (.bool (hR ⟨k, n, o, vl⟩ s.data.toList)) ∧ Kp [] W w' from by
    have := refHolds_any ⟨k, n, o, vl⟩ s.data.toList W ht hs
    rwa [bs_of] at this))
  have HK0 := Lib.hid hk0
  have HSm := Lib.hid hs
  have HIn := Lib.hid (fun W (hk : Kp [] W0 W) => (h.kp0 (hk0.trans hk)).t)
  have HM0 := Lib.hid (fun x (hx : x.length ≤ 4611686018427387904) W => refGlob_any vl x W ht hx)
  have HB0 := Lib.hid hb0
  have HD0 := Lib.hid hd0
  have hdv : draftB ⟨k, n, o, vl⟩ act d pl tl = ((drK k && matchB o) && hB ⟨k, n, o, vl⟩ (valsR k n act d pl tl)) := rfl
  rw [hdv]
  unfold De.getR at HG
  have HG2 := Lib.hid (getO_size hs.p (bs n))
  unfold getO at HG2
  unfold tmC at HH hW ⊢
  unfold draC at hW ⊢
  simp only at HS HH
  clear hk0 hb0 hd0 h hs hdv
  cases hm : matchB o
  · rw [hm] at HS
    have HB := Lib.hid (show ((drK k && false) && hB ⟨k, n, o, vl⟩ (valsR k n act d pl tl)) = false by simp)
    go_enter Try.func18, Try.ntmps18
    go_wp2_with (first
      | (go_at_call 29; refine Calls.mono (by with_reducible exact HS.out _) ?_; rintro e w1 ⟨rfl, hk1⟩; have HK1 := Lib.hid hk1; obtain ⟨⟨c0, c1, c2, c3⟩, d0, d10⟩ := HC.out _ hk1; clear hk1))
    go_ret
    exact ⟨by rw [HB.out]; rfl, HK0.out.trans HK1.out⟩
  · rw [hm] at HS
    have ho : o = 1 ∨ o = 2 := by
      unfold matchB at hm
      simpa using hm
    by_cases h1 : k = 1
    · subst h1
      have HE := Lib.hid (show ((drK 1 && true) && hB ⟨1, n, o, vl⟩ (valsR 1 n act d pl tl)) = hR ⟨1, n, o, vl⟩ act.data.toList from hB_one _ _)
      rw [HE.out]
      go_enter Try.func18, Try.ntmps18
      go_wp2_with (first
        | (go_at_call 29; refine Calls.mono (by with_reducible exact HS.out _) ?_; rintro e w1 ⟨rfl, hk1⟩; have HK1 := Lib.hid hk1; obtain ⟨⟨c0, c1, c2, c3⟩, d0, d10⟩ := HC.out _ hk1; clear hk1)
        | (go_at_call 32; refine Calls.mono (by with_reducible exact HH.out _ HSm.out.act _) ?_; rintro e w3 ⟨rfl, hk3⟩; have HK3 := Lib.hid (HK1.out.trans hk3); clear hk3))
      go_ret
      exact ⟨rfl, HK0.out.trans HK3.out⟩
    · by_cases h6 : k = 6
      · subst h6
        have HE := Lib.hid (show ((drK 6 && true) && hB ⟨6, n, o, vl⟩ (valsR 6 n act d pl tl)) = hR ⟨6, n, o, vl⟩ (getO (bs n) pl).data.toList from hB_one _ _)
        rw [HE.out]
        unfold getO
        go_enter Try.func18, Try.ntmps18
        go_wp2_with (first
          | (go_at_call 29; refine Calls.mono (by with_reducible exact HS.out _) ?_; rintro e w1 ⟨rfl, hk1⟩; have HK1 := Lib.hid hk1; obtain ⟨⟨c0, c1, c2, c3⟩, d0, d10⟩ := HC.out _ hk1; clear hk1)
          | (go_at_call 33; refine Calls.mono (by with_reducible exact HG.out _ HK1.out) ?_; rintro e w4 ⟨rfl, hk4⟩; have HK4 := Lib.hid (HK1.out.trans (Kp.of_bel hk4)); obtain ⟨⟨c0, c1, c2, c3⟩, d0, d10⟩ := HC.out _ HK4.out; clear hk4)
          | (go_at_call 32; refine Calls.mono (by with_reducible exact HH.out _ HG2.out _) ?_; rintro e w3 ⟨rfl, hk3⟩; have HK3 := Lib.hid (HK4.out.trans hk3); clear hk3))
        go_ret
        exact ⟨rfl, HK0.out.trans HK3.out⟩
      · by_cases h13 : k = 13
        · subst h13
          have HE := Lib.hid (show ((drK 13 && true) && hB ⟨13, n, o, vl⟩ (valsR 13 n act d pl tl)) = hR ⟨13, n, o, vl⟩ d.res.data.toList from hB_one _ _)
          rw [HE.out]
          go_enter Try.func18, Try.ntmps18
          go_wp2_with (first
            | (go_at_call 29; refine Calls.mono (by with_reducible exact HS.out _) ?_; rintro e w1 ⟨rfl, hk1⟩; have HK1 := Lib.hid hk1; obtain ⟨⟨c0, c1, c2, c3⟩, d0, d10⟩ := HC.out _ hk1; clear hk1)
            | (go_at_call 32; refine Calls.mono (by with_reducible exact HH.out _ HSm.out.res _) ?_; rintro e w3 ⟨rfl, hk3⟩; have HK3 := Lib.hid (HK1.out.trans hk3); clear hk3))
          go_ret
          exact ⟨rfl, HK0.out.trans HK3.out⟩
        · by_cases h7 : k = 7
          · subst h7
            have HE := Lib.hid (show ((drK 7 && true) && hB ⟨7, n, o, vl⟩ (valsR 7 n act d pl tl)) = (tl.any (hitB ⟨7, n, o, vl⟩) == (o == 1)) from rfl)
            rw [HE.out]
            have HT0 := Lib.hid (fun W (hk : DAt W E d) => hk.cells.2.1)
            obtain ⟨ta, hta⟩ : ∃ a, d.tags.a = a := ⟨_, rfl⟩
            obtain ⟨tn, htn⟩ : ∃ a, d.tags.n = a := ⟨_, rfl⟩
            obtain ⟨tc, htc⟩ : ∃ a, d.tags.c = a := ⟨_, rfl⟩
            rw [hta, htn, htc] at HT0 HIn
            have HY := Lib.hid (show tl.any (hitB ⟨7, n, o, vl⟩) = true → (o == 1) = (tl.any (hitB ⟨7, n, o, vl⟩) == (o == 1)) from fun h => by rw [h]; simp)
            have HNo := Lib.hid (show tl.any (hitB ⟨7, n, o, vl⟩) = false → (o == 2) = (tl.any (hitB ⟨7, n, o, vl⟩) == (o == 1)) from fun h => by rw [h]; rcases ho with rfl | rfl <;> rfl)
            have HW0 := Lib.hid (Kp.refl [] W0)
            rcases HIn.out W0 (Kp.refl [] W0) with ⟨a', c', hv, hnil⟩ | ⟨g, go, c', hv, hg, hrow⟩
            · simp only [Value.slice.injEq] at hv
              obtain ⟨-, rfl, -⟩ := hv
              have HA := Lib.hid (HNo.out (by rw [hnil]; rfl))
              have hz : ¬ ((0 : Int) < ((0 : Nat) : Int)) := by omega
              clear htn hta htc
              go_enter Try.func18, Try.ntmps18
              go_wp2_with (first
                | (go_at_call 29; refine Calls.mono (by with_reducible exact HS.out _) ?_; rintro e w1 ⟨rfl, hk1⟩; have HK1 := Lib.hid hk1; obtain ⟨⟨c0, c1, c2, c3⟩, d0, d10⟩ := HC.out _ hk1; clear hk1))
              go_loopw [9] (fun s wx => s = .int .i64 0 ∧ Kp [] W0 wx) (fun _ _ => 0)
              case atStart => exact ⟨rfl, HK1.out⟩
              case round =>
                obtain ⟨rfl, hk2⟩ := hrel
                have d1 := HT0.out _ (HD0.out.kp0 hk2)
                obtain ⟨c0, c1, c2, c3⟩ := (HB0.out.kp0 hk2).cells
                go_wp2
                go_ret
                exact ⟨by rcases ho with rfl | rfl <;> rfl, HK0.out.trans hk2⟩
            · simp only [Value.slice.injEq] at hv
              obtain ⟨rfl, rfl, -⟩ := hv
              obtain ⟨M, hM⟩ : ∃ M, tl.length = M := ⟨_, rfl⟩
              have HMl := Lib.hid hM
              rw [hM] at HT0
              have Hrow := Lib.hid hrow
              have Hg := Lib.hid hg
              have hMi : (M : Int) ≤ 4611686018427387904 := by have := HSm.out.tn; omega
              clear hrow hg htn hta htc hM
              go_enter Try.func18, Try.ntmps18
              go_wp2_with (first
                | (go_at_call 29; refine Calls.mono (by with_reducible exact HS.out _) ?_; rintro e w1 ⟨rfl, hk1⟩; have HK1 := Lib.hid hk1; obtain ⟨⟨c0, c1, c2, c3⟩, d0, d10⟩ := HC.out _ hk1; clear hk1))
              go_loopw [9] (fun s wx => ∃ i : Nat, i ≤ M ∧ s = .int .i64 i ∧ (∀ (j : Nat) (a : List UInt8), j < i → tl[j]? = some a → hitB ⟨7, n, o, vl⟩ a = false) ∧ Kp [] W0 wx) (fun s _ => M - (intOf s).toNat)
              case atStart => exact ⟨0, by omega, rfl, fun j a hj _ => absurd hj (by omega), HK1.out⟩
              case round =>
                obtain ⟨i, hi, rfl, hall, hk2⟩ := hrel
                have Hall := Lib.hid hall
                have HK2 := Lib.hid hk2
                have d1 := HT0.out _ (HD0.out.kp0 hk2)
                obtain ⟨c0, c1, c2, c3⟩ := (HB0.out.kp0 hk2).cells
                clear hall hk2
                by_cases hlt : (i : Int) < (M : Int)
                · obtain ⟨x, hx⟩ : ∃ x, tl[i]? = some x := ⟨tl[i]'(by rw [HMl.out]; omega), List.getElem?_eq_getElem _⟩
                  have hdx := HK2.out.drew 1
                  have HST := Lib.hid (show MAt wr.drew R ⟨7, n, o, vl⟩ ∧ DAt wr.drew E d ∧ wr.drew.cell? ⟨g, go + i, none⟩ = some (.string (bs x)) ∧ Kp [] W0 wr.drew from ⟨HB0.out.kp0 hdx, HD0.out.kp0 hdx, st_cell (st_row_kp Hrow.out Hg.out hdx) hx, hdx⟩)
                  have HT1 := Lib.hid HT0.out
                  have HCX := Lib.hid (fun (W W' : World) (hk : Kp [] W W') (h : W.cell? ⟨g, go + i, none⟩ = some (.string (bs x))) => cell_kp hk h)
                  have HM := Lib.hid (fun W => HM0.out x (HSm.out.t x (List.mem_of_getElem? hx)) W)
                  have Hx := Lib.hid hx
                  have Hmem := Lib.hid (List.mem_of_getElem? hx)
                  clear hx hdx
                  cases hmb : hitB ⟨7, n, o, vl⟩ x with
                  | true =>
                    have hmb2 : Gl.patB vl x = true := hmb
                    rw [hmb2] at HM
                    have HA := Lib.hid (HY.out (List.any_eq_true.2 ⟨x, Hmem.out, hmb⟩))
                    clear hmb hmb2
                    go_upto_region 15 with fail
                    clear c0 c1 c2 c3 d1
                    refine wp_region_held_drew (S := fun W => MAt W R ⟨7, n, o, vl⟩ ∧ DAt W E d ∧ W.cell? ⟨g, go + i, none⟩ = some (.string (bs x)) ∧ Kp [] W0 W) (by kernel_rfl) HST.out (fun hHeld => ?_)
                    refine wpAnyH_take (i := 0) (oi := { dst := some 48, op := Op.fieldAddr 23 (Operand.tmp 3) 3, type := 0, pos := "ref.go:59", after := #[], guard := none }) (v := .pointer (some ⟨R, 3, none⟩)) rfl (by kernel_rfl) (by kernel_rfl) (by kernel_rfl) (fun _ _ _ h => h) (Or.inl ⟨by rfl, fun w hSw => by (try dsimp only at hSw); go_simp⟩) hHeld ?_
                    try simp only [Act.put, List.setIfInBounds_toArray, List.set_cons_zero, List.set_cons_succ]
                    refine wpAnyH_take (i := 1) (oi := { dst := some 49, op := Op.load 9 (Operand.tmp 48), type := 9, pos := "ref.go:59", after := #[{ on := 0, ground := Ground.data }], guard := none }) (v := .string (bs vl)) rfl (by kernel_rfl) (by kernel_rfl) (by kernel_rfl) (fun _ _ _ h => h) (Or.inl ⟨by rfl, fun w hSw => by (try dsimp only at hSw); obtain ⟨c0, c1, c2, c3⟩ := hSw.1.cells; go_simp⟩) hHeld ?_
                    try simp only [Act.put, List.setIfInBounds_toArray, List.set_cons_zero, List.set_cons_succ]
                    refine wpAnyH_take (i := 2) (oi := { dst := some 50, op := Op.fieldAddr 43 (Operand.tmp 5) 1, type := 0, pos := "ref.go:59", after := #[], guard := none }) (v := .pointer (some ⟨E, 1, none⟩)) rfl (by kernel_rfl) (by kernel_rfl) (by kernel_rfl) (fun _ _ _ h => h) (Or.inl ⟨by rfl, fun w hSw => by (try dsimp only at hSw); go_simp⟩) hHeld ?_
                    try simp only [Act.put, List.setIfInBounds_toArray, List.set_cons_zero, List.set_cons_succ]
                    refine wpAnyH_take (i := 3) (oi := { dst := some 51, op := Op.load 41 (Operand.tmp 50), type := 41, pos := "ref.go:59", after := #[{ on := 2, ground := Ground.data }], guard := none }) (v := .slice (some ⟨g, go, none⟩) M tc) rfl (by kernel_rfl) (by kernel_rfl) (by kernel_rfl) (fun _ _ _ h => h) (Or.inl ⟨by rfl, fun w hSw => by (try dsimp only at hSw); have d1 := HT1.out _ hSw.2.1; go_simp⟩) hHeld ?_
                    try simp only [Act.put, List.setIfInBounds_toArray, List.set_cons_zero, List.set_cons_succ]
                    refine wpAnyH_take (i := 4) (oi := { dst := some 52, op := Op.move (Operand.tmp 9), type := 3, pos := "ref.go:59", after := #[], guard := none }) (v := .int .i64 (i : Int)) rfl (by kernel_rfl) (by kernel_rfl) (by kernel_rfl) (fun _ _ _ h => h) (Or.inl ⟨by rfl, fun w hSw => by (try dsimp only at hSw); go_simp⟩) hHeld ?_
                    try simp only [Act.put, List.setIfInBounds_toArray, List.set_cons_zero, List.set_cons_succ]
                    refine wpAnyH_take (i := 5) (oi := { dst := some 53, op := Op.indexAddr 41 (Operand.tmp 51) (Operand.tmp 52), type := 0, pos := "ref.go:59", after := #[{ on := 3, ground := Ground.data }, { on := 4, ground := Ground.data }], guard := none }) (v := .pointer (some ⟨g, go + i, none⟩)) rfl (by kernel_rfl) (by kernel_rfl) (by kernel_rfl) (fun _ _ _ h => h) (Or.inl ⟨by rfl, fun w hSw => by (try dsimp only at hSw); go_simp⟩) hHeld ?_
                    try simp only [Act.put, List.setIfInBounds_toArray, List.set_cons_zero, List.set_cons_succ]
                    refine wpAnyH_take (i := 6) (oi := { dst := some 54, op := Op.load 9 (Operand.tmp 53), type := 9, pos := "ref.go:59", after := #[{ on := 5, ground := Ground.data }], guard := none }) (v := .string (bs x)) rfl (by kernel_rfl) (by kernel_rfl) (by kernel_rfl) (fun _ _ _ h => h) (Or.inl ⟨by rfl, fun w hSw => by (try dsimp only at hSw); have dx := hSw.2.2.1; go_simp⟩) hHeld ?_
                    try simp only [Act.put, List.setIfInBounds_toArray, List.set_cons_zero, List.set_cons_succ]
                    refine wpAnyH_ready (rs := [7]) (by kernel_rfl) (by simp) ?_
                    refine AllReadyH.cons (o := { dst := some 55, op := Op.call { callee := Callee.value (Operand.func 36), args := #[Operand.tmp 49, Operand.tmp 54], argTypes := #[9, 9] }, type := 4, pos := "ref.go:59", after := #[{ on := 1, ground := Ground.data }, { on := 6, ground := Ground.data }], guard := none }) rfl (fun K hK => ?_) AllReadyH.nil
                    go_simp
                    go_at_call 36
                    refine Calls.mono (by with_reducible exact HM.out _) ?_
                    rintro e w3 ⟨rfl, hk⟩
                    dsimp only
                    have hH := (show MAt w3 R ⟨7, n, o, vl⟩ ∧ DAt w3 E d ∧ w3.cell? ⟨g, go + i, none⟩ = some (.string (bs x)) ∧ Kp [] W0 w3 from ⟨hHeld.1.kp0 hk, hHeld.2.1.kp0 hk, HCX.out _ _ hk hHeld.2.2.1, hHeld.2.2.2.trans hk⟩)
                    have HF := Lib.hid hH
                    clear hHeld
                    refine hK.out _ _ hH (fun hHeld => ?_)
                    try simp only [Act.put, List.setIfInBounds_toArray, List.set_cons_zero, List.set_cons_succ]
                    clear hK
                    refine wpAnyH_done (by kernel_rfl) ?_ _
                    clear hHeld
                    obtain ⟨c0, c1, c2, c3⟩ := HF.out.1.cells
                    go_wp2
                    go_ret
                    exact ⟨congrArg (fun b => Ending.returned (Value.bool b)) HA.out, HK0.out.trans HF.out.2.2.2⟩
                  | false =>
                    have hmb2 : Gl.patB vl x = false := hmb
                    rw [hmb2] at HM
                    have Hall2 := Lib.hid (show ∀ (j : Nat) (b : List UInt8), j < i + 1 → tl[j]? = some b → hitB ⟨7, n, o, vl⟩ b = false from fun j b hj hbj => by
                      rcases Nat.lt_or_ge j i with h1 | h1
                      · exact Hall.out j b h1 hbj
                      · obtain rfl : j = i := by omega
                        rw [Hx.out] at hbj
                        cases hbj
                        exact hmb)
                    clear hmb hmb2
                    go_upto_region 15 with fail
                    clear c0 c1 c2 c3 d1
                    refine wp_region_held_drew (S := fun W => MAt W R ⟨7, n, o, vl⟩ ∧ DAt W E d ∧ W.cell? ⟨g, go + i, none⟩ = some (.string (bs x)) ∧ Kp [] W0 W) (by kernel_rfl) HST.out (fun hHeld => ?_)
                    refine wpAnyH_take (i := 0) (oi := { dst := some 48, op := Op.fieldAddr 23 (Operand.tmp 3) 3, type := 0, pos := "ref.go:59", after := #[], guard := none }) (v := .pointer (some ⟨R, 3, none⟩)) rfl (by kernel_rfl) (by kernel_rfl) (by kernel_rfl) (fun _ _ _ h => h) (Or.inl ⟨by rfl, fun w hSw => by (try dsimp only at hSw); go_simp⟩) hHeld ?_
                    try simp only [Act.put, List.setIfInBounds_toArray, List.set_cons_zero, List.set_cons_succ]
                    refine wpAnyH_take (i := 1) (oi := { dst := some 49, op := Op.load 9 (Operand.tmp 48), type := 9, pos := "ref.go:59", after := #[{ on := 0, ground := Ground.data }], guard := none }) (v := .string (bs vl)) rfl (by kernel_rfl) (by kernel_rfl) (by kernel_rfl) (fun _ _ _ h => h) (Or.inl ⟨by rfl, fun w hSw => by (try dsimp only at hSw); obtain ⟨c0, c1, c2, c3⟩ := hSw.1.cells; go_simp⟩) hHeld ?_
                    try simp only [Act.put, List.setIfInBounds_toArray, List.set_cons_zero, List.set_cons_succ]
                    refine wpAnyH_take (i := 2) (oi := { dst := some 50, op := Op.fieldAddr 43 (Operand.tmp 5) 1, type := 0, pos := "ref.go:59", after := #[], guard := none }) (v := .pointer (some ⟨E, 1, none⟩)) rfl (by kernel_rfl) (by kernel_rfl) (by kernel_rfl) (fun _ _ _ h => h) (Or.inl ⟨by rfl, fun w hSw => by (try dsimp only at hSw); go_simp⟩) hHeld ?_
                    try simp only [Act.put, List.setIfInBounds_toArray, List.set_cons_zero, List.set_cons_succ]
                    refine wpAnyH_take (i := 3) (oi := { dst := some 51, op := Op.load 41 (Operand.tmp 50), type := 41, pos := "ref.go:59", after := #[{ on := 2, ground := Ground.data }], guard := none }) (v := .slice (some ⟨g, go, none⟩) M tc) rfl (by kernel_rfl) (by kernel_rfl) (by kernel_rfl) (fun _ _ _ h => h) (Or.inl ⟨by rfl, fun w hSw => by (try dsimp only at hSw); have d1 := HT1.out _ hSw.2.1; go_simp⟩) hHeld ?_
                    try simp only [Act.put, List.setIfInBounds_toArray, List.set_cons_zero, List.set_cons_succ]
                    refine wpAnyH_take (i := 4) (oi := { dst := some 52, op := Op.move (Operand.tmp 9), type := 3, pos := "ref.go:59", after := #[], guard := none }) (v := .int .i64 (i : Int)) rfl (by kernel_rfl) (by kernel_rfl) (by kernel_rfl) (fun _ _ _ h => h) (Or.inl ⟨by rfl, fun w hSw => by (try dsimp only at hSw); go_simp⟩) hHeld ?_
                    try simp only [Act.put, List.setIfInBounds_toArray, List.set_cons_zero, List.set_cons_succ]
                    refine wpAnyH_take (i := 5) (oi := { dst := some 53, op := Op.indexAddr 41 (Operand.tmp 51) (Operand.tmp 52), type := 0, pos := "ref.go:59", after := #[{ on := 3, ground := Ground.data }, { on := 4, ground := Ground.data }], guard := none }) (v := .pointer (some ⟨g, go + i, none⟩)) rfl (by kernel_rfl) (by kernel_rfl) (by kernel_rfl) (fun _ _ _ h => h) (Or.inl ⟨by rfl, fun w hSw => by (try dsimp only at hSw); go_simp⟩) hHeld ?_
                    try simp only [Act.put, List.setIfInBounds_toArray, List.set_cons_zero, List.set_cons_succ]
                    refine wpAnyH_take (i := 6) (oi := { dst := some 54, op := Op.load 9 (Operand.tmp 53), type := 9, pos := "ref.go:59", after := #[{ on := 5, ground := Ground.data }], guard := none }) (v := .string (bs x)) rfl (by kernel_rfl) (by kernel_rfl) (by kernel_rfl) (fun _ _ _ h => h) (Or.inl ⟨by rfl, fun w hSw => by (try dsimp only at hSw); have dx := hSw.2.2.1; go_simp⟩) hHeld ?_
                    try simp only [Act.put, List.setIfInBounds_toArray, List.set_cons_zero, List.set_cons_succ]
                    refine wpAnyH_ready (rs := [7]) (by kernel_rfl) (by simp) ?_
                    refine AllReadyH.cons (o := { dst := some 55, op := Op.call { callee := Callee.value (Operand.func 36), args := #[Operand.tmp 49, Operand.tmp 54], argTypes := #[9, 9] }, type := 4, pos := "ref.go:59", after := #[{ on := 1, ground := Ground.data }, { on := 6, ground := Ground.data }], guard := none }) rfl (fun K hK => ?_) AllReadyH.nil
                    go_simp
                    go_at_call 36
                    refine Calls.mono (by with_reducible exact HM.out _) ?_
                    rintro e w3 ⟨rfl, hk⟩
                    dsimp only
                    have hH := (show MAt w3 R ⟨7, n, o, vl⟩ ∧ DAt w3 E d ∧ w3.cell? ⟨g, go + i, none⟩ = some (.string (bs x)) ∧ Kp [] W0 w3 from ⟨hHeld.1.kp0 hk, hHeld.2.1.kp0 hk, HCX.out _ _ hk hHeld.2.2.1, hHeld.2.2.2.trans hk⟩)
                    have HF := Lib.hid hH
                    clear hHeld
                    refine hK.out _ _ hH (fun hHeld => ?_)
                    try simp only [Act.put, List.setIfInBounds_toArray, List.set_cons_zero, List.set_cons_succ]
                    clear hK
                    refine wpAnyH_done (by kernel_rfl) ?_ _
                    clear hHeld
                    go_wp2
                    exact ⟨⟨i + 1, by omega, rfl, Hall2.out, HF.out.2.2.2⟩, by simp [intOf]; omega⟩
                · obtain rfl : i = M := by omega
                  have HA := Lib.hid (HNo.out (any_no (f := hitB ⟨7, n, o, vl⟩) fun j a hj hja => Hall.out j a (by rw [← HMl.out]; exact hj) hja))
                  go_wp2
                  go_ret
                  exact ⟨congrArg (fun b => Ending.returned (Value.bool b)) HA.out, HK0.out.trans HK2.out⟩
          · have HB := Lib.hid (show ((drK k && true) && hB ⟨k, n, o, vl⟩ (valsR k n act d pl tl)) = false by rw [drK_no h1 h6 h7 h13]; rfl)
            go_enter Try.func18, Try.ntmps18
            go_wp2_with (first
              | (go_at_call 29; refine Calls.mono (by with_reducible exact HS.out _) ?_; rintro e w1 ⟨rfl, hk1⟩; have HK1 := Lib.hid hk1; obtain ⟨⟨c0, c1, c2, c3⟩, d0, d10⟩ := HC.out _ hk1; clear hk1))
            go_ret
            exact ⟨by rw [HB.out]; rfl, HK0.out.trans HK1.out⟩
end Go.Proofs.Ythblgkjmjfhkdaa
