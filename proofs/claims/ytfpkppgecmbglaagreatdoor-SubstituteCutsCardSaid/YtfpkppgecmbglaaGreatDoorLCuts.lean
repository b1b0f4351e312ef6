/- SubstituteCuts. -/
import Derived.Test.YtfpkppgecmbglaaGreatDoorY
namespace Go.Proofs.YtfpkppgecmbglaaGreatDoor
open Go.RowKit

theorem rep_r (c : Nat) (W : World) (hc : c ≤ 1000) : Calls Tryz.prog 26 #[.string ⟨#[114]⟩, .int .i64 (c : Int)] W fun e w' => ∃ y : List UInt8, y.length = c ∧ e = .returned (.string (bs y)) ∧ Kp [] W w' :=
  (Tryz.strings_Repeat (bs [114]) c W (by omega) (by rw [bs_size]; exact Nat.le_trans (Nat.mul_le_mul (by decide : [114].length ≤ 1) hc) (by decide))).mono fun _ _ ⟨h1, h2⟩ =>
    ⟨Lib.repeatL [114] c, by rw [Lib.repeatL_length]; simp, h1, Kp.of_below h2⟩
def cutT (y : List UInt8) : List UInt8 := y ++ [45] ++ y ++ [45] ++ y
theorem expand_cuts (v : Vs) : expandE [37, 99, 45, 37, 99, 45, 37, 99] v = ((cutT v.result).take 256, 0) := by
  have hp : parseE [37, 99, 45, 37, 99, 45, 37, 99] = ([⟨9, [], 0, false⟩, ⟨1, [45], 0, false⟩, ⟨9, [], 0, false⟩, ⟨1, [45], 0, false⟩, ⟨9, [], 0, false⟩], 0) := rfl
  unfold expandE
  rw [hp]
  simp [expandL, pieceL, resultL, cutT]
set_option maxHeartbeats 4000000 in
set_option maxRecDepth 100000 in
theorem substituteCuts_walk (a : Option Addr) (n c : Nat) (z : Int) (w : World) (hE : Env w) (g : Ints w w.heap.size (.slice a n c)) : Calls Tryz.prog 10 #[.slice a n c, .int .i64 z] w fun e w' => e = .returned (.bool true) ∧ Below w.heap.size w w' := by
  obtain ⟨tb, htb⟩ : ∃ tb, w.heap.size = tb := ⟨_, rfl⟩
  obtain ⟨W0, hW0⟩ : ∃ W0, w.alloc (.cells #[.slice a n c, .int .i64 0] 27) = W0 := ⟨_, rfl⟩
  have hk0 : Kp [] w W0 := by rw [← hW0]; exact (Kp.refl [] w).alloc _
  have hT0 : Tp W0 tb 0 := ⟨_, by rw [← hW0, ← htb]; exact heap_alloc_last w _, by rw [← htb]; exact g.keep fun b hb => hk0.block b hb (by simp)⟩
  have h8 : 8 ≤ tb := by rw [← htb]; exact hE.size
  have HE := Lib.hid hE
  have HK0 := Lib.hid (hk0.mono (t := [tb]) (by simp))
  have HV := Lib.hid (values_any hT0)
  unfold ValsPost at HV
  have HTB := Lib.hid htb
  have HW0 := Lib.hid hW0
  have HF := Lib.hid (show ∀ W, Calls Tryz.prog 24 #[.int .i64 z, .int .i64 200] W (fun e w' => ∃ r : Nat, r < 200 ∧ e = .returned (.int .i64 r) ∧ w' = W) from fun W => fold_any z 200 W (by decide) (by decide))
  have H8 := Lib.hid h8
  rw [htb]
  clear hE hk0 hT0 h8 g hW0 htb
  go_enter Tryz.func10, Tryz.ntmps10
  go_wp2_with fail
  rw [HTB.out, HW0.out]
  refine Calls.mono (by with_reducible exact HV.out) ?_
  rintro e w1 ⟨v, av, bv, cv, rfl, hin, hk1⟩
  obtain ⟨sa, ca, rfl, -⟩ := hin.ha.form
  obtain ⟨sb, cb, rfl, -⟩ := hin.hb.form
  obtain ⟨sc, cc, rfl, -⟩ := hin.hc.form
  unfold vsC
  obtain ⟨V, hV⟩ : ∃ V, w1.heap.size = V := ⟨_, rfl⟩
  obtain ⟨W1, hW1⟩ : ∃ W1, w1.alloc (.cells #[.string (bs v.kernel), .string (bs v.devpath), .string (bs v.id), .string (bs v.driver), .string (bs v.parent), .string (bs v.name), .string (bs v.result), .slice sa v.attrs.length ca, .slice sb v.above.length cb, .slice sc v.env.length cc] 43) = W1 := ⟨_, rfl⟩
  have hk11 : Kp [] w1 W1 := by rw [← hW1]; exact (Kp.refl [] w1).alloc _
  have hVb : W1.heap[V]? = some (.cells (vsC v (.slice sa v.attrs.length ca) (.slice sb v.above.length cb) (.slice sc v.env.length cc)) 43 (0, 0)) := by rw [← hW1, ← hV]; exact heap_alloc_last w1 _
  have HK1 := Lib.hid (HK0.out.trans hk1)
  have HIN := Lib.hid hin
  have HK11 := Lib.hid hk11
  have HVB := Lib.hid hVb
  have HW1 := Lib.hid hW1
  have HVV := Lib.hid hV
  clear hin hk1 hk11 hVb hW1 hV HV HW0 HK0
  go_upto_region 2 with fail
  rw [HVV.out, HW1.out]
  go_wp2_with fail
  refine Calls.mono (by with_reducible exact HF.out _) ?_
  rintro e w2 ⟨r, hr, rfl, rfl⟩
  go_wp2_with fail
  refine Calls.mono (by with_reducible exact rep_r _ _ (by omega)) ?_
  rintro e w3 ⟨y, hy, rfl, hk3⟩
  have hVb3 := (hk3.block V (block_lt HVB.out) (by simp)).trans HVB.out
  have c6 : w3.cell? ⟨V, 6, none⟩ = some (.string (bs v.result)) := by rw [cell_of_row _ _ _ _ _ _ hVb3]; rfl
  have f6 : w3.frozen? ⟨V, 6, none⟩ = false := by simp [World.frozen?, hVb3]
  obtain ⟨W4, hW4⟩ : ∃ W4, w3.setCell ⟨V, 6, none⟩ (.string (bs y)) = W4 := ⟨_, rfl⟩
  obtain ⟨v', hv'⟩ : ∃ v' : Vs, { v with result := y } = v' := ⟨_, rfl⟩
  have hk14 : Kp [] w1 W4 := by rw [← hW4]; exact (HK11.out.trans hk3).setCell (.inr (by show w1.heap.size ≤ V; rw [HVV.out]; exact Nat.le_refl _)) _
  have hVb4 : W4.heap[V]? = some (.cells (vsC v' (.slice sa v.attrs.length ca) (.slice sb v.above.length cb) (.slice sc v.env.length cc)) 43 (0, 0)) := by
    rw [← hW4, ← hv']
    simp [World.setCell, Array.getElem?_modify, hVb3, vsC]
  have hin4 : VsIn W4 v' (.slice sa v.attrs.length ca) (.slice sb v.above.length cb) (.slice sc v.env.length cc) := by
    have h := HIN.out.kp0 hk14
    rw [← hv']
    exact ⟨h.ha, h.hb, h.hc, h.la, h.lb, h.lc, h.lk, by show y.length ≤ _; omega⟩
  have hkw : Kp [tb] w W4 := HK1.out.trans (hk14.mono (by simp))
  have hH : Hold W4 V v' (.slice sa v.attrs.length ca) (.slice sb v.above.length cb) (.slice sc v.env.length cc) := ⟨HE.out.kp hkw (by intro x hx; simp at hx; have := H8.out; omega), hin4, hVb4⟩
  have HCL := Lib.hid (show Calls Tryz.prog 21 #[.string ⟨#[37, 99, 45, 37, 99, 45, 37, 99]⟩, .agg #[.string (bs v.kernel), .string (bs v.devpath), .string (bs v.id), .string (bs v.driver), .string (bs v.parent), .string (bs v.name), .string (bs y), .slice sa v.attrs.length ca, .slice sb v.above.length cb, .slice sc v.env.length cc]] W4 (fun e w' => e = .returned (.tuple #[.string (bs ((cutT y).take 256)), .int .i64 0]) ∧ Kp [] W4 w') from by
    have := hH.call [37, 99, 45, 37, 99, 45, 37, 99] _ 0 (by decide) (expand_cuts v')
    rw [← hv'] at this
    exact this)
  have hcells : ∀ W, Kp [] W4 W → W.cell? ⟨V, 0, none⟩ = some (.string (bs v.kernel)) ∧ W.cell? ⟨V, 1, none⟩ = some (.string (bs v.devpath)) ∧ W.cell? ⟨V, 2, none⟩ = some (.string (bs v.id)) ∧ W.cell? ⟨V, 3, none⟩ = some (.string (bs v.driver)) ∧ W.cell? ⟨V, 4, none⟩ = some (.string (bs v.parent)) ∧ W.cell? ⟨V, 5, none⟩ = some (.string (bs v.name)) ∧ W.cell? ⟨V, 6, none⟩ = some (.string (bs y)) ∧ W.cell? ⟨V, 7, none⟩ = some (.slice sa v.attrs.length ca) ∧ W.cell? ⟨V, 8, none⟩ = some (.slice sb v.above.length cb) ∧ W.cell? ⟨V, 9, none⟩ = some (.slice sc v.env.length cc) := fun W hw => by
    have h1 := (hw.block V (block_lt hVb4) (by simp)).trans hVb4
    rw [← hv'] at h1
    refine ⟨?_, ?_, ?_, ?_, ?_, ?_, ?_, ?_, ?_, ?_⟩ <;> (rw [cell_of_row _ _ _ _ _ _ h1]; rfl)
  have HC := Lib.hid hcells
  have HKW := Lib.hid hkw
  have HW4 := Lib.hid hW4
  have HKN := Lib.hid (fun W (hw : Kp [] W4 W) => known_any (hH.1.kp0 hw))
  clear hin4 hk14 hVb4 hVb3 hkw hH hcells hk3 HIN HK11 HVB hv' hW4
  go_upto_region 3 with fail
  rw [HW4.out]
  clear c6 f6 HW4
  obtain ⟨c0, c1, c2, c3, c4, c5, c6, c7, c8, c9⟩ := HC.out W4 (Kp.refl [] W4)
  go_upto_region 4 with (go_at_call 21; refine Calls.mono (by with_reducible exact HCL.out) ?_; rintro e w5 ⟨rfl, hk5⟩)
  clear c0 c1 c2 c3 c4 c5 c6 c7 c8 c9
  obtain ⟨-, -, -, -, -, -, c6, -, -, -⟩ := HC.out w5 hk5
  have HK5 := Lib.hid hk5
  have hys : (bs y).size = y.length := rfl
  clear hk5
  go_upto_region 5 with fail
  rw [show bs y ++ ⟨#[45]⟩ ++ bs y ++ ⟨#[45]⟩ ++ bs y = bs (cutT y) from by show bs y ++ bs [45] ++ bs y ++ bs [45] ++ bs y = _; rw [bs_app, bs_app, bs_app, bs_app]; rfl]
  have HKF := Lib.hid (HKN.out _ HK5.out)
  generalize cutT y = x
  have hxs : (bs x).size = x.length := rfl
  by_cases h256 : 256 < x.length
  · have hi256 : (256 : Int) < (x.length : Int) := by omega
    have hex : (bs x).extract 0 256 = bs (x.take 256) := bs_take x 256
    go_wp2_with (go_at_call 11; refine Calls.mono (by with_reducible exact HKF.out) ?_; rintro e w6 ⟨rfl, hk6⟩)
    go_ret
    exact ⟨rfl, (HKW.out.trans ((HK5.out.trans hk6).mono (by simp))).below (by rw [HTB.out]; exact Nat.le_refl _) (by simp)⟩
  · have hi256 : ¬ (256 : Int) < (x.length : Int) := by omega
    rw [List.take_of_length_le (show x.length ≤ 256 by omega)]
    go_wp2_with (go_at_call 11; refine Calls.mono (by with_reducible exact HKF.out) ?_; rintro e w6 ⟨rfl, hk6⟩)
    go_ret
    exact ⟨rfl, (HKW.out.trans ((HK5.out.trans hk6).mono (by simp))).below (by rw [HTB.out]; exact Nat.le_refl _) (by simp)⟩
end Go.Proofs.YtfpkppgecmbglaaGreatDoor
