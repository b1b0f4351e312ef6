/- Id -/
import Derived.Test.YtkkibibecgcbmaaGreatDoorQIb
import Derived.Test.YtkkibibecgcbmaaGreatDoorQIc
import Derived.Lib.Bytealg
import Derived.BigQuiet
import Derived.Deep.DeepCutAuto
import Derived.Deep.CutBlock
import Derived.Deep.RegionHeld3
open Go.Lib renaming hid → qH
open Go.Calls renaming mono → cM
open Go.Act renaming put → aP
open List renaming setIfInBounds_toArray → lA, set_cons_zero → lB, set_cons_succ → lC
set_option maxRecDepth 100000
set_option maxHeartbeats 16000000
namespace Go.Proofs.YtkkibibecgcbmaaGreatDoor
open Go.RowKit
theorem fill_cases {k : Nat} {s : List UInt8} {p : Gp} {r : List UInt8} {ok : Bool} (h : FillOk k s p r ok) : (ok = false ∧ placeL nmB kyB k s = none) ∨ ∃ q, ok = true ∧ p = q.g ∧ placeL nmB kyB k s = some (q, r) := by
 unfold FillOk at h
 split at h
 ·rename_i q r' e
  obtain ⟨h1, h2, h3⟩ := h
  exact .inr ⟨q, h3, h1, by rw [e, h2]⟩
 ·rename_i e
  exact .inl ⟨h, e⟩
def ltrs : List UInt8 := [32, 32, 107, 110, 112, 98, 100, 115, 69, 99, 80, 32]
theorem ltr_all : (List.range 256).all (fun n => (if UInt8.ofNat n = 32 then (0 : Int) else max 0 (Lib.indexByte ltrs (UInt8.ofNat n))) == (kindOfLetter (UInt8.ofNat n) : Int)) = true := by decide +kernel
theorem ltr_kind (c : UInt8) : (if c = 32 then (0 : Int) else max 0 (Lib.indexByte ltrs c)) = (kindOfLetter c : Int) := by
 have h := List.all_eq_true.1 ltr_all c.toNat (List.mem_range.2 (UInt8.toNat_lt c))
 rw [UInt8.ofNat_toNat] at h
 simpa using h
theorem u8_ne {b : UInt8} {k : Nat} (hk : k < 256) (h : b ≠ UInt8.ofNat k) : ((b.toNat : Int) == (k : Int)) = false := by
 rw [beq_eq_false_iff_ne]
 intro e
 refine h (UInt8.toNat_inj.1 ?_)
 rw [UInt8.toNat_ofNat_of_lt' hk]
 omega
theorem u8_az (b : UInt8) : azCh b = (decide ((97 : Int) ≤ (b.toNat : Int)) && decide ((b.toNat : Int) ≤ 122)) := by
 unfold azCh
 rw [Bool.eq_iff_iff]
 simp only [Bool.and_eq_true, decide_eq_true_eq, UInt8.le_iff_toNat_le]
 have h1 : (97 : UInt8).toNat = 97 := rfl
 have h2 : (122 : UInt8).toNat = 122 := rfl
 omega
theorem u8_neq {c b : UInt8} (h : c ≠ b) : ((c.toNat : Int) == (b.toNat : Int)) = false := by
 rw [beq_eq_false_iff_ne]
 intro e
 exact h (UInt8.toNat_inj.1 (by omega))
theorem stepL_two {b : UInt8} (h : b = 36 ∨ b = 37) (u : List UInt8) : stepL nmB kyB (b :: b :: u) = some (⟨1, [b], 0, false⟩, u) := by
 unfold stepL
 dsimp only
 rw [if_neg (by rcases h with rfl | rfl <;> simp), if_pos (by rw [List.head?_cons]), List.tail_cons]
theorem refPlace_0' {s : List UInt8} {w : World} (hl : s.length ≤ 1000000) : Calls Tryz.prog 139 #[.int .i64 0, .string (bs s)] w (FillPost 0 s w) := refPlace_0 hl
theorem refParse_any {w : World} (hE : Env w) (s : List UInt8) (hs : s.length ≤ 1000000000) : Calls Tryz.prog 96 #[.string (bs s)] w (ParsePost s w) := by
 have hsz : (bs s).size = s.length := rfl
 unfold ParsePost
 obtain ⟨E, hEE⟩ : ∃ E, parseE s = E := ⟨_, rfl⟩
 rw [hEE]
 by_cases h1 : 256 < s.length
 ·have hE1 : E = ([], 91) := by rw [← hEE]; unfold parseE; rw [if_pos h1]
  subst hE1
  have hz : (256 : Int) < ((bs s).size : Int) := by omega
  clear hEE hE
  go_enter Tryz.func96, Tryz.ntmps96
  go_wp2
  go_ret2
  exact ⟨_, rfl, RT.Own.nil gpT w _, Kp.refl _ _⟩
 have hz : ¬ ((256 : Int) < ((bs s).size : Int)) := by omega
 have HT := qH fun W => refTx_any s W hs
 cases ht : txB s with
 | false =>
  have hE1 : E = ([], 90) := by rw [← hEE]; unfold parseE; rw [if_neg h1, if_pos ht]
  subst hE1
  rw [ht] at HT
  clear hEE hE
  go_enter Tryz.func96, Tryz.ntmps96
  go_wp2_with (go_at_call 136; refine cM (by with_reducible exact HT.out _) ?_; rintro e w1 ⟨rfl, hk1⟩)
  go_ret2
  exact ⟨_, rfl, RT.Own.nil gpT w1 _, hk1⟩
 | true =>
  rw [ht] at HT
  have hR : ∀ X, pfrom nmB kyB [] s = X → (match X with | none => (([] : List Pc), (90 : Int)) | some l => (l, 0)) = E := fun X hX => by
   rw [← hEE]
   unfold parseE
   rw [if_neg h1, if_neg (by rw [ht]; simp), parseP_eq, hX]
   cases X <;> rfl
  have HR := qH hR
  have hl : s.length ≤ 256 := by omega
  clear hR hEE ht h1
  obtain ⟨B, hB⟩ : ∃ B, w.heap.size = B := ⟨_, rfl⟩
  have HBB := qH hB
  have hOB := qH (RT.Own.nil gpT)
  have HE := qH hE
  clear hE
  rw [hB]
  clear hB
  go_enter Tryz.func96, Tryz.ntmps96
  go_wp2_with (go_at_call 136; refine cM (by with_reducible exact HT.out _) ?_; rintro e w1 ⟨rfl, hk1⟩)
  have HK1 := qH hk1
  clear hk1
  go_loopg [0, 4] (s.length) (fun g s0 s4 wx => ∃ (acc : List Pc) (r : List UInt8), s0 = .string (bs r) ∧ r.length ≤ g ∧ g ≤ s.length ∧ acc.length + r.length ≤ s.length ∧ tsum acc + 256 * r.length ≤ 65536 ∧ Hid (pfrom nmB kyB [] s = pfrom nmB kyB acc r) ∧ gpT.Own wx B s4 (acc.map Pc.g) ∧ Hid (Kp [] w wx))
  case atStart => exact ⟨[], s, rfl, Nat.le_refl _, Nat.le_refl _, by simp, by simp [tsum]; omega, qH rfl, hOB.out w1 B, HK1⟩
  case round =>
   obtain ⟨acc, r, rfl, hrg, hgs, hal, hts, hp, hO, hk⟩ := hrel
   generalize wr = W0 at *
   cases r with
   | nil =>
    have he0 : (bs []).toList.isEmpty = true := bs_isEmpty []
    have hE1 := HR.out (some acc) (hp.out.trans (pfrom_nil acc))
    simp only at hE1
    subst hE1
    have HO := qH hO
    clear hO HR
    go_wp2
    go_ret2
    exact ⟨_, rfl, HO.out, hk.out⟩
   | cons b r' =>
    have he0 : (bs (b :: r')).toList.isEmpty = false := bs_isEmpty _
    have hlb : (b :: r').length = r'.length + 1 := rfl
    rw [hlb] at hrg hal hts
    have hsz : (bs (b :: r')).size = r'.length + 1 := rfl
    have hz0 : 0 < (bs (b :: r')).size := by omega
    have hg0 : (bs (b :: r'))[0]'hz0 = b := rfl
    have hq1 : 1 ≤ (bs (b :: r')).size := by omega
    have HO := qH hO
    clear hO
    cases gk with
    | zero => omega
    | succ gk =>
    by_cases hpl : b ≠ 36 ∧ b ≠ 37
    ·have bn1 : ((b.toNat : Int) == 36) = false := u8_ne (k := 36) (by decide) hpl.1
     have bn2 : ((b.toNat : Int) == 37) = false := u8_ne (k := 37) (by decide) hpl.2
     have bn1' : ((b.toNat : Int) != 36) = true := by simp [bne, bn1]
     have bn2' : ((b.toNat : Int) != 37) = true := by simp [bne, bn2]
     have hst := qH (stepL_plain (nm := nmB) (ky := kyB) (b := b) (by simp [plainCh, hpl.1, hpl.2]) r')
     obtain ⟨hf1, hf2, hf3⟩ := stepL_le hst.out
     have hpf := qH (hp.out.trans (pfrom_step acc hst.out))
     have hal2 := addP_len acc ⟨1, [b], 0, false⟩
     have hts2 := addP_tsum acc ⟨1, [b], 0, false⟩
     simp only [List.length_cons, List.length_nil, Nat.zero_add] at hts2 hf1
     have HAP := qH fun (W : World) (h : gpT.Own W B u4 (acc.map Pc.g)) (hB : B ≤ W.heap.size) => (show Calls Tryz.prog 137 #[u4, .agg #[.int .i64 1, .string (bs [b]), .int .i64 0, .bool false]] W fun e w' => ∃ v', e = .returned v' ∧ gpT.Own w' B v' ((addP acc ⟨1, [b], 0, false⟩).map Pc.g) ∧ Below B W w' from refAdd_any acc ⟨1, [b], 0, false⟩ h hB (by omega) (by show tsum acc + 1 ≤ 1000000000; omega))
     have e1 : (bs (b :: r')).extract 0 1 = bs [b] := by rw [bs_take]; rfl
     have e2 : (bs (b :: r')).extract 1 (bs (b :: r')).size = bs r' := by rw [bs_drop]; rfl
     have e2' : (bs (b :: r')).extract 1 (bs (b :: r')).size = bs r' := e2
     have hqa : ¬ ((bs (b :: r')).size : Int) < 1 := by omega
     have hqb : ¬ ((bs (b :: r')).size : Int) < 1 := by omega
     clear e2'
     have hBw : B ≤ W0.heap.size := by have := HBB.out; have := hk.out.size; omega
     have HBW := qH (show B ≤ W0.drew.heap.size from hBw)
     have HOD := qH (show gpT.Own W0.drew B u4 (acc.map Pc.g) from HO.out.kp0 ((Kp.refl [] W0).drew 1))
     clear hBw HR
     (try clear hsz)
     go_upto_region 8 with fail
     refine wp_region_held_drew (S := fun _ => True) (by kernel_rfl) trivial (fun hHeld => ?_)
     refine wpAnyH_take (i := 0) (oi := ⟨some 26, .move (.tmp 4), 138, "ref.go:98", #[], none⟩) (v := u4) rfl (by kernel_rfl) (by kernel_rfl) (by kernel_rfl) (fun _ _ _ h => h) (Or.inl ⟨by rfl, fun w hSw => by (try dsimp only at hSw); go_simp⟩) hHeld ?_
     try simp only [aP, lA, lB, lC]
     refine wpAnyH_take (i := 1) (oi := ⟨some 27, .move (.tmp 0), 9, "ref.go:98", #[], none⟩) (v := .string (bs (b :: r'))) rfl (by kernel_rfl) (by kernel_rfl) (by kernel_rfl) (fun _ _ _ h => h) (Or.inl ⟨by rfl, fun w hSw => by (try dsimp only at hSw); go_simp⟩) hHeld ?_
     try simp only [aP, lA, lB, lC]
     refine wpAnyH_take (i := 2) (oi := ⟨some 28, .slice 9 (.tmp 27) none (some (.const (.int .i64 1))) none, 9, "ref.go:98", #[⟨1, .data⟩], none⟩) (v := .string (bs [b])) rfl (by kernel_rfl) (by kernel_rfl) (by kernel_rfl) (fun _ _ _ h => h) (Or.inl ⟨by rfl, fun w hSw => by (try dsimp only at hSw); go_simp⟩) hHeld ?_
     try simp only [aP, lA, lB, lC]
     refine wpAnyH_take (i := 3) (oi := ⟨some 29, .build 172 #[(0, .const (.int .i64 1)), (1, .tmp 28)], 172, "ref.go:98", #[⟨2, .data⟩], none⟩) (v := .agg #[.int .i64 1, .string (bs [b]), .int .i64 0, .bool false]) rfl (by kernel_rfl) (by kernel_rfl) (by kernel_rfl) (fun _ _ _ h => h) (Or.inl ⟨by rfl, fun w hSw => by (try dsimp only at hSw); go_simp⟩) hHeld ?_
     try simp only [aP, lA, lB, lC]
     refine wpAnyH_take (i := 5) (oi := ⟨some 31, .move (.tmp 0), 9, "ref.go:98", #[], none⟩) (v := .string (bs (b :: r'))) rfl (by kernel_rfl) (by kernel_rfl) (by kernel_rfl) (fun _ _ _ h => h) (Or.inl ⟨by rfl, fun w hSw => by (try dsimp only at hSw); go_simp⟩) hHeld ?_
     try simp only [aP, lA, lB, lC]
     refine wpAnyH_take (i := 6) (oi := ⟨some 32, .slice 9 (.tmp 31) (some (.const (.int .i64 1))) none none, 9, "ref.go:98", #[⟨5, .data⟩], none⟩) (v := .string (bs r')) rfl (by kernel_rfl) (by kernel_rfl) (by kernel_rfl) (fun _ _ _ h => h) (Or.inl ⟨by rfl, fun w hSw => by (try dsimp only at hSw); go_simp⟩) hHeld ?_
     try simp only [aP, lA, lB, lC]
     refine wpAnyH_ready (rs := [4]) (by kernel_rfl) (by simp) ?_
     refine AllReadyH.cons (o := ⟨some 30, .call { callee := .value (.func 137), args := #[.tmp 26, .tmp 29], argTypes := #[138, 172] }, 138, "ref.go:98", #[⟨0, .data⟩, ⟨3, .data⟩], none⟩) rfl (fun K hK => ?_) AllReadyH.nil
     go_simp
     go_at_call 137
     refine cM (by with_reducible exact HAP.out _ HOD.out HBW.out) ?_
     rintro e w3 ⟨v3, rfl, ho3, hb3⟩
     dsimp only
     have HO3 := qH ho3
     have HB3 := qH hb3
     clear ho3 hb3
     clear hHeld
     refine hK.out _ _ trivial (fun hHeld => ?_)
     try simp only [aP, lA, lB, lC]
     clear hK
     refine wpAnyH_take (i := 7) (oi := ⟨some 4, .assign (.tmp 30), 138, "ref.go:98", #[⟨4, .data⟩, ⟨4, .chain⟩, ⟨0, .phase⟩, ⟨1, .phase⟩, ⟨2, .phase⟩, ⟨3, .phase⟩, ⟨4, .phase⟩, { on := 5, ground := .textOnly Departure.lateStores }, { on := 6, ground := .textOnly Departure.lateStoresUnsure }], none⟩) (v := v3) rfl (by kernel_rfl) (by kernel_rfl) (by kernel_rfl) (fun _ _ _ h => h) (Or.inl ⟨by rfl, fun w hSw => by (try dsimp only at hSw); go_simp⟩) hHeld ?_
     try simp only [aP, lA, lB, lC]
     refine wpAnyH_take (i := 8) (oi := ⟨some 0, .assign (.tmp 32), 9, "ref.go:98", #[⟨6, .data⟩, ⟨7, .chain⟩, ⟨0, .phase⟩, ⟨1, .phase⟩, ⟨2, .phase⟩, ⟨3, .phase⟩, ⟨4, .phase⟩, ⟨5, .phase⟩, ⟨6, .phase⟩, ⟨7, .phase⟩], none⟩) (v := .string (bs r')) rfl (by kernel_rfl) (by kernel_rfl) (by kernel_rfl) (fun _ _ _ h => h) (Or.inl ⟨by rfl, fun w hSw => by (try dsimp only at hSw); go_simp⟩) hHeld ?_
     try simp only [Act.put, List.setIfInBounds_toArray, List.set_cons_zero]
     refine wpAnyH_done (by kernel_rfl) ?_ _
     clear hHeld
     go_wp2
     go_roundg gk
     case measure => omega
     case rel => exact ⟨_, r', rfl, by omega, by omega, by omega, by omega, hpf, HO3.out, qH ((hk.out.drew 1).belowTo (by rw [HBB.out]; exact HB3.out))⟩
    have hb : b = 36 ∨ b = 37 := by
     by_cases h : b = 36
     ·exact .inl h
     ·exact .inr (Decidable.of_not_not fun h2 => hpl ⟨h, h2⟩)
    clear hpl
    by_cases htw : r'.head? = some b
    ·obtain ⟨u, rfl⟩ : ∃ u, r' = b :: u := by
      cases r' with
      | nil => cases htw
      | cons c u => exact ⟨u, by rw [List.head?_cons] at htw; rw [Option.some.inj htw]⟩
     rw [List.length_cons] at hrg hal hts hsz
     have hz1 : 1 < (bs (b :: b :: u)).size := by omega
     have hz1i : (1 : Int) < ((bs (b :: b :: u)).size : Int) := by omega
     have hg1 : (bs (b :: b :: u))[1]'hz1 = b := rfl
     have hq2 : 2 ≤ (bs (b :: b :: u)).size := by omega
     rcases hb with hb | hb
     ·have bn1' : ((b.toNat : Int) != 36) = false := by rw [hb]; rfl
      have hstp := stepL_two (b := b) (.inl hb) u
      clear hb htw
      have hst := qH hstp
      obtain ⟨hf1, hf2, hf3⟩ := stepL_le hst.out
      have hpf := qH (hp.out.trans (pfrom_step acc hst.out))
      have hal2 := addP_len acc ⟨1, [b], 0, false⟩
      have hts2 := addP_tsum acc ⟨1, [b], 0, false⟩
      simp only [List.length_cons, List.length_nil, Nat.zero_add] at hts2 hf1
      have HAP := qH fun (W : World) (h : gpT.Own W B u4 (acc.map Pc.g)) (hB : B ≤ W.heap.size) => (show Calls Tryz.prog 137 #[u4, .agg #[.int .i64 1, .string (bs [b]), .int .i64 0, .bool false]] W fun e w' => ∃ v', e = .returned v' ∧ gpT.Own w' B v' ((addP acc ⟨1, [b], 0, false⟩).map Pc.g) ∧ Below B W w' from refAdd_any acc ⟨1, [b], 0, false⟩ h hB (by omega) (by show tsum acc + 1 ≤ 1000000000; omega))
      have e1 : (bs (b :: b :: u)).extract 0 1 = bs [b] := by rw [bs_take]; rfl
      have e2 : (bs (b :: b :: u)).extract 2 (bs (b :: b :: u)).size = bs u := by rw [bs_drop]; rfl
      have e2' : (bs (b :: b :: u)).extract 2 (bs (b :: b :: u)).size = bs u := e2
      have hqa : ¬ ((bs (b :: b :: u)).size : Int) < 1 := by omega
      have hqb : ¬ ((bs (b :: b :: u)).size : Int) < 2 := by omega
      clear e2'
      have hBw : B ≤ W0.heap.size := by have := HBB.out; have := hk.out.size; omega
      have HBW := qH (show B ≤ W0.drew.heap.size from hBw)
      have HOD := qH (show gpT.Own W0.drew B u4 (acc.map Pc.g) from HO.out.kp0 ((Kp.refl [] W0).drew 1))
      clear hBw HR
      (try clear hsz)
      clear hsz
      go_upto_region 9 with fail
      go_quiet (fail)
      have HKX := qH (hk.out.drew nq)
      have HOX := qH (HO.out.kp0 ((Kp.refl [] W0).drew nq))
      generalize W0.drewN nq = Wq at *
      have HBQ := qH (show B ≤ Wq.drew.heap.size by have := HBB.out; have := HKX.out.size; show B ≤ Wq.heap.size; omega)
      have HOQ := qH (show gpT.Own Wq.drew B u4 (acc.map Pc.g) from HOX.out.kp0 ((Kp.refl [] Wq).drew 1))
      go_upto_region 10 with fail
      refine wp_region_held_drew (S := fun _ => True) (by kernel_rfl) trivial (fun hHeld => ?_)
      refine wpAnyH_take (i := 0) (oi := ⟨some 43, .move (.tmp 4), 138, "ref.go:102", #[], none⟩) (v := u4) rfl (by kernel_rfl) (by kernel_rfl) (by kernel_rfl) (fun _ _ _ h => h) (Or.inl ⟨by rfl, fun w hSw => by (try dsimp only at hSw); go_simp⟩) hHeld ?_
      try simp only [aP, lA, lB, lC]
      refine wpAnyH_take (i := 1) (oi := ⟨some 44, .move (.tmp 0), 9, "ref.go:102", #[], none⟩) (v := .string (bs (b :: b :: u))) rfl (by kernel_rfl) (by kernel_rfl) (by kernel_rfl) (fun _ _ _ h => h) (Or.inl ⟨by rfl, fun w hSw => by (try dsimp only at hSw); go_simp⟩) hHeld ?_
      try simp only [aP, lA, lB, lC]
      refine wpAnyH_take (i := 2) (oi := ⟨some 45, .slice 9 (.tmp 44) none (some (.const (.int .i64 1))) none, 9, "ref.go:102", #[⟨1, .data⟩], none⟩) (v := .string (bs [b])) rfl (by kernel_rfl) (by kernel_rfl) (by kernel_rfl) (fun _ _ _ h => h) (Or.inl ⟨by rfl, fun w hSw => by (try dsimp only at hSw); go_simp⟩) hHeld ?_
      try simp only [aP, lA, lB, lC]
      refine wpAnyH_take (i := 3) (oi := ⟨some 46, .build 172 #[(0, .const (.int .i64 1)), (1, .tmp 45)], 172, "ref.go:102", #[⟨2, .data⟩], none⟩) (v := .agg #[.int .i64 1, .string (bs [b]), .int .i64 0, .bool false]) rfl (by kernel_rfl) (by kernel_rfl) (by kernel_rfl) (fun _ _ _ h => h) (Or.inl ⟨by rfl, fun w hSw => by (try dsimp only at hSw); go_simp⟩) hHeld ?_
      try simp only [aP, lA, lB, lC]
      refine wpAnyH_take (i := 5) (oi := ⟨some 48, .move (.tmp 0), 9, "ref.go:102", #[], none⟩) (v := .string (bs (b :: b :: u))) rfl (by kernel_rfl) (by kernel_rfl) (by kernel_rfl) (fun _ _ _ h => h) (Or.inl ⟨by rfl, fun w hSw => by (try dsimp only at hSw); go_simp⟩) hHeld ?_
      try simp only [aP, lA, lB, lC]
      refine wpAnyH_take (i := 6) (oi := ⟨some 49, .slice 9 (.tmp 48) (some (.const (.int .i64 2))) none none, 9, "ref.go:102", #[⟨5, .data⟩], none⟩) (v := .string (bs u)) rfl (by kernel_rfl) (by kernel_rfl) (by kernel_rfl) (fun _ _ _ h => h) (Or.inl ⟨by rfl, fun w hSw => by (try dsimp only at hSw); go_simp⟩) hHeld ?_
      try simp only [aP, lA, lB, lC]
      refine wpAnyH_ready (rs := [4]) (by kernel_rfl) (by simp) ?_
      refine AllReadyH.cons (o := ⟨some 47, .call { callee := .value (.func 137), args := #[.tmp 43, .tmp 46], argTypes := #[138, 172] }, 138, "ref.go:102", #[⟨0, .data⟩, ⟨3, .data⟩], none⟩) rfl (fun K hK => ?_) AllReadyH.nil
      go_simp
      go_at_call 137
      refine cM (by with_reducible exact HAP.out _ HOQ.out HBQ.out) ?_
      rintro e w3 ⟨v3, rfl, ho3, hb3⟩
      dsimp only
      have HO3 := qH ho3
      have HB3 := qH hb3
      clear ho3 hb3
      clear hHeld
      refine hK.out _ _ trivial (fun hHeld => ?_)
      try simp only [aP, lA, lB, lC]
      clear hK
      refine wpAnyH_take (i := 7) (oi := ⟨some 4, .assign (.tmp 47), 138, "ref.go:102", #[⟨4, .data⟩, ⟨4, .chain⟩, ⟨0, .phase⟩, ⟨1, .phase⟩, ⟨2, .phase⟩, ⟨3, .phase⟩, ⟨4, .phase⟩, { on := 5, ground := .textOnly Departure.lateStores }, { on := 6, ground := .textOnly Departure.lateStoresUnsure }], none⟩) (v := v3) rfl (by kernel_rfl) (by kernel_rfl) (by kernel_rfl) (fun _ _ _ h => h) (Or.inl ⟨by rfl, fun w hSw => by (try dsimp only at hSw); go_simp⟩) hHeld ?_
      try simp only [aP, lA, lB, lC]
      refine wpAnyH_take (i := 8) (oi := ⟨some 0, .assign (.tmp 49), 9, "ref.go:102", #[⟨6, .data⟩, ⟨7, .chain⟩, ⟨0, .phase⟩, ⟨1, .phase⟩, ⟨2, .phase⟩, ⟨3, .phase⟩, ⟨4, .phase⟩, ⟨5, .phase⟩, ⟨6, .phase⟩, ⟨7, .phase⟩], none⟩) (v := .string (bs u)) rfl (by kernel_rfl) (by kernel_rfl) (by kernel_rfl) (fun _ _ _ h => h) (Or.inl ⟨by rfl, fun w hSw => by (try dsimp only at hSw); go_simp⟩) hHeld ?_
      try simp only [Act.put, List.setIfInBounds_toArray, List.set_cons_zero]
      refine wpAnyH_done (by kernel_rfl) ?_ _
      clear hHeld
      go_wp2
      go_roundg gk
      case measure => omega
      case rel => exact ⟨_, u, rfl, by omega, by omega, by omega, by omega, hpf, HO3.out, qH ((HKX.out.drew 1).belowTo (by rw [HBB.out]; exact HB3.out))⟩
     ·have bn1' : ((b.toNat : Int) != 36) = true := by rw [hb]; rfl
      have bn2' : ((b.toNat : Int) != 37) = false := by rw [hb]; rfl
      have hstp := stepL_two (b := b) (.inr hb) u
      clear hb htw
      have hst := qH hstp
      obtain ⟨hf1, hf2, hf3⟩ := stepL_le hst.out
      have hpf := qH (hp.out.trans (pfrom_step acc hst.out))
      have hal2 := addP_len acc ⟨1, [b], 0, false⟩
      have hts2 := addP_tsum acc ⟨1, [b], 0, false⟩
      simp only [List.length_cons, List.length_nil, Nat.zero_add] at hts2 hf1
      have HAP := qH fun (W : World) (h : gpT.Own W B u4 (acc.map Pc.g)) (hB : B ≤ W.heap.size) => (show Calls Tryz.prog 137 #[u4, .agg #[.int .i64 1, .string (bs [b]), .int .i64 0, .bool false]] W fun e w' => ∃ v', e = .returned v' ∧ gpT.Own w' B v' ((addP acc ⟨1, [b], 0, false⟩).map Pc.g) ∧ Below B W w' from refAdd_any acc ⟨1, [b], 0, false⟩ h hB (by omega) (by show tsum acc + 1 ≤ 1000000000; omega))
      have e1 : (bs (b :: b :: u)).extract 0 1 = bs [b] := by rw [bs_take]; rfl
      have e2 : (bs (b :: b :: u)).extract 2 (bs (b :: b :: u)).size = bs u := by rw [bs_drop]; rfl
      have e2' : (bs (b :: b :: u)).extract 2 (bs (b :: b :: u)).size = bs u := e2
      have hqa : ¬ ((bs (b :: b :: u)).size : Int) < 1 := by omega
      have hqb : ¬ ((bs (b :: b :: u)).size : Int) < 2 := by omega
      clear e2'
      have hBw : B ≤ W0.heap.size := by have := HBB.out; have := hk.out.size; omega
      have HBW := qH (show B ≤ W0.drew.heap.size from hBw)
      have HOD := qH (show gpT.Own W0.drew B u4 (acc.map Pc.g) from HO.out.kp0 ((Kp.refl [] W0).drew 1))
      clear hBw HR
      (try clear hsz)
      clear hsz
      go_upto_region 9 with fail
      go_quiet (fail)
      have HKX := qH (hk.out.drew nq)
      have HOX := qH (HO.out.kp0 ((Kp.refl [] W0).drew nq))
      generalize W0.drewN nq = Wq at *
      have HBQ := qH (show B ≤ Wq.drew.heap.size by have := HBB.out; have := HKX.out.size; show B ≤ Wq.heap.size; omega)
      have HOQ := qH (show gpT.Own Wq.drew B u4 (acc.map Pc.g) from HOX.out.kp0 ((Kp.refl [] Wq).drew 1))
      go_upto_region 10 with fail
      refine wp_region_held_drew (S := fun _ => True) (by kernel_rfl) trivial (fun hHeld => ?_)
      refine wpAnyH_take (i := 0) (oi := ⟨some 43, .move (.tmp 4), 138, "ref.go:102", #[], none⟩) (v := u4) rfl (by kernel_rfl) (by kernel_rfl) (by kernel_rfl) (fun _ _ _ h => h) (Or.inl ⟨by rfl, fun w hSw => by (try dsimp only at hSw); go_simp⟩) hHeld ?_
      try simp only [aP, lA, lB, lC]
      refine wpAnyH_take (i := 1) (oi := ⟨some 44, .move (.tmp 0), 9, "ref.go:102", #[], none⟩) (v := .string (bs (b :: b :: u))) rfl (by kernel_rfl) (by kernel_rfl) (by kernel_rfl) (fun _ _ _ h => h) (Or.inl ⟨by rfl, fun w hSw => by (try dsimp only at hSw); go_simp⟩) hHeld ?_
      try simp only [aP, lA, lB, lC]
      refine wpAnyH_take (i := 2) (oi := ⟨some 45, .slice 9 (.tmp 44) none (some (.const (.int .i64 1))) none, 9, "ref.go:102", #[⟨1, .data⟩], none⟩) (v := .string (bs [b])) rfl (by kernel_rfl) (by kernel_rfl) (by kernel_rfl) (fun _ _ _ h => h) (Or.inl ⟨by rfl, fun w hSw => by (try dsimp only at hSw); go_simp⟩) hHeld ?_
      try simp only [aP, lA, lB, lC]
      refine wpAnyH_take (i := 3) (oi := ⟨some 46, .build 172 #[(0, .const (.int .i64 1)), (1, .tmp 45)], 172, "ref.go:102", #[⟨2, .data⟩], none⟩) (v := .agg #[.int .i64 1, .string (bs [b]), .int .i64 0, .bool false]) rfl (by kernel_rfl) (by kernel_rfl) (by kernel_rfl) (fun _ _ _ h => h) (Or.inl ⟨by rfl, fun w hSw => by (try dsimp only at hSw); go_simp⟩) hHeld ?_
      try simp only [aP, lA, lB, lC]
      refine wpAnyH_take (i := 5) (oi := ⟨some 48, .move (.tmp 0), 9, "ref.go:102", #[], none⟩) (v := .string (bs (b :: b :: u))) rfl (by kernel_rfl) (by kernel_rfl) (by kernel_rfl) (fun _ _ _ h => h) (Or.inl ⟨by rfl, fun w hSw => by (try dsimp only at hSw); go_simp⟩) hHeld ?_
      try simp only [aP, lA, lB, lC]
      refine wpAnyH_take (i := 6) (oi := ⟨some 49, .slice 9 (.tmp 48) (some (.const (.int .i64 2))) none none, 9, "ref.go:102", #[⟨5, .data⟩], none⟩) (v := .string (bs u)) rfl (by kernel_rfl) (by kernel_rfl) (by kernel_rfl) (fun _ _ _ h => h) (Or.inl ⟨by rfl, fun w hSw => by (try dsimp only at hSw); go_simp⟩) hHeld ?_
      try simp only [aP, lA, lB, lC]
      refine wpAnyH_ready (rs := [4]) (by kernel_rfl) (by simp) ?_
      refine AllReadyH.cons (o := ⟨some 47, .call { callee := .value (.func 137), args := #[.tmp 43, .tmp 46], argTypes := #[138, 172] }, 138, "ref.go:102", #[⟨0, .data⟩, ⟨3, .data⟩], none⟩) rfl (fun K hK => ?_) AllReadyH.nil
      go_simp
      go_at_call 137
      refine cM (by with_reducible exact HAP.out _ HOQ.out HBQ.out) ?_
      rintro e w3 ⟨v3, rfl, ho3, hb3⟩
      dsimp only
      have HO3 := qH ho3
      have HB3 := qH hb3
      clear ho3 hb3
      clear hHeld
      refine hK.out _ _ trivial (fun hHeld => ?_)
      try simp only [aP, lA, lB, lC]
      clear hK
      refine wpAnyH_take (i := 7) (oi := ⟨some 4, .assign (.tmp 47), 138, "ref.go:102", #[⟨4, .data⟩, ⟨4, .chain⟩, ⟨0, .phase⟩, ⟨1, .phase⟩, ⟨2, .phase⟩, ⟨3, .phase⟩, ⟨4, .phase⟩, { on := 5, ground := .textOnly Departure.lateStores }, { on := 6, ground := .textOnly Departure.lateStoresUnsure }], none⟩) (v := v3) rfl (by kernel_rfl) (by kernel_rfl) (by kernel_rfl) (fun _ _ _ h => h) (Or.inl ⟨by rfl, fun w hSw => by (try dsimp only at hSw); go_simp⟩) hHeld ?_
      try simp only [aP, lA, lB, lC]
      refine wpAnyH_take (i := 8) (oi := ⟨some 0, .assign (.tmp 49), 9, "ref.go:102", #[⟨6, .data⟩, ⟨7, .chain⟩, ⟨0, .phase⟩, ⟨1, .phase⟩, ⟨2, .phase⟩, ⟨3, .phase⟩, ⟨4, .phase⟩, ⟨5, .phase⟩, ⟨6, .phase⟩, ⟨7, .phase⟩], none⟩) (v := .string (bs u)) rfl (by kernel_rfl) (by kernel_rfl) (by kernel_rfl) (fun _ _ _ h => h) (Or.inl ⟨by rfl, fun w hSw => by (try dsimp only at hSw); go_simp⟩) hHeld ?_
      try simp only [Act.put, List.setIfInBounds_toArray, List.set_cons_zero]
      refine wpAnyH_done (by kernel_rfl) ?_ _
      clear hHeld
      go_wp2
      go_roundg gk
      case measure => omega
      case rel => exact ⟨_, u, rfl, by omega, by omega, by omega, by omega, hpf, HO3.out, qH ((HKX.out.drew 1).belowTo (by rw [HBB.out]; exact HB3.out))⟩
    rcases hb with hb | hb
    ·have bn1 : ((b.toNat : Int) == 36) = true := by rw [hb]; rfl
     have bn1' : ((b.toNat : Int) != 36) = false := by rw [hb]; rfl
     have bn2 : ((b.toNat : Int) == 37) = false := by rw [hb]; rfl
     have HST := qH (show stepL nmB kyB (b :: r') = placeL nmB kyB (kindOfWord (spanL azCh r').1) (spanL azCh r').2 by subst hb; exact stepL_wordK r' htw)
     have hE0 := spanL_eq azCh r'
     obtain ⟨K, hK⟩ : ∃ K, (spanL azCh r').1.length = K := ⟨_, rfl⟩
     have HFIN := qH fun i (h1 : i ≤ r'.length) (h2 : (r'.take i).all azCh = true) (h3 : ∀ hi : i < r'.length, azCh r'[i] = false) => (show i = K by rw [← hK, span_at h2 h3, List.length_take]; omega)
     have hKl : K ≤ r'.length := by have := congrArg List.length hE0.1; rw [List.length_append] at this; omega
     have x1 : r'.take K = (spanL azCh r').1 := by
      rw [← hK]
      generalize (spanL azCh r').1 = x at *
      generalize (spanL azCh r').2 = y at *
      rw [← hE0.1, List.take_left' rfl]
     have x2 : r'.drop K = (spanL azCh r').2 := by
      rw [← hK]
      generalize (spanL azCh r').1 = x at *
      generalize (spanL azCh r').2 = y at *
      rw [← hE0.1, List.drop_left' rfl]
     have hkw := kindOfWord_le (spanL azCh r').1
     rw [← x1, ← x2] at HST
     rw [← x1] at hkw
     have HKD := qH fun W => refKind_any (r'.take K) W
     have HF := qH fun (W : World) (h : Kp [] w W) => refPlace_any (k := kindOfWord (r'.take K)) (s := r'.drop K) (HE.out.kp0 h) (by omega) (by rw [List.length_drop]; omega)
     unfold FillPost at HF
     simp only [gpC] at HF
     have e1 : (bs (b :: r')).extract 1 (K + 1) = bs (r'.take K) := by rw [bs_mid, List.take_succ_cons, List.drop_succ_cons, List.drop_zero]
     have e2 : (bs (b :: r')).extract (K + 1) (bs (b :: r')).size = bs (r'.drop K) := by rw [bs_drop, List.drop_succ_cons]
     have e2' : (bs (b :: r')).extract (K + 1) (r'.length + 1) = bs (r'.drop K) := e2
     have hq3 : K + 1 ≤ (bs (b :: r')).size := by omega
     have hq4 : 1 ≤ K + 1 := by omega
     have tw1 : r' = [] ∨ ∃ c u, r' = c :: u ∧ ((c.toNat : Int) == (b.toNat : Int)) = false := by
      cases r' with
      | nil => exact .inl rfl
      | cons c u => exact .inr ⟨c, u, rfl, u8_neq (fun e => htw (by rw [e]; rfl))⟩
     clear hE0 x1 x2 hkw htw hK hb
     obtain ⟨kw, hkw⟩ : ∃ k, kindOfWord (r'.take K) = k := ⟨_, rfl⟩
     rw [hkw] at HKD HF HST
     clear hkw
     have HSZ := qH hsz
     clear hsz
     go_upto_region 9 with fail
     go_cut [42] (fun s42 wx => s42 = .bool false ∧ ∃ n, wx = W0.drewN n)
     case first =>
      rcases tw1 with h0 | ⟨c, u, h0, ccb⟩
      ·have hzn : decide ((1 : Int) < ((bs (b :: r')).size : Int)) = false := by rw [HSZ.out, h0]; simp
       clear h0
       go_quiet (fail)
       go_wp2
       go_meet
       case rel => exact ⟨rfl, _, rfl⟩
      ·have hl0 : r'.length = u.length + 1 := by rw [h0]; rfl
       have hz1 : 1 < (bs (b :: r')).size := by have := HSZ.out; omega
       have hz1i : (1 : Int) < ((bs (b :: r')).size : Int) := by omega
       have hg1 : (bs (b :: r'))[1]'hz1 = c := by subst h0; rfl
       clear h0 hl0
       go_quiet (fail)
       go_wp2
       go_meet
       case rel => exact ⟨rfl, _, rfl⟩
     case rest =>
      obtain ⟨rfl, nq, rfl⟩ := hcut
      have HKX := qH (hk.out.drew nq)
      have HOX := qH (HO.out.kp0 ((Kp.refl [] W0).drew nq))
      clear tw1
      generalize W0.drewN nq = Wq at *
      go_upto_if 67 with fail
      go_cut [5, 6] (fun s5 s6 wx => s5 = .int .i64 (kw : Int) ∧ s6 = .int .i64 ((K + 1 : Nat) : Int) ∧ Kp [] Wq wx)
      case first =>
       go_wp2_with fail
       go_loopg [6] r'.length (fun g s6 wx => Wq = wx ∧ ∃ i : Nat, s6 = .int .i64 ((i + 1 : Nat) : Int) ∧ i + g = r'.length ∧ Hid ((r'.take i).all azCh = true))
       case atStart => exact ⟨rfl, 0, rfl, by omega, qH rfl⟩
       case round =>
        obtain ⟨rfl, i, rfl, hig, HG3⟩ := hrel
        by_cases hi : i < r'.length
        ·obtain ⟨g, rfl⟩ : ∃ g, gk = g + 1 := ⟨gk - 1, by omega⟩
         have hiz : ((i + 1 : Nat) : Int) < ((bs (b :: r')).size : Int) := by have := HSZ.out; omega
         have hiz' : i + 1 < (bs (b :: r')).size := by omega
         obtain ⟨x, hx⟩ : ∃ x : UInt8, r'[i] = x := ⟨_, rfl⟩
         have hgx : (bs (b :: r'))[i + 1]'hiz' = x := (bs_get (b :: r') (i + 1) hiz').trans hx
         have hwi : IntKind.i64.wrap (((i + 1 : Nat) : Int) + 1) = ((i + 1 + 1 : Nat) : Int) := by rw [IntKind.wrap_i64]; omega
         have hwi2 : IntKind.i64.wrap ((i : Int) + 1 + 1) = ((i + 1 + 1 : Nat) : Int) := by rw [IntKind.wrap_i64]; omega
         have haz := u8_az x
         have HST2 := qH (fun (h : azCh x = true) => (show (r'.take (i + 1)).all azCh = true by rw [List.take_add_one, List.getElem?_eq_getElem hi, hx, List.all_append, HG3.out]; simp [h]))
         have HSP := qH (fun (h : azCh x = false) => HFIN.out i (by omega) HG3.out (fun _ => by rw [hx]; exact h))
         have HIG := qH hig
         by_cases h97 : (97 : Int) ≤ (x.toNat : Int)
         ·by_cases h122 : (x.toNat : Int) ≤ 122
          ·rw [decide_eq_true h97, decide_eq_true h122] at haz
           have HS3 := qH (HST2.out haz)
           clear haz hig hx hi HG3
           go_wp2
           go_roundg g
           case measure => omega
           case rel => exact ⟨rfl, i + 1, rfl, by have := HIG.out; omega, HS3⟩
          ·rw [decide_eq_true h97, decide_eq_false h122] at haz
           obtain rfl := HSP.out haz
           clear haz hig hx hi HG3 HST2 HSP
           go_wp2_with (go_at_call 138; refine cM (by with_reducible exact HKD.out _) ?_; rintro e w5 ⟨rfl, hk5⟩)
           go_meet
           case rel => exact ⟨rfl, rfl, hk5⟩
         ·rw [decide_eq_false h97] at haz
          obtain rfl := HSP.out haz
          clear haz hig hx hi HG3 HST2 HSP
          go_wp2_with (go_at_call 138; refine cM (by with_reducible exact HKD.out _) ?_; rintro e w5 ⟨rfl, hk5⟩)
          go_meet
          case rel => exact ⟨rfl, rfl, hk5⟩
        ·have hiz : ¬ ((i + 1 : Nat) : Int) < ((bs (b :: r')).size : Int) := by have := HSZ.out; omega
         obtain rfl := HFIN.out i (by omega) HG3.out (fun h => absurd h hi)
         clear hig hi HG3
         go_wp2_with (go_at_call 138; refine cM (by with_reducible exact HKD.out _) ?_; rintro e w5 ⟨rfl, hk5⟩)
         go_meet
         case rel => exact ⟨rfl, rfl, hk5⟩
      case rest =>
       obtain ⟨rfl, rfl, hk5⟩ := hcut
       have HKX := qH (HKX.out.trans hk5)
       have HOX := qH (HOX.out.kp0 hk5)
       clear hk5
       go_upto_region 21 with (go_at_call 139; refine cM (by with_reducible exact HF.out _ HKX.out) ?_; rintro e w2 ⟨p, rr, ok, rfl, hk2, hok⟩)
       have HK2 := qH (HKX.out.trans hk2)
       have HO2 := qH (HOX.out.kp0 hk2)
       rcases fill_cases hok with ⟨rfl, hfn⟩ | ⟨⟨qk, qt, qw, qm⟩, rfl, rfl, hfs⟩
       ·have hE1 := HR.out none (hp.out.trans (pfrom_none acc (by simp) (HST.out.trans hfn)))
        simp only at hE1
        subst hE1
        clear HR hok hfn hk2
        go_wp2
        go_ret2
        exact ⟨_, rfl, hOB.out _ _, HK2.out.alloc _⟩
       ·have hfs := HST.out.trans hfs
        obtain ⟨hf1, hf2, hf3⟩ := stepL_le hfs
        have hpf := qH (hp.out.trans (pfrom_step acc hfs))
        have hal2 := addP_len acc ⟨qk, qt, qw, qm⟩
        have hts2 := addP_tsum acc ⟨qk, qt, qw, qm⟩
        simp only [List.length_cons] at hts2 hf3 hf1
        have HAP := qH fun (W : World) (h : gpT.Own W B u4 (acc.map Pc.g)) (hB : B ≤ W.heap.size) => refAdd_any acc ⟨qk, qt, qw, qm⟩ h hB (by omega) (by show tsum acc + qt.length ≤ 1000000000; omega)
        simp only [gpC, Pc.g] at HAP ⊢
        clear hok hfs hk2 HR
        have hBw : B ≤ w2.heap.size := by have := HBB.out; have := HK2.out.size; omega
        go_wp2_with (go_at_call 137; refine cM (by with_reducible exact HAP.out _ (HO2.out.kp0 ((Kp.refl [] w2).alloc _)) (by simp; omega)) ?_; rintro e w3 ⟨v3, rfl, ho3, hb3⟩; have HO3 := qH ho3; have HB3 := qH hb3; clear ho3 hb3)
        go_roundg gk
        case measure => omega
        case rel => exact ⟨_, rr, rfl, by omega, by omega, by omega, by omega, hpf, HO3.out, qH ((HK2.out.alloc _).belowTo (by rw [HBB.out]; exact HB3.out))⟩
    ·have bn1 : ((b.toNat : Int) == 36) = false := by rw [hb]; rfl
     have bn1' : ((b.toNat : Int) != 36) = true := by rw [hb]; rfl
     have bn2 : ((b.toNat : Int) == 37) = true := by rw [hb]; rfl
     have bn2' : ((b.toNat : Int) != 37) = false := by rw [hb]; rfl
     cases r' with
     | nil =>
      have HST := qH (show stepL nmB kyB [b] = placeL nmB kyB 0 [] by subst hb; rfl)
      have HF := qH fun (W : World) (h : Kp [] w W) => refPlace_0' (s := []) (w := W) (by simp)
      unfold FillPost at HF
      simp only [gpC] at HF
      have e2 : (bs [b]).extract 1 (bs [b]).size = bs [] := rfl
      have e2' : (bs [b]).extract 1 1 = bs [] := rfl
      have hzn : decide ((1 : Int) < ((bs [b]).size : Int)) = false := by rw [hsz]; simp
      clear hb htw
      clear hsz
      go_upto_region 9 with fail
      go_quiet (fail)
      have HKX := qH (hk.out.drew nq)
      have HOX := qH (HO.out.kp0 ((Kp.refl [] W0).drew nq))
      generalize W0.drewN nq = Wq at *
      go_upto_region 21 with (go_at_call 139; refine cM (by with_reducible exact HF.out _ HKX.out) ?_; rintro e w2 ⟨p, rr, ok, rfl, hk2, hok⟩)
      have HK2 := qH (HKX.out.trans hk2)
      have HO2 := qH (HOX.out.kp0 hk2)
      rcases fill_cases hok with ⟨rfl, hfn⟩ | ⟨⟨qk, qt, qw, qm⟩, rfl, rfl, hfs⟩
      ·have hE1 := HR.out none (hp.out.trans (pfrom_none acc (by simp) (HST.out.trans hfn)))
       simp only at hE1
       subst hE1
       clear HR hok hfn hk2
       go_wp2
       go_ret2
       exact ⟨_, rfl, hOB.out _ _, HK2.out.alloc _⟩
      ·have hfs := HST.out.trans hfs
       obtain ⟨hf1, hf2, hf3⟩ := stepL_le hfs
       have hpf := qH (hp.out.trans (pfrom_step acc hfs))
       have hal2 := addP_len acc ⟨qk, qt, qw, qm⟩
       have hts2 := addP_tsum acc ⟨qk, qt, qw, qm⟩
       simp only [List.length_cons] at hts2 hf3 hf1
       have HAP := qH fun (W : World) (h : gpT.Own W B u4 (acc.map Pc.g)) (hB : B ≤ W.heap.size) => refAdd_any acc ⟨qk, qt, qw, qm⟩ h hB (by omega) (by show tsum acc + qt.length ≤ 1000000000; omega)
       simp only [gpC, Pc.g] at HAP ⊢
       clear hok hfs hk2 HR
       have hBw : B ≤ w2.heap.size := by have := HBB.out; have := HK2.out.size; omega
       go_wp2_with (go_at_call 137; refine cM (by with_reducible exact HAP.out _ (HO2.out.kp0 ((Kp.refl [] w2).alloc _)) (by simp; omega)) ?_; rintro e w3 ⟨v3, rfl, ho3, hb3⟩; have HO3 := qH ho3; have HB3 := qH hb3; clear ho3 hb3)
       go_roundg gk
       case measure => omega
       case rel => exact ⟨_, rr, rfl, by omega, by omega, by omega, by omega, hpf, HO3.out, qH ((HK2.out.alloc _).belowTo (by rw [HBB.out]; exact HB3.out))⟩
     | cons c u =>
      rw [List.length_cons] at hrg hal hts hsz
      have hc : c ≠ b := fun e => htw (by rw [e]; rfl)
      have HST := qH (show stepL nmB kyB (b :: c :: u) = placeL nmB kyB (kindOfLetter c) u by subst hb; exact stepL_letterK c u hc)
      have hkl := kindOfLetter_le c
      have HF := qH fun (W : World) (h : Kp [] w W) => refPlace_any (k := kindOfLetter c) (s := u) (HE.out.kp0 h) (by omega) (by omega)
      unfold FillPost at HF
      simp only [gpC] at HF
      have hlk := ltr_kind c
      have hib := Tryz.strings_IndexByte ⟨#[32, 32, 107, 110, 112, 98, 100, 115, 69, 99, 80, 32]⟩ (c.toNat : Int)
      rw [show ((c.toNat : Int)).toNat.toUInt8 = c by simp, show (⟨#[32, 32, 107, 110, 112, 98, 100, 115, 69, 99, 80, 32]⟩ : ByteArray).data.toList = ltrs from rfl] at hib
      have hz1 : 1 < (bs (b :: c :: u)).size := by omega
      have hz1i : (1 : Int) < ((bs (b :: c :: u)).size : Int) := by omega
      have hg1 : (bs (b :: c :: u))[1]'hz1 = c := rfl
      have hq2 : 2 ≤ (bs (b :: c :: u)).size := by omega
      have e2 : (bs (b :: c :: u)).extract 2 (bs (b :: c :: u)).size = bs u := by rw [bs_drop]; rfl
      have e2' : (bs (b :: c :: u)).extract 2 (u.length + 1 + 1) = bs u := e2
      have ccb : ((c.toNat : Int) == (b.toNat : Int)) = false := u8_neq hc
      generalize Lib.indexByte ltrs c = z at *
      have HIB := qH hib
      by_cases h32 : c = 32
      ·rw [if_pos h32] at hlk
       have c32 : ((c.toNat : Int) == 32) = true := by rw [h32]; rfl
       rw [← hlk] at HF
       clear hlk h32 hib hkl hc htw hb
       clear hsz
       go_upto_region 9 with fail
       go_quiet (fail)
       have HKX := qH (hk.out.drew nq)
       have HOX := qH (HO.out.kp0 ((Kp.refl [] W0).drew nq))
       generalize W0.drewN nq = Wq at *
       go_upto_region 21 with (first | (go_at_call 135; refine cM (by with_reducible exact HIB.out _) ?_; rintro e w1 ⟨rfl, hk1⟩; subst hk1) | (go_at_call 139; refine cM (by with_reducible exact HF.out _ HKX.out) ?_; rintro e w2 ⟨p, rr, ok, rfl, hk2, hok⟩))
       have HK2 := qH (HKX.out.trans hk2)
       have HO2 := qH (HOX.out.kp0 hk2)
       rcases fill_cases hok with ⟨rfl, hfn⟩ | ⟨⟨qk, qt, qw, qm⟩, rfl, rfl, hfs⟩
       ·have hE1 := HR.out none (hp.out.trans (pfrom_none acc (by simp) (HST.out.trans hfn)))
        simp only at hE1
        subst hE1
        clear HR hok hfn hk2
        go_wp2
        go_ret2
        exact ⟨_, rfl, hOB.out _ _, HK2.out.alloc _⟩
       ·have hfs := HST.out.trans hfs
        obtain ⟨hf1, hf2, hf3⟩ := stepL_le hfs
        have hpf := qH (hp.out.trans (pfrom_step acc hfs))
        have hal2 := addP_len acc ⟨qk, qt, qw, qm⟩
        have hts2 := addP_tsum acc ⟨qk, qt, qw, qm⟩
        simp only [List.length_cons] at hts2 hf3 hf1
        have HAP := qH fun (W : World) (h : gpT.Own W B u4 (acc.map Pc.g)) (hB : B ≤ W.heap.size) => refAdd_any acc ⟨qk, qt, qw, qm⟩ h hB (by omega) (by show tsum acc + qt.length ≤ 1000000000; omega)
        simp only [gpC, Pc.g] at HAP ⊢
        clear hok hfs hk2 HR
        have hBw : B ≤ w2.heap.size := by have := HBB.out; have := HK2.out.size; omega
        go_wp2_with (go_at_call 137; refine cM (by with_reducible exact HAP.out _ (HO2.out.kp0 ((Kp.refl [] w2).alloc _)) (by simp; omega)) ?_; rintro e w3 ⟨v3, rfl, ho3, hb3⟩; have HO3 := qH ho3; have HB3 := qH hb3; clear ho3 hb3)
        go_roundg gk
        case measure => omega
        case rel => exact ⟨_, rr, rfl, by omega, by omega, by omega, by omega, hpf, HO3.out, qH ((HK2.out.alloc _).belowTo (by rw [HBB.out]; exact HB3.out))⟩
      ·rw [if_neg h32] at hlk
       have c32 : ((c.toNat : Int) == 32) = false := u8_ne (k := 32) (by decide) h32
       rw [← hlk] at HF
       clear hlk h32 hib hkl hc htw hb
       clear hsz
       go_upto_region 9 with fail
       go_quiet (fail)
       have HKX := qH (hk.out.drew nq)
       have HOX := qH (HO.out.kp0 ((Kp.refl [] W0).drew nq))
       generalize W0.drewN nq = Wq at *
       go_upto_region 21 with (first | (go_at_call 135; refine cM (by with_reducible exact HIB.out _) ?_; rintro e w1 ⟨rfl, hk1⟩; subst hk1) | (go_at_call 139; refine cM (by with_reducible exact HF.out _ HKX.out) ?_; rintro e w2 ⟨p, rr, ok, rfl, hk2, hok⟩))
       have HK2 := qH (HKX.out.trans hk2)
       have HO2 := qH (HOX.out.kp0 hk2)
       rcases fill_cases hok with ⟨rfl, hfn⟩ | ⟨⟨qk, qt, qw, qm⟩, rfl, rfl, hfs⟩
       ·have hE1 := HR.out none (hp.out.trans (pfrom_none acc (by simp) (HST.out.trans hfn)))
        simp only at hE1
        subst hE1
        clear HR hok hfn hk2
        go_wp2
        go_ret2
        exact ⟨_, rfl, hOB.out _ _, HK2.out.alloc _⟩
       ·have hfs := HST.out.trans hfs
        obtain ⟨hf1, hf2, hf3⟩ := stepL_le hfs
        have hpf := qH (hp.out.trans (pfrom_step acc hfs))
        have hal2 := addP_len acc ⟨qk, qt, qw, qm⟩
        have hts2 := addP_tsum acc ⟨qk, qt, qw, qm⟩
        simp only [List.length_cons] at hts2 hf3 hf1
        have HAP := qH fun (W : World) (h : gpT.Own W B u4 (acc.map Pc.g)) (hB : B ≤ W.heap.size) => refAdd_any acc ⟨qk, qt, qw, qm⟩ h hB (by omega) (by show tsum acc + qt.length ≤ 1000000000; omega)
        simp only [gpC, Pc.g] at HAP ⊢
        clear hok hfs hk2 HR
        have hBw : B ≤ w2.heap.size := by have := HBB.out; have := HK2.out.size; omega
        go_wp2_with (go_at_call 137; refine cM (by with_reducible exact HAP.out _ (HO2.out.kp0 ((Kp.refl [] w2).alloc _)) (by simp; omega)) ?_; rintro e w3 ⟨v3, rfl, ho3, hb3⟩; have HO3 := qH ho3; have HB3 := qH hb3; clear ho3 hb3)
        go_roundg gk
        case measure => omega
        case rel => exact ⟨_, rr, rfl, by omega, by omega, by omega, by omega, hpf, HO3.out, qH ((HK2.out.alloc _).belowTo (by rw [HBB.out]; exact HB3.out))⟩
theorem refCheck9_any {w : World} (hE : Env w) (s : List UInt8) (hs : s.length ≤ 1000000000) : Calls Tryz.prog 63 #[.string (bs s)] w fun e w' => e = .returned (.int .i64 (parseE s).2) ∧ Kp [] w w' := by
 have HP := qH (refParse_any hE s hs)
 unfold ParsePost at HP
 clear hE
 go_enter Tryz.func63, Tryz.ntmps63
 go_wp2_with (go_at_call 96; refine cM (by with_reducible exact HP.out) ?_; rintro e w1 ⟨v, rfl, ho, hk⟩)
 go_ret
 exact ⟨rfl, hk⟩
end Go.Proofs.YtkkibibecgcbmaaGreatDoor
