/- LxX -/
import Derived.Test.YtkkibibecgcbmaaGreatDoorQLxV
import Derived.Test.YtkkibibecgcbmaaGreatDoorQE
open Go.Lib renaming hid → qH
open Go.Calls renaming mono → cM
set_option maxRecDepth 100000
set_option maxHeartbeats 16000000
namespace Go.Proofs.YtkkibibecgcbmaaGreatDoor.Lx
open Go.RowKit
theorem fmtL_big : ∀ l : List Tok, (∀ x ∈ l, Sm x) → (fmtL l).length ≤ 6000000002 * l.length
 | [], _ => by simp [fmtL]
 | [x], h => by have := fmtT_len (h x (by simp)); simp [fmtL]; omega
 | x :: y :: l, h => by
  have h1 := fmtT_len (h x (by simp))
  have h2 := fmtL_big (y :: l) fun z hz => h z (by simp at hz ⊢; exact .inr hz)
  show (fmtT x ++ 44 :: 32 :: fmtL (y :: l)).length ≤ _
  simp only [List.length_append, List.length_cons] at h2 ⊢
  omega
theorem addX {P : Program} (W : World) (a b : ByteArray) (h : a.size + b.size ≤ 9223372036854775807) : (Op.stringOp .add a b).run P W = .ok (.string (a ++ b)) W :=
 run_string_add_sum W a b h
theorem bs34 : (⟨#[34]⟩ : ByteArray) = bs [34] := rfl
theorem bs4432 : (⟨#[44, 32]⟩ : ByteArray) = bs [44, 32] := rfl
theorem bs123 : (⟨#[123]⟩ : ByteArray) = bs [123] := rfl
theorem bs125 : (⟨#[125]⟩ : ByteArray) = bs [125] := rfl
theorem sz34 : (⟨#[34]⟩ : ByteArray).size = 1 := rfl
theorem sz4432 : (⟨#[44, 32]⟩ : ByteArray).size = 2 := rfl
theorem sz123 : (⟨#[123]⟩ : ByteArray).size = 1 := rfl
theorem sz125 : (⟨#[125]⟩ : ByteArray).size = 1 := rfl
theorem lastX {a b c : Prop} (h : a ∧ b ∧ c) : c := h.2.2
theorem refFormat_any {w : World} {v : Value} {l : List Tok} (hm : Max w) (hh : tokT.Has w v l) (hl : l.length ≤ 30) (hs : ∀ x ∈ l, Sm x) : Calls Tryz.prog 53 #[v] w fun r w' => r = .returned (.tuple #[.string (bs (fmtE l).1), .int .i64 ((fmtE l).2 : Int)]) ∧ Kp [] w w' := by
 obtain ⟨va, vc, rfl, hrow⟩ := hh.form
 have HROW := qH hrow
 have HS := qH hs
 clear hrow hh hs
 go_enter Tryz.func53, Tryz.ntmps53
 go_wp2
 go_loopg [4, 5] l.length (fun g s4 s5 wx => ∃ i : Nat, s5 = .int .i64 (i : Int) ∧ s4 = .string (bs (fmtL (l.take i))) ∧ i + g = l.length ∧ Kp [] w wx ∧ Hid ((l.take i).all goodB = true))
 case atStart => exact ⟨0, rfl, rfl, by omega, Kp.refl _ _, qH rfl⟩
 case round =>
  obtain ⟨i, rfl, rfl, hig, hkp, HG⟩ := hrel
  have HK := qH hkp
  by_cases hi : i < l.length
  ·obtain ⟨g, rfl⟩ : ∃ g, gk = g + 1 := ⟨gk - 1, by omega⟩
   obtain ⟨b, o, rfl, hbl, hr⟩ := HROW.out (by rintro rfl; simp at hi)
   obtain ⟨x, hx⟩ : ∃ x, l[i]? = some x := ⟨_, List.getElem?_eq_getElem hi⟩
   have hiz : (i : Int) < (l.length : Int) := by omega
   have hr2 : tokT.Row wr b o l := hr.keep (hkp.block b hbl (by simp))
   have hsm := HS.out x (List.mem_of_getElem? hx)
   have hgood := fun W => refGood_any x W hsm
   have hesc := fun W (h : Kp [] w W) => esc_any x.val W hsm.2.2.2 (hm.kp h (by simp))
   have hwi : IntKind.i64.wrap ((i : Int) + 1) = ((i + 1 : Nat) : Int) := by rw [IntKind.wrap_i64]; omega
   have HI := qH hig
   have hbig := fmtL_big (l.take i) fun y hy => HS.out y (List.mem_of_mem_take hy)
   have hfv := fmtV_len x.val
   have htk : l.take (i + 1) = l.take i ++ [x] := by rw [List.take_add_one, hx]; rfl
   have HX := qH hx
   obtain ⟨c0, c1, c2, c3⟩ := tokRow hr2 hx
   have HR2 := qH hr2
   rw [List.length_take] at hbig
   obtain ⟨z1, z2, z3, z4⟩ := hsm
   have hne := bs_isEmpty x.name
   have HGD := qH hgood
   have HES := qH hesc
   have HBL := qH hbl
   unfold tokC at HGD
   clear hr hr2 hx hig hgood hesc hbl
   cases hg : goodB x with
   | false =>
    rw [hg] at HGD
    have HE := qH (show fmtE l = ([], 82) by
     unfold fmtE
     rw [if_pos]
     rw [List.all_eq_false]
     exact ⟨x, List.mem_of_getElem? HX.out, by rw [hg]; simp⟩)
    clear hg hi htk hkp hbig hfv z1 z2 z3 z4 hne
    go_wp2_with (go_at_call 85; refine cM (by with_reducible exact HGD.out _) ?_; rintro r w4 ⟨rfl, hk⟩; have HK4 := qH (HK.out.trans hk); clear hk)
    go_ret2
    rw [HE.out]
    exact ⟨rfl, HK4.out⟩
   | true =>
    rw [hg] at HGD
    have HG2 := qH (show (l.take (i + 1)).all goodB = true by
     rw [List.take_add_one, HX.out, List.all_append, HG.out]
     simp [hg])
    clear hg
    by_cases hi0 : i = 0
    ·have htn : l.take i = [] := by rw [hi0]; rfl
     have hgz : ¬ ((0 : Int) < (i : Int)) := by omega
     clear hi0
     cases hnm : x.name.isEmpty with
     | true =>
      have hnn : x.name = [] := List.isEmpty_iff.1 hnm
      rw [hnm] at hne
      clear hnm
      have a9 := fun W => @addX Tryz.prog W (bs (fmtL (l.take i))) (bs x.key) (by (repeat rw [ByteArray.size_append]); (repeat rw [bs_size]); have q1 := sz34; have q2 := sz4432; have q3 := sz123; have q4 := sz125; omega)
      have b1 := fun W => @addX Tryz.prog W (bs x.op) ⟨#[34]⟩ (by (repeat rw [ByteArray.size_append]); (repeat rw [bs_size]); have q1 := sz34; have q2 := sz4432; have q3 := sz123; have q4 := sz125; omega)
      have b2 := fun W => @addX Tryz.prog W (bs x.op ++ ⟨#[34]⟩) (bs (fmtV x.val)) (by (repeat rw [ByteArray.size_append]); (repeat rw [bs_size]); have q1 := sz34; have q2 := sz4432; have q3 := sz123; have q4 := sz125; omega)
      have b3 := fun W => @addX Tryz.prog W ((bs x.op ++ ⟨#[34]⟩) ++ bs (fmtV x.val)) ⟨#[34]⟩ (by (repeat rw [ByteArray.size_append]); (repeat rw [bs_size]); have q1 := sz34; have q2 := sz4432; have q3 := sz123; have q4 := sz125; omega)
      have b4 := fun W => @addX Tryz.prog W (bs (fmtL (l.take i)) ++ bs x.key) (((bs x.op ++ ⟨#[34]⟩) ++ bs (fmtV x.val)) ++ ⟨#[34]⟩) (by (repeat rw [ByteArray.size_append]); (repeat rw [bs_size]); have q1 := sz34; have q2 := sz4432; have q3 := sz123; have q4 := sz125; omega)
      have HF := qH (show (bs (fmtL (l.take i)) ++ bs x.key) ++ (((bs x.op ++ ⟨#[34]⟩) ++ bs (fmtV x.val)) ++ ⟨#[34]⟩) = bs (fmtL (l.take (i + 1))) by
       rw [htk, bs34]
       simp only [bs_app]
       congr 1
       rw [htn]
       simp [fmtL, fmtT, hnn])
      clear hkp hbig hfv z1 z2 z3 z4 htk hi hnn htn
      go_wp2_with (go_at_call 85; refine cM (by with_reducible exact HGD.out _) ?_; rintro r w4 ⟨rfl, hk⟩; have hk4 := HK.out.trans hk; have HK4 := qH hk4; obtain ⟨e0, e1, e2, e3⟩ := tokRow (HR2.out.keep (hk.block b (Nat.lt_of_lt_of_le HBL.out HK.out.size) (by simp))) HX.out; clear hk hk4)
      have HST := qH (show (fun W : World => W.cell? ⟨b, o + i * 4 + 2, none⟩ = some (.string (bs x.op)) ∧ W.cell? ⟨b, o + i * 4 + 3, none⟩ = some (.string (bs x.val)) ∧ Kp [] w W) w4.drew from ⟨e2, e3, HK4.out.drew 1⟩)
      have hks : ∀ W', Kp [] w4.drew W' → W'.cell? ⟨b, o + i * 4 + 2, none⟩ = some (.string (bs x.op)) ∧ W'.cell? ⟨b, o + i * 4 + 3, none⟩ = some (.string (bs x.val)) ∧ Kp [] w W' := fun W' hb => by
       have hcell : ∀ j v, w4.cell? ⟨b, j, none⟩ = some v → W'.cell? ⟨b, j, none⟩ = some v := fun j v hv => by
        have hbb := (((Kp.refl [] w4).drew 1).trans hb).block b (Nat.lt_of_lt_of_le HBL.out HK4.out.size) (by simp)
        simp only [World.cell?, hbb] at hv ⊢
        exact hv
       exact ⟨hcell _ _ e2, hcell _ _ e3, (HK4.out.drew 1).trans hb⟩
      have HKS := qH hks
      have HES2 := qH (show ∀ W, (W.cell? ⟨b, o + i * 4 + 2, none⟩ = some (.string (bs x.op)) ∧ W.cell? ⟨b, o + i * 4 + 3, none⟩ = some (.string (bs x.val)) ∧ Kp [] w W) → Calls Tryz.prog 86 #[.string (bs x.val), .string ⟨#[34]⟩, .string ⟨#[92, 34]⟩] W fun r w' => r = .returned (.string (bs (fmtV x.val))) ∧ Kp [] W w' from fun W h => HES.out W h.2.2)
      clear hks
      go_region_held3 (fun W => W.cell? ⟨b, o + i * 4 + 2, none⟩ = some (.string (bs x.op)) ∧ W.cell? ⟨b, o + i * 4 + 3, none⟩ = some (.string (bs x.val)) ∧ Kp [] w W) (first | exact HST.out | assumption | exact HKS.out _ (by assumption)) (first | (go_at_call 86; refine cM (by with_reducible exact HES2.out _ (by assumption)) ?_; rintro e W ⟨rfl, hb⟩))
      all_goals
       go_wp2
       rw [HF.out]
       go_roundg g
       case measure => omega
       case rel => exact ⟨i + 1, rfl, rfl, by have := HI.out; omega, lastX (by assumption), HG2⟩
     | false =>
      have hnn : x.name ≠ [] := by intro h; rw [h] at hnm; cases hnm
      rw [hnm] at hne
      clear hnm
      have a9 := fun W => @addX Tryz.prog W (bs (fmtL (l.take i))) (bs x.key) (by (repeat rw [ByteArray.size_append]); (repeat rw [bs_size]); have q1 := sz34; have q2 := sz4432; have q3 := sz123; have q4 := sz125; omega)
      have a10 := fun W => @addX Tryz.prog W (⟨#[123]⟩ : ByteArray) (bs x.name) (by (repeat rw [ByteArray.size_append]); (repeat rw [bs_size]); have q1 := sz34; have q2 := sz4432; have q3 := sz123; have q4 := sz125; omega)
      have a11 := fun W => @addX Tryz.prog W ((⟨#[123]⟩ : ByteArray) ++ bs x.name) ⟨#[125]⟩ (by (repeat rw [ByteArray.size_append]); (repeat rw [bs_size]); have q1 := sz34; have q2 := sz4432; have q3 := sz123; have q4 := sz125; omega)
      have a12 := fun W => @addX Tryz.prog W (bs (fmtL (l.take i)) ++ bs x.key) ((⟨#[123]⟩ ++ bs x.name) ++ ⟨#[125]⟩) (by (repeat rw [ByteArray.size_append]); (repeat rw [bs_size]); have q1 := sz34; have q2 := sz4432; have q3 := sz123; have q4 := sz125; omega)
      have b1 := fun W => @addX Tryz.prog W (bs x.op) ⟨#[34]⟩ (by (repeat rw [ByteArray.size_append]); (repeat rw [bs_size]); have q1 := sz34; have q2 := sz4432; have q3 := sz123; have q4 := sz125; omega)
      have b2 := fun W => @addX Tryz.prog W (bs x.op ++ ⟨#[34]⟩) (bs (fmtV x.val)) (by (repeat rw [ByteArray.size_append]); (repeat rw [bs_size]); have q1 := sz34; have q2 := sz4432; have q3 := sz123; have q4 := sz125; omega)
      have b3 := fun W => @addX Tryz.prog W ((bs x.op ++ ⟨#[34]⟩) ++ bs (fmtV x.val)) ⟨#[34]⟩ (by (repeat rw [ByteArray.size_append]); (repeat rw [bs_size]); have q1 := sz34; have q2 := sz4432; have q3 := sz123; have q4 := sz125; omega)
      have b4 := fun W => @addX Tryz.prog W ((bs (fmtL (l.take i)) ++ bs x.key) ++ ((⟨#[123]⟩ ++ bs x.name) ++ ⟨#[125]⟩)) (((bs x.op ++ ⟨#[34]⟩) ++ bs (fmtV x.val)) ++ ⟨#[34]⟩) (by (repeat rw [ByteArray.size_append]); (repeat rw [bs_size]); have q1 := sz34; have q2 := sz4432; have q3 := sz123; have q4 := sz125; omega)
      have HF := qH (show ((bs (fmtL (l.take i)) ++ bs x.key) ++ ((⟨#[123]⟩ ++ bs x.name) ++ ⟨#[125]⟩)) ++ (((bs x.op ++ ⟨#[34]⟩) ++ bs (fmtV x.val)) ++ ⟨#[34]⟩) = bs (fmtL (l.take (i + 1))) by
       rw [htk, bs34, bs123, bs125]
       simp only [bs_app]
       congr 1
       rw [htn]
       simp [fmtL, fmtT, hnn])
      clear hkp hbig hfv z1 z2 z3 z4 htk hi hnn htn
      go_wp2_with (go_at_call 85; refine cM (by with_reducible exact HGD.out _) ?_; rintro r w4 ⟨rfl, hk⟩; have hk4 := HK.out.trans hk; have HK4 := qH hk4; obtain ⟨e0, e1, e2, e3⟩ := tokRow (HR2.out.keep (hk.block b (Nat.lt_of_lt_of_le HBL.out HK.out.size) (by simp))) HX.out; clear hk hk4)
      have HST := qH (show (fun W : World => W.cell? ⟨b, o + i * 4 + 2, none⟩ = some (.string (bs x.op)) ∧ W.cell? ⟨b, o + i * 4 + 3, none⟩ = some (.string (bs x.val)) ∧ Kp [] w W) w4.drew from ⟨e2, e3, HK4.out.drew 1⟩)
      have hks : ∀ W', Kp [] w4.drew W' → W'.cell? ⟨b, o + i * 4 + 2, none⟩ = some (.string (bs x.op)) ∧ W'.cell? ⟨b, o + i * 4 + 3, none⟩ = some (.string (bs x.val)) ∧ Kp [] w W' := fun W' hb => by
       have hcell : ∀ j v, w4.cell? ⟨b, j, none⟩ = some v → W'.cell? ⟨b, j, none⟩ = some v := fun j v hv => by
        have hbb := (((Kp.refl [] w4).drew 1).trans hb).block b (Nat.lt_of_lt_of_le HBL.out HK4.out.size) (by simp)
        simp only [World.cell?, hbb] at hv ⊢
        exact hv
       exact ⟨hcell _ _ e2, hcell _ _ e3, (HK4.out.drew 1).trans hb⟩
      have HKS := qH hks
      have HES2 := qH (show ∀ W, (W.cell? ⟨b, o + i * 4 + 2, none⟩ = some (.string (bs x.op)) ∧ W.cell? ⟨b, o + i * 4 + 3, none⟩ = some (.string (bs x.val)) ∧ Kp [] w W) → Calls Tryz.prog 86 #[.string (bs x.val), .string ⟨#[34]⟩, .string ⟨#[92, 34]⟩] W fun r w' => r = .returned (.string (bs (fmtV x.val))) ∧ Kp [] W w' from fun W h => HES.out W h.2.2)
      clear hks
      go_region_held3 (fun W => W.cell? ⟨b, o + i * 4 + 2, none⟩ = some (.string (bs x.op)) ∧ W.cell? ⟨b, o + i * 4 + 3, none⟩ = some (.string (bs x.val)) ∧ Kp [] w W) (first | exact HST.out | assumption | exact HKS.out _ (by assumption)) (first | (go_at_call 86; refine cM (by with_reducible exact HES2.out _ (by assumption)) ?_; rintro e W ⟨rfl, hb⟩))
      all_goals
       go_wp2
       rw [HF.out]
       go_roundg g
       case measure => omega
       case rel => exact ⟨i + 1, rfl, rfl, by have := HI.out; omega, lastX (by assumption), HG2⟩
    ·have htn : l.take i ≠ [] := by
      intro h
      have := congrArg List.length h
      rw [List.length_take, List.length_nil] at this
      omega
     have hgz : (0 : Int) < (i : Int) := by omega
     clear hi0
     cases hnm : x.name.isEmpty with
     | true =>
      have hnn : x.name = [] := List.isEmpty_iff.1 hnm
      rw [hnm] at hne
      clear hnm
      have a8 := fun W => @addX Tryz.prog W (bs (fmtL (l.take i))) ⟨#[44, 32]⟩ (by (repeat rw [ByteArray.size_append]); (repeat rw [bs_size]); have q1 := sz34; have q2 := sz4432; have q3 := sz123; have q4 := sz125; omega)
      have a9 := fun W => @addX Tryz.prog W (bs (fmtL (l.take i)) ++ ⟨#[44, 32]⟩) (bs x.key) (by (repeat rw [ByteArray.size_append]); (repeat rw [bs_size]); have q1 := sz34; have q2 := sz4432; have q3 := sz123; have q4 := sz125; omega)
      have b1 := fun W => @addX Tryz.prog W (bs x.op) ⟨#[34]⟩ (by (repeat rw [ByteArray.size_append]); (repeat rw [bs_size]); have q1 := sz34; have q2 := sz4432; have q3 := sz123; have q4 := sz125; omega)
      have b2 := fun W => @addX Tryz.prog W (bs x.op ++ ⟨#[34]⟩) (bs (fmtV x.val)) (by (repeat rw [ByteArray.size_append]); (repeat rw [bs_size]); have q1 := sz34; have q2 := sz4432; have q3 := sz123; have q4 := sz125; omega)
      have b3 := fun W => @addX Tryz.prog W ((bs x.op ++ ⟨#[34]⟩) ++ bs (fmtV x.val)) ⟨#[34]⟩ (by (repeat rw [ByteArray.size_append]); (repeat rw [bs_size]); have q1 := sz34; have q2 := sz4432; have q3 := sz123; have q4 := sz125; omega)
      have b4 := fun W => @addX Tryz.prog W ((bs (fmtL (l.take i)) ++ ⟨#[44, 32]⟩) ++ bs x.key) (((bs x.op ++ ⟨#[34]⟩) ++ bs (fmtV x.val)) ++ ⟨#[34]⟩) (by (repeat rw [ByteArray.size_append]); (repeat rw [bs_size]); have q1 := sz34; have q2 := sz4432; have q3 := sz123; have q4 := sz125; omega)
      have HF := qH (show ((bs (fmtL (l.take i)) ++ ⟨#[44, 32]⟩) ++ bs x.key) ++ (((bs x.op ++ ⟨#[34]⟩) ++ bs (fmtV x.val)) ++ ⟨#[34]⟩) = bs (fmtL (l.take (i + 1))) by
       rw [htk, fmtL_snoc _ _ htn, bs34, bs4432]
       simp only [bs_app]
       congr 1
       skip
       simp [fmtT, hnn])
      clear hkp hbig hfv z1 z2 z3 z4 htk hi hnn htn
      go_wp2_with (go_at_call 85; refine cM (by with_reducible exact HGD.out _) ?_; rintro r w4 ⟨rfl, hk⟩; have hk4 := HK.out.trans hk; have HK4 := qH hk4; obtain ⟨e0, e1, e2, e3⟩ := tokRow (HR2.out.keep (hk.block b (Nat.lt_of_lt_of_le HBL.out HK.out.size) (by simp))) HX.out; clear hk hk4)
      have HST := qH (show (fun W : World => W.cell? ⟨b, o + i * 4 + 2, none⟩ = some (.string (bs x.op)) ∧ W.cell? ⟨b, o + i * 4 + 3, none⟩ = some (.string (bs x.val)) ∧ Kp [] w W) w4.drew from ⟨e2, e3, HK4.out.drew 1⟩)
      have hks : ∀ W', Kp [] w4.drew W' → W'.cell? ⟨b, o + i * 4 + 2, none⟩ = some (.string (bs x.op)) ∧ W'.cell? ⟨b, o + i * 4 + 3, none⟩ = some (.string (bs x.val)) ∧ Kp [] w W' := fun W' hb => by
       have hcell : ∀ j v, w4.cell? ⟨b, j, none⟩ = some v → W'.cell? ⟨b, j, none⟩ = some v := fun j v hv => by
        have hbb := (((Kp.refl [] w4).drew 1).trans hb).block b (Nat.lt_of_lt_of_le HBL.out HK4.out.size) (by simp)
        simp only [World.cell?, hbb] at hv ⊢
        exact hv
       exact ⟨hcell _ _ e2, hcell _ _ e3, (HK4.out.drew 1).trans hb⟩
      have HKS := qH hks
      have HES2 := qH (show ∀ W, (W.cell? ⟨b, o + i * 4 + 2, none⟩ = some (.string (bs x.op)) ∧ W.cell? ⟨b, o + i * 4 + 3, none⟩ = some (.string (bs x.val)) ∧ Kp [] w W) → Calls Tryz.prog 86 #[.string (bs x.val), .string ⟨#[34]⟩, .string ⟨#[92, 34]⟩] W fun r w' => r = .returned (.string (bs (fmtV x.val))) ∧ Kp [] W w' from fun W h => HES.out W h.2.2)
      clear hks
      go_region_held3 (fun W => W.cell? ⟨b, o + i * 4 + 2, none⟩ = some (.string (bs x.op)) ∧ W.cell? ⟨b, o + i * 4 + 3, none⟩ = some (.string (bs x.val)) ∧ Kp [] w W) (first | exact HST.out | assumption | exact HKS.out _ (by assumption)) (first | (go_at_call 86; refine cM (by with_reducible exact HES2.out _ (by assumption)) ?_; rintro e W ⟨rfl, hb⟩))
      all_goals
       go_wp2
       rw [HF.out]
       go_roundg g
       case measure => omega
       case rel => exact ⟨i + 1, rfl, rfl, by have := HI.out; omega, lastX (by assumption), HG2⟩
     | false =>
      have hnn : x.name ≠ [] := by intro h; rw [h] at hnm; cases hnm
      rw [hnm] at hne
      clear hnm
      have a8 := fun W => @addX Tryz.prog W (bs (fmtL (l.take i))) ⟨#[44, 32]⟩ (by (repeat rw [ByteArray.size_append]); (repeat rw [bs_size]); have q1 := sz34; have q2 := sz4432; have q3 := sz123; have q4 := sz125; omega)
      have a9 := fun W => @addX Tryz.prog W (bs (fmtL (l.take i)) ++ ⟨#[44, 32]⟩) (bs x.key) (by (repeat rw [ByteArray.size_append]); (repeat rw [bs_size]); have q1 := sz34; have q2 := sz4432; have q3 := sz123; have q4 := sz125; omega)
      have a10 := fun W => @addX Tryz.prog W (⟨#[123]⟩ : ByteArray) (bs x.name) (by (repeat rw [ByteArray.size_append]); (repeat rw [bs_size]); have q1 := sz34; have q2 := sz4432; have q3 := sz123; have q4 := sz125; omega)
      have a11 := fun W => @addX Tryz.prog W ((⟨#[123]⟩ : ByteArray) ++ bs x.name) ⟨#[125]⟩ (by (repeat rw [ByteArray.size_append]); (repeat rw [bs_size]); have q1 := sz34; have q2 := sz4432; have q3 := sz123; have q4 := sz125; omega)
      have a12 := fun W => @addX Tryz.prog W ((bs (fmtL (l.take i)) ++ ⟨#[44, 32]⟩) ++ bs x.key) ((⟨#[123]⟩ ++ bs x.name) ++ ⟨#[125]⟩) (by (repeat rw [ByteArray.size_append]); (repeat rw [bs_size]); have q1 := sz34; have q2 := sz4432; have q3 := sz123; have q4 := sz125; omega)
      have b1 := fun W => @addX Tryz.prog W (bs x.op) ⟨#[34]⟩ (by (repeat rw [ByteArray.size_append]); (repeat rw [bs_size]); have q1 := sz34; have q2 := sz4432; have q3 := sz123; have q4 := sz125; omega)
      have b2 := fun W => @addX Tryz.prog W (bs x.op ++ ⟨#[34]⟩) (bs (fmtV x.val)) (by (repeat rw [ByteArray.size_append]); (repeat rw [bs_size]); have q1 := sz34; have q2 := sz4432; have q3 := sz123; have q4 := sz125; omega)
      have b3 := fun W => @addX Tryz.prog W ((bs x.op ++ ⟨#[34]⟩) ++ bs (fmtV x.val)) ⟨#[34]⟩ (by (repeat rw [ByteArray.size_append]); (repeat rw [bs_size]); have q1 := sz34; have q2 := sz4432; have q3 := sz123; have q4 := sz125; omega)
      have b4 := fun W => @addX Tryz.prog W (((bs (fmtL (l.take i)) ++ ⟨#[44, 32]⟩) ++ bs x.key) ++ ((⟨#[123]⟩ ++ bs x.name) ++ ⟨#[125]⟩)) (((bs x.op ++ ⟨#[34]⟩) ++ bs (fmtV x.val)) ++ ⟨#[34]⟩) (by (repeat rw [ByteArray.size_append]); (repeat rw [bs_size]); have q1 := sz34; have q2 := sz4432; have q3 := sz123; have q4 := sz125; omega)
      have HF := qH (show (((bs (fmtL (l.take i)) ++ ⟨#[44, 32]⟩) ++ bs x.key) ++ ((⟨#[123]⟩ ++ bs x.name) ++ ⟨#[125]⟩)) ++ (((bs x.op ++ ⟨#[34]⟩) ++ bs (fmtV x.val)) ++ ⟨#[34]⟩) = bs (fmtL (l.take (i + 1))) by
       rw [htk, fmtL_snoc _ _ htn, bs34, bs4432, bs123, bs125]
       simp only [bs_app]
       congr 1
       skip
       simp [fmtT, hnn])
      clear hkp hbig hfv z1 z2 z3 z4 htk hi hnn htn
      go_wp2_with (go_at_call 85; refine cM (by with_reducible exact HGD.out _) ?_; rintro r w4 ⟨rfl, hk⟩; have hk4 := HK.out.trans hk; have HK4 := qH hk4; obtain ⟨e0, e1, e2, e3⟩ := tokRow (HR2.out.keep (hk.block b (Nat.lt_of_lt_of_le HBL.out HK.out.size) (by simp))) HX.out; clear hk hk4)
      have HST := qH (show (fun W : World => W.cell? ⟨b, o + i * 4 + 2, none⟩ = some (.string (bs x.op)) ∧ W.cell? ⟨b, o + i * 4 + 3, none⟩ = some (.string (bs x.val)) ∧ Kp [] w W) w4.drew from ⟨e2, e3, HK4.out.drew 1⟩)
      have hks : ∀ W', Kp [] w4.drew W' → W'.cell? ⟨b, o + i * 4 + 2, none⟩ = some (.string (bs x.op)) ∧ W'.cell? ⟨b, o + i * 4 + 3, none⟩ = some (.string (bs x.val)) ∧ Kp [] w W' := fun W' hb => by
       have hcell : ∀ j v, w4.cell? ⟨b, j, none⟩ = some v → W'.cell? ⟨b, j, none⟩ = some v := fun j v hv => by
        have hbb := (((Kp.refl [] w4).drew 1).trans hb).block b (Nat.lt_of_lt_of_le HBL.out HK4.out.size) (by simp)
        simp only [World.cell?, hbb] at hv ⊢
        exact hv
       exact ⟨hcell _ _ e2, hcell _ _ e3, (HK4.out.drew 1).trans hb⟩
      have HKS := qH hks
      have HES2 := qH (show ∀ W, (W.cell? ⟨b, o + i * 4 + 2, none⟩ = some (.string (bs x.op)) ∧ W.cell? ⟨b, o + i * 4 + 3, none⟩ = some (.string (bs x.val)) ∧ Kp [] w W) → Calls Tryz.prog 86 #[.string (bs x.val), .string ⟨#[34]⟩, .string ⟨#[92, 34]⟩] W fun r w' => r = .returned (.string (bs (fmtV x.val))) ∧ Kp [] W w' from fun W h => HES.out W h.2.2)
      clear hks
      go_region_held3 (fun W => W.cell? ⟨b, o + i * 4 + 2, none⟩ = some (.string (bs x.op)) ∧ W.cell? ⟨b, o + i * 4 + 3, none⟩ = some (.string (bs x.val)) ∧ Kp [] w W) (first | exact HST.out | assumption | exact HKS.out _ (by assumption)) (first | (go_at_call 86; refine cM (by with_reducible exact HES2.out _ (by assumption)) ?_; rintro e W ⟨rfl, hb⟩))
      all_goals
       go_wp2
       rw [HF.out]
       go_roundg g
       case measure => omega
       case rel => exact ⟨i + 1, rfl, rfl, by have := HI.out; omega, lastX (by assumption), HG2⟩
  ·have hiz : ¬ ((i : Int) < (l.length : Int)) := by omega
   have hie : l.take i = l := List.take_of_length_le (by omega)
   have hall : l.all goodB = true := by
    have h := HG.out
    rwa [hie] at h
   rw [hie]
   have hbz : ((bs (fmtL l)).size : Int) = ((fmtL l).length : Int) := rfl
   by_cases hbig : 1024 < (fmtL l).length
   ·have HE := qH (show fmtE l = ([], 81) by unfold fmtE; rw [if_neg (by rw [hall]; simp), if_pos hbig])
    have hgt : (1024 : Int) < ((bs (fmtL l)).size : Int) := by omega
    clear hig hkp hi hie hall hbz hbig
    go_wp2
    go_ret2
    rw [HE.out]
    exact ⟨rfl, HK.out⟩
   ·have HE := qH (show fmtE l = (fmtL l, 0) by unfold fmtE; rw [if_neg (by rw [hall]; simp), if_neg hbig])
    have hgt : ¬ (1024 : Int) < ((bs (fmtL l)).size : Int) := by omega
    clear hig hkp hi hie hall hbz hbig
    go_wp2
    go_ret2
    rw [HE.out]
    exact ⟨rfl, HK.out⟩
end Go.Proofs.YtkkibibecgcbmaaGreatDoor.Lx
