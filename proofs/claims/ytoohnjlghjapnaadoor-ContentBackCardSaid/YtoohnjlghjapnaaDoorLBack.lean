/- The walk of ContentBack. -/
import Derived.Test.YtoohnjlghjapnaaDoorLNests
import Derived.Test.YtoohnjlghjapnaaDoorY
import Derived.Test.YtoohnjlghjapnaaDoorAA
namespace Go.Proofs.YtoohnjlghjapnaaDoor
open Go.RowKit

theorem bs_ex (B : ByteArray) : ∃ l, B = bs l := ⟨_, (bs_of B).symm⟩
theorem parse_txt {c : Con} (hv : valN 6 c = true) (hl : c.txt.length ≤ 256) : parseR c.txt = c ∧ parseE c.txt = 0 := by
  have h : parseN 6 c.txt = some c := parseN_iff.2 ⟨hv, rfl⟩
  unfold parseR parseE
  rw [if_pos hl, if_pos hl, h]
  exact ⟨rfl, rfl⟩
theorem parse_ok (s : List UInt8) : (parseE s = 0 ∧ fmtS (parseR s) = s ∧ fmtE (parseR s) = 0) ∨ parseE s ≠ 0 := by
  unfold parseE parseR
  split
  · rename_i hl
    cases h : parseN 6 s with
    | none => exact .inr (by simp)
    | some c =>
      obtain ⟨hv, ht⟩ := parseN_iff.1 h
      refine .inl ⟨rfl, ?_, ?_⟩
      · unfold fmtS
        rw [Option.getD_some, if_pos ⟨hv, by rw [ht]; exact hl⟩, ht]
      · unfold fmtE
        rw [Option.getD_some, if_pos hv, if_pos (by rw [ht]; exact hl)]
  · exact .inr (by decide)

set_option maxHeartbeats 8000000 in
set_option maxRecDepth 100000 in
theorem contentBack_walk (S : ByteArray) (a : Option Addr) (n cc : Nat) (w : World) (hi : Ints w w.heap.size (.slice a n cc)) (hE : Env w) :
    Calls Tryd.prog 4 #[.string S, .slice a n cc] w fun e w' => e = .returned (.bool true) ∧ Below w.heap.size w w' := by
  obtain ⟨ls, rfl⟩ := bs_ex S
  have ht0 := tape_new hi
  have hal : Kp [] w (w.alloc (.cells #[.slice a n cc, .int .i64 0] 28)) := (Kp.refl [] w).alloc _
  obtain ⟨B, hB⟩ : ∃ B, w.heap.size = B := ⟨_, rfl⟩
  rw [hB] at ht0
  have HG := Lib.hid (gen_ok 4 (by omega) B 0 _ ht0 (by decide))
  have E1 := Lib.hid (hE.kp hal (by simp))
  have K1 := Lib.hid hal
  have HB := Lib.hid hB
  have H6 := Lib.hid (show 6 ≤ B by rw [← hB]; exact hE.size)
  clear ht0 hal hi hE
  go_enter Tryd.func4, Tryd.ntmps4
  go_wp2_with fail
  refine HG.out.mono ?_
  rintro e w2 ⟨c, v, k', rfl, hval, hv, hT, hk', hk⟩
  have K2 := Lib.hid (K1.out.up hk (by simp; have := HB.out; omega))
  have E2 := Lib.hid (E1.out.kp hk (by simp; exact H6.out))
  obtain ⟨va, vn, rfl, -⟩ := hv.form
  obtain ⟨P, hP⟩ : ∃ P, w2.heap.size = P := ⟨_, rfl⟩
  obtain ⟨w3, hw3⟩ : ∃ w3, w2.alloc (.cells #[.int .i64 c.kind, .string (bs c.id), .string (bs c.lab), .int .i64 c.slot, .int .i64 c.tot, .int .i64 c.lst, .slice va c.inner.length vn] 24) = w3 := ⟨_, rfl⟩
  have hal : Kp [] w2 w3 := by rw [← hw3]; exact (Kp.refl [] w2).alloc _
  have hbx : BoxV P (.int .i64 c.kind) (.string (bs c.id)) (.string (bs c.lab)) (.int .i64 c.slot) (.int .i64 c.tot) (.int .i64 c.lst) (.slice va c.inner.length vn) w3 := by rw [← hP, ← hw3]; exact al_new _ _
  have hv6 := valN_up 4 6 c hval (by have := valN_dep 4 c hval; omega)
  have B3 := Lib.hid hbx
  have C3 := Lib.hid (kp_has hv hal)
  have K3 := Lib.hid (K2.out.trans hal)
  have E3 := Lib.hid (E2.out.kp hal (by simp))
  have T3 := Lib.hid (hT.kp hal (by simp))
  have HK := Lib.hid hk'
  have HF := Lib.hid (format_any c va vn w3 (tx_of_val hval) (kp_has hv hal))
  have HV := Lib.hid hv6
  obtain ⟨c0, c1, c2, c3, c4, c5, c6⟩ := hbx.cells
  clear hal hval hv hT hk hk' hbx hv6
  by_cases hl : c.txt.length ≤ 256
  · have hf0 : fmtE c = 0 := by unfold fmtE; rw [if_pos HV.out, if_pos hl]
    have hf1 : fmtS c = c.txt := by unfold fmtS; rw [if_pos ⟨HV.out, hl⟩]
    have HPT := Lib.hid (parse_txt HV.out hl)
    rw [hf0, hf1] at HF
    clear hf0 hf1
    go_wp2_with fail
    refine HF.out.mono ?_
    rintro e w4 ⟨rfl, hk4⟩
    have B4 := Lib.hid (B3.out.kp hk4 (by simp))
    have C4 := Lib.hid (kp_has C3.out hk4)
    have K4 := Lib.hid (K3.out.trans hk4)
    have E4 := Lib.hid (E3.out.kp hk4 (by simp))
    have T4 := Lib.hid (T3.out.kp hk4 (by simp))
    have HPA := Lib.hid (parse_any E4.out c.txt)
    clear hk4 c0 c1 c2 c3 c4 c5 c6
    go_wp2_with fail
    refine HPA.out.mono ?_
    rintro e w5 ⟨v, rfl, hv5, -, hk5⟩
    rw [HPT.out.1] at hv5
    obtain ⟨ua, un, rfl, -⟩ := hv5.form
    rw [HPT.out.1, HPT.out.2]
    obtain ⟨w6, hw6⟩ : ∃ w6, w5.alloc (.cells #[.int .i64 c.kind, .string (bs c.id), .string (bs c.lab), .int .i64 c.slot, .int .i64 c.tot, .int .i64 c.lst, .slice ua c.inner.length un] 24) = w6 := ⟨_, rfl⟩
    have hal : Kp [] w5 w6 := by rw [← hw6]; exact (Kp.refl [] w5).alloc _
    obtain ⟨D, hD⟩ : ∃ D, w5.heap.size = D := ⟨_, rfl⟩
    have hbd : BoxV D (.int .i64 c.kind) (.string (bs c.id)) (.string (bs c.lab)) (.int .i64 c.slot) (.int .i64 c.tot) (.int .i64 c.lst) (.slice ua c.inner.length un) w6 := by rw [← hD, ← hw6]; exact al_new _ _
    have hk6 := hk5.trans hal
    have K6 := Lib.hid (K4.out.trans hk6)
    have E6 := Lib.hid (E4.out.kp hk6 (by simp))
    have T6 := Lib.hid (T4.out.kp hk6 (by simp))
    have HSM := Lib.hid (refSame_any c c va ua vn un w6 (kp_has C4.out hk6) (kp_has hv5 hal))
    rw [same_self] at HSM
    obtain ⟨c0, c1, c2, c3, c4, c5, c6⟩ := (B4.out.kp hk6 (by simp)).cells
    obtain ⟨d0, d1, d2, d3, d4, d5, d6⟩ := hbd.cells
    clear hv5 hk5 hal hbd hk6
    unfold aggV
    go_wp2_with fail
    refine HSM.out.mono ?_
    rintro e w7 ⟨rfl, hk7⟩
    have K7 := Lib.hid (K6.out.trans hk7)
    have E7 := Lib.hid (E6.out.kp hk7 (by simp))
    have T7 := Lib.hid (T6.out.kp hk7 (by simp))
    clear hk7 c0 c1 c2 c3 c4 c5 c6 d0 d1 d2 d3 d4 d5 d6
    have HT := Lib.hid (lawText_any T7.out (by have := HK.out; have : tapeN 3 + 4 + tapeN 4 ≤ 900000 := (by decide); omega))
    go_wp2_with fail
    refine HT.out.mono ?_
    rintro e w8 ⟨Bt, k8, rfl, hT8, -, hk8⟩
    obtain ⟨lt, rfl⟩ := bs_ex Bt
    have hs7 := K7.out.size
    have K8 := Lib.hid (K7.out.up hk8 (by simp; have := HB.out; omega))
    have E8 := Lib.hid (E7.out.kp hk8 (by simp; exact H6.out))
    obtain ⟨w9, hw9⟩ : ∃ w9, w8.alloc (.cells #[.string (bs ls), .string (bs lt)] 9) = w9 := ⟨_, rfl⟩
    have hal : Kp [] w8 w9 := by rw [← hw9]; exact (Kp.refl [] w8).alloc _
    obtain ⟨L, hL⟩ : ∃ L, w8.heap.size = L := ⟨_, rfl⟩
    have hrow : w9.heap[L]? = some (.cells #[.string (bs ls), .string (bs lt)] 9 (0, 0)) := by rw [← hL, ← hw9]; exact al_new _ _
    have HR := Lib.hid (fun i (hi : i < 2) => show ∃ x, w9.cell? ⟨L, i, none⟩ = some (.string (bs x)) by
      have : i = 0 ∨ i = 1 := by omega
      rcases this with rfl | rfl
      · exact ⟨ls, by rw [cell_of_row _ _ _ _ _ _ hrow]; rfl⟩
      · exact ⟨lt, by rw [cell_of_row _ _ _ _ _ _ hrow]; rfl⟩)
    have K9 := Lib.hid (K8.out.trans hal)
    have E9 := Lib.hid (E8.out.kp hal (by simp))
    clear hs7 hk8 hT8 hal hrow
    go_wp2
    clear hw9
    go_loopw [12] (fun s12 wx => ∃ i : Nat, i ≤ 2 ∧ s12 = .int .i64 (i : Int) ∧ Kp [] w9 wx) (fun s12 _ => 2 - (intOf s12).toNat)
    case atStart => exact ⟨0, by omega, rfl, Kp.refl _ _⟩
    case round =>
      rename_i wr
      obtain ⟨i, hi, rfl, hkp⟩ := hrel
      have KP := Lib.hid hkp
      have EP := Lib.hid (E9.out.kp hkp (by simp))
      clear hkp
      by_cases hlt : i < 2
      · have hiz : (i : Int) < 2 := by omega
        have hwi : IntKind.i64.wrap ((i : Int) + 1) = ((i + 1 : Nat) : Int) := by rw [IntKind.wrap_i64]; omega
        obtain ⟨x, hx⟩ := HR.out i hlt
        have hxr := kp_cell KP.out hx
        have HPX := Lib.hid (parse_any EP.out x)
        have HXX := Lib.hid (fun W (hk : Kp [] w9 W) => kp_cell hk hx)
        clear hx
        go_wp2_with fail
        refine HPX.out.mono ?_
        rintro e wp ⟨v, rfl, hvp, htp, hkp⟩
        obtain ⟨pa, pn, rfl, -⟩ := hvp.form
        have KQ := Lib.hid (KP.out.trans hkp)
        have hal : Kp [] wp (wp.alloc (.cells #[.int .i64 (parseR x).kind, .string (bs (parseR x).id), .string (bs (parseR x).lab), .int .i64 (parseR x).slot, .int .i64 (parseR x).tot, .int .i64 (parseR x).lst, .slice pa (parseR x).inner.length pn] 24)) := (Kp.refl [] wp).alloc _
        unfold aggV
        rcases parse_ok x with ⟨h0, h1, h2⟩ | h0
        · have HFX := Lib.hid (format_any (parseR x) pa pn _ htp (kp_has hvp hal))
          rw [h1, h2] at HFX
          rw [h0]
          have hbx := al_new wp (.cells #[.int .i64 (parseR x).kind, .string (bs (parseR x).id), .string (bs (parseR x).lab), .int .i64 (parseR x).slot, .int .i64 (parseR x).tot, .int .i64 (parseR x).lst, .slice pa (parseR x).inner.length pn] 24)
          have KA := Lib.hid (KQ.out.trans hal)
          clear h0 h1 h2 hvp htp hkp hal hxr
          go_wp2_with fail
          refine HFX.out.mono ?_
          rintro e wf ⟨rfl, hkf⟩
          have KF := Lib.hid (KA.out.trans hkf)
          have hxf := HXX.out wf KF.out
          clear hkf hbx
          go_wp2
          exact ⟨⟨i + 1, by omega, rfl, KF.out⟩, by simp [intOf]; omega⟩
        · have KA := Lib.hid (KQ.out.trans hal)
          have h0z : (parseE x == 0) = false := beq_false_of_ne h0
          clear hvp htp hkp hal hxr
          go_wp2
          exact ⟨⟨i + 1, by omega, rfl, KA.out⟩, by simp [intOf]; omega⟩
      · have hie : i = 2 := by omega
        subst hie
        have HKN := Lib.hid (known_any EP.out)
        go_wp2_with fail
        refine HKN.out.mono ?_
        rintro e wg ⟨rfl, hkg⟩
        have KGG := Lib.hid ((K9.out.trans KP.out).trans hkg)
        clear hkg
        go_wp2
        go_ret
        exact ⟨rfl, KGG.out.below (Nat.le_refl _) (by simp)⟩
  · have hf0 : fmtE c = 71 := by unfold fmtE; rw [if_pos HV.out, if_neg hl]
    rw [hf0] at HF
    clear hf0
    go_wp2_with fail
    refine HF.out.mono ?_
    rintro e w7 ⟨rfl, hk7⟩
    have K7 := Lib.hid (K3.out.trans hk7)
    have E7 := Lib.hid (E3.out.kp hk7 (by simp))
    have T7 := Lib.hid (T3.out.kp hk7 (by simp))
    clear hk7 c0 c1 c2 c3 c4 c5 c6
    have HT := Lib.hid (lawText_any T7.out (by have := HK.out; have : tapeN 3 + 4 + tapeN 4 ≤ 900000 := (by decide); omega))
    go_wp2_with fail
    refine HT.out.mono ?_
    rintro e w8 ⟨Bt, k8, rfl, hT8, -, hk8⟩
    obtain ⟨lt, rfl⟩ := bs_ex Bt
    have hs7 := K7.out.size
    have K8 := Lib.hid (K7.out.up hk8 (by simp; have := HB.out; omega))
    have E8 := Lib.hid (E7.out.kp hk8 (by simp; exact H6.out))
    obtain ⟨w9, hw9⟩ : ∃ w9, w8.alloc (.cells #[.string (bs ls), .string (bs lt)] 9) = w9 := ⟨_, rfl⟩
    have hal : Kp [] w8 w9 := by rw [← hw9]; exact (Kp.refl [] w8).alloc _
    obtain ⟨L, hL⟩ : ∃ L, w8.heap.size = L := ⟨_, rfl⟩
    have hrow : w9.heap[L]? = some (.cells #[.string (bs ls), .string (bs lt)] 9 (0, 0)) := by rw [← hL, ← hw9]; exact al_new _ _
    have HR := Lib.hid (fun i (hi : i < 2) => show ∃ x, w9.cell? ⟨L, i, none⟩ = some (.string (bs x)) by
      have : i = 0 ∨ i = 1 := by omega
      rcases this with rfl | rfl
      · exact ⟨ls, by rw [cell_of_row _ _ _ _ _ _ hrow]; rfl⟩
      · exact ⟨lt, by rw [cell_of_row _ _ _ _ _ _ hrow]; rfl⟩)
    have K9 := Lib.hid (K8.out.trans hal)
    have E9 := Lib.hid (E8.out.kp hal (by simp))
    clear hs7 hk8 hT8 hal hrow
    go_wp2
    clear hw9
    go_loopw [12] (fun s12 wx => ∃ i : Nat, i ≤ 2 ∧ s12 = .int .i64 (i : Int) ∧ Kp [] w9 wx) (fun s12 _ => 2 - (intOf s12).toNat)
    case atStart => exact ⟨0, by omega, rfl, Kp.refl _ _⟩
    case round =>
      rename_i wr
      obtain ⟨i, hi, rfl, hkp⟩ := hrel
      have KP := Lib.hid hkp
      have EP := Lib.hid (E9.out.kp hkp (by simp))
      clear hkp
      by_cases hlt : i < 2
      · have hiz : (i : Int) < 2 := by omega
        have hwi : IntKind.i64.wrap ((i : Int) + 1) = ((i + 1 : Nat) : Int) := by rw [IntKind.wrap_i64]; omega
        obtain ⟨x, hx⟩ := HR.out i hlt
        have hxr := kp_cell KP.out hx
        have HPX := Lib.hid (parse_any EP.out x)
        have HXX := Lib.hid (fun W (hk : Kp [] w9 W) => kp_cell hk hx)
        clear hx
        go_wp2_with fail
        refine HPX.out.mono ?_
        rintro e wp ⟨v, rfl, hvp, htp, hkp⟩
        obtain ⟨pa, pn, rfl, -⟩ := hvp.form
        have KQ := Lib.hid (KP.out.trans hkp)
        have hal : Kp [] wp (wp.alloc (.cells #[.int .i64 (parseR x).kind, .string (bs (parseR x).id), .string (bs (parseR x).lab), .int .i64 (parseR x).slot, .int .i64 (parseR x).tot, .int .i64 (parseR x).lst, .slice pa (parseR x).inner.length pn] 24)) := (Kp.refl [] wp).alloc _
        unfold aggV
        rcases parse_ok x with ⟨h0, h1, h2⟩ | h0
        · have HFX := Lib.hid (format_any (parseR x) pa pn _ htp (kp_has hvp hal))
          rw [h1, h2] at HFX
          rw [h0]
          have hbx := al_new wp (.cells #[.int .i64 (parseR x).kind, .string (bs (parseR x).id), .string (bs (parseR x).lab), .int .i64 (parseR x).slot, .int .i64 (parseR x).tot, .int .i64 (parseR x).lst, .slice pa (parseR x).inner.length pn] 24)
          have KA := Lib.hid (KQ.out.trans hal)
          clear h0 h1 h2 hvp htp hkp hal hxr
          go_wp2_with fail
          refine HFX.out.mono ?_
          rintro e wf ⟨rfl, hkf⟩
          have KF := Lib.hid (KA.out.trans hkf)
          have hxf := HXX.out wf KF.out
          clear hkf hbx
          go_wp2
          exact ⟨⟨i + 1, by omega, rfl, KF.out⟩, by simp [intOf]; omega⟩
        · have KA := Lib.hid (KQ.out.trans hal)
          have h0z : (parseE x == 0) = false := beq_false_of_ne h0
          clear hvp htp hkp hal hxr
          go_wp2
          exact ⟨⟨i + 1, by omega, rfl, KA.out⟩, by simp [intOf]; omega⟩
      · have hie : i = 2 := by omega
        subst hie
        have HKN := Lib.hid (known_any EP.out)
        go_wp2_with fail
        refine HKN.out.mono ?_
        rintro e wg ⟨rfl, hkg⟩
        have KGG := Lib.hid ((K9.out.trans KP.out).trans hkg)
        clear hkg
        go_wp2
        go_ret
        exact ⟨rfl, KGG.out.below (Nat.le_refl _) (by simp)⟩
end Go.Proofs.YtoohnjlghjapnaaDoor
