/- Valid contents off the tape: the walk. -/
import Derived.Test.YtoohnjlghjapnaaDoorU
namespace Go.Proofs.YtoohnjlghjapnaaDoor
open Go.RowKit

set_option maxHeartbeats 4000000 in
set_option maxRecDepth 100000 in
theorem gen_any {d : Nat} (hd : d ≤ 5) (ih : ∀ d0, d0 < d → GenOK d0) {tb k : Nat} {w : World} (hT : Tape w tb k) (hk6 : k + tapeN d ≤ 1000000) : Calls Tryd.prog 9 #[.pointer (some ⟨tb, 0, none⟩), .int .i64 (d : Int)] w (GenPost tb k (tapeN d) d w) := by
  have htl := hT.lt
  have hkN : k ≤ 1000000 := by omega
  obtain ⟨w1, hw1⟩ : ∃ w1, w.alloc (.cells #[.int .i64 0, .string ⟨#[]⟩, .string ⟨#[]⟩, .int .i64 0, .int .i64 0, .int .i64 0, .slice none 0 0] 24) = w1 := ⟨_, rfl⟩
  have hk1 : Kp [] w w1 := by rw [← hw1]; exact (Kp.refl [] w).alloc _
  have hz1 : Zero7 w.heap.size w1 := by rw [← hw1]; exact al_new _ _
  have hs1 : w1.heap.size = w.heap.size + 1 := by rw [← hw1]; exact al_size _ _
  obtain ⟨A, hA⟩ : ∃ A, w.heap.size = A := ⟨_, rfl⟩
  rw [hA] at hz1 hs1 htl
  have K1 := Lib.hid hk1
  have Z1 := Lib.hid hz1
  have S1 := Lib.hid hs1
  have HA := Lib.hid hA
  have HN := Lib.hid (next_kp 6 (by omega) (by omega) hkN (hT.kp hk1 (by simp)))
  clear hk1 hz1 hs1 hT
  go_enter Tryd.func9, Tryd.ntmps9
  go_wp2_with fail
  subst hw1
  refine HN.out.mono ?_
  rintro e w2 ⟨r, hr, rfl, hT2, hk2⟩
  have T2 := Lib.hid hT2
  have K2 := Lib.hid ((K1.out.mono (by simp)).trans hk2)
  have Z2 := Lib.hid (Z1.out.kp hk2 (by simp; omega))
  obtain ⟨C, hC⟩ : ∃ C, w2.heap.size = C := ⟨_, rfl⟩
  have HC := Lib.hid hC
  have hCA : A + 1 ≤ C := by rw [← hC, ← S1.out]; exact hk2.size
  clear hT2 hk2
  by_cases hz : d = 0 ∨ r = 0
  · have hal : Kp [] w2 (w2.alloc (.cells #[.int .i64 0, .string ⟨#[]⟩, .string ⟨#[]⟩, .int .i64 0, .int .i64 0, .int .i64 0, .slice none 0 0] 24)) := (Kp.refl [] w2).alloc _
    have Z3 := Lib.hid (BoxV.kp Z2.out hal (by simp))
    have K3 := Lib.hid (K2.out.trans (hal.mono (by simp)))
    have T3 := Lib.hid (T2.out.kp hal (by simp))
    have HTN := Lib.hid (show 2 ≤ tapeN d by cases d <;> (unfold tapeN; omega))
    obtain ⟨d0, d1, d2, d3, d4, d5, d6⟩ := BoxV.cells Z3.out
    have g0 := BoxV.frozen Z3.out 0
    have g1 := BoxV.frozen Z3.out 1
    have g2 := BoxV.frozen Z3.out 2
    have g3 := BoxV.frozen Z3.out 3
    have g4 := BoxV.frozen Z3.out 4
    have g5 := BoxV.frozen Z3.out 5
    have g6 := BoxV.frozen Z3.out 6
    clear hal
    by_cases hd0 : d = 0
    · have hdz : (d : Int) ≤ 0 := by omega
      clear hz hd0
      go_wp2
      refine bodyPost_ret (res24p Tryd.results9 rfl (put7_box Z3.out _ _ _ _ _ _ _)) rfl ?_
      exact gen_end (c := con0) HA.out (CHas.nil _ _) (val0 _) T3.out (by have := HTN.out; omega) K3.out htl
    · have hdz : ¬ (d : Int) ≤ 0 := by omega
      have hr0 : r = 0 := by omega
      subst hr0
      clear hz hd0
      go_wp2
      refine bodyPost_ret (res24p Tryd.results9 rfl (put7_box Z3.out _ _ _ _ _ _ _)) rfl ?_
      exact gen_end (c := con0) HA.out (CHas.nil _ _) (val0 _) T3.out (by have := HTN.out; omega) K3.out htl
  · obtain ⟨d', rfl⟩ : ∃ d', d = d' + 1 := ⟨d - 1, by omega⟩
    have hr0 : r ≠ 0 := fun e => hz (.inr e)
    have hdz : ¬ ((d' + 1 : Nat) : Int) ≤ 0 := by omega
    have HTN := Lib.hid (show tapeN (d' + 1) = 10 + 3 * tapeN d' from rfl)
    have IH := Lib.hid (ih d' (by omega))
    clear hz ih
    by_cases r1 : r = 1
    · subst r1
      have hal : Kp [] w2 (w2.alloc (.cells #[.int .i64 1, .string ⟨#[]⟩, .string ⟨#[]⟩, .int .i64 0, .int .i64 0, .int .i64 0, .slice none 0 0] 24)) := (Kp.refl [] w2).alloc _
      have hbx : BoxV C (.int .i64 1) (.string ⟨#[]⟩) (.string ⟨#[]⟩) (.int .i64 0) (.int .i64 0) (.int .i64 0) (.slice none 0 0) (w2.alloc (.cells #[.int .i64 1, .string ⟨#[]⟩, .string ⟨#[]⟩, .int .i64 0, .int .i64 0, .int .i64 0, .slice none 0 0] 24)) := by rw [← hC]; exact al_new _ _
      have Z3 := Lib.hid (BoxV.kp Z2.out hal (by simp))
      have B3 := Lib.hid hbx
      have K3 := Lib.hid (K2.out.trans (hal.mono (by simp)))
      have HO := one_new (w := w2.alloc (.cells #[.int .i64 1, .string ⟨#[]⟩, .string ⟨#[]⟩, .int .i64 0, .int .i64 0, .int .i64 0, .slice none 0 0] 24)) ids (by decide) (by decide) (by have := HTN.out; omega) (T2.out.kp hal (by simp))
      rw [al_size, hC] at HO
      have HO := Lib.hid HO
      clear hal hbx
      go_wp2_with fail
      refine HO.out.mono ?_
      rintro e w4 ⟨i, hi, rfl, hT4, hk4⟩
      have hb4 := B3.out.kp hk4 (by simp; omega)
      have Z4 := Lib.hid (Z3.out.kp hk4 (by simp; omega))
      obtain ⟨c0, c1, c2, c3, c4, c5, c6⟩ := hb4.cells
      have f1 := hb4.frozen 1
      have hk5 : Kp [C] w4 (w4.setCell ⟨C, 1, none⟩ (.string (bs i))) := (Kp.refl _ w4).setCell (.inl (by simp)) _
      have B5 := Lib.hid (hb4.put1 (.string (bs i)))
      have Z5 := Lib.hid (BoxV.kp Z4.out hk5 (by simp; omega))
      have K5 := Lib.hid ((K3.out.trans hk4).up hk5 (by simp; have := HA.out; omega))
      have T5 := Lib.hid (hT4.kp hk5 (by simp; omega))
      have HI := Lib.hid hi
      obtain ⟨D, hD⟩ : ∃ D, w4.heap.size = D := ⟨_, rfl⟩
      have hCD : C + 1 ≤ D := by have := block_lt hb4; omega
      clear hb4 hT4 hk4 hk5 hi
      have HO2 := one_new (w := w4.setCell ⟨C, 1, none⟩ (.string (bs i))) labs (by decide) (by decide) (by have := HTN.out; omega) T5.out
      rw [show (w4.setCell ⟨C, 1, none⟩ (.string (bs i))).heap.size = D by simp [World.setCell, hD]] at HO2
      have HO2 := Lib.hid HO2
      go_wp2_with fail
      refine HO2.out.mono ?_
      rintro e w6 ⟨l, hl, rfl, hT6, hk6⟩
      have hb6 := B5.out.kp hk6 (by simp; omega)
      have hk7 : Kp [C] w6 (w6.setCell ⟨C, 2, none⟩ (.string (bs l))) := (Kp.refl _ w6).setCell (.inl (by simp)) _
      have B7 := Lib.hid (hb6.put2 (.string (bs l)))
      have Z7 := Lib.hid (BoxV.kp (Z5.out.kp hk6 (by simp; omega)) hk7 (by simp; omega))
      have K7 := Lib.hid ((K5.out.trans hk6).up hk7 (by simp; have := HA.out; omega))
      have T7 := Lib.hid (hT6.kp hk7 (by simp; omega))
      have HL := Lib.hid hl
      have hb6 := Lib.hid hb6
      clear hT6 hk6 hk7 hl c0 c1 c2 c3 c4 c5 c6 f1
      obtain ⟨c0, c1, c2, c3, c4, c5, c6⟩ := hb6.out.cells
      have f2 := hb6.out.frozen 2
      have hz7 := Z7.out
      obtain ⟨d0, d1, d2, d3, d4, d5, d6⟩ := BoxV.cells hz7
      have g0 := BoxV.frozen hz7 0
      have g1 := BoxV.frozen hz7 1
      have g2 := BoxV.frozen hz7 2
      have g3 := BoxV.frozen hz7 3
      have g4 := BoxV.frozen hz7 4
      have g5 := BoxV.frozen hz7 5
      have g6 := BoxV.frozen hz7 6
      go_wp2_with fail
      refine bodyPost_ret (res24p Tryd.results9 rfl (put7_box Z7.out _ _ _ _ _ _ _)) rfl ?_
      exact gen_end (c := .mk 1 i l 0 0 0 []) HA.out (CHas.nil _ _) (val_fs HI.out HL.out) T7.out (by have := HTN.out; omega) K7.out htl
    by_cases r2 : r = 2
    · subst r2
      have hal : Kp [] w2 (w2.alloc (.cells #[.int .i64 2, .string ⟨#[]⟩, .string ⟨#[]⟩, .int .i64 0, .int .i64 0, .int .i64 0, .slice none 0 0] 24)) := (Kp.refl [] w2).alloc _
      have hbx : BoxV C (.int .i64 2) (.string ⟨#[]⟩) (.string ⟨#[]⟩) (.int .i64 0) (.int .i64 0) (.int .i64 0) (.slice none 0 0) (w2.alloc (.cells #[.int .i64 2, .string ⟨#[]⟩, .string ⟨#[]⟩, .int .i64 0, .int .i64 0, .int .i64 0, .slice none 0 0] 24)) := by rw [← hC]; exact al_new _ _
      have Z3 := Lib.hid (BoxV.kp Z2.out hal (by simp))
      have B3 := Lib.hid hbx
      have K3 := Lib.hid (K2.out.trans (hal.mono (by simp)))
      have HO := one_new (w := w2.alloc (.cells #[.int .i64 2, .string ⟨#[]⟩, .string ⟨#[]⟩, .int .i64 0, .int .i64 0, .int .i64 0, .slice none 0 0] 24)) ids (by decide) (by decide) (by have := HTN.out; omega) (T2.out.kp hal (by simp))
      rw [al_size, hC] at HO
      have HO := Lib.hid HO
      clear hal hbx
      go_wp2_with fail
      refine HO.out.mono ?_
      rintro e w4 ⟨i, hi, rfl, hT4, hk4⟩
      have hb4 := B3.out.kp hk4 (by simp; omega)
      have Z4 := Lib.hid (Z3.out.kp hk4 (by simp; omega))
      obtain ⟨c0, c1, c2, c3, c4, c5, c6⟩ := hb4.cells
      have f1 := hb4.frozen 1
      have hk5 : Kp [C] w4 (w4.setCell ⟨C, 1, none⟩ (.string (bs i))) := (Kp.refl _ w4).setCell (.inl (by simp)) _
      have B5 := Lib.hid (hb4.put1 (.string (bs i)))
      have Z5 := Lib.hid (BoxV.kp Z4.out hk5 (by simp; omega))
      have K5 := Lib.hid ((K3.out.trans hk4).up hk5 (by simp; have := HA.out; omega))
      have T5 := Lib.hid (hT4.kp hk5 (by simp; omega))
      have HI := Lib.hid hi
      obtain ⟨D, hD⟩ : ∃ D, w4.heap.size = D := ⟨_, rfl⟩
      have hCD : C + 1 ≤ D := by have := block_lt hb4; omega
      clear hb4 hT4 hk4 hk5 hi
      have HO2 := Lib.hid (next_kp 12 (by omega) (by omega) (by have := HTN.out; omega) T5.out)
      go_wp2_with fail
      refine HO2.out.mono ?_
      rintro e w6 ⟨q, hq, rfl, hT6, hk6⟩
      obtain ⟨tt, htt⟩ : ∃ tt, q + 1 = tt := ⟨_, rfl⟩
      have hwt : (1 : Int) + (q : Int) = (tt : Int) := by omega
      have hwt2 : IntKind.i64.wrap (tt : Int) = (tt : Int) := by rw [IntKind.wrap_i64]; omega
      have ht1 : 1 ≤ tt := by omega
      have ht3 : tt ≤ 12 := by omega
      have hb6 := B5.out.kp hk6 (by simp; omega)
      have hk7 : Kp [C] w6 (w6.setCell ⟨C, 4, none⟩ (.int .i64 (tt : Int))) := (Kp.refl _ w6).setCell (.inl (by simp)) _
      have B7 := Lib.hid (hb6.put4 (.int .i64 (tt : Int)))
      have Z7 := Lib.hid (BoxV.kp (Z5.out.kp hk6 (by simp; omega)) hk7 (by simp; omega))
      have K7 := Lib.hid ((K5.out.trans hk6).up hk7 (by simp; have := HA.out; omega))
      have T7 := Lib.hid (hT6.kp hk7 (by simp; omega))
      clear hT6 hk6 hk7 htt hq c0 c1 c2 c3 c4 c5 c6 f1
      obtain ⟨c0, c1, c2, c3, c4, c5, c6⟩ := hb6.cells
      have f4 := hb6.frozen 4
      have HOa := Lib.hid (next_kp (w := (w6.setCell ⟨C, 4, none⟩ (.int .i64 (tt : Int))).drew) (tb := tb) (k := k + 1 + 1 + 1) tt ht1 (by omega) (by have := HTN.out; omega) (by exact T7.out))
      clear hb6
      go_wp2_with fail
      go_region_law (first
        | (go_simp; refine HOa.out.mono ?_; rintro e wa ⟨qa, hqa, rfl, hTa, hka⟩; have RR := next_ready htl hCA B7.out Z7.out K7.out (kp_undrew hka); have Ba := Lib.hid RR.1; have Za := Lib.hid RR.2.1; have Ka := Lib.hid RR.2.2; have Ta := Lib.hid hTa; have ca4 := Ba.out.cells.2.2.2.2.1; have HOb := Lib.hid (next_kp tt ht1 (by omega) (by have := HTN.out; omega) Ta.out); have hws : (1 : Int) + (qa : Int) = ((qa + 1 : Nat) : Int) := (by omega); have hws2 : IntKind.i64.wrap ((qa + 1 : Nat) : Int) = ((qa + 1 : Nat) : Int) := (by rw [IntKind.wrap_i64]; omega); clear RR hTa hka; dsimp only)
        | (go_simp; (with_reducible refine HOb.out.mono ?_); rintro e wb ⟨qb, hqb, rfl, hTb, hkb⟩; have RR2 := next_ready htl hCA Ba.out Za.out Ka.out hkb; have Bb := Lib.hid RR2.1; have Zb := Lib.hid RR2.2.1; have Kb := Lib.hid RR2.2.2; have Tb := Lib.hid hTb; obtain ⟨b0, b1, b2, b3, b4, b5, b6⟩ := Bb.out.cells; have y3 := Bb.out.frozen 3; have y5 := Bb.out.frozen 5; have hwe : (1 : Int) + (qb : Int) = ((qb + 1 : Nat) : Int) := (by omega); have hwe2 : IntKind.i64.wrap ((qb + 1 : Nat) : Int) = ((qb + 1 : Nat) : Int) := (by rw [IntKind.wrap_i64]; omega); clear RR2 hTb hkb; dsimp only))
      all_goals
        have hkc : Kp [C] wb ((wb.setCell ⟨C, 3, none⟩ (.int .i64 ((qa + 1 : Nat) : Int))).setCell ⟨C, 5, none⟩ (.int .i64 ((qb + 1 : Nat) : Int))) := ((Kp.refl _ wb).setCell (.inl (by simp)) _).setCell (.inl (by simp)) _
        have Bc := Lib.hid ((Bb.out.put3 (.int .i64 ((qa + 1 : Nat) : Int))).put5 (.int .i64 ((qb + 1 : Nat) : Int)))
        have Zc := Lib.hid (BoxV.kp Zb.out hkc (by simp; omega))
        have Kc := Lib.hid (Kb.out.up hkc (by simp; have := HA.out; omega))
        have Tc := Lib.hid (Tb.out.kp hkc (by simp; omega))
        have hs2 : qa + 1 ≤ tt := by omega
        have he2 : qb + 1 ≤ tt := by omega
        have HQ1 := Lib.hid (show IntKind.i64.wrap ((qa : Int) + 1) = ((qa + 1 : Nat) : Int) by rw [IntKind.wrap_i64]; omega)
        have HQ2 := Lib.hid (show IntKind.i64.wrap ((qb : Int) + 1) = ((qb + 1 : Nat) : Int) by rw [IntKind.wrap_i64]; omega)
        clear hkc hqa hqb hws hws2 hwe hwe2 b0 b1 b2 b3 b4 b5 b6 y3 y5 ca4 c0 c1 c2 c3 c4 c5 c6 f4 Ba Za Ka Ta Bb Zb Kb Tb HOa HOb
        have HG : Hid (GLoop w tb A C d' (k + 5) 2 i ((qa + 1 : Nat) : Int) (tt : Int) ((qb + 1 : Nat) : Int) 0 ((wb.setCell ⟨C, 3, none⟩ (.int .i64 ((qa + 1 : Nat) : Int))).setCell ⟨C, 5, none⟩ (.int .i64 ((qb + 1 : Nat) : Int)))) := Lib.hid ⟨[], .slice none 0 0, _, rfl, fun p hp => (by cases hp), ⟨World.ownsRow_nil _ _ _ _, fun p hp => (by cases hp)⟩, Bc.out, Zc.out, Tc.out, by omega, Kc.out⟩
        have HH := Lib.hid (fun (l : List Con) (hl : l.length = 1) => head2 (i := i) (s := ((qa + 1 : Nat) : Int)) (t := (tt : Int)) (e := ((qb + 1 : Nat) : Int)) l hl (by omega) (by omega) (by omega) (by omega) (by omega))
        go_wp2_with fail
        go_loopw [8] (fun s8 wx => ∃ m : Nat, m ≤ 1 ∧ s8 = .int .i64 (m : Int) ∧ GLoop w tb A C d' (k + 5) 2 i ((qa + 1 : Nat) : Int) (tt : Int) ((qb + 1 : Nat) : Int) m wx) (fun s8 _ => 1 - (intOf s8).toNat)
        case atStart => exact ⟨0, by omega, rfl, by first | exact HG.out | (rw [HQ1.out, HQ2.out]; exact HG.out)⟩
        case round =>
          obtain ⟨m, hm, rfl, L, v, kt, hL, hLv, hLo, hBx, hZr, hTp, hkt, hKp⟩ := hrel
          subst hL
          obtain ⟨sa, sc, rfl⟩ := hLo.form
          have HLO := Lib.hid hLo
          have HBX := Lib.hid hBx
          have HZR := Lib.hid hZr
          have HTP := Lib.hid hTp
          have HKP := Lib.hid hKp
          have HLV := Lib.hid hLv
          obtain ⟨c0, c1, c2, c3, c4, c5, c6⟩ := hBx.cells
          have HKT := Lib.hid hkt
          by_cases hlt : L.length < 1
          · have hlti : (L.length : Int) < ((1 : Nat) : Int) := by omega
            have hwi : IntKind.i64.wrap ((L.length : Int) + 1) = ((L.length + 1 : Nat) : Int) := by rw [IntKind.wrap_i64]; omega
            have hz2 : IntKind.i64.wrap (d' : Int) = (d' : Int) := by rw [IntKind.wrap_i64]; omega
            have hmt : L.length * tapeN d' + tapeN d' ≤ 3 * tapeN d' := by have : (L.length + 1) * tapeN d' ≤ 3 * tapeN d' := Nat.mul_le_mul_right _ (by omega); rw [Nat.succ_mul] at this; exact this
            have HIH := Lib.hid (IH.out tb kt (wr.drew) hTp (by have := HTN.out; omega))
            clear hLo hBx hZr hTp hKp hLv hkt
            go_wp2_with fail
            have c6d : wr.drew.cell? ⟨C, 6, none⟩ = some (.slice sa L.length sc) := c6
            go_region_law (first
              | (go_simp; (with_reducible refine HIH.out.mono ?_); rintro e wb ⟨c, u, k', rfl, hval, hu, hT', hk', hkb⟩; obtain ⟨ua, un, rfl, -⟩ := hu.form; have RR := loop_call (.cells #[.int .i64 c.kind, .string (bs c.id), .string (bs c.lab), .int .i64 c.slot, .int .i64 c.tot, .int .i64 c.lst, .slice ua c.inner.length un] 24) htl hCA HLO.out HBX.out HZR.out HKP.out hkb hT' hu; have RA := Lib.hid RR.1; have RB := Lib.hid RR.2; have ca6 := RR.1.box.cells.2.2.2.2.2.2; have cb6 := RR.2.box.cells.2.2.2.2.2.2; have HVL := Lib.hid hval; have HK' := Lib.hid hk'; clear RR hval hu hT' hk' hkb; dsimp only)
              | (refine step_append_con (by rfl) _ _ (by rfl) (C + 1) (.slice sa L.length sc) L (by rfl) (by exact RB.out.own) c (.slice ua c.inner.length un) (by rfl) wb.heap.size (by rfl) (by exact cells_new7 wb _ 24) (by exact tx_of_val HVL.out) (by exact RB.out.has) (by omega) (by exact RB.out.size) ?_; intro v8 w8 hown8 hgrow8; obtain ⟨va8, vn8, vc8, rfl⟩ := own_form hown8; obtain ⟨hb8, hfin8⟩ := loop_app (v' := .slice va8 vn8 vc8) htl hCA RB.out HA.out hgrow8; have HB8 := Lib.hid hb8; have H8 := Lib.hid (hfin8 d' (k + 5) L.length rfl HLV.out HVL.out (by have := HK'.out; have := HKT.out; rw [Nat.succ_mul]; omega) hown8); obtain ⟨e0, e1, e2, e3, e4, e5, e6⟩ := hb8.cells; have f8 := hb8.frozen 6; clear hb8 hfin8 hown8 hgrow8))
            all_goals
              have H9 := Lib.hid H8.out
              clear RA RB ca6 cb6 HVL HK' HB8 H8 e0 e1 e2 e3 e4 e5 e6 f8 HIH c6d c0 c1 c2 c3 c4 c5 c6
              go_wp2
              exact ⟨⟨L.length + 1, by omega, rfl, H9.out⟩, by simp [intOf]; omega⟩
          · have hlti : ¬ ((L.length : Int) < ((1 : Nat) : Int)) := by omega
            have hLn : L.length = 1 := by omega
            have HLn := Lib.hid hLn
            have hmt : L.length * tapeN d' ≤ 3 * tapeN d' := Nat.mul_le_mul_right _ (by omega)
            have HMT := Lib.hid hmt
            have HFI := Lib.hid (gen_end (tb := tb) (k := k) (N := tapeN (d' + 1)) (d := d' + 1) (c := .mk 2 i [] ((qa + 1 : Nat) : Int) (tt : Int) ((qb + 1 : Nat) : Int) (L.map Prod.fst)) (v := .slice sa L.length sc) HA.out (hLo.has.mono fun b _ hq => by omega) (val_in HI.out rfl hLv (fun l hl => HH.out l (hl.trans hLn))) hTp (by have := HTN.out; omega) hKp htl)
            have HZR2 := Lib.hid hZr
            clear hLo hBx hTp hKp hLv hkt hLn hmt
            obtain ⟨d0, d1, d2, d3, d4, d5, d6⟩ := BoxV.cells hZr
            have g0 := BoxV.frozen hZr 0
            have g1 := BoxV.frozen hZr 1
            have g2 := BoxV.frozen hZr 2
            have g3 := BoxV.frozen hZr 3
            have g4 := BoxV.frozen hZr 4
            have g5 := BoxV.frozen hZr 5
            have g6 := BoxV.frozen hZr 6
            clear hZr
            go_wp2
            exact bodyPost_ret (res24p Tryd.results9 rfl (put7_box HZR2.out _ _ _ _ _ _ _)) rfl HFI.out
    by_cases r3 : r = 3
    · subst r3
      have hal : Kp [] w2 (w2.alloc (.cells #[.int .i64 3, .string ⟨#[]⟩, .string ⟨#[]⟩, .int .i64 0, .int .i64 0, .int .i64 0, .slice none 0 0] 24)) := (Kp.refl [] w2).alloc _
      have hbx : BoxV C (.int .i64 3) (.string ⟨#[]⟩) (.string ⟨#[]⟩) (.int .i64 0) (.int .i64 0) (.int .i64 0) (.slice none 0 0) (w2.alloc (.cells #[.int .i64 3, .string ⟨#[]⟩, .string ⟨#[]⟩, .int .i64 0, .int .i64 0, .int .i64 0, .slice none 0 0] 24)) := by rw [← hC]; exact al_new _ _
      have Z3 := Lib.hid (BoxV.kp Z2.out hal (by simp))
      have B3 := Lib.hid hbx
      have K3 := Lib.hid (K2.out.trans (hal.mono (by simp)))
      have HO := one_new (w := w2.alloc (.cells #[.int .i64 3, .string ⟨#[]⟩, .string ⟨#[]⟩, .int .i64 0, .int .i64 0, .int .i64 0, .slice none 0 0] 24)) ids (by decide) (by decide) (by have := HTN.out; omega) (T2.out.kp hal (by simp))
      rw [al_size, hC] at HO
      have HO := Lib.hid HO
      clear hal hbx
      go_wp2_with fail
      refine HO.out.mono ?_
      rintro e w4 ⟨i, hi, rfl, hT4, hk4⟩
      have hb4 := B3.out.kp hk4 (by simp; omega)
      have Z4 := Lib.hid (Z3.out.kp hk4 (by simp; omega))
      obtain ⟨c0, c1, c2, c3, c4, c5, c6⟩ := hb4.cells
      have f1 := hb4.frozen 1
      have hk5 : Kp [C] w4 (w4.setCell ⟨C, 1, none⟩ (.string (bs i))) := (Kp.refl _ w4).setCell (.inl (by simp)) _
      have B5 := Lib.hid (hb4.put1 (.string (bs i)))
      have Z5 := Lib.hid (BoxV.kp Z4.out hk5 (by simp; omega))
      have K5 := Lib.hid ((K3.out.trans hk4).up hk5 (by simp; have := HA.out; omega))
      have T5 := Lib.hid (hT4.kp hk5 (by simp; omega))
      have HI := Lib.hid hi
      obtain ⟨D, hD⟩ : ∃ D, w4.heap.size = D := ⟨_, rfl⟩
      have hCD : C + 1 ≤ D := by have := block_lt hb4; omega
      clear hb4 hT4 hk4 hk5 hi
      have HG : Hid (GLoop w tb A C d' (k + 2) 3 i 0 0 0 0 (w4.setCell ⟨C, 1, none⟩ (.string (bs i)))) := Lib.hid ⟨[], .slice none 0 0, _, rfl, fun p hp => (by cases hp), ⟨World.ownsRow_nil _ _ _ _, fun p hp => (by cases hp)⟩, B5.out, Z5.out, T5.out, by omega, K5.out⟩
      have HH := Lib.hid (fun (l : List Con) (hl : l.length = 1) => head3 (i := i) l hl)
      go_wp2_with fail
      clear c0 c1 c2 c3 c4 c5 c6 f1
      go_loopw [8] (fun s8 wx => ∃ m : Nat, m ≤ 1 ∧ s8 = .int .i64 (m : Int) ∧ GLoop w tb A C d' (k + 2) 3 i 0 0 0 m wx) (fun s8 _ => 1 - (intOf s8).toNat)
      case atStart => exact ⟨0, by omega, rfl, by first | exact HG.out | (rw [HQ1.out, HQ2.out]; exact HG.out)⟩
      case round =>
        obtain ⟨m, hm, rfl, L, v, kt, hL, hLv, hLo, hBx, hZr, hTp, hkt, hKp⟩ := hrel
        subst hL
        obtain ⟨sa, sc, rfl⟩ := hLo.form
        have HLO := Lib.hid hLo
        have HBX := Lib.hid hBx
        have HZR := Lib.hid hZr
        have HTP := Lib.hid hTp
        have HKP := Lib.hid hKp
        have HLV := Lib.hid hLv
        obtain ⟨c0, c1, c2, c3, c4, c5, c6⟩ := hBx.cells
        have HKT := Lib.hid hkt
        by_cases hlt : L.length < 1
        · have hlti : (L.length : Int) < ((1 : Nat) : Int) := by omega
          have hwi : IntKind.i64.wrap ((L.length : Int) + 1) = ((L.length + 1 : Nat) : Int) := by rw [IntKind.wrap_i64]; omega
          have hz2 : IntKind.i64.wrap (d' : Int) = (d' : Int) := by rw [IntKind.wrap_i64]; omega
          have hmt : L.length * tapeN d' + tapeN d' ≤ 3 * tapeN d' := by have : (L.length + 1) * tapeN d' ≤ 3 * tapeN d' := Nat.mul_le_mul_right _ (by omega); rw [Nat.succ_mul] at this; exact this
          have HIH := Lib.hid (IH.out tb kt (wr.drew) hTp (by have := HTN.out; omega))
          clear hLo hBx hZr hTp hKp hLv hkt
          go_wp2_with fail
          have c6d : wr.drew.cell? ⟨C, 6, none⟩ = some (.slice sa L.length sc) := c6
          go_region_law (first
            | (go_simp; (with_reducible refine HIH.out.mono ?_); rintro e wb ⟨c, u, k', rfl, hval, hu, hT', hk', hkb⟩; obtain ⟨ua, un, rfl, -⟩ := hu.form; have RR := loop_call (.cells #[.int .i64 c.kind, .string (bs c.id), .string (bs c.lab), .int .i64 c.slot, .int .i64 c.tot, .int .i64 c.lst, .slice ua c.inner.length un] 24) htl hCA HLO.out HBX.out HZR.out HKP.out hkb hT' hu; have RA := Lib.hid RR.1; have RB := Lib.hid RR.2; have ca6 := RR.1.box.cells.2.2.2.2.2.2; have cb6 := RR.2.box.cells.2.2.2.2.2.2; have HVL := Lib.hid hval; have HK' := Lib.hid hk'; clear RR hval hu hT' hk' hkb; dsimp only)
            | (refine step_append_con (by rfl) _ _ (by rfl) (C + 1) (.slice sa L.length sc) L (by rfl) (by exact RB.out.own) c (.slice ua c.inner.length un) (by rfl) wb.heap.size (by rfl) (by exact cells_new7 wb _ 24) (by exact tx_of_val HVL.out) (by exact RB.out.has) (by omega) (by exact RB.out.size) ?_; intro v8 w8 hown8 hgrow8; obtain ⟨va8, vn8, vc8, rfl⟩ := own_form hown8; obtain ⟨hb8, hfin8⟩ := loop_app (v' := .slice va8 vn8 vc8) htl hCA RB.out HA.out hgrow8; have HB8 := Lib.hid hb8; have H8 := Lib.hid (hfin8 d' (k + 2) L.length rfl HLV.out HVL.out (by have := HK'.out; have := HKT.out; rw [Nat.succ_mul]; omega) hown8); obtain ⟨e0, e1, e2, e3, e4, e5, e6⟩ := hb8.cells; have f8 := hb8.frozen 6; clear hb8 hfin8 hown8 hgrow8))
          all_goals
            have H9 := Lib.hid H8.out
            clear RA RB ca6 cb6 HVL HK' HB8 H8 e0 e1 e2 e3 e4 e5 e6 f8 HIH c6d c0 c1 c2 c3 c4 c5 c6
            go_wp2
            exact ⟨⟨L.length + 1, by omega, rfl, H9.out⟩, by simp [intOf]; omega⟩
        · have hlti : ¬ ((L.length : Int) < ((1 : Nat) : Int)) := by omega
          have hLn : L.length = 1 := by omega
          have HLn := Lib.hid hLn
          have hmt : L.length * tapeN d' ≤ 3 * tapeN d' := Nat.mul_le_mul_right _ (by omega)
          have HMT := Lib.hid hmt
          have HFI := Lib.hid (gen_end (tb := tb) (k := k) (N := tapeN (d' + 1)) (d := d' + 1) (c := .mk 3 i [] 0 0 0 (L.map Prod.fst)) (v := .slice sa L.length sc) HA.out (hLo.has.mono fun b _ hq => by omega) (val_in HI.out rfl hLv (fun l hl => HH.out l (hl.trans hLn))) hTp (by have := HTN.out; omega) hKp htl)
          have HZR2 := Lib.hid hZr
          clear hLo hBx hTp hKp hLv hkt hLn hmt
          obtain ⟨d0, d1, d2, d3, d4, d5, d6⟩ := BoxV.cells hZr
          have g0 := BoxV.frozen hZr 0
          have g1 := BoxV.frozen hZr 1
          have g2 := BoxV.frozen hZr 2
          have g3 := BoxV.frozen hZr 3
          have g4 := BoxV.frozen hZr 4
          have g5 := BoxV.frozen hZr 5
          have g6 := BoxV.frozen hZr 6
          clear hZr
          go_wp2
          exact bodyPost_ret (res24p Tryd.results9 rfl (put7_box HZR2.out _ _ _ _ _ _ _)) rfl HFI.out
    by_cases r4 : r = 4
    · subst r4
      have hal : Kp [] w2 (w2.alloc (.cells #[.int .i64 4, .string ⟨#[]⟩, .string ⟨#[]⟩, .int .i64 0, .int .i64 0, .int .i64 0, .slice none 0 0] 24)) := (Kp.refl [] w2).alloc _
      have hbx : BoxV C (.int .i64 4) (.string ⟨#[]⟩) (.string ⟨#[]⟩) (.int .i64 0) (.int .i64 0) (.int .i64 0) (.slice none 0 0) (w2.alloc (.cells #[.int .i64 4, .string ⟨#[]⟩, .string ⟨#[]⟩, .int .i64 0, .int .i64 0, .int .i64 0, .slice none 0 0] 24)) := by rw [← hC]; exact al_new _ _
      have Z3 := Lib.hid (BoxV.kp Z2.out hal (by simp))
      have B3 := Lib.hid hbx
      have K3 := Lib.hid (K2.out.trans (hal.mono (by simp)))
      have HO := one_new (w := w2.alloc (.cells #[.int .i64 4, .string ⟨#[]⟩, .string ⟨#[]⟩, .int .i64 0, .int .i64 0, .int .i64 0, .slice none 0 0] 24)) ids (by decide) (by decide) (by have := HTN.out; omega) (T2.out.kp hal (by simp))
      rw [al_size, hC] at HO
      have HO := Lib.hid HO
      clear hal hbx
      go_wp2_with fail
      refine HO.out.mono ?_
      rintro e w4 ⟨i, hi, rfl, hT4, hk4⟩
      have hb4 := B3.out.kp hk4 (by simp; omega)
      have Z4 := Lib.hid (Z3.out.kp hk4 (by simp; omega))
      obtain ⟨c0, c1, c2, c3, c4, c5, c6⟩ := hb4.cells
      have f1 := hb4.frozen 1
      have hk5 : Kp [C] w4 (w4.setCell ⟨C, 1, none⟩ (.string (bs i))) := (Kp.refl _ w4).setCell (.inl (by simp)) _
      have B5 := Lib.hid (hb4.put1 (.string (bs i)))
      have Z5 := Lib.hid (BoxV.kp Z4.out hk5 (by simp; omega))
      have K5 := Lib.hid ((K3.out.trans hk4).up hk5 (by simp; have := HA.out; omega))
      have T5 := Lib.hid (hT4.kp hk5 (by simp; omega))
      have HI := Lib.hid hi
      obtain ⟨D, hD⟩ : ∃ D, w4.heap.size = D := ⟨_, rfl⟩
      have hCD : C + 1 ≤ D := by have := block_lt hb4; omega
      clear hb4 hT4 hk4 hk5 hi
      have HO2 := Lib.hid (next_kp 3 (by omega) (by omega) (by have := HTN.out; omega) T5.out)
      go_wp2_with fail
      refine HO2.out.mono ?_
      rintro e w6 ⟨q, hq, rfl, hT6, hk6⟩
      obtain ⟨tt, htt⟩ : ∃ tt, q + 1 = tt := ⟨_, rfl⟩
      have hwt : (1 : Int) + (q : Int) = (tt : Int) := by omega
      have hwt2 : IntKind.i64.wrap (tt : Int) = (tt : Int) := by rw [IntKind.wrap_i64]; omega
      have ht1 : 1 ≤ tt := by omega
      have ht3 : tt ≤ 3 := by omega
      have hb6 := B5.out.kp hk6 (by simp; omega)
      have hk7 : Kp [C] w6 (w6.setCell ⟨C, 4, none⟩ (.int .i64 (tt : Int))) := (Kp.refl _ w6).setCell (.inl (by simp)) _
      have B7 := Lib.hid (hb6.put4 (.int .i64 (tt : Int)))
      have Z7 := Lib.hid (BoxV.kp (Z5.out.kp hk6 (by simp; omega)) hk7 (by simp; omega))
      have K7 := Lib.hid ((K5.out.trans hk6).up hk7 (by simp; have := HA.out; omega))
      have T7 := Lib.hid (hT6.kp hk7 (by simp; omega))
      have HO3 := Lib.hid (next_kp tt ht1 (by omega) (by have := HTN.out; omega) T7.out)
      clear hT6 hk6 hk7 htt hq c0 c1 c2 c3 c4 c5 c6 f1
      obtain ⟨c0, c1, c2, c3, c4, c5, c6⟩ := hb6.cells
      have f4 := hb6.frozen 4
      clear hb6
      go_wp2_with fail
      refine HO3.out.mono ?_
      rintro e w8 ⟨q8, hq8, rfl, hT8, hk8⟩
      obtain ⟨ss, hss⟩ : ∃ ss, q8 + 1 = ss := ⟨_, rfl⟩
      have hws : (1 : Int) + (q8 : Int) = (ss : Int) := by omega
      have hws2 : IntKind.i64.wrap (ss : Int) = (ss : Int) := by rw [IntKind.wrap_i64]; omega
      have hs1 : 1 ≤ ss := by omega
      have hs2 : ss ≤ tt := by omega
      have hb8 := B7.out.kp hk8 (by simp; omega)
      have hk9 : Kp [C] w8 (w8.setCell ⟨C, 3, none⟩ (.int .i64 (ss : Int))) := (Kp.refl _ w8).setCell (.inl (by simp)) _
      have B9 := Lib.hid (hb8.put3 (.int .i64 (ss : Int)))
      have Z9 := Lib.hid (BoxV.kp (BoxV.kp Z7.out hk8 (by simp; omega)) hk9 (by simp; omega))
      have K9 := Lib.hid ((K7.out.trans hk8).up hk9 (by simp; have := HA.out; omega))
      have T9 := Lib.hid (hT8.kp hk9 (by simp; omega))
      have HO4 := Lib.hid (next_kp 3 (by omega) (by omega) (by have := HTN.out; omega) T9.out)
      clear hT8 hk8 hk9 hss hq8 hwt hwt2 c0 c1 c2 c3 c4 c5 c6 f4
      obtain ⟨c0, c1, c2, c3, c4, c5, c6⟩ := hb8.cells
      have f3 := hb8.frozen 3
      clear hb8
      go_wp2_with fail
      refine HO4.out.mono ?_
      rintro e wa ⟨qa, hqa, rfl, hTa, hka⟩
      obtain ⟨nn, hnn⟩ : ∃ nn, qa + 1 = nn := ⟨_, rfl⟩
      have hwn : (1 : Int) + (qa : Int) = (nn : Int) := by omega
      have hwn2 : IntKind.i64.wrap (nn : Int) = (nn : Int) := by rw [IntKind.wrap_i64]; omega
      have hn1 : 1 ≤ nn := by omega
      have hn3 : nn ≤ 3 := by omega
      have Ba := Lib.hid (B9.out.kp hka (by simp; omega))
      have Za := Lib.hid (BoxV.kp Z9.out hka (by simp; omega))
      have Ka := Lib.hid (K9.out.trans hka)
      have Ta := Lib.hid hTa
      clear hTa hka hnn hqa hws hws2 c0 c1 c2 c3 c4 c5 c6 f3
      have HG : Hid (GLoop w tb A C d' (k + 5) 4 i (ss : Int) (tt : Int) 0 0 (wa)) := Lib.hid ⟨[], .slice none 0 0, _, rfl, fun p hp => (by cases hp), ⟨World.ownsRow_nil _ _ _ _, fun p hp => (by cases hp)⟩, Ba.out, Za.out, Ta.out, by omega, Ka.out⟩
      have HH := Lib.hid (fun (l : List Con) (hl : l.length = nn) => head4 (i := i) (s := (ss : Int)) (t := (tt : Int)) l (by omega) (by omega) (by omega) (by omega) (by omega))
      go_wp2_with fail
      go_loopw [8] (fun s8 wx => ∃ m : Nat, m ≤ nn ∧ s8 = .int .i64 (m : Int) ∧ GLoop w tb A C d' (k + 5) 4 i (ss : Int) (tt : Int) 0 m wx) (fun s8 _ => nn - (intOf s8).toNat)
      case atStart => exact ⟨0, by omega, rfl, by first | exact HG.out | (rw [HQ1.out, HQ2.out]; exact HG.out)⟩
      case round =>
        obtain ⟨m, hm, rfl, L, v, kt, hL, hLv, hLo, hBx, hZr, hTp, hkt, hKp⟩ := hrel
        subst hL
        obtain ⟨sa, sc, rfl⟩ := hLo.form
        have HLO := Lib.hid hLo
        have HBX := Lib.hid hBx
        have HZR := Lib.hid hZr
        have HTP := Lib.hid hTp
        have HKP := Lib.hid hKp
        have HLV := Lib.hid hLv
        obtain ⟨c0, c1, c2, c3, c4, c5, c6⟩ := hBx.cells
        have HKT := Lib.hid hkt
        by_cases hlt : L.length < nn
        · have hlti : (L.length : Int) < ((nn : Nat) : Int) := by omega
          have hwi : IntKind.i64.wrap ((L.length : Int) + 1) = ((L.length + 1 : Nat) : Int) := by rw [IntKind.wrap_i64]; omega
          have hz2 : IntKind.i64.wrap (d' : Int) = (d' : Int) := by rw [IntKind.wrap_i64]; omega
          have hmt : L.length * tapeN d' + tapeN d' ≤ 3 * tapeN d' := by have : (L.length + 1) * tapeN d' ≤ 3 * tapeN d' := Nat.mul_le_mul_right _ (by omega); rw [Nat.succ_mul] at this; exact this
          have HIH := Lib.hid (IH.out tb kt (wr.drew) hTp (by have := HTN.out; omega))
          clear hLo hBx hZr hTp hKp hLv hkt
          go_wp2_with fail
          have c6d : wr.drew.cell? ⟨C, 6, none⟩ = some (.slice sa L.length sc) := c6
          go_region_law (first
            | (go_simp; (with_reducible refine HIH.out.mono ?_); rintro e wb ⟨c, u, k', rfl, hval, hu, hT', hk', hkb⟩; obtain ⟨ua, un, rfl, -⟩ := hu.form; have RR := loop_call (.cells #[.int .i64 c.kind, .string (bs c.id), .string (bs c.lab), .int .i64 c.slot, .int .i64 c.tot, .int .i64 c.lst, .slice ua c.inner.length un] 24) htl hCA HLO.out HBX.out HZR.out HKP.out hkb hT' hu; have RA := Lib.hid RR.1; have RB := Lib.hid RR.2; have ca6 := RR.1.box.cells.2.2.2.2.2.2; have cb6 := RR.2.box.cells.2.2.2.2.2.2; have HVL := Lib.hid hval; have HK' := Lib.hid hk'; clear RR hval hu hT' hk' hkb; dsimp only)
            | (refine step_append_con (by rfl) _ _ (by rfl) (C + 1) (.slice sa L.length sc) L (by rfl) (by exact RB.out.own) c (.slice ua c.inner.length un) (by rfl) wb.heap.size (by rfl) (by exact cells_new7 wb _ 24) (by exact tx_of_val HVL.out) (by exact RB.out.has) (by omega) (by exact RB.out.size) ?_; intro v8 w8 hown8 hgrow8; obtain ⟨va8, vn8, vc8, rfl⟩ := own_form hown8; obtain ⟨hb8, hfin8⟩ := loop_app (v' := .slice va8 vn8 vc8) htl hCA RB.out HA.out hgrow8; have HB8 := Lib.hid hb8; have H8 := Lib.hid (hfin8 d' (k + 5) L.length rfl HLV.out HVL.out (by have := HK'.out; have := HKT.out; rw [Nat.succ_mul]; omega) hown8); obtain ⟨e0, e1, e2, e3, e4, e5, e6⟩ := hb8.cells; have f8 := hb8.frozen 6; clear hb8 hfin8 hown8 hgrow8))
          all_goals
            have H9 := Lib.hid H8.out
            clear RA RB ca6 cb6 HVL HK' HB8 H8 e0 e1 e2 e3 e4 e5 e6 f8 HIH c6d c0 c1 c2 c3 c4 c5 c6
            go_wp2
            exact ⟨⟨L.length + 1, by omega, rfl, H9.out⟩, by simp [intOf]; omega⟩
        · have hlti : ¬ ((L.length : Int) < ((nn : Nat) : Int)) := by omega
          have hLn : L.length = nn := by omega
          have HLn := Lib.hid hLn
          have hmt : L.length * tapeN d' ≤ 3 * tapeN d' := Nat.mul_le_mul_right _ (by omega)
          have HMT := Lib.hid hmt
          have HFI := Lib.hid (gen_end (tb := tb) (k := k) (N := tapeN (d' + 1)) (d := d' + 1) (c := .mk 4 i [] (ss : Int) (tt : Int) 0 (L.map Prod.fst)) (v := .slice sa L.length sc) HA.out (hLo.has.mono fun b _ hq => by omega) (val_in HI.out rfl hLv (fun l hl => HH.out l (hl.trans hLn))) hTp (by have := HTN.out; omega) hKp htl)
          have HZR2 := Lib.hid hZr
          clear hLo hBx hTp hKp hLv hkt hLn hmt
          obtain ⟨d0, d1, d2, d3, d4, d5, d6⟩ := BoxV.cells hZr
          have g0 := BoxV.frozen hZr 0
          have g1 := BoxV.frozen hZr 1
          have g2 := BoxV.frozen hZr 2
          have g3 := BoxV.frozen hZr 3
          have g4 := BoxV.frozen hZr 4
          have g5 := BoxV.frozen hZr 5
          have g6 := BoxV.frozen hZr 6
          clear hZr
          go_wp2
          exact bodyPost_ret (res24p Tryd.results9 rfl (put7_box HZR2.out _ _ _ _ _ _ _)) rfl HFI.out
    by_cases r5 : r = 5
    · subst r5
      have hal : Kp [] w2 (w2.alloc (.cells #[.int .i64 5, .string ⟨#[]⟩, .string ⟨#[]⟩, .int .i64 0, .int .i64 0, .int .i64 0, .slice none 0 0] 24)) := (Kp.refl [] w2).alloc _
      have hbx : BoxV C (.int .i64 5) (.string ⟨#[]⟩) (.string ⟨#[]⟩) (.int .i64 0) (.int .i64 0) (.int .i64 0) (.slice none 0 0) (w2.alloc (.cells #[.int .i64 5, .string ⟨#[]⟩, .string ⟨#[]⟩, .int .i64 0, .int .i64 0, .int .i64 0, .slice none 0 0] 24)) := by rw [← hC]; exact al_new _ _
      have Z3 := Lib.hid (BoxV.kp Z2.out hal (by simp))
      have B3 := Lib.hid hbx
      have K3 := Lib.hid (K2.out.trans (hal.mono (by simp)))
      have HO := one_new (w := w2.alloc (.cells #[.int .i64 5, .string ⟨#[]⟩, .string ⟨#[]⟩, .int .i64 0, .int .i64 0, .int .i64 0, .slice none 0 0] 24)) ids (by decide) (by decide) (by have := HTN.out; omega) (T2.out.kp hal (by simp))
      rw [al_size, hC] at HO
      have HO := Lib.hid HO
      clear hal hbx
      go_wp2_with fail
      refine HO.out.mono ?_
      rintro e w4 ⟨i, hi, rfl, hT4, hk4⟩
      have hb4 := B3.out.kp hk4 (by simp; omega)
      have Z4 := Lib.hid (Z3.out.kp hk4 (by simp; omega))
      obtain ⟨c0, c1, c2, c3, c4, c5, c6⟩ := hb4.cells
      have f1 := hb4.frozen 1
      have hk5 : Kp [C] w4 (w4.setCell ⟨C, 1, none⟩ (.string (bs i))) := (Kp.refl _ w4).setCell (.inl (by simp)) _
      have B5 := Lib.hid (hb4.put1 (.string (bs i)))
      have Z5 := Lib.hid (BoxV.kp Z4.out hk5 (by simp; omega))
      have K5 := Lib.hid ((K3.out.trans hk4).up hk5 (by simp; have := HA.out; omega))
      have T5 := Lib.hid (hT4.kp hk5 (by simp; omega))
      have HI := Lib.hid hi
      obtain ⟨D, hD⟩ : ∃ D, w4.heap.size = D := ⟨_, rfl⟩
      have hCD : C + 1 ≤ D := by have := block_lt hb4; omega
      clear hb4 hT4 hk4 hk5 hi
      have HO2 := Lib.hid (next_kp 3 (by omega) (by omega) (by have := HTN.out; omega) T5.out)
      go_wp2_with fail
      refine HO2.out.mono ?_
      rintro e w6 ⟨q, hq, rfl, hT6, hk6⟩
      obtain ⟨nn, hnn⟩ : ∃ nn, q + 1 = nn := ⟨_, rfl⟩
      have hwn : (1 : Int) + (q : Int) = (nn : Int) := by omega
      have hwn2 : IntKind.i64.wrap (nn : Int) = (nn : Int) := by rw [IntKind.wrap_i64]; omega
      have hn1 : 1 ≤ nn := by omega
      have hn3 : nn ≤ 3 := by omega
      have B6 := Lib.hid (B5.out.kp hk6 (by simp; omega))
      have Z6 := Lib.hid (BoxV.kp Z5.out hk6 (by simp; omega))
      have K6 := Lib.hid (K5.out.trans hk6)
      have T6 := Lib.hid hT6
      clear hT6 hk6 hnn hq c0 c1 c2 c3 c4 c5 c6 f1
      have HG : Hid (GLoop w tb A C d' (k + 3) 5 i 0 0 0 0 (w6)) := Lib.hid ⟨[], .slice none 0 0, _, rfl, fun p hp => (by cases hp), ⟨World.ownsRow_nil _ _ _ _, fun p hp => (by cases hp)⟩, B6.out, Z6.out, T6.out, by omega, K6.out⟩
      have HH := Lib.hid (fun (l : List Con) (hl : l.length = nn) => head5 (i := i) l (by omega) (by omega))
      go_wp2_with fail
      go_loopw [8] (fun s8 wx => ∃ m : Nat, m ≤ nn ∧ s8 = .int .i64 (m : Int) ∧ GLoop w tb A C d' (k + 3) 5 i 0 0 0 m wx) (fun s8 _ => nn - (intOf s8).toNat)
      case atStart => exact ⟨0, by omega, rfl, by first | exact HG.out | (rw [HQ1.out, HQ2.out]; exact HG.out)⟩
      case round =>
        obtain ⟨m, hm, rfl, L, v, kt, hL, hLv, hLo, hBx, hZr, hTp, hkt, hKp⟩ := hrel
        subst hL
        obtain ⟨sa, sc, rfl⟩ := hLo.form
        have HLO := Lib.hid hLo
        have HBX := Lib.hid hBx
        have HZR := Lib.hid hZr
        have HTP := Lib.hid hTp
        have HKP := Lib.hid hKp
        have HLV := Lib.hid hLv
        obtain ⟨c0, c1, c2, c3, c4, c5, c6⟩ := hBx.cells
        have HKT := Lib.hid hkt
        by_cases hlt : L.length < nn
        · have hlti : (L.length : Int) < ((nn : Nat) : Int) := by omega
          have hwi : IntKind.i64.wrap ((L.length : Int) + 1) = ((L.length + 1 : Nat) : Int) := by rw [IntKind.wrap_i64]; omega
          have hz2 : IntKind.i64.wrap (d' : Int) = (d' : Int) := by rw [IntKind.wrap_i64]; omega
          have hmt : L.length * tapeN d' + tapeN d' ≤ 3 * tapeN d' := by have : (L.length + 1) * tapeN d' ≤ 3 * tapeN d' := Nat.mul_le_mul_right _ (by omega); rw [Nat.succ_mul] at this; exact this
          have HIH := Lib.hid (IH.out tb kt (wr.drew) hTp (by have := HTN.out; omega))
          clear hLo hBx hZr hTp hKp hLv hkt
          go_wp2_with fail
          have c6d : wr.drew.cell? ⟨C, 6, none⟩ = some (.slice sa L.length sc) := c6
          go_region_law (first
            | (go_simp; (with_reducible refine HIH.out.mono ?_); rintro e wb ⟨c, u, k', rfl, hval, hu, hT', hk', hkb⟩; obtain ⟨ua, un, rfl, -⟩ := hu.form; have RR := loop_call (.cells #[.int .i64 c.kind, .string (bs c.id), .string (bs c.lab), .int .i64 c.slot, .int .i64 c.tot, .int .i64 c.lst, .slice ua c.inner.length un] 24) htl hCA HLO.out HBX.out HZR.out HKP.out hkb hT' hu; have RA := Lib.hid RR.1; have RB := Lib.hid RR.2; have ca6 := RR.1.box.cells.2.2.2.2.2.2; have cb6 := RR.2.box.cells.2.2.2.2.2.2; have HVL := Lib.hid hval; have HK' := Lib.hid hk'; clear RR hval hu hT' hk' hkb; dsimp only)
            | (refine step_append_con (by rfl) _ _ (by rfl) (C + 1) (.slice sa L.length sc) L (by rfl) (by exact RB.out.own) c (.slice ua c.inner.length un) (by rfl) wb.heap.size (by rfl) (by exact cells_new7 wb _ 24) (by exact tx_of_val HVL.out) (by exact RB.out.has) (by omega) (by exact RB.out.size) ?_; intro v8 w8 hown8 hgrow8; obtain ⟨va8, vn8, vc8, rfl⟩ := own_form hown8; obtain ⟨hb8, hfin8⟩ := loop_app (v' := .slice va8 vn8 vc8) htl hCA RB.out HA.out hgrow8; have HB8 := Lib.hid hb8; have H8 := Lib.hid (hfin8 d' (k + 3) L.length rfl HLV.out HVL.out (by have := HK'.out; have := HKT.out; rw [Nat.succ_mul]; omega) hown8); obtain ⟨e0, e1, e2, e3, e4, e5, e6⟩ := hb8.cells; have f8 := hb8.frozen 6; clear hb8 hfin8 hown8 hgrow8))
          all_goals
            have H9 := Lib.hid H8.out
            clear RA RB ca6 cb6 HVL HK' HB8 H8 e0 e1 e2 e3 e4 e5 e6 f8 HIH c6d c0 c1 c2 c3 c4 c5 c6
            go_wp2
            exact ⟨⟨L.length + 1, by omega, rfl, H9.out⟩, by simp [intOf]; omega⟩
        · have hlti : ¬ ((L.length : Int) < ((nn : Nat) : Int)) := by omega
          have hLn : L.length = nn := by omega
          have HLn := Lib.hid hLn
          have hmt : L.length * tapeN d' ≤ 3 * tapeN d' := Nat.mul_le_mul_right _ (by omega)
          have HMT := Lib.hid hmt
          have HFI := Lib.hid (gen_end (tb := tb) (k := k) (N := tapeN (d' + 1)) (d := d' + 1) (c := .mk 5 i [] 0 0 0 (L.map Prod.fst)) (v := .slice sa L.length sc) HA.out (hLo.has.mono fun b _ hq => by omega) (val_in HI.out rfl hLv (fun l hl => HH.out l (hl.trans hLn))) hTp (by have := HTN.out; omega) hKp htl)
          have HZR2 := Lib.hid hZr
          clear hLo hBx hTp hKp hLv hkt hLn hmt
          obtain ⟨d0, d1, d2, d3, d4, d5, d6⟩ := BoxV.cells hZr
          have g0 := BoxV.frozen hZr 0
          have g1 := BoxV.frozen hZr 1
          have g2 := BoxV.frozen hZr 2
          have g3 := BoxV.frozen hZr 3
          have g4 := BoxV.frozen hZr 4
          have g5 := BoxV.frozen hZr 5
          have g6 := BoxV.frozen hZr 6
          clear hZr
          go_wp2
          exact bodyPost_ret (res24p Tryd.results9 rfl (put7_box HZR2.out _ _ _ _ _ _ _)) rfl HFI.out
    omega
/-- VALID CONTENTS OFF THE TAPE. -/
theorem gen_ok : ∀ d, d ≤ 5 → GenOK d := by
  intro d
  induction d using Nat.strongRecOn with
  | _ d ih => exact fun hd tb k w hT hk => gen_any hd (fun d0 h0 => ih d0 h0 (by omega)) hT hk
end Go.Proofs.YtoohnjlghjapnaaDoor
