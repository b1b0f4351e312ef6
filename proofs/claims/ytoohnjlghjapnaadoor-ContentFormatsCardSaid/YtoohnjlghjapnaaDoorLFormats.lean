/- The walk of ContentFormats. -/
import Derived.Test.YtoohnjlghjapnaaDoorLNests
import Derived.Test.YtoohnjlghjapnaaDoorY
import Derived.Test.YtoohnjlghjapnaaDoorAB
import Derived.Test.YtoohnjlghjapnaaDoorAC
namespace Go.Proofs.YtoohnjlghjapnaaDoor
open Go.RowKit

theorem ints_alloc {w : World} {v : Value} (o : Obj) (hi : Ints w w.heap.size v) : Ints (w.alloc o) (w.alloc o).heap.size v := by
  rcases hi with h | ⟨b, p, n, c, h, hb, hc⟩
  · exact .inl h
  · refine .inr ⟨b, p, n, c, h, by rw [al_size]; omega, fun j hj => ?_⟩
    obtain ⟨z, hz⟩ := hc j hj
    exact ⟨z, kp_cell ((Kp.refl [] w).alloc o) hz⟩
theorem row_two {Q : Nat → Prop} {w : World} {G : Nat} {c d : Con} {u v : Value} (h : w.heap[G]? = some (.cells (conC c u ++ conC d v).toArray 24 (0, 0))) (hx : Tx c) (hy : Tx d) (hu : CHas Q w u c.inner) (hv : CHas Q w v d.inner) : CRow Q w G 0 [c, d] := by
  refine CRow.of fun j x hj => ?_
  have hj2 : j = 0 ∨ j = 1 := by
    have := (List.getElem?_eq_some_iff.1 hj).1
    simp at this
    omega
  rcases hj2 with rfl | rfl
  · simp only [List.getElem?_cons_zero, Option.some.injEq] at hj
    subst hj
    refine ⟨u, fun m y hm => ?_, hx, hu⟩
    have hl := (List.getElem?_eq_some_iff.1 hm).1
    rw [cell_of_row _ _ _ _ _ _ h, List.getElem?_toArray, List.getElem?_append_left (by rw [conC_len] at *; omega), show 0 + 0 * 7 + m = m by omega]
    exact hm
  · simp only [List.getElem?_cons_succ, List.getElem?_cons_zero, Option.some.injEq] at hj
    subst hj
    refine ⟨v, fun m y hm => ?_, hy, hv⟩
    have hl := (List.getElem?_eq_some_iff.1 hm).1
    rw [cell_of_row _ _ _ _ _ _ h, List.getElem?_toArray, List.getElem?_append_right (by rw [conC_len] at *; omega), conC_len, show 0 + 1 * 7 + m - 7 = m by omega]
    exact hm

theorem gen_len {d : Nat} {c : Con} (h : valN d c = true) : c.inner.length ≤ 16 := by
  cases d with
  | zero =>
    unfold valN at h
    split at h
    · rename_i hk
      have := none_eq h hk
      rw [this]; simp [con0, Con.inner]
    · cases h
  | succ d =>
    unfold valN at h
    split at h
    · rename_i hk
      have := none_eq h hk
      rw [this]; simp [con0, Con.inner]
    · simp only [Bool.and_eq_true] at h
      exact inner_len h.1.2

set_option maxHeartbeats 8000000 in
set_option maxRecDepth 100000 in
theorem contentFormats_walk (c : Con) (cv : Value) (a : Option Addr) (n cc : Nat) (w : World) (hx : Tx c) (hh : CHas (fun _ => True) w cv c.inner) (hi : Ints w w.heap.size (.slice a n cc)) (hE : Env w) :
    Calls Tryd.prog 3 #[.agg #[.int .i64 c.kind, .string (bs c.id), .string (bs c.lab), .int .i64 c.slot, .int .i64 c.tot, .int .i64 c.lst, cv], .slice a n cc] w fun e w' => e = .returned (.bool true) ∧ Below w.heap.size w w' := by
  obtain ⟨va, vn, rfl, hvn⟩ := hh.form
  have hml : c.inner.length ≤ 9223372036854775807 := by
    by_cases e : c.inner = []
    · rw [e]; simp
    · obtain ⟨_, _, _, h2, h3, _⟩ := hvn e
      unfold maxLen at h3; omega
  obtain ⟨w0, hw0⟩ : ∃ w0, w.alloc (.cells #[.int .i64 c.kind, .string (bs c.id), .string (bs c.lab), .int .i64 c.slot, .int .i64 c.tot, .int .i64 c.lst, .slice va c.inner.length vn] 24) = w0 := ⟨_, rfl⟩
  have hk0 : Kp [] w w0 := by rw [← hw0]; exact (Kp.refl [] w).alloc _
  have hb0 : BoxV w.heap.size (.int .i64 c.kind) (.string (bs c.id)) (.string (bs c.lab)) (.int .i64 c.slot) (.int .i64 c.tot) (.int .i64 c.lst) (.slice va c.inner.length vn) w0 := by rw [← hw0]; exact al_new _ _
  have hs0 : w0.heap.size = w.heap.size + 1 := by rw [← hw0]; exact al_size _ _
  have ht0 : Tape (w0.alloc (.cells #[.slice a n cc, .int .i64 0] 28)) w0.heap.size 0 := tape_new (by rw [← hw0]; exact ints_alloc _ hi)
  have hal : Kp [] w0 (w0.alloc (.cells #[.slice a n cc, .int .i64 0] 28)) := (Kp.refl [] w0).alloc _
  obtain ⟨A, hA⟩ : ∃ A, w.heap.size = A := ⟨_, rfl⟩
  rw [hA] at hb0 hs0
  rw [hs0] at ht0
  have hk01 := hk0.trans hal
  have HG := Lib.hid (show Calls Tryd.prog 9 #[.pointer (some ⟨A + 1, 0, none⟩), .int .i64 4] (w0.alloc (.cells #[.slice a n cc, .int .i64 0] 28)).drew (GenPost (A + 1) 0 (tapeN 4) 4 (w0.alloc (.cells #[.slice a n cc, .int .i64 0] 28)).drew) from gen_ok 4 (by omega) (A + 1) 0 (w0.alloc (.cells #[.slice a n cc, .int .i64 0] 28)).drew ht0 (by decide))
  have E1 := Lib.hid (hE.kp hk01 (by simp))
  have K1 := Lib.hid hk01
  have B1 := Lib.hid (hb0.kp hal (by simp))
  have H1 := Lib.hid (hh.keep (Q' := fun b => b < A) hk01.size fun b hb _ => ⟨by omega, hk01.block b hb (by simp)⟩)
  have HA := Lib.hid hA
  have H6 := Lib.hid (show 6 ≤ A by rw [← hA]; exact hE.size)
  have HX := Lib.hid hx
  have S1 := Lib.hid (show (w0.alloc (.cells #[.slice a n cc, .int .i64 0] 28)).heap.size = A + 2 by rw [al_size, hs0])
  obtain ⟨c0, c1, c2, c3, c4, c5, c6⟩ := B1.out.cells
  clear ht0 hal hi hE hk0 hk01 hb0 hh hvn hx
  go_enter Tryd.func3, Tryd.ntmps3
  go_wp2_with fail
  go_region_law (first
    | (go_simp; (with_reducible refine HG.out.mono ?_); rintro e w2 ⟨x, u, k', rfl, hval, hu, hT, hk', hk⟩; obtain ⟨ua, un, rfl, -⟩ := hu.form; have HV := Lib.hid hval; have T2 := Lib.hid hT; have HK := Lib.hid hk'; have hkd := Kp.trans ((Kp.refl [A + 1] _).drew 1) hk; have K2 := Lib.hid (K1.out.up hkd (by simp; have := HA.out; omega)); have E2 := Lib.hid (E1.out.kp hkd (by simp; have := H6.out; omega)); have B2 := Lib.hid (B1.out.kp hkd (by simp)); have H2 := Lib.hid (H1.out.keep (Q' := fun b => b < A) hkd.size fun b hb hq => ⟨hq, hkd.block b hb (by simp; omega)⟩); have HS := Lib.hid (spoil_any T2.out (by have := HK.out; have : tapeN 1 + 4 + tapeN 4 ≤ 900000 := (by decide); omega) x ua un (by have := gen_len HV.out; omega) (tx_of_val HV.out) (hu.mono fun b hb hq => by have : A + 2 ≤ b := (by rw [← S1.out]; exact hq); omega)); obtain ⟨b0, b1, b2, b3, b4, b5, b6⟩ := B2.out.cells; clear hval hT hk' hk hkd hu; dsimp only)
    | (go_simp; (with_reducible refine HS.out.mono ?_); rintro e w3 ⟨y, v, k3, rfl, hy, hv, hT3, hk3', hk3⟩; obtain ⟨ya, yn, rfl, -⟩ := hv.form; have YX := Lib.hid hy; have YV := Lib.hid (hv.mono (Q' := fun _ => True) fun _ _ _ => trivial); have K3 := Lib.hid (K2.out.up hk3 (by simp; have := HA.out; omega)); have E3 := Lib.hid (E2.out.kp hk3 (by simp; have := H6.out; omega)); have B3 := Lib.hid (B2.out.kp hk3 (by simp)); have H3 := Lib.hid (H2.out.keep (Q' := fun _ => True) hk3.size fun b hb hq => ⟨trivial, hk3.block b hb (by simp; omega)⟩); obtain ⟨e0, e1, e2, e3, e4, e5, e6⟩ := B3.out.cells; clear hy hv hT3 hk3' hk3; dsimp only))
  all_goals
    obtain ⟨w4, hw4⟩ : ∃ w4, w3.alloc (.cells #[.int .i64 c.kind, .string (bs c.id), .string (bs c.lab), .int .i64 c.slot, .int .i64 c.tot, .int .i64 c.lst, .slice va c.inner.length vn, .int .i64 y.kind, .string (bs y.id), .string (bs y.lab), .int .i64 y.slot, .int .i64 y.tot, .int .i64 y.lst, .slice ya y.inner.length yn] 24) = w4 := ⟨_, rfl⟩
    have hal : Kp [] w3 w4 := by rw [← hw4]; exact (Kp.refl [] w3).alloc _
    obtain ⟨G, hG⟩ : ∃ G, w3.heap.size = G := ⟨_, rfl⟩
    have hrow : w4.heap[G]? = some (.cells (conC c (.slice va c.inner.length vn) ++ conC y (.slice ya y.inner.length yn)).toArray 24 (0, 0)) := by rw [← hG, ← hw4]; exact al_new _ _
    have HR := Lib.hid (row_two hrow HX.out YX.out (kp_has H3.out hal) (kp_has YV.out hal))
    have HGL := Lib.hid (block_lt hrow)
    have K4 := Lib.hid (K3.out.trans hal)
    have E4 := Lib.hid (E3.out.kp hal (by simp))
    obtain ⟨g0, g1, g2, g3, g4, g5, g6⟩ := (B3.out.kp hal (by simp)).cells
    clear hal hrow c0 c1 c2 c3 c4 c5 c6 b0 b1 b2 b3 b4 b5 b6 e0 e1 e2 e3 e4 e5 e6
    by_cases h20 : (20 : Int) < (c.inner.length : Int)
    · have HKN := Lib.hid (known_any E4.out)
      go_wp2_with fail
      refine HKN.out.mono ?_
      rintro e wg ⟨rfl, hkg⟩
      have KGG := Lib.hid (K4.out.trans hkg)
      clear hkg
      go_wp2
      go_ret
      exact ⟨rfl, KGG.out.below (Nat.le_refl _) (by simp)⟩
    · go_wp2
      clear g0 g1 g2 g3 g4 g5 g6 hw4
      go_loopw [7] (fun s7 wx => ∃ i : Nat, i ≤ 2 ∧ s7 = .int .i64 (i : Int) ∧ Kp [] w4 wx) (fun s7 _ => 2 - (intOf s7).toNat)
      case atStart => exact ⟨0, by omega, rfl, Kp.refl _ _⟩
      case round =>
        rename_i wr
        obtain ⟨i, hi, rfl, hkp⟩ := hrel
        have KP := Lib.hid hkp
        have EP := Lib.hid (E4.out.kp hkp (by simp))
        clear hkp
        by_cases hlt : i < 2
        · have hiz : (i : Int) < 2 := by omega
          have hwi : IntKind.i64.wrap ((i : Int) + 1) = ((i + 1 : Nat) : Int) := by rw [IntKind.wrap_i64]; omega
          obtain ⟨z, hz⟩ : ∃ z, [c, y][i]? = some z := ⟨_, List.getElem?_eq_getElem (by simpa using hlt)⟩
          obtain ⟨zv, hzv, hzx, p0, p1, p2, p3, p4, p5, p6⟩ := HR.out.cells hz
          obtain ⟨za, zn, rfl, -⟩ := hzv.form
          rw [Nat.zero_add] at p0 p1 p2 p3 p4 p5 p6
          have HP := Lib.hid (fun W (hW : Kp [] w4 W) => (⟨kp_cell hW p0, kp_cell hW p1, kp_cell hW p2, kp_cell hW p3, kp_cell hW p4, kp_cell hW p5, kp_cell hW p6⟩ : W.cell? ⟨G, i * 7, none⟩ = _ ∧ W.cell? ⟨G, i * 7 + 1, none⟩ = _ ∧ W.cell? ⟨G, i * 7 + 2, none⟩ = _ ∧ W.cell? ⟨G, i * 7 + 3, none⟩ = _ ∧ W.cell? ⟨G, i * 7 + 4, none⟩ = _ ∧ W.cell? ⟨G, i * 7 + 5, none⟩ = _ ∧ W.cell? ⟨G, i * 7 + 6, none⟩ = _))
          have HZ := Lib.hid hzv
          have ZX := Lib.hid hzx
          obtain ⟨q0, q1, q2, q3, q4, q5, q6⟩ := HP.out wr KP.out
          have HF1 := Lib.hid (format_any z za zn wr hzx (kp_has hzv KP.out))
          clear hz hzv hzx p0 p1 p2 p3 p4 p5 p6
          obtain ⟨R, hR⟩ : ∃ R, bs (fmtS z) = R := ⟨_, rfl⟩
          obtain ⟨E, hEE⟩ : ∃ E, fmtE z = E := ⟨_, rfl⟩
          rw [hR, hEE] at HF1
          have HRR := Lib.hid hR
          have HEE := Lib.hid hEE
          clear hR hEE
          go_wp2_with fail
          refine HF1.out.mono ?_
          rintro e w5 ⟨rfl, hk5⟩
          have K5 := Lib.hid (KP.out.trans hk5)
          clear hk5 q0 q1 q2 q3 q4 q5 q6
          obtain ⟨q0, q1, q2, q3, q4, q5, q6⟩ := HP.out w5 K5.out
          have HF2 := Lib.hid (refFormat_any z za zn w5 ZX.out (kp_has HZ.out K5.out))
          rw [HRR.out, HEE.out] at HF2
          go_wp2_with fail
          refine HF2.out.mono ?_
          rintro e w6 ⟨rfl, hk6⟩
          have K6 := Lib.hid (K5.out.trans hk6)
          clear hk6 q0 q1 q2 q3 q4 q5 q6
          obtain ⟨q0, q1, q2, q3, q4, q5, q6⟩ := HP.out w6 K6.out
          have HF3 := Lib.hid (refValidOf_any z za zn w6 ZX.out (kp_has HZ.out K6.out))
          have HF4 := Lib.hid (fun W (hW : Kp [] w4 W) => check_any z za zn W ZX.out (kp_has HZ.out hW))
          cases hv6 : valN 6 z with
          | true =>
            rw [hv6] at HF3 HF4
            go_wp2_with fail
            refine HF3.out.mono ?_
            rintro e w7 ⟨rfl, hk7⟩
            have K7 := Lib.hid (K6.out.trans hk7)
            clear hk7 q0 q1 q2 q3 q4 q5 q6
            obtain ⟨q0, q1, q2, q3, q4, q5, q6⟩ := HP.out w7 K7.out
            have HF5 := Lib.hid (HF4.out w7 K7.out)
            have hf : formE true = 0 := rfl
            clear hv6
            go_wp2_with fail
            refine HF5.out.mono ?_
            rintro e w8 ⟨rfl, hk8⟩
            have K8 := Lib.hid (K7.out.trans hk8)
            clear hk8 q0 q1 q2 q3 q4 q5 q6
            go_wp2
            exact ⟨⟨i + 1, by omega, rfl, K8.out⟩, by simp [intOf]; omega⟩
          | false =>
            rw [hv6] at HF3 HF4
            go_wp2_with fail
            refine HF3.out.mono ?_
            rintro e w7 ⟨rfl, hk7⟩
            have K7 := Lib.hid (K6.out.trans hk7)
            clear hk7 q0 q1 q2 q3 q4 q5 q6
            obtain ⟨q0, q1, q2, q3, q4, q5, q6⟩ := HP.out w7 K7.out
            have HF5 := Lib.hid (HF4.out w7 K7.out)
            have hf : formE false = 70 := rfl
            clear hv6
            go_wp2_with fail
            refine HF5.out.mono ?_
            rintro e w8 ⟨rfl, hk8⟩
            have K8 := Lib.hid (K7.out.trans hk8)
            clear hk8 q0 q1 q2 q3 q4 q5 q6
            go_wp2
            exact ⟨⟨i + 1, by omega, rfl, K8.out⟩, by simp [intOf]; omega⟩
        · have hie : i = 2 := by omega
          subst hie
          have HKN := Lib.hid (known_any EP.out)
          go_wp2_with fail
          refine HKN.out.mono ?_
          rintro e wg ⟨rfl, hkg⟩
          have KGG := Lib.hid ((K4.out.trans KP.out).trans hkg)
          clear hkg
          go_wp2
          go_ret
          exact ⟨rfl, KGG.out.below (Nat.le_refl _) (by simp)⟩
end Go.Proofs.YtoohnjlghjapnaaDoor
