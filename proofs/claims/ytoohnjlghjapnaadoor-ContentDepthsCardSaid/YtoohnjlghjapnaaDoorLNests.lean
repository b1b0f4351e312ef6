/- The walk of ContentNests. -/
import Derived.Test.YtoohnjlghjapnaaDoorV
import Derived.Test.YtoohnjlghjapnaaDoorW
import Derived.Test.YtoohnjlghjapnaaDoorX
namespace Go.Proofs.YtoohnjlghjapnaaDoor
open Go.RowKit

theorem tape_new {w : World} {lv : Value} (hi : Ints w w.heap.size lv) : Tape (w.alloc (.cells #[lv, .int .i64 0] 28)) w.heap.size 0 :=
  ⟨lv, al_new _ _, hi.keep fun _ hb => al_old _ _ hb⟩
/-- A content in a box. -/
def InBox (P : Nat) (c : Con) (W : World) : Prop := ∃ a n, BoxV P (.int .i64 c.kind) (.string (bs c.id)) (.string (bs c.lab)) (.int .i64 c.slot) (.int .i64 c.tot) (.int .i64 c.lst) (.slice a c.inner.length n) W ∧ CHas (fun b => b ≠ P) W (.slice a c.inner.length n) c.inner
def NestAt (w : World) (P : Nat) (W : World) : Prop := ∃ c, valN 6 c = true ∧ InBox P c W ∧ Kp [] w W ∧ Env W
theorem has_one {Q : Nat → Prop} {w : World} {c : Con} {u : Value} (hq : Q w.heap.size) (hx : Tx c) (hu : CHas Q w u c.inner) : CHas Q (w.alloc (.cells (conC c u).toArray 24)) (.slice (some ⟨w.heap.size, 0, none⟩) 1 1) [c] := by
  refine .inr ⟨w.heap.size, 0, 1, rfl, by simp, by unfold maxLen; omega, hq, by rw [al_size]; omega, CRow.of fun j x hj => ?_⟩
  have hj0 : j = 0 := by have := (List.getElem?_eq_some_iff.1 hj).1; simp at this; omega
  subst hj0
  simp only [List.getElem?_cons_zero, Option.some.injEq] at hj
  subst hj
  refine ⟨u, fun m y hy => ?_, hx, kp_has hu ((Kp.refl [] w).alloc _)⟩
  have := cells_new7 w (conC c u) 24 m y hy
  rwa [show (⟨w.heap.size, 0, none⟩ : Addr).add m = ⟨w.heap.size, 0 + 0 * 7 + m, none⟩ by rw [add00]] at this
theorem wrap_inner (c : Con) : (wrap [107] c).inner = [c] := rfl

set_option maxHeartbeats 4000000 in
set_option maxRecDepth 100000 in
theorem contentNests_walk (a : Option Addr) (n cc : Nat) (more : Int) (w : World) (hi : Ints w w.heap.size (.slice a n cc)) (hE : Env w) :
    Calls Tryd.prog 7 #[.slice a n cc, .int .i64 more] w fun e w' => e = .returned (.bool true) ∧ Below w.heap.size w w' := by
  have ht0 := tape_new hi
  have hal : Kp [] w (w.alloc (.cells #[.slice a n cc, .int .i64 0] 28)) := (Kp.refl [] w).alloc _
  obtain ⟨B, hB⟩ : ∃ B, w.heap.size = B := ⟨_, rfl⟩
  rw [hB] at ht0
  have HG := Lib.hid (gen_ok 2 (by omega) B 0 _ ht0 (by decide))
  have E1 := Lib.hid (hE.kp hal (by simp))
  have K1 := Lib.hid hal
  have HB := Lib.hid hB
  have H6 := Lib.hid (show 6 ≤ B by rw [← hB]; exact hE.size)
  clear ht0 hal hi hE
  go_enter Tryd.func7, Tryd.ntmps7
  go_wp2_with fail
  refine HG.out.mono ?_
  rintro e w2 ⟨c, v, k', rfl, hval, hv, hT, -, hk⟩
  have K2 := Lib.hid (K1.out.up hk (by simp; have := HB.out; omega))
  have E2 := Lib.hid (E1.out.kp hk (by simp; exact H6.out))
  obtain ⟨va, vn, rfl, -⟩ := hv.form
  obtain ⟨P, hP⟩ : ∃ P, w2.heap.size = P := ⟨_, rfl⟩
  have hal : Kp [] w2 (w2.alloc (.cells #[.int .i64 c.kind, .string (bs c.id), .string (bs c.lab), .int .i64 c.slot, .int .i64 c.tot, .int .i64 c.lst, .slice va c.inner.length vn] 24)) := (Kp.refl [] w2).alloc _
  have hN : NestAt w P (w2.alloc (.cells #[.int .i64 c.kind, .string (bs c.id), .string (bs c.lab), .int .i64 c.slot, .int .i64 c.tot, .int .i64 c.lst, .slice va c.inner.length vn] 24)) :=
    ⟨c, valN_up 2 6 c hval (by have := valN_dep 2 c hval; omega), ⟨va, vn, by rw [← hP]; exact al_new _ _, hv.keep hal.size fun k hkk _ => ⟨by rw [← hP]; omega, hal.block k hkk (by simp)⟩⟩, K2.out.trans hal, E2.out.kp hal (by simp)⟩
  have HN := Lib.hid hN
  have HF := Lib.hid (fun W => fold_any more 8 W (by omega) (by omega))
  have HPB := Lib.hid (show B ≤ P by have := K2.out.size; have := HB.out; omega)
  clear hal hN hval hv hT hk
  go_wp2_with fail
  refine (HF.out _).mono ?_
  rintro e w3 ⟨r, hr, rfl, rfl⟩
  go_wp2_with fail
  go_loopw [6] (fun s6 wx => ∃ m : Nat, m ≤ 8 ∧ s6 = .int .i64 (m : Int) ∧ NestAt w P wx) (fun s6 _ => (intOf s6).toNat)
  case atStart => exact ⟨r, by omega, rfl, HN.out⟩
  case round =>
    obtain ⟨m, hm, rfl, c, hval, ⟨xa, xn, hbx, hhs⟩, hkp, henv⟩ := hrel
    obtain ⟨c0, c1, c2, c3, c4, c5, c6⟩ := hbx.cells
    have BX := Lib.hid hbx
    have HV := Lib.hid hval
    have HS := Lib.hid hhs
    have KP := Lib.hid hkp
    have EN := Lib.hid henv
    have hpl := block_lt hbx
    by_cases hm0 : 0 < m
    · have hmz : (0 : Int) < (m : Int) := by omega
      have HD := Lib.hid (refDepth_any 6 c xa xn wr (by omega) hval hhs)
      have hwm : IntKind.i64.wrap ((m : Int) - 1) = ((m - 1 : Nat) : Int) := by rw [IntKind.wrap_i64]; omega
      have HTX := Lib.hid (tx_of_val hval)
      have HWR := Lib.hid (wrap_iff (m := 5) (k := [107]) (by decide) hval)
      clear hbx hval hhs hkp henv
      go_wp2_with fail
      refine HD.out.mono ?_
      rintro e w4 ⟨rfl, hk4⟩
      have hb4 := BX.out.kp hk4 (by simp)
      have hh4 := kp_has HS.out hk4
      obtain ⟨d0, d1, d2, d3, d4, d5, d6⟩ := hb4.cells
      have B4 := Lib.hid hb4
      have H4 := Lib.hid hh4
      have K4 := Lib.hid (KP.out.trans hk4)
      have E4 := Lib.hid (EN.out.kp hk4 (by simp))
      obtain ⟨G, hG⟩ : ∃ G, w4.heap.size = G := ⟨_, rfl⟩
      clear hb4 hh4 c0 c1 c2 c3 c4 c5 c6
      have hrow := has_one (Q := fun b => b ≠ P) (w := w4) (c := c) (u := .slice xa c.inner.length xn) (by have := block_lt B4.out; omega) HTX.out H4.out
      have hal1 : Kp [] w4 (w4.alloc (.cells (conC c (.slice xa c.inner.length xn)).toArray 24)) := (Kp.refl [] w4).alloc _
      have hal2 : Kp [] (w4.alloc (.cells (conC c (.slice xa c.inner.length xn)).toArray 24)) ((w4.alloc (.cells (conC c (.slice xa c.inner.length xn)).toArray 24)).alloc (.cells #[.int .i64 3, .string ⟨#[107]⟩, .string ⟨#[]⟩, .int .i64 0, .int .i64 0, .int .i64 0, .slice (some ⟨G, 0, none⟩) 1 1] 24)) := (Kp.refl [] _).alloc _
      have hbd : BoxV (G + 1) (.int .i64 3) (.string ⟨#[107]⟩) (.string ⟨#[]⟩) (.int .i64 0) (.int .i64 0) (.int .i64 0) (.slice (some ⟨G, 0, none⟩) 1 1) ((w4.alloc (.cells (conC c (.slice xa c.inner.length xn)).toArray 24)).alloc (.cells #[.int .i64 3, .string ⟨#[107]⟩, .string ⟨#[]⟩, .int .i64 0, .int .i64 0, .int .i64 0, .slice (some ⟨G, 0, none⟩) 1 1] 24)) := by
        have := al_new (w4.alloc (.cells (conC c (.slice xa c.inner.length xn)).toArray 24)) (.cells #[.int .i64 3, .string ⟨#[107]⟩, .string ⟨#[]⟩, .int .i64 0, .int .i64 0, .int .i64 0, .slice (some ⟨G, 0, none⟩) 1 1] 24)
        rw [al_size, hG] at this
        exact this
      rw [hG] at hrow
      have hh5 := kp_has hrow hal2
      have HCD := Lib.hid (check_any (wrap [107] c) (some ⟨G, 0, none⟩) 1 _ ⟨by simp [wrap, Con.id, maxLen], by simp [wrap, Con.lab]⟩ hh5)
      rw [HWR.out] at HCD
      have B5 := Lib.hid ((B4.out.kp hal1 (by simp)).kp hal2 (by simp))
      have H5 := Lib.hid (kp_has (kp_has H4.out hal1) hal2)
      have K5 := Lib.hid ((K4.out.trans hal1).trans hal2)
      have E5 := Lib.hid ((E4.out.kp hal1 (by simp)).kp hal2 (by simp))
      have HD5 := Lib.hid hbd
      have HH5 := Lib.hid hh5
      clear hrow hal1 hal2 hbd hh5
      by_cases hdep : c.dep < 5 + 1
      · have hdz : ¬ (6 : Int) ≤ (c.dep : Int) := by omega
        have HVW := Lib.hid (HWR.out.trans (decide_eq_true hdep))
        rw [decide_eq_true hdep] at HCD
        have hf : formE true = 0 := rfl
        clear hdep
        go_wp2_with fail
        refine HCD.out.mono ?_
        rintro e w6 ⟨rfl, hk6⟩
        have B6 := Lib.hid (B5.out.kp hk6 (by simp))
        have K6 := Lib.hid (K5.out.trans hk6)
        have E6 := Lib.hid (E5.out.kp hk6 (by simp))
        have H6b := Lib.hid (kp_has HH5.out hk6)
        obtain ⟨e0, e1, e2, e3, e4, e5, e6⟩ := (HD5.out.kp hk6 (by simp)).cells
        clear hk6 d0 d1 d2 d3 d4 d5 d6
        obtain ⟨d0, d1, d2, d3, d4, d5, d6⟩ := B6.out.cells
        have g0 := B6.out.frozen 0
        have g1 := B6.out.frozen 1
        have g2 := B6.out.frozen 2
        have g3 := B6.out.frozen 3
        have g4 := B6.out.frozen 4
        have g5 := B6.out.frozen 5
        have g6 := B6.out.frozen 6
        have hkp7 : Kp [P] w6 (put7 w6 P (.int .i64 3) (.string ⟨#[107]⟩) (.string ⟨#[]⟩) (.int .i64 0) (.int .i64 0) (.int .i64 0) (.slice (some ⟨G, 0, none⟩) 1 1)) := put7_kp (Kp.refl _ w6) (.inl (by simp)) _ _ _ _ _ _ _
        have HN7 : Hid (NestAt w P (put7 w6 P (.int .i64 3) (.string ⟨#[107]⟩) (.string ⟨#[]⟩) (.int .i64 0) (.int .i64 0) (.int .i64 0) (.slice (some ⟨G, 0, none⟩) 1 1))) :=
          Lib.hid ⟨wrap [107] c, HVW.out, ⟨some ⟨G, 0, none⟩, 1, put7_box B6.out _ _ _ _ _ _ _, H6b.out.keep hkp7.size fun k hkk hq => ⟨hq, hkp7.block k hkk (by simpa using hq)⟩⟩, K6.out.up hkp7 (by simp; have := HPB.out; have := HB.out; omega), E6.out.kp hkp7 (by simp; have := HPB.out; have := H6.out; omega)⟩
        clear hkp7
        go_wp2
        exact ⟨⟨m - 1, by omega, rfl, HN7.out⟩, by simp [intOf]; omega⟩
      · have hdz : (6 : Int) ≤ (c.dep : Int) := by omega
        rw [decide_eq_false hdep] at HCD
        have hf : formE false = 70 := rfl
        clear hdep
        go_wp2_with fail
        refine HCD.out.mono ?_
        rintro e w6 ⟨rfl, hk6⟩
        have K6 := Lib.hid (K5.out.trans hk6)
        have E6 := Lib.hid (E5.out.kp hk6 (by simp))
        have H6b := Lib.hid (kp_has H5.out hk6)
        clear d0 d1 d2 d3 d4 d5 d6
        obtain ⟨d0, d1, d2, d3, d4, d5, d6⟩ := (B5.out.kp hk6 (by simp)).cells
        clear hk6 hf
        have HCF := Lib.hid (check_any c xa xn w6 (tx_of_val HV.out) H6b.out)
        rw [HV.out] at HCF
        have hf : formE true = 0 := rfl
        go_wp2_with fail
        refine HCF.out.mono ?_
        rintro e wf ⟨rfl, hkf⟩
        have KF := Lib.hid (K6.out.trans hkf)
        have HKN := Lib.hid (known_any (E6.out.kp hkf (by simp)))
        clear hkf
        go_wp2_with fail
        refine HKN.out.mono ?_
        rintro e wg ⟨rfl, hkg⟩
        have KGG := Lib.hid (KF.out.trans hkg)
        clear hkg
        go_wp2
        go_ret
        exact ⟨rfl, KGG.out.below (Nat.le_refl _) (by simp)⟩
    · have hmz : ¬ (0 : Int) < (m : Int) := by omega
      clear hbx hval hhs hkp henv
      have HCF := Lib.hid (check_any c xa xn wr (tx_of_val HV.out) HS.out)
      rw [HV.out] at HCF
      have hf : formE true = 0 := rfl
      go_wp2_with fail
      refine HCF.out.mono ?_
      rintro e wf ⟨rfl, hkf⟩
      have KF := Lib.hid (KP.out.trans hkf)
      have HKN := Lib.hid (known_any (EN.out.kp hkf (by simp)))
      clear hkf
      go_wp2_with fail
      refine HKN.out.mono ?_
      rintro e wg ⟨rfl, hkg⟩
      have KGG := Lib.hid (KF.out.trans hkg)
      clear hkg
      go_wp2
      go_ret
      exact ⟨rfl, KGG.out.below (Nat.le_refl _) (by simp)⟩
end Go.Proofs.YtoohnjlghjapnaaDoor
