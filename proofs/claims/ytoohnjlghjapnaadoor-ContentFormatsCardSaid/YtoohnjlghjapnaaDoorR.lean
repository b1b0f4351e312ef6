/- The reference: which contents are valid. -/
import Derived.Test.YtoohnjlghjapnaaDoorQ
import Derived.Deep.DeepCutAuto
import Derived.Deep.CutBlock
namespace Go.Proofs.YtoohnjlghjapnaaDoor
open Go.RowKit

/-- What the reference asks of the fields, once what is inside is valid. -/
def fldV (k : Int) (eI eL iI iL sB nB : Bool) (n : Nat) (t e : Int) (d : Nat) : Bool :=
  if k = 0 then eI && eL && nB && ((n : Int) == 0)
  else if d = 0 then false
  else iI && (if k = 1 then (eL || iL) && nB && ((n : Int) == 0)
    else if k = 2 then eL && sB && decide (1 ≤ e) && decide (e ≤ t) && ((n : Int) == 1)
    else if k = 3 then eL && nB && ((n : Int) == 1)
    else if k = 4 then eL && sB && (e == 0) && decide (1 ≤ (n : Int)) && decide ((n : Int) ≤ 16)
    else if k = 5 then eL && nB && decide (1 ≤ (n : Int)) && decide ((n : Int) ≤ 16)
    else false)
theorem isE (l : List UInt8) : (bs l).toList.isEmpty = l.isEmpty := by rw [bs_toList]
theorem fld_val (d : Nat) (c : Con) (h : c.inner = [] ∨ ∃ d', d = d' + 1 ∧ c.inner.all (valN d') = true) :
    valN d c = fldV c.kind (bs c.id).toList.isEmpty (bs c.lab).toList.isEmpty (isID c.id) (isID c.lab) (slotsOK c) (none0 c) c.inner.length c.tot c.lst d := by
  rw [isE, isE]
  have hb : c.inner.isEmpty = ((c.inner.length : Int) == 0) := by cases c.inner <;> simp; omega
  have h1 : decide (c.inner.length = 1) = ((c.inner.length : Int) == 1) := by rw [Bool.eq_iff_iff]; simp; omega
  have h2 : decide (1 ≤ c.inner.length ∧ c.inner.length ≤ 16) = (decide (1 ≤ (c.inner.length : Int)) && decide ((c.inner.length : Int) ≤ 16)) := by rw [Bool.eq_iff_iff]; simp; omega
  have h3 : decide (1 ≤ c.lst ∧ c.lst ≤ c.tot) = (decide (1 ≤ c.lst) && decide (c.lst ≤ c.tot)) := by rw [Bool.eq_iff_iff]; simp
  have h4 : decide (c.lst = 0) = (c.lst == 0) := by rw [Bool.eq_iff_iff]; simp
  unfold fldV
  cases d with
  | zero =>
    unfold valN
    split
    · rw [hb]
    · simp
  | succ d =>
    have ha : c.inner.all (valN d) = true := by
      rcases h with h | ⟨d', he, h⟩
      · rw [h]; rfl
      · have : d' = d := by omega
        rw [← this]; exact h
    unfold valN
    split
    · rw [hb]
    · rw [if_neg (by omega), ha, Bool.and_true]
      congr 1
      unfold headOK
      rw [hb, h1, h2, h3, h4]
      split
      · rfl
      split
      · simp [Bool.and_assoc]
      split
      · rfl
      split
      · simp [Bool.and_assoc]
      split
      · simp [Bool.and_assoc]
      · rfl

set_option maxHeartbeats 8000000 in
set_option maxRecDepth 100000 in
theorem refValid_any {Q : Nat → Prop} : ∀ (d : Nat) (c : Con) (a : Option Addr) (n : Nat) (W : World), d ≤ 1000 → Tx c → CHas Q W (.slice a c.inner.length n) c.inner →
    Calls Tryd.prog 28 #[.agg #[.int .i64 c.kind, .string (bs c.id), .string (bs c.lab), .int .i64 c.slot, .int .i64 c.tot, .int .i64 c.lst, .slice a c.inner.length n], .int .i64 (d : Int)] W fun r w' => r = .returned (.bool (valN d c)) ∧ Kp [] W w' := by
  intro d c a n W hd hx hh
  induction d using Nat.strongRecOn generalizing c a n W with
  | _ d ih =>
  obtain ⟨w1, hw1⟩ : ∃ w1, W.alloc (.cells #[.int .i64 c.kind, .string (bs c.id), .string (bs c.lab), .int .i64 c.slot, .int .i64 c.tot, .int .i64 c.lst, .slice a c.inner.length n] 24) = w1 := ⟨_, rfl⟩
  have hb1 : Box c.kind (bs c.id) (bs c.lab) c.slot c.tot c.lst a c.inner.length n W.heap.size w1 := by rw [← hw1]; exact al_new _ _
  have hk1 : Kp [] W w1 := by rw [← hw1]; exact (Kp.refl [] W).alloc _
  obtain ⟨A, hA⟩ : ∃ A, W.heap.size = A := ⟨_, rfl⟩
  rw [hA] at hb1
  have B1 := Lib.hid hb1
  have K1 := Lib.hid hk1
  have HI := Lib.hid (fun W => refID_any (bs c.id) W hx.1)
  have HL := Lib.hid (fun W => refID_any (bs c.lab) W hx.2)
  have HH := Lib.hid hh
  have HFV := Lib.hid (fld_val d c)
  have IH := Lib.hid ih
  have hml : c.inner.length ≤ 9223372036854775807 := by
    rcases hh with ⟨hl, _⟩ | ⟨_, _, _, _, h2, h3, _⟩
    · rw [hl]; simp
    · unfold maxLen at h3; omega
  have HS := Lib.hid (show slotsOK c = (decide (1 ≤ c.tot) && decide (c.tot ≤ 16) && decide (1 ≤ c.slot) && decide (c.slot ≤ c.tot)) by unfold slotsOK; rw [Bool.eq_iff_iff]; simp; omega)
  have HN := Lib.hid (show none0 c = ((c.tot == 0) && (c.slot == 0) && (c.lst == 0)) by unfold none0; rw [Bool.eq_iff_iff]; simp; omega)
  have HVX : Hid (∃ V, valN d c = V) := Lib.hid ⟨_, rfl⟩
  clear hb1 hk1 hx hh ih
  rw [bs_data] at HI HL
  generalize slotsOK c = sB at *
  generalize none0 c = nB at *
  generalize isID c.id = iI at *
  generalize isID c.lab = iL at *
  go_enter Tryd.func28, Tryd.ntmps28
  go_wp2
  go_loopw [5] (fun s5 wx => ∃ i : Nat, i ≤ c.inner.length ∧ s5 = .int .i64 (i : Int) ∧ Kp [] W wx ∧ Box c.kind (bs c.id) (bs c.lab) c.slot c.tot c.lst a c.inner.length n A wx ∧ (i = 0 ∨ ∃ d', d = d' + 1 ∧ (c.inner.take i).all (valN d') = true)) (fun s5 _ => c.inner.length - (intOf s5).toNat)
  case atStart => exact ⟨0, Nat.zero_le _, rfl, K1.out, B1.out, .inl rfl⟩
  case round =>
    obtain ⟨i, hi, rfl, hkp, hbx, hall⟩ := hrel
    obtain ⟨c0, c1, c2, c3, c4, c5, c6⟩ := hbx.cells
    have KP := Lib.hid hkp
    have BX := Lib.hid hbx
    have HAL := Lib.hid hall
    clear hkp hbx hall
    by_cases hlt : i < c.inner.length
    · have hiz : (i : Int) < (c.inner.length : Int) := by omega
      have hne : c.inner ≠ [] := fun e => by rw [e] at hlt; simp at hlt
      by_cases hd0 : d = 0
      · have hdz : (d : Int) ≤ 0 := by omega
        have HF := Lib.hid (show valN d c = false by
          subst hd0
          unfold valN
          split
          · cases hcc : c.inner with
            | nil => exact absurd hcc hne
            | cons _ _ => simp
          · rfl)
        clear hne hd0
        go_wp2
        go_ret
        exact ⟨ret_b HF.out.symm, KP.out⟩
      · obtain ⟨d', hd'⟩ : ∃ d', d = d' + 1 := ⟨d - 1, by omega⟩
        have hdz : ¬ (d : Int) ≤ 0 := by omega
        have hz2 : IntKind.i64.wrap ((d : Int) - 1) = (d' : Int) := by rw [IntKind.wrap_i64]; omega
        obtain ⟨a', n', he, hrow⟩ := HH.out.form
        cases he
        obtain ⟨b, o, rfl, h1, h2, hq, hb, hr⟩ := hrow hne
        obtain ⟨x, hx⟩ : ∃ x, c.inner[i]? = some x := ⟨_, List.getElem?_eq_getElem hlt⟩
        have hroww := CRow.keep KP.out.size (fun k hk (hq : Q k) => ⟨hq, KP.out.block k hk (by simp)⟩) _ b o hq hb hr
        obtain ⟨v, hvx, htx, e0, e1, e2, e3, e4, e5, e6⟩ := hroww.cells hx
        obtain ⟨a2, n2, rfl, _⟩ := hvx.form
        have HC := Lib.hid (IH.out d' (by omega) x a2 n2 wr (by omega) htx hvx)
        have HX := Lib.hid hx
        have HD := Lib.hid hd'
        have HALL := Lib.hid (show (c.inner.take i).all (valN d') = true by
          rcases HAL.out with h | ⟨d2, h2, h⟩
          · rw [h]; rfl
          · have : d2 = d' := by omega
            rw [← this]; exact h)
        have hwi : IntKind.i64.wrap ((i : Int) + 1) = ((i + 1 : Nat) : Int) := by rw [IntKind.wrap_i64]; omega
        clear hx hroww hvx htx hr hrow h2 hq hd' hne hd0
        go_wp2_with fail
        refine HC.out.mono ?_
        rintro r w3 ⟨rfl, hk3⟩
        have K3 := Lib.hid (KP.out.trans hk3)
        have B3 := Lib.hid (BX.out.kp hk3 (by simp))
        clear hk3 hz2
        cases hq2 : valN d' x with
        | false =>
          have HF := Lib.hid (show valN d c = false by
            rw [HD.out]
            unfold valN
            split
            · cases hcc : c.inner with
              | nil => have := HX.out; rw [hcc] at this; simp at this
              | cons _ _ => simp
            · rw [all_false HX.out hq2]; simp)
          clear hq2
          go_wp2
          go_ret
          exact ⟨ret_b HF.out.symm, K3.out⟩
        | true =>
          have HQ2 := Lib.hid hq2
          clear hq2
          go_wp2
          exact ⟨⟨i + 1, by omega, rfl, K3.out, B3.out, .inr ⟨d', HD.out, all_take_succ HALL.out HX.out HQ2.out⟩⟩, by simp [intOf]; omega⟩
    · have hiz : ¬ ((i : Int) < (c.inner.length : Int)) := by omega
      have hie : i = c.inner.length := by omega
      have HF := Lib.hid (HFV.out (by
        rcases HAL.out with h | ⟨d2, h2, h⟩
        · exact .inl (List.length_eq_zero_iff.1 (by omega))
        · rw [hie, List.take_length] at h
          exact .inr ⟨d2, h2, h⟩))
      have HS2 := Lib.hid HS.out
      clear hie
      go_upto_region 6 with fail
      go_cut [6] (fun s6 wx => s6 = .bool sB ∧ wr = wx)
      case first =>
        go_wp2
        all_goals
          go_meet
          refine ⟨?_, rfl⟩
          rw [HS.out]
          exact congrArg Value.bool (by rw [Bool.eq_iff_iff]; simp <;> omega)
      case rest =>
      obtain ⟨rfl, rfl⟩ := hcut
      go_upto_region 7 with fail
      go_cut [7] (fun s7 wx => s7 = .bool nB ∧ wr = wx)
      case first =>
        cases z1 : c.tot == 0 with
        | false =>
          go_wp2
          go_meet
          exact ⟨congrArg Value.bool (by rw [HN.out, z1]; rfl), rfl⟩
        | true =>
        cases z2 : c.slot == 0 with
        | false =>
          go_wp2
          go_meet
          exact ⟨congrArg Value.bool (by rw [HN.out, z1, z2]; rfl), rfl⟩
        | true =>
        cases z3 : c.lst == 0 with
        | false =>
          go_wp2
          go_meet
          exact ⟨congrArg Value.bool (by rw [HN.out, z1, z2, z3]; rfl), rfl⟩
        | true =>
          go_wp2
          go_meet
          exact ⟨congrArg Value.bool (by rw [HN.out, z1, z2, z3]; rfl), rfl⟩
      case rest =>
      obtain ⟨rfl, rfl⟩ := hcut
      clear IH HH HFV HAL HS HN HS2 HVX B1 K1 BX
      by_cases k0 : c.kind = 0
      · have q0 : (c.kind == 0) = true := by simpa using k0
        have HG := Lib.hid (HF.out.trans (by unfold fldV; rw [if_pos k0]))
        clear k0
        go_wp2
        all_goals
          go_ret
          exact ⟨ret_b (by rw [HG.out]; simp_all <;> omega), KP.out⟩
      have q0 : (c.kind == 0) = false := by simpa using k0
      by_cases hd0 : d = 0
      · have hdz : (d : Int) ≤ 0 := by omega
        have HG := Lib.hid (HF.out.trans (by unfold fldV; rw [if_neg k0, if_pos hd0] : _ = false))
        have HG0 := Lib.hid (show valN 0 c = false by have := HG.out; rw [hd0] at this; exact this)
        clear k0 hd0
        go_wp2
        go_ret
        exact ⟨ret_b (by first | exact HG.out.symm | exact HG0.out.symm), KP.out⟩
      have hdz : ¬ (d : Int) ≤ 0 := by omega
      have HF1 := Lib.hid (HF.out.trans (by unfold fldV; rw [if_neg k0, if_neg hd0] : _ = (iI && (if c.kind = 1 then ((bs c.lab).toList.isEmpty || iL) && nB && ((c.inner.length : Int) == 0)
    else if c.kind = 2 then (bs c.lab).toList.isEmpty && sB && decide (1 ≤ c.lst) && decide (c.lst ≤ c.tot) && ((c.inner.length : Int) == 1)
    else if c.kind = 3 then (bs c.lab).toList.isEmpty && nB && ((c.inner.length : Int) == 1)
    else if c.kind = 4 then (bs c.lab).toList.isEmpty && sB && (c.lst == 0) && decide (1 ≤ (c.inner.length : Int)) && decide ((c.inner.length : Int) ≤ 16)
    else if c.kind = 5 then (bs c.lab).toList.isEmpty && nB && decide (1 ≤ (c.inner.length : Int)) && decide ((c.inner.length : Int) ≤ 16)
    else false))))
      clear k0 hd0 HF
      go_wp2_with fail
      refine (HI.out _).mono ?_
      rintro r w' ⟨rfl, rfl⟩
      cases iI with
      | false =>
        go_wp2
        go_ret
        exact ⟨ret_b (by rw [HF1.out]; rfl), KP.out⟩
      | true =>
      by_cases k1 : c.kind = 1
      · have q1 : (c.kind == 1) = true := by simpa using k1
        have HG := Lib.hid (HF1.out.trans (by rw [if_pos k1, Bool.true_and]))
        clear k1
        go_wp2_with (go_at_call 39; refine (HL.out _).mono ?_; rintro r w' ⟨rfl, rfl⟩)
        all_goals
          go_ret
          exact ⟨ret_b (by rw [HG.out]; simp_all <;> omega), KP.out⟩
      have q1 : (c.kind == 1) = false := by simpa using k1
      by_cases k2 : c.kind = 2
      · have q2 : (c.kind == 2) = true := by simpa using k2
        have HG := Lib.hid (HF1.out.trans (by rw [if_neg k1, if_pos k2, Bool.true_and]))
        clear k2
        go_wp2
        all_goals
          go_ret
          exact ⟨ret_b (by rw [HG.out]; simp_all <;> omega), KP.out⟩
      have q2 : (c.kind == 2) = false := by simpa using k2
      by_cases k3 : c.kind = 3
      · have q3 : (c.kind == 3) = true := by simpa using k3
        have HG := Lib.hid (HF1.out.trans (by rw [if_neg k1, if_neg k2, if_pos k3, Bool.true_and]))
        clear k3
        go_wp2
        all_goals
          go_ret
          exact ⟨ret_b (by rw [HG.out]; simp_all <;> omega), KP.out⟩
      have q3 : (c.kind == 3) = false := by simpa using k3
      by_cases k4 : c.kind = 4
      · have q4 : (c.kind == 4) = true := by simpa using k4
        have HG := Lib.hid (HF1.out.trans (by rw [if_neg k1, if_neg k2, if_neg k3, if_pos k4, Bool.true_and]))
        clear k4
        go_wp2
        all_goals
          go_ret
          exact ⟨ret_b (by rw [HG.out]; simp_all <;> omega), KP.out⟩
      have q4 : (c.kind == 4) = false := by simpa using k4
      by_cases k5 : c.kind = 5
      · have q5 : (c.kind == 5) = true := by simpa using k5
        have HG := Lib.hid (HF1.out.trans (by rw [if_neg k1, if_neg k2, if_neg k3, if_neg k4, if_pos k5, Bool.true_and]))
        clear k5
        go_wp2
        all_goals
          go_ret
          exact ⟨ret_b (by rw [HG.out]; simp_all <;> omega), KP.out⟩
      have q5 : (c.kind == 5) = false := by simpa using k5
      have HG := Lib.hid (HF1.out.trans (by rw [if_neg k1, if_neg k2, if_neg k3, if_neg k4, if_neg k5]; rfl : _ = false))
      go_wp2
      go_ret
      exact ⟨ret_b HG.out.symm, KP.out⟩

set_option maxHeartbeats 1000000 in
set_option maxRecDepth 100000 in
theorem refValidOf_any {Q : Nat → Prop} (c : Con) (a : Option Addr) (n : Nat) (W : World) (hx : Tx c) (hh : CHas Q W (.slice a c.inner.length n) c.inner) :
    Calls Tryd.prog 13 #[.agg #[.int .i64 c.kind, .string (bs c.id), .string (bs c.lab), .int .i64 c.slot, .int .i64 c.tot, .int .i64 c.lst, .slice a c.inner.length n]] W fun r w' => r = .returned (.bool (valN 6 c)) ∧ Kp [] W w' := by
  obtain ⟨w1, hw1⟩ : ∃ w1, W.alloc (.cells #[.int .i64 c.kind, .string (bs c.id), .string (bs c.lab), .int .i64 c.slot, .int .i64 c.tot, .int .i64 c.lst, .slice a c.inner.length n] 24) = w1 := ⟨_, rfl⟩
  have hk1 : Kp [] W w1 := by rw [← hw1]; exact (Kp.refl [] W).alloc _
  obtain ⟨f0, f1, f2, f3, f4, f5, f6⟩ := (show Box c.kind (bs c.id) (bs c.lab) c.slot c.tot c.lst a c.inner.length n W.heap.size w1 by rw [← hw1]; exact al_new _ _).cells
  have HC := Lib.hid (refValid_any 6 c a n w1 (by omega) hx (kp_has hh hk1))
  have K1 := Lib.hid hk1
  clear hk1 hh hx
  go_enter Tryd.func13, Tryd.ntmps13
  go_wp2_with fail
  refine HC.out.mono ?_
  rintro r w3 ⟨rfl, hk3⟩
  have K3 := Lib.hid (K1.out.trans hk3)
  clear hk3
  go_wp2
  go_ret
  exact ⟨rfl, K3.out⟩
end Go.Proofs.YtoohnjlghjapnaaDoor
