/- The reference's depth. -/
import Derived.Test.YtoohnjlghjapnaaDoorP
namespace Go.Proofs.YtoohnjlghjapnaaDoor
open Go.RowKit

set_option maxHeartbeats 4000000 in
set_option maxRecDepth 100000 in
theorem refDepth_any {Q : Nat → Prop} : ∀ (d : Nat) (c : Con) (a : Option Addr) (n : Nat) (W : World), d ≤ 1000 → valN d c = true → CHas Q W (.slice a c.inner.length n) c.inner →
    Calls Tryd.prog 21 #[.agg #[.int .i64 c.kind, .string (bs c.id), .string (bs c.lab), .int .i64 c.slot, .int .i64 c.tot, .int .i64 c.lst, .slice a c.inner.length n]] W fun r w' => r = .returned (.int .i64 (c.dep : Int)) ∧ Kp [] W w' := by
  intro d c a n W hd hv hh
  induction d using Nat.strongRecOn generalizing c a n W with
  | _ d ih =>
  obtain ⟨w1, hw1⟩ : ∃ w1, W.alloc (.cells #[.int .i64 c.kind, .string (bs c.id), .string (bs c.lab), .int .i64 c.slot, .int .i64 c.tot, .int .i64 c.lst, .slice a c.inner.length n] 24) = w1 := ⟨_, rfl⟩
  have hk1 : Kp [] W w1 := by rw [← hw1]; exact (Kp.refl [] W).alloc _
  have hb1 : Box c.kind (bs c.id) (bs c.lab) c.slot c.tot c.lst a c.inner.length n W.heap.size w1 := by rw [← hw1]; exact al_new _ _
  obtain ⟨A, hA⟩ : ∃ A, W.heap.size = A := ⟨_, rfl⟩
  rw [hA] at hb1
  have K1 := Lib.hid hk1
  have B1 := Lib.hid hb1
  have HDE := Lib.hid (dep_eq c)
  have HB : Hid (∀ j, depL (c.inner.take j) ≤ 1000) := Lib.hid fun j => by
    have hall : c.inner.all (valN (d - 1)) = true := by
      have := fit_val d c
      rw [hv] at this
      have := this.symm
      simp only [Bool.and_eq_true] at this
      exact this.2
    have := depL_bound (l := c.inner.take j) (d := d - 1) (List.all_eq_true.2 fun x hx => List.all_eq_true.1 hall x (List.mem_of_mem_take hx))
    omega
  have hml : c.inner.length ≤ 9223372036854775807 := by
    rcases hh with ⟨hl, _⟩ | ⟨_, _, _, _, h2, h3, _⟩
    · rw [hl]; simp
    · unfold maxLen at h3; omega
  have HH := Lib.hid hh
  have HV := Lib.hid hv
  have IH := Lib.hid ih
  clear hk1 hb1 hv ih hh
  go_enter Tryd.func21, Tryd.ntmps21
  go_wp2
  go_loopw [3, 4] (fun s3 s4 wx => ∃ i : Nat, i ≤ c.inner.length ∧ s4 = .int .i64 (i : Int) ∧ s3 = .int .i64 ((depL (c.inner.take i) : Nat) : Int) ∧ Kp [] W wx ∧ Box c.kind (bs c.id) (bs c.lab) c.slot c.tot c.lst a c.inner.length n A wx) (fun _ s4 _ => c.inner.length - (intOf s4).toNat)
  case atStart => exact ⟨0, Nat.zero_le _, rfl, by simp [depL], K1.out, B1.out⟩
  case round =>
    obtain ⟨i, hi, rfl, rfl, hkp, hbx⟩ := hrel
    obtain ⟨c0, c1, c2, c3, c4, c5, c6⟩ := hbx.cells
    have KP := Lib.hid hkp
    have BX := Lib.hid hbx
    have hdt := HB.out i
    clear hkp hbx
    by_cases hlt : i < c.inner.length
    · have hiz : (i : Int) < (c.inner.length : Int) := by omega
      have hne : c.inner ≠ [] := fun e => by rw [e] at hlt; simp at hlt
      obtain ⟨a', n', he, hrow⟩ := HH.out.form
      cases he
      obtain ⟨b, o, rfl, h1, h2, hq, hb, hr⟩ := hrow hne
      obtain ⟨x, hx⟩ : ∃ x, c.inner[i]? = some x := ⟨_, List.getElem?_eq_getElem hlt⟩
      have hroww := CRow.keep KP.out.size (fun k hk (hq : Q k) => ⟨hq, KP.out.block k hk (by simp)⟩) _ b o hq hb hr
      obtain ⟨v, hvx, htx, e0, e1, e2, e3, e4, e5, e6⟩ := hroww.cells hx
      obtain ⟨a2, n2, rfl, _⟩ := hvx.form
      obtain ⟨hk0, d', hd', hvx2⟩ := valN_inner HV.out (List.mem_of_getElem? hx)
      have HC := Lib.hid (IH.out d' (by omega) x a2 n2 wr (by omega) hvx2 hvx)
      have hxd := valN_dep d' x hvx2
      have HS := Lib.hid (depL_snoc hx)
      have hwi : IntKind.i64.wrap ((i : Int) + 1) = ((i + 1 : Nat) : Int) := by rw [IntKind.wrap_i64]; omega
      clear hx hroww hvx htx hr hrow h2 hq hne hd' hvx2 hk0
      generalize x.dep = xd at *
      generalize depL (c.inner.take i) = dl at *
      go_wp2_with fail
      refine HC.out.mono ?_
      rintro r w3 ⟨rfl, hk3⟩
      have K3 := Lib.hid (KP.out.trans hk3)
      have B3 := Lib.hid (BX.out.kp hk3 (by simp))
      clear hk3
      go_wp2
      exact ⟨⟨i + 1, by omega, rfl, by rw [HS.out]; congr 1; omega, K3.out, B3.out⟩, by simp [intOf]; omega⟩
    · have hiz : ¬ ((i : Int) < (c.inner.length : Int)) := by omega
      have hie : i = c.inner.length := by omega
      have HS := Lib.hid (show depL (c.inner.take i) = depL c.inner by rw [hie, List.take_length])
      generalize depL (c.inner.take i) = dl at *
      by_cases hk0 : c.kind = 0
      · have q0 : (c.kind == 0) = true := by simpa using hk0
        have HR := Lib.hid (HDE.out.trans (if_pos hk0))
        clear hk0
        go_wp2
        go_ret
        rw [HR.out]
        exact ⟨rfl, KP.out⟩
      · have q0 : (c.kind == 0) = false := by simpa using hk0
        have HR := Lib.hid (HDE.out.trans (if_neg hk0))
        clear hk0
        go_wp2
        go_ret
        rw [HR.out, ← HS.out]
        exact ⟨ret_int (by omega), KP.out⟩
end Go.Proofs.YtoohnjlghjapnaaDoor
