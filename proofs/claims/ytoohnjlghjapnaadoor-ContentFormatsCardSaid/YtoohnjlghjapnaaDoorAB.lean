/- The reference's Format. -/
import Derived.Test.YtoohnjlghjapnaaDoorR
import Derived.Test.YtoohnjlghjapnaaDoorZ
namespace Go.Proofs.YtoohnjlghjapnaaDoor
open Go.RowKit

set_option maxHeartbeats 2000000 in
set_option maxRecDepth 100000 in
/-- The reference's Format. -/
theorem refFormat_any {Q : Nat → Prop} (c : Con) (a : Option Addr) (n : Nat) (W : World) (hx : Tx c) (hh : CHas Q W (.slice a c.inner.length n) c.inner) :
    Calls Tryd.prog 12 #[.agg #[.int .i64 c.kind, .string (bs c.id), .string (bs c.lab), .int .i64 c.slot, .int .i64 c.tot, .int .i64 c.lst, .slice a c.inner.length n]] W fun r w' => r = .returned (.tuple #[.string (bs (fmtS c)), .int .i64 (fmtE c)]) ∧ Kp [] W w' := by
  obtain ⟨w1, hw1⟩ : ∃ w1, W.alloc (.cells #[.int .i64 c.kind, .string (bs c.id), .string (bs c.lab), .int .i64 c.slot, .int .i64 c.tot, .int .i64 c.lst, .slice a c.inner.length n] 24) = w1 := ⟨_, rfl⟩
  have hk1 : Kp [] W w1 := by rw [← hw1]; exact (Kp.refl [] W).alloc _
  have hb1 : Box c.kind (bs c.id) (bs c.lab) c.slot c.tot c.lst a c.inner.length n W.heap.size w1 := by rw [← hw1]; exact al_new _ _
  obtain ⟨A, hA⟩ : ∃ A, W.heap.size = A := ⟨_, rfl⟩
  rw [hA] at hb1
  obtain ⟨c0, c1, c2, c3, c4, c5, c6⟩ := hb1.cells
  have HC := Lib.hid (refValidOf_any c a n w1 hx (kp_has hh hk1))
  have K1 := Lib.hid hk1
  have B1 := Lib.hid hb1
  have HH := Lib.hid (kp_has hh hk1)
  by_cases hv : valN 6 c = true
  · have HT := Lib.hid (fun W h => refText_any 6 (Nat.le_refl _) Q c a n W hv h)
    have htl := Nat.le_trans (txt_len 6 c hv) (tlen6 6 (Nat.le_refl _))
    have hts : (bs c.txt).size = c.txt.length := rfl
    rw [hv] at HC
    by_cases hl : c.txt.length ≤ 256
    · have h1 : fmtS c = c.txt := if_pos ⟨hv, hl⟩
      have h2 : fmtE c = 0 := by unfold fmtE; rw [if_pos hv, if_pos hl]
      rw [h1, h2]
      have hl2 : ¬ (256 : Int) < ((bs c.txt).size : Int) := by rw [hts]; omega
      have hl3 : ((bs c.txt).size : Int) ≤ 256 := by rw [hts]; omega
      generalize bs c.txt = R at *
      clear hk1 hb1 hx hh hv h1 h2 hl hts htl
      go_enter Tryd.func12, Tryd.ntmps12
      go_wp2_with fail
      refine HC.out.mono ?_
      rintro r w2 ⟨rfl, hk2⟩
      obtain ⟨d0, d1, d2, d3, d4, d5, d6⟩ := (B1.out.kp hk2 (by simp)).cells
      have HC2 := Lib.hid (HT.out w2 (kp_has HH.out hk2))
      have K2 := Lib.hid (K1.out.trans hk2)
      clear hk2 c0 c1 c2 c3 c4 c5 c6
      go_wp2_with fail
      refine HC2.out.mono ?_
      rintro r w3 ⟨rfl, hk3⟩
      have K3 := Lib.hid (K2.out.trans hk3)
      clear hk3
      go_wp2
      go_ret2
      exact ⟨rfl, K3.out⟩
    · have h1 : fmtS c = [] := if_neg fun h => hl h.2
      have h2 : fmtE c = 71 := by unfold fmtE; rw [if_pos hv, if_neg hl]
      rw [h1, h2]
      have hl2 : (256 : Int) < ((bs c.txt).size : Int) := by rw [hts]; omega
      generalize bs c.txt = R at *
      clear hk1 hb1 hx hh hv h1 h2 hl hts htl
      go_enter Tryd.func12, Tryd.ntmps12
      go_wp2_with fail
      refine HC.out.mono ?_
      rintro r w2 ⟨rfl, hk2⟩
      obtain ⟨d0, d1, d2, d3, d4, d5, d6⟩ := (B1.out.kp hk2 (by simp)).cells
      have HC2 := Lib.hid (HT.out w2 (kp_has HH.out hk2))
      have K2 := Lib.hid (K1.out.trans hk2)
      clear hk2 c0 c1 c2 c3 c4 c5 c6
      go_wp2_with fail
      refine HC2.out.mono ?_
      rintro r w3 ⟨rfl, hk3⟩
      have K3 := Lib.hid (K2.out.trans hk3)
      clear hk3
      go_wp2
      go_ret2
      exact ⟨rfl, K3.out⟩
  · have h1 : fmtS c = [] := if_neg fun h => hv h.1
    have h2 : fmtE c = 70 := by unfold fmtE; rw [if_neg hv]
    have hv2 : valN 6 c = false := by simpa using hv
    rw [h1, h2]
    rw [hv2] at HC
    clear hk1 hb1 hx hh hv hv2 h1 h2
    go_enter Tryd.func12, Tryd.ntmps12
    go_wp2_with fail
    refine HC.out.mono ?_
    rintro r w2 ⟨rfl, hk2⟩
    have K2 := Lib.hid (K1.out.trans hk2)
    clear hk2 c0 c1 c2 c3 c4 c5 c6
    go_wp2
    go_ret2
    exact ⟨rfl, K2.out⟩
end Go.Proofs.YtoohnjlghjapnaaDoor
