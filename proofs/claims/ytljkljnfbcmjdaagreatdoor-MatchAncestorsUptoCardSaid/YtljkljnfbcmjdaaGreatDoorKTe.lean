/- A term that is drawn, of a match or an assignment. -/
import Derived.Test.YtljkljnfbcmjdaaGreatDoorKGt
open Go.Lib renaming hid → qH
namespace Go.Proofs.YtljkljnfbcmjdaaGreatDoor
open Go.RowKit
set_option maxRecDepth 100000 in
set_option maxHeartbeats 8000000 in
theorem term_any {w : World} {tb k : Nat} (hk : k ≤ 800000) (h : Tp w tb k) : Calls Tryz.prog 19 #[.pointer (some ⟨tb, 0, none⟩)] w fun e w' => ∃ t : Tm, e = .returned (.agg (tmC t)) ∧ GoodT t ∧ Tq w' tb (k + 11) ∧ Kp [tb] w w' := by
 obtain ⟨W0, hW⟩ : ∃ W0, w.alloc (.cells #[.int .i64 0, .string ⟨#[]⟩, .int .i64 0, .string ⟨#[]⟩] 46) = W0 := ⟨_, rfl⟩
 obtain ⟨R, hR⟩ : ∃ R, w.heap.size = R := ⟨_, rfl⟩
 have hk0 : Kp [tb] w W0 := by rw [← hW]; exact (Kp.refl [tb] w).alloc _
 have hr0 : MAt W0 R tm0 := by rw [← hW, ← hR]; exact MAt.new w tm0
 have hT0 : Tp W0 tb k := by rw [← hW]; exact h.kp ((Kp.refl [] w).alloc _) (by simp)
 have HRT := qH (show ¬ R = tb by have := h.lt; omega)
 have HRL := qH (show tb < R by have := h.lt; omega)
 have HRW := qH (show w.heap.size ≤ R by omega)
 obtain ⟨t0, t1, t2, t3⟩ := hr0.cells
 have ft := fun o => hr0.frz (o := o)
 have HR := qH hr0
 have HK := qH hk0
 have HT := qH hT0
 clear hk0 hr0 hT0 h
 go_enter Tryz.func19, Tryz.ntmps19
 go_upto_if 5 with (go_at_call 16; refine Calls.mono (by with_reducible exact nextL8 (by omega) HT.out) ?_; rintro e w2 ⟨r, hr, rfl, ht, hkp⟩; have HR := qH (HR.out.kp hkp (by simp; exact HRT.out)); obtain ⟨t0, t1, t2, t3⟩ := HR.out.cells; have ft := fun o => HR.out.frz (o := o); have HK := qH (HK.out.trans hkp); have HT := qH ht; clear ht hkp)
 by_cases hr0 : r = 0
 ·subst hr0
  go_wp2_with (go_at_call 48; refine Calls.mono (by with_reducible exact assigns_any (by omega) HT.out) ?_; rintro e w3 ⟨⟨tk, tn, op, tv⟩, rfl, hg, ⟨k3, hk3, ht⟩, hkp⟩; have HR := qH (HR.out.kp hkp (by simp; exact HRT.out)); obtain ⟨t0, t1, t2, t3⟩ := HR.out.cells; have ft := fun o => HR.out.frz (o := o); have HK := qH (HK.out.trans hkp); have HT := qH ht; clear ht hkp; have HG := qH hg; clear hg; dsimp only [tmC])
  refine tm_end Tryz.results19 (x := ⟨tk, tn, op, tv⟩) (HR.out.all ⟨tk, tn, op, tv⟩) rfl rfl ⟨_, rfl, HG.out, ⟨_, by omega, HT.out.put4 HRL.out _ _ _ _⟩, (((HK.out.setCell (.inr HRW.out) _).setCell (.inr HRW.out) _).setCell (.inr HRW.out) _).setCell (.inr HRW.out) _⟩
 ·have hr' : ¬ ((r : Int) = 0) := by omega
  go_wp2_with (go_at_call 49; refine Calls.mono (by with_reducible exact matches_any (by omega) HT.out) ?_; rintro e w3 ⟨⟨tk, tn, op, tv⟩, rfl, hg, ⟨k3, hk3, ht⟩, hkp⟩; have HR := qH (HR.out.kp hkp (by simp; exact HRT.out)); obtain ⟨t0, t1, t2, t3⟩ := HR.out.cells; have ft := fun o => HR.out.frz (o := o); have HK := qH (HK.out.trans hkp); have HT := qH ht; clear ht hkp; have HG := qH hg; clear hg; dsimp only [tmC])
  refine tm_end Tryz.results19 (x := ⟨tk, tn, op, tv⟩) (HR.out.all ⟨tk, tn, op, tv⟩) rfl rfl ⟨_, rfl, HG.out, ⟨_, by omega, HT.out.put4 HRL.out _ _ _ _⟩, (((HK.out.setCell (.inr HRW.out) _).setCell (.inr HRW.out) _).setCell (.inr HRW.out) _).setCell (.inr HRW.out) _⟩
end Go.Proofs.YtljkljnfbcmjdaaGreatDoor
