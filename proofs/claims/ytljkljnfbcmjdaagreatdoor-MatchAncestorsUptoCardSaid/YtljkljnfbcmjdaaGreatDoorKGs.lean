/- Matches. -/
import Derived.Test.YtljkljnfbcmjdaaGreatDoorKGr
import Derived.Deep.DeepCutAuto
import Derived.Deep.CutBlock
open Go.Lib renaming hid → qH
open Go.Calls renaming mono → cM
namespace Go.Proofs.YtljkljnfbcmjdaaGreatDoor
open Go.RowKit
theorem Tp.put4 {w : World} {tb k R : Nat} (h : Tp w tb k) (hR : tb < R) (a b c d : Value) : Tp ((((w.setCell ⟨R, 0, none⟩ a).setCell ⟨R, 1, none⟩ b).setCell ⟨R, 2, none⟩ c).setCell ⟨R, 3, none⟩ d) tb k := by
 have e : ∀ g, g ≠ R → ((((w.setCell ⟨R, 0, none⟩ a).setCell ⟨R, 1, none⟩ b).setCell ⟨R, 2, none⟩ c).setCell ⟨R, 3, none⟩ d).heap[g]? = w.heap[g]? := fun g hg => by
  rw [Below.heap_setCell _ _ _ _ hg, Below.heap_setCell _ _ _ _ hg, Below.heap_setCell _ _ _ _ hg, Below.heap_setCell _ _ _ _ hg]
 exact h.keep fun g hg => by
  by_cases hgr : g = R
  ·omega
  ·exact e g hgr
def GoodT (t : Tm) : Prop := SmT t ∧ 1 ≤ t.key ∧ t.key ≤ 22
theorem goodT_mk (K : Int) (nm : List UInt8) (o : Int) (xb : List UInt8) (h1 : nm.length ≤ 300) (h2 : xb.length ≤ 300) (h3 : 1 ≤ K) (h4 : K ≤ 22) : GoodT ⟨K, nm, o, xb⟩ := ⟨⟨by show nm.length ≤ _; omega, by show xb.length ≤ _; omega⟩, h3, h4⟩
def Tq (w : World) (tb n : Nat) : Prop := ∃ k', k' ≤ n ∧ Tp w tb k'
theorem nextL2 {w : World} {tb k : Nat} (hk : k ≤ 1000000) (h : Tp w tb k) : Calls Tryz.prog 16 #[.pointer (some ⟨tb, 0, none⟩), .int .i64 2] w fun e w' => ∃ r : Nat, r < 2 ∧ e = .returned (.int .i64 r) ∧ Tp w' tb (k + 1) ∧ Kp [tb] w w' := next_kp 2 (by decide) (by decide) hk h
theorem nextL3 {w : World} {tb k : Nat} (hk : k ≤ 1000000) (h : Tp w tb k) : Calls Tryz.prog 16 #[.pointer (some ⟨tb, 0, none⟩), .int .i64 3] w fun e w' => ∃ r : Nat, r < 3 ∧ e = .returned (.int .i64 r) ∧ Tp w' tb (k + 1) ∧ Kp [tb] w w' := next_kp 3 (by decide) (by decide) hk h
theorem nextL4 {w : World} {tb k : Nat} (hk : k ≤ 1000000) (h : Tp w tb k) : Calls Tryz.prog 16 #[.pointer (some ⟨tb, 0, none⟩), .int .i64 4] w fun e w' => ∃ r : Nat, r < 4 ∧ e = .returned (.int .i64 r) ∧ Tp w' tb (k + 1) ∧ Kp [tb] w w' := next_kp 4 (by decide) (by decide) hk h
theorem nextL8 {w : World} {tb k : Nat} (hk : k ≤ 1000000) (h : Tp w tb k) : Calls Tryz.prog 16 #[.pointer (some ⟨tb, 0, none⟩), .int .i64 8] w fun e w' => ∃ r : Nat, r < 8 ∧ e = .returned (.int .i64 r) ∧ Tp w' tb (k + 1) ∧ Kp [tb] w w' := next_kp 8 (by decide) (by decide) hk h
theorem nextL9 {w : World} {tb k : Nat} (hk : k ≤ 1000000) (h : Tp w tb k) : Calls Tryz.prog 16 #[.pointer (some ⟨tb, 0, none⟩), .int .i64 9] w fun e w' => ∃ r : Nat, r < 9 ∧ e = .returned (.int .i64 r) ∧ Tp w' tb (k + 1) ∧ Kp [tb] w w' := next_kp 9 (by decide) (by decide) hk h
theorem nextL14 {w : World} {tb k : Nat} (hk : k ≤ 1000000) (h : Tp w tb k) : Calls Tryz.prog 16 #[.pointer (some ⟨tb, 0, none⟩), .int .i64 14] w fun e w' => ∃ r : Nat, r < 14 ∧ e = .returned (.int .i64 r) ∧ Tp w' tb (k + 1) ∧ Kp [tb] w w' := next_kp 14 (by decide) (by decide) hk h
theorem nextL16 {w : World} {tb k : Nat} (hk : k ≤ 1000000) (h : Tp w tb k) : Calls Tryz.prog 16 #[.pointer (some ⟨tb, 0, none⟩), .int .i64 16] w fun e w' => ∃ r : Nat, r < 16 ∧ e = .returned (.int .i64 r) ∧ Tp w' tb (k + 1) ∧ Kp [tb] w w' := next_kp 16 (by decide) (by decide) hk h
set_option maxRecDepth 100000 in
set_option maxHeartbeats 16000000 in
theorem matches_any {w : World} {tb k : Nat} (hk : k ≤ 900000) (h : Tp w tb k) : Calls Tryz.prog 49 #[.pointer (some ⟨tb, 0, none⟩)] w fun e w' => ∃ t : Tm, e = .returned (.agg (tmC t)) ∧ GoodT t ∧ Tq w' tb (k + 6) ∧ Kp [tb] w w' := by
 obtain ⟨W0, hW⟩ : ∃ W0, w.alloc (.cells #[.int .i64 0, .string ⟨#[]⟩, .int .i64 0, .string ⟨#[]⟩] 46) = W0 := ⟨_, rfl⟩
 obtain ⟨R, hR⟩ : ∃ R, w.heap.size = R := ⟨_, rfl⟩
 have hk0 : Kp [tb] w W0 := by rw [← hW]; exact (Kp.refl [tb] w).alloc _
 have hr0 : MAt W0 R tm0 := by rw [← hW, ← hR]; exact MAt.new w tm0
 have hT0 : Tp W0 tb k := by rw [← hW]; exact h.kp ((Kp.refl [] w).alloc _) (by simp)
 have HRT := qH (show ¬ R = tb by have := h.lt; omega)
 have HRL := qH (show tb < R by have := h.lt; omega)
 have HRW := qH (show w.heap.size ≤ R by omega)
 obtain ⟨t0, t1, t2, t3⟩ := hr0.cells
 have ft := fun o => hr0.frz (o := o)
 have HR := qH hr0
 have HK := qH hk0
 have HT := qH hT0
 clear hk0 hr0 hT0 h
 go_enter Tryz.func49, Tryz.ntmps49
 go_upto_if 6 with (first
  | (go_at_call 16; refine cM (by with_reducible exact nextL4 (by omega) HT.out) ?_; rintro e w2 ⟨r, hr, rfl, ht, hkp⟩; have HR := qH (HR.out.kp hkp (by simp; exact HRT.out)); obtain ⟨t0, t1, t2, t3⟩ := HR.out.cells; have ft := fun o => HR.out.frz (o := o); have HK := qH (HK.out.trans hkp); have HT := qH ht; clear ht hkp))
 go_cut [3] (fun s3 wx => ∃ o : Int, s3 = .int .i64 o ∧ (o = 1 ∨ o = 2) ∧ wx = w2)
 case first =>
  by_cases hr : r = 0
  ·subst hr
   go_wp2
   go_meet
   exact ⟨2, rfl, .inr rfl, rfl⟩
  ·have hr' : ¬ ((r : Int) = 0) := by omega
   go_wp2
   go_meet
   exact ⟨1, rfl, .inl rfl, rfl⟩
 obtain ⟨o, rfl, ho, rfl⟩ := hcut
 clear hr
 go_upto_region 5 with (first
  | (go_at_call 16; refine cM (by with_reducible exact nextL16 (by omega) HT.out) ?_; rintro e w3 ⟨r, hr, rfl, ht, hkp⟩; have HR := qH (HR.out.kp hkp (by simp; exact HRT.out)); obtain ⟨t0, t1, t2, t3⟩ := HR.out.cells; have ft := fun o => HR.out.frz (o := o); have HK := qH (HK.out.trans hkp); have HT := qH ht; clear ht hkp))
 have hc : r = 0 ∨ r = 1 ∨ r = 2 ∨ r = 3 ∨ r = 4 ∨ r = 5 ∨ r = 6 ∨ r = 7 ∨ r = 8 ∨ r = 9 ∨ r = 10 ∨ r = 11 ∨ r = 12 ∨ r = 13 ∨ r = 14 ∨ r = 15 := by omega
 clear hr
 rcases hc with rfl | rfl | rfl | rfl | rfl | rfl | rfl | rfl | rfl | rfl | rfl | rfl | rfl | rfl | rfl | rfl
 ·go_wp2_with (first
   | (go_at_call 20; refine cM (by with_reducible exact oneM0 (by omega) HT.out _ rfl) ?_; rintro e w5 ⟨xb, hxb, rfl, ht, hkp⟩; have HR := qH (HR.out.kp hkp (by simp; exact HRT.out)); obtain ⟨t0, t1, t2, t3⟩ := HR.out.cells; have ft := fun o => HR.out.frz (o := o); have HK := qH (HK.out.trans hkp); have HT := qH ht; clear ht hkp))
  refine tm_end Tryz.results49 (x := ⟨1, [], o, xb⟩) (HR.out.all ⟨1, [], o, xb⟩) rfl rfl ⟨_, rfl, goodT_mk 1 [] o xb (by decide) hxb (by decide) (by decide), ⟨_, by omega, HT.out.put4 HRL.out _ _ _ _⟩, (((HK.out.setCell (.inr HRW.out) _).setCell (.inr HRW.out) _).setCell (.inr HRW.out) _).setCell (.inr HRW.out) _⟩
 ·go_wp2_with (first
   | (go_at_call 20; refine cM (by with_reducible exact oneM1 (by omega) HT.out _ rfl) ?_; rintro e w5 ⟨xb, hxb, rfl, ht, hkp⟩; have HR := qH (HR.out.kp hkp (by simp; exact HRT.out)); obtain ⟨t0, t1, t2, t3⟩ := HR.out.cells; have ft := fun o => HR.out.frz (o := o); have HK := qH (HK.out.trans hkp); have HT := qH ht; clear ht hkp))
  refine tm_end Tryz.results49 (x := ⟨2, [], o, xb⟩) (HR.out.all ⟨2, [], o, xb⟩) rfl rfl ⟨_, rfl, goodT_mk 2 [] o xb (by decide) hxb (by decide) (by decide), ⟨_, by omega, HT.out.put4 HRL.out _ _ _ _⟩, (((HK.out.setCell (.inr HRW.out) _).setCell (.inr HRW.out) _).setCell (.inr HRW.out) _).setCell (.inr HRW.out) _⟩
 ·go_wp2_with (first
   | (go_at_call 20; refine cM (by with_reducible exact oneM1 (by omega) HT.out _ rfl) ?_; rintro e w5 ⟨xb, hxb, rfl, ht, hkp⟩; have HR := qH (HR.out.kp hkp (by simp; exact HRT.out)); obtain ⟨t0, t1, t2, t3⟩ := HR.out.cells; have ft := fun o => HR.out.frz (o := o); have HK := qH (HK.out.trans hkp); have HT := qH ht; clear ht hkp))
  refine tm_end Tryz.results49 (x := ⟨2, [], o, xb⟩) (HR.out.all ⟨2, [], o, xb⟩) rfl rfl ⟨_, rfl, goodT_mk 2 [] o xb (by decide) hxb (by decide) (by decide), ⟨_, by omega, HT.out.put4 HRL.out _ _ _ _⟩, (((HK.out.setCell (.inr HRW.out) _).setCell (.inr HRW.out) _).setCell (.inr HRW.out) _).setCell (.inr HRW.out) _⟩
 ·go_wp2_with (first
   | (go_at_call 20; refine cM (by with_reducible exact oneM2 (by omega) HT.out _ rfl) ?_; rintro e w5 ⟨xb, hxb, rfl, ht, hkp⟩; have HR := qH (HR.out.kp hkp (by simp; exact HRT.out)); obtain ⟨t0, t1, t2, t3⟩ := HR.out.cells; have ft := fun o => HR.out.frz (o := o); have HK := qH (HK.out.trans hkp); have HT := qH ht; clear ht hkp))
  refine tm_end Tryz.results49 (x := ⟨3, [], o, xb⟩) (HR.out.all ⟨3, [], o, xb⟩) rfl rfl ⟨_, rfl, goodT_mk 3 [] o xb (by decide) hxb (by decide) (by decide), ⟨_, by omega, HT.out.put4 HRL.out _ _ _ _⟩, (((HK.out.setCell (.inr HRW.out) _).setCell (.inr HRW.out) _).setCell (.inr HRW.out) _).setCell (.inr HRW.out) _⟩
 ·go_wp2_with (first
   | (go_at_call 20; refine cM (by with_reducible exact oneM2 (by omega) HT.out _ rfl) ?_; rintro e w5 ⟨xb, hxb, rfl, ht, hkp⟩; have HR := qH (HR.out.kp hkp (by simp; exact HRT.out)); obtain ⟨t0, t1, t2, t3⟩ := HR.out.cells; have ft := fun o => HR.out.frz (o := o); have HK := qH (HK.out.trans hkp); have HT := qH ht; clear ht hkp))
  refine tm_end Tryz.results49 (x := ⟨3, [], o, xb⟩) (HR.out.all ⟨3, [], o, xb⟩) rfl rfl ⟨_, rfl, goodT_mk 3 [] o xb (by decide) hxb (by decide) (by decide), ⟨_, by omega, HT.out.put4 HRL.out _ _ _ _⟩, (((HK.out.setCell (.inr HRW.out) _).setCell (.inr HRW.out) _).setCell (.inr HRW.out) _).setCell (.inr HRW.out) _⟩
 ·go_wp2_with (first
   | (go_at_call 20; refine cM (by with_reducible exact oneM3 (by omega) HT.out _ rfl) ?_; rintro e w5 ⟨xb, hxb, rfl, ht, hkp⟩; have HR := qH (HR.out.kp hkp (by simp; exact HRT.out)); obtain ⟨t0, t1, t2, t3⟩ := HR.out.cells; have ft := fun o => HR.out.frz (o := o); have HK := qH (HK.out.trans hkp); have HT := qH ht; clear ht hkp))
  refine tm_end Tryz.results49 (x := ⟨4, [], o, xb⟩) (HR.out.all ⟨4, [], o, xb⟩) rfl rfl ⟨_, rfl, goodT_mk 4 [] o xb (by decide) hxb (by decide) (by decide), ⟨_, by omega, HT.out.put4 HRL.out _ _ _ _⟩, (((HK.out.setCell (.inr HRW.out) _).setCell (.inr HRW.out) _).setCell (.inr HRW.out) _).setCell (.inr HRW.out) _⟩
 ·go_wp2_with (first
   | (go_at_call 20; refine cM (by with_reducible exact oneM4 (by omega) HT.out _ rfl) ?_; rintro e w4 ⟨xa, hxa, rfl, ht, hkp⟩; have HR := qH (HR.out.kp hkp (by simp; exact HRT.out)); obtain ⟨t0, t1, t2, t3⟩ := HR.out.cells; have ft := fun o => HR.out.frz (o := o); have HK := qH (HK.out.trans hkp); have HT := qH ht; clear ht hkp)
   | (go_at_call 20; refine cM (by with_reducible exact oneM5 (by omega) HT.out _ rfl) ?_; rintro e w5 ⟨xb, hxb, rfl, ht, hkp⟩; have HR := qH (HR.out.kp hkp (by simp; exact HRT.out)); obtain ⟨t0, t1, t2, t3⟩ := HR.out.cells; have ft := fun o => HR.out.frz (o := o); have HK := qH (HK.out.trans hkp); have HT := qH ht; clear ht hkp))
  refine tm_end Tryz.results49 (x := ⟨5, xa, o, xb⟩) (HR.out.all ⟨5, xa, o, xb⟩) rfl rfl ⟨_, rfl, goodT_mk 5 xa o xb (hxa) hxb (by decide) (by decide), ⟨_, by omega, HT.out.put4 HRL.out _ _ _ _⟩, (((HK.out.setCell (.inr HRW.out) _).setCell (.inr HRW.out) _).setCell (.inr HRW.out) _).setCell (.inr HRW.out) _⟩
 ·go_wp2_with (first
   | (go_at_call 20; refine cM (by with_reducible exact oneM6 (by omega) HT.out _ rfl) ?_; rintro e w4 ⟨xa, hxa, rfl, ht, hkp⟩; have HR := qH (HR.out.kp hkp (by simp; exact HRT.out)); obtain ⟨t0, t1, t2, t3⟩ := HR.out.cells; have ft := fun o => HR.out.frz (o := o); have HK := qH (HK.out.trans hkp); have HT := qH ht; clear ht hkp)
   | (go_at_call 20; refine cM (by with_reducible exact oneM7 (by omega) HT.out _ rfl) ?_; rintro e w5 ⟨xb, hxb, rfl, ht, hkp⟩; have HR := qH (HR.out.kp hkp (by simp; exact HRT.out)); obtain ⟨t0, t1, t2, t3⟩ := HR.out.cells; have ft := fun o => HR.out.frz (o := o); have HK := qH (HK.out.trans hkp); have HT := qH ht; clear ht hkp))
  refine tm_end Tryz.results49 (x := ⟨6, xa, o, xb⟩) (HR.out.all ⟨6, xa, o, xb⟩) rfl rfl ⟨_, rfl, goodT_mk 6 xa o xb (hxa) hxb (by decide) (by decide), ⟨_, by omega, HT.out.put4 HRL.out _ _ _ _⟩, (((HK.out.setCell (.inr HRW.out) _).setCell (.inr HRW.out) _).setCell (.inr HRW.out) _).setCell (.inr HRW.out) _⟩
 ·go_wp2_with (first
   | (go_at_call 20; refine cM (by with_reducible exact oneM8 (by omega) HT.out _ rfl) ?_; rintro e w5 ⟨xb, hxb, rfl, ht, hkp⟩; have HR := qH (HR.out.kp hkp (by simp; exact HRT.out)); obtain ⟨t0, t1, t2, t3⟩ := HR.out.cells; have ft := fun o => HR.out.frz (o := o); have HK := qH (HK.out.trans hkp); have HT := qH ht; clear ht hkp))
  refine tm_end Tryz.results49 (x := ⟨7, [], o, xb⟩) (HR.out.all ⟨7, [], o, xb⟩) rfl rfl ⟨_, rfl, goodT_mk 7 [] o xb (by decide) hxb (by decide) (by decide), ⟨_, by omega, HT.out.put4 HRL.out _ _ _ _⟩, (((HK.out.setCell (.inr HRW.out) _).setCell (.inr HRW.out) _).setCell (.inr HRW.out) _).setCell (.inr HRW.out) _⟩
 ·go_wp2_with (first
   | (go_at_call 20; refine cM (by with_reducible exact oneM9 (by omega) HT.out _ rfl) ?_; rintro e w5 ⟨xb, hxb, rfl, ht, hkp⟩; have HR := qH (HR.out.kp hkp (by simp; exact HRT.out)); obtain ⟨t0, t1, t2, t3⟩ := HR.out.cells; have ft := fun o => HR.out.frz (o := o); have HK := qH (HK.out.trans hkp); have HT := qH ht; clear ht hkp))
  refine tm_end Tryz.results49 (x := ⟨8, [], o, xb⟩) (HR.out.all ⟨8, [], o, xb⟩) rfl rfl ⟨_, rfl, goodT_mk 8 [] o xb (by decide) hxb (by decide) (by decide), ⟨_, by omega, HT.out.put4 HRL.out _ _ _ _⟩, (((HK.out.setCell (.inr HRW.out) _).setCell (.inr HRW.out) _).setCell (.inr HRW.out) _).setCell (.inr HRW.out) _⟩
 ·go_wp2_with (first
   | (go_at_call 20; refine cM (by with_reducible exact oneM10 (by omega) HT.out _ rfl) ?_; rintro e w5 ⟨xb, hxb, rfl, ht, hkp⟩; have HR := qH (HR.out.kp hkp (by simp; exact HRT.out)); obtain ⟨t0, t1, t2, t3⟩ := HR.out.cells; have ft := fun o => HR.out.frz (o := o); have HK := qH (HK.out.trans hkp); have HT := qH ht; clear ht hkp))
  refine tm_end Tryz.results49 (x := ⟨9, [], o, xb⟩) (HR.out.all ⟨9, [], o, xb⟩) rfl rfl ⟨_, rfl, goodT_mk 9 [] o xb (by decide) hxb (by decide) (by decide), ⟨_, by omega, HT.out.put4 HRL.out _ _ _ _⟩, (((HK.out.setCell (.inr HRW.out) _).setCell (.inr HRW.out) _).setCell (.inr HRW.out) _).setCell (.inr HRW.out) _⟩
 ·go_wp2_with (first
   | (go_at_call 20; refine cM (by with_reducible exact oneM11 (by omega) HT.out _ rfl) ?_; rintro e w5 ⟨xb, hxb, rfl, ht, hkp⟩; have HR := qH (HR.out.kp hkp (by simp; exact HRT.out)); obtain ⟨t0, t1, t2, t3⟩ := HR.out.cells; have ft := fun o => HR.out.frz (o := o); have HK := qH (HK.out.trans hkp); have HT := qH ht; clear ht hkp))
  refine tm_end Tryz.results49 (x := ⟨10, [], o, xb⟩) (HR.out.all ⟨10, [], o, xb⟩) rfl rfl ⟨_, rfl, goodT_mk 10 [] o xb (by decide) hxb (by decide) (by decide), ⟨_, by omega, HT.out.put4 HRL.out _ _ _ _⟩, (((HK.out.setCell (.inr HRW.out) _).setCell (.inr HRW.out) _).setCell (.inr HRW.out) _).setCell (.inr HRW.out) _⟩
 ·go_wp2_with (first
   | (go_at_call 20; refine cM (by with_reducible exact oneM12 (by omega) HT.out _ rfl) ?_; rintro e w4 ⟨xa, hxa, rfl, ht, hkp⟩; have HR := qH (HR.out.kp hkp (by simp; exact HRT.out)); obtain ⟨t0, t1, t2, t3⟩ := HR.out.cells; have ft := fun o => HR.out.frz (o := o); have HK := qH (HK.out.trans hkp); have HT := qH ht; clear ht hkp)
   | (go_at_call 20; refine cM (by with_reducible exact oneM13 (by omega) HT.out _ rfl) ?_; rintro e w5 ⟨xb, hxb, rfl, ht, hkp⟩; have HR := qH (HR.out.kp hkp (by simp; exact HRT.out)); obtain ⟨t0, t1, t2, t3⟩ := HR.out.cells; have ft := fun o => HR.out.frz (o := o); have HK := qH (HK.out.trans hkp); have HT := qH ht; clear ht hkp))
  refine tm_end Tryz.results49 (x := ⟨11, xa, o, xb⟩) (HR.out.all ⟨11, xa, o, xb⟩) rfl rfl ⟨_, rfl, goodT_mk 11 xa o xb (hxa) hxb (by decide) (by decide), ⟨_, by omega, HT.out.put4 HRL.out _ _ _ _⟩, (((HK.out.setCell (.inr HRW.out) _).setCell (.inr HRW.out) _).setCell (.inr HRW.out) _).setCell (.inr HRW.out) _⟩
 ·go_wp2_with (first
   | (go_at_call 20; refine cM (by with_reducible exact oneM14 (by omega) HT.out _ rfl) ?_; rintro e w5 ⟨xb, hxb, rfl, ht, hkp⟩; have HR := qH (HR.out.kp hkp (by simp; exact HRT.out)); obtain ⟨t0, t1, t2, t3⟩ := HR.out.cells; have ft := fun o => HR.out.frz (o := o); have HK := qH (HK.out.trans hkp); have HT := qH ht; clear ht hkp))
  refine tm_end Tryz.results49 (x := ⟨12, [], o, xb⟩) (HR.out.all ⟨12, [], o, xb⟩) rfl rfl ⟨_, rfl, goodT_mk 12 [] o xb (by decide) hxb (by decide) (by decide), ⟨_, by omega, HT.out.put4 HRL.out _ _ _ _⟩, (((HK.out.setCell (.inr HRW.out) _).setCell (.inr HRW.out) _).setCell (.inr HRW.out) _).setCell (.inr HRW.out) _⟩
 ·go_wp2_with (first
   | (go_at_call 20; refine cM (by with_reducible exact oneM15 (by omega) HT.out _ rfl) ?_; rintro e w5 ⟨xb, hxb, rfl, ht, hkp⟩; have HR := qH (HR.out.kp hkp (by simp; exact HRT.out)); obtain ⟨t0, t1, t2, t3⟩ := HR.out.cells; have ft := fun o => HR.out.frz (o := o); have HK := qH (HK.out.trans hkp); have HT := qH ht; clear ht hkp))
  refine tm_end Tryz.results49 (x := ⟨13, [], o, xb⟩) (HR.out.all ⟨13, [], o, xb⟩) rfl rfl ⟨_, rfl, goodT_mk 13 [] o xb (by decide) hxb (by decide) (by decide), ⟨_, by omega, HT.out.put4 HRL.out _ _ _ _⟩, (((HK.out.setCell (.inr HRW.out) _).setCell (.inr HRW.out) _).setCell (.inr HRW.out) _).setCell (.inr HRW.out) _⟩
 ·go_upto_region 34 with (first
   | (go_at_call 16; refine cM (by with_reducible exact nextL3 (by omega) HT.out) ?_; rintro e w4 ⟨q, hq, rfl, ht, hkp⟩; have HR := qH (HR.out.kp hkp (by simp; exact HRT.out)); obtain ⟨t0, t1, t2, t3⟩ := HR.out.cells; have ft := fun o => HR.out.frz (o := o); have HK := qH (HK.out.trans hkp); have HT := qH ht; clear ht hkp))
  have hr3 : q = 0 ∨ q = 1 ∨ q = 2 := by omega
  clear hq
  rcases hr3 with rfl | rfl | rfl
  ·go_wp2_with (first
    | (go_at_call 20; refine cM (by with_reducible exact oneM16 (by omega) HT.out _ rfl) ?_; rintro e w5 ⟨xb, hxb, rfl, ht, hkp⟩; have HR := qH (HR.out.kp hkp (by simp; exact HRT.out)); obtain ⟨t0, t1, t2, t3⟩ := HR.out.cells; have ft := fun o => HR.out.frz (o := o); have HK := qH (HK.out.trans hkp); have HT := qH ht; clear ht hkp))
   refine tm_end Tryz.results49 (x := ⟨14, [112, 114, 111, 103, 114, 97, 109], o, xb⟩) (HR.out.all ⟨14, [112, 114, 111, 103, 114, 97, 109], o, xb⟩) rfl rfl ⟨_, rfl, goodT_mk 14 [112, 114, 111, 103, 114, 97, 109] o xb (by decide) hxb (by decide) (by decide), ⟨_, by omega, HT.out.put4 HRL.out _ _ _ _⟩, (((HK.out.setCell (.inr HRW.out) _).setCell (.inr HRW.out) _).setCell (.inr HRW.out) _).setCell (.inr HRW.out) _⟩
  ·go_wp2_with (first
    | (go_at_call 20; refine cM (by with_reducible exact oneM17 (by omega) HT.out _ rfl) ?_; rintro e w5 ⟨xb, hxb, rfl, ht, hkp⟩; have HR := qH (HR.out.kp hkp (by simp; exact HRT.out)); obtain ⟨t0, t1, t2, t3⟩ := HR.out.cells; have ft := fun o => HR.out.frz (o := o); have HK := qH (HK.out.trans hkp); have HT := qH ht; clear ht hkp))
   refine tm_end Tryz.results49 (x := ⟨14, [112, 97, 114, 101, 110, 116], o, xb⟩) (HR.out.all ⟨14, [112, 97, 114, 101, 110, 116], o, xb⟩) rfl rfl ⟨_, rfl, goodT_mk 14 [112, 97, 114, 101, 110, 116] o xb (by decide) hxb (by decide) (by decide), ⟨_, by omega, HT.out.put4 HRL.out _ _ _ _⟩, (((HK.out.setCell (.inr HRW.out) _).setCell (.inr HRW.out) _).setCell (.inr HRW.out) _).setCell (.inr HRW.out) _⟩
  ·go_wp2_with (first
    | (go_at_call 20; refine cM (by with_reducible exact oneM18 (by omega) HT.out _ rfl) ?_; rintro e w5 ⟨xb, hxb, rfl, ht, hkp⟩; have HR := qH (HR.out.kp hkp (by simp; exact HRT.out)); obtain ⟨t0, t1, t2, t3⟩ := HR.out.cells; have ft := fun o => HR.out.frz (o := o); have HK := qH (HK.out.trans hkp); have HT := qH ht; clear ht hkp))
   refine tm_end Tryz.results49 (x := ⟨14, [98, 117, 105, 108, 116, 105, 110], o, xb⟩) (HR.out.all ⟨14, [98, 117, 105, 108, 116, 105, 110], o, xb⟩) rfl rfl ⟨_, rfl, goodT_mk 14 [98, 117, 105, 108, 116, 105, 110] o xb (by decide) hxb (by decide) (by decide), ⟨_, by omega, HT.out.put4 HRL.out _ _ _ _⟩, (((HK.out.setCell (.inr HRW.out) _).setCell (.inr HRW.out) _).setCell (.inr HRW.out) _).setCell (.inr HRW.out) _⟩
end Go.Proofs.YtljkljnfbcmjdaaGreatDoor
