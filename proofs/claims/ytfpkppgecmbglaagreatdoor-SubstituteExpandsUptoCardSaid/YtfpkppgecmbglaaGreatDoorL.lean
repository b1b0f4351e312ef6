/- first: doubled bytes, and what begins with a word or a letter. -/
import Derived.Test.YtfpkppgecmbglaaGreatDoorK
namespace Go.Proofs.YtfpkppgecmbglaaGreatDoor
open Go.RowKit

theorem span_not {b : UInt8} (h : plainCh b = false) (t : List UInt8) : spanL plainCh (b :: t) = ([], b :: t) := by rw [spanL, if_neg (by rw [h]; exact Bool.false_ne_true)]
set_option maxHeartbeats 4000000 in
set_option maxRecDepth 100000 in
theorem first_twice {b : UInt8} {u : List UInt8} {w : World} (hs : u.length ≤ 900000) (ha : (b :: b :: u).all prCh = true) (hb : plainCh b = false) : Calls Tryz.prog 30 #[.string (bs (b :: b :: u))] w (FirstPost (b :: b :: u) w) := by
  have HI := Lib.hid fun W => index_any (b :: b :: u) W (by simp; omega) ha
  rw [span_not hb] at HI
  rw [if_neg (by simp)] at HI
  have hf : firstL nmB kyB (b :: b :: u) = some (⟨1, [b], 0, false⟩, u) := by
    unfold firstL
    rw [span_not hb, if_pos rfl]
    unfold stepL
    dsimp only
    have h2 : ¬ (b ≠ 36 ∧ b ≠ 37) := by
      intro h
      simp [plainCh, h.1, h.2] at hb
    rw [if_neg h2, if_pos (show (b :: u).head? = some b from rfl)]
    rfl
  have hEND : FirstOk (b :: b :: u) ⟨1, [b], 0, false⟩ u true := by unfold FirstOk; rw [hf]; exact ⟨rfl, rfl, rfl⟩
  have HEND := Lib.hid hEND
  clear hf hEND
  have hR0 : PAt (w.alloc (.cells #[.int .i64 0, .string ⟨#[]⟩, .int .i64 0, .bool false] 61)) w.heap.size gp0 := PAt.new w gp0
  have hK0 : Kp [] w (w.alloc (.cells #[.int .i64 0, .string ⟨#[]⟩, .int .i64 0, .bool false] 61)) := (Kp.refl [] w).alloc _
  obtain ⟨W, hW⟩ : ∃ W, w.alloc (.cells #[.int .i64 0, .string ⟨#[]⟩, .int .i64 0, .bool false] 61) = W := ⟨_, rfl⟩
  obtain ⟨R, hRR⟩ : ∃ R, w.heap.size = R := ⟨_, rfl⟩
  have hwR : w.heap.size ≤ R := by omega
  rw [hW] at hR0 hK0
  rw [hRR] at hR0
  have HRA := Lib.hid hR0
  have HKA := Lib.hid hK0
  have HW := Lib.hid hW
  have HRR := Lib.hid hRR
  clear hR0 hK0 hW hRR
  have HP := Lib.hid fun W => textPiece_any [b] W
  simp only [gpC] at HP
  have e1 : (bs (b :: b :: u)).extract 0 1 = bs [b] := by rw [bs_take]; rfl
  have e2 : (bs (b :: b :: u)).extract 2 (bs (b :: b :: u)).size = bs u := by rw [bs_drop]; rfl
  have e2' : (bs (b :: b :: u)).extract 2 (u.length + 2) = bs u := e2
  have hsz : (bs (b :: b :: u)).size = u.length + 2 := rfl
  have h0 : 0 < (bs (b :: b :: u)).size := by omega
  have h1 : 1 < (bs (b :: b :: u)).size := by omega
  have g0 : (bs (b :: b :: u))[0]'h0 = b := rfl
  have g1 : (bs (b :: b :: u))[1]'h1 = b := rfl
  have hz1 : (1 : Int) < ((bs (b :: b :: u)).size : Int) := by omega
  have hzb : decide ((1 : Int) < (u.length : Int) + 2) = true := by simp; omega
  have hz2 : (2 : Int) ≤ ((bs (b :: b :: u)).size : Int) := by omega
  have hz0 : (1 : Int) ≤ ((bs (b :: b :: u)).size : Int) := by omega
  clear ha hb hs
  go_enter Tryz.func30, Tryz.ntmps30
  go_wp2_with (first
    | (go_at_call 59; rw [HRR.out, HW.out]; refine Calls.mono (by with_reducible exact HI.out _) ?_; rintro e W0 ⟨rfl, hk0⟩; have HR0 := Lib.hid (HRA.out.kp hk0 (by simp)); have HK0 := Lib.hid (HKA.out.trans hk0); have fR := fun o => HR0.out.frz (o := o); obtain ⟨r0, r1, r2, r3⟩ := HR0.out.cells; simp only [gp0] at r0 r1 r2 r3; clear hk0))
  go_quiet (fail)
  go_wp2_with fail
  go_region_with (go_at_call 60; refine Calls.mono (by with_reducible exact HP.out _) ?_; rintro e w1 ⟨rfl, hk1⟩; have HK1 := Lib.hid (((Kp.refl [] W0).drew _).trans hk1); have HR1 := Lib.hid (HR0.out.kp HK1.out (by simp)); have fR1 := fun o => HR1.out.frz (o := o); obtain ⟨y0, y1, y2, y3⟩ := HR1.out.cells; simp only [gp0] at y0 y1 y2 y3; clear hk1)
  all_goals go_wp2
  all_goals exact pc_end3 rfl (HR1.out.all ⟨1, [b], 0, false⟩) rfl rfl rfl rfl ⟨⟨1, [b], 0, false⟩, _, _, rfl, (HK0.out.trans HK1.out).setAll hwR _ _ _ _, HEND.out⟩

set_option maxHeartbeats 8000000 in
set_option maxRecDepth 100000 in
/-- What begins with a word or a letter: n bytes, the kind k, and what stands behind them. -/
theorem first_tail {b : UInt8} {t rest sp : List UInt8} {n k : Nat} {w : World} (hE : Env w) (hs : t.length ≤ 900000) (ha : (b :: t).all prCh = true) (hb : plainCh b = false) (ht : t.head? ≠ some b)
    (hn : n ≤ t.length + 1) (hsp : (b :: t).take n = sp) (hrest : (b :: t).drop n = rest) (hk : kindS sp = k) (hk2 : k = 0 ∨ 2 ≤ k ∧ k ≤ 11) (hst : stepL nmB kyB (b :: t) = placeL nmB kyB k rest)
    (hL : ∀ W, Calls Tryz.prog 61 #[.string (bs (b :: t))] W fun e w' => e = .returned (.int .i64 (n : Int)) ∧ Kp [] W w') : Calls Tryz.prog 30 #[.string (bs (b :: t))] w (FirstPost (b :: t) w) := by
  have HI := Lib.hid fun W => index_any (b :: t) W (by simp; omega) ha
  rw [span_not hb] at HI
  rw [if_neg (by simp)] at HI
  have HF := Lib.hid (show ∀ p r ok, FillOk k rest p r ok → FirstOk (b :: t) p r ok from fun p r ok h => by
    have e : firstL nmB kyB (b :: t) = placeL nmB kyB k rest := by unfold firstL; rw [span_not hb, if_pos rfl, hst]
    unfold FirstOk
    rw [e]
    exact h)
  have HL := Lib.hid hL
  have HKI := Lib.hid fun W => kindOf_any sp W
  rw [hk] at HKI
  have hrl : rest.length ≤ 1000000 := by rw [← hrest, List.length_drop, List.length_cons]; omega
  have HFI := Lib.hid fun (W : World) (h : Kp [] w W) => filled_any (s := rest) (hE.kp0 h) hk2 hrl
  unfold FillPost at HFI
  simp only [gpC] at HFI
  unfold FirstPost
  have hR0 : PAt (w.alloc (.cells #[.int .i64 0, .string ⟨#[]⟩, .int .i64 0, .bool false] 61)) w.heap.size gp0 := PAt.new w gp0
  have hK0 : Kp [] w (w.alloc (.cells #[.int .i64 0, .string ⟨#[]⟩, .int .i64 0, .bool false] 61)) := (Kp.refl [] w).alloc _
  obtain ⟨W, hW⟩ : ∃ W, w.alloc (.cells #[.int .i64 0, .string ⟨#[]⟩, .int .i64 0, .bool false] 61) = W := ⟨_, rfl⟩
  obtain ⟨R, hRR⟩ : ∃ R, w.heap.size = R := ⟨_, rfl⟩
  have hwR : w.heap.size ≤ R := by omega
  rw [hW] at hR0 hK0
  rw [hRR] at hR0
  have HRA := Lib.hid hR0
  have HKA := Lib.hid hK0
  have HW := Lib.hid hW
  have HRR := Lib.hid hRR
  clear hR0 hK0 hW hRR
  have e1 : (bs (b :: t)).extract 0 n = bs sp := by rw [bs_take, hsp]
  have e2 : (bs (b :: t)).extract n (bs (b :: t)).size = bs rest := by rw [bs_drop, hrest]
  have e2' : (bs (b :: t)).extract n (t.length + 1) = bs rest := e2
  have hsz : (bs (b :: t)).size = t.length + 1 := rfl
  have h0 : 0 < (bs (b :: t)).size := by omega
  have g0 : (bs (b :: t))[0]'h0 = b := rfl
  have hzn : (n : Int) ≤ ((bs (b :: t)).size : Int) := by omega
  have hzn2 : n ≤ (bs (b :: t)).size := by omega
  clear ha hs hE hsp hrest hk hk2 hst hL hrl hb
  by_cases h1 : 1 < (bs (b :: t)).size
  · have hz1 : (1 : Int) < ((bs (b :: t)).size : Int) := by omega
    have hzb : decide ((1 : Int) < (t.length : Int) + 1) = true := by simp; omega
    obtain ⟨c, hc⟩ : ∃ c, (bs (b :: t))[1]'h1 = c := ⟨_, rfl⟩
    have hcb : ((c.toNat : Int) == (b.toNat : Int)) = false := by
      rw [beq_eq_false_iff_ne]
      intro e
      apply ht
      cases t with
      | nil => simp at hsz; omega
      | cons d t =>
        have h1 : c = d := hc.symm
        have h2 : c = b := UInt8.toNat_inj.1 (by omega)
        rw [List.head?_cons, ← h1, h2]
    clear ht
    go_enter Tryz.func30, Tryz.ntmps30
    go_wp2_with (first
      | (go_at_call 59; rw [HRR.out, HW.out]; refine Calls.mono (by with_reducible exact HI.out _) ?_; rintro e W0 ⟨rfl, hk0⟩; have HR0 := Lib.hid (HRA.out.kp hk0 (by simp)); have HK0 := Lib.hid (HKA.out.trans hk0); have fR := fun o => HR0.out.frz (o := o); obtain ⟨r0, r1, r2, r3⟩ := HR0.out.cells; simp only [gp0] at r0 r1 r2 r3; clear hk0))
    go_quiet (fail)
    go_wp2_with (first
      | (go_at_call 61; refine Calls.mono (by with_reducible exact HL.out _) ?_; rintro e w1 ⟨rfl, hk1⟩; have HK1 := Lib.hid (HK0.out.trans (((Kp.refl [] W0).drew _).trans hk1)); have HR1 := Lib.hid (HR0.out.kp (((Kp.refl [] W0).drew _).trans hk1) (by simp)); clear hk1 r0 r1 r2 r3 fR))
    have fR1 := fun o => HR1.out.frz (o := o)
    obtain ⟨y0, y1, y2, y3⟩ := HR1.out.cells
    simp only [gp0] at y0 y1 y2 y3
    go_region_with (first
      | (go_at_call 63; refine Calls.mono (by with_reducible exact HKI.out _) ?_; rintro e w2 ⟨rfl, hk2⟩; have HK2 := Lib.hid (((Kp.refl [] w1).drew _).trans hk2); clear hk2)
      | (go_at_call 62; refine Calls.mono (by with_reducible exact HFI.out _ (HK1.out.trans HK2.out)) ?_; rintro e w3 ⟨p, r, ok, rfl, hk3, hok⟩; have HOK := Lib.hid hok; clear hok; have HK3 := Lib.hid (HK2.out.trans hk3); have HR3 := Lib.hid (HR1.out.kp HK3.out (by simp)); have fR3 := fun o => HR3.out.frz (o := o); obtain ⟨z0, z1, z2, z3⟩ := HR3.out.cells; simp only [gp0] at z0 z1 z2 z3; clear hk3))
    all_goals go_wp2
    all_goals exact pc_end3 rfl (HR3.out.all p) rfl rfl rfl rfl ⟨p, r, ok, rfl, (HK1.out.trans HK3.out).setAll hwR _ _ _ _, HF.out _ _ _ HOK.out⟩
  · have hzb : decide ((1 : Int) < (t.length : Int) + 1) = false := by simp; omega
    clear ht
    go_enter Tryz.func30, Tryz.ntmps30
    go_wp2_with (first
      | (go_at_call 59; rw [HRR.out, HW.out]; refine Calls.mono (by with_reducible exact HI.out _) ?_; rintro e W0 ⟨rfl, hk0⟩; have HR0 := Lib.hid (HRA.out.kp hk0 (by simp)); have HK0 := Lib.hid (HKA.out.trans hk0); have fR := fun o => HR0.out.frz (o := o); obtain ⟨r0, r1, r2, r3⟩ := HR0.out.cells; simp only [gp0] at r0 r1 r2 r3; clear hk0))
    go_quiet (fail)
    go_wp2_with (first
      | (go_at_call 61; refine Calls.mono (by with_reducible exact HL.out _) ?_; rintro e w1 ⟨rfl, hk1⟩; have HK1 := Lib.hid (HK0.out.trans (((Kp.refl [] W0).drew _).trans hk1)); have HR1 := Lib.hid (HR0.out.kp (((Kp.refl [] W0).drew _).trans hk1) (by simp)); clear hk1 r0 r1 r2 r3 fR))
    have fR1 := fun o => HR1.out.frz (o := o)
    obtain ⟨y0, y1, y2, y3⟩ := HR1.out.cells
    simp only [gp0] at y0 y1 y2 y3
    go_region_with (first
      | (go_at_call 63; refine Calls.mono (by with_reducible exact HKI.out _) ?_; rintro e w2 ⟨rfl, hk2⟩; have HK2 := Lib.hid (((Kp.refl [] w1).drew _).trans hk2); clear hk2)
      | (go_at_call 62; refine Calls.mono (by with_reducible exact HFI.out _ (HK1.out.trans HK2.out)) ?_; rintro e w3 ⟨p, r, ok, rfl, hk3, hok⟩; have HOK := Lib.hid hok; clear hok; have HK3 := Lib.hid (HK2.out.trans hk3); have HR3 := Lib.hid (HR1.out.kp HK3.out (by simp)); have fR3 := fun o => HR3.out.frz (o := o); obtain ⟨z0, z1, z2, z3⟩ := HR3.out.cells; simp only [gp0] at z0 z1 z2 z3; clear hk3))
    all_goals go_wp2
    all_goals exact pc_end3 rfl (HR3.out.all p) rfl rfl rfl rfl ⟨p, r, ok, rfl, (HK1.out.trans HK3.out).setAll hwR _ _ _ _, HF.out _ _ _ HOK.out⟩
end Go.Proofs.YtfpkppgecmbglaaGreatDoor
