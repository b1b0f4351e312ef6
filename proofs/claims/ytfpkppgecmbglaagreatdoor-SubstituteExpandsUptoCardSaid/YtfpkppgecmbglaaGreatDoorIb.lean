/- The reference's place. -/
import Derived.Test.YtfpkppgecmbglaaGreatDoorIa
import Derived.Test.YtfpkppgecmbglaaGreatDoorNS
namespace Go.Proofs.YtfpkppgecmbglaaGreatDoor
open Go.RowKit

theorem braV_some {s a r : List UInt8} (h : braceL s = some (a, r)) : braV s = .tuple #[.string (bs a), .string (bs r), .bool true] := by unfold braV; rw [h]
theorem braV_none {s : List UInt8} (h : braceL s = none) : braV s = .tuple #[.string (bs []), .string (bs s), .bool false] := by unfold braV; rw [h]
theorem braceL_len {s a r : List UInt8} (h : braceL s = some (a, r)) : a.length + r.length + 2 = s.length := by
  obtain ⟨e, _⟩ := braceL_inv h
  rw [e]
  simp
  omega
theorem refNm_any (s : List UInt8) (w : World) (hs : s.length ≤ 1000000000) : Calls Tryz.prog 42 #[.string (bs s)] w fun e w' => e = .returned (.bool (nmB s)) ∧ Kp [] w w' := by
  have h := Nm.refValid_any (bs s) w (by rw [bs_size]; omega)
  rw [bs_data] at h
  exact h.mono fun _ _ ⟨h1, h2⟩ => ⟨h1, by rw [h2]; exact Kp.refl _ _⟩
theorem refKy_any (s : List UInt8) (w : World) (hs : s.length ≤ 1000000000) : Calls Tryz.prog 43 #[.string (bs s)] w fun e w' => e = .returned (.bool (kyB s)) ∧ Kp [] w w' := by
  have h := Nm.refKey_any (bs s) w (by rw [bs_size]; omega)
  rw [bs_data] at h
  exact h.mono fun _ _ ⟨h1, h2⟩ => ⟨h1, by rw [h2]; exact Kp.refl _ _⟩
theorem refTx_any (s : List UInt8) (w : World) (hs : s.length ≤ 1000000000) : Calls Tryz.prog 32 #[.string (bs s)] w fun e w' => e = .returned (.bool (txB s)) ∧ Kp [] w w' := by
  have h := Nm.refText_any (bs s) w (by rw [bs_size]; omega)
  rw [bs_data] at h
  exact h.mono fun _ _ ⟨h1, h2⟩ => ⟨h1, by rw [h2]; exact Kp.refl _ _⟩
set_option maxHeartbeats 4000000 in
set_option maxRecDepth 100000 in
theorem refPlace_0 : ∀ {s : List UInt8} {w : World} (_ : s.length ≤ 1000000), Calls Tryz.prog 36 #[.int .i64 0, .string (bs s)] w (FillPost 0 s w) := by
  intro s w hl
  have HB := Lib.hid fun W => refBraces_any s (by omega) W
  obtain ⟨xa, xb, xc, hx⟩ : ∃ xa xb xc, braV s = .tuple #[.string (bs xa), .string (bs xb), .bool xc] := by unfold braV; split <;> exact ⟨_, _, _, rfl⟩
  rw [hx] at HB
  clear hx
  have hR0 : PAt (w.alloc (.cells #[.int .i64 0, .string ⟨#[]⟩, .int .i64 0, .bool false] 61)) w.heap.size gp0 := PAt.new w gp0
  have hT0 : PAt ((w.alloc (.cells #[.int .i64 0, .string ⟨#[]⟩, .int .i64 0, .bool false] 61)).alloc (.cells #[.int .i64 0, .string ⟨#[]⟩, .int .i64 0, .bool false] 61)) (w.heap.size + 1) ⟨0, [], 0, false⟩ := by
    have := PAt.new (w.alloc (.cells (gpC gp0) 61)) ⟨0, [], 0, false⟩
    rw [World.size_alloc] at this
    exact this
  have hR1 := hR0.kp ((Kp.refl [] _).alloc (.cells #[.int .i64 0, .string ⟨#[]⟩, .int .i64 0, .bool false] 61)) (by simp)
  have hK0 : Kp [] w ((w.alloc (.cells #[.int .i64 0, .string ⟨#[]⟩, .int .i64 0, .bool false] 61)).alloc (.cells #[.int .i64 0, .string ⟨#[]⟩, .int .i64 0, .bool false] 61)) := ((Kp.refl [] w).alloc _).alloc _
  clear hR0
  obtain ⟨W0, hW⟩ : ∃ W0, (w.alloc (.cells #[.int .i64 0, .string ⟨#[]⟩, .int .i64 0, .bool false] 61)).alloc (.cells #[.int .i64 0, .string ⟨#[]⟩, .int .i64 0, .bool false] 61) = W0 := ⟨_, rfl⟩
  obtain ⟨R, hRR⟩ : ∃ R, w.heap.size = R := ⟨_, rfl⟩
  obtain ⟨T, hTT⟩ : ∃ T, R + 1 = T := ⟨_, rfl⟩
  have hTR : T ≠ R := by omega
  have hRT : R ≠ T := by omega
  have hwR : w.heap.size ≤ R := by omega
  have hwT : w.heap.size ≤ T := by omega
  rw [hW] at hT0 hR1 hK0
  rw [hRR] at hR1
  rw [hRR, hTT] at hT0
  have HR0 := Lib.hid hR1
  have HT0 := Lib.hid hT0
  have HK0 := Lib.hid hK0
  have HW := Lib.hid hW
  have HRR := Lib.hid hRR
  have HTT := Lib.hid hTT
  clear hR1 hT0 hK0 hW hRR hTT
  go_enter Tryz.func36, Tryz.ntmps36
  go_upto_region 2 with fail
  rw [HRR.out, HTT.out, HW.out]
  go_upto_region 4 with (go_at_call 65; refine Calls.mono (by with_reducible exact HB.out _) ?_; rintro e w1 ⟨rfl, hk1⟩)
  have hT1 := HT0.out.kp hk1 (by simp)
  obtain ⟨c0, c1, c2, c3⟩ := hT1.cells
  have f1 := fun o => hT1.frz (o := o)
  have HT1 := Lib.hid hT1
  have hR1 := HR0.out.kp hk1 (by simp)
  obtain ⟨r0, r1, r2, r3⟩ := hR1.cells
  have fR := fun o => hR1.frz (o := o)
  have HR1 := Lib.hid hR1
  have HK1 := Lib.hid (HK0.out.trans hk1)
  simp only [gp0] at c0 c1 c2 c3 r0 r1 r2 r3
  clear hT1 hR1 hk1
  go_wp2
  exact pc_end3 rfl (HR1.out.all ⟨0, [], 0, false⟩) rfl rfl rfl rfl ⟨⟨0, [], 0, false⟩, _, _, rfl, HK1.out.setAll hwR _ _ _ _, rfl⟩
set_option maxHeartbeats 4000000 in
set_option maxRecDepth 100000 in
theorem refPlace_other : ∀ {k : Nat} {s : List UInt8} {w : World} (_ : s.length ≤ 1000000) (_ : 2 ≤ k ∧ k ≤ 11) (_ : k ≠ 7) (_ : k ≠ 8) (_ : k = 9 → s.head? ≠ some 123), Calls Tryz.prog 36 #[.int .i64 (k : Int), .string (bs s)] w (FillPost k s w) := by
  intro k s w hl hk h7 h8 h9
  have HEND := Lib.hid (show FillOk k s ⟨(k : Int), [], 0, false⟩ s true from by
    unfold FillOk placeL
    rw [if_neg (by omega), if_neg h7, if_neg h8, if_neg (fun x => h9 x.1 x.2)]
    exact ⟨rfl, rfl, rfl⟩)
  have q0 : ((k : Int) == 0) = false := by rw [beq_eq_false_iff_ne]; omega
  have q7 : ((k : Int) == 7) = false := by rw [beq_eq_false_iff_ne]; omega
  have q8 : ((k : Int) == 8) = false := by rw [beq_eq_false_iff_ne]; omega
  have HB := Lib.hid fun W => refBraces_any s (by omega) W
  obtain ⟨xa, xb, xc, hx⟩ : ∃ xa xb xc, braV s = .tuple #[.string (bs xa), .string (bs xb), .bool xc] := by unfold braV; split <;> exact ⟨_, _, _, rfl⟩
  rw [hx] at HB
  clear hx
  have HX := Lib.hid fun W => pre_any s 123 W
  have hR0 : PAt (w.alloc (.cells #[.int .i64 0, .string ⟨#[]⟩, .int .i64 0, .bool false] 61)) w.heap.size gp0 := PAt.new w gp0
  have hT0 : PAt ((w.alloc (.cells #[.int .i64 0, .string ⟨#[]⟩, .int .i64 0, .bool false] 61)).alloc (.cells #[.int .i64 (k : Int), .string ⟨#[]⟩, .int .i64 0, .bool false] 61)) (w.heap.size + 1) ⟨(k : Int), [], 0, false⟩ := by
    have := PAt.new (w.alloc (.cells (gpC gp0) 61)) ⟨(k : Int), [], 0, false⟩
    rw [World.size_alloc] at this
    exact this
  have hR1 := hR0.kp ((Kp.refl [] _).alloc (.cells #[.int .i64 (k : Int), .string ⟨#[]⟩, .int .i64 0, .bool false] 61)) (by simp)
  have hK0 : Kp [] w ((w.alloc (.cells #[.int .i64 0, .string ⟨#[]⟩, .int .i64 0, .bool false] 61)).alloc (.cells #[.int .i64 (k : Int), .string ⟨#[]⟩, .int .i64 0, .bool false] 61)) := ((Kp.refl [] w).alloc _).alloc _
  clear hR0
  obtain ⟨W0, hW⟩ : ∃ W0, (w.alloc (.cells #[.int .i64 0, .string ⟨#[]⟩, .int .i64 0, .bool false] 61)).alloc (.cells #[.int .i64 (k : Int), .string ⟨#[]⟩, .int .i64 0, .bool false] 61) = W0 := ⟨_, rfl⟩
  obtain ⟨R, hRR⟩ : ∃ R, w.heap.size = R := ⟨_, rfl⟩
  obtain ⟨T, hTT⟩ : ∃ T, R + 1 = T := ⟨_, rfl⟩
  have hTR : T ≠ R := by omega
  have hRT : R ≠ T := by omega
  have hwR : w.heap.size ≤ R := by omega
  have hwT : w.heap.size ≤ T := by omega
  rw [hW] at hT0 hR1 hK0
  rw [hRR] at hR1
  rw [hRR, hTT] at hT0
  have HR0 := Lib.hid hR1
  have HT0 := Lib.hid hT0
  have HK0 := Lib.hid hK0
  have HW := Lib.hid hW
  have HRR := Lib.hid hRR
  have HTT := Lib.hid hTT
  clear hR1 hT0 hK0 hW hRR hTT
  by_cases hk9 : k = 9
  · have q9 : ((k : Int) == 9) = true := by rw [beq_iff_eq]; omega
    have hh : (s.head? == some 123) = false := by
      have := h9 hk9
      simpa using this
    rw [hh] at HX
    clear hk9 h9 hh hk h7 h8
    go_enter Tryz.func36, Tryz.ntmps36
    go_upto_region 2 with fail
    rw [HRR.out, HTT.out, HW.out]
    go_upto_region 11 with (go_at_call 65; refine Calls.mono (by with_reducible exact HB.out _) ?_; rintro e w1 ⟨rfl, hk1⟩)
    have hT1 := HT0.out.kp hk1 (by simp)
    obtain ⟨c0, c1, c2, c3⟩ := hT1.cells
    have f1 := fun o => hT1.frz (o := o)
    have HT1 := Lib.hid hT1
    have hR1 := HR0.out.kp hk1 (by simp)
    obtain ⟨r0, r1, r2, r3⟩ := hR1.cells
    have fR := fun o => hR1.frz (o := o)
    have HR1 := Lib.hid hR1
    have HK1 := Lib.hid (HK0.out.trans hk1)
    simp only [gp0] at c0 c1 c2 c3 r0 r1 r2 r3
    clear hT1 hR1 hk1
    go_wp2_with (go_at_call 44; refine Calls.mono (by with_reducible exact HX.out _) ?_; rintro e w2 ⟨rfl, hk2⟩; subst hk2)
    exact pc_end3 rfl (HR1.out.all ⟨(k : Int), [], 0, false⟩) rfl rfl rfl rfl ⟨⟨(k : Int), [], 0, false⟩, _, _, rfl, HK1.out.setAll hwR _ _ _ _, HEND.out⟩
  · have q9 : ((k : Int) == 9) = false := by rw [beq_eq_false_iff_ne]; omega
    clear hk9 h9 hk h7 h8
    go_enter Tryz.func36, Tryz.ntmps36
    go_upto_region 2 with fail
    rw [HRR.out, HTT.out, HW.out]
    go_upto_region 11 with (go_at_call 65; refine Calls.mono (by with_reducible exact HB.out _) ?_; rintro e w1 ⟨rfl, hk1⟩)
    have hT1 := HT0.out.kp hk1 (by simp)
    obtain ⟨c0, c1, c2, c3⟩ := hT1.cells
    have f1 := fun o => hT1.frz (o := o)
    have HT1 := Lib.hid hT1
    have hR1 := HR0.out.kp hk1 (by simp)
    obtain ⟨r0, r1, r2, r3⟩ := hR1.cells
    have fR := fun o => hR1.frz (o := o)
    have HR1 := Lib.hid hR1
    have HK1 := Lib.hid (HK0.out.trans hk1)
    simp only [gp0] at c0 c1 c2 c3 r0 r1 r2 r3
    clear hT1 hR1 hk1
    go_wp2
    exact pc_end3 rfl (HR1.out.all ⟨(k : Int), [], 0, false⟩) rfl rfl rfl rfl ⟨⟨(k : Int), [], 0, false⟩, _, _, rfl, HK1.out.setAll hwR _ _ _ _, HEND.out⟩
set_option maxHeartbeats 4000000 in
set_option maxRecDepth 100000 in
theorem refPlace_7 : ∀ {s : List UInt8} {w : World} (_ : s.length ≤ 1000000), Calls Tryz.prog 36 #[.int .i64 7, .string (bs s)] w (FillPost 7 s w) := by
  intro s w hl
  have HB := Lib.hid fun W => refBraces_any s (by omega) W
  have hR0 : PAt (w.alloc (.cells #[.int .i64 0, .string ⟨#[]⟩, .int .i64 0, .bool false] 61)) w.heap.size gp0 := PAt.new w gp0
  have hT0 : PAt ((w.alloc (.cells #[.int .i64 0, .string ⟨#[]⟩, .int .i64 0, .bool false] 61)).alloc (.cells #[.int .i64 7, .string ⟨#[]⟩, .int .i64 0, .bool false] 61)) (w.heap.size + 1) ⟨7, [], 0, false⟩ := by
    have := PAt.new (w.alloc (.cells (gpC gp0) 61)) ⟨7, [], 0, false⟩
    rw [World.size_alloc] at this
    exact this
  have hR1 := hR0.kp ((Kp.refl [] _).alloc (.cells #[.int .i64 7, .string ⟨#[]⟩, .int .i64 0, .bool false] 61)) (by simp)
  have hK0 : Kp [] w ((w.alloc (.cells #[.int .i64 0, .string ⟨#[]⟩, .int .i64 0, .bool false] 61)).alloc (.cells #[.int .i64 7, .string ⟨#[]⟩, .int .i64 0, .bool false] 61)) := ((Kp.refl [] w).alloc _).alloc _
  clear hR0
  obtain ⟨W0, hW⟩ : ∃ W0, (w.alloc (.cells #[.int .i64 0, .string ⟨#[]⟩, .int .i64 0, .bool false] 61)).alloc (.cells #[.int .i64 7, .string ⟨#[]⟩, .int .i64 0, .bool false] 61) = W0 := ⟨_, rfl⟩
  obtain ⟨R, hRR⟩ : ∃ R, w.heap.size = R := ⟨_, rfl⟩
  obtain ⟨T, hTT⟩ : ∃ T, R + 1 = T := ⟨_, rfl⟩
  have hTR : T ≠ R := by omega
  have hRT : R ≠ T := by omega
  have hwR : w.heap.size ≤ R := by omega
  have hwT : w.heap.size ≤ T := by omega
  rw [hW] at hT0 hR1 hK0
  rw [hRR] at hR1
  rw [hRR, hTT] at hT0
  have HR0 := Lib.hid hR1
  have HT0 := Lib.hid hT0
  have HK0 := Lib.hid hK0
  have HW := Lib.hid hW
  have HRR := Lib.hid hRR
  have HTT := Lib.hid hTT
  clear hR1 hT0 hK0 hW hRR hTT
  cases hb : braceL s with
  | none =>
    rw [braV_none hb] at HB
    have HEND := Lib.hid (show FillOk 7 s ⟨7, [], 0, false⟩ s false from by
      unfold FillOk placeL
      rw [if_neg (by decide), if_pos rfl, hb]
      rfl)
    clear hb
    go_enter Tryz.func36, Tryz.ntmps36
    go_upto_region 2 with fail
    rw [HRR.out, HTT.out, HW.out]
    go_upto_region 6 with (go_at_call 65; refine Calls.mono (by with_reducible exact HB.out _) ?_; rintro e w1 ⟨rfl, hk1⟩)
    have hT1 := HT0.out.kp hk1 (by simp)
    obtain ⟨c0, c1, c2, c3⟩ := hT1.cells
    have f1 := fun o => hT1.frz (o := o)
    have HT1 := Lib.hid hT1
    have hR1 := HR0.out.kp hk1 (by simp)
    obtain ⟨r0, r1, r2, r3⟩ := hR1.cells
    have fR := fun o => hR1.frz (o := o)
    have HR1 := Lib.hid hR1
    have HK1 := Lib.hid (HK0.out.trans hk1)
    simp only [gp0] at c0 c1 c2 c3 r0 r1 r2 r3
    clear hT1 hR1 hk1
    go_upto_region 7 with fail
    clear c0 c1 c2 c3 f1 r0 r1 r2 r3 fR
    have HT2 := Lib.hid (HT1.out.put1 [])
    have HR2 := Lib.hid (HR1.out.other (p := ⟨T, 1, none⟩) hRT (.string (bs [])))
    have HK2 := Lib.hid (HK1.out.setCell (p := ⟨T, 1, none⟩) (.inr hwT) (.string (bs [])))
    generalize w1.setCell ⟨T, 1, none⟩ (.string (bs [])) = W2 at *
    obtain ⟨c0, c1, c2, c3⟩ := HT2.out.cells
    have fR := fun o => HR2.out.frz (o := o)
    obtain ⟨r0, r1, r2, r3⟩ := HR2.out.cells
    simp only [gp0] at c0 c1 c2 c3 r0 r1 r2 r3
    go_region
    all_goals go_wp2
    all_goals exact pc_end3 rfl ((HR2.out.kp ((Kp.refl [] W2).drew 1) (by simp)).all ⟨7, [], 0, false⟩) rfl rfl rfl rfl ⟨⟨7, [], 0, false⟩, _, _, rfl, (HK2.out.drew 1).setAll hwR _ _ _ _, HEND.out⟩
  | some x =>
    obtain ⟨a, r⟩ := x
    rw [braV_some hb] at HB
    have hal := braceL_len hb
    have HP := Lib.hid fun W => refNm_any a W (by omega)
    obtain ⟨A, hA⟩ : ∃ A, nmB a = A := ⟨_, rfl⟩
    have HEND := Lib.hid (show FillOk 7 s ⟨7, a, 0, false⟩ r A from by
      unfold FillOk placeL
      rw [if_neg (by decide), if_pos rfl, hb, Option.bind_some]
      simp only [hA]
      cases A
      · rfl
      · exact ⟨rfl, rfl, rfl⟩)
    rw [hA] at HP
    clear hb hA hal
    go_enter Tryz.func36, Tryz.ntmps36
    go_upto_region 2 with fail
    rw [HRR.out, HTT.out, HW.out]
    go_upto_region 6 with (go_at_call 65; refine Calls.mono (by with_reducible exact HB.out _) ?_; rintro e w1 ⟨rfl, hk1⟩)
    have hT1 := HT0.out.kp hk1 (by simp)
    obtain ⟨c0, c1, c2, c3⟩ := hT1.cells
    have f1 := fun o => hT1.frz (o := o)
    have HT1 := Lib.hid hT1
    have hR1 := HR0.out.kp hk1 (by simp)
    obtain ⟨r0, r1, r2, r3⟩ := hR1.cells
    have fR := fun o => hR1.frz (o := o)
    have HR1 := Lib.hid hR1
    have HK1 := Lib.hid (HK0.out.trans hk1)
    simp only [gp0] at c0 c1 c2 c3 r0 r1 r2 r3
    clear hT1 hR1 hk1
    go_upto_region 7 with fail
    clear c0 c1 c2 c3 f1 r0 r1 r2 r3 fR
    have HT2 := Lib.hid (HT1.out.put1 a)
    have HR2 := Lib.hid (HR1.out.other (p := ⟨T, 1, none⟩) hRT (.string (bs a)))
    have HK2 := Lib.hid (HK1.out.setCell (p := ⟨T, 1, none⟩) (.inr hwT) (.string (bs a)))
    generalize w1.setCell ⟨T, 1, none⟩ (.string (bs a)) = W2 at *
    obtain ⟨c0, c1, c2, c3⟩ := HT2.out.cells
    have fR := fun o => HR2.out.frz (o := o)
    obtain ⟨r0, r1, r2, r3⟩ := HR2.out.cells
    simp only [gp0] at c0 c1 c2 c3 r0 r1 r2 r3
    go_region_with (go_at_call 42; refine Calls.mono (by with_reducible exact HP.out _) ?_; rintro e w1 ⟨rfl, hk1⟩; have HK1 := Lib.hid (((Kp.refl [] W2).drew 1).trans hk1); have HT1 := Lib.hid (HT2.out.kp HK1.out (by simp)); have HR1 := Lib.hid (HR2.out.kp HK1.out (by simp)); obtain ⟨x0, x1, x2, x3⟩ := HT1.out.cells; have fR1 := fun o => HR1.out.frz (o := o); obtain ⟨y0, y1, y2, y3⟩ := HR1.out.cells; simp only [gp0] at x0 x1 x2 x3 y0 y1 y2 y3; clear hk1)
    all_goals go_wp2
    all_goals exact pc_end3 rfl (HR1.out.all ⟨7, a, 0, false⟩) rfl rfl rfl rfl ⟨⟨7, a, 0, false⟩, _, _, rfl, (HK2.out.trans HK1.out).setAll hwR _ _ _ _, HEND.out⟩
set_option maxHeartbeats 4000000 in
set_option maxRecDepth 100000 in
theorem refPlace_8 : ∀ {s : List UInt8} {w : World} (_ : s.length ≤ 1000000), Calls Tryz.prog 36 #[.int .i64 8, .string (bs s)] w (FillPost 8 s w) := by
  intro s w hl
  have HB := Lib.hid fun W => refBraces_any s (by omega) W
  have hR0 : PAt (w.alloc (.cells #[.int .i64 0, .string ⟨#[]⟩, .int .i64 0, .bool false] 61)) w.heap.size gp0 := PAt.new w gp0
  have hT0 : PAt ((w.alloc (.cells #[.int .i64 0, .string ⟨#[]⟩, .int .i64 0, .bool false] 61)).alloc (.cells #[.int .i64 8, .string ⟨#[]⟩, .int .i64 0, .bool false] 61)) (w.heap.size + 1) ⟨8, [], 0, false⟩ := by
    have := PAt.new (w.alloc (.cells (gpC gp0) 61)) ⟨8, [], 0, false⟩
    rw [World.size_alloc] at this
    exact this
  have hR1 := hR0.kp ((Kp.refl [] _).alloc (.cells #[.int .i64 8, .string ⟨#[]⟩, .int .i64 0, .bool false] 61)) (by simp)
  have hK0 : Kp [] w ((w.alloc (.cells #[.int .i64 0, .string ⟨#[]⟩, .int .i64 0, .bool false] 61)).alloc (.cells #[.int .i64 8, .string ⟨#[]⟩, .int .i64 0, .bool false] 61)) := ((Kp.refl [] w).alloc _).alloc _
  clear hR0
  obtain ⟨W0, hW⟩ : ∃ W0, (w.alloc (.cells #[.int .i64 0, .string ⟨#[]⟩, .int .i64 0, .bool false] 61)).alloc (.cells #[.int .i64 8, .string ⟨#[]⟩, .int .i64 0, .bool false] 61) = W0 := ⟨_, rfl⟩
  obtain ⟨R, hRR⟩ : ∃ R, w.heap.size = R := ⟨_, rfl⟩
  obtain ⟨T, hTT⟩ : ∃ T, R + 1 = T := ⟨_, rfl⟩
  have hTR : T ≠ R := by omega
  have hRT : R ≠ T := by omega
  have hwR : w.heap.size ≤ R := by omega
  have hwT : w.heap.size ≤ T := by omega
  rw [hW] at hT0 hR1 hK0
  rw [hRR] at hR1
  rw [hRR, hTT] at hT0
  have HR0 := Lib.hid hR1
  have HT0 := Lib.hid hT0
  have HK0 := Lib.hid hK0
  have HW := Lib.hid hW
  have HRR := Lib.hid hRR
  have HTT := Lib.hid hTT
  clear hR1 hT0 hK0 hW hRR hTT
  cases hb : braceL s with
  | none =>
    rw [braV_none hb] at HB
    have HEND := Lib.hid (show FillOk 8 s ⟨8, [], 0, false⟩ s false from by
      unfold FillOk placeL
      rw [if_neg (by decide), if_neg (by decide), if_pos rfl, hb]
      rfl)
    clear hb
    go_enter Tryz.func36, Tryz.ntmps36
    go_upto_region 2 with fail
    rw [HRR.out, HTT.out, HW.out]
    go_upto_region 9 with (go_at_call 65; refine Calls.mono (by with_reducible exact HB.out _) ?_; rintro e w1 ⟨rfl, hk1⟩)
    have hT1 := HT0.out.kp hk1 (by simp)
    obtain ⟨c0, c1, c2, c3⟩ := hT1.cells
    have f1 := fun o => hT1.frz (o := o)
    have HT1 := Lib.hid hT1
    have hR1 := HR0.out.kp hk1 (by simp)
    obtain ⟨r0, r1, r2, r3⟩ := hR1.cells
    have fR := fun o => hR1.frz (o := o)
    have HR1 := Lib.hid hR1
    have HK1 := Lib.hid (HK0.out.trans hk1)
    simp only [gp0] at c0 c1 c2 c3 r0 r1 r2 r3
    clear hT1 hR1 hk1
    go_upto_region 10 with fail
    clear c0 c1 c2 c3 f1 r0 r1 r2 r3 fR
    have HT2 := Lib.hid (HT1.out.put1 [])
    have HR2 := Lib.hid (HR1.out.other (p := ⟨T, 1, none⟩) hRT (.string (bs [])))
    have HK2 := Lib.hid (HK1.out.setCell (p := ⟨T, 1, none⟩) (.inr hwT) (.string (bs [])))
    generalize w1.setCell ⟨T, 1, none⟩ (.string (bs [])) = W2 at *
    obtain ⟨c0, c1, c2, c3⟩ := HT2.out.cells
    have fR := fun o => HR2.out.frz (o := o)
    obtain ⟨r0, r1, r2, r3⟩ := HR2.out.cells
    simp only [gp0] at c0 c1 c2 c3 r0 r1 r2 r3
    go_region
    all_goals go_wp2
    all_goals exact pc_end3 rfl ((HR2.out.kp ((Kp.refl [] W2).drew 1) (by simp)).all ⟨8, [], 0, false⟩) rfl rfl rfl rfl ⟨⟨8, [], 0, false⟩, _, _, rfl, (HK2.out.drew 1).setAll hwR _ _ _ _, HEND.out⟩
  | some x =>
    obtain ⟨a, r⟩ := x
    rw [braV_some hb] at HB
    have hal := braceL_len hb
    have HP := Lib.hid fun W => refKy_any a W (by omega)
    obtain ⟨A, hA⟩ : ∃ A, kyB a = A := ⟨_, rfl⟩
    have HEND := Lib.hid (show FillOk 8 s ⟨8, a, 0, false⟩ r A from by
      unfold FillOk placeL
      rw [if_neg (by decide), if_neg (by decide), if_pos rfl, hb, Option.bind_some]
      simp only [hA]
      cases A
      · rfl
      · exact ⟨rfl, rfl, rfl⟩)
    rw [hA] at HP
    clear hb hA hal
    go_enter Tryz.func36, Tryz.ntmps36
    go_upto_region 2 with fail
    rw [HRR.out, HTT.out, HW.out]
    go_upto_region 9 with (go_at_call 65; refine Calls.mono (by with_reducible exact HB.out _) ?_; rintro e w1 ⟨rfl, hk1⟩)
    have hT1 := HT0.out.kp hk1 (by simp)
    obtain ⟨c0, c1, c2, c3⟩ := hT1.cells
    have f1 := fun o => hT1.frz (o := o)
    have HT1 := Lib.hid hT1
    have hR1 := HR0.out.kp hk1 (by simp)
    obtain ⟨r0, r1, r2, r3⟩ := hR1.cells
    have fR := fun o => hR1.frz (o := o)
    have HR1 := Lib.hid hR1
    have HK1 := Lib.hid (HK0.out.trans hk1)
    simp only [gp0] at c0 c1 c2 c3 r0 r1 r2 r3
    clear hT1 hR1 hk1
    go_upto_region 10 with fail
    clear c0 c1 c2 c3 f1 r0 r1 r2 r3 fR
    have HT2 := Lib.hid (HT1.out.put1 a)
    have HR2 := Lib.hid (HR1.out.other (p := ⟨T, 1, none⟩) hRT (.string (bs a)))
    have HK2 := Lib.hid (HK1.out.setCell (p := ⟨T, 1, none⟩) (.inr hwT) (.string (bs a)))
    generalize w1.setCell ⟨T, 1, none⟩ (.string (bs a)) = W2 at *
    obtain ⟨c0, c1, c2, c3⟩ := HT2.out.cells
    have fR := fun o => HR2.out.frz (o := o)
    obtain ⟨r0, r1, r2, r3⟩ := HR2.out.cells
    simp only [gp0] at c0 c1 c2 c3 r0 r1 r2 r3
    go_region_with (go_at_call 43; refine Calls.mono (by with_reducible exact HP.out _) ?_; rintro e w1 ⟨rfl, hk1⟩; have HK1 := Lib.hid (((Kp.refl [] W2).drew 1).trans hk1); have HT1 := Lib.hid (HT2.out.kp HK1.out (by simp)); have HR1 := Lib.hid (HR2.out.kp HK1.out (by simp)); obtain ⟨x0, x1, x2, x3⟩ := HT1.out.cells; have fR1 := fun o => HR1.out.frz (o := o); obtain ⟨y0, y1, y2, y3⟩ := HR1.out.cells; simp only [gp0] at x0 x1 x2 x3 y0 y1 y2 y3; clear hk1)
    all_goals go_wp2
    all_goals exact pc_end3 rfl (HR1.out.all ⟨8, a, 0, false⟩) rfl rfl rfl rfl ⟨⟨8, a, 0, false⟩, _, _, rfl, (HK2.out.trans HK1.out).setAll hwR _ _ _ _, HEND.out⟩
set_option maxHeartbeats 4000000 in
set_option maxRecDepth 100000 in
theorem refPlace_9 : ∀ {s : List UInt8} {w : World} (_ : Env w) (_ : s.length ≤ 1000000) (_ : s.head? = some 123), Calls Tryz.prog 36 #[.int .i64 9, .string (bs s)] w (FillPost 9 s w) := by
  intro s w hE hl hh
  have HB := Lib.hid fun W => refBraces_any s (by omega) W
  have HX := Lib.hid fun W => pre_any s 123 W
  rw [show (s.head? == some 123) = true by rw [hh]; rfl] at HX
  have hR0 : PAt (w.alloc (.cells #[.int .i64 0, .string ⟨#[]⟩, .int .i64 0, .bool false] 61)) w.heap.size gp0 := PAt.new w gp0
  have hT0 : PAt ((w.alloc (.cells #[.int .i64 0, .string ⟨#[]⟩, .int .i64 0, .bool false] 61)).alloc (.cells #[.int .i64 9, .string ⟨#[]⟩, .int .i64 0, .bool false] 61)) (w.heap.size + 1) ⟨9, [], 0, false⟩ := by
    have := PAt.new (w.alloc (.cells (gpC gp0) 61)) ⟨9, [], 0, false⟩
    rw [World.size_alloc] at this
    exact this
  have hR1 := hR0.kp ((Kp.refl [] _).alloc (.cells #[.int .i64 9, .string ⟨#[]⟩, .int .i64 0, .bool false] 61)) (by simp)
  have hK0 : Kp [] w ((w.alloc (.cells #[.int .i64 0, .string ⟨#[]⟩, .int .i64 0, .bool false] 61)).alloc (.cells #[.int .i64 9, .string ⟨#[]⟩, .int .i64 0, .bool false] 61)) := ((Kp.refl [] w).alloc _).alloc _
  clear hR0
  obtain ⟨W0, hW⟩ : ∃ W0, (w.alloc (.cells #[.int .i64 0, .string ⟨#[]⟩, .int .i64 0, .bool false] 61)).alloc (.cells #[.int .i64 9, .string ⟨#[]⟩, .int .i64 0, .bool false] 61) = W0 := ⟨_, rfl⟩
  obtain ⟨R, hRR⟩ : ∃ R, w.heap.size = R := ⟨_, rfl⟩
  obtain ⟨T, hTT⟩ : ∃ T, R + 1 = T := ⟨_, rfl⟩
  have hTR : T ≠ R := by omega
  have hRT : R ≠ T := by omega
  have hwR : w.heap.size ≤ R := by omega
  have hwT : w.heap.size ≤ T := by omega
  rw [hW] at hT0 hR1 hK0
  rw [hRR] at hR1
  rw [hRR, hTT] at hT0
  have HR0 := Lib.hid hR1
  have HT0 := Lib.hid hT0
  have HK0 := Lib.hid hK0
  have HW := Lib.hid hW
  have HRR := Lib.hid hRR
  have HTT := Lib.hid hTT
  clear hR1 hT0 hK0 hW hRR hTT
  cases hb : braceL s with
  | none =>
    rw [braV_none hb] at HB
    have HC := Lib.hid fun (W : World) (h : Kp [] w W) => refCount_any (hE.kp0 h) [] (by simp)
    rw [show cntV [] = .tuple #[.int .i64 0, .bool false, .bool false] from rfl] at HC
    have HEND := Lib.hid (show FillOk 9 s ⟨9, [], 0, false⟩ s false from by
      unfold FillOk placeL
      rw [if_neg (by decide), if_neg (by decide), if_neg (by decide), if_pos ⟨rfl, hh⟩, hb]
      rfl)
    clear hb hh hE
    go_enter Tryz.func36, Tryz.ntmps36
    go_upto_region 2 with fail
    rw [HRR.out, HTT.out, HW.out]
    go_upto_region 11 with (go_at_call 65; refine Calls.mono (by with_reducible exact HB.out _) ?_; rintro e w1 ⟨rfl, hk1⟩)
    have hT1 := HT0.out.kp hk1 (by simp)
    obtain ⟨c0, c1, c2, c3⟩ := hT1.cells
    have f1 := fun o => hT1.frz (o := o)
    have HT1 := Lib.hid hT1
    have hR1 := HR0.out.kp hk1 (by simp)
    obtain ⟨r0, r1, r2, r3⟩ := hR1.cells
    have fR := fun o => hR1.frz (o := o)
    have HR1 := Lib.hid hR1
    have HK1 := Lib.hid (HK0.out.trans hk1)
    simp only [gp0] at c0 c1 c2 c3 r0 r1 r2 r3
    clear hT1 hR1 hk1
    go_upto_region 13 with (first
      | (go_at_call 44; refine Calls.mono (by with_reducible exact HX.out _) ?_; rintro e w2 ⟨rfl, hk2⟩; subst hk2)
      | (go_at_call 66; refine Calls.mono (by with_reducible exact HC.out _ HK1.out) ?_; rintro e w3 ⟨rfl, hk3⟩; have hT3 := HT1.out.kp hk3 (by simp); have HT3 := Lib.hid hT3; have HR3 := Lib.hid (HR1.out.kp hk3 (by simp)); have HK3 := Lib.hid (HK1.out.trans hk3); clear hT3 hk3))
    clear c0 c1 c2 c3 f1 r0 r1 r2 r3 fR
    have f3 := fun o => HT3.out.frz (o := o)
    obtain ⟨c0, c1, c2, c3⟩ := HT3.out.cells
    go_upto_region 14 with fail
    clear f3 c0 c1 c2 c3
    have HT2 := Lib.hid ((HT3.out.put2 (0)).put3 false)
    have HR2 := Lib.hid ((HR3.out.other (p := ⟨T, 2, none⟩) hRT (.int .i64 (0))).other (p := ⟨T, 3, none⟩) hRT (.bool false))
    have HK2 := Lib.hid ((HK3.out.setCell (p := ⟨T, 2, none⟩) (.inr hwT) (.int .i64 (0))).setCell (p := ⟨T, 3, none⟩) (.inr hwT) (.bool false))
    generalize (w3.setCell ⟨T, 2, none⟩ (.int .i64 (0))).setCell ⟨T, 3, none⟩ (.bool false) = W2 at *
    obtain ⟨c0, c1, c2, c3⟩ := HT2.out.cells
    have fR := fun o => HR2.out.frz (o := o)
    obtain ⟨r0, r1, r2, r3⟩ := HR2.out.cells
    simp only [gp0] at c0 c1 c2 c3 r0 r1 r2 r3
    go_wp2
    exact pc_end3 rfl (HR2.out.all ⟨9, [], 0, false⟩) rfl rfl rfl rfl ⟨⟨9, [], 0, false⟩, _, _, rfl, HK2.out.setAll hwR _ _ _ _, HEND.out⟩
  | some x =>
    obtain ⟨a, r⟩ := x
    rw [braV_some hb] at HB
    have hal := braceL_len hb
    have HC := Lib.hid fun (W : World) (h : Kp [] w W) => refCount_any (hE.kp0 h) a (by omega)
    cases hc : countL a with
    | none =>
      rw [show cntV a = .tuple #[.int .i64 0, .bool false, .bool false] by unfold cntV; rw [hc]] at HC
      have HEND := Lib.hid (show FillOk 9 s ⟨9, [], 0, false⟩ r false from by
        unfold FillOk placeL
        rw [if_neg (by decide), if_neg (by decide), if_neg (by decide), if_pos ⟨rfl, hh⟩, hb, Option.bind_some]
        simp only [hc, Option.map_none])
      clear hb hh hE hc hal
      go_enter Tryz.func36, Tryz.ntmps36
      go_upto_region 2 with fail
      rw [HRR.out, HTT.out, HW.out]
      go_upto_region 11 with (go_at_call 65; refine Calls.mono (by with_reducible exact HB.out _) ?_; rintro e w1 ⟨rfl, hk1⟩)
      have hT1 := HT0.out.kp hk1 (by simp)
      obtain ⟨c0, c1, c2, c3⟩ := hT1.cells
      have f1 := fun o => hT1.frz (o := o)
      have HT1 := Lib.hid hT1
      have hR1 := HR0.out.kp hk1 (by simp)
      obtain ⟨r0, r1, r2, r3⟩ := hR1.cells
      have fR := fun o => hR1.frz (o := o)
      have HR1 := Lib.hid hR1
      have HK1 := Lib.hid (HK0.out.trans hk1)
      simp only [gp0] at c0 c1 c2 c3 r0 r1 r2 r3
      clear hT1 hR1 hk1
      go_upto_region 13 with (first
        | (go_at_call 44; refine Calls.mono (by with_reducible exact HX.out _) ?_; rintro e w2 ⟨rfl, hk2⟩; subst hk2)
        | (go_at_call 66; refine Calls.mono (by with_reducible exact HC.out _ HK1.out) ?_; rintro e w3 ⟨rfl, hk3⟩; have hT3 := HT1.out.kp hk3 (by simp); have HT3 := Lib.hid hT3; have HR3 := Lib.hid (HR1.out.kp hk3 (by simp)); have HK3 := Lib.hid (HK1.out.trans hk3); clear hT3 hk3))
      clear c0 c1 c2 c3 f1 r0 r1 r2 r3 fR
      have f3 := fun o => HT3.out.frz (o := o)
      obtain ⟨c0, c1, c2, c3⟩ := HT3.out.cells
      go_upto_region 14 with fail
      clear f3 c0 c1 c2 c3
      have HT2 := Lib.hid ((HT3.out.put2 (0)).put3 false)
      have HR2 := Lib.hid ((HR3.out.other (p := ⟨T, 2, none⟩) hRT (.int .i64 (0))).other (p := ⟨T, 3, none⟩) hRT (.bool false))
      have HK2 := Lib.hid ((HK3.out.setCell (p := ⟨T, 2, none⟩) (.inr hwT) (.int .i64 (0))).setCell (p := ⟨T, 3, none⟩) (.inr hwT) (.bool false))
      generalize (w3.setCell ⟨T, 2, none⟩ (.int .i64 (0))).setCell ⟨T, 3, none⟩ (.bool false) = W2 at *
      obtain ⟨c0, c1, c2, c3⟩ := HT2.out.cells
      have fR := fun o => HR2.out.frz (o := o)
      obtain ⟨r0, r1, r2, r3⟩ := HR2.out.cells
      simp only [gp0] at c0 c1 c2 c3 r0 r1 r2 r3
      go_wp2
      exact pc_end3 rfl (HR2.out.all ⟨9, [], 0, false⟩) rfl rfl rfl rfl ⟨⟨9, [], 0, false⟩, _, _, rfl, HK2.out.setAll hwR _ _ _ _, HEND.out⟩
    | some y =>
      obtain ⟨n, m⟩ := y
      rw [show cntV a = .tuple #[.int .i64 (n : Int), .bool m, .bool true] by unfold cntV; rw [hc]] at HC
      have HEND := Lib.hid (show FillOk 9 s ⟨9, [], (n : Int), m⟩ r true from by
        unfold FillOk placeL
        rw [if_neg (by decide), if_neg (by decide), if_neg (by decide), if_pos ⟨rfl, hh⟩, hb, Option.bind_some]
        simp only [hc, Option.map_some]
        exact ⟨rfl, by trivial, by trivial⟩)
      clear hb hh hE hc hal
      go_enter Tryz.func36, Tryz.ntmps36
      go_upto_region 2 with fail
      rw [HRR.out, HTT.out, HW.out]
      go_upto_region 11 with (go_at_call 65; refine Calls.mono (by with_reducible exact HB.out _) ?_; rintro e w1 ⟨rfl, hk1⟩)
      have hT1 := HT0.out.kp hk1 (by simp)
      obtain ⟨c0, c1, c2, c3⟩ := hT1.cells
      have f1 := fun o => hT1.frz (o := o)
      have HT1 := Lib.hid hT1
      have hR1 := HR0.out.kp hk1 (by simp)
      obtain ⟨r0, r1, r2, r3⟩ := hR1.cells
      have fR := fun o => hR1.frz (o := o)
      have HR1 := Lib.hid hR1
      have HK1 := Lib.hid (HK0.out.trans hk1)
      simp only [gp0] at c0 c1 c2 c3 r0 r1 r2 r3
      clear hT1 hR1 hk1
      go_upto_region 13 with (first
        | (go_at_call 44; refine Calls.mono (by with_reducible exact HX.out _) ?_; rintro e w2 ⟨rfl, hk2⟩; subst hk2)
        | (go_at_call 66; refine Calls.mono (by with_reducible exact HC.out _ HK1.out) ?_; rintro e w3 ⟨rfl, hk3⟩; have hT3 := HT1.out.kp hk3 (by simp); have HT3 := Lib.hid hT3; have HR3 := Lib.hid (HR1.out.kp hk3 (by simp)); have HK3 := Lib.hid (HK1.out.trans hk3); clear hT3 hk3))
      clear c0 c1 c2 c3 f1 r0 r1 r2 r3 fR
      have f3 := fun o => HT3.out.frz (o := o)
      obtain ⟨c0, c1, c2, c3⟩ := HT3.out.cells
      go_upto_region 14 with fail
      clear f3 c0 c1 c2 c3
      have HT2 := Lib.hid ((HT3.out.put2 ((n : Int))).put3 m)
      have HR2 := Lib.hid ((HR3.out.other (p := ⟨T, 2, none⟩) hRT (.int .i64 ((n : Int)))).other (p := ⟨T, 3, none⟩) hRT (.bool m))
      have HK2 := Lib.hid ((HK3.out.setCell (p := ⟨T, 2, none⟩) (.inr hwT) (.int .i64 ((n : Int)))).setCell (p := ⟨T, 3, none⟩) (.inr hwT) (.bool m))
      generalize (w3.setCell ⟨T, 2, none⟩ (.int .i64 ((n : Int)))).setCell ⟨T, 3, none⟩ (.bool m) = W2 at *
      obtain ⟨c0, c1, c2, c3⟩ := HT2.out.cells
      have fR := fun o => HR2.out.frz (o := o)
      obtain ⟨r0, r1, r2, r3⟩ := HR2.out.cells
      simp only [gp0] at c0 c1 c2 c3 r0 r1 r2 r3
      go_wp2
      exact pc_end3 rfl (HR2.out.all ⟨9, [], (n : Int), m⟩) rfl rfl rfl rfl ⟨⟨9, [], (n : Int), m⟩, _, _, rfl, HK2.out.setAll hwR _ _ _ _, HEND.out⟩
/-- THE REFERENCE'S place. -/
theorem refPlace_any {k : Nat} {s : List UInt8} {w : World} (hE : Env w) (hk : k = 0 ∨ 2 ≤ k ∧ k ≤ 11) (hl : s.length ≤ 1000000) : Calls Tryz.prog 36 #[.int .i64 (k : Int), .string (bs s)] w (FillPost k s w) := by
  rcases hk with rfl | hk
  · exact refPlace_0 hl
  by_cases h7 : k = 7
  · subst h7
    exact refPlace_7 hl
  by_cases h8 : k = 8
  · subst h8
    exact refPlace_8 hl
  by_cases h9 : k = 9 ∧ s.head? = some 123
  · obtain ⟨rfl, hh⟩ := h9
    exact refPlace_9 hE hl hh
  · exact refPlace_other hl hk h7 h8 (fun e h => h9 ⟨e, h⟩)
end Go.Proofs.YtfpkppgecmbglaaGreatDoor
