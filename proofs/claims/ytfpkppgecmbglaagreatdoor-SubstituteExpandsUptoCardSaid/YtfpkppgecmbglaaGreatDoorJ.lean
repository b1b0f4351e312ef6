/- filled: what stands in braces. -/
import Derived.Test.YtfpkppgecmbglaaGreatDoorI
namespace Go.Proofs.YtfpkppgecmbglaaGreatDoor
open Go.RowKit

theorem fill_name {k : Nat} {s1 a r : List UInt8} {cl : Bool} (hk : k = 7 ∨ k = 8) (h : Lib.cut s1 [125] = (a, r, cl)) : FillOk k (123 :: s1) ⟨k, a, 0, false⟩ r (cl && okG ⟨k, a, 0, false⟩) := by
  unfold FillOk placeL
  rw [braceL_cut, h]
  rcases hk with rfl | rfl
  · rw [if_neg (by decide), if_pos rfl]
    cases cl with
    | false => rfl
    | true =>
      simp only [if_true, Option.bind_some, Bool.true_and]
      have e : okG ⟨((7 : Nat) : Int), a, 0, false⟩ = nmB a := rfl
      rw [e]
      cases h2 : nmB a with
      | false => rfl
      | true => exact ⟨rfl, rfl, rfl⟩
  · rw [if_neg (by decide), if_neg (by decide), if_pos rfl]
    cases cl with
    | false => rfl
    | true =>
      simp only [if_true, Option.bind_some, Bool.true_and]
      have e : okG ⟨((8 : Nat) : Int), a, 0, false⟩ = kyB a := rfl
      rw [e]
      cases h2 : kyB a with
      | false => rfl
      | true => exact ⟨rfl, rfl, rfl⟩
theorem fill_word {s1 a r : List UInt8} {cl : Bool} (h : Lib.cut s1 [125] = (a, r, cl)) : FillOk 9 (123 :: s1) ⟨9, [], wnum (plusL a), a.getLast? == some 43⟩ r (cl && (decide (0 < wnum (plusL a)) && okG ⟨9, [], wnum (plusL a), a.getLast? == some 43⟩)) := by
  unfold FillOk placeL
  rw [braceL_cut, h, if_neg (by decide), if_neg (by decide), if_neg (by decide), if_pos ⟨rfl, rfl⟩]
  cases cl with
  | false => rfl
  | true =>
    simp only [if_true, Option.bind_some, Bool.true_and]
    rw [countL_eq]
    cases hn : numN (plusL a) with
    | none =>
      have := wnum_none hn
      simp only [Option.map_none]
      rw [Bool.and_eq_false_iff]
      by_cases h0 : 0 < wnum (plusL a)
      · right
        have h1 : ¬ wnum (plusL a) ≤ 99 := fun h1 => this ⟨h0, h1⟩
        unfold okG
        simp [h1]
      · left
        simpa using h0
    | some n =>
      have hw := wnum_some hn
      have hl := numN_le hn
      simp only [Option.map_some]
      rw [hw]
      refine ⟨rfl, trivial, ?_⟩
      unfold okG
      simp
      omega
set_option maxHeartbeats 4000000 in
set_option maxRecDepth 100000 in
theorem filled_name {k : Nat} {s1 : List UInt8} {w : World} (hE : Env w) (hl : s1.length ≤ 1000000) (hk : k = 7 ∨ k = 8) : Calls Tryz.prog 62 #[.int .i64 (k : Int), .string (bs (123 :: s1))] w (FillPost k (123 :: s1) w) := by
  have HB := Lib.hid fun W => knowsBraces_any (k : Int) W
  have HX := Lib.hid fun W => pre_any (123 :: s1) 123 W
  rw [show brK (k : Int) = true by rcases hk with rfl | rfl <;> decide] at HB
  rw [show ((123 :: s1 : List UInt8).head? == some 123) = true from rfl] at HX
  obtain ⟨a, r, cl, hcut⟩ : ∃ a r cl, Lib.cut s1 [125] = (a, r, cl) := ⟨_, _, _, rfl⟩
  have hal : a.length ≤ 1000000 := by have := (cut_len s1).1; rw [hcut] at this; exact Nat.le_trans this hl
  have HC := Lib.hid fun (W : World) (h : Kp [] w W) => cut_any (hE.kp0 h) s1 (by omega)
  have hex : bs s1 = (bs (123 :: s1)).extract 1 (bs (123 :: s1)).size := by rw [bs_drop]; rfl
  rw [hcut, hex] at HC
  have HEND := Lib.hid (fill_name hk hcut)
  have h9 : ((k : Int) != 9) = true := by rcases hk with rfl | rfl <;> decide
  have h9' : ¬ (k : Int) = 9 := by omega
  have hsz : (1 : Int) ≤ ((bs (123 :: s1)).size : Int) := by rw [bs_size]; simp; omega
  obtain ⟨A, hA⟩ : ∃ A, okG ⟨k, a, 0, false⟩ = A := ⟨_, rfl⟩
  have HP := Lib.hid fun W => isPiece_any ⟨k, a, 0, false⟩ W (by simp only; omega)
  rw [hA] at HP HEND
  simp only [gpC] at HP
  have hR0 : PAt (w.alloc (.cells #[.int .i64 0, .string ⟨#[]⟩, .int .i64 0, .bool false] 61)) w.heap.size gp0 := PAt.new w gp0
  have hT0 : PAt ((w.alloc (.cells #[.int .i64 0, .string ⟨#[]⟩, .int .i64 0, .bool false] 61)).alloc (.cells #[.int .i64 (k : Int), .string ⟨#[]⟩, .int .i64 0, .bool false] 61)) (w.heap.size + 1) ⟨k, [], 0, false⟩ := by
    have := PAt.new (w.alloc (.cells (gpC gp0) 61)) ⟨k, [], 0, false⟩
    rw [World.size_alloc] at this
    exact this
  have hR1 := hR0.kp ((Kp.refl [] _).alloc (.cells #[.int .i64 (k : Int), .string ⟨#[]⟩, .int .i64 0, .bool false] 61)) (by simp)
  have hK0 : Kp [] w ((w.alloc (.cells #[.int .i64 0, .string ⟨#[]⟩, .int .i64 0, .bool false] 61)).alloc (.cells #[.int .i64 (k : Int), .string ⟨#[]⟩, .int .i64 0, .bool false] 61)) := ((Kp.refl [] w).alloc _).alloc _
  clear hR0
  obtain ⟨W0, hW⟩ : ∃ W0, (w.alloc (.cells #[.int .i64 0, .string ⟨#[]⟩, .int .i64 0, .bool false] 61)).alloc (.cells #[.int .i64 (k : Int), .string ⟨#[]⟩, .int .i64 0, .bool false] 61) = W0 := ⟨_, rfl⟩
  obtain ⟨R, hRR⟩ : ∃ R, w.heap.size = R := ⟨_, rfl⟩
  obtain ⟨T, hTT⟩ : ∃ T, R + 1 = T := ⟨_, rfl⟩
  have hTR : T ≠ R := by omega
  have hRT : R ≠ T := by omega
  have hwR : w.heap.size ≤ R := by omega
  have hwT : w.heap.size ≤ T := by omega
  rw [hW] at hT0 hR1 hK0
  rw [hRR] at hR1
  rw [hRR, hTT] at hT0
  have HR0 := Lib.hid hR1
  have HT0 := Lib.hid hT0
  have HK0 := Lib.hid hK0
  have HW := Lib.hid hW
  have HRR := Lib.hid hRR
  have HTT := Lib.hid hTT
  clear hR1 hT0 hK0 hW hRR hTT
  clear hk hA hcut hex
  go_enter Tryz.func62, Tryz.ntmps62
  go_upto_region 6 with (first
    | (go_at_call 102; refine Calls.mono (by with_reducible exact HB.out _) ?_; rintro e w1 ⟨rfl, rfl⟩)
    | (go_at_call 44; refine Calls.mono (by with_reducible exact HX.out _) ?_; rintro e w1 ⟨rfl, rfl⟩; rw [HRR.out, HTT.out, HW.out])
    | (go_at_call 103; refine Calls.mono (by with_reducible exact HC.out _ HK0.out) ?_; rintro e w1 ⟨rfl, hk1⟩))
  have hT1 := HT0.out.kp hk1 (by simp)
  obtain ⟨c0, c1, c2, c3⟩ := hT1.cells
  have f1 := fun o => hT1.frz (o := o)
  have HT1 := Lib.hid hT1
  have HR1 := Lib.hid (HR0.out.kp hk1 (by simp))
  have HK1 := Lib.hid (HK0.out.trans hk1)
  clear hT1 hk1
  go_wp2_with fail
  clear c0 c1 c2 c3 f1
  have HT2 := Lib.hid (HT1.out.put1 a)
  have HR2 := Lib.hid (HR1.out.other (p := ⟨T, 1, none⟩) hRT (.string (bs a)))
  have HK2 := Lib.hid (HK1.out.setCell (p := ⟨T, 1, none⟩) (.inr hwT) (.string (bs a)))
  generalize w1.setCell ⟨T, 1, none⟩ (.string (bs a)) = W2 at *
  cases cl with
  | true =>
    rw [Bool.true_and] at HEND
    obtain ⟨c0, c1, c2, c3⟩ := HT2.out.cells
    have fR := fun o => HR2.out.frz (o := o)
    obtain ⟨r0, r1, r2, r3⟩ := HR2.out.cells
    simp only [gp0] at c0 c1 c2 c3 r0 r1 r2 r3
    go_region_with (go_at_call 37; refine Calls.mono (by with_reducible exact HP.out _) ?_; rintro e w1 ⟨rfl, hk1⟩; have HK1 := Lib.hid (((Kp.refl [] W2).drew 1).trans hk1); have HT1 := Lib.hid (HT2.out.kp HK1.out (by simp)); have HR1 := Lib.hid (HR2.out.kp HK1.out (by simp)); obtain ⟨x0, x1, x2, x3⟩ := HT1.out.cells; have fR1 := fun o => HR1.out.frz (o := o); obtain ⟨y0, y1, y2, y3⟩ := HR1.out.cells; simp only [gp0] at x0 x1 x2 x3 y0 y1 y2 y3; clear hk1)
    all_goals go_wp2
    all_goals exact pc_end3 rfl (HR1.out.all ⟨k, a, 0, false⟩) rfl rfl rfl rfl ⟨⟨k, a, 0, false⟩, _, _, rfl, (HK2.out.trans HK1.out).setAll hwR _ _ _ _, HEND.out⟩
  | false =>
    rw [Bool.false_and] at HEND
    obtain ⟨c0, c1, c2, c3⟩ := HT2.out.cells
    have fR := fun o => HR2.out.frz (o := o)
    obtain ⟨r0, r1, r2, r3⟩ := HR2.out.cells
    simp only [gp0] at c0 c1 c2 c3 r0 r1 r2 r3
    go_region
    all_goals go_wp2
    all_goals exact pc_end3 rfl ((HR2.out.kp ((Kp.refl [] W2).drew 1) (by simp)).all ⟨k, a, 0, false⟩) rfl rfl rfl rfl ⟨⟨k, a, 0, false⟩, _, _, rfl, (HK2.out.drew 1).setAll hwR _ _ _ _, HEND.out⟩
set_option maxHeartbeats 4000000 in
set_option maxRecDepth 100000 in
theorem filled_word {s1 : List UInt8} {w : World} (hE : Env w) (hl : s1.length ≤ 1000000) : Calls Tryz.prog 62 #[.int .i64 9, .string (bs (123 :: s1))] w (FillPost 9 (123 :: s1) w) := by
  have HB := Lib.hid fun W => knowsBraces_any 9 W
  have HX := Lib.hid fun W => pre_any (123 :: s1) 123 W
  rw [show brK 9 = true from rfl] at HB
  rw [show ((123 :: s1 : List UInt8).head? == some 123) = true from rfl] at HX
  obtain ⟨a, r, cl, hcut⟩ : ∃ a r cl, Lib.cut s1 [125] = (a, r, cl) := ⟨_, _, _, rfl⟩
  have hal : a.length ≤ 1000000 := by have := (cut_len s1).1; rw [hcut] at this; exact Nat.le_trans this hl
  have HC := Lib.hid fun (W : World) (h : Kp [] w W) => cut_any (hE.kp0 h) s1 (by omega)
  have hex : bs s1 = (bs (123 :: s1)).extract 1 (bs (123 :: s1)).size := by rw [bs_drop]; rfl
  rw [hcut, hex] at HC
  have HEND := Lib.hid (fill_word hcut)
  have HCS := Lib.hid fun W => cutSuffix_any a W (by omega)
  have hpl := plusL_len a
  have HWN := Lib.hid fun (W : World) (h : Kp [] w W) => wordNumber_any (hE.kp0 h) (plusL a) (by omega)
  have hsz : (1 : Int) ≤ ((bs (123 :: s1)).size : Int) := by rw [bs_size]; simp; omega
  obtain ⟨A, hA⟩ : ∃ A, okG ⟨9, [], wnum (plusL a), a.getLast? == some 43⟩ = A := ⟨_, rfl⟩
  have HP := Lib.hid fun W => isPiece_any ⟨9, [], wnum (plusL a), a.getLast? == some 43⟩ W (by simp)
  rw [hA] at HP HEND
  simp only [gpC] at HP
  have hR0 : PAt (w.alloc (.cells #[.int .i64 0, .string ⟨#[]⟩, .int .i64 0, .bool false] 61)) w.heap.size gp0 := PAt.new w gp0
  have hT0 : PAt ((w.alloc (.cells #[.int .i64 0, .string ⟨#[]⟩, .int .i64 0, .bool false] 61)).alloc (.cells #[.int .i64 9, .string ⟨#[]⟩, .int .i64 0, .bool false] 61)) (w.heap.size + 1) ⟨9, [], 0, false⟩ := by
    have := PAt.new (w.alloc (.cells (gpC gp0) 61)) ⟨9, [], 0, false⟩
    rw [World.size_alloc] at this
    exact this
  have hR1 := hR0.kp ((Kp.refl [] _).alloc (.cells #[.int .i64 9, .string ⟨#[]⟩, .int .i64 0, .bool false] 61)) (by simp)
  have hK0 : Kp [] w ((w.alloc (.cells #[.int .i64 0, .string ⟨#[]⟩, .int .i64 0, .bool false] 61)).alloc (.cells #[.int .i64 9, .string ⟨#[]⟩, .int .i64 0, .bool false] 61)) := ((Kp.refl [] w).alloc _).alloc _
  clear hR0
  obtain ⟨W0, hW⟩ : ∃ W0, (w.alloc (.cells #[.int .i64 0, .string ⟨#[]⟩, .int .i64 0, .bool false] 61)).alloc (.cells #[.int .i64 9, .string ⟨#[]⟩, .int .i64 0, .bool false] 61) = W0 := ⟨_, rfl⟩
  obtain ⟨R, hRR⟩ : ∃ R, w.heap.size = R := ⟨_, rfl⟩
  obtain ⟨T, hTT⟩ : ∃ T, R + 1 = T := ⟨_, rfl⟩
  have hTR : T ≠ R := by omega
  have hRT : R ≠ T := by omega
  have hwR : w.heap.size ≤ R := by omega
  have hwT : w.heap.size ≤ T := by omega
  rw [hW] at hT0 hR1 hK0
  rw [hRR] at hR1
  rw [hRR, hTT] at hT0
  have HR0 := Lib.hid hR1
  have HT0 := Lib.hid hT0
  have HK0 := Lib.hid hK0
  have HW := Lib.hid hW
  have HRR := Lib.hid hRR
  have HTT := Lib.hid hTT
  clear hR1 hT0 hK0 hW hRR hTT
  clear hA hcut hex hpl
  generalize plusL a = b at *
  generalize (a.getLast? == some 43) = m at *
  generalize wnum b = n at *
  go_enter Tryz.func62, Tryz.ntmps62
  go_upto_region 8 with (first
    | (go_at_call 102; refine Calls.mono (by with_reducible exact HB.out _) ?_; rintro e w1 ⟨rfl, rfl⟩)
    | (go_at_call 44; refine Calls.mono (by with_reducible exact HX.out _) ?_; rintro e w1 ⟨rfl, rfl⟩; rw [HRR.out, HTT.out, HW.out])
    | (go_at_call 103; refine Calls.mono (by with_reducible exact HC.out _ HK0.out) ?_; rintro e w1 ⟨rfl, hk1⟩))
  have hT1 := HT0.out.kp hk1 (by simp)
  obtain ⟨c0, c1, c2, c3⟩ := hT1.cells
  have f1 := fun o => hT1.frz (o := o)
  have HT1 := Lib.hid hT1
  have HR1 := Lib.hid (HR0.out.kp hk1 (by simp))
  have HK1 := Lib.hid (HK0.out.trans hk1)
  clear hT1 hk1
  go_upto_region 9 with (go_at_call 104; refine Calls.mono (by with_reducible exact HCS.out _) ?_; rintro e w2 ⟨rfl, rfl⟩)
  clear c0 c1 c2 c3 f1
  have HT2 := Lib.hid (HT1.out.put3 m)
  have HR2 := Lib.hid (HR1.out.other (p := ⟨T, 3, none⟩) hRT (.bool m))
  have HK2 := Lib.hid (HK1.out.setCell (p := ⟨T, 3, none⟩) (.inr hwT) (.bool m))
  generalize w1.setCell ⟨T, 3, none⟩ (.bool m) = W3 at *
  go_wp2_with (go_at_call 105; refine Calls.mono (by with_reducible exact HWN.out _ HK2.out) ?_; rintro e w3 ⟨rfl, hk3⟩; have hT3 := HT2.out.kp hk3 (by simp); obtain ⟨c0, c1, c2, c3⟩ := hT3.cells; have f1 := fun o => hT3.frz (o := o); have HT3 := Lib.hid hT3; have HR3 := Lib.hid (HR2.out.kp hk3 (by simp)); have HK3 := Lib.hid (HK2.out.trans hk3); clear hT3 hk3)
  clear c0 c1 c2 c3 f1 HT2 HR2 HK2
  have HT2 := Lib.hid (HT3.out.put2 n)
  have HR2 := Lib.hid (HR3.out.other (p := ⟨T, 2, none⟩) hRT (.int .i64 n))
  have HK2 := Lib.hid (HK3.out.setCell (p := ⟨T, 2, none⟩) (.inr hwT) (.int .i64 n))
  generalize w3.setCell ⟨T, 2, none⟩ (.int .i64 n) = W2 at *
  cases cl with
  | false =>
    rw [Bool.false_and] at HEND
    obtain ⟨c0, c1, c2, c3⟩ := HT2.out.cells
    have fR := fun o => HR2.out.frz (o := o)
    obtain ⟨r0, r1, r2, r3⟩ := HR2.out.cells
    simp only [gp0] at c0 c1 c2 c3 r0 r1 r2 r3
    go_region
    all_goals go_wp2
    all_goals exact pc_end3 rfl ((HR2.out.kp ((Kp.refl [] W2).drew 1) (by simp)).all ⟨9, [], n, m⟩) rfl rfl rfl rfl ⟨⟨9, [], n, m⟩, _, _, rfl, (HK2.out.drew 1).setAll hwR _ _ _ _, HEND.out⟩
  | true =>
    rw [Bool.true_and] at HEND
    by_cases hn : 0 < n
    · rw [decide_eq_true hn, Bool.true_and] at HEND
      obtain ⟨c0, c1, c2, c3⟩ := HT2.out.cells
      have fR := fun o => HR2.out.frz (o := o)
      obtain ⟨r0, r1, r2, r3⟩ := HR2.out.cells
      simp only [gp0] at c0 c1 c2 c3 r0 r1 r2 r3
      go_region_with (go_at_call 37; refine Calls.mono (by with_reducible exact HP.out _) ?_; rintro e w1 ⟨rfl, hk1⟩; have HK1 := Lib.hid (((Kp.refl [] W2).drew 1).trans hk1); have HT1 := Lib.hid (HT2.out.kp HK1.out (by simp)); have HR1 := Lib.hid (HR2.out.kp HK1.out (by simp)); obtain ⟨x0, x1, x2, x3⟩ := HT1.out.cells; have fR1 := fun o => HR1.out.frz (o := o); obtain ⟨y0, y1, y2, y3⟩ := HR1.out.cells; simp only [gp0] at x0 x1 x2 x3 y0 y1 y2 y3; clear hk1)
      all_goals go_wp2
      all_goals exact pc_end3 rfl (HR1.out.all ⟨9, [], n, m⟩) rfl rfl rfl rfl ⟨⟨9, [], n, m⟩, _, _, rfl, (HK2.out.trans HK1.out).setAll hwR _ _ _ _, HEND.out⟩
    · rw [decide_eq_false hn, Bool.false_and] at HEND
      obtain ⟨c0, c1, c2, c3⟩ := HT2.out.cells
      have fR := fun o => HR2.out.frz (o := o)
      obtain ⟨r0, r1, r2, r3⟩ := HR2.out.cells
      simp only [gp0] at c0 c1 c2 c3 r0 r1 r2 r3
      go_region
      all_goals go_wp2
      all_goals exact pc_end3 rfl ((HR2.out.kp ((Kp.refl [] W2).drew 1) (by simp)).all ⟨9, [], n, m⟩) rfl rfl rfl rfl ⟨⟨9, [], n, m⟩, _, _, rfl, (HK2.out.drew 1).setAll hwR _ _ _ _, HEND.out⟩
end Go.Proofs.YtfpkppgecmbglaaGreatDoor
