/- Ie -/
import Derived.Test.YtkkibibecgcbmaaGreatDoorQGx
import Derived.Test.YtkkibibecgcbmaaGreatDoorQId
open Go.Lib renaming hid → qH
open Go.Calls renaming mono → cM
set_option maxRecDepth 100000
set_option maxHeartbeats 16000000
namespace Go.Proofs.YtkkibibecgcbmaaGreatDoor
open Go.RowKit
theorem refMatch_any (t : Tm) (W : World) : Calls Tryz.prog 14 #[.agg #[.int .i64 t.key, .string (bs t.name), .int .i64 t.op, .string (bs t.val)]] W fun e W' => e = .returned (.bool (matchB t.op)) ∧ Kp [] W W' := by
 obtain ⟨W1, hW1⟩ : ∃ W1, W.alloc (.cells #[.int .i64 t.key, .string (bs t.name), .int .i64 t.op, .string (bs t.val)] 31) = W1 := ⟨_, rfl⟩
 obtain ⟨B, hB⟩ : ∃ B, W.heap.size = B := ⟨_, rfl⟩
 have hk : Kp [] W W1 := by rw [← hW1]; exact (Kp.refl [] W).alloc _
 have hb : MAt W1 B t := by rw [← hW1, ← hB]; exact MAt.new W t
 obtain ⟨c0, c1, c2, c3⟩ := hb.cells
 have HK := qH hk
 clear hk hb
 have hm : matchB t.op = ((t.op == 1) || (t.op == 2)) := rfl
 obtain ⟨b1, h1⟩ : ∃ b, (t.op == 1) = b := ⟨_, rfl⟩
 obtain ⟨b2, h2⟩ : ∃ b, (t.op == 2) = b := ⟨_, rfl⟩
 rw [hm, h1, h2]
 clear hm
 cases b1 <;> cases b2 <;>
 ·go_enter Tryz.func14, Tryz.ntmps14
  go_wp2
  go_ret
  exact ⟨rfl, HK.out⟩
theorem refNamed_any (t : Tm) (hs : SmT t) (W : World) : Calls Tryz.prog 40 #[.agg #[.int .i64 t.key, .string (bs t.name), .int .i64 t.op, .string (bs t.val)]] W fun e W' => e = .returned (.bool (nmT t.key t.name)) ∧ Kp [] W W' := by
 obtain ⟨W1, hW1⟩ : ∃ W1, W.alloc (.cells #[.int .i64 t.key, .string (bs t.name), .int .i64 t.op, .string (bs t.val)] 31) = W1 := ⟨_, rfl⟩
 obtain ⟨B, hB⟩ : ∃ B, W.heap.size = B := ⟨_, rfl⟩
 have hk : Kp [] W W1 := by rw [← hW1]; exact (Kp.refl [] W).alloc _
 have hb : MAt W1 B t := by rw [← hW1, ← hB]; exact MAt.new W t
 obtain ⟨c0, c1, c2, c3⟩ := hb.cells
 have HK := qH hk
 clear hk hb
 have HNM := qH fun W => refNm_any t.name W (by have := hs.1; omega)
 have HKY := qH fun W => refKy_any t.name W (by have := hs.1; omega)
 obtain ⟨V, hV⟩ : ∃ V, nmT t.key t.name = V := ⟨_, rfl⟩
 rw [hV]
 unfold nmT at hV
 by_cases k5 : t.key = 5
 ·rw [if_pos (.inl k5)] at hV
  rw [hV] at HNM
  rw [k5] at c0 hW1 ⊢
  clear k5 hV
  go_enter Tryz.func40, Tryz.ntmps40
  go_wp2_with (go_at_call 61; refine cM (by with_reducible exact HNM.out _) ?_; rintro e w2 ⟨rfl, hk2⟩; have HK2 := qH (HK.out.trans hk2); clear hk2)
  go_ret
  exact ⟨rfl, HK2.out⟩
 by_cases k11 : t.key = 11
 ·rw [if_pos (.inr k11)] at hV
  rw [hV] at HNM
  rw [k11] at c0 hW1 ⊢
  clear k5 k11 hV
  go_enter Tryz.func40, Tryz.ntmps40
  go_wp2_with (go_at_call 61; refine cM (by with_reducible exact HNM.out _) ?_; rintro e w2 ⟨rfl, hk2⟩; have HK2 := qH (HK.out.trans hk2); clear hk2)
  go_ret
  exact ⟨rfl, HK2.out⟩
 rw [if_neg (by rintro (h | h); exact k5 h; exact k11 h)] at hV
 by_cases k6 : t.key = 6
 ·rw [if_pos k6] at hV
  rw [hV] at HKY
  rw [k6] at c0 hW1 ⊢
  clear k5 k11 k6 hV
  go_enter Tryz.func40, Tryz.ntmps40
  go_wp2_with (go_at_call 62; refine cM (by with_reducible exact HKY.out _) ?_; rintro e w2 ⟨rfl, hk2⟩; have HK2 := qH (HK.out.trans hk2); clear hk2)
  go_ret
  exact ⟨rfl, HK2.out⟩
 rw [if_neg k6] at hV
 by_cases k14 : t.key = 14
 ·rw [if_pos k14] at hV
  have hc : srcL.contains t.name = ((t.name == [112, 114, 111, 103, 114, 97, 109]) || (t.name == [112, 97, 114, 101, 110, 116]) || (t.name == [98, 117, 105, 108, 116, 105, 110])) := by simp only [srcL, List.contains_cons, List.contains_nil, Bool.or_false, Bool.or_assoc]
  have s1 := str_eq t.name [112, 114, 111, 103, 114, 97, 109]
  have s2 := str_eq t.name [112, 97, 114, 101, 110, 116]
  have s3 := str_eq t.name [98, 117, 105, 108, 116, 105, 110]
  rw [toL0] at s1 s2 s3
  rw [hc] at hV
  obtain ⟨b1, h1⟩ : ∃ b, (t.name == [112, 114, 111, 103, 114, 97, 109]) = b := ⟨_, rfl⟩
  obtain ⟨b2, h2⟩ : ∃ b, (t.name == [112, 97, 114, 101, 110, 116]) = b := ⟨_, rfl⟩
  obtain ⟨b3, h3⟩ : ∃ b, (t.name == [98, 117, 105, 108, 116, 105, 110]) = b := ⟨_, rfl⟩
  rw [h1, h2, h3] at hV
  have g1 : ((bs t.name).toList == [112, 114, 111, 103, 114, 97, 109]) = b1 := by rw [toL0]; exact h1
  have g2 : ((bs t.name).toList == [112, 97, 114, 101, 110, 116]) = b2 := by rw [toL0]; exact h2
  have g3 : ((bs t.name).toList == [98, 117, 105, 108, 116, 105, 110]) = b3 := by rw [toL0]; exact h3
  rw [k14] at c0 hW1 ⊢
  generalize bs t.name = q at *
  subst hV
  clear k5 k11 k6 k14 s1 s2 s3 h1 h2 h3 hc hs
  cases b1 <;> cases b2 <;> cases b3 <;>
  ·go_enter Tryz.func40, Tryz.ntmps40
   go_wp2
   go_ret
   exact ⟨rfl, HK.out⟩
 rw [if_neg k14] at hV
 have q5 : (t.key == 5) = false := by simpa using k5
 have q11 : (t.key == 11) = false := by simpa using k11
 have q6 : (t.key == 6) = false := by simpa using k6
 have q14 : (t.key == 14) = false := by simpa using k14
 have g1 : (bs t.name).toList.isEmpty = V := by rw [toL0, ← hV]; cases t.name <;> rfl
 clear k5 k11 k6 k14 hV hs
 go_enter Tryz.func40, Tryz.ntmps40
 go_wp2
 go_ret
 exact ⟨rfl, HK.out⟩
theorem MAt.kp0 {w w' : World} {b : Nat} {t : Tm} (h : MAt w b t) (hk : Kp [] w w') : MAt w' b t := (hk.block b (block_lt h) (by simp)).trans h
theorem refAllowed_match {k : Int} {n : List UInt8} {o : Int} {v : List UInt8} {W : World} (h1 : 1 ≤ k) (h2 : k ≤ 24) (hm : matchB o = true) : Calls Tryz.prog 41 #[.agg #[.int .i64 k, .string (bs n), .int .i64 o, .string (bs v)]] W fun e W' => e = .returned (.bool ((opT k).contains o)) ∧ Kp [] W W' := by
 have hR : (opT k).contains o = decide (k ≤ 14) := by
  have ho : o = 1 ∨ o = 2 := by simpa [matchB] using hm
  have hk : k = 1 ∨ k = 2 ∨ k = 3 ∨ k = 4 ∨ k = 5 ∨ k = 6 ∨ k = 7 ∨ k = 8 ∨ k = 9 ∨ k = 10 ∨ k = 11 ∨ k = 12 ∨ k = 13 ∨ k = 14 ∨ k = 15 ∨ k = 16 ∨ k = 17 ∨ k = 18 ∨ k = 19 ∨ k = 20 ∨ k = 21 ∨ k = 22 ∨ k = 23 ∨ k = 24 := by omega
  rcases ho with rfl | rfl <;> rcases hk with rfl | rfl | rfl | rfl | rfl | rfl | rfl | rfl | rfl | rfl | rfl | rfl | rfl | rfl | rfl | rfl | rfl | rfl | rfl | rfl | rfl | rfl | rfl | rfl <;> decide
 rw [hR]
 clear hR h1 h2
 obtain ⟨W1, hW1⟩ : ∃ W1, W.alloc (.cells #[.int .i64 k, .string (bs n), .int .i64 o, .string (bs v)] 31) = W1 := ⟨_, rfl⟩
 obtain ⟨B, hB⟩ : ∃ B, W.heap.size = B := ⟨_, rfl⟩
 have hk : Kp [] W W1 := by rw [← hW1]; exact (Kp.refl [] W).alloc _
 have hb : MAt W1 B ⟨k, n, o, v⟩ := by rw [← hW1, ← hB]; exact MAt.new W ⟨k, n, o, v⟩
 obtain ⟨c0, c1, c2, c3⟩ := hb.cells
 have HK := qH hk
 have HB := qH hb
 have HM := qH fun W => (show Calls Tryz.prog 14 #[.agg #[.int .i64 k, .string (bs n), .int .i64 o, .string (bs v)]] W fun e W' => e = .returned (.bool true) ∧ Kp [] W W' from by have := refMatch_any ⟨k, n, o, v⟩ W; rw [show matchB (⟨k, n, o, v⟩ : Tm).op = true from hm] at this; exact this)
 clear hk hb
 go_enter Tryz.func41, Tryz.ntmps41
 go_wp2_with (go_at_call 14; refine cM (by with_reducible exact HM.out _) ?_; rintro e w2 ⟨rfl, hk2⟩; have HK2 := qH (HK.out.trans hk2); have hb2 := HB.out.kp0 hk2; clear c0 c1 c2 c3; obtain ⟨c0, c1, c2, c3⟩ := hb2.cells; clear hb2 hk2)
 go_ret
 exact ⟨rfl, HK2.out⟩
theorem refAllowed_6 {k : Int} {n : List UInt8} {o : Int} {v : List UInt8} {W : World} (hm : matchB o = false) (hk : k = 6) : Calls Tryz.prog 41 #[.agg #[.int .i64 k, .string (bs n), .int .i64 o, .string (bs v)]] W fun e W' => e = .returned (.bool ((opT k).contains o)) ∧ Kp [] W W' := by
 subst hk
 by_cases o3 : o = 3
 ·subst o3
  rw [show (opT 6).contains 3 = true from by decide]
  clear hm 
  obtain ⟨W1, hW1⟩ : ∃ W1, W.alloc (.cells #[.int .i64 6, .string (bs n), .int .i64 3, .string (bs v)] 31) = W1 := ⟨_, rfl⟩
  obtain ⟨B, hB⟩ : ∃ B, W.heap.size = B := ⟨_, rfl⟩
  have hk : Kp [] W W1 := by rw [← hW1]; exact (Kp.refl [] W).alloc _
  have hb : MAt W1 B ⟨6, n, 3, v⟩ := by rw [← hW1, ← hB]; exact MAt.new W ⟨6, n, 3, v⟩
  obtain ⟨c0, c1, c2, c3⟩ := hb.cells
  have HK := qH hk
  have HB := qH hb
  have HM := qH fun W => (show Calls Tryz.prog 14 #[.agg #[.int .i64 6, .string (bs n), .int .i64 3, .string (bs v)]] W fun e W' => e = .returned (.bool false) ∧ Kp [] W W' from refMatch_any ⟨6, n, 3, v⟩ W)
  clear hk hb
  go_enter Tryz.func41, Tryz.ntmps41
  go_wp2_with (go_at_call 14; refine cM (by with_reducible exact HM.out _) ?_; rintro e w2 ⟨rfl, hk2⟩; have HK2 := qH (HK.out.trans hk2); have hb2 := HB.out.kp0 hk2; clear c0 c1 c2 c3; obtain ⟨c0, c1, c2, c3⟩ := hb2.cells; clear hb2 hk2)
  go_ret
  exact ⟨rfl, HK2.out⟩
 by_cases o4 : o = 4
 ·subst o4
  rw [show (opT 6).contains 4 = true from by decide]
  clear hm o3
  obtain ⟨W1, hW1⟩ : ∃ W1, W.alloc (.cells #[.int .i64 6, .string (bs n), .int .i64 4, .string (bs v)] 31) = W1 := ⟨_, rfl⟩
  obtain ⟨B, hB⟩ : ∃ B, W.heap.size = B := ⟨_, rfl⟩
  have hk : Kp [] W W1 := by rw [← hW1]; exact (Kp.refl [] W).alloc _
  have hb : MAt W1 B ⟨6, n, 4, v⟩ := by rw [← hW1, ← hB]; exact MAt.new W ⟨6, n, 4, v⟩
  obtain ⟨c0, c1, c2, c3⟩ := hb.cells
  have HK := qH hk
  have HB := qH hb
  have HM := qH fun W => (show Calls Tryz.prog 14 #[.agg #[.int .i64 6, .string (bs n), .int .i64 4, .string (bs v)]] W fun e W' => e = .returned (.bool false) ∧ Kp [] W W' from refMatch_any ⟨6, n, 4, v⟩ W)
  clear hk hb
  go_enter Tryz.func41, Tryz.ntmps41
  go_wp2_with (go_at_call 14; refine cM (by with_reducible exact HM.out _) ?_; rintro e w2 ⟨rfl, hk2⟩; have HK2 := qH (HK.out.trans hk2); have hb2 := HB.out.kp0 hk2; clear c0 c1 c2 c3; obtain ⟨c0, c1, c2, c3⟩ := hb2.cells; clear hb2 hk2)
  go_ret
  exact ⟨rfl, HK2.out⟩
 have hR : (opT 6).contains o = false := by
  have n1 : o ≠ 1 := fun h => by rw [h] at hm; cases hm
  have n2 : o ≠ 2 := fun h => by rw [h] at hm; cases hm
  simp [opT, n1, n2, o3, o4]
 rw [hR]
 have hm2 := hm
 have p3 : (o == 3) = false := by simpa using o3
 have p4 : (o == 4) = false := by simpa using o4
 clear hR o3 o4
 obtain ⟨W1, hW1⟩ : ∃ W1, W.alloc (.cells #[.int .i64 6, .string (bs n), .int .i64 o, .string (bs v)] 31) = W1 := ⟨_, rfl⟩
 obtain ⟨B, hB⟩ : ∃ B, W.heap.size = B := ⟨_, rfl⟩
 have hk : Kp [] W W1 := by rw [← hW1]; exact (Kp.refl [] W).alloc _
 have hb : MAt W1 B ⟨6, n, o, v⟩ := by rw [← hW1, ← hB]; exact MAt.new W ⟨6, n, o, v⟩
 obtain ⟨c0, c1, c2, c3⟩ := hb.cells
 have HK := qH hk
 have HB := qH hb
 have HM := qH fun W => (show Calls Tryz.prog 14 #[.agg #[.int .i64 6, .string (bs n), .int .i64 o, .string (bs v)]] W fun e W' => e = .returned (.bool false) ∧ Kp [] W W' from by have := refMatch_any ⟨6, n, o, v⟩ W; rw [show matchB (⟨6, n, o, v⟩ : Tm).op = false from hm] at this; exact this)
 clear hk hb
 go_enter Tryz.func41, Tryz.ntmps41
 go_wp2_with (go_at_call 14; refine cM (by with_reducible exact HM.out _) ?_; rintro e w2 ⟨rfl, hk2⟩; have HK2 := qH (HK.out.trans hk2); have hb2 := HB.out.kp0 hk2; clear c0 c1 c2 c3; obtain ⟨c0, c1, c2, c3⟩ := hb2.cells; clear hb2 hk2)
 go_ret
 exact ⟨rfl, HK2.out⟩
theorem refAllowed_7 {k : Int} {n : List UInt8} {o : Int} {v : List UInt8} {W : World} (hm : matchB o = false) (hk : k = 7) : Calls Tryz.prog 41 #[.agg #[.int .i64 k, .string (bs n), .int .i64 o, .string (bs v)]] W fun e W' => e = .returned (.bool ((opT k).contains o)) ∧ Kp [] W W' := by
 subst hk
 by_cases o3 : o = 3
 ·subst o3
  rw [show (opT 7).contains 3 = true from by decide]
  clear hm 
  obtain ⟨W1, hW1⟩ : ∃ W1, W.alloc (.cells #[.int .i64 7, .string (bs n), .int .i64 3, .string (bs v)] 31) = W1 := ⟨_, rfl⟩
  obtain ⟨B, hB⟩ : ∃ B, W.heap.size = B := ⟨_, rfl⟩
  have hk : Kp [] W W1 := by rw [← hW1]; exact (Kp.refl [] W).alloc _
  have hb : MAt W1 B ⟨7, n, 3, v⟩ := by rw [← hW1, ← hB]; exact MAt.new W ⟨7, n, 3, v⟩
  obtain ⟨c0, c1, c2, c3⟩ := hb.cells
  have HK := qH hk
  have HB := qH hb
  have HM := qH fun W => (show Calls Tryz.prog 14 #[.agg #[.int .i64 7, .string (bs n), .int .i64 3, .string (bs v)]] W fun e W' => e = .returned (.bool false) ∧ Kp [] W W' from refMatch_any ⟨7, n, 3, v⟩ W)
  clear hk hb
  go_enter Tryz.func41, Tryz.ntmps41
  go_wp2_with (go_at_call 14; refine cM (by with_reducible exact HM.out _) ?_; rintro e w2 ⟨rfl, hk2⟩; have HK2 := qH (HK.out.trans hk2); have hb2 := HB.out.kp0 hk2; clear c0 c1 c2 c3; obtain ⟨c0, c1, c2, c3⟩ := hb2.cells; clear hb2 hk2)
  go_ret
  exact ⟨rfl, HK2.out⟩
 by_cases o4 : o = 4
 ·subst o4
  rw [show (opT 7).contains 4 = true from by decide]
  clear hm o3
  obtain ⟨W1, hW1⟩ : ∃ W1, W.alloc (.cells #[.int .i64 7, .string (bs n), .int .i64 4, .string (bs v)] 31) = W1 := ⟨_, rfl⟩
  obtain ⟨B, hB⟩ : ∃ B, W.heap.size = B := ⟨_, rfl⟩
  have hk : Kp [] W W1 := by rw [← hW1]; exact (Kp.refl [] W).alloc _
  have hb : MAt W1 B ⟨7, n, 4, v⟩ := by rw [← hW1, ← hB]; exact MAt.new W ⟨7, n, 4, v⟩
  obtain ⟨c0, c1, c2, c3⟩ := hb.cells
  have HK := qH hk
  have HB := qH hb
  have HM := qH fun W => (show Calls Tryz.prog 14 #[.agg #[.int .i64 7, .string (bs n), .int .i64 4, .string (bs v)]] W fun e W' => e = .returned (.bool false) ∧ Kp [] W W' from refMatch_any ⟨7, n, 4, v⟩ W)
  clear hk hb
  go_enter Tryz.func41, Tryz.ntmps41
  go_wp2_with (go_at_call 14; refine cM (by with_reducible exact HM.out _) ?_; rintro e w2 ⟨rfl, hk2⟩; have HK2 := qH (HK.out.trans hk2); have hb2 := HB.out.kp0 hk2; clear c0 c1 c2 c3; obtain ⟨c0, c1, c2, c3⟩ := hb2.cells; clear hb2 hk2)
  go_ret
  exact ⟨rfl, HK2.out⟩
 by_cases o5 : o = 5
 ·subst o5
  rw [show (opT 7).contains 5 = true from by decide]
  clear hm o3 o4
  obtain ⟨W1, hW1⟩ : ∃ W1, W.alloc (.cells #[.int .i64 7, .string (bs n), .int .i64 5, .string (bs v)] 31) = W1 := ⟨_, rfl⟩
  obtain ⟨B, hB⟩ : ∃ B, W.heap.size = B := ⟨_, rfl⟩
  have hk : Kp [] W W1 := by rw [← hW1]; exact (Kp.refl [] W).alloc _
  have hb : MAt W1 B ⟨7, n, 5, v⟩ := by rw [← hW1, ← hB]; exact MAt.new W ⟨7, n, 5, v⟩
  obtain ⟨c0, c1, c2, c3⟩ := hb.cells
  have HK := qH hk
  have HB := qH hb
  have HM := qH fun W => (show Calls Tryz.prog 14 #[.agg #[.int .i64 7, .string (bs n), .int .i64 5, .string (bs v)]] W fun e W' => e = .returned (.bool false) ∧ Kp [] W W' from refMatch_any ⟨7, n, 5, v⟩ W)
  clear hk hb
  go_enter Tryz.func41, Tryz.ntmps41
  go_wp2_with (go_at_call 14; refine cM (by with_reducible exact HM.out _) ?_; rintro e w2 ⟨rfl, hk2⟩; have HK2 := qH (HK.out.trans hk2); have hb2 := HB.out.kp0 hk2; clear c0 c1 c2 c3; obtain ⟨c0, c1, c2, c3⟩ := hb2.cells; clear hb2 hk2)
  go_ret
  exact ⟨rfl, HK2.out⟩
 have hR : (opT 7).contains o = false := by
  have n1 : o ≠ 1 := fun h => by rw [h] at hm; cases hm
  have n2 : o ≠ 2 := fun h => by rw [h] at hm; cases hm
  simp [opT, n1, n2, o3, o4, o5]
 rw [hR]
 have hm2 := hm
 have p3 : (o == 3) = false := by simpa using o3
 have p4 : (o == 4) = false := by simpa using o4
 have p5 : (o == 5) = false := by simpa using o5
 clear hR o3 o4 o5
 obtain ⟨W1, hW1⟩ : ∃ W1, W.alloc (.cells #[.int .i64 7, .string (bs n), .int .i64 o, .string (bs v)] 31) = W1 := ⟨_, rfl⟩
 obtain ⟨B, hB⟩ : ∃ B, W.heap.size = B := ⟨_, rfl⟩
 have hk : Kp [] W W1 := by rw [← hW1]; exact (Kp.refl [] W).alloc _
 have hb : MAt W1 B ⟨7, n, o, v⟩ := by rw [← hW1, ← hB]; exact MAt.new W ⟨7, n, o, v⟩
 obtain ⟨c0, c1, c2, c3⟩ := hb.cells
 have HK := qH hk
 have HB := qH hb
 have HM := qH fun W => (show Calls Tryz.prog 14 #[.agg #[.int .i64 7, .string (bs n), .int .i64 o, .string (bs v)]] W fun e W' => e = .returned (.bool false) ∧ Kp [] W W' from by have := refMatch_any ⟨7, n, o, v⟩ W; rw [show matchB (⟨7, n, o, v⟩ : Tm).op = false from hm] at this; exact this)
 clear hk hb
 go_enter Tryz.func41, Tryz.ntmps41
 go_wp2_with (go_at_call 14; refine cM (by with_reducible exact HM.out _) ?_; rintro e w2 ⟨rfl, hk2⟩; have HK2 := qH (HK.out.trans hk2); have hb2 := HB.out.kp0 hk2; clear c0 c1 c2 c3; obtain ⟨c0, c1, c2, c3⟩ := hb2.cells; clear hb2 hk2)
 go_ret
 exact ⟨rfl, HK2.out⟩
theorem refAllowed_15 {k : Int} {n : List UInt8} {o : Int} {v : List UInt8} {W : World} (hm : matchB o = false) (hk : k = 15) : Calls Tryz.prog 41 #[.agg #[.int .i64 k, .string (bs n), .int .i64 o, .string (bs v)]] W fun e W' => e = .returned (.bool ((opT k).contains o)) ∧ Kp [] W W' := by
 subst hk
 by_cases o3 : o = 3
 ·subst o3
  rw [show (opT 15).contains 3 = true from by decide]
  clear hm 
  obtain ⟨W1, hW1⟩ : ∃ W1, W.alloc (.cells #[.int .i64 15, .string (bs n), .int .i64 3, .string (bs v)] 31) = W1 := ⟨_, rfl⟩
  obtain ⟨B, hB⟩ : ∃ B, W.heap.size = B := ⟨_, rfl⟩
  have hk : Kp [] W W1 := by rw [← hW1]; exact (Kp.refl [] W).alloc _
  have hb : MAt W1 B ⟨15, n, 3, v⟩ := by rw [← hW1, ← hB]; exact MAt.new W ⟨15, n, 3, v⟩
  obtain ⟨c0, c1, c2, c3⟩ := hb.cells
  have HK := qH hk
  have HB := qH hb
  have HM := qH fun W => (show Calls Tryz.prog 14 #[.agg #[.int .i64 15, .string (bs n), .int .i64 3, .string (bs v)]] W fun e W' => e = .returned (.bool false) ∧ Kp [] W W' from refMatch_any ⟨15, n, 3, v⟩ W)
  clear hk hb
  go_enter Tryz.func41, Tryz.ntmps41
  go_wp2_with (go_at_call 14; refine cM (by with_reducible exact HM.out _) ?_; rintro e w2 ⟨rfl, hk2⟩; have HK2 := qH (HK.out.trans hk2); have hb2 := HB.out.kp0 hk2; clear c0 c1 c2 c3; obtain ⟨c0, c1, c2, c3⟩ := hb2.cells; clear hb2 hk2)
  go_ret
  exact ⟨rfl, HK2.out⟩
 by_cases o6 : o = 6
 ·subst o6
  rw [show (opT 15).contains 6 = true from by decide]
  clear hm o3
  obtain ⟨W1, hW1⟩ : ∃ W1, W.alloc (.cells #[.int .i64 15, .string (bs n), .int .i64 6, .string (bs v)] 31) = W1 := ⟨_, rfl⟩
  obtain ⟨B, hB⟩ : ∃ B, W.heap.size = B := ⟨_, rfl⟩
  have hk : Kp [] W W1 := by rw [← hW1]; exact (Kp.refl [] W).alloc _
  have hb : MAt W1 B ⟨15, n, 6, v⟩ := by rw [← hW1, ← hB]; exact MAt.new W ⟨15, n, 6, v⟩
  obtain ⟨c0, c1, c2, c3⟩ := hb.cells
  have HK := qH hk
  have HB := qH hb
  have HM := qH fun W => (show Calls Tryz.prog 14 #[.agg #[.int .i64 15, .string (bs n), .int .i64 6, .string (bs v)]] W fun e W' => e = .returned (.bool false) ∧ Kp [] W W' from refMatch_any ⟨15, n, 6, v⟩ W)
  clear hk hb
  go_enter Tryz.func41, Tryz.ntmps41
  go_wp2_with (go_at_call 14; refine cM (by with_reducible exact HM.out _) ?_; rintro e w2 ⟨rfl, hk2⟩; have HK2 := qH (HK.out.trans hk2); have hb2 := HB.out.kp0 hk2; clear c0 c1 c2 c3; obtain ⟨c0, c1, c2, c3⟩ := hb2.cells; clear hb2 hk2)
  go_ret
  exact ⟨rfl, HK2.out⟩
 have hR : (opT 15).contains o = false := by
  simp [opT, o3, o6]
 rw [hR]
 have hm2 := hm
 have p3 : (o == 3) = false := by simpa using o3
 have p6 : (o == 6) = false := by simpa using o6
 clear hR o3 o6
 obtain ⟨W1, hW1⟩ : ∃ W1, W.alloc (.cells #[.int .i64 15, .string (bs n), .int .i64 o, .string (bs v)] 31) = W1 := ⟨_, rfl⟩
 obtain ⟨B, hB⟩ : ∃ B, W.heap.size = B := ⟨_, rfl⟩
 have hk : Kp [] W W1 := by rw [← hW1]; exact (Kp.refl [] W).alloc _
 have hb : MAt W1 B ⟨15, n, o, v⟩ := by rw [← hW1, ← hB]; exact MAt.new W ⟨15, n, o, v⟩
 obtain ⟨c0, c1, c2, c3⟩ := hb.cells
 have HK := qH hk
 have HB := qH hb
 have HM := qH fun W => (show Calls Tryz.prog 14 #[.agg #[.int .i64 15, .string (bs n), .int .i64 o, .string (bs v)]] W fun e W' => e = .returned (.bool false) ∧ Kp [] W W' from by have := refMatch_any ⟨15, n, o, v⟩ W; rw [show matchB (⟨15, n, o, v⟩ : Tm).op = false from hm] at this; exact this)
 clear hk hb
 go_enter Tryz.func41, Tryz.ntmps41
 go_wp2_with (go_at_call 14; refine cM (by with_reducible exact HM.out _) ?_; rintro e w2 ⟨rfl, hk2⟩; have HK2 := qH (HK.out.trans hk2); have hb2 := HB.out.kp0 hk2; clear c0 c1 c2 c3; obtain ⟨c0, c1, c2, c3⟩ := hb2.cells; clear hb2 hk2)
 go_ret
 exact ⟨rfl, HK2.out⟩
theorem refAllowed_17 {k : Int} {n : List UInt8} {o : Int} {v : List UInt8} {W : World} (hm : matchB o = false) (hk : k = 17) : Calls Tryz.prog 41 #[.agg #[.int .i64 k, .string (bs n), .int .i64 o, .string (bs v)]] W fun e W' => e = .returned (.bool ((opT k).contains o)) ∧ Kp [] W W' := by
 subst hk
 by_cases o3 : o = 3
 ·subst o3
  rw [show (opT 17).contains 3 = true from by decide]
  clear hm 
  obtain ⟨W1, hW1⟩ : ∃ W1, W.alloc (.cells #[.int .i64 17, .string (bs n), .int .i64 3, .string (bs v)] 31) = W1 := ⟨_, rfl⟩
  obtain ⟨B, hB⟩ : ∃ B, W.heap.size = B := ⟨_, rfl⟩
  have hk : Kp [] W W1 := by rw [← hW1]; exact (Kp.refl [] W).alloc _
  have hb : MAt W1 B ⟨17, n, 3, v⟩ := by rw [← hW1, ← hB]; exact MAt.new W ⟨17, n, 3, v⟩
  obtain ⟨c0, c1, c2, c3⟩ := hb.cells
  have HK := qH hk
  have HB := qH hb
  have HM := qH fun W => (show Calls Tryz.prog 14 #[.agg #[.int .i64 17, .string (bs n), .int .i64 3, .string (bs v)]] W fun e W' => e = .returned (.bool false) ∧ Kp [] W W' from refMatch_any ⟨17, n, 3, v⟩ W)
  clear hk hb
  go_enter Tryz.func41, Tryz.ntmps41
  go_wp2_with (go_at_call 14; refine cM (by with_reducible exact HM.out _) ?_; rintro e w2 ⟨rfl, hk2⟩; have HK2 := qH (HK.out.trans hk2); have hb2 := HB.out.kp0 hk2; clear c0 c1 c2 c3; obtain ⟨c0, c1, c2, c3⟩ := hb2.cells; clear hb2 hk2)
  go_ret
  exact ⟨rfl, HK2.out⟩
 by_cases o6 : o = 6
 ·subst o6
  rw [show (opT 17).contains 6 = true from by decide]
  clear hm o3
  obtain ⟨W1, hW1⟩ : ∃ W1, W.alloc (.cells #[.int .i64 17, .string (bs n), .int .i64 6, .string (bs v)] 31) = W1 := ⟨_, rfl⟩
  obtain ⟨B, hB⟩ : ∃ B, W.heap.size = B := ⟨_, rfl⟩
  have hk : Kp [] W W1 := by rw [← hW1]; exact (Kp.refl [] W).alloc _
  have hb : MAt W1 B ⟨17, n, 6, v⟩ := by rw [← hW1, ← hB]; exact MAt.new W ⟨17, n, 6, v⟩
  obtain ⟨c0, c1, c2, c3⟩ := hb.cells
  have HK := qH hk
  have HB := qH hb
  have HM := qH fun W => (show Calls Tryz.prog 14 #[.agg #[.int .i64 17, .string (bs n), .int .i64 6, .string (bs v)]] W fun e W' => e = .returned (.bool false) ∧ Kp [] W W' from refMatch_any ⟨17, n, 6, v⟩ W)
  clear hk hb
  go_enter Tryz.func41, Tryz.ntmps41
  go_wp2_with (go_at_call 14; refine cM (by with_reducible exact HM.out _) ?_; rintro e w2 ⟨rfl, hk2⟩; have HK2 := qH (HK.out.trans hk2); have hb2 := HB.out.kp0 hk2; clear c0 c1 c2 c3; obtain ⟨c0, c1, c2, c3⟩ := hb2.cells; clear hb2 hk2)
  go_ret
  exact ⟨rfl, HK2.out⟩
 have hR : (opT 17).contains o = false := by
  simp [opT, o3, o6]
 rw [hR]
 have hm2 := hm
 have p3 : (o == 3) = false := by simpa using o3
 have p6 : (o == 6) = false := by simpa using o6
 clear hR o3 o6
 obtain ⟨W1, hW1⟩ : ∃ W1, W.alloc (.cells #[.int .i64 17, .string (bs n), .int .i64 o, .string (bs v)] 31) = W1 := ⟨_, rfl⟩
 obtain ⟨B, hB⟩ : ∃ B, W.heap.size = B := ⟨_, rfl⟩
 have hk : Kp [] W W1 := by rw [← hW1]; exact (Kp.refl [] W).alloc _
 have hb : MAt W1 B ⟨17, n, o, v⟩ := by rw [← hW1, ← hB]; exact MAt.new W ⟨17, n, o, v⟩
 obtain ⟨c0, c1, c2, c3⟩ := hb.cells
 have HK := qH hk
 have HB := qH hb
 have HM := qH fun W => (show Calls Tryz.prog 14 #[.agg #[.int .i64 17, .string (bs n), .int .i64 o, .string (bs v)]] W fun e W' => e = .returned (.bool false) ∧ Kp [] W W' from by have := refMatch_any ⟨17, n, o, v⟩ W; rw [show matchB (⟨17, n, o, v⟩ : Tm).op = false from hm] at this; exact this)
 clear hk hb
 go_enter Tryz.func41, Tryz.ntmps41
 go_wp2_with (go_at_call 14; refine cM (by with_reducible exact HM.out _) ?_; rintro e w2 ⟨rfl, hk2⟩; have HK2 := qH (HK.out.trans hk2); have hb2 := HB.out.kp0 hk2; clear c0 c1 c2 c3; obtain ⟨c0, c1, c2, c3⟩ := hb2.cells; clear hb2 hk2)
 go_ret
 exact ⟨rfl, HK2.out⟩
theorem refAllowed_18 {k : Int} {n : List UInt8} {o : Int} {v : List UInt8} {W : World} (hm : matchB o = false) (hk : k = 18) : Calls Tryz.prog 41 #[.agg #[.int .i64 k, .string (bs n), .int .i64 o, .string (bs v)]] W fun e W' => e = .returned (.bool ((opT k).contains o)) ∧ Kp [] W W' := by
 subst hk
 by_cases o3 : o = 3
 ·subst o3
  rw [show (opT 18).contains 3 = true from by decide]
  clear hm 
  obtain ⟨W1, hW1⟩ : ∃ W1, W.alloc (.cells #[.int .i64 18, .string (bs n), .int .i64 3, .string (bs v)] 31) = W1 := ⟨_, rfl⟩
  obtain ⟨B, hB⟩ : ∃ B, W.heap.size = B := ⟨_, rfl⟩
  have hk : Kp [] W W1 := by rw [← hW1]; exact (Kp.refl [] W).alloc _
  have hb : MAt W1 B ⟨18, n, 3, v⟩ := by rw [← hW1, ← hB]; exact MAt.new W ⟨18, n, 3, v⟩
  obtain ⟨c0, c1, c2, c3⟩ := hb.cells
  have HK := qH hk
  have HB := qH hb
  have HM := qH fun W => (show Calls Tryz.prog 14 #[.agg #[.int .i64 18, .string (bs n), .int .i64 3, .string (bs v)]] W fun e W' => e = .returned (.bool false) ∧ Kp [] W W' from refMatch_any ⟨18, n, 3, v⟩ W)
  clear hk hb
  go_enter Tryz.func41, Tryz.ntmps41
  go_wp2_with (go_at_call 14; refine cM (by with_reducible exact HM.out _) ?_; rintro e w2 ⟨rfl, hk2⟩; have HK2 := qH (HK.out.trans hk2); have hb2 := HB.out.kp0 hk2; clear c0 c1 c2 c3; obtain ⟨c0, c1, c2, c3⟩ := hb2.cells; clear hb2 hk2)
  go_ret
  exact ⟨rfl, HK2.out⟩
 by_cases o6 : o = 6
 ·subst o6
  rw [show (opT 18).contains 6 = true from by decide]
  clear hm o3
  obtain ⟨W1, hW1⟩ : ∃ W1, W.alloc (.cells #[.int .i64 18, .string (bs n), .int .i64 6, .string (bs v)] 31) = W1 := ⟨_, rfl⟩
  obtain ⟨B, hB⟩ : ∃ B, W.heap.size = B := ⟨_, rfl⟩
  have hk : Kp [] W W1 := by rw [← hW1]; exact (Kp.refl [] W).alloc _
  have hb : MAt W1 B ⟨18, n, 6, v⟩ := by rw [← hW1, ← hB]; exact MAt.new W ⟨18, n, 6, v⟩
  obtain ⟨c0, c1, c2, c3⟩ := hb.cells
  have HK := qH hk
  have HB := qH hb
  have HM := qH fun W => (show Calls Tryz.prog 14 #[.agg #[.int .i64 18, .string (bs n), .int .i64 6, .string (bs v)]] W fun e W' => e = .returned (.bool false) ∧ Kp [] W W' from refMatch_any ⟨18, n, 6, v⟩ W)
  clear hk hb
  go_enter Tryz.func41, Tryz.ntmps41
  go_wp2_with (go_at_call 14; refine cM (by with_reducible exact HM.out _) ?_; rintro e w2 ⟨rfl, hk2⟩; have HK2 := qH (HK.out.trans hk2); have hb2 := HB.out.kp0 hk2; clear c0 c1 c2 c3; obtain ⟨c0, c1, c2, c3⟩ := hb2.cells; clear hb2 hk2)
  go_ret
  exact ⟨rfl, HK2.out⟩
 have hR : (opT 18).contains o = false := by
  simp [opT, o3, o6]
 rw [hR]
 have hm2 := hm
 have p3 : (o == 3) = false := by simpa using o3
 have p6 : (o == 6) = false := by simpa using o6
 clear hR o3 o6
 obtain ⟨W1, hW1⟩ : ∃ W1, W.alloc (.cells #[.int .i64 18, .string (bs n), .int .i64 o, .string (bs v)] 31) = W1 := ⟨_, rfl⟩
 obtain ⟨B, hB⟩ : ∃ B, W.heap.size = B := ⟨_, rfl⟩
 have hk : Kp [] W W1 := by rw [← hW1]; exact (Kp.refl [] W).alloc _
 have hb : MAt W1 B ⟨18, n, o, v⟩ := by rw [← hW1, ← hB]; exact MAt.new W ⟨18, n, o, v⟩
 obtain ⟨c0, c1, c2, c3⟩ := hb.cells
 have HK := qH hk
 have HB := qH hb
 have HM := qH fun W => (show Calls Tryz.prog 14 #[.agg #[.int .i64 18, .string (bs n), .int .i64 o, .string (bs v)]] W fun e W' => e = .returned (.bool false) ∧ Kp [] W W' from by have := refMatch_any ⟨18, n, o, v⟩ W; rw [show matchB (⟨18, n, o, v⟩ : Tm).op = false from hm] at this; exact this)
 clear hk hb
 go_enter Tryz.func41, Tryz.ntmps41
 go_wp2_with (go_at_call 14; refine cM (by with_reducible exact HM.out _) ?_; rintro e w2 ⟨rfl, hk2⟩; have HK2 := qH (HK.out.trans hk2); have hb2 := HB.out.kp0 hk2; clear c0 c1 c2 c3; obtain ⟨c0, c1, c2, c3⟩ := hb2.cells; clear hb2 hk2)
 go_ret
 exact ⟨rfl, HK2.out⟩
theorem refAllowed_19 {k : Int} {n : List UInt8} {o : Int} {v : List UInt8} {W : World} (hm : matchB o = false) (hk : k = 19) : Calls Tryz.prog 41 #[.agg #[.int .i64 k, .string (bs n), .int .i64 o, .string (bs v)]] W fun e W' => e = .returned (.bool ((opT k).contains o)) ∧ Kp [] W W' := by
 subst hk
 by_cases o3 : o = 3
 ·subst o3
  rw [show (opT 19).contains 3 = true from by decide]
  clear hm 
  obtain ⟨W1, hW1⟩ : ∃ W1, W.alloc (.cells #[.int .i64 19, .string (bs n), .int .i64 3, .string (bs v)] 31) = W1 := ⟨_, rfl⟩
  obtain ⟨B, hB⟩ : ∃ B, W.heap.size = B := ⟨_, rfl⟩
  have hk : Kp [] W W1 := by rw [← hW1]; exact (Kp.refl [] W).alloc _
  have hb : MAt W1 B ⟨19, n, 3, v⟩ := by rw [← hW1, ← hB]; exact MAt.new W ⟨19, n, 3, v⟩
  obtain ⟨c0, c1, c2, c3⟩ := hb.cells
  have HK := qH hk
  have HB := qH hb
  have HM := qH fun W => (show Calls Tryz.prog 14 #[.agg #[.int .i64 19, .string (bs n), .int .i64 3, .string (bs v)]] W fun e W' => e = .returned (.bool false) ∧ Kp [] W W' from refMatch_any ⟨19, n, 3, v⟩ W)
  clear hk hb
  go_enter Tryz.func41, Tryz.ntmps41
  go_wp2_with (go_at_call 14; refine cM (by with_reducible exact HM.out _) ?_; rintro e w2 ⟨rfl, hk2⟩; have HK2 := qH (HK.out.trans hk2); have hb2 := HB.out.kp0 hk2; clear c0 c1 c2 c3; obtain ⟨c0, c1, c2, c3⟩ := hb2.cells; clear hb2 hk2)
  go_ret
  exact ⟨rfl, HK2.out⟩
 by_cases o6 : o = 6
 ·subst o6
  rw [show (opT 19).contains 6 = true from by decide]
  clear hm o3
  obtain ⟨W1, hW1⟩ : ∃ W1, W.alloc (.cells #[.int .i64 19, .string (bs n), .int .i64 6, .string (bs v)] 31) = W1 := ⟨_, rfl⟩
  obtain ⟨B, hB⟩ : ∃ B, W.heap.size = B := ⟨_, rfl⟩
  have hk : Kp [] W W1 := by rw [← hW1]; exact (Kp.refl [] W).alloc _
  have hb : MAt W1 B ⟨19, n, 6, v⟩ := by rw [← hW1, ← hB]; exact MAt.new W ⟨19, n, 6, v⟩
  obtain ⟨c0, c1, c2, c3⟩ := hb.cells
  have HK := qH hk
  have HB := qH hb
  have HM := qH fun W => (show Calls Tryz.prog 14 #[.agg #[.int .i64 19, .string (bs n), .int .i64 6, .string (bs v)]] W fun e W' => e = .returned (.bool false) ∧ Kp [] W W' from refMatch_any ⟨19, n, 6, v⟩ W)
  clear hk hb
  go_enter Tryz.func41, Tryz.ntmps41
  go_wp2_with (go_at_call 14; refine cM (by with_reducible exact HM.out _) ?_; rintro e w2 ⟨rfl, hk2⟩; have HK2 := qH (HK.out.trans hk2); have hb2 := HB.out.kp0 hk2; clear c0 c1 c2 c3; obtain ⟨c0, c1, c2, c3⟩ := hb2.cells; clear hb2 hk2)
  go_ret
  exact ⟨rfl, HK2.out⟩
 have hR : (opT 19).contains o = false := by
  simp [opT, o3, o6]
 rw [hR]
 have hm2 := hm
 have p3 : (o == 3) = false := by simpa using o3
 have p6 : (o == 6) = false := by simpa using o6
 clear hR o3 o6
 obtain ⟨W1, hW1⟩ : ∃ W1, W.alloc (.cells #[.int .i64 19, .string (bs n), .int .i64 o, .string (bs v)] 31) = W1 := ⟨_, rfl⟩
 obtain ⟨B, hB⟩ : ∃ B, W.heap.size = B := ⟨_, rfl⟩
 have hk : Kp [] W W1 := by rw [← hW1]; exact (Kp.refl [] W).alloc _
 have hb : MAt W1 B ⟨19, n, o, v⟩ := by rw [← hW1, ← hB]; exact MAt.new W ⟨19, n, o, v⟩
 obtain ⟨c0, c1, c2, c3⟩ := hb.cells
 have HK := qH hk
 have HB := qH hb
 have HM := qH fun W => (show Calls Tryz.prog 14 #[.agg #[.int .i64 19, .string (bs n), .int .i64 o, .string (bs v)]] W fun e W' => e = .returned (.bool false) ∧ Kp [] W W' from by have := refMatch_any ⟨19, n, o, v⟩ W; rw [show matchB (⟨19, n, o, v⟩ : Tm).op = false from hm] at this; exact this)
 clear hk hb
 go_enter Tryz.func41, Tryz.ntmps41
 go_wp2_with (go_at_call 14; refine cM (by with_reducible exact HM.out _) ?_; rintro e w2 ⟨rfl, hk2⟩; have HK2 := qH (HK.out.trans hk2); have hb2 := HB.out.kp0 hk2; clear c0 c1 c2 c3; obtain ⟨c0, c1, c2, c3⟩ := hb2.cells; clear hb2 hk2)
 go_ret
 exact ⟨rfl, HK2.out⟩
theorem refAllowed_16 {k : Int} {n : List UInt8} {o : Int} {v : List UInt8} {W : World} (hm : matchB o = false) (hk : k = 16) : Calls Tryz.prog 41 #[.agg #[.int .i64 k, .string (bs n), .int .i64 o, .string (bs v)]] W fun e W' => e = .returned (.bool ((opT k).contains o)) ∧ Kp [] W W' := by
 subst hk
 by_cases o3 : o = 3
 ·subst o3
  rw [show (opT 16).contains 3 = true from by decide]
  clear hm 
  obtain ⟨W1, hW1⟩ : ∃ W1, W.alloc (.cells #[.int .i64 16, .string (bs n), .int .i64 3, .string (bs v)] 31) = W1 := ⟨_, rfl⟩
  obtain ⟨B, hB⟩ : ∃ B, W.heap.size = B := ⟨_, rfl⟩
  have hk : Kp [] W W1 := by rw [← hW1]; exact (Kp.refl [] W).alloc _
  have hb : MAt W1 B ⟨16, n, 3, v⟩ := by rw [← hW1, ← hB]; exact MAt.new W ⟨16, n, 3, v⟩
  obtain ⟨c0, c1, c2, c3⟩ := hb.cells
  have HK := qH hk
  have HB := qH hb
  have HM := qH fun W => (show Calls Tryz.prog 14 #[.agg #[.int .i64 16, .string (bs n), .int .i64 3, .string (bs v)]] W fun e W' => e = .returned (.bool false) ∧ Kp [] W W' from refMatch_any ⟨16, n, 3, v⟩ W)
  clear hk hb
  go_enter Tryz.func41, Tryz.ntmps41
  go_wp2_with (go_at_call 14; refine cM (by with_reducible exact HM.out _) ?_; rintro e w2 ⟨rfl, hk2⟩; have HK2 := qH (HK.out.trans hk2); have hb2 := HB.out.kp0 hk2; clear c0 c1 c2 c3; obtain ⟨c0, c1, c2, c3⟩ := hb2.cells; clear hb2 hk2)
  go_ret
  exact ⟨rfl, HK2.out⟩
 by_cases o4 : o = 4
 ·subst o4
  rw [show (opT 16).contains 4 = true from by decide]
  clear hm o3
  obtain ⟨W1, hW1⟩ : ∃ W1, W.alloc (.cells #[.int .i64 16, .string (bs n), .int .i64 4, .string (bs v)] 31) = W1 := ⟨_, rfl⟩
  obtain ⟨B, hB⟩ : ∃ B, W.heap.size = B := ⟨_, rfl⟩
  have hk : Kp [] W W1 := by rw [← hW1]; exact (Kp.refl [] W).alloc _
  have hb : MAt W1 B ⟨16, n, 4, v⟩ := by rw [← hW1, ← hB]; exact MAt.new W ⟨16, n, 4, v⟩
  obtain ⟨c0, c1, c2, c3⟩ := hb.cells
  have HK := qH hk
  have HB := qH hb
  have HM := qH fun W => (show Calls Tryz.prog 14 #[.agg #[.int .i64 16, .string (bs n), .int .i64 4, .string (bs v)]] W fun e W' => e = .returned (.bool false) ∧ Kp [] W W' from refMatch_any ⟨16, n, 4, v⟩ W)
  clear hk hb
  go_enter Tryz.func41, Tryz.ntmps41
  go_wp2_with (go_at_call 14; refine cM (by with_reducible exact HM.out _) ?_; rintro e w2 ⟨rfl, hk2⟩; have HK2 := qH (HK.out.trans hk2); have hb2 := HB.out.kp0 hk2; clear c0 c1 c2 c3; obtain ⟨c0, c1, c2, c3⟩ := hb2.cells; clear hb2 hk2)
  go_ret
  exact ⟨rfl, HK2.out⟩
 by_cases o5 : o = 5
 ·subst o5
  rw [show (opT 16).contains 5 = true from by decide]
  clear hm o3 o4
  obtain ⟨W1, hW1⟩ : ∃ W1, W.alloc (.cells #[.int .i64 16, .string (bs n), .int .i64 5, .string (bs v)] 31) = W1 := ⟨_, rfl⟩
  obtain ⟨B, hB⟩ : ∃ B, W.heap.size = B := ⟨_, rfl⟩
  have hk : Kp [] W W1 := by rw [← hW1]; exact (Kp.refl [] W).alloc _
  have hb : MAt W1 B ⟨16, n, 5, v⟩ := by rw [← hW1, ← hB]; exact MAt.new W ⟨16, n, 5, v⟩
  obtain ⟨c0, c1, c2, c3⟩ := hb.cells
  have HK := qH hk
  have HB := qH hb
  have HM := qH fun W => (show Calls Tryz.prog 14 #[.agg #[.int .i64 16, .string (bs n), .int .i64 5, .string (bs v)]] W fun e W' => e = .returned (.bool false) ∧ Kp [] W W' from refMatch_any ⟨16, n, 5, v⟩ W)
  clear hk hb
  go_enter Tryz.func41, Tryz.ntmps41
  go_wp2_with (go_at_call 14; refine cM (by with_reducible exact HM.out _) ?_; rintro e w2 ⟨rfl, hk2⟩; have HK2 := qH (HK.out.trans hk2); have hb2 := HB.out.kp0 hk2; clear c0 c1 c2 c3; obtain ⟨c0, c1, c2, c3⟩ := hb2.cells; clear hb2 hk2)
  go_ret
  exact ⟨rfl, HK2.out⟩
 by_cases o6 : o = 6
 ·subst o6
  rw [show (opT 16).contains 6 = true from by decide]
  clear hm o3 o4 o5
  obtain ⟨W1, hW1⟩ : ∃ W1, W.alloc (.cells #[.int .i64 16, .string (bs n), .int .i64 6, .string (bs v)] 31) = W1 := ⟨_, rfl⟩
  obtain ⟨B, hB⟩ : ∃ B, W.heap.size = B := ⟨_, rfl⟩
  have hk : Kp [] W W1 := by rw [← hW1]; exact (Kp.refl [] W).alloc _
  have hb : MAt W1 B ⟨16, n, 6, v⟩ := by rw [← hW1, ← hB]; exact MAt.new W ⟨16, n, 6, v⟩
  obtain ⟨c0, c1, c2, c3⟩ := hb.cells
  have HK := qH hk
  have HB := qH hb
  have HM := qH fun W => (show Calls Tryz.prog 14 #[.agg #[.int .i64 16, .string (bs n), .int .i64 6, .string (bs v)]] W fun e W' => e = .returned (.bool false) ∧ Kp [] W W' from refMatch_any ⟨16, n, 6, v⟩ W)
  clear hk hb
  go_enter Tryz.func41, Tryz.ntmps41
  go_wp2_with (go_at_call 14; refine cM (by with_reducible exact HM.out _) ?_; rintro e w2 ⟨rfl, hk2⟩; have HK2 := qH (HK.out.trans hk2); have hb2 := HB.out.kp0 hk2; clear c0 c1 c2 c3; obtain ⟨c0, c1, c2, c3⟩ := hb2.cells; clear hb2 hk2)
  go_ret
  exact ⟨rfl, HK2.out⟩
 have hR : (opT 16).contains o = false := by
  simp [opT, o3, o4, o5, o6]
 rw [hR]
 by_cases g3 : (3 : Int) ≤ o
 ·have g6 : decide (o ≤ 6) = false := by rw [decide_eq_false_iff_not]; omega
  clear hR o3 o4 o5 o6
  obtain ⟨W1, hW1⟩ : ∃ W1, W.alloc (.cells #[.int .i64 16, .string (bs n), .int .i64 o, .string (bs v)] 31) = W1 := ⟨_, rfl⟩
  obtain ⟨B, hB⟩ : ∃ B, W.heap.size = B := ⟨_, rfl⟩
  have hk : Kp [] W W1 := by rw [← hW1]; exact (Kp.refl [] W).alloc _
  have hb : MAt W1 B ⟨16, n, o, v⟩ := by rw [← hW1, ← hB]; exact MAt.new W ⟨16, n, o, v⟩
  obtain ⟨c0, c1, c2, c3⟩ := hb.cells
  have HK := qH hk
  have HB := qH hb
  have HM := qH fun W => (show Calls Tryz.prog 14 #[.agg #[.int .i64 16, .string (bs n), .int .i64 o, .string (bs v)]] W fun e W' => e = .returned (.bool false) ∧ Kp [] W W' from by have := refMatch_any ⟨16, n, o, v⟩ W; rw [show matchB (⟨16, n, o, v⟩ : Tm).op = false from hm] at this; exact this)
  clear hk hb
  go_enter Tryz.func41, Tryz.ntmps41
  go_wp2_with (go_at_call 14; refine cM (by with_reducible exact HM.out _) ?_; rintro e w2 ⟨rfl, hk2⟩; have HK2 := qH (HK.out.trans hk2); have hb2 := HB.out.kp0 hk2; clear c0 c1 c2 c3; obtain ⟨c0, c1, c2, c3⟩ := hb2.cells; clear hb2 hk2)
  go_ret
  exact ⟨rfl, HK2.out⟩
 ·clear hR o3 o4 o5 o6
  obtain ⟨W1, hW1⟩ : ∃ W1, W.alloc (.cells #[.int .i64 16, .string (bs n), .int .i64 o, .string (bs v)] 31) = W1 := ⟨_, rfl⟩
  obtain ⟨B, hB⟩ : ∃ B, W.heap.size = B := ⟨_, rfl⟩
  have hk : Kp [] W W1 := by rw [← hW1]; exact (Kp.refl [] W).alloc _
  have hb : MAt W1 B ⟨16, n, o, v⟩ := by rw [← hW1, ← hB]; exact MAt.new W ⟨16, n, o, v⟩
  obtain ⟨c0, c1, c2, c3⟩ := hb.cells
  have HK := qH hk
  have HB := qH hb
  have HM := qH fun W => (show Calls Tryz.prog 14 #[.agg #[.int .i64 16, .string (bs n), .int .i64 o, .string (bs v)]] W fun e W' => e = .returned (.bool false) ∧ Kp [] W W' from by have := refMatch_any ⟨16, n, o, v⟩ W; rw [show matchB (⟨16, n, o, v⟩ : Tm).op = false from hm] at this; exact this)
  clear hk hb
  go_enter Tryz.func41, Tryz.ntmps41
  go_wp2_with (go_at_call 14; refine cM (by with_reducible exact HM.out _) ?_; rintro e w2 ⟨rfl, hk2⟩; have HK2 := qH (HK.out.trans hk2); have hb2 := HB.out.kp0 hk2; clear c0 c1 c2 c3; obtain ⟨c0, c1, c2, c3⟩ := hb2.cells; clear hb2 hk2)
  go_ret
  exact ⟨rfl, HK2.out⟩
theorem refAllowed_20 {k : Int} {n : List UInt8} {o : Int} {v : List UInt8} {W : World} (hm : matchB o = false) (hk : k = 20) : Calls Tryz.prog 41 #[.agg #[.int .i64 k, .string (bs n), .int .i64 o, .string (bs v)]] W fun e W' => e = .returned (.bool ((opT k).contains o)) ∧ Kp [] W W' := by
 subst hk
 by_cases o3 : o = 3
 ·subst o3
  rw [show (opT 20).contains 3 = true from by decide]
  clear hm 
  obtain ⟨W1, hW1⟩ : ∃ W1, W.alloc (.cells #[.int .i64 20, .string (bs n), .int .i64 3, .string (bs v)] 31) = W1 := ⟨_, rfl⟩
  obtain ⟨B, hB⟩ : ∃ B, W.heap.size = B := ⟨_, rfl⟩
  have hk : Kp [] W W1 := by rw [← hW1]; exact (Kp.refl [] W).alloc _
  have hb : MAt W1 B ⟨20, n, 3, v⟩ := by rw [← hW1, ← hB]; exact MAt.new W ⟨20, n, 3, v⟩
  obtain ⟨c0, c1, c2, c3⟩ := hb.cells
  have HK := qH hk
  have HB := qH hb
  have HM := qH fun W => (show Calls Tryz.prog 14 #[.agg #[.int .i64 20, .string (bs n), .int .i64 3, .string (bs v)]] W fun e W' => e = .returned (.bool false) ∧ Kp [] W W' from refMatch_any ⟨20, n, 3, v⟩ W)
  clear hk hb
  go_enter Tryz.func41, Tryz.ntmps41
  go_wp2_with (go_at_call 14; refine cM (by with_reducible exact HM.out _) ?_; rintro e w2 ⟨rfl, hk2⟩; have HK2 := qH (HK.out.trans hk2); have hb2 := HB.out.kp0 hk2; clear c0 c1 c2 c3; obtain ⟨c0, c1, c2, c3⟩ := hb2.cells; clear hb2 hk2)
  go_ret
  exact ⟨rfl, HK2.out⟩
 by_cases o4 : o = 4
 ·subst o4
  rw [show (opT 20).contains 4 = true from by decide]
  clear hm o3
  obtain ⟨W1, hW1⟩ : ∃ W1, W.alloc (.cells #[.int .i64 20, .string (bs n), .int .i64 4, .string (bs v)] 31) = W1 := ⟨_, rfl⟩
  obtain ⟨B, hB⟩ : ∃ B, W.heap.size = B := ⟨_, rfl⟩
  have hk : Kp [] W W1 := by rw [← hW1]; exact (Kp.refl [] W).alloc _
  have hb : MAt W1 B ⟨20, n, 4, v⟩ := by rw [← hW1, ← hB]; exact MAt.new W ⟨20, n, 4, v⟩
  obtain ⟨c0, c1, c2, c3⟩ := hb.cells
  have HK := qH hk
  have HB := qH hb
  have HM := qH fun W => (show Calls Tryz.prog 14 #[.agg #[.int .i64 20, .string (bs n), .int .i64 4, .string (bs v)]] W fun e W' => e = .returned (.bool false) ∧ Kp [] W W' from refMatch_any ⟨20, n, 4, v⟩ W)
  clear hk hb
  go_enter Tryz.func41, Tryz.ntmps41
  go_wp2_with (go_at_call 14; refine cM (by with_reducible exact HM.out _) ?_; rintro e w2 ⟨rfl, hk2⟩; have HK2 := qH (HK.out.trans hk2); have hb2 := HB.out.kp0 hk2; clear c0 c1 c2 c3; obtain ⟨c0, c1, c2, c3⟩ := hb2.cells; clear hb2 hk2)
  go_ret
  exact ⟨rfl, HK2.out⟩
 by_cases o6 : o = 6
 ·subst o6
  rw [show (opT 20).contains 6 = true from by decide]
  clear hm o3 o4
  obtain ⟨W1, hW1⟩ : ∃ W1, W.alloc (.cells #[.int .i64 20, .string (bs n), .int .i64 6, .string (bs v)] 31) = W1 := ⟨_, rfl⟩
  obtain ⟨B, hB⟩ : ∃ B, W.heap.size = B := ⟨_, rfl⟩
  have hk : Kp [] W W1 := by rw [← hW1]; exact (Kp.refl [] W).alloc _
  have hb : MAt W1 B ⟨20, n, 6, v⟩ := by rw [← hW1, ← hB]; exact MAt.new W ⟨20, n, 6, v⟩
  obtain ⟨c0, c1, c2, c3⟩ := hb.cells
  have HK := qH hk
  have HB := qH hb
  have HM := qH fun W => (show Calls Tryz.prog 14 #[.agg #[.int .i64 20, .string (bs n), .int .i64 6, .string (bs v)]] W fun e W' => e = .returned (.bool false) ∧ Kp [] W W' from refMatch_any ⟨20, n, 6, v⟩ W)
  clear hk hb
  go_enter Tryz.func41, Tryz.ntmps41
  go_wp2_with (go_at_call 14; refine cM (by with_reducible exact HM.out _) ?_; rintro e w2 ⟨rfl, hk2⟩; have HK2 := qH (HK.out.trans hk2); have hb2 := HB.out.kp0 hk2; clear c0 c1 c2 c3; obtain ⟨c0, c1, c2, c3⟩ := hb2.cells; clear hb2 hk2)
  go_ret
  exact ⟨rfl, HK2.out⟩
 have hR : (opT 20).contains o = false := by
  simp [opT, o3, o4, o6]
 rw [hR]
 have hm2 := hm
 have p3 : (o == 3) = false := by simpa using o3
 have p4 : (o == 4) = false := by simpa using o4
 have p6 : (o == 6) = false := by simpa using o6
 clear hR o3 o4 o6
 obtain ⟨W1, hW1⟩ : ∃ W1, W.alloc (.cells #[.int .i64 20, .string (bs n), .int .i64 o, .string (bs v)] 31) = W1 := ⟨_, rfl⟩
 obtain ⟨B, hB⟩ : ∃ B, W.heap.size = B := ⟨_, rfl⟩
 have hk : Kp [] W W1 := by rw [← hW1]; exact (Kp.refl [] W).alloc _
 have hb : MAt W1 B ⟨20, n, o, v⟩ := by rw [← hW1, ← hB]; exact MAt.new W ⟨20, n, o, v⟩
 obtain ⟨c0, c1, c2, c3⟩ := hb.cells
 have HK := qH hk
 have HB := qH hb
 have HM := qH fun W => (show Calls Tryz.prog 14 #[.agg #[.int .i64 20, .string (bs n), .int .i64 o, .string (bs v)]] W fun e W' => e = .returned (.bool false) ∧ Kp [] W W' from by have := refMatch_any ⟨20, n, o, v⟩ W; rw [show matchB (⟨20, n, o, v⟩ : Tm).op = false from hm] at this; exact this)
 clear hk hb
 go_enter Tryz.func41, Tryz.ntmps41
 go_wp2_with (go_at_call 14; refine cM (by with_reducible exact HM.out _) ?_; rintro e w2 ⟨rfl, hk2⟩; have HK2 := qH (HK.out.trans hk2); have hb2 := HB.out.kp0 hk2; clear c0 c1 c2 c3; obtain ⟨c0, c1, c2, c3⟩ := hb2.cells; clear hb2 hk2)
 go_ret
 exact ⟨rfl, HK2.out⟩
theorem refAllowed_21 {k : Int} {n : List UInt8} {o : Int} {v : List UInt8} {W : World} (hm : matchB o = false) (hk : k = 21) : Calls Tryz.prog 41 #[.agg #[.int .i64 k, .string (bs n), .int .i64 o, .string (bs v)]] W fun e W' => e = .returned (.bool ((opT k).contains o)) ∧ Kp [] W W' := by
 subst hk
 by_cases o4 : o = 4
 ·subst o4
  rw [show (opT 21).contains 4 = true from by decide]
  clear hm 
  obtain ⟨W1, hW1⟩ : ∃ W1, W.alloc (.cells #[.int .i64 21, .string (bs n), .int .i64 4, .string (bs v)] 31) = W1 := ⟨_, rfl⟩
  obtain ⟨B, hB⟩ : ∃ B, W.heap.size = B := ⟨_, rfl⟩
  have hk : Kp [] W W1 := by rw [← hW1]; exact (Kp.refl [] W).alloc _
  have hb : MAt W1 B ⟨21, n, 4, v⟩ := by rw [← hW1, ← hB]; exact MAt.new W ⟨21, n, 4, v⟩
  obtain ⟨c0, c1, c2, c3⟩ := hb.cells
  have HK := qH hk
  have HB := qH hb
  have HM := qH fun W => (show Calls Tryz.prog 14 #[.agg #[.int .i64 21, .string (bs n), .int .i64 4, .string (bs v)]] W fun e W' => e = .returned (.bool false) ∧ Kp [] W W' from refMatch_any ⟨21, n, 4, v⟩ W)
  clear hk hb
  go_enter Tryz.func41, Tryz.ntmps41
  go_wp2_with (go_at_call 14; refine cM (by with_reducible exact HM.out _) ?_; rintro e w2 ⟨rfl, hk2⟩; have HK2 := qH (HK.out.trans hk2); have hb2 := HB.out.kp0 hk2; clear c0 c1 c2 c3; obtain ⟨c0, c1, c2, c3⟩ := hb2.cells; clear hb2 hk2)
  go_ret
  exact ⟨rfl, HK2.out⟩
 have hR : (opT 21).contains o = false := by
  simp [opT, o4]
 rw [hR]
 have hm2 := hm
 have p4 : (o == 4) = false := by simpa using o4
 clear hR o4
 obtain ⟨W1, hW1⟩ : ∃ W1, W.alloc (.cells #[.int .i64 21, .string (bs n), .int .i64 o, .string (bs v)] 31) = W1 := ⟨_, rfl⟩
 obtain ⟨B, hB⟩ : ∃ B, W.heap.size = B := ⟨_, rfl⟩
 have hk : Kp [] W W1 := by rw [← hW1]; exact (Kp.refl [] W).alloc _
 have hb : MAt W1 B ⟨21, n, o, v⟩ := by rw [← hW1, ← hB]; exact MAt.new W ⟨21, n, o, v⟩
 obtain ⟨c0, c1, c2, c3⟩ := hb.cells
 have HK := qH hk
 have HB := qH hb
 have HM := qH fun W => (show Calls Tryz.prog 14 #[.agg #[.int .i64 21, .string (bs n), .int .i64 o, .string (bs v)]] W fun e W' => e = .returned (.bool false) ∧ Kp [] W W' from by have := refMatch_any ⟨21, n, o, v⟩ W; rw [show matchB (⟨21, n, o, v⟩ : Tm).op = false from hm] at this; exact this)
 clear hk hb
 go_enter Tryz.func41, Tryz.ntmps41
 go_wp2_with (go_at_call 14; refine cM (by with_reducible exact HM.out _) ?_; rintro e w2 ⟨rfl, hk2⟩; have HK2 := qH (HK.out.trans hk2); have hb2 := HB.out.kp0 hk2; clear c0 c1 c2 c3; obtain ⟨c0, c1, c2, c3⟩ := hb2.cells; clear hb2 hk2)
 go_ret
 exact ⟨rfl, HK2.out⟩
theorem refAllowed_22 {k : Int} {n : List UInt8} {o : Int} {v : List UInt8} {W : World} (hm : matchB o = false) (hk : k = 22) : Calls Tryz.prog 41 #[.agg #[.int .i64 k, .string (bs n), .int .i64 o, .string (bs v)]] W fun e W' => e = .returned (.bool ((opT k).contains o)) ∧ Kp [] W W' := by
 subst hk
 by_cases o3 : o = 3
 ·subst o3
  rw [show (opT 22).contains 3 = true from by decide]
  clear hm 
  obtain ⟨W1, hW1⟩ : ∃ W1, W.alloc (.cells #[.int .i64 22, .string (bs n), .int .i64 3, .string (bs v)] 31) = W1 := ⟨_, rfl⟩
  obtain ⟨B, hB⟩ : ∃ B, W.heap.size = B := ⟨_, rfl⟩
  have hk : Kp [] W W1 := by rw [← hW1]; exact (Kp.refl [] W).alloc _
  have hb : MAt W1 B ⟨22, n, 3, v⟩ := by rw [← hW1, ← hB]; exact MAt.new W ⟨22, n, 3, v⟩
  obtain ⟨c0, c1, c2, c3⟩ := hb.cells
  have HK := qH hk
  have HB := qH hb
  have HM := qH fun W => (show Calls Tryz.prog 14 #[.agg #[.int .i64 22, .string (bs n), .int .i64 3, .string (bs v)]] W fun e W' => e = .returned (.bool false) ∧ Kp [] W W' from refMatch_any ⟨22, n, 3, v⟩ W)
  clear hk hb
  go_enter Tryz.func41, Tryz.ntmps41
  go_wp2_with (go_at_call 14; refine cM (by with_reducible exact HM.out _) ?_; rintro e w2 ⟨rfl, hk2⟩; have HK2 := qH (HK.out.trans hk2); have hb2 := HB.out.kp0 hk2; clear c0 c1 c2 c3; obtain ⟨c0, c1, c2, c3⟩ := hb2.cells; clear hb2 hk2)
  go_ret
  exact ⟨rfl, HK2.out⟩
 have hR : (opT 22).contains o = false := by
  simp [opT, o3]
 rw [hR]
 have hm2 := hm
 have p3 : (o == 3) = false := by simpa using o3
 clear hR o3
 obtain ⟨W1, hW1⟩ : ∃ W1, W.alloc (.cells #[.int .i64 22, .string (bs n), .int .i64 o, .string (bs v)] 31) = W1 := ⟨_, rfl⟩
 obtain ⟨B, hB⟩ : ∃ B, W.heap.size = B := ⟨_, rfl⟩
 have hk : Kp [] W W1 := by rw [← hW1]; exact (Kp.refl [] W).alloc _
 have hb : MAt W1 B ⟨22, n, o, v⟩ := by rw [← hW1, ← hB]; exact MAt.new W ⟨22, n, o, v⟩
 obtain ⟨c0, c1, c2, c3⟩ := hb.cells
 have HK := qH hk
 have HB := qH hb
 have HM := qH fun W => (show Calls Tryz.prog 14 #[.agg #[.int .i64 22, .string (bs n), .int .i64 o, .string (bs v)]] W fun e W' => e = .returned (.bool false) ∧ Kp [] W W' from by have := refMatch_any ⟨22, n, o, v⟩ W; rw [show matchB (⟨22, n, o, v⟩ : Tm).op = false from hm] at this; exact this)
 clear hk hb
 go_enter Tryz.func41, Tryz.ntmps41
 go_wp2_with (go_at_call 14; refine cM (by with_reducible exact HM.out _) ?_; rintro e w2 ⟨rfl, hk2⟩; have HK2 := qH (HK.out.trans hk2); have hb2 := HB.out.kp0 hk2; clear c0 c1 c2 c3; obtain ⟨c0, c1, c2, c3⟩ := hb2.cells; clear hb2 hk2)
 go_ret
 exact ⟨rfl, HK2.out⟩
theorem refAllowed_23 {k : Int} {n : List UInt8} {o : Int} {v : List UInt8} {W : World} (hm : matchB o = false) (hk : k = 23) : Calls Tryz.prog 41 #[.agg #[.int .i64 k, .string (bs n), .int .i64 o, .string (bs v)]] W fun e W' => e = .returned (.bool ((opT k).contains o)) ∧ Kp [] W W' := by
 subst hk
 by_cases o3 : o = 3
 ·subst o3
  rw [show (opT 23).contains 3 = true from by decide]
  clear hm 
  obtain ⟨W1, hW1⟩ : ∃ W1, W.alloc (.cells #[.int .i64 23, .string (bs n), .int .i64 3, .string (bs v)] 31) = W1 := ⟨_, rfl⟩
  obtain ⟨B, hB⟩ : ∃ B, W.heap.size = B := ⟨_, rfl⟩
  have hk : Kp [] W W1 := by rw [← hW1]; exact (Kp.refl [] W).alloc _
  have hb : MAt W1 B ⟨23, n, 3, v⟩ := by rw [← hW1, ← hB]; exact MAt.new W ⟨23, n, 3, v⟩
  obtain ⟨c0, c1, c2, c3⟩ := hb.cells
  have HK := qH hk
  have HB := qH hb
  have HM := qH fun W => (show Calls Tryz.prog 14 #[.agg #[.int .i64 23, .string (bs n), .int .i64 3, .string (bs v)]] W fun e W' => e = .returned (.bool false) ∧ Kp [] W W' from refMatch_any ⟨23, n, 3, v⟩ W)
  clear hk hb
  go_enter Tryz.func41, Tryz.ntmps41
  go_wp2_with (go_at_call 14; refine cM (by with_reducible exact HM.out _) ?_; rintro e w2 ⟨rfl, hk2⟩; have HK2 := qH (HK.out.trans hk2); have hb2 := HB.out.kp0 hk2; clear c0 c1 c2 c3; obtain ⟨c0, c1, c2, c3⟩ := hb2.cells; clear hb2 hk2)
  go_ret
  exact ⟨rfl, HK2.out⟩
 have hR : (opT 23).contains o = false := by
  simp [opT, o3]
 rw [hR]
 have hm2 := hm
 have p3 : (o == 3) = false := by simpa using o3
 clear hR o3
 obtain ⟨W1, hW1⟩ : ∃ W1, W.alloc (.cells #[.int .i64 23, .string (bs n), .int .i64 o, .string (bs v)] 31) = W1 := ⟨_, rfl⟩
 obtain ⟨B, hB⟩ : ∃ B, W.heap.size = B := ⟨_, rfl⟩
 have hk : Kp [] W W1 := by rw [← hW1]; exact (Kp.refl [] W).alloc _
 have hb : MAt W1 B ⟨23, n, o, v⟩ := by rw [← hW1, ← hB]; exact MAt.new W ⟨23, n, o, v⟩
 obtain ⟨c0, c1, c2, c3⟩ := hb.cells
 have HK := qH hk
 have HB := qH hb
 have HM := qH fun W => (show Calls Tryz.prog 14 #[.agg #[.int .i64 23, .string (bs n), .int .i64 o, .string (bs v)]] W fun e W' => e = .returned (.bool false) ∧ Kp [] W W' from by have := refMatch_any ⟨23, n, o, v⟩ W; rw [show matchB (⟨23, n, o, v⟩ : Tm).op = false from hm] at this; exact this)
 clear hk hb
 go_enter Tryz.func41, Tryz.ntmps41
 go_wp2_with (go_at_call 14; refine cM (by with_reducible exact HM.out _) ?_; rintro e w2 ⟨rfl, hk2⟩; have HK2 := qH (HK.out.trans hk2); have hb2 := HB.out.kp0 hk2; clear c0 c1 c2 c3; obtain ⟨c0, c1, c2, c3⟩ := hb2.cells; clear hb2 hk2)
 go_ret
 exact ⟨rfl, HK2.out⟩
theorem refAllowed_24 {k : Int} {n : List UInt8} {o : Int} {v : List UInt8} {W : World} (hm : matchB o = false) (hk : k = 24) : Calls Tryz.prog 41 #[.agg #[.int .i64 k, .string (bs n), .int .i64 o, .string (bs v)]] W fun e W' => e = .returned (.bool ((opT k).contains o)) ∧ Kp [] W W' := by
 subst hk
 by_cases o3 : o = 3
 ·subst o3
  rw [show (opT 24).contains 3 = true from by decide]
  clear hm 
  obtain ⟨W1, hW1⟩ : ∃ W1, W.alloc (.cells #[.int .i64 24, .string (bs n), .int .i64 3, .string (bs v)] 31) = W1 := ⟨_, rfl⟩
  obtain ⟨B, hB⟩ : ∃ B, W.heap.size = B := ⟨_, rfl⟩
  have hk : Kp [] W W1 := by rw [← hW1]; exact (Kp.refl [] W).alloc _
  have hb : MAt W1 B ⟨24, n, 3, v⟩ := by rw [← hW1, ← hB]; exact MAt.new W ⟨24, n, 3, v⟩
  obtain ⟨c0, c1, c2, c3⟩ := hb.cells
  have HK := qH hk
  have HB := qH hb
  have HM := qH fun W => (show Calls Tryz.prog 14 #[.agg #[.int .i64 24, .string (bs n), .int .i64 3, .string (bs v)]] W fun e W' => e = .returned (.bool false) ∧ Kp [] W W' from refMatch_any ⟨24, n, 3, v⟩ W)
  clear hk hb
  go_enter Tryz.func41, Tryz.ntmps41
  go_wp2_with (go_at_call 14; refine cM (by with_reducible exact HM.out _) ?_; rintro e w2 ⟨rfl, hk2⟩; have HK2 := qH (HK.out.trans hk2); have hb2 := HB.out.kp0 hk2; clear c0 c1 c2 c3; obtain ⟨c0, c1, c2, c3⟩ := hb2.cells; clear hb2 hk2)
  go_ret
  exact ⟨rfl, HK2.out⟩
 have hR : (opT 24).contains o = false := by
  simp [opT, o3]
 rw [hR]
 have hm2 := hm
 have p3 : (o == 3) = false := by simpa using o3
 clear hR o3
 obtain ⟨W1, hW1⟩ : ∃ W1, W.alloc (.cells #[.int .i64 24, .string (bs n), .int .i64 o, .string (bs v)] 31) = W1 := ⟨_, rfl⟩
 obtain ⟨B, hB⟩ : ∃ B, W.heap.size = B := ⟨_, rfl⟩
 have hk : Kp [] W W1 := by rw [← hW1]; exact (Kp.refl [] W).alloc _
 have hb : MAt W1 B ⟨24, n, o, v⟩ := by rw [← hW1, ← hB]; exact MAt.new W ⟨24, n, o, v⟩
 obtain ⟨c0, c1, c2, c3⟩ := hb.cells
 have HK := qH hk
 have HB := qH hb
 have HM := qH fun W => (show Calls Tryz.prog 14 #[.agg #[.int .i64 24, .string (bs n), .int .i64 o, .string (bs v)]] W fun e W' => e = .returned (.bool false) ∧ Kp [] W W' from by have := refMatch_any ⟨24, n, o, v⟩ W; rw [show matchB (⟨24, n, o, v⟩ : Tm).op = false from hm] at this; exact this)
 clear hk hb
 go_enter Tryz.func41, Tryz.ntmps41
 go_wp2_with (go_at_call 14; refine cM (by with_reducible exact HM.out _) ?_; rintro e w2 ⟨rfl, hk2⟩; have HK2 := qH (HK.out.trans hk2); have hb2 := HB.out.kp0 hk2; clear c0 c1 c2 c3; obtain ⟨c0, c1, c2, c3⟩ := hb2.cells; clear hb2 hk2)
 go_ret
 exact ⟨rfl, HK2.out⟩
theorem refAllowed_none {k : Int} {n : List UInt8} {o : Int} {v : List UInt8} {W : World} (h1 : 1 ≤ k) (h2 : k ≤ 24) (hm : matchB o = false) (hn : k ≠ 6 ∧ k ≠ 7 ∧ k ≠ 15 ∧ k ≠ 17 ∧ k ≠ 18 ∧ k ≠ 19 ∧ k ≠ 16 ∧ k ≠ 20 ∧ k ≠ 21 ∧ k ≠ 22 ∧ k ≠ 23 ∧ k ≠ 24) : Calls Tryz.prog 41 #[.agg #[.int .i64 k, .string (bs n), .int .i64 o, .string (bs v)]] W fun e W' => e = .returned (.bool ((opT k).contains o)) ∧ Kp [] W W' := by
 have hR : (opT k).contains o = false := by
  have n1 : o ≠ 1 := fun h => by rw [h] at hm; cases hm
  have n2 : o ≠ 2 := fun h => by rw [h] at hm; cases hm
  have hk : k = 1 ∨ k = 2 ∨ k = 3 ∨ k = 4 ∨ k = 5 ∨ k = 6 ∨ k = 7 ∨ k = 8 ∨ k = 9 ∨ k = 10 ∨ k = 11 ∨ k = 12 ∨ k = 13 ∨ k = 14 ∨ k = 15 ∨ k = 16 ∨ k = 17 ∨ k = 18 ∨ k = 19 ∨ k = 20 ∨ k = 21 ∨ k = 22 ∨ k = 23 ∨ k = 24 := by omega
  rcases hk with rfl | rfl | rfl | rfl | rfl | rfl | rfl | rfl | rfl | rfl | rfl | rfl | rfl | rfl | rfl | rfl | rfl | rfl | rfl | rfl | rfl | rfl | rfl | rfl <;> first | (exfalso; omega) | simp [opT, n1, n2]
 rw [hR]
 have q6 : (k == 6) = false := by rw [beq_eq_false_iff_ne]; omega
 have q7 : (k == 7) = false := by rw [beq_eq_false_iff_ne]; omega
 have q15 : (k == 15) = false := by rw [beq_eq_false_iff_ne]; omega
 have q17 : (k == 17) = false := by rw [beq_eq_false_iff_ne]; omega
 have q18 : (k == 18) = false := by rw [beq_eq_false_iff_ne]; omega
 have q19 : (k == 19) = false := by rw [beq_eq_false_iff_ne]; omega
 have q16 : (k == 16) = false := by rw [beq_eq_false_iff_ne]; omega
 have q20 : (k == 20) = false := by rw [beq_eq_false_iff_ne]; omega
 have q21 : (k == 21) = false := by rw [beq_eq_false_iff_ne]; omega
 have q22 : (k == 22) = false := by rw [beq_eq_false_iff_ne]; omega
 have q23 : (k == 23) = false := by rw [beq_eq_false_iff_ne]; omega
 have q24 : (k == 24) = false := by rw [beq_eq_false_iff_ne]; omega
 clear hR h1 h2 hn
 obtain ⟨W1, hW1⟩ : ∃ W1, W.alloc (.cells #[.int .i64 k, .string (bs n), .int .i64 o, .string (bs v)] 31) = W1 := ⟨_, rfl⟩
 obtain ⟨B, hB⟩ : ∃ B, W.heap.size = B := ⟨_, rfl⟩
 have hk : Kp [] W W1 := by rw [← hW1]; exact (Kp.refl [] W).alloc _
 have hb : MAt W1 B ⟨k, n, o, v⟩ := by rw [← hW1, ← hB]; exact MAt.new W ⟨k, n, o, v⟩
 obtain ⟨c0, c1, c2, c3⟩ := hb.cells
 have HK := qH hk
 have HB := qH hb
 have HM := qH fun W => (show Calls Tryz.prog 14 #[.agg #[.int .i64 k, .string (bs n), .int .i64 o, .string (bs v)]] W fun e W' => e = .returned (.bool false) ∧ Kp [] W W' from by have := refMatch_any ⟨k, n, o, v⟩ W; rw [show matchB (⟨k, n, o, v⟩ : Tm).op = false from hm] at this; exact this)
 clear hk hb
 go_enter Tryz.func41, Tryz.ntmps41
 go_wp2_with (go_at_call 14; refine cM (by with_reducible exact HM.out _) ?_; rintro e w2 ⟨rfl, hk2⟩; have HK2 := qH (HK.out.trans hk2); have hb2 := HB.out.kp0 hk2; clear c0 c1 c2 c3; obtain ⟨c0, c1, c2, c3⟩ := hb2.cells; clear hb2 hk2)
 go_ret
 exact ⟨rfl, HK2.out⟩
theorem refAllowed_any (t : Tm) (h1 : 1 ≤ t.key) (h2 : t.key ≤ 24) (W : World) : Calls Tryz.prog 41 #[.agg #[.int .i64 t.key, .string (bs t.name), .int .i64 t.op, .string (bs t.val)]] W fun e W' => e = .returned (.bool ((opT t.key).contains t.op)) ∧ Kp [] W W' := by
 obtain ⟨k, n, o, v⟩ := t
 cases hm : matchB o with
 | true => exact refAllowed_match h1 h2 hm
 | false =>
  by_cases k6 : k = 6
  ·exact refAllowed_6 hm k6
  by_cases k7 : k = 7
  ·exact refAllowed_7 hm k7
  by_cases k15 : k = 15
  ·exact refAllowed_15 hm k15
  by_cases k17 : k = 17
  ·exact refAllowed_17 hm k17
  by_cases k18 : k = 18
  ·exact refAllowed_18 hm k18
  by_cases k19 : k = 19
  ·exact refAllowed_19 hm k19
  by_cases k16 : k = 16
  ·exact refAllowed_16 hm k16
  by_cases k20 : k = 20
  ·exact refAllowed_20 hm k20
  by_cases k21 : k = 21
  ·exact refAllowed_21 hm k21
  by_cases k22 : k = 22
  ·exact refAllowed_22 hm k22
  by_cases k23 : k = 23
  ·exact refAllowed_23 hm k23
  by_cases k24 : k = 24
  ·exact refAllowed_24 hm k24
  exact refAllowed_none h1 h2 hm ⟨k6, k7, k15, k17, k18, k19, k16, k20, k21, k22, k23, k24⟩
end Go.Proofs.YtkkibibecgcbmaaGreatDoor
