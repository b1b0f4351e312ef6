/- If -/
import Derived.Test.YtkkibibecgcbmaaGreatDoorQIe
import Derived.Test.YtkkibibecgcbmaaGreatDoorQGlRG
import Derived.Test.YtkkibibecgcbmaaGreatDoorQGq
open Go.Lib renaming hid → qH
open Go.Calls renaming mono → cM
set_option maxRecDepth 100000
set_option maxHeartbeats 16000000
namespace Go.Proofs.YtkkibibecgcbmaaGreatDoor
open Go.RowKit
theorem refGlob_any (s : List UInt8) (hs : s.length ≤ 1000000000) (W : World) : Calls Tryz.prog 64 #[.string (bs s)] W fun e W' => e = .returned (.int .i64 (Gl.errP s)) ∧ Kp [] W W' := by
 have h := Gl.refCheck_any (bs s) W (by rw [bs_size]; omega)
 rw [bs_data] at h
 exact h.mono fun _ _ ⟨h1, h2⟩ => ⟨h1, Kp.of_below h2⟩
theorem refRight_22 {n : List UInt8} {o : Int} {v : List UInt8} {W : World} (hE : Env W) : Calls Tryz.prog 42 #[.agg #[.int .i64 22, .string (bs n), .int .i64 o, .string (bs v)]] W fun e W' => e = .returned (.bool (prioOk v)) ∧ Kp [] W W' := by
 have HP := qH fun W' (h : Kp [] W W') => refPrio_any (hE.kp0 h) v
 generalize prioOk v = b at *
 clear hE
 obtain ⟨W1, hW1⟩ : ∃ W1, W.alloc (.cells #[.int .i64 22, .string (bs n), .int .i64 o, .string (bs v)] 31) = W1 := ⟨_, rfl⟩
 obtain ⟨B, hB⟩ : ∃ B, W.heap.size = B := ⟨_, rfl⟩
 have hk : Kp [] W W1 := by rw [← hW1]; exact (Kp.refl [] W).alloc _
 have hb : MAt W1 B ⟨22, n, o, v⟩ := by rw [← hW1, ← hB]; exact MAt.new W ⟨22, n, o, v⟩
 obtain ⟨c0, c1, c2, c3⟩ := hb.cells
 have HK := qH hk
 have HB := qH hb
 clear hk hb
 go_enter Tryz.func42, Tryz.ntmps42
 go_wp2_with (go_at_call 32; refine cM (by with_reducible exact HP.out _ HK.out) ?_; rintro e w2 ⟨m, rfl, hk2⟩; have HK2 := qH (HK.out.trans hk2); clear hk2)
 go_ret
 exact ⟨rfl, HK2.out⟩
theorem refRight_23 {n : List UInt8} {o : Int} {v : List UInt8} {W : World} (hl : v.length ≤ 100000000) : Calls Tryz.prog 42 #[.agg #[.int .i64 23, .string (bs n), .int .i64 o, .string (bs v)]] W fun e W' => e = .returned (.bool (nmB v)) ∧ Kp [] W W' := by
 have HN := qH fun W' => refNm_any v W' (by omega)
 generalize nmB v = b at *
 obtain ⟨W1, hW1⟩ : ∃ W1, W.alloc (.cells #[.int .i64 23, .string (bs n), .int .i64 o, .string (bs v)] 31) = W1 := ⟨_, rfl⟩
 obtain ⟨B, hB⟩ : ∃ B, W.heap.size = B := ⟨_, rfl⟩
 have hk : Kp [] W W1 := by rw [← hW1]; exact (Kp.refl [] W).alloc _
 have hb : MAt W1 B ⟨23, n, o, v⟩ := by rw [← hW1, ← hB]; exact MAt.new W ⟨23, n, o, v⟩
 obtain ⟨c0, c1, c2, c3⟩ := hb.cells
 have HK := qH hk
 have HB := qH hb
 clear hk hb
 go_enter Tryz.func42, Tryz.ntmps42
 go_wp2_with (go_at_call 61; refine cM (by with_reducible exact HN.out _) ?_; rintro e w2 ⟨rfl, hk2⟩; have HK2 := qH (HK.out.trans hk2); clear hk2)
 go_ret
 exact ⟨rfl, HK2.out⟩
theorem refRight_24 {n : List UInt8} {o : Int} {v : List UInt8} {W : World} (hl : v.length ≤ 100000000) : Calls Tryz.prog 42 #[.agg #[.int .i64 24, .string (bs n), .int .i64 o, .string (bs v)]] W fun e W' => e = .returned (.bool (nmB v)) ∧ Kp [] W W' := by
 have HN := qH fun W' => refNm_any v W' (by omega)
 generalize nmB v = b at *
 obtain ⟨W1, hW1⟩ : ∃ W1, W.alloc (.cells #[.int .i64 24, .string (bs n), .int .i64 o, .string (bs v)] 31) = W1 := ⟨_, rfl⟩
 obtain ⟨B, hB⟩ : ∃ B, W.heap.size = B := ⟨_, rfl⟩
 have hk : Kp [] W W1 := by rw [← hW1]; exact (Kp.refl [] W).alloc _
 have hb : MAt W1 B ⟨24, n, o, v⟩ := by rw [← hW1, ← hB]; exact MAt.new W ⟨24, n, o, v⟩
 obtain ⟨c0, c1, c2, c3⟩ := hb.cells
 have HK := qH hk
 have HB := qH hb
 clear hk hb
 go_enter Tryz.func42, Tryz.ntmps42
 go_wp2_with (go_at_call 61; refine cM (by with_reducible exact HN.out _) ?_; rintro e w2 ⟨rfl, hk2⟩; have HK2 := qH (HK.out.trans hk2); clear hk2)
 go_ret
 exact ⟨rfl, HK2.out⟩
theorem refRight_14b {o : Int} {v : List UInt8} {W : World} : Calls Tryz.prog 42 #[.agg #[.int .i64 14, .string (bs [98, 117, 105, 108, 116, 105, 110]), .int .i64 o, .string (bs v)]] W fun e W' => e = .returned (.bool (bltL.contains v)) ∧ Kp [] W W' := by
 have hc : bltL.contains v = ((v == [112, 97, 116, 104]) || ((v == [99, 111, 110, 116, 101, 110, 116]) || (v == [110, 101, 116]))) := by simp only [bltL, List.contains_cons, List.contains_nil, Bool.or_false]
 have g1 : ((bs v).toList == [112, 97, 116, 104]) = (v == [112, 97, 116, 104]) := by rw [toL0]
 have g2 : ((bs v).toList == [99, 111, 110, 116, 101, 110, 116]) = (v == [99, 111, 110, 116, 101, 110, 116]) := by rw [toL0]
 have g3 : ((bs v).toList == [110, 101, 116]) = (v == [110, 101, 116]) := by rw [toL0]
 rw [hc]
 generalize (v == [112, 97, 116, 104]) = b1 at *
 generalize (v == [99, 111, 110, 116, 101, 110, 116]) = b2 at *
 generalize (v == [110, 101, 116]) = b3 at *
 have gn : ((bs [98, 117, 105, 108, 116, 105, 110]).toList == [98, 117, 105, 108, 116, 105, 110]) = true := by rw [toL0]; decide
 clear hc
 obtain ⟨W1, hW1⟩ : ∃ W1, W.alloc (.cells #[.int .i64 14, .string (bs [98, 117, 105, 108, 116, 105, 110]), .int .i64 o, .string (bs v)] 31) = W1 := ⟨_, rfl⟩
 obtain ⟨B, hB⟩ : ∃ B, W.heap.size = B := ⟨_, rfl⟩
 have hk : Kp [] W W1 := by rw [← hW1]; exact (Kp.refl [] W).alloc _
 have hb : MAt W1 B ⟨14, [98, 117, 105, 108, 116, 105, 110], o, v⟩ := by rw [← hW1, ← hB]; exact MAt.new W ⟨14, [98, 117, 105, 108, 116, 105, 110], o, v⟩
 obtain ⟨c0, c1, c2, c3⟩ := hb.cells
 have HK := qH hk
 have HB := qH hb
 clear hk hb
 generalize bs [98, 117, 105, 108, 116, 105, 110] = qn at *
 generalize bs v = q at *
 cases b1 <;> cases b2 <;> cases b3 <;>
 ·go_enter Tryz.func42, Tryz.ntmps42
  go_wp2
  go_ret
  exact ⟨rfl, HK.out⟩
theorem refRight_14p {o : Int} {v : List UInt8} {W : World} (hl : v.length ≤ 100000000) (hE : Env W) : Calls Tryz.prog 42 #[.agg #[.int .i64 14, .string (bs [112, 114, 111, 103, 114, 97, 109]), .int .i64 o, .string (bs v)]] W fun e W' => e = .returned (.bool (tmplOk v)) ∧ Kp [] W W' := by
 obtain ⟨z, hz⟩ : ∃ z, (parseE v).2 = z := ⟨_, rfl⟩
 rw [show tmplOk v = (z == 0) from by unfold tmplOk; rw [hz]]
 have HT := qH fun W' (h : Kp [] W W') => refCheck9_any (hE.kp0 h) v (by omega)
 rw [hz] at HT
 clear hz
 have gn1 : ((bs [112, 114, 111, 103, 114, 97, 109]).toList == [98, 117, 105, 108, 116, 105, 110]) = false := by rw [toL0]; decide
 have gn2 : ((bs [112, 114, 111, 103, 114, 97, 109]).toList == [112, 114, 111, 103, 114, 97, 109]) = true := by rw [toL0]; decide
 clear hE hl
 obtain ⟨W1, hW1⟩ : ∃ W1, W.alloc (.cells #[.int .i64 14, .string (bs [112, 114, 111, 103, 114, 97, 109]), .int .i64 o, .string (bs v)] 31) = W1 := ⟨_, rfl⟩
 obtain ⟨B, hB⟩ : ∃ B, W.heap.size = B := ⟨_, rfl⟩
 have hk : Kp [] W W1 := by rw [← hW1]; exact (Kp.refl [] W).alloc _
 have hb : MAt W1 B ⟨14, [112, 114, 111, 103, 114, 97, 109], o, v⟩ := by rw [← hW1, ← hB]; exact MAt.new W ⟨14, [112, 114, 111, 103, 114, 97, 109], o, v⟩
 obtain ⟨c0, c1, c2, c3⟩ := hb.cells
 have HK := qH hk
 have HB := qH hb
 clear hk hb
 generalize bs [112, 114, 111, 103, 114, 97, 109] = qn at *
 go_enter Tryz.func42, Tryz.ntmps42
 go_wp2_with (go_at_call 63; refine cM (by with_reducible exact HT.out _ HK.out) ?_; rintro e w2 ⟨rfl, hk2⟩; have HK2 := qH (HK.out.trans hk2); clear hk2)
 go_ret
 exact ⟨rfl, HK2.out⟩
theorem refRight_14g {n : List UInt8} {o : Int} {v : List UInt8} {W : World} (hl : v.length ≤ 100000000) (g1 : (n == [98, 117, 105, 108, 116, 105, 110]) = false) (g2 : (n == [112, 114, 111, 103, 114, 97, 109]) = false) : Calls Tryz.prog 42 #[.agg #[.int .i64 14, .string (bs n), .int .i64 o, .string (bs v)]] W fun e W' => e = .returned (.bool (globOk v)) ∧ Kp [] W W' := by
 obtain ⟨z, hz⟩ : ∃ z, Gl.errP v = z := ⟨_, rfl⟩
 rw [show globOk v = (z == 0) from by unfold globOk; rw [hz]]
 have HG := qH fun W' => refGlob_any v (by omega) W'
 rw [hz] at HG
 clear hz
 have gn1 : ((bs n).toList == [98, 117, 105, 108, 116, 105, 110]) = false := by rw [toL0]; exact g1
 have gn2 : ((bs n).toList == [112, 114, 111, 103, 114, 97, 109]) = false := by rw [toL0]; exact g2
 clear g1 g2
 clear hl
 obtain ⟨W1, hW1⟩ : ∃ W1, W.alloc (.cells #[.int .i64 14, .string (bs n), .int .i64 o, .string (bs v)] 31) = W1 := ⟨_, rfl⟩
 obtain ⟨B, hB⟩ : ∃ B, W.heap.size = B := ⟨_, rfl⟩
 have hk : Kp [] W W1 := by rw [← hW1]; exact (Kp.refl [] W).alloc _
 have hb : MAt W1 B ⟨14, n, o, v⟩ := by rw [← hW1, ← hB]; exact MAt.new W ⟨14, n, o, v⟩
 obtain ⟨c0, c1, c2, c3⟩ := hb.cells
 have HK := qH hk
 have HB := qH hb
 clear hk hb
 go_enter Tryz.func42, Tryz.ntmps42
 go_wp2_with (go_at_call 64; refine cM (by with_reducible exact HG.out _) ?_; rintro e w2 ⟨rfl, hk2⟩; have HK2 := qH (HK.out.trans hk2); clear hk2)
 go_ret
 exact ⟨rfl, HK2.out⟩
theorem refRight_12 {n : List UInt8} {o : Int} {v : List UInt8} {W : World} (hl : v.length ≤ 100000000) (hE : Env W) (hm : matchB o = true) : Calls Tryz.prog 42 #[.agg #[.int .i64 12, .string (bs n), .int .i64 o, .string (bs v)]] W fun e W' => e = .returned (.bool (tmplOk v)) ∧ Kp [] W W' := by
 obtain ⟨z, hz⟩ : ∃ z, (parseE v).2 = z := ⟨_, rfl⟩
 rw [show tmplOk v = (z == 0) from by unfold tmplOk; rw [hz]]
 have HT := qH fun W' (h : Kp [] W W') => refCheck9_any (hE.kp0 h) v (by omega)
 rw [hz] at HT
 clear hz
 have HM := qH fun W => (show Calls Tryz.prog 14 #[.agg #[.int .i64 12, .string (bs n), .int .i64 o, .string (bs v)]] W fun e W' => e = .returned (.bool true) ∧ Kp [] W W' from by have := refMatch_any ⟨12, n, o, v⟩ W; rw [show matchB (⟨12, n, o, v⟩ : Tm).op = true from hm] at this; exact this)
 clear hE hl hm
 obtain ⟨W1, hW1⟩ : ∃ W1, W.alloc (.cells #[.int .i64 12, .string (bs n), .int .i64 o, .string (bs v)] 31) = W1 := ⟨_, rfl⟩
 obtain ⟨B, hB⟩ : ∃ B, W.heap.size = B := ⟨_, rfl⟩
 have hk : Kp [] W W1 := by rw [← hW1]; exact (Kp.refl [] W).alloc _
 have hb : MAt W1 B ⟨12, n, o, v⟩ := by rw [← hW1, ← hB]; exact MAt.new W ⟨12, n, o, v⟩
 obtain ⟨c0, c1, c2, c3⟩ := hb.cells
 have HK := qH hk
 have HB := qH hb
 clear hk hb
 go_enter Tryz.func42, Tryz.ntmps42
 go_wp2_with (first
  | (go_at_call 14; refine cM (by with_reducible exact HM.out _) ?_; rintro e w2 ⟨rfl, hk2⟩; have HK3 := qH (HK.out.trans hk2); have hb2 := HB.out.kp0 hk2; clear c0 c1 c2 c3; obtain ⟨c0, c1, c2, c3⟩ := hb2.cells; clear hb2 hk2)
  | (go_at_call 63; refine cM (by with_reducible exact HT.out _ HK3.out) ?_; rintro e w3 ⟨rfl, hk2⟩; have HK2 := qH (HK3.out.trans hk2); clear hk2))
 go_ret
 exact ⟨rfl, HK2.out⟩
theorem refRight_glob {k : Int} {n : List UInt8} {o : Int} {v : List UInt8} {W : World} (hl : v.length ≤ 100000000) (q22 : (k == 22) = false) (q23 : (k == 23) = false) (q24 : (k == 24) = false) (q14 : (k == 14) = false) (q12 : (k == 12) = false) (hm : matchB o = true) : Calls Tryz.prog 42 #[.agg #[.int .i64 k, .string (bs n), .int .i64 o, .string (bs v)]] W fun e W' => e = .returned (.bool (globOk v)) ∧ Kp [] W W' := by
 have q12b : (k != 12) = true := by simp [bne, q12]
 obtain ⟨z, hz⟩ : ∃ z, Gl.errP v = z := ⟨_, rfl⟩
 rw [show globOk v = (z == 0) from by unfold globOk; rw [hz]]
 have HG := qH fun W' => refGlob_any v (by omega) W'
 rw [hz] at HG
 clear hz
 have HM := qH fun W => (show Calls Tryz.prog 14 #[.agg #[.int .i64 k, .string (bs n), .int .i64 o, .string (bs v)]] W fun e W' => e = .returned (.bool true) ∧ Kp [] W W' from by have := refMatch_any ⟨k, n, o, v⟩ W; rw [show matchB (⟨k, n, o, v⟩ : Tm).op = true from hm] at this; exact this)
 clear hl hm
 obtain ⟨W1, hW1⟩ : ∃ W1, W.alloc (.cells #[.int .i64 k, .string (bs n), .int .i64 o, .string (bs v)] 31) = W1 := ⟨_, rfl⟩
 obtain ⟨B, hB⟩ : ∃ B, W.heap.size = B := ⟨_, rfl⟩
 have hk : Kp [] W W1 := by rw [← hW1]; exact (Kp.refl [] W).alloc _
 have hb : MAt W1 B ⟨k, n, o, v⟩ := by rw [← hW1, ← hB]; exact MAt.new W ⟨k, n, o, v⟩
 obtain ⟨c0, c1, c2, c3⟩ := hb.cells
 have HK := qH hk
 have HB := qH hb
 clear hk hb
 go_enter Tryz.func42, Tryz.ntmps42
 go_wp2_with (first
  | (go_at_call 14; refine cM (by with_reducible exact HM.out _) ?_; rintro e w2 ⟨rfl, hk2⟩; have HK3 := qH (HK.out.trans hk2); have hb2 := HB.out.kp0 hk2; clear c0 c1 c2 c3; obtain ⟨c0, c1, c2, c3⟩ := hb2.cells; clear hb2 hk2)
  | (go_at_call 64; refine cM (by with_reducible exact HG.out _) ?_; rintro e w3 ⟨rfl, hk2⟩; have HK2 := qH (HK3.out.trans hk2); clear hk2))
 go_ret
 exact ⟨rfl, HK2.out⟩
theorem refRight_tmpl {k : Int} {n : List UInt8} {o : Int} {v : List UInt8} {W : World} (hl : v.length ≤ 100000000) (q22 : (k == 22) = false) (q23 : (k == 23) = false) (q24 : (k == 24) = false) (q14 : (k == 14) = false) (hE : Env W) (hm : matchB o = false) : Calls Tryz.prog 42 #[.agg #[.int .i64 k, .string (bs n), .int .i64 o, .string (bs v)]] W fun e W' => e = .returned (.bool (tmplOk v)) ∧ Kp [] W W' := by
 obtain ⟨z, hz⟩ : ∃ z, (parseE v).2 = z := ⟨_, rfl⟩
 rw [show tmplOk v = (z == 0) from by unfold tmplOk; rw [hz]]
 have HT := qH fun W' (h : Kp [] W W') => refCheck9_any (hE.kp0 h) v (by omega)
 rw [hz] at HT
 clear hz
 have HM := qH fun W => (show Calls Tryz.prog 14 #[.agg #[.int .i64 k, .string (bs n), .int .i64 o, .string (bs v)]] W fun e W' => e = .returned (.bool false) ∧ Kp [] W W' from by have := refMatch_any ⟨k, n, o, v⟩ W; rw [show matchB (⟨k, n, o, v⟩ : Tm).op = false from hm] at this; exact this)
 clear hE hl hm
 obtain ⟨W1, hW1⟩ : ∃ W1, W.alloc (.cells #[.int .i64 k, .string (bs n), .int .i64 o, .string (bs v)] 31) = W1 := ⟨_, rfl⟩
 obtain ⟨B, hB⟩ : ∃ B, W.heap.size = B := ⟨_, rfl⟩
 have hk : Kp [] W W1 := by rw [← hW1]; exact (Kp.refl [] W).alloc _
 have hb : MAt W1 B ⟨k, n, o, v⟩ := by rw [← hW1, ← hB]; exact MAt.new W ⟨k, n, o, v⟩
 obtain ⟨c0, c1, c2, c3⟩ := hb.cells
 have HK := qH hk
 have HB := qH hb
 clear hk hb
 go_enter Tryz.func42, Tryz.ntmps42
 go_wp2_with (first
  | (go_at_call 14; refine cM (by with_reducible exact HM.out _) ?_; rintro e w2 ⟨rfl, hk2⟩; have HK3 := qH (HK.out.trans hk2); have hb2 := HB.out.kp0 hk2; clear c0 c1 c2 c3; obtain ⟨c0, c1, c2, c3⟩ := hb2.cells; clear hb2 hk2)
  | (go_at_call 63; refine cM (by with_reducible exact HT.out _ HK3.out) ?_; rintro e w3 ⟨rfl, hk2⟩; have HK2 := qH (HK3.out.trans hk2); clear hk2))
 go_ret
 exact ⟨rfl, HK2.out⟩
theorem refRight_any {W : World} (hE : Env W) (t : Tm) (hs : SmT t) (h1 : 1 ≤ t.key) (h2 : t.key ≤ 24) (hn : nmT t.key t.name = true) (ho : (opT t.key).contains t.op = true) : Calls Tryz.prog 42 #[.agg #[.int .i64 t.key, .string (bs t.name), .int .i64 t.op, .string (bs t.val)]] W fun e W' => e = .returned (.bool (vlT t)) ∧ Kp [] W W' := by
 obtain ⟨k, n, o, v⟩ := t
 simp only at h1 h2 hn ho ⊢
 have hl : v.length ≤ 100000000 := hs.2
 by_cases k22 : k = 22
 ·subst k22
  exact refRight_22 hE
 by_cases k23 : k = 23
 ·subst k23
  exact refRight_23 hl
 by_cases k24 : k = 24
 ·subst k24
  exact refRight_24 hl
 by_cases k14 : k = 14
 ·subst k14
  have hv : vlT ⟨14, n, o, v⟩ = impOk ⟨14, n, o, v⟩ := rfl
  have hsr : srcL.contains n = true := hn
  rw [hv]
  unfold impOk
  simp only
  by_cases np : n = [112, 114, 111, 103, 114, 97, 109]
  ·subst np
   rw [if_pos rfl]
   exact refRight_14p hl hE
  rw [if_neg np]
  by_cases na : n = [112, 97, 114, 101, 110, 116]
  ·subst na
   rw [if_pos rfl]
   exact refRight_14g hl (by decide) (by decide)
  rw [if_neg na]
  have nb : n = [98, 117, 105, 108, 116, 105, 110] := by
   simp only [srcL, List.contains_cons, List.contains_nil, Bool.or_false, Bool.or_eq_true, beq_iff_eq] at hsr
   rcases hsr with h | h | h
   ·exact absurd h np
   ·exact absurd h na
   ·exact h
  subst nb
  exact refRight_14b
 have q22 : (k == 22) = false := by simpa using k22
 have q23 : (k == 23) = false := by simpa using k23
 have q24 : (k == 24) = false := by simpa using k24
 have q14 : (k == 14) = false := by simpa using k14
 by_cases k12 : k = 12
 ·subst k12
  have hm : matchB o = true := by simpa [opT, matchB] using ho
  exact refRight_12 hl hE hm
 have q12 : (k == 12) = false := by simpa using k12
 cases hm : matchB o with
 | true =>
  have hv : vlT ⟨k, n, o, v⟩ = globOk v := by
   have hk : k = 1 ∨ k = 2 ∨ k = 3 ∨ k = 4 ∨ k = 5 ∨ k = 6 ∨ k = 7 ∨ k = 8 ∨ k = 9 ∨ k = 10 ∨ k = 11 ∨ k = 12 ∨ k = 13 ∨ k = 14 ∨ k = 15 ∨ k = 16 ∨ k = 17 ∨ k = 18 ∨ k = 19 ∨ k = 20 ∨ k = 21 ∨ k = 22 ∨ k = 23 ∨ k = 24 := by omega
   have ho2 : o = 1 ∨ o = 2 := by simpa [matchB] using hm
   rcases hk with rfl | rfl | rfl | rfl | rfl | rfl | rfl | rfl | rfl | rfl | rfl | rfl | rfl | rfl | rfl | rfl | rfl | rfl | rfl | rfl | rfl | rfl | rfl | rfl <;> first | (exfalso; omega) | (rcases ho2 with rfl | rfl <;> first | rfl | (exact absurd ho (by decide)))
  rw [hv]
  exact refRight_glob hl q22 q23 q24 q14 q12 hm
 | false =>
  have hv : vlT ⟨k, n, o, v⟩ = tmplOk v := by
   have hk : k = 1 ∨ k = 2 ∨ k = 3 ∨ k = 4 ∨ k = 5 ∨ k = 6 ∨ k = 7 ∨ k = 8 ∨ k = 9 ∨ k = 10 ∨ k = 11 ∨ k = 12 ∨ k = 13 ∨ k = 14 ∨ k = 15 ∨ k = 16 ∨ k = 17 ∨ k = 18 ∨ k = 19 ∨ k = 20 ∨ k = 21 ∨ k = 22 ∨ k = 23 ∨ k = 24 := by omega
   have hf : ∀ k, (opT k = [1, 2]) → ¬ (opT k).contains o = true := fun k h hc => by
    rw [h] at hc
    have : matchB o = true := by simpa [matchB] using hc
    rw [hm] at this
    cases this
   rcases hk with rfl | rfl | rfl | rfl | rfl | rfl | rfl | rfl | rfl | rfl | rfl | rfl | rfl | rfl | rfl | rfl | rfl | rfl | rfl | rfl | rfl | rfl | rfl | rfl <;> first | (exfalso; omega) | (exact absurd ho (hf _ rfl)) | (simp only [vlT, gotOk, hm]; rfl)
  rw [hv]
  exact refRight_tmpl hl q22 q23 q24 q14 hE hm
end Go.Proofs.YtkkibibecgcbmaaGreatDoor
