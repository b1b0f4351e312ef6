/- firstElement: a byte that stands for itself. -/
import Derived.Test.YtdlchlbngojljaaDoorKGlH
namespace Go.Proofs.YtdlchlbngojljaaDoor.Gl
open Go.RowKit
set_option maxHeartbeats 1600000 in
set_option maxRecDepth 100000 in
theorem first_self (s : ByteArray) (c : UInt8) (w : World) (hs : s.size ≤ 4096) (hpos : 0 < s.size) (hc : s[0] = c) (h42 : c ≠ 42) (h63 : c ≠ 63) (h91 : c ≠ 91) :
  Calls Tryd.prog 55 #[.string s] w (Bel (.tuple #[.agg (elV ⟨false, true, fun x => x == c⟩), .int .i64 1]) w) := by
 have hv := (zero_of_info (P := Tryd.prog) info63).1
 have hi := (zero_of_info (P := Tryd.prog) info63).2
 have hv1 := (zero_of_info (P := Tryd.prog) info61).1
 have hi1 := (zero_of_info (P := Tryd.prog) info61).2
 have n42 := byte_ne (x := c) (k := 42) (by omega) h42
 have n63 := byte_ne (x := c) (k := 63) (by omega) h63
 have n91 := byte_ne (x := c) (k := 91) (by omega) h91
 have hposi : (0 : Int) < (s.size : Int) := by omega
 have hset : (fun x => false || rangeB c c x) = fun x => x == c := by
  funext x
  unfold rangeB
  rw [Bool.false_or, Bool.eq_iff_iff]
  simp only [Bool.and_eq_true, decide_eq_true_eq, beq_iff_eq]
  constructor
  ·intro h; apply UInt8.toNat_inj.1; omega
  ·intro h; subst h; exact ⟨Nat.le_refl _, Nat.le_refl _⟩
 have hadd := fun W h => add_any (w.heap.size + 1) (fun _ => false) c c W h
 rw [hset] at hadd
 generalize hR : (fun x : UInt8 => x == c) = R at *
 have Hadd := Lib.hid hadd
 have hci : (c.toNat : Int) < 256 := by have := UInt8.toNat_lt c; omega
 clear hadd hset h42 h63 h91
 have hVE : elV ⟨false, true, R⟩ = #[.int .u64 (wd R 0), .int .u64 (wd R 1), .int .u64 (wd R 2), .int .u64 (wd R 3), .bool false, .bool true] := rfl
 obtain ⟨E, hE⟩ : ∃ E : El, (⟨false, true, R⟩ : El) = E := ⟨_, rfl⟩
 rw [hE] at hVE ⊢
 have HVE := Lib.hid hVE
 clear hVE hE
 go_enter Tryd.func55, Tryd.ntmps55
 go_wp2
 have g2 := box2_0 w (.cells #[.int .u64 0, .int .u64 0, .int .u64 0, .int .u64 0, .bool false, .bool false] 108) (.cells (Array.replicate 4 (.int .u64 0)) 106)
 have g7 := box2_1 w (.cells #[.int .u64 0, .int .u64 0, .int .u64 0, .int .u64 0, .bool false, .bool false] 108) (.cells (Array.replicate 4 (.int .u64 0)) 106)
 have gb := box2_below w (.cells #[.int .u64 0, .int .u64 0, .int .u64 0, .int .u64 0, .bool false, .bool false] 108) (.cells (Array.replicate 4 (.int .u64 0)) 106)
 generalize (w.alloc (.cells #[.int .u64 0, .int .u64 0, .int .u64 0, .int .u64 0, .bool false, .bool false] 108)).alloc (.cells (Array.replicate 4 (.int .u64 0)) 106) = W0 at *
 rw [zero4] at g7
 have G2 := Lib.hid g2
 have G7 := Lib.hid g7
 have Gb := Lib.hid gb
 clear g2 g7 gb
 have Hadd2 := Lib.hid (Hadd.out W0.drew G7.out)
 clear Hadd
 go_region_with (go_at_call 83; refine Hadd2.out.mono ?_; rintro ed W2 ⟨rfl, h1, h2, h3⟩)
 all_goals
  have h0 := (h2.block w.heap.size (Nat.lt_succ_self _)).trans G2.out
  have Hbl := Lib.hid (Gb.out.drew.trans (h2.mono (Nat.le_succ _)))
  unfold setV at h1
  have hVE := HVE.out
  clear h2 h3 hR Hadd2 HVE
  generalize ((wd R 0 : Nat) : Int) = a0 at *
  generalize ((wd R 1 : Nat) : Int) = a1 at *
  generalize ((wd R 2 : Nat) : Int) = a2 at *
  generalize ((wd R 3 : Nat) : Int) = a3 at *
  have HVE := Lib.hid hVE
  clear hVE
  go_wp2_with (first
   | (refine wpList_load_row rfl 106 _ rfl (w.heap.size + 1) rfl 106 _ _ _ h1 Tryd.underlying106 rfl hi1 ?_)
   | (refine wpList_store_row rfl 108 _ _ rfl w.heap.size #[.int .u64 a0, .int .u64 a1, .int .u64 a2, .int .u64 a3, .bool false, .bool true] rfl rfl 108 _ h0 hi rfl (by simp [Value.oneCell']) ?_))
  exact bodyPost_ret (results_fst (e := E) rfl rfl (by rw [HVE.out]; exact setRow_heap W2 w.heap.size _ _ 108 _ h0)) rfl ⟨rfl, below_setRow Hbl.out (Nat.le_refl _) _⟩
theorem firstElement_any (s : ByteArray) (c : UInt8) (r : List UInt8) (w : World) (hs : s.size ≤ 4096) (hsr : s.data.toList = c :: r) : Calls Tryd.prog 55 #[.string s] w (Bel (fstRes (firstEl c r)) w) := by
 have hpos : 0 < s.size := by rw [Lib.size_eq, hsr]; simp
 have hc : s[0] = c := by
  have := Lib.data_getElem? s 0 hpos
  rw [hsr] at this
  simpa using this.symm
 by_cases h42 : c = 42
 ·subst h42
  exact first_text s 42 true w hs hpos hc (Or.inl ⟨rfl, rfl⟩)
 by_cases h63 : c = 63
 ·subst h63
  exact first_text s 63 false w hs hpos hc (Or.inr ⟨rfl, rfl⟩)
 by_cases h91 : c = 91
 ·subst h91
  exact first_set s r w hs hpos hc hsr
 ·have h : firstEl c r = some (⟨false, true, fun x => x == c⟩, 0) := by
   unfold firstEl
   rw [if_neg h42, if_neg h63, if_neg h91]
  rw [h]
  exact first_self s c w hs hpos hc h42 h63 h91
end Go.Proofs.YtdlchlbngojljaaDoor.Gl
