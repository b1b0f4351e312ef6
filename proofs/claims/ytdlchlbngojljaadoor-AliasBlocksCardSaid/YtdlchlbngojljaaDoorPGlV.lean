/- length: the cases of the recursion. -/
import Derived.Test.YtdlchlbngojljaaDoorPGlT
namespace Go.Proofs.YtdlchlbngojljaaDoor.Gl
open Go.RowKit Go.Maps
set_option maxHeartbeats 1000000 in
set_option maxRecDepth 100000 in
theorem length_ntt (K : SK) (a b : List El) (i k : Nat) (w : World) (hA : Apart K a b) (hs : SAt K a b w) (hi : i ≤ a.length) (hk : k ≤ b.length) (hal : a.length ≤ 4096) (hbl : b.length ≤ 4096)
  {S : List (Nat × Nat)} {D : DataW Unit} (hm : PMap w 3 K.M1 a.length b.length S (gLen a b) D) (hin : (i, k) ∉ S) (hrec : LenRec K a b i k) (hfin : ¬ (i = a.length ∧ k = b.length)) (hsa : starAt a i = false) (hsb : starAt b k = true) {cs : UInt8} {i3 k3 : Nat} (hst : stepP a b i k = some (cs, i3, k3)) :
  Calls Tryd.prog 73 #[.pointer (some ⟨K.Sb, 0, none⟩), .agg #[.int .i64 i, .int .i64 k]] w (LenPost K a b i k w) := by
 have hst0 := LInv.start (i := i) (k := k) hs ⟨S, D, hm⟩
 have hm1 := hm.kept (w' := w.alloc (.cells #[.int .i64 i, .int .i64 k] 132)) (Below.heap_alloc _ _ _ hm.own.lt)
 have s0 := cell_of_row _ K.Sb 0 _ _ _ hst0.s.blk
 have s1 := cell_of_row _ K.Sb 1 _ _ _ hst0.s.blk
 have s2 := cell_of_row _ K.Sb 2 _ _ _ hst0.s.blk
 have c0 := cell_of_row _ w.heap.size 0 _ _ _ hst0.c
 have c1 := cell_of_row _ w.heap.size 1 _ _ _ hst0.c
 simp only [List.getElem?_toArray, List.getElem?_cons_zero, List.getElem?_cons_succ] at s0 s1 s2 c0 c1
 have hcl : ∀ n, (Instr.lookup 126 (.map (some K.M1)) (.agg #[.int .i64 i, .int .i64 k]) true).run Tryd.prog ((w.alloc (.cells #[.int .i64 i, .int .i64 k] 132)).drewN n) = .ok (.tuple #[.int .i64 0, .bool false]) ((w.alloc (.cells #[.int .i64 i, .int .i64 k] 132)).drewN n) := fun n => by
  obtain ⟨c, h1, _, h2⟩ := LenMap.look (hm1.kept (w' := (w.alloc (.cells #[.int .i64 i, .int .i64 k] 132)).drewN n) rfl) hi hk hal hbl
  rw [h2 hin, decide_eq_false hin] at h1
  exact h1
 have HA := Lib.hid hA
 have Hst := Lib.hid hst0
 have Hrec := Lib.hid hrec
 have Hstore := Lib.hid (fun W (h : LenMap K a b W) => LenMap.store h hi hk hal hbl)
 have Hours := Lib.hid (fun W (h : SAt K a b W) => skipOurs_any K a b i k W h (by omega) (by omega) hal)
 have Htheirs := Lib.hid (fun W (h : SAt K a b W) => skipTheirs_any K a b i k W h (by omega) (by omega) hbl)
 have Hstep := Lib.hid (fun W (h : SAt K a b W) => step_some h hi hk hal hbl hst)
 have hsp := stepP_spec a b hst
 have h3le := lenP_le_never a b i3 k3
 unfold never at h3le
 have hval : min (1073741824 : Int) (min (lenP a b i (k + 1) : Nat) ((1 + (lenP a b i3 k3 : Nat)))) = (lenP a b i k : Nat) := by
  rw [lenP_eq a b i k]
  rw [if_neg hfin, hsa, hsb, hst]
  simp only [if_true, Bool.false_eq_true, if_false, never]
  omega
 have hlb := starAt_lt hsb
 have h2le := lenP_le_never a b i (k + 1)
 unfold never at h2le
 simp only [hsa] at Hours
 simp only [hsb] at Htheirs
 have hii : (i : Int) ≤ 4096 := by omega
 have hki : (k : Int) ≤ 4096 := by omega
 have hali : (a.length : Int) ≤ 4096 := by omega
 have hbli : (b.length : Int) ≤ 4096 := by omega
 have Hval := Lib.hid hval
 rcases (show ((i : Int) == (a.length : Int)) = false ∨ (((i : Int) == (a.length : Int)) = true ∧ ((k : Int) == (b.length : Int)) = false) by
  by_cases h1 : i = a.length
  ·right
   refine ⟨by simp [h1], ?_⟩
   rw [beq_eq_false_iff_ne]
   intro h2
   exact hfin ⟨h1, by omega⟩
  ·left
   rw [beq_eq_false_iff_ne]
   omega) with hq | ⟨hq, hq2⟩
 all_goals
  clear hst0 hm1 hs hm hA hrec hst hsa hsb hfin hval
  obtain ⟨ao, bo, ca, cb, ga, gb, Sb, M1, M2⟩ := K
  simp only at s0 s1 s2 hcl
  go_enter Tryd.func73, Tryd.ntmps73
  go_wp2
  generalize w.alloc (.cells #[.int .i64 i, .int .i64 k] 132) = W at *
  go_quiet (fail)
  revert nq
  intro m1
  go_wp2
  go_quiet (fail)
  revert nq
  intro m2
  have L1 := Lib.hid (Hst.out.below HA.out (drewN_below (Below.refl _ _) (m1 + m2)))
  have d0 := cell_of_row _ w.heap.size 0 _ _ _ L1.out.c
  have d1 := cell_of_row _ w.heap.size 1 _ _ _ L1.out.c
  simp only [List.getElem?_toArray, List.getElem?_cons_zero, List.getElem?_cons_succ] at d0 d1
  try rw [World.drewN_drewN]
  clear s0 s1 s2 c0 c1 hcl
  generalize W.drewN (m1 + m2) = V0 at *
  go_wp2_with fail
  refine (Hours.out _ L1.out.s).mono ?_
  rintro e V1 ⟨rfl, hb1⟩
  have L2 := Lib.hid ((L1.out.below HA.out hb1).alloc HA.out (.cells #[.int .i64 ((i : Int) + 1), .int .i64 k] 132))
  clear d0 d1 L1
  have d0 := cell_of_row _ w.heap.size 0 _ _ _ L2.out.c
  have d1 := cell_of_row _ w.heap.size 1 _ _ _ L2.out.c
  simp only [List.getElem?_toArray, List.getElem?_cons_zero, List.getElem?_cons_succ] at d0 d1
  go_wp2_with fail
  refine (Htheirs.out _ L2.out.s).mono ?_
  rintro e V3 ⟨rfl, hb3⟩
  have L4 := Lib.hid ((L2.out.below HA.out hb3).alloc HA.out (.cells #[.int .i64 i, .int .i64 ((k : Int) + 1)] 132))
  clear d0 d1 L2
  have d0 := cell_of_row _ w.heap.size 0 _ _ _ L4.out.c
  have d1 := cell_of_row _ w.heap.size 1 _ _ _ L4.out.c
  simp only [List.getElem?_toArray, List.getElem?_cons_zero, List.getElem?_cons_succ] at d0 d1
  go_wp2_with fail
  refine (Hrec.out i (k + 1) _ _ _ rfl rfl hi (by omega) (by omega) L4.out.s L4.out.m).mono ?_
  rintro e V4 ⟨rfl, hf4, hm4⟩
  have L5 := Lib.hid (L4.out.next HA.out hf4 hm4)
  clear hf4 hm4 d0 d1 L4
  have d0 := cell_of_row _ w.heap.size 0 _ _ _ L5.out.c
  have d1 := cell_of_row _ w.heap.size 1 _ _ _ L5.out.c
  simp only [List.getElem?_toArray, List.getElem?_cons_zero, List.getElem?_cons_succ] at d0 d1
  go_wp2_with fail
  refine (Hstep.out _ L5.out.s).mono ?_
  rintro e V5 ⟨rfl, hb5⟩
  have L6 := Lib.hid ((L5.out.below HA.out hb5).alloc HA.out (.cells #[.int .i64 (i3 : Int), .int .i64 (k3 : Int)] 132))
  clear d0 d1 L5
  have d0 := cell_of_row _ w.heap.size 0 _ _ _ L6.out.c
  have d1 := cell_of_row _ w.heap.size 1 _ _ _ L6.out.c
  simp only [List.getElem?_toArray, List.getElem?_cons_zero, List.getElem?_cons_succ] at d0 d1
  go_wp2_with fail
  refine (Hrec.out i3 k3 _ _ _ rfl rfl (by omega) (by omega) (by omega) L6.out.s L6.out.m).mono ?_
  rintro e V6 ⟨rfl, hf6, hm6⟩
  have L7 := Lib.hid (L6.out.next HA.out hf6 hm6)
  clear hf6 hm6 d0 d1 L6
  have d0 := cell_of_row _ w.heap.size 0 _ _ _ L7.out.c
  have d1 := cell_of_row _ w.heap.size 1 _ _ _ L7.out.c
  simp only [List.getElem?_toArray, List.getElem?_cons_zero, List.getElem?_cons_succ] at d0 d1
  go_wp2
  obtain ⟨w8, hrun, hm8, hf8⟩ := Hstore.out _ (LenMap.below L7.out.m (Below.refl _ _).drew)
  rw [← Hval.out] at hrun
  have s2 := cell_of_row _ Sb 2 _ _ _ L7.out.s.blk
  simp only [List.getElem?_toArray, List.getElem?_cons_zero, List.getElem?_cons_succ] at s2
  go_region
  all_goals
   go_wp2
   go_ret
   exact ⟨by rw [← Hval.out]; rfl, L7.out.fr.drew.trans hf8, hm8⟩
set_option maxHeartbeats 1000000 in
set_option maxRecDepth 100000 in
theorem length_ntn (K : SK) (a b : List El) (i k : Nat) (w : World) (hA : Apart K a b) (hs : SAt K a b w) (hi : i ≤ a.length) (hk : k ≤ b.length) (hal : a.length ≤ 4096) (hbl : b.length ≤ 4096)
  {S : List (Nat × Nat)} {D : DataW Unit} (hm : PMap w 3 K.M1 a.length b.length S (gLen a b) D) (hin : (i, k) ∉ S) (hrec : LenRec K a b i k) (hfin : ¬ (i = a.length ∧ k = b.length)) (hsa : starAt a i = false) (hsb : starAt b k = true) (hst : stepP a b i k = none) :
  Calls Tryd.prog 73 #[.pointer (some ⟨K.Sb, 0, none⟩), .agg #[.int .i64 i, .int .i64 k]] w (LenPost K a b i k w) := by
 have hst0 := LInv.start (i := i) (k := k) hs ⟨S, D, hm⟩
 have hm1 := hm.kept (w' := w.alloc (.cells #[.int .i64 i, .int .i64 k] 132)) (Below.heap_alloc _ _ _ hm.own.lt)
 have s0 := cell_of_row _ K.Sb 0 _ _ _ hst0.s.blk
 have s1 := cell_of_row _ K.Sb 1 _ _ _ hst0.s.blk
 have s2 := cell_of_row _ K.Sb 2 _ _ _ hst0.s.blk
 have c0 := cell_of_row _ w.heap.size 0 _ _ _ hst0.c
 have c1 := cell_of_row _ w.heap.size 1 _ _ _ hst0.c
 simp only [List.getElem?_toArray, List.getElem?_cons_zero, List.getElem?_cons_succ] at s0 s1 s2 c0 c1
 have hcl : ∀ n, (Instr.lookup 126 (.map (some K.M1)) (.agg #[.int .i64 i, .int .i64 k]) true).run Tryd.prog ((w.alloc (.cells #[.int .i64 i, .int .i64 k] 132)).drewN n) = .ok (.tuple #[.int .i64 0, .bool false]) ((w.alloc (.cells #[.int .i64 i, .int .i64 k] 132)).drewN n) := fun n => by
  obtain ⟨c, h1, _, h2⟩ := LenMap.look (hm1.kept (w' := (w.alloc (.cells #[.int .i64 i, .int .i64 k] 132)).drewN n) rfl) hi hk hal hbl
  rw [h2 hin, decide_eq_false hin] at h1
  exact h1
 have HA := Lib.hid hA
 have Hst := Lib.hid hst0
 have Hrec := Lib.hid hrec
 have Hstore := Lib.hid (fun W (h : LenMap K a b W) => LenMap.store h hi hk hal hbl)
 have Hours := Lib.hid (fun W (h : SAt K a b W) => skipOurs_any K a b i k W h (by omega) (by omega) hal)
 have Htheirs := Lib.hid (fun W (h : SAt K a b W) => skipTheirs_any K a b i k W h (by omega) (by omega) hbl)
 have Hstep := Lib.hid (fun W (h : SAt K a b W) => step_none h hi hk hal hbl hst)
 have hval : min (1073741824 : Int) ((lenP a b i (k + 1) : Nat)) = (lenP a b i k : Nat) := by
  rw [lenP_eq a b i k]
  rw [if_neg hfin, hsa, hsb, hst]
  simp only [if_true, Bool.false_eq_true, if_false, never]
  omega
 have hlb := starAt_lt hsb
 have h2le := lenP_le_never a b i (k + 1)
 unfold never at h2le
 simp only [hsa] at Hours
 simp only [hsb] at Htheirs
 have hii : (i : Int) ≤ 4096 := by omega
 have hki : (k : Int) ≤ 4096 := by omega
 have hali : (a.length : Int) ≤ 4096 := by omega
 have hbli : (b.length : Int) ≤ 4096 := by omega
 have Hval := Lib.hid hval
 rcases (show ((i : Int) == (a.length : Int)) = false ∨ (((i : Int) == (a.length : Int)) = true ∧ ((k : Int) == (b.length : Int)) = false) by
  by_cases h1 : i = a.length
  ·right
   refine ⟨by simp [h1], ?_⟩
   rw [beq_eq_false_iff_ne]
   intro h2
   exact hfin ⟨h1, by omega⟩
  ·left
   rw [beq_eq_false_iff_ne]
   omega) with hq | ⟨hq, hq2⟩
 all_goals
  clear hst0 hm1 hs hm hA hrec hst hsa hsb hfin hval
  obtain ⟨ao, bo, ca, cb, ga, gb, Sb, M1, M2⟩ := K
  simp only at s0 s1 s2 hcl
  go_enter Tryd.func73, Tryd.ntmps73
  go_wp2
  generalize w.alloc (.cells #[.int .i64 i, .int .i64 k] 132) = W at *
  go_quiet (fail)
  revert nq
  intro m1
  go_wp2
  go_quiet (fail)
  revert nq
  intro m2
  have L1 := Lib.hid (Hst.out.below HA.out (drewN_below (Below.refl _ _) (m1 + m2)))
  have d0 := cell_of_row _ w.heap.size 0 _ _ _ L1.out.c
  have d1 := cell_of_row _ w.heap.size 1 _ _ _ L1.out.c
  simp only [List.getElem?_toArray, List.getElem?_cons_zero, List.getElem?_cons_succ] at d0 d1
  try rw [World.drewN_drewN]
  clear s0 s1 s2 c0 c1 hcl
  generalize W.drewN (m1 + m2) = V0 at *
  go_wp2_with fail
  refine (Hours.out _ L1.out.s).mono ?_
  rintro e V1 ⟨rfl, hb1⟩
  have L2 := Lib.hid ((L1.out.below HA.out hb1).alloc HA.out (.cells #[.int .i64 ((i : Int) + 1), .int .i64 k] 132))
  clear d0 d1 L1
  have d0 := cell_of_row _ w.heap.size 0 _ _ _ L2.out.c
  have d1 := cell_of_row _ w.heap.size 1 _ _ _ L2.out.c
  simp only [List.getElem?_toArray, List.getElem?_cons_zero, List.getElem?_cons_succ] at d0 d1
  go_wp2_with fail
  refine (Htheirs.out _ L2.out.s).mono ?_
  rintro e V3 ⟨rfl, hb3⟩
  have L4 := Lib.hid ((L2.out.below HA.out hb3).alloc HA.out (.cells #[.int .i64 i, .int .i64 ((k : Int) + 1)] 132))
  clear d0 d1 L2
  have d0 := cell_of_row _ w.heap.size 0 _ _ _ L4.out.c
  have d1 := cell_of_row _ w.heap.size 1 _ _ _ L4.out.c
  simp only [List.getElem?_toArray, List.getElem?_cons_zero, List.getElem?_cons_succ] at d0 d1
  go_wp2_with fail
  refine (Hrec.out i (k + 1) _ _ _ rfl rfl hi (by omega) (by omega) L4.out.s L4.out.m).mono ?_
  rintro e V4 ⟨rfl, hf4, hm4⟩
  have L5 := Lib.hid (L4.out.next HA.out hf4 hm4)
  clear hf4 hm4 d0 d1 L4
  have d0 := cell_of_row _ w.heap.size 0 _ _ _ L5.out.c
  have d1 := cell_of_row _ w.heap.size 1 _ _ _ L5.out.c
  simp only [List.getElem?_toArray, List.getElem?_cons_zero, List.getElem?_cons_succ] at d0 d1
  go_wp2_with fail
  refine (Hstep.out _ L5.out.s).mono ?_
  rintro e V5 ⟨x5, y5, c5, rfl, hb5⟩
  have L6 := Lib.hid ((L5.out.below HA.out hb5).alloc HA.out (.cells #[.int .i64 x5, .int .i64 y5] 132))
  clear d0 d1 L5
  have d0 := cell_of_row _ w.heap.size 0 _ _ _ L6.out.c
  have d1 := cell_of_row _ w.heap.size 1 _ _ _ L6.out.c
  simp only [List.getElem?_toArray, List.getElem?_cons_zero, List.getElem?_cons_succ] at d0 d1
  go_wp2
  obtain ⟨w8, hrun, hm8, hf8⟩ := Hstore.out _ (LenMap.below L6.out.m (Below.refl _ _).drew)
  rw [← Hval.out] at hrun
  have s2 := cell_of_row _ Sb 2 _ _ _ L6.out.s.blk
  simp only [List.getElem?_toArray, List.getElem?_cons_zero, List.getElem?_cons_succ] at s2
  go_region
  all_goals
   go_wp2
   go_ret
   exact ⟨by rw [← Hval.out]; rfl, L6.out.fr.drew.trans hf8, hm8⟩
set_option maxHeartbeats 1000000 in
set_option maxRecDepth 100000 in
theorem length_nnt (K : SK) (a b : List El) (i k : Nat) (w : World) (hA : Apart K a b) (hs : SAt K a b w) (hi : i ≤ a.length) (hk : k ≤ b.length) (hal : a.length ≤ 4096) (hbl : b.length ≤ 4096)
  {S : List (Nat × Nat)} {D : DataW Unit} (hm : PMap w 3 K.M1 a.length b.length S (gLen a b) D) (hin : (i, k) ∉ S) (hrec : LenRec K a b i k) (hfin : ¬ (i = a.length ∧ k = b.length)) (hsa : starAt a i = false) (hsb : starAt b k = false) {cs : UInt8} {i3 k3 : Nat} (hst : stepP a b i k = some (cs, i3, k3)) :
  Calls Tryd.prog 73 #[.pointer (some ⟨K.Sb, 0, none⟩), .agg #[.int .i64 i, .int .i64 k]] w (LenPost K a b i k w) := by
 have hst0 := LInv.start (i := i) (k := k) hs ⟨S, D, hm⟩
 have hm1 := hm.kept (w' := w.alloc (.cells #[.int .i64 i, .int .i64 k] 132)) (Below.heap_alloc _ _ _ hm.own.lt)
 have s0 := cell_of_row _ K.Sb 0 _ _ _ hst0.s.blk
 have s1 := cell_of_row _ K.Sb 1 _ _ _ hst0.s.blk
 have s2 := cell_of_row _ K.Sb 2 _ _ _ hst0.s.blk
 have c0 := cell_of_row _ w.heap.size 0 _ _ _ hst0.c
 have c1 := cell_of_row _ w.heap.size 1 _ _ _ hst0.c
 simp only [List.getElem?_toArray, List.getElem?_cons_zero, List.getElem?_cons_succ] at s0 s1 s2 c0 c1
 have hcl : ∀ n, (Instr.lookup 126 (.map (some K.M1)) (.agg #[.int .i64 i, .int .i64 k]) true).run Tryd.prog ((w.alloc (.cells #[.int .i64 i, .int .i64 k] 132)).drewN n) = .ok (.tuple #[.int .i64 0, .bool false]) ((w.alloc (.cells #[.int .i64 i, .int .i64 k] 132)).drewN n) := fun n => by
  obtain ⟨c, h1, _, h2⟩ := LenMap.look (hm1.kept (w' := (w.alloc (.cells #[.int .i64 i, .int .i64 k] 132)).drewN n) rfl) hi hk hal hbl
  rw [h2 hin, decide_eq_false hin] at h1
  exact h1
 have HA := Lib.hid hA
 have Hst := Lib.hid hst0
 have Hrec := Lib.hid hrec
 have Hstore := Lib.hid (fun W (h : LenMap K a b W) => LenMap.store h hi hk hal hbl)
 have Hours := Lib.hid (fun W (h : SAt K a b W) => skipOurs_any K a b i k W h (by omega) (by omega) hal)
 have Htheirs := Lib.hid (fun W (h : SAt K a b W) => skipTheirs_any K a b i k W h (by omega) (by omega) hbl)
 have Hstep := Lib.hid (fun W (h : SAt K a b W) => step_some h hi hk hal hbl hst)
 have hsp := stepP_spec a b hst
 have h3le := lenP_le_never a b i3 k3
 unfold never at h3le
 have hval : min (1073741824 : Int) ((1 + (lenP a b i3 k3 : Nat))) = (lenP a b i k : Nat) := by
  rw [lenP_eq a b i k]
  rw [if_neg hfin, hsa, hsb, hst]
  simp only [Bool.false_eq_true, if_false, never]
  omega
 simp only [hsa] at Hours
 simp only [hsb] at Htheirs
 have hii : (i : Int) ≤ 4096 := by omega
 have hki : (k : Int) ≤ 4096 := by omega
 have hali : (a.length : Int) ≤ 4096 := by omega
 have hbli : (b.length : Int) ≤ 4096 := by omega
 have Hval := Lib.hid hval
 rcases (show ((i : Int) == (a.length : Int)) = false ∨ (((i : Int) == (a.length : Int)) = true ∧ ((k : Int) == (b.length : Int)) = false) by
  by_cases h1 : i = a.length
  ·right
   refine ⟨by simp [h1], ?_⟩
   rw [beq_eq_false_iff_ne]
   intro h2
   exact hfin ⟨h1, by omega⟩
  ·left
   rw [beq_eq_false_iff_ne]
   omega) with hq | ⟨hq, hq2⟩
 all_goals
  clear hst0 hm1 hs hm hA hrec hst hsa hsb hfin hval
  obtain ⟨ao, bo, ca, cb, ga, gb, Sb, M1, M2⟩ := K
  simp only at s0 s1 s2 hcl
  go_enter Tryd.func73, Tryd.ntmps73
  go_wp2
  generalize w.alloc (.cells #[.int .i64 i, .int .i64 k] 132) = W at *
  go_quiet (fail)
  revert nq
  intro m1
  go_wp2
  go_quiet (fail)
  revert nq
  intro m2
  have L1 := Lib.hid (Hst.out.below HA.out (drewN_below (Below.refl _ _) (m1 + m2)))
  have d0 := cell_of_row _ w.heap.size 0 _ _ _ L1.out.c
  have d1 := cell_of_row _ w.heap.size 1 _ _ _ L1.out.c
  simp only [List.getElem?_toArray, List.getElem?_cons_zero, List.getElem?_cons_succ] at d0 d1
  try rw [World.drewN_drewN]
  clear s0 s1 s2 c0 c1 hcl
  generalize W.drewN (m1 + m2) = V0 at *
  go_wp2_with fail
  refine (Hours.out _ L1.out.s).mono ?_
  rintro e V1 ⟨rfl, hb1⟩
  have L2 := Lib.hid ((L1.out.below HA.out hb1).alloc HA.out (.cells #[.int .i64 ((i : Int) + 1), .int .i64 k] 132))
  clear d0 d1 L1
  have d0 := cell_of_row _ w.heap.size 0 _ _ _ L2.out.c
  have d1 := cell_of_row _ w.heap.size 1 _ _ _ L2.out.c
  simp only [List.getElem?_toArray, List.getElem?_cons_zero, List.getElem?_cons_succ] at d0 d1
  go_wp2_with fail
  refine (Htheirs.out _ L2.out.s).mono ?_
  rintro e V3 ⟨rfl, hb3⟩
  have L4 := Lib.hid ((L2.out.below HA.out hb3).alloc HA.out (.cells #[.int .i64 i, .int .i64 ((k : Int) + 1)] 132))
  clear d0 d1 L2
  have d0 := cell_of_row _ w.heap.size 0 _ _ _ L4.out.c
  have d1 := cell_of_row _ w.heap.size 1 _ _ _ L4.out.c
  simp only [List.getElem?_toArray, List.getElem?_cons_zero, List.getElem?_cons_succ] at d0 d1
  go_wp2_with fail
  refine (Hstep.out _ L4.out.s).mono ?_
  rintro e V5 ⟨rfl, hb5⟩
  have L6 := Lib.hid ((L4.out.below HA.out hb5).alloc HA.out (.cells #[.int .i64 (i3 : Int), .int .i64 (k3 : Int)] 132))
  clear d0 d1 L4
  have d0 := cell_of_row _ w.heap.size 0 _ _ _ L6.out.c
  have d1 := cell_of_row _ w.heap.size 1 _ _ _ L6.out.c
  simp only [List.getElem?_toArray, List.getElem?_cons_zero, List.getElem?_cons_succ] at d0 d1
  go_wp2_with fail
  refine (Hrec.out i3 k3 _ _ _ rfl rfl (by omega) (by omega) (by omega) L6.out.s L6.out.m).mono ?_
  rintro e V6 ⟨rfl, hf6, hm6⟩
  have L7 := Lib.hid (L6.out.next HA.out hf6 hm6)
  clear hf6 hm6 d0 d1 L6
  have d0 := cell_of_row _ w.heap.size 0 _ _ _ L7.out.c
  have d1 := cell_of_row _ w.heap.size 1 _ _ _ L7.out.c
  simp only [List.getElem?_toArray, List.getElem?_cons_zero, List.getElem?_cons_succ] at d0 d1
  go_wp2
  obtain ⟨w8, hrun, hm8, hf8⟩ := Hstore.out _ (LenMap.below L7.out.m (Below.refl _ _).drew)
  rw [← Hval.out] at hrun
  have s2 := cell_of_row _ Sb 2 _ _ _ L7.out.s.blk
  simp only [List.getElem?_toArray, List.getElem?_cons_zero, List.getElem?_cons_succ] at s2
  go_region
  all_goals
   go_wp2
   go_ret
   exact ⟨by rw [← Hval.out]; rfl, L7.out.fr.drew.trans hf8, hm8⟩
set_option maxHeartbeats 1000000 in
set_option maxRecDepth 100000 in
theorem length_nnn (K : SK) (a b : List El) (i k : Nat) (w : World) (hA : Apart K a b) (hs : SAt K a b w) (hi : i ≤ a.length) (hk : k ≤ b.length) (hal : a.length ≤ 4096) (hbl : b.length ≤ 4096)
  {S : List (Nat × Nat)} {D : DataW Unit} (hm : PMap w 3 K.M1 a.length b.length S (gLen a b) D) (hin : (i, k) ∉ S) (hrec : LenRec K a b i k) (hfin : ¬ (i = a.length ∧ k = b.length)) (hsa : starAt a i = false) (hsb : starAt b k = false) (hst : stepP a b i k = none) :
  Calls Tryd.prog 73 #[.pointer (some ⟨K.Sb, 0, none⟩), .agg #[.int .i64 i, .int .i64 k]] w (LenPost K a b i k w) := by
 have hst0 := LInv.start (i := i) (k := k) hs ⟨S, D, hm⟩
 have hm1 := hm.kept (w' := w.alloc (.cells #[.int .i64 i, .int .i64 k] 132)) (Below.heap_alloc _ _ _ hm.own.lt)
 have s0 := cell_of_row _ K.Sb 0 _ _ _ hst0.s.blk
 have s1 := cell_of_row _ K.Sb 1 _ _ _ hst0.s.blk
 have s2 := cell_of_row _ K.Sb 2 _ _ _ hst0.s.blk
 have c0 := cell_of_row _ w.heap.size 0 _ _ _ hst0.c
 have c1 := cell_of_row _ w.heap.size 1 _ _ _ hst0.c
 simp only [List.getElem?_toArray, List.getElem?_cons_zero, List.getElem?_cons_succ] at s0 s1 s2 c0 c1
 have hcl : ∀ n, (Instr.lookup 126 (.map (some K.M1)) (.agg #[.int .i64 i, .int .i64 k]) true).run Tryd.prog ((w.alloc (.cells #[.int .i64 i, .int .i64 k] 132)).drewN n) = .ok (.tuple #[.int .i64 0, .bool false]) ((w.alloc (.cells #[.int .i64 i, .int .i64 k] 132)).drewN n) := fun n => by
  obtain ⟨c, h1, _, h2⟩ := LenMap.look (hm1.kept (w' := (w.alloc (.cells #[.int .i64 i, .int .i64 k] 132)).drewN n) rfl) hi hk hal hbl
  rw [h2 hin, decide_eq_false hin] at h1
  exact h1
 have HA := Lib.hid hA
 have Hst := Lib.hid hst0
 have Hrec := Lib.hid hrec
 have Hstore := Lib.hid (fun W (h : LenMap K a b W) => LenMap.store h hi hk hal hbl)
 have Hours := Lib.hid (fun W (h : SAt K a b W) => skipOurs_any K a b i k W h (by omega) (by omega) hal)
 have Htheirs := Lib.hid (fun W (h : SAt K a b W) => skipTheirs_any K a b i k W h (by omega) (by omega) hbl)
 have Hstep := Lib.hid (fun W (h : SAt K a b W) => step_none h hi hk hal hbl hst)
 have hval : (1073741824 : Int) = (lenP a b i k : Nat) := by
  rw [lenP_eq a b i k]
  rw [if_neg hfin, hsa, hsb, hst]
  simp only [Bool.false_eq_true, if_false, never]
  omega
 simp only [hsa] at Hours
 simp only [hsb] at Htheirs
 have hii : (i : Int) ≤ 4096 := by omega
 have hki : (k : Int) ≤ 4096 := by omega
 have hali : (a.length : Int) ≤ 4096 := by omega
 have hbli : (b.length : Int) ≤ 4096 := by omega
 have Hval := Lib.hid hval
 rcases (show ((i : Int) == (a.length : Int)) = false ∨ (((i : Int) == (a.length : Int)) = true ∧ ((k : Int) == (b.length : Int)) = false) by
  by_cases h1 : i = a.length
  ·right
   refine ⟨by simp [h1], ?_⟩
   rw [beq_eq_false_iff_ne]
   intro h2
   exact hfin ⟨h1, by omega⟩
  ·left
   rw [beq_eq_false_iff_ne]
   omega) with hq | ⟨hq, hq2⟩
 all_goals
  clear hst0 hm1 hs hm hA hrec hst hsa hsb hfin hval
  obtain ⟨ao, bo, ca, cb, ga, gb, Sb, M1, M2⟩ := K
  simp only at s0 s1 s2 hcl
  go_enter Tryd.func73, Tryd.ntmps73
  go_wp2
  generalize w.alloc (.cells #[.int .i64 i, .int .i64 k] 132) = W at *
  go_quiet (fail)
  revert nq
  intro m1
  go_wp2
  go_quiet (fail)
  revert nq
  intro m2
  have L1 := Lib.hid (Hst.out.below HA.out (drewN_below (Below.refl _ _) (m1 + m2)))
  have d0 := cell_of_row _ w.heap.size 0 _ _ _ L1.out.c
  have d1 := cell_of_row _ w.heap.size 1 _ _ _ L1.out.c
  simp only [List.getElem?_toArray, List.getElem?_cons_zero, List.getElem?_cons_succ] at d0 d1
  try rw [World.drewN_drewN]
  clear s0 s1 s2 c0 c1 hcl
  generalize W.drewN (m1 + m2) = V0 at *
  go_wp2_with fail
  refine (Hours.out _ L1.out.s).mono ?_
  rintro e V1 ⟨rfl, hb1⟩
  have L2 := Lib.hid ((L1.out.below HA.out hb1).alloc HA.out (.cells #[.int .i64 ((i : Int) + 1), .int .i64 k] 132))
  clear d0 d1 L1
  have d0 := cell_of_row _ w.heap.size 0 _ _ _ L2.out.c
  have d1 := cell_of_row _ w.heap.size 1 _ _ _ L2.out.c
  simp only [List.getElem?_toArray, List.getElem?_cons_zero, List.getElem?_cons_succ] at d0 d1
  go_wp2_with fail
  refine (Htheirs.out _ L2.out.s).mono ?_
  rintro e V3 ⟨rfl, hb3⟩
  have L4 := Lib.hid ((L2.out.below HA.out hb3).alloc HA.out (.cells #[.int .i64 i, .int .i64 ((k : Int) + 1)] 132))
  clear d0 d1 L2
  have d0 := cell_of_row _ w.heap.size 0 _ _ _ L4.out.c
  have d1 := cell_of_row _ w.heap.size 1 _ _ _ L4.out.c
  simp only [List.getElem?_toArray, List.getElem?_cons_zero, List.getElem?_cons_succ] at d0 d1
  go_wp2_with fail
  refine (Hstep.out _ L4.out.s).mono ?_
  rintro e V5 ⟨x5, y5, c5, rfl, hb5⟩
  have L6 := Lib.hid ((L4.out.below HA.out hb5).alloc HA.out (.cells #[.int .i64 x5, .int .i64 y5] 132))
  clear d0 d1 L4
  have d0 := cell_of_row _ w.heap.size 0 _ _ _ L6.out.c
  have d1 := cell_of_row _ w.heap.size 1 _ _ _ L6.out.c
  simp only [List.getElem?_toArray, List.getElem?_cons_zero, List.getElem?_cons_succ] at d0 d1
  go_wp2
  obtain ⟨w8, hrun, hm8, hf8⟩ := Hstore.out _ (LenMap.below L6.out.m (Below.refl _ _).drew)
  rw [← Hval.out] at hrun
  have s2 := cell_of_row _ Sb 2 _ _ _ L6.out.s.blk
  simp only [List.getElem?_toArray, List.getElem?_cons_zero, List.getElem?_cons_succ] at s2
  go_region
  all_goals
   go_wp2
   go_ret
   exact ⟨by rw [← Hval.out]; rfl, L6.out.fr.drew.trans hf8, hm8⟩
end Go.Proofs.YtdlchlbngojljaaDoor.Gl
