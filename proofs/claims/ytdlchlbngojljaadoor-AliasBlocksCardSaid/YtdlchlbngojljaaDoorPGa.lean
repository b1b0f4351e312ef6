/- gather: the walks with stars. gather: the walks with stars. gather: the walks with stars. gather: the walks with stars. gather, whatever the pair. -/
import Derived.Test.YtdlchlbngojljaaDoorPGz
namespace Go.Proofs.YtdlchlbngojljaaDoor.Gl
open Go.RowKit Go.Maps
set_option maxHeartbeats 2000000 in
set_option maxRecDepth 100000 in
theorem gather_nn (K : SK) (a b : List El) (B left i k : Nat) (w : World) (S F : List (Nat × Nat)) (v : Value) (hA : Apart K a b) (hL : Low K a b B) (hs : SAt K a b w) (hm : LenMap K a b w) (hn : SeenMap K a b S w) (hr : w.ownsRow B 132 2 v F.length (pairsV F)) (hB : B ≤ w.heap.size) (hFS : F.length ≤ S.length) (hi : i ≤ a.length) (hk : k ≤ b.length) (hal : a.length ≤ 4096) (hbl : b.length ≤ 4096) (_hleft : left ≤ 1073741824) (hin : (i, k) ∉ S) (heq : lenP a b i k = left) (hrec : GRec K a b B left i k) (hsa : starAt a i = false) (hsb : starAt b k = false) :
  Calls Tryd.prog 74 #[.pointer (some ⟨K.Sb, 0, none⟩), v, .agg #[.int .i64 i, .int .i64 k], .int .i64 left] w (GPost K a b B left i k w S F v) := by
 obtain ⟨i0, hi0, hz0, hz1, hz2⟩ := info_parts info83b
 have hst := GInv.start (i := i) (k := k) hs hm hn hr hB
 have s3 := cell_of_row _ K.Sb 3 _ _ _ hst.s.blk
 have d0 := cell_of_row _ w.heap.size 0 _ _ _ hst.c
 have d1 := cell_of_row _ w.heap.size 1 _ _ _ hst.c
 simp only [List.getElem?_toArray, List.getElem?_cons_zero, List.getElem?_cons_succ] at s3 d0 d1
 have hlook : ∀ n, (Instr.lookup 127 (.map (some K.M2)) (.agg #[.int .i64 i, .int .i64 k]) false).run Tryd.prog ((w.alloc (.cells #[.int .i64 i, .int .i64 k] 132)).drewN n) = .ok (.bool (decide ((i, k) ∈ S))) ((w.alloc (.cells #[.int .i64 i, .int .i64 k] 132)).drewN n) := fun n => (hst.n.kept (W' := (w.alloc (.cells #[.int .i64 i, .int .i64 k] 132)).drewN n) rfl).look hi hk hal hbl
 have hlook1 : (Instr.lookup 127 (.map (some K.M2)) (.agg #[.int .i64 i, .int .i64 k]) false).run Tryd.prog (w.alloc (.cells #[.int .i64 i, .int .i64 k] 132)).drew = .ok (.bool (decide ((i, k) ∈ S))) (w.alloc (.cells #[.int .i64 i, .int .i64 k] 132)).drew := (hst.n.kept (W' := (w.alloc (.cells #[.int .i64 i, .int .i64 k] 132)).drew) rfl).look hi hk hal hbl
 have Hst := Lib.hid hst
 have HA := Lib.hid hA
 have HL := Lib.hid hL
 have Hlen := Lib.hid (fun W (h1 : SAt K a b W) (h2 : LenMap K a b W) => length_any K a b i k W hA h1 h2 hi hk hal hbl i k rfl rfl)
 rw [decide_eq_false hin] at hlook1
 have hG : gatherB a b left S i k = (i, k) :: ([] ++ []) := by
  rw [gatherB_eq, if_neg (by rw [not_or]; exact ⟨hin, fun h => h heq⟩)]
  simp only [hsa, hsb, Bool.false_eq_true, if_false]
 have HG := Lib.hid hG
 have hpost : ∀ W e w', LenPost K a b i k W e w' → e = .returned (.int .i64 (left : Nat)) ∧ Fr (· = K.M1) W w' ∧ LenMap K a b w' := fun W e w' h => by obtain ⟨h1, h2, h3⟩ := h; exact ⟨by rw [← heq]; exact h1, h2, h3⟩
 have Hpost := Lib.hid hpost
 have hq : (((left : Nat) : Int) != ((left : Nat) : Int)) = false := by simp
 have Hrec := Lib.hid hrec
 have Hstore := Lib.hid (fun W (h : SeenMap K a b S W) => SeenMap.store h hi hk hal hbl hin)
 have Hours := Lib.hid (fun W (h : SAt K a b W) => skipOurs_any K a b i k W h (by omega) (by omega) hal)
 have Htheirs := Lib.hid (fun W (h : SAt K a b W) => skipTheirs_any K a b i k W h (by omega) (by omega) hbl)
 simp only [hsa] at Hours
 simp only [hsb] at Htheirs
 have hii : (i : Int) ≤ 4096 := by omega
 have hki : (k : Int) ≤ 4096 := by omega
 have hssz := hn.size hal hbl
 clear hG hst hs hm hn hr hA hL hlook hpost hrec hin heq hsa hsb
 obtain ⟨ao, bo, ca, cb, ga, gb, Sb, M1, M2⟩ := K
 simp only at s3 hlook1
 go_enter Tryd.func74, Tryd.ntmps74
 go_wp2
 generalize w.alloc (.cells #[.int .i64 i, .int .i64 k] 132) = W at *
 go_region_with (go_at_call 73; refine (Hlen.out _ (Hst.out.below HA.out HL.out (Below.refl _ _).drew).s (Hst.out.below HA.out HL.out (Below.refl _ _).drew).m).mono ?_; rintro e W2 hp; obtain ⟨rfl, hf2, hm2⟩ := Hpost.out _ _ _ hp; clear hp)
 all_goals
  have L2 := Lib.hid (((Hst.out.below HA.out HL.out (Below.refl _ _).drew).length HA.out HL.out hf2 hm2).below HA.out HL.out (Below.refl _ _).drew)
  clear hf2 hm2 hlook1 s3 d0 d1
  go_wp2
  obtain ⟨w3, hrun, hn3, hf3⟩ := Hstore.out _ L2.out.n
  have L3 := Lib.hid (L2.out.seen HA.out HL.out hf3 hn3)
  have s3 : W2.cell? ⟨Sb, 3, none⟩ = _ := cell_of_row _ Sb 3 _ _ _ L2.out.s.blk
  have d0 : W2.cell? ⟨w.heap.size, 0, none⟩ = _ := cell_of_row _ w.heap.size 0 _ _ _ L2.out.c
  have d1 : W2.cell? ⟨w.heap.size, 1, none⟩ = _ := cell_of_row _ w.heap.size 1 _ _ _ L2.out.c
  simp only [List.getElem?_toArray, List.getElem?_cons_zero, List.getElem?_cons_succ] at s3 d0 d1
  clear hn3 hf3
  have e0 : w3.cell? ⟨w.heap.size, 0, none⟩ = _ := cell_of_row _ w.heap.size 0 _ _ _ L3.out.c
  have e1 : w3.cell? ⟨w.heap.size, 1, none⟩ = _ := cell_of_row _ w.heap.size 1 _ _ _ L3.out.c
  simp only [List.getElem?_toArray, List.getElem?_cons_zero, List.getElem?_cons_succ] at e0 e1
  go_region
  all_goals
   clear hrun s3 d0 d1 L2
   have d0 := e0
   have d1 := e1
   clear e0 e1
   have hBw := Nat.le_trans L3.out.lb L3.out.fr.size
   go_wp2_with (at_builtin; refine wpList_append_own_at _ rfl _ _ 133 rfl B 132 i0 _ 2 16 Tryd.underlying133 hi0 hz0 hz1 hz2 rfl (by decide) _ _ _ rfl (L3.out.row.alloc _) ⟨w3.heap.size, 0, none⟩ 1 1 [.int .i64 (i : Int), .int .i64 (k : Int)] rfl rfl (cell_six_new _ _ _) (by simp [Value.oneCell']) (by unfold maxLen; omega) (by omega) (by simp; omega) ?_; intro v1 w4 hown hgrow _ hloc; have L4 := Lib.hid (L3.out.append HA.out HL.out (z := (i, k)) hown hgrow hloc); clear hown hgrow hloc d0 d1 L3; have d0 := cell_of_row _ w.heap.size 0 _ _ _ L4.out.c; have d1 := cell_of_row _ w.heap.size 1 _ _ _ L4.out.c; simp only [List.getElem?_toArray, List.getElem?_cons_zero, List.getElem?_cons_succ] at d0 d1)
   refine (Hours.out _ L4.out.s).mono ?_
   rintro e V1 ⟨rfl, hb1⟩
   have L5 := Lib.hid ((L4.out.below HA.out HL.out hb1).alloc HA.out HL.out (.cells #[.int .i64 ((i : Int) + 1), .int .i64 k] 132))
   clear d0 d1 L4 hb1
   have d0 := cell_of_row _ w.heap.size 0 _ _ _ L5.out.c
   have d1 := cell_of_row _ w.heap.size 1 _ _ _ L5.out.c
   simp only [List.getElem?_toArray, List.getElem?_cons_zero, List.getElem?_cons_succ] at d0 d1
   go_wp2_with fail
   refine (Htheirs.out _ L5.out.s).mono ?_
   rintro e V3 ⟨rfl, hb3⟩
   have L7 := Lib.hid ((L5.out.below HA.out HL.out hb3).alloc HA.out HL.out (.cells #[.int .i64 i, .int .i64 ((k : Int) + 1)] 132))
   clear d0 d1 L5 hb3
   have d0 := cell_of_row _ w.heap.size 0 _ _ _ L7.out.c
   have d1 := cell_of_row _ w.heap.size 1 _ _ _ L7.out.c
   simp only [List.getElem?_toArray, List.getElem?_cons_zero, List.getElem?_cons_succ] at d0 d1
   go_wp2
   go_ret
   exact GInv.done (by simpa [List.append_assoc] using L7.out) HG.out
end Go.Proofs.YtdlchlbngojljaaDoor.Gl
namespace Go.Proofs.YtdlchlbngojljaaDoor.Gl
open Go.RowKit Go.Maps
set_option maxHeartbeats 2000000 in
set_option maxRecDepth 100000 in
theorem gather_tn (K : SK) (a b : List El) (B left i k : Nat) (w : World) (S F : List (Nat × Nat)) (v : Value) (hA : Apart K a b) (hL : Low K a b B) (hs : SAt K a b w) (hm : LenMap K a b w) (hn : SeenMap K a b S w) (hr : w.ownsRow B 132 2 v F.length (pairsV F)) (hB : B ≤ w.heap.size) (hFS : F.length ≤ S.length) (hi : i ≤ a.length) (hk : k ≤ b.length) (hal : a.length ≤ 4096) (hbl : b.length ≤ 4096) (_hleft : left ≤ 1073741824) (hin : (i, k) ∉ S) (heq : lenP a b i k = left) (hrec : GRec K a b B left i k) (hsa : starAt a i = true) (hsb : starAt b k = false) :
  Calls Tryd.prog 74 #[.pointer (some ⟨K.Sb, 0, none⟩), v, .agg #[.int .i64 i, .int .i64 k], .int .i64 left] w (GPost K a b B left i k w S F v) := by
 obtain ⟨i0, hi0, hz0, hz1, hz2⟩ := info_parts info83b
 have hst := GInv.start (i := i) (k := k) hs hm hn hr hB
 have s3 := cell_of_row _ K.Sb 3 _ _ _ hst.s.blk
 have d0 := cell_of_row _ w.heap.size 0 _ _ _ hst.c
 have d1 := cell_of_row _ w.heap.size 1 _ _ _ hst.c
 simp only [List.getElem?_toArray, List.getElem?_cons_zero, List.getElem?_cons_succ] at s3 d0 d1
 have hlook : ∀ n, (Instr.lookup 127 (.map (some K.M2)) (.agg #[.int .i64 i, .int .i64 k]) false).run Tryd.prog ((w.alloc (.cells #[.int .i64 i, .int .i64 k] 132)).drewN n) = .ok (.bool (decide ((i, k) ∈ S))) ((w.alloc (.cells #[.int .i64 i, .int .i64 k] 132)).drewN n) := fun n => (hst.n.kept (W' := (w.alloc (.cells #[.int .i64 i, .int .i64 k] 132)).drewN n) rfl).look hi hk hal hbl
 have hlook1 : (Instr.lookup 127 (.map (some K.M2)) (.agg #[.int .i64 i, .int .i64 k]) false).run Tryd.prog (w.alloc (.cells #[.int .i64 i, .int .i64 k] 132)).drew = .ok (.bool (decide ((i, k) ∈ S))) (w.alloc (.cells #[.int .i64 i, .int .i64 k] 132)).drew := (hst.n.kept (W' := (w.alloc (.cells #[.int .i64 i, .int .i64 k] 132)).drew) rfl).look hi hk hal hbl
 have Hst := Lib.hid hst
 have HA := Lib.hid hA
 have HL := Lib.hid hL
 have Hlen := Lib.hid (fun W (h1 : SAt K a b W) (h2 : LenMap K a b W) => length_any K a b i k W hA h1 h2 hi hk hal hbl i k rfl rfl)
 rw [decide_eq_false hin] at hlook1
 have hG : gatherB a b left S i k = (i, k) :: (gatherB a b left (S ++ [(i, k)]) (i + 1) k ++ []) := by
  rw [gatherB_eq, if_neg (by rw [not_or]; exact ⟨hin, fun h => h heq⟩)]
  simp only [hsa, hsb, if_true, Bool.false_eq_true, if_false]
 have HG := Lib.hid hG
 have hpost : ∀ W e w', LenPost K a b i k W e w' → e = .returned (.int .i64 (left : Nat)) ∧ Fr (· = K.M1) W w' ∧ LenMap K a b w' := fun W e w' h => by obtain ⟨h1, h2, h3⟩ := h; exact ⟨by rw [← heq]; exact h1, h2, h3⟩
 have Hpost := Lib.hid hpost
 have hq : (((left : Nat) : Int) != ((left : Nat) : Int)) = false := by simp
 have Hrec := Lib.hid hrec
 have Hstore := Lib.hid (fun W (h : SeenMap K a b S W) => SeenMap.store h hi hk hal hbl hin)
 have Hours := Lib.hid (fun W (h : SAt K a b W) => skipOurs_any K a b i k W h (by omega) (by omega) hal)
 have Htheirs := Lib.hid (fun W (h : SAt K a b W) => skipTheirs_any K a b i k W h (by omega) (by omega) hbl)
 simp only [hsa] at Hours
 simp only [hsb] at Htheirs
 have hla := starAt_lt hsa
 have hii : (i : Int) ≤ 4096 := by omega
 have hki : (k : Int) ≤ 4096 := by omega
 have hssz := hn.size hal hbl
 clear hG hst hs hm hn hr hA hL hlook hpost hrec hin heq hsa hsb
 obtain ⟨ao, bo, ca, cb, ga, gb, Sb, M1, M2⟩ := K
 simp only at s3 hlook1
 go_enter Tryd.func74, Tryd.ntmps74
 go_wp2
 generalize w.alloc (.cells #[.int .i64 i, .int .i64 k] 132) = W at *
 go_region_with (go_at_call 73; refine (Hlen.out _ (Hst.out.below HA.out HL.out (Below.refl _ _).drew).s (Hst.out.below HA.out HL.out (Below.refl _ _).drew).m).mono ?_; rintro e W2 hp; obtain ⟨rfl, hf2, hm2⟩ := Hpost.out _ _ _ hp; clear hp)
 all_goals
  have L2 := Lib.hid (((Hst.out.below HA.out HL.out (Below.refl _ _).drew).length HA.out HL.out hf2 hm2).below HA.out HL.out (Below.refl _ _).drew)
  clear hf2 hm2 hlook1 s3 d0 d1
  go_wp2
  obtain ⟨w3, hrun, hn3, hf3⟩ := Hstore.out _ L2.out.n
  have L3 := Lib.hid (L2.out.seen HA.out HL.out hf3 hn3)
  have s3 : W2.cell? ⟨Sb, 3, none⟩ = _ := cell_of_row _ Sb 3 _ _ _ L2.out.s.blk
  have d0 : W2.cell? ⟨w.heap.size, 0, none⟩ = _ := cell_of_row _ w.heap.size 0 _ _ _ L2.out.c
  have d1 : W2.cell? ⟨w.heap.size, 1, none⟩ = _ := cell_of_row _ w.heap.size 1 _ _ _ L2.out.c
  simp only [List.getElem?_toArray, List.getElem?_cons_zero, List.getElem?_cons_succ] at s3 d0 d1
  clear hn3 hf3
  have e0 : w3.cell? ⟨w.heap.size, 0, none⟩ = _ := cell_of_row _ w.heap.size 0 _ _ _ L3.out.c
  have e1 : w3.cell? ⟨w.heap.size, 1, none⟩ = _ := cell_of_row _ w.heap.size 1 _ _ _ L3.out.c
  simp only [List.getElem?_toArray, List.getElem?_cons_zero, List.getElem?_cons_succ] at e0 e1
  go_region
  all_goals
   clear hrun s3 d0 d1 L2
   have d0 := e0
   have d1 := e1
   clear e0 e1
   have hBw := Nat.le_trans L3.out.lb L3.out.fr.size
   go_wp2_with (at_builtin; refine wpList_append_own_at _ rfl _ _ 133 rfl B 132 i0 _ 2 16 Tryd.underlying133 hi0 hz0 hz1 hz2 rfl (by decide) _ _ _ rfl (L3.out.row.alloc _) ⟨w3.heap.size, 0, none⟩ 1 1 [.int .i64 (i : Int), .int .i64 (k : Int)] rfl rfl (cell_six_new _ _ _) (by simp [Value.oneCell']) (by unfold maxLen; omega) (by omega) (by simp; omega) ?_; intro v1 w4 hown hgrow _ hloc; have L4 := Lib.hid (L3.out.append HA.out HL.out (z := (i, k)) hown hgrow hloc); clear hown hgrow hloc d0 d1 L3; have d0 := cell_of_row _ w.heap.size 0 _ _ _ L4.out.c; have d1 := cell_of_row _ w.heap.size 1 _ _ _ L4.out.c; simp only [List.getElem?_toArray, List.getElem?_cons_zero, List.getElem?_cons_succ] at d0 d1)
   refine (Hours.out _ L4.out.s).mono ?_
   rintro e V1 ⟨rfl, hb1⟩
   have L5 := Lib.hid ((L4.out.below HA.out HL.out hb1).alloc HA.out HL.out (.cells #[.int .i64 ((i : Int) + 1), .int .i64 k] 132))
   clear d0 d1 L4 hb1
   have d0 := cell_of_row _ w.heap.size 0 _ _ _ L5.out.c
   have d1 := cell_of_row _ w.heap.size 1 _ _ _ L5.out.c
   simp only [List.getElem?_toArray, List.getElem?_cons_zero, List.getElem?_cons_succ] at d0 d1
   go_wp2_with fail
   refine (Hrec.out (i + 1) k _ _ _ _ _ _ rfl rfl (by omega) hk (by omega) L5.out.s L5.out.m L5.out.n L5.out.row (Nat.le_trans L5.out.lb L5.out.fr.size) (by simp; omega)).mono ?_
   rintro e V2 hp
   obtain ⟨v2, rfl, L6⟩ := L5.out.recur HA.out HL.out hp
   have L6 := Lib.hid L6
   clear hp d0 d1 L5
   have d0 := cell_of_row _ w.heap.size 0 _ _ _ L6.out.c
   have d1 := cell_of_row _ w.heap.size 1 _ _ _ L6.out.c
   simp only [List.getElem?_toArray, List.getElem?_cons_zero, List.getElem?_cons_succ] at d0 d1
   go_wp2_with fail
   refine (Htheirs.out _ L6.out.s).mono ?_
   rintro e V3 ⟨rfl, hb3⟩
   have L7 := Lib.hid ((L6.out.below HA.out HL.out hb3).alloc HA.out HL.out (.cells #[.int .i64 i, .int .i64 ((k : Int) + 1)] 132))
   clear d0 d1 L6 hb3
   have d0 := cell_of_row _ w.heap.size 0 _ _ _ L7.out.c
   have d1 := cell_of_row _ w.heap.size 1 _ _ _ L7.out.c
   simp only [List.getElem?_toArray, List.getElem?_cons_zero, List.getElem?_cons_succ] at d0 d1
   go_wp2
   go_ret
   exact GInv.done (by simpa [List.append_assoc] using L7.out) HG.out
end Go.Proofs.YtdlchlbngojljaaDoor.Gl
namespace Go.Proofs.YtdlchlbngojljaaDoor.Gl
open Go.RowKit Go.Maps
set_option maxHeartbeats 2000000 in
set_option maxRecDepth 100000 in
theorem gather_nt (K : SK) (a b : List El) (B left i k : Nat) (w : World) (S F : List (Nat × Nat)) (v : Value) (hA : Apart K a b) (hL : Low K a b B) (hs : SAt K a b w) (hm : LenMap K a b w) (hn : SeenMap K a b S w) (hr : w.ownsRow B 132 2 v F.length (pairsV F)) (hB : B ≤ w.heap.size) (hFS : F.length ≤ S.length) (hi : i ≤ a.length) (hk : k ≤ b.length) (hal : a.length ≤ 4096) (hbl : b.length ≤ 4096) (_hleft : left ≤ 1073741824) (hin : (i, k) ∉ S) (heq : lenP a b i k = left) (hrec : GRec K a b B left i k) (hsa : starAt a i = false) (hsb : starAt b k = true) :
  Calls Tryd.prog 74 #[.pointer (some ⟨K.Sb, 0, none⟩), v, .agg #[.int .i64 i, .int .i64 k], .int .i64 left] w (GPost K a b B left i k w S F v) := by
 obtain ⟨i0, hi0, hz0, hz1, hz2⟩ := info_parts info83b
 have hst := GInv.start (i := i) (k := k) hs hm hn hr hB
 have s3 := cell_of_row _ K.Sb 3 _ _ _ hst.s.blk
 have d0 := cell_of_row _ w.heap.size 0 _ _ _ hst.c
 have d1 := cell_of_row _ w.heap.size 1 _ _ _ hst.c
 simp only [List.getElem?_toArray, List.getElem?_cons_zero, List.getElem?_cons_succ] at s3 d0 d1
 have hlook : ∀ n, (Instr.lookup 127 (.map (some K.M2)) (.agg #[.int .i64 i, .int .i64 k]) false).run Tryd.prog ((w.alloc (.cells #[.int .i64 i, .int .i64 k] 132)).drewN n) = .ok (.bool (decide ((i, k) ∈ S))) ((w.alloc (.cells #[.int .i64 i, .int .i64 k] 132)).drewN n) := fun n => (hst.n.kept (W' := (w.alloc (.cells #[.int .i64 i, .int .i64 k] 132)).drewN n) rfl).look hi hk hal hbl
 have hlook1 : (Instr.lookup 127 (.map (some K.M2)) (.agg #[.int .i64 i, .int .i64 k]) false).run Tryd.prog (w.alloc (.cells #[.int .i64 i, .int .i64 k] 132)).drew = .ok (.bool (decide ((i, k) ∈ S))) (w.alloc (.cells #[.int .i64 i, .int .i64 k] 132)).drew := (hst.n.kept (W' := (w.alloc (.cells #[.int .i64 i, .int .i64 k] 132)).drew) rfl).look hi hk hal hbl
 have Hst := Lib.hid hst
 have HA := Lib.hid hA
 have HL := Lib.hid hL
 have Hlen := Lib.hid (fun W (h1 : SAt K a b W) (h2 : LenMap K a b W) => length_any K a b i k W hA h1 h2 hi hk hal hbl i k rfl rfl)
 rw [decide_eq_false hin] at hlook1
 have hG : gatherB a b left S i k = (i, k) :: ([] ++ gatherB a b left (S ++ [(i, k)] ++ []) i (k + 1)) := by
  rw [gatherB_eq, if_neg (by rw [not_or]; exact ⟨hin, fun h => h heq⟩)]
  simp only [hsa, hsb, if_true, Bool.false_eq_true, if_false]
 have HG := Lib.hid hG
 have hpost : ∀ W e w', LenPost K a b i k W e w' → e = .returned (.int .i64 (left : Nat)) ∧ Fr (· = K.M1) W w' ∧ LenMap K a b w' := fun W e w' h => by obtain ⟨h1, h2, h3⟩ := h; exact ⟨by rw [← heq]; exact h1, h2, h3⟩
 have Hpost := Lib.hid hpost
 have hq : (((left : Nat) : Int) != ((left : Nat) : Int)) = false := by simp
 have Hrec := Lib.hid hrec
 have Hstore := Lib.hid (fun W (h : SeenMap K a b S W) => SeenMap.store h hi hk hal hbl hin)
 have Hours := Lib.hid (fun W (h : SAt K a b W) => skipOurs_any K a b i k W h (by omega) (by omega) hal)
 have Htheirs := Lib.hid (fun W (h : SAt K a b W) => skipTheirs_any K a b i k W h (by omega) (by omega) hbl)
 simp only [hsa] at Hours
 simp only [hsb] at Htheirs
 have hlb := starAt_lt hsb
 have hii : (i : Int) ≤ 4096 := by omega
 have hki : (k : Int) ≤ 4096 := by omega
 have hssz := hn.size hal hbl
 clear hG hst hs hm hn hr hA hL hlook hpost hrec hin heq hsa hsb
 obtain ⟨ao, bo, ca, cb, ga, gb, Sb, M1, M2⟩ := K
 simp only at s3 hlook1
 go_enter Tryd.func74, Tryd.ntmps74
 go_wp2
 generalize w.alloc (.cells #[.int .i64 i, .int .i64 k] 132) = W at *
 go_region_with (go_at_call 73; refine (Hlen.out _ (Hst.out.below HA.out HL.out (Below.refl _ _).drew).s (Hst.out.below HA.out HL.out (Below.refl _ _).drew).m).mono ?_; rintro e W2 hp; obtain ⟨rfl, hf2, hm2⟩ := Hpost.out _ _ _ hp; clear hp)
 all_goals
  have L2 := Lib.hid (((Hst.out.below HA.out HL.out (Below.refl _ _).drew).length HA.out HL.out hf2 hm2).below HA.out HL.out (Below.refl _ _).drew)
  clear hf2 hm2 hlook1 s3 d0 d1
  go_wp2
  obtain ⟨w3, hrun, hn3, hf3⟩ := Hstore.out _ L2.out.n
  have L3 := Lib.hid (L2.out.seen HA.out HL.out hf3 hn3)
  have s3 : W2.cell? ⟨Sb, 3, none⟩ = _ := cell_of_row _ Sb 3 _ _ _ L2.out.s.blk
  have d0 : W2.cell? ⟨w.heap.size, 0, none⟩ = _ := cell_of_row _ w.heap.size 0 _ _ _ L2.out.c
  have d1 : W2.cell? ⟨w.heap.size, 1, none⟩ = _ := cell_of_row _ w.heap.size 1 _ _ _ L2.out.c
  simp only [List.getElem?_toArray, List.getElem?_cons_zero, List.getElem?_cons_succ] at s3 d0 d1
  clear hn3 hf3
  have e0 : w3.cell? ⟨w.heap.size, 0, none⟩ = _ := cell_of_row _ w.heap.size 0 _ _ _ L3.out.c
  have e1 : w3.cell? ⟨w.heap.size, 1, none⟩ = _ := cell_of_row _ w.heap.size 1 _ _ _ L3.out.c
  simp only [List.getElem?_toArray, List.getElem?_cons_zero, List.getElem?_cons_succ] at e0 e1
  go_region
  all_goals
   clear hrun s3 d0 d1 L2
   have d0 := e0
   have d1 := e1
   clear e0 e1
   have hBw := Nat.le_trans L3.out.lb L3.out.fr.size
   go_wp2_with (at_builtin; refine wpList_append_own_at _ rfl _ _ 133 rfl B 132 i0 _ 2 16 Tryd.underlying133 hi0 hz0 hz1 hz2 rfl (by decide) _ _ _ rfl (L3.out.row.alloc _) ⟨w3.heap.size, 0, none⟩ 1 1 [.int .i64 (i : Int), .int .i64 (k : Int)] rfl rfl (cell_six_new _ _ _) (by simp [Value.oneCell']) (by unfold maxLen; omega) (by omega) (by simp; omega) ?_; intro v1 w4 hown hgrow _ hloc; have L4 := Lib.hid (L3.out.append HA.out HL.out (z := (i, k)) hown hgrow hloc); clear hown hgrow hloc d0 d1 L3; have d0 := cell_of_row _ w.heap.size 0 _ _ _ L4.out.c; have d1 := cell_of_row _ w.heap.size 1 _ _ _ L4.out.c; simp only [List.getElem?_toArray, List.getElem?_cons_zero, List.getElem?_cons_succ] at d0 d1)
   refine (Hours.out _ L4.out.s).mono ?_
   rintro e V1 ⟨rfl, hb1⟩
   have L5 := Lib.hid ((L4.out.below HA.out HL.out hb1).alloc HA.out HL.out (.cells #[.int .i64 ((i : Int) + 1), .int .i64 k] 132))
   clear d0 d1 L4 hb1
   have d0 := cell_of_row _ w.heap.size 0 _ _ _ L5.out.c
   have d1 := cell_of_row _ w.heap.size 1 _ _ _ L5.out.c
   simp only [List.getElem?_toArray, List.getElem?_cons_zero, List.getElem?_cons_succ] at d0 d1
   go_wp2_with fail
   refine (Htheirs.out _ L5.out.s).mono ?_
   rintro e V3 ⟨rfl, hb3⟩
   have L7 := Lib.hid ((L5.out.below HA.out HL.out hb3).alloc HA.out HL.out (.cells #[.int .i64 i, .int .i64 ((k : Int) + 1)] 132))
   clear d0 d1 L5 hb3
   have d0 := cell_of_row _ w.heap.size 0 _ _ _ L7.out.c
   have d1 := cell_of_row _ w.heap.size 1 _ _ _ L7.out.c
   simp only [List.getElem?_toArray, List.getElem?_cons_zero, List.getElem?_cons_succ] at d0 d1
   go_wp2_with fail
   refine (Hrec.out i (k + 1) _ _ _ _ _ _ rfl rfl hi (by omega) (by omega) L7.out.s L7.out.m L7.out.n L7.out.row (Nat.le_trans L7.out.lb L7.out.fr.size) (by simp; omega)).mono ?_
   rintro e V4 hp
   obtain ⟨v4, rfl, L8⟩ := L7.out.recur HA.out HL.out hp
   have L8 := Lib.hid L8
   clear hp d0 d1 L7
   have d0 := cell_of_row _ w.heap.size 0 _ _ _ L8.out.c
   have d1 := cell_of_row _ w.heap.size 1 _ _ _ L8.out.c
   simp only [List.getElem?_toArray, List.getElem?_cons_zero, List.getElem?_cons_succ] at d0 d1
   go_wp2
   go_ret
   exact GInv.done (by simpa [List.append_assoc] using L8.out) HG.out
end Go.Proofs.YtdlchlbngojljaaDoor.Gl
namespace Go.Proofs.YtdlchlbngojljaaDoor.Gl
open Go.RowKit Go.Maps
set_option maxHeartbeats 2000000 in
set_option maxRecDepth 100000 in
theorem gather_tt (K : SK) (a b : List El) (B left i k : Nat) (w : World) (S F : List (Nat × Nat)) (v : Value) (hA : Apart K a b) (hL : Low K a b B) (hs : SAt K a b w) (hm : LenMap K a b w) (hn : SeenMap K a b S w) (hr : w.ownsRow B 132 2 v F.length (pairsV F)) (hB : B ≤ w.heap.size) (hFS : F.length ≤ S.length) (hi : i ≤ a.length) (hk : k ≤ b.length) (hal : a.length ≤ 4096) (hbl : b.length ≤ 4096) (_hleft : left ≤ 1073741824) (hin : (i, k) ∉ S) (heq : lenP a b i k = left) (hrec : GRec K a b B left i k) (hsa : starAt a i = true) (hsb : starAt b k = true) :
  Calls Tryd.prog 74 #[.pointer (some ⟨K.Sb, 0, none⟩), v, .agg #[.int .i64 i, .int .i64 k], .int .i64 left] w (GPost K a b B left i k w S F v) := by
 obtain ⟨i0, hi0, hz0, hz1, hz2⟩ := info_parts info83b
 have hst := GInv.start (i := i) (k := k) hs hm hn hr hB
 have s3 := cell_of_row _ K.Sb 3 _ _ _ hst.s.blk
 have d0 := cell_of_row _ w.heap.size 0 _ _ _ hst.c
 have d1 := cell_of_row _ w.heap.size 1 _ _ _ hst.c
 simp only [List.getElem?_toArray, List.getElem?_cons_zero, List.getElem?_cons_succ] at s3 d0 d1
 have hlook : ∀ n, (Instr.lookup 127 (.map (some K.M2)) (.agg #[.int .i64 i, .int .i64 k]) false).run Tryd.prog ((w.alloc (.cells #[.int .i64 i, .int .i64 k] 132)).drewN n) = .ok (.bool (decide ((i, k) ∈ S))) ((w.alloc (.cells #[.int .i64 i, .int .i64 k] 132)).drewN n) := fun n => (hst.n.kept (W' := (w.alloc (.cells #[.int .i64 i, .int .i64 k] 132)).drewN n) rfl).look hi hk hal hbl
 have hlook1 : (Instr.lookup 127 (.map (some K.M2)) (.agg #[.int .i64 i, .int .i64 k]) false).run Tryd.prog (w.alloc (.cells #[.int .i64 i, .int .i64 k] 132)).drew = .ok (.bool (decide ((i, k) ∈ S))) (w.alloc (.cells #[.int .i64 i, .int .i64 k] 132)).drew := (hst.n.kept (W' := (w.alloc (.cells #[.int .i64 i, .int .i64 k] 132)).drew) rfl).look hi hk hal hbl
 have Hst := Lib.hid hst
 have HA := Lib.hid hA
 have HL := Lib.hid hL
 have Hlen := Lib.hid (fun W (h1 : SAt K a b W) (h2 : LenMap K a b W) => length_any K a b i k W hA h1 h2 hi hk hal hbl i k rfl rfl)
 rw [decide_eq_false hin] at hlook1
 have hG : gatherB a b left S i k = (i, k) :: (gatherB a b left (S ++ [(i, k)]) (i + 1) k ++ gatherB a b left (S ++ [(i, k)] ++ (gatherB a b left (S ++ [(i, k)]) (i + 1) k)) i (k + 1)) := by
  rw [gatherB_eq, if_neg (by rw [not_or]; exact ⟨hin, fun h => h heq⟩)]
  simp only [hsa, hsb, if_true]
 have HG := Lib.hid hG
 have hpost : ∀ W e w', LenPost K a b i k W e w' → e = .returned (.int .i64 (left : Nat)) ∧ Fr (· = K.M1) W w' ∧ LenMap K a b w' := fun W e w' h => by obtain ⟨h1, h2, h3⟩ := h; exact ⟨by rw [← heq]; exact h1, h2, h3⟩
 have Hpost := Lib.hid hpost
 have hq : (((left : Nat) : Int) != ((left : Nat) : Int)) = false := by simp
 have Hrec := Lib.hid hrec
 have Hstore := Lib.hid (fun W (h : SeenMap K a b S W) => SeenMap.store h hi hk hal hbl hin)
 have Hours := Lib.hid (fun W (h : SAt K a b W) => skipOurs_any K a b i k W h (by omega) (by omega) hal)
 have Htheirs := Lib.hid (fun W (h : SAt K a b W) => skipTheirs_any K a b i k W h (by omega) (by omega) hbl)
 simp only [hsa] at Hours
 simp only [hsb] at Htheirs
 have hla := starAt_lt hsa
 have hlb := starAt_lt hsb
 have hii : (i : Int) ≤ 4096 := by omega
 have hki : (k : Int) ≤ 4096 := by omega
 have hssz := hn.size hal hbl
 clear hG hst hs hm hn hr hA hL hlook hpost hrec hin heq hsa hsb
 obtain ⟨ao, bo, ca, cb, ga, gb, Sb, M1, M2⟩ := K
 simp only at s3 hlook1
 go_enter Tryd.func74, Tryd.ntmps74
 go_wp2
 generalize w.alloc (.cells #[.int .i64 i, .int .i64 k] 132) = W at *
 go_region_with (go_at_call 73; refine (Hlen.out _ (Hst.out.below HA.out HL.out (Below.refl _ _).drew).s (Hst.out.below HA.out HL.out (Below.refl _ _).drew).m).mono ?_; rintro e W2 hp; obtain ⟨rfl, hf2, hm2⟩ := Hpost.out _ _ _ hp; clear hp)
 all_goals
  have L2 := Lib.hid (((Hst.out.below HA.out HL.out (Below.refl _ _).drew).length HA.out HL.out hf2 hm2).below HA.out HL.out (Below.refl _ _).drew)
  clear hf2 hm2 hlook1 s3 d0 d1
  go_wp2
  obtain ⟨w3, hrun, hn3, hf3⟩ := Hstore.out _ L2.out.n
  have L3 := Lib.hid (L2.out.seen HA.out HL.out hf3 hn3)
  have s3 : W2.cell? ⟨Sb, 3, none⟩ = _ := cell_of_row _ Sb 3 _ _ _ L2.out.s.blk
  have d0 : W2.cell? ⟨w.heap.size, 0, none⟩ = _ := cell_of_row _ w.heap.size 0 _ _ _ L2.out.c
  have d1 : W2.cell? ⟨w.heap.size, 1, none⟩ = _ := cell_of_row _ w.heap.size 1 _ _ _ L2.out.c
  simp only [List.getElem?_toArray, List.getElem?_cons_zero, List.getElem?_cons_succ] at s3 d0 d1
  clear hn3 hf3
  have e0 : w3.cell? ⟨w.heap.size, 0, none⟩ = _ := cell_of_row _ w.heap.size 0 _ _ _ L3.out.c
  have e1 : w3.cell? ⟨w.heap.size, 1, none⟩ = _ := cell_of_row _ w.heap.size 1 _ _ _ L3.out.c
  simp only [List.getElem?_toArray, List.getElem?_cons_zero, List.getElem?_cons_succ] at e0 e1
  go_region
  all_goals
   clear hrun s3 d0 d1 L2
   have d0 := e0
   have d1 := e1
   clear e0 e1
   have hBw := Nat.le_trans L3.out.lb L3.out.fr.size
   go_wp2_with (at_builtin; refine wpList_append_own_at _ rfl _ _ 133 rfl B 132 i0 _ 2 16 Tryd.underlying133 hi0 hz0 hz1 hz2 rfl (by decide) _ _ _ rfl (L3.out.row.alloc _) ⟨w3.heap.size, 0, none⟩ 1 1 [.int .i64 (i : Int), .int .i64 (k : Int)] rfl rfl (cell_six_new _ _ _) (by simp [Value.oneCell']) (by unfold maxLen; omega) (by omega) (by simp; omega) ?_; intro v1 w4 hown hgrow _ hloc; have L4 := Lib.hid (L3.out.append HA.out HL.out (z := (i, k)) hown hgrow hloc); clear hown hgrow hloc d0 d1 L3; have d0 := cell_of_row _ w.heap.size 0 _ _ _ L4.out.c; have d1 := cell_of_row _ w.heap.size 1 _ _ _ L4.out.c; simp only [List.getElem?_toArray, List.getElem?_cons_zero, List.getElem?_cons_succ] at d0 d1)
   refine (Hours.out _ L4.out.s).mono ?_
   rintro e V1 ⟨rfl, hb1⟩
   have L5 := Lib.hid ((L4.out.below HA.out HL.out hb1).alloc HA.out HL.out (.cells #[.int .i64 ((i : Int) + 1), .int .i64 k] 132))
   clear d0 d1 L4 hb1
   have d0 := cell_of_row _ w.heap.size 0 _ _ _ L5.out.c
   have d1 := cell_of_row _ w.heap.size 1 _ _ _ L5.out.c
   simp only [List.getElem?_toArray, List.getElem?_cons_zero, List.getElem?_cons_succ] at d0 d1
   go_wp2_with fail
   refine (Hrec.out (i + 1) k _ _ _ _ _ _ rfl rfl (by omega) hk (by omega) L5.out.s L5.out.m L5.out.n L5.out.row (Nat.le_trans L5.out.lb L5.out.fr.size) (by simp; omega)).mono ?_
   rintro e V2 hp
   obtain ⟨v2, rfl, L6⟩ := L5.out.recur HA.out HL.out hp
   have L6 := Lib.hid L6
   clear hp d0 d1 L5
   have d0 := cell_of_row _ w.heap.size 0 _ _ _ L6.out.c
   have d1 := cell_of_row _ w.heap.size 1 _ _ _ L6.out.c
   simp only [List.getElem?_toArray, List.getElem?_cons_zero, List.getElem?_cons_succ] at d0 d1
   go_wp2_with fail
   refine (Htheirs.out _ L6.out.s).mono ?_
   rintro e V3 ⟨rfl, hb3⟩
   have L7 := Lib.hid ((L6.out.below HA.out HL.out hb3).alloc HA.out HL.out (.cells #[.int .i64 i, .int .i64 ((k : Int) + 1)] 132))
   clear d0 d1 L6 hb3
   have d0 := cell_of_row _ w.heap.size 0 _ _ _ L7.out.c
   have d1 := cell_of_row _ w.heap.size 1 _ _ _ L7.out.c
   simp only [List.getElem?_toArray, List.getElem?_cons_zero, List.getElem?_cons_succ] at d0 d1
   go_wp2_with fail
   refine (Hrec.out i (k + 1) _ _ _ _ _ _ rfl rfl hi (by omega) (by omega) L7.out.s L7.out.m L7.out.n L7.out.row (Nat.le_trans L7.out.lb L7.out.fr.size) (by simp; omega)).mono ?_
   rintro e V4 hp
   obtain ⟨v4, rfl, L8⟩ := L7.out.recur HA.out HL.out hp
   have L8 := Lib.hid L8
   clear hp d0 d1 L7
   have d0 := cell_of_row _ w.heap.size 0 _ _ _ L8.out.c
   have d1 := cell_of_row _ w.heap.size 1 _ _ _ L8.out.c
   simp only [List.getElem?_toArray, List.getElem?_cons_zero, List.getElem?_cons_succ] at d0 d1
   go_wp2
   go_ret
   exact GInv.done (by simpa [List.append_assoc] using L8.out) HG.out
end Go.Proofs.YtdlchlbngojljaaDoor.Gl
namespace Go.Proofs.YtdlchlbngojljaaDoor.Gl
open Go.RowKit Go.Maps
theorem gather_ind (K : SK) (a b : List El) (B left : Nat) (hA : Apart K a b) (hL : Low K a b B) (hal : a.length ≤ 4096) (hbl : b.length ≤ 4096) (hleft : left ≤ 1073741824) : ∀ (n i k : Nat) (x y : Int) (w : World) (S F : List (Nat × Nat)) (v : Value), x = i → y = k → i ≤ a.length → k ≤ b.length → a.length - i + (b.length - k) ≤ n →
  SAt K a b w → LenMap K a b w → SeenMap K a b S w → w.ownsRow B 132 2 v F.length (pairsV F) → B ≤ w.heap.size → F.length ≤ S.length →
  Calls Tryd.prog 74 #[.pointer (some ⟨K.Sb, 0, none⟩), v, .agg #[.int .i64 x, .int .i64 y], .int .i64 left] w (GPost K a b B left i k w S F v)
 | n, i, k, x, y, w, S, F, v, hx, hy, hi, hk, hn, hs, hm, hS, hr, hB, hFS => by
  subst hx
  subst hy
  have hrec : GRec K a b B left i k := fun i' k' x' y' w' S' F' v' hx' hy' hi' hk' hlt hs' hm' hS' hr' hB' hF' => by
   cases n with
   | zero => omega
   | succ n => exact gather_ind K a b B left hA hL hal hbl hleft n i' k' x' y' w' S' F' v' hx' hy' hi' hk' (by omega) hs' hm' hS' hr' hB' hF'
  by_cases hin : (i, k) ∈ S
  ·exact gather_seen K a b B left i k w S F v hA hL hs hm hS hr hB hFS hi hk hal hbl hleft hin
  by_cases heq : lenP a b i k = left
  ·cases hsa : starAt a i <;> cases hsb : starAt b k
   ·exact gather_nn K a b B left i k w S F v hA hL hs hm hS hr hB hFS hi hk hal hbl hleft hin heq hrec hsa hsb
   ·exact gather_nt K a b B left i k w S F v hA hL hs hm hS hr hB hFS hi hk hal hbl hleft hin heq hrec hsa hsb
   ·exact gather_tn K a b B left i k w S F v hA hL hs hm hS hr hB hFS hi hk hal hbl hleft hin heq hrec hsa hsb
   ·exact gather_tt K a b B left i k w S F v hA hL hs hm hS hr hB hFS hi hk hal hbl hleft hin heq hrec hsa hsb
  ·exact gather_len K a b B left i k w S F v hA hL hs hm hS hr hB hFS hi hk hal hbl hleft hin heq
theorem gather_any (K : SK) (a b : List El) (B left i k : Nat) (w : World) (S F : List (Nat × Nat)) (v : Value) (hA : Apart K a b) (hL : Low K a b B) (hs : SAt K a b w) (hm : LenMap K a b w) (hS : SeenMap K a b S w) (hr : w.ownsRow B 132 2 v F.length (pairsV F)) (hB : B ≤ w.heap.size) (hFS : F.length ≤ S.length) (hi : i ≤ a.length) (hk : k ≤ b.length) (hal : a.length ≤ 4096) (hbl : b.length ≤ 4096) (hleft : left ≤ 1073741824) :
  Calls Tryd.prog 74 #[.pointer (some ⟨K.Sb, 0, none⟩), v, .agg #[.int .i64 i, .int .i64 k], .int .i64 left] w (GPost K a b B left i k w S F v) :=
 gather_ind K a b B left hA hL hal hbl hleft _ i k i k w S F v rfl rfl hi hk (Nat.le_refl _) hs hm hS hr hB hFS
end Go.Proofs.YtdlchlbngojljaaDoor.Gl
