/- gather: the walks. -/
import Derived.Test.YtapiofcdifligaaDoorY
namespace Go.Proofs.YtapiofcdifligaaDoor
open Go.RowKit Go.Maps

set_option maxHeartbeats 1000000 in
set_option maxRecDepth 100000 in
theorem gather_seen (K : SK) (a b : List El) (B left i k : Nat) (w : World) (S F : List (Nat × Nat)) (v : Value) (hA : Apart K a b) (hL : Low K a b B) (hs : SAt K a b w) (hm : LenMap K a b w) (hn : SeenMap K a b S w) (hr : w.ownsRow B 83 2 v F.length (pairsV F)) (hB : B ≤ w.heap.size) (_hFS : F.length ≤ S.length) (hi : i ≤ a.length) (hk : k ≤ b.length) (hal : a.length ≤ 4096) (hbl : b.length ≤ 4096) (_hleft : left ≤ 1073741824) (hin : (i, k) ∈ S) :
    Calls Tryd.prog 53 #[.pointer (some ⟨K.Sb, 0, none⟩), v, .agg #[.int .i64 i, .int .i64 k], .int .i64 left] w (GPost K a b B left i k w S F v) := by
  have hst := GInv.start (i := i) (k := k) hs hm hn hr hB
  have s3 := cell_of_row _ K.Sb 3 _ _ _ hst.s.blk
  have d0 := cell_of_row _ w.heap.size 0 _ _ _ hst.c
  have d1 := cell_of_row _ w.heap.size 1 _ _ _ hst.c
  simp only [List.getElem?_toArray, List.getElem?_cons_zero, List.getElem?_cons_succ] at s3 d0 d1
  have hlook : ∀ n, (Instr.lookup 78 (.map (some K.M2)) (.agg #[.int .i64 i, .int .i64 k]) false).run Tryd.prog ((w.alloc (.cells #[.int .i64 i, .int .i64 k] 83)).drewN n) = .ok (.bool (decide ((i, k) ∈ S))) ((w.alloc (.cells #[.int .i64 i, .int .i64 k] 83)).drewN n) := fun n => (hst.n.kept (W' := (w.alloc (.cells #[.int .i64 i, .int .i64 k] 83)).drewN n) rfl).look hi hk hal hbl
  have hlook1 : (Instr.lookup 78 (.map (some K.M2)) (.agg #[.int .i64 i, .int .i64 k]) false).run Tryd.prog (w.alloc (.cells #[.int .i64 i, .int .i64 k] 83)).drew = .ok (.bool (decide ((i, k) ∈ S))) (w.alloc (.cells #[.int .i64 i, .int .i64 k] 83)).drew := (hst.n.kept (W' := (w.alloc (.cells #[.int .i64 i, .int .i64 k] 83)).drew) rfl).look hi hk hal hbl
  have Hst := Lib.hid hst
  have HA := Lib.hid hA
  have HL := Lib.hid hL
  rw [decide_eq_true hin] at hlook
  have hG : gatherB a b left S i k = [] := by rw [gatherB_eq, if_pos (Or.inl hin)]
  have HG := Lib.hid hG
  clear hG hst hs hm hn hr hA hL hlook1
  obtain ⟨ao, bo, ca, cb, ga, gb, Sb, M1, M2⟩ := K
  simp only at s3 hlook
  go_enter Tryd.func53, Tryd.ntmps53
  go_wp2
  generalize w.alloc (.cells #[.int .i64 i, .int .i64 k] 83) = W at *
  go_quiet (fail)
  go_wp2
  go_ret
  exact GInv.done (G := []) (by simpa using Hst.out.below HA.out HL.out (drewN_below (Below.refl _ _) nq)) HG.out

set_option maxHeartbeats 1000000 in
set_option maxRecDepth 100000 in
theorem gather_len (K : SK) (a b : List El) (B left i k : Nat) (w : World) (S F : List (Nat × Nat)) (v : Value) (hA : Apart K a b) (hL : Low K a b B) (hs : SAt K a b w) (hm : LenMap K a b w) (hn : SeenMap K a b S w) (hr : w.ownsRow B 83 2 v F.length (pairsV F)) (hB : B ≤ w.heap.size) (_hFS : F.length ≤ S.length) (hi : i ≤ a.length) (hk : k ≤ b.length) (hal : a.length ≤ 4096) (hbl : b.length ≤ 4096) (_hleft : left ≤ 1073741824) (hin : (i, k) ∉ S) (hne : lenP a b i k ≠ left) :
    Calls Tryd.prog 53 #[.pointer (some ⟨K.Sb, 0, none⟩), v, .agg #[.int .i64 i, .int .i64 k], .int .i64 left] w (GPost K a b B left i k w S F v) := by
  have hst := GInv.start (i := i) (k := k) hs hm hn hr hB
  have s3 := cell_of_row _ K.Sb 3 _ _ _ hst.s.blk
  have d0 := cell_of_row _ w.heap.size 0 _ _ _ hst.c
  have d1 := cell_of_row _ w.heap.size 1 _ _ _ hst.c
  simp only [List.getElem?_toArray, List.getElem?_cons_zero, List.getElem?_cons_succ] at s3 d0 d1
  have hlook : ∀ n, (Instr.lookup 78 (.map (some K.M2)) (.agg #[.int .i64 i, .int .i64 k]) false).run Tryd.prog ((w.alloc (.cells #[.int .i64 i, .int .i64 k] 83)).drewN n) = .ok (.bool (decide ((i, k) ∈ S))) ((w.alloc (.cells #[.int .i64 i, .int .i64 k] 83)).drewN n) := fun n => (hst.n.kept (W' := (w.alloc (.cells #[.int .i64 i, .int .i64 k] 83)).drewN n) rfl).look hi hk hal hbl
  have hlook1 : (Instr.lookup 78 (.map (some K.M2)) (.agg #[.int .i64 i, .int .i64 k]) false).run Tryd.prog (w.alloc (.cells #[.int .i64 i, .int .i64 k] 83)).drew = .ok (.bool (decide ((i, k) ∈ S))) (w.alloc (.cells #[.int .i64 i, .int .i64 k] 83)).drew := (hst.n.kept (W' := (w.alloc (.cells #[.int .i64 i, .int .i64 k] 83)).drew) rfl).look hi hk hal hbl
  have Hst := Lib.hid hst
  have HA := Lib.hid hA
  have HL := Lib.hid hL
  have Hlen := Lib.hid (fun W (h1 : SAt K a b W) (h2 : LenMap K a b W) => length_any K a b i k W hA h1 h2 hi hk hal hbl i k rfl rfl)
  rw [decide_eq_false hin] at hlook1
  have hG : gatherB a b left S i k = [] := by rw [gatherB_eq, if_pos (Or.inr hne)]
  have HG := Lib.hid hG
  have hq : ((lenP a b i k : Nat) : Int) ≠ (left : Int) := by omega
  have hq2 : (((lenP a b i k : Nat) : Int) != (left : Int)) = true := by simpa using hq
  obtain ⟨L, hLL⟩ : ∃ L, lenP a b i k = L := ⟨_, rfl⟩
  have hpost : ∀ W e w', LenPost K a b i k W e w' → e = .returned (.int .i64 (L : Nat)) ∧ Fr (· = K.M1) W w' ∧ LenMap K a b w' := fun W e w' h => by obtain ⟨h1, h2, h3⟩ := h; exact ⟨by rw [← hLL]; exact h1, h2, h3⟩
  have Hpost := Lib.hid hpost
  rw [hLL] at hq hq2 hne
  clear hG hst hs hm hn hr hA hL hlook hpost hLL
  obtain ⟨ao, bo, ca, cb, ga, gb, Sb, M1, M2⟩ := K
  simp only at s3 hlook1
  go_enter Tryd.func53, Tryd.ntmps53
  go_wp2
  generalize w.alloc (.cells #[.int .i64 i, .int .i64 k] 83) = W at *
  go_region_with (go_at_call 52; refine (Hlen.out _ (Hst.out.below HA.out HL.out (Below.refl _ _).drew).s (Hst.out.below HA.out HL.out (Below.refl _ _).drew).m).mono ?_; rintro e W2 hp; obtain ⟨rfl, hf2, hm2⟩ := Hpost.out _ _ _ hp; clear hp)
  all_goals
    have L2 := Lib.hid ((Hst.out.below HA.out HL.out (Below.refl _ _).drew).length HA.out HL.out hf2 hm2)
    clear hf2 hm2
    go_wp2
    go_ret
    exact GInv.done (G := []) (by simpa using L2.out) HG.out

end Go.Proofs.YtapiofcdifligaaDoor
