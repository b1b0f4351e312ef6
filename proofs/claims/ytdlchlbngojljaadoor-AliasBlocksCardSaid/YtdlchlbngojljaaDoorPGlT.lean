/- length: the lengths of the shortest texts, with their map. -/
import Derived.Test.YtdlchlbngojljaaDoorPGr
namespace Go.Proofs.YtdlchlbngojljaaDoor.Gl
open Go.RowKit Go.Maps
theorem step_some {K : SK} {a b : List El} {i k : Nat} {w : World} (hS : SAt K a b w) (hi : i ≤ a.length) (hk : k ≤ b.length) (hal : a.length ≤ 4096) (hbl : b.length ≤ 4096) {c : UInt8} {i' k' : Nat} (h : stepP a b i k = some (c, i', k')) :
  Calls Tryd.prog 95 #[.pointer (some ⟨K.Sb, 0, none⟩), .agg #[.int .i64 i, .int .i64 k]] w (Bel (.tuple #[.agg #[.int .i64 (i' : Int), .int .i64 (k' : Int)], .int .u8 (c.toNat : Int), .bool true]) w) := by
 have := step_any K a b i k w hS hi hk hal hbl
 have hv : stepV a b i k = .tuple #[.agg #[.int .i64 (i' : Int), .int .i64 (k' : Int)], .int .u8 (c.toNat : Int), .bool true] := by
  unfold stepP at h
  unfold stepV
  cases ha : a[i]? with
  | none => rw [ha] at h; simp at h
  | some e => cases hb : b[k]? with
   | none => rw [ha, hb] at h; simp at h
   | some f =>
    rw [ha, hb] at h
    simp only at h ⊢
    split at h
    ·simp at h
    ·rename_i hns
     simp only [Option.map_eq_some_iff, Prod.mk.injEq] at h
     obtain ⟨d, hd, rfl, rfl, rfl⟩ := h
     rw [if_neg hns, hd]
     rfl
 rwa [hv] at this
theorem step_none {K : SK} {a b : List El} {i k : Nat} {w : World} (hS : SAt K a b w) (hi : i ≤ a.length) (hk : k ≤ b.length) (hal : a.length ≤ 4096) (hbl : b.length ≤ 4096) (h : stepP a b i k = none) :
  Calls Tryd.prog 95 #[.pointer (some ⟨K.Sb, 0, none⟩), .agg #[.int .i64 i, .int .i64 k]] w (fun e w' => ∃ x y c : Int, e = .returned (.tuple #[.agg #[.int .i64 x, .int .i64 y], .int .u8 c, .bool false]) ∧ Below w.heap.size w w') := by
 refine (step_any K a b i k w hS hi hk hal hbl).mono ?_
 rintro e w' ⟨rfl, hb⟩
 unfold stepP at h
 unfold stepV
 cases ha : a[i]? with
 | none => exact ⟨_, _, _, rfl, hb⟩
 | some e => cases hbk : b[k]? with
  | none => exact ⟨_, _, _, rfl, hb⟩
  | some f =>
   rw [ha, hbk] at h
   simp only at h ⊢
   split at h
   ·rename_i hs
    rw [if_pos hs]
    exact ⟨_, _, _, rfl, hb⟩
   ·rename_i hns
    rw [Option.map_eq_none_iff] at h
    rw [if_neg hns, h]
    exact ⟨_, _, _, rfl, hb⟩
/-- The blocks of the maps are none of the others. -/
structure Apart (K : SK) (a b : List El) : Prop where
 s1 : K.Sb ≠ K.M1
 s2 : K.Sb ≠ K.M2
 a1 : 0 < a.length → K.ga ≠ K.M1
 a2 : 0 < a.length → K.ga ≠ K.M2
 b1 : 0 < b.length → K.gb ≠ K.M1
 b2 : 0 < b.length → K.gb ≠ K.M2
 t1 : 0 ≠ K.M1
 t2 : 0 ≠ K.M2
 m : K.M1 ≠ K.M2
def gLen (a b : List El) (z : Nat × Nat) : DataW Unit := .lit (.int .i64 (lenP a b z.1 z.2 : Nat))
def LenMap (K : SK) (a b : List El) (w : World) : Prop := ∃ S D, PMap w 3 K.M1 a.length b.length S (gLen a b) D
/-- While the length is reckoned: the search, the map, and the pair's own cell. -/
structure LInv (K : SK) (a b : List El) (i k : Nat) (w W : World) : Prop where
 s : SAt K a b W
 m : LenMap K a b W
 fr : Fr (· = K.M1) w W
 c : W.heap[w.heap.size]? = some (.cells #[.int .i64 i, .int .i64 k] 132 (0, 0))
 lt : K.M1 < w.heap.size
theorem LInv.next {K : SK} {a b : List El} {i k : Nat} {w W W' : World} (hA : Apart K a b) (h : LInv K a b i k w W) (hf : Fr (· = K.M1) W W') (hm : LenMap K a b W') : LInv K a b i k w W' :=
 ⟨h.s.fr hf hA.s1 hA.a1 hA.b1 hA.t1, hm, h.fr.trans hf, (hf.block _ (Array.getElem?_eq_some_iff.1 h.c).1 (by have := h.lt; omega)).trans h.c, h.lt⟩
theorem LenMap.below {K : SK} {a b : List El} {W W' : World} (h : LenMap K a b W) (hb : Below W.heap.size W W') : LenMap K a b W' := by
 obtain ⟨S, D, hm⟩ := h
 exact ⟨S, D, hm.kept (hb.block _ hm.own.lt)⟩
theorem LInv.below {K : SK} {a b : List El} {i k : Nat} {w W W' : World} (hA : Apart K a b) (h : LInv K a b i k w W) (hb : Below W.heap.size W W') : LInv K a b i k w W' := h.next hA (Fr.of_below hb) (h.m.below hb)
theorem LInv.alloc {K : SK} {a b : List El} {i k : Nat} {w W : World} (hA : Apart K a b) (h : LInv K a b i k w W) (o : Obj) : LInv K a b i k w (W.alloc o) := h.below hA ((Below.refl _ _).alloc (Nat.le_refl _) o)
theorem LInv.start {K : SK} {a b : List El} {i k : Nat} {w : World} (hs : SAt K a b w) (hm : LenMap K a b w) : LInv K a b i k w (w.alloc (.cells #[.int .i64 i, .int .i64 k] 132)) := by
 have hb : Below w.heap.size w (w.alloc (.cells #[.int .i64 i, .int .i64 k] 132)) := (Below.refl _ _).alloc (Nat.le_refl _) _
 obtain ⟨S, D, h⟩ := hm
 exact ⟨hs.below hb, LenMap.below ⟨S, D, h⟩ hb, Fr.of_below hb, heap_alloc_last w _, h.own.lt⟩
theorem lenWf (a b : List El) (i k : Nat) : (Lit.int .i64 (lenP a b i k : Nat)).wf = true := WalkArith.wf_i64 (by have := lenP_le_never a b i k; unfold never at this; omega)
theorem zero3 (w : World) : (zeroValue 3).run Tryd.prog w = .ok (.int .i64 0) w := by kernel_rfl
/-- The look-up in the map of the lengths. -/
theorem LenMap.look {K : SK} {a b : List El} {W : World} {S : List (Nat × Nat)} {D : DataW Unit} (h : PMap W 3 K.M1 a.length b.length S (gLen a b) D) {i k : Nat} (hi : i ≤ a.length) (hk : k ≤ b.length) (hal : a.length ≤ 4096) (hbl : b.length ≤ 4096) :
  ∃ c : Int, (Instr.lookup 126 (.map (some K.M1)) (.agg #[.int .i64 i, .int .i64 k]) true).run Tryd.prog W = .ok (.tuple #[.int .i64 c, .bool (decide ((i, k) ∈ S))]) W ∧ ((i, k) ∈ S → c = lenP a b i k) ∧ ((i, k) ∉ S → c = 0) := by
 have hf : Fits (i, k) := ⟨by show i ≤ 100000; omega, by show k ≤ 100000; omega⟩
 obtain ⟨v, ps, hrun, hv⟩ := h.own.look_ok law83 Tryd.underlying126 (zero3 W) (plainElem_int Tryd.underlying3 (by decide)) (klit_eq hf)
 rw [h.has _ hf] at hrun
 obtain ⟨c, rfl, hc, _⟩ := plainElem_int_inv Tryd.underlying3 hv
 refine ⟨c, hrun, fun hin => ?_, fun hin => ?_⟩
 ·rw [h.val _ hin] at hc
  simp only [gLen, Prod.mk.injEq] at hc
  have := hc.1
  simp only [DataW.lit.injEq, Lit.int.injEq, true_and] at this
  exact this.symm
 ·rw [Maps.atKey_of_not_has (by rw [h.has _ hf, decide_eq_false hin])] at hc
  simp only [Prod.mk.injEq] at hc
  have := hc.1
  simp only [DataW.lit.injEq, Lit.int.injEq, true_and] at this
  exact this.symm
theorem LenMap.store {K : SK} {a b : List El} {W : World} (h : LenMap K a b W) {i k : Nat} (hi : i ≤ a.length) (hk : k ≤ b.length) (hal : a.length ≤ 4096) (hbl : b.length ≤ 4096) :
  ∃ w', (Instr.mapUpdate 126 (.map (some K.M1)) (.agg #[.int .i64 i, .int .i64 k]) (.int .i64 (lenP a b i k : Nat))).run Tryd.prog W = .ok () w' ∧ LenMap K a b w' ∧ Fr (· = K.M1) W w' := by
 obtain ⟨S, D, hm⟩ := h
 obtain ⟨w', D', hrun, hm', hg⟩ := hm.store Tryd.underlying126 ⟨by omega, by omega⟩ (z := (i, k)) ⟨hi, hk⟩ (plainElem_int Tryd.underlying3 (lenWf a b i k))
 exact ⟨w', hrun, ⟨_, _, hm'⟩, Fr.of_grown hg (fun k hk => by cases hk; rfl)⟩
def LenPost (K : SK) (a b : List El) (i k : Nat) (w : World) (e : Ending) (w' : World) : Prop := e = .returned (.int .i64 (lenP a b i k : Nat)) ∧ Fr (· = K.M1) w w' ∧ LenMap K a b w'
set_option maxHeartbeats 1000000 in
set_option maxRecDepth 100000 in
theorem length_hit (K : SK) (a b : List El) (i k : Nat) (w : World) (hs : SAt K a b w) (hi : i ≤ a.length) (hk : k ≤ b.length) (hal : a.length ≤ 4096) (hbl : b.length ≤ 4096)
  {S : List (Nat × Nat)} {D : DataW Unit} (hm : PMap w 3 K.M1 a.length b.length S (gLen a b) D) (hin : (i, k) ∈ S) :
  Calls Tryd.prog 73 #[.pointer (some ⟨K.Sb, 0, none⟩), .agg #[.int .i64 i, .int .i64 k]] w (LenPost K a b i k w) := by
 have hst := LInv.start (i := i) (k := k) hs ⟨S, D, hm⟩
 have hm1 := hm.kept (w' := w.alloc (.cells #[.int .i64 i, .int .i64 k] 132)) (Below.heap_alloc _ _ _ hm.own.lt)
 have s2 := cell_of_row _ K.Sb 2 _ _ _ hst.s.blk
 have c0 := cell_of_row _ w.heap.size 0 _ _ _ hst.c
 have c1 := cell_of_row _ w.heap.size 1 _ _ _ hst.c
 simp only [List.getElem?_toArray, List.getElem?_cons_zero, List.getElem?_cons_succ] at s2 c0 c1
 have hlook : ∀ n, (Instr.lookup 126 (.map (some K.M1)) (.agg #[.int .i64 i, .int .i64 k]) true).run Tryd.prog ((w.alloc (.cells #[.int .i64 i, .int .i64 k] 132)).drewN n) = .ok (.tuple #[.int .i64 (lenP a b i k : Nat), .bool true]) ((w.alloc (.cells #[.int .i64 i, .int .i64 k] 132)).drewN n) := fun n => by
  obtain ⟨c, h1, h2, _⟩ := LenMap.look (hm1.kept (w' := (w.alloc (.cells #[.int .i64 i, .int .i64 k] 132)).drewN n) rfl) hi hk hal hbl
  rw [h2 hin, decide_eq_true hin] at h1
  exact h1
 have Hst := Lib.hid hst
 obtain ⟨L, hL⟩ : ∃ L, lenP a b i k = L := ⟨_, rfl⟩
 rw [hL] at hlook
 clear hst hm1 hs hm
 obtain ⟨ao, bo, ca, cb, ga, gb, Sb, M1, M2⟩ := K
 simp only at *
 go_enter Tryd.func73, Tryd.ntmps73
 go_wp2
 generalize w.alloc (.cells #[.int .i64 i, .int .i64 k] 132) = W at *
 go_quiet (fail)
 go_wp2
 go_ret
 exact ⟨by rw [hL]; rfl, Hst.out.fr.drewN nq, Hst.out.m.below (drewN_below (Below.refl _ _) nq)⟩
/-- The recursion: the lengths from later pairs on. -/
def LenRec (K : SK) (a b : List El) (i k : Nat) : Prop := ∀ (i' k' : Nat) (x y : Int) (w : World), x = i' → y = k' → i' ≤ a.length → k' ≤ b.length → i + k < i' + k' → SAt K a b w → LenMap K a b w → Calls Tryd.prog 73 #[.pointer (some ⟨K.Sb, 0, none⟩), .agg #[.int .i64 x, .int .i64 y]] w (LenPost K a b i' k' w)
end Go.Proofs.YtdlchlbngojljaaDoor.Gl
