/- The iterator over the ancestors of a device. The ancestors of a device, collected. -/
import Derived.Test.YtldcediiobfhiaaGreatDoorKDeE
import Derived.RangeFuncNested
import Derived.RangeFuncBound
import Derived.RangeFuncCalls
import Derived.RangeFuncLeaves
import Derived.Shelf.Abstract
import Derived.WalkKit
import Derived.OwnWalkIn
import Derived.TacticsInMore
import Derived.LoopNIn
import Derived.LoopIn
import Derived.Maps.OwnIn
import Derived.Maps.AppendAt
import Derived.RangeFuncBox
import Derived.Sort.CutIn
namespace Go.Proofs.YtldcediiobfhiaaGreatDoor.De
open Go.RowKit Go.Shelf Go.Maps
attribute [local go_sem] Oper.semAt_some
/-- Going up from a parent's number: at most so many devices. -/
def ancL (l : List DV) : Nat → Int → List DV
 | 0, _ => []
 | k + 1, p => match lastI (l.map (·.1)) p with
  | none => []
  | some q => match l[q]? with
   | none => []
   | some x => x :: ancL l k x.1.par
theorem ancL_none {l : List DV} {p : Int} (h : lastI (l.map (·.1)) p = none) : ∀ k, ancL l k p = []
 | 0 => rfl
 | k + 1 => by rw [ancL, h]
theorem ancL_some {l : List DV} {p : Int} {q : Nat} {x : DV} (h : lastI (l.map (·.1)) p = some q) (hx : l[q]? = some x) (k : Nat) : ancL l (k + 1) p = x :: ancL l k x.1.par := by rw [ancL, h]; simp only [hx]
theorem ancL_mem {l : List DV} : ∀ (k : Nat) (p : Int) (x : DV), x ∈ ancL l k p → x ∈ l
 | 0, _, _, h => by cases h
 | k + 1, p, x, h => by
  rw [ancL] at h
  cases hp : lastI (l.map (·.1)) p with
  | none => rw [hp] at h; cases h
  | some q =>
   rw [hp] at h
   simp only at h
   cases hx : l[q]? with
   | none => rw [hx] at h; cases h
   | some y =>
    rw [hx] at h
    rcases List.mem_cons.1 h with rfl | h
    ·exact List.mem_of_getElem? hx
    ·exact ancL_mem k _ x h
theorem ancL_len {l : List DV} : ∀ (k : Nat) (p : Int), (ancL l k p).length ≤ k
 | 0, _ => Nat.le_refl _
 | k + 1, p => by
  rw [ancL]
  cases lastI (l.map (·.1)) p with
  | none => simp
  | some q =>
   simp only
   cases l[q]? with
   | none => simp
   | some y =>
    have := ancL_len (l := l) k y.1.par
    simp
    omega
/-- What the iterator reads. -/
structure It (n₀ : Nat) (W : World) (Bd Bv V M N c : Nat) (par : Int) (a : Option Addr) (l : List DV) (D : DataW Unit) : Prop where
 bd : W.cell? ⟨Bd, 1, none⟩ = some (.int .i64 par)
 hd : Bd < n₀
 bv : W.cell? ⟨Bv, 0, none⟩ = some (.pointer (some ⟨V, 0, none⟩))
 hv : Bv < n₀
 v0 : W.cell? ⟨V, 0, none⟩ = some (.slice a N c)
 v1 : W.cell? ⟨V, 1, none⟩ = some (.map (some M))
 hV : V < n₀
 im : IMap W M N (lastI (l.map (·.1))) D
 hM : M < n₀
 len : l.length = N
 row : l ≠ [] → ∃ g o, a = some ⟨g, o, none⟩ ∧ g < n₀ ∧ ∀ (j : Nat) x, l[j]? = some x → W.rangeAt g (o + j * 10) (dvC x.1 x.2)
theorem It.keep {n₀ : Nat} {W W' : World} {Bd Bv V M N c : Nat} {par : Int} {a : Option Addr} {l : List DV} {D : DataW Unit} (h : It n₀ W Bd Bv V M N c par a l D) (hb : Below n₀ W W') : It n₀ W' Bd Bv V M N c par a l D :=
 ⟨(hb.cell (p := ⟨Bd, 1, none⟩) h.hd).trans h.bd, h.hd, (hb.cell (p := ⟨Bv, 0, none⟩) h.hv).trans h.bv, h.hv, (hb.cell (p := ⟨V, 0, none⟩) h.hV).trans h.v0, (hb.cell (p := ⟨V, 1, none⟩) h.hV).trans h.v1, h.hV,
  h.im.kept (hb.block M h.hM), h.hM, h.len, fun hl => by
   obtain ⟨g, o, e, hg, hr⟩ := h.row hl
   exact ⟨g, o, e, hg, fun j x hx m v hv => (hb.cell (p := ⟨g, o + j * 10 + m, none⟩) hg).trans (hr j x hx m v hv)⟩⟩
abbrev AD (l : List DV) : Type := { x : DV // x ∈ l }
def adE {l : List DV} (x : AD l) : Array Value := #[.agg #[.int .i64 x.1.1.idx, .int .i64 x.1.1.par, .string x.1.1.name, .string x.1.1.orig, .string x.1.1.sub, .string x.1.1.drv, .string x.1.1.ali, .int .i64 x.1.1.kind, .int .i64 x.1.1.num, x.1.2]]
set_option maxRecDepth 100000 in
set_option maxHeartbeats 4000000 in
theorem anc1_in (F : Fence) (n : Nat) (h7 : F.fn 110) (hro : F.round = none) (hn : 1 ≤ n) (lo n₀ Bd Bv V M N c : Nat) (par : Int) (a : Option Addr) (l : List DV) (D : DataW Unit) (J Jx : List (AD l) → World → Prop)
  (hwf : (Lit.int .i64 par).wf = true) (hwl : ∀ x ∈ l, (Lit.int .i64 x.1.par).wf = true)
  (hY : ∀ pre x W, J pre W → pre.length < 7 → YieldAt F (n - 1) Tryz.prog lo (adE x) W fun e W' =>
   (e = .returned (.bool true) ∧ J (pre ++ [x]) W' ∧ Below n₀ W W') ∨ (e = .returned (.bool false) ∧ Jx (pre ++ [x]) W'))
  (W : World) (hI : It n₀ W Bd Bv V M N c par a l D) (h0 : J [] W) :
  CallsIn F n Tryz.prog 110 #[.func (.yield lo) #[] #[], .pointer (some ⟨Bd, 0, none⟩), .pointer (some ⟨Bv, 0, none⟩)] W fun e W' => (∃ v, e = .returned v) ∧
   ((∃ ys, ys.map (fun p : AD l => p.1) = ancL l 7 par ∧ J ys W') ∨ (∃ pre, Jx pre W')) := by
 have hb1 := hI.bd
 refine callsIn_of_wp Tryz.func110 rfl h7 ?_ hro
 simp only [Tryz.ntmps110, List.size_toArray, List.length_cons, List.length_nil, Nat.reduceAdd, Nat.reduceSub, Array.replicate_succ, Array.replicate_zero, List.push_toArray, List.append_toArray, List.nil_append, List.cons_append]
 gi_wp2
 gi_loopw [4, 9] (fun p s wr => ∃ (k : Nat) (q : Int) (ys : List (AD l)), k ≤ 7 ∧ s = .int .i64 (k : Int) ∧ p = .int .i64 q ∧ (Lit.int .i64 q).wf = true ∧ ys.map (fun p : AD l => p.1) ++ ancL l (7 - k) q = ancL l 7 par ∧ ys.length = k ∧ J ys wr ∧ It n₀ wr Bd Bv V M N c par a l D)
  (fun _ s _ => 7 - (intOf s).toNat)
 case atStart => exact ⟨0, par, [], Nat.zero_le _, rfl, rfl, hwf, rfl, rfl, h0, hI⟩
 case round =>
  obtain ⟨k, q, ys, hk, rfl, rfl, hq, hys, hyl, hJs, hIt⟩ := hrel
  have bv := hIt.bv
  have v0 := hIt.v0
  have v1 := hIt.v1
  have HO := Lib.hid hIt.im.own
  by_cases hlt : k < 7
  ·have hk7 : (k : Int) < 7 := by omega
   cases hp : lastI (l.map (·.1)) q with
   | none =>
    have hh := hIt.im.has q hq
    rw [hp] at hh
    have Hh := Lib.hid hh
    have hys2 : ys.map (fun p : AD l => p.1) = ancL l 7 par := by rw [← hys, ancL_none hp, List.append_nil]
    have Hys := Lib.hid hys2
    have HJ := Lib.hid hJs
    have Hq := Lib.hid (keyI hq)
    clear hh hys hys2 hp hJs hIt hI
    gi_wp2_with (gi_at_lookup; refine wpListIn_lookup_own_ok_int _ rfl _ _ 82 rfl 3 3 .i64 lawI Tryz.underlying82 Tryz.underlying3 (Tryz.zeroValue3 _) M N D rfl HO.out _ _ rfl Hq.out ?_; intro c hat hwc; rw [Hh.out]; clear hat hwc)
    refine ⟨fun _ h => (by cases h), ?_⟩
    gi_wp2
    refine bodyPost_ret (results_none rfl _ _ _) rfl ?_
    exact ⟨⟨_, rfl⟩, .inl ⟨_, Hys.out, HJ.out⟩⟩
   | some j =>
    obtain ⟨y, hy, -⟩ := lastI_some hp
    rw [List.getElem?_map, Option.map_eq_some_iff] at hy
    obtain ⟨x, hx, -⟩ := hy
    have hxm := List.mem_of_getElem? hx
    have hjN : j < N := by rw [← hIt.len]; exact (List.getElem?_eq_some_iff.1 hx).1
    have hjz : (j : Int) < (N : Int) := by omega
    obtain ⟨g, o, rfl, hg, hr⟩ := hIt.row (by rintro rfl; simp at hx)
    have hys2 : (ys ++ [(⟨x, hxm⟩ : AD l)]).map (fun p : AD l => p.1) ++ ancL l (7 - (k + 1)) x.1.par = ancL l 7 par := by
     rw [← hys, show 7 - k = (7 - (k + 1)) + 1 by omega, ancL_some hp hx]
     simp
    obtain ⟨fn, tmps, assign, body, hy, hR⟩ := hY ys ⟨x, hxm⟩ wr hJs (by omega)
    have hrx := hr j x hx
    have c0 : wr.cell? ⟨g, o + j * 10, none⟩ = some (.int .i64 x.1.idx) := hrx 0 _ rfl
    have c1 : wr.cell? ⟨g, o + j * 10 + 1, none⟩ = some (.int .i64 x.1.par) := hrx 1 _ rfl
    have c2 : wr.cell? ⟨g, o + j * 10 + 2, none⟩ = some (.string x.1.name) := hrx 2 _ rfl
    have c3 : wr.cell? ⟨g, o + j * 10 + 3, none⟩ = some (.string x.1.orig) := hrx 3 _ rfl
    have c4 : wr.cell? ⟨g, o + j * 10 + 4, none⟩ = some (.string x.1.sub) := hrx 4 _ rfl
    have c5 : wr.cell? ⟨g, o + j * 10 + 5, none⟩ = some (.string x.1.drv) := hrx 5 _ rfl
    have c6 : wr.cell? ⟨g, o + j * 10 + 6, none⟩ = some (.string x.1.ali) := hrx 6 _ rfl
    have c7 : wr.cell? ⟨g, o + j * 10 + 7, none⟩ = some (.int .i64 x.1.kind) := hrx 7 _ rfl
    have c8 : wr.cell? ⟨g, o + j * 10 + 8, none⟩ = some (.int .i64 x.1.num) := hrx 8 _ rfl
    have c9 : wr.cell? ⟨g, o + j * 10 + 9, none⟩ = some (x.2) := hrx 9 _ rfl
    have hh := hIt.im.has q hq
    have hat' := hIt.im.val q j hq hp
    rw [hp] at hh
    have Hh := Lib.hid hh
    have Hat := Lib.hid hat'
    have Hys := Lib.hid hys2
    have Hq := Lib.hid (keyI hq)
    have HIt := Lib.hid hIt
    have Hwx := Lib.hid (hwl x hxm)
    have Hr := Lib.hid (fun W' (hb : Below n₀ wr W') => (hb.cell (p := ⟨g, o + j * 10 + 1, none⟩) hg).trans c1)
    clear hh hys hys2 hp hJs hIt hI hat' hrx hr hx
    unfold adE at hy
    dsimp only at hy
    gi_wp2_with (gi_at_lookup; refine wpListIn_lookup_own_ok_int _ rfl _ _ 82 rfl 3 3 .i64 lawI Tryz.underlying82 Tryz.underlying3 (Tryz.zeroValue3 _) M N D rfl HO.out _ _ rfl Hq.out ?_; intro c hat hwc; rw [Hh.out]; rw [Hat.out] at hat; obtain rfl : (j : Int) = c := (by simpa using hat); clear hat hwc)
    refine hR.mono ?_
    rintro e W3 (⟨rfl, hJ3, hk3⟩ | ⟨rfl, hJx3⟩)
    ·have HI3 := Lib.hid (HIt.out.keep hk3)
     have bv := HI3.out.bv
     have v0 := HI3.out.v0
     have c1 := Hr.out _ hk3
     gi_wp2
     go_roundw
     case rel => exact ⟨k + 1, x.1.par, ys ++ [⟨x, hxm⟩], by omega, rfl, rfl, Hwx.out, Hys.out, by simp [hyl], hJ3, HI3.out⟩
     case measure => simp [intOf]; omega
    ·gi_wp2
     refine bodyPost_ret (results_none rfl _ _ _) rfl ?_
     exact ⟨⟨_, rfl⟩, .inr ⟨_, hJx3⟩⟩
  ·obtain rfl : k = 7 := by omega
   have hys2 : ys.map (fun p : AD l => p.1) = ancL l 7 par := by rw [← hys]; simp [ancL]
   gi_wp2
   go_end0
   exact ⟨⟨_, rfl⟩, .inl ⟨_, hys2, hJs⟩⟩
end Go.Proofs.YtldcediiobfhiaaGreatDoor.De
namespace Go.Proofs.YtldcediiobfhiaaGreatDoor.De
open Go.RowKit Go.Shelf Go.Maps
attribute [local go_sem] Oper.semAt_some
theorem anc_stops (F : Fence) (n : Nat) (h7 : F.fn 110) (hro : F.round = none) (hn : 1 ≤ n) (n₀ Bd Bv V M N c : Nat) (par : Int) (a : Option Addr) (l : List DV) (D : DataW Unit) (w : World)
  (hwf : (Lit.int .i64 par).wf = true) (hwl : ∀ x ∈ l, (Lit.int .i64 x.1.par).wf = true) (hn₀ : n₀ ≤ w.heap.size) (hI : It n₀ w Bd Bv V M N c par a l D) :
  SeqStopsK F n Tryz.prog 110 #[.pointer (some ⟨Bd, 0, none⟩), .pointer (some ⟨Bv, 0, none⟩)] (adE (l := l)) (Below n₀) (fun ys => ys.map (fun p : AD l => p.1) = ancL l 7 par) (fun _ => True) 7 w := fun lo J Jx W hW _ _ hY h0 => by
 refine (anc1_in F n h7 hro hn lo n₀ Bd Bv V M N c par a l D J Jx hwf hwl hY W (hI.keep (hW.mono hn₀)) h0).mono ?_
 rintro e W' ⟨he, ⟨ys, hys, hj⟩ | ⟨pre, hj⟩⟩
 ·exact ⟨he, .inl ⟨ys, hys, hj⟩⟩
 ·exact ⟨he, .inr ⟨pre, trivial, hj⟩⟩
def valsA {l : List DV} (pre : List (AD l)) : List DV := pre.map (fun p : AD l => p.1)
theorem valsA_snoc {l : List DV} (pre : List (AD l)) (x : AD l) : dvsC (valsA (pre ++ [x])) = dvsC (valsA pre) ++ dvC x.1.1 x.1.2 := by
 unfold valsA
 rw [List.map_append, dvsC_append]
 simp [dvsC]
theorem valsA_len {l : List DV} (pre : List (AD l)) : (valsA pre).length = pre.length := by simp [valsA]
set_option maxRecDepth 100000 in
set_option maxHeartbeats 4000000 in
theorem appendSeq_any (w : World) (Bd Bv V M N c : Nat) (par : Int) (a : Option Addr) (l : List DV) (D : DataW Unit)
  (hwf : (Lit.int .i64 par).wf = true) (hwl : ∀ x ∈ l, (Lit.int .i64 x.1.par).wf = true) (hsl : ∀ x ∈ l, ∃ b n c, x.2 = .slice b n c) (hI : It w.heap.size w Bd Bv V M N c par a l D) :
  Calls Tryz.prog 109 #[.slice none 0 0, .func (.func 110) #[] #[.pointer (some ⟨Bd, 0, none⟩), .pointer (some ⟨Bv, 0, none⟩)]] w fun e w' => ∃ u, e = .returned u ∧ w'.ownsRow w.heap.size 34 10 u (ancL l 7 par).length (dvsC (ancL l 7 par)) ∧ Below w.heap.size w w' := by
 obtain ⟨i0, hi0, hz0, hz1, hz2⟩ := info_parts info34
 refine (callsIn_wide (n := 5)).1 ?_
 refine callsIn_of_wp_marks Tryz.func109 rfl trivial (wpIn_wide.2 ?_) rfl
 simp only [Tryz.ntmps109, List.size_toArray, List.length_cons, List.length_nil, Nat.reduceAdd, Nat.reduceSub, Array.replicate_succ, Array.replicate_zero, List.push_toArray, List.append_toArray, List.nil_append, List.cons_append]
 go_wp2
 obtain ⟨Bs, hBs⟩ : ∃ B, w.heap.size = B := ⟨_, rfl⟩
 have bO := Boxed.new w 22 (.slice none 0 0)
 have hB0 : Below w.heap.size w (w.alloc (.cells #[.slice none 0 0] 22)) := (Below.refl _ w).alloc (Nat.le_refl _) _
 have hsz : (w.alloc (.cells #[.slice none 0 0] 22)).heap.size = Bs + 1 := by simp [hBs]
 generalize hW1 : w.alloc (.cells #[.slice none 0 0] 22) = w1 at *
 have hI1 := hI.keep hB0
 rw [hBs] at bO hB0 hI1 ⊢
 refine (wpIn_wide (n := 5)).1 (wpIn_rangeFunc_ownH (F := Fence.wide) rfl (by omega : 1 ≤ 5) (gf := 110) (lb := #[.pointer (some ⟨Bd, 0, none⟩), .pointer (some ⟨Bv, 0, none⟩)]) rfl trivial (enters_of Tryz.func110 (by kernel_rfl) rfl)
  (anc_stops Fence.wide 4 trivial rfl (by omega) Bs Bd Bv V M N c par a l D w1 hwf hwl (by omega) hI1) belowK_t (belowK_b (by omega)) (Below.refl _ _) (fun _ => rfl)
  (fun pre W => (∃ v, Boxed W Bs 22 v ∧ W.ownsRow Bs 34 10 v pre.length (dvsC (valsA pre)) ∧ True) ∧ Below Bs w W) (fun _ _ _ => False)
  (OwnFrom.and (Own.from (holdsRow_own Bs Bs 22 34 10 (fun pre : List (AD l) => pre.length) (fun pre => dvsC (valsA pre)) (fun _ _ => True)) _) (ownFrom_below (by omega) (by omega))) (fun _ _ _ _ _ hs _ _ => hs)
  ⟨⟨_, bO, World.ownsRow_nil _ _ _ _, trivial⟩, hB0⟩
  (fun x a' W => ∃ Bx, Bs < Bx ∧ BoxAt W Bx (dvC x.1.1 x.1.2).toArray ∧ a' = { tmps := #[.slice none 0 0, .func (.func 110) #[] #[.pointer (some ⟨Bd, 0, none⟩), .pointer (some ⟨Bv, 0, none⟩)], .pointer (some ⟨Bs, 0, none⟩), undef, .slice none 0 0, .pointer (some ⟨Bx, 0, none⟩), .func (.func 110) #[] #[.pointer (some ⟨Bd, 0, none⟩), .pointer (some ⟨Bv, 0, none⟩)], .agg (dvC x.1.1 x.1.2).toArray, undef, undef, undef, undef, undef], defers := [] })
  ?hAx ?assign ?body ?done ?stop)
 case hAx =>
  intro x a' _ A B row hs hg hr
  obtain ⟨Bx, h1, h2, h3⟩ := hs
  refine ⟨Bx, h1, (hg.block Bx (block_lt h2) fun e => ?_).trans h2, h3⟩
  obtain ⟨_, o, ho, hc⟩ := hr Bx e.symm
  unfold BoxAt at h2
  rw [h2] at ho
  cases ho
  cases hc
 case assign =>
  intro lo pre x W K hi hK
  obtain ⟨⟨ad, v⟩, hx⟩ := x
  obtain ⟨b, n, c, hv⟩ := hsl _ hx
  simp only at hv
  subst hv
  unfold adE
  unfold dvC at hK
  gi_wp2
  obtain ⟨⟨u, hu, hrow, -⟩, hB⟩ := hi
  refine hK _ _ ((KeepsOthers.alloc _ _).from _) ((Below.refl Bs W).alloc (by have := hu.lt; omega) _) ⟨⟨u, hu.alloc _, hrow.alloc _, trivial⟩, hB.alloc (by have := hu.lt; omega) _⟩ ⟨W.heap.size, hu.lt, heap_alloc_last _ _, rfl⟩
 case body =>
  rintro lo pre x a' W hl' _ ⟨⟨v, hv, hrow, -⟩, hB⟩ ⟨Bx, hBx, hRA, rfl⟩ hlt
  have hc := hv.cell
  obtain ⟨y, hxy⟩ : ∃ y, x.1.1 = y := ⟨_, rfl⟩
  obtain ⟨xv, hxv⟩ : ∃ y, x.1.2 = y := ⟨_, rfl⟩
  obtain ⟨b, n, c', hv2⟩ := hsl x.1 x.2
  rw [hxv] at hv2
  have hone := Lib.hid (show ∀ u ∈ dvC y xv, u.oneCell' = true from dvC_one (by rw [hv2]; rfl))
  have hvs := valsA_snoc pre x
  rw [hxy, hxv] at hRA hvs ⊢
  have HVS := Lib.hid hvs
  have HRA := Lib.hid (fun i => hRA.cell i)
  have HRb := Lib.hid hRA
  have HI2 := Lib.hid (show (Tryz.prog.info? 34).map (·.size) = some (dvC y xv).toArray.size from info34b)
  have d0 : W.cell? ⟨Bx, 0, none⟩ = some (.int .i64 y.idx) := HRA.out 0
  have d1 : W.cell? ⟨Bx, 1, none⟩ = some (.int .i64 y.par) := HRA.out 1
  have d2 : W.cell? ⟨Bx, 2, none⟩ = some (.string y.name) := HRA.out 2
  have d3 : W.cell? ⟨Bx, 3, none⟩ = some (.string y.orig) := HRA.out 3
  have d4 : W.cell? ⟨Bx, 4, none⟩ = some (.string y.sub) := HRA.out 4
  have d5 : W.cell? ⟨Bx, 5, none⟩ = some (.string y.drv) := HRA.out 5
  have d6 : W.cell? ⟨Bx, 6, none⟩ = some (.string y.ali) := HRA.out 6
  have d7 : W.cell? ⟨Bx, 7, none⟩ = some (.int .i64 y.kind) := HRA.out 7
  have d8 : W.cell? ⟨Bx, 8, none⟩ = some (.int .i64 y.num) := HRA.out 8
  have d9 : W.cell? ⟨Bx, 9, none⟩ = some (xv) := HRA.out 9
  clear hRA hvs hxy hxv
  subst hv2
  gi_wp2_with (gi_at_builtin; refine wpListIn_append_own _ rfl _ _ 22 rfl Bs 34 i0 _ 10 136 Tryz.underlying22 hi0 hz0 hz1 hz2 rfl (by decide) _ _ _ rfl (hrow.alloc _) ⟨W.heap.size, 0, none⟩ 1 1 (dvC y _) rfl rfl (cells_new _ _ _) hone.out (by unfold maxLen; omega) (by omega) (by have := hB.size; simp; omega) ?_; intro v' w1 hown' hgrow _; obtain ⟨g', cap', rfl⟩ := ownsRow_succ hown'; obtain ⟨hv1, hv2, hr2, hk2, hb2⟩ := hv.appended (by decide) hrow (by have := hv.lt; omega) (Nat.le_refl _) hown' hgrow; have hc1 := hv1.cell; have hf1 := hv1.frozen)
  refine ⟨hk2.from _, hb2, ⟨_, hv2, ?_, trivial⟩, hB.trans hb2⟩
  rw [HVS.out, List.length_append]
  exact hr2
 case done =>
  rintro Dd xs W hD hxs ⟨⟨v, hv, hrow, -⟩, hB⟩ hK
  have hc := hv.cell
  have hxl : valsA xs = ancL l 7 par := hxs
  have hrow2 := ownsRow_putObj hrow (.deferred none) hK rfl
  rw [hxl, ← valsA_len, hxl] at hrow2
  have HR := Lib.hid hrow2
  have HB := Lib.hid (hB.trans (belowK_b (w := w) (n₀ := Bs) (by omega) W Dd _ (.deferred none) (by omega) hK rfl rfl))
  go_wp2
  refine ⟨by simp, .inl ⟨_, _, rfl, run_takeDeferred hK, ?_⟩⟩
  exact ⟨_, results_tmp rfl _ _ _, v, rfl, by rw [hBs]; exact HR.out, by rw [hBs]; exact HB.out⟩
 case stop =>
  intro D cd pre W _ _ h
  exact h.elim
end Go.Proofs.YtldcediiobfhiaaGreatDoor.De
