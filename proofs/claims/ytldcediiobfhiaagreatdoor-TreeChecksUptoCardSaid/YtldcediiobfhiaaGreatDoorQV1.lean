/- The iterator over the ancestors of a device, where the rounds write a block that lies below what it reads. The path to a device. trailOf, Origin, Path. -/
import Derived.Test.YtldcediiobfhiaaGreatDoorQGG
import Derived.Test.YtldcediiobfhiaaGreatDoorQDf
import Derived.Stop.RegionWithIn
import Derived.Test.YtldcediiobfhiaaGreatDoorQMg
namespace Go.Proofs.YtldcediiobfhiaaGreatDoor.De
open Go.RowKit Go.Shelf Go.Maps
attribute [local go_sem] Oper.semAt_some
/-- What a round keeps: what lies below n but for block B. -/
def Kx (B n : Nat) (A C : World) : Prop := A.heap.size ≤ C.heap.size ∧ ∀ k, k < A.heap.size → k < n → k ≠ B → C.heap[k]? = A.heap[k]?
theorem Kx.refl (B n : Nat) (W : World) : Kx B n W W := ⟨Nat.le_refl _, fun _ _ _ _ => rfl⟩
theorem Kx.trans {B n : Nat} {A C D : World} (h : Kx B n A C) (g : Kx B n C D) : Kx B n A D := ⟨Nat.le_trans h.1 g.1, fun k hk h1 h2 => (g.2 k (Nat.lt_of_lt_of_le hk h.1) h1 h2).trans (h.2 k hk h1 h2)⟩
theorem Kx.of_kp {B n : Nat} {A C : World} (h : Kp [] A C) : Kx B n A C := ⟨h.size, fun k hk _ _ => h.block k hk (by simp)⟩
theorem Kx.set {B n : Nat} (W : World) (v : Value) : Kx B n W (W.setCell ⟨B, 0, none⟩ v) := ⟨by simp [World.setCell], fun _ _ _ hc => Below.heap_setCell _ _ _ _ hc⟩
theorem Kx.cell {B n : Nat} {A C : World} (h : Kx B n A C) {p : Addr} (h1 : p.block < n) (h2 : p.block ≠ B) {v : Value} (hv : A.cell? p = some v) : C.cell? p = some v := by
 have hl : p.block < A.heap.size := World.block_lt_of_cell? _ _ hv
 simp only [World.cell?, h.2 _ hl h1 h2] at hv ⊢
 exact hv
theorem kx_t {B n : Nat} {A C D : World} (h : Kx B n A C) (g : Kx B n C D) : Kx B n A D := h.trans g
theorem kx_b {B n : Nat} {w : World} (hn : n ≤ w.heap.size) (W : World) (l : Nat) (o o' : Obj) (hl : w.heap.size ≤ l) (_ : W.heap[l]? = some o) (_ : o.isCells = false) (_ : o.isWalk = false) : Kx B n W (W.putObj l o') :=
 ⟨by simp, fun k _ h1 _ => World.putObj_heap_other (by omega)⟩
/-- What the iterator reads does not lie in block B. -/
structure ItN (B : Nat) (n₀ : Nat) (W : World) (Bd Bv V M N c : Nat) (par : Int) (a : Option Addr) (l : List DV) (D : DataW Unit) : Prop where
 it : It n₀ W Bd Bv V M N c par a l D
 nd : Bd ≠ B
 nv : Bv ≠ B
 nV : V ≠ B
 nM : M ≠ B
 nr : l ≠ [] → ∀ g o, a = some ⟨g, o, none⟩ → g ≠ B
theorem ItN.keep {B n₀ : Nat} {W W' : World} {Bd Bv V M N c : Nat} {par : Int} {a : Option Addr} {l : List DV} {D : DataW Unit} (h : ItN B n₀ W Bd Bv V M N c par a l D) (hb : Kx B n₀ W W') : ItN B n₀ W' Bd Bv V M N c par a l D :=
 ⟨⟨hb.cell (p := ⟨Bd, 1, none⟩) h.it.hd h.nd h.it.bd, h.it.hd, hb.cell (p := ⟨Bv, 0, none⟩) h.it.hv h.nv h.it.bv, h.it.hv, hb.cell (p := ⟨V, 0, none⟩) h.it.hV h.nV h.it.v0, hb.cell (p := ⟨V, 1, none⟩) h.it.hV h.nV h.it.v1, h.it.hV,
  h.it.im.kept (hb.2 M h.it.im.lt h.it.hM h.nM), h.it.hM, h.it.len, fun hl => by
   obtain ⟨g, o, e, hg, hr⟩ := h.it.row hl
   exact ⟨g, o, e, hg, fun j x hx m v hv => hb.cell (p := ⟨g, o + j * 10 + m, none⟩) hg (h.nr hl g o e) (hr j x hx m v hv)⟩⟩, h.nd, h.nv, h.nV, h.nM, h.nr⟩
set_option maxRecDepth 100000 in
set_option maxHeartbeats 4000000 in
theorem anc2_in (F : Fence) (n : Nat) (h7 : F.fn 110) (hro : F.round = none) (hn : 1 ≤ n) (lo Bq n₀ Bd Bv V M N c : Nat) (par : Int) (a : Option Addr) (l : List DV) (D : DataW Unit) (J Jx : List (AD l) → World → Prop)
  (hwf : (Lit.int .i64 par).wf = true) (hwl : ∀ x ∈ l, (Lit.int .i64 x.1.par).wf = true)
  (hY : ∀ pre x W, J pre W → pre.length < 7 → YieldAt F (n - 1) Tryz.prog lo (adE x) W fun e W' =>
   (e = .returned (.bool true) ∧ J (pre ++ [x]) W' ∧ Kx Bq n₀ W W') ∨ (e = .returned (.bool false) ∧ Jx (pre ++ [x]) W'))
  (W : World) (hI : ItN Bq n₀ W Bd Bv V M N c par a l D) (h0 : J [] W) :
  CallsIn F n Tryz.prog 110 #[.func (.yield lo) #[] #[], .pointer (some ⟨Bd, 0, none⟩), .pointer (some ⟨Bv, 0, none⟩)] W fun e W' => (∃ v, e = .returned v) ∧
   ((∃ ys, ys.map (fun p : AD l => p.1) = ancL l 7 par ∧ J ys W') ∨ (∃ pre, Jx pre W')) := by
 have hb1 := hI.it.bd
 refine callsIn_of_wp Tryz.func110 rfl h7 ?_ hro
 simp only [Tryz.ntmps110, List.size_toArray, List.length_cons, List.length_nil, Nat.reduceAdd, Nat.reduceSub, Array.replicate_succ, Array.replicate_zero, List.push_toArray, List.append_toArray, List.nil_append, List.cons_append]
 gi_wp2
 gi_loopw [4, 9] (fun p s wr => ∃ (k : Nat) (q : Int) (ys : List (AD l)), k ≤ 7 ∧ s = .int .i64 (k : Int) ∧ p = .int .i64 q ∧ (Lit.int .i64 q).wf = true ∧ ys.map (fun p : AD l => p.1) ++ ancL l (7 - k) q = ancL l 7 par ∧ ys.length = k ∧ J ys wr ∧ ItN Bq n₀ wr Bd Bv V M N c par a l D)
  (fun _ s _ => 7 - (intOf s).toNat)
 case atStart => exact ⟨0, par, [], Nat.zero_le _, rfl, rfl, hwf, rfl, rfl, h0, hI⟩
 case round =>
  obtain ⟨k, q, ys, hk, rfl, rfl, hq, hys, hyl, hJs, hIt⟩ := hrel
  have bv := hIt.it.bv
  have v0 := hIt.it.v0
  have v1 := hIt.it.v1
  have HO := Lib.hid hIt.it.im.own
  by_cases hlt : k < 7
  ·have hk7 : (k : Int) < 7 := by omega
   cases hp : lastI (l.map (·.1)) q with
   | none =>
    have hh := hIt.it.im.has q hq
    rw [hp] at hh
    have Hh := Lib.hid hh
    have hys2 : ys.map (fun p : AD l => p.1) = ancL l 7 par := by rw [← hys, ancL_none hp, List.append_nil]
    have Hys := Lib.hid hys2
    have HJ := Lib.hid hJs
    have Hq := Lib.hid (keyI hq)
    clear hh hys hys2 hp hJs hIt hI
    gi_wp2_with (gi_at_lookup; refine wpListIn_lookup_own_ok_int _ rfl _ _ 82 rfl 3 3 .i64 lawI Tryz.underlying82 Tryz.underlying3 (Tryz.zeroValue3 _) M N D rfl HO.out _ _ rfl Hq.out ?_; intro c hat hwc; rw [Hh.out]; clear hat hwc)
    refine ⟨fun _ h => (by cases h), ?_⟩
    gi_wp2
    refine bodyPost_ret (results_none rfl _ _ _) rfl ?_
    exact ⟨⟨_, rfl⟩, .inl ⟨_, Hys.out, HJ.out⟩⟩
   | some j =>
    obtain ⟨y, hy, -⟩ := lastI_some hp
    rw [List.getElem?_map, Option.map_eq_some_iff] at hy
    obtain ⟨x, hx, -⟩ := hy
    have hxm := List.mem_of_getElem? hx
    have hjN : j < N := by rw [← hIt.it.len]; exact (List.getElem?_eq_some_iff.1 hx).1
    have hjz : (j : Int) < (N : Int) := by omega
    obtain ⟨g, o, rfl, hg, hr⟩ := hIt.it.row (by rintro rfl; simp at hx)
    have hys2 : (ys ++ [(⟨x, hxm⟩ : AD l)]).map (fun p : AD l => p.1) ++ ancL l (7 - (k + 1)) x.1.par = ancL l 7 par := by
     rw [← hys, show 7 - k = (7 - (k + 1)) + 1 by omega, ancL_some hp hx]
     simp
    obtain ⟨fn, tmps, assign, body, hy, hR⟩ := hY ys ⟨x, hxm⟩ wr hJs (by omega)
    have hrx := hr j x hx
    have c0 : wr.cell? ⟨g, o + j * 10, none⟩ = some (.int .i64 x.1.idx) := hrx 0 _ rfl
    have c1 : wr.cell? ⟨g, o + j * 10 + 1, none⟩ = some (.int .i64 x.1.par) := hrx 1 _ rfl
    have c2 : wr.cell? ⟨g, o + j * 10 + 2, none⟩ = some (.string x.1.name) := hrx 2 _ rfl
    have c3 : wr.cell? ⟨g, o + j * 10 + 3, none⟩ = some (.string x.1.orig) := hrx 3 _ rfl
    have c4 : wr.cell? ⟨g, o + j * 10 + 4, none⟩ = some (.string x.1.sub) := hrx 4 _ rfl
    have c5 : wr.cell? ⟨g, o + j * 10 + 5, none⟩ = some (.string x.1.drv) := hrx 5 _ rfl
    have c6 : wr.cell? ⟨g, o + j * 10 + 6, none⟩ = some (.string x.1.ali) := hrx 6 _ rfl
    have c7 : wr.cell? ⟨g, o + j * 10 + 7, none⟩ = some (.int .i64 x.1.kind) := hrx 7 _ rfl
    have c8 : wr.cell? ⟨g, o + j * 10 + 8, none⟩ = some (.int .i64 x.1.num) := hrx 8 _ rfl
    have c9 : wr.cell? ⟨g, o + j * 10 + 9, none⟩ = some (x.2) := hrx 9 _ rfl
    have hh := hIt.it.im.has q hq
    have hat' := hIt.it.im.val q j hq hp
    rw [hp] at hh
    have Hh := Lib.hid hh
    have Hat := Lib.hid hat'
    have Hys := Lib.hid hys2
    have Hq := Lib.hid (keyI hq)
    have HIt := Lib.hid hIt
    have Hwx := Lib.hid (hwl x hxm)
    have Hr := Lib.hid (fun W' (hb : Kx Bq n₀ wr W') => hb.cell (p := ⟨g, o + j * 10 + 1, none⟩) hg (hIt.nr (by rintro rfl; simp at hx) g o rfl) c1)
    clear hh hys hys2 hp hJs hIt hI hat' hrx hr hx
    unfold adE at hy
    dsimp only at hy
    gi_wp2_with (gi_at_lookup; refine wpListIn_lookup_own_ok_int _ rfl _ _ 82 rfl 3 3 .i64 lawI Tryz.underlying82 Tryz.underlying3 (Tryz.zeroValue3 _) M N D rfl HO.out _ _ rfl Hq.out ?_; intro c hat hwc; rw [Hh.out]; rw [Hat.out] at hat; obtain rfl : (j : Int) = c := (by simpa using hat); clear hat hwc)
    refine hR.mono ?_
    rintro e W3 (⟨rfl, hJ3, hk3⟩ | ⟨rfl, hJx3⟩)
    ·have HI3 := Lib.hid (HIt.out.keep hk3)
     have bv := HI3.out.it.bv
     have v0 := HI3.out.it.v0
     have c1 := Hr.out _ hk3
     gi_wp2
     go_roundw
     case rel => exact ⟨k + 1, x.1.par, ys ++ [⟨x, hxm⟩], by omega, rfl, rfl, Hwx.out, Hys.out, by simp [hyl], hJ3, HI3.out⟩
     case measure => simp [intOf]; omega
    ·gi_wp2
     refine bodyPost_ret (results_none rfl _ _ _) rfl ?_
     exact ⟨⟨_, rfl⟩, .inr ⟨_, hJx3⟩⟩
  ·obtain rfl : k = 7 := by omega
   have hys2 : ys.map (fun p : AD l => p.1) = ancL l 7 par := by rw [← hys]; simp [ancL]
   gi_wp2
   go_end0
   exact ⟨⟨_, rfl⟩, .inl ⟨_, hys2, hJs⟩⟩
theorem anc2_stops (F : Fence) (n : Nat) (h7 : F.fn 110) (hro : F.round = none) (hn : 1 ≤ n) (Bq n₀ Bd Bv V M N c : Nat) (par : Int) (a : Option Addr) (l : List DV) (D : DataW Unit) (w : World)
  (hwf : (Lit.int .i64 par).wf = true) (hwl : ∀ x ∈ l, (Lit.int .i64 x.1.par).wf = true) (_hn₀ : n₀ ≤ w.heap.size) (hI : ItN Bq n₀ w Bd Bv V M N c par a l D) :
  SeqStopsK F n Tryz.prog 110 #[.pointer (some ⟨Bd, 0, none⟩), .pointer (some ⟨Bv, 0, none⟩)] (adE (l := l)) (Kx Bq n₀) (fun ys => ys.map (fun p : AD l => p.1) = ancL l 7 par) (fun _ => True) 7 w := fun lo J Jx W hW _ _ hY h0 => by
 refine (anc2_in F n h7 hro hn lo Bq n₀ Bd Bv V M N c par a l D J Jx hwf hwl hY W (hI.keep ⟨hW.size, fun k hk _ _ => hW.block k hk⟩) h0).mono ?_
 rintro e W' ⟨he, ⟨ys, hys, hj⟩ | ⟨pre, hj⟩⟩
 ·exact ⟨he, .inl ⟨ys, hys, hj⟩⟩
 ·exact ⟨he, .inr ⟨pre, trivial, hj⟩⟩
end Go.Proofs.YtldcediiobfhiaaGreatDoor.De
namespace Go.Proofs.YtldcediiobfhiaaGreatDoor.De
open Go.RowKit Go.Shelf Go.Maps
attribute [local go_sem] Oper.semAt_some
theorem keeps_kp0 {W W' : World} (g : Kp [] W W') : KeepsOthers W W' := ⟨g.size, fun j o h _ => (g.block j (block_lt h) (by simp)).trans h⟩
theorem trail_snoc (f : ADev → List UInt8) : ∀ (r : List ADev) (a : ADev) (t : List UInt8), trail f (r ++ [a]) t = 47 :: (f a ++ trail f r t)
 | [], _, _ => rfl
 | b :: r, a, t => by
  rw [List.cons_append, trail, trail, trail_snoc f r]
theorem own_box {β : Type} {n B : Nat} {P : ByteArray → β → Prop} {w : World} (h1 : B < n) (h2 : B ≤ w.heap.size) : OwnFrom n (fun (pre : β) W => ∃ u : ByteArray, Boxed W B 9 (.string u) ∧ P u pre ∧ Below B w W) := by
 rintro s A C row ⟨u, hb, hp, hB⟩ hg hr
 exact ⟨u, hb.kept hg (fun e => by have := (hr _ e.symm).1; omega), hp, ownFrom_below (β := Unit) h2 (Nat.le_of_lt h1) () A C row hB hg hr⟩
set_option maxRecDepth 100000 in
theorem origOf_any (a : ADev) (v : Value) (W : World) : Calls Tryz.prog 71 #[.agg #[.int .i64 a.idx, .int .i64 a.par, .string a.name, .string a.orig, .string a.sub, .string a.drv, .string a.ali, .int .i64 a.kind, .int .i64 a.num, v]] W fun e W' => e = .returned (.string a.orig) ∧ Kp [] W W' := by
 have HK := Lib.hid fun o => (Kp.refl [] W).alloc o
 go_enter Tryz.func71, Tryz.ntmps71
 go_wp2
 go_ret
 exact ⟨rfl, HK.out _⟩
set_option maxRecDepth 100000 in
theorem nameOf_any (a : ADev) (v : Value) (W : World) : Calls Tryz.prog 72 #[.agg #[.int .i64 a.idx, .int .i64 a.par, .string a.name, .string a.orig, .string a.sub, .string a.drv, .string a.ali, .int .i64 a.kind, .int .i64 a.num, v]] W fun e W' => e = .returned (.string a.name) ∧ Kp [] W W' := by
 have HK := Lib.hid fun o => (Kp.refl [] W).alloc o
 go_enter Tryz.func72, Tryz.ntmps72
 go_wp2
 go_ret
 exact ⟨rfl, HK.out _⟩
set_option maxRecDepth 100000 in
set_option maxHeartbeats 4000000 in
/-- The path to a device: its ancestors' names and its own. -/
theorem trail_orig {w : World} {V M : Nat} {sv : Value} {l : List DV} {D : DataW Unit} (hV : View w V sv M l D) (d : ADev) (dv : Value) (hdv : ∃ b n c, dv = .slice b n c) (hd : d.orig.size ≤ 300) (hs : ∀ x ∈ l, x.1.orig.size ≤ 300)
  (hwf : (Lit.int .i64 d.par).wf = true) (hwl : ∀ x ∈ l, (Lit.int .i64 x.1.par).wf = true) (hsl : ∀ x ∈ l, ∃ b n c, x.2 = .slice b n c) :
  Calls Tryz.prog 107 #[.pointer (some ⟨V, 0, none⟩), .agg (dvC d dv).toArray, .func (.func 71) #[] #[]] w fun e w' => ∃ u : ByteArray, e = .returned (.string u) ∧ u.data.toList = trail (fun e => e.orig.data.toList) ((ancL l 7 d.par).map (·.1)) (47 :: d.orig.data.toList) ∧ Kp [] w w' := by
 obtain ⟨b, n, c, rfl⟩ := hdv
 unfold dvC
 refine (callsIn_wide (n := 5)).1 ?_
 refine callsIn_of_wp_marks Tryz.func107 rfl trivial (wpIn_wide.2 ?_) rfl
 simp only [Tryz.ntmps107, List.size_toArray, List.length_cons, List.length_nil, Nat.reduceAdd, Nat.reduceSub, Array.replicate_succ, Array.replicate_zero, List.push_toArray, List.append_toArray, List.nil_append, List.cons_append]
 obtain ⟨w0, hw0⟩ : ∃ w0, w.alloc (.cells #[.int .i64 d.idx, .int .i64 d.par, .string d.name, .string d.orig, .string d.sub, .string d.drv, .string d.ali, .int .i64 d.kind, .int .i64 d.num, .slice b n c] 34) = w0 := ⟨_, rfl⟩
 obtain ⟨w1, hw1⟩ : ∃ w1, w0.alloc (.cells #[.func (.func 71) #[] #[]] 81) = w1 := ⟨_, rfl⟩
 obtain ⟨B4, hB4⟩ : ∃ B4, w.heap.size = B4 := ⟨_, rfl⟩
 obtain ⟨B5, hB5⟩ : ∃ B5, B4 + 1 = B5 := ⟨_, rfl⟩
 have hz0 : w0.heap.size = B5 := by rw [← hw0, ← hB5, ← hB4]; simp
 have hk1 : Kp [] w w1 := by rw [← hw1, ← hw0]; exact ((Kp.refl [] w).alloc _).alloc _
 have hb4 : w1.heap[B4]? = some (.cells #[.int .i64 d.idx, .int .i64 d.par, .string d.name, .string d.orig, .string d.sub, .string d.drv, .string d.ali, .int .i64 d.kind, .int .i64 d.num, .slice b n c] 34) := by
  rw [← hw1, heap_alloc_old _ _ (by omega), ← hw0, ← hB4]
  exact heap_alloc_last w _
 have hb5 : w1.heap[B5]? = some (.cells #[.func (.func 71) #[] #[]] 81) := by rw [← hw1, ← hz0]; exact heap_alloc_last w0 _
 have hk1w := hk1.size
 have HB4 := Lib.hid hb4
 have HB5 := Lib.hid hb5
 have HK1 := Lib.hid hk1
 have HBX := Lib.hid fun W (h : Kp [] w1 W) => show (W.cell? ⟨B4, 0, none⟩ = some (.int .i64 d.idx) ∧ W.cell? ⟨B4, 1, none⟩ = some (.int .i64 d.par) ∧ W.cell? ⟨B4, 2, none⟩ = some (.string d.name) ∧ W.cell? ⟨B4, 3, none⟩ = some (.string d.orig) ∧ W.cell? ⟨B4, 4, none⟩ = some (.string d.sub) ∧ W.cell? ⟨B4, 5, none⟩ = some (.string d.drv) ∧ W.cell? ⟨B4, 6, none⟩ = some (.string d.ali) ∧ W.cell? ⟨B4, 7, none⟩ = some (.int .i64 d.kind) ∧ W.cell? ⟨B4, 8, none⟩ = some (.int .i64 d.num) ∧ W.cell? ⟨B4, 9, none⟩ = some (.slice b n c) ∧ W.cell? ⟨B5, 0, none⟩ = some (.func (.func 71) #[] #[])) from by
  have e := (h.block _ (block_lt HB4.out) (by simp)).trans HB4.out
  have e5 := (h.block _ (block_lt HB5.out) (by simp)).trans HB5.out
  exact ⟨by rw [cell_of_row _ _ _ _ _ _ e]; rfl, by rw [cell_of_row _ _ _ _ _ _ e]; rfl, by rw [cell_of_row _ _ _ _ _ _ e]; rfl, by rw [cell_of_row _ _ _ _ _ _ e]; rfl, by rw [cell_of_row _ _ _ _ _ _ e]; rfl, by rw [cell_of_row _ _ _ _ _ _ e]; rfl, by rw [cell_of_row _ _ _ _ _ _ e]; rfl, by rw [cell_of_row _ _ _ _ _ _ e]; rfl, by rw [cell_of_row _ _ _ _ _ _ e]; rfl, by rw [cell_of_row _ _ _ _ _ _ e]; rfl, by rw [cell_of_row _ _ _ _ _ _ e5]; rfl⟩
 clear hb4 hb5 hk1
 have H71 := Lib.hid fun W => origOf_any d (.slice b n c) W
 obtain ⟨c0, c1, c2, c3, c4, c5, c6, c7, c8, c9, c10⟩ := HBX.out _ (Kp.refl _ _)
 have H76 := Lib.hid fun W => anc_any V d (.slice b n c) W
 unfold dvC at H76
 go_wp2_with (first
  | (go_at_call 76; refine Calls.mono (by with_reducible exact H76.out _) ?_; rintro e w4' ⟨rfl, rfl⟩)
  | (go_at_call 71; refine Calls.mono (by with_reducible exact H71.out _) ?_; rintro e w2 ⟨rfl, hk2⟩; clear c0 c1 c2 c3 c4 c5 c6 c7 c8 c9 c10; obtain ⟨B7, hB7⟩ : ∃ B7, w2.heap.size = B7 := ⟨_, rfl⟩; obtain ⟨w3, hw3⟩ : ∃ w3, w2.alloc (.cells #[.string (⟨#[47]⟩ ++ d.orig)] 9) = w3 := ⟨_, rfl⟩; have hk3 : Kp [] w1 w3 := (by rw [← hw3]; exact hk2.alloc _); have hb7 : Boxed w3 B7 9 (.string (⟨#[47]⟩ ++ d.orig)) := (by rw [← hw3, ← hB7]; exact Boxed.new w2 _ _); have hz3 : w3.heap.size = B7 + 1 := (by rw [← hw3, ← hB7]; simp); obtain ⟨c0, c1, c2, c3, c4, c5, c6, c7, c8, c9, c10⟩ := HBX.out _ hk3; have HK3 := Lib.hid hk3; have HB7 := Lib.hid hb7; have HZ7 := Lib.hid (show w1.heap.size ≤ B7 from (by rw [← hB7]; exact hk2.size)); clear hk2 hk3 hb7))
 obtain ⟨w4, hw4⟩ : ∃ w4, (w3.alloc (.cells #[.pointer (some ⟨V, 0, none⟩)] 64)).alloc (.cells #[.int .i64 d.idx, .int .i64 d.par, .string d.name, .string d.orig, .string d.sub, .string d.drv, .string d.ali, .int .i64 d.kind, .int .i64 d.num, .slice b n c] 34) = w4 := ⟨_, rfl⟩
 have hz4 : w4.heap.size = B7 + 3 := by rw [← hw4]; simp [hz3]
 have hk4 : Kp [] w3 w4 := by rw [← hw4]; exact ((Kp.refl [] w3).alloc _).alloc _
 have hbv : w4.heap[B7 + 1]? = some (.cells #[.pointer (some ⟨V, 0, none⟩)] 64 (0, 0)) := by rw [← hw4, ← hz3]; exact heap_alloc2_old w3 _ _
 have hbd : w4.heap[B7 + 1 + 1]? = some (.cells #[.int .i64 d.idx, .int .i64 d.par, .string d.name, .string d.orig, .string d.sub, .string d.drv, .string d.ali, .int .i64 d.kind, .int .i64 d.num, .slice b n c] 34 (0, 0)) := by rw [← hw4, ← hz3]; exact heap_alloc2_new w3 _ _
 have hkall : Kp [] w w4 := HK1.out.trans (HK3.out.trans hk4)
 have hVl := block_lt hV.box
 have hMl := hV.map.lt
 have hz7 := HZ7.out
 obtain ⟨av, cv, rfl, hrv⟩ := hV.dev.form
 have hIt : It (B7 + 3) w4 (B7 + 1 + 1) (B7 + 1) V M l.length cv d.par av l D :=
  ⟨by rw [cell_of_row _ _ _ _ _ _ hbd]; rfl, by omega, by rw [cell_of_row _ _ _ _ _ _ hbv]; rfl, by omega,
   by rw [cell_of_row _ _ _ _ _ _ ((hkall.block V hVl (by simp)).trans hV.box)]; rfl, by rw [cell_of_row _ _ _ _ _ _ ((hkall.block V hVl (by simp)).trans hV.box)]; rfl, by omega,
   hV.map.kept (hkall.block M hMl (by simp)), by omega, rfl, fun hne => by
   obtain ⟨g, o, e, _, hg, hr⟩ := hrv hne
   exact ⟨g, o, e, by omega, fun j y hy m v hv => by
    have := hr.at_ j y hy m v hv
    simp only [World.cell?, hkall.block g hg (by simp)] at this ⊢
    exact this⟩⟩
 have hItN : ItN B7 (B7 + 3) w4 (B7 + 1 + 1) (B7 + 1) V M l.length cv d.par av l D :=
  ⟨hIt, by omega, by omega, by omega, by omega, fun hne g o e => by
   obtain ⟨g', o', e', _, hg, _⟩ := hrv hne
   rw [e] at e'
   cases e'
   omega⟩
 rw [hw4]
 have HK4 := Lib.hid hk4
 have HKA := Lib.hid hkall
 have HZ4 := Lib.hid hz4
 have hFN := (HBX.out w4 (HK3.out.trans hk4)).2.2.2.2.2.2.2.2.2.2
 have HFN := Lib.hid hFN
 have HWZ := Lib.hid (show w.heap.size ≤ B7 by omega)
 have hbx0 : Boxed w4 B7 9 (.string (⟨#[47]⟩ ++ d.orig)) := (hk4.block B7 (by omega) (by simp)).trans HB7.out
 have h5lt : B5 < B7 := by have := block_lt HB5.out; omega
 have hds : (⟨#[47]⟩ ++ d.orig : ByteArray).data.toList = 47 :: d.orig.data.toList := by rw [ByteArray.data_append]; simp
 have hdz : (⟨#[47]⟩ ++ d.orig : ByteArray).size ≤ 301 := by rw [ByteArray.size_append]; have : (⟨#[47]⟩ : ByteArray).size = 1 := rfl; omega
 clear c0 c1 c2 c3 c4 c5 c6 c7 c8 c9 c10 hFN hbv hbd hIt hrv hw4 hk4 hkall
 refine (wpIn_wide (n := 5)).1 (wpIn_rangeFunc_ownH (F := Fence.wide) rfl (by omega : 1 ≤ 5) (gf := 110) (lb := #[.pointer (some ⟨B7 + 1 + 1, 0, none⟩), .pointer (some ⟨B7 + 1, 0, none⟩)]) rfl trivial (enters_of Tryz.func110 (by kernel_rfl) rfl)
  (anc2_stops Fence.wide 4 trivial rfl (by omega) B7 (B7 + 3) (B7 + 1 + 1) (B7 + 1) V M l.length cv d.par av l D w4 hwf hwl (by omega) hItN) kx_t (kx_b (by omega)) (Below.refl _ _) (fun _ => rfl)
  (fun pre W => ∃ u : ByteArray, Boxed W B7 9 (.string u) ∧ (u.data.toList = trail (fun e => e.orig.data.toList) ((valsA pre).map (·.1)) (47 :: d.orig.data.toList) ∧ u.size ≤ 301 * (pre.length + 1)) ∧ Below B7 w4 W) (fun _ _ _ => False)
  (own_box (by omega) (by omega)) (fun _ _ _ _ _ hs _ _ => hs)
  ⟨_, hbx0, ⟨hds, by simpa using hdz⟩, Below.refl _ _⟩
  (fun x a' W => ∃ Bx, B7 < Bx ∧ BoxAt W Bx (dvC x.1.1 x.1.2).toArray ∧ a' = { tmps := #[.pointer (some ⟨V, 0, none⟩), .agg #[.int .i64 d.idx, .int .i64 d.par, .string d.name, .string d.orig, .string d.sub, .string d.drv, .string d.ali, .int .i64 d.kind, .int .i64 d.num, .slice b n c], .func (.func 71) #[] #[], undef, .pointer (some ⟨B4, 0, none⟩), .pointer (some ⟨B5, 0, none⟩), .string ⟨#[]⟩, .pointer (some ⟨B7, 0, none⟩), .pointer (some ⟨Bx, 0, none⟩), .func (.func 71) #[] #[], .agg #[.int .i64 d.idx, .int .i64 d.par, .string d.name, .string d.orig, .string d.sub, .string d.drv, .string d.ali, .int .i64 d.kind, .int .i64 d.num, .slice b n c], .string d.orig, .string (⟨#[47]⟩ ++ d.orig), .pointer (some ⟨V, 0, none⟩), .agg #[.int .i64 d.idx, .int .i64 d.par, .string d.name, .string d.orig, .string d.sub, .string d.drv, .string d.ali, .int .i64 d.kind, .int .i64 d.num, .slice b n c], .func (.func 110) #[] #[.pointer (some ⟨B7 + 1 + 1, 0, none⟩), .pointer (some ⟨B7 + 1, 0, none⟩)], .agg (dvC x.1.1 x.1.2).toArray, undef, undef, undef, undef, undef, undef, undef], defers := [] })
  ?hAx ?assign ?body ?done ?stop)
 case hAx =>
  intro x a' _ A B row hs hg hr
  obtain ⟨Bx, h1, h2, h3⟩ := hs
  refine ⟨Bx, h1, (hg.block Bx (block_lt h2) fun e => ?_).trans h2, h3⟩
  obtain ⟨_, o, ho, hc⟩ := hr Bx e.symm
  unfold BoxAt at h2
  rw [h2] at ho
  cases ho
  cases hc
 case assign =>
  intro lo pre x W K hi hK
  obtain ⟨⟨ad, v⟩, hx⟩ := x
  obtain ⟨xb, xn, xc, hv⟩ := hsl _ hx
  simp only at hv
  subst hv
  unfold adE
  unfold dvC at hK
  gi_wp2
  obtain ⟨u, hu, hp, hB⟩ := hi
  have hlt := hu.lt
  exact hK _ _ ((KeepsOthers.alloc _ _).from _) (Kx.of_kp ((Kp.refl [] W).alloc _)) ⟨u, hu.alloc _, hp, hB.alloc (by omega) _⟩ ⟨W.heap.size, hlt, heap_alloc_last _ _, rfl⟩
 case body =>
  rintro lo pre x a' W hl' _ ⟨u, hu, ⟨hu1, hu2⟩, hB⟩ ⟨Bx, hBx, hRA, rfl⟩ hlt
  have hcb := hu.cell
  have hfb := hu.frozen
  have hxs : x.1.1.orig.size ≤ 300 := hs x.1 x.2
  have hfn := (hB.cell (p := ⟨B5, 0, none⟩) h5lt).trans HFN.out
  have htl := trail_snoc (fun e : ADev => e.orig.data.toList) ((valsA pre).map (·.1)) x.1.1 (47 :: d.orig.data.toList)
  have hvs : (valsA (pre ++ [x])).map (·.1) = (valsA pre).map (·.1) ++ [x.1.1] := by simp [valsA]
  rw [← hvs, ← hu1] at htl
  obtain ⟨y, hxy⟩ : ∃ y, x.1.1 = y := ⟨_, rfl⟩
  obtain ⟨xb, xn, xc, hv2⟩ := hsl x.1 x.2
  rw [hxy] at hRA hxs htl ⊢
  rw [hv2] at hRA ⊢
  have d0 : W.cell? ⟨Bx, 0, none⟩ = some (.int .i64 y.idx) := hRA.cell 0
  have d1 : W.cell? ⟨Bx, 1, none⟩ = some (.int .i64 y.par) := hRA.cell 1
  have d2 : W.cell? ⟨Bx, 2, none⟩ = some (.string y.name) := hRA.cell 2
  have d3 : W.cell? ⟨Bx, 3, none⟩ = some (.string y.orig) := hRA.cell 3
  have d4 : W.cell? ⟨Bx, 4, none⟩ = some (.string y.sub) := hRA.cell 4
  have d5 : W.cell? ⟨Bx, 5, none⟩ = some (.string y.drv) := hRA.cell 5
  have d6 : W.cell? ⟨Bx, 6, none⟩ = some (.string y.ali) := hRA.cell 6
  have d7 : W.cell? ⟨Bx, 7, none⟩ = some (.int .i64 y.kind) := hRA.cell 7
  have d8 : W.cell? ⟨Bx, 8, none⟩ = some (.int .i64 y.num) := hRA.cell 8
  have d9 : W.cell? ⟨Bx, 9, none⟩ = some (.slice xb xn xc) := hRA.cell 9
  have HU := Lib.hid hu
  have HTL := Lib.hid htl
  have HB := Lib.hid hB
  have HY := Lib.hid fun W => origOf_any y (.slice xb xn xc) W
  have hpl : pre.length < 7 := hlt
  have hu3 : u.size ≤ 2107 := by omega
  have HU2 := Lib.hid hu2
  have hfn2 : Fence.wide.fn 71 := trivial
  have HUB := Lib.hid fun W' (h : Kp [] W W') => show Boxed W' B7 9 (.string u) from (h.block B7 hu.lt (by simp)).trans hu
  unfold dvC
  clear hu hu1 htl hvs hB hRA hu2 hl'
  gi_wp2
  gi_region_with (first
   | (gi_at_call 71; refine (CallsIn.inRound lo ((callsIn_wide (n := _)).2 (HY.out _))).mono ?_; rintro e W1 ⟨rfl, hk1⟩; have HK1 := Lib.hid (show Kp [] W W1 from ((Kp.refl [] W).drew 1).trans hk1); have hcb1 := (HUB.out _ HK1.out).cell; have hfb1 := (HUB.out _ HK1.out).frozen; clear hk1; dsimp only))
  all_goals gi_wp2
  all_goals exact ⟨((keeps_kp0 HK1.out).trans (KeepsOthers.setCell _ _ _)).from _ |> fun h => ⟨h.size, h.same⟩, (Kx.of_kp HK1.out).trans (Kx.set _ _), _, (HUB.out _ HK1.out).set _, ⟨by rw [HTL.out]; simp [ByteArray.data_append], by have h1 := HU2.out; have h2 : (⟨#[47]⟩ : ByteArray).size = 1 := rfl; simp only [ByteArray.size_append, List.length_append, List.length_singleton]; omega⟩, (HB.out.trans (HK1.out.below (by have := HU.out.lt; omega) (by simp))).setCell (Nat.le_refl _) _⟩
 case done =>
  rintro Dd xs W hD hxs ⟨u, hu, ⟨hu1, _⟩, hB⟩ hK
  have hc := hu.cell
  have hxl : valsA xs = ancL l 7 d.par := hxs
  rw [hxl] at hu1
  have HU1 := Lib.hid hu1
  have HKF := Lib.hid (show Kp [] w (W.putObj Dd (.deferred none)) from ⟨hB.os.trans HKA.out.os, hB.tape.trans HKA.out.tape, hB.output.trans HKA.out.output, by have h1 := HKA.out.size; have h2 := hB.size; simp; omega, fun j hj _ => (World.putObj_heap_other (by have := HKA.out.size; omega)).trans ((hB.block j (by have := HWZ.out; omega)).trans (HKA.out.block j hj (by simp)))⟩)
  clear hu1 hxs hxl hu hB
  go_wp2
  refine ⟨by simp, .inl ⟨_, _, rfl, run_takeDeferred hK, ?_⟩⟩
  exact ⟨_, results_tmp rfl _ _ _, u, rfl, HU1.out, HKF.out⟩
 case stop =>
  intro D cd pre W _ _ h
  exact h.elim
set_option maxRecDepth 100000 in
set_option maxHeartbeats 4000000 in
/-- The path to a device: its ancestors' names and its own. -/
theorem trail_name {w : World} {V M : Nat} {sv : Value} {l : List DV} {D : DataW Unit} (hV : View w V sv M l D) (d : ADev) (dv : Value) (hdv : ∃ b n c, dv = .slice b n c) (hd : d.name.size ≤ 300) (hs : ∀ x ∈ l, x.1.name.size ≤ 300)
  (hwf : (Lit.int .i64 d.par).wf = true) (hwl : ∀ x ∈ l, (Lit.int .i64 x.1.par).wf = true) (hsl : ∀ x ∈ l, ∃ b n c, x.2 = .slice b n c) :
  Calls Tryz.prog 107 #[.pointer (some ⟨V, 0, none⟩), .agg (dvC d dv).toArray, .func (.func 72) #[] #[]] w fun e w' => ∃ u : ByteArray, e = .returned (.string u) ∧ u.data.toList = trail (fun e => e.name.data.toList) ((ancL l 7 d.par).map (·.1)) (47 :: d.name.data.toList) ∧ Kp [] w w' := by
 obtain ⟨b, n, c, rfl⟩ := hdv
 unfold dvC
 refine (callsIn_wide (n := 5)).1 ?_
 refine callsIn_of_wp_marks Tryz.func107 rfl trivial (wpIn_wide.2 ?_) rfl
 simp only [Tryz.ntmps107, List.size_toArray, List.length_cons, List.length_nil, Nat.reduceAdd, Nat.reduceSub, Array.replicate_succ, Array.replicate_zero, List.push_toArray, List.append_toArray, List.nil_append, List.cons_append]
 obtain ⟨w0, hw0⟩ : ∃ w0, w.alloc (.cells #[.int .i64 d.idx, .int .i64 d.par, .string d.name, .string d.orig, .string d.sub, .string d.drv, .string d.ali, .int .i64 d.kind, .int .i64 d.num, .slice b n c] 34) = w0 := ⟨_, rfl⟩
 obtain ⟨w1, hw1⟩ : ∃ w1, w0.alloc (.cells #[.func (.func 72) #[] #[]] 81) = w1 := ⟨_, rfl⟩
 obtain ⟨B4, hB4⟩ : ∃ B4, w.heap.size = B4 := ⟨_, rfl⟩
 obtain ⟨B5, hB5⟩ : ∃ B5, B4 + 1 = B5 := ⟨_, rfl⟩
 have hz0 : w0.heap.size = B5 := by rw [← hw0, ← hB5, ← hB4]; simp
 have hk1 : Kp [] w w1 := by rw [← hw1, ← hw0]; exact ((Kp.refl [] w).alloc _).alloc _
 have hb4 : w1.heap[B4]? = some (.cells #[.int .i64 d.idx, .int .i64 d.par, .string d.name, .string d.orig, .string d.sub, .string d.drv, .string d.ali, .int .i64 d.kind, .int .i64 d.num, .slice b n c] 34) := by
  rw [← hw1, heap_alloc_old _ _ (by omega), ← hw0, ← hB4]
  exact heap_alloc_last w _
 have hb5 : w1.heap[B5]? = some (.cells #[.func (.func 72) #[] #[]] 81) := by rw [← hw1, ← hz0]; exact heap_alloc_last w0 _
 have hk1w := hk1.size
 have HB4 := Lib.hid hb4
 have HB5 := Lib.hid hb5
 have HK1 := Lib.hid hk1
 have HBX := Lib.hid fun W (h : Kp [] w1 W) => show (W.cell? ⟨B4, 0, none⟩ = some (.int .i64 d.idx) ∧ W.cell? ⟨B4, 1, none⟩ = some (.int .i64 d.par) ∧ W.cell? ⟨B4, 2, none⟩ = some (.string d.name) ∧ W.cell? ⟨B4, 3, none⟩ = some (.string d.orig) ∧ W.cell? ⟨B4, 4, none⟩ = some (.string d.sub) ∧ W.cell? ⟨B4, 5, none⟩ = some (.string d.drv) ∧ W.cell? ⟨B4, 6, none⟩ = some (.string d.ali) ∧ W.cell? ⟨B4, 7, none⟩ = some (.int .i64 d.kind) ∧ W.cell? ⟨B4, 8, none⟩ = some (.int .i64 d.num) ∧ W.cell? ⟨B4, 9, none⟩ = some (.slice b n c) ∧ W.cell? ⟨B5, 0, none⟩ = some (.func (.func 72) #[] #[])) from by
  have e := (h.block _ (block_lt HB4.out) (by simp)).trans HB4.out
  have e5 := (h.block _ (block_lt HB5.out) (by simp)).trans HB5.out
  exact ⟨by rw [cell_of_row _ _ _ _ _ _ e]; rfl, by rw [cell_of_row _ _ _ _ _ _ e]; rfl, by rw [cell_of_row _ _ _ _ _ _ e]; rfl, by rw [cell_of_row _ _ _ _ _ _ e]; rfl, by rw [cell_of_row _ _ _ _ _ _ e]; rfl, by rw [cell_of_row _ _ _ _ _ _ e]; rfl, by rw [cell_of_row _ _ _ _ _ _ e]; rfl, by rw [cell_of_row _ _ _ _ _ _ e]; rfl, by rw [cell_of_row _ _ _ _ _ _ e]; rfl, by rw [cell_of_row _ _ _ _ _ _ e]; rfl, by rw [cell_of_row _ _ _ _ _ _ e5]; rfl⟩
 clear hb4 hb5 hk1
 have H71 := Lib.hid fun W => nameOf_any d (.slice b n c) W
 obtain ⟨c0, c1, c2, c3, c4, c5, c6, c7, c8, c9, c10⟩ := HBX.out _ (Kp.refl _ _)
 have H76 := Lib.hid fun W => anc_any V d (.slice b n c) W
 unfold dvC at H76
 go_wp2_with (first
  | (go_at_call 76; refine Calls.mono (by with_reducible exact H76.out _) ?_; rintro e w4' ⟨rfl, rfl⟩)
  | (go_at_call 72; refine Calls.mono (by with_reducible exact H71.out _) ?_; rintro e w2 ⟨rfl, hk2⟩; clear c0 c1 c2 c3 c4 c5 c6 c7 c8 c9 c10; obtain ⟨B7, hB7⟩ : ∃ B7, w2.heap.size = B7 := ⟨_, rfl⟩; obtain ⟨w3, hw3⟩ : ∃ w3, w2.alloc (.cells #[.string (⟨#[47]⟩ ++ d.name)] 9) = w3 := ⟨_, rfl⟩; have hk3 : Kp [] w1 w3 := (by rw [← hw3]; exact hk2.alloc _); have hb7 : Boxed w3 B7 9 (.string (⟨#[47]⟩ ++ d.name)) := (by rw [← hw3, ← hB7]; exact Boxed.new w2 _ _); have hz3 : w3.heap.size = B7 + 1 := (by rw [← hw3, ← hB7]; simp); obtain ⟨c0, c1, c2, c3, c4, c5, c6, c7, c8, c9, c10⟩ := HBX.out _ hk3; have HK3 := Lib.hid hk3; have HB7 := Lib.hid hb7; have HZ7 := Lib.hid (show w1.heap.size ≤ B7 from (by rw [← hB7]; exact hk2.size)); clear hk2 hk3 hb7))
 obtain ⟨w4, hw4⟩ : ∃ w4, (w3.alloc (.cells #[.pointer (some ⟨V, 0, none⟩)] 64)).alloc (.cells #[.int .i64 d.idx, .int .i64 d.par, .string d.name, .string d.orig, .string d.sub, .string d.drv, .string d.ali, .int .i64 d.kind, .int .i64 d.num, .slice b n c] 34) = w4 := ⟨_, rfl⟩
 have hz4 : w4.heap.size = B7 + 3 := by rw [← hw4]; simp [hz3]
 have hk4 : Kp [] w3 w4 := by rw [← hw4]; exact ((Kp.refl [] w3).alloc _).alloc _
 have hbv : w4.heap[B7 + 1]? = some (.cells #[.pointer (some ⟨V, 0, none⟩)] 64 (0, 0)) := by rw [← hw4, ← hz3]; exact heap_alloc2_old w3 _ _
 have hbd : w4.heap[B7 + 1 + 1]? = some (.cells #[.int .i64 d.idx, .int .i64 d.par, .string d.name, .string d.orig, .string d.sub, .string d.drv, .string d.ali, .int .i64 d.kind, .int .i64 d.num, .slice b n c] 34 (0, 0)) := by rw [← hw4, ← hz3]; exact heap_alloc2_new w3 _ _
 have hkall : Kp [] w w4 := HK1.out.trans (HK3.out.trans hk4)
 have hVl := block_lt hV.box
 have hMl := hV.map.lt
 have hz7 := HZ7.out
 obtain ⟨av, cv, rfl, hrv⟩ := hV.dev.form
 have hIt : It (B7 + 3) w4 (B7 + 1 + 1) (B7 + 1) V M l.length cv d.par av l D :=
  ⟨by rw [cell_of_row _ _ _ _ _ _ hbd]; rfl, by omega, by rw [cell_of_row _ _ _ _ _ _ hbv]; rfl, by omega,
   by rw [cell_of_row _ _ _ _ _ _ ((hkall.block V hVl (by simp)).trans hV.box)]; rfl, by rw [cell_of_row _ _ _ _ _ _ ((hkall.block V hVl (by simp)).trans hV.box)]; rfl, by omega,
   hV.map.kept (hkall.block M hMl (by simp)), by omega, rfl, fun hne => by
   obtain ⟨g, o, e, _, hg, hr⟩ := hrv hne
   exact ⟨g, o, e, by omega, fun j y hy m v hv => by
    have := hr.at_ j y hy m v hv
    simp only [World.cell?, hkall.block g hg (by simp)] at this ⊢
    exact this⟩⟩
 have hItN : ItN B7 (B7 + 3) w4 (B7 + 1 + 1) (B7 + 1) V M l.length cv d.par av l D :=
  ⟨hIt, by omega, by omega, by omega, by omega, fun hne g o e => by
   obtain ⟨g', o', e', _, hg, _⟩ := hrv hne
   rw [e] at e'
   cases e'
   omega⟩
 rw [hw4]
 have HK4 := Lib.hid hk4
 have HKA := Lib.hid hkall
 have HZ4 := Lib.hid hz4
 have hFN := (HBX.out w4 (HK3.out.trans hk4)).2.2.2.2.2.2.2.2.2.2
 have HFN := Lib.hid hFN
 have HWZ := Lib.hid (show w.heap.size ≤ B7 by omega)
 have hbx0 : Boxed w4 B7 9 (.string (⟨#[47]⟩ ++ d.name)) := (hk4.block B7 (by omega) (by simp)).trans HB7.out
 have h5lt : B5 < B7 := by have := block_lt HB5.out; omega
 have hds : (⟨#[47]⟩ ++ d.name : ByteArray).data.toList = 47 :: d.name.data.toList := by rw [ByteArray.data_append]; simp
 have hdz : (⟨#[47]⟩ ++ d.name : ByteArray).size ≤ 301 := by rw [ByteArray.size_append]; have : (⟨#[47]⟩ : ByteArray).size = 1 := rfl; omega
 clear c0 c1 c2 c3 c4 c5 c6 c7 c8 c9 c10 hFN hbv hbd hIt hrv hw4 hk4 hkall
 refine (wpIn_wide (n := 5)).1 (wpIn_rangeFunc_ownH (F := Fence.wide) rfl (by omega : 1 ≤ 5) (gf := 110) (lb := #[.pointer (some ⟨B7 + 1 + 1, 0, none⟩), .pointer (some ⟨B7 + 1, 0, none⟩)]) rfl trivial (enters_of Tryz.func110 (by kernel_rfl) rfl)
  (anc2_stops Fence.wide 4 trivial rfl (by omega) B7 (B7 + 3) (B7 + 1 + 1) (B7 + 1) V M l.length cv d.par av l D w4 hwf hwl (by omega) hItN) kx_t (kx_b (by omega)) (Below.refl _ _) (fun _ => rfl)
  (fun pre W => ∃ u : ByteArray, Boxed W B7 9 (.string u) ∧ (u.data.toList = trail (fun e => e.name.data.toList) ((valsA pre).map (·.1)) (47 :: d.name.data.toList) ∧ u.size ≤ 301 * (pre.length + 1)) ∧ Below B7 w4 W) (fun _ _ _ => False)
  (own_box (by omega) (by omega)) (fun _ _ _ _ _ hs _ _ => hs)
  ⟨_, hbx0, ⟨hds, by simpa using hdz⟩, Below.refl _ _⟩
  (fun x a' W => ∃ Bx, B7 < Bx ∧ BoxAt W Bx (dvC x.1.1 x.1.2).toArray ∧ a' = { tmps := #[.pointer (some ⟨V, 0, none⟩), .agg #[.int .i64 d.idx, .int .i64 d.par, .string d.name, .string d.orig, .string d.sub, .string d.drv, .string d.ali, .int .i64 d.kind, .int .i64 d.num, .slice b n c], .func (.func 72) #[] #[], undef, .pointer (some ⟨B4, 0, none⟩), .pointer (some ⟨B5, 0, none⟩), .string ⟨#[]⟩, .pointer (some ⟨B7, 0, none⟩), .pointer (some ⟨Bx, 0, none⟩), .func (.func 72) #[] #[], .agg #[.int .i64 d.idx, .int .i64 d.par, .string d.name, .string d.orig, .string d.sub, .string d.drv, .string d.ali, .int .i64 d.kind, .int .i64 d.num, .slice b n c], .string d.name, .string (⟨#[47]⟩ ++ d.name), .pointer (some ⟨V, 0, none⟩), .agg #[.int .i64 d.idx, .int .i64 d.par, .string d.name, .string d.orig, .string d.sub, .string d.drv, .string d.ali, .int .i64 d.kind, .int .i64 d.num, .slice b n c], .func (.func 110) #[] #[.pointer (some ⟨B7 + 1 + 1, 0, none⟩), .pointer (some ⟨B7 + 1, 0, none⟩)], .agg (dvC x.1.1 x.1.2).toArray, undef, undef, undef, undef, undef, undef, undef], defers := [] })
  ?hAx ?assign ?body ?done ?stop)
 case hAx =>
  intro x a' _ A B row hs hg hr
  obtain ⟨Bx, h1, h2, h3⟩ := hs
  refine ⟨Bx, h1, (hg.block Bx (block_lt h2) fun e => ?_).trans h2, h3⟩
  obtain ⟨_, o, ho, hc⟩ := hr Bx e.symm
  unfold BoxAt at h2
  rw [h2] at ho
  cases ho
  cases hc
 case assign =>
  intro lo pre x W K hi hK
  obtain ⟨⟨ad, v⟩, hx⟩ := x
  obtain ⟨xb, xn, xc, hv⟩ := hsl _ hx
  simp only at hv
  subst hv
  unfold adE
  unfold dvC at hK
  gi_wp2
  obtain ⟨u, hu, hp, hB⟩ := hi
  have hlt := hu.lt
  exact hK _ _ ((KeepsOthers.alloc _ _).from _) (Kx.of_kp ((Kp.refl [] W).alloc _)) ⟨u, hu.alloc _, hp, hB.alloc (by omega) _⟩ ⟨W.heap.size, hlt, heap_alloc_last _ _, rfl⟩
 case body =>
  rintro lo pre x a' W hl' _ ⟨u, hu, ⟨hu1, hu2⟩, hB⟩ ⟨Bx, hBx, hRA, rfl⟩ hlt
  have hcb := hu.cell
  have hfb := hu.frozen
  have hxs : x.1.1.name.size ≤ 300 := hs x.1 x.2
  have hfn := (hB.cell (p := ⟨B5, 0, none⟩) h5lt).trans HFN.out
  have htl := trail_snoc (fun e : ADev => e.name.data.toList) ((valsA pre).map (·.1)) x.1.1 (47 :: d.name.data.toList)
  have hvs : (valsA (pre ++ [x])).map (·.1) = (valsA pre).map (·.1) ++ [x.1.1] := by simp [valsA]
  rw [← hvs, ← hu1] at htl
  obtain ⟨y, hxy⟩ : ∃ y, x.1.1 = y := ⟨_, rfl⟩
  obtain ⟨xb, xn, xc, hv2⟩ := hsl x.1 x.2
  rw [hxy] at hRA hxs htl ⊢
  rw [hv2] at hRA ⊢
  have d0 : W.cell? ⟨Bx, 0, none⟩ = some (.int .i64 y.idx) := hRA.cell 0
  have d1 : W.cell? ⟨Bx, 1, none⟩ = some (.int .i64 y.par) := hRA.cell 1
  have d2 : W.cell? ⟨Bx, 2, none⟩ = some (.string y.name) := hRA.cell 2
  have d3 : W.cell? ⟨Bx, 3, none⟩ = some (.string y.orig) := hRA.cell 3
  have d4 : W.cell? ⟨Bx, 4, none⟩ = some (.string y.sub) := hRA.cell 4
  have d5 : W.cell? ⟨Bx, 5, none⟩ = some (.string y.drv) := hRA.cell 5
  have d6 : W.cell? ⟨Bx, 6, none⟩ = some (.string y.ali) := hRA.cell 6
  have d7 : W.cell? ⟨Bx, 7, none⟩ = some (.int .i64 y.kind) := hRA.cell 7
  have d8 : W.cell? ⟨Bx, 8, none⟩ = some (.int .i64 y.num) := hRA.cell 8
  have d9 : W.cell? ⟨Bx, 9, none⟩ = some (.slice xb xn xc) := hRA.cell 9
  have HU := Lib.hid hu
  have HTL := Lib.hid htl
  have HB := Lib.hid hB
  have HY := Lib.hid fun W => nameOf_any y (.slice xb xn xc) W
  have hpl : pre.length < 7 := hlt
  have hu3 : u.size ≤ 2107 := by omega
  have HU2 := Lib.hid hu2
  have hfn2 : Fence.wide.fn 72 := trivial
  have HUB := Lib.hid fun W' (h : Kp [] W W') => show Boxed W' B7 9 (.string u) from (h.block B7 hu.lt (by simp)).trans hu
  unfold dvC
  clear hu hu1 htl hvs hB hRA hu2 hl'
  gi_wp2
  gi_region_with (first
   | (gi_at_call 72; refine (CallsIn.inRound lo ((callsIn_wide (n := _)).2 (HY.out _))).mono ?_; rintro e W1 ⟨rfl, hk1⟩; have HK1 := Lib.hid (show Kp [] W W1 from ((Kp.refl [] W).drew 1).trans hk1); have hcb1 := (HUB.out _ HK1.out).cell; have hfb1 := (HUB.out _ HK1.out).frozen; clear hk1; dsimp only))
  all_goals gi_wp2
  all_goals exact ⟨((keeps_kp0 HK1.out).trans (KeepsOthers.setCell _ _ _)).from _ |> fun h => ⟨h.size, h.same⟩, (Kx.of_kp HK1.out).trans (Kx.set _ _), _, (HUB.out _ HK1.out).set _, ⟨by rw [HTL.out]; simp [ByteArray.data_append], by have h1 := HU2.out; have h2 : (⟨#[47]⟩ : ByteArray).size = 1 := rfl; simp only [ByteArray.size_append, List.length_append, List.length_singleton]; omega⟩, (HB.out.trans (HK1.out.below (by have := HU.out.lt; omega) (by simp))).setCell (Nat.le_refl _) _⟩
 case done =>
  rintro Dd xs W hD hxs ⟨u, hu, ⟨hu1, _⟩, hB⟩ hK
  have hc := hu.cell
  have hxl : valsA xs = ancL l 7 d.par := hxs
  rw [hxl] at hu1
  have HU1 := Lib.hid hu1
  have HKF := Lib.hid (show Kp [] w (W.putObj Dd (.deferred none)) from ⟨hB.os.trans HKA.out.os, hB.tape.trans HKA.out.tape, hB.output.trans HKA.out.output, by have h1 := HKA.out.size; have h2 := hB.size; simp; omega, fun j hj _ => (World.putObj_heap_other (by have := HKA.out.size; omega)).trans ((hB.block j (by have := HWZ.out; omega)).trans (HKA.out.block j hj (by simp)))⟩)
  clear hu1 hxs hxl hu hB
  go_wp2
  refine ⟨by simp, .inl ⟨_, _, rfl, run_takeDeferred hK, ?_⟩⟩
  exact ⟨_, results_tmp rfl _ _ _, u, rfl, HU1.out, HKF.out⟩
 case stop =>
  intro D cd pre W _ _ h
  exact h.elim
end Go.Proofs.YtldcediiobfhiaaGreatDoor.De
namespace Go.Proofs.YtldcediiobfhiaaGreatDoor.De
open Go.RowKit Go.Maps
/-- What is asked of the devices of a tree. -/
structure TOk (l : List DV) : Prop where
 n : l.length ≤ 100000
 wi : ∀ x ∈ l, (Lit.int .i64 x.1.idx).wf = true
 wp : ∀ x ∈ l, (Lit.int .i64 x.1.par).wf = true
 o : ∀ x ∈ l, x.1.orig.size ≤ 300
 m : ∀ x ∈ l, x.1.name.size ≤ 300
/-- The device with an Index, as the program finds it. -/
def gotL (l : List DV) (n : Int) : Option DV := match lastI (l.map (·.1)) n with
 | none => none
 | some q => l[q]?
def trlA (f : ADev → ByteArray) (l : List DV) (d : ADev) : List UInt8 := trail (fun e => (f e).data.toList) ((ancL l 7 d.par).map (·.1)) (47 :: (f d).data.toList)
def trlO (f : ADev → ByteArray) (l : List DV) (n : Int) : Option (List UInt8) := (gotL l n).map fun x => trlA f l x.1
theorem DHas.slices {W : World} {v : Value} {l : List DV} (h : DHas W v l) : ∀ x ∈ l, ∃ b n c, x.2 = .slice b n c := by
 rcases h with ⟨a, c, hv, rfl⟩ | ⟨g, o, c, hv, _, _, hr⟩
 ·intro x hx
  cases hx
 ·intro x hx
  obtain ⟨b, c, hv, -⟩ := (hr.ats x hx).form
  exact ⟨b, _, c, hv⟩
set_option maxRecDepth 100000 in
set_option maxHeartbeats 4000000 in
theorem trailOf_orig (sv : Value) (l : List DV) (n : Int) (w : World) (ht : TOk l) (h : DHas w sv l) (hc : ∀ a n c, sv = .slice a n c → n ≤ c) (hn : (Lit.int .i64 n).wf = true) :
  Calls Tryz.prog 70 #[.agg #[sv], .int .i64 n, .func (.func 71) #[] #[]] w fun e w' => ∃ u : ByteArray, e = .returned (.tuple #[.string u, .bool (trlO ADev.orig l n).isSome]) ∧ u.data.toList = (trlO ADev.orig l n).getD [] ∧ Kp [] w w' := by
 obtain ⟨a0, c0, rfl, hrow⟩ := h.form
 have hboxw := heap_alloc_last w (.cells #[.slice a0 l.length c0] 29)
 have hb0 := (Below.refl _ w).alloc (Nat.le_refl _) (.cells #[.slice a0 l.length c0] 29)
 have hs1 : (w.alloc (.cells #[.slice a0 l.length c0] 29)).heap.size = w.heap.size + 1 := by simp
 have HSL := Lib.hid h.slices
 obtain ⟨W1, hW1⟩ : ∃ W1, w.alloc (.cells #[.slice a0 l.length c0] 29) = W1 := ⟨_, rfl⟩
 rw [hW1] at hboxw hb0 hs1
 have HV := Lib.hid (viewOf_any (.slice a0 l.length c0) l W1 (by have := ht.n; omega) (h.below hb0) hc ht.wi)
 have b0 : W1.cell? ⟨w.heap.size, 0, none⟩ = some (.slice a0 l.length c0) := by rw [cell_of_row _ _ 0 _ _ _ hboxw]; rfl
 have HB0 := Lib.hid hb0
 have HBx := Lib.hid hboxw
 have HRow := Lib.hid hrow
 have Hn := Lib.hid hn
 have HT := Lib.hid ht
 have Hs1 := Lib.hid hs1
 obtain ⟨N, hN⟩ : ∃ N, l.length = N := ⟨_, rfl⟩
 have HN := Lib.hid hN
 rw [hN] at hW1 HV b0 HBx ⊢
 clear h hrow hboxw hb0 hs1 hc hn hN ht
 go_enter Tryz.func70, Tryz.ntmps70
 go_upto_region 2 with (go_at_call 52; refine Calls.mono (by with_reducible exact HV.out) ?_; rintro e w2 ⟨V, M, D, sv', rfl, hV1, hM1, hvw, hb1⟩)
 obtain ⟨a, c, rfl, hrv⟩ := hvw.dev.form
 have v0 : w2.cell? ⟨V, 0, none⟩ = some (.slice a l.length c) := by rw [cell_of_row _ _ _ _ _ _ hvw.box]; rfl
 have v1 : w2.cell? ⟨V, 1, none⟩ = some (.map (some M)) := by rw [cell_of_row _ _ _ _ _ _ hvw.box]; rfl
 have HO := Lib.hid hvw.map.own
 have HVw := Lib.hid hvw
 have HB1 := Lib.hid hb1
 have HBall := Lib.hid (HB0.out.trans (hb1.mono (by have := Hs1.out; omega)))
 have bx := (hb1.cell (p := ⟨w.heap.size, 0, none⟩) (block_lt HBx.out)).trans b0
 have Hbx := Lib.hid bx
 cases hp : lastI (l.map (·.1)) n with
 | none =>
  have hh := hvw.map.has n Hn.out
  rw [hp] at hh
  have Hh := Lib.hid hh
  have hz : trlO ADev.orig l n = none := by unfold trlO gotL; rw [hp]; rfl
  have HZ := Lib.hid hz
  clear hh hz hp hvw hb1 hrv
  go_wp2_with (at_lookup; refine wpList_lookup_own_ok_int _ rfl _ _ 82 rfl 3 3 .i64 lawI Tryz.underlying82 Tryz.underlying3 (Tryz.zeroValue3 _) M l.length D rfl HO.out _ _ rfl (keyI Hn.out) ?_; intro c hat hwc; rw [Hh.out]; clear hat hwc)
  go_ret2
  exact ⟨_, by rw [HZ.out]; rfl, by rw [HZ.out]; rfl, Kp.of_below HBall.out⟩
 | some q =>
  obtain ⟨y, hy, -⟩ := lastI_some hp
  rw [List.getElem?_map, Option.map_eq_some_iff] at hy
  obtain ⟨x, hx, -⟩ := hy
  have hxm := List.mem_of_getElem? hx
  have hqN : q < N := by
   rw [← HN.out]
   exact (List.getElem?_eq_some_iff.1 hx).1
  have hqz : (q : Int) < (N : Int) := by omega
  have hz : trlO ADev.orig l n = some (trlA ADev.orig l x.1) := by unfold trlO gotL; rw [hp]; simp only [hx]; rfl
  have HZ := Lib.hid hz
  obtain ⟨g, o, rfl, hcap, hg, hr⟩ := HRow.out (fun e => by rw [e] at hx; simp at hx)
  have Hran := Lib.hid ((hr.below hg HBall.out).at_ q x hx)
  have hh := hvw.map.has n Hn.out
  have hat' := hvw.map.val n q Hn.out hp
  rw [hp] at hh
  have Hh := Lib.hid hh
  have Hat := Lib.hid hat'
  have HTR := Lib.hid (trail_orig hvw x.1 x.2 (HSL.out x hxm) (HT.out.o x hxm) HT.out.o (HT.out.wp x hxm) HT.out.wp HSL.out)
  obtain ⟨ax, vx⟩ := x
  obtain ⟨vb, vn, vc, hvx⟩ := HSL.out _ hxm
  simp only at hvx Hran HZ HTR
  subst hvx
  have HI1 := Lib.hid (show (Tryz.prog.info? 34).map (·.size) = some (dvC ax (.slice vb vn vc)).length from info34b)
  clear hh hat' hz hp hvw hb1 hrv hr hx hxm
  go_wp2_with (first
   | (at_lookup; refine wpList_lookup_own_ok_int _ rfl _ _ 82 rfl 3 3 .i64 lawI Tryz.underlying82 Tryz.underlying3 (Tryz.zeroValue3 _) M l.length D rfl HO.out _ _ rfl (keyI Hn.out) ?_; intro c hat hwc; rw [Hh.out]; rw [Hat.out] at hat; obtain rfl : (q : Int) = c := (by simpa using hat); clear hat hwc)
   | (refine wpList_load_mid rfl 34 _ rfl g (o + q * 10) rfl (dvC ax (.slice vb vn vc)) _ (by with_reducible exact Hran.out) Tryz.underlying34 rfl HI1.out ?_)
   | (go_at_call 107; refine Calls.mono (by with_reducible exact HTR.out) ?_; rintro e w3 ⟨u, rfl, hu, hk⟩; have HU := Lib.hid hu; have HKF := Lib.hid ((Kp.of_below HBall.out).trans hk); clear hu hk))
  go_ret2
  exact ⟨u, by rw [HZ.out]; rfl, by rw [HU.out, HZ.out]; rfl, HKF.out⟩
set_option maxRecDepth 100000 in
set_option maxHeartbeats 4000000 in
theorem trailOf_name (sv : Value) (l : List DV) (n : Int) (w : World) (ht : TOk l) (h : DHas w sv l) (hc : ∀ a n c, sv = .slice a n c → n ≤ c) (hn : (Lit.int .i64 n).wf = true) :
  Calls Tryz.prog 70 #[.agg #[sv], .int .i64 n, .func (.func 72) #[] #[]] w fun e w' => ∃ u : ByteArray, e = .returned (.tuple #[.string u, .bool (trlO ADev.name l n).isSome]) ∧ u.data.toList = (trlO ADev.name l n).getD [] ∧ Kp [] w w' := by
 obtain ⟨a0, c0, rfl, hrow⟩ := h.form
 have hboxw := heap_alloc_last w (.cells #[.slice a0 l.length c0] 29)
 have hb0 := (Below.refl _ w).alloc (Nat.le_refl _) (.cells #[.slice a0 l.length c0] 29)
 have hs1 : (w.alloc (.cells #[.slice a0 l.length c0] 29)).heap.size = w.heap.size + 1 := by simp
 have HSL := Lib.hid h.slices
 obtain ⟨W1, hW1⟩ : ∃ W1, w.alloc (.cells #[.slice a0 l.length c0] 29) = W1 := ⟨_, rfl⟩
 rw [hW1] at hboxw hb0 hs1
 have HV := Lib.hid (viewOf_any (.slice a0 l.length c0) l W1 (by have := ht.n; omega) (h.below hb0) hc ht.wi)
 have b0 : W1.cell? ⟨w.heap.size, 0, none⟩ = some (.slice a0 l.length c0) := by rw [cell_of_row _ _ 0 _ _ _ hboxw]; rfl
 have HB0 := Lib.hid hb0
 have HBx := Lib.hid hboxw
 have HRow := Lib.hid hrow
 have Hn := Lib.hid hn
 have HT := Lib.hid ht
 have Hs1 := Lib.hid hs1
 obtain ⟨N, hN⟩ : ∃ N, l.length = N := ⟨_, rfl⟩
 have HN := Lib.hid hN
 rw [hN] at hW1 HV b0 HBx ⊢
 clear h hrow hboxw hb0 hs1 hc hn hN ht
 go_enter Tryz.func70, Tryz.ntmps70
 go_upto_region 2 with (go_at_call 52; refine Calls.mono (by with_reducible exact HV.out) ?_; rintro e w2 ⟨V, M, D, sv', rfl, hV1, hM1, hvw, hb1⟩)
 obtain ⟨a, c, rfl, hrv⟩ := hvw.dev.form
 have v0 : w2.cell? ⟨V, 0, none⟩ = some (.slice a l.length c) := by rw [cell_of_row _ _ _ _ _ _ hvw.box]; rfl
 have v1 : w2.cell? ⟨V, 1, none⟩ = some (.map (some M)) := by rw [cell_of_row _ _ _ _ _ _ hvw.box]; rfl
 have HO := Lib.hid hvw.map.own
 have HVw := Lib.hid hvw
 have HB1 := Lib.hid hb1
 have HBall := Lib.hid (HB0.out.trans (hb1.mono (by have := Hs1.out; omega)))
 have bx := (hb1.cell (p := ⟨w.heap.size, 0, none⟩) (block_lt HBx.out)).trans b0
 have Hbx := Lib.hid bx
 cases hp : lastI (l.map (·.1)) n with
 | none =>
  have hh := hvw.map.has n Hn.out
  rw [hp] at hh
  have Hh := Lib.hid hh
  have hz : trlO ADev.name l n = none := by unfold trlO gotL; rw [hp]; rfl
  have HZ := Lib.hid hz
  clear hh hz hp hvw hb1 hrv
  go_wp2_with (at_lookup; refine wpList_lookup_own_ok_int _ rfl _ _ 82 rfl 3 3 .i64 lawI Tryz.underlying82 Tryz.underlying3 (Tryz.zeroValue3 _) M l.length D rfl HO.out _ _ rfl (keyI Hn.out) ?_; intro c hat hwc; rw [Hh.out]; clear hat hwc)
  go_ret2
  exact ⟨_, by rw [HZ.out]; rfl, by rw [HZ.out]; rfl, Kp.of_below HBall.out⟩
 | some q =>
  obtain ⟨y, hy, -⟩ := lastI_some hp
  rw [List.getElem?_map, Option.map_eq_some_iff] at hy
  obtain ⟨x, hx, -⟩ := hy
  have hxm := List.mem_of_getElem? hx
  have hqN : q < N := by
   rw [← HN.out]
   exact (List.getElem?_eq_some_iff.1 hx).1
  have hqz : (q : Int) < (N : Int) := by omega
  have hz : trlO ADev.name l n = some (trlA ADev.name l x.1) := by unfold trlO gotL; rw [hp]; simp only [hx]; rfl
  have HZ := Lib.hid hz
  obtain ⟨g, o, rfl, hcap, hg, hr⟩ := HRow.out (fun e => by rw [e] at hx; simp at hx)
  have Hran := Lib.hid ((hr.below hg HBall.out).at_ q x hx)
  have hh := hvw.map.has n Hn.out
  have hat' := hvw.map.val n q Hn.out hp
  rw [hp] at hh
  have Hh := Lib.hid hh
  have Hat := Lib.hid hat'
  have HTR := Lib.hid (trail_name hvw x.1 x.2 (HSL.out x hxm) (HT.out.m x hxm) HT.out.m (HT.out.wp x hxm) HT.out.wp HSL.out)
  obtain ⟨ax, vx⟩ := x
  obtain ⟨vb, vn, vc, hvx⟩ := HSL.out _ hxm
  simp only at hvx Hran HZ HTR
  subst hvx
  have HI1 := Lib.hid (show (Tryz.prog.info? 34).map (·.size) = some (dvC ax (.slice vb vn vc)).length from info34b)
  clear hh hat' hz hp hvw hb1 hrv hr hx hxm
  go_wp2_with (first
   | (at_lookup; refine wpList_lookup_own_ok_int _ rfl _ _ 82 rfl 3 3 .i64 lawI Tryz.underlying82 Tryz.underlying3 (Tryz.zeroValue3 _) M l.length D rfl HO.out _ _ rfl (keyI Hn.out) ?_; intro c hat hwc; rw [Hh.out]; rw [Hat.out] at hat; obtain rfl : (q : Int) = c := (by simpa using hat); clear hat hwc)
   | (refine wpList_load_mid rfl 34 _ rfl g (o + q * 10) rfl (dvC ax (.slice vb vn vc)) _ (by with_reducible exact Hran.out) Tryz.underlying34 rfl HI1.out ?_)
   | (go_at_call 107; refine Calls.mono (by with_reducible exact HTR.out) ?_; rintro e w3 ⟨u, rfl, hu, hk⟩; have HU := Lib.hid hu; have HKF := Lib.hid ((Kp.of_below HBall.out).trans hk); clear hu hk))
  go_ret2
  exact ⟨u, by rw [HZ.out]; rfl, by rw [HU.out, HZ.out]; rfl, HKF.out⟩
set_option maxRecDepth 100000 in
set_option maxHeartbeats 1000000 in
theorem origin_any (sv : Value) (l : List DV) (n : Int) (w : World) (ht : TOk l) (h : DHas w sv l) (hc : ∀ a n c, sv = .slice a n c → n ≤ c) (hn : (Lit.int .i64 n).wf = true) :
  Calls Tryz.prog 30 #[.agg #[sv], .int .i64 n] w fun e w' => ∃ u : ByteArray, e = .returned (.tuple #[.string u, .bool (trlO ADev.orig l n).isSome]) ∧ u.data.toList = (trlO ADev.orig l n).getD [] ∧ Kp [] w w' := by
 obtain ⟨a0, c0, rfl, -⟩ := h.form
 obtain ⟨w1, hw1⟩ : ∃ w1, w.alloc (.cells #[.slice a0 l.length c0] 29) = w1 := ⟨_, rfl⟩
 obtain ⟨A, hA⟩ : ∃ A, w.heap.size = A := ⟨_, rfl⟩
 have hk1 : Kp [] w w1 := by rw [← hw1]; exact (Kp.refl [] w).alloc _
 have hb1 : w1.heap[A]? = some (.cells #[.slice a0 l.length c0] 29) := by rw [← hw1, ← hA]; exact heap_alloc_last w _
 have b0 : w1.cell? ⟨A, 0, none⟩ = some (.slice a0 l.length c0) := by rw [cell_of_row _ _ 0 _ _ _ hb1]; rfl
 have HT := Lib.hid (trailOf_orig (.slice a0 l.length c0) l n w1 ht (h.below hk1.bel) hc hn)
 have HK1 := Lib.hid hk1
 clear hk1 hb1 h hc ht
 generalize trlO ADev.orig l n = R at *
 go_enter Tryz.func30, Tryz.ntmps30
 go_wp2_with (go_at_call 70; refine Calls.mono (by with_reducible exact HT.out) ?_; rintro e w2 ⟨u, rfl, hu, hk⟩; have HU := Lib.hid hu; have HK2 := Lib.hid (HK1.out.trans hk); clear hu hk)
 go_ret2
 exact ⟨u, rfl, HU.out, HK2.out⟩
set_option maxRecDepth 100000 in
set_option maxHeartbeats 1000000 in
theorem path_any (sv : Value) (l : List DV) (n : Int) (w : World) (ht : TOk l) (h : DHas w sv l) (hc : ∀ a n c, sv = .slice a n c → n ≤ c) (hn : (Lit.int .i64 n).wf = true) :
  Calls Tryz.prog 31 #[.agg #[sv], .int .i64 n] w fun e w' => ∃ u : ByteArray, e = .returned (.tuple #[.string u, .bool (trlO ADev.name l n).isSome]) ∧ u.data.toList = (trlO ADev.name l n).getD [] ∧ Kp [] w w' := by
 obtain ⟨a0, c0, rfl, -⟩ := h.form
 obtain ⟨w1, hw1⟩ : ∃ w1, w.alloc (.cells #[.slice a0 l.length c0] 29) = w1 := ⟨_, rfl⟩
 obtain ⟨A, hA⟩ : ∃ A, w.heap.size = A := ⟨_, rfl⟩
 have hk1 : Kp [] w w1 := by rw [← hw1]; exact (Kp.refl [] w).alloc _
 have hb1 : w1.heap[A]? = some (.cells #[.slice a0 l.length c0] 29) := by rw [← hw1, ← hA]; exact heap_alloc_last w _
 have b0 : w1.cell? ⟨A, 0, none⟩ = some (.slice a0 l.length c0) := by rw [cell_of_row _ _ 0 _ _ _ hb1]; rfl
 have HT := Lib.hid (trailOf_name (.slice a0 l.length c0) l n w1 ht (h.below hk1.bel) hc hn)
 have HK1 := Lib.hid hk1
 clear hk1 hb1 h hc ht
 generalize trlO ADev.name l n = R at *
 go_enter Tryz.func31, Tryz.ntmps31
 go_wp2_with (go_at_call 70; refine Calls.mono (by with_reducible exact HT.out) ?_; rintro e w2 ⟨u, rfl, hu, hk⟩; have HU := Lib.hid hu; have HK2 := Lib.hid (HK1.out.trans hk); clear hu hk)
 go_ret2
 exact ⟨u, rfl, HU.out, HK2.out⟩
end Go.Proofs.YtldcediiobfhiaaGreatDoor.De
