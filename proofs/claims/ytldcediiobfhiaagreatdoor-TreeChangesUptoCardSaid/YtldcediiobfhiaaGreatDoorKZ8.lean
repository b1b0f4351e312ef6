/- The iterator over a subtree once more, for a body that turns an elder block. Remove of the program. In a valid tree the program's Remove and the reference's leave the same devices. -/
import Derived.Test.YtldcediiobfhiaaGreatDoorKY1
import Derived.Test.YtldcediiobfhiaaGreatDoorKAB
import Derived.Sort.QuietTacIn
import Derived.Stop.RegionWithIn
import Derived.Test.YtldcediiobfhiaaGreatDoorKZ6
import Derived.Test.YtldcediiobfhiaaGreatDoorKSe
namespace Go.Proofs.YtldcediiobfhiaaGreatDoor.De
open Go.RowKit Go.Shelf Go.Maps
attribute [local go_sem] Oper.semAt_some
/-- What lies below a bound stays, but for one block. -/
structure Bex (n₀ Bs : Nat) (A B : World) : Prop where
 os : B.os = A.os
 tape : B.tape = A.tape
 output : B.output = A.output
 size : A.heap.size ≤ B.heap.size
 block : ∀ k, k < n₀ → k ≠ Bs → B.heap[k]? = A.heap[k]?
theorem Bex.refl (n₀ Bs : Nat) (w : World) : Bex n₀ Bs w w := ⟨rfl, rfl, rfl, Nat.le_refl _, fun _ _ _ => rfl⟩
theorem Bex.trans {n₀ Bs : Nat} {A B C : World} (h : Bex n₀ Bs A B) (g : Bex n₀ Bs B C) : Bex n₀ Bs A C :=
 ⟨g.os.trans h.os, g.tape.trans h.tape, g.output.trans h.output, Nat.le_trans h.size g.size, fun k hk hn => (g.block k hk hn).trans (h.block k hk hn)⟩
theorem Bex.of_below {n₀ Bs : Nat} {A B : World} (h : Below n₀ A B) : Bex n₀ Bs A B := ⟨h.os, h.tape, h.output, h.size, fun k hk _ => h.block k hk⟩
theorem Bex.drew {n₀ Bs : Nat} {A B : World} (h : Bex n₀ Bs A B) : Bex n₀ Bs A B.drew := ⟨h.os, h.tape, h.output, h.size, h.block⟩
theorem Bex.alloc {n₀ Bs : Nat} {A B : World} (h : Bex n₀ Bs A B) (hn : n₀ ≤ B.heap.size) (o : Obj) : Bex n₀ Bs A (B.alloc o) :=
 h.trans (Bex.of_below ((Below.refl n₀ B).alloc hn o))
theorem Bex.grown {n₀ Bs : Nat} {A B C : World} {row : Option Nat} (h : Bex n₀ Bs A B) (hg : B.grownBy C row) (hn : n₀ ≤ B.heap.size) (hr : ∀ k, row = some k → n₀ ≤ k) : Bex n₀ Bs A C :=
 h.trans (Bex.of_below ((Below.refl n₀ B).grown hg hn hr))
theorem Bex.cell {n₀ Bs : Nat} {A B : World} (h : Bex n₀ Bs A B) {p : Addr} (hp : p.block < n₀) (hn : p.block ≠ Bs) : B.cell? p = A.cell? p := World.cell?_of_block (h.block p.block hp hn)
def Kex (n₀ Bs : Nat) (A B : World) : Prop := Bex n₀ Bs A B ∧ KeepsWalks A B ∧ Kz Bs A B
theorem Kex.trans {n₀ Bs : Nat} {A B C : World} (h : Kex n₀ Bs A B) (k : Kex n₀ Bs B C) : Kex n₀ Bs A C := ⟨h.1.trans k.1, h.2.1.trans k.2.1, h.2.2.trans k.2.2⟩
theorem Kex.of {n₀ Bs : Nat} {A B : World} (h : Km n₀ Bs A B) : Kex n₀ Bs A B := ⟨Bex.of_below h.1, h.2⟩
theorem kex_b {n₀ Bs : Nat} {w : World} (hn : n₀ ≤ w.heap.size) (hB : Bs < w.heap.size) (W : World) (l : Nat) (o o' : Obj) (hl : w.heap.size ≤ l) (h : W.heap[l]? = some o) (h1 : o.isCells = false) (h2 : o.isWalk = false) : Kex n₀ Bs W (W.putObj l o') := Kex.of (km_b hn hB W l o o' hl h h1 h2)
theorem kex_drew {n₀ Bs : Nat} {W W' : World} (h : Kex n₀ Bs W.drew W') : Kex n₀ Bs W W' :=
 ⟨((Bex.refl n₀ Bs W).drew).trans h.1, ⟨h.2.1.size, h.2.1.same⟩, ⟨h.2.2.size, h.2.2.same, h.2.2.own, h.2.2.lt⟩⟩
/-- What the iterator reads; none of it is the block that is turned. -/
structure It3 (n₀ Bs : Nat) (W : World) (Bv Ba V N c p : Nat) (a : Option Addr) (l : List DV) : Prop where
 bv : W.cell? ⟨Bv, 0, none⟩ = some (.pointer (some ⟨V, 0, none⟩))
 hv : Bv < n₀ ∧ Bv ≠ Bs
 ba : W.cell? ⟨Ba, 0, none⟩ = some (.int .i64 (p : Int))
 ha : Ba < n₀ ∧ Ba ≠ Bs
 v0 : W.cell? ⟨V, 0, none⟩ = some (.slice a N c)
 hV : V < n₀ ∧ V ≠ Bs
 len : l.length = N
 row : ∃ g o, a = some ⟨g, o, none⟩ ∧ (g < n₀ ∧ g ≠ Bs) ∧ ∀ (j : Nat) x, l[j]? = some x → W.rangeAt g (o + j * 10) (dvC x.1 x.2)
theorem It3.keep {n₀ Bs : Nat} {W W' : World} {Bv Ba V N c p : Nat} {a : Option Addr} {l : List DV} (h : It3 n₀ Bs W Bv Ba V N c p a l) (hb : Bex n₀ Bs W W') : It3 n₀ Bs W' Bv Ba V N c p a l :=
 ⟨(hb.cell (p := ⟨Bv, 0, none⟩) h.hv.1 h.hv.2).trans h.bv, h.hv, (hb.cell (p := ⟨Ba, 0, none⟩) h.ha.1 h.ha.2).trans h.ba, h.ha, (hb.cell (p := ⟨V, 0, none⟩) h.hV.1 h.hV.2).trans h.v0, h.hV, h.len, by
   obtain ⟨g, o, e, hg, hr⟩ := h.row
   exact ⟨g, o, e, hg, fun j x hx m v hv => (hb.cell (p := ⟨g, o + j * 10 + m, none⟩) hg.1 hg.2).trans (hr j x hx m v hv)⟩⟩
set_option maxRecDepth 100000 in
set_option maxHeartbeats 8000000 in
theorem sub1x_in (n : Nat) (hn : 1 ≤ n) (lo n₀ Bs Bv Ba V N c p : Nat) (a : Option Addr) (l : List DV) (x : DV) (hx : l[p]? = some x) (hNl : N ≤ 1000000) (hNc : N ≤ c) (J Jx : List (AD l) → World → Prop)
  (hwi : ∀ x ∈ l, (Lit.int .i64 x.1.idx).wf = true) (hwl : ∀ x ∈ l, (Lit.int .i64 x.1.par).wf = true)
  (hsl : ∀ x ∈ l, ∃ b n c, x.2 = .slice b n c)
  (hY : ∀ pre x W, J pre W → pre.length < N → YieldAt Fence.wide (n - 1) Tryz.prog lo (adE x) W fun e W' =>
   (e = .returned (.bool true) ∧ J (pre ++ [x]) W' ∧ Kex n₀ Bs W W') ∨ (e = .returned (.bool false) ∧ Jx (pre ++ [x]) W'))
  (W : World) (hn₀ : n₀ ≤ W.heap.size) (hI : It3 n₀ Bs W Bv Ba V N c p a l) (hBs : Bs < W.heap.size) (how : ∀ k, ownAt W Bs = some k → k < W.heap.size) (h0 : J [] W) (hJ : AbidesFrom W.heap.size J) :
  CallsIn Fence.wide n Tryz.prog 111 #[.func (.yield lo) #[] #[], .pointer (some ⟨Bv, 0, none⟩), .pointer (some ⟨Ba, 0, none⟩)] W fun e W' => (∃ v, e = .returned v) ∧
   ((∃ ys, ys.map (fun p : AD l => p.1) = subL l p x ∧ J ys W') ∨ (∃ pre, Jx pre W')) := by
 have hxm := List.mem_of_getElem? hx
 have hpN : p < N := by rw [← hI.len]; exact (List.getElem?_eq_some_iff.1 hx).1
 have hpz : (p : Int) < (N : Int) := by omega
 obtain ⟨g, o, rfl, hg, hr⟩ := hI.row
 have hW1 : W.grownBy W.drew none := ⟨rfl, rfl, rfl, Nat.le_refl _, fun _ _ _ => rfl⟩
 have hJ1 : J [] W.drew := hJ [] W W.drew none h0 hW1 (fun r e => by cases e)
 obtain ⟨fn, tmps, assign, body, hy, hR⟩ := hY [] ⟨x, hxm⟩ W.drew hJ1 (by simp; omega)
 have hrx0 : W.drew.rangeAt g (o + p * 10) (dvC x.1 x.2) := hr p x hx
 have bv : W.drew.cell? ⟨Bv, 0, none⟩ = some (.pointer (some ⟨V, 0, none⟩)) := hI.bv
 have ba : W.drew.cell? ⟨Ba, 0, none⟩ = some (.int .i64 (p : Int)) := hI.ba
 have v0 : W.drew.cell? ⟨V, 0, none⟩ = some (.slice (some ⟨g, o, none⟩) N c) := hI.v0
 have e0 : W.drew.cell? ⟨g, o + p * 10, none⟩ = some (.int .i64 x.1.idx) := hrx0 0 _ rfl
 have e1 : W.drew.cell? ⟨g, o + p * 10 + 1, none⟩ = some (.int .i64 x.1.par) := hrx0 1 _ rfl
 have e2 : W.drew.cell? ⟨g, o + p * 10 + 2, none⟩ = some (.string x.1.name) := hrx0 2 _ rfl
 have e3 : W.drew.cell? ⟨g, o + p * 10 + 3, none⟩ = some (.string x.1.orig) := hrx0 3 _ rfl
 have e4 : W.drew.cell? ⟨g, o + p * 10 + 4, none⟩ = some (.string x.1.sub) := hrx0 4 _ rfl
 have e5 : W.drew.cell? ⟨g, o + p * 10 + 5, none⟩ = some (.string x.1.drv) := hrx0 5 _ rfl
 have e6 : W.drew.cell? ⟨g, o + p * 10 + 6, none⟩ = some (.string x.1.ali) := hrx0 6 _ rfl
 have e7 : W.drew.cell? ⟨g, o + p * 10 + 7, none⟩ = some (.int .i64 x.1.kind) := hrx0 7 _ rfl
 have e8 : W.drew.cell? ⟨g, o + p * 10 + 8, none⟩ = some (.int .i64 x.1.num) := hrx0 8 _ rfl
 have e9 : W.drew.cell? ⟨g, o + p * 10 + 9, none⟩ = some (x.2) := hrx0 9 _ rfl
 unfold adE at hy
 dsimp only at hy
 have HI := Lib.hid hI
 have HJ := Lib.hid hJ
 have HY := Lib.hid hY
 have Hg := Lib.hid hg
 have Hwi := Lib.hid hwi
 have Hwl := Lib.hid hwl
 have HX := Lib.hid hx
 have HSl := Lib.hid hsl
 clear hsl hrx0 hI hJ hY hr hwi hwl h0 hJ1 hW1
 refine callsIn_of_wp Tryz.func111 rfl trivial ?_ rfl
 simp only [Tryz.ntmps111, List.size_toArray, List.length_cons, List.length_nil, Nat.reduceAdd, Nat.reduceSub, Array.replicate_succ, Array.replicate_zero, List.push_toArray, List.append_toArray, List.nil_append, List.cons_append]
 gi_upto_region 0 with fail
 gi_cut [16] from 7 (fun s16 wx => ∃ bb : Bool, s16 = .bool (!bb) ∧ (bb = true → J [⟨x, hxm⟩] wx ∧ Kex n₀ Bs W wx) ∧ (bb = false → Jx [⟨x, hxm⟩] wx))
 case first =>
  rename_i J1 K1 hJJ hKK
  gi_region_with (refine hR.mono ?_; rintro e W3 hh; obtain ⟨bb, rfl, hbt, hbf⟩ := out_two hh; have HBt := Lib.hid hbt; have HBf := Lib.hid hbf; clear hh hbt hbf)
  all_goals
   refine hKK _ _ (hJJ _ _ ?_)
   repeat apply Exists.intro
   exact ⟨⟨_, rfl, fun h => ⟨(HBt.out h).1, kex_drew (HBt.out h).2⟩, HBf.out⟩, rfl⟩
 obtain ⟨bb, rfl, hbt, hbf⟩ := hcut
 clear bv ba v0 e0 e1 e2 e3 e4 e5 e6 e7 e8 e9 hy hR
 cases bb with
 | false =>
  have hjx := hbf rfl
  clear hbt hbf
  gi_wp2
  refine bodyPost_ret (results_none rfl _ _ _) rfl ?_
  exact ⟨⟨_, rfl⟩, .inr ⟨_, hjx⟩⟩
 | true =>
  obtain ⟨hJ2, hK2⟩ := hbt rfl
  clear hbt hbf
  have hI2 := HI.out.keep hK2.1
  obtain ⟨w4, D4, hrun, hbm, hgr⟩ := bmap_one wc.drew (Hwi.out x hxm)
  have hrun : (Instr.mapUpdate 114 (.map (some wc.heap.size)) (.int .i64 x.1.idx) (.bool true)).run Tryz.prog (wc.drew.alloc (.map #[] 0)) = .ok () w4 := hrun
  have hbm : BMap w4 wc.heap.size 1 (f1 x.1.idx) D4 := hbm
  have hgr : (wc.drew.alloc (.map #[] 0)).grownBy w4 (some wc.heap.size) := hgr
  have hsz1 : (wc.drew.alloc (.map #[] 0)).heap.size = wc.heap.size + 1 := by rw [World.size_alloc]; rfl
  have hWc : W.heap.size ≤ wc.heap.size := hK2.1.size
  have hJd : J [⟨x, hxm⟩] wc.drew := HJ.out _ wc wc.drew none hJ2 ⟨rfl, rfl, rfl, Nat.le_refl _, fun _ _ _ => rfl⟩ (fun r e => by cases e)
  have hJa : J [⟨x, hxm⟩] (wc.drew.alloc (.map #[] 0)) := HJ.out _ _ _ none hJd (World.grownBy_alloc _ _ none) (fun r e => by cases e)
  have hmp : (wc.drew.alloc (.map #[] 0)).heap[wc.heap.size]? = some (.map #[] 0) := World.alloc_heap_new wc.drew (.map #[] 0)
  have hJ4 : J [⟨x, hxm⟩] w4 := HJ.out _ _ _ _ hJa hgr (fun r e => by cases e; exact ⟨hWc, _, hmp, rfl⟩)
  have hb4 : Bex n₀ Bs wc w4 := (((Bex.refl n₀ Bs wc).drew).alloc (by show n₀ ≤ wc.heap.size; omega) _).grown hgr (by rw [hsz1]; omega) (fun k hk => by cases hk; omega)
  have hBs4 : w4.heap[Bs]? = wc.heap[Bs]? := (hgr.block Bs (by rw [hsz1]; omega) (by intro e; cases e; omega)).trans (Below.heap_alloc wc.drew (.map #[] 0) Bs (by show Bs < wc.heap.size; omega))
  have hsz4 : wc.heap.size ≤ w4.heap.size := Nat.le_trans (by rw [hsz1]; omega) hgr.size
  have how4 : ∀ k, ownAt w4 Bs = some k → k < w4.heap.size := fun k hk => Nat.lt_of_lt_of_le (hK2.2.2.lt how k (ownAt_eq hBs4 ▸ hk)) hsz4
  have HI4 := Lib.hid (hI2.keep hb4)
  have hba : Bex n₀ Bs wc (wc.drew.alloc (.map #[] 0)) := ((Bex.refl n₀ Bs wc).drew).alloc (by show n₀ ≤ wc.heap.size; omega) _
  have hbd : Bex n₀ Bs wc wc.drew := (Bex.refl n₀ Bs wc).drew
  have HB4 := Lib.hid (show Bex n₀ Bs W w4 from hK2.1.trans hb4)
  have HBM := Lib.hid hbm
  have HJ4 := Lib.hid hJ4
  have HO4 := Lib.hid how4
  have Hs4 := Lib.hid (show W.heap.size ≤ w4.heap.size by omega)
  have hr2 : ∀ W2, Bex n₀ Bs wc W2 → W2.cell? ⟨g, o + p * 10, none⟩ = some (.int .i64 x.1.idx) := fun W2 hb => by
   obtain ⟨g', o', e', hg', hr'⟩ := (hI2.keep hb).row
   cases e'
   exact hr' p x HX.out 0 _ rfl
  have bv := (hI2.keep hbd).bv
  have ba := (hI2.keep hbd).ba
  have v0 := (hI2.keep hbd).v0
  have e0 := hr2 _ hbd
  have bva := (hI2.keep hba).bv
  have baa := (hI2.keep hba).ba
  have v0a := (hI2.keep hba).v0
  have e0a := hr2 _ hba
  have HM := Lib.hid (show W.heap.size ≤ wc.heap.size from hWc)
  clear hr2 hJd hJa hmp hJ4 hb4 hBs4 hsz4 how4 hbm hgr hsz1 hba hbd hI2 hJ2 hK2 hWc
  obtain ⟨M, hM⟩ : ∃ M, wc.heap.size = M := ⟨_, rfl⟩
  obtain ⟨wA, hwA⟩ : ∃ W, wc.drew.alloc (.map #[] 0) = W := ⟨_, rfl⟩
  have hmk : (Instr.makeMap 114 none).run Tryz.prog wc.drew = .ok (.map (some M)) wA := by rw [← hwA, ← hM]; rfl
  rw [hwA, hM] at hrun
  rw [hwA] at bva baa v0a e0a
  rw [hM] at HBM HM
  clear hwA
  gi_upto_region 1 with fail
  gi_cut [4] from 7 (fun s4 wx => s4 = .map (some M) ∧ w4 = wx)
  case first =>
   rename_i J1 K1 hJJ hKK
   gi_region
   all_goals
    refine hKK _ _ (hJJ _ _ ?_)
    repeat apply Exists.intro
    exact ⟨⟨rfl, rfl⟩, rfl⟩
  -- LOOP
  obtain ⟨rfl, rfl⟩ := hcut
  clear hrun hmk bv ba v0 e0 bva baa v0a e0a hM
  obtain ⟨R, hRN⟩ : ∃ R, N - (p + 1) = R := ⟨_, rfl⟩
  obtain ⟨c2, hc2⟩ : ∃ c2, c - (p + 1) = c2 := ⟨_, rfl⟩
  obtain ⟨O2, hO2⟩ : ∃ O2, o + (p + 1) * 10 = O2 := ⟨_, rfl⟩
  have HRN := Lib.hid hRN
  have hR6 : R ≤ 1000000 := by omega
  have HO2 := Lib.hid hO2
  have bv := HI4.out.bv
  have ba := HI4.out.ba
  have v0 := HI4.out.v0
  have hwp : IntKind.i64.wrap ((p : Int) + 1) = ((p + 1 : Nat) : Int) := by rw [IntKind.wrap_i64]; omega
  gi_upto_region 2 with fail
  gi_cut [33, 34, 35] from 7 (fun s33 s34 s35 wx => (∃ ad : Option Addr, s33 = .slice ad R c2 ∧ (0 < R → ad = some ⟨g, O2, none⟩)) ∧ s34 = .int .i64 (R : Int) ∧ s35 = .int .i64 0 ∧ ∃ m, wx = w4.drewN m)
  case first =>
   rename_i J1 K1 hJJ hKK
   gi_region
   all_goals
    refine hKK _ _ (hJJ _ _ ?_)
    repeat apply Exists.intro
    exact ⟨⟨⟨_, rfl, fun h => if_neg (by have := HRN.out; omega)⟩, rfl, rfl, 1, rfl⟩, rfl⟩
  obtain ⟨⟨ad, rfl, had⟩, rfl, rfl, m, hwm⟩ := hcut
  have HAd := Lib.hid had
  clear had
  have hg0 : w4.grownBy wc none := by rw [hwm]; exact ⟨rfl, rfl, rfl, Nat.le_refl _, fun _ _ _ => rfl⟩
  have hb0 : Bex n₀ Bs w4 wc := by rw [hwm]; exact Bex.of_below (((Kp.refl [] w4).drew m).below (by have := Hs4.out; omega) (by simp))
  have HI5 := Lib.hid (HI4.out.keep hb0)
  have HBM5 := Lib.hid (show BMap wc M 1 (f1 x.1.idx) D4 from HBM.out.kept fun o h _ => by rw [hwm]; exact h)
  have HJ5 := Lib.hid (HJ.out _ w4 wc none HJ4.out hg0 (fun r e => by cases e))
  have HB5 := Lib.hid (HB4.out.trans hb0)
  have HO5 := Lib.hid (show ∀ k, ownAt wc Bs = some k → k < wc.heap.size from fun k hk => by
   rw [hwm] at hk ⊢
   exact HO4.out k hk)
  clear hwm hg0 hb0 bv ba v0 hwp hRN hc2 hO2
  have HW := Lib.hid hn₀
  have HBs := Lib.hid hBs
  clear hn₀ hBs how
  gi_wp2
  gi_loopw [35] (fun s wr => ∃ (k : Nat) (ys : List (AD l)) (f : Int → Bool) (D : DataW Unit), k ≤ R ∧ s = .int .i64 (k : Int) ∧ ys.map (fun p : AD l => p.1) ++ walkS f ((l.drop (p + 1)).drop k) = subL l p x ∧ ys.length = k + 1 ∧ BMap wr M (k + 1) f D ∧ J ys wr ∧ Bex n₀ Bs W wr ∧ (∀ k, ownAt wr Bs = some k → k < wr.heap.size))
   (fun s _ => R - (intOf s).toNat)
  case atStart => exact ⟨0, [⟨x, hxm⟩], _, _, Nat.zero_le _, rfl, by simp [subL], rfl, HBM5.out, HJ5.out, HB5.out, HO5.out⟩
  case round =>
   clear HBM5 HJ5 HB5 HO5
   obtain ⟨k, ys, f, D, hk, rfl, hys, hyl, hbm, hjs, hbw, how⟩ := hrel
   have hsz : W.heap.size ≤ wr.heap.size := hbw.size
   by_cases hlt : k < R
   ·have hkz : (k : Int) < (R : Int) := by omega
    obtain rfl := HAd.out (by omega)
    have Hkb := Lib.hid (show k + 1 ≤ 1000001 by have := HRN.out; omega)
    have hll : p + 1 + k < l.length := by have := HI.out.len; have := HRN.out; omega
    obtain ⟨y, hy⟩ : ∃ y, l[p + 1 + k]? = some y := ⟨_, List.getElem?_eq_getElem hll⟩
    have hym := List.mem_of_getElem? hy
    obtain ⟨yb, yn, yc, hyv⟩ := HSl.out y hym
    obtain ⟨y1, y2⟩ := y
    simp only at hyv
    subst hyv
    have hdr : (l.drop (p + 1)).drop k = (y1, Value.slice yb yn yc) :: (l.drop (p + 1)).drop (k + 1) := by
     rw [List.drop_drop, List.drop_drop, List.drop_eq_getElem_cons hll]
     congr 1
     exact (List.getElem?_eq_some_iff.1 hy).2
    obtain ⟨g', o', e', hg', hr'⟩ := (HI.out.keep hbw).row
    cases e'
    have hry := hr' (p + 1 + k) (y1, Value.slice yb yn yc) hy
    rw [show o + (p + 1 + k) * 10 = O2 + k * 10 by have := HO2.out; omega] at hry
    have c0 : wr.cell? ⟨g, O2 + k * 10, none⟩ = some (.int .i64 y1.idx) := hry 0 _ rfl
    have c1 : wr.cell? ⟨g, O2 + k * 10 + 1, none⟩ = some (.int .i64 y1.par) := hry 1 _ rfl
    have c2 : wr.cell? ⟨g, O2 + k * 10 + 2, none⟩ = some (.string y1.name) := hry 2 _ rfl
    have c3 : wr.cell? ⟨g, O2 + k * 10 + 3, none⟩ = some (.string y1.orig) := hry 3 _ rfl
    have c4 : wr.cell? ⟨g, O2 + k * 10 + 4, none⟩ = some (.string y1.sub) := hry 4 _ rfl
    have c5 : wr.cell? ⟨g, O2 + k * 10 + 5, none⟩ = some (.string y1.drv) := hry 5 _ rfl
    have c6 : wr.cell? ⟨g, O2 + k * 10 + 6, none⟩ = some (.string y1.ali) := hry 6 _ rfl
    have c7 : wr.cell? ⟨g, O2 + k * 10 + 7, none⟩ = some (.int .i64 y1.kind) := hry 7 _ rfl
    have c8 : wr.cell? ⟨g, O2 + k * 10 + 8, none⟩ = some (.int .i64 y1.num) := hry 8 _ rfl
    have c9 : wr.cell? ⟨g, O2 + k * 10 + 9, none⟩ = some (.slice yb yn yc) := hry 9 _ rfl
    obtain ⟨Bd, hBd⟩ : ∃ Bd, wr.heap.size = Bd := ⟨_, rfl⟩
    obtain ⟨wB, hwB⟩ : ∃ wB, wr.alloc (.cells #[.int .i64 y1.idx, .int .i64 y1.par, .string y1.name, .string y1.orig, .string y1.sub, .string y1.drv, .string y1.ali, .int .i64 y1.kind, .int .i64 y1.num, .slice yb yn yc] 34) = wB := ⟨_, rfl⟩
    have hbB : Bex n₀ Bs W wB := by rw [← hwB]; exact hbw.alloc (by have := HW.out; omega) _
    have hbx : wB.heap[Bd]? = some (.cells #[.int .i64 y1.idx, .int .i64 y1.par, .string y1.name, .string y1.orig, .string y1.sub, .string y1.drv, .string y1.ali, .int .i64 y1.kind, .int .i64 y1.num, .slice yb yn yc] 34 (0, 0)) := by rw [← hwB, ← hBd]; exact heap_alloc_last wr _
    have hjB : J ys wB := HJ.out _ wr wB none hjs (by rw [← hwB]; exact World.grownBy_alloc _ _ none) (fun r e => by cases e)
    have hmB : BMap wB M (k + 1) f D := hbm.kept fun o h _ => by rw [← hwB]; exact (Below.heap_alloc wr _ M (Array.getElem?_eq_some_iff.1 h).1).trans h
    have hBsB : wB.heap[Bs]? = wr.heap[Bs]? := by rw [← hwB]; exact Below.heap_alloc wr _ Bs (by have := HBs.out; omega)
    have hszB : wB.heap.size = Bd + 1 := by rw [← hwB, ← hBd]; simp
    have hoB : ∀ j, ownAt wB Bs = some j → j < Bd := fun j hj => by rw [← hBd]; exact how j (ownAt_eq hBsB ▸ hj)
    have hl := hmB.look (Hwl.out _ hym)
    have dx := fun i => cell_of_row wB Bd i _ _ _ hbx
    obtain ⟨bf, hbf⟩ : ∃ bf, f y1.par = bf := ⟨_, rfl⟩
    rw [hbf] at hl
    have HBx := Lib.hid hbx
    have HbB := Lib.hid hbB
    have HjB := Lib.hid hjB
    have HmB := Lib.hid hmB
    have HoB := Lib.hid hoB
    have HszB := Lib.hid hszB
    have Hys := Lib.hid hys
    have Hyl := Lib.hid hyl
    have Hdr := Lib.hid hdr
    have Hsz := Lib.hid (show W.heap.size ≤ Bd by omega)
    have Hwy := Lib.hid (Hwi.out _ hym)
    have Hbf := Lib.hid hbf
    clear hbx hbB hjB hmB hoB hszB hys hyl hdr hsz hry hr' hg' hbm hjs hbw how hBsB hbf
    cases bf with
    | false =>
     gi_wp2
     refine ⟨fun _ h => (by cases h), ?_⟩
     gi_wp2
     refine bodyPost_ret (results_none rfl _ _ _) rfl ?_
     refine ⟨⟨_, rfl⟩, .inl ⟨ys, ?_, HjB.out⟩⟩
     have := Hys.out
     rw [Hdr.out, walkS_no Hbf.out, List.append_nil] at this
     exact this
    | true =>
     obtain ⟨fn2, tmps2, assign2, body2, hy2, hR2⟩ := HY.out ys ⟨(y1, .slice yb yn yc), hym⟩ wB HjB.out (by have := Hyl.out; have := HRN.out; omega)
     unfold adE at hy2
     dsimp only at hy2
     gi_wp2
     refine hR2.mono ?_
     rintro e W3 (⟨rfl, hJ3, hk3⟩ | ⟨rfl, hJx3⟩)
     ·have hx3 : W3.heap[Bd]? = some (.cells #[.int .i64 y1.idx, .int .i64 y1.par, .string y1.name, .string y1.orig, .string y1.sub, .string y1.drv, .string y1.ali, .int .i64 y1.kind, .int .i64 y1.num, .slice yb yn yc] 34 (0, 0)) := hk3.2.2.same Bd _ HBx.out rfl (by have := HBs.out; have := Hsz.out; omega) (fun e => by have := HoB.out Bd e; omega)
      have dx3 := fun i => cell_of_row W3 Bd i _ _ _ hx3
      have hm3 := HmB.out.walks hk3.2.1
      have HM3 := Lib.hid hm3
      have HK3 := Lib.hid hk3
      have HJ3 := Lib.hid hJ3
      clear hm3 hk3 hJ3 hx3 dx hR2 hy2
      gi_wp2_with (gi_at_mapUpdate; refine wpListIn_mapUpdate_own _ rfl _ _ _ 114 rfl 3 4 lawI Tryz.underlying114 _ M (k + 1) D rfl HM3.out.own (by have := Hkb.out; unfold maxLen; omega) _ _ _ rfl rfl (keyI Hwy.out) _ [] (boolE true) ?_; intro w5 hown5 hgr5; have Hown5 := Lib.hid hown5; have Hgr5 := Lib.hid hgr5; clear hown5 hgr5)
      have hmo : ∃ o : Obj, W3.heap[M]? = some o ∧ o.isWalk = true := by
       obtain ⟨es, clock, h1, -⟩ := HM3.out.own
       exact ⟨_, h1, rfl⟩
      have hB3 : W.heap.size ≤ W3.heap.size := Nat.le_trans (by have := Hsz.out; have := HszB.out; omega) HK3.out.2.2.size
      have hbs5 : w5.heap[Bs]? = W3.heap[Bs]? := Hgr5.out.block Bs (by have := HBs.out; omega) (by intro e; cases e; have := HBs.out; have := HM.out; omega)
      go_roundw
      case rel =>
       refine ⟨k + 1, ys ++ [⟨(y1, .slice yb yn yc), hym⟩], _, _, by omega, rfl, ?_, by simp [Hyl.out], HM3.out.put Hwy.out Hown5.out, HJ.out _ W3 w5 (some M) HJ3.out Hgr5.out (fun r e => by cases e; exact ⟨HM.out, hmo⟩), ?_, fun j hj => ?_⟩
       ·rw [← Hys.out, Hdr.out, walkS_yes Hbf.out]
        simp
       ·exact (HbB.out.trans HK3.out.1).grown Hgr5.out (by have := HW.out; omega) (fun j hj => by cases hj; have := HM.out; have := HW.out; omega)
       ·exact Nat.lt_of_lt_of_le (HK3.out.2.2.lt (fun i hi => Nat.lt_of_lt_of_le (HoB.out i hi) (by have := HszB.out; omega)) j (ownAt_eq hbs5 ▸ hj)) Hgr5.out.size
      case measure => simp [intOf]; omega
     ·gi_wp2
      refine bodyPost_ret (results_none rfl _ _ _) rfl ?_
      exact ⟨⟨_, rfl⟩, .inr ⟨_, hJx3⟩⟩
   ·obtain rfl : k = R := by omega
    have hz : (l.drop (p + 1)).drop k = [] := by
     rw [List.drop_drop, List.drop_eq_nil_iff]
     have := HI.out.len
     have := HRN.out
     omega
    rw [hz] at hys
    simp only [walkS, List.append_nil] at hys
    gi_wp2
    go_end0
    exact ⟨⟨_, rfl⟩, .inl ⟨_, hys, hjs⟩⟩
theorem subx_stops (n : Nat) (hn : 1 ≤ n) (n₀ Bs Bv Ba V N c p : Nat) (a : Option Addr) (l : List DV) (x : DV) (hx : l[p]? = some x) (hNl : N ≤ 1000000) (hNc : N ≤ c)
  (hwi : ∀ x ∈ l, (Lit.int .i64 x.1.idx).wf = true) (hwl : ∀ x ∈ l, (Lit.int .i64 x.1.par).wf = true) (hsl : ∀ x ∈ l, ∃ b n c, x.2 = .slice b n c) (w : World) (hn₀ : n₀ ≤ w.heap.size) (hI : It3 n₀ Bs w Bv Ba V N c p a l)
  (hBs : Bs < w.heap.size) (how : ∀ k, ownAt w Bs = some k → k < w.heap.size) :
  SeqStopsK Fence.wide n Tryz.prog 111 #[.pointer (some ⟨Bv, 0, none⟩), .pointer (some ⟨Ba, 0, none⟩)] (adE (l := l)) (Kex n₀ Bs) (fun ys => ys.map (fun p : AD l => p.1) = subL l p x) (fun _ => True) N w := fun lo J Jx W hW hJ _ hY h0 => by
 have hs := hW.size
 have e := ownAt_eq (hW.block Bs hBs)
 refine (sub1x_in n hn lo n₀ Bs Bv Ba V N c p a l x hx hNl hNc J Jx hwi hwl hsl hY W (by omega) (hI.keep (Bex.of_below (hW.mono hn₀))) (by omega) (fun k hk => by have := how k (e ▸ hk); omega) h0 hJ).mono ?_
 rintro e W' ⟨he, ⟨ys, hys, hj⟩ | ⟨pre, hj⟩⟩
 ·exact ⟨he, .inl ⟨ys, hys, hj⟩⟩
 ·exact ⟨he, .inr ⟨pre, trivial, hj⟩⟩
end Go.Proofs.YtldcediiobfhiaaGreatDoor.De
namespace Go.Proofs.YtldcediiobfhiaaGreatDoor.De
open Go.RowKit Go.Shelf Go.Maps
attribute [local go_sem] Oper.semAt_some
theorem subL_fit {l : List DV} {p : Nat} {x : DV} (hx : l[p]? = some x) : p + (subL l p x).length ≤ l.length := by
 have h1 := (List.getElem?_eq_some_iff.1 hx).1
 have h2 := walkS_len (l := l.drop (p + 1)) (f := f1 x.1.idx)
 rw [List.length_drop] at h2
 unfold subL
 rw [List.length_cons]
 omega
theorem Bex.set {n₀ Bs : Nat} {W : World} (v : Value) : Bex n₀ Bs W (W.setCell ⟨Bs, 0, none⟩ v) := ⟨rfl, rfl, rfl, by simp [World.setCell], fun _ _ hn => Below.heap_setCell _ _ _ _ hn⟩
theorem kz_set {W : World} {Bs : Nat} {t : TypeId} {u : Value} {z : Int} (h : Boxed W Bs t u) : Kz Bs W (W.setCell ⟨Bs, 0, none⟩ (.int .i64 z)) := by
 have hn := (h.set (.int .i64 z)).cell
 have h0 : ownAt (W.setCell ⟨Bs, 0, none⟩ (.int .i64 z)) Bs = none := by unfold ownAt; rw [hn]; rfl
 exact ⟨by simp [World.setCell], fun k o hk _ hne _ => (Below.heap_setCell _ _ _ _ hne).trans hk, fun k hk => by (rw [h0] at hk; cases hk), fun _ k hk => by (rw [h0] at hk; cases hk)⟩
theorem hasD {W W' : World} {Dd : Nat} {qd : Option (List Deferred)} {v : Value} {l : List Atr} (h : Has W v l) (hd : W.heap[Dd]? = some (.deferred qd)) (hk : Kp [Dd] W W') : Has W' v l := by
 refine h.other hk.size (g := Dd) (fun hne e => ?_) fun b hb hne => hk.block b hb (by simpa using hne)
 rcases h with ⟨a, c, rfl, h0⟩ | ⟨b, o, c, rfl, hb, hrow⟩
 ·exact hne h0
 ·obtain rfl : b = Dd := Option.some.inj e
  cases l with
  | nil => exact hne rfl
  | cons x l =>
   obtain ⟨h1, h2⟩ := hrow 0 x rfl
   simp [World.cell?, hd] at h1
theorem dhasD {W W' : World} {Dd : Nat} {qd : Option (List Deferred)} {v : Value} {l : List DV} (h : DHas W v l) (hd : W.heap[Dd]? = some (.deferred qd)) (hk : Kp [Dd] W W') : DHas W' v l := by
 rcases h with h | ⟨g, o, c, hv, hc, hg, hr⟩
 ·exact .inl h
 ·refine .inr ⟨g, o, c, hv, hc, Nat.lt_of_lt_of_le hg hk.size, ⟨fun j x hx m u hu => ?_, fun x hx => hasD (hr.ats x hx) hd hk⟩⟩
  have h1 := hr.at_ j x hx m u hu
  by_cases e : g = Dd
  ·subst e
   simp [World.cell?, hd] at h1
  ·have := hk.block g hg (by simpa using e)
   simp only [World.cell?, this] at h1 ⊢
   exact h1
/-- A piece of code that comes to its end. -/
theorem calm {P : Program} {c : Code} {Q : Exit → Act → World → Prop} {a : Act} {w : World} (h : c.wp P (fun e a w => match e with | .normal => Q .normal a w | _ => False) a w) : c.wp P Q a w :=
 Code.wp_mono (fun e a w h => by cases e <;> first | exact h | exact h.elim) h
/-- What is left. -/
def remP (l : List DV) (n : Int) : List DV := match lastI (l.map (·.1)) n with
 | none => []
 | some q => l.take q ++ l.drop (q + (subOf l n).length)
def remPE (l : List DV) (n : Int) : Int := if (lastI (l.map (·.1)) n).isSome then 0 else 45
set_option maxRecDepth 100000 in
set_option maxHeartbeats 4000000 in
theorem remove_any (sv : Value) (l : List DV) (n : Int) (w : World) (hl : l.length ≤ 90000) (hal : ∀ x ∈ l, x.1.ats.length ≤ 1000000) (h : DHas w sv l) (hc : ∀ a n c, sv = .slice a n c → n ≤ c)
  (hwf : ∀ x ∈ l, (Lit.int .i64 x.1.idx).wf = true) (hwp : ∀ x ∈ l, (Lit.int .i64 x.1.par).wf = true) (hn : (Lit.int .i64 n).wf = true) :
  Calls Tryz.prog 43 #[.agg #[sv], .int .i64 n] w fun e w' => ∃ u L, e = .returned (.tuple #[.agg #[u], .int .i64 (remPE l n)]) ∧ L.map (·.1) = (remP l n).map (·.1) ∧ DHas w' u L ∧ Below w.heap.size w w' := by
 obtain ⟨a0, c0, rfl, hrow⟩ := h.form
 have hboxw := heap_alloc2_old w (.cells #[.slice a0 l.length c0] 29) (.cells #[.slice none 0 0] 29)
 have hresw := heap_alloc_last (w.alloc (.cells #[.slice a0 l.length c0] 29)) (.cells #[.slice none 0 0] 29)
 rw [World.size_alloc] at hresw
 have hb0 := ((Below.refl w.heap.size w).alloc (Nat.le_refl _) (.cells #[.slice a0 l.length c0] 29)).alloc (by simp) (.cells #[.slice none 0 0] 29)
 have hs1 : ((w.alloc (.cells #[.slice a0 l.length c0] 29)).alloc (.cells #[.slice none 0 0] 29)).heap.size = w.heap.size + 2 := by simp
 have HAts := Lib.hid (show ∀ x ∈ l, Has w x.2 x.1.ats by
  rcases h with ⟨a, c, hv, rfl⟩ | ⟨g, o, c, hv, _, _, hr⟩
  ·intro x hx
   cases hx
  ·exact hr.ats)
 obtain ⟨W1, hW1⟩ : ∃ W1, (w.alloc (.cells #[.slice a0 l.length c0] 29)).alloc (.cells #[.slice none 0 0] 29) = W1 := ⟨_, rfl⟩
 rw [hW1] at hboxw hresw hb0 hs1
 have HRes := Lib.hid hresw
 have HV := Lib.hid (viewOf_any (.slice a0 l.length c0) l W1 (by omega) (h.below hb0) hc hwf)
 have b0 : W1.cell? ⟨w.heap.size, 0, none⟩ = some (.slice a0 l.length c0) := by rw [cell_of_row _ _ 0 _ _ _ hboxw]; rfl
 have HB0 := Lib.hid hb0
 have HBx := Lib.hid hboxw
 have HRow := Lib.hid hrow
 have Hn := Lib.hid hn
 have Hwp := Lib.hid hwp
 have Hwi := Lib.hid hwf
 have Hl := Lib.hid hl
 have Hal := Lib.hid hal
 have Hs1 := Lib.hid hs1
 obtain ⟨N, hN⟩ : ∃ N, l.length = N := ⟨_, rfl⟩
 have HN := Lib.hid hN
 rw [hN] at hW1 HV b0 HBx ⊢
 clear h hrow hboxw hresw hb0 hs1 hc hwf hwp hn hal hl hN
 refine (callsIn_wide (n := 5)).1 ?_
 refine callsIn_of_wp_marks Tryz.func43 rfl trivial (wpIn_wide.2 ?_) rfl
 simp only [Tryz.ntmps43, List.size_toArray, List.length_cons, List.length_nil, Nat.reduceAdd, Nat.reduceSub, Array.replicate_succ, Array.replicate_zero, List.push_toArray, List.append_toArray, List.nil_append, List.cons_append]
 go_upto_region 2 with (go_at_call 52; refine Calls.mono (by with_reducible exact HV.out) ?_; rintro e w2 ⟨V, M, D, sv', rfl, hV1, hM1, hvw, hb1⟩)
 obtain ⟨a, c, rfl, hrv⟩ := hvw.dev.form
 have v0 : w2.cell? ⟨V, 0, none⟩ = some (.slice a l.length c) := by rw [cell_of_row _ _ _ _ _ _ hvw.box]; rfl
 have v1 : w2.cell? ⟨V, 1, none⟩ = some (.map (some M)) := by rw [cell_of_row _ _ _ _ _ _ hvw.box]; rfl
 have HO := Lib.hid hvw.map.own
 have HVw := Lib.hid hvw
 have HB1 := Lib.hid hb1
 have HBall := Lib.hid (HB0.out.trans (hb1.mono (by have := Hs1.out; omega)))
 have bx := (hb1.cell (p := ⟨w.heap.size, 0, none⟩) (block_lt HBx.out)).trans b0
 have Hbx := Lib.hid bx
 have HRw := Lib.hid ((hb1.block (w.heap.size + 1) (block_lt HRes.out)).trans HRes.out)
 cases hp : lastI (l.map (·.1)) n with
 | none =>
  have hh := hvw.map.has n Hn.out
  rw [hp] at hh
  have Hh := Lib.hid hh
  have hz : remP l n = [] ∧ remPE l n = 45 := by unfold remP remPE; rw [hp]; exact ⟨rfl, rfl⟩
  have HZ := Lib.hid hz
  clear hh hz hp hvw hb1 hrv
  go_wp2_with (first
   | (at_lookup; refine wpList_lookup_own_ok_int _ rfl _ _ 82 rfl 3 3 .i64 lawI Tryz.underlying82 Tryz.underlying3 (Tryz.zeroValue3 _) M l.length D rfl HO.out _ _ rfl (keyI Hn.out) ?_; intro c hat hwc; rw [Hh.out]; clear hat hwc)
   | (refine wpList_store_row rfl 29 _ _ rfl (w.heap.size + 1) #[.slice none 0 0] rfl rfl 29 #[.slice none 0 0] HRw.out info30b rfl one30 ?_))
  exact ⟨.tuple #[.agg #[.slice none 0 0], .int .i64 45], De.results_row_tmp rfl _ _ (w.heap.size + 1) 29 #[.slice none 0 0] _ _ _ rfl rfl (setRow_heap _ _ _ _ _ _ HRw.out) Tryz.underlying29 rfl info30b, _, [], by rw [HZ.out.2], by rw [HZ.out.1], .inl ⟨none, 0, rfl, rfl⟩, below_setRow HBall.out (by omega) _⟩
 | some q =>
  obtain ⟨y, hy, -⟩ := lastI_some hp
  rw [List.getElem?_map, Option.map_eq_some_iff] at hy
  obtain ⟨x, hx, -⟩ := hy
  have hqN : q < N := by
   rw [← HN.out]
   exact (List.getElem?_eq_some_iff.1 hx).1
  have hqz : (q : Int) < (N : Int) := by omega
  have hsub : subOf l n = subL l q x := by unfold subOf; rw [hp]; simp only [hx]
  have HZ := Lib.hid (show remP l n = l.take q ++ l.drop (q + (subL l q x).length) ∧ remPE l n = 0 from by unfold remP remPE; rw [hp, ← hsub]; exact ⟨rfl, rfl⟩)
  have hh := hvw.map.has n Hn.out
  have hat' := hvw.map.val n q Hn.out hp
  rw [hp] at hh
  have Hh := Lib.hid hh
  have Hat := Lib.hid hat'
  have Hsl := Lib.hid (show ∀ x ∈ l, ∃ b n c, x.2 = .slice b n c from fun y hy => by
   obtain ⟨b, c, hv, -⟩ := (HAts.out y hy).form
   exact ⟨b, _, c, hv⟩)
  have HX := Lib.hid hx
  have HFit := Lib.hid (subL_fit hx)
  have HVl := Lib.hid (block_lt hvw.box)
  obtain ⟨gv, ov, rfl, hcv, hgv, hrv2⟩ := hrv (fun e => by rw [e] at hx; simp at hx)
  have HRv := Lib.hid hrv2
  have Hgv := Lib.hid hgv
  obtain ⟨Bs, hBs⟩ : ∃ B, w2.heap.size = B := ⟨_, rfl⟩
  clear hh hat' hp hvw hb1 hrv hx hsub hrv2 hgv
  go_upto_region 5 with (at_lookup; refine wpList_lookup_own_ok_int _ rfl _ _ 82 rfl 3 3 .i64 lawI Tryz.underlying82 Tryz.underlying3 (Tryz.zeroValue3 _) M l.length D rfl HO.out _ _ rfl (keyI Hn.out) ?_; intro c hat hwc; rw [Hh.out]; rw [Hat.out] at hat; obtain rfl : (q : Int) = c := (by simpa using hat); clear hat hwc)
  go_upto_region 6 with fail
  have hcs : (w2.alloc (.cells #[.int .i64 (q : Int)] 3)).heap.size = Bs + 1 := by rw [World.size_alloc, hBs]
  have hcb := heap_alloc_last w2 (.cells #[.int .i64 (q : Int)] 3)
  have hck := (Below.refl w2.heap.size w2).alloc (Nat.le_refl _) (.cells #[.int .i64 (q : Int)] 3)
  generalize w2.alloc (.cells #[.int .i64 (q : Int)] 3) = wc at *
  rw [hBs] at hcb
  have HC1 := Lib.hid (sub_any V q wc)
  obtain ⟨w3, hw3⟩ : ∃ w3, (wc.alloc (.cells #[.pointer (some ⟨V, 0, none⟩)] 64)).alloc (.cells #[.int .i64 (q : Int)] 3) = w3 := ⟨_, rfl⟩
  have hz3 : w3.heap.size = Bs + 3 := by rw [← hw3, World.size_alloc, World.size_alloc, hcs]
  have hk3 : Kp [] wc w3 := by rw [← hw3]; exact ((Kp.refl [] wc).alloc _).alloc _
  have hbv : w3.heap[Bs + 1]? = some (.cells #[.pointer (some ⟨V, 0, none⟩)] 64 (0, 0)) := by rw [← hw3, ← hcs]; exact heap_alloc2_old wc _ _
  have hba : w3.heap[Bs + 1 + 1]? = some (.cells #[.int .i64 (q : Int)] 3 (0, 0)) := by
   have := heap_alloc_last (wc.alloc (.cells #[.pointer (some ⟨V, 0, none⟩)] 64)) (.cells #[.int .i64 (q : Int)] 3)
   rw [hw3, World.size_alloc, hcs] at this
   exact this
  have hbox : Boxed w3 Bs 3 (.int .i64 (q : Int)) := (hk3.block Bs (block_lt hcb) (by simp)).trans hcb
  have hb23 : Below w2.heap.size w2 w3 := hck.trans (hk3.below (by omega) (by simp))
  have hIt : It3 w3.heap.size Bs w3 (Bs + 1) (Bs + 1 + 1) V l.length c q (some ⟨gv, ov, none⟩) l :=
   ⟨by rw [cell_of_row _ _ _ _ _ _ hbv]; rfl, by omega, by rw [cell_of_row _ _ _ _ _ _ hba]; rfl, by omega, (hb23.cell (p := ⟨V, 0, none⟩) HVl.out).trans v0, by have := HVl.out; omega, rfl,
    ⟨gv, ov, rfl, by have := Hgv.out; omega, fun j y hy => (HRv.out.below Hgv.out hb23).at_ j y hy⟩⟩
  have HBs2 := Lib.hid (show w.heap.size + 1 < Bs from by have := HB1.out.size; have := Hs1.out; omega)
  have HT3 := Lib.hid (show ∀ W, Bex w3.heap.size Bs w3 W → W.heap[w.heap.size]? = some (.cells #[.slice a0 N c0] 29 (0, 0)) from fun W hB => (hB.block _ (by have := HBs2.out; omega) (by have := HBs2.out; omega)).trans ((hb23.block _ (by have := HBs2.out; omega)).trans ((HB1.out.block _ (by have := Hs1.out; omega)).trans HBx.out)))
  have HR3 := Lib.hid (show ∀ W, Bex w3.heap.size Bs w3 W → W.heap[w.heap.size + 1]? = some (.cells #[.slice none 0 0] 29 (0, 0)) from fun W hB => (hB.block _ (by have := HBs2.out; omega) (by have := HBs2.out; omega)).trans ((hb23.block _ (by have := HBs2.out; omega)).trans HRw.out))
  have HIt := Lib.hid hIt
  have HBox := Lib.hid hbox
  have HB3 := Lib.hid (HBall.out.trans (hb23.mono HBall.out.size))
  have HW3 := Lib.hid hw3
  have Hz3 := Lib.hid hz3
  have Hcs := Lib.hid hcs
  have how : ∀ k, ownAt w3 Bs = some k → k < w3.heap.size := fun k hk => by
   unfold ownAt at hk
   rw [hbox.cell] at hk
   cases hk
  have How := Lib.hid how
  clear hIt hbox hb23 hw3 hz3 hk3 hbv hba hcb hck how v0 v1 bx HC1
  have HC1 := Lib.hid (show Calls Tryz.prog 77 #[.pointer (some ⟨V, 0, none⟩), .int .i64 (q : Int)] wc fun e w' => e = .returned (.func (.func 111) #[] #[.pointer (some ⟨Bs + 1, 0, none⟩), .pointer (some ⟨Bs + 1 + 1, 0, none⟩)]) ∧ w' = w3 from (sub_any V q wc).mono fun e w' h => by rw [Hcs.out] at h; exact ⟨h.1, h.2.trans HW3.out⟩)
  clear hcs
  go_wp2_with (go_at_call 77; refine Calls.mono (by with_reducible exact HC1.out) ?_; rintro e w3' ⟨rfl, rfl⟩)
  refine (wpIn_wide (n := 5)).1 (wpIn_rangeFunc_ownH (F := Fence.wide) rfl (by omega : 1 ≤ 5) (gf := 111) (lb := #[.pointer (some ⟨Bs + 1, 0, none⟩), .pointer (some ⟨Bs + 1 + 1, 0, none⟩)]) rfl trivial (enters_of Tryz.func111 (by kernel_rfl) rfl)
   (subx_stops 4 (by omega) w3'.heap.size Bs (Bs + 1) (Bs + 1 + 1) V l.length c q (some ⟨gv, ov, none⟩) l x HX.out (by have := Hl.out; omega) hcv Hwi.out Hwp.out Hsl.out w3' (Nat.le_refl _) HIt.out (by have := Hz3.out; omega) How.out) Kex.trans (kex_b (Nat.le_refl _) (by have := Hz3.out; omega)) (Below.refl _ _) (fun _ => rfl)
   (fun pre W => Boxed W Bs 3 (.int .i64 ((q + pre.length : Nat) : Int)) ∧ Bex w3'.heap.size Bs w3' W) (fun _ _ _ => False)
   (OwnFrom.and (Own.from (boxed_own Bs 3 (fun pre : List (AD l) => .int .i64 ((q + pre.length : Nat) : Int))) _) (fun _ _ _ _ hs hg hr => hs.grown hg hs.size (fun k e => (hr k e).1))) (fun _ _ _ _ _ hs _ _ => hs)
   ⟨HBox.out, Bex.refl _ _ _⟩
   (fun x a' W => ∃ v28 : Value, a' = { tmps := #[.agg #[.slice a0 N c0], .int .i64 n, .pointer (some ⟨w.heap.size, 0, none⟩), undef, .pointer (some ⟨w.heap.size + 1, 0, none⟩), .int .i64 0, .pointer (some ⟨V, 0, none⟩), .int .i64 (q : Int), .bool true, .pointer (some ⟨Bs, 0, none⟩), .agg #[.slice a0 N c0], .pointer (some ⟨V, 0, none⟩), .tuple #[.int .i64 (q : Int), .bool true], .pointer (some ⟨V, 0, none⟩), .pointer (some ⟨V, 0, none⟩), .pointer (some ⟨V, 1, none⟩), .map (some M), .int .i64 n, .tuple #[.int .i64 (q : Int), .bool true], .int .i64 (q : Int), .bool true, .bool true, .bool false, undef, .int .i64 (q : Int), .pointer (some ⟨V, 0, none⟩), .int .i64 (q : Int), .func (.func 111) #[] #[.pointer (some ⟨Bs + 1, 0, none⟩), .pointer (some ⟨Bs + 1 + 1, 0, none⟩)], v28, undef, undef, undef, undef, undef, undef, undef, undef, undef, undef, undef, undef, undef, undef], defers := [] })
   ?hAx ?assign ?body ?done ?stop)
  case hAx => exact fun x a' _ A B row hs _ _ => hs
  case assign =>
   intro lo pre x W K hi hK
   obtain ⟨⟨ad, v⟩, hx⟩ := x
   unfold adE
   gi_wp2
   exact hK _ _ (KeepsFrom.refl _ _) ⟨Bex.refl _ _ _, KeepsWalks.refl _, Kz.step (Nat.le_refl _) (fun _ _ h _ => h) rfl⟩ hi ⟨_, rfl⟩
  case body =>
   rintro lo pre x a' W hl' _ ⟨hv, hB⟩ ⟨v28, rfl⟩ hlt
   obtain ⟨P, hP⟩ : ∃ P, q + pre.length = P := ⟨_, rfl⟩
   rw [hP] at hv
   have hP2 : q + (pre ++ [x]).length = P + 1 := by rw [List.length_append, ← hP]; rfl
   have q0 := hv.cell
   have qf := hv.frozen
   have hw1 : IntKind.i64.wrap ((P : Int) + 1) = ((P + 1 : Nat) : Int) := by have := Hl.out; have := HN.out; rw [IntKind.wrap_i64]; omega
   gi_wp2
   exact ⟨(KeepsOthers.setCell _ _ _).from _, ⟨Bex.set _, KeepsWalks.setCell _ _ _, kz_set hv⟩, by rw [hP2]; exact hv.set _, hB.trans (Bex.set _)⟩
  case done =>
   rintro Dd xs W hD hxs ⟨hv, hB⟩ hK
   have hxl : xs.length = (subL l q x).length := by rw [← hxs, List.length_map]
   rw [hxl] at hv
   obtain ⟨E, hE⟩ : ∃ E, q + (subL l q x).length = E := ⟨_, rfl⟩
   rw [hE] at hv
   have HE := Lib.hid hE
   have hEN : E ≤ N := by have := HFit.out; have := HN.out; omega
   have hqE : q ≤ E := by omega
   have hBw : Below w.heap.size w3' W := ⟨hB.os, hB.tape, hB.output, hB.size, fun k hk => hB.block k (by have := Hz3.out; have := HB3.out.size; omega) (by have := HBs2.out; omega)⟩
   have HBW := Lib.hid (HB3.out.trans hBw)
   have HTc := Lib.hid (show W.heap[w.heap.size]? = some (.cells #[.slice a0 N c0] 29 (0, 0)) from HT3.out _ hB)
   have HRc := Lib.hid (show W.heap[w.heap.size + 1]? = some (.cells #[.slice none 0 0] 29 (0, 0)) from HR3.out _ hB)
   have HCt := Lib.hid (show W.heap[Bs]? = some (.cells #[.int .i64 (E : Int)] 3 (0, 0)) from hv)
   have HKd := Lib.hid hK
   have HDd := Lib.hid hD
   obtain ⟨g, o, rfl, hcap, hg, hr⟩ := HRow.out (fun e => by have h := HX.out; rw [e] at h; simp at h)
   rw [HN.out] at hcap
   obtain ⟨o2, ho2⟩ : ∃ p, (if c0 = E then o else o + E * 10) = p := ⟨_, rfl⟩
   have Ho2 := Lib.hid ho2
   have HrW := Lib.hid (hr.below hg HBW.out)
   have HgW := Lib.hid (Nat.lt_of_lt_of_le hg HBW.out.size)
   have HY1 := Lib.hid (dhas_take (r := q) HrW.out HgW.out HN.out hcap (by omega))
   have HY2 := Lib.hid (dhas_drop (r := E) HrW.out HgW.out HN.out hcap hEN Ho2.out)
   have hqc : (q : Int) ≤ (c0 : Int) := by omega
   have hEz : (E : Int) ≤ (N : Int) := by omega
   have hEc : (E : Int) ≤ (c0 : Int) := by omega
   have hcE : ¬ c0 < E := by omega
   clear hv hB hK hxs hxl hE hBw hr hg ho2
   go_upto_region 8 with fail
   refine calm ?_
   refine wp_region_held_drew (S := fun W2 => Kp [w.heap.size + 1] W W2) (by kernel_rfl) ((Kp.refl [w.heap.size + 1] W).drew 1) (fun hHeld => ?_)
   generalize hwd : W.drew = wd at *
   have HK0 := Lib.hid (show Kp [] W wd from by rw [← hwd]; exact (Kp.refl [] W).drew 1)
   clear hwd
   refine wpAnyH_take (i := 0) (oi := { dst := some 31, op := Op.fieldAddr 29 (Operand.tmp 2) 0, type := 0, pos := "tree.go:122", after := #[], guard := none }) (v := .pointer (some ⟨w.heap.size, 0, none⟩)) rfl (by kernel_rfl) (by kernel_rfl) (by kernel_rfl) (fun _ _ _ h => h) (Or.inl ⟨by rfl, fun w hSw => by (try dsimp only at hSw); go_simp⟩) hHeld ?_
   try simp only [Act.put, List.setIfInBounds_toArray, List.set_cons_zero, List.set_cons_succ]
   refine wpAnyH_take (i := 1) (oi := { dst := some 32, op := Op.load 22 (Operand.tmp 31), type := 22, pos := "tree.go:122", after := #[{ on := 0, ground := Ground.data }], guard := none }) (v := .slice (some ⟨g, o, none⟩) N c0) rfl (by kernel_rfl) (by kernel_rfl) (by kernel_rfl) (fun _ _ _ h => h) (Or.inl ⟨by rfl, fun w hSw => by (try dsimp only at hSw); have t0 := cell_of_row _ _ 0 _ _ _ ((hSw.block _ (block_lt HTc.out) (by simp)).trans HTc.out); simp only [List.getElem?_toArray, List.getElem?_cons_zero] at t0; go_simp⟩) hHeld ?_
   try simp only [Act.put, List.setIfInBounds_toArray, List.set_cons_zero, List.set_cons_succ]
   refine wpAnyH_take (i := 2) (oi := { dst := some 33, op := Op.move (Operand.tmp 7), type := 3, pos := "tree.go:122", after := #[], guard := none }) (v := .int .i64 (q : Int)) rfl (by kernel_rfl) (by kernel_rfl) (by kernel_rfl) (fun _ _ _ h => h) (Or.inl ⟨by rfl, fun w hSw => by (try dsimp only at hSw); go_simp⟩) hHeld ?_
   try simp only [Act.put, List.setIfInBounds_toArray, List.set_cons_zero, List.set_cons_succ]
   refine wpAnyH_take (i := 3) (oi := { dst := some 34, op := Op.slice 22 (Operand.tmp 32) none (some (Operand.tmp 33)) none, type := 22, pos := "tree.go:122", after := #[{ on := 1, ground := Ground.data }, { on := 2, ground := Ground.data }], guard := none }) (v := .slice (some ⟨g, o, none⟩) q c0) rfl (by kernel_rfl) (by kernel_rfl) (by kernel_rfl) (fun _ _ _ h => h) (Or.inl ⟨by rfl, fun w hSw => by (try dsimp only at hSw); go_simp⟩) hHeld ?_
   try simp only [Act.put, List.setIfInBounds_toArray, List.set_cons_zero, List.set_cons_succ]
   refine wpAnyH_take (i := 4) (oi := { dst := some 35, op := Op.fieldAddr 29 (Operand.tmp 2) 0, type := 0, pos := "tree.go:122", after := #[], guard := none }) (v := .pointer (some ⟨w.heap.size, 0, none⟩)) rfl (by kernel_rfl) (by kernel_rfl) (by kernel_rfl) (fun _ _ _ h => h) (Or.inl ⟨by rfl, fun w hSw => by (try dsimp only at hSw); go_simp⟩) hHeld ?_
   try simp only [Act.put, List.setIfInBounds_toArray, List.set_cons_zero, List.set_cons_succ]
   refine wpAnyH_take (i := 5) (oi := { dst := some 36, op := Op.load 22 (Operand.tmp 35), type := 22, pos := "tree.go:122", after := #[{ on := 4, ground := Ground.data }], guard := none }) (v := .slice (some ⟨g, o, none⟩) N c0) rfl (by kernel_rfl) (by kernel_rfl) (by kernel_rfl) (fun _ _ _ h => h) (Or.inl ⟨by rfl, fun w hSw => by (try dsimp only at hSw); have t0 := cell_of_row _ _ 0 _ _ _ ((hSw.block _ (block_lt HTc.out) (by simp)).trans HTc.out); simp only [List.getElem?_toArray, List.getElem?_cons_zero] at t0; go_simp⟩) hHeld ?_
   try simp only [Act.put, List.setIfInBounds_toArray, List.set_cons_zero, List.set_cons_succ]
   refine wpAnyH_take (i := 6) (oi := { dst := some 37, op := Op.load 3 (Operand.tmp 9), type := 3, pos := "tree.go:122", after := #[], guard := none }) (v := .int .i64 (E : Int)) rfl (by kernel_rfl) (by kernel_rfl) (by kernel_rfl) (fun _ _ _ h => h) (Or.inl ⟨by rfl, fun w hSw => by (try dsimp only at hSw); have t0 := cell_of_row _ _ 0 _ _ _ ((hSw.block _ (block_lt HCt.out) (by have := HBs2.out; simp; omega)).trans HCt.out); simp only [List.getElem?_toArray, List.getElem?_cons_zero] at t0; go_simp⟩) hHeld ?_
   try simp only [Act.put, List.setIfInBounds_toArray, List.set_cons_zero, List.set_cons_succ]
   refine wpAnyH_take (i := 7) (oi := { dst := some 38, op := Op.slice 22 (Operand.tmp 36) (some (Operand.tmp 37)) none none, type := 22, pos := "tree.go:122", after := #[{ on := 5, ground := Ground.data }, { on := 6, ground := Ground.data }], guard := none }) (v := .slice (some ⟨g, o2, none⟩) (N - E) (c0 - E)) rfl (by kernel_rfl) (by kernel_rfl) (by kernel_rfl) (fun _ _ _ h => h) (Or.inl ⟨by rfl, fun w hSw => by (try dsimp only at hSw); go_simp; rw [← Ho2.out]; first | (split <;> rfl) | (split <;> first | (split <;> rfl) | (exfalso; omega))⟩) hHeld ?_
   try simp only [Act.put, List.setIfInBounds_toArray, List.set_cons_zero, List.set_cons_succ]
   refine wpAnyH_ready (rs := [8]) (by kernel_rfl) (by simp) ?_
   refine AllReadyH.cons (o := { dst := some 39, op := Op.buildSlice 117 2 #[(0, Operand.tmp 34), (1, Operand.tmp 38)], type := 117, pos := "tree.go:122", after := #[{ on := 3, ground := Ground.data }, { on := 7, ground := Ground.data }], guard := none }) rfl (fun K hK => ?_) AllReadyH.nil
   go_simp
   have hkn := (Kp.refl [] wd).alloc (.cells #[.slice (some ⟨g, o, none⟩) q c0, .slice (some ⟨g, o2, none⟩) (N - E) (c0 - E)] 22)
   have hg8 := heap_alloc_last wd (.cells #[.slice (some ⟨g, o, none⟩) q c0, .slice (some ⟨g, o2, none⟩) (N - E) (c0 - E)] 22)
   obtain ⟨G, hG⟩ : ∃ G, wd.heap.size = G := ⟨_, rfl⟩
   generalize wd.alloc (.cells #[.slice (some ⟨g, o, none⟩) q c0, .slice (some ⟨g, o2, none⟩) (N - E) (c0 - E)] 22) = w8 at *
   rw [hG] at hg8 ⊢
   have HG8 := Lib.hid hg8
   have HK8 := Lib.hid (HK0.out.trans hkn)
   clear hkn hg8 hG
   clear hHeld
   refine hK.out _ _ (HK8.out.mono (by simp)) (fun hHeld => ?_)
   try simp only [Act.put, List.setIfInBounds_toArray, List.set_cons_zero, List.set_cons_succ]
   clear hK
   refine wpAnyH_ready (rs := [9]) (by kernel_rfl) (by simp) ?_
   refine AllReadyH.cons (o := { dst := some 40, op := Op.call { callee := Callee.value (Operand.func 84), args := #[Operand.tmp 39], argTypes := #[117] }, type := 22, pos := "tree.go:122", after := #[{ on := 8, ground := Ground.data }], guard := none }) rfl (fun K hK => ?_) AllReadyH.nil
   have HCC := Lib.hid (concat_any G _ _ q (N - E) c0 (c0 - E) (l.take q) (l.drop E) w8 (by have := Hl.out; have := HN.out; omega) HG8.out (by rw [List.length_take, HN.out]; omega) (by rw [List.length_drop, HN.out]) (HY1.out.below HK8.out.bel) (HY2.out.below HK8.out.bel))
   go_simp
   go_at_call 84
   refine Calls.mono (by with_reducible exact HCC.out) ?_
   rintro e w9 ⟨v9, rfl, HD9, HKv9⟩
   dsimp only
   have HK9 := Lib.hid (HK8.out.trans HKv9.out)
   clear hHeld
   refine hK.out _ _ (HK9.out.mono (by simp)) (fun hHeld => ?_)
   try simp only [Act.put, List.setIfInBounds_toArray, List.set_cons_zero, List.set_cons_succ]
   clear hK
   refine wpAnyH_ready (rs := [10]) (by kernel_rfl) (by simp) ?_
   refine AllReadyH.cons (o := { dst := some 41, op := Op.call { callee := Callee.value (Operand.func 74), args := #[Operand.tmp 40], argTypes := #[22] }, type := 22, pos := "tree.go:122", after := #[{ on := 9, ground := Ground.data }, { on := 9, ground := Ground.chain }], guard := none }) rfl (fun K hK => ?_) AllReadyH.nil
   have HCL := Lib.hid (clones_any v9 (l.take q ++ l.drop E) w9 (by rw [List.length_append, List.length_take, List.length_drop, HN.out]; have := Hl.out; have := HN.out; omega) (fun y hy => Hal.out y (by rcases List.mem_append.1 hy with h | h; exact List.mem_of_mem_take h; exact List.mem_of_mem_drop h)) HD9.out)
   go_simp
   go_at_call 74
   refine Calls.mono (by with_reducible exact HCL.out) ?_
   rintro e w10 ⟨u, L, rfl, hL, hD10, -, hb10⟩
   dsimp only
   obtain ⟨ua, uc, hu, -⟩ := hD10.form
   obtain ⟨ZL, hZL⟩ : ∃ z, L.length = z := ⟨_, rfl⟩
   rw [hZL] at hu
   subst hu
   have HL := Lib.hid hL
   have HD10 := Lib.hid hD10
   have HK10 := Lib.hid (HK9.out.trans (Kp.of_below hb10))
   clear hL hD10 hb10 hZL
   clear hHeld
   refine hK.out _ _ (HK10.out.mono (by simp)) (fun hHeld => ?_)
   try simp only [Act.put, List.setIfInBounds_toArray, List.set_cons_zero, List.set_cons_succ]
   clear hK
   refine wpAnyH_take (i := 11) (oi := { dst := some 42, op := Op.build 29 #[(0, Operand.tmp 41)], type := 29, pos := "tree.go:122", after := #[{ on := 10, ground := Ground.data }], guard := none }) (v := .agg #[.slice ua ZL uc]) rfl (by kernel_rfl) (by kernel_rfl) (by kernel_rfl) (fun _ _ _ h => h) (Or.inl ⟨by rfl, fun w hSw => by (try dsimp only at hSw); go_simp⟩) hHeld ?_
   try simp only [Act.put, List.setIfInBounds_toArray, List.set_cons_zero, List.set_cons_succ]
   refine wpAnyH_ready (rs := [12]) (by kernel_rfl) (by simp) ?_
   refine AllReadyH.cons (o := { dst := none, op := Op.store 29 (Operand.tmp 4) (Operand.tmp 42), type := 0, pos := "tree.go:122", after := #[{ on := 11, ground := Ground.data }, { on := 10, ground := Ground.chain }, { on := 0, ground := Ground.phase }, { on := 1, ground := Ground.phase }, { on := 2, ground := Ground.phase }, { on := 3, ground := Ground.phase }, { on := 4, ground := Ground.phase }, { on := 5, ground := Ground.phase }, { on := 6, ground := Ground.phase }, { on := 7, ground := Ground.phase }, { on := 8, ground := Ground.phase }, { on := 9, ground := Ground.phase }, { on := 10, ground := Ground.phase }, { on := 11, ground := Ground.phase }], guard := none }) rfl (fun K hK => ?_) AllReadyH.nil
   have HRr := Lib.hid ((HK10.out.block _ (block_lt HRc.out) (by simp)).trans HRc.out)
   refine step_store rfl 29 (.tmp 4) (.tmp 42) rfl (w.heap.size + 1) #[.slice ua ZL uc] rfl rfl 29 #[.slice none 0 0] HRr.out info30b rfl (sl_one _ _ _) ?_
   have HRe := Lib.hid (setRow_heap _ _ _ #[.slice ua ZL uc] _ _ HRr.out)
   have hkR : Kp [w.heap.size + 1] w10 (w10.setRow (w.heap.size + 1) #[.slice ua ZL uc]) := (Kp.refl _ _).setRow (.inl (by simp)) _
   have HDe := Lib.hid (dhasR HD10.out hkR HRr.out)
   generalize w10.setRow (w.heap.size + 1) #[.slice ua ZL uc] = we at *
   have hS := hHeld.trans hkR
   clear hkR
   clear hHeld
   refine hK.out _ _ hS (fun hHeld => ?_)
   try simp only [Act.put]
   clear hK
   clear hS
   refine wpAnyH_take (i := 13) (oi := { dst := some 5, op := Op.assign (Operand.const (Value.int IntKind.i64 0)), type := 36, pos := "tree.go:122", after := #[{ on := 12, ground := Ground.chain }, { on := 0, ground := Ground.phase }, { on := 1, ground := Ground.phase }, { on := 2, ground := Ground.phase }, { on := 3, ground := Ground.phase }, { on := 4, ground := Ground.phase }, { on := 5, ground := Ground.phase }, { on := 6, ground := Ground.phase }, { on := 7, ground := Ground.phase }, { on := 8, ground := Ground.phase }, { on := 9, ground := Ground.phase }, { on := 10, ground := Ground.phase }, { on := 11, ground := Ground.phase }, { on := 12, ground := Ground.phase }], guard := none }) (v := .int .i64 0) rfl (by kernel_rfl) (by kernel_rfl) (by kernel_rfl) (fun _ _ _ h => h) (Or.inl ⟨by rfl, fun w hSw => by (try dsimp only at hSw); go_simp⟩) hHeld ?_
   try simp only [Act.put, List.setIfInBounds_toArray, List.set_cons_zero, List.set_cons_succ]
   have HSe := Lib.hid hHeld
   refine wpAnyH_done (by kernel_rfl) ?_ _
   clear hHeld
   have HKe := Lib.hid ((HSe.out.block Dd (block_lt HKd.out) (by have := HDd.out; have := Hz3.out; have := HBs2.out; simp; omega)).trans HKd.out)
   show Exit.then _ _ Exit.normal _ _
   go_wp2
   refine ⟨by simp, .inl ⟨_, _, rfl, run_takeDeferred HKe.out, ?_⟩⟩
   have hkD : Kp [Dd] we (we.putObj Dd (.deferred none)) := ⟨rfl, rfl, rfl, by simp, fun k hk hn => World.putObj_heap_other (by simpa using hn)⟩
   have hrD := (hkD.block (w.heap.size + 1) (block_lt HRe.out) (by have := HDd.out; have := Hz3.out; have := HBs2.out; simp; omega)).trans HRe.out
   exact ⟨.tuple #[.agg #[.slice ua ZL uc], .int .i64 0], De.results_row_tmp rfl _ _ (w.heap.size + 1) 29 #[.slice ua ZL uc] _ _ _ rfl rfl hrD Tryz.underlying29 rfl info30b, _, by rw [HZ.out.2], L, by rw [HZ.out.1, HL.out, ← HE.out], dhasD HDe.out HKe.out hkD, (HBW.out.trans (HSe.out.below HBW.out.size (by intro z hz; simp at hz; omega))).trans (hkD.below (by have := HSe.out.size; have := HBW.out.size; omega) (by intro z hz; simp at hz; have := HDd.out; have := Hz3.out; have := HBs2.out; omega))⟩
  case stop =>
   intro D cd pre W _ _ h
   exact h.elim
end Go.Proofs.YtldcediiobfhiaaGreatDoor.De
namespace Go.Proofs.YtldcediiobfhiaaGreatDoor
open Go.RowKit
theorem filter_split {α : Type} {P : α → Bool} {A : List α} {q M : Nat} (h : A.filter P = (A.drop q).take M) (hM : (A.filter P).length = M) : A.filter (fun e => !P e) = A.take q ++ A.drop (q + M) := by
 have e : A = A.take q ++ ((A.drop q).take M ++ A.drop (q + M)) := by
  rw [← List.drop_drop, List.take_append_drop, List.take_append_drop]
 obtain ⟨X, hX⟩ : ∃ X, A.take q = X := ⟨_, rfl⟩
 obtain ⟨Y, hY⟩ : ∃ Y, (A.drop q).take M = Y := ⟨_, rfl⟩
 obtain ⟨Z, hZ⟩ : ∃ Z, A.drop (q + M) = Z := ⟨_, rfl⟩
 rw [hX, hY, hZ] at e
 rw [hY] at h
 rw [hX, hZ]
 have hYP : ∀ a ∈ Y, P a = true := fun a ha => (List.mem_filter.1 (h ▸ ha)).2
 have hYf : Y.filter P = Y := List.filter_eq_self.2 hYP
 have hYl : Y.length = M := by rw [← h, hM]
 have hl : (X.filter P).length + (Y.length + (Z.filter P).length) = M := by
  rw [← hM, e, List.filter_append, List.filter_append, List.length_append, List.length_append, hYf]
 have hX0 : X.filter P = [] := List.eq_nil_of_length_eq_zero (by omega)
 have hZ0 : Z.filter P = [] := List.eq_nil_of_length_eq_zero (by omega)
 have hXs : X.filter (fun e => !P e) = X := List.filter_eq_self.2 fun a ha => by
  have := (List.filter_eq_nil_iff.1 hX0) a ha
  simpa using this
 have hZs : Z.filter (fun e => !P e) = Z := List.filter_eq_self.2 fun a ha => by
  have := (List.filter_eq_nil_iff.1 hZ0) a ha
  simpa using this
 have hYn : Y.filter (fun e => !P e) = [] := List.filter_eq_nil_iff.2 fun a ha => by
  rw [hYP a ha]
  simp
 rw [e, List.filter_append, List.filter_append, hXs, hYn, hZs, List.nil_append]
theorem last_idx {l : List De.ADev} (ht : De.Tidy l) (n : Int) : (De.lastI l n).isSome = (De.idxP l n).isSome := by
 have h1 := De.lastI_fnd ht n
 have h2 := De.idxP_fnd l n
 cases hp : De.lastI l n with
 | none =>
  cases hq : De.idxP l n with
  | none => rfl
  | some p =>
   rw [hq] at h2
   rw [hp] at h1
   obtain ⟨a, ha, -⟩ := De.idxP_some hq
   rw [h1] at h2
   simp only [Option.bind_none, Option.bind_some, ha] at h2
   cases h2
 | some p =>
  cases hq : De.idxP l n with
  | some p => rfl
  | none =>
   rw [hq] at h2
   rw [hp] at h1
   obtain ⟨a, ha, -⟩ := De.lastI_some hp
   rw [h1] at h2
   simp only [Option.bind_none, Option.bind_some, ha] at h2
   cases h2
theorem rem_eq {L : List De.DV} (hv : De.Valid sndA clA (L.map (·.1))) (n : Int) : De.remPE L n = remE L n ∧ (De.remP L n).map (·.1) = (remR L n).map (·.1) := by
 have hs := last_idx hv.tidy n
 refine ⟨by unfold De.remPE remE; rw [hs], ?_⟩
 unfold De.remP remR
 cases hp : De.lastI (L.map (·.1)) n with
 | none =>
  rw [hp] at hs
  rw [if_neg (by rw [← hs]; simp)]
 | some q =>
  rw [hp] at hs
  rw [if_pos (by rw [← hs]; rfl)]
  obtain ⟨d, hd, hdn⟩ := De.lastI_some hp
  have hsub := De.sub_eq hv n
  have hlen : (De.subOf L n).length = ((L.map (·.1)).filter fun e => De.bel (L.map (·.1)) e n).length := by rw [← hsub, List.length_map]
  have hrow := sub_row hv hd
  rw [hdn] at hrow
  have hf := filter_split hrow rfl
  have hr : (L.filter fun x => !blw L n x).map (·.1) = (L.map (·.1)).filter fun e => !De.bel (L.map (·.1)) e n := De.filter_fst L (fun e : De.ADev => !De.bel (L.map fun z : De.DV => z.1) e n)
  rw [hr, hf, hlen, List.map_append, List.map_take, List.map_drop]
end Go.Proofs.YtldcediiobfhiaaGreatDoor
