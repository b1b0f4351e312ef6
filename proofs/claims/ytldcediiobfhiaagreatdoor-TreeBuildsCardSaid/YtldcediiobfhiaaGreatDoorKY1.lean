/- The iterator over a subtree: plain side, and what it reads. The iterator over a subtree. The subtree, collected. Subtree. -/
import Derived.Test.YtldcediiobfhiaaGreatDoorKDeI
import Derived.Test.YtldcediiobfhiaaGreatDoorKTu
import Derived.Test.YtldcediiobfhiaaGreatDoorKAB
import Derived.Sort.QuietTacIn
import Derived.Stop.RegionWithIn
namespace Go.Proofs.YtldcediiobfhiaaGreatDoor.De
open Go.RowKit Go.Shelf Go.Maps
attribute [local go_sem] Oper.semAt_some
/-- Neighbours whose parents are inside: the first other one ends it. -/
def walkS (f : Int → Bool) : List DV → List DV
 | [] => []
 | y :: r => if f y.1.par = true then y :: walkS (fun j => j == y.1.idx || f j) r else []
theorem walkS_yes {f : Int → Bool} {y : DV} {r : List DV} (h : f y.1.par = true) : walkS f (y :: r) = y :: walkS (fun j => j == y.1.idx || f j) r := by rw [walkS, if_pos h]
theorem walkS_no {f : Int → Bool} {y : DV} {r : List DV} (h : f y.1.par = false) : walkS f (y :: r) = [] := by rw [walkS, if_neg (by simp [h])]
theorem walkS_mem {x : DV} : ∀ {l : List DV} {f : Int → Bool}, x ∈ walkS f l → x ∈ l
 | [], _, h => by cases h
 | y :: r, f, h => by
  cases hf : f y.1.par with
  | false => rw [walkS_no hf] at h; cases h
  | true =>
   rw [walkS_yes hf] at h
   rcases List.mem_cons.1 h with rfl | h
   ·exact List.mem_cons_self ..
   ·exact List.mem_cons_of_mem _ (walkS_mem h)
theorem walkS_len : ∀ {l : List DV} {f : Int → Bool}, (walkS f l).length ≤ l.length
 | [], _ => Nat.le_refl _
 | y :: r, f => by
  cases hf : f y.1.par with
  | false => rw [walkS_no hf]; exact Nat.zero_le _
  | true =>
   rw [walkS_yes hf]
   exact Nat.succ_le_succ walkS_len
def f1 (i : Int) : Int → Bool := fun j => j == i || false
/-- The device at a place and all devices below it. -/
def subL (l : List DV) (at_ : Nat) (x : DV) : List DV := x :: walkS (f1 x.1.idx) (l.drop (at_ + 1))
theorem subL_mem {l : List DV} {p : Nat} {x y : DV} (hx : l[p]? = some x) (h : y ∈ subL l p x) : y ∈ l := by
 rcases List.mem_cons.1 h with rfl | h
 ·exact List.mem_of_getElem? hx
 ·exact List.mem_of_mem_drop (walkS_mem h)
theorem subL_len {l : List DV} {p : Nat} {x : DV} (hx : l[p]? = some x) : (subL l p x).length ≤ l.length := by
 have h1 : p < l.length := (List.getElem?_eq_some_iff.1 hx).1
 have h2 := walkS_len (l := l.drop (p + 1)) (f := f1 x.1.idx)
 rw [List.length_drop] at h2
 unfold subL
 rw [List.length_cons]
 omega
/-- The block of the row in a box. -/
def ownAt (W : World) (Bs : Nat) : Option Nat := (W.cell? ⟨Bs, 0, none⟩).bind Value.ownBlock
theorem ownAt_eq {A B : World} {Bs : Nat} (h : B.heap[Bs]? = A.heap[Bs]?) : ownAt B Bs = ownAt A Bs := by
 unfold ownAt World.cell?
 rw [h]
/-- Of cells, a round turns a box and the row in it. -/
structure Kz (Bs : Nat) (A B : World) : Prop where
 size : A.heap.size ≤ B.heap.size
 same : ∀ (k : Nat) (o : Obj), A.heap[k]? = some o → o.isCells = true → k ≠ Bs → ownAt A Bs ≠ some k → B.heap[k]? = some o
 own : ∀ k, ownAt B Bs = some k → ownAt A Bs = some k ∨ A.heap.size ≤ k
 lt : (∀ k, ownAt A Bs = some k → k < A.heap.size) → ∀ k, ownAt B Bs = some k → k < B.heap.size
theorem Kz.trans {Bs : Nat} {A B C : World} (h : Kz Bs A B) (g : Kz Bs B C) : Kz Bs A C := by
 refine ⟨Nat.le_trans h.size g.size, fun k o hk hc hn ho => g.same k o (h.same k o hk hc hn ho) hc hn fun e => ?_, fun k hk => ?_, fun hA => g.lt (h.lt hA)⟩
 ·rcases h.own k e with h1 | h1
  ·exact ho h1
  ·have := (Array.getElem?_eq_some_iff.1 hk).1
   omega
 ·rcases g.own k hk with h1 | h1
  ·exact h.own k h1
  ·exact .inr (Nat.le_trans h.size h1)
/-- A step that leaves the box and all cells. -/
theorem Kz.step {Bs : Nat} {A B : World} (hs : A.heap.size ≤ B.heap.size) (h : ∀ (k : Nat) (o : Obj), A.heap[k]? = some o → o.isCells = true → B.heap[k]? = some o) (hb : B.heap[Bs]? = A.heap[Bs]?) : Kz Bs A B := by
 have e := ownAt_eq hb
 exact ⟨hs, fun k o hk hc _ _ => h k o hk hc, fun k hk => .inl (e ▸ hk), fun hA k hk => Nat.lt_of_lt_of_le (hA k (e ▸ hk)) hs⟩
theorem Kz.alloc {Bs : Nat} {W : World} (hB : Bs < W.heap.size) (o : Obj) : Kz Bs W (W.alloc o) :=
 Kz.step (by simp) (fun k o' hk _ => (Below.heap_alloc W o k (Array.getElem?_eq_some_iff.1 hk).1).trans hk) (Below.heap_alloc W o Bs hB)
/-- What a round keeps: what lies below n₀, maps, and cells that are not its own. -/
def Km (n₀ Bs : Nat) (A B : World) : Prop := Below n₀ A B ∧ KeepsWalks A B ∧ Kz Bs A B
theorem Km.trans {n₀ Bs : Nat} {A B C : World} (h : Km n₀ Bs A B) (k : Km n₀ Bs B C) : Km n₀ Bs A C := ⟨h.1.trans k.1, h.2.1.trans k.2.1, h.2.2.trans k.2.2⟩
theorem km_b {n₀ Bs : Nat} {w : World} (hn : n₀ ≤ w.heap.size) (hB : Bs < w.heap.size) (W : World) (l : Nat) (o o' : Obj) (hl : w.heap.size ≤ l) (h : W.heap[l]? = some o) (h1 : o.isCells = false) (h2 : o.isWalk = false) : Km n₀ Bs W (W.putObj l o') := by
 have hll := (Array.getElem?_eq_some_iff.1 h).1
 refine ⟨belowK_b hn W l o o' hl h h1 h2, walksK_b (w := w) W l o o' hl h h1 h2, Kz.step (by simp) (fun k o2 hk hc => ?_) (World.putObj_heap_other (by omega))⟩
 by_cases e : k = l
 ·subst e
  rw [h] at hk
  cases hk
  rw [h1] at hc
  cases hc
 ·exact (World.putObj_heap_other e).trans hk
theorem km_drew {n₀ Bs : Nat} {W W' : World} (h : Km n₀ Bs W.drew W') : Km n₀ Bs W W' :=
 ⟨((Below.refl n₀ W).drew).trans h.1, ⟨h.2.1.size, h.2.1.same⟩, ⟨h.2.2.size, h.2.2.same, h.2.2.own, h.2.2.lt⟩⟩
theorem boolE (x : Bool) : plainElem (H := Unit) Tryz.prog 4 (.bool x) = some (.lit (.bool x), []) := plainElem_bool Tryz.underlying4 x
set_option maxRecDepth 100000 in
theorem bool_inv {v : Value} {z : DataW Unit × List MemPlace} (h : plainElem Tryz.prog 4 v = some z) : ∃ x, v = .bool x ∧ z = (.lit (.bool x), []) := by
 unfold plainElem at h
 rw [Tryz.underlying4] at h
 cases v <;> simp at h
 exact ⟨_, rfl, h.symm⟩
/-- Block M is a map of numbers: those of which f says yes. -/
structure BMap (w : World) (M N : Nat) (f : Int → Bool) (D : DataW Unit) : Prop where
 own : w.ownsMap Tryz.prog 3 (plainElem Tryz.prog 4) M N D
 val : ∀ x, (Lit.int .i64 x).wf = true → D.atKey (.int .i64 x) (.lit (.bool false)) = .lit (.bool (f x))
theorem BMap.kept {w w' : World} {M N : Nat} {f : Int → Bool} {D : DataW Unit} (h : BMap w M N f D) (hb : ∀ o, w.heap[M]? = some o → o.isWalk = true → w'.heap[M]? = some o) : BMap w' M N f D := by
 obtain ⟨⟨es, clock, h1, h2⟩, h3⟩ := h
 exact ⟨⟨es, clock, hb _ h1 rfl, h2⟩, h3⟩
theorem BMap.walks {w w' : World} {M N : Nat} {f : Int → Bool} {D : DataW Unit} (h : BMap w M N f D) (hk : KeepsWalks w w') : BMap w' M N f D := h.kept fun o ho hw => hk.same M o ho hw
theorem BMap.put {w w' : World} {M N : Nat} {f : Int → Bool} {D : DataW Unit} {s : Int} (h : BMap w M N f D) (hs : (Lit.int .i64 s).wf = true) (hown : w'.ownsMap Tryz.prog 3 (plainElem Tryz.prog 4) M (N + 1) (D.put (.int .i64 s) (.lit (.bool true)))) : BMap w' M (N + 1) (fun j => j == s || f j) (D.put (.int .i64 s) (.lit (.bool true))) := by
 refine ⟨hown, fun t ht => ?_⟩
 by_cases e : t = s
 ·subst e
  rw [Maps.atKey_put_same h.own.isMap (lawI.key (keyI hs))]
  simp
 ·rw [Maps.atKey_put_other (fun e' => e (by cases e'; rfl)), h.val t ht]
  simp [e]
theorem BMap.look {w : World} {M N : Nat} {f : Int → Bool} {D : DataW Unit} {s : Int} (hs : (Lit.int .i64 s).wf = true) (h : BMap w M N f D) : (Instr.lookup 114 (.map (some M)) (.int .i64 s) false).run Tryz.prog w = .ok (.bool (f s)) w := by
 obtain ⟨v, ps, hrun, hv⟩ := h.own.lookup (t := 114) (e := 4) lawI Tryz.underlying114 (Tryz.zeroValue4 _) (boolE false) (keyI hs)
 obtain ⟨x, rfl, hx⟩ := bool_inv hv
 rw [h.val s hs] at hx
 cases hx
 exact hrun
/-- A map with one number, just made. -/
theorem bmap_one (w : World) {i : Int} (hi : (Lit.int .i64 i).wf = true) : ∃ w' D, (Instr.mapUpdate 114 (.map (some w.heap.size)) (.int .i64 i) (.bool true)).run Tryz.prog (w.alloc (.map #[] 0)) = .ok () w' ∧ BMap w' w.heap.size 1 (f1 i) D ∧ (w.alloc (.map #[] 0)).grownBy w' (some w.heap.size) := by
 have hm : BMap (w.alloc (.map #[] 0)) w.heap.size 0 (fun _ => false) (.map []) := ⟨World.ownsMap_made _ _ _ _, fun _ _ => rfl⟩
 obtain ⟨w', h1, h2, h3⟩ := hm.own.update (t := 114) (e := 4) lawI Tryz.underlying114 (by unfold maxLen; omega) (keyI hi) (boolE true)
 exact ⟨w', _, h1, hm.put hi h2, h3⟩
/-- What the iterator reads. -/
structure It2 (n₀ : Nat) (W : World) (Bv Ba V N c p : Nat) (a : Option Addr) (l : List DV) : Prop where
 bv : W.cell? ⟨Bv, 0, none⟩ = some (.pointer (some ⟨V, 0, none⟩))
 hv : Bv < n₀
 ba : W.cell? ⟨Ba, 0, none⟩ = some (.int .i64 (p : Int))
 ha : Ba < n₀
 v0 : W.cell? ⟨V, 0, none⟩ = some (.slice a N c)
 hV : V < n₀
 len : l.length = N
 row : ∃ g o, a = some ⟨g, o, none⟩ ∧ g < n₀ ∧ ∀ (j : Nat) x, l[j]? = some x → W.rangeAt g (o + j * 10) (dvC x.1 x.2)
theorem It2.keep {n₀ : Nat} {W W' : World} {Bv Ba V N c p : Nat} {a : Option Addr} {l : List DV} (h : It2 n₀ W Bv Ba V N c p a l) (hb : Below n₀ W W') : It2 n₀ W' Bv Ba V N c p a l :=
 ⟨(hb.cell (p := ⟨Bv, 0, none⟩) h.hv).trans h.bv, h.hv, (hb.cell (p := ⟨Ba, 0, none⟩) h.ha).trans h.ba, h.ha, (hb.cell (p := ⟨V, 0, none⟩) h.hV).trans h.v0, h.hV, h.len, by
   obtain ⟨g, o, e, hg, hr⟩ := h.row
   exact ⟨g, o, e, hg, fun j x hx m v hv => (hb.cell (p := ⟨g, o + j * 10 + m, none⟩) hg).trans (hr j x hx m v hv)⟩⟩
theorem out_two {α : Type} {J Jx : List α → World → Prop} {K : World → World → Prop} {pre : List α} {x : α} {W W' : World} {e : Ending} (h : (e = .returned (.bool true) ∧ J (pre ++ [x]) W' ∧ K W W') ∨ (e = .returned (.bool false) ∧ Jx (pre ++ [x]) W')) :
  ∃ b : Bool, e = .returned (.bool b) ∧ (b = true → J (pre ++ [x]) W' ∧ K W W') ∧ (b = false → Jx (pre ++ [x]) W') := by
 rcases h with ⟨h1, h2⟩ | ⟨h1, h2⟩
 ·exact ⟨true, h1, fun _ => h2, fun h => by cases h⟩
 ·exact ⟨false, h1, fun h => (by cases h), fun _ => h2⟩
end Go.Proofs.YtldcediiobfhiaaGreatDoor.De
namespace Go.Proofs.YtldcediiobfhiaaGreatDoor.De
open Go.RowKit Go.Shelf Go.Maps
attribute [local go_sem] Oper.semAt_some
set_option maxRecDepth 100000 in
set_option maxHeartbeats 8000000 in
theorem sub1_in (n : Nat) (hn : 1 ≤ n) (lo n₀ Bs Bv Ba V N c p : Nat) (a : Option Addr) (l : List DV) (x : DV) (hx : l[p]? = some x) (hNl : N ≤ 1000000) (hNc : N ≤ c) (J Jx : List (AD l) → World → Prop)
  (hwi : ∀ x ∈ l, (Lit.int .i64 x.1.idx).wf = true) (hwl : ∀ x ∈ l, (Lit.int .i64 x.1.par).wf = true)
  (hsl : ∀ x ∈ l, ∃ b n c, x.2 = .slice b n c)
  (hY : ∀ pre x W, J pre W → pre.length < N → YieldAt Fence.wide (n - 1) Tryz.prog lo (adE x) W fun e W' =>
   (e = .returned (.bool true) ∧ J (pre ++ [x]) W' ∧ Km n₀ Bs W W') ∨ (e = .returned (.bool false) ∧ Jx (pre ++ [x]) W'))
  (W : World) (hn₀ : n₀ ≤ W.heap.size) (hI : It2 n₀ W Bv Ba V N c p a l) (hBs : Bs < W.heap.size) (how : ∀ k, ownAt W Bs = some k → k < W.heap.size) (h0 : J [] W) (hJ : AbidesFrom W.heap.size J) :
  CallsIn Fence.wide n Tryz.prog 111 #[.func (.yield lo) #[] #[], .pointer (some ⟨Bv, 0, none⟩), .pointer (some ⟨Ba, 0, none⟩)] W fun e W' => (∃ v, e = .returned v) ∧
   ((∃ ys, ys.map (fun p : AD l => p.1) = subL l p x ∧ J ys W') ∨ (∃ pre, Jx pre W')) := by
 have hxm := List.mem_of_getElem? hx
 have hpN : p < N := by rw [← hI.len]; exact (List.getElem?_eq_some_iff.1 hx).1
 have hpz : (p : Int) < (N : Int) := by omega
 obtain ⟨g, o, rfl, hg, hr⟩ := hI.row
 have hW1 : W.grownBy W.drew none := ⟨rfl, rfl, rfl, Nat.le_refl _, fun _ _ _ => rfl⟩
 have hJ1 : J [] W.drew := hJ [] W W.drew none h0 hW1 (fun r e => by cases e)
 obtain ⟨fn, tmps, assign, body, hy, hR⟩ := hY [] ⟨x, hxm⟩ W.drew hJ1 (by simp; omega)
 have hrx0 : W.drew.rangeAt g (o + p * 10) (dvC x.1 x.2) := hr p x hx
 have bv : W.drew.cell? ⟨Bv, 0, none⟩ = some (.pointer (some ⟨V, 0, none⟩)) := hI.bv
 have ba : W.drew.cell? ⟨Ba, 0, none⟩ = some (.int .i64 (p : Int)) := hI.ba
 have v0 : W.drew.cell? ⟨V, 0, none⟩ = some (.slice (some ⟨g, o, none⟩) N c) := hI.v0
 have e0 : W.drew.cell? ⟨g, o + p * 10, none⟩ = some (.int .i64 x.1.idx) := hrx0 0 _ rfl
 have e1 : W.drew.cell? ⟨g, o + p * 10 + 1, none⟩ = some (.int .i64 x.1.par) := hrx0 1 _ rfl
 have e2 : W.drew.cell? ⟨g, o + p * 10 + 2, none⟩ = some (.string x.1.name) := hrx0 2 _ rfl
 have e3 : W.drew.cell? ⟨g, o + p * 10 + 3, none⟩ = some (.string x.1.orig) := hrx0 3 _ rfl
 have e4 : W.drew.cell? ⟨g, o + p * 10 + 4, none⟩ = some (.string x.1.sub) := hrx0 4 _ rfl
 have e5 : W.drew.cell? ⟨g, o + p * 10 + 5, none⟩ = some (.string x.1.drv) := hrx0 5 _ rfl
 have e6 : W.drew.cell? ⟨g, o + p * 10 + 6, none⟩ = some (.string x.1.ali) := hrx0 6 _ rfl
 have e7 : W.drew.cell? ⟨g, o + p * 10 + 7, none⟩ = some (.int .i64 x.1.kind) := hrx0 7 _ rfl
 have e8 : W.drew.cell? ⟨g, o + p * 10 + 8, none⟩ = some (.int .i64 x.1.num) := hrx0 8 _ rfl
 have e9 : W.drew.cell? ⟨g, o + p * 10 + 9, none⟩ = some (x.2) := hrx0 9 _ rfl
 unfold adE at hy
 dsimp only at hy
 have HI := Lib.hid hI
 have HJ := Lib.hid hJ
 have HY := Lib.hid hY
 have Hg := Lib.hid hg
 have Hwi := Lib.hid hwi
 have Hwl := Lib.hid hwl
 have HX := Lib.hid hx
 have HSl := Lib.hid hsl
 clear hsl hrx0 hI hJ hY hr hwi hwl h0 hJ1 hW1
 refine callsIn_of_wp Tryz.func111 rfl trivial ?_ rfl
 simp only [Tryz.ntmps111, List.size_toArray, List.length_cons, List.length_nil, Nat.reduceAdd, Nat.reduceSub, Array.replicate_succ, Array.replicate_zero, List.push_toArray, List.append_toArray, List.nil_append, List.cons_append]
 gi_upto_region 0 with fail
 gi_cut [16] from 7 (fun s16 wx => ∃ bb : Bool, s16 = .bool (!bb) ∧ (bb = true → J [⟨x, hxm⟩] wx ∧ Km n₀ Bs W wx) ∧ (bb = false → Jx [⟨x, hxm⟩] wx))
 case first =>
  rename_i J1 K1 hJJ hKK
  gi_region_with (refine hR.mono ?_; rintro e W3 hh; obtain ⟨bb, rfl, hbt, hbf⟩ := out_two hh; have HBt := Lib.hid hbt; have HBf := Lib.hid hbf; clear hh hbt hbf)
  all_goals
   refine hKK _ _ (hJJ _ _ ?_)
   repeat apply Exists.intro
   exact ⟨⟨_, rfl, fun h => ⟨(HBt.out h).1, km_drew (HBt.out h).2⟩, HBf.out⟩, rfl⟩
 obtain ⟨bb, rfl, hbt, hbf⟩ := hcut
 clear bv ba v0 e0 e1 e2 e3 e4 e5 e6 e7 e8 e9 hy hR
 cases bb with
 | false =>
  have hjx := hbf rfl
  clear hbt hbf
  gi_wp2
  refine bodyPost_ret (results_none rfl _ _ _) rfl ?_
  exact ⟨⟨_, rfl⟩, .inr ⟨_, hjx⟩⟩
 | true =>
  obtain ⟨hJ2, hK2⟩ := hbt rfl
  clear hbt hbf
  have hI2 := HI.out.keep hK2.1
  obtain ⟨w4, D4, hrun, hbm, hgr⟩ := bmap_one wc.drew (Hwi.out x hxm)
  have hrun : (Instr.mapUpdate 114 (.map (some wc.heap.size)) (.int .i64 x.1.idx) (.bool true)).run Tryz.prog (wc.drew.alloc (.map #[] 0)) = .ok () w4 := hrun
  have hbm : BMap w4 wc.heap.size 1 (f1 x.1.idx) D4 := hbm
  have hgr : (wc.drew.alloc (.map #[] 0)).grownBy w4 (some wc.heap.size) := hgr
  have hsz1 : (wc.drew.alloc (.map #[] 0)).heap.size = wc.heap.size + 1 := by rw [World.size_alloc]; rfl
  have hWc : W.heap.size ≤ wc.heap.size := hK2.1.size
  have hJd : J [⟨x, hxm⟩] wc.drew := HJ.out _ wc wc.drew none hJ2 ⟨rfl, rfl, rfl, Nat.le_refl _, fun _ _ _ => rfl⟩ (fun r e => by cases e)
  have hJa : J [⟨x, hxm⟩] (wc.drew.alloc (.map #[] 0)) := HJ.out _ _ _ none hJd (World.grownBy_alloc _ _ none) (fun r e => by cases e)
  have hmp : (wc.drew.alloc (.map #[] 0)).heap[wc.heap.size]? = some (.map #[] 0) := World.alloc_heap_new wc.drew (.map #[] 0)
  have hJ4 : J [⟨x, hxm⟩] w4 := HJ.out _ _ _ _ hJa hgr (fun r e => by cases e; exact ⟨hWc, _, hmp, rfl⟩)
  have hb4 : Below n₀ wc w4 := (((Below.refl n₀ wc).drew).alloc (by show n₀ ≤ wc.heap.size; omega) _).grown hgr (by rw [hsz1]; omega) (fun k hk => by cases hk; omega)
  have hBs4 : w4.heap[Bs]? = wc.heap[Bs]? := (hgr.block Bs (by rw [hsz1]; omega) (by intro e; cases e; omega)).trans (Below.heap_alloc wc.drew (.map #[] 0) Bs (by show Bs < wc.heap.size; omega))
  have hsz4 : wc.heap.size ≤ w4.heap.size := Nat.le_trans (by rw [hsz1]; omega) hgr.size
  have how4 : ∀ k, ownAt w4 Bs = some k → k < w4.heap.size := fun k hk => Nat.lt_of_lt_of_le (hK2.2.2.lt how k (ownAt_eq hBs4 ▸ hk)) hsz4
  have HI4 := Lib.hid (hI2.keep hb4)
  have hba : Below n₀ wc (wc.drew.alloc (.map #[] 0)) := ((Below.refl n₀ wc).drew).alloc (by show n₀ ≤ wc.heap.size; omega) _
  have hbd : Below n₀ wc wc.drew := (Below.refl n₀ wc).drew
  have HB4 := Lib.hid (show Below n₀ W w4 from hK2.1.trans hb4)
  have HBM := Lib.hid hbm
  have HJ4 := Lib.hid hJ4
  have HO4 := Lib.hid how4
  have Hs4 := Lib.hid (show W.heap.size ≤ w4.heap.size by omega)
  have hr2 : ∀ W2, Below n₀ wc W2 → W2.cell? ⟨g, o + p * 10, none⟩ = some (.int .i64 x.1.idx) := fun W2 hb => by
   obtain ⟨g', o', e', hg', hr'⟩ := (hI2.keep hb).row
   cases e'
   exact hr' p x HX.out 0 _ rfl
  have bv := (hI2.keep hbd).bv
  have ba := (hI2.keep hbd).ba
  have v0 := (hI2.keep hbd).v0
  have e0 := hr2 _ hbd
  have bva := (hI2.keep hba).bv
  have baa := (hI2.keep hba).ba
  have v0a := (hI2.keep hba).v0
  have e0a := hr2 _ hba
  have HM := Lib.hid (show W.heap.size ≤ wc.heap.size from hWc)
  clear hr2 hJd hJa hmp hJ4 hb4 hBs4 hsz4 how4 hbm hgr hsz1 hba hbd hI2 hJ2 hK2 hWc
  obtain ⟨M, hM⟩ : ∃ M, wc.heap.size = M := ⟨_, rfl⟩
  obtain ⟨wA, hwA⟩ : ∃ W, wc.drew.alloc (.map #[] 0) = W := ⟨_, rfl⟩
  have hmk : (Instr.makeMap 114 none).run Tryz.prog wc.drew = .ok (.map (some M)) wA := by rw [← hwA, ← hM]; rfl
  rw [hwA, hM] at hrun
  rw [hwA] at bva baa v0a e0a
  rw [hM] at HBM HM
  clear hwA
  gi_upto_region 1 with fail
  gi_cut [4] from 7 (fun s4 wx => s4 = .map (some M) ∧ w4 = wx)
  case first =>
   rename_i J1 K1 hJJ hKK
   gi_region
   all_goals
    refine hKK _ _ (hJJ _ _ ?_)
    repeat apply Exists.intro
    exact ⟨⟨rfl, rfl⟩, rfl⟩
  -- LOOP
  obtain ⟨rfl, rfl⟩ := hcut
  clear hrun hmk bv ba v0 e0 bva baa v0a e0a hM
  obtain ⟨R, hRN⟩ : ∃ R, N - (p + 1) = R := ⟨_, rfl⟩
  obtain ⟨c2, hc2⟩ : ∃ c2, c - (p + 1) = c2 := ⟨_, rfl⟩
  obtain ⟨O2, hO2⟩ : ∃ O2, o + (p + 1) * 10 = O2 := ⟨_, rfl⟩
  have HRN := Lib.hid hRN
  have hR6 : R ≤ 1000000 := by omega
  have HO2 := Lib.hid hO2
  have bv := HI4.out.bv
  have ba := HI4.out.ba
  have v0 := HI4.out.v0
  have hwp : IntKind.i64.wrap ((p : Int) + 1) = ((p + 1 : Nat) : Int) := by rw [IntKind.wrap_i64]; omega
  gi_upto_region 2 with fail
  gi_cut [33, 34, 35] from 7 (fun s33 s34 s35 wx => (∃ ad : Option Addr, s33 = .slice ad R c2 ∧ (0 < R → ad = some ⟨g, O2, none⟩)) ∧ s34 = .int .i64 (R : Int) ∧ s35 = .int .i64 0 ∧ ∃ m, wx = w4.drewN m)
  case first =>
   rename_i J1 K1 hJJ hKK
   gi_region
   all_goals
    refine hKK _ _ (hJJ _ _ ?_)
    repeat apply Exists.intro
    exact ⟨⟨⟨_, rfl, fun h => if_neg (by have := HRN.out; omega)⟩, rfl, rfl, 1, rfl⟩, rfl⟩
  obtain ⟨⟨ad, rfl, had⟩, rfl, rfl, m, hwm⟩ := hcut
  have HAd := Lib.hid had
  clear had
  have hg0 : w4.grownBy wc none := by rw [hwm]; exact ⟨rfl, rfl, rfl, Nat.le_refl _, fun _ _ _ => rfl⟩
  have hb0 : Below n₀ w4 wc := by rw [hwm]; exact ((Kp.refl [] w4).drew m).below (by have := Hs4.out; omega) (by simp)
  have HI5 := Lib.hid (HI4.out.keep hb0)
  have HBM5 := Lib.hid (show BMap wc M 1 (f1 x.1.idx) D4 from HBM.out.kept fun o h _ => by rw [hwm]; exact h)
  have HJ5 := Lib.hid (HJ.out _ w4 wc none HJ4.out hg0 (fun r e => by cases e))
  have HB5 := Lib.hid (HB4.out.trans hb0)
  have HO5 := Lib.hid (show ∀ k, ownAt wc Bs = some k → k < wc.heap.size from fun k hk => by
   rw [hwm] at hk ⊢
   exact HO4.out k hk)
  clear hwm hg0 hb0 bv ba v0 hwp hRN hc2 hO2
  have HW := Lib.hid hn₀
  have HBs := Lib.hid hBs
  clear hn₀ hBs how
  gi_wp2
  gi_loopw [35] (fun s wr => ∃ (k : Nat) (ys : List (AD l)) (f : Int → Bool) (D : DataW Unit), k ≤ R ∧ s = .int .i64 (k : Int) ∧ ys.map (fun p : AD l => p.1) ++ walkS f ((l.drop (p + 1)).drop k) = subL l p x ∧ ys.length = k + 1 ∧ BMap wr M (k + 1) f D ∧ J ys wr ∧ Below n₀ W wr ∧ (∀ k, ownAt wr Bs = some k → k < wr.heap.size))
   (fun s _ => R - (intOf s).toNat)
  case atStart => exact ⟨0, [⟨x, hxm⟩], _, _, Nat.zero_le _, rfl, by simp [subL], rfl, HBM5.out, HJ5.out, HB5.out, HO5.out⟩
  case round =>
   clear HBM5 HJ5 HB5 HO5
   obtain ⟨k, ys, f, D, hk, rfl, hys, hyl, hbm, hjs, hbw, how⟩ := hrel
   have hsz : W.heap.size ≤ wr.heap.size := hbw.size
   by_cases hlt : k < R
   ·have hkz : (k : Int) < (R : Int) := by omega
    obtain rfl := HAd.out (by omega)
    have Hkb := Lib.hid (show k + 1 ≤ 1000001 by have := HRN.out; omega)
    have hll : p + 1 + k < l.length := by have := HI.out.len; have := HRN.out; omega
    obtain ⟨y, hy⟩ : ∃ y, l[p + 1 + k]? = some y := ⟨_, List.getElem?_eq_getElem hll⟩
    have hym := List.mem_of_getElem? hy
    obtain ⟨yb, yn, yc, hyv⟩ := HSl.out y hym
    obtain ⟨y1, y2⟩ := y
    simp only at hyv
    subst hyv
    have hdr : (l.drop (p + 1)).drop k = (y1, Value.slice yb yn yc) :: (l.drop (p + 1)).drop (k + 1) := by
     rw [List.drop_drop, List.drop_drop, List.drop_eq_getElem_cons hll]
     congr 1
     exact (List.getElem?_eq_some_iff.1 hy).2
    obtain ⟨g', o', e', hg', hr'⟩ := (HI.out.keep hbw).row
    cases e'
    have hry := hr' (p + 1 + k) (y1, Value.slice yb yn yc) hy
    rw [show o + (p + 1 + k) * 10 = O2 + k * 10 by have := HO2.out; omega] at hry
    have c0 : wr.cell? ⟨g, O2 + k * 10, none⟩ = some (.int .i64 y1.idx) := hry 0 _ rfl
    have c1 : wr.cell? ⟨g, O2 + k * 10 + 1, none⟩ = some (.int .i64 y1.par) := hry 1 _ rfl
    have c2 : wr.cell? ⟨g, O2 + k * 10 + 2, none⟩ = some (.string y1.name) := hry 2 _ rfl
    have c3 : wr.cell? ⟨g, O2 + k * 10 + 3, none⟩ = some (.string y1.orig) := hry 3 _ rfl
    have c4 : wr.cell? ⟨g, O2 + k * 10 + 4, none⟩ = some (.string y1.sub) := hry 4 _ rfl
    have c5 : wr.cell? ⟨g, O2 + k * 10 + 5, none⟩ = some (.string y1.drv) := hry 5 _ rfl
    have c6 : wr.cell? ⟨g, O2 + k * 10 + 6, none⟩ = some (.string y1.ali) := hry 6 _ rfl
    have c7 : wr.cell? ⟨g, O2 + k * 10 + 7, none⟩ = some (.int .i64 y1.kind) := hry 7 _ rfl
    have c8 : wr.cell? ⟨g, O2 + k * 10 + 8, none⟩ = some (.int .i64 y1.num) := hry 8 _ rfl
    have c9 : wr.cell? ⟨g, O2 + k * 10 + 9, none⟩ = some (.slice yb yn yc) := hry 9 _ rfl
    obtain ⟨Bd, hBd⟩ : ∃ Bd, wr.heap.size = Bd := ⟨_, rfl⟩
    obtain ⟨wB, hwB⟩ : ∃ wB, wr.alloc (.cells #[.int .i64 y1.idx, .int .i64 y1.par, .string y1.name, .string y1.orig, .string y1.sub, .string y1.drv, .string y1.ali, .int .i64 y1.kind, .int .i64 y1.num, .slice yb yn yc] 34) = wB := ⟨_, rfl⟩
    have hbB : Below n₀ W wB := by rw [← hwB]; exact hbw.alloc (by have := HW.out; omega) _
    have hbx : wB.heap[Bd]? = some (.cells #[.int .i64 y1.idx, .int .i64 y1.par, .string y1.name, .string y1.orig, .string y1.sub, .string y1.drv, .string y1.ali, .int .i64 y1.kind, .int .i64 y1.num, .slice yb yn yc] 34 (0, 0)) := by rw [← hwB, ← hBd]; exact heap_alloc_last wr _
    have hjB : J ys wB := HJ.out _ wr wB none hjs (by rw [← hwB]; exact World.grownBy_alloc _ _ none) (fun r e => by cases e)
    have hmB : BMap wB M (k + 1) f D := hbm.kept fun o h _ => by rw [← hwB]; exact (Below.heap_alloc wr _ M (Array.getElem?_eq_some_iff.1 h).1).trans h
    have hBsB : wB.heap[Bs]? = wr.heap[Bs]? := by rw [← hwB]; exact Below.heap_alloc wr _ Bs (by have := HBs.out; omega)
    have hszB : wB.heap.size = Bd + 1 := by rw [← hwB, ← hBd]; simp
    have hoB : ∀ j, ownAt wB Bs = some j → j < Bd := fun j hj => by rw [← hBd]; exact how j (ownAt_eq hBsB ▸ hj)
    have hl := hmB.look (Hwl.out _ hym)
    have dx := fun i => cell_of_row wB Bd i _ _ _ hbx
    obtain ⟨bf, hbf⟩ : ∃ bf, f y1.par = bf := ⟨_, rfl⟩
    rw [hbf] at hl
    have HBx := Lib.hid hbx
    have HbB := Lib.hid hbB
    have HjB := Lib.hid hjB
    have HmB := Lib.hid hmB
    have HoB := Lib.hid hoB
    have HszB := Lib.hid hszB
    have Hys := Lib.hid hys
    have Hyl := Lib.hid hyl
    have Hdr := Lib.hid hdr
    have Hsz := Lib.hid (show W.heap.size ≤ Bd by omega)
    have Hwy := Lib.hid (Hwi.out _ hym)
    have Hbf := Lib.hid hbf
    clear hbx hbB hjB hmB hoB hszB hys hyl hdr hsz hry hr' hg' hbm hjs hbw how hBsB hbf
    cases bf with
    | false =>
     gi_wp2
     refine ⟨fun _ h => (by cases h), ?_⟩
     gi_wp2
     refine bodyPost_ret (results_none rfl _ _ _) rfl ?_
     refine ⟨⟨_, rfl⟩, .inl ⟨ys, ?_, HjB.out⟩⟩
     have := Hys.out
     rw [Hdr.out, walkS_no Hbf.out, List.append_nil] at this
     exact this
    | true =>
     obtain ⟨fn2, tmps2, assign2, body2, hy2, hR2⟩ := HY.out ys ⟨(y1, .slice yb yn yc), hym⟩ wB HjB.out (by have := Hyl.out; have := HRN.out; omega)
     unfold adE at hy2
     dsimp only at hy2
     gi_wp2
     refine hR2.mono ?_
     rintro e W3 (⟨rfl, hJ3, hk3⟩ | ⟨rfl, hJx3⟩)
     ·have hx3 : W3.heap[Bd]? = some (.cells #[.int .i64 y1.idx, .int .i64 y1.par, .string y1.name, .string y1.orig, .string y1.sub, .string y1.drv, .string y1.ali, .int .i64 y1.kind, .int .i64 y1.num, .slice yb yn yc] 34 (0, 0)) := hk3.2.2.same Bd _ HBx.out rfl (by have := HBs.out; have := Hsz.out; omega) (fun e => by have := HoB.out Bd e; omega)
      have dx3 := fun i => cell_of_row W3 Bd i _ _ _ hx3
      have hm3 := HmB.out.walks hk3.2.1
      have HM3 := Lib.hid hm3
      have HK3 := Lib.hid hk3
      have HJ3 := Lib.hid hJ3
      clear hm3 hk3 hJ3 hx3 dx hR2 hy2
      gi_wp2_with (gi_at_mapUpdate; refine wpListIn_mapUpdate_own _ rfl _ _ _ 114 rfl 3 4 lawI Tryz.underlying114 _ M (k + 1) D rfl HM3.out.own (by have := Hkb.out; unfold maxLen; omega) _ _ _ rfl rfl (keyI Hwy.out) _ [] (boolE true) ?_; intro w5 hown5 hgr5; have Hown5 := Lib.hid hown5; have Hgr5 := Lib.hid hgr5; clear hown5 hgr5)
      have hmo : ∃ o : Obj, W3.heap[M]? = some o ∧ o.isWalk = true := by
       obtain ⟨es, clock, h1, -⟩ := HM3.out.own
       exact ⟨_, h1, rfl⟩
      have hB3 : W.heap.size ≤ W3.heap.size := Nat.le_trans (by have := Hsz.out; have := HszB.out; omega) HK3.out.2.2.size
      have hbs5 : w5.heap[Bs]? = W3.heap[Bs]? := Hgr5.out.block Bs (by have := HBs.out; omega) (by intro e; cases e; have := HBs.out; have := HM.out; omega)
      go_roundw
      case rel =>
       refine ⟨k + 1, ys ++ [⟨(y1, .slice yb yn yc), hym⟩], _, _, by omega, rfl, ?_, by simp [Hyl.out], HM3.out.put Hwy.out Hown5.out, HJ.out _ W3 w5 (some M) HJ3.out Hgr5.out (fun r e => by cases e; exact ⟨HM.out, hmo⟩), ?_, fun j hj => ?_⟩
       ·rw [← Hys.out, Hdr.out, walkS_yes Hbf.out]
        simp
       ·exact (HbB.out.trans HK3.out.1).grown Hgr5.out (by have := HW.out; omega) (fun j hj => by cases hj; have := HM.out; have := HW.out; omega)
       ·exact Nat.lt_of_lt_of_le (HK3.out.2.2.lt (fun i hi => Nat.lt_of_lt_of_le (HoB.out i hi) (by have := HszB.out; omega)) j (ownAt_eq hbs5 ▸ hj)) Hgr5.out.size
      case measure => simp [intOf]; omega
     ·gi_wp2
      refine bodyPost_ret (results_none rfl _ _ _) rfl ?_
      exact ⟨⟨_, rfl⟩, .inr ⟨_, hJx3⟩⟩
   ·obtain rfl : k = R := by omega
    have hz : (l.drop (p + 1)).drop k = [] := by
     rw [List.drop_drop, List.drop_eq_nil_iff]
     have := HI.out.len
     have := HRN.out
     omega
    rw [hz] at hys
    simp only [walkS, List.append_nil] at hys
    gi_wp2
    go_end0
    exact ⟨⟨_, rfl⟩, .inl ⟨_, hys, hjs⟩⟩
end Go.Proofs.YtldcediiobfhiaaGreatDoor.De
namespace Go.Proofs.YtldcediiobfhiaaGreatDoor.De
open Go.RowKit Go.Shelf Go.Maps
attribute [local go_sem] Oper.semAt_some
theorem kz_append {W w1 : World} {Bs : Nat} {t : TypeId} {v v' : Value} {tmp : Obj} (hv : Boxed W Bs t v) (hv2 : Boxed (w1.setCell ⟨Bs, 0, none⟩ v') Bs t v') (hgrow : (W.alloc tmp).grownBy w1 v.ownBlock) (hat : v'.ownBlock = v.ownBlock ∨ v'.ownBlock = some (W.alloc tmp).heap.size) (hlt : ∀ k, v'.ownBlock = some k → k < w1.heap.size) : Kz Bs W (w1.setCell ⟨Bs, 0, none⟩ v') := by
 have e1 : ownAt W Bs = v.ownBlock := by unfold ownAt; rw [hv.cell]; rfl
 have e2 : ownAt (w1.setCell ⟨Bs, 0, none⟩ v') Bs = v'.ownBlock := by unfold ownAt; rw [hv2.cell]; rfl
 have hs : (w1.setCell ⟨Bs, 0, none⟩ v').heap.size = w1.heap.size := by simp [World.setCell]
 have hsa : (W.alloc tmp).heap.size = W.heap.size + 1 := by simp
 refine ⟨?_, fun k o hk hc hn ho => ?_, fun k hk => ?_, fun _ k hk => ?_⟩
 ·rw [hs]
  have := hgrow.size
  omega
 ·have hkl := (Array.getElem?_eq_some_iff.1 hk).1
  rw [Below.heap_setCell w1 ⟨Bs, 0, none⟩ v' k hn, hgrow.block k (by omega) (by rw [e1] at ho; exact fun e => ho e.symm), Below.heap_alloc W tmp k hkl]
  exact hk
 ·rw [e2] at hk
  rw [e1]
  rcases hat with h | h
  ·rw [h] at hk
   exact .inl hk
  ·rw [h] at hk
   cases hk
   exact .inr (by omega)
 ·rw [e2] at hk
  rw [hs]
  exact hlt k hk
theorem sub_stops (n : Nat) (hn : 1 ≤ n) (n₀ Bs Bv Ba V N c p : Nat) (a : Option Addr) (l : List DV) (x : DV) (hx : l[p]? = some x) (hNl : N ≤ 1000000) (hNc : N ≤ c)
  (hwi : ∀ x ∈ l, (Lit.int .i64 x.1.idx).wf = true) (hwl : ∀ x ∈ l, (Lit.int .i64 x.1.par).wf = true) (hsl : ∀ x ∈ l, ∃ b n c, x.2 = .slice b n c) (w : World) (hn₀ : n₀ ≤ w.heap.size) (hI : It2 n₀ w Bv Ba V N c p a l)
  (hBs : Bs < w.heap.size) (how : ∀ k, ownAt w Bs = some k → k < w.heap.size) :
  SeqStopsK Fence.wide n Tryz.prog 111 #[.pointer (some ⟨Bv, 0, none⟩), .pointer (some ⟨Ba, 0, none⟩)] (adE (l := l)) (Km n₀ Bs) (fun ys => ys.map (fun p : AD l => p.1) = subL l p x) (fun _ => True) N w := fun lo J Jx W hW hJ _ hY h0 => by
 have hs := hW.size
 have e := ownAt_eq (hW.block Bs hBs)
 refine (sub1_in n hn lo n₀ Bs Bv Ba V N c p a l x hx hNl hNc J Jx hwi hwl hsl hY W (by omega) (hI.keep (hW.mono hn₀)) (by omega) (fun k hk => by have := how k (e ▸ hk); omega) h0 hJ).mono ?_
 rintro e W' ⟨he, ⟨ys, hys, hj⟩ | ⟨pre, hj⟩⟩
 ·exact ⟨he, .inl ⟨ys, hys, hj⟩⟩
 ·exact ⟨he, .inr ⟨pre, trivial, hj⟩⟩
set_option maxRecDepth 100000 in
set_option maxHeartbeats 4000000 in
theorem appendSeqS_any (w : World) (Bv Ba V N c p : Nat) (a : Option Addr) (l : List DV) (x : DV) (hx : l[p]? = some x) (hNl : N ≤ 1000000) (hNc : N ≤ c)
  (hwi : ∀ x ∈ l, (Lit.int .i64 x.1.idx).wf = true) (hwl : ∀ x ∈ l, (Lit.int .i64 x.1.par).wf = true) (hsl : ∀ x ∈ l, ∃ b n c, x.2 = .slice b n c) (hI : It2 w.heap.size w Bv Ba V N c p a l) :
  Calls Tryz.prog 109 #[.slice none 0 0, .func (.func 111) #[] #[.pointer (some ⟨Bv, 0, none⟩), .pointer (some ⟨Ba, 0, none⟩)]] w fun e w' => ∃ u, e = .returned u ∧ w'.ownsRow w.heap.size 34 10 u (subL l p x).length (dvsC (subL l p x)) ∧ Below w.heap.size w w' := by
 obtain ⟨i0, hi0, hz0, hz1, hz2⟩ := info_parts info34
 refine (callsIn_wide (n := 5)).1 ?_
 refine callsIn_of_wp_marks Tryz.func109 rfl trivial (wpIn_wide.2 ?_) rfl
 simp only [Tryz.ntmps109, List.size_toArray, List.length_cons, List.length_nil, Nat.reduceAdd, Nat.reduceSub, Array.replicate_succ, Array.replicate_zero, List.push_toArray, List.append_toArray, List.nil_append, List.cons_append]
 go_wp2
 obtain ⟨Bs, hBs⟩ : ∃ B, w.heap.size = B := ⟨_, rfl⟩
 have bO := Boxed.new w 22 (.slice none 0 0)
 have hB0 : Below w.heap.size w (w.alloc (.cells #[.slice none 0 0] 22)) := (Below.refl _ w).alloc (Nat.le_refl _) _
 have hsz : (w.alloc (.cells #[.slice none 0 0] 22)).heap.size = Bs + 1 := by simp [hBs]
 generalize hW1 : w.alloc (.cells #[.slice none 0 0] 22) = w1 at *
 have hI1 := hI.keep hB0
 rw [hBs] at bO hB0 hI1 ⊢
 have how1 : ∀ k, ownAt w1 Bs = some k → k < w1.heap.size := fun k hk => by
  unfold ownAt at hk
  rw [bO.cell] at hk
  cases hk
 refine (wpIn_wide (n := 5)).1 (wpIn_rangeFunc_ownH (F := Fence.wide) rfl (by omega : 1 ≤ 5) (gf := 111) (lb := #[.pointer (some ⟨Bv, 0, none⟩), .pointer (some ⟨Ba, 0, none⟩)]) rfl trivial (enters_of Tryz.func111 (by kernel_rfl) rfl)
  (sub_stops 4 (by omega) Bs Bs Bv Ba V N c p a l x hx hNl hNc hwi hwl hsl w1 (by omega) hI1 (by omega) how1) Km.trans (km_b (by omega) (by omega)) (Below.refl _ _) (fun _ => rfl)
  (fun pre W => (∃ v, Boxed W Bs 22 v ∧ W.ownsRow Bs 34 10 v pre.length (dvsC (valsA pre)) ∧ True) ∧ Below Bs w W) (fun _ _ _ => False)
  (OwnFrom.and (Own.from (holdsRow_own Bs Bs 22 34 10 (fun pre : List (AD l) => pre.length) (fun pre => dvsC (valsA pre)) (fun _ _ => True)) _) (ownFrom_below (by omega) (by omega))) (fun _ _ _ _ _ hs _ _ => hs)
  ⟨⟨_, bO, World.ownsRow_nil _ _ _ _, trivial⟩, hB0⟩
  (fun x a' W => ∃ Bx, Bs < Bx ∧ BoxAt W Bx (dvC x.1.1 x.1.2).toArray ∧ a' = { tmps := #[.slice none 0 0, .func (.func 111) #[] #[.pointer (some ⟨Bv, 0, none⟩), .pointer (some ⟨Ba, 0, none⟩)], .pointer (some ⟨Bs, 0, none⟩), undef, .slice none 0 0, .pointer (some ⟨Bx, 0, none⟩), .func (.func 111) #[] #[.pointer (some ⟨Bv, 0, none⟩), .pointer (some ⟨Ba, 0, none⟩)], .agg (dvC x.1.1 x.1.2).toArray, undef, undef, undef, undef, undef], defers := [] })
  ?hAx ?assign ?body ?done ?stop)
 case hAx =>
  intro x a' _ A B row hs hg hr
  obtain ⟨Bx, h1, h2, h3⟩ := hs
  refine ⟨Bx, h1, (hg.block Bx (block_lt h2) fun e => ?_).trans h2, h3⟩
  obtain ⟨_, o, ho, hc⟩ := hr Bx e.symm
  unfold BoxAt at h2
  rw [h2] at ho
  cases ho
  cases hc
 case assign =>
  intro lo pre x W K hi hK
  obtain ⟨⟨ad, v⟩, hx⟩ := x
  obtain ⟨b, n, c, hv⟩ := hsl _ hx
  simp only at hv
  subst hv
  unfold adE
  unfold dvC at hK
  gi_wp2
  obtain ⟨⟨u, hu, hrow, -⟩, hB⟩ := hi
  refine hK _ _ ((KeepsOthers.alloc _ _).from _) ⟨(Below.refl Bs W).alloc (by have := hu.lt; omega) _, KeepsWalks.alloc _ _, Kz.alloc hu.lt _⟩ ⟨⟨u, hu.alloc _, hrow.alloc _, trivial⟩, hB.alloc (by have := hu.lt; omega) _⟩ ⟨W.heap.size, hu.lt, heap_alloc_last _ _, rfl⟩
 case body =>
  rintro lo pre x a' W hl' _ ⟨⟨v, hv, hrow, -⟩, hB⟩ ⟨Bx, hBx, hRA, rfl⟩ hlt
  have hc := hv.cell
  obtain ⟨y, hxy⟩ : ∃ y, x.1.1 = y := ⟨_, rfl⟩
  obtain ⟨xv, hxv⟩ : ∃ y, x.1.2 = y := ⟨_, rfl⟩
  obtain ⟨b, n, c', hv2⟩ := hsl x.1 x.2
  rw [hxv] at hv2
  have hone := Lib.hid (show ∀ u ∈ dvC y xv, u.oneCell' = true from dvC_one (by rw [hv2]; rfl))
  have hvs := valsA_snoc pre x
  rw [hxy, hxv] at hRA hvs ⊢
  have HVS := Lib.hid hvs
  have HRA := Lib.hid (fun i => hRA.cell i)
  have HRb := Lib.hid hRA
  have HI2 := Lib.hid (show (Tryz.prog.info? 34).map (·.size) = some (dvC y xv).toArray.size from info34b)
  have d0 : W.cell? ⟨Bx, 0, none⟩ = some (.int .i64 y.idx) := HRA.out 0
  have d1 : W.cell? ⟨Bx, 1, none⟩ = some (.int .i64 y.par) := HRA.out 1
  have d2 : W.cell? ⟨Bx, 2, none⟩ = some (.string y.name) := HRA.out 2
  have d3 : W.cell? ⟨Bx, 3, none⟩ = some (.string y.orig) := HRA.out 3
  have d4 : W.cell? ⟨Bx, 4, none⟩ = some (.string y.sub) := HRA.out 4
  have d5 : W.cell? ⟨Bx, 5, none⟩ = some (.string y.drv) := HRA.out 5
  have d6 : W.cell? ⟨Bx, 6, none⟩ = some (.string y.ali) := HRA.out 6
  have d7 : W.cell? ⟨Bx, 7, none⟩ = some (.int .i64 y.kind) := HRA.out 7
  have d8 : W.cell? ⟨Bx, 8, none⟩ = some (.int .i64 y.num) := HRA.out 8
  have d9 : W.cell? ⟨Bx, 9, none⟩ = some (xv) := HRA.out 9
  clear hRA hvs hxy hxv
  subst hv2
  gi_wp2_with (gi_at_builtin; refine wpListIn_append_own_at _ rfl _ _ 22 rfl Bs 34 i0 _ 10 136 Tryz.underlying22 hi0 hz0 hz1 hz2 rfl (by decide) _ _ _ rfl (hrow.alloc _) ⟨W.heap.size, 0, none⟩ 1 1 (dvC y _) rfl rfl (cells_new _ _ _) hone.out (by unfold maxLen; omega) (by omega) (by have := hB.size; simp; omega) ?_; intro v' w1 hown' hgrow _ hat; have hlt' := fun k hk => (hown'.lt k hk).2; obtain ⟨g', cap', rfl⟩ := ownsRow_succ hown'; obtain ⟨hv1, hv2, hr2, hk2, hb2⟩ := hv.appended (by decide) hrow (by have := hv.lt; omega) (Nat.le_refl _) hown' hgrow; have hc1 := hv1.cell; have hf1 := hv1.frozen)
  refine ⟨hk2.from _, ⟨hb2, hk2.walks, kz_append hv hv2 hgrow hat hlt'⟩, ⟨_, hv2, ?_, trivial⟩, hB.trans hb2⟩
  rw [HVS.out, List.length_append]
  exact hr2
 case done =>
  rintro Dd xs W hD hxs ⟨⟨v, hv, hrow, -⟩, hB⟩ hK
  have hc := hv.cell
  have hxl : valsA xs = subL l p x := hxs
  have hrow2 := ownsRow_putObj hrow (.deferred none) hK rfl
  rw [hxl, ← valsA_len, hxl] at hrow2
  have HR := Lib.hid hrow2
  have HB := Lib.hid (hB.trans (belowK_b (w := w) (n₀ := Bs) (by omega) W Dd _ (.deferred none) (by omega) hK rfl rfl))
  go_wp2
  refine ⟨by simp, .inl ⟨_, _, rfl, run_takeDeferred hK, ?_⟩⟩
  exact ⟨_, results_tmp rfl _ _ _, v, rfl, by rw [hBs]; exact HR.out, by rw [hBs]; exact HB.out⟩
 case stop =>
  intro D cd pre W _ _ h
  exact h.elim
theorem collectS_any (w : World) (Bv Ba V N c p : Nat) (a : Option Addr) (l : List DV) (x : DV) (hx : l[p]? = some x) (hNl : N ≤ 1000000) (hNc : N ≤ c)
  (hwi : ∀ x ∈ l, (Lit.int .i64 x.1.idx).wf = true) (hwl : ∀ x ∈ l, (Lit.int .i64 x.1.par).wf = true) (hsl : ∀ x ∈ l, ∃ b n c, x.2 = .slice b n c) (hI : It2 w.heap.size w Bv Ba V N c p a l) :
  Calls Tryz.prog 75 #[.func (.func 111) #[] #[.pointer (some ⟨Bv, 0, none⟩), .pointer (some ⟨Ba, 0, none⟩)]] w fun e w' => ∃ u, e = .returned u ∧ w'.ownsRow w.heap.size 34 10 u (subL l p x).length (dvsC (subL l p x)) ∧ Below w.heap.size w w' := by
 have HA := Lib.hid (appendSeqS_any w Bv Ba V N c p a l x hx hNl hNc hwi hwl hsl hI)
 clear hI
 go_enter Tryz.func75, Tryz.ntmps75
 go_wp2_with (go_at_call 109; refine Calls.mono (by with_reducible exact HA.out) ?_; rintro e w2 ⟨u, rfl, ho, hb⟩)
 go_ret
 exact ⟨_, rfl, ho, hb⟩
theorem sub_any (V p : Nat) (w : World) : Calls Tryz.prog 77 #[.pointer (some ⟨V, 0, none⟩), .int .i64 (p : Int)] w fun e w' =>
  e = .returned (.func (.func 111) #[] #[.pointer (some ⟨w.heap.size, 0, none⟩), .pointer (some ⟨w.heap.size + 1, 0, none⟩)]) ∧ w' = (w.alloc (.cells #[.pointer (some ⟨V, 0, none⟩)] 64)).alloc (.cells #[.int .i64 (p : Int)] 3) := by
 go_enter Tryz.func77, Tryz.ntmps77
 go_wp2
 go_ret
 exact ⟨rfl, rfl⟩
def subOf (l : List DV) (n : Int) : List DV := match lastI (l.map (·.1)) n with
 | none => []
 | some q => match l[q]? with
  | none => []
  | some x => subL l q x
end Go.Proofs.YtldcediiobfhiaaGreatDoor.De
namespace Go.Proofs.YtldcediiobfhiaaGreatDoor.De
open Go.RowKit Go.Maps
set_option maxRecDepth 100000 in
set_option maxHeartbeats 4000000 in
theorem subtree_any (sv : Value) (l : List DV) (n : Int) (w : World) (hl : l.length ≤ 1000000) (hal : ∀ x ∈ l, x.1.ats.length ≤ 1000000) (h : DHas w sv l) (hc : ∀ a n c, sv = .slice a n c → n ≤ c)
  (hwf : ∀ x ∈ l, (Lit.int .i64 x.1.idx).wf = true) (hwp : ∀ x ∈ l, (Lit.int .i64 x.1.par).wf = true) (hn : (Lit.int .i64 n).wf = true) :
  Calls Tryz.prog 38 #[.agg #[sv], .int .i64 n] w fun e w' => ∃ u L, e = .returned u ∧ L.map (·.1) = (subOf l n).map (·.1) ∧ DHas w' u L ∧ (∀ x ∈ L, x.1.ats ≠ [] → ∀ b, x.2.ownBlock = some b → w.heap.size ≤ b) ∧ Below w.heap.size w w' := by
 obtain ⟨a0, c0, rfl, hrow⟩ := h.form
 have hboxw := heap_alloc_last w (.cells #[.slice a0 l.length c0] 29)
 have hb0 := (Below.refl _ w).alloc (Nat.le_refl _) (.cells #[.slice a0 l.length c0] 29)
 have hs1 : (w.alloc (.cells #[.slice a0 l.length c0] 29)).heap.size = w.heap.size + 1 := by simp
 have HAts := Lib.hid (show ∀ x ∈ l, Has w x.2 x.1.ats by
  rcases h with ⟨a, c, hv, rfl⟩ | ⟨g, o, c, hv, _, _, hr⟩
  ·intro x hx
   cases hx
  ·exact hr.ats)
 obtain ⟨W1, hW1⟩ : ∃ W1, w.alloc (.cells #[.slice a0 l.length c0] 29) = W1 := ⟨_, rfl⟩
 rw [hW1] at hboxw hb0 hs1
 have HV := Lib.hid (viewOf_any (.slice a0 l.length c0) l W1 hl (h.below hb0) hc hwf)
 have b0 : W1.cell? ⟨w.heap.size, 0, none⟩ = some (.slice a0 l.length c0) := by rw [cell_of_row _ _ 0 _ _ _ hboxw]; rfl
 have HB0 := Lib.hid hb0
 have HBx := Lib.hid hboxw
 have HRow := Lib.hid hrow
 have Hn := Lib.hid hn
 have Hwp := Lib.hid hwp
 have Hwi := Lib.hid hwf
 have Hl := Lib.hid hl
 have Hal := Lib.hid hal
 have Hs1 := Lib.hid hs1
 obtain ⟨N, hN⟩ : ∃ N, l.length = N := ⟨_, rfl⟩
 have HN := Lib.hid hN
 rw [hN] at hW1 HV b0 HBx ⊢
 clear h hrow hboxw hb0 hs1 hc hwf hwp hn hal hl hN
 go_enter Tryz.func38, Tryz.ntmps38
 go_upto_region 2 with (go_at_call 52; refine Calls.mono (by with_reducible exact HV.out) ?_; rintro e w2 ⟨V, M, D, sv', rfl, hV1, hM1, hvw, hb1⟩)
 obtain ⟨a, c, rfl, hrv⟩ := hvw.dev.form
 have v0 : w2.cell? ⟨V, 0, none⟩ = some (.slice a l.length c) := by rw [cell_of_row _ _ _ _ _ _ hvw.box]; rfl
 have v1 : w2.cell? ⟨V, 1, none⟩ = some (.map (some M)) := by rw [cell_of_row _ _ _ _ _ _ hvw.box]; rfl
 have HO := Lib.hid hvw.map.own
 have HVw := Lib.hid hvw
 have HB1 := Lib.hid hb1
 have HBall := Lib.hid (HB0.out.trans (hb1.mono (by have := Hs1.out; omega)))
 have bx := (hb1.cell (p := ⟨w.heap.size, 0, none⟩) (block_lt HBx.out)).trans b0
 have Hbx := Lib.hid bx
 cases hp : lastI (l.map (·.1)) n with
 | none =>
  have hh := hvw.map.has n Hn.out
  rw [hp] at hh
  have Hh := Lib.hid hh
  have hz : subOf l n = [] := by unfold subOf; rw [hp]
  have HZ := Lib.hid hz
  clear hh hz hp hvw hb1 hrv
  go_wp2_with (at_lookup; refine wpList_lookup_own_ok_int _ rfl _ _ 82 rfl 3 3 .i64 lawI Tryz.underlying82 Tryz.underlying3 (Tryz.zeroValue3 _) M l.length D rfl HO.out _ _ rfl (keyI Hn.out) ?_; intro c hat hwc; rw [Hh.out]; clear hat hwc)
  go_ret
  exact ⟨_, [], rfl, by rw [HZ.out], .inl ⟨none, 0, rfl, rfl⟩, fun _ h => (by cases h), HBall.out⟩
 | some q =>
  obtain ⟨y, hy, -⟩ := lastI_some hp
  rw [List.getElem?_map, Option.map_eq_some_iff] at hy
  obtain ⟨x, hx, -⟩ := hy
  have hxm := List.mem_of_getElem? hx
  have hqN : q < N := by
   rw [← HN.out]
   exact (List.getElem?_eq_some_iff.1 hx).1
  have hqz : (q : Int) < (N : Int) := by omega
  have hz : subOf l n = subL l q x := by unfold subOf; rw [hp]; simp only [hx]
  have HZ := Lib.hid hz
  have hh := hvw.map.has n Hn.out
  have hat' := hvw.map.val n q Hn.out hp
  rw [hp] at hh
  have Hh := Lib.hid hh
  have Hat := Lib.hid hat'
  have Hsl := Lib.hid (show ∀ x ∈ l, ∃ b n c, x.2 = .slice b n c from fun y hy => by
   obtain ⟨b, c, hv, -⟩ := (HAts.out y hy).form
   exact ⟨b, _, c, hv⟩)
  have HC1 := Lib.hid (fun W => sub_any V q W)
  obtain ⟨w3, hw3⟩ : ∃ w3, (w2.alloc (.cells #[.pointer (some ⟨V, 0, none⟩)] 64)).alloc (.cells #[.int .i64 (q : Int)] 3) = w3 := ⟨_, rfl⟩
  have hz2 : w3.heap.size = w2.heap.size + 1 + 1 := by rw [← hw3]; simp
  have hb23 : Below w2.heap.size w2 w3 := by rw [← hw3]; exact ((Below.refl _ w2).alloc (Nat.le_refl _) _).alloc (by simp) _
  have hbv : w3.heap[w2.heap.size]? = some (.cells #[.pointer (some ⟨V, 0, none⟩)] 64 (0, 0)) := by rw [← hw3]; exact heap_alloc2_old w2 _ _
  have hbd : w3.heap[w2.heap.size + 1]? = some (.cells #[.int .i64 (q : Int)] 3 (0, 0)) := by
   have := heap_alloc_last (w2.alloc (.cells #[.pointer (some ⟨V, 0, none⟩)] 64)) (.cells #[.int .i64 (q : Int)] 3)
   rw [hw3] at this
   simpa using this
  have hvl := block_lt hvw.box
  obtain ⟨gv, ov, rfl, hcv, hgv, hrv2⟩ := hrv (fun e => by rw [e] at hx; simp at hx)
  have hIt : It2 w3.heap.size w3 w2.heap.size (w2.heap.size + 1) V l.length c q (some ⟨gv, ov, none⟩) l :=
   ⟨by rw [cell_of_row _ _ _ _ _ _ hbv]; rfl, by omega, by rw [cell_of_row _ _ _ _ _ _ hbd]; rfl, by omega, (hb23.cell (p := ⟨V, 0, none⟩) hvl).trans v0, by omega, rfl,
    ⟨gv, ov, rfl, by omega, fun j y hy => (hrv2.below hgv hb23).at_ j y hy⟩⟩
  have HC2 := Lib.hid (collectS_any w3 _ _ _ _ _ _ _ _ _ hx Hl.out hcv Hwi.out Hwp.out Hsl.out hIt)
  have HBw3 := Lib.hid (HBall.out.trans (hb23.mono HBall.out.size))
  have HW3 := Lib.hid hw3
  have HX := Lib.hid hx
  clear hh hat' hz hp hvw hb1 hrv hx hIt hz2 hb23 hbv hbd hvl hw3 hrv2 hgv
  go_wp2_with (first
   | (at_lookup; refine wpList_lookup_own_ok_int _ rfl _ _ 82 rfl 3 3 .i64 lawI Tryz.underlying82 Tryz.underlying3 (Tryz.zeroValue3 _) M l.length D rfl HO.out _ _ rfl (keyI Hn.out) ?_; intro c hat hwc; rw [Hh.out]; rw [Hat.out] at hat; obtain rfl : (q : Int) = c := (by simpa using hat); clear hat hwc)
   | (go_at_call 77; refine Calls.mono (by with_reducible exact HC1.out _) ?_; rintro e w3' ⟨rfl, rfl⟩; rw [HW3.out])
   | (go_at_call 75; refine Calls.mono (by with_reducible exact HC2.out) ?_; rintro e w4 ⟨u, rfl, ho, hb4⟩))
  have hbw4 := HBw3.out.trans (hb4.mono HBw3.out.size)
  have hown : DOwn w4 w3.heap.size u (subL l q x) := ⟨ho, fun y hy => (HAts.out y (subL_mem HX.out hy)).below hbw4⟩
  refine (clones_any u (subL l q x) w4 (by have := subL_len HX.out; have := Hl.out; omega) (fun y hy => Hal.out y (subL_mem HX.out hy)) hown.has).mono ?_
  rintro e w5 ⟨u2, L, rfl, hL, hD, hfr, hb5⟩
  have HFr := Lib.hid (show ∀ x ∈ L, x.1.ats ≠ [] → ∀ b, x.2.ownBlock = some b → w.heap.size ≤ b from fun x hx hne b hb => Nat.le_trans hbw4.size (hfr x hx hne b hb))
  have HE := Lib.hid (show L.map (·.1) = (subOf l n).map (·.1) by rw [hL, HZ.out])
  have HD := Lib.hid hD
  have HB5 := Lib.hid (hbw4.trans (hb5.mono hbw4.size))
  clear ho hb4 hbw4 hown hL hD hb5 hfr
  go_wp2
  go_ret
  exact ⟨_, L, rfl, HE.out, HD.out, HFr.out, HB5.out⟩
end Go.Proofs.YtldcediiobfhiaaGreatDoor.De
