/- A configuration that is drawn. -/
import Derived.Test.YtdlchlbngojljaaDoorPD1
import Derived.Deep.RegionHeld
import Derived.Deep.LoopGhost
namespace Go.Proofs.YtdlchlbngojljaaDoor
open Go.RowKit Go.Maps Go.Sort
/-- A box of a configuration of which one cell is made: the row that lies there, the tape. -/
structure Bn {α : Type} (r : RT α) (w1 W : World) (tb P B1 : Nat) (cs : Array Value) (v : Value) (xs : List α) (q : Nat) : Prop where
 box : W.heap[P]? = some (.cells cs 31 (0, 0))
 own : r.Own W B1 v xs
 T : Tp W tb q
 K : Kp [tb, P] w1 W
 lt : tb < P
 PB : P < B1
 sz : B1 = w1.heap.size
section
variable {α : Type} {r : RT α} {w1 W W' : World} {tb P B1 : Nat} {cs : Array Value} {v v' : Value} {xs : List α} {q : Nat}
theorem Bn.szle (h : Bn r w1 W tb P B1 cs v xs q) : B1 ≤ W.heap.size := by rw [h.sz]; exact h.K.size
theorem Bn.start (hb : W.heap[P]? = some (.cells cs 31 (0, 0))) (hT : Tp W tb q) (hlt : tb < P) : Bn r W W tb P W.heap.size cs (.slice none 0 0) [] q :=
 ⟨hb, RT.Own.nil r _ _, hT, Kp.refl _ W, hlt, block_lt hb, rfl⟩
theorem Bn.kp0 (h : Bn r w1 W tb P B1 cs v xs q) (hk : Kp [] W W') : Bn r w1 W' tb P B1 cs v xs q :=
 ⟨(hk.block P (block_lt h.box) (by simp)).trans h.box, h.own.kp0 hk, h.T.kp hk (by simp), h.K.trans (hk.mono (by simp)), h.lt, h.PB, h.sz⟩
theorem Bn.tape (h : Bn r w1 W tb P B1 cs v xs q) {q' : Nat} (hk : Kp [tb] W W') (hT : Tp W' tb q') : Bn r w1 W' tb P B1 cs v xs q' :=
 ⟨(hk.block P (block_lt h.box) (by have := h.lt; simp; omega)).trans h.box, h.own.kp hk (fun b hb hm => by have := (h.own.ge b hb).1; have := h.lt; have := h.PB; simp at hm; omega), hT, h.K.trans (hk.mono (by simp)), h.lt, h.PB, h.sz⟩
theorem Bn.app (h : Bn r w1 W tb P B1 cs v xs q) {ys : List α} (ho : r.Own W' B1 v' ys) (hg : W.grownBy W' v.ownBlock) : Bn r w1 W' tb P B1 cs v' ys q := by
 have hge : ∀ k, k < B1 → some k ≠ v.ownBlock := fun k hk e => by have := (h.own.ge k e.symm).1; omega
 refine ⟨(hg.block P (block_lt h.box) (hge P h.PB)).trans h.box, ho, h.T.keep fun b hb => hg.block b (Nat.lt_of_le_of_lt hb h.T.lt) (hge b (by have := h.lt; have := h.PB; omega)), ?_, h.lt, h.PB, h.sz⟩
 exact ⟨hg.os.trans h.K.os, hg.tape.trans h.K.tape, hg.output.trans h.K.output, Nat.le_trans h.K.size hg.size, fun k hk hn => (hg.block k (Nat.lt_of_lt_of_le hk h.K.size) (hge k (by rw [h.sz]; exact hk))).trans (h.K.block k hk hn)⟩
theorem Bn.cell (h : Bn r w1 W tb P B1 cs v xs q) (j : Nat) : W.cell? ⟨P, j, none⟩ = cs[j]? := cell_of_row _ _ _ _ _ _ h.box
theorem Bn.frz (h : Bn r w1 W tb P B1 cs v xs q) (o : Nat) : W.frozen? ⟨P, o, none⟩ = false := by simp [World.frozen?, h.box]
theorem Bn.put (h : Bn r w1 W tb P B1 cs v xs q) (j : Nat) (u : Value) : Bn r w1 (W.setCell ⟨P, j, none⟩ u) tb P B1 (cs.setIfInBounds j u) v xs q := by
 have hk : Kp [P] W (W.setCell ⟨P, j, none⟩ u) := (Kp.refl [P] W).setCell (p := ⟨P, j, none⟩) (.inl (by simp)) u
 refine ⟨?_, h.own.kp hk (fun b hb hm => by have := (h.own.ge b hb).1; have := h.PB; simp at hm; omega), h.T.kp hk (by have := h.lt; simp; omega), h.K.trans (hk.mono (by simp)), h.lt, h.PB, h.sz⟩
 simp [World.setCell, Array.getElem?_modify, h.box]
theorem one_at (ys : List Tx) {R : Nat} (h : Bn r w1 W tb P B1 cs v xs q) (hl : W.heap[R]? = some (.cells (ys.map fun x => Value.string (bs x)).toArray 9 (0, 0))) (hR : B1 ≤ R) (hq : q ≤ 1000000) (h1 : 1 ≤ ys.length) (h2 : ys.length ≤ 1000000) :
  Calls Tryd.prog 16 #[.pointer (some ⟨tb, 0, none⟩), .slice (some ⟨R, 0, none⟩) ys.length ys.length] W fun e w' => ∃ x, x ∈ ys ∧ e = .returned (.string (bs x)) ∧ Bn r w1 w' tb P B1 cs v xs (q + 1) ∧ Kp [tb] W w' :=
 (one_any ys h1 h2 hq h.T (by have := h.lt; have := h.PB; omega) (block_lt hl) (fun j x hx => by rw [cell_of_row _ _ _ _ _ _ hl, List.getElem?_toArray, List.getElem?_map, hx]; rfl)).mono fun e w' ⟨x, hx, he, ht, hk⟩ => ⟨x, hx, he, h.tape hk ht, hk⟩
end
theorem row_cell {α : Type} {r : RT α} {x : α} {W : World} {R : Nat} {A : Array Value} {t : TypeId} (h : W.heap[R]? = some (.cells A t (0, 0))) (hA : A.toList = r.cf x) : W.rangeAt R 0 (r.cf x) := fun j u hj => by
 rw [Nat.zero_add, cell_of_row _ _ _ _ _ _ h, ← hj, ← hA]
 simp
/-- What Config gives. -/
def CfRes (tb k : Nat) (w w' : World) (v : Value) : Prop := ∃ (mv bv ov kv xv : Value) (l : List Mx) (C : Cf) (k' : Nat), v = .agg (cfV mv bv ov kv xv) ∧ CAt w.heap.size w' mv bv xv l C ∧ C.mods.Sublist allMd ∧ C.bl.length ≤ 2 ∧ C.ex.length ≤ 2 ∧ (∀ s ∈ C.bl, s.length ≤ 10) ∧ (∀ e ∈ C.ex, e.1.length ≤ 10 ∧ e.2.length ≤ 10) ∧ k' ≤ k + 40 ∧ Tp w' tb k' ∧ Kp [tb] w w' ∧ (∃ a n c, ov = .slice a n c) ∧ (∃ a n c, kv = .slice a n c)
def CfPost (tb k : Nat) (w : World) (e : Ending) (w' : World) : Prop := ∃ v, CfRes tb k w w' v ∧ e = .returned v
def nilS : Value := .slice none 0 0
theorem results_one_row {P : Program} {fn : Func} {p : Tmp} {ty : TypeId} (h : fn.results = #[.cell p ty]) (tmps : Array Value) (w : World) (g : Nat) (t : TypeId) (cs : Array Value) (fr : Nat × Nat) (d : TypeDesc)
  (hp : tmps.getD p undef = .pointer (some ⟨g, 0, none⟩)) (hg : w.heap[g]? = some (.cells cs t fr))
  (hu : P.underlying ty = some d) (hd : (match d with | .struct _ | .array _ _ => true | _ => false) = true) (hi : (P.info? ty).map (·.size) = some cs.size) :
  (results fn tmps).run P w = .ok (.agg cs) w := results_cell_row h tmps w g t cs fr d hp hg hu hd hi
theorem Ms.low {B C : Nat} {w : World} {v : Value} {l : List Mx} (h : Ms B w v l) (hC : C ≤ B) : Ms C w v l := ⟨h.has.low hC, fun x hx => ⟨(h.ok x hx).1, (h.ok x hx).2.low hC⟩⟩
theorem Tp.kp' {w w' : World} {tb k : Nat} {S : List Nat} (h : Tp w tb k) (hk : Kp S w w') (hs : ∀ x ∈ S, tb < x) : Tp w' tb k := h.kp hk hs
theorem sz_of {cs : Array Value} (h : (Tryd.prog.info? 31).map (·.size) = some cs.size) : (#[Value.slice none 0 0, .slice none 0 0, .slice none 0 0, .slice none 0 0, .slice none 0 0] : Array Value).size = cs.size := by
 rw [info31b] at h
 exact Option.some.inj h
theorem len_of {l : List Tx} (h : ∀ x ∈ l, x.length ≤ 10) {x : Tx} (hx : x ∈ l) : x.length ≤ 10 := h x hx
set_option maxHeartbeats 16000000 in
set_option maxRecDepth 100000 in
theorem config_any {w : World} {tb k : Nat} (hk : k ≤ 10000) (h : Tp w tb k) : Calls Tryd.prog 8 #[.pointer (some ⟨tb, 0, none⟩)] w (CfPost tb k w) := by
 obtain ⟨P2, hP2⟩ : ∃ B, w.heap.size = B := ⟨_, rfl⟩
 obtain ⟨Wa, hWa⟩ : ∃ W, w.alloc (.cells #[.slice none 0 0, .slice none 0 0, .slice none 0 0, .slice none 0 0, .slice none 0 0] 31) = W := ⟨_, rfl⟩
 have hka : Kp [] w Wa := by rw [← hWa]; exact (Kp.refl [] w).alloc _
 have hra := heap_alloc_last w (.cells #[.slice none 0 0, .slice none 0 0, .slice none 0 0, .slice none 0 0, .slice none 0 0] 31)
 rw [hWa, hP2] at hra
 have hsa : Wa.heap.size = P2 + 1 := by rw [← hWa, World.size_alloc, hP2]
 have HMd := Lib.hid (modules_any (by omega) (h.kp hka (by simp)))
 have htb := h.lt
 have HWa := Lib.hid hWa
 have HP2 := Lib.hid hP2
 have Hra := Lib.hid hra
 have Hka := Lib.hid hka
 have Hsa := Lib.hid hsa
 have HtB := Lib.hid (show tb < P2 by omega)
 unfold MdPost at HMd
 clear hP2 hWa hka hra hsa h htb
 go_enter Tryd.func8, Tryd.ntmps8
 go_upto_region 1 with fail
 rw [HWa.out, HP2.out]
 go_wp2_with fail
 refine Calls.mono (by with_reducible exact HMd.out) ?_
 rintro e Wm ⟨mv0, ⟨l, k1, hms, hsub, hk1, hT1, hkm⟩, rfl⟩
 rw [Hsa.out] at hms
 obtain ⟨ma, mc, rfl, _⟩ := hms.has.form
 obtain ⟨mn, hmn⟩ : ∃ n, l.length = n := ⟨_, rfl⟩
 rw [hmn] at hms ⊢
 obtain ⟨mv, hmv⟩ : ∃ u, Value.slice ma mn mc = u := ⟨_, rfl⟩
 obtain ⟨P, hP⟩ : ∃ B, Wm.heap.size = B := ⟨_, rfl⟩
 obtain ⟨Wb, hWb⟩ : ∃ W, Wm.alloc (.cells #[mv, .slice none 0 0, .slice none 0 0, .slice none 0 0, .slice none 0 0] 31) = W := ⟨_, rfl⟩
 have hkb : Kp [] Wm Wb := by rw [← hWb]; exact (Kp.refl [] Wm).alloc _
 have hrb := heap_alloc_last Wm (.cells #[mv, .slice none 0 0, .slice none 0 0, .slice none 0 0, .slice none 0 0] 31)
 rw [hWb, hP] at hrb
 have HMs := Lib.hid (show Ms (P2 + 1) Wm mv l from hmv ▸ hms)
 have Hsub := Lib.hid hsub
 have Hmv := Lib.hid hmv
 have Hmv2 := Lib.hid (show ∃ a n c, mv = .slice a n c from ⟨_, _, _, hmv.symm⟩)
 have Hkm := Lib.hid hkm
 have HPm := Lib.hid hP
 have HWb := Lib.hid hWb
 have Hbox1 := Lib.hid hrb
 have HT1 := Lib.hid (hT1.kp hkb (by simp))
 have Hq1 := Lib.hid hk1
 have HtP := Lib.hid (show tb < P from by have := hkm.size; have := Hsa.out; have := HtB.out; omega)
 obtain ⟨q1, hq1⟩ : ∃ q, k1 = q := ⟨_, rfl⟩
 rw [hq1] at Hq1 HT1
 obtain ⟨Wb1, hWb1⟩ : ∃ W, Wb = W := ⟨_, rfl⟩
 have HKc1 := Lib.hid (Kp.refl [tb, P] Wb)
 clear hP hWb hkb hrb hms hsub hkm hT1 hq1 hmv hmn
 go_upto_region 2 with (refine Gl.wpList_store_new _ 31 _ #[.slice ma mn mc, .slice none 0 0, .slice none 0 0, .slice none 0 0, .slice none 0 0] rfl _ _ rfl rfl rfl info31b rfl rfl ?_)
 rw [Hmv.out, HPm.out, HWb.out]
 rw [hWb1] at Hbox1 HT1 HKc1 HWb ⊢
 clear hWb1
 -- loop 1
 have HN := Lib.hid (show Calls Tryd.prog 15 #[.pointer (some ⟨tb, 0, none⟩), .int .i64 3] Wb1 (fun e w' => ∃ r : Nat, r < 3 ∧ e = .returned (.int .i64 r) ∧ Tp w' tb (q1 + 1) ∧ Kp [tb] Wb1 w') from next_kp 3 (by decide) (by decide) (by have := Hq1.out; omega) HT1.out)
 go_wp2_with fail
 refine Calls.mono (by with_reducible exact HN.out) ?_
 rintro e W1 ⟨r, hr, rfl, hT1, hk1⟩
 have hbx : W1.heap[P]? = some (.cells #[mv, .slice none 0 0, .slice none 0 0, .slice none 0 0, .slice none 0 0] 31 (0, 0)) := (hk1.block P (block_lt Hbox1.out) (by have := HtP.out; simp; omega)).trans Hbox1.out
 have Hst := Lib.hid (Bn.start (r := stT) hbx hT1 HtP.out)
 have HKm := Lib.hid (HKc1.out.trans (hk1.mono (by simp)))
 clear hbx hT1 hk1 HN HT1 Hbox1
 obtain ⟨Bm, hBm⟩ : ∃ b, W1.heap.size = b := ⟨_, rfl⟩
 have HBm := Lib.hid hBm
 rw [hBm] at Hst
 clear hBm
 go_wp2
 go_loopg [4] r (fun g s wx => ∃ (v : Value) (xs : List Tx) (q : Nat), s = .int .i64 (g : Int) ∧ xs.length + g ≤ 2 ∧ Hid (Bn stT W1 wx tb P Bm #[mv, v, .slice none 0 0, .slice none 0 0, .slice none 0 0] v xs q) ∧ Hid (∀ x ∈ xs, x.length ≤ 10) ∧ Hid (q + 1 * g ≤ q1 + 3))
 case atStart => exact ⟨_, [], q1 + 1, rfl, by simp; omega, Hst, Lib.hid (by simp), Lib.hid (by omega)⟩
 case round =>
  clear Hst
  obtain ⟨v, xs, q, rfl, hxl, HBn, hxs, hqq⟩ := hrel
  cases gk with
  | succ gk =>
   have hz : (0 : Int) < ((gk + 1 : Nat) : Int) := by omega
   have Hxn := Lib.hid hxl
   have Hq := Lib.hid (show q + 10 ≤ 1000000 from by have := hqq.out; have := Hq1.out; omega)
   have HtP2 := HtP
   go_wp2
   refine wp_region_held_drew (S := fun _ => True) (by kernel_rfl) True.intro (fun hHeld => ?_)
   have HB0 := Lib.hid (HBn.out.kp0 ((Kp.refl [] _).drew 1))
   have e9 : World.drewN wr 1 = World.drew wr := rfl
   rw [e9] at HB0
   generalize wr.drew = w0 at *
   clear e9
   refine wpAnyH_take (i := 0) (oi := ⟨some 17, .fieldAddr 31 (.tmp 3) 1, 0, "config.go:12", #[], none⟩) (v := .pointer (some ⟨P, 1, none⟩)) rfl (by kernel_rfl) (by kernel_rfl) (by kernel_rfl) (fun _ _ _ h => h) (Or.inl ⟨by rfl, fun w hSw => by (try dsimp only at hSw); go_simp⟩) hHeld ?_
   try simp only [Act.put, List.setIfInBounds_toArray, List.set_cons_zero, List.set_cons_succ]
   refine wpAnyH_take (i := 2) (oi := ⟨some 19, .move (.tmp 0), 24, "config.go:12", #[], none⟩) (v := .pointer (some ⟨tb, 0, none⟩)) rfl (by kernel_rfl) (by kernel_rfl) (by kernel_rfl) (fun _ _ _ h => h) (Or.inl ⟨by rfl, fun w hSw => by (try dsimp only at hSw); go_simp⟩) hHeld ?_
   try simp only [Act.put, List.setIfInBounds_toArray, List.set_cons_zero, List.set_cons_succ]
   refine wpAnyH_ready (rs := [1, 3]) (by kernel_rfl) (by simp) ?_
   refine AllReadyH.cons (o := ⟨some 18, .load 28 (.tmp 17), 28, "config.go:12", #[⟨0, .data⟩], none⟩) rfl (fun K hK => ?_) (AllReadyH.cons (o := ⟨some 20, .buildSlice 28 4 #[(0, .const (.string { data := #[104, 105, 100] })), (1, .const (.string { data := #[110, 105, 99] })), (2, .const (.string { data := #[111, 116, 104, 101, 114] })), (3, .const (.string { data := #[103, 111, 110, 101] }))], 28, "config.go:12", #[], none⟩) rfl (fun K hK => ?_) AllReadyH.nil)
   ·skip
    have e1 : w0.cell? ⟨P, 1, none⟩ = some v := HB0.out.cell 1
    go_simp
    clear e1
    have hS := True.intro
    clear hHeld
    refine hK.out _ _ hS (fun hHeld => ?_)
    try simp only [Act.put, List.setIfInBounds_toArray, List.set_cons_zero, List.set_cons_succ]
    clear hK
    refine wpAnyH_ready (rs := [3]) (by kernel_rfl) (by simp) ?_
    refine AllReadyH.cons (o := ⟨some 20, .buildSlice 28 4 #[(0, .const (.string { data := #[104, 105, 100] })), (1, .const (.string { data := #[110, 105, 99] })), (2, .const (.string { data := #[111, 116, 104, 101, 114] })), (3, .const (.string { data := #[103, 111, 110, 101] }))], 28, "config.go:12", #[], none⟩) rfl (fun K hK => ?_) AllReadyH.nil
    go_simp
    have hr1 := heap_alloc_last w0 (.cells #[.string ⟨#[104, 105, 100]⟩, .string ⟨#[110, 105, 99]⟩, .string ⟨#[111, 116, 104, 101, 114]⟩, .string ⟨#[103, 111, 110, 101]⟩] 9)
    have hk1 := (Kp.refl [] w0).alloc (.cells #[.string ⟨#[104, 105, 100]⟩, .string ⟨#[110, 105, 99]⟩, .string ⟨#[111, 116, 104, 101, 114]⟩, .string ⟨#[103, 111, 110, 101]⟩] 9)
    have HB1 := Lib.hid (HB0.out.kp0 hk1)
    obtain ⟨R1, hR1⟩ : ∃ R, w0.heap.size = R := ⟨_, rfl⟩
    generalize w0.alloc (.cells #[.string ⟨#[104, 105, 100]⟩, .string ⟨#[110, 105, 99]⟩, .string ⟨#[111, 116, 104, 101, 114]⟩, .string ⟨#[103, 111, 110, 101]⟩] 9) = w1 at *
    rw [hR1] at hr1 ⊢
    have HL1 := Lib.hid hr1
    have HR1 := Lib.hid hR1
    have HG1 := Lib.hid (show Bm ≤ R1 from by rw [← hR1]; exact HB0.out.szle)
    clear hr1 hk1 hR1 HB0
    have hS := True.intro
    clear hHeld
    refine hK.out _ _ hS (fun hHeld => ?_)
    try simp only [Act.put, List.setIfInBounds_toArray, List.set_cons_zero, List.set_cons_succ]
    clear hK
    refine wpAnyH_ready (rs := [4]) (by kernel_rfl) (by simp) ?_
    refine AllReadyH.cons (o := ⟨some 21, .call { callee := .value (.func 16), args := #[.tmp 19, .tmp 20], argTypes := #[24, 28] }, 9, "config.go:12", #[⟨2, .data⟩, ⟨3, .data⟩], none⟩) rfl (fun K hK => ?_) AllReadyH.nil
    have hcall := one_at [[104, 105, 100], [110, 105, 99], [111, 116, 104, 101, 114], [103, 111, 110, 101]] HB1.out HL1.out HG1.out (by have := Hq.out; omega) (by decide) (by decide)
    have HC := Lib.hid (show Calls Tryd.prog 16 #[.pointer (some ⟨tb, 0, none⟩), .slice (some ⟨R1, 0, none⟩) 4 4] w1 _ from hcall)
    clear hcall
    go_simp
    go_at_call 16
    refine Calls.mono (by with_reducible exact HC.out) ?_
    rintro e w2 ⟨x2, hx2, rfl, hB2, hk2⟩
    dsimp only
    have HB2 := Lib.hid hB2
    have HX2 := Lib.hid hx2
    clear hB2 hx2 hk2 HB1 HL1 HC
    have hS := True.intro
    clear hHeld
    refine hK.out _ _ hS (fun hHeld => ?_)
    try simp only [Act.put, List.setIfInBounds_toArray, List.set_cons_zero, List.set_cons_succ]
    clear hK
    refine wpAnyH_ready (rs := [5]) (by kernel_rfl) (by simp) ?_
    refine AllReadyH.cons (o := ⟨some 22, .buildSlice 28 1 #[(0, .tmp 21)], 28, "config.go:12", #[⟨4, .data⟩], none⟩) rfl (fun K hK => ?_) AllReadyH.nil
    go_simp
    have hr3 := heap_alloc_last w2 (.cells #[.string (bs x2)] 9)
    have hk3 := (Kp.refl [] w2).alloc (.cells #[.string (bs x2)] 9)
    have HB3 := Lib.hid (HB2.out.kp0 hk3)
    obtain ⟨R3, hR3⟩ : ∃ R, w2.heap.size = R := ⟨_, rfl⟩
    generalize w2.alloc (.cells #[.string (bs x2)] 9) = w3 at *
    rw [hR3] at hr3 ⊢
    have HM3 := Lib.hid hr3
    have HR3 := Lib.hid hR3
    have HG3 := Lib.hid (show Bm ≤ R3 from by rw [← hR3]; exact HB2.out.szle)
    clear hr3 hk3 hR3 HB2
    have hS := True.intro
    clear hHeld
    refine hK.out _ _ hS (fun hHeld => ?_)
    try simp only [Act.put, List.setIfInBounds_toArray, List.set_cons_zero, List.set_cons_succ]
    clear hK
    refine wpAnyH_ready (rs := [6]) (by kernel_rfl) (by simp) ?_
    refine AllReadyH.cons (o := ⟨some 23, .call { callee := .builtin .append, args := #[.tmp 18, .tmp 22], argTypes := #[28, 28] }, 28, "config.go:12", #[⟨1, .data⟩, ⟨5, .data⟩, ⟨4, .chain⟩], none⟩) rfl (fun K hK => ?_) AllReadyH.nil
    obtain ⟨v4, w4, hrun, how, hgr⟩ := run_append_r (r := stT) (c := 1) x2 28 HB3.out.own (row_cell HM3.out rfl) (by have := Hxn.out; omega) HB3.out.szle
    have HB4 := Lib.hid (HB3.out.app how hgr)
    have HR := Lib.hid hrun
    clear hrun how hgr
    refine step_append_run rfl 28 _ _ rfl _ _ _ rfl rfl HR.out ?_
    clear HR HB3
    obtain ⟨va, vc, hvf⟩ := HB4.out.own.form
    obtain ⟨ln, hln⟩ : ∃ m, (xs ++ [x2]).length = m := ⟨_, rfl⟩
    rw [hln] at hvf
    subst hvf
    clear hln
    have hS := True.intro
    clear hHeld
    refine hK.out _ _ hS (fun hHeld => ?_)
    try simp only [Act.put, List.setIfInBounds_toArray, List.set_cons_zero, List.set_cons_succ]
    clear hK
    refine wpAnyH_take (i := 7) (oi := ⟨some 24, .fieldAddr 31 (.tmp 3) 1, 0, "config.go:12", #[⟨0, .phase⟩, ⟨1, .phase⟩, ⟨2, .phase⟩, ⟨3, .phase⟩, ⟨4, .phase⟩, ⟨5, .phase⟩, ⟨6, .phase⟩], none⟩) (v := .pointer (some ⟨P, 1, none⟩)) rfl (by kernel_rfl) (by kernel_rfl) (by kernel_rfl) (fun _ _ _ h => h) (Or.inl ⟨by rfl, fun w hSw => by (try dsimp only at hSw); go_simp⟩) hHeld ?_
    try simp only [Act.put, List.setIfInBounds_toArray, List.set_cons_zero, List.set_cons_succ]
    refine wpAnyH_ready (rs := [8]) (by kernel_rfl) (by simp) ?_
    refine AllReadyH.cons (o := ⟨none, .store 28 (.tmp 24) (.tmp 23), 0, "config.go:12", #[⟨7, .data⟩, ⟨6, .data⟩, ⟨6, .chain⟩, ⟨0, .phase⟩, ⟨1, .phase⟩, ⟨2, .phase⟩, ⟨3, .phase⟩, ⟨4, .phase⟩, ⟨5, .phase⟩, ⟨6, .phase⟩], none⟩) rfl (fun K hK => ?_) AllReadyH.nil
    have e1 : w4.cell? ⟨P, 1, none⟩ = some v := HB4.out.cell 1
    have e2 := HB4.out.frz
    have HB5 := Lib.hid (HB4.out.put 1 (.slice va ln vc))
    go_simp
    clear e1 e2
    generalize w4.setCell ⟨P, 1, none⟩ (.slice va ln vc) = w5 at *
    have hS := True.intro
    clear hHeld
    refine hK.out _ _ hS (fun hHeld => ?_)
    try simp only [Act.put, List.setIfInBounds_toArray, List.set_cons_zero, List.set_cons_succ]
    clear hK
    refine wpAnyH_done (by kernel_rfl) ?_ _
    clear hHeld
    go_wp2
    go_roundg gk
    case measure => omega
    case rel => exact ⟨(.slice va ln vc), xs ++ [x2], q + 1, by go_num, by have := Hxn.out; rw [List.length_append, List.length_singleton]; omega, Lib.hid HB5.out, Lib.hid (fun x hx => by rcases List.mem_append.1 hx with h | h; exact hxs.out x h; rw [List.mem_singleton.1 h]; exact len_of (by decide) HX2.out), Lib.hid (by have := hqq.out; omega)⟩
   ·skip
    go_simp
    have hr1 := heap_alloc_last w0 (.cells #[.string ⟨#[104, 105, 100]⟩, .string ⟨#[110, 105, 99]⟩, .string ⟨#[111, 116, 104, 101, 114]⟩, .string ⟨#[103, 111, 110, 101]⟩] 9)
    have hk1 := (Kp.refl [] w0).alloc (.cells #[.string ⟨#[104, 105, 100]⟩, .string ⟨#[110, 105, 99]⟩, .string ⟨#[111, 116, 104, 101, 114]⟩, .string ⟨#[103, 111, 110, 101]⟩] 9)
    have HB1 := Lib.hid (HB0.out.kp0 hk1)
    obtain ⟨R1, hR1⟩ : ∃ R, w0.heap.size = R := ⟨_, rfl⟩
    generalize w0.alloc (.cells #[.string ⟨#[104, 105, 100]⟩, .string ⟨#[110, 105, 99]⟩, .string ⟨#[111, 116, 104, 101, 114]⟩, .string ⟨#[103, 111, 110, 101]⟩] 9) = w1 at *
    rw [hR1] at hr1 ⊢
    have HL1 := Lib.hid hr1
    have HR1 := Lib.hid hR1
    have HG1 := Lib.hid (show Bm ≤ R1 from by rw [← hR1]; exact HB0.out.szle)
    clear hr1 hk1 hR1 HB0
    have hS := True.intro
    clear hHeld
    refine hK.out _ _ hS (fun hHeld => ?_)
    try simp only [Act.put, List.setIfInBounds_toArray, List.set_cons_zero, List.set_cons_succ]
    clear hK
    refine wpAnyH_ready (rs := [1, 4]) (by kernel_rfl) (by simp) ?_
    refine AllReadyH.cons (o := ⟨some 18, .load 28 (.tmp 17), 28, "config.go:12", #[⟨0, .data⟩], none⟩) rfl (fun K hK => ?_) (AllReadyH.cons (o := ⟨some 21, .call { callee := .value (.func 16), args := #[.tmp 19, .tmp 20], argTypes := #[24, 28] }, 9, "config.go:12", #[⟨2, .data⟩, ⟨3, .data⟩], none⟩) rfl (fun K hK => ?_) AllReadyH.nil)
    ·skip
     have e1 : w1.cell? ⟨P, 1, none⟩ = some v := HB1.out.cell 1
     go_simp
     clear e1
     have hS := True.intro
     clear hHeld
     refine hK.out _ _ hS (fun hHeld => ?_)
     try simp only [Act.put, List.setIfInBounds_toArray, List.set_cons_zero, List.set_cons_succ]
     clear hK
     refine wpAnyH_ready (rs := [4]) (by kernel_rfl) (by simp) ?_
     refine AllReadyH.cons (o := ⟨some 21, .call { callee := .value (.func 16), args := #[.tmp 19, .tmp 20], argTypes := #[24, 28] }, 9, "config.go:12", #[⟨2, .data⟩, ⟨3, .data⟩], none⟩) rfl (fun K hK => ?_) AllReadyH.nil
     have hcall := one_at [[104, 105, 100], [110, 105, 99], [111, 116, 104, 101, 114], [103, 111, 110, 101]] HB1.out HL1.out HG1.out (by have := Hq.out; omega) (by decide) (by decide)
     have HC := Lib.hid (show Calls Tryd.prog 16 #[.pointer (some ⟨tb, 0, none⟩), .slice (some ⟨R1, 0, none⟩) 4 4] w1 _ from hcall)
     clear hcall
     go_simp
     go_at_call 16
     refine Calls.mono (by with_reducible exact HC.out) ?_
     rintro e w2 ⟨x2, hx2, rfl, hB2, hk2⟩
     dsimp only
     have HB2 := Lib.hid hB2
     have HX2 := Lib.hid hx2
     clear hB2 hx2 hk2 HB1 HL1 HC
     have hS := True.intro
     clear hHeld
     refine hK.out _ _ hS (fun hHeld => ?_)
     try simp only [Act.put, List.setIfInBounds_toArray, List.set_cons_zero, List.set_cons_succ]
     clear hK
     refine wpAnyH_ready (rs := [5]) (by kernel_rfl) (by simp) ?_
     refine AllReadyH.cons (o := ⟨some 22, .buildSlice 28 1 #[(0, .tmp 21)], 28, "config.go:12", #[⟨4, .data⟩], none⟩) rfl (fun K hK => ?_) AllReadyH.nil
     go_simp
     have hr3 := heap_alloc_last w2 (.cells #[.string (bs x2)] 9)
     have hk3 := (Kp.refl [] w2).alloc (.cells #[.string (bs x2)] 9)
     have HB3 := Lib.hid (HB2.out.kp0 hk3)
     obtain ⟨R3, hR3⟩ : ∃ R, w2.heap.size = R := ⟨_, rfl⟩
     generalize w2.alloc (.cells #[.string (bs x2)] 9) = w3 at *
     rw [hR3] at hr3 ⊢
     have HM3 := Lib.hid hr3
     have HR3 := Lib.hid hR3
     have HG3 := Lib.hid (show Bm ≤ R3 from by rw [← hR3]; exact HB2.out.szle)
     clear hr3 hk3 hR3 HB2
     have hS := True.intro
     clear hHeld
     refine hK.out _ _ hS (fun hHeld => ?_)
     try simp only [Act.put, List.setIfInBounds_toArray, List.set_cons_zero, List.set_cons_succ]
     clear hK
     refine wpAnyH_ready (rs := [6]) (by kernel_rfl) (by simp) ?_
     refine AllReadyH.cons (o := ⟨some 23, .call { callee := .builtin .append, args := #[.tmp 18, .tmp 22], argTypes := #[28, 28] }, 28, "config.go:12", #[⟨1, .data⟩, ⟨5, .data⟩, ⟨4, .chain⟩], none⟩) rfl (fun K hK => ?_) AllReadyH.nil
     obtain ⟨v4, w4, hrun, how, hgr⟩ := run_append_r (r := stT) (c := 1) x2 28 HB3.out.own (row_cell HM3.out rfl) (by have := Hxn.out; omega) HB3.out.szle
     have HB4 := Lib.hid (HB3.out.app how hgr)
     have HR := Lib.hid hrun
     clear hrun how hgr
     refine step_append_run rfl 28 _ _ rfl _ _ _ rfl rfl HR.out ?_
     clear HR HB3
     obtain ⟨va, vc, hvf⟩ := HB4.out.own.form
     obtain ⟨ln, hln⟩ : ∃ m, (xs ++ [x2]).length = m := ⟨_, rfl⟩
     rw [hln] at hvf
     subst hvf
     clear hln
     have hS := True.intro
     clear hHeld
     refine hK.out _ _ hS (fun hHeld => ?_)
     try simp only [Act.put, List.setIfInBounds_toArray, List.set_cons_zero, List.set_cons_succ]
     clear hK
     refine wpAnyH_take (i := 7) (oi := ⟨some 24, .fieldAddr 31 (.tmp 3) 1, 0, "config.go:12", #[⟨0, .phase⟩, ⟨1, .phase⟩, ⟨2, .phase⟩, ⟨3, .phase⟩, ⟨4, .phase⟩, ⟨5, .phase⟩, ⟨6, .phase⟩], none⟩) (v := .pointer (some ⟨P, 1, none⟩)) rfl (by kernel_rfl) (by kernel_rfl) (by kernel_rfl) (fun _ _ _ h => h) (Or.inl ⟨by rfl, fun w hSw => by (try dsimp only at hSw); go_simp⟩) hHeld ?_
     try simp only [Act.put, List.setIfInBounds_toArray, List.set_cons_zero, List.set_cons_succ]
     refine wpAnyH_ready (rs := [8]) (by kernel_rfl) (by simp) ?_
     refine AllReadyH.cons (o := ⟨none, .store 28 (.tmp 24) (.tmp 23), 0, "config.go:12", #[⟨7, .data⟩, ⟨6, .data⟩, ⟨6, .chain⟩, ⟨0, .phase⟩, ⟨1, .phase⟩, ⟨2, .phase⟩, ⟨3, .phase⟩, ⟨4, .phase⟩, ⟨5, .phase⟩, ⟨6, .phase⟩], none⟩) rfl (fun K hK => ?_) AllReadyH.nil
     have e1 : w4.cell? ⟨P, 1, none⟩ = some v := HB4.out.cell 1
     have e2 := HB4.out.frz
     have HB5 := Lib.hid (HB4.out.put 1 (.slice va ln vc))
     go_simp
     clear e1 e2
     generalize w4.setCell ⟨P, 1, none⟩ (.slice va ln vc) = w5 at *
     have hS := True.intro
     clear hHeld
     refine hK.out _ _ hS (fun hHeld => ?_)
     try simp only [Act.put, List.setIfInBounds_toArray, List.set_cons_zero, List.set_cons_succ]
     clear hK
     refine wpAnyH_done (by kernel_rfl) ?_ _
     clear hHeld
     go_wp2
     go_roundg gk
     case measure => omega
     case rel => exact ⟨(.slice va ln vc), xs ++ [x2], q + 1, by go_num, by have := Hxn.out; rw [List.length_append, List.length_singleton]; omega, Lib.hid HB5.out, Lib.hid (fun x hx => by rcases List.mem_append.1 hx with h | h; exact hxs.out x h; rw [List.mem_singleton.1 h]; exact len_of (by decide) HX2.out), Lib.hid (by have := hqq.out; omega)⟩
    ·skip
     have hcall := one_at [[104, 105, 100], [110, 105, 99], [111, 116, 104, 101, 114], [103, 111, 110, 101]] HB1.out HL1.out HG1.out (by have := Hq.out; omega) (by decide) (by decide)
     have HC := Lib.hid (show Calls Tryd.prog 16 #[.pointer (some ⟨tb, 0, none⟩), .slice (some ⟨R1, 0, none⟩) 4 4] w1 _ from hcall)
     clear hcall
     go_simp
     go_at_call 16
     refine Calls.mono (by with_reducible exact HC.out) ?_
     rintro e w2 ⟨x2, hx2, rfl, hB2, hk2⟩
     dsimp only
     have HB2 := Lib.hid hB2
     have HX2 := Lib.hid hx2
     clear hB2 hx2 hk2 HB1 HL1 HC
     have hS := True.intro
     clear hHeld
     refine hK.out _ _ hS (fun hHeld => ?_)
     try simp only [Act.put, List.setIfInBounds_toArray, List.set_cons_zero, List.set_cons_succ]
     clear hK
     refine wpAnyH_ready (rs := [1, 5]) (by kernel_rfl) (by simp) ?_
     refine AllReadyH.cons (o := ⟨some 18, .load 28 (.tmp 17), 28, "config.go:12", #[⟨0, .data⟩], none⟩) rfl (fun K hK => ?_) (AllReadyH.cons (o := ⟨some 22, .buildSlice 28 1 #[(0, .tmp 21)], 28, "config.go:12", #[⟨4, .data⟩], none⟩) rfl (fun K hK => ?_) AllReadyH.nil)
     ·skip
      have e1 : w2.cell? ⟨P, 1, none⟩ = some v := HB2.out.cell 1
      go_simp
      clear e1
      have hS := True.intro
      clear hHeld
      refine hK.out _ _ hS (fun hHeld => ?_)
      try simp only [Act.put, List.setIfInBounds_toArray, List.set_cons_zero, List.set_cons_succ]
      clear hK
      refine wpAnyH_ready (rs := [5]) (by kernel_rfl) (by simp) ?_
      refine AllReadyH.cons (o := ⟨some 22, .buildSlice 28 1 #[(0, .tmp 21)], 28, "config.go:12", #[⟨4, .data⟩], none⟩) rfl (fun K hK => ?_) AllReadyH.nil
      go_simp
      have hr3 := heap_alloc_last w2 (.cells #[.string (bs x2)] 9)
      have hk3 := (Kp.refl [] w2).alloc (.cells #[.string (bs x2)] 9)
      have HB3 := Lib.hid (HB2.out.kp0 hk3)
      obtain ⟨R3, hR3⟩ : ∃ R, w2.heap.size = R := ⟨_, rfl⟩
      generalize w2.alloc (.cells #[.string (bs x2)] 9) = w3 at *
      rw [hR3] at hr3 ⊢
      have HM3 := Lib.hid hr3
      have HR3 := Lib.hid hR3
      have HG3 := Lib.hid (show Bm ≤ R3 from by rw [← hR3]; exact HB2.out.szle)
      clear hr3 hk3 hR3 HB2
      have hS := True.intro
      clear hHeld
      refine hK.out _ _ hS (fun hHeld => ?_)
      try simp only [Act.put, List.setIfInBounds_toArray, List.set_cons_zero, List.set_cons_succ]
      clear hK
      refine wpAnyH_ready (rs := [6]) (by kernel_rfl) (by simp) ?_
      refine AllReadyH.cons (o := ⟨some 23, .call { callee := .builtin .append, args := #[.tmp 18, .tmp 22], argTypes := #[28, 28] }, 28, "config.go:12", #[⟨1, .data⟩, ⟨5, .data⟩, ⟨4, .chain⟩], none⟩) rfl (fun K hK => ?_) AllReadyH.nil
      obtain ⟨v4, w4, hrun, how, hgr⟩ := run_append_r (r := stT) (c := 1) x2 28 HB3.out.own (row_cell HM3.out rfl) (by have := Hxn.out; omega) HB3.out.szle
      have HB4 := Lib.hid (HB3.out.app how hgr)
      have HR := Lib.hid hrun
      clear hrun how hgr
      refine step_append_run rfl 28 _ _ rfl _ _ _ rfl rfl HR.out ?_
      clear HR HB3
      obtain ⟨va, vc, hvf⟩ := HB4.out.own.form
      obtain ⟨ln, hln⟩ : ∃ m, (xs ++ [x2]).length = m := ⟨_, rfl⟩
      rw [hln] at hvf
      subst hvf
      clear hln
      have hS := True.intro
      clear hHeld
      refine hK.out _ _ hS (fun hHeld => ?_)
      try simp only [Act.put, List.setIfInBounds_toArray, List.set_cons_zero, List.set_cons_succ]
      clear hK
      refine wpAnyH_take (i := 7) (oi := ⟨some 24, .fieldAddr 31 (.tmp 3) 1, 0, "config.go:12", #[⟨0, .phase⟩, ⟨1, .phase⟩, ⟨2, .phase⟩, ⟨3, .phase⟩, ⟨4, .phase⟩, ⟨5, .phase⟩, ⟨6, .phase⟩], none⟩) (v := .pointer (some ⟨P, 1, none⟩)) rfl (by kernel_rfl) (by kernel_rfl) (by kernel_rfl) (fun _ _ _ h => h) (Or.inl ⟨by rfl, fun w hSw => by (try dsimp only at hSw); go_simp⟩) hHeld ?_
      try simp only [Act.put, List.setIfInBounds_toArray, List.set_cons_zero, List.set_cons_succ]
      refine wpAnyH_ready (rs := [8]) (by kernel_rfl) (by simp) ?_
      refine AllReadyH.cons (o := ⟨none, .store 28 (.tmp 24) (.tmp 23), 0, "config.go:12", #[⟨7, .data⟩, ⟨6, .data⟩, ⟨6, .chain⟩, ⟨0, .phase⟩, ⟨1, .phase⟩, ⟨2, .phase⟩, ⟨3, .phase⟩, ⟨4, .phase⟩, ⟨5, .phase⟩, ⟨6, .phase⟩], none⟩) rfl (fun K hK => ?_) AllReadyH.nil
      have e1 : w4.cell? ⟨P, 1, none⟩ = some v := HB4.out.cell 1
      have e2 := HB4.out.frz
      have HB5 := Lib.hid (HB4.out.put 1 (.slice va ln vc))
      go_simp
      clear e1 e2
      generalize w4.setCell ⟨P, 1, none⟩ (.slice va ln vc) = w5 at *
      have hS := True.intro
      clear hHeld
      refine hK.out _ _ hS (fun hHeld => ?_)
      try simp only [Act.put, List.setIfInBounds_toArray, List.set_cons_zero, List.set_cons_succ]
      clear hK
      refine wpAnyH_done (by kernel_rfl) ?_ _
      clear hHeld
      go_wp2
      go_roundg gk
      case measure => omega
      case rel => exact ⟨(.slice va ln vc), xs ++ [x2], q + 1, by go_num, by have := Hxn.out; rw [List.length_append, List.length_singleton]; omega, Lib.hid HB5.out, Lib.hid (fun x hx => by rcases List.mem_append.1 hx with h | h; exact hxs.out x h; rw [List.mem_singleton.1 h]; exact len_of (by decide) HX2.out), Lib.hid (by have := hqq.out; omega)⟩
     ·skip
      go_simp
      have hr3 := heap_alloc_last w2 (.cells #[.string (bs x2)] 9)
      have hk3 := (Kp.refl [] w2).alloc (.cells #[.string (bs x2)] 9)
      have HB3 := Lib.hid (HB2.out.kp0 hk3)
      obtain ⟨R3, hR3⟩ : ∃ R, w2.heap.size = R := ⟨_, rfl⟩
      generalize w2.alloc (.cells #[.string (bs x2)] 9) = w3 at *
      rw [hR3] at hr3 ⊢
      have HM3 := Lib.hid hr3
      have HR3 := Lib.hid hR3
      have HG3 := Lib.hid (show Bm ≤ R3 from by rw [← hR3]; exact HB2.out.szle)
      clear hr3 hk3 hR3 HB2
      have hS := True.intro
      clear hHeld
      refine hK.out _ _ hS (fun hHeld => ?_)
      try simp only [Act.put, List.setIfInBounds_toArray, List.set_cons_zero, List.set_cons_succ]
      clear hK
      refine wpAnyH_ready (rs := [1]) (by kernel_rfl) (by simp) ?_
      refine AllReadyH.cons (o := ⟨some 18, .load 28 (.tmp 17), 28, "config.go:12", #[⟨0, .data⟩], none⟩) rfl (fun K hK => ?_) AllReadyH.nil
      have e1 : w3.cell? ⟨P, 1, none⟩ = some v := HB3.out.cell 1
      go_simp
      clear e1
      have hS := True.intro
      clear hHeld
      refine hK.out _ _ hS (fun hHeld => ?_)
      try simp only [Act.put, List.setIfInBounds_toArray, List.set_cons_zero, List.set_cons_succ]
      clear hK
      refine wpAnyH_ready (rs := [6]) (by kernel_rfl) (by simp) ?_
      refine AllReadyH.cons (o := ⟨some 23, .call { callee := .builtin .append, args := #[.tmp 18, .tmp 22], argTypes := #[28, 28] }, 28, "config.go:12", #[⟨1, .data⟩, ⟨5, .data⟩, ⟨4, .chain⟩], none⟩) rfl (fun K hK => ?_) AllReadyH.nil
      obtain ⟨v4, w4, hrun, how, hgr⟩ := run_append_r (r := stT) (c := 1) x2 28 HB3.out.own (row_cell HM3.out rfl) (by have := Hxn.out; omega) HB3.out.szle
      have HB4 := Lib.hid (HB3.out.app how hgr)
      have HR := Lib.hid hrun
      clear hrun how hgr
      refine step_append_run rfl 28 _ _ rfl _ _ _ rfl rfl HR.out ?_
      clear HR HB3
      obtain ⟨va, vc, hvf⟩ := HB4.out.own.form
      obtain ⟨ln, hln⟩ : ∃ m, (xs ++ [x2]).length = m := ⟨_, rfl⟩
      rw [hln] at hvf
      subst hvf
      clear hln
      have hS := True.intro
      clear hHeld
      refine hK.out _ _ hS (fun hHeld => ?_)
      try simp only [Act.put, List.setIfInBounds_toArray, List.set_cons_zero, List.set_cons_succ]
      clear hK
      refine wpAnyH_take (i := 7) (oi := ⟨some 24, .fieldAddr 31 (.tmp 3) 1, 0, "config.go:12", #[⟨0, .phase⟩, ⟨1, .phase⟩, ⟨2, .phase⟩, ⟨3, .phase⟩, ⟨4, .phase⟩, ⟨5, .phase⟩, ⟨6, .phase⟩], none⟩) (v := .pointer (some ⟨P, 1, none⟩)) rfl (by kernel_rfl) (by kernel_rfl) (by kernel_rfl) (fun _ _ _ h => h) (Or.inl ⟨by rfl, fun w hSw => by (try dsimp only at hSw); go_simp⟩) hHeld ?_
      try simp only [Act.put, List.setIfInBounds_toArray, List.set_cons_zero, List.set_cons_succ]
      refine wpAnyH_ready (rs := [8]) (by kernel_rfl) (by simp) ?_
      refine AllReadyH.cons (o := ⟨none, .store 28 (.tmp 24) (.tmp 23), 0, "config.go:12", #[⟨7, .data⟩, ⟨6, .data⟩, ⟨6, .chain⟩, ⟨0, .phase⟩, ⟨1, .phase⟩, ⟨2, .phase⟩, ⟨3, .phase⟩, ⟨4, .phase⟩, ⟨5, .phase⟩, ⟨6, .phase⟩], none⟩) rfl (fun K hK => ?_) AllReadyH.nil
      have e1 : w4.cell? ⟨P, 1, none⟩ = some v := HB4.out.cell 1
      have e2 := HB4.out.frz
      have HB5 := Lib.hid (HB4.out.put 1 (.slice va ln vc))
      go_simp
      clear e1 e2
      generalize w4.setCell ⟨P, 1, none⟩ (.slice va ln vc) = w5 at *
      have hS := True.intro
      clear hHeld
      refine hK.out _ _ hS (fun hHeld => ?_)
      try simp only [Act.put, List.setIfInBounds_toArray, List.set_cons_zero, List.set_cons_succ]
      clear hK
      refine wpAnyH_done (by kernel_rfl) ?_ _
      clear hHeld
      go_wp2
      go_roundg gk
      case measure => omega
      case rel => exact ⟨(.slice va ln vc), xs ++ [x2], q + 1, by go_num, by have := Hxn.out; rw [List.length_append, List.length_singleton]; omega, Lib.hid HB5.out, Lib.hid (fun x hx => by rcases List.mem_append.1 hx with h | h; exact hxs.out x h; rw [List.mem_singleton.1 h]; exact len_of (by decide) HX2.out), Lib.hid (by have := hqq.out; omega)⟩
  | zero =>
   have hz : ¬ ((0 : Int) < ((0 : Nat) : Int)) := by omega
   obtain ⟨a1, c1, hv1⟩ := HBn.out.own.form
   obtain ⟨v1v, hvv⟩ : ∃ u, v = u := ⟨_, rfl⟩
   rw [hvv] at HBn hv1
   clear hvv
   obtain ⟨xs1, hxx⟩ : ∃ u, xs = u := ⟨_, rfl⟩
   rw [hxx] at HBn hxs hxl hv1
   clear hxx
   have HOw1 := Lib.hid HBn.out.own
   have Hxs1 := hxs
   have Hxl1 := Lib.hid hxl
   have Hsl1 := Lib.hid (show ∃ a n c, v1v = .slice a n c from ⟨_, _, _, hv1⟩)
   have HB11 := Lib.hid (show P < Bm from HBn.out.PB)
   obtain ⟨B1m, hBB⟩ : ∃ b, Bm = b := ⟨_, rfl⟩
   rw [hBB] at HOw1 HB11
   clear hBB
   have Hbox2 := Lib.hid HBn.out.box
   have HT2 := Lib.hid HBn.out.T
   have Hq2 := Lib.hid (show q ≤ k + 11 from by have := hqq.out; have := Hq1.out; omega)
   have HKc2 := Lib.hid (HKm.out.trans HBn.out.K)
   obtain ⟨q2, hqe⟩ : ∃ u, q = u := ⟨_, rfl⟩
   rw [hqe] at HT2 Hq2
   clear hqe HBn hxs hxl hqq hv1
   -- loop 2
   have HN := Lib.hid (show Calls Tryd.prog 15 #[.pointer (some ⟨tb, 0, none⟩), .int .i64 2] wr (fun e w' => ∃ r : Nat, r < 2 ∧ e = .returned (.int .i64 r) ∧ Tp w' tb (q2 + 1) ∧ Kp [tb] wr w') from next_kp 2 (by decide) (by decide) (by have := Hq2.out; omega) HT2.out)
   go_wp2_with fail
   refine Calls.mono (by with_reducible exact HN.out) ?_
   rintro e W1 ⟨r, hr, rfl, hT1, hk1⟩
   have hbx : W1.heap[P]? = some (.cells #[mv, v1v, .slice none 0 0, .slice none 0 0, .slice none 0 0] 31 (0, 0)) := (hk1.block P (block_lt Hbox2.out) (by have := HtP.out; simp; omega)).trans Hbox2.out
   have Hst := Lib.hid (Bn.start (r := stT) hbx hT1 HtP.out)
   have HKm := Lib.hid (HKc2.out.trans (hk1.mono (by simp)))
   have HOw1 := Lib.hid (HOw1.out.kp hk1 (fun b hb hm => by have := (HOw1.out.ge b hb).1; have := HtP.out; have := HB11.out; simp at hm; omega))
   clear hbx hT1 hk1 HN HT2 Hbox2
   obtain ⟨Bm, hBm⟩ : ∃ b, W1.heap.size = b := ⟨_, rfl⟩
   have HBm := Lib.hid hBm
   rw [hBm] at Hst
   clear hBm
   go_wp2
   go_loopg [5] r (fun g s wx => ∃ (v : Value) (xs : List Tx) (q : Nat), s = .int .i64 (g : Int) ∧ xs.length + g ≤ 1 ∧ Hid (Bn stT W1 wx tb P Bm #[mv, v1v, v, .slice none 0 0, .slice none 0 0] v xs q) ∧ Hid (∀ x ∈ xs, x.length ≤ 10) ∧ Hid (q + 1 * g ≤ q2 + 2))
   case atStart => exact ⟨_, [], q2 + 1, rfl, by simp; omega, Hst, Lib.hid (by simp), Lib.hid (by omega)⟩
   case round =>
    clear Hst
    obtain ⟨v, xs, q, rfl, hxl, HBn, hxs, hqq⟩ := hrel
    cases gk with
    | succ gk =>
     have hz : (0 : Int) < ((gk + 1 : Nat) : Int) := by omega
     have Hxn := Lib.hid hxl
     have Hq := Lib.hid (show q + 10 ≤ 1000000 from by have := hqq.out; have := Hq2.out; omega)
     have HtP2 := HtP
     go_wp2
     refine wp_region_held_drew (S := fun _ => True) (by kernel_rfl) True.intro (fun hHeld => ?_)
     have HB0 := Lib.hid (HBn.out.kp0 ((Kp.refl [] _).drew 1))
     have e9 : World.drewN wr 1 = World.drew wr := rfl
     rw [e9] at HB0
     generalize wr.drew = w0 at *
     clear e9
     refine wpAnyH_take (i := 0) (oi := ⟨some 31, .fieldAddr 31 (.tmp 3) 2, 0, "config.go:15", #[], none⟩) (v := .pointer (some ⟨P, 2, none⟩)) rfl (by kernel_rfl) (by kernel_rfl) (by kernel_rfl) (fun _ _ _ h => h) (Or.inl ⟨by rfl, fun w hSw => by (try dsimp only at hSw); go_simp⟩) hHeld ?_
     try simp only [Act.put, List.setIfInBounds_toArray, List.set_cons_zero, List.set_cons_succ]
     refine wpAnyH_take (i := 2) (oi := ⟨some 33, .move (.tmp 0), 24, "config.go:15", #[], none⟩) (v := .pointer (some ⟨tb, 0, none⟩)) rfl (by kernel_rfl) (by kernel_rfl) (by kernel_rfl) (fun _ _ _ h => h) (Or.inl ⟨by rfl, fun w hSw => by (try dsimp only at hSw); go_simp⟩) hHeld ?_
     try simp only [Act.put, List.setIfInBounds_toArray, List.set_cons_zero, List.set_cons_succ]
     refine wpAnyH_ready (rs := [1, 3]) (by kernel_rfl) (by simp) ?_
     refine AllReadyH.cons (o := ⟨some 32, .load 28 (.tmp 31), 28, "config.go:15", #[⟨0, .data⟩], none⟩) rfl (fun K hK => ?_) (AllReadyH.cons (o := ⟨some 34, .buildSlice 28 4 #[(0, .const (.string { data := #[99, 111, 114, 101] })), (1, .const (.string { data := #[101, 120, 116, 114, 97] })), (2, .const (.string { data := #[104, 105, 100] })), (3, .const (.string { data := #[103, 111, 110, 101] }))], 28, "config.go:15", #[], none⟩) rfl (fun K hK => ?_) AllReadyH.nil)
     ·skip
      have e1 : w0.cell? ⟨P, 2, none⟩ = some v := HB0.out.cell 2
      go_simp
      clear e1
      have hS := True.intro
      clear hHeld
      refine hK.out _ _ hS (fun hHeld => ?_)
      try simp only [Act.put, List.setIfInBounds_toArray, List.set_cons_zero, List.set_cons_succ]
      clear hK
      refine wpAnyH_ready (rs := [3]) (by kernel_rfl) (by simp) ?_
      refine AllReadyH.cons (o := ⟨some 34, .buildSlice 28 4 #[(0, .const (.string { data := #[99, 111, 114, 101] })), (1, .const (.string { data := #[101, 120, 116, 114, 97] })), (2, .const (.string { data := #[104, 105, 100] })), (3, .const (.string { data := #[103, 111, 110, 101] }))], 28, "config.go:15", #[], none⟩) rfl (fun K hK => ?_) AllReadyH.nil
      go_simp
      have hr1 := heap_alloc_last w0 (.cells #[.string ⟨#[99, 111, 114, 101]⟩, .string ⟨#[101, 120, 116, 114, 97]⟩, .string ⟨#[104, 105, 100]⟩, .string ⟨#[103, 111, 110, 101]⟩] 9)
      have hk1 := (Kp.refl [] w0).alloc (.cells #[.string ⟨#[99, 111, 114, 101]⟩, .string ⟨#[101, 120, 116, 114, 97]⟩, .string ⟨#[104, 105, 100]⟩, .string ⟨#[103, 111, 110, 101]⟩] 9)
      have HB1 := Lib.hid (HB0.out.kp0 hk1)
      obtain ⟨R1, hR1⟩ : ∃ R, w0.heap.size = R := ⟨_, rfl⟩
      generalize w0.alloc (.cells #[.string ⟨#[99, 111, 114, 101]⟩, .string ⟨#[101, 120, 116, 114, 97]⟩, .string ⟨#[104, 105, 100]⟩, .string ⟨#[103, 111, 110, 101]⟩] 9) = w1 at *
      rw [hR1] at hr1 ⊢
      have HL1 := Lib.hid hr1
      have HR1 := Lib.hid hR1
      have HG1 := Lib.hid (show Bm ≤ R1 from by rw [← hR1]; exact HB0.out.szle)
      clear hr1 hk1 hR1 HB0
      have hS := True.intro
      clear hHeld
      refine hK.out _ _ hS (fun hHeld => ?_)
      try simp only [Act.put, List.setIfInBounds_toArray, List.set_cons_zero, List.set_cons_succ]
      clear hK
      refine wpAnyH_ready (rs := [4]) (by kernel_rfl) (by simp) ?_
      refine AllReadyH.cons (o := ⟨some 35, .call { callee := .value (.func 16), args := #[.tmp 33, .tmp 34], argTypes := #[24, 28] }, 9, "config.go:15", #[⟨2, .data⟩, ⟨3, .data⟩], none⟩) rfl (fun K hK => ?_) AllReadyH.nil
      have hcall := one_at [[99, 111, 114, 101], [101, 120, 116, 114, 97], [104, 105, 100], [103, 111, 110, 101]] HB1.out HL1.out HG1.out (by have := Hq.out; omega) (by decide) (by decide)
      have HC := Lib.hid (show Calls Tryd.prog 16 #[.pointer (some ⟨tb, 0, none⟩), .slice (some ⟨R1, 0, none⟩) 4 4] w1 _ from hcall)
      clear hcall
      go_simp
      go_at_call 16
      refine Calls.mono (by with_reducible exact HC.out) ?_
      rintro e w2 ⟨x2, hx2, rfl, hB2, hk2⟩
      dsimp only
      have HB2 := Lib.hid hB2
      have HX2 := Lib.hid hx2
      clear hB2 hx2 hk2 HB1 HL1 HC
      have hS := True.intro
      clear hHeld
      refine hK.out _ _ hS (fun hHeld => ?_)
      try simp only [Act.put, List.setIfInBounds_toArray, List.set_cons_zero, List.set_cons_succ]
      clear hK
      refine wpAnyH_ready (rs := [5]) (by kernel_rfl) (by simp) ?_
      refine AllReadyH.cons (o := ⟨some 36, .buildSlice 28 1 #[(0, .tmp 35)], 28, "config.go:15", #[⟨4, .data⟩], none⟩) rfl (fun K hK => ?_) AllReadyH.nil
      go_simp
      have hr3 := heap_alloc_last w2 (.cells #[.string (bs x2)] 9)
      have hk3 := (Kp.refl [] w2).alloc (.cells #[.string (bs x2)] 9)
      have HB3 := Lib.hid (HB2.out.kp0 hk3)
      obtain ⟨R3, hR3⟩ : ∃ R, w2.heap.size = R := ⟨_, rfl⟩
      generalize w2.alloc (.cells #[.string (bs x2)] 9) = w3 at *
      rw [hR3] at hr3 ⊢
      have HM3 := Lib.hid hr3
      have HR3 := Lib.hid hR3
      have HG3 := Lib.hid (show Bm ≤ R3 from by rw [← hR3]; exact HB2.out.szle)
      clear hr3 hk3 hR3 HB2
      have hS := True.intro
      clear hHeld
      refine hK.out _ _ hS (fun hHeld => ?_)
      try simp only [Act.put, List.setIfInBounds_toArray, List.set_cons_zero, List.set_cons_succ]
      clear hK
      refine wpAnyH_ready (rs := [6]) (by kernel_rfl) (by simp) ?_
      refine AllReadyH.cons (o := ⟨some 37, .call { callee := .builtin .append, args := #[.tmp 32, .tmp 36], argTypes := #[28, 28] }, 28, "config.go:15", #[⟨1, .data⟩, ⟨5, .data⟩, ⟨4, .chain⟩], none⟩) rfl (fun K hK => ?_) AllReadyH.nil
      obtain ⟨v4, w4, hrun, how, hgr⟩ := run_append_r (r := stT) (c := 1) x2 28 HB3.out.own (row_cell HM3.out rfl) (by have := Hxn.out; omega) HB3.out.szle
      have HB4 := Lib.hid (HB3.out.app how hgr)
      have HR := Lib.hid hrun
      clear hrun how hgr
      refine step_append_run rfl 28 _ _ rfl _ _ _ rfl rfl HR.out ?_
      clear HR HB3
      obtain ⟨va, vc, hvf⟩ := HB4.out.own.form
      obtain ⟨ln, hln⟩ : ∃ m, (xs ++ [x2]).length = m := ⟨_, rfl⟩
      rw [hln] at hvf
      subst hvf
      clear hln
      have hS := True.intro
      clear hHeld
      refine hK.out _ _ hS (fun hHeld => ?_)
      try simp only [Act.put, List.setIfInBounds_toArray, List.set_cons_zero, List.set_cons_succ]
      clear hK
      refine wpAnyH_take (i := 7) (oi := ⟨some 38, .fieldAddr 31 (.tmp 3) 2, 0, "config.go:15", #[⟨0, .phase⟩, ⟨1, .phase⟩, ⟨2, .phase⟩, ⟨3, .phase⟩, ⟨4, .phase⟩, ⟨5, .phase⟩, ⟨6, .phase⟩], none⟩) (v := .pointer (some ⟨P, 2, none⟩)) rfl (by kernel_rfl) (by kernel_rfl) (by kernel_rfl) (fun _ _ _ h => h) (Or.inl ⟨by rfl, fun w hSw => by (try dsimp only at hSw); go_simp⟩) hHeld ?_
      try simp only [Act.put, List.setIfInBounds_toArray, List.set_cons_zero, List.set_cons_succ]
      refine wpAnyH_ready (rs := [8]) (by kernel_rfl) (by simp) ?_
      refine AllReadyH.cons (o := ⟨none, .store 28 (.tmp 38) (.tmp 37), 0, "config.go:15", #[⟨7, .data⟩, ⟨6, .data⟩, ⟨6, .chain⟩, ⟨0, .phase⟩, ⟨1, .phase⟩, ⟨2, .phase⟩, ⟨3, .phase⟩, ⟨4, .phase⟩, ⟨5, .phase⟩, ⟨6, .phase⟩], none⟩) rfl (fun K hK => ?_) AllReadyH.nil
      have e1 : w4.cell? ⟨P, 2, none⟩ = some v := HB4.out.cell 2
      have e2 := HB4.out.frz
      have HB5 := Lib.hid (HB4.out.put 2 (.slice va ln vc))
      go_simp
      clear e1 e2
      generalize w4.setCell ⟨P, 2, none⟩ (.slice va ln vc) = w5 at *
      have hS := True.intro
      clear hHeld
      refine hK.out _ _ hS (fun hHeld => ?_)
      try simp only [Act.put, List.setIfInBounds_toArray, List.set_cons_zero, List.set_cons_succ]
      clear hK
      refine wpAnyH_done (by kernel_rfl) ?_ _
      clear hHeld
      go_wp2
      go_roundg gk
      case measure => omega
      case rel => exact ⟨(.slice va ln vc), xs ++ [x2], q + 1, by go_num, by have := Hxn.out; rw [List.length_append, List.length_singleton]; omega, Lib.hid HB5.out, Lib.hid (fun x hx => by rcases List.mem_append.1 hx with h | h; exact hxs.out x h; rw [List.mem_singleton.1 h]; exact len_of (by decide) HX2.out), Lib.hid (by have := hqq.out; omega)⟩
     ·skip
      go_simp
      have hr1 := heap_alloc_last w0 (.cells #[.string ⟨#[99, 111, 114, 101]⟩, .string ⟨#[101, 120, 116, 114, 97]⟩, .string ⟨#[104, 105, 100]⟩, .string ⟨#[103, 111, 110, 101]⟩] 9)
      have hk1 := (Kp.refl [] w0).alloc (.cells #[.string ⟨#[99, 111, 114, 101]⟩, .string ⟨#[101, 120, 116, 114, 97]⟩, .string ⟨#[104, 105, 100]⟩, .string ⟨#[103, 111, 110, 101]⟩] 9)
      have HB1 := Lib.hid (HB0.out.kp0 hk1)
      obtain ⟨R1, hR1⟩ : ∃ R, w0.heap.size = R := ⟨_, rfl⟩
      generalize w0.alloc (.cells #[.string ⟨#[99, 111, 114, 101]⟩, .string ⟨#[101, 120, 116, 114, 97]⟩, .string ⟨#[104, 105, 100]⟩, .string ⟨#[103, 111, 110, 101]⟩] 9) = w1 at *
      rw [hR1] at hr1 ⊢
      have HL1 := Lib.hid hr1
      have HR1 := Lib.hid hR1
      have HG1 := Lib.hid (show Bm ≤ R1 from by rw [← hR1]; exact HB0.out.szle)
      clear hr1 hk1 hR1 HB0
      have hS := True.intro
      clear hHeld
      refine hK.out _ _ hS (fun hHeld => ?_)
      try simp only [Act.put, List.setIfInBounds_toArray, List.set_cons_zero, List.set_cons_succ]
      clear hK
      refine wpAnyH_ready (rs := [1, 4]) (by kernel_rfl) (by simp) ?_
      refine AllReadyH.cons (o := ⟨some 32, .load 28 (.tmp 31), 28, "config.go:15", #[⟨0, .data⟩], none⟩) rfl (fun K hK => ?_) (AllReadyH.cons (o := ⟨some 35, .call { callee := .value (.func 16), args := #[.tmp 33, .tmp 34], argTypes := #[24, 28] }, 9, "config.go:15", #[⟨2, .data⟩, ⟨3, .data⟩], none⟩) rfl (fun K hK => ?_) AllReadyH.nil)
      ·skip
       have e1 : w1.cell? ⟨P, 2, none⟩ = some v := HB1.out.cell 2
       go_simp
       clear e1
       have hS := True.intro
       clear hHeld
       refine hK.out _ _ hS (fun hHeld => ?_)
       try simp only [Act.put, List.setIfInBounds_toArray, List.set_cons_zero, List.set_cons_succ]
       clear hK
       refine wpAnyH_ready (rs := [4]) (by kernel_rfl) (by simp) ?_
       refine AllReadyH.cons (o := ⟨some 35, .call { callee := .value (.func 16), args := #[.tmp 33, .tmp 34], argTypes := #[24, 28] }, 9, "config.go:15", #[⟨2, .data⟩, ⟨3, .data⟩], none⟩) rfl (fun K hK => ?_) AllReadyH.nil
       have hcall := one_at [[99, 111, 114, 101], [101, 120, 116, 114, 97], [104, 105, 100], [103, 111, 110, 101]] HB1.out HL1.out HG1.out (by have := Hq.out; omega) (by decide) (by decide)
       have HC := Lib.hid (show Calls Tryd.prog 16 #[.pointer (some ⟨tb, 0, none⟩), .slice (some ⟨R1, 0, none⟩) 4 4] w1 _ from hcall)
       clear hcall
       go_simp
       go_at_call 16
       refine Calls.mono (by with_reducible exact HC.out) ?_
       rintro e w2 ⟨x2, hx2, rfl, hB2, hk2⟩
       dsimp only
       have HB2 := Lib.hid hB2
       have HX2 := Lib.hid hx2
       clear hB2 hx2 hk2 HB1 HL1 HC
       have hS := True.intro
       clear hHeld
       refine hK.out _ _ hS (fun hHeld => ?_)
       try simp only [Act.put, List.setIfInBounds_toArray, List.set_cons_zero, List.set_cons_succ]
       clear hK
       refine wpAnyH_ready (rs := [5]) (by kernel_rfl) (by simp) ?_
       refine AllReadyH.cons (o := ⟨some 36, .buildSlice 28 1 #[(0, .tmp 35)], 28, "config.go:15", #[⟨4, .data⟩], none⟩) rfl (fun K hK => ?_) AllReadyH.nil
       go_simp
       have hr3 := heap_alloc_last w2 (.cells #[.string (bs x2)] 9)
       have hk3 := (Kp.refl [] w2).alloc (.cells #[.string (bs x2)] 9)
       have HB3 := Lib.hid (HB2.out.kp0 hk3)
       obtain ⟨R3, hR3⟩ : ∃ R, w2.heap.size = R := ⟨_, rfl⟩
       generalize w2.alloc (.cells #[.string (bs x2)] 9) = w3 at *
       rw [hR3] at hr3 ⊢
       have HM3 := Lib.hid hr3
       have HR3 := Lib.hid hR3
       have HG3 := Lib.hid (show Bm ≤ R3 from by rw [← hR3]; exact HB2.out.szle)
       clear hr3 hk3 hR3 HB2
       have hS := True.intro
       clear hHeld
       refine hK.out _ _ hS (fun hHeld => ?_)
       try simp only [Act.put, List.setIfInBounds_toArray, List.set_cons_zero, List.set_cons_succ]
       clear hK
       refine wpAnyH_ready (rs := [6]) (by kernel_rfl) (by simp) ?_
       refine AllReadyH.cons (o := ⟨some 37, .call { callee := .builtin .append, args := #[.tmp 32, .tmp 36], argTypes := #[28, 28] }, 28, "config.go:15", #[⟨1, .data⟩, ⟨5, .data⟩, ⟨4, .chain⟩], none⟩) rfl (fun K hK => ?_) AllReadyH.nil
       obtain ⟨v4, w4, hrun, how, hgr⟩ := run_append_r (r := stT) (c := 1) x2 28 HB3.out.own (row_cell HM3.out rfl) (by have := Hxn.out; omega) HB3.out.szle
       have HB4 := Lib.hid (HB3.out.app how hgr)
       have HR := Lib.hid hrun
       clear hrun how hgr
       refine step_append_run rfl 28 _ _ rfl _ _ _ rfl rfl HR.out ?_
       clear HR HB3
       obtain ⟨va, vc, hvf⟩ := HB4.out.own.form
       obtain ⟨ln, hln⟩ : ∃ m, (xs ++ [x2]).length = m := ⟨_, rfl⟩
       rw [hln] at hvf
       subst hvf
       clear hln
       have hS := True.intro
       clear hHeld
       refine hK.out _ _ hS (fun hHeld => ?_)
       try simp only [Act.put, List.setIfInBounds_toArray, List.set_cons_zero, List.set_cons_succ]
       clear hK
       refine wpAnyH_take (i := 7) (oi := ⟨some 38, .fieldAddr 31 (.tmp 3) 2, 0, "config.go:15", #[⟨0, .phase⟩, ⟨1, .phase⟩, ⟨2, .phase⟩, ⟨3, .phase⟩, ⟨4, .phase⟩, ⟨5, .phase⟩, ⟨6, .phase⟩], none⟩) (v := .pointer (some ⟨P, 2, none⟩)) rfl (by kernel_rfl) (by kernel_rfl) (by kernel_rfl) (fun _ _ _ h => h) (Or.inl ⟨by rfl, fun w hSw => by (try dsimp only at hSw); go_simp⟩) hHeld ?_
       try simp only [Act.put, List.setIfInBounds_toArray, List.set_cons_zero, List.set_cons_succ]
       refine wpAnyH_ready (rs := [8]) (by kernel_rfl) (by simp) ?_
       refine AllReadyH.cons (o := ⟨none, .store 28 (.tmp 38) (.tmp 37), 0, "config.go:15", #[⟨7, .data⟩, ⟨6, .data⟩, ⟨6, .chain⟩, ⟨0, .phase⟩, ⟨1, .phase⟩, ⟨2, .phase⟩, ⟨3, .phase⟩, ⟨4, .phase⟩, ⟨5, .phase⟩, ⟨6, .phase⟩], none⟩) rfl (fun K hK => ?_) AllReadyH.nil
       have e1 : w4.cell? ⟨P, 2, none⟩ = some v := HB4.out.cell 2
       have e2 := HB4.out.frz
       have HB5 := Lib.hid (HB4.out.put 2 (.slice va ln vc))
       go_simp
       clear e1 e2
       generalize w4.setCell ⟨P, 2, none⟩ (.slice va ln vc) = w5 at *
       have hS := True.intro
       clear hHeld
       refine hK.out _ _ hS (fun hHeld => ?_)
       try simp only [Act.put, List.setIfInBounds_toArray, List.set_cons_zero, List.set_cons_succ]
       clear hK
       refine wpAnyH_done (by kernel_rfl) ?_ _
       clear hHeld
       go_wp2
       go_roundg gk
       case measure => omega
       case rel => exact ⟨(.slice va ln vc), xs ++ [x2], q + 1, by go_num, by have := Hxn.out; rw [List.length_append, List.length_singleton]; omega, Lib.hid HB5.out, Lib.hid (fun x hx => by rcases List.mem_append.1 hx with h | h; exact hxs.out x h; rw [List.mem_singleton.1 h]; exact len_of (by decide) HX2.out), Lib.hid (by have := hqq.out; omega)⟩
      ·skip
       have hcall := one_at [[99, 111, 114, 101], [101, 120, 116, 114, 97], [104, 105, 100], [103, 111, 110, 101]] HB1.out HL1.out HG1.out (by have := Hq.out; omega) (by decide) (by decide)
       have HC := Lib.hid (show Calls Tryd.prog 16 #[.pointer (some ⟨tb, 0, none⟩), .slice (some ⟨R1, 0, none⟩) 4 4] w1 _ from hcall)
       clear hcall
       go_simp
       go_at_call 16
       refine Calls.mono (by with_reducible exact HC.out) ?_
       rintro e w2 ⟨x2, hx2, rfl, hB2, hk2⟩
       dsimp only
       have HB2 := Lib.hid hB2
       have HX2 := Lib.hid hx2
       clear hB2 hx2 hk2 HB1 HL1 HC
       have hS := True.intro
       clear hHeld
       refine hK.out _ _ hS (fun hHeld => ?_)
       try simp only [Act.put, List.setIfInBounds_toArray, List.set_cons_zero, List.set_cons_succ]
       clear hK
       refine wpAnyH_ready (rs := [1, 5]) (by kernel_rfl) (by simp) ?_
       refine AllReadyH.cons (o := ⟨some 32, .load 28 (.tmp 31), 28, "config.go:15", #[⟨0, .data⟩], none⟩) rfl (fun K hK => ?_) (AllReadyH.cons (o := ⟨some 36, .buildSlice 28 1 #[(0, .tmp 35)], 28, "config.go:15", #[⟨4, .data⟩], none⟩) rfl (fun K hK => ?_) AllReadyH.nil)
       ·skip
        have e1 : w2.cell? ⟨P, 2, none⟩ = some v := HB2.out.cell 2
        go_simp
        clear e1
        have hS := True.intro
        clear hHeld
        refine hK.out _ _ hS (fun hHeld => ?_)
        try simp only [Act.put, List.setIfInBounds_toArray, List.set_cons_zero, List.set_cons_succ]
        clear hK
        refine wpAnyH_ready (rs := [5]) (by kernel_rfl) (by simp) ?_
        refine AllReadyH.cons (o := ⟨some 36, .buildSlice 28 1 #[(0, .tmp 35)], 28, "config.go:15", #[⟨4, .data⟩], none⟩) rfl (fun K hK => ?_) AllReadyH.nil
        go_simp
        have hr3 := heap_alloc_last w2 (.cells #[.string (bs x2)] 9)
        have hk3 := (Kp.refl [] w2).alloc (.cells #[.string (bs x2)] 9)
        have HB3 := Lib.hid (HB2.out.kp0 hk3)
        obtain ⟨R3, hR3⟩ : ∃ R, w2.heap.size = R := ⟨_, rfl⟩
        generalize w2.alloc (.cells #[.string (bs x2)] 9) = w3 at *
        rw [hR3] at hr3 ⊢
        have HM3 := Lib.hid hr3
        have HR3 := Lib.hid hR3
        have HG3 := Lib.hid (show Bm ≤ R3 from by rw [← hR3]; exact HB2.out.szle)
        clear hr3 hk3 hR3 HB2
        have hS := True.intro
        clear hHeld
        refine hK.out _ _ hS (fun hHeld => ?_)
        try simp only [Act.put, List.setIfInBounds_toArray, List.set_cons_zero, List.set_cons_succ]
        clear hK
        refine wpAnyH_ready (rs := [6]) (by kernel_rfl) (by simp) ?_
        refine AllReadyH.cons (o := ⟨some 37, .call { callee := .builtin .append, args := #[.tmp 32, .tmp 36], argTypes := #[28, 28] }, 28, "config.go:15", #[⟨1, .data⟩, ⟨5, .data⟩, ⟨4, .chain⟩], none⟩) rfl (fun K hK => ?_) AllReadyH.nil
        obtain ⟨v4, w4, hrun, how, hgr⟩ := run_append_r (r := stT) (c := 1) x2 28 HB3.out.own (row_cell HM3.out rfl) (by have := Hxn.out; omega) HB3.out.szle
        have HB4 := Lib.hid (HB3.out.app how hgr)
        have HR := Lib.hid hrun
        clear hrun how hgr
        refine step_append_run rfl 28 _ _ rfl _ _ _ rfl rfl HR.out ?_
        clear HR HB3
        obtain ⟨va, vc, hvf⟩ := HB4.out.own.form
        obtain ⟨ln, hln⟩ : ∃ m, (xs ++ [x2]).length = m := ⟨_, rfl⟩
        rw [hln] at hvf
        subst hvf
        clear hln
        have hS := True.intro
        clear hHeld
        refine hK.out _ _ hS (fun hHeld => ?_)
        try simp only [Act.put, List.setIfInBounds_toArray, List.set_cons_zero, List.set_cons_succ]
        clear hK
        refine wpAnyH_take (i := 7) (oi := ⟨some 38, .fieldAddr 31 (.tmp 3) 2, 0, "config.go:15", #[⟨0, .phase⟩, ⟨1, .phase⟩, ⟨2, .phase⟩, ⟨3, .phase⟩, ⟨4, .phase⟩, ⟨5, .phase⟩, ⟨6, .phase⟩], none⟩) (v := .pointer (some ⟨P, 2, none⟩)) rfl (by kernel_rfl) (by kernel_rfl) (by kernel_rfl) (fun _ _ _ h => h) (Or.inl ⟨by rfl, fun w hSw => by (try dsimp only at hSw); go_simp⟩) hHeld ?_
        try simp only [Act.put, List.setIfInBounds_toArray, List.set_cons_zero, List.set_cons_succ]
        refine wpAnyH_ready (rs := [8]) (by kernel_rfl) (by simp) ?_
        refine AllReadyH.cons (o := ⟨none, .store 28 (.tmp 38) (.tmp 37), 0, "config.go:15", #[⟨7, .data⟩, ⟨6, .data⟩, ⟨6, .chain⟩, ⟨0, .phase⟩, ⟨1, .phase⟩, ⟨2, .phase⟩, ⟨3, .phase⟩, ⟨4, .phase⟩, ⟨5, .phase⟩, ⟨6, .phase⟩], none⟩) rfl (fun K hK => ?_) AllReadyH.nil
        have e1 : w4.cell? ⟨P, 2, none⟩ = some v := HB4.out.cell 2
        have e2 := HB4.out.frz
        have HB5 := Lib.hid (HB4.out.put 2 (.slice va ln vc))
        go_simp
        clear e1 e2
        generalize w4.setCell ⟨P, 2, none⟩ (.slice va ln vc) = w5 at *
        have hS := True.intro
        clear hHeld
        refine hK.out _ _ hS (fun hHeld => ?_)
        try simp only [Act.put, List.setIfInBounds_toArray, List.set_cons_zero, List.set_cons_succ]
        clear hK
        refine wpAnyH_done (by kernel_rfl) ?_ _
        clear hHeld
        go_wp2
        go_roundg gk
        case measure => omega
        case rel => exact ⟨(.slice va ln vc), xs ++ [x2], q + 1, by go_num, by have := Hxn.out; rw [List.length_append, List.length_singleton]; omega, Lib.hid HB5.out, Lib.hid (fun x hx => by rcases List.mem_append.1 hx with h | h; exact hxs.out x h; rw [List.mem_singleton.1 h]; exact len_of (by decide) HX2.out), Lib.hid (by have := hqq.out; omega)⟩
       ·skip
        go_simp
        have hr3 := heap_alloc_last w2 (.cells #[.string (bs x2)] 9)
        have hk3 := (Kp.refl [] w2).alloc (.cells #[.string (bs x2)] 9)
        have HB3 := Lib.hid (HB2.out.kp0 hk3)
        obtain ⟨R3, hR3⟩ : ∃ R, w2.heap.size = R := ⟨_, rfl⟩
        generalize w2.alloc (.cells #[.string (bs x2)] 9) = w3 at *
        rw [hR3] at hr3 ⊢
        have HM3 := Lib.hid hr3
        have HR3 := Lib.hid hR3
        have HG3 := Lib.hid (show Bm ≤ R3 from by rw [← hR3]; exact HB2.out.szle)
        clear hr3 hk3 hR3 HB2
        have hS := True.intro
        clear hHeld
        refine hK.out _ _ hS (fun hHeld => ?_)
        try simp only [Act.put, List.setIfInBounds_toArray, List.set_cons_zero, List.set_cons_succ]
        clear hK
        refine wpAnyH_ready (rs := [1]) (by kernel_rfl) (by simp) ?_
        refine AllReadyH.cons (o := ⟨some 32, .load 28 (.tmp 31), 28, "config.go:15", #[⟨0, .data⟩], none⟩) rfl (fun K hK => ?_) AllReadyH.nil
        have e1 : w3.cell? ⟨P, 2, none⟩ = some v := HB3.out.cell 2
        go_simp
        clear e1
        have hS := True.intro
        clear hHeld
        refine hK.out _ _ hS (fun hHeld => ?_)
        try simp only [Act.put, List.setIfInBounds_toArray, List.set_cons_zero, List.set_cons_succ]
        clear hK
        refine wpAnyH_ready (rs := [6]) (by kernel_rfl) (by simp) ?_
        refine AllReadyH.cons (o := ⟨some 37, .call { callee := .builtin .append, args := #[.tmp 32, .tmp 36], argTypes := #[28, 28] }, 28, "config.go:15", #[⟨1, .data⟩, ⟨5, .data⟩, ⟨4, .chain⟩], none⟩) rfl (fun K hK => ?_) AllReadyH.nil
        obtain ⟨v4, w4, hrun, how, hgr⟩ := run_append_r (r := stT) (c := 1) x2 28 HB3.out.own (row_cell HM3.out rfl) (by have := Hxn.out; omega) HB3.out.szle
        have HB4 := Lib.hid (HB3.out.app how hgr)
        have HR := Lib.hid hrun
        clear hrun how hgr
        refine step_append_run rfl 28 _ _ rfl _ _ _ rfl rfl HR.out ?_
        clear HR HB3
        obtain ⟨va, vc, hvf⟩ := HB4.out.own.form
        obtain ⟨ln, hln⟩ : ∃ m, (xs ++ [x2]).length = m := ⟨_, rfl⟩
        rw [hln] at hvf
        subst hvf
        clear hln
        have hS := True.intro
        clear hHeld
        refine hK.out _ _ hS (fun hHeld => ?_)
        try simp only [Act.put, List.setIfInBounds_toArray, List.set_cons_zero, List.set_cons_succ]
        clear hK
        refine wpAnyH_take (i := 7) (oi := ⟨some 38, .fieldAddr 31 (.tmp 3) 2, 0, "config.go:15", #[⟨0, .phase⟩, ⟨1, .phase⟩, ⟨2, .phase⟩, ⟨3, .phase⟩, ⟨4, .phase⟩, ⟨5, .phase⟩, ⟨6, .phase⟩], none⟩) (v := .pointer (some ⟨P, 2, none⟩)) rfl (by kernel_rfl) (by kernel_rfl) (by kernel_rfl) (fun _ _ _ h => h) (Or.inl ⟨by rfl, fun w hSw => by (try dsimp only at hSw); go_simp⟩) hHeld ?_
        try simp only [Act.put, List.setIfInBounds_toArray, List.set_cons_zero, List.set_cons_succ]
        refine wpAnyH_ready (rs := [8]) (by kernel_rfl) (by simp) ?_
        refine AllReadyH.cons (o := ⟨none, .store 28 (.tmp 38) (.tmp 37), 0, "config.go:15", #[⟨7, .data⟩, ⟨6, .data⟩, ⟨6, .chain⟩, ⟨0, .phase⟩, ⟨1, .phase⟩, ⟨2, .phase⟩, ⟨3, .phase⟩, ⟨4, .phase⟩, ⟨5, .phase⟩, ⟨6, .phase⟩], none⟩) rfl (fun K hK => ?_) AllReadyH.nil
        have e1 : w4.cell? ⟨P, 2, none⟩ = some v := HB4.out.cell 2
        have e2 := HB4.out.frz
        have HB5 := Lib.hid (HB4.out.put 2 (.slice va ln vc))
        go_simp
        clear e1 e2
        generalize w4.setCell ⟨P, 2, none⟩ (.slice va ln vc) = w5 at *
        have hS := True.intro
        clear hHeld
        refine hK.out _ _ hS (fun hHeld => ?_)
        try simp only [Act.put, List.setIfInBounds_toArray, List.set_cons_zero, List.set_cons_succ]
        clear hK
        refine wpAnyH_done (by kernel_rfl) ?_ _
        clear hHeld
        go_wp2
        go_roundg gk
        case measure => omega
        case rel => exact ⟨(.slice va ln vc), xs ++ [x2], q + 1, by go_num, by have := Hxn.out; rw [List.length_append, List.length_singleton]; omega, Lib.hid HB5.out, Lib.hid (fun x hx => by rcases List.mem_append.1 hx with h | h; exact hxs.out x h; rw [List.mem_singleton.1 h]; exact len_of (by decide) HX2.out), Lib.hid (by have := hqq.out; omega)⟩
    | zero =>
     have hz : ¬ ((0 : Int) < ((0 : Nat) : Int)) := by omega
     obtain ⟨a2, c2, hv2⟩ := HBn.out.own.form
     obtain ⟨v2v, hvv⟩ : ∃ u, v = u := ⟨_, rfl⟩
     rw [hvv] at HBn hv2
     clear hvv
     obtain ⟨xs2, hxx⟩ : ∃ u, xs = u := ⟨_, rfl⟩
     rw [hxx] at HBn hxs hxl hv2
     clear hxx
     have HOw2 := Lib.hid HBn.out.own
     have Hxs2 := hxs
     have Hxl2 := Lib.hid hxl
     have Hsl2 := Lib.hid (show ∃ a n c, v2v = .slice a n c from ⟨_, _, _, hv2⟩)
     have HOw1 := Lib.hid (HOw1.out.kp HBn.out.K (fun b hb hm => by have := (HOw1.out.ge b hb).1; have := HtP.out; have := HB11.out; simp at hm; omega))
     have HB12 := Lib.hid (show P < Bm from HBn.out.PB)
     obtain ⟨B2m, hBB⟩ : ∃ b, Bm = b := ⟨_, rfl⟩
     rw [hBB] at HOw2 HB12
     clear hBB
     have Hbox3 := Lib.hid HBn.out.box
     have HT3 := Lib.hid HBn.out.T
     have Hq3 := Lib.hid (show q ≤ k + 13 from by have := hqq.out; have := Hq2.out; omega)
     have HKc3 := Lib.hid (HKm.out.trans HBn.out.K)
     obtain ⟨q3, hqe⟩ : ∃ u, q = u := ⟨_, rfl⟩
     rw [hqe] at HT3 Hq3
     clear hqe HBn hxs hxl hqq hv2
     -- loop 3
     have HN := Lib.hid (show Calls Tryd.prog 15 #[.pointer (some ⟨tb, 0, none⟩), .int .i64 2] wr (fun e w' => ∃ r : Nat, r < 2 ∧ e = .returned (.int .i64 r) ∧ Tp w' tb (q3 + 1) ∧ Kp [tb] wr w') from next_kp 2 (by decide) (by decide) (by have := Hq3.out; omega) HT3.out)
     go_wp2_with fail
     refine Calls.mono (by with_reducible exact HN.out) ?_
     rintro e W1 ⟨r, hr, rfl, hT1, hk1⟩
     have hbx : W1.heap[P]? = some (.cells #[mv, v1v, v2v, .slice none 0 0, .slice none 0 0] 31 (0, 0)) := (hk1.block P (block_lt Hbox3.out) (by have := HtP.out; simp; omega)).trans Hbox3.out
     have Hst := Lib.hid (Bn.start (r := stT) hbx hT1 HtP.out)
     have HKm := Lib.hid (HKc3.out.trans (hk1.mono (by simp)))
     have HOw1 := Lib.hid (HOw1.out.kp hk1 (fun b hb hm => by have := (HOw1.out.ge b hb).1; have := HtP.out; have := HB11.out; simp at hm; omega))
     have HOw2 := Lib.hid (HOw2.out.kp hk1 (fun b hb hm => by have := (HOw2.out.ge b hb).1; have := HtP.out; have := HB12.out; simp at hm; omega))
     clear hbx hT1 hk1 HN HT3 Hbox3
     obtain ⟨Bm, hBm⟩ : ∃ b, W1.heap.size = b := ⟨_, rfl⟩
     have HBm := Lib.hid hBm
     rw [hBm] at Hst
     clear hBm
     go_wp2
     go_loopg [6] r (fun g s wx => ∃ (v : Value) (xs : List Tx) (q : Nat), s = .int .i64 (g : Int) ∧ xs.length + g ≤ 1 ∧ Hid (Bn stT W1 wx tb P Bm #[mv, v1v, v2v, v, .slice none 0 0] v xs q) ∧ Hid (∀ x ∈ xs, x.length ≤ 10) ∧ Hid (q + 1 * g ≤ q3 + 2))
     case atStart => exact ⟨_, [], q3 + 1, rfl, by simp; omega, Hst, Lib.hid (by simp), Lib.hid (by omega)⟩
     case round =>
      clear Hst
      obtain ⟨v, xs, q, rfl, hxl, HBn, hxs, hqq⟩ := hrel
      cases gk with
      | succ gk =>
       have hz : (0 : Int) < ((gk + 1 : Nat) : Int) := by omega
       have Hxn := Lib.hid hxl
       have Hq := Lib.hid (show q + 10 ≤ 1000000 from by have := hqq.out; have := Hq3.out; omega)
       have HtP2 := HtP
       go_wp2
       refine wp_region_held_drew (S := fun _ => True) (by kernel_rfl) True.intro (fun hHeld => ?_)
       have HB0 := Lib.hid (HBn.out.kp0 ((Kp.refl [] _).drew 1))
       have e9 : World.drewN wr 1 = World.drew wr := rfl
       rw [e9] at HB0
       generalize wr.drew = w0 at *
       clear e9
       refine wpAnyH_take (i := 0) (oi := ⟨some 45, .fieldAddr 31 (.tmp 3) 3, 0, "config.go:18", #[], none⟩) (v := .pointer (some ⟨P, 3, none⟩)) rfl (by kernel_rfl) (by kernel_rfl) (by kernel_rfl) (fun _ _ _ h => h) (Or.inl ⟨by rfl, fun w hSw => by (try dsimp only at hSw); go_simp⟩) hHeld ?_
       try simp only [Act.put, List.setIfInBounds_toArray, List.set_cons_zero, List.set_cons_succ]
       refine wpAnyH_take (i := 2) (oi := ⟨some 47, .move (.tmp 0), 24, "config.go:18", #[], none⟩) (v := .pointer (some ⟨tb, 0, none⟩)) rfl (by kernel_rfl) (by kernel_rfl) (by kernel_rfl) (fun _ _ _ h => h) (Or.inl ⟨by rfl, fun w hSw => by (try dsimp only at hSw); go_simp⟩) hHeld ?_
       try simp only [Act.put, List.setIfInBounds_toArray, List.set_cons_zero, List.set_cons_succ]
       refine wpAnyH_ready (rs := [1, 3]) (by kernel_rfl) (by simp) ?_
       refine AllReadyH.cons (o := ⟨some 46, .load 28 (.tmp 45), 28, "config.go:18", #[⟨0, .data⟩], none⟩) rfl (fun K hK => ?_) (AllReadyH.cons (o := ⟨some 48, .buildSlice 28 5 #[(0, .const (.string { data := #[111, 116, 104, 101, 114] })), (1, .const (.string { data := #[99, 111, 114, 101] })), (2, .const (.string { data := #[114, 105, 110, 103] })), (3, .const (.string { data := #[98, 97, 100] })), (4, .const (.string { data := #[103, 111, 110, 101] }))], 28, "config.go:18", #[], none⟩) rfl (fun K hK => ?_) AllReadyH.nil)
       ·skip
        have e1 : w0.cell? ⟨P, 3, none⟩ = some v := HB0.out.cell 3
        go_simp
        clear e1
        have hS := True.intro
        clear hHeld
        refine hK.out _ _ hS (fun hHeld => ?_)
        try simp only [Act.put, List.setIfInBounds_toArray, List.set_cons_zero, List.set_cons_succ]
        clear hK
        refine wpAnyH_ready (rs := [3]) (by kernel_rfl) (by simp) ?_
        refine AllReadyH.cons (o := ⟨some 48, .buildSlice 28 5 #[(0, .const (.string { data := #[111, 116, 104, 101, 114] })), (1, .const (.string { data := #[99, 111, 114, 101] })), (2, .const (.string { data := #[114, 105, 110, 103] })), (3, .const (.string { data := #[98, 97, 100] })), (4, .const (.string { data := #[103, 111, 110, 101] }))], 28, "config.go:18", #[], none⟩) rfl (fun K hK => ?_) AllReadyH.nil
        go_simp
        have hr1 := heap_alloc_last w0 (.cells #[.string ⟨#[111, 116, 104, 101, 114]⟩, .string ⟨#[99, 111, 114, 101]⟩, .string ⟨#[114, 105, 110, 103]⟩, .string ⟨#[98, 97, 100]⟩, .string ⟨#[103, 111, 110, 101]⟩] 9)
        have hk1 := (Kp.refl [] w0).alloc (.cells #[.string ⟨#[111, 116, 104, 101, 114]⟩, .string ⟨#[99, 111, 114, 101]⟩, .string ⟨#[114, 105, 110, 103]⟩, .string ⟨#[98, 97, 100]⟩, .string ⟨#[103, 111, 110, 101]⟩] 9)
        have HB1 := Lib.hid (HB0.out.kp0 hk1)
        obtain ⟨R1, hR1⟩ : ∃ R, w0.heap.size = R := ⟨_, rfl⟩
        generalize w0.alloc (.cells #[.string ⟨#[111, 116, 104, 101, 114]⟩, .string ⟨#[99, 111, 114, 101]⟩, .string ⟨#[114, 105, 110, 103]⟩, .string ⟨#[98, 97, 100]⟩, .string ⟨#[103, 111, 110, 101]⟩] 9) = w1 at *
        rw [hR1] at hr1 ⊢
        have HL1 := Lib.hid hr1
        have HR1 := Lib.hid hR1
        have HG1 := Lib.hid (show Bm ≤ R1 from by rw [← hR1]; exact HB0.out.szle)
        clear hr1 hk1 hR1 HB0
        have hS := True.intro
        clear hHeld
        refine hK.out _ _ hS (fun hHeld => ?_)
        try simp only [Act.put, List.setIfInBounds_toArray, List.set_cons_zero, List.set_cons_succ]
        clear hK
        refine wpAnyH_ready (rs := [4]) (by kernel_rfl) (by simp) ?_
        refine AllReadyH.cons (o := ⟨some 49, .call { callee := .value (.func 16), args := #[.tmp 47, .tmp 48], argTypes := #[24, 28] }, 9, "config.go:18", #[⟨2, .data⟩, ⟨3, .data⟩], none⟩) rfl (fun K hK => ?_) AllReadyH.nil
        have hcall := one_at [[111, 116, 104, 101, 114], [99, 111, 114, 101], [114, 105, 110, 103], [98, 97, 100], [103, 111, 110, 101]] HB1.out HL1.out HG1.out (by have := Hq.out; omega) (by decide) (by decide)
        have HC := Lib.hid (show Calls Tryd.prog 16 #[.pointer (some ⟨tb, 0, none⟩), .slice (some ⟨R1, 0, none⟩) 5 5] w1 _ from hcall)
        clear hcall
        go_simp
        go_at_call 16
        refine Calls.mono (by with_reducible exact HC.out) ?_
        rintro e w2 ⟨x2, hx2, rfl, hB2, hk2⟩
        dsimp only
        have HB2 := Lib.hid hB2
        have HX2 := Lib.hid hx2
        clear hB2 hx2 hk2 HB1 HL1 HC
        have hS := True.intro
        clear hHeld
        refine hK.out _ _ hS (fun hHeld => ?_)
        try simp only [Act.put, List.setIfInBounds_toArray, List.set_cons_zero, List.set_cons_succ]
        clear hK
        refine wpAnyH_ready (rs := [5]) (by kernel_rfl) (by simp) ?_
        refine AllReadyH.cons (o := ⟨some 50, .buildSlice 28 1 #[(0, .tmp 49)], 28, "config.go:18", #[⟨4, .data⟩], none⟩) rfl (fun K hK => ?_) AllReadyH.nil
        go_simp
        have hr3 := heap_alloc_last w2 (.cells #[.string (bs x2)] 9)
        have hk3 := (Kp.refl [] w2).alloc (.cells #[.string (bs x2)] 9)
        have HB3 := Lib.hid (HB2.out.kp0 hk3)
        obtain ⟨R3, hR3⟩ : ∃ R, w2.heap.size = R := ⟨_, rfl⟩
        generalize w2.alloc (.cells #[.string (bs x2)] 9) = w3 at *
        rw [hR3] at hr3 ⊢
        have HM3 := Lib.hid hr3
        have HR3 := Lib.hid hR3
        have HG3 := Lib.hid (show Bm ≤ R3 from by rw [← hR3]; exact HB2.out.szle)
        clear hr3 hk3 hR3 HB2
        have hS := True.intro
        clear hHeld
        refine hK.out _ _ hS (fun hHeld => ?_)
        try simp only [Act.put, List.setIfInBounds_toArray, List.set_cons_zero, List.set_cons_succ]
        clear hK
        refine wpAnyH_ready (rs := [6]) (by kernel_rfl) (by simp) ?_
        refine AllReadyH.cons (o := ⟨some 51, .call { callee := .builtin .append, args := #[.tmp 46, .tmp 50], argTypes := #[28, 28] }, 28, "config.go:18", #[⟨1, .data⟩, ⟨5, .data⟩, ⟨4, .chain⟩], none⟩) rfl (fun K hK => ?_) AllReadyH.nil
        obtain ⟨v4, w4, hrun, how, hgr⟩ := run_append_r (r := stT) (c := 1) x2 28 HB3.out.own (row_cell HM3.out rfl) (by have := Hxn.out; omega) HB3.out.szle
        have HB4 := Lib.hid (HB3.out.app how hgr)
        have HR := Lib.hid hrun
        clear hrun how hgr
        refine step_append_run rfl 28 _ _ rfl _ _ _ rfl rfl HR.out ?_
        clear HR HB3
        obtain ⟨va, vc, hvf⟩ := HB4.out.own.form
        obtain ⟨ln, hln⟩ : ∃ m, (xs ++ [x2]).length = m := ⟨_, rfl⟩
        rw [hln] at hvf
        subst hvf
        clear hln
        have hS := True.intro
        clear hHeld
        refine hK.out _ _ hS (fun hHeld => ?_)
        try simp only [Act.put, List.setIfInBounds_toArray, List.set_cons_zero, List.set_cons_succ]
        clear hK
        refine wpAnyH_take (i := 7) (oi := ⟨some 52, .fieldAddr 31 (.tmp 3) 3, 0, "config.go:18", #[⟨0, .phase⟩, ⟨1, .phase⟩, ⟨2, .phase⟩, ⟨3, .phase⟩, ⟨4, .phase⟩, ⟨5, .phase⟩, ⟨6, .phase⟩], none⟩) (v := .pointer (some ⟨P, 3, none⟩)) rfl (by kernel_rfl) (by kernel_rfl) (by kernel_rfl) (fun _ _ _ h => h) (Or.inl ⟨by rfl, fun w hSw => by (try dsimp only at hSw); go_simp⟩) hHeld ?_
        try simp only [Act.put, List.setIfInBounds_toArray, List.set_cons_zero, List.set_cons_succ]
        refine wpAnyH_ready (rs := [8]) (by kernel_rfl) (by simp) ?_
        refine AllReadyH.cons (o := ⟨none, .store 28 (.tmp 52) (.tmp 51), 0, "config.go:18", #[⟨7, .data⟩, ⟨6, .data⟩, ⟨6, .chain⟩, ⟨0, .phase⟩, ⟨1, .phase⟩, ⟨2, .phase⟩, ⟨3, .phase⟩, ⟨4, .phase⟩, ⟨5, .phase⟩, ⟨6, .phase⟩], none⟩) rfl (fun K hK => ?_) AllReadyH.nil
        have e1 : w4.cell? ⟨P, 3, none⟩ = some v := HB4.out.cell 3
        have e2 := HB4.out.frz
        have HB5 := Lib.hid (HB4.out.put 3 (.slice va ln vc))
        go_simp
        clear e1 e2
        generalize w4.setCell ⟨P, 3, none⟩ (.slice va ln vc) = w5 at *
        have hS := True.intro
        clear hHeld
        refine hK.out _ _ hS (fun hHeld => ?_)
        try simp only [Act.put, List.setIfInBounds_toArray, List.set_cons_zero, List.set_cons_succ]
        clear hK
        refine wpAnyH_done (by kernel_rfl) ?_ _
        clear hHeld
        go_wp2
        go_roundg gk
        case measure => omega
        case rel => exact ⟨(.slice va ln vc), xs ++ [x2], q + 1, by go_num, by have := Hxn.out; rw [List.length_append, List.length_singleton]; omega, Lib.hid HB5.out, Lib.hid (fun x hx => by rcases List.mem_append.1 hx with h | h; exact hxs.out x h; rw [List.mem_singleton.1 h]; exact len_of (by decide) HX2.out), Lib.hid (by have := hqq.out; omega)⟩
       ·skip
        go_simp
        have hr1 := heap_alloc_last w0 (.cells #[.string ⟨#[111, 116, 104, 101, 114]⟩, .string ⟨#[99, 111, 114, 101]⟩, .string ⟨#[114, 105, 110, 103]⟩, .string ⟨#[98, 97, 100]⟩, .string ⟨#[103, 111, 110, 101]⟩] 9)
        have hk1 := (Kp.refl [] w0).alloc (.cells #[.string ⟨#[111, 116, 104, 101, 114]⟩, .string ⟨#[99, 111, 114, 101]⟩, .string ⟨#[114, 105, 110, 103]⟩, .string ⟨#[98, 97, 100]⟩, .string ⟨#[103, 111, 110, 101]⟩] 9)
        have HB1 := Lib.hid (HB0.out.kp0 hk1)
        obtain ⟨R1, hR1⟩ : ∃ R, w0.heap.size = R := ⟨_, rfl⟩
        generalize w0.alloc (.cells #[.string ⟨#[111, 116, 104, 101, 114]⟩, .string ⟨#[99, 111, 114, 101]⟩, .string ⟨#[114, 105, 110, 103]⟩, .string ⟨#[98, 97, 100]⟩, .string ⟨#[103, 111, 110, 101]⟩] 9) = w1 at *
        rw [hR1] at hr1 ⊢
        have HL1 := Lib.hid hr1
        have HR1 := Lib.hid hR1
        have HG1 := Lib.hid (show Bm ≤ R1 from by rw [← hR1]; exact HB0.out.szle)
        clear hr1 hk1 hR1 HB0
        have hS := True.intro
        clear hHeld
        refine hK.out _ _ hS (fun hHeld => ?_)
        try simp only [Act.put, List.setIfInBounds_toArray, List.set_cons_zero, List.set_cons_succ]
        clear hK
        refine wpAnyH_ready (rs := [1, 4]) (by kernel_rfl) (by simp) ?_
        refine AllReadyH.cons (o := ⟨some 46, .load 28 (.tmp 45), 28, "config.go:18", #[⟨0, .data⟩], none⟩) rfl (fun K hK => ?_) (AllReadyH.cons (o := ⟨some 49, .call { callee := .value (.func 16), args := #[.tmp 47, .tmp 48], argTypes := #[24, 28] }, 9, "config.go:18", #[⟨2, .data⟩, ⟨3, .data⟩], none⟩) rfl (fun K hK => ?_) AllReadyH.nil)
        ·skip
         have e1 : w1.cell? ⟨P, 3, none⟩ = some v := HB1.out.cell 3
         go_simp
         clear e1
         have hS := True.intro
         clear hHeld
         refine hK.out _ _ hS (fun hHeld => ?_)
         try simp only [Act.put, List.setIfInBounds_toArray, List.set_cons_zero, List.set_cons_succ]
         clear hK
         refine wpAnyH_ready (rs := [4]) (by kernel_rfl) (by simp) ?_
         refine AllReadyH.cons (o := ⟨some 49, .call { callee := .value (.func 16), args := #[.tmp 47, .tmp 48], argTypes := #[24, 28] }, 9, "config.go:18", #[⟨2, .data⟩, ⟨3, .data⟩], none⟩) rfl (fun K hK => ?_) AllReadyH.nil
         have hcall := one_at [[111, 116, 104, 101, 114], [99, 111, 114, 101], [114, 105, 110, 103], [98, 97, 100], [103, 111, 110, 101]] HB1.out HL1.out HG1.out (by have := Hq.out; omega) (by decide) (by decide)
         have HC := Lib.hid (show Calls Tryd.prog 16 #[.pointer (some ⟨tb, 0, none⟩), .slice (some ⟨R1, 0, none⟩) 5 5] w1 _ from hcall)
         clear hcall
         go_simp
         go_at_call 16
         refine Calls.mono (by with_reducible exact HC.out) ?_
         rintro e w2 ⟨x2, hx2, rfl, hB2, hk2⟩
         dsimp only
         have HB2 := Lib.hid hB2
         have HX2 := Lib.hid hx2
         clear hB2 hx2 hk2 HB1 HL1 HC
         have hS := True.intro
         clear hHeld
         refine hK.out _ _ hS (fun hHeld => ?_)
         try simp only [Act.put, List.setIfInBounds_toArray, List.set_cons_zero, List.set_cons_succ]
         clear hK
         refine wpAnyH_ready (rs := [5]) (by kernel_rfl) (by simp) ?_
         refine AllReadyH.cons (o := ⟨some 50, .buildSlice 28 1 #[(0, .tmp 49)], 28, "config.go:18", #[⟨4, .data⟩], none⟩) rfl (fun K hK => ?_) AllReadyH.nil
         go_simp
         have hr3 := heap_alloc_last w2 (.cells #[.string (bs x2)] 9)
         have hk3 := (Kp.refl [] w2).alloc (.cells #[.string (bs x2)] 9)
         have HB3 := Lib.hid (HB2.out.kp0 hk3)
         obtain ⟨R3, hR3⟩ : ∃ R, w2.heap.size = R := ⟨_, rfl⟩
         generalize w2.alloc (.cells #[.string (bs x2)] 9) = w3 at *
         rw [hR3] at hr3 ⊢
         have HM3 := Lib.hid hr3
         have HR3 := Lib.hid hR3
         have HG3 := Lib.hid (show Bm ≤ R3 from by rw [← hR3]; exact HB2.out.szle)
         clear hr3 hk3 hR3 HB2
         have hS := True.intro
         clear hHeld
         refine hK.out _ _ hS (fun hHeld => ?_)
         try simp only [Act.put, List.setIfInBounds_toArray, List.set_cons_zero, List.set_cons_succ]
         clear hK
         refine wpAnyH_ready (rs := [6]) (by kernel_rfl) (by simp) ?_
         refine AllReadyH.cons (o := ⟨some 51, .call { callee := .builtin .append, args := #[.tmp 46, .tmp 50], argTypes := #[28, 28] }, 28, "config.go:18", #[⟨1, .data⟩, ⟨5, .data⟩, ⟨4, .chain⟩], none⟩) rfl (fun K hK => ?_) AllReadyH.nil
         obtain ⟨v4, w4, hrun, how, hgr⟩ := run_append_r (r := stT) (c := 1) x2 28 HB3.out.own (row_cell HM3.out rfl) (by have := Hxn.out; omega) HB3.out.szle
         have HB4 := Lib.hid (HB3.out.app how hgr)
         have HR := Lib.hid hrun
         clear hrun how hgr
         refine step_append_run rfl 28 _ _ rfl _ _ _ rfl rfl HR.out ?_
         clear HR HB3
         obtain ⟨va, vc, hvf⟩ := HB4.out.own.form
         obtain ⟨ln, hln⟩ : ∃ m, (xs ++ [x2]).length = m := ⟨_, rfl⟩
         rw [hln] at hvf
         subst hvf
         clear hln
         have hS := True.intro
         clear hHeld
         refine hK.out _ _ hS (fun hHeld => ?_)
         try simp only [Act.put, List.setIfInBounds_toArray, List.set_cons_zero, List.set_cons_succ]
         clear hK
         refine wpAnyH_take (i := 7) (oi := ⟨some 52, .fieldAddr 31 (.tmp 3) 3, 0, "config.go:18", #[⟨0, .phase⟩, ⟨1, .phase⟩, ⟨2, .phase⟩, ⟨3, .phase⟩, ⟨4, .phase⟩, ⟨5, .phase⟩, ⟨6, .phase⟩], none⟩) (v := .pointer (some ⟨P, 3, none⟩)) rfl (by kernel_rfl) (by kernel_rfl) (by kernel_rfl) (fun _ _ _ h => h) (Or.inl ⟨by rfl, fun w hSw => by (try dsimp only at hSw); go_simp⟩) hHeld ?_
         try simp only [Act.put, List.setIfInBounds_toArray, List.set_cons_zero, List.set_cons_succ]
         refine wpAnyH_ready (rs := [8]) (by kernel_rfl) (by simp) ?_
         refine AllReadyH.cons (o := ⟨none, .store 28 (.tmp 52) (.tmp 51), 0, "config.go:18", #[⟨7, .data⟩, ⟨6, .data⟩, ⟨6, .chain⟩, ⟨0, .phase⟩, ⟨1, .phase⟩, ⟨2, .phase⟩, ⟨3, .phase⟩, ⟨4, .phase⟩, ⟨5, .phase⟩, ⟨6, .phase⟩], none⟩) rfl (fun K hK => ?_) AllReadyH.nil
         have e1 : w4.cell? ⟨P, 3, none⟩ = some v := HB4.out.cell 3
         have e2 := HB4.out.frz
         have HB5 := Lib.hid (HB4.out.put 3 (.slice va ln vc))
         go_simp
         clear e1 e2
         generalize w4.setCell ⟨P, 3, none⟩ (.slice va ln vc) = w5 at *
         have hS := True.intro
         clear hHeld
         refine hK.out _ _ hS (fun hHeld => ?_)
         try simp only [Act.put, List.setIfInBounds_toArray, List.set_cons_zero, List.set_cons_succ]
         clear hK
         refine wpAnyH_done (by kernel_rfl) ?_ _
         clear hHeld
         go_wp2
         go_roundg gk
         case measure => omega
         case rel => exact ⟨(.slice va ln vc), xs ++ [x2], q + 1, by go_num, by have := Hxn.out; rw [List.length_append, List.length_singleton]; omega, Lib.hid HB5.out, Lib.hid (fun x hx => by rcases List.mem_append.1 hx with h | h; exact hxs.out x h; rw [List.mem_singleton.1 h]; exact len_of (by decide) HX2.out), Lib.hid (by have := hqq.out; omega)⟩
        ·skip
         have hcall := one_at [[111, 116, 104, 101, 114], [99, 111, 114, 101], [114, 105, 110, 103], [98, 97, 100], [103, 111, 110, 101]] HB1.out HL1.out HG1.out (by have := Hq.out; omega) (by decide) (by decide)
         have HC := Lib.hid (show Calls Tryd.prog 16 #[.pointer (some ⟨tb, 0, none⟩), .slice (some ⟨R1, 0, none⟩) 5 5] w1 _ from hcall)
         clear hcall
         go_simp
         go_at_call 16
         refine Calls.mono (by with_reducible exact HC.out) ?_
         rintro e w2 ⟨x2, hx2, rfl, hB2, hk2⟩
         dsimp only
         have HB2 := Lib.hid hB2
         have HX2 := Lib.hid hx2
         clear hB2 hx2 hk2 HB1 HL1 HC
         have hS := True.intro
         clear hHeld
         refine hK.out _ _ hS (fun hHeld => ?_)
         try simp only [Act.put, List.setIfInBounds_toArray, List.set_cons_zero, List.set_cons_succ]
         clear hK
         refine wpAnyH_ready (rs := [1, 5]) (by kernel_rfl) (by simp) ?_
         refine AllReadyH.cons (o := ⟨some 46, .load 28 (.tmp 45), 28, "config.go:18", #[⟨0, .data⟩], none⟩) rfl (fun K hK => ?_) (AllReadyH.cons (o := ⟨some 50, .buildSlice 28 1 #[(0, .tmp 49)], 28, "config.go:18", #[⟨4, .data⟩], none⟩) rfl (fun K hK => ?_) AllReadyH.nil)
         ·skip
          have e1 : w2.cell? ⟨P, 3, none⟩ = some v := HB2.out.cell 3
          go_simp
          clear e1
          have hS := True.intro
          clear hHeld
          refine hK.out _ _ hS (fun hHeld => ?_)
          try simp only [Act.put, List.setIfInBounds_toArray, List.set_cons_zero, List.set_cons_succ]
          clear hK
          refine wpAnyH_ready (rs := [5]) (by kernel_rfl) (by simp) ?_
          refine AllReadyH.cons (o := ⟨some 50, .buildSlice 28 1 #[(0, .tmp 49)], 28, "config.go:18", #[⟨4, .data⟩], none⟩) rfl (fun K hK => ?_) AllReadyH.nil
          go_simp
          have hr3 := heap_alloc_last w2 (.cells #[.string (bs x2)] 9)
          have hk3 := (Kp.refl [] w2).alloc (.cells #[.string (bs x2)] 9)
          have HB3 := Lib.hid (HB2.out.kp0 hk3)
          obtain ⟨R3, hR3⟩ : ∃ R, w2.heap.size = R := ⟨_, rfl⟩
          generalize w2.alloc (.cells #[.string (bs x2)] 9) = w3 at *
          rw [hR3] at hr3 ⊢
          have HM3 := Lib.hid hr3
          have HR3 := Lib.hid hR3
          have HG3 := Lib.hid (show Bm ≤ R3 from by rw [← hR3]; exact HB2.out.szle)
          clear hr3 hk3 hR3 HB2
          have hS := True.intro
          clear hHeld
          refine hK.out _ _ hS (fun hHeld => ?_)
          try simp only [Act.put, List.setIfInBounds_toArray, List.set_cons_zero, List.set_cons_succ]
          clear hK
          refine wpAnyH_ready (rs := [6]) (by kernel_rfl) (by simp) ?_
          refine AllReadyH.cons (o := ⟨some 51, .call { callee := .builtin .append, args := #[.tmp 46, .tmp 50], argTypes := #[28, 28] }, 28, "config.go:18", #[⟨1, .data⟩, ⟨5, .data⟩, ⟨4, .chain⟩], none⟩) rfl (fun K hK => ?_) AllReadyH.nil
          obtain ⟨v4, w4, hrun, how, hgr⟩ := run_append_r (r := stT) (c := 1) x2 28 HB3.out.own (row_cell HM3.out rfl) (by have := Hxn.out; omega) HB3.out.szle
          have HB4 := Lib.hid (HB3.out.app how hgr)
          have HR := Lib.hid hrun
          clear hrun how hgr
          refine step_append_run rfl 28 _ _ rfl _ _ _ rfl rfl HR.out ?_
          clear HR HB3
          obtain ⟨va, vc, hvf⟩ := HB4.out.own.form
          obtain ⟨ln, hln⟩ : ∃ m, (xs ++ [x2]).length = m := ⟨_, rfl⟩
          rw [hln] at hvf
          subst hvf
          clear hln
          have hS := True.intro
          clear hHeld
          refine hK.out _ _ hS (fun hHeld => ?_)
          try simp only [Act.put, List.setIfInBounds_toArray, List.set_cons_zero, List.set_cons_succ]
          clear hK
          refine wpAnyH_take (i := 7) (oi := ⟨some 52, .fieldAddr 31 (.tmp 3) 3, 0, "config.go:18", #[⟨0, .phase⟩, ⟨1, .phase⟩, ⟨2, .phase⟩, ⟨3, .phase⟩, ⟨4, .phase⟩, ⟨5, .phase⟩, ⟨6, .phase⟩], none⟩) (v := .pointer (some ⟨P, 3, none⟩)) rfl (by kernel_rfl) (by kernel_rfl) (by kernel_rfl) (fun _ _ _ h => h) (Or.inl ⟨by rfl, fun w hSw => by (try dsimp only at hSw); go_simp⟩) hHeld ?_
          try simp only [Act.put, List.setIfInBounds_toArray, List.set_cons_zero, List.set_cons_succ]
          refine wpAnyH_ready (rs := [8]) (by kernel_rfl) (by simp) ?_
          refine AllReadyH.cons (o := ⟨none, .store 28 (.tmp 52) (.tmp 51), 0, "config.go:18", #[⟨7, .data⟩, ⟨6, .data⟩, ⟨6, .chain⟩, ⟨0, .phase⟩, ⟨1, .phase⟩, ⟨2, .phase⟩, ⟨3, .phase⟩, ⟨4, .phase⟩, ⟨5, .phase⟩, ⟨6, .phase⟩], none⟩) rfl (fun K hK => ?_) AllReadyH.nil
          have e1 : w4.cell? ⟨P, 3, none⟩ = some v := HB4.out.cell 3
          have e2 := HB4.out.frz
          have HB5 := Lib.hid (HB4.out.put 3 (.slice va ln vc))
          go_simp
          clear e1 e2
          generalize w4.setCell ⟨P, 3, none⟩ (.slice va ln vc) = w5 at *
          have hS := True.intro
          clear hHeld
          refine hK.out _ _ hS (fun hHeld => ?_)
          try simp only [Act.put, List.setIfInBounds_toArray, List.set_cons_zero, List.set_cons_succ]
          clear hK
          refine wpAnyH_done (by kernel_rfl) ?_ _
          clear hHeld
          go_wp2
          go_roundg gk
          case measure => omega
          case rel => exact ⟨(.slice va ln vc), xs ++ [x2], q + 1, by go_num, by have := Hxn.out; rw [List.length_append, List.length_singleton]; omega, Lib.hid HB5.out, Lib.hid (fun x hx => by rcases List.mem_append.1 hx with h | h; exact hxs.out x h; rw [List.mem_singleton.1 h]; exact len_of (by decide) HX2.out), Lib.hid (by have := hqq.out; omega)⟩
         ·skip
          go_simp
          have hr3 := heap_alloc_last w2 (.cells #[.string (bs x2)] 9)
          have hk3 := (Kp.refl [] w2).alloc (.cells #[.string (bs x2)] 9)
          have HB3 := Lib.hid (HB2.out.kp0 hk3)
          obtain ⟨R3, hR3⟩ : ∃ R, w2.heap.size = R := ⟨_, rfl⟩
          generalize w2.alloc (.cells #[.string (bs x2)] 9) = w3 at *
          rw [hR3] at hr3 ⊢
          have HM3 := Lib.hid hr3
          have HR3 := Lib.hid hR3
          have HG3 := Lib.hid (show Bm ≤ R3 from by rw [← hR3]; exact HB2.out.szle)
          clear hr3 hk3 hR3 HB2
          have hS := True.intro
          clear hHeld
          refine hK.out _ _ hS (fun hHeld => ?_)
          try simp only [Act.put, List.setIfInBounds_toArray, List.set_cons_zero, List.set_cons_succ]
          clear hK
          refine wpAnyH_ready (rs := [1]) (by kernel_rfl) (by simp) ?_
          refine AllReadyH.cons (o := ⟨some 46, .load 28 (.tmp 45), 28, "config.go:18", #[⟨0, .data⟩], none⟩) rfl (fun K hK => ?_) AllReadyH.nil
          have e1 : w3.cell? ⟨P, 3, none⟩ = some v := HB3.out.cell 3
          go_simp
          clear e1
          have hS := True.intro
          clear hHeld
          refine hK.out _ _ hS (fun hHeld => ?_)
          try simp only [Act.put, List.setIfInBounds_toArray, List.set_cons_zero, List.set_cons_succ]
          clear hK
          refine wpAnyH_ready (rs := [6]) (by kernel_rfl) (by simp) ?_
          refine AllReadyH.cons (o := ⟨some 51, .call { callee := .builtin .append, args := #[.tmp 46, .tmp 50], argTypes := #[28, 28] }, 28, "config.go:18", #[⟨1, .data⟩, ⟨5, .data⟩, ⟨4, .chain⟩], none⟩) rfl (fun K hK => ?_) AllReadyH.nil
          obtain ⟨v4, w4, hrun, how, hgr⟩ := run_append_r (r := stT) (c := 1) x2 28 HB3.out.own (row_cell HM3.out rfl) (by have := Hxn.out; omega) HB3.out.szle
          have HB4 := Lib.hid (HB3.out.app how hgr)
          have HR := Lib.hid hrun
          clear hrun how hgr
          refine step_append_run rfl 28 _ _ rfl _ _ _ rfl rfl HR.out ?_
          clear HR HB3
          obtain ⟨va, vc, hvf⟩ := HB4.out.own.form
          obtain ⟨ln, hln⟩ : ∃ m, (xs ++ [x2]).length = m := ⟨_, rfl⟩
          rw [hln] at hvf
          subst hvf
          clear hln
          have hS := True.intro
          clear hHeld
          refine hK.out _ _ hS (fun hHeld => ?_)
          try simp only [Act.put, List.setIfInBounds_toArray, List.set_cons_zero, List.set_cons_succ]
          clear hK
          refine wpAnyH_take (i := 7) (oi := ⟨some 52, .fieldAddr 31 (.tmp 3) 3, 0, "config.go:18", #[⟨0, .phase⟩, ⟨1, .phase⟩, ⟨2, .phase⟩, ⟨3, .phase⟩, ⟨4, .phase⟩, ⟨5, .phase⟩, ⟨6, .phase⟩], none⟩) (v := .pointer (some ⟨P, 3, none⟩)) rfl (by kernel_rfl) (by kernel_rfl) (by kernel_rfl) (fun _ _ _ h => h) (Or.inl ⟨by rfl, fun w hSw => by (try dsimp only at hSw); go_simp⟩) hHeld ?_
          try simp only [Act.put, List.setIfInBounds_toArray, List.set_cons_zero, List.set_cons_succ]
          refine wpAnyH_ready (rs := [8]) (by kernel_rfl) (by simp) ?_
          refine AllReadyH.cons (o := ⟨none, .store 28 (.tmp 52) (.tmp 51), 0, "config.go:18", #[⟨7, .data⟩, ⟨6, .data⟩, ⟨6, .chain⟩, ⟨0, .phase⟩, ⟨1, .phase⟩, ⟨2, .phase⟩, ⟨3, .phase⟩, ⟨4, .phase⟩, ⟨5, .phase⟩, ⟨6, .phase⟩], none⟩) rfl (fun K hK => ?_) AllReadyH.nil
          have e1 : w4.cell? ⟨P, 3, none⟩ = some v := HB4.out.cell 3
          have e2 := HB4.out.frz
          have HB5 := Lib.hid (HB4.out.put 3 (.slice va ln vc))
          go_simp
          clear e1 e2
          generalize w4.setCell ⟨P, 3, none⟩ (.slice va ln vc) = w5 at *
          have hS := True.intro
          clear hHeld
          refine hK.out _ _ hS (fun hHeld => ?_)
          try simp only [Act.put, List.setIfInBounds_toArray, List.set_cons_zero, List.set_cons_succ]
          clear hK
          refine wpAnyH_done (by kernel_rfl) ?_ _
          clear hHeld
          go_wp2
          go_roundg gk
          case measure => omega
          case rel => exact ⟨(.slice va ln vc), xs ++ [x2], q + 1, by go_num, by have := Hxn.out; rw [List.length_append, List.length_singleton]; omega, Lib.hid HB5.out, Lib.hid (fun x hx => by rcases List.mem_append.1 hx with h | h; exact hxs.out x h; rw [List.mem_singleton.1 h]; exact len_of (by decide) HX2.out), Lib.hid (by have := hqq.out; omega)⟩
      | zero =>
       have hz : ¬ ((0 : Int) < ((0 : Nat) : Int)) := by omega
       obtain ⟨a3, c3, hv3⟩ := HBn.out.own.form
       obtain ⟨v3v, hvv⟩ : ∃ u, v = u := ⟨_, rfl⟩
       rw [hvv] at HBn hv3
       clear hvv
       obtain ⟨xs3, hxx⟩ : ∃ u, xs = u := ⟨_, rfl⟩
       rw [hxx] at HBn hxs hxl hv3
       clear hxx
       have HOw3 := Lib.hid HBn.out.own
       have Hxs3 := hxs
       have Hxl3 := Lib.hid hxl
       have Hsl3 := Lib.hid (show ∃ a n c, v3v = .slice a n c from ⟨_, _, _, hv3⟩)
       have HOw1 := Lib.hid (HOw1.out.kp HBn.out.K (fun b hb hm => by have := (HOw1.out.ge b hb).1; have := HtP.out; have := HB11.out; simp at hm; omega))
       have HOw2 := Lib.hid (HOw2.out.kp HBn.out.K (fun b hb hm => by have := (HOw2.out.ge b hb).1; have := HtP.out; have := HB12.out; simp at hm; omega))
       have HB13 := Lib.hid (show P < Bm from HBn.out.PB)
       obtain ⟨B3m, hBB⟩ : ∃ b, Bm = b := ⟨_, rfl⟩
       rw [hBB] at HOw3 HB13
       clear hBB
       have Hbox4 := Lib.hid HBn.out.box
       have HT4 := Lib.hid HBn.out.T
       have Hq4 := Lib.hid (show q ≤ k + 15 from by have := hqq.out; have := Hq3.out; omega)
       have HKc4 := Lib.hid (HKm.out.trans HBn.out.K)
       obtain ⟨q4, hqe⟩ : ∃ u, q = u := ⟨_, rfl⟩
       rw [hqe] at HT4 Hq4
       clear hqe HBn hxs hxl hqq hv3
       -- loop 4
       have HN := Lib.hid (show Calls Tryd.prog 15 #[.pointer (some ⟨tb, 0, none⟩), .int .i64 3] wr (fun e w' => ∃ r : Nat, r < 3 ∧ e = .returned (.int .i64 r) ∧ Tp w' tb (q4 + 1) ∧ Kp [tb] wr w') from next_kp 3 (by decide) (by decide) (by have := Hq4.out; omega) HT4.out)
       go_wp2_with fail
       refine Calls.mono (by with_reducible exact HN.out) ?_
       rintro e W1 ⟨r, hr, rfl, hT1, hk1⟩
       have hbx : W1.heap[P]? = some (.cells #[mv, v1v, v2v, v3v, .slice none 0 0] 31 (0, 0)) := (hk1.block P (block_lt Hbox4.out) (by have := HtP.out; simp; omega)).trans Hbox4.out
       have Hst := Lib.hid (Bn.start (r := atT) hbx hT1 HtP.out)
       have HKm := Lib.hid (HKc4.out.trans (hk1.mono (by simp)))
       have HOw1 := Lib.hid (HOw1.out.kp hk1 (fun b hb hm => by have := (HOw1.out.ge b hb).1; have := HtP.out; have := HB11.out; simp at hm; omega))
       have HOw2 := Lib.hid (HOw2.out.kp hk1 (fun b hb hm => by have := (HOw2.out.ge b hb).1; have := HtP.out; have := HB12.out; simp at hm; omega))
       have HOw3 := Lib.hid (HOw3.out.kp hk1 (fun b hb hm => by have := (HOw3.out.ge b hb).1; have := HtP.out; have := HB13.out; simp at hm; omega))
       clear hbx hT1 hk1 HN HT4 Hbox4
       obtain ⟨Bm, hBm⟩ : ∃ b, W1.heap.size = b := ⟨_, rfl⟩
       have HBm := Lib.hid hBm
       rw [hBm] at Hst
       clear hBm
       go_wp2
       go_loopg [7] r (fun g s wx => ∃ (v : Value) (xs : List (Tx × Tx)) (q : Nat), s = .int .i64 (g : Int) ∧ xs.length + g ≤ 2 ∧ Hid (Bn atT W1 wx tb P Bm #[mv, v1v, v2v, v3v, v] v xs q) ∧ Hid (∀ x ∈ xs, (x.1.length ≤ 10 ∧ x.2.length ≤ 10)) ∧ Hid (q + 2 * g ≤ q4 + 5))
       case atStart => exact ⟨_, [], q4 + 1, rfl, by simp; omega, Hst, Lib.hid (by simp), Lib.hid (by omega)⟩
       case round =>
        clear Hst
        obtain ⟨v, xs, q, rfl, hxl, HBn, hxs, hqq⟩ := hrel
        cases gk with
        | succ gk =>
         have hz : (0 : Int) < ((gk + 1 : Nat) : Int) := by omega
         have Hxn := Lib.hid hxl
         have Hq := Lib.hid (show q + 10 ≤ 1000000 from by have := hqq.out; have := Hq4.out; omega)
         have HtP2 := HtP
         go_wp2
         refine wp_region_held_drew (S := fun _ => True) (by kernel_rfl) True.intro (fun hHeld => ?_)
         have HB0 := Lib.hid (HBn.out.kp0 ((Kp.refl [] _).drew 1))
         have e9 : World.drewN wr 1 = World.drew wr := rfl
         rw [e9] at HB0
         generalize wr.drew = w0 at *
         clear e9
         refine wpAnyH_take (i := 0) (oi := ⟨some 59, .fieldAddr 31 (.tmp 3) 4, 0, "config.go:21", #[], none⟩) (v := .pointer (some ⟨P, 4, none⟩)) rfl (by kernel_rfl) (by kernel_rfl) (by kernel_rfl) (fun _ _ _ h => h) (Or.inl ⟨by rfl, fun w hSw => by (try dsimp only at hSw); go_simp⟩) hHeld ?_
         try simp only [Act.put, List.setIfInBounds_toArray, List.set_cons_zero, List.set_cons_succ]
         refine wpAnyH_take (i := 2) (oi := ⟨some 61, .move (.tmp 0), 24, "config.go:21", #[], none⟩) (v := .pointer (some ⟨tb, 0, none⟩)) rfl (by kernel_rfl) (by kernel_rfl) (by kernel_rfl) (fun _ _ _ h => h) (Or.inl ⟨by rfl, fun w hSw => by (try dsimp only at hSw); go_simp⟩) hHeld ?_
         try simp only [Act.put, List.setIfInBounds_toArray, List.set_cons_zero, List.set_cons_succ]
         refine wpAnyH_take (i := 5) (oi := ⟨some 64, .move (.tmp 0), 24, "config.go:21", #[], none⟩) (v := .pointer (some ⟨tb, 0, none⟩)) rfl (by kernel_rfl) (by kernel_rfl) (by kernel_rfl) (fun _ _ _ h => h) (Or.inl ⟨by rfl, fun w hSw => by (try dsimp only at hSw); go_simp⟩) hHeld ?_
         try simp only [Act.put, List.setIfInBounds_toArray, List.set_cons_zero, List.set_cons_succ]
         refine wpAnyH_ready (rs := [1, 3, 6]) (by kernel_rfl) (by simp) ?_
         refine AllReadyH.cons (o := ⟨some 60, .load 29 (.tmp 59), 29, "config.go:21", #[⟨0, .data⟩], none⟩) rfl (fun K hK => ?_) (AllReadyH.cons (o := ⟨some 62, .buildSlice 28 5 #[(0, .const (.string { data := #[117, 115, 98, 58, 42] })), (1, .const (.string { data := #[112, 99, 105, 58, 100, 50] })), (2, .const (.string { data := #[120, 58, 63] })), (3, .const (.string { data := #[91] })), (4, .const (.string { data := #[118, 105, 114, 116, 42] }))], 28, "config.go:21", #[], none⟩) rfl (fun K hK => ?_) (AllReadyH.cons (o := ⟨some 65, .buildSlice 28 4 #[(0, .const (.string { data := #[104, 105, 100] })), (1, .const (.string { data := #[101, 120, 116, 114, 97] })), (2, .const (.string { data := #[103, 111, 110, 101] })), (3, .const (.string { data := #[98, 97, 100] }))], 28, "config.go:21", #[], none⟩) rfl (fun K hK => ?_) AllReadyH.nil))
         ·skip
          have e1 : w0.cell? ⟨P, 4, none⟩ = some v := HB0.out.cell 4
          go_simp
          clear e1
          have hS := True.intro
          clear hHeld
          refine hK.out _ _ hS (fun hHeld => ?_)
          try simp only [Act.put, List.setIfInBounds_toArray, List.set_cons_zero, List.set_cons_succ]
          clear hK
          refine wpAnyH_ready (rs := [3, 6]) (by kernel_rfl) (by simp) ?_
          refine AllReadyH.cons (o := ⟨some 62, .buildSlice 28 5 #[(0, .const (.string { data := #[117, 115, 98, 58, 42] })), (1, .const (.string { data := #[112, 99, 105, 58, 100, 50] })), (2, .const (.string { data := #[120, 58, 63] })), (3, .const (.string { data := #[91] })), (4, .const (.string { data := #[118, 105, 114, 116, 42] }))], 28, "config.go:21", #[], none⟩) rfl (fun K hK => ?_) (AllReadyH.cons (o := ⟨some 65, .buildSlice 28 4 #[(0, .const (.string { data := #[104, 105, 100] })), (1, .const (.string { data := #[101, 120, 116, 114, 97] })), (2, .const (.string { data := #[103, 111, 110, 101] })), (3, .const (.string { data := #[98, 97, 100] }))], 28, "config.go:21", #[], none⟩) rfl (fun K hK => ?_) AllReadyH.nil)
          ·skip
           go_simp
           have hr1 := heap_alloc_last w0 (.cells #[.string ⟨#[117, 115, 98, 58, 42]⟩, .string ⟨#[112, 99, 105, 58, 100, 50]⟩, .string ⟨#[120, 58, 63]⟩, .string ⟨#[91]⟩, .string ⟨#[118, 105, 114, 116, 42]⟩] 9)
           have hk1 := (Kp.refl [] w0).alloc (.cells #[.string ⟨#[117, 115, 98, 58, 42]⟩, .string ⟨#[112, 99, 105, 58, 100, 50]⟩, .string ⟨#[120, 58, 63]⟩, .string ⟨#[91]⟩, .string ⟨#[118, 105, 114, 116, 42]⟩] 9)
           have HB1 := Lib.hid (HB0.out.kp0 hk1)
           obtain ⟨R1, hR1⟩ : ∃ R, w0.heap.size = R := ⟨_, rfl⟩
           generalize w0.alloc (.cells #[.string ⟨#[117, 115, 98, 58, 42]⟩, .string ⟨#[112, 99, 105, 58, 100, 50]⟩, .string ⟨#[120, 58, 63]⟩, .string ⟨#[91]⟩, .string ⟨#[118, 105, 114, 116, 42]⟩] 9) = w1 at *
           rw [hR1] at hr1 ⊢
           have HL1 := Lib.hid hr1
           have HR1 := Lib.hid hR1
           have HG1 := Lib.hid (show Bm ≤ R1 from by rw [← hR1]; exact HB0.out.szle)
           clear hr1 hk1 hR1 HB0
           have hS := True.intro
           clear hHeld
           refine hK.out _ _ hS (fun hHeld => ?_)
           try simp only [Act.put, List.setIfInBounds_toArray, List.set_cons_zero, List.set_cons_succ]
           clear hK
           refine wpAnyH_ready (rs := [4, 6]) (by kernel_rfl) (by simp) ?_
           refine AllReadyH.cons (o := ⟨some 63, .call { callee := .value (.func 16), args := #[.tmp 61, .tmp 62], argTypes := #[24, 28] }, 9, "config.go:21", #[⟨2, .data⟩, ⟨3, .data⟩], none⟩) rfl (fun K hK => ?_) (AllReadyH.cons (o := ⟨some 65, .buildSlice 28 4 #[(0, .const (.string { data := #[104, 105, 100] })), (1, .const (.string { data := #[101, 120, 116, 114, 97] })), (2, .const (.string { data := #[103, 111, 110, 101] })), (3, .const (.string { data := #[98, 97, 100] }))], 28, "config.go:21", #[], none⟩) rfl (fun K hK => ?_) AllReadyH.nil)
           ·skip
            have hcall := one_at [[117, 115, 98, 58, 42], [112, 99, 105, 58, 100, 50], [120, 58, 63], [91], [118, 105, 114, 116, 42]] HB1.out HL1.out HG1.out (by have := Hq.out; omega) (by decide) (by decide)
            have HC := Lib.hid (show Calls Tryd.prog 16 #[.pointer (some ⟨tb, 0, none⟩), .slice (some ⟨R1, 0, none⟩) 5 5] w1 _ from hcall)
            clear hcall
            go_simp
            go_at_call 16
            refine Calls.mono (by with_reducible exact HC.out) ?_
            rintro e w2 ⟨x2, hx2, rfl, hB2, hk2⟩
            dsimp only
            have HB2 := Lib.hid hB2
            have HX2 := Lib.hid hx2
            clear hB2 hx2 hk2 HB1 HL1 HC
            have hS := True.intro
            clear hHeld
            refine hK.out _ _ hS (fun hHeld => ?_)
            try simp only [Act.put, List.setIfInBounds_toArray, List.set_cons_zero, List.set_cons_succ]
            clear hK
            refine wpAnyH_ready (rs := [6]) (by kernel_rfl) (by simp) ?_
            refine AllReadyH.cons (o := ⟨some 65, .buildSlice 28 4 #[(0, .const (.string { data := #[104, 105, 100] })), (1, .const (.string { data := #[101, 120, 116, 114, 97] })), (2, .const (.string { data := #[103, 111, 110, 101] })), (3, .const (.string { data := #[98, 97, 100] }))], 28, "config.go:21", #[], none⟩) rfl (fun K hK => ?_) AllReadyH.nil
            go_simp
            have hr3 := heap_alloc_last w2 (.cells #[.string ⟨#[104, 105, 100]⟩, .string ⟨#[101, 120, 116, 114, 97]⟩, .string ⟨#[103, 111, 110, 101]⟩, .string ⟨#[98, 97, 100]⟩] 9)
            have hk3 := (Kp.refl [] w2).alloc (.cells #[.string ⟨#[104, 105, 100]⟩, .string ⟨#[101, 120, 116, 114, 97]⟩, .string ⟨#[103, 111, 110, 101]⟩, .string ⟨#[98, 97, 100]⟩] 9)
            have HB3 := Lib.hid (HB2.out.kp0 hk3)
            obtain ⟨R3, hR3⟩ : ∃ R, w2.heap.size = R := ⟨_, rfl⟩
            generalize w2.alloc (.cells #[.string ⟨#[104, 105, 100]⟩, .string ⟨#[101, 120, 116, 114, 97]⟩, .string ⟨#[103, 111, 110, 101]⟩, .string ⟨#[98, 97, 100]⟩] 9) = w3 at *
            rw [hR3] at hr3 ⊢
            have HL3 := Lib.hid hr3
            have HR3 := Lib.hid hR3
            have HG3 := Lib.hid (show Bm ≤ R3 from by rw [← hR3]; exact HB2.out.szle)
            clear hr3 hk3 hR3 HB2
            have hS := True.intro
            clear hHeld
            refine hK.out _ _ hS (fun hHeld => ?_)
            try simp only [Act.put, List.setIfInBounds_toArray, List.set_cons_zero, List.set_cons_succ]
            clear hK
            refine wpAnyH_ready (rs := [7]) (by kernel_rfl) (by simp) ?_
            refine AllReadyH.cons (o := ⟨some 66, .call { callee := .value (.func 16), args := #[.tmp 64, .tmp 65], argTypes := #[24, 28] }, 9, "config.go:21", #[⟨5, .data⟩, ⟨6, .data⟩, ⟨4, .chain⟩], none⟩) rfl (fun K hK => ?_) AllReadyH.nil
            have hcall := one_at [[104, 105, 100], [101, 120, 116, 114, 97], [103, 111, 110, 101], [98, 97, 100]] HB3.out HL3.out HG3.out (by have := Hq.out; omega) (by decide) (by decide)
            have HC := Lib.hid (show Calls Tryd.prog 16 #[.pointer (some ⟨tb, 0, none⟩), .slice (some ⟨R3, 0, none⟩) 4 4] w3 _ from hcall)
            clear hcall
            go_simp
            go_at_call 16
            refine Calls.mono (by with_reducible exact HC.out) ?_
            rintro e w4 ⟨x4, hx4, rfl, hB4, hk4⟩
            dsimp only
            have HB4 := Lib.hid hB4
            have HX4 := Lib.hid hx4
            clear hB4 hx4 hk4 HB3 HL3 HC
            have hS := True.intro
            clear hHeld
            refine hK.out _ _ hS (fun hHeld => ?_)
            try simp only [Act.put, List.setIfInBounds_toArray, List.set_cons_zero, List.set_cons_succ]
            clear hK
            refine wpAnyH_take (i := 8) (oi := ⟨some 67, .build 48 #[(0, .tmp 63), (1, .tmp 66)], 48, "config.go:21", #[⟨4, .data⟩, ⟨7, .data⟩], none⟩) (v := .agg #[.string (bs x2), .string (bs x4)]) rfl (by kernel_rfl) (by kernel_rfl) (by kernel_rfl) (fun _ _ _ h => h) (Or.inl ⟨by rfl, fun w hSw => by (try dsimp only at hSw); go_simp⟩) hHeld ?_
            try simp only [Act.put, List.setIfInBounds_toArray, List.set_cons_zero, List.set_cons_succ]
            refine wpAnyH_ready (rs := [9]) (by kernel_rfl) (by simp) ?_
            refine AllReadyH.cons (o := ⟨some 68, .buildSlice 29 1 #[(0, .tmp 67)], 29, "config.go:21", #[⟨8, .data⟩], none⟩) rfl (fun K hK => ?_) AllReadyH.nil
            go_simp
            have hr5 := heap_alloc_last w4 (.cells #[.string (bs x2), .string (bs x4)] 48)
            have hk5 := (Kp.refl [] w4).alloc (.cells #[.string (bs x2), .string (bs x4)] 48)
            have HB5 := Lib.hid (HB4.out.kp0 hk5)
            obtain ⟨R5, hR5⟩ : ∃ R, w4.heap.size = R := ⟨_, rfl⟩
            generalize w4.alloc (.cells #[.string (bs x2), .string (bs x4)] 48) = w5 at *
            rw [hR5] at hr5 ⊢
            have HM5 := Lib.hid hr5
            have HR5 := Lib.hid hR5
            have HG5 := Lib.hid (show Bm ≤ R5 from by rw [← hR5]; exact HB4.out.szle)
            clear hr5 hk5 hR5 HB4
            have hS := True.intro
            clear hHeld
            refine hK.out _ _ hS (fun hHeld => ?_)
            try simp only [Act.put, List.setIfInBounds_toArray, List.set_cons_zero, List.set_cons_succ]
            clear hK
            refine wpAnyH_ready (rs := [10]) (by kernel_rfl) (by simp) ?_
            refine AllReadyH.cons (o := ⟨some 69, .call { callee := .builtin .append, args := #[.tmp 60, .tmp 68], argTypes := #[29, 29] }, 29, "config.go:21", #[⟨1, .data⟩, ⟨9, .data⟩, ⟨7, .chain⟩], none⟩) rfl (fun K hK => ?_) AllReadyH.nil
            obtain ⟨v6, w6, hrun, how, hgr⟩ := run_append_r (r := atT) (c := 1) (x2, x4) 29 HB5.out.own (row_cell HM5.out rfl) (by have := Hxn.out; omega) HB5.out.szle
            have HB6 := Lib.hid (HB5.out.app how hgr)
            have HR := Lib.hid hrun
            clear hrun how hgr
            refine step_append_run rfl 29 _ _ rfl _ _ _ rfl rfl HR.out ?_
            clear HR HB5
            obtain ⟨va, vc, hvf⟩ := HB6.out.own.form
            obtain ⟨ln, hln⟩ : ∃ m, (xs ++ [(x2, x4)]).length = m := ⟨_, rfl⟩
            rw [hln] at hvf
            subst hvf
            clear hln
            have hS := True.intro
            clear hHeld
            refine hK.out _ _ hS (fun hHeld => ?_)
            try simp only [Act.put, List.setIfInBounds_toArray, List.set_cons_zero, List.set_cons_succ]
            clear hK
            refine wpAnyH_take (i := 11) (oi := ⟨some 70, .fieldAddr 31 (.tmp 3) 4, 0, "config.go:21", #[⟨0, .phase⟩, ⟨1, .phase⟩, ⟨2, .phase⟩, ⟨3, .phase⟩, ⟨4, .phase⟩, ⟨5, .phase⟩, ⟨6, .phase⟩, ⟨7, .phase⟩, ⟨8, .phase⟩, ⟨9, .phase⟩, ⟨10, .phase⟩], none⟩) (v := .pointer (some ⟨P, 4, none⟩)) rfl (by kernel_rfl) (by kernel_rfl) (by kernel_rfl) (fun _ _ _ h => h) (Or.inl ⟨by rfl, fun w hSw => by (try dsimp only at hSw); go_simp⟩) hHeld ?_
            try simp only [Act.put, List.setIfInBounds_toArray, List.set_cons_zero, List.set_cons_succ]
            refine wpAnyH_ready (rs := [12]) (by kernel_rfl) (by simp) ?_
            refine AllReadyH.cons (o := ⟨none, .store 29 (.tmp 70) (.tmp 69), 0, "config.go:21", #[⟨11, .data⟩, ⟨10, .data⟩, ⟨10, .chain⟩, ⟨0, .phase⟩, ⟨1, .phase⟩, ⟨2, .phase⟩, ⟨3, .phase⟩, ⟨4, .phase⟩, ⟨5, .phase⟩, ⟨6, .phase⟩, ⟨7, .phase⟩, ⟨8, .phase⟩, ⟨9, .phase⟩, ⟨10, .phase⟩], none⟩) rfl (fun K hK => ?_) AllReadyH.nil
            have e1 : w6.cell? ⟨P, 4, none⟩ = some v := HB6.out.cell 4
            have e2 := HB6.out.frz
            have HB7 := Lib.hid (HB6.out.put 4 (.slice va ln vc))
            go_simp
            clear e1 e2
            generalize w6.setCell ⟨P, 4, none⟩ (.slice va ln vc) = w7 at *
            have hS := True.intro
            clear hHeld
            refine hK.out _ _ hS (fun hHeld => ?_)
            try simp only [Act.put, List.setIfInBounds_toArray, List.set_cons_zero, List.set_cons_succ]
            clear hK
            refine wpAnyH_done (by kernel_rfl) ?_ _
            clear hHeld
            go_wp2
            go_roundg gk
            case measure => omega
            case rel => exact ⟨(.slice va ln vc), xs ++ [(x2, x4)], q + 2, by go_num, by have := Hxn.out; rw [List.length_append, List.length_singleton]; omega, Lib.hid HB7.out, Lib.hid (fun x hx => by rcases List.mem_append.1 hx with h | h; exact hxs.out x h; rw [List.mem_singleton.1 h]; exact ⟨len_of (by decide) HX2.out, len_of (by decide) HX4.out⟩), Lib.hid (by have := hqq.out; omega)⟩
           ·skip
            go_simp
            have hr2 := heap_alloc_last w1 (.cells #[.string ⟨#[104, 105, 100]⟩, .string ⟨#[101, 120, 116, 114, 97]⟩, .string ⟨#[103, 111, 110, 101]⟩, .string ⟨#[98, 97, 100]⟩] 9)
            have hk2 := (Kp.refl [] w1).alloc (.cells #[.string ⟨#[104, 105, 100]⟩, .string ⟨#[101, 120, 116, 114, 97]⟩, .string ⟨#[103, 111, 110, 101]⟩, .string ⟨#[98, 97, 100]⟩] 9)
            have HB2 := Lib.hid (HB1.out.kp0 hk2)
            have HL1 := Lib.hid ((hk2.block R1 (block_lt HL1.out) (by simp)).trans HL1.out)
            obtain ⟨R2, hR2⟩ : ∃ R, w1.heap.size = R := ⟨_, rfl⟩
            generalize w1.alloc (.cells #[.string ⟨#[104, 105, 100]⟩, .string ⟨#[101, 120, 116, 114, 97]⟩, .string ⟨#[103, 111, 110, 101]⟩, .string ⟨#[98, 97, 100]⟩] 9) = w2 at *
            rw [hR2] at hr2 ⊢
            have HL2 := Lib.hid hr2
            have HR2 := Lib.hid hR2
            have HG2 := Lib.hid (show Bm ≤ R2 from by rw [← hR2]; exact HB1.out.szle)
            clear hr2 hk2 hR2 HB1
            have hS := True.intro
            clear hHeld
            refine hK.out _ _ hS (fun hHeld => ?_)
            try simp only [Act.put, List.setIfInBounds_toArray, List.set_cons_zero, List.set_cons_succ]
            clear hK
            refine wpAnyH_ready (rs := [4]) (by kernel_rfl) (by simp) ?_
            refine AllReadyH.cons (o := ⟨some 63, .call { callee := .value (.func 16), args := #[.tmp 61, .tmp 62], argTypes := #[24, 28] }, 9, "config.go:21", #[⟨2, .data⟩, ⟨3, .data⟩], none⟩) rfl (fun K hK => ?_) AllReadyH.nil
            have hcall := one_at [[117, 115, 98, 58, 42], [112, 99, 105, 58, 100, 50], [120, 58, 63], [91], [118, 105, 114, 116, 42]] HB2.out HL1.out HG1.out (by have := Hq.out; omega) (by decide) (by decide)
            have HC := Lib.hid (show Calls Tryd.prog 16 #[.pointer (some ⟨tb, 0, none⟩), .slice (some ⟨R1, 0, none⟩) 5 5] w2 _ from hcall)
            clear hcall
            go_simp
            go_at_call 16
            refine Calls.mono (by with_reducible exact HC.out) ?_
            rintro e w3 ⟨x3, hx3, rfl, hB3, hk3⟩
            dsimp only
            have HB3 := Lib.hid hB3
            have HX3 := Lib.hid hx3
            have HL2 := Lib.hid ((hk3.block R2 (block_lt HL2.out) (by have := HB3.out.lt; have := HB3.out.PB; have := HG2.out; simp; omega)).trans HL2.out)
            clear hB3 hx3 hk3 HB2 HL1 HC
            have hS := True.intro
            clear hHeld
            refine hK.out _ _ hS (fun hHeld => ?_)
            try simp only [Act.put, List.setIfInBounds_toArray, List.set_cons_zero, List.set_cons_succ]
            clear hK
            refine wpAnyH_ready (rs := [7]) (by kernel_rfl) (by simp) ?_
            refine AllReadyH.cons (o := ⟨some 66, .call { callee := .value (.func 16), args := #[.tmp 64, .tmp 65], argTypes := #[24, 28] }, 9, "config.go:21", #[⟨5, .data⟩, ⟨6, .data⟩, ⟨4, .chain⟩], none⟩) rfl (fun K hK => ?_) AllReadyH.nil
            have hcall := one_at [[104, 105, 100], [101, 120, 116, 114, 97], [103, 111, 110, 101], [98, 97, 100]] HB3.out HL2.out HG2.out (by have := Hq.out; omega) (by decide) (by decide)
            have HC := Lib.hid (show Calls Tryd.prog 16 #[.pointer (some ⟨tb, 0, none⟩), .slice (some ⟨R2, 0, none⟩) 4 4] w3 _ from hcall)
            clear hcall
            go_simp
            go_at_call 16
            refine Calls.mono (by with_reducible exact HC.out) ?_
            rintro e w4 ⟨x4, hx4, rfl, hB4, hk4⟩
            dsimp only
            have HB4 := Lib.hid hB4
            have HX4 := Lib.hid hx4
            clear hB4 hx4 hk4 HB3 HL2 HC
            have hS := True.intro
            clear hHeld
            refine hK.out _ _ hS (fun hHeld => ?_)
            try simp only [Act.put, List.setIfInBounds_toArray, List.set_cons_zero, List.set_cons_succ]
            clear hK
            refine wpAnyH_take (i := 8) (oi := ⟨some 67, .build 48 #[(0, .tmp 63), (1, .tmp 66)], 48, "config.go:21", #[⟨4, .data⟩, ⟨7, .data⟩], none⟩) (v := .agg #[.string (bs x3), .string (bs x4)]) rfl (by kernel_rfl) (by kernel_rfl) (by kernel_rfl) (fun _ _ _ h => h) (Or.inl ⟨by rfl, fun w hSw => by (try dsimp only at hSw); go_simp⟩) hHeld ?_
            try simp only [Act.put, List.setIfInBounds_toArray, List.set_cons_zero, List.set_cons_succ]
            refine wpAnyH_ready (rs := [9]) (by kernel_rfl) (by simp) ?_
            refine AllReadyH.cons (o := ⟨some 68, .buildSlice 29 1 #[(0, .tmp 67)], 29, "config.go:21", #[⟨8, .data⟩], none⟩) rfl (fun K hK => ?_) AllReadyH.nil
            go_simp
            have hr5 := heap_alloc_last w4 (.cells #[.string (bs x3), .string (bs x4)] 48)
            have hk5 := (Kp.refl [] w4).alloc (.cells #[.string (bs x3), .string (bs x4)] 48)
            have HB5 := Lib.hid (HB4.out.kp0 hk5)
            obtain ⟨R5, hR5⟩ : ∃ R, w4.heap.size = R := ⟨_, rfl⟩
            generalize w4.alloc (.cells #[.string (bs x3), .string (bs x4)] 48) = w5 at *
            rw [hR5] at hr5 ⊢
            have HM5 := Lib.hid hr5
            have HR5 := Lib.hid hR5
            have HG5 := Lib.hid (show Bm ≤ R5 from by rw [← hR5]; exact HB4.out.szle)
            clear hr5 hk5 hR5 HB4
            have hS := True.intro
            clear hHeld
            refine hK.out _ _ hS (fun hHeld => ?_)
            try simp only [Act.put, List.setIfInBounds_toArray, List.set_cons_zero, List.set_cons_succ]
            clear hK
            refine wpAnyH_ready (rs := [10]) (by kernel_rfl) (by simp) ?_
            refine AllReadyH.cons (o := ⟨some 69, .call { callee := .builtin .append, args := #[.tmp 60, .tmp 68], argTypes := #[29, 29] }, 29, "config.go:21", #[⟨1, .data⟩, ⟨9, .data⟩, ⟨7, .chain⟩], none⟩) rfl (fun K hK => ?_) AllReadyH.nil
            obtain ⟨v6, w6, hrun, how, hgr⟩ := run_append_r (r := atT) (c := 1) (x3, x4) 29 HB5.out.own (row_cell HM5.out rfl) (by have := Hxn.out; omega) HB5.out.szle
            have HB6 := Lib.hid (HB5.out.app how hgr)
            have HR := Lib.hid hrun
            clear hrun how hgr
            refine step_append_run rfl 29 _ _ rfl _ _ _ rfl rfl HR.out ?_
            clear HR HB5
            obtain ⟨va, vc, hvf⟩ := HB6.out.own.form
            obtain ⟨ln, hln⟩ : ∃ m, (xs ++ [(x3, x4)]).length = m := ⟨_, rfl⟩
            rw [hln] at hvf
            subst hvf
            clear hln
            have hS := True.intro
            clear hHeld
            refine hK.out _ _ hS (fun hHeld => ?_)
            try simp only [Act.put, List.setIfInBounds_toArray, List.set_cons_zero, List.set_cons_succ]
            clear hK
            refine wpAnyH_take (i := 11) (oi := ⟨some 70, .fieldAddr 31 (.tmp 3) 4, 0, "config.go:21", #[⟨0, .phase⟩, ⟨1, .phase⟩, ⟨2, .phase⟩, ⟨3, .phase⟩, ⟨4, .phase⟩, ⟨5, .phase⟩, ⟨6, .phase⟩, ⟨7, .phase⟩, ⟨8, .phase⟩, ⟨9, .phase⟩, ⟨10, .phase⟩], none⟩) (v := .pointer (some ⟨P, 4, none⟩)) rfl (by kernel_rfl) (by kernel_rfl) (by kernel_rfl) (fun _ _ _ h => h) (Or.inl ⟨by rfl, fun w hSw => by (try dsimp only at hSw); go_simp⟩) hHeld ?_
            try simp only [Act.put, List.setIfInBounds_toArray, List.set_cons_zero, List.set_cons_succ]
            refine wpAnyH_ready (rs := [12]) (by kernel_rfl) (by simp) ?_
            refine AllReadyH.cons (o := ⟨none, .store 29 (.tmp 70) (.tmp 69), 0, "config.go:21", #[⟨11, .data⟩, ⟨10, .data⟩, ⟨10, .chain⟩, ⟨0, .phase⟩, ⟨1, .phase⟩, ⟨2, .phase⟩, ⟨3, .phase⟩, ⟨4, .phase⟩, ⟨5, .phase⟩, ⟨6, .phase⟩, ⟨7, .phase⟩, ⟨8, .phase⟩, ⟨9, .phase⟩, ⟨10, .phase⟩], none⟩) rfl (fun K hK => ?_) AllReadyH.nil
            have e1 : w6.cell? ⟨P, 4, none⟩ = some v := HB6.out.cell 4
            have e2 := HB6.out.frz
            have HB7 := Lib.hid (HB6.out.put 4 (.slice va ln vc))
            go_simp
            clear e1 e2
            generalize w6.setCell ⟨P, 4, none⟩ (.slice va ln vc) = w7 at *
            have hS := True.intro
            clear hHeld
            refine hK.out _ _ hS (fun hHeld => ?_)
            try simp only [Act.put, List.setIfInBounds_toArray, List.set_cons_zero, List.set_cons_succ]
            clear hK
            refine wpAnyH_done (by kernel_rfl) ?_ _
            clear hHeld
            go_wp2
            go_roundg gk
            case measure => omega
            case rel => exact ⟨(.slice va ln vc), xs ++ [(x3, x4)], q + 2, by go_num, by have := Hxn.out; rw [List.length_append, List.length_singleton]; omega, Lib.hid HB7.out, Lib.hid (fun x hx => by rcases List.mem_append.1 hx with h | h; exact hxs.out x h; rw [List.mem_singleton.1 h]; exact ⟨len_of (by decide) HX3.out, len_of (by decide) HX4.out⟩), Lib.hid (by have := hqq.out; omega)⟩
          ·skip
           go_simp
           have hr1 := heap_alloc_last w0 (.cells #[.string ⟨#[104, 105, 100]⟩, .string ⟨#[101, 120, 116, 114, 97]⟩, .string ⟨#[103, 111, 110, 101]⟩, .string ⟨#[98, 97, 100]⟩] 9)
           have hk1 := (Kp.refl [] w0).alloc (.cells #[.string ⟨#[104, 105, 100]⟩, .string ⟨#[101, 120, 116, 114, 97]⟩, .string ⟨#[103, 111, 110, 101]⟩, .string ⟨#[98, 97, 100]⟩] 9)
           have HB1 := Lib.hid (HB0.out.kp0 hk1)
           obtain ⟨R1, hR1⟩ : ∃ R, w0.heap.size = R := ⟨_, rfl⟩
           generalize w0.alloc (.cells #[.string ⟨#[104, 105, 100]⟩, .string ⟨#[101, 120, 116, 114, 97]⟩, .string ⟨#[103, 111, 110, 101]⟩, .string ⟨#[98, 97, 100]⟩] 9) = w1 at *
           rw [hR1] at hr1 ⊢
           have HL1 := Lib.hid hr1
           have HR1 := Lib.hid hR1
           have HG1 := Lib.hid (show Bm ≤ R1 from by rw [← hR1]; exact HB0.out.szle)
           clear hr1 hk1 hR1 HB0
           have hS := True.intro
           clear hHeld
           refine hK.out _ _ hS (fun hHeld => ?_)
           try simp only [Act.put, List.setIfInBounds_toArray, List.set_cons_zero, List.set_cons_succ]
           clear hK
           refine wpAnyH_ready (rs := [3]) (by kernel_rfl) (by simp) ?_
           refine AllReadyH.cons (o := ⟨some 62, .buildSlice 28 5 #[(0, .const (.string { data := #[117, 115, 98, 58, 42] })), (1, .const (.string { data := #[112, 99, 105, 58, 100, 50] })), (2, .const (.string { data := #[120, 58, 63] })), (3, .const (.string { data := #[91] })), (4, .const (.string { data := #[118, 105, 114, 116, 42] }))], 28, "config.go:21", #[], none⟩) rfl (fun K hK => ?_) AllReadyH.nil
           go_simp
           have hr2 := heap_alloc_last w1 (.cells #[.string ⟨#[117, 115, 98, 58, 42]⟩, .string ⟨#[112, 99, 105, 58, 100, 50]⟩, .string ⟨#[120, 58, 63]⟩, .string ⟨#[91]⟩, .string ⟨#[118, 105, 114, 116, 42]⟩] 9)
           have hk2 := (Kp.refl [] w1).alloc (.cells #[.string ⟨#[117, 115, 98, 58, 42]⟩, .string ⟨#[112, 99, 105, 58, 100, 50]⟩, .string ⟨#[120, 58, 63]⟩, .string ⟨#[91]⟩, .string ⟨#[118, 105, 114, 116, 42]⟩] 9)
           have HB2 := Lib.hid (HB1.out.kp0 hk2)
           have HL1 := Lib.hid ((hk2.block R1 (block_lt HL1.out) (by simp)).trans HL1.out)
           obtain ⟨R2, hR2⟩ : ∃ R, w1.heap.size = R := ⟨_, rfl⟩
           generalize w1.alloc (.cells #[.string ⟨#[117, 115, 98, 58, 42]⟩, .string ⟨#[112, 99, 105, 58, 100, 50]⟩, .string ⟨#[120, 58, 63]⟩, .string ⟨#[91]⟩, .string ⟨#[118, 105, 114, 116, 42]⟩] 9) = w2 at *
           rw [hR2] at hr2 ⊢
           have HL2 := Lib.hid hr2
           have HR2 := Lib.hid hR2
           have HG2 := Lib.hid (show Bm ≤ R2 from by rw [← hR2]; exact HB1.out.szle)
           clear hr2 hk2 hR2 HB1
           have hS := True.intro
           clear hHeld
           refine hK.out _ _ hS (fun hHeld => ?_)
           try simp only [Act.put, List.setIfInBounds_toArray, List.set_cons_zero, List.set_cons_succ]
           clear hK
           refine wpAnyH_ready (rs := [4]) (by kernel_rfl) (by simp) ?_
           refine AllReadyH.cons (o := ⟨some 63, .call { callee := .value (.func 16), args := #[.tmp 61, .tmp 62], argTypes := #[24, 28] }, 9, "config.go:21", #[⟨2, .data⟩, ⟨3, .data⟩], none⟩) rfl (fun K hK => ?_) AllReadyH.nil
           have hcall := one_at [[117, 115, 98, 58, 42], [112, 99, 105, 58, 100, 50], [120, 58, 63], [91], [118, 105, 114, 116, 42]] HB2.out HL2.out HG2.out (by have := Hq.out; omega) (by decide) (by decide)
           have HC := Lib.hid (show Calls Tryd.prog 16 #[.pointer (some ⟨tb, 0, none⟩), .slice (some ⟨R2, 0, none⟩) 5 5] w2 _ from hcall)
           clear hcall
           go_simp
           go_at_call 16
           refine Calls.mono (by with_reducible exact HC.out) ?_
           rintro e w3 ⟨x3, hx3, rfl, hB3, hk3⟩
           dsimp only
           have HB3 := Lib.hid hB3
           have HX3 := Lib.hid hx3
           have HL1 := Lib.hid ((hk3.block R1 (block_lt HL1.out) (by have := HB3.out.lt; have := HB3.out.PB; have := HG1.out; simp; omega)).trans HL1.out)
           clear hB3 hx3 hk3 HB2 HL2 HC
           have hS := True.intro
           clear hHeld
           refine hK.out _ _ hS (fun hHeld => ?_)
           try simp only [Act.put, List.setIfInBounds_toArray, List.set_cons_zero, List.set_cons_succ]
           clear hK
           refine wpAnyH_ready (rs := [7]) (by kernel_rfl) (by simp) ?_
           refine AllReadyH.cons (o := ⟨some 66, .call { callee := .value (.func 16), args := #[.tmp 64, .tmp 65], argTypes := #[24, 28] }, 9, "config.go:21", #[⟨5, .data⟩, ⟨6, .data⟩, ⟨4, .chain⟩], none⟩) rfl (fun K hK => ?_) AllReadyH.nil
           have hcall := one_at [[104, 105, 100], [101, 120, 116, 114, 97], [103, 111, 110, 101], [98, 97, 100]] HB3.out HL1.out HG1.out (by have := Hq.out; omega) (by decide) (by decide)
           have HC := Lib.hid (show Calls Tryd.prog 16 #[.pointer (some ⟨tb, 0, none⟩), .slice (some ⟨R1, 0, none⟩) 4 4] w3 _ from hcall)
           clear hcall
           go_simp
           go_at_call 16
           refine Calls.mono (by with_reducible exact HC.out) ?_
           rintro e w4 ⟨x4, hx4, rfl, hB4, hk4⟩
           dsimp only
           have HB4 := Lib.hid hB4
           have HX4 := Lib.hid hx4
           clear hB4 hx4 hk4 HB3 HL1 HC
           have hS := True.intro
           clear hHeld
           refine hK.out _ _ hS (fun hHeld => ?_)
           try simp only [Act.put, List.setIfInBounds_toArray, List.set_cons_zero, List.set_cons_succ]
           clear hK
           refine wpAnyH_take (i := 8) (oi := ⟨some 67, .build 48 #[(0, .tmp 63), (1, .tmp 66)], 48, "config.go:21", #[⟨4, .data⟩, ⟨7, .data⟩], none⟩) (v := .agg #[.string (bs x3), .string (bs x4)]) rfl (by kernel_rfl) (by kernel_rfl) (by kernel_rfl) (fun _ _ _ h => h) (Or.inl ⟨by rfl, fun w hSw => by (try dsimp only at hSw); go_simp⟩) hHeld ?_
           try simp only [Act.put, List.setIfInBounds_toArray, List.set_cons_zero, List.set_cons_succ]
           refine wpAnyH_ready (rs := [9]) (by kernel_rfl) (by simp) ?_
           refine AllReadyH.cons (o := ⟨some 68, .buildSlice 29 1 #[(0, .tmp 67)], 29, "config.go:21", #[⟨8, .data⟩], none⟩) rfl (fun K hK => ?_) AllReadyH.nil
           go_simp
           have hr5 := heap_alloc_last w4 (.cells #[.string (bs x3), .string (bs x4)] 48)
           have hk5 := (Kp.refl [] w4).alloc (.cells #[.string (bs x3), .string (bs x4)] 48)
           have HB5 := Lib.hid (HB4.out.kp0 hk5)
           obtain ⟨R5, hR5⟩ : ∃ R, w4.heap.size = R := ⟨_, rfl⟩
           generalize w4.alloc (.cells #[.string (bs x3), .string (bs x4)] 48) = w5 at *
           rw [hR5] at hr5 ⊢
           have HM5 := Lib.hid hr5
           have HR5 := Lib.hid hR5
           have HG5 := Lib.hid (show Bm ≤ R5 from by rw [← hR5]; exact HB4.out.szle)
           clear hr5 hk5 hR5 HB4
           have hS := True.intro
           clear hHeld
           refine hK.out _ _ hS (fun hHeld => ?_)
           try simp only [Act.put, List.setIfInBounds_toArray, List.set_cons_zero, List.set_cons_succ]
           clear hK
           refine wpAnyH_ready (rs := [10]) (by kernel_rfl) (by simp) ?_
           refine AllReadyH.cons (o := ⟨some 69, .call { callee := .builtin .append, args := #[.tmp 60, .tmp 68], argTypes := #[29, 29] }, 29, "config.go:21", #[⟨1, .data⟩, ⟨9, .data⟩, ⟨7, .chain⟩], none⟩) rfl (fun K hK => ?_) AllReadyH.nil
           obtain ⟨v6, w6, hrun, how, hgr⟩ := run_append_r (r := atT) (c := 1) (x3, x4) 29 HB5.out.own (row_cell HM5.out rfl) (by have := Hxn.out; omega) HB5.out.szle
           have HB6 := Lib.hid (HB5.out.app how hgr)
           have HR := Lib.hid hrun
           clear hrun how hgr
           refine step_append_run rfl 29 _ _ rfl _ _ _ rfl rfl HR.out ?_
           clear HR HB5
           obtain ⟨va, vc, hvf⟩ := HB6.out.own.form
           obtain ⟨ln, hln⟩ : ∃ m, (xs ++ [(x3, x4)]).length = m := ⟨_, rfl⟩
           rw [hln] at hvf
           subst hvf
           clear hln
           have hS := True.intro
           clear hHeld
           refine hK.out _ _ hS (fun hHeld => ?_)
           try simp only [Act.put, List.setIfInBounds_toArray, List.set_cons_zero, List.set_cons_succ]
           clear hK
           refine wpAnyH_take (i := 11) (oi := ⟨some 70, .fieldAddr 31 (.tmp 3) 4, 0, "config.go:21", #[⟨0, .phase⟩, ⟨1, .phase⟩, ⟨2, .phase⟩, ⟨3, .phase⟩, ⟨4, .phase⟩, ⟨5, .phase⟩, ⟨6, .phase⟩, ⟨7, .phase⟩, ⟨8, .phase⟩, ⟨9, .phase⟩, ⟨10, .phase⟩], none⟩) (v := .pointer (some ⟨P, 4, none⟩)) rfl (by kernel_rfl) (by kernel_rfl) (by kernel_rfl) (fun _ _ _ h => h) (Or.inl ⟨by rfl, fun w hSw => by (try dsimp only at hSw); go_simp⟩) hHeld ?_
           try simp only [Act.put, List.setIfInBounds_toArray, List.set_cons_zero, List.set_cons_succ]
           refine wpAnyH_ready (rs := [12]) (by kernel_rfl) (by simp) ?_
           refine AllReadyH.cons (o := ⟨none, .store 29 (.tmp 70) (.tmp 69), 0, "config.go:21", #[⟨11, .data⟩, ⟨10, .data⟩, ⟨10, .chain⟩, ⟨0, .phase⟩, ⟨1, .phase⟩, ⟨2, .phase⟩, ⟨3, .phase⟩, ⟨4, .phase⟩, ⟨5, .phase⟩, ⟨6, .phase⟩, ⟨7, .phase⟩, ⟨8, .phase⟩, ⟨9, .phase⟩, ⟨10, .phase⟩], none⟩) rfl (fun K hK => ?_) AllReadyH.nil
           have e1 : w6.cell? ⟨P, 4, none⟩ = some v := HB6.out.cell 4
           have e2 := HB6.out.frz
           have HB7 := Lib.hid (HB6.out.put 4 (.slice va ln vc))
           go_simp
           clear e1 e2
           generalize w6.setCell ⟨P, 4, none⟩ (.slice va ln vc) = w7 at *
           have hS := True.intro
           clear hHeld
           refine hK.out _ _ hS (fun hHeld => ?_)
           try simp only [Act.put, List.setIfInBounds_toArray, List.set_cons_zero, List.set_cons_succ]
           clear hK
           refine wpAnyH_done (by kernel_rfl) ?_ _
           clear hHeld
           go_wp2
           go_roundg gk
           case measure => omega
           case rel => exact ⟨(.slice va ln vc), xs ++ [(x3, x4)], q + 2, by go_num, by have := Hxn.out; rw [List.length_append, List.length_singleton]; omega, Lib.hid HB7.out, Lib.hid (fun x hx => by rcases List.mem_append.1 hx with h | h; exact hxs.out x h; rw [List.mem_singleton.1 h]; exact ⟨len_of (by decide) HX3.out, len_of (by decide) HX4.out⟩), Lib.hid (by have := hqq.out; omega)⟩
         ·skip
          go_simp
          have hr1 := heap_alloc_last w0 (.cells #[.string ⟨#[117, 115, 98, 58, 42]⟩, .string ⟨#[112, 99, 105, 58, 100, 50]⟩, .string ⟨#[120, 58, 63]⟩, .string ⟨#[91]⟩, .string ⟨#[118, 105, 114, 116, 42]⟩] 9)
          have hk1 := (Kp.refl [] w0).alloc (.cells #[.string ⟨#[117, 115, 98, 58, 42]⟩, .string ⟨#[112, 99, 105, 58, 100, 50]⟩, .string ⟨#[120, 58, 63]⟩, .string ⟨#[91]⟩, .string ⟨#[118, 105, 114, 116, 42]⟩] 9)
          have HB1 := Lib.hid (HB0.out.kp0 hk1)
          obtain ⟨R1, hR1⟩ : ∃ R, w0.heap.size = R := ⟨_, rfl⟩
          generalize w0.alloc (.cells #[.string ⟨#[117, 115, 98, 58, 42]⟩, .string ⟨#[112, 99, 105, 58, 100, 50]⟩, .string ⟨#[120, 58, 63]⟩, .string ⟨#[91]⟩, .string ⟨#[118, 105, 114, 116, 42]⟩] 9) = w1 at *
          rw [hR1] at hr1 ⊢
          have HL1 := Lib.hid hr1
          have HR1 := Lib.hid hR1
          have HG1 := Lib.hid (show Bm ≤ R1 from by rw [← hR1]; exact HB0.out.szle)
          clear hr1 hk1 hR1 HB0
          have hS := True.intro
          clear hHeld
          refine hK.out _ _ hS (fun hHeld => ?_)
          try simp only [Act.put, List.setIfInBounds_toArray, List.set_cons_zero, List.set_cons_succ]
          clear hK
          refine wpAnyH_ready (rs := [1, 4, 6]) (by kernel_rfl) (by simp) ?_
          refine AllReadyH.cons (o := ⟨some 60, .load 29 (.tmp 59), 29, "config.go:21", #[⟨0, .data⟩], none⟩) rfl (fun K hK => ?_) (AllReadyH.cons (o := ⟨some 63, .call { callee := .value (.func 16), args := #[.tmp 61, .tmp 62], argTypes := #[24, 28] }, 9, "config.go:21", #[⟨2, .data⟩, ⟨3, .data⟩], none⟩) rfl (fun K hK => ?_) (AllReadyH.cons (o := ⟨some 65, .buildSlice 28 4 #[(0, .const (.string { data := #[104, 105, 100] })), (1, .const (.string { data := #[101, 120, 116, 114, 97] })), (2, .const (.string { data := #[103, 111, 110, 101] })), (3, .const (.string { data := #[98, 97, 100] }))], 28, "config.go:21", #[], none⟩) rfl (fun K hK => ?_) AllReadyH.nil))
          ·skip
           have e1 : w1.cell? ⟨P, 4, none⟩ = some v := HB1.out.cell 4
           go_simp
           clear e1
           have hS := True.intro
           clear hHeld
           refine hK.out _ _ hS (fun hHeld => ?_)
           try simp only [Act.put, List.setIfInBounds_toArray, List.set_cons_zero, List.set_cons_succ]
           clear hK
           refine wpAnyH_ready (rs := [4, 6]) (by kernel_rfl) (by simp) ?_
           refine AllReadyH.cons (o := ⟨some 63, .call { callee := .value (.func 16), args := #[.tmp 61, .tmp 62], argTypes := #[24, 28] }, 9, "config.go:21", #[⟨2, .data⟩, ⟨3, .data⟩], none⟩) rfl (fun K hK => ?_) (AllReadyH.cons (o := ⟨some 65, .buildSlice 28 4 #[(0, .const (.string { data := #[104, 105, 100] })), (1, .const (.string { data := #[101, 120, 116, 114, 97] })), (2, .const (.string { data := #[103, 111, 110, 101] })), (3, .const (.string { data := #[98, 97, 100] }))], 28, "config.go:21", #[], none⟩) rfl (fun K hK => ?_) AllReadyH.nil)
           ·skip
            have hcall := one_at [[117, 115, 98, 58, 42], [112, 99, 105, 58, 100, 50], [120, 58, 63], [91], [118, 105, 114, 116, 42]] HB1.out HL1.out HG1.out (by have := Hq.out; omega) (by decide) (by decide)
            have HC := Lib.hid (show Calls Tryd.prog 16 #[.pointer (some ⟨tb, 0, none⟩), .slice (some ⟨R1, 0, none⟩) 5 5] w1 _ from hcall)
            clear hcall
            go_simp
            go_at_call 16
            refine Calls.mono (by with_reducible exact HC.out) ?_
            rintro e w2 ⟨x2, hx2, rfl, hB2, hk2⟩
            dsimp only
            have HB2 := Lib.hid hB2
            have HX2 := Lib.hid hx2
            clear hB2 hx2 hk2 HB1 HL1 HC
            have hS := True.intro
            clear hHeld
            refine hK.out _ _ hS (fun hHeld => ?_)
            try simp only [Act.put, List.setIfInBounds_toArray, List.set_cons_zero, List.set_cons_succ]
            clear hK
            refine wpAnyH_ready (rs := [6]) (by kernel_rfl) (by simp) ?_
            refine AllReadyH.cons (o := ⟨some 65, .buildSlice 28 4 #[(0, .const (.string { data := #[104, 105, 100] })), (1, .const (.string { data := #[101, 120, 116, 114, 97] })), (2, .const (.string { data := #[103, 111, 110, 101] })), (3, .const (.string { data := #[98, 97, 100] }))], 28, "config.go:21", #[], none⟩) rfl (fun K hK => ?_) AllReadyH.nil
            go_simp
            have hr3 := heap_alloc_last w2 (.cells #[.string ⟨#[104, 105, 100]⟩, .string ⟨#[101, 120, 116, 114, 97]⟩, .string ⟨#[103, 111, 110, 101]⟩, .string ⟨#[98, 97, 100]⟩] 9)
            have hk3 := (Kp.refl [] w2).alloc (.cells #[.string ⟨#[104, 105, 100]⟩, .string ⟨#[101, 120, 116, 114, 97]⟩, .string ⟨#[103, 111, 110, 101]⟩, .string ⟨#[98, 97, 100]⟩] 9)
            have HB3 := Lib.hid (HB2.out.kp0 hk3)
            obtain ⟨R3, hR3⟩ : ∃ R, w2.heap.size = R := ⟨_, rfl⟩
            generalize w2.alloc (.cells #[.string ⟨#[104, 105, 100]⟩, .string ⟨#[101, 120, 116, 114, 97]⟩, .string ⟨#[103, 111, 110, 101]⟩, .string ⟨#[98, 97, 100]⟩] 9) = w3 at *
            rw [hR3] at hr3 ⊢
            have HL3 := Lib.hid hr3
            have HR3 := Lib.hid hR3
            have HG3 := Lib.hid (show Bm ≤ R3 from by rw [← hR3]; exact HB2.out.szle)
            clear hr3 hk3 hR3 HB2
            have hS := True.intro
            clear hHeld
            refine hK.out _ _ hS (fun hHeld => ?_)
            try simp only [Act.put, List.setIfInBounds_toArray, List.set_cons_zero, List.set_cons_succ]
            clear hK
            refine wpAnyH_ready (rs := [7]) (by kernel_rfl) (by simp) ?_
            refine AllReadyH.cons (o := ⟨some 66, .call { callee := .value (.func 16), args := #[.tmp 64, .tmp 65], argTypes := #[24, 28] }, 9, "config.go:21", #[⟨5, .data⟩, ⟨6, .data⟩, ⟨4, .chain⟩], none⟩) rfl (fun K hK => ?_) AllReadyH.nil
            have hcall := one_at [[104, 105, 100], [101, 120, 116, 114, 97], [103, 111, 110, 101], [98, 97, 100]] HB3.out HL3.out HG3.out (by have := Hq.out; omega) (by decide) (by decide)
            have HC := Lib.hid (show Calls Tryd.prog 16 #[.pointer (some ⟨tb, 0, none⟩), .slice (some ⟨R3, 0, none⟩) 4 4] w3 _ from hcall)
            clear hcall
            go_simp
            go_at_call 16
            refine Calls.mono (by with_reducible exact HC.out) ?_
            rintro e w4 ⟨x4, hx4, rfl, hB4, hk4⟩
            dsimp only
            have HB4 := Lib.hid hB4
            have HX4 := Lib.hid hx4
            clear hB4 hx4 hk4 HB3 HL3 HC
            have hS := True.intro
            clear hHeld
            refine hK.out _ _ hS (fun hHeld => ?_)
            try simp only [Act.put, List.setIfInBounds_toArray, List.set_cons_zero, List.set_cons_succ]
            clear hK
            refine wpAnyH_take (i := 8) (oi := ⟨some 67, .build 48 #[(0, .tmp 63), (1, .tmp 66)], 48, "config.go:21", #[⟨4, .data⟩, ⟨7, .data⟩], none⟩) (v := .agg #[.string (bs x2), .string (bs x4)]) rfl (by kernel_rfl) (by kernel_rfl) (by kernel_rfl) (fun _ _ _ h => h) (Or.inl ⟨by rfl, fun w hSw => by (try dsimp only at hSw); go_simp⟩) hHeld ?_
            try simp only [Act.put, List.setIfInBounds_toArray, List.set_cons_zero, List.set_cons_succ]
            refine wpAnyH_ready (rs := [9]) (by kernel_rfl) (by simp) ?_
            refine AllReadyH.cons (o := ⟨some 68, .buildSlice 29 1 #[(0, .tmp 67)], 29, "config.go:21", #[⟨8, .data⟩], none⟩) rfl (fun K hK => ?_) AllReadyH.nil
            go_simp
            have hr5 := heap_alloc_last w4 (.cells #[.string (bs x2), .string (bs x4)] 48)
            have hk5 := (Kp.refl [] w4).alloc (.cells #[.string (bs x2), .string (bs x4)] 48)
            have HB5 := Lib.hid (HB4.out.kp0 hk5)
            obtain ⟨R5, hR5⟩ : ∃ R, w4.heap.size = R := ⟨_, rfl⟩
            generalize w4.alloc (.cells #[.string (bs x2), .string (bs x4)] 48) = w5 at *
            rw [hR5] at hr5 ⊢
            have HM5 := Lib.hid hr5
            have HR5 := Lib.hid hR5
            have HG5 := Lib.hid (show Bm ≤ R5 from by rw [← hR5]; exact HB4.out.szle)
            clear hr5 hk5 hR5 HB4
            have hS := True.intro
            clear hHeld
            refine hK.out _ _ hS (fun hHeld => ?_)
            try simp only [Act.put, List.setIfInBounds_toArray, List.set_cons_zero, List.set_cons_succ]
            clear hK
            refine wpAnyH_ready (rs := [10]) (by kernel_rfl) (by simp) ?_
            refine AllReadyH.cons (o := ⟨some 69, .call { callee := .builtin .append, args := #[.tmp 60, .tmp 68], argTypes := #[29, 29] }, 29, "config.go:21", #[⟨1, .data⟩, ⟨9, .data⟩, ⟨7, .chain⟩], none⟩) rfl (fun K hK => ?_) AllReadyH.nil
            obtain ⟨v6, w6, hrun, how, hgr⟩ := run_append_r (r := atT) (c := 1) (x2, x4) 29 HB5.out.own (row_cell HM5.out rfl) (by have := Hxn.out; omega) HB5.out.szle
            have HB6 := Lib.hid (HB5.out.app how hgr)
            have HR := Lib.hid hrun
            clear hrun how hgr
            refine step_append_run rfl 29 _ _ rfl _ _ _ rfl rfl HR.out ?_
            clear HR HB5
            obtain ⟨va, vc, hvf⟩ := HB6.out.own.form
            obtain ⟨ln, hln⟩ : ∃ m, (xs ++ [(x2, x4)]).length = m := ⟨_, rfl⟩
            rw [hln] at hvf
            subst hvf
            clear hln
            have hS := True.intro
            clear hHeld
            refine hK.out _ _ hS (fun hHeld => ?_)
            try simp only [Act.put, List.setIfInBounds_toArray, List.set_cons_zero, List.set_cons_succ]
            clear hK
            refine wpAnyH_take (i := 11) (oi := ⟨some 70, .fieldAddr 31 (.tmp 3) 4, 0, "config.go:21", #[⟨0, .phase⟩, ⟨1, .phase⟩, ⟨2, .phase⟩, ⟨3, .phase⟩, ⟨4, .phase⟩, ⟨5, .phase⟩, ⟨6, .phase⟩, ⟨7, .phase⟩, ⟨8, .phase⟩, ⟨9, .phase⟩, ⟨10, .phase⟩], none⟩) (v := .pointer (some ⟨P, 4, none⟩)) rfl (by kernel_rfl) (by kernel_rfl) (by kernel_rfl) (fun _ _ _ h => h) (Or.inl ⟨by rfl, fun w hSw => by (try dsimp only at hSw); go_simp⟩) hHeld ?_
            try simp only [Act.put, List.setIfInBounds_toArray, List.set_cons_zero, List.set_cons_succ]
            refine wpAnyH_ready (rs := [12]) (by kernel_rfl) (by simp) ?_
            refine AllReadyH.cons (o := ⟨none, .store 29 (.tmp 70) (.tmp 69), 0, "config.go:21", #[⟨11, .data⟩, ⟨10, .data⟩, ⟨10, .chain⟩, ⟨0, .phase⟩, ⟨1, .phase⟩, ⟨2, .phase⟩, ⟨3, .phase⟩, ⟨4, .phase⟩, ⟨5, .phase⟩, ⟨6, .phase⟩, ⟨7, .phase⟩, ⟨8, .phase⟩, ⟨9, .phase⟩, ⟨10, .phase⟩], none⟩) rfl (fun K hK => ?_) AllReadyH.nil
            have e1 : w6.cell? ⟨P, 4, none⟩ = some v := HB6.out.cell 4
            have e2 := HB6.out.frz
            have HB7 := Lib.hid (HB6.out.put 4 (.slice va ln vc))
            go_simp
            clear e1 e2
            generalize w6.setCell ⟨P, 4, none⟩ (.slice va ln vc) = w7 at *
            have hS := True.intro
            clear hHeld
            refine hK.out _ _ hS (fun hHeld => ?_)
            try simp only [Act.put, List.setIfInBounds_toArray, List.set_cons_zero, List.set_cons_succ]
            clear hK
            refine wpAnyH_done (by kernel_rfl) ?_ _
            clear hHeld
            go_wp2
            go_roundg gk
            case measure => omega
            case rel => exact ⟨(.slice va ln vc), xs ++ [(x2, x4)], q + 2, by go_num, by have := Hxn.out; rw [List.length_append, List.length_singleton]; omega, Lib.hid HB7.out, Lib.hid (fun x hx => by rcases List.mem_append.1 hx with h | h; exact hxs.out x h; rw [List.mem_singleton.1 h]; exact ⟨len_of (by decide) HX2.out, len_of (by decide) HX4.out⟩), Lib.hid (by have := hqq.out; omega)⟩
           ·skip
            go_simp
            have hr2 := heap_alloc_last w1 (.cells #[.string ⟨#[104, 105, 100]⟩, .string ⟨#[101, 120, 116, 114, 97]⟩, .string ⟨#[103, 111, 110, 101]⟩, .string ⟨#[98, 97, 100]⟩] 9)
            have hk2 := (Kp.refl [] w1).alloc (.cells #[.string ⟨#[104, 105, 100]⟩, .string ⟨#[101, 120, 116, 114, 97]⟩, .string ⟨#[103, 111, 110, 101]⟩, .string ⟨#[98, 97, 100]⟩] 9)
            have HB2 := Lib.hid (HB1.out.kp0 hk2)
            have HL1 := Lib.hid ((hk2.block R1 (block_lt HL1.out) (by simp)).trans HL1.out)
            obtain ⟨R2, hR2⟩ : ∃ R, w1.heap.size = R := ⟨_, rfl⟩
            generalize w1.alloc (.cells #[.string ⟨#[104, 105, 100]⟩, .string ⟨#[101, 120, 116, 114, 97]⟩, .string ⟨#[103, 111, 110, 101]⟩, .string ⟨#[98, 97, 100]⟩] 9) = w2 at *
            rw [hR2] at hr2 ⊢
            have HL2 := Lib.hid hr2
            have HR2 := Lib.hid hR2
            have HG2 := Lib.hid (show Bm ≤ R2 from by rw [← hR2]; exact HB1.out.szle)
            clear hr2 hk2 hR2 HB1
            have hS := True.intro
            clear hHeld
            refine hK.out _ _ hS (fun hHeld => ?_)
            try simp only [Act.put, List.setIfInBounds_toArray, List.set_cons_zero, List.set_cons_succ]
            clear hK
            refine wpAnyH_ready (rs := [4]) (by kernel_rfl) (by simp) ?_
            refine AllReadyH.cons (o := ⟨some 63, .call { callee := .value (.func 16), args := #[.tmp 61, .tmp 62], argTypes := #[24, 28] }, 9, "config.go:21", #[⟨2, .data⟩, ⟨3, .data⟩], none⟩) rfl (fun K hK => ?_) AllReadyH.nil
            have hcall := one_at [[117, 115, 98, 58, 42], [112, 99, 105, 58, 100, 50], [120, 58, 63], [91], [118, 105, 114, 116, 42]] HB2.out HL1.out HG1.out (by have := Hq.out; omega) (by decide) (by decide)
            have HC := Lib.hid (show Calls Tryd.prog 16 #[.pointer (some ⟨tb, 0, none⟩), .slice (some ⟨R1, 0, none⟩) 5 5] w2 _ from hcall)
            clear hcall
            go_simp
            go_at_call 16
            refine Calls.mono (by with_reducible exact HC.out) ?_
            rintro e w3 ⟨x3, hx3, rfl, hB3, hk3⟩
            dsimp only
            have HB3 := Lib.hid hB3
            have HX3 := Lib.hid hx3
            have HL2 := Lib.hid ((hk3.block R2 (block_lt HL2.out) (by have := HB3.out.lt; have := HB3.out.PB; have := HG2.out; simp; omega)).trans HL2.out)
            clear hB3 hx3 hk3 HB2 HL1 HC
            have hS := True.intro
            clear hHeld
            refine hK.out _ _ hS (fun hHeld => ?_)
            try simp only [Act.put, List.setIfInBounds_toArray, List.set_cons_zero, List.set_cons_succ]
            clear hK
            refine wpAnyH_ready (rs := [7]) (by kernel_rfl) (by simp) ?_
            refine AllReadyH.cons (o := ⟨some 66, .call { callee := .value (.func 16), args := #[.tmp 64, .tmp 65], argTypes := #[24, 28] }, 9, "config.go:21", #[⟨5, .data⟩, ⟨6, .data⟩, ⟨4, .chain⟩], none⟩) rfl (fun K hK => ?_) AllReadyH.nil
            have hcall := one_at [[104, 105, 100], [101, 120, 116, 114, 97], [103, 111, 110, 101], [98, 97, 100]] HB3.out HL2.out HG2.out (by have := Hq.out; omega) (by decide) (by decide)
            have HC := Lib.hid (show Calls Tryd.prog 16 #[.pointer (some ⟨tb, 0, none⟩), .slice (some ⟨R2, 0, none⟩) 4 4] w3 _ from hcall)
            clear hcall
            go_simp
            go_at_call 16
            refine Calls.mono (by with_reducible exact HC.out) ?_
            rintro e w4 ⟨x4, hx4, rfl, hB4, hk4⟩
            dsimp only
            have HB4 := Lib.hid hB4
            have HX4 := Lib.hid hx4
            clear hB4 hx4 hk4 HB3 HL2 HC
            have hS := True.intro
            clear hHeld
            refine hK.out _ _ hS (fun hHeld => ?_)
            try simp only [Act.put, List.setIfInBounds_toArray, List.set_cons_zero, List.set_cons_succ]
            clear hK
            refine wpAnyH_take (i := 8) (oi := ⟨some 67, .build 48 #[(0, .tmp 63), (1, .tmp 66)], 48, "config.go:21", #[⟨4, .data⟩, ⟨7, .data⟩], none⟩) (v := .agg #[.string (bs x3), .string (bs x4)]) rfl (by kernel_rfl) (by kernel_rfl) (by kernel_rfl) (fun _ _ _ h => h) (Or.inl ⟨by rfl, fun w hSw => by (try dsimp only at hSw); go_simp⟩) hHeld ?_
            try simp only [Act.put, List.setIfInBounds_toArray, List.set_cons_zero, List.set_cons_succ]
            refine wpAnyH_ready (rs := [9]) (by kernel_rfl) (by simp) ?_
            refine AllReadyH.cons (o := ⟨some 68, .buildSlice 29 1 #[(0, .tmp 67)], 29, "config.go:21", #[⟨8, .data⟩], none⟩) rfl (fun K hK => ?_) AllReadyH.nil
            go_simp
            have hr5 := heap_alloc_last w4 (.cells #[.string (bs x3), .string (bs x4)] 48)
            have hk5 := (Kp.refl [] w4).alloc (.cells #[.string (bs x3), .string (bs x4)] 48)
            have HB5 := Lib.hid (HB4.out.kp0 hk5)
            obtain ⟨R5, hR5⟩ : ∃ R, w4.heap.size = R := ⟨_, rfl⟩
            generalize w4.alloc (.cells #[.string (bs x3), .string (bs x4)] 48) = w5 at *
            rw [hR5] at hr5 ⊢
            have HM5 := Lib.hid hr5
            have HR5 := Lib.hid hR5
            have HG5 := Lib.hid (show Bm ≤ R5 from by rw [← hR5]; exact HB4.out.szle)
            clear hr5 hk5 hR5 HB4
            have hS := True.intro
            clear hHeld
            refine hK.out _ _ hS (fun hHeld => ?_)
            try simp only [Act.put, List.setIfInBounds_toArray, List.set_cons_zero, List.set_cons_succ]
            clear hK
            refine wpAnyH_ready (rs := [10]) (by kernel_rfl) (by simp) ?_
            refine AllReadyH.cons (o := ⟨some 69, .call { callee := .builtin .append, args := #[.tmp 60, .tmp 68], argTypes := #[29, 29] }, 29, "config.go:21", #[⟨1, .data⟩, ⟨9, .data⟩, ⟨7, .chain⟩], none⟩) rfl (fun K hK => ?_) AllReadyH.nil
            obtain ⟨v6, w6, hrun, how, hgr⟩ := run_append_r (r := atT) (c := 1) (x3, x4) 29 HB5.out.own (row_cell HM5.out rfl) (by have := Hxn.out; omega) HB5.out.szle
            have HB6 := Lib.hid (HB5.out.app how hgr)
            have HR := Lib.hid hrun
            clear hrun how hgr
            refine step_append_run rfl 29 _ _ rfl _ _ _ rfl rfl HR.out ?_
            clear HR HB5
            obtain ⟨va, vc, hvf⟩ := HB6.out.own.form
            obtain ⟨ln, hln⟩ : ∃ m, (xs ++ [(x3, x4)]).length = m := ⟨_, rfl⟩
            rw [hln] at hvf
            subst hvf
            clear hln
            have hS := True.intro
            clear hHeld
            refine hK.out _ _ hS (fun hHeld => ?_)
            try simp only [Act.put, List.setIfInBounds_toArray, List.set_cons_zero, List.set_cons_succ]
            clear hK
            refine wpAnyH_take (i := 11) (oi := ⟨some 70, .fieldAddr 31 (.tmp 3) 4, 0, "config.go:21", #[⟨0, .phase⟩, ⟨1, .phase⟩, ⟨2, .phase⟩, ⟨3, .phase⟩, ⟨4, .phase⟩, ⟨5, .phase⟩, ⟨6, .phase⟩, ⟨7, .phase⟩, ⟨8, .phase⟩, ⟨9, .phase⟩, ⟨10, .phase⟩], none⟩) (v := .pointer (some ⟨P, 4, none⟩)) rfl (by kernel_rfl) (by kernel_rfl) (by kernel_rfl) (fun _ _ _ h => h) (Or.inl ⟨by rfl, fun w hSw => by (try dsimp only at hSw); go_simp⟩) hHeld ?_
            try simp only [Act.put, List.setIfInBounds_toArray, List.set_cons_zero, List.set_cons_succ]
            refine wpAnyH_ready (rs := [12]) (by kernel_rfl) (by simp) ?_
            refine AllReadyH.cons (o := ⟨none, .store 29 (.tmp 70) (.tmp 69), 0, "config.go:21", #[⟨11, .data⟩, ⟨10, .data⟩, ⟨10, .chain⟩, ⟨0, .phase⟩, ⟨1, .phase⟩, ⟨2, .phase⟩, ⟨3, .phase⟩, ⟨4, .phase⟩, ⟨5, .phase⟩, ⟨6, .phase⟩, ⟨7, .phase⟩, ⟨8, .phase⟩, ⟨9, .phase⟩, ⟨10, .phase⟩], none⟩) rfl (fun K hK => ?_) AllReadyH.nil
            have e1 : w6.cell? ⟨P, 4, none⟩ = some v := HB6.out.cell 4
            have e2 := HB6.out.frz
            have HB7 := Lib.hid (HB6.out.put 4 (.slice va ln vc))
            go_simp
            clear e1 e2
            generalize w6.setCell ⟨P, 4, none⟩ (.slice va ln vc) = w7 at *
            have hS := True.intro
            clear hHeld
            refine hK.out _ _ hS (fun hHeld => ?_)
            try simp only [Act.put, List.setIfInBounds_toArray, List.set_cons_zero, List.set_cons_succ]
            clear hK
            refine wpAnyH_done (by kernel_rfl) ?_ _
            clear hHeld
            go_wp2
            go_roundg gk
            case measure => omega
            case rel => exact ⟨(.slice va ln vc), xs ++ [(x3, x4)], q + 2, by go_num, by have := Hxn.out; rw [List.length_append, List.length_singleton]; omega, Lib.hid HB7.out, Lib.hid (fun x hx => by rcases List.mem_append.1 hx with h | h; exact hxs.out x h; rw [List.mem_singleton.1 h]; exact ⟨len_of (by decide) HX3.out, len_of (by decide) HX4.out⟩), Lib.hid (by have := hqq.out; omega)⟩
          ·skip
           have hcall := one_at [[117, 115, 98, 58, 42], [112, 99, 105, 58, 100, 50], [120, 58, 63], [91], [118, 105, 114, 116, 42]] HB1.out HL1.out HG1.out (by have := Hq.out; omega) (by decide) (by decide)
           have HC := Lib.hid (show Calls Tryd.prog 16 #[.pointer (some ⟨tb, 0, none⟩), .slice (some ⟨R1, 0, none⟩) 5 5] w1 _ from hcall)
           clear hcall
           go_simp
           go_at_call 16
           refine Calls.mono (by with_reducible exact HC.out) ?_
           rintro e w2 ⟨x2, hx2, rfl, hB2, hk2⟩
           dsimp only
           have HB2 := Lib.hid hB2
           have HX2 := Lib.hid hx2
           clear hB2 hx2 hk2 HB1 HL1 HC
           have hS := True.intro
           clear hHeld
           refine hK.out _ _ hS (fun hHeld => ?_)
           try simp only [Act.put, List.setIfInBounds_toArray, List.set_cons_zero, List.set_cons_succ]
           clear hK
           refine wpAnyH_ready (rs := [1, 6]) (by kernel_rfl) (by simp) ?_
           refine AllReadyH.cons (o := ⟨some 60, .load 29 (.tmp 59), 29, "config.go:21", #[⟨0, .data⟩], none⟩) rfl (fun K hK => ?_) (AllReadyH.cons (o := ⟨some 65, .buildSlice 28 4 #[(0, .const (.string { data := #[104, 105, 100] })), (1, .const (.string { data := #[101, 120, 116, 114, 97] })), (2, .const (.string { data := #[103, 111, 110, 101] })), (3, .const (.string { data := #[98, 97, 100] }))], 28, "config.go:21", #[], none⟩) rfl (fun K hK => ?_) AllReadyH.nil)
           ·skip
            have e1 : w2.cell? ⟨P, 4, none⟩ = some v := HB2.out.cell 4
            go_simp
            clear e1
            have hS := True.intro
            clear hHeld
            refine hK.out _ _ hS (fun hHeld => ?_)
            try simp only [Act.put, List.setIfInBounds_toArray, List.set_cons_zero, List.set_cons_succ]
            clear hK
            refine wpAnyH_ready (rs := [6]) (by kernel_rfl) (by simp) ?_
            refine AllReadyH.cons (o := ⟨some 65, .buildSlice 28 4 #[(0, .const (.string { data := #[104, 105, 100] })), (1, .const (.string { data := #[101, 120, 116, 114, 97] })), (2, .const (.string { data := #[103, 111, 110, 101] })), (3, .const (.string { data := #[98, 97, 100] }))], 28, "config.go:21", #[], none⟩) rfl (fun K hK => ?_) AllReadyH.nil
            go_simp
            have hr3 := heap_alloc_last w2 (.cells #[.string ⟨#[104, 105, 100]⟩, .string ⟨#[101, 120, 116, 114, 97]⟩, .string ⟨#[103, 111, 110, 101]⟩, .string ⟨#[98, 97, 100]⟩] 9)
            have hk3 := (Kp.refl [] w2).alloc (.cells #[.string ⟨#[104, 105, 100]⟩, .string ⟨#[101, 120, 116, 114, 97]⟩, .string ⟨#[103, 111, 110, 101]⟩, .string ⟨#[98, 97, 100]⟩] 9)
            have HB3 := Lib.hid (HB2.out.kp0 hk3)
            obtain ⟨R3, hR3⟩ : ∃ R, w2.heap.size = R := ⟨_, rfl⟩
            generalize w2.alloc (.cells #[.string ⟨#[104, 105, 100]⟩, .string ⟨#[101, 120, 116, 114, 97]⟩, .string ⟨#[103, 111, 110, 101]⟩, .string ⟨#[98, 97, 100]⟩] 9) = w3 at *
            rw [hR3] at hr3 ⊢
            have HL3 := Lib.hid hr3
            have HR3 := Lib.hid hR3
            have HG3 := Lib.hid (show Bm ≤ R3 from by rw [← hR3]; exact HB2.out.szle)
            clear hr3 hk3 hR3 HB2
            have hS := True.intro
            clear hHeld
            refine hK.out _ _ hS (fun hHeld => ?_)
            try simp only [Act.put, List.setIfInBounds_toArray, List.set_cons_zero, List.set_cons_succ]
            clear hK
            refine wpAnyH_ready (rs := [7]) (by kernel_rfl) (by simp) ?_
            refine AllReadyH.cons (o := ⟨some 66, .call { callee := .value (.func 16), args := #[.tmp 64, .tmp 65], argTypes := #[24, 28] }, 9, "config.go:21", #[⟨5, .data⟩, ⟨6, .data⟩, ⟨4, .chain⟩], none⟩) rfl (fun K hK => ?_) AllReadyH.nil
            have hcall := one_at [[104, 105, 100], [101, 120, 116, 114, 97], [103, 111, 110, 101], [98, 97, 100]] HB3.out HL3.out HG3.out (by have := Hq.out; omega) (by decide) (by decide)
            have HC := Lib.hid (show Calls Tryd.prog 16 #[.pointer (some ⟨tb, 0, none⟩), .slice (some ⟨R3, 0, none⟩) 4 4] w3 _ from hcall)
            clear hcall
            go_simp
            go_at_call 16
            refine Calls.mono (by with_reducible exact HC.out) ?_
            rintro e w4 ⟨x4, hx4, rfl, hB4, hk4⟩
            dsimp only
            have HB4 := Lib.hid hB4
            have HX4 := Lib.hid hx4
            clear hB4 hx4 hk4 HB3 HL3 HC
            have hS := True.intro
            clear hHeld
            refine hK.out _ _ hS (fun hHeld => ?_)
            try simp only [Act.put, List.setIfInBounds_toArray, List.set_cons_zero, List.set_cons_succ]
            clear hK
            refine wpAnyH_take (i := 8) (oi := ⟨some 67, .build 48 #[(0, .tmp 63), (1, .tmp 66)], 48, "config.go:21", #[⟨4, .data⟩, ⟨7, .data⟩], none⟩) (v := .agg #[.string (bs x2), .string (bs x4)]) rfl (by kernel_rfl) (by kernel_rfl) (by kernel_rfl) (fun _ _ _ h => h) (Or.inl ⟨by rfl, fun w hSw => by (try dsimp only at hSw); go_simp⟩) hHeld ?_
            try simp only [Act.put, List.setIfInBounds_toArray, List.set_cons_zero, List.set_cons_succ]
            refine wpAnyH_ready (rs := [9]) (by kernel_rfl) (by simp) ?_
            refine AllReadyH.cons (o := ⟨some 68, .buildSlice 29 1 #[(0, .tmp 67)], 29, "config.go:21", #[⟨8, .data⟩], none⟩) rfl (fun K hK => ?_) AllReadyH.nil
            go_simp
            have hr5 := heap_alloc_last w4 (.cells #[.string (bs x2), .string (bs x4)] 48)
            have hk5 := (Kp.refl [] w4).alloc (.cells #[.string (bs x2), .string (bs x4)] 48)
            have HB5 := Lib.hid (HB4.out.kp0 hk5)
            obtain ⟨R5, hR5⟩ : ∃ R, w4.heap.size = R := ⟨_, rfl⟩
            generalize w4.alloc (.cells #[.string (bs x2), .string (bs x4)] 48) = w5 at *
            rw [hR5] at hr5 ⊢
            have HM5 := Lib.hid hr5
            have HR5 := Lib.hid hR5
            have HG5 := Lib.hid (show Bm ≤ R5 from by rw [← hR5]; exact HB4.out.szle)
            clear hr5 hk5 hR5 HB4
            have hS := True.intro
            clear hHeld
            refine hK.out _ _ hS (fun hHeld => ?_)
            try simp only [Act.put, List.setIfInBounds_toArray, List.set_cons_zero, List.set_cons_succ]
            clear hK
            refine wpAnyH_ready (rs := [10]) (by kernel_rfl) (by simp) ?_
            refine AllReadyH.cons (o := ⟨some 69, .call { callee := .builtin .append, args := #[.tmp 60, .tmp 68], argTypes := #[29, 29] }, 29, "config.go:21", #[⟨1, .data⟩, ⟨9, .data⟩, ⟨7, .chain⟩], none⟩) rfl (fun K hK => ?_) AllReadyH.nil
            obtain ⟨v6, w6, hrun, how, hgr⟩ := run_append_r (r := atT) (c := 1) (x2, x4) 29 HB5.out.own (row_cell HM5.out rfl) (by have := Hxn.out; omega) HB5.out.szle
            have HB6 := Lib.hid (HB5.out.app how hgr)
            have HR := Lib.hid hrun
            clear hrun how hgr
            refine step_append_run rfl 29 _ _ rfl _ _ _ rfl rfl HR.out ?_
            clear HR HB5
            obtain ⟨va, vc, hvf⟩ := HB6.out.own.form
            obtain ⟨ln, hln⟩ : ∃ m, (xs ++ [(x2, x4)]).length = m := ⟨_, rfl⟩
            rw [hln] at hvf
            subst hvf
            clear hln
            have hS := True.intro
            clear hHeld
            refine hK.out _ _ hS (fun hHeld => ?_)
            try simp only [Act.put, List.setIfInBounds_toArray, List.set_cons_zero, List.set_cons_succ]
            clear hK
            refine wpAnyH_take (i := 11) (oi := ⟨some 70, .fieldAddr 31 (.tmp 3) 4, 0, "config.go:21", #[⟨0, .phase⟩, ⟨1, .phase⟩, ⟨2, .phase⟩, ⟨3, .phase⟩, ⟨4, .phase⟩, ⟨5, .phase⟩, ⟨6, .phase⟩, ⟨7, .phase⟩, ⟨8, .phase⟩, ⟨9, .phase⟩, ⟨10, .phase⟩], none⟩) (v := .pointer (some ⟨P, 4, none⟩)) rfl (by kernel_rfl) (by kernel_rfl) (by kernel_rfl) (fun _ _ _ h => h) (Or.inl ⟨by rfl, fun w hSw => by (try dsimp only at hSw); go_simp⟩) hHeld ?_
            try simp only [Act.put, List.setIfInBounds_toArray, List.set_cons_zero, List.set_cons_succ]
            refine wpAnyH_ready (rs := [12]) (by kernel_rfl) (by simp) ?_
            refine AllReadyH.cons (o := ⟨none, .store 29 (.tmp 70) (.tmp 69), 0, "config.go:21", #[⟨11, .data⟩, ⟨10, .data⟩, ⟨10, .chain⟩, ⟨0, .phase⟩, ⟨1, .phase⟩, ⟨2, .phase⟩, ⟨3, .phase⟩, ⟨4, .phase⟩, ⟨5, .phase⟩, ⟨6, .phase⟩, ⟨7, .phase⟩, ⟨8, .phase⟩, ⟨9, .phase⟩, ⟨10, .phase⟩], none⟩) rfl (fun K hK => ?_) AllReadyH.nil
            have e1 : w6.cell? ⟨P, 4, none⟩ = some v := HB6.out.cell 4
            have e2 := HB6.out.frz
            have HB7 := Lib.hid (HB6.out.put 4 (.slice va ln vc))
            go_simp
            clear e1 e2
            generalize w6.setCell ⟨P, 4, none⟩ (.slice va ln vc) = w7 at *
            have hS := True.intro
            clear hHeld
            refine hK.out _ _ hS (fun hHeld => ?_)
            try simp only [Act.put, List.setIfInBounds_toArray, List.set_cons_zero, List.set_cons_succ]
            clear hK
            refine wpAnyH_done (by kernel_rfl) ?_ _
            clear hHeld
            go_wp2
            go_roundg gk
            case measure => omega
            case rel => exact ⟨(.slice va ln vc), xs ++ [(x2, x4)], q + 2, by go_num, by have := Hxn.out; rw [List.length_append, List.length_singleton]; omega, Lib.hid HB7.out, Lib.hid (fun x hx => by rcases List.mem_append.1 hx with h | h; exact hxs.out x h; rw [List.mem_singleton.1 h]; exact ⟨len_of (by decide) HX2.out, len_of (by decide) HX4.out⟩), Lib.hid (by have := hqq.out; omega)⟩
           ·skip
            go_simp
            have hr3 := heap_alloc_last w2 (.cells #[.string ⟨#[104, 105, 100]⟩, .string ⟨#[101, 120, 116, 114, 97]⟩, .string ⟨#[103, 111, 110, 101]⟩, .string ⟨#[98, 97, 100]⟩] 9)
            have hk3 := (Kp.refl [] w2).alloc (.cells #[.string ⟨#[104, 105, 100]⟩, .string ⟨#[101, 120, 116, 114, 97]⟩, .string ⟨#[103, 111, 110, 101]⟩, .string ⟨#[98, 97, 100]⟩] 9)
            have HB3 := Lib.hid (HB2.out.kp0 hk3)
            obtain ⟨R3, hR3⟩ : ∃ R, w2.heap.size = R := ⟨_, rfl⟩
            generalize w2.alloc (.cells #[.string ⟨#[104, 105, 100]⟩, .string ⟨#[101, 120, 116, 114, 97]⟩, .string ⟨#[103, 111, 110, 101]⟩, .string ⟨#[98, 97, 100]⟩] 9) = w3 at *
            rw [hR3] at hr3 ⊢
            have HL3 := Lib.hid hr3
            have HR3 := Lib.hid hR3
            have HG3 := Lib.hid (show Bm ≤ R3 from by rw [← hR3]; exact HB2.out.szle)
            clear hr3 hk3 hR3 HB2
            have hS := True.intro
            clear hHeld
            refine hK.out _ _ hS (fun hHeld => ?_)
            try simp only [Act.put, List.setIfInBounds_toArray, List.set_cons_zero, List.set_cons_succ]
            clear hK
            refine wpAnyH_ready (rs := [1, 7]) (by kernel_rfl) (by simp) ?_
            refine AllReadyH.cons (o := ⟨some 60, .load 29 (.tmp 59), 29, "config.go:21", #[⟨0, .data⟩], none⟩) rfl (fun K hK => ?_) (AllReadyH.cons (o := ⟨some 66, .call { callee := .value (.func 16), args := #[.tmp 64, .tmp 65], argTypes := #[24, 28] }, 9, "config.go:21", #[⟨5, .data⟩, ⟨6, .data⟩, ⟨4, .chain⟩], none⟩) rfl (fun K hK => ?_) AllReadyH.nil)
            ·skip
             have e1 : w3.cell? ⟨P, 4, none⟩ = some v := HB3.out.cell 4
             go_simp
             clear e1
             have hS := True.intro
             clear hHeld
             refine hK.out _ _ hS (fun hHeld => ?_)
             try simp only [Act.put, List.setIfInBounds_toArray, List.set_cons_zero, List.set_cons_succ]
             clear hK
             refine wpAnyH_ready (rs := [7]) (by kernel_rfl) (by simp) ?_
             refine AllReadyH.cons (o := ⟨some 66, .call { callee := .value (.func 16), args := #[.tmp 64, .tmp 65], argTypes := #[24, 28] }, 9, "config.go:21", #[⟨5, .data⟩, ⟨6, .data⟩, ⟨4, .chain⟩], none⟩) rfl (fun K hK => ?_) AllReadyH.nil
             have hcall := one_at [[104, 105, 100], [101, 120, 116, 114, 97], [103, 111, 110, 101], [98, 97, 100]] HB3.out HL3.out HG3.out (by have := Hq.out; omega) (by decide) (by decide)
             have HC := Lib.hid (show Calls Tryd.prog 16 #[.pointer (some ⟨tb, 0, none⟩), .slice (some ⟨R3, 0, none⟩) 4 4] w3 _ from hcall)
             clear hcall
             go_simp
             go_at_call 16
             refine Calls.mono (by with_reducible exact HC.out) ?_
             rintro e w4 ⟨x4, hx4, rfl, hB4, hk4⟩
             dsimp only
             have HB4 := Lib.hid hB4
             have HX4 := Lib.hid hx4
             clear hB4 hx4 hk4 HB3 HL3 HC
             have hS := True.intro
             clear hHeld
             refine hK.out _ _ hS (fun hHeld => ?_)
             try simp only [Act.put, List.setIfInBounds_toArray, List.set_cons_zero, List.set_cons_succ]
             clear hK
             refine wpAnyH_take (i := 8) (oi := ⟨some 67, .build 48 #[(0, .tmp 63), (1, .tmp 66)], 48, "config.go:21", #[⟨4, .data⟩, ⟨7, .data⟩], none⟩) (v := .agg #[.string (bs x2), .string (bs x4)]) rfl (by kernel_rfl) (by kernel_rfl) (by kernel_rfl) (fun _ _ _ h => h) (Or.inl ⟨by rfl, fun w hSw => by (try dsimp only at hSw); go_simp⟩) hHeld ?_
             try simp only [Act.put, List.setIfInBounds_toArray, List.set_cons_zero, List.set_cons_succ]
             refine wpAnyH_ready (rs := [9]) (by kernel_rfl) (by simp) ?_
             refine AllReadyH.cons (o := ⟨some 68, .buildSlice 29 1 #[(0, .tmp 67)], 29, "config.go:21", #[⟨8, .data⟩], none⟩) rfl (fun K hK => ?_) AllReadyH.nil
             go_simp
             have hr5 := heap_alloc_last w4 (.cells #[.string (bs x2), .string (bs x4)] 48)
             have hk5 := (Kp.refl [] w4).alloc (.cells #[.string (bs x2), .string (bs x4)] 48)
             have HB5 := Lib.hid (HB4.out.kp0 hk5)
             obtain ⟨R5, hR5⟩ : ∃ R, w4.heap.size = R := ⟨_, rfl⟩
             generalize w4.alloc (.cells #[.string (bs x2), .string (bs x4)] 48) = w5 at *
             rw [hR5] at hr5 ⊢
             have HM5 := Lib.hid hr5
             have HR5 := Lib.hid hR5
             have HG5 := Lib.hid (show Bm ≤ R5 from by rw [← hR5]; exact HB4.out.szle)
             clear hr5 hk5 hR5 HB4
             have hS := True.intro
             clear hHeld
             refine hK.out _ _ hS (fun hHeld => ?_)
             try simp only [Act.put, List.setIfInBounds_toArray, List.set_cons_zero, List.set_cons_succ]
             clear hK
             refine wpAnyH_ready (rs := [10]) (by kernel_rfl) (by simp) ?_
             refine AllReadyH.cons (o := ⟨some 69, .call { callee := .builtin .append, args := #[.tmp 60, .tmp 68], argTypes := #[29, 29] }, 29, "config.go:21", #[⟨1, .data⟩, ⟨9, .data⟩, ⟨7, .chain⟩], none⟩) rfl (fun K hK => ?_) AllReadyH.nil
             obtain ⟨v6, w6, hrun, how, hgr⟩ := run_append_r (r := atT) (c := 1) (x2, x4) 29 HB5.out.own (row_cell HM5.out rfl) (by have := Hxn.out; omega) HB5.out.szle
             have HB6 := Lib.hid (HB5.out.app how hgr)
             have HR := Lib.hid hrun
             clear hrun how hgr
             refine step_append_run rfl 29 _ _ rfl _ _ _ rfl rfl HR.out ?_
             clear HR HB5
             obtain ⟨va, vc, hvf⟩ := HB6.out.own.form
             obtain ⟨ln, hln⟩ : ∃ m, (xs ++ [(x2, x4)]).length = m := ⟨_, rfl⟩
             rw [hln] at hvf
             subst hvf
             clear hln
             have hS := True.intro
             clear hHeld
             refine hK.out _ _ hS (fun hHeld => ?_)
             try simp only [Act.put, List.setIfInBounds_toArray, List.set_cons_zero, List.set_cons_succ]
             clear hK
             refine wpAnyH_take (i := 11) (oi := ⟨some 70, .fieldAddr 31 (.tmp 3) 4, 0, "config.go:21", #[⟨0, .phase⟩, ⟨1, .phase⟩, ⟨2, .phase⟩, ⟨3, .phase⟩, ⟨4, .phase⟩, ⟨5, .phase⟩, ⟨6, .phase⟩, ⟨7, .phase⟩, ⟨8, .phase⟩, ⟨9, .phase⟩, ⟨10, .phase⟩], none⟩) (v := .pointer (some ⟨P, 4, none⟩)) rfl (by kernel_rfl) (by kernel_rfl) (by kernel_rfl) (fun _ _ _ h => h) (Or.inl ⟨by rfl, fun w hSw => by (try dsimp only at hSw); go_simp⟩) hHeld ?_
             try simp only [Act.put, List.setIfInBounds_toArray, List.set_cons_zero, List.set_cons_succ]
             refine wpAnyH_ready (rs := [12]) (by kernel_rfl) (by simp) ?_
             refine AllReadyH.cons (o := ⟨none, .store 29 (.tmp 70) (.tmp 69), 0, "config.go:21", #[⟨11, .data⟩, ⟨10, .data⟩, ⟨10, .chain⟩, ⟨0, .phase⟩, ⟨1, .phase⟩, ⟨2, .phase⟩, ⟨3, .phase⟩, ⟨4, .phase⟩, ⟨5, .phase⟩, ⟨6, .phase⟩, ⟨7, .phase⟩, ⟨8, .phase⟩, ⟨9, .phase⟩, ⟨10, .phase⟩], none⟩) rfl (fun K hK => ?_) AllReadyH.nil
             have e1 : w6.cell? ⟨P, 4, none⟩ = some v := HB6.out.cell 4
             have e2 := HB6.out.frz
             have HB7 := Lib.hid (HB6.out.put 4 (.slice va ln vc))
             go_simp
             clear e1 e2
             generalize w6.setCell ⟨P, 4, none⟩ (.slice va ln vc) = w7 at *
             have hS := True.intro
             clear hHeld
             refine hK.out _ _ hS (fun hHeld => ?_)
             try simp only [Act.put, List.setIfInBounds_toArray, List.set_cons_zero, List.set_cons_succ]
             clear hK
             refine wpAnyH_done (by kernel_rfl) ?_ _
             clear hHeld
             go_wp2
             go_roundg gk
             case measure => omega
             case rel => exact ⟨(.slice va ln vc), xs ++ [(x2, x4)], q + 2, by go_num, by have := Hxn.out; rw [List.length_append, List.length_singleton]; omega, Lib.hid HB7.out, Lib.hid (fun x hx => by rcases List.mem_append.1 hx with h | h; exact hxs.out x h; rw [List.mem_singleton.1 h]; exact ⟨len_of (by decide) HX2.out, len_of (by decide) HX4.out⟩), Lib.hid (by have := hqq.out; omega)⟩
            ·skip
             have hcall := one_at [[104, 105, 100], [101, 120, 116, 114, 97], [103, 111, 110, 101], [98, 97, 100]] HB3.out HL3.out HG3.out (by have := Hq.out; omega) (by decide) (by decide)
             have HC := Lib.hid (show Calls Tryd.prog 16 #[.pointer (some ⟨tb, 0, none⟩), .slice (some ⟨R3, 0, none⟩) 4 4] w3 _ from hcall)
             clear hcall
             go_simp
             go_at_call 16
             refine Calls.mono (by with_reducible exact HC.out) ?_
             rintro e w4 ⟨x4, hx4, rfl, hB4, hk4⟩
             dsimp only
             have HB4 := Lib.hid hB4
             have HX4 := Lib.hid hx4
             clear hB4 hx4 hk4 HB3 HL3 HC
             have hS := True.intro
             clear hHeld
             refine hK.out _ _ hS (fun hHeld => ?_)
             try simp only [Act.put, List.setIfInBounds_toArray, List.set_cons_zero, List.set_cons_succ]
             clear hK
             refine wpAnyH_take (i := 8) (oi := ⟨some 67, .build 48 #[(0, .tmp 63), (1, .tmp 66)], 48, "config.go:21", #[⟨4, .data⟩, ⟨7, .data⟩], none⟩) (v := .agg #[.string (bs x2), .string (bs x4)]) rfl (by kernel_rfl) (by kernel_rfl) (by kernel_rfl) (fun _ _ _ h => h) (Or.inl ⟨by rfl, fun w hSw => by (try dsimp only at hSw); go_simp⟩) hHeld ?_
             try simp only [Act.put, List.setIfInBounds_toArray, List.set_cons_zero, List.set_cons_succ]
             refine wpAnyH_ready (rs := [1, 9]) (by kernel_rfl) (by simp) ?_
             refine AllReadyH.cons (o := ⟨some 60, .load 29 (.tmp 59), 29, "config.go:21", #[⟨0, .data⟩], none⟩) rfl (fun K hK => ?_) (AllReadyH.cons (o := ⟨some 68, .buildSlice 29 1 #[(0, .tmp 67)], 29, "config.go:21", #[⟨8, .data⟩], none⟩) rfl (fun K hK => ?_) AllReadyH.nil)
             ·skip
              have e1 : w4.cell? ⟨P, 4, none⟩ = some v := HB4.out.cell 4
              go_simp
              clear e1
              have hS := True.intro
              clear hHeld
              refine hK.out _ _ hS (fun hHeld => ?_)
              try simp only [Act.put, List.setIfInBounds_toArray, List.set_cons_zero, List.set_cons_succ]
              clear hK
              refine wpAnyH_ready (rs := [9]) (by kernel_rfl) (by simp) ?_
              refine AllReadyH.cons (o := ⟨some 68, .buildSlice 29 1 #[(0, .tmp 67)], 29, "config.go:21", #[⟨8, .data⟩], none⟩) rfl (fun K hK => ?_) AllReadyH.nil
              go_simp
              have hr5 := heap_alloc_last w4 (.cells #[.string (bs x2), .string (bs x4)] 48)
              have hk5 := (Kp.refl [] w4).alloc (.cells #[.string (bs x2), .string (bs x4)] 48)
              have HB5 := Lib.hid (HB4.out.kp0 hk5)
              obtain ⟨R5, hR5⟩ : ∃ R, w4.heap.size = R := ⟨_, rfl⟩
              generalize w4.alloc (.cells #[.string (bs x2), .string (bs x4)] 48) = w5 at *
              rw [hR5] at hr5 ⊢
              have HM5 := Lib.hid hr5
              have HR5 := Lib.hid hR5
              have HG5 := Lib.hid (show Bm ≤ R5 from by rw [← hR5]; exact HB4.out.szle)
              clear hr5 hk5 hR5 HB4
              have hS := True.intro
              clear hHeld
              refine hK.out _ _ hS (fun hHeld => ?_)
              try simp only [Act.put, List.setIfInBounds_toArray, List.set_cons_zero, List.set_cons_succ]
              clear hK
              refine wpAnyH_ready (rs := [10]) (by kernel_rfl) (by simp) ?_
              refine AllReadyH.cons (o := ⟨some 69, .call { callee := .builtin .append, args := #[.tmp 60, .tmp 68], argTypes := #[29, 29] }, 29, "config.go:21", #[⟨1, .data⟩, ⟨9, .data⟩, ⟨7, .chain⟩], none⟩) rfl (fun K hK => ?_) AllReadyH.nil
              obtain ⟨v6, w6, hrun, how, hgr⟩ := run_append_r (r := atT) (c := 1) (x2, x4) 29 HB5.out.own (row_cell HM5.out rfl) (by have := Hxn.out; omega) HB5.out.szle
              have HB6 := Lib.hid (HB5.out.app how hgr)
              have HR := Lib.hid hrun
              clear hrun how hgr
              refine step_append_run rfl 29 _ _ rfl _ _ _ rfl rfl HR.out ?_
              clear HR HB5
              obtain ⟨va, vc, hvf⟩ := HB6.out.own.form
              obtain ⟨ln, hln⟩ : ∃ m, (xs ++ [(x2, x4)]).length = m := ⟨_, rfl⟩
              rw [hln] at hvf
              subst hvf
              clear hln
              have hS := True.intro
              clear hHeld
              refine hK.out _ _ hS (fun hHeld => ?_)
              try simp only [Act.put, List.setIfInBounds_toArray, List.set_cons_zero, List.set_cons_succ]
              clear hK
              refine wpAnyH_take (i := 11) (oi := ⟨some 70, .fieldAddr 31 (.tmp 3) 4, 0, "config.go:21", #[⟨0, .phase⟩, ⟨1, .phase⟩, ⟨2, .phase⟩, ⟨3, .phase⟩, ⟨4, .phase⟩, ⟨5, .phase⟩, ⟨6, .phase⟩, ⟨7, .phase⟩, ⟨8, .phase⟩, ⟨9, .phase⟩, ⟨10, .phase⟩], none⟩) (v := .pointer (some ⟨P, 4, none⟩)) rfl (by kernel_rfl) (by kernel_rfl) (by kernel_rfl) (fun _ _ _ h => h) (Or.inl ⟨by rfl, fun w hSw => by (try dsimp only at hSw); go_simp⟩) hHeld ?_
              try simp only [Act.put, List.setIfInBounds_toArray, List.set_cons_zero, List.set_cons_succ]
              refine wpAnyH_ready (rs := [12]) (by kernel_rfl) (by simp) ?_
              refine AllReadyH.cons (o := ⟨none, .store 29 (.tmp 70) (.tmp 69), 0, "config.go:21", #[⟨11, .data⟩, ⟨10, .data⟩, ⟨10, .chain⟩, ⟨0, .phase⟩, ⟨1, .phase⟩, ⟨2, .phase⟩, ⟨3, .phase⟩, ⟨4, .phase⟩, ⟨5, .phase⟩, ⟨6, .phase⟩, ⟨7, .phase⟩, ⟨8, .phase⟩, ⟨9, .phase⟩, ⟨10, .phase⟩], none⟩) rfl (fun K hK => ?_) AllReadyH.nil
              have e1 : w6.cell? ⟨P, 4, none⟩ = some v := HB6.out.cell 4
              have e2 := HB6.out.frz
              have HB7 := Lib.hid (HB6.out.put 4 (.slice va ln vc))
              go_simp
              clear e1 e2
              generalize w6.setCell ⟨P, 4, none⟩ (.slice va ln vc) = w7 at *
              have hS := True.intro
              clear hHeld
              refine hK.out _ _ hS (fun hHeld => ?_)
              try simp only [Act.put, List.setIfInBounds_toArray, List.set_cons_zero, List.set_cons_succ]
              clear hK
              refine wpAnyH_done (by kernel_rfl) ?_ _
              clear hHeld
              go_wp2
              go_roundg gk
              case measure => omega
              case rel => exact ⟨(.slice va ln vc), xs ++ [(x2, x4)], q + 2, by go_num, by have := Hxn.out; rw [List.length_append, List.length_singleton]; omega, Lib.hid HB7.out, Lib.hid (fun x hx => by rcases List.mem_append.1 hx with h | h; exact hxs.out x h; rw [List.mem_singleton.1 h]; exact ⟨len_of (by decide) HX2.out, len_of (by decide) HX4.out⟩), Lib.hid (by have := hqq.out; omega)⟩
             ·skip
              go_simp
              have hr5 := heap_alloc_last w4 (.cells #[.string (bs x2), .string (bs x4)] 48)
              have hk5 := (Kp.refl [] w4).alloc (.cells #[.string (bs x2), .string (bs x4)] 48)
              have HB5 := Lib.hid (HB4.out.kp0 hk5)
              obtain ⟨R5, hR5⟩ : ∃ R, w4.heap.size = R := ⟨_, rfl⟩
              generalize w4.alloc (.cells #[.string (bs x2), .string (bs x4)] 48) = w5 at *
              rw [hR5] at hr5 ⊢
              have HM5 := Lib.hid hr5
              have HR5 := Lib.hid hR5
              have HG5 := Lib.hid (show Bm ≤ R5 from by rw [← hR5]; exact HB4.out.szle)
              clear hr5 hk5 hR5 HB4
              have hS := True.intro
              clear hHeld
              refine hK.out _ _ hS (fun hHeld => ?_)
              try simp only [Act.put, List.setIfInBounds_toArray, List.set_cons_zero, List.set_cons_succ]
              clear hK
              refine wpAnyH_ready (rs := [1]) (by kernel_rfl) (by simp) ?_
              refine AllReadyH.cons (o := ⟨some 60, .load 29 (.tmp 59), 29, "config.go:21", #[⟨0, .data⟩], none⟩) rfl (fun K hK => ?_) AllReadyH.nil
              have e1 : w5.cell? ⟨P, 4, none⟩ = some v := HB5.out.cell 4
              go_simp
              clear e1
              have hS := True.intro
              clear hHeld
              refine hK.out _ _ hS (fun hHeld => ?_)
              try simp only [Act.put, List.setIfInBounds_toArray, List.set_cons_zero, List.set_cons_succ]
              clear hK
              refine wpAnyH_ready (rs := [10]) (by kernel_rfl) (by simp) ?_
              refine AllReadyH.cons (o := ⟨some 69, .call { callee := .builtin .append, args := #[.tmp 60, .tmp 68], argTypes := #[29, 29] }, 29, "config.go:21", #[⟨1, .data⟩, ⟨9, .data⟩, ⟨7, .chain⟩], none⟩) rfl (fun K hK => ?_) AllReadyH.nil
              obtain ⟨v6, w6, hrun, how, hgr⟩ := run_append_r (r := atT) (c := 1) (x2, x4) 29 HB5.out.own (row_cell HM5.out rfl) (by have := Hxn.out; omega) HB5.out.szle
              have HB6 := Lib.hid (HB5.out.app how hgr)
              have HR := Lib.hid hrun
              clear hrun how hgr
              refine step_append_run rfl 29 _ _ rfl _ _ _ rfl rfl HR.out ?_
              clear HR HB5
              obtain ⟨va, vc, hvf⟩ := HB6.out.own.form
              obtain ⟨ln, hln⟩ : ∃ m, (xs ++ [(x2, x4)]).length = m := ⟨_, rfl⟩
              rw [hln] at hvf
              subst hvf
              clear hln
              have hS := True.intro
              clear hHeld
              refine hK.out _ _ hS (fun hHeld => ?_)
              try simp only [Act.put, List.setIfInBounds_toArray, List.set_cons_zero, List.set_cons_succ]
              clear hK
              refine wpAnyH_take (i := 11) (oi := ⟨some 70, .fieldAddr 31 (.tmp 3) 4, 0, "config.go:21", #[⟨0, .phase⟩, ⟨1, .phase⟩, ⟨2, .phase⟩, ⟨3, .phase⟩, ⟨4, .phase⟩, ⟨5, .phase⟩, ⟨6, .phase⟩, ⟨7, .phase⟩, ⟨8, .phase⟩, ⟨9, .phase⟩, ⟨10, .phase⟩], none⟩) (v := .pointer (some ⟨P, 4, none⟩)) rfl (by kernel_rfl) (by kernel_rfl) (by kernel_rfl) (fun _ _ _ h => h) (Or.inl ⟨by rfl, fun w hSw => by (try dsimp only at hSw); go_simp⟩) hHeld ?_
              try simp only [Act.put, List.setIfInBounds_toArray, List.set_cons_zero, List.set_cons_succ]
              refine wpAnyH_ready (rs := [12]) (by kernel_rfl) (by simp) ?_
              refine AllReadyH.cons (o := ⟨none, .store 29 (.tmp 70) (.tmp 69), 0, "config.go:21", #[⟨11, .data⟩, ⟨10, .data⟩, ⟨10, .chain⟩, ⟨0, .phase⟩, ⟨1, .phase⟩, ⟨2, .phase⟩, ⟨3, .phase⟩, ⟨4, .phase⟩, ⟨5, .phase⟩, ⟨6, .phase⟩, ⟨7, .phase⟩, ⟨8, .phase⟩, ⟨9, .phase⟩, ⟨10, .phase⟩], none⟩) rfl (fun K hK => ?_) AllReadyH.nil
              have e1 : w6.cell? ⟨P, 4, none⟩ = some v := HB6.out.cell 4
              have e2 := HB6.out.frz
              have HB7 := Lib.hid (HB6.out.put 4 (.slice va ln vc))
              go_simp
              clear e1 e2
              generalize w6.setCell ⟨P, 4, none⟩ (.slice va ln vc) = w7 at *
              have hS := True.intro
              clear hHeld
              refine hK.out _ _ hS (fun hHeld => ?_)
              try simp only [Act.put, List.setIfInBounds_toArray, List.set_cons_zero, List.set_cons_succ]
              clear hK
              refine wpAnyH_done (by kernel_rfl) ?_ _
              clear hHeld
              go_wp2
              go_roundg gk
              case measure => omega
              case rel => exact ⟨(.slice va ln vc), xs ++ [(x2, x4)], q + 2, by go_num, by have := Hxn.out; rw [List.length_append, List.length_singleton]; omega, Lib.hid HB7.out, Lib.hid (fun x hx => by rcases List.mem_append.1 hx with h | h; exact hxs.out x h; rw [List.mem_singleton.1 h]; exact ⟨len_of (by decide) HX2.out, len_of (by decide) HX4.out⟩), Lib.hid (by have := hqq.out; omega)⟩
          ·skip
           go_simp
           have hr2 := heap_alloc_last w1 (.cells #[.string ⟨#[104, 105, 100]⟩, .string ⟨#[101, 120, 116, 114, 97]⟩, .string ⟨#[103, 111, 110, 101]⟩, .string ⟨#[98, 97, 100]⟩] 9)
           have hk2 := (Kp.refl [] w1).alloc (.cells #[.string ⟨#[104, 105, 100]⟩, .string ⟨#[101, 120, 116, 114, 97]⟩, .string ⟨#[103, 111, 110, 101]⟩, .string ⟨#[98, 97, 100]⟩] 9)
           have HB2 := Lib.hid (HB1.out.kp0 hk2)
           have HL1 := Lib.hid ((hk2.block R1 (block_lt HL1.out) (by simp)).trans HL1.out)
           obtain ⟨R2, hR2⟩ : ∃ R, w1.heap.size = R := ⟨_, rfl⟩
           generalize w1.alloc (.cells #[.string ⟨#[104, 105, 100]⟩, .string ⟨#[101, 120, 116, 114, 97]⟩, .string ⟨#[103, 111, 110, 101]⟩, .string ⟨#[98, 97, 100]⟩] 9) = w2 at *
           rw [hR2] at hr2 ⊢
           have HL2 := Lib.hid hr2
           have HR2 := Lib.hid hR2
           have HG2 := Lib.hid (show Bm ≤ R2 from by rw [← hR2]; exact HB1.out.szle)
           clear hr2 hk2 hR2 HB1
           have hS := True.intro
           clear hHeld
           refine hK.out _ _ hS (fun hHeld => ?_)
           try simp only [Act.put, List.setIfInBounds_toArray, List.set_cons_zero, List.set_cons_succ]
           clear hK
           refine wpAnyH_ready (rs := [1, 4]) (by kernel_rfl) (by simp) ?_
           refine AllReadyH.cons (o := ⟨some 60, .load 29 (.tmp 59), 29, "config.go:21", #[⟨0, .data⟩], none⟩) rfl (fun K hK => ?_) (AllReadyH.cons (o := ⟨some 63, .call { callee := .value (.func 16), args := #[.tmp 61, .tmp 62], argTypes := #[24, 28] }, 9, "config.go:21", #[⟨2, .data⟩, ⟨3, .data⟩], none⟩) rfl (fun K hK => ?_) AllReadyH.nil)
           ·skip
            have e1 : w2.cell? ⟨P, 4, none⟩ = some v := HB2.out.cell 4
            go_simp
            clear e1
            have hS := True.intro
            clear hHeld
            refine hK.out _ _ hS (fun hHeld => ?_)
            try simp only [Act.put, List.setIfInBounds_toArray, List.set_cons_zero, List.set_cons_succ]
            clear hK
            refine wpAnyH_ready (rs := [4]) (by kernel_rfl) (by simp) ?_
            refine AllReadyH.cons (o := ⟨some 63, .call { callee := .value (.func 16), args := #[.tmp 61, .tmp 62], argTypes := #[24, 28] }, 9, "config.go:21", #[⟨2, .data⟩, ⟨3, .data⟩], none⟩) rfl (fun K hK => ?_) AllReadyH.nil
            have hcall := one_at [[117, 115, 98, 58, 42], [112, 99, 105, 58, 100, 50], [120, 58, 63], [91], [118, 105, 114, 116, 42]] HB2.out HL1.out HG1.out (by have := Hq.out; omega) (by decide) (by decide)
            have HC := Lib.hid (show Calls Tryd.prog 16 #[.pointer (some ⟨tb, 0, none⟩), .slice (some ⟨R1, 0, none⟩) 5 5] w2 _ from hcall)
            clear hcall
            go_simp
            go_at_call 16
            refine Calls.mono (by with_reducible exact HC.out) ?_
            rintro e w3 ⟨x3, hx3, rfl, hB3, hk3⟩
            dsimp only
            have HB3 := Lib.hid hB3
            have HX3 := Lib.hid hx3
            have HL2 := Lib.hid ((hk3.block R2 (block_lt HL2.out) (by have := HB3.out.lt; have := HB3.out.PB; have := HG2.out; simp; omega)).trans HL2.out)
            clear hB3 hx3 hk3 HB2 HL1 HC
            have hS := True.intro
            clear hHeld
            refine hK.out _ _ hS (fun hHeld => ?_)
            try simp only [Act.put, List.setIfInBounds_toArray, List.set_cons_zero, List.set_cons_succ]
            clear hK
            refine wpAnyH_ready (rs := [7]) (by kernel_rfl) (by simp) ?_
            refine AllReadyH.cons (o := ⟨some 66, .call { callee := .value (.func 16), args := #[.tmp 64, .tmp 65], argTypes := #[24, 28] }, 9, "config.go:21", #[⟨5, .data⟩, ⟨6, .data⟩, ⟨4, .chain⟩], none⟩) rfl (fun K hK => ?_) AllReadyH.nil
            have hcall := one_at [[104, 105, 100], [101, 120, 116, 114, 97], [103, 111, 110, 101], [98, 97, 100]] HB3.out HL2.out HG2.out (by have := Hq.out; omega) (by decide) (by decide)
            have HC := Lib.hid (show Calls Tryd.prog 16 #[.pointer (some ⟨tb, 0, none⟩), .slice (some ⟨R2, 0, none⟩) 4 4] w3 _ from hcall)
            clear hcall
            go_simp
            go_at_call 16
            refine Calls.mono (by with_reducible exact HC.out) ?_
            rintro e w4 ⟨x4, hx4, rfl, hB4, hk4⟩
            dsimp only
            have HB4 := Lib.hid hB4
            have HX4 := Lib.hid hx4
            clear hB4 hx4 hk4 HB3 HL2 HC
            have hS := True.intro
            clear hHeld
            refine hK.out _ _ hS (fun hHeld => ?_)
            try simp only [Act.put, List.setIfInBounds_toArray, List.set_cons_zero, List.set_cons_succ]
            clear hK
            refine wpAnyH_take (i := 8) (oi := ⟨some 67, .build 48 #[(0, .tmp 63), (1, .tmp 66)], 48, "config.go:21", #[⟨4, .data⟩, ⟨7, .data⟩], none⟩) (v := .agg #[.string (bs x3), .string (bs x4)]) rfl (by kernel_rfl) (by kernel_rfl) (by kernel_rfl) (fun _ _ _ h => h) (Or.inl ⟨by rfl, fun w hSw => by (try dsimp only at hSw); go_simp⟩) hHeld ?_
            try simp only [Act.put, List.setIfInBounds_toArray, List.set_cons_zero, List.set_cons_succ]
            refine wpAnyH_ready (rs := [9]) (by kernel_rfl) (by simp) ?_
            refine AllReadyH.cons (o := ⟨some 68, .buildSlice 29 1 #[(0, .tmp 67)], 29, "config.go:21", #[⟨8, .data⟩], none⟩) rfl (fun K hK => ?_) AllReadyH.nil
            go_simp
            have hr5 := heap_alloc_last w4 (.cells #[.string (bs x3), .string (bs x4)] 48)
            have hk5 := (Kp.refl [] w4).alloc (.cells #[.string (bs x3), .string (bs x4)] 48)
            have HB5 := Lib.hid (HB4.out.kp0 hk5)
            obtain ⟨R5, hR5⟩ : ∃ R, w4.heap.size = R := ⟨_, rfl⟩
            generalize w4.alloc (.cells #[.string (bs x3), .string (bs x4)] 48) = w5 at *
            rw [hR5] at hr5 ⊢
            have HM5 := Lib.hid hr5
            have HR5 := Lib.hid hR5
            have HG5 := Lib.hid (show Bm ≤ R5 from by rw [← hR5]; exact HB4.out.szle)
            clear hr5 hk5 hR5 HB4
            have hS := True.intro
            clear hHeld
            refine hK.out _ _ hS (fun hHeld => ?_)
            try simp only [Act.put, List.setIfInBounds_toArray, List.set_cons_zero, List.set_cons_succ]
            clear hK
            refine wpAnyH_ready (rs := [10]) (by kernel_rfl) (by simp) ?_
            refine AllReadyH.cons (o := ⟨some 69, .call { callee := .builtin .append, args := #[.tmp 60, .tmp 68], argTypes := #[29, 29] }, 29, "config.go:21", #[⟨1, .data⟩, ⟨9, .data⟩, ⟨7, .chain⟩], none⟩) rfl (fun K hK => ?_) AllReadyH.nil
            obtain ⟨v6, w6, hrun, how, hgr⟩ := run_append_r (r := atT) (c := 1) (x3, x4) 29 HB5.out.own (row_cell HM5.out rfl) (by have := Hxn.out; omega) HB5.out.szle
            have HB6 := Lib.hid (HB5.out.app how hgr)
            have HR := Lib.hid hrun
            clear hrun how hgr
            refine step_append_run rfl 29 _ _ rfl _ _ _ rfl rfl HR.out ?_
            clear HR HB5
            obtain ⟨va, vc, hvf⟩ := HB6.out.own.form
            obtain ⟨ln, hln⟩ : ∃ m, (xs ++ [(x3, x4)]).length = m := ⟨_, rfl⟩
            rw [hln] at hvf
            subst hvf
            clear hln
            have hS := True.intro
            clear hHeld
            refine hK.out _ _ hS (fun hHeld => ?_)
            try simp only [Act.put, List.setIfInBounds_toArray, List.set_cons_zero, List.set_cons_succ]
            clear hK
            refine wpAnyH_take (i := 11) (oi := ⟨some 70, .fieldAddr 31 (.tmp 3) 4, 0, "config.go:21", #[⟨0, .phase⟩, ⟨1, .phase⟩, ⟨2, .phase⟩, ⟨3, .phase⟩, ⟨4, .phase⟩, ⟨5, .phase⟩, ⟨6, .phase⟩, ⟨7, .phase⟩, ⟨8, .phase⟩, ⟨9, .phase⟩, ⟨10, .phase⟩], none⟩) (v := .pointer (some ⟨P, 4, none⟩)) rfl (by kernel_rfl) (by kernel_rfl) (by kernel_rfl) (fun _ _ _ h => h) (Or.inl ⟨by rfl, fun w hSw => by (try dsimp only at hSw); go_simp⟩) hHeld ?_
            try simp only [Act.put, List.setIfInBounds_toArray, List.set_cons_zero, List.set_cons_succ]
            refine wpAnyH_ready (rs := [12]) (by kernel_rfl) (by simp) ?_
            refine AllReadyH.cons (o := ⟨none, .store 29 (.tmp 70) (.tmp 69), 0, "config.go:21", #[⟨11, .data⟩, ⟨10, .data⟩, ⟨10, .chain⟩, ⟨0, .phase⟩, ⟨1, .phase⟩, ⟨2, .phase⟩, ⟨3, .phase⟩, ⟨4, .phase⟩, ⟨5, .phase⟩, ⟨6, .phase⟩, ⟨7, .phase⟩, ⟨8, .phase⟩, ⟨9, .phase⟩, ⟨10, .phase⟩], none⟩) rfl (fun K hK => ?_) AllReadyH.nil
            have e1 : w6.cell? ⟨P, 4, none⟩ = some v := HB6.out.cell 4
            have e2 := HB6.out.frz
            have HB7 := Lib.hid (HB6.out.put 4 (.slice va ln vc))
            go_simp
            clear e1 e2
            generalize w6.setCell ⟨P, 4, none⟩ (.slice va ln vc) = w7 at *
            have hS := True.intro
            clear hHeld
            refine hK.out _ _ hS (fun hHeld => ?_)
            try simp only [Act.put, List.setIfInBounds_toArray, List.set_cons_zero, List.set_cons_succ]
            clear hK
            refine wpAnyH_done (by kernel_rfl) ?_ _
            clear hHeld
            go_wp2
            go_roundg gk
            case measure => omega
            case rel => exact ⟨(.slice va ln vc), xs ++ [(x3, x4)], q + 2, by go_num, by have := Hxn.out; rw [List.length_append, List.length_singleton]; omega, Lib.hid HB7.out, Lib.hid (fun x hx => by rcases List.mem_append.1 hx with h | h; exact hxs.out x h; rw [List.mem_singleton.1 h]; exact ⟨len_of (by decide) HX3.out, len_of (by decide) HX4.out⟩), Lib.hid (by have := hqq.out; omega)⟩
           ·skip
            have hcall := one_at [[117, 115, 98, 58, 42], [112, 99, 105, 58, 100, 50], [120, 58, 63], [91], [118, 105, 114, 116, 42]] HB2.out HL1.out HG1.out (by have := Hq.out; omega) (by decide) (by decide)
            have HC := Lib.hid (show Calls Tryd.prog 16 #[.pointer (some ⟨tb, 0, none⟩), .slice (some ⟨R1, 0, none⟩) 5 5] w2 _ from hcall)
            clear hcall
            go_simp
            go_at_call 16
            refine Calls.mono (by with_reducible exact HC.out) ?_
            rintro e w3 ⟨x3, hx3, rfl, hB3, hk3⟩
            dsimp only
            have HB3 := Lib.hid hB3
            have HX3 := Lib.hid hx3
            have HL2 := Lib.hid ((hk3.block R2 (block_lt HL2.out) (by have := HB3.out.lt; have := HB3.out.PB; have := HG2.out; simp; omega)).trans HL2.out)
            clear hB3 hx3 hk3 HB2 HL1 HC
            have hS := True.intro
            clear hHeld
            refine hK.out _ _ hS (fun hHeld => ?_)
            try simp only [Act.put, List.setIfInBounds_toArray, List.set_cons_zero, List.set_cons_succ]
            clear hK
            refine wpAnyH_ready (rs := [1, 7]) (by kernel_rfl) (by simp) ?_
            refine AllReadyH.cons (o := ⟨some 60, .load 29 (.tmp 59), 29, "config.go:21", #[⟨0, .data⟩], none⟩) rfl (fun K hK => ?_) (AllReadyH.cons (o := ⟨some 66, .call { callee := .value (.func 16), args := #[.tmp 64, .tmp 65], argTypes := #[24, 28] }, 9, "config.go:21", #[⟨5, .data⟩, ⟨6, .data⟩, ⟨4, .chain⟩], none⟩) rfl (fun K hK => ?_) AllReadyH.nil)
            ·skip
             have e1 : w3.cell? ⟨P, 4, none⟩ = some v := HB3.out.cell 4
             go_simp
             clear e1
             have hS := True.intro
             clear hHeld
             refine hK.out _ _ hS (fun hHeld => ?_)
             try simp only [Act.put, List.setIfInBounds_toArray, List.set_cons_zero, List.set_cons_succ]
             clear hK
             refine wpAnyH_ready (rs := [7]) (by kernel_rfl) (by simp) ?_
             refine AllReadyH.cons (o := ⟨some 66, .call { callee := .value (.func 16), args := #[.tmp 64, .tmp 65], argTypes := #[24, 28] }, 9, "config.go:21", #[⟨5, .data⟩, ⟨6, .data⟩, ⟨4, .chain⟩], none⟩) rfl (fun K hK => ?_) AllReadyH.nil
             have hcall := one_at [[104, 105, 100], [101, 120, 116, 114, 97], [103, 111, 110, 101], [98, 97, 100]] HB3.out HL2.out HG2.out (by have := Hq.out; omega) (by decide) (by decide)
             have HC := Lib.hid (show Calls Tryd.prog 16 #[.pointer (some ⟨tb, 0, none⟩), .slice (some ⟨R2, 0, none⟩) 4 4] w3 _ from hcall)
             clear hcall
             go_simp
             go_at_call 16
             refine Calls.mono (by with_reducible exact HC.out) ?_
             rintro e w4 ⟨x4, hx4, rfl, hB4, hk4⟩
             dsimp only
             have HB4 := Lib.hid hB4
             have HX4 := Lib.hid hx4
             clear hB4 hx4 hk4 HB3 HL2 HC
             have hS := True.intro
             clear hHeld
             refine hK.out _ _ hS (fun hHeld => ?_)
             try simp only [Act.put, List.setIfInBounds_toArray, List.set_cons_zero, List.set_cons_succ]
             clear hK
             refine wpAnyH_take (i := 8) (oi := ⟨some 67, .build 48 #[(0, .tmp 63), (1, .tmp 66)], 48, "config.go:21", #[⟨4, .data⟩, ⟨7, .data⟩], none⟩) (v := .agg #[.string (bs x3), .string (bs x4)]) rfl (by kernel_rfl) (by kernel_rfl) (by kernel_rfl) (fun _ _ _ h => h) (Or.inl ⟨by rfl, fun w hSw => by (try dsimp only at hSw); go_simp⟩) hHeld ?_
             try simp only [Act.put, List.setIfInBounds_toArray, List.set_cons_zero, List.set_cons_succ]
             refine wpAnyH_ready (rs := [9]) (by kernel_rfl) (by simp) ?_
             refine AllReadyH.cons (o := ⟨some 68, .buildSlice 29 1 #[(0, .tmp 67)], 29, "config.go:21", #[⟨8, .data⟩], none⟩) rfl (fun K hK => ?_) AllReadyH.nil
             go_simp
             have hr5 := heap_alloc_last w4 (.cells #[.string (bs x3), .string (bs x4)] 48)
             have hk5 := (Kp.refl [] w4).alloc (.cells #[.string (bs x3), .string (bs x4)] 48)
             have HB5 := Lib.hid (HB4.out.kp0 hk5)
             obtain ⟨R5, hR5⟩ : ∃ R, w4.heap.size = R := ⟨_, rfl⟩
             generalize w4.alloc (.cells #[.string (bs x3), .string (bs x4)] 48) = w5 at *
             rw [hR5] at hr5 ⊢
             have HM5 := Lib.hid hr5
             have HR5 := Lib.hid hR5
             have HG5 := Lib.hid (show Bm ≤ R5 from by rw [← hR5]; exact HB4.out.szle)
             clear hr5 hk5 hR5 HB4
             have hS := True.intro
             clear hHeld
             refine hK.out _ _ hS (fun hHeld => ?_)
             try simp only [Act.put, List.setIfInBounds_toArray, List.set_cons_zero, List.set_cons_succ]
             clear hK
             refine wpAnyH_ready (rs := [10]) (by kernel_rfl) (by simp) ?_
             refine AllReadyH.cons (o := ⟨some 69, .call { callee := .builtin .append, args := #[.tmp 60, .tmp 68], argTypes := #[29, 29] }, 29, "config.go:21", #[⟨1, .data⟩, ⟨9, .data⟩, ⟨7, .chain⟩], none⟩) rfl (fun K hK => ?_) AllReadyH.nil
             obtain ⟨v6, w6, hrun, how, hgr⟩ := run_append_r (r := atT) (c := 1) (x3, x4) 29 HB5.out.own (row_cell HM5.out rfl) (by have := Hxn.out; omega) HB5.out.szle
             have HB6 := Lib.hid (HB5.out.app how hgr)
             have HR := Lib.hid hrun
             clear hrun how hgr
             refine step_append_run rfl 29 _ _ rfl _ _ _ rfl rfl HR.out ?_
             clear HR HB5
             obtain ⟨va, vc, hvf⟩ := HB6.out.own.form
             obtain ⟨ln, hln⟩ : ∃ m, (xs ++ [(x3, x4)]).length = m := ⟨_, rfl⟩
             rw [hln] at hvf
             subst hvf
             clear hln
             have hS := True.intro
             clear hHeld
             refine hK.out _ _ hS (fun hHeld => ?_)
             try simp only [Act.put, List.setIfInBounds_toArray, List.set_cons_zero, List.set_cons_succ]
             clear hK
             refine wpAnyH_take (i := 11) (oi := ⟨some 70, .fieldAddr 31 (.tmp 3) 4, 0, "config.go:21", #[⟨0, .phase⟩, ⟨1, .phase⟩, ⟨2, .phase⟩, ⟨3, .phase⟩, ⟨4, .phase⟩, ⟨5, .phase⟩, ⟨6, .phase⟩, ⟨7, .phase⟩, ⟨8, .phase⟩, ⟨9, .phase⟩, ⟨10, .phase⟩], none⟩) (v := .pointer (some ⟨P, 4, none⟩)) rfl (by kernel_rfl) (by kernel_rfl) (by kernel_rfl) (fun _ _ _ h => h) (Or.inl ⟨by rfl, fun w hSw => by (try dsimp only at hSw); go_simp⟩) hHeld ?_
             try simp only [Act.put, List.setIfInBounds_toArray, List.set_cons_zero, List.set_cons_succ]
             refine wpAnyH_ready (rs := [12]) (by kernel_rfl) (by simp) ?_
             refine AllReadyH.cons (o := ⟨none, .store 29 (.tmp 70) (.tmp 69), 0, "config.go:21", #[⟨11, .data⟩, ⟨10, .data⟩, ⟨10, .chain⟩, ⟨0, .phase⟩, ⟨1, .phase⟩, ⟨2, .phase⟩, ⟨3, .phase⟩, ⟨4, .phase⟩, ⟨5, .phase⟩, ⟨6, .phase⟩, ⟨7, .phase⟩, ⟨8, .phase⟩, ⟨9, .phase⟩, ⟨10, .phase⟩], none⟩) rfl (fun K hK => ?_) AllReadyH.nil
             have e1 : w6.cell? ⟨P, 4, none⟩ = some v := HB6.out.cell 4
             have e2 := HB6.out.frz
             have HB7 := Lib.hid (HB6.out.put 4 (.slice va ln vc))
             go_simp
             clear e1 e2
             generalize w6.setCell ⟨P, 4, none⟩ (.slice va ln vc) = w7 at *
             have hS := True.intro
             clear hHeld
             refine hK.out _ _ hS (fun hHeld => ?_)
             try simp only [Act.put, List.setIfInBounds_toArray, List.set_cons_zero, List.set_cons_succ]
             clear hK
             refine wpAnyH_done (by kernel_rfl) ?_ _
             clear hHeld
             go_wp2
             go_roundg gk
             case measure => omega
             case rel => exact ⟨(.slice va ln vc), xs ++ [(x3, x4)], q + 2, by go_num, by have := Hxn.out; rw [List.length_append, List.length_singleton]; omega, Lib.hid HB7.out, Lib.hid (fun x hx => by rcases List.mem_append.1 hx with h | h; exact hxs.out x h; rw [List.mem_singleton.1 h]; exact ⟨len_of (by decide) HX3.out, len_of (by decide) HX4.out⟩), Lib.hid (by have := hqq.out; omega)⟩
            ·skip
             have hcall := one_at [[104, 105, 100], [101, 120, 116, 114, 97], [103, 111, 110, 101], [98, 97, 100]] HB3.out HL2.out HG2.out (by have := Hq.out; omega) (by decide) (by decide)
             have HC := Lib.hid (show Calls Tryd.prog 16 #[.pointer (some ⟨tb, 0, none⟩), .slice (some ⟨R2, 0, none⟩) 4 4] w3 _ from hcall)
             clear hcall
             go_simp
             go_at_call 16
             refine Calls.mono (by with_reducible exact HC.out) ?_
             rintro e w4 ⟨x4, hx4, rfl, hB4, hk4⟩
             dsimp only
             have HB4 := Lib.hid hB4
             have HX4 := Lib.hid hx4
             clear hB4 hx4 hk4 HB3 HL2 HC
             have hS := True.intro
             clear hHeld
             refine hK.out _ _ hS (fun hHeld => ?_)
             try simp only [Act.put, List.setIfInBounds_toArray, List.set_cons_zero, List.set_cons_succ]
             clear hK
             refine wpAnyH_take (i := 8) (oi := ⟨some 67, .build 48 #[(0, .tmp 63), (1, .tmp 66)], 48, "config.go:21", #[⟨4, .data⟩, ⟨7, .data⟩], none⟩) (v := .agg #[.string (bs x3), .string (bs x4)]) rfl (by kernel_rfl) (by kernel_rfl) (by kernel_rfl) (fun _ _ _ h => h) (Or.inl ⟨by rfl, fun w hSw => by (try dsimp only at hSw); go_simp⟩) hHeld ?_
             try simp only [Act.put, List.setIfInBounds_toArray, List.set_cons_zero, List.set_cons_succ]
             refine wpAnyH_ready (rs := [1, 9]) (by kernel_rfl) (by simp) ?_
             refine AllReadyH.cons (o := ⟨some 60, .load 29 (.tmp 59), 29, "config.go:21", #[⟨0, .data⟩], none⟩) rfl (fun K hK => ?_) (AllReadyH.cons (o := ⟨some 68, .buildSlice 29 1 #[(0, .tmp 67)], 29, "config.go:21", #[⟨8, .data⟩], none⟩) rfl (fun K hK => ?_) AllReadyH.nil)
             ·skip
              have e1 : w4.cell? ⟨P, 4, none⟩ = some v := HB4.out.cell 4
              go_simp
              clear e1
              have hS := True.intro
              clear hHeld
              refine hK.out _ _ hS (fun hHeld => ?_)
              try simp only [Act.put, List.setIfInBounds_toArray, List.set_cons_zero, List.set_cons_succ]
              clear hK
              refine wpAnyH_ready (rs := [9]) (by kernel_rfl) (by simp) ?_
              refine AllReadyH.cons (o := ⟨some 68, .buildSlice 29 1 #[(0, .tmp 67)], 29, "config.go:21", #[⟨8, .data⟩], none⟩) rfl (fun K hK => ?_) AllReadyH.nil
              go_simp
              have hr5 := heap_alloc_last w4 (.cells #[.string (bs x3), .string (bs x4)] 48)
              have hk5 := (Kp.refl [] w4).alloc (.cells #[.string (bs x3), .string (bs x4)] 48)
              have HB5 := Lib.hid (HB4.out.kp0 hk5)
              obtain ⟨R5, hR5⟩ : ∃ R, w4.heap.size = R := ⟨_, rfl⟩
              generalize w4.alloc (.cells #[.string (bs x3), .string (bs x4)] 48) = w5 at *
              rw [hR5] at hr5 ⊢
              have HM5 := Lib.hid hr5
              have HR5 := Lib.hid hR5
              have HG5 := Lib.hid (show Bm ≤ R5 from by rw [← hR5]; exact HB4.out.szle)
              clear hr5 hk5 hR5 HB4
              have hS := True.intro
              clear hHeld
              refine hK.out _ _ hS (fun hHeld => ?_)
              try simp only [Act.put, List.setIfInBounds_toArray, List.set_cons_zero, List.set_cons_succ]
              clear hK
              refine wpAnyH_ready (rs := [10]) (by kernel_rfl) (by simp) ?_
              refine AllReadyH.cons (o := ⟨some 69, .call { callee := .builtin .append, args := #[.tmp 60, .tmp 68], argTypes := #[29, 29] }, 29, "config.go:21", #[⟨1, .data⟩, ⟨9, .data⟩, ⟨7, .chain⟩], none⟩) rfl (fun K hK => ?_) AllReadyH.nil
              obtain ⟨v6, w6, hrun, how, hgr⟩ := run_append_r (r := atT) (c := 1) (x3, x4) 29 HB5.out.own (row_cell HM5.out rfl) (by have := Hxn.out; omega) HB5.out.szle
              have HB6 := Lib.hid (HB5.out.app how hgr)
              have HR := Lib.hid hrun
              clear hrun how hgr
              refine step_append_run rfl 29 _ _ rfl _ _ _ rfl rfl HR.out ?_
              clear HR HB5
              obtain ⟨va, vc, hvf⟩ := HB6.out.own.form
              obtain ⟨ln, hln⟩ : ∃ m, (xs ++ [(x3, x4)]).length = m := ⟨_, rfl⟩
              rw [hln] at hvf
              subst hvf
              clear hln
              have hS := True.intro
              clear hHeld
              refine hK.out _ _ hS (fun hHeld => ?_)
              try simp only [Act.put, List.setIfInBounds_toArray, List.set_cons_zero, List.set_cons_succ]
              clear hK
              refine wpAnyH_take (i := 11) (oi := ⟨some 70, .fieldAddr 31 (.tmp 3) 4, 0, "config.go:21", #[⟨0, .phase⟩, ⟨1, .phase⟩, ⟨2, .phase⟩, ⟨3, .phase⟩, ⟨4, .phase⟩, ⟨5, .phase⟩, ⟨6, .phase⟩, ⟨7, .phase⟩, ⟨8, .phase⟩, ⟨9, .phase⟩, ⟨10, .phase⟩], none⟩) (v := .pointer (some ⟨P, 4, none⟩)) rfl (by kernel_rfl) (by kernel_rfl) (by kernel_rfl) (fun _ _ _ h => h) (Or.inl ⟨by rfl, fun w hSw => by (try dsimp only at hSw); go_simp⟩) hHeld ?_
              try simp only [Act.put, List.setIfInBounds_toArray, List.set_cons_zero, List.set_cons_succ]
              refine wpAnyH_ready (rs := [12]) (by kernel_rfl) (by simp) ?_
              refine AllReadyH.cons (o := ⟨none, .store 29 (.tmp 70) (.tmp 69), 0, "config.go:21", #[⟨11, .data⟩, ⟨10, .data⟩, ⟨10, .chain⟩, ⟨0, .phase⟩, ⟨1, .phase⟩, ⟨2, .phase⟩, ⟨3, .phase⟩, ⟨4, .phase⟩, ⟨5, .phase⟩, ⟨6, .phase⟩, ⟨7, .phase⟩, ⟨8, .phase⟩, ⟨9, .phase⟩, ⟨10, .phase⟩], none⟩) rfl (fun K hK => ?_) AllReadyH.nil
              have e1 : w6.cell? ⟨P, 4, none⟩ = some v := HB6.out.cell 4
              have e2 := HB6.out.frz
              have HB7 := Lib.hid (HB6.out.put 4 (.slice va ln vc))
              go_simp
              clear e1 e2
              generalize w6.setCell ⟨P, 4, none⟩ (.slice va ln vc) = w7 at *
              have hS := True.intro
              clear hHeld
              refine hK.out _ _ hS (fun hHeld => ?_)
              try simp only [Act.put, List.setIfInBounds_toArray, List.set_cons_zero, List.set_cons_succ]
              clear hK
              refine wpAnyH_done (by kernel_rfl) ?_ _
              clear hHeld
              go_wp2
              go_roundg gk
              case measure => omega
              case rel => exact ⟨(.slice va ln vc), xs ++ [(x3, x4)], q + 2, by go_num, by have := Hxn.out; rw [List.length_append, List.length_singleton]; omega, Lib.hid HB7.out, Lib.hid (fun x hx => by rcases List.mem_append.1 hx with h | h; exact hxs.out x h; rw [List.mem_singleton.1 h]; exact ⟨len_of (by decide) HX3.out, len_of (by decide) HX4.out⟩), Lib.hid (by have := hqq.out; omega)⟩
             ·skip
              go_simp
              have hr5 := heap_alloc_last w4 (.cells #[.string (bs x3), .string (bs x4)] 48)
              have hk5 := (Kp.refl [] w4).alloc (.cells #[.string (bs x3), .string (bs x4)] 48)
              have HB5 := Lib.hid (HB4.out.kp0 hk5)
              obtain ⟨R5, hR5⟩ : ∃ R, w4.heap.size = R := ⟨_, rfl⟩
              generalize w4.alloc (.cells #[.string (bs x3), .string (bs x4)] 48) = w5 at *
              rw [hR5] at hr5 ⊢
              have HM5 := Lib.hid hr5
              have HR5 := Lib.hid hR5
              have HG5 := Lib.hid (show Bm ≤ R5 from by rw [← hR5]; exact HB4.out.szle)
              clear hr5 hk5 hR5 HB4
              have hS := True.intro
              clear hHeld
              refine hK.out _ _ hS (fun hHeld => ?_)
              try simp only [Act.put, List.setIfInBounds_toArray, List.set_cons_zero, List.set_cons_succ]
              clear hK
              refine wpAnyH_ready (rs := [1]) (by kernel_rfl) (by simp) ?_
              refine AllReadyH.cons (o := ⟨some 60, .load 29 (.tmp 59), 29, "config.go:21", #[⟨0, .data⟩], none⟩) rfl (fun K hK => ?_) AllReadyH.nil
              have e1 : w5.cell? ⟨P, 4, none⟩ = some v := HB5.out.cell 4
              go_simp
              clear e1
              have hS := True.intro
              clear hHeld
              refine hK.out _ _ hS (fun hHeld => ?_)
              try simp only [Act.put, List.setIfInBounds_toArray, List.set_cons_zero, List.set_cons_succ]
              clear hK
              refine wpAnyH_ready (rs := [10]) (by kernel_rfl) (by simp) ?_
              refine AllReadyH.cons (o := ⟨some 69, .call { callee := .builtin .append, args := #[.tmp 60, .tmp 68], argTypes := #[29, 29] }, 29, "config.go:21", #[⟨1, .data⟩, ⟨9, .data⟩, ⟨7, .chain⟩], none⟩) rfl (fun K hK => ?_) AllReadyH.nil
              obtain ⟨v6, w6, hrun, how, hgr⟩ := run_append_r (r := atT) (c := 1) (x3, x4) 29 HB5.out.own (row_cell HM5.out rfl) (by have := Hxn.out; omega) HB5.out.szle
              have HB6 := Lib.hid (HB5.out.app how hgr)
              have HR := Lib.hid hrun
              clear hrun how hgr
              refine step_append_run rfl 29 _ _ rfl _ _ _ rfl rfl HR.out ?_
              clear HR HB5
              obtain ⟨va, vc, hvf⟩ := HB6.out.own.form
              obtain ⟨ln, hln⟩ : ∃ m, (xs ++ [(x3, x4)]).length = m := ⟨_, rfl⟩
              rw [hln] at hvf
              subst hvf
              clear hln
              have hS := True.intro
              clear hHeld
              refine hK.out _ _ hS (fun hHeld => ?_)
              try simp only [Act.put, List.setIfInBounds_toArray, List.set_cons_zero, List.set_cons_succ]
              clear hK
              refine wpAnyH_take (i := 11) (oi := ⟨some 70, .fieldAddr 31 (.tmp 3) 4, 0, "config.go:21", #[⟨0, .phase⟩, ⟨1, .phase⟩, ⟨2, .phase⟩, ⟨3, .phase⟩, ⟨4, .phase⟩, ⟨5, .phase⟩, ⟨6, .phase⟩, ⟨7, .phase⟩, ⟨8, .phase⟩, ⟨9, .phase⟩, ⟨10, .phase⟩], none⟩) (v := .pointer (some ⟨P, 4, none⟩)) rfl (by kernel_rfl) (by kernel_rfl) (by kernel_rfl) (fun _ _ _ h => h) (Or.inl ⟨by rfl, fun w hSw => by (try dsimp only at hSw); go_simp⟩) hHeld ?_
              try simp only [Act.put, List.setIfInBounds_toArray, List.set_cons_zero, List.set_cons_succ]
              refine wpAnyH_ready (rs := [12]) (by kernel_rfl) (by simp) ?_
              refine AllReadyH.cons (o := ⟨none, .store 29 (.tmp 70) (.tmp 69), 0, "config.go:21", #[⟨11, .data⟩, ⟨10, .data⟩, ⟨10, .chain⟩, ⟨0, .phase⟩, ⟨1, .phase⟩, ⟨2, .phase⟩, ⟨3, .phase⟩, ⟨4, .phase⟩, ⟨5, .phase⟩, ⟨6, .phase⟩, ⟨7, .phase⟩, ⟨8, .phase⟩, ⟨9, .phase⟩, ⟨10, .phase⟩], none⟩) rfl (fun K hK => ?_) AllReadyH.nil
              have e1 : w6.cell? ⟨P, 4, none⟩ = some v := HB6.out.cell 4
              have e2 := HB6.out.frz
              have HB7 := Lib.hid (HB6.out.put 4 (.slice va ln vc))
              go_simp
              clear e1 e2
              generalize w6.setCell ⟨P, 4, none⟩ (.slice va ln vc) = w7 at *
              have hS := True.intro
              clear hHeld
              refine hK.out _ _ hS (fun hHeld => ?_)
              try simp only [Act.put, List.setIfInBounds_toArray, List.set_cons_zero, List.set_cons_succ]
              clear hK
              refine wpAnyH_done (by kernel_rfl) ?_ _
              clear hHeld
              go_wp2
              go_roundg gk
              case measure => omega
              case rel => exact ⟨(.slice va ln vc), xs ++ [(x3, x4)], q + 2, by go_num, by have := Hxn.out; rw [List.length_append, List.length_singleton]; omega, Lib.hid HB7.out, Lib.hid (fun x hx => by rcases List.mem_append.1 hx with h | h; exact hxs.out x h; rw [List.mem_singleton.1 h]; exact ⟨len_of (by decide) HX3.out, len_of (by decide) HX4.out⟩), Lib.hid (by have := hqq.out; omega)⟩
         ·skip
          go_simp
          have hr1 := heap_alloc_last w0 (.cells #[.string ⟨#[104, 105, 100]⟩, .string ⟨#[101, 120, 116, 114, 97]⟩, .string ⟨#[103, 111, 110, 101]⟩, .string ⟨#[98, 97, 100]⟩] 9)
          have hk1 := (Kp.refl [] w0).alloc (.cells #[.string ⟨#[104, 105, 100]⟩, .string ⟨#[101, 120, 116, 114, 97]⟩, .string ⟨#[103, 111, 110, 101]⟩, .string ⟨#[98, 97, 100]⟩] 9)
          have HB1 := Lib.hid (HB0.out.kp0 hk1)
          obtain ⟨R1, hR1⟩ : ∃ R, w0.heap.size = R := ⟨_, rfl⟩
          generalize w0.alloc (.cells #[.string ⟨#[104, 105, 100]⟩, .string ⟨#[101, 120, 116, 114, 97]⟩, .string ⟨#[103, 111, 110, 101]⟩, .string ⟨#[98, 97, 100]⟩] 9) = w1 at *
          rw [hR1] at hr1 ⊢
          have HL1 := Lib.hid hr1
          have HR1 := Lib.hid hR1
          have HG1 := Lib.hid (show Bm ≤ R1 from by rw [← hR1]; exact HB0.out.szle)
          clear hr1 hk1 hR1 HB0
          have hS := True.intro
          clear hHeld
          refine hK.out _ _ hS (fun hHeld => ?_)
          try simp only [Act.put, List.setIfInBounds_toArray, List.set_cons_zero, List.set_cons_succ]
          clear hK
          refine wpAnyH_ready (rs := [1, 3]) (by kernel_rfl) (by simp) ?_
          refine AllReadyH.cons (o := ⟨some 60, .load 29 (.tmp 59), 29, "config.go:21", #[⟨0, .data⟩], none⟩) rfl (fun K hK => ?_) (AllReadyH.cons (o := ⟨some 62, .buildSlice 28 5 #[(0, .const (.string { data := #[117, 115, 98, 58, 42] })), (1, .const (.string { data := #[112, 99, 105, 58, 100, 50] })), (2, .const (.string { data := #[120, 58, 63] })), (3, .const (.string { data := #[91] })), (4, .const (.string { data := #[118, 105, 114, 116, 42] }))], 28, "config.go:21", #[], none⟩) rfl (fun K hK => ?_) AllReadyH.nil)
          ·skip
           have e1 : w1.cell? ⟨P, 4, none⟩ = some v := HB1.out.cell 4
           go_simp
           clear e1
           have hS := True.intro
           clear hHeld
           refine hK.out _ _ hS (fun hHeld => ?_)
           try simp only [Act.put, List.setIfInBounds_toArray, List.set_cons_zero, List.set_cons_succ]
           clear hK
           refine wpAnyH_ready (rs := [3]) (by kernel_rfl) (by simp) ?_
           refine AllReadyH.cons (o := ⟨some 62, .buildSlice 28 5 #[(0, .const (.string { data := #[117, 115, 98, 58, 42] })), (1, .const (.string { data := #[112, 99, 105, 58, 100, 50] })), (2, .const (.string { data := #[120, 58, 63] })), (3, .const (.string { data := #[91] })), (4, .const (.string { data := #[118, 105, 114, 116, 42] }))], 28, "config.go:21", #[], none⟩) rfl (fun K hK => ?_) AllReadyH.nil
           go_simp
           have hr2 := heap_alloc_last w1 (.cells #[.string ⟨#[117, 115, 98, 58, 42]⟩, .string ⟨#[112, 99, 105, 58, 100, 50]⟩, .string ⟨#[120, 58, 63]⟩, .string ⟨#[91]⟩, .string ⟨#[118, 105, 114, 116, 42]⟩] 9)
           have hk2 := (Kp.refl [] w1).alloc (.cells #[.string ⟨#[117, 115, 98, 58, 42]⟩, .string ⟨#[112, 99, 105, 58, 100, 50]⟩, .string ⟨#[120, 58, 63]⟩, .string ⟨#[91]⟩, .string ⟨#[118, 105, 114, 116, 42]⟩] 9)
           have HB2 := Lib.hid (HB1.out.kp0 hk2)
           have HL1 := Lib.hid ((hk2.block R1 (block_lt HL1.out) (by simp)).trans HL1.out)
           obtain ⟨R2, hR2⟩ : ∃ R, w1.heap.size = R := ⟨_, rfl⟩
           generalize w1.alloc (.cells #[.string ⟨#[117, 115, 98, 58, 42]⟩, .string ⟨#[112, 99, 105, 58, 100, 50]⟩, .string ⟨#[120, 58, 63]⟩, .string ⟨#[91]⟩, .string ⟨#[118, 105, 114, 116, 42]⟩] 9) = w2 at *
           rw [hR2] at hr2 ⊢
           have HL2 := Lib.hid hr2
           have HR2 := Lib.hid hR2
           have HG2 := Lib.hid (show Bm ≤ R2 from by rw [← hR2]; exact HB1.out.szle)
           clear hr2 hk2 hR2 HB1
           have hS := True.intro
           clear hHeld
           refine hK.out _ _ hS (fun hHeld => ?_)
           try simp only [Act.put, List.setIfInBounds_toArray, List.set_cons_zero, List.set_cons_succ]
           clear hK
           refine wpAnyH_ready (rs := [4]) (by kernel_rfl) (by simp) ?_
           refine AllReadyH.cons (o := ⟨some 63, .call { callee := .value (.func 16), args := #[.tmp 61, .tmp 62], argTypes := #[24, 28] }, 9, "config.go:21", #[⟨2, .data⟩, ⟨3, .data⟩], none⟩) rfl (fun K hK => ?_) AllReadyH.nil
           have hcall := one_at [[117, 115, 98, 58, 42], [112, 99, 105, 58, 100, 50], [120, 58, 63], [91], [118, 105, 114, 116, 42]] HB2.out HL2.out HG2.out (by have := Hq.out; omega) (by decide) (by decide)
           have HC := Lib.hid (show Calls Tryd.prog 16 #[.pointer (some ⟨tb, 0, none⟩), .slice (some ⟨R2, 0, none⟩) 5 5] w2 _ from hcall)
           clear hcall
           go_simp
           go_at_call 16
           refine Calls.mono (by with_reducible exact HC.out) ?_
           rintro e w3 ⟨x3, hx3, rfl, hB3, hk3⟩
           dsimp only
           have HB3 := Lib.hid hB3
           have HX3 := Lib.hid hx3
           have HL1 := Lib.hid ((hk3.block R1 (block_lt HL1.out) (by have := HB3.out.lt; have := HB3.out.PB; have := HG1.out; simp; omega)).trans HL1.out)
           clear hB3 hx3 hk3 HB2 HL2 HC
           have hS := True.intro
           clear hHeld
           refine hK.out _ _ hS (fun hHeld => ?_)
           try simp only [Act.put, List.setIfInBounds_toArray, List.set_cons_zero, List.set_cons_succ]
           clear hK
           refine wpAnyH_ready (rs := [7]) (by kernel_rfl) (by simp) ?_
           refine AllReadyH.cons (o := ⟨some 66, .call { callee := .value (.func 16), args := #[.tmp 64, .tmp 65], argTypes := #[24, 28] }, 9, "config.go:21", #[⟨5, .data⟩, ⟨6, .data⟩, ⟨4, .chain⟩], none⟩) rfl (fun K hK => ?_) AllReadyH.nil
           have hcall := one_at [[104, 105, 100], [101, 120, 116, 114, 97], [103, 111, 110, 101], [98, 97, 100]] HB3.out HL1.out HG1.out (by have := Hq.out; omega) (by decide) (by decide)
           have HC := Lib.hid (show Calls Tryd.prog 16 #[.pointer (some ⟨tb, 0, none⟩), .slice (some ⟨R1, 0, none⟩) 4 4] w3 _ from hcall)
           clear hcall
           go_simp
           go_at_call 16
           refine Calls.mono (by with_reducible exact HC.out) ?_
           rintro e w4 ⟨x4, hx4, rfl, hB4, hk4⟩
           dsimp only
           have HB4 := Lib.hid hB4
           have HX4 := Lib.hid hx4
           clear hB4 hx4 hk4 HB3 HL1 HC
           have hS := True.intro
           clear hHeld
           refine hK.out _ _ hS (fun hHeld => ?_)
           try simp only [Act.put, List.setIfInBounds_toArray, List.set_cons_zero, List.set_cons_succ]
           clear hK
           refine wpAnyH_take (i := 8) (oi := ⟨some 67, .build 48 #[(0, .tmp 63), (1, .tmp 66)], 48, "config.go:21", #[⟨4, .data⟩, ⟨7, .data⟩], none⟩) (v := .agg #[.string (bs x3), .string (bs x4)]) rfl (by kernel_rfl) (by kernel_rfl) (by kernel_rfl) (fun _ _ _ h => h) (Or.inl ⟨by rfl, fun w hSw => by (try dsimp only at hSw); go_simp⟩) hHeld ?_
           try simp only [Act.put, List.setIfInBounds_toArray, List.set_cons_zero, List.set_cons_succ]
           refine wpAnyH_ready (rs := [9]) (by kernel_rfl) (by simp) ?_
           refine AllReadyH.cons (o := ⟨some 68, .buildSlice 29 1 #[(0, .tmp 67)], 29, "config.go:21", #[⟨8, .data⟩], none⟩) rfl (fun K hK => ?_) AllReadyH.nil
           go_simp
           have hr5 := heap_alloc_last w4 (.cells #[.string (bs x3), .string (bs x4)] 48)
           have hk5 := (Kp.refl [] w4).alloc (.cells #[.string (bs x3), .string (bs x4)] 48)
           have HB5 := Lib.hid (HB4.out.kp0 hk5)
           obtain ⟨R5, hR5⟩ : ∃ R, w4.heap.size = R := ⟨_, rfl⟩
           generalize w4.alloc (.cells #[.string (bs x3), .string (bs x4)] 48) = w5 at *
           rw [hR5] at hr5 ⊢
           have HM5 := Lib.hid hr5
           have HR5 := Lib.hid hR5
           have HG5 := Lib.hid (show Bm ≤ R5 from by rw [← hR5]; exact HB4.out.szle)
           clear hr5 hk5 hR5 HB4
           have hS := True.intro
           clear hHeld
           refine hK.out _ _ hS (fun hHeld => ?_)
           try simp only [Act.put, List.setIfInBounds_toArray, List.set_cons_zero, List.set_cons_succ]
           clear hK
           refine wpAnyH_ready (rs := [10]) (by kernel_rfl) (by simp) ?_
           refine AllReadyH.cons (o := ⟨some 69, .call { callee := .builtin .append, args := #[.tmp 60, .tmp 68], argTypes := #[29, 29] }, 29, "config.go:21", #[⟨1, .data⟩, ⟨9, .data⟩, ⟨7, .chain⟩], none⟩) rfl (fun K hK => ?_) AllReadyH.nil
           obtain ⟨v6, w6, hrun, how, hgr⟩ := run_append_r (r := atT) (c := 1) (x3, x4) 29 HB5.out.own (row_cell HM5.out rfl) (by have := Hxn.out; omega) HB5.out.szle
           have HB6 := Lib.hid (HB5.out.app how hgr)
           have HR := Lib.hid hrun
           clear hrun how hgr
           refine step_append_run rfl 29 _ _ rfl _ _ _ rfl rfl HR.out ?_
           clear HR HB5
           obtain ⟨va, vc, hvf⟩ := HB6.out.own.form
           obtain ⟨ln, hln⟩ : ∃ m, (xs ++ [(x3, x4)]).length = m := ⟨_, rfl⟩
           rw [hln] at hvf
           subst hvf
           clear hln
           have hS := True.intro
           clear hHeld
           refine hK.out _ _ hS (fun hHeld => ?_)
           try simp only [Act.put, List.setIfInBounds_toArray, List.set_cons_zero, List.set_cons_succ]
           clear hK
           refine wpAnyH_take (i := 11) (oi := ⟨some 70, .fieldAddr 31 (.tmp 3) 4, 0, "config.go:21", #[⟨0, .phase⟩, ⟨1, .phase⟩, ⟨2, .phase⟩, ⟨3, .phase⟩, ⟨4, .phase⟩, ⟨5, .phase⟩, ⟨6, .phase⟩, ⟨7, .phase⟩, ⟨8, .phase⟩, ⟨9, .phase⟩, ⟨10, .phase⟩], none⟩) (v := .pointer (some ⟨P, 4, none⟩)) rfl (by kernel_rfl) (by kernel_rfl) (by kernel_rfl) (fun _ _ _ h => h) (Or.inl ⟨by rfl, fun w hSw => by (try dsimp only at hSw); go_simp⟩) hHeld ?_
           try simp only [Act.put, List.setIfInBounds_toArray, List.set_cons_zero, List.set_cons_succ]
           refine wpAnyH_ready (rs := [12]) (by kernel_rfl) (by simp) ?_
           refine AllReadyH.cons (o := ⟨none, .store 29 (.tmp 70) (.tmp 69), 0, "config.go:21", #[⟨11, .data⟩, ⟨10, .data⟩, ⟨10, .chain⟩, ⟨0, .phase⟩, ⟨1, .phase⟩, ⟨2, .phase⟩, ⟨3, .phase⟩, ⟨4, .phase⟩, ⟨5, .phase⟩, ⟨6, .phase⟩, ⟨7, .phase⟩, ⟨8, .phase⟩, ⟨9, .phase⟩, ⟨10, .phase⟩], none⟩) rfl (fun K hK => ?_) AllReadyH.nil
           have e1 : w6.cell? ⟨P, 4, none⟩ = some v := HB6.out.cell 4
           have e2 := HB6.out.frz
           have HB7 := Lib.hid (HB6.out.put 4 (.slice va ln vc))
           go_simp
           clear e1 e2
           generalize w6.setCell ⟨P, 4, none⟩ (.slice va ln vc) = w7 at *
           have hS := True.intro
           clear hHeld
           refine hK.out _ _ hS (fun hHeld => ?_)
           try simp only [Act.put, List.setIfInBounds_toArray, List.set_cons_zero, List.set_cons_succ]
           clear hK
           refine wpAnyH_done (by kernel_rfl) ?_ _
           clear hHeld
           go_wp2
           go_roundg gk
           case measure => omega
           case rel => exact ⟨(.slice va ln vc), xs ++ [(x3, x4)], q + 2, by go_num, by have := Hxn.out; rw [List.length_append, List.length_singleton]; omega, Lib.hid HB7.out, Lib.hid (fun x hx => by rcases List.mem_append.1 hx with h | h; exact hxs.out x h; rw [List.mem_singleton.1 h]; exact ⟨len_of (by decide) HX3.out, len_of (by decide) HX4.out⟩), Lib.hid (by have := hqq.out; omega)⟩
          ·skip
           go_simp
           have hr2 := heap_alloc_last w1 (.cells #[.string ⟨#[117, 115, 98, 58, 42]⟩, .string ⟨#[112, 99, 105, 58, 100, 50]⟩, .string ⟨#[120, 58, 63]⟩, .string ⟨#[91]⟩, .string ⟨#[118, 105, 114, 116, 42]⟩] 9)
           have hk2 := (Kp.refl [] w1).alloc (.cells #[.string ⟨#[117, 115, 98, 58, 42]⟩, .string ⟨#[112, 99, 105, 58, 100, 50]⟩, .string ⟨#[120, 58, 63]⟩, .string ⟨#[91]⟩, .string ⟨#[118, 105, 114, 116, 42]⟩] 9)
           have HB2 := Lib.hid (HB1.out.kp0 hk2)
           have HL1 := Lib.hid ((hk2.block R1 (block_lt HL1.out) (by simp)).trans HL1.out)
           obtain ⟨R2, hR2⟩ : ∃ R, w1.heap.size = R := ⟨_, rfl⟩
           generalize w1.alloc (.cells #[.string ⟨#[117, 115, 98, 58, 42]⟩, .string ⟨#[112, 99, 105, 58, 100, 50]⟩, .string ⟨#[120, 58, 63]⟩, .string ⟨#[91]⟩, .string ⟨#[118, 105, 114, 116, 42]⟩] 9) = w2 at *
           rw [hR2] at hr2 ⊢
           have HL2 := Lib.hid hr2
           have HR2 := Lib.hid hR2
           have HG2 := Lib.hid (show Bm ≤ R2 from by rw [← hR2]; exact HB1.out.szle)
           clear hr2 hk2 hR2 HB1
           have hS := True.intro
           clear hHeld
           refine hK.out _ _ hS (fun hHeld => ?_)
           try simp only [Act.put, List.setIfInBounds_toArray, List.set_cons_zero, List.set_cons_succ]
           clear hK
           refine wpAnyH_ready (rs := [1, 4]) (by kernel_rfl) (by simp) ?_
           refine AllReadyH.cons (o := ⟨some 60, .load 29 (.tmp 59), 29, "config.go:21", #[⟨0, .data⟩], none⟩) rfl (fun K hK => ?_) (AllReadyH.cons (o := ⟨some 63, .call { callee := .value (.func 16), args := #[.tmp 61, .tmp 62], argTypes := #[24, 28] }, 9, "config.go:21", #[⟨2, .data⟩, ⟨3, .data⟩], none⟩) rfl (fun K hK => ?_) AllReadyH.nil)
           ·skip
            have e1 : w2.cell? ⟨P, 4, none⟩ = some v := HB2.out.cell 4
            go_simp
            clear e1
            have hS := True.intro
            clear hHeld
            refine hK.out _ _ hS (fun hHeld => ?_)
            try simp only [Act.put, List.setIfInBounds_toArray, List.set_cons_zero, List.set_cons_succ]
            clear hK
            refine wpAnyH_ready (rs := [4]) (by kernel_rfl) (by simp) ?_
            refine AllReadyH.cons (o := ⟨some 63, .call { callee := .value (.func 16), args := #[.tmp 61, .tmp 62], argTypes := #[24, 28] }, 9, "config.go:21", #[⟨2, .data⟩, ⟨3, .data⟩], none⟩) rfl (fun K hK => ?_) AllReadyH.nil
            have hcall := one_at [[117, 115, 98, 58, 42], [112, 99, 105, 58, 100, 50], [120, 58, 63], [91], [118, 105, 114, 116, 42]] HB2.out HL2.out HG2.out (by have := Hq.out; omega) (by decide) (by decide)
            have HC := Lib.hid (show Calls Tryd.prog 16 #[.pointer (some ⟨tb, 0, none⟩), .slice (some ⟨R2, 0, none⟩) 5 5] w2 _ from hcall)
            clear hcall
            go_simp
            go_at_call 16
            refine Calls.mono (by with_reducible exact HC.out) ?_
            rintro e w3 ⟨x3, hx3, rfl, hB3, hk3⟩
            dsimp only
            have HB3 := Lib.hid hB3
            have HX3 := Lib.hid hx3
            have HL1 := Lib.hid ((hk3.block R1 (block_lt HL1.out) (by have := HB3.out.lt; have := HB3.out.PB; have := HG1.out; simp; omega)).trans HL1.out)
            clear hB3 hx3 hk3 HB2 HL2 HC
            have hS := True.intro
            clear hHeld
            refine hK.out _ _ hS (fun hHeld => ?_)
            try simp only [Act.put, List.setIfInBounds_toArray, List.set_cons_zero, List.set_cons_succ]
            clear hK
            refine wpAnyH_ready (rs := [7]) (by kernel_rfl) (by simp) ?_
            refine AllReadyH.cons (o := ⟨some 66, .call { callee := .value (.func 16), args := #[.tmp 64, .tmp 65], argTypes := #[24, 28] }, 9, "config.go:21", #[⟨5, .data⟩, ⟨6, .data⟩, ⟨4, .chain⟩], none⟩) rfl (fun K hK => ?_) AllReadyH.nil
            have hcall := one_at [[104, 105, 100], [101, 120, 116, 114, 97], [103, 111, 110, 101], [98, 97, 100]] HB3.out HL1.out HG1.out (by have := Hq.out; omega) (by decide) (by decide)
            have HC := Lib.hid (show Calls Tryd.prog 16 #[.pointer (some ⟨tb, 0, none⟩), .slice (some ⟨R1, 0, none⟩) 4 4] w3 _ from hcall)
            clear hcall
            go_simp
            go_at_call 16
            refine Calls.mono (by with_reducible exact HC.out) ?_
            rintro e w4 ⟨x4, hx4, rfl, hB4, hk4⟩
            dsimp only
            have HB4 := Lib.hid hB4
            have HX4 := Lib.hid hx4
            clear hB4 hx4 hk4 HB3 HL1 HC
            have hS := True.intro
            clear hHeld
            refine hK.out _ _ hS (fun hHeld => ?_)
            try simp only [Act.put, List.setIfInBounds_toArray, List.set_cons_zero, List.set_cons_succ]
            clear hK
            refine wpAnyH_take (i := 8) (oi := ⟨some 67, .build 48 #[(0, .tmp 63), (1, .tmp 66)], 48, "config.go:21", #[⟨4, .data⟩, ⟨7, .data⟩], none⟩) (v := .agg #[.string (bs x3), .string (bs x4)]) rfl (by kernel_rfl) (by kernel_rfl) (by kernel_rfl) (fun _ _ _ h => h) (Or.inl ⟨by rfl, fun w hSw => by (try dsimp only at hSw); go_simp⟩) hHeld ?_
            try simp only [Act.put, List.setIfInBounds_toArray, List.set_cons_zero, List.set_cons_succ]
            refine wpAnyH_ready (rs := [9]) (by kernel_rfl) (by simp) ?_
            refine AllReadyH.cons (o := ⟨some 68, .buildSlice 29 1 #[(0, .tmp 67)], 29, "config.go:21", #[⟨8, .data⟩], none⟩) rfl (fun K hK => ?_) AllReadyH.nil
            go_simp
            have hr5 := heap_alloc_last w4 (.cells #[.string (bs x3), .string (bs x4)] 48)
            have hk5 := (Kp.refl [] w4).alloc (.cells #[.string (bs x3), .string (bs x4)] 48)
            have HB5 := Lib.hid (HB4.out.kp0 hk5)
            obtain ⟨R5, hR5⟩ : ∃ R, w4.heap.size = R := ⟨_, rfl⟩
            generalize w4.alloc (.cells #[.string (bs x3), .string (bs x4)] 48) = w5 at *
            rw [hR5] at hr5 ⊢
            have HM5 := Lib.hid hr5
            have HR5 := Lib.hid hR5
            have HG5 := Lib.hid (show Bm ≤ R5 from by rw [← hR5]; exact HB4.out.szle)
            clear hr5 hk5 hR5 HB4
            have hS := True.intro
            clear hHeld
            refine hK.out _ _ hS (fun hHeld => ?_)
            try simp only [Act.put, List.setIfInBounds_toArray, List.set_cons_zero, List.set_cons_succ]
            clear hK
            refine wpAnyH_ready (rs := [10]) (by kernel_rfl) (by simp) ?_
            refine AllReadyH.cons (o := ⟨some 69, .call { callee := .builtin .append, args := #[.tmp 60, .tmp 68], argTypes := #[29, 29] }, 29, "config.go:21", #[⟨1, .data⟩, ⟨9, .data⟩, ⟨7, .chain⟩], none⟩) rfl (fun K hK => ?_) AllReadyH.nil
            obtain ⟨v6, w6, hrun, how, hgr⟩ := run_append_r (r := atT) (c := 1) (x3, x4) 29 HB5.out.own (row_cell HM5.out rfl) (by have := Hxn.out; omega) HB5.out.szle
            have HB6 := Lib.hid (HB5.out.app how hgr)
            have HR := Lib.hid hrun
            clear hrun how hgr
            refine step_append_run rfl 29 _ _ rfl _ _ _ rfl rfl HR.out ?_
            clear HR HB5
            obtain ⟨va, vc, hvf⟩ := HB6.out.own.form
            obtain ⟨ln, hln⟩ : ∃ m, (xs ++ [(x3, x4)]).length = m := ⟨_, rfl⟩
            rw [hln] at hvf
            subst hvf
            clear hln
            have hS := True.intro
            clear hHeld
            refine hK.out _ _ hS (fun hHeld => ?_)
            try simp only [Act.put, List.setIfInBounds_toArray, List.set_cons_zero, List.set_cons_succ]
            clear hK
            refine wpAnyH_take (i := 11) (oi := ⟨some 70, .fieldAddr 31 (.tmp 3) 4, 0, "config.go:21", #[⟨0, .phase⟩, ⟨1, .phase⟩, ⟨2, .phase⟩, ⟨3, .phase⟩, ⟨4, .phase⟩, ⟨5, .phase⟩, ⟨6, .phase⟩, ⟨7, .phase⟩, ⟨8, .phase⟩, ⟨9, .phase⟩, ⟨10, .phase⟩], none⟩) (v := .pointer (some ⟨P, 4, none⟩)) rfl (by kernel_rfl) (by kernel_rfl) (by kernel_rfl) (fun _ _ _ h => h) (Or.inl ⟨by rfl, fun w hSw => by (try dsimp only at hSw); go_simp⟩) hHeld ?_
            try simp only [Act.put, List.setIfInBounds_toArray, List.set_cons_zero, List.set_cons_succ]
            refine wpAnyH_ready (rs := [12]) (by kernel_rfl) (by simp) ?_
            refine AllReadyH.cons (o := ⟨none, .store 29 (.tmp 70) (.tmp 69), 0, "config.go:21", #[⟨11, .data⟩, ⟨10, .data⟩, ⟨10, .chain⟩, ⟨0, .phase⟩, ⟨1, .phase⟩, ⟨2, .phase⟩, ⟨3, .phase⟩, ⟨4, .phase⟩, ⟨5, .phase⟩, ⟨6, .phase⟩, ⟨7, .phase⟩, ⟨8, .phase⟩, ⟨9, .phase⟩, ⟨10, .phase⟩], none⟩) rfl (fun K hK => ?_) AllReadyH.nil
            have e1 : w6.cell? ⟨P, 4, none⟩ = some v := HB6.out.cell 4
            have e2 := HB6.out.frz
            have HB7 := Lib.hid (HB6.out.put 4 (.slice va ln vc))
            go_simp
            clear e1 e2
            generalize w6.setCell ⟨P, 4, none⟩ (.slice va ln vc) = w7 at *
            have hS := True.intro
            clear hHeld
            refine hK.out _ _ hS (fun hHeld => ?_)
            try simp only [Act.put, List.setIfInBounds_toArray, List.set_cons_zero, List.set_cons_succ]
            clear hK
            refine wpAnyH_done (by kernel_rfl) ?_ _
            clear hHeld
            go_wp2
            go_roundg gk
            case measure => omega
            case rel => exact ⟨(.slice va ln vc), xs ++ [(x3, x4)], q + 2, by go_num, by have := Hxn.out; rw [List.length_append, List.length_singleton]; omega, Lib.hid HB7.out, Lib.hid (fun x hx => by rcases List.mem_append.1 hx with h | h; exact hxs.out x h; rw [List.mem_singleton.1 h]; exact ⟨len_of (by decide) HX3.out, len_of (by decide) HX4.out⟩), Lib.hid (by have := hqq.out; omega)⟩
           ·skip
            have hcall := one_at [[117, 115, 98, 58, 42], [112, 99, 105, 58, 100, 50], [120, 58, 63], [91], [118, 105, 114, 116, 42]] HB2.out HL2.out HG2.out (by have := Hq.out; omega) (by decide) (by decide)
            have HC := Lib.hid (show Calls Tryd.prog 16 #[.pointer (some ⟨tb, 0, none⟩), .slice (some ⟨R2, 0, none⟩) 5 5] w2 _ from hcall)
            clear hcall
            go_simp
            go_at_call 16
            refine Calls.mono (by with_reducible exact HC.out) ?_
            rintro e w3 ⟨x3, hx3, rfl, hB3, hk3⟩
            dsimp only
            have HB3 := Lib.hid hB3
            have HX3 := Lib.hid hx3
            have HL1 := Lib.hid ((hk3.block R1 (block_lt HL1.out) (by have := HB3.out.lt; have := HB3.out.PB; have := HG1.out; simp; omega)).trans HL1.out)
            clear hB3 hx3 hk3 HB2 HL2 HC
            have hS := True.intro
            clear hHeld
            refine hK.out _ _ hS (fun hHeld => ?_)
            try simp only [Act.put, List.setIfInBounds_toArray, List.set_cons_zero, List.set_cons_succ]
            clear hK
            refine wpAnyH_ready (rs := [1, 7]) (by kernel_rfl) (by simp) ?_
            refine AllReadyH.cons (o := ⟨some 60, .load 29 (.tmp 59), 29, "config.go:21", #[⟨0, .data⟩], none⟩) rfl (fun K hK => ?_) (AllReadyH.cons (o := ⟨some 66, .call { callee := .value (.func 16), args := #[.tmp 64, .tmp 65], argTypes := #[24, 28] }, 9, "config.go:21", #[⟨5, .data⟩, ⟨6, .data⟩, ⟨4, .chain⟩], none⟩) rfl (fun K hK => ?_) AllReadyH.nil)
            ·skip
             have e1 : w3.cell? ⟨P, 4, none⟩ = some v := HB3.out.cell 4
             go_simp
             clear e1
             have hS := True.intro
             clear hHeld
             refine hK.out _ _ hS (fun hHeld => ?_)
             try simp only [Act.put, List.setIfInBounds_toArray, List.set_cons_zero, List.set_cons_succ]
             clear hK
             refine wpAnyH_ready (rs := [7]) (by kernel_rfl) (by simp) ?_
             refine AllReadyH.cons (o := ⟨some 66, .call { callee := .value (.func 16), args := #[.tmp 64, .tmp 65], argTypes := #[24, 28] }, 9, "config.go:21", #[⟨5, .data⟩, ⟨6, .data⟩, ⟨4, .chain⟩], none⟩) rfl (fun K hK => ?_) AllReadyH.nil
             have hcall := one_at [[104, 105, 100], [101, 120, 116, 114, 97], [103, 111, 110, 101], [98, 97, 100]] HB3.out HL1.out HG1.out (by have := Hq.out; omega) (by decide) (by decide)
             have HC := Lib.hid (show Calls Tryd.prog 16 #[.pointer (some ⟨tb, 0, none⟩), .slice (some ⟨R1, 0, none⟩) 4 4] w3 _ from hcall)
             clear hcall
             go_simp
             go_at_call 16
             refine Calls.mono (by with_reducible exact HC.out) ?_
             rintro e w4 ⟨x4, hx4, rfl, hB4, hk4⟩
             dsimp only
             have HB4 := Lib.hid hB4
             have HX4 := Lib.hid hx4
             clear hB4 hx4 hk4 HB3 HL1 HC
             have hS := True.intro
             clear hHeld
             refine hK.out _ _ hS (fun hHeld => ?_)
             try simp only [Act.put, List.setIfInBounds_toArray, List.set_cons_zero, List.set_cons_succ]
             clear hK
             refine wpAnyH_take (i := 8) (oi := ⟨some 67, .build 48 #[(0, .tmp 63), (1, .tmp 66)], 48, "config.go:21", #[⟨4, .data⟩, ⟨7, .data⟩], none⟩) (v := .agg #[.string (bs x3), .string (bs x4)]) rfl (by kernel_rfl) (by kernel_rfl) (by kernel_rfl) (fun _ _ _ h => h) (Or.inl ⟨by rfl, fun w hSw => by (try dsimp only at hSw); go_simp⟩) hHeld ?_
             try simp only [Act.put, List.setIfInBounds_toArray, List.set_cons_zero, List.set_cons_succ]
             refine wpAnyH_ready (rs := [9]) (by kernel_rfl) (by simp) ?_
             refine AllReadyH.cons (o := ⟨some 68, .buildSlice 29 1 #[(0, .tmp 67)], 29, "config.go:21", #[⟨8, .data⟩], none⟩) rfl (fun K hK => ?_) AllReadyH.nil
             go_simp
             have hr5 := heap_alloc_last w4 (.cells #[.string (bs x3), .string (bs x4)] 48)
             have hk5 := (Kp.refl [] w4).alloc (.cells #[.string (bs x3), .string (bs x4)] 48)
             have HB5 := Lib.hid (HB4.out.kp0 hk5)
             obtain ⟨R5, hR5⟩ : ∃ R, w4.heap.size = R := ⟨_, rfl⟩
             generalize w4.alloc (.cells #[.string (bs x3), .string (bs x4)] 48) = w5 at *
             rw [hR5] at hr5 ⊢
             have HM5 := Lib.hid hr5
             have HR5 := Lib.hid hR5
             have HG5 := Lib.hid (show Bm ≤ R5 from by rw [← hR5]; exact HB4.out.szle)
             clear hr5 hk5 hR5 HB4
             have hS := True.intro
             clear hHeld
             refine hK.out _ _ hS (fun hHeld => ?_)
             try simp only [Act.put, List.setIfInBounds_toArray, List.set_cons_zero, List.set_cons_succ]
             clear hK
             refine wpAnyH_ready (rs := [10]) (by kernel_rfl) (by simp) ?_
             refine AllReadyH.cons (o := ⟨some 69, .call { callee := .builtin .append, args := #[.tmp 60, .tmp 68], argTypes := #[29, 29] }, 29, "config.go:21", #[⟨1, .data⟩, ⟨9, .data⟩, ⟨7, .chain⟩], none⟩) rfl (fun K hK => ?_) AllReadyH.nil
             obtain ⟨v6, w6, hrun, how, hgr⟩ := run_append_r (r := atT) (c := 1) (x3, x4) 29 HB5.out.own (row_cell HM5.out rfl) (by have := Hxn.out; omega) HB5.out.szle
             have HB6 := Lib.hid (HB5.out.app how hgr)
             have HR := Lib.hid hrun
             clear hrun how hgr
             refine step_append_run rfl 29 _ _ rfl _ _ _ rfl rfl HR.out ?_
             clear HR HB5
             obtain ⟨va, vc, hvf⟩ := HB6.out.own.form
             obtain ⟨ln, hln⟩ : ∃ m, (xs ++ [(x3, x4)]).length = m := ⟨_, rfl⟩
             rw [hln] at hvf
             subst hvf
             clear hln
             have hS := True.intro
             clear hHeld
             refine hK.out _ _ hS (fun hHeld => ?_)
             try simp only [Act.put, List.setIfInBounds_toArray, List.set_cons_zero, List.set_cons_succ]
             clear hK
             refine wpAnyH_take (i := 11) (oi := ⟨some 70, .fieldAddr 31 (.tmp 3) 4, 0, "config.go:21", #[⟨0, .phase⟩, ⟨1, .phase⟩, ⟨2, .phase⟩, ⟨3, .phase⟩, ⟨4, .phase⟩, ⟨5, .phase⟩, ⟨6, .phase⟩, ⟨7, .phase⟩, ⟨8, .phase⟩, ⟨9, .phase⟩, ⟨10, .phase⟩], none⟩) (v := .pointer (some ⟨P, 4, none⟩)) rfl (by kernel_rfl) (by kernel_rfl) (by kernel_rfl) (fun _ _ _ h => h) (Or.inl ⟨by rfl, fun w hSw => by (try dsimp only at hSw); go_simp⟩) hHeld ?_
             try simp only [Act.put, List.setIfInBounds_toArray, List.set_cons_zero, List.set_cons_succ]
             refine wpAnyH_ready (rs := [12]) (by kernel_rfl) (by simp) ?_
             refine AllReadyH.cons (o := ⟨none, .store 29 (.tmp 70) (.tmp 69), 0, "config.go:21", #[⟨11, .data⟩, ⟨10, .data⟩, ⟨10, .chain⟩, ⟨0, .phase⟩, ⟨1, .phase⟩, ⟨2, .phase⟩, ⟨3, .phase⟩, ⟨4, .phase⟩, ⟨5, .phase⟩, ⟨6, .phase⟩, ⟨7, .phase⟩, ⟨8, .phase⟩, ⟨9, .phase⟩, ⟨10, .phase⟩], none⟩) rfl (fun K hK => ?_) AllReadyH.nil
             have e1 : w6.cell? ⟨P, 4, none⟩ = some v := HB6.out.cell 4
             have e2 := HB6.out.frz
             have HB7 := Lib.hid (HB6.out.put 4 (.slice va ln vc))
             go_simp
             clear e1 e2
             generalize w6.setCell ⟨P, 4, none⟩ (.slice va ln vc) = w7 at *
             have hS := True.intro
             clear hHeld
             refine hK.out _ _ hS (fun hHeld => ?_)
             try simp only [Act.put, List.setIfInBounds_toArray, List.set_cons_zero, List.set_cons_succ]
             clear hK
             refine wpAnyH_done (by kernel_rfl) ?_ _
             clear hHeld
             go_wp2
             go_roundg gk
             case measure => omega
             case rel => exact ⟨(.slice va ln vc), xs ++ [(x3, x4)], q + 2, by go_num, by have := Hxn.out; rw [List.length_append, List.length_singleton]; omega, Lib.hid HB7.out, Lib.hid (fun x hx => by rcases List.mem_append.1 hx with h | h; exact hxs.out x h; rw [List.mem_singleton.1 h]; exact ⟨len_of (by decide) HX3.out, len_of (by decide) HX4.out⟩), Lib.hid (by have := hqq.out; omega)⟩
            ·skip
             have hcall := one_at [[104, 105, 100], [101, 120, 116, 114, 97], [103, 111, 110, 101], [98, 97, 100]] HB3.out HL1.out HG1.out (by have := Hq.out; omega) (by decide) (by decide)
             have HC := Lib.hid (show Calls Tryd.prog 16 #[.pointer (some ⟨tb, 0, none⟩), .slice (some ⟨R1, 0, none⟩) 4 4] w3 _ from hcall)
             clear hcall
             go_simp
             go_at_call 16
             refine Calls.mono (by with_reducible exact HC.out) ?_
             rintro e w4 ⟨x4, hx4, rfl, hB4, hk4⟩
             dsimp only
             have HB4 := Lib.hid hB4
             have HX4 := Lib.hid hx4
             clear hB4 hx4 hk4 HB3 HL1 HC
             have hS := True.intro
             clear hHeld
             refine hK.out _ _ hS (fun hHeld => ?_)
             try simp only [Act.put, List.setIfInBounds_toArray, List.set_cons_zero, List.set_cons_succ]
             clear hK
             refine wpAnyH_take (i := 8) (oi := ⟨some 67, .build 48 #[(0, .tmp 63), (1, .tmp 66)], 48, "config.go:21", #[⟨4, .data⟩, ⟨7, .data⟩], none⟩) (v := .agg #[.string (bs x3), .string (bs x4)]) rfl (by kernel_rfl) (by kernel_rfl) (by kernel_rfl) (fun _ _ _ h => h) (Or.inl ⟨by rfl, fun w hSw => by (try dsimp only at hSw); go_simp⟩) hHeld ?_
             try simp only [Act.put, List.setIfInBounds_toArray, List.set_cons_zero, List.set_cons_succ]
             refine wpAnyH_ready (rs := [1, 9]) (by kernel_rfl) (by simp) ?_
             refine AllReadyH.cons (o := ⟨some 60, .load 29 (.tmp 59), 29, "config.go:21", #[⟨0, .data⟩], none⟩) rfl (fun K hK => ?_) (AllReadyH.cons (o := ⟨some 68, .buildSlice 29 1 #[(0, .tmp 67)], 29, "config.go:21", #[⟨8, .data⟩], none⟩) rfl (fun K hK => ?_) AllReadyH.nil)
             ·skip
              have e1 : w4.cell? ⟨P, 4, none⟩ = some v := HB4.out.cell 4
              go_simp
              clear e1
              have hS := True.intro
              clear hHeld
              refine hK.out _ _ hS (fun hHeld => ?_)
              try simp only [Act.put, List.setIfInBounds_toArray, List.set_cons_zero, List.set_cons_succ]
              clear hK
              refine wpAnyH_ready (rs := [9]) (by kernel_rfl) (by simp) ?_
              refine AllReadyH.cons (o := ⟨some 68, .buildSlice 29 1 #[(0, .tmp 67)], 29, "config.go:21", #[⟨8, .data⟩], none⟩) rfl (fun K hK => ?_) AllReadyH.nil
              go_simp
              have hr5 := heap_alloc_last w4 (.cells #[.string (bs x3), .string (bs x4)] 48)
              have hk5 := (Kp.refl [] w4).alloc (.cells #[.string (bs x3), .string (bs x4)] 48)
              have HB5 := Lib.hid (HB4.out.kp0 hk5)
              obtain ⟨R5, hR5⟩ : ∃ R, w4.heap.size = R := ⟨_, rfl⟩
              generalize w4.alloc (.cells #[.string (bs x3), .string (bs x4)] 48) = w5 at *
              rw [hR5] at hr5 ⊢
              have HM5 := Lib.hid hr5
              have HR5 := Lib.hid hR5
              have HG5 := Lib.hid (show Bm ≤ R5 from by rw [← hR5]; exact HB4.out.szle)
              clear hr5 hk5 hR5 HB4
              have hS := True.intro
              clear hHeld
              refine hK.out _ _ hS (fun hHeld => ?_)
              try simp only [Act.put, List.setIfInBounds_toArray, List.set_cons_zero, List.set_cons_succ]
              clear hK
              refine wpAnyH_ready (rs := [10]) (by kernel_rfl) (by simp) ?_
              refine AllReadyH.cons (o := ⟨some 69, .call { callee := .builtin .append, args := #[.tmp 60, .tmp 68], argTypes := #[29, 29] }, 29, "config.go:21", #[⟨1, .data⟩, ⟨9, .data⟩, ⟨7, .chain⟩], none⟩) rfl (fun K hK => ?_) AllReadyH.nil
              obtain ⟨v6, w6, hrun, how, hgr⟩ := run_append_r (r := atT) (c := 1) (x3, x4) 29 HB5.out.own (row_cell HM5.out rfl) (by have := Hxn.out; omega) HB5.out.szle
              have HB6 := Lib.hid (HB5.out.app how hgr)
              have HR := Lib.hid hrun
              clear hrun how hgr
              refine step_append_run rfl 29 _ _ rfl _ _ _ rfl rfl HR.out ?_
              clear HR HB5
              obtain ⟨va, vc, hvf⟩ := HB6.out.own.form
              obtain ⟨ln, hln⟩ : ∃ m, (xs ++ [(x3, x4)]).length = m := ⟨_, rfl⟩
              rw [hln] at hvf
              subst hvf
              clear hln
              have hS := True.intro
              clear hHeld
              refine hK.out _ _ hS (fun hHeld => ?_)
              try simp only [Act.put, List.setIfInBounds_toArray, List.set_cons_zero, List.set_cons_succ]
              clear hK
              refine wpAnyH_take (i := 11) (oi := ⟨some 70, .fieldAddr 31 (.tmp 3) 4, 0, "config.go:21", #[⟨0, .phase⟩, ⟨1, .phase⟩, ⟨2, .phase⟩, ⟨3, .phase⟩, ⟨4, .phase⟩, ⟨5, .phase⟩, ⟨6, .phase⟩, ⟨7, .phase⟩, ⟨8, .phase⟩, ⟨9, .phase⟩, ⟨10, .phase⟩], none⟩) (v := .pointer (some ⟨P, 4, none⟩)) rfl (by kernel_rfl) (by kernel_rfl) (by kernel_rfl) (fun _ _ _ h => h) (Or.inl ⟨by rfl, fun w hSw => by (try dsimp only at hSw); go_simp⟩) hHeld ?_
              try simp only [Act.put, List.setIfInBounds_toArray, List.set_cons_zero, List.set_cons_succ]
              refine wpAnyH_ready (rs := [12]) (by kernel_rfl) (by simp) ?_
              refine AllReadyH.cons (o := ⟨none, .store 29 (.tmp 70) (.tmp 69), 0, "config.go:21", #[⟨11, .data⟩, ⟨10, .data⟩, ⟨10, .chain⟩, ⟨0, .phase⟩, ⟨1, .phase⟩, ⟨2, .phase⟩, ⟨3, .phase⟩, ⟨4, .phase⟩, ⟨5, .phase⟩, ⟨6, .phase⟩, ⟨7, .phase⟩, ⟨8, .phase⟩, ⟨9, .phase⟩, ⟨10, .phase⟩], none⟩) rfl (fun K hK => ?_) AllReadyH.nil
              have e1 : w6.cell? ⟨P, 4, none⟩ = some v := HB6.out.cell 4
              have e2 := HB6.out.frz
              have HB7 := Lib.hid (HB6.out.put 4 (.slice va ln vc))
              go_simp
              clear e1 e2
              generalize w6.setCell ⟨P, 4, none⟩ (.slice va ln vc) = w7 at *
              have hS := True.intro
              clear hHeld
              refine hK.out _ _ hS (fun hHeld => ?_)
              try simp only [Act.put, List.setIfInBounds_toArray, List.set_cons_zero, List.set_cons_succ]
              clear hK
              refine wpAnyH_done (by kernel_rfl) ?_ _
              clear hHeld
              go_wp2
              go_roundg gk
              case measure => omega
              case rel => exact ⟨(.slice va ln vc), xs ++ [(x3, x4)], q + 2, by go_num, by have := Hxn.out; rw [List.length_append, List.length_singleton]; omega, Lib.hid HB7.out, Lib.hid (fun x hx => by rcases List.mem_append.1 hx with h | h; exact hxs.out x h; rw [List.mem_singleton.1 h]; exact ⟨len_of (by decide) HX3.out, len_of (by decide) HX4.out⟩), Lib.hid (by have := hqq.out; omega)⟩
             ·skip
              go_simp
              have hr5 := heap_alloc_last w4 (.cells #[.string (bs x3), .string (bs x4)] 48)
              have hk5 := (Kp.refl [] w4).alloc (.cells #[.string (bs x3), .string (bs x4)] 48)
              have HB5 := Lib.hid (HB4.out.kp0 hk5)
              obtain ⟨R5, hR5⟩ : ∃ R, w4.heap.size = R := ⟨_, rfl⟩
              generalize w4.alloc (.cells #[.string (bs x3), .string (bs x4)] 48) = w5 at *
              rw [hR5] at hr5 ⊢
              have HM5 := Lib.hid hr5
              have HR5 := Lib.hid hR5
              have HG5 := Lib.hid (show Bm ≤ R5 from by rw [← hR5]; exact HB4.out.szle)
              clear hr5 hk5 hR5 HB4
              have hS := True.intro
              clear hHeld
              refine hK.out _ _ hS (fun hHeld => ?_)
              try simp only [Act.put, List.setIfInBounds_toArray, List.set_cons_zero, List.set_cons_succ]
              clear hK
              refine wpAnyH_ready (rs := [1]) (by kernel_rfl) (by simp) ?_
              refine AllReadyH.cons (o := ⟨some 60, .load 29 (.tmp 59), 29, "config.go:21", #[⟨0, .data⟩], none⟩) rfl (fun K hK => ?_) AllReadyH.nil
              have e1 : w5.cell? ⟨P, 4, none⟩ = some v := HB5.out.cell 4
              go_simp
              clear e1
              have hS := True.intro
              clear hHeld
              refine hK.out _ _ hS (fun hHeld => ?_)
              try simp only [Act.put, List.setIfInBounds_toArray, List.set_cons_zero, List.set_cons_succ]
              clear hK
              refine wpAnyH_ready (rs := [10]) (by kernel_rfl) (by simp) ?_
              refine AllReadyH.cons (o := ⟨some 69, .call { callee := .builtin .append, args := #[.tmp 60, .tmp 68], argTypes := #[29, 29] }, 29, "config.go:21", #[⟨1, .data⟩, ⟨9, .data⟩, ⟨7, .chain⟩], none⟩) rfl (fun K hK => ?_) AllReadyH.nil
              obtain ⟨v6, w6, hrun, how, hgr⟩ := run_append_r (r := atT) (c := 1) (x3, x4) 29 HB5.out.own (row_cell HM5.out rfl) (by have := Hxn.out; omega) HB5.out.szle
              have HB6 := Lib.hid (HB5.out.app how hgr)
              have HR := Lib.hid hrun
              clear hrun how hgr
              refine step_append_run rfl 29 _ _ rfl _ _ _ rfl rfl HR.out ?_
              clear HR HB5
              obtain ⟨va, vc, hvf⟩ := HB6.out.own.form
              obtain ⟨ln, hln⟩ : ∃ m, (xs ++ [(x3, x4)]).length = m := ⟨_, rfl⟩
              rw [hln] at hvf
              subst hvf
              clear hln
              have hS := True.intro
              clear hHeld
              refine hK.out _ _ hS (fun hHeld => ?_)
              try simp only [Act.put, List.setIfInBounds_toArray, List.set_cons_zero, List.set_cons_succ]
              clear hK
              refine wpAnyH_take (i := 11) (oi := ⟨some 70, .fieldAddr 31 (.tmp 3) 4, 0, "config.go:21", #[⟨0, .phase⟩, ⟨1, .phase⟩, ⟨2, .phase⟩, ⟨3, .phase⟩, ⟨4, .phase⟩, ⟨5, .phase⟩, ⟨6, .phase⟩, ⟨7, .phase⟩, ⟨8, .phase⟩, ⟨9, .phase⟩, ⟨10, .phase⟩], none⟩) (v := .pointer (some ⟨P, 4, none⟩)) rfl (by kernel_rfl) (by kernel_rfl) (by kernel_rfl) (fun _ _ _ h => h) (Or.inl ⟨by rfl, fun w hSw => by (try dsimp only at hSw); go_simp⟩) hHeld ?_
              try simp only [Act.put, List.setIfInBounds_toArray, List.set_cons_zero, List.set_cons_succ]
              refine wpAnyH_ready (rs := [12]) (by kernel_rfl) (by simp) ?_
              refine AllReadyH.cons (o := ⟨none, .store 29 (.tmp 70) (.tmp 69), 0, "config.go:21", #[⟨11, .data⟩, ⟨10, .data⟩, ⟨10, .chain⟩, ⟨0, .phase⟩, ⟨1, .phase⟩, ⟨2, .phase⟩, ⟨3, .phase⟩, ⟨4, .phase⟩, ⟨5, .phase⟩, ⟨6, .phase⟩, ⟨7, .phase⟩, ⟨8, .phase⟩, ⟨9, .phase⟩, ⟨10, .phase⟩], none⟩) rfl (fun K hK => ?_) AllReadyH.nil
              have e1 : w6.cell? ⟨P, 4, none⟩ = some v := HB6.out.cell 4
              have e2 := HB6.out.frz
              have HB7 := Lib.hid (HB6.out.put 4 (.slice va ln vc))
              go_simp
              clear e1 e2
              generalize w6.setCell ⟨P, 4, none⟩ (.slice va ln vc) = w7 at *
              have hS := True.intro
              clear hHeld
              refine hK.out _ _ hS (fun hHeld => ?_)
              try simp only [Act.put, List.setIfInBounds_toArray, List.set_cons_zero, List.set_cons_succ]
              clear hK
              refine wpAnyH_done (by kernel_rfl) ?_ _
              clear hHeld
              go_wp2
              go_roundg gk
              case measure => omega
              case rel => exact ⟨(.slice va ln vc), xs ++ [(x3, x4)], q + 2, by go_num, by have := Hxn.out; rw [List.length_append, List.length_singleton]; omega, Lib.hid HB7.out, Lib.hid (fun x hx => by rcases List.mem_append.1 hx with h | h; exact hxs.out x h; rw [List.mem_singleton.1 h]; exact ⟨len_of (by decide) HX3.out, len_of (by decide) HX4.out⟩), Lib.hid (by have := hqq.out; omega)⟩
        | zero =>
         have hz : ¬ ((0 : Int) < ((0 : Nat) : Int)) := by omega
         obtain ⟨a4, c4, hv4⟩ := HBn.out.own.form
         obtain ⟨v4v, hvv⟩ : ∃ u, v = u := ⟨_, rfl⟩
         rw [hvv] at HBn hv4
         clear hvv
         obtain ⟨xs4, hxx⟩ : ∃ u, xs = u := ⟨_, rfl⟩
         rw [hxx] at HBn hxs hxl hv4
         clear hxx
         have HOw4 := Lib.hid HBn.out.own
         have Hxs4 := hxs
         have Hxl4 := Lib.hid hxl
         have Hsl4 := Lib.hid (show ∃ a n c, v4v = .slice a n c from ⟨_, _, _, hv4⟩)
         have HOw1 := Lib.hid (HOw1.out.kp HBn.out.K (fun b hb hm => by have := (HOw1.out.ge b hb).1; have := HtP.out; have := HB11.out; simp at hm; omega))
         have HOw2 := Lib.hid (HOw2.out.kp HBn.out.K (fun b hb hm => by have := (HOw2.out.ge b hb).1; have := HtP.out; have := HB12.out; simp at hm; omega))
         have HOw3 := Lib.hid (HOw3.out.kp HBn.out.K (fun b hb hm => by have := (HOw3.out.ge b hb).1; have := HtP.out; have := HB13.out; simp at hm; omega))
         have HB14 := Lib.hid (show P < Bm from HBn.out.PB)
         obtain ⟨B4m, hBB⟩ : ∃ b, Bm = b := ⟨_, rfl⟩
         rw [hBB] at HOw4 HB14
         clear hBB
         have Hbox5 := Lib.hid HBn.out.box
         have HT5 := Lib.hid HBn.out.T
         have Hq5 := Lib.hid (show q ≤ k + 20 from by have := hqq.out; have := Hq4.out; omega)
         have HKc5 := Lib.hid (HKm.out.trans HBn.out.K)
         obtain ⟨q5, hqe⟩ : ∃ u, q = u := ⟨_, rfl⟩
         rw [hqe] at HT5 Hq5
         clear hqe HBn hxs hxl hqq hv4
         obtain ⟨cs, hcs⟩ : ∃ c, #[mv, v1v, v2v, v3v, v4v] = c := ⟨_, rfl⟩
         have hone : cs.all (·.oneCell') = true := by
          obtain ⟨_, _, _, e0⟩ := Hmv2.out
          obtain ⟨_, _, _, e1⟩ := Hsl1.out
          obtain ⟨_, _, _, e2⟩ := Hsl2.out
          obtain ⟨_, _, _, e3⟩ := Hsl3.out
          obtain ⟨_, _, _, e4⟩ := Hsl4.out
          rw [← hcs, e0, e1, e2, e3, e4]
          simp [Value.oneCell']
         have hinf : (Tryd.prog.info? 31).map (·.size) = some cs.size := by rw [← hcs]; exact info31b
         have hbox : wr.heap[P]? = some (.cells cs 31 (0, 0)) := by rw [← hcs]; exact Hbox5.out
         have hmb : Kp [] Wm Wb1 := by rw [← HWb.out]; exact (Kp.refl [] Wm).alloc _
         have hPle : P2 + 1 ≤ P := by have h1 := Hkm.out.size; have h2 := Hsa.out; have h3 := HPm.out; omega
         have hPs := HPm.out
         have hPw := HP2.out
         have hp2r : wr.heap[P2]? = some (.cells #[.slice none 0 0, .slice none 0 0, .slice none 0 0, .slice none 0 0, .slice none 0 0] 31 (0, 0)) :=
          (HKc5.out.block P2 (by have := hmb.size; omega) (by have := HtB.out; simp; omega)).trans ((hmb.block P2 (by omega) (by simp)).trans ((Hkm.out.block P2 (block_lt Hra.out) (by have := HtB.out; simp; omega)).trans Hra.out))
         have hkf : Kp [P2] wr (wr.setRow P2 cs) := (Kp.refl [P2] wr).setRow (.inl (by simp)) cs
         have hkm2 : Kp [tb, P2] Wm (wr.setRow P2 cs) := ((hmb.mono (by simp) : Kp [tb, P2] Wm Wb1).up HKc5.out (by intro z hz; simp at hz; rcases hz with e | e; exact .inl (by simp [e]); exact .inr (by omega))).trans (hkf.mono (by simp))
         have hkw : Kp [tb] w (wr.setRow P2 cs) := ((((Hka.out.mono (by simp) : Kp [tb] w Wa).trans Hkm.out).trans (hmb.mono (by simp))).up HKc5.out (by intro z hz; simp at hz; rcases hz with e | e; exact .inl (by simp [e]); exact .inr (by omega))).up hkf (by intro z hz; simp at hz; exact .inr (by omega))
         have hms2 : Ms w.heap.size (wr.setRow P2 cs) mv l := (HMs.out.kp hkm2 (by have := HtB.out; simp; omega)).low (by omega)
         have hbl2 : stT.HasB w.heap.size (wr.setRow P2 cs) v1v xs1 := (HOw1.out.kp hkf (fun b hb hm => by have := (HOw1.out.ge b hb).1; have := HB11.out; simp at hm; omega)).hasB (by have := HB11.out; omega)
         have hex2 : atT.HasB w.heap.size (wr.setRow P2 cs) v4v xs4 := (HOw4.out.kp hkf (fun b hb hm => by have := (HOw4.out.ge b hb).1; have := HB14.out; simp at hm; omega)).hasB (by have := HB14.out; omega)
         have HRes := Lib.hid (show CfRes tb k w (wr.setRow P2 cs) (.agg cs) from ⟨mv, v1v, v2v, v3v, v4v, l, ⟨l.map (·.2), xs1, xs4⟩, q5, by rw [← hcs]; rfl, ⟨hms2, rfl, hbl2, hex2⟩, Hsub.out, by have := Hxl1.out; show xs1.length ≤ 2; omega, by have := Hxl4.out; show xs4.length ≤ 2; omega, Hxs1.out, Hxs4.out, by have := Hq5.out; omega, HT5.out.kp' hkf (by have := HtB.out; simp; omega), hkw, Hsl2.out, Hsl3.out⟩)
         have Hone := Lib.hid hone
         have Hinf := Lib.hid hinf
         have Hbox := Lib.hid hbox
         have Hp2r := Lib.hid hp2r
         clear hone hinf hbox hmb hPle hPs hPw hp2r hkf hkm2 hkw hms2 hbl2 hex2 hcs
         go_wp2_with (first | (refine wpList_load_row rfl 31 _ rfl P rfl 31 cs _ _ Hbox.out Tryd.underlying31 rfl Hinf.out ?_) | (refine wpList_store_row rfl 31 _ _ rfl P2 cs rfl rfl 31 _ Hp2r.out Hinf.out (sz_of Hinf.out) Hone.out ?_))
         exact bodyPost_ret (v := .agg cs) (results_one_row rfl _ _ P2 31 cs _ _ rfl (setRow_heap _ _ _ _ _ _ Hp2r.out) Tryd.underlying31 rfl Hinf.out) rfl ⟨.agg cs, HRes.out, rfl⟩
end Go.Proofs.YtdlchlbngojljaaDoor
