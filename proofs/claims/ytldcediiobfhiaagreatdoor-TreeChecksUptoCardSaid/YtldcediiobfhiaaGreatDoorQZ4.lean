/- Insert of the program and of the reference for a device that Check refuses, of whatever length its texts. A drawn device once more: its number and its parent's are whole words. Insert of any device into a valid tree: the program and the reference give the same list. -/
import Derived.Test.YtldcediiobfhiaaGreatDoorQZ3
import Derived.Test.YtldcediiobfhiaaGreatDoorQU3
namespace Go.Proofs.YtldcediiobfhiaaGreatDoor.De
open Go.RowKit Go.Maps
end Go.Proofs.YtldcediiobfhiaaGreatDoor.De
namespace Go.Proofs.YtldcediiobfhiaaGreatDoor
open Go.RowKit
end Go.Proofs.YtldcediiobfhiaaGreatDoor
namespace Go.Proofs.YtldcediiobfhiaaGreatDoor
open Go.RowKit
theorem wf_range {z : Int} : (Lit.int .i64 z).wf = true ↔ -9223372036854775808 ≤ z ∧ z < 9223372036854775808 := by
 have h1 : IntKind.i64.min = -9223372036854775808 := by decide
 have h2 : IntKind.i64.max = 9223372036854775807 := by decide
 show (decide (IntKind.i64.min ≤ z) && decide (z ≤ IntKind.i64.max)) = true ↔ _
 rw [h1, h2, Bool.and_eq_true, decide_eq_true_eq, decide_eq_true_eq]
 omega
theorem wf_wrap (z : Int) : (Lit.int .i64 (IntKind.i64.wrap z)).wf = true := by
 rw [wf_range, IntKind.wrap_i64]
 omega
theorem wf_max {a b : Int} (ha : (Lit.int .i64 a).wf = true) (hb : (Lit.int .i64 b).wf = true) : (Lit.int .i64 (max a b)).wf = true := by
 rw [wf_range] at *
 omega
def WdPost2 (tb k : Nat) (w : World) (e : Ending) (w' : World) : Prop := ∃ (d : De.Dev) (l : List De.Atr), e = .returned (De.devV d) ∧ De.Has w' d.av l ∧ SmX d l ∧ l.length ≤ 1000 ∧ Tq w' tb (k + 40) ∧ Kp [tb] w w' ∧ (∀ b, d.av.ownBlock = some b → w.heap.size ≤ b) ∧ Hid ((Lit.int .i64 d.idx).wf = true) ∧ Hid ((Lit.int .i64 d.par).wf = true)
theorem wd_fin2 {w W : World} {tb r D kk k : Nat} {d : De.Dev} {l : List De.Atr} (h : WS w tb r D kk (De.devC d) d.av l W) (hkk : kk ≤ k + 40) (hsm : SmX d l) (hl : l.length ≤ 1000) (h1 : tb < r) (hw : w.heap.size = r) (hu : ∀ b, d.av.ownBlock = some b → b ≠ r + 1) (hv : ∀ b, d.av.ownBlock = some b → w.heap.size ≤ b) (hz2 : (Lit.int .i64 d.idx).wf = true) (hp2 : (Lit.int .i64 d.par).wf = true) : WdPost2 tb k w (.returned (De.devV d)) (W.setRow (r + 1) (De.devC d)) := by
 obtain ⟨d', l', he, h2, h3, h4, h5, h6, h7⟩ := wd_fin h hkk hsm hl h1 hw hu hv
 have e1 : d'.idx = d.idx ∧ d'.par = d.par := by
  unfold De.devV De.devC at he
  simp only [Ending.returned.injEq, Value.agg.injEq, Array.mk.injEq, List.cons.injEq, Value.int.injEq, true_and] at he
  exact ⟨he.1.symm, he.2.1.symm⟩
 exact ⟨d', l', he, h2, h3, h4, h5, h6, h7, Lib.hid (by rw [e1.1]; exact hz2), Lib.hid (by rw [e1.2]; exact hp2)⟩
set_option maxRecDepth 100000 in
set_option maxHeartbeats 16000000 in
theorem wdev2_any {w : World} {tb k : Nat} (hk0 : k ≤ 900) (h : Tp w tb k) (L : List De.DV) (a0 : Option Addr) (c0 : Nat) (hL : L.length ≤ 1000) (hwf : ∀ x ∈ L, (Lit.int .i64 x.1.idx).wf = true) (hrow : ∀ (i : Nat) (x : De.DV), L[i]? = some x → ∃ g o, a0 = some ⟨g, o, none⟩ ∧ g < w.heap.size ∧ g ≠ tb ∧ ∀ (j : Nat) (y : De.DV), L[j]? = some y → w.cell? ⟨g, o + j * 10, none⟩ = some (.int .i64 y.1.idx)) : Calls Tryz.prog 15 #[.pointer (some ⟨tb, 0, none⟩), .agg #[.slice a0 L.length c0]] w (WdPost2 tb k w) := by
 obtain ⟨N, hN⟩ : ∃ N, L.length = N := ⟨_, rfl⟩
 have HN := Lib.hid hN
 have HRow := Lib.hid hrow
 have HWf := Lib.hid hwf
 rw [hN] at hL ⊢
 have HL := Lib.hid hL
 clear hN hrow hL hwf
 obtain ⟨r, hr⟩ : ∃ r, w.heap.size = r := ⟨_, rfl⟩
 obtain ⟨W0, hW⟩ : ∃ W0, (w.alloc (.cells #[.slice a0 N c0] 29)).alloc (.cells #[.int .i64 0, .int .i64 0, .string ⟨#[]⟩, .string ⟨#[]⟩, .string ⟨#[]⟩, .string ⟨#[]⟩, .string ⟨#[]⟩, .int .i64 0, .int .i64 0, .slice none 0 0] 34) = W0 := ⟨_, rfl⟩
 have hz0 : W0.heap.size = r + 1 + 1 := by rw [← hW]; simp [hr]
 have hk0' : Kp [] w W0 := by rw [← hW]; exact ((Kp.refl [] w).alloc _).alloc _
 have htr : tb < r := by rw [← hr]; exact h.lt
 have hT0 : W0.heap[r]? = some (.cells #[.slice a0 N c0] 29 (0, 0)) := by rw [← hW, ← hr]; exact heap_alloc2_old w _ _
 have hR0 : De.BoxAt W0 (r + 1) De.zeroC := by
  have := heap_alloc_last (w.alloc (.cells #[.slice a0 N c0] 29)) (.cells De.zeroC 34)
  rw [show (w.alloc (.cells #[.slice a0 N c0] 29)).alloc (.cells De.zeroC 34) = W0 from hW] at this
  rw [← hr]
  unfold De.BoxAt
  simpa using this
 have HT := Lib.hid (h.kp hk0' (by simp))
 have HK := Lib.hid (Kp.refl [tb] W0)
 have HK0 := Lib.hid (show Kp [tb] w W0 from hk0'.mono (by simp))
 have HZ0 := Lib.hid hz0
 have HR0 := Lib.hid hR0
 have HTr0 := Lib.hid hT0
 have HTR := Lib.hid htr
 clear hk0' hR0 hT0 h hz0 htr
 go_enter Tryz.func15, Tryz.ntmps15
 go_upto_region 2 with (first
  | (go_at_call 20; refine Calls.mono (oneW [[98, 108, 111, 99, 107], [117, 115, 98], [110, 101, 116], [112, 99, 105]] 4 rfl (by decide) (by decide) (by decide) (by omega) HT.out _ (by first | rfl | exact HZ0.out) rfl) ?_; rintro e w1 ⟨x1, hx1, rfl, hT, hk⟩; have HT := Lib.hid hT; have HK := Lib.hid (HK.out.trans hk); clear hT hk)
  | (go_at_call 14; refine Calls.mono (by with_reducible exact nextL4 (by omega) HT.out) ?_; rintro e w2 ⟨q, hq, rfl, hT, hk⟩; have HT := Lib.hid hT; have HK := Lib.hid (HK.out.trans hk); have hqw := wrap1 (show q < 100 by omega); clear hT hk)
  | (go_at_call 20; refine Calls.mono (oneW [[], [], [104, 105, 100], [110, 105, 99]] 4 rfl (by decide) (by decide) (by decide) (by omega) HT.out _ (by first | rfl | exact HZ0.out) rfl) ?_; rintro e w3 ⟨x2, hx2, rfl, hT, hk⟩; have HT := Lib.hid hT; have HK := Lib.hid (HK.out.trans hk); clear hT hk)
  | (go_at_call 20; refine Calls.mono (oneW [[], [117, 115, 98, 58, 118, 49], [112, 99, 105, 58, 100, 50], [117, 115, 98, 58, 118, 50]] 4 rfl (by decide) (by decide) (by decide) (by omega) HT.out _ (by first | rfl | exact HZ0.out) rfl) ?_; rintro e w4 ⟨x3, hx3, rfl, hT, hk⟩; have HT := Lib.hid hT; have HK := Lib.hid (HK.out.trans hk); clear hT hk)
  | (go_at_call 47; refine Calls.mono (De.attrs2_any tb (k + 1 + 1 + 1 + 1) w4 (by omega) HT.out) ?_; rintro e w5 ⟨u, l, k5, rfl, hown, hgd, hln, hk5, hT, hg, hsm⟩; obtain ⟨ad, ac, hu, -⟩ := hown.has.form; subst hu; have HUr := Lib.hid (show ∀ b, (Value.slice ad l.length ac).ownBlock = some b → tb < b ∧ r + 1 < b ∧ b < w5.heap.size from fun b hb => by have h1 := own_rng hown b hb; have h2 := HT.out.lt; have h3 := HK.out.size; have h4 := HZ0.out; omega); have HT := Lib.hid (show Tp w5 tb k5 from hT); have HK := Lib.hid (HK.out.trans (Kp.of_grown hg)); have HOw := Lib.hid hown; have HGd := Lib.hid hgd; have HLn := Lib.hid hln; have HSm := Lib.hid hsm; clear hT hg hown hgd hln hsm))
 generalize hD : w5.heap.size = D at *
 generalize hkd : (1 + (q : Int)) = kd at *
 generalize hlan : l.length = an at *
 have ho := HOw.out.has
 have hln4 := HLn.out
 have hka := (Kp.refl [] w5).alloc (.cells #[.int .i64 1, .int .i64 0, .string ⟨#[]⟩, .string ⟨#[]⟩, .string (bs x1), .string (bs x2), .string (bs x3), .int .i64 kd, .int .i64 0, .slice ad an ac] 34)
 have hbx : De.BoxAt (w5.alloc (.cells #[.int .i64 1, .int .i64 0, .string ⟨#[]⟩, .string ⟨#[]⟩, .string (bs x1), .string (bs x2), .string (bs x3), .int .i64 kd, .int .i64 0, .slice ad an ac] 34)) D #[.int .i64 1, .int .i64 0, .string ⟨#[]⟩, .string ⟨#[]⟩, .string (bs x1), .string (bs x2), .string (bs x3), .int .i64 kd, .int .i64 0, .slice ad an ac] := by rw [← hD]; exact heap_alloc_last w5 _
 generalize hw6 : w5.alloc (.cells #[.int .i64 1, .int .i64 0, .string ⟨#[]⟩, .string ⟨#[]⟩, .string (bs x1), .string (bs x2), .string (bs x3), .int .i64 kd, .int .i64 0, .slice ad an ac] 34) = w6 at *
 have hrD : r + 1 + 1 ≤ D := by have := HK.out.size; have := HZ0.out; omega
 have HS := Lib.hid (show WS w tb r D k5 #[.int .i64 1, .int .i64 0, .string ⟨#[]⟩, .string ⟨#[]⟩, .string (bs x1), .string (bs x2), .string (bs x3), .int .i64 kd, .int .i64 0, .slice ad an ac] (.slice ad an ac) l w6 from ⟨hbx, HT.out.kp hka (by simp), (HK0.out.trans HK.out).trans (hka.mono (by simp)), (hka.block (r + 1) (by omega) (by simp)).trans ((HK.out.block (r + 1) (block_lt HR0.out) (by simp; have := HTR.out; omega)).trans HR0.out), ho.keep hka.size fun b hb _ => hka.block b hb (by simp)⟩)
 have hlt5 : w5.heap.size = D := hD
 have hrow : w5.heap[r]? = some (.cells #[.slice a0 N c0] 29) := (HK.out.block r (block_lt HTr0.out) (by simp; have := HTR.out; omega)).trans HTr0.out
 have HRr := Lib.hid (show w6.cell? ⟨r, 0, none⟩ = some (.slice a0 N c0) from by rw [cell_of_row w6 r 0 _ _ _ ((hka.block r (block_lt hrow) (by simp)).trans hrow)]; rfl)
 have HU1 := Lib.hid (show ∀ b, (Value.slice ad an ac).ownBlock = some b → b ≠ D from fun b hb => by have := (HUr.out b hb).2.2; omega)
 have HU2 := Lib.hid (show ∀ b, (Value.slice ad an ac).ownBlock = some b → b ≠ tb from fun b hb => by have := (HUr.out b hb).1; omega)
 have HU3 := Lib.hid (show ∀ b, (Value.slice ad an ac).ownBlock = some b → b ≠ r + 1 from fun b hb => by have := (HUr.out b hb).2.1; omega)
 have HUL := Lib.hid (show ∀ b, (Value.slice ad an ac).ownBlock = some b → w.heap.size ≤ b from fun b hb => by have := (HUr.out b hb).2.1; omega)
 have h1 : tb < D := by have := HTR.out; omega
 have h2 : r + 1 ≠ D := by omega
 have h4 : w.heap.size ≤ D := by omega
 have h5 : tb < r + 1 := by have := HTR.out; omega
 have H1 := Lib.hid h1
 have H2 := Lib.hid h2
 have H4 := Lib.hid h4
 have H5 := Lib.hid h5
 have hkk := hk5
 have HSm2 := Lib.hid HSm.out
 have HrD := Lib.hid hrD
 clear ho hka hbx hw6 hrD hrow hlt5 HT HK h1 h2 h4 h5 hW HZ0 HK0 HTr0 HR0
 go_wp2
 go_loopw [6] (fun s6 wx => ∃ (i : Nat) (z0 : Int), i ≤ N ∧ s6 = .int .i64 (i : Int) ∧ WS w tb r D k5 #[.int .i64 z0, .int .i64 0, .string ⟨#[]⟩, .string ⟨#[]⟩, .string (bs x1), .string (bs x2), .string (bs x3), .int .i64 kd, .int .i64 0, .slice ad an ac] (.slice ad an ac) l wx ∧ wx.cell? ⟨r, 0, none⟩ = some (.slice a0 N c0) ∧ Hid ((Lit.int .i64 z0).wf = true)) (fun s6 _ => N - (intOf s6).toNat)
 case atStart => exact ⟨0, 1, by omega, rfl, HS.out, HRr.out, Lib.hid (by decide)⟩
 case round =>
  obtain ⟨i, z0, hi, rfl, hS, hrow, HZw⟩ := hrel
  have HS := Lib.hid hS
  have dr := hrow
  have Hdr := Lib.hid hrow
  clear hS hrow
  by_cases hlt : i < N
  ·have hli : (i : Int) < (N : Int) := by omega
   have hl0 : (0 : Int) ≤ (i : Int) := by omega
   obtain ⟨x, hx⟩ : ∃ x, L[i]? = some x := ⟨L[i]'(by rw [HN.out]; exact hlt), List.getElem?_eq_getElem _⟩
   obtain ⟨g, o, rfl, hg, hgt, hcs⟩ := HRow.out i x hx
   have hgD : g ≠ D := by have := HrD.out; omega
   have Hgc := Lib.hid (show wr.cell? ⟨g, o + i * 10, none⟩ = some (.int .i64 x.1.idx) from cell_kpT HS.out.kp hg (by simpa using hgt) (hcs i x hx))
   have hrD : r ≠ D := by have := HrD.out; omega
   clear hx hg hgt hcs
   go_upto_region 5 with fail
   have hdr : (fun W : World => W.cell? ⟨r, 0, none⟩ = some (.slice (some ⟨g, o, none⟩) N c0) ∧ W.cell? ⟨g, o + i * 10, none⟩ = some (.int .i64 x.1.idx)) wr.drew := ⟨Hdr.out, Hgc.out⟩
   have HS := Lib.hid (show WS w tb r D k5 #[.int .i64 z0, .int .i64 0, .string ⟨#[]⟩, .string ⟨#[]⟩, .string (bs x1), .string (bs x2), .string (bs x3), .int .i64 kd, .int .i64 0, .slice ad an ac] (.slice ad an ac) l wr.drew from HS.out.quiet ((Kp.refl [] wr).drew 1))
   generalize hz1 : IntKind.i64.wrap (x.1.idx + 1) = z1 at *
   have Hz1 := Lib.hid hz1
   clear dr
   refine wp_region_held_drew (S := fun W => W.cell? ⟨r, 0, none⟩ = some (.slice (some ⟨g, o, none⟩) N c0) ∧ W.cell? ⟨g, o + i * 10, none⟩ = some (.int .i64 x.1.idx)) (by kernel_rfl) hdr (fun hHeld => ?_)
   generalize wr.drew = wd at *
   refine wpAnyH_take (i := 0) (oi := { dst := some 30, op := Op.fieldAddr 34 (Operand.tmp 5) 0, type := 0, pos := "tree.go:29", after := #[], guard := none }) (v := .pointer (some ⟨D, 0, none⟩)) rfl (by kernel_rfl) (by kernel_rfl) (by kernel_rfl) (fun _ _ _ h => h) (Or.inl ⟨by rfl, fun w hSw => by (try dsimp only at hSw); go_simp⟩) hHeld ?_
   try simp only [Act.put, List.setIfInBounds_toArray, List.set_cons_zero, List.set_cons_succ]
   refine wpAnyH_take (i := 2) (oi := { dst := some 32, op := Op.fieldAddr 29 (Operand.tmp 3) 0, type := 0, pos := "tree.go:29", after := #[], guard := none }) (v := .pointer (some ⟨r, 0, none⟩)) rfl (by kernel_rfl) (by kernel_rfl) (by kernel_rfl) (fun _ _ _ h => h) (Or.inl ⟨by rfl, fun w hSw => by (try dsimp only at hSw); go_simp⟩) hHeld ?_
   try simp only [Act.put, List.setIfInBounds_toArray, List.set_cons_zero, List.set_cons_succ]
   refine wpAnyH_take (i := 3) (oi := { dst := some 33, op := Op.load 22 (Operand.tmp 32), type := 22, pos := "tree.go:29", after := #[{ on := 2, ground := Ground.data }], guard := none }) (v := .slice (some ⟨g, o, none⟩) N c0) rfl (by kernel_rfl) (by kernel_rfl) (by kernel_rfl) (fun _ _ _ h => h) (Or.inl ⟨by rfl, fun w hSw => by (try dsimp only at hSw); have dr := hSw.1; go_simp⟩) hHeld ?_
   try simp only [Act.put, List.setIfInBounds_toArray, List.set_cons_zero, List.set_cons_succ]
   refine wpAnyH_take (i := 4) (oi := { dst := some 34, op := Op.move (Operand.tmp 6), type := 3, pos := "tree.go:29", after := #[], guard := none }) (v := .int .i64 (i : Int)) rfl (by kernel_rfl) (by kernel_rfl) (by kernel_rfl) (fun _ _ _ h => h) (Or.inl ⟨by rfl, fun w hSw => by (try dsimp only at hSw); go_simp⟩) hHeld ?_
   try simp only [Act.put, List.setIfInBounds_toArray, List.set_cons_zero, List.set_cons_succ]
   refine wpAnyH_take (i := 5) (oi := { dst := some 35, op := Op.indexAddr 22 (Operand.tmp 33) (Operand.tmp 34), type := 0, pos := "tree.go:29", after := #[{ on := 3, ground := Ground.data }, { on := 4, ground := Ground.data }], guard := none }) (v := .pointer (some ⟨g, o + i * 10, none⟩)) rfl (by kernel_rfl) (by kernel_rfl) (by kernel_rfl) (fun _ _ _ h => h) (Or.inl ⟨by rfl, fun w hSw => by (try dsimp only at hSw); go_simp⟩) hHeld ?_
   try simp only [Act.put, List.setIfInBounds_toArray, List.set_cons_zero, List.set_cons_succ]
   refine wpAnyH_take (i := 6) (oi := { dst := some 36, op := Op.fieldAddr 34 (Operand.tmp 35) 0, type := 0, pos := "tree.go:29", after := #[{ on := 5, ground := Ground.data }], guard := none }) (v := .pointer (some ⟨g, o + i * 10, none⟩)) rfl (by kernel_rfl) (by kernel_rfl) (by kernel_rfl) (fun _ _ _ h => h) (Or.inl ⟨by rfl, fun w hSw => by (try dsimp only at hSw); go_simp⟩) hHeld ?_
   try simp only [Act.put, List.setIfInBounds_toArray, List.set_cons_zero, List.set_cons_succ]
   refine wpAnyH_take (i := 7) (oi := { dst := some 37, op := Op.load 3 (Operand.tmp 36), type := 3, pos := "tree.go:29", after := #[{ on := 6, ground := Ground.data }], guard := none }) (v := .int .i64 x.1.idx) rfl (by kernel_rfl) (by kernel_rfl) (by kernel_rfl) (fun _ _ _ h => h) (Or.inl ⟨by rfl, fun w hSw => by (try dsimp only at hSw); have dg := hSw.2; go_simp⟩) hHeld ?_
   try simp only [Act.put, List.setIfInBounds_toArray, List.set_cons_zero, List.set_cons_succ]
   refine wpAnyH_take (i := 8) (oi := { dst := some 38, op := Op.binOp BinOp.add 3 (Operand.tmp 37) (Operand.const (Value.int IntKind.i64 1)) 3, type := 3, pos := "tree.go:29", after := #[{ on := 7, ground := Ground.data }], guard := none }) (v := .int .i64 z1) rfl (by kernel_rfl) (by kernel_rfl) (by kernel_rfl) (fun _ _ _ h => h) (Or.inl ⟨by rfl, fun w hSw => by (try dsimp only at hSw); have hz1 := Hz1.out; go_simp⟩) hHeld ?_
   try simp only [Act.put, List.setIfInBounds_toArray, List.set_cons_zero, List.set_cons_succ]
   refine wpAnyH_ready (rs := [1]) (by kernel_rfl) (by simp) ?_
   refine AllReadyH.cons (o := { dst := some 31, op := Op.load 3 (Operand.tmp 30), type := 3, pos := "tree.go:29", after := #[{ on := 0, ground := Ground.data }], guard := none }) rfl (fun K hK => ?_) AllReadyH.nil
   have dc := HS.out.bx.cell
   go_simp
   clear dc
   have hH := hHeld
   clear hHeld
   refine hK.out _ _ hH (fun hHeld => ?_)
   try simp only [Act.put, List.setIfInBounds_toArray, List.set_cons_zero, List.set_cons_succ]
   clear hK
   refine wpAnyH_take (i := 9) (oi := { dst := some 39, op := Op.call { callee := Callee.builtin Builtin.max, args := #[Operand.tmp 31, Operand.tmp 38], argTypes := #[3, 3] }, type := 3, pos := "tree.go:29", after := #[{ on := 1, ground := Ground.data }, { on := 8, ground := Ground.data }], guard := none }) (v := .int .i64 (max z0 z1)) rfl (by kernel_rfl) (by kernel_rfl) (by kernel_rfl) (fun _ _ _ h => h) (Or.inl ⟨by rfl, fun w hSw => by (try dsimp only at hSw); go_simp⟩) hHeld ?_
   try simp only [Act.put, List.setIfInBounds_toArray, List.set_cons_zero, List.set_cons_succ]
   refine wpAnyH_take (i := 10) (oi := { dst := some 40, op := Op.fieldAddr 34 (Operand.tmp 5) 0, type := 0, pos := "tree.go:29", after := #[{ on := 0, ground := Ground.phase }, { on := 1, ground := Ground.phase }, { on := 2, ground := Ground.phase }, { on := 3, ground := Ground.phase }, { on := 4, ground := Ground.phase }, { on := 5, ground := Ground.phase }, { on := 6, ground := Ground.phase }, { on := 7, ground := Ground.phase }, { on := 8, ground := Ground.phase }, { on := 9, ground := Ground.phase }], guard := none }) (v := .pointer (some ⟨D, 0, none⟩)) rfl (by kernel_rfl) (by kernel_rfl) (by kernel_rfl) (fun _ _ _ h => h) (Or.inl ⟨by rfl, fun w hSw => by (try dsimp only at hSw); go_simp⟩) hHeld ?_
   try simp only [Act.put, List.setIfInBounds_toArray, List.set_cons_zero, List.set_cons_succ]
   refine wpAnyH_ready (rs := [11]) (by kernel_rfl) (by simp) ?_
   refine AllReadyH.cons (o := { dst := none, op := Op.store 3 (Operand.tmp 40) (Operand.tmp 39), type := 0, pos := "tree.go:29", after := #[{ on := 10, ground := Ground.data }, { on := 9, ground := Ground.data }, { on := 0, ground := Ground.phase }, { on := 1, ground := Ground.phase }, { on := 2, ground := Ground.phase }, { on := 3, ground := Ground.phase }, { on := 4, ground := Ground.phase }, { on := 5, ground := Ground.phase }, { on := 6, ground := Ground.phase }, { on := 7, ground := Ground.phase }, { on := 8, ground := Ground.phase }, { on := 9, ground := Ground.phase }], guard := none }) rfl (fun K hK => ?_) AllReadyH.nil
   have dc := HS.out.bx.cell
   have df := HS.out.bx.frozen
   go_simp
   clear dc df
   have HS := Lib.hid (HS.out.set 0 (.int .i64 (max z0 z1)) rfl H1.out H2.out HU1.out H4.out)
   have hH : _ ∧ _ := ⟨(cell_setB hrD hHeld.1 : (wd.setCell ⟨D, 0, none⟩ (.int .i64 (max z0 z1))).cell? ⟨r, 0, none⟩ = _), (cell_setB hgD hHeld.2 : (wd.setCell ⟨D, 0, none⟩ (.int .i64 (max z0 z1))).cell? ⟨g, o + i * 10, none⟩ = _)⟩
   have Hdr2 := Lib.hid hH.1
   clear hHeld
   refine hK.out _ _ hH (fun hHeld => ?_)
   try simp only [Act.put, List.setIfInBounds_toArray, List.set_cons_zero, List.set_cons_succ]
   clear hK
   refine wpAnyH_done (by kernel_rfl) ?_ _
   clear hHeld
   have hN1 := HL.out
   go_wp2
   exact ⟨⟨i + 1, _, by omega, by go_num, HS.out, Hdr2.out, Lib.hid (wf_max HZw.out (by rw [← Hz1.out]; exact wf_wrap _))⟩, by (simp [intOf] <;> omega)⟩
  obtain rfl : i = N := by omega
  have hli : ¬ (i : Int) < (i : Int) := by omega
  clear hlt hi
  go_upto_region 7 with fail
  go_cut [50] (fun s50 wx => ∃ (b : Bool) (k6 : Nat), s50 = .bool b ∧ (b = true → 0 < i) ∧ k6 ≤ k5 + 1 ∧ WS w tb r D k6 #[.int .i64 z0, .int .i64 0, .string ⟨#[]⟩, .string ⟨#[]⟩, .string (bs x1), .string (bs x2), .string (bs x3), .int .i64 kd, .int .i64 0, .slice ad an ac] (.slice ad an ac) l wx ∧ wx.cell? ⟨r, 0, none⟩ = some (.slice a0 i c0))
  case first =>
   by_cases hp : 0 < i
   ·have hpi : (0 : Int) < (i : Int) := by omega
    clear dr
    go_wp2_with (go_at_call 14; refine Calls.mono (by with_reducible exact nextL4 (by omega) HS.out.tp) ?_; rintro e wb ⟨q4, hq4, rfl, hT, hk⟩; have HS := Lib.hid (HS.out.next hk hT H1.out H5.out HU2.out); have Hdr := Lib.hid (cell_kpT hk (by have := HS.out.kp.size; have := hr; have := HTR.out; exact World.block_lt_of_cell? _ _ Hdr.out) (by have := HTR.out; simp; omega) Hdr.out); clear hT hk)
    go_meet
    exact ⟨decide (0 < q4), k5 + 1, rfl, fun _ => hp, by omega, HS.out, Hdr.out⟩
   ·obtain rfl : i = 0 := by omega
    clear dr
    go_wp2
    go_meet
    exact ⟨false, k5, rfl, (by intro h; cases h), by omega, HS.out, Hdr.out⟩
  case rest =>
  obtain ⟨b, k6, rfl, hbi, hk6, hS6, hdr6⟩ := hcut
  have HS := Lib.hid hS6
  have Hdr := Lib.hid hdr6
  clear hS6 hdr6 dr
  go_upto_if 50 with fail
  go_cut [] (fun wx => ∃ (p0 : Int) (k7 : Nat), k7 ≤ k6 + 1 ∧ WS w tb r D k7 #[.int .i64 z0, .int .i64 p0, .string ⟨#[]⟩, .string ⟨#[]⟩, .string (bs x1), .string (bs x2), .string (bs x3), .int .i64 kd, .int .i64 0, .slice ad an ac] (.slice ad an ac) l wx ∧ Hid ((Lit.int .i64 p0).wf = true))
  case first =>
   cases b with
   | false =>
    go_wp2
    go_meet
    exact ⟨0, k6, by omega, HS.out, Lib.hid (by decide)⟩
   | true =>
    have hpi := hbi rfl
    obtain ⟨x0, hx0⟩ : ∃ x, L[0]? = some x := ⟨L[0]'(by rw [HN.out]; exact hpi), List.getElem?_eq_getElem _⟩
    obtain ⟨g, o, rfl, hg, hgt, hcs⟩ := HRow.out 0 x0 hx0
    have hgD : g ≠ D := by have := HrD.out; omega
    have Hcs := Lib.hid hcs
    have Hg := Lib.hid (And.intro hg hgt)
    have hrD : r ≠ D := by have := HrD.out; omega
    clear hx0 hg hgt hcs hbi
    go_upto_region 8 with fail
    have HS := Lib.hid (show WS w tb r D k6 #[.int .i64 z0, .int .i64 0, .string ⟨#[]⟩, .string ⟨#[]⟩, .string (bs x1), .string (bs x2), .string (bs x3), .int .i64 kd, .int .i64 0, .slice ad an ac] (.slice ad an ac) l wc.drew from HS.out.quiet ((Kp.refl [] wc).drew 1))
    have hdr : (fun W : World => Kp [tb] w W ∧ W.cell? ⟨r, 0, none⟩ = some (.slice (some ⟨g, o, none⟩) i c0)) wc.drew := ⟨HS.out.kp, Hdr.out⟩
    refine wp_region_held_drew (S := fun W => Kp [tb] w W ∧ W.cell? ⟨r, 0, none⟩ = some (.slice (some ⟨g, o, none⟩) i c0)) (by kernel_rfl) hdr (fun hHeld => ?_)
    generalize wc.drew = wd at *
    refine wpAnyH_take (i := 0) (oi := { dst := some 51, op := Op.fieldAddr 29 (Operand.tmp 3) 0, type := 0, pos := "tree.go:32", after := #[], guard := none }) (v := .pointer (some ⟨r, 0, none⟩)) rfl (by kernel_rfl) (by kernel_rfl) (by kernel_rfl) (fun _ _ _ h => h) (Or.inl ⟨by rfl, fun w hSw => by (try dsimp only at hSw); go_simp⟩) hHeld ?_
    try simp only [Act.put, List.setIfInBounds_toArray, List.set_cons_zero, List.set_cons_succ]
    refine wpAnyH_take (i := 1) (oi := { dst := some 52, op := Op.load 22 (Operand.tmp 51), type := 22, pos := "tree.go:32", after := #[{ on := 0, ground := Ground.data }], guard := none }) (v := .slice (some ⟨g, o, none⟩) i c0) rfl (by kernel_rfl) (by kernel_rfl) (by kernel_rfl) (fun _ _ _ h => h) (Or.inl ⟨by rfl, fun w hSw => by (try dsimp only at hSw); have dr := hSw.2; go_simp⟩) hHeld ?_
    try simp only [Act.put, List.setIfInBounds_toArray, List.set_cons_zero, List.set_cons_succ]
    refine wpAnyH_take (i := 2) (oi := { dst := some 53, op := Op.move (Operand.tmp 0), type := 25, pos := "tree.go:32", after := #[], guard := none }) (v := .pointer (some ⟨tb, 0, none⟩)) rfl (by kernel_rfl) (by kernel_rfl) (by kernel_rfl) (fun _ _ _ h => h) (Or.inl ⟨by rfl, fun w hSw => by (try dsimp only at hSw); go_simp⟩) hHeld ?_
    try simp only [Act.put, List.setIfInBounds_toArray, List.set_cons_zero, List.set_cons_succ]
    refine wpAnyH_take (i := 3) (oi := { dst := some 54, op := Op.move (Operand.tmp 7), type := 3, pos := "tree.go:32", after := #[], guard := none }) (v := .int .i64 (i : Int)) rfl (by kernel_rfl) (by kernel_rfl) (by kernel_rfl) (fun _ _ _ h => h) (Or.inl ⟨by rfl, fun w hSw => by (try dsimp only at hSw); go_simp⟩) hHeld ?_
    try simp only [Act.put, List.setIfInBounds_toArray, List.set_cons_zero, List.set_cons_succ]
    refine wpAnyH_ready (rs := [4]) (by kernel_rfl) (by simp) ?_
    refine AllReadyH.cons (o := { dst := some 55, op := Op.call { callee := Callee.value (Operand.func 14), args := #[Operand.tmp 53, Operand.tmp 54], argTypes := #[25, 3] }, type := 3, pos := "tree.go:32", after := #[{ on := 2, ground := Ground.data }, { on := 3, ground := Ground.data }], guard := none }) rfl (fun K hK => ?_) AllReadyH.nil
    go_simp
    go_at_call 14
    refine Calls.mono (by with_reducible exact next_kp i (by omega) (by have := HL.out; omega) (by omega) HS.out.tp) ?_
    rintro e wb ⟨q, hq, rfl, hT, hk⟩
    dsimp only
    have HSn := Lib.hid (HS.out.next hk hT H1.out H5.out HU2.out)
    have hH : _ ∧ _ := ⟨HSn.out.kp, cell_kpT hk (World.block_lt_of_cell? _ _ hHeld.2) (by have := HTR.out; simp; omega) hHeld.2⟩
    have HS := HSn
    have hqi : (q : Int) < (i : Int) := by omega
    have hq0 : (0 : Int) ≤ (q : Int) := by omega
    obtain ⟨x, hx⟩ : ∃ x, L[q]? = some x := ⟨L[q]'(by rw [HN.out]; exact hq), List.getElem?_eq_getElem _⟩
    have Hgc := Lib.hid (Hcs.out q x hx)
    have Hxw := Lib.hid (HWf.out x (List.mem_of_getElem? hx))
    clear hT hk hx
    clear hHeld
    refine hK.out _ _ hH (fun hHeld => ?_)
    try simp only [Act.put, List.setIfInBounds_toArray, List.set_cons_zero, List.set_cons_succ]
    clear hK
    refine wpAnyH_take (i := 5) (oi := { dst := some 56, op := Op.indexAddr 22 (Operand.tmp 52) (Operand.tmp 55), type := 0, pos := "tree.go:32", after := #[{ on := 1, ground := Ground.data }, { on := 4, ground := Ground.data }], guard := none }) (v := .pointer (some ⟨g, o + q * 10, none⟩)) rfl (by kernel_rfl) (by kernel_rfl) (by kernel_rfl) (fun _ _ _ h => h) (Or.inl ⟨by rfl, fun w hSw => by (try dsimp only at hSw); go_simp⟩) hHeld ?_
    try simp only [Act.put, List.setIfInBounds_toArray, List.set_cons_zero, List.set_cons_succ]
    refine wpAnyH_take (i := 6) (oi := { dst := some 57, op := Op.fieldAddr 34 (Operand.tmp 56) 0, type := 0, pos := "tree.go:32", after := #[{ on := 5, ground := Ground.data }], guard := none }) (v := .pointer (some ⟨g, o + q * 10, none⟩)) rfl (by kernel_rfl) (by kernel_rfl) (by kernel_rfl) (fun _ _ _ h => h) (Or.inl ⟨by rfl, fun w hSw => by (try dsimp only at hSw); go_simp⟩) hHeld ?_
    try simp only [Act.put, List.setIfInBounds_toArray, List.set_cons_zero, List.set_cons_succ]
    refine wpAnyH_take (i := 7) (oi := { dst := some 58, op := Op.load 3 (Operand.tmp 57), type := 3, pos := "tree.go:32", after := #[{ on := 6, ground := Ground.data }], guard := none }) (v := .int .i64 x.1.idx) rfl (by kernel_rfl) (by kernel_rfl) (by kernel_rfl) (fun _ _ _ h => h) (Or.inl ⟨by rfl, fun w hSw => by (try dsimp only at hSw); have dg := cell_kpT hSw.1 Hg.out.1 (by have := Hg.out.2; simpa using this) Hgc.out; go_simp⟩) hHeld ?_
    try simp only [Act.put, List.setIfInBounds_toArray, List.set_cons_zero, List.set_cons_succ]
    refine wpAnyH_take (i := 8) (oi := { dst := some 59, op := Op.fieldAddr 34 (Operand.tmp 5) 1, type := 0, pos := "tree.go:32", after := #[{ on := 0, ground := Ground.phase }, { on := 1, ground := Ground.phase }, { on := 2, ground := Ground.phase }, { on := 3, ground := Ground.phase }, { on := 4, ground := Ground.phase }, { on := 5, ground := Ground.phase }, { on := 6, ground := Ground.phase }, { on := 7, ground := Ground.phase }], guard := none }) (v := .pointer (some ⟨D, 1, none⟩)) rfl (by kernel_rfl) (by kernel_rfl) (by kernel_rfl) (fun _ _ _ h => h) (Or.inl ⟨by rfl, fun w hSw => by (try dsimp only at hSw); go_simp⟩) hHeld ?_
    try simp only [Act.put, List.setIfInBounds_toArray, List.set_cons_zero, List.set_cons_succ]
    refine wpAnyH_ready (rs := [9]) (by kernel_rfl) (by simp) ?_
    refine AllReadyH.cons (o := { dst := none, op := Op.store 3 (Operand.tmp 59) (Operand.tmp 58), type := 0, pos := "tree.go:32", after := #[{ on := 8, ground := Ground.data }, { on := 7, ground := Ground.data }, { on := 4, ground := Ground.chain }, { on := 0, ground := Ground.phase }, { on := 1, ground := Ground.phase }, { on := 2, ground := Ground.phase }, { on := 3, ground := Ground.phase }, { on := 4, ground := Ground.phase }, { on := 5, ground := Ground.phase }, { on := 6, ground := Ground.phase }, { on := 7, ground := Ground.phase }], guard := none }) rfl (fun K hK => ?_) AllReadyH.nil
    have dc := HS.out.bx.cell
    have df := HS.out.bx.frozen
    go_simp
    clear dc df
    have HS := Lib.hid (HS.out.set 1 (.int .i64 x.1.idx) rfl H1.out H2.out HU1.out H4.out)
    have hH : _ ∧ _ := ⟨HS.out.kp, (cell_setB hrD hHeld.2 : (wb.setCell ⟨D, 1, none⟩ (.int .i64 x.1.idx)).cell? ⟨r, 0, none⟩ = _)⟩
    clear hHeld
    refine hK.out _ _ hH (fun hHeld => ?_)
    try simp only [Act.put, List.setIfInBounds_toArray, List.set_cons_zero, List.set_cons_succ]
    clear hK
    refine wpAnyH_done (by kernel_rfl) ?_ _
    clear hHeld
    go_wp2
    go_meet
    exact ⟨_, _, Nat.le_refl _, HS.out, Hxw⟩
  case rest =>
  obtain ⟨p0, k7, hk7, hS7, HPw⟩ := hcut
  have HS := Lib.hid hS7
  clear hS7 Hdr
  have hkk : k7 ≤ k + 4 + 1 + 1 + 9 := by omega
  have hk4 : kd = 1 ∨ kd = 2 ∨ kd = 3 ∨ kd = 4 := by omega
  have dc := HS.out.bx.cell
  have df := HS.out.bx.frozen
  rcases hk4 with rfl | rfl | rfl | rfl
  ·skip
   go_upto_region 24 with (go_at_call 20; refine Calls.mono (oneW [[112, 99, 105, 48], [117, 115, 98, 49], [49, 45, 49], [112, 111, 114, 116]] 4 rfl (by simp) (by simp) (by simp <;> omega) (by omega) HS.out.tp _ rfl rfl) ?_; rintro e wb ⟨y, hy, rfl, hT, hk⟩; have HS := Lib.hid (HS.out.next hk hT H1.out H5.out HU2.out); have dc := HS.out.bx.cell; have df := HS.out.bx.frozen; clear hT hk)
   have HS := Lib.hid (HS.out.set 3 (.string (bs y)) rfl H1.out H2.out HU1.out H4.out)
   generalize wb.setCell ⟨D, 3, none⟩ (.string (bs y)) = wc at *
   clear dc df
   have dc := HS.out.bx.cell
   have df := HS.out.bx.frozen
   go_upto_region 25 with fail
   have HS := Lib.hid (HS.out.set 2 (.string (bs y)) rfl H1.out H2.out HU1.out H4.out)
   generalize wc.setCell ⟨D, 2, none⟩ (.string (bs y)) = wd at *
   clear dc df
   have dc := HS.out.bx.cell
   have df := HS.out.bx.frozen
   go_wp2_with (first
    | (refine wpList_load_row rfl 34 _ rfl D rfl 34 (De.devC ⟨z0, p0, bs y, bs y, (bs x1), bs x2, bs x3, 1, 0, (.slice ad an ac)⟩) (0, 0) _ HS.out.bx Tryz.underlying34 rfl De.info34b ?_)
    | (refine wpList_store_row rfl 34 _ _ rfl (r + 1) (De.devC ⟨z0, p0, bs y, bs y, (bs x1), bs x2, bs x3, 1, 0, (.slice ad an ac)⟩) rfl rfl 34 De.zeroC HS.out.rr De.info34b rfl (devC_one _ _ _ _ rfl) ?_))
   exact dev_end Tryz.results15 (setRow_heap _ _ _ _ _ _ HS.out.rr) rfl rfl (wd_fin2 HS.out (by omega) ⟨by show y.length ≤ _; omega, by show y.length ≤ _; omega, by show x1.length ≤ _; omega, by show x2.length ≤ _; omega, by show x3.length ≤ _; omega, HSm2.out⟩ (by omega) HTR.out hr HU3.out HUL.out HZw.out HPw.out)
  ·skip
   go_upto_region 18 with fail
   have HS := Lib.hid (HS.out.set 4 (.string ⟨#[98, 108, 111, 99, 107]⟩) rfl H1.out H2.out HU1.out H4.out)
   generalize wc.setCell ⟨D, 4, none⟩ (.string ⟨#[98, 108, 111, 99, 107]⟩) = wa at *
   clear dc df
   have dc := HS.out.bx.cell
   have df := HS.out.bx.frozen
   go_upto_region 19 with (go_at_call 20; refine Calls.mono (oneW [[115, 100, 97], [115, 100, 98], [115, 100, 97, 49], [115, 100, 97, 50], [99, 33, 100, 48]] 5 rfl (by simp) (by simp) (by simp <;> omega) (by omega) HS.out.tp _ rfl rfl) ?_; rintro e wb ⟨y, hy, rfl, hT, hk⟩; have HS := Lib.hid (HS.out.next hk hT H1.out H5.out HU2.out); have dc := HS.out.bx.cell; have df := HS.out.bx.frozen; clear hT hk)
   have HS := Lib.hid (HS.out.set 3 (.string (bs y)) rfl H1.out H2.out HU1.out H4.out)
   generalize wb.setCell ⟨D, 3, none⟩ (.string (bs y)) = wc at *
   clear dc df
   have dc := HS.out.bx.cell
   have df := HS.out.bx.frozen
   go_upto_region 20 with (go_at_call 14; refine Calls.mono (by with_reducible exact nextL9 (by omega) HS.out.tp) ?_; rintro e wd ⟨q9, hq9, rfl, hT, hk⟩; have HS := Lib.hid (HS.out.next hk hT H1.out H5.out HU2.out); have dc := HS.out.bx.cell; have df := HS.out.bx.frozen; have hw9 := wrap1 (show q9 < 100 by omega); clear hT hk)
   have HS := Lib.hid (HS.out.set 8 (.int .i64 (1 + (q9 : Int))) rfl H1.out H2.out HU1.out H4.out)
   generalize wd.setCell ⟨D, 8, none⟩ (.int .i64 (1 + (q9 : Int))) = we at *
   clear dc df
   have dc := HS.out.bx.cell
   have df := HS.out.bx.frozen
   have HS := Lib.hid (HS.out.quiet ((Kp.refl [] we).drew 1))
   clear dc df
   refine wp_region_held_drew (S := fun _ => True) (by kernel_rfl) trivial (fun hHeld => ?_)
   refine wpAnyH_take (i := 0) (oi := { dst := some 93, op := Op.fieldAddr 34 (Operand.tmp 5) 9, type := 0, pos := "tree.go:44", after := #[], guard := none }) (v := .pointer (some ⟨D, 9, none⟩)) rfl (by kernel_rfl) (by kernel_rfl) (by kernel_rfl) (fun _ _ _ h => h) (Or.inl ⟨by rfl, fun w hSw => by (try dsimp only at hSw); go_simp⟩) hHeld ?_
   try simp only [Act.put, List.setIfInBounds_toArray, List.set_cons_zero, List.set_cons_succ]
   refine wpAnyH_take (i := 2) (oi := { dst := some 95, op := Op.move (Operand.tmp 0), type := 25, pos := "tree.go:44", after := #[], guard := none }) (v := .pointer (some ⟨tb, 0, none⟩)) rfl (by kernel_rfl) (by kernel_rfl) (by kernel_rfl) (fun _ _ _ h => h) (Or.inl ⟨by rfl, fun w hSw => by (try dsimp only at hSw); go_simp⟩) hHeld ?_
   try simp only [Act.put, List.setIfInBounds_toArray, List.set_cons_zero, List.set_cons_succ]
   refine wpAnyH_ready (rs := [1, 3]) (by kernel_rfl) (by simp) ?_
   refine AllReadyH.cons (o := { dst := some 94, op := Op.load 32 (Operand.tmp 93), type := 32, pos := "tree.go:44", after := #[{ on := 0, ground := Ground.data }], guard := none }) rfl (fun K hK => ?_) (AllReadyH.cons (o := { dst := some 96, op := Op.call { callee := Callee.value (Operand.func 51), args := #[], argTypes := #[] }, type := 62, pos := "tree.go:44", after := #[], guard := none }) rfl (fun K hK => ?_) AllReadyH.nil)
   ·skip
    have dl : we.cell? ⟨D, 9, none⟩ = some (.slice ad an ac) := HS.out.bx.cell 9
    go_simp
    clear dl
    clear hHeld
    refine hK.out _ _ trivial (fun hHeld => ?_)
    try simp only [Act.put, List.setIfInBounds_toArray, List.set_cons_zero, List.set_cons_succ]
    clear hK
    refine wpAnyH_ready (rs := [3]) (by kernel_rfl) (by simp) ?_
    refine AllReadyH.cons (o := { dst := some 96, op := Op.call { callee := Callee.value (Operand.func 51), args := #[], argTypes := #[] }, type := 62, pos := "tree.go:44", after := #[], guard := none }) rfl (fun K hK => ?_) AllReadyH.nil
    go_simp
    go_at_call 51
    refine Calls.mono (by with_reducible exact cont_any _) ?_
    rintro e wg ⟨rfl, hwg⟩
    dsimp only
    have hkc := (Kp.refl [] we.drew).alloc (.cells #[.string ⟨#[]⟩, .string ⟨#[102, 115, 58, 117, 49, 58, 114, 111, 111, 116]⟩, .string ⟨#[102, 115, 58, 117, 50, 58]⟩, .string ⟨#[114, 97, 105, 100, 58, 114, 49, 58, 49, 47, 50, 47, 49, 40, 102, 115, 58, 117, 51, 58, 100, 97, 116, 97, 41]⟩, .string ⟨#[114, 97, 105, 100, 58, 114, 49, 58, 50, 47, 50, 47, 49, 40, 102, 115, 58, 117, 51, 58, 100, 97, 116, 97, 41]⟩, .string ⟨#[99, 114, 121, 112, 116, 58, 99, 49, 40, 102, 115, 58, 117, 52, 58, 41]⟩, .string ⟨#[112, 118, 58, 103, 49, 58, 49, 47, 49, 40, 102, 115, 58, 117, 53, 58, 44, 41]⟩, .string ⟨#[116, 97, 98, 108, 101, 58, 116, 49, 40, 102, 115, 58, 117, 54, 58, 98, 111, 111, 116, 44, 114, 97, 105, 100, 58, 114, 49, 58, 50, 47, 50, 47, 49, 40, 102, 115, 58, 117, 51, 58, 100, 97, 116, 97, 41, 41]⟩, .string ⟨#[98, 97, 100, 40]⟩] 9)
    have HG := Lib.hid (show wg.heap[we.heap.size]? = some (.cells #[.string ⟨#[]⟩, .string ⟨#[102, 115, 58, 117, 49, 58, 114, 111, 111, 116]⟩, .string ⟨#[102, 115, 58, 117, 50, 58]⟩, .string ⟨#[114, 97, 105, 100, 58, 114, 49, 58, 49, 47, 50, 47, 49, 40, 102, 115, 58, 117, 51, 58, 100, 97, 116, 97, 41]⟩, .string ⟨#[114, 97, 105, 100, 58, 114, 49, 58, 50, 47, 50, 47, 49, 40, 102, 115, 58, 117, 51, 58, 100, 97, 116, 97, 41]⟩, .string ⟨#[99, 114, 121, 112, 116, 58, 99, 49, 40, 102, 115, 58, 117, 52, 58, 41]⟩, .string ⟨#[112, 118, 58, 103, 49, 58, 49, 47, 49, 40, 102, 115, 58, 117, 53, 58, 44, 41]⟩, .string ⟨#[116, 97, 98, 108, 101, 58, 116, 49, 40, 102, 115, 58, 117, 54, 58, 98, 111, 111, 116, 44, 114, 97, 105, 100, 58, 114, 49, 58, 50, 47, 50, 47, 49, 40, 102, 115, 58, 117, 51, 58, 100, 97, 116, 97, 41, 41]⟩, .string ⟨#[98, 97, 100, 40]⟩] 9 (0, 0)) from by rw [hwg]; exact heap_alloc_last we.drew _)
    rw [← hwg] at hkc
    have HTB := Lib.hid (show tb < we.heap.size from HS.out.tp.lt)
    have HS := Lib.hid (HS.out.quiet hkc)
    clear hkc hwg
    clear hHeld
    refine hK.out _ _ trivial (fun hHeld => ?_)
    try simp only [Act.put, List.setIfInBounds_toArray, List.set_cons_zero, List.set_cons_succ]
    clear hK
    refine wpAnyH_ready (rs := [4]) (by kernel_rfl) (by simp) ?_
    refine AllReadyH.cons (o := { dst := some 97, op := Op.call { callee := Callee.value (Operand.func 20), args := #[Operand.tmp 95, Operand.tmp 96], argTypes := #[25, 62] }, type := 9, pos := "tree.go:44", after := #[{ on := 2, ground := Ground.data }, { on := 3, ground := Ground.data }, { on := 3, ground := Ground.chain }], guard := none }) rfl (fun K hK => ?_) AllReadyH.nil
    go_simp
    go_at_call 20
    refine Calls.mono (oneB [[], [102, 115, 58, 117, 49, 58, 114, 111, 111, 116], [102, 115, 58, 117, 50, 58], [114, 97, 105, 100, 58, 114, 49, 58, 49, 47, 50, 47, 49, 40, 102, 115, 58, 117, 51, 58, 100, 97, 116, 97, 41], [114, 97, 105, 100, 58, 114, 49, 58, 50, 47, 50, 47, 49, 40, 102, 115, 58, 117, 51, 58, 100, 97, 116, 97, 41], [99, 114, 121, 112, 116, 58, 99, 49, 40, 102, 115, 58, 117, 52, 58, 41], [112, 118, 58, 103, 49, 58, 49, 47, 49, 40, 102, 115, 58, 117, 53, 58, 44, 41], [116, 97, 98, 108, 101, 58, 116, 49, 40, 102, 115, 58, 117, 54, 58, 98, 111, 111, 116, 44, 114, 97, 105, 100, 58, 114, 49, 58, 50, 47, 50, 47, 49, 40, 102, 115, 58, 117, 51, 58, 100, 97, 116, 97, 41, 41], [98, 97, 100, 40]] 9 rfl (by decide) (by decide) (by decide) (by omega) HS.out.tp HTB.out HG.out rfl) ?_
    rintro e wh ⟨z, hz, rfl, hT, hk⟩
    dsimp only
    have HS := Lib.hid (HS.out.next hk hT H1.out H5.out HU2.out)
    clear hT hk
    clear hHeld
    refine hK.out _ _ trivial (fun hHeld => ?_)
    try simp only [Act.put, List.setIfInBounds_toArray, List.set_cons_zero, List.set_cons_succ]
    clear hK
    refine wpAnyH_ready (rs := [5]) (by kernel_rfl) (by simp) ?_
    refine AllReadyH.cons (o := { dst := some 98, op := Op.call { callee := Callee.value (Operand.func 50), args := #[Operand.tmp 94, Operand.const (Value.string { data := #[99, 111, 110, 116, 101, 110, 116] }), Operand.tmp 97], argTypes := #[32, 9, 9] }, type := 32, pos := "tree.go:44", after := #[{ on := 1, ground := Ground.data }, { on := 4, ground := Ground.data }, { on := 4, ground := Ground.chain }], guard := none }) rfl (fun K hK => ?_) AllReadyH.nil
    go_simp
    go_at_call 50
    refine Calls.mono (De.refSet_any ⟨#[99, 111, 110, 116, 101, 110, 116]⟩ (bs z) (.slice ad an ac) l wh (by omega) HGd.out.1 HS.out.at_) ?_
    rintro e wi ⟨u2, rfl, hown2, hbl2⟩
    dsimp only
    have hsm2 : ∀ x ∈ De.setP ⟨#[99, 111, 110, 116, 101, 110, 116]⟩ (bs z) l, x.1.size ≤ 300 ∧ x.2.size ≤ 300 := fun x hx => by
     rcases De.mem_setP hx with h | h
     ·exact HSm2.out x h
     ·subst h
      exact ⟨by show (7 : Nat) ≤ _; decide, by show z.length ≤ _; omega⟩
    have hln2 := De.setP_length ⟨#[99, 111, 110, 116, 101, 110, 116]⟩ (bs z) l
    have hsz2 : D < wh.heap.size := block_lt HS.out.bx
    have hsz3 : r + 1 < wh.heap.size := block_lt HS.out.rr
    have hsz4 : tb < wh.heap.size := HS.out.tp.lt
    have HS := Lib.hid ((HS.out.quiet (Kp.of_below hbl2)).attr hown2.has)
    have hrg := own_rng hown2
    obtain ⟨ad2, ac2, hu2, -⟩ := hown2.has.form
    subst hu2
    generalize hl2 : De.setP ⟨#[99, 111, 110, 116, 101, 110, 116]⟩ (bs z) l = l2 at *
    generalize hln : l2.length = an2 at *
    have HU1 := Lib.hid (show ∀ b, (Value.slice ad2 an2 ac2).ownBlock = some b → b ≠ D from fun b hb => by have := (hrg b hb).1; omega)
    have HU3 := Lib.hid (show ∀ b, (Value.slice ad2 an2 ac2).ownBlock = some b → b ≠ r + 1 from fun b hb => by have := (hrg b hb).1; omega)
    have HUL := Lib.hid (show ∀ b, (Value.slice ad2 an2 ac2).ownBlock = some b → w.heap.size ≤ b from fun b hb => by have := (hrg b hb).1; have := H4.out; omega)
    clear hrg hown2 hbl2 hsz2 hsz3 hsz4
    have HSm2 := Lib.hid hsm2
    clear hsm2
    clear hHeld
    refine hK.out _ _ trivial (fun hHeld => ?_)
    try simp only [Act.put, List.setIfInBounds_toArray, List.set_cons_zero, List.set_cons_succ]
    clear hK
    refine wpAnyH_take (i := 6) (oi := { dst := some 99, op := Op.fieldAddr 34 (Operand.tmp 5) 9, type := 0, pos := "tree.go:44", after := #[{ on := 0, ground := Ground.phase }, { on := 1, ground := Ground.phase }, { on := 2, ground := Ground.phase }, { on := 3, ground := Ground.phase }, { on := 4, ground := Ground.phase }, { on := 5, ground := Ground.phase }], guard := none }) (v := .pointer (some ⟨D, 9, none⟩)) rfl (by kernel_rfl) (by kernel_rfl) (by kernel_rfl) (fun _ _ _ h => h) (Or.inl ⟨by rfl, fun w hSw => by (try dsimp only at hSw); go_simp⟩) hHeld ?_
    try simp only [Act.put, List.setIfInBounds_toArray, List.set_cons_zero, List.set_cons_succ]
    refine wpAnyH_ready (rs := [7]) (by kernel_rfl) (by simp) ?_
    refine AllReadyH.cons (o := { dst := none, op := Op.store 32 (Operand.tmp 99) (Operand.tmp 98), type := 0, pos := "tree.go:44", after := #[{ on := 6, ground := Ground.data }, { on := 5, ground := Ground.data }, { on := 5, ground := Ground.chain }, { on := 0, ground := Ground.phase }, { on := 1, ground := Ground.phase }, { on := 2, ground := Ground.phase }, { on := 3, ground := Ground.phase }, { on := 4, ground := Ground.phase }, { on := 5, ground := Ground.phase }], guard := none }) rfl (fun K hK => ?_) AllReadyH.nil
    have dc := HS.out.bx.cell
    have df := HS.out.bx.frozen
    go_simp
    clear dc df
    have HS := Lib.hid (HS.out.set 9 (.slice ad2 an2 ac2) rfl H1.out H2.out HU1.out H4.out)
    generalize wi.setCell ⟨D, 9, none⟩ (.slice ad2 an2 ac2) = wj at *
    clear hHeld
    refine hK.out _ _ trivial (fun hHeld => ?_)
    try simp only [Act.put, List.setIfInBounds_toArray, List.set_cons_zero, List.set_cons_succ]
    clear hK
    refine wpAnyH_done (by kernel_rfl) ?_ _
    clear hHeld
    have dc := HS.out.bx.cell
    have df := HS.out.bx.frozen
    go_upto_region 25 with fail
    have HS := Lib.hid (HS.out.set 2 (.string (bs y)) rfl H1.out H2.out HU1.out H4.out)
    generalize wj.setCell ⟨D, 2, none⟩ (.string (bs y)) = wk at *
    clear dc df
    have dc := HS.out.bx.cell
    have df := HS.out.bx.frozen
    go_wp2_with (first
     | (refine wpList_load_row rfl 34 _ rfl D rfl 34 (De.devC ⟨z0, p0, bs y, bs y, ⟨#[98, 108, 111, 99, 107]⟩, bs x2, bs x3, 2, 1 + (q9 : Int), (.slice ad2 an2 ac2)⟩) (0, 0) _ HS.out.bx Tryz.underlying34 rfl De.info34b ?_)
     | (refine wpList_store_row rfl 34 _ _ rfl (r + 1) (De.devC ⟨z0, p0, bs y, bs y, ⟨#[98, 108, 111, 99, 107]⟩, bs x2, bs x3, 2, 1 + (q9 : Int), (.slice ad2 an2 ac2)⟩) rfl rfl 34 De.zeroC HS.out.rr De.info34b rfl (devC_one _ _ _ _ rfl) ?_))
    exact dev_end Tryz.results15 (setRow_heap _ _ _ _ _ _ HS.out.rr) rfl rfl (wd_fin2 HS.out (by omega) ⟨by show y.length ≤ _; omega, by show y.length ≤ _; omega, by show (5 : Nat) ≤ _; decide, by show x2.length ≤ _; omega, by show x3.length ≤ _; omega, HSm2.out⟩ (by omega) HTR.out hr HU3.out HUL.out HZw.out HPw.out)
   ·skip
    go_simp
    go_at_call 51
    refine Calls.mono (by with_reducible exact cont_any _) ?_
    rintro e wg ⟨rfl, hwg⟩
    dsimp only
    have hkc := (Kp.refl [] we.drew).alloc (.cells #[.string ⟨#[]⟩, .string ⟨#[102, 115, 58, 117, 49, 58, 114, 111, 111, 116]⟩, .string ⟨#[102, 115, 58, 117, 50, 58]⟩, .string ⟨#[114, 97, 105, 100, 58, 114, 49, 58, 49, 47, 50, 47, 49, 40, 102, 115, 58, 117, 51, 58, 100, 97, 116, 97, 41]⟩, .string ⟨#[114, 97, 105, 100, 58, 114, 49, 58, 50, 47, 50, 47, 49, 40, 102, 115, 58, 117, 51, 58, 100, 97, 116, 97, 41]⟩, .string ⟨#[99, 114, 121, 112, 116, 58, 99, 49, 40, 102, 115, 58, 117, 52, 58, 41]⟩, .string ⟨#[112, 118, 58, 103, 49, 58, 49, 47, 49, 40, 102, 115, 58, 117, 53, 58, 44, 41]⟩, .string ⟨#[116, 97, 98, 108, 101, 58, 116, 49, 40, 102, 115, 58, 117, 54, 58, 98, 111, 111, 116, 44, 114, 97, 105, 100, 58, 114, 49, 58, 50, 47, 50, 47, 49, 40, 102, 115, 58, 117, 51, 58, 100, 97, 116, 97, 41, 41]⟩, .string ⟨#[98, 97, 100, 40]⟩] 9)
    have HG := Lib.hid (show wg.heap[we.heap.size]? = some (.cells #[.string ⟨#[]⟩, .string ⟨#[102, 115, 58, 117, 49, 58, 114, 111, 111, 116]⟩, .string ⟨#[102, 115, 58, 117, 50, 58]⟩, .string ⟨#[114, 97, 105, 100, 58, 114, 49, 58, 49, 47, 50, 47, 49, 40, 102, 115, 58, 117, 51, 58, 100, 97, 116, 97, 41]⟩, .string ⟨#[114, 97, 105, 100, 58, 114, 49, 58, 50, 47, 50, 47, 49, 40, 102, 115, 58, 117, 51, 58, 100, 97, 116, 97, 41]⟩, .string ⟨#[99, 114, 121, 112, 116, 58, 99, 49, 40, 102, 115, 58, 117, 52, 58, 41]⟩, .string ⟨#[112, 118, 58, 103, 49, 58, 49, 47, 49, 40, 102, 115, 58, 117, 53, 58, 44, 41]⟩, .string ⟨#[116, 97, 98, 108, 101, 58, 116, 49, 40, 102, 115, 58, 117, 54, 58, 98, 111, 111, 116, 44, 114, 97, 105, 100, 58, 114, 49, 58, 50, 47, 50, 47, 49, 40, 102, 115, 58, 117, 51, 58, 100, 97, 116, 97, 41, 41]⟩, .string ⟨#[98, 97, 100, 40]⟩] 9 (0, 0)) from by rw [hwg]; exact heap_alloc_last we.drew _)
    rw [← hwg] at hkc
    have HTB := Lib.hid (show tb < we.heap.size from HS.out.tp.lt)
    have HS := Lib.hid (HS.out.quiet hkc)
    clear hkc hwg
    clear hHeld
    refine hK.out _ _ trivial (fun hHeld => ?_)
    try simp only [Act.put, List.setIfInBounds_toArray, List.set_cons_zero, List.set_cons_succ]
    clear hK
    refine wpAnyH_ready (rs := [1, 4]) (by kernel_rfl) (by simp) ?_
    refine AllReadyH.cons (o := { dst := some 94, op := Op.load 32 (Operand.tmp 93), type := 32, pos := "tree.go:44", after := #[{ on := 0, ground := Ground.data }], guard := none }) rfl (fun K hK => ?_) (AllReadyH.cons (o := { dst := some 97, op := Op.call { callee := Callee.value (Operand.func 20), args := #[Operand.tmp 95, Operand.tmp 96], argTypes := #[25, 62] }, type := 9, pos := "tree.go:44", after := #[{ on := 2, ground := Ground.data }, { on := 3, ground := Ground.data }, { on := 3, ground := Ground.chain }], guard := none }) rfl (fun K hK => ?_) AllReadyH.nil)
    ·skip
     have dl : wg.cell? ⟨D, 9, none⟩ = some (.slice ad an ac) := HS.out.bx.cell 9
     go_simp
     clear dl
     clear hHeld
     refine hK.out _ _ trivial (fun hHeld => ?_)
     try simp only [Act.put, List.setIfInBounds_toArray, List.set_cons_zero, List.set_cons_succ]
     clear hK
     refine wpAnyH_ready (rs := [4]) (by kernel_rfl) (by simp) ?_
     refine AllReadyH.cons (o := { dst := some 97, op := Op.call { callee := Callee.value (Operand.func 20), args := #[Operand.tmp 95, Operand.tmp 96], argTypes := #[25, 62] }, type := 9, pos := "tree.go:44", after := #[{ on := 2, ground := Ground.data }, { on := 3, ground := Ground.data }, { on := 3, ground := Ground.chain }], guard := none }) rfl (fun K hK => ?_) AllReadyH.nil
     go_simp
     go_at_call 20
     refine Calls.mono (oneB [[], [102, 115, 58, 117, 49, 58, 114, 111, 111, 116], [102, 115, 58, 117, 50, 58], [114, 97, 105, 100, 58, 114, 49, 58, 49, 47, 50, 47, 49, 40, 102, 115, 58, 117, 51, 58, 100, 97, 116, 97, 41], [114, 97, 105, 100, 58, 114, 49, 58, 50, 47, 50, 47, 49, 40, 102, 115, 58, 117, 51, 58, 100, 97, 116, 97, 41], [99, 114, 121, 112, 116, 58, 99, 49, 40, 102, 115, 58, 117, 52, 58, 41], [112, 118, 58, 103, 49, 58, 49, 47, 49, 40, 102, 115, 58, 117, 53, 58, 44, 41], [116, 97, 98, 108, 101, 58, 116, 49, 40, 102, 115, 58, 117, 54, 58, 98, 111, 111, 116, 44, 114, 97, 105, 100, 58, 114, 49, 58, 50, 47, 50, 47, 49, 40, 102, 115, 58, 117, 51, 58, 100, 97, 116, 97, 41, 41], [98, 97, 100, 40]] 9 rfl (by decide) (by decide) (by decide) (by omega) HS.out.tp HTB.out HG.out rfl) ?_
     rintro e wh ⟨z, hz, rfl, hT, hk⟩
     dsimp only
     have HS := Lib.hid (HS.out.next hk hT H1.out H5.out HU2.out)
     clear hT hk
     clear hHeld
     refine hK.out _ _ trivial (fun hHeld => ?_)
     try simp only [Act.put, List.setIfInBounds_toArray, List.set_cons_zero, List.set_cons_succ]
     clear hK
     refine wpAnyH_ready (rs := [5]) (by kernel_rfl) (by simp) ?_
     refine AllReadyH.cons (o := { dst := some 98, op := Op.call { callee := Callee.value (Operand.func 50), args := #[Operand.tmp 94, Operand.const (Value.string { data := #[99, 111, 110, 116, 101, 110, 116] }), Operand.tmp 97], argTypes := #[32, 9, 9] }, type := 32, pos := "tree.go:44", after := #[{ on := 1, ground := Ground.data }, { on := 4, ground := Ground.data }, { on := 4, ground := Ground.chain }], guard := none }) rfl (fun K hK => ?_) AllReadyH.nil
     go_simp
     go_at_call 50
     refine Calls.mono (De.refSet_any ⟨#[99, 111, 110, 116, 101, 110, 116]⟩ (bs z) (.slice ad an ac) l wh (by omega) HGd.out.1 HS.out.at_) ?_
     rintro e wi ⟨u2, rfl, hown2, hbl2⟩
     dsimp only
     have hsm2 : ∀ x ∈ De.setP ⟨#[99, 111, 110, 116, 101, 110, 116]⟩ (bs z) l, x.1.size ≤ 300 ∧ x.2.size ≤ 300 := fun x hx => by
      rcases De.mem_setP hx with h | h
      ·exact HSm2.out x h
      ·subst h
       exact ⟨by show (7 : Nat) ≤ _; decide, by show z.length ≤ _; omega⟩
     have hln2 := De.setP_length ⟨#[99, 111, 110, 116, 101, 110, 116]⟩ (bs z) l
     have hsz2 : D < wh.heap.size := block_lt HS.out.bx
     have hsz3 : r + 1 < wh.heap.size := block_lt HS.out.rr
     have hsz4 : tb < wh.heap.size := HS.out.tp.lt
     have HS := Lib.hid ((HS.out.quiet (Kp.of_below hbl2)).attr hown2.has)
     have hrg := own_rng hown2
     obtain ⟨ad2, ac2, hu2, -⟩ := hown2.has.form
     subst hu2
     generalize hl2 : De.setP ⟨#[99, 111, 110, 116, 101, 110, 116]⟩ (bs z) l = l2 at *
     generalize hln : l2.length = an2 at *
     have HU1 := Lib.hid (show ∀ b, (Value.slice ad2 an2 ac2).ownBlock = some b → b ≠ D from fun b hb => by have := (hrg b hb).1; omega)
     have HU3 := Lib.hid (show ∀ b, (Value.slice ad2 an2 ac2).ownBlock = some b → b ≠ r + 1 from fun b hb => by have := (hrg b hb).1; omega)
     have HUL := Lib.hid (show ∀ b, (Value.slice ad2 an2 ac2).ownBlock = some b → w.heap.size ≤ b from fun b hb => by have := (hrg b hb).1; have := H4.out; omega)
     clear hrg hown2 hbl2 hsz2 hsz3 hsz4
     have HSm2 := Lib.hid hsm2
     clear hsm2
     clear hHeld
     refine hK.out _ _ trivial (fun hHeld => ?_)
     try simp only [Act.put, List.setIfInBounds_toArray, List.set_cons_zero, List.set_cons_succ]
     clear hK
     refine wpAnyH_take (i := 6) (oi := { dst := some 99, op := Op.fieldAddr 34 (Operand.tmp 5) 9, type := 0, pos := "tree.go:44", after := #[{ on := 0, ground := Ground.phase }, { on := 1, ground := Ground.phase }, { on := 2, ground := Ground.phase }, { on := 3, ground := Ground.phase }, { on := 4, ground := Ground.phase }, { on := 5, ground := Ground.phase }], guard := none }) (v := .pointer (some ⟨D, 9, none⟩)) rfl (by kernel_rfl) (by kernel_rfl) (by kernel_rfl) (fun _ _ _ h => h) (Or.inl ⟨by rfl, fun w hSw => by (try dsimp only at hSw); go_simp⟩) hHeld ?_
     try simp only [Act.put, List.setIfInBounds_toArray, List.set_cons_zero, List.set_cons_succ]
     refine wpAnyH_ready (rs := [7]) (by kernel_rfl) (by simp) ?_
     refine AllReadyH.cons (o := { dst := none, op := Op.store 32 (Operand.tmp 99) (Operand.tmp 98), type := 0, pos := "tree.go:44", after := #[{ on := 6, ground := Ground.data }, { on := 5, ground := Ground.data }, { on := 5, ground := Ground.chain }, { on := 0, ground := Ground.phase }, { on := 1, ground := Ground.phase }, { on := 2, ground := Ground.phase }, { on := 3, ground := Ground.phase }, { on := 4, ground := Ground.phase }, { on := 5, ground := Ground.phase }], guard := none }) rfl (fun K hK => ?_) AllReadyH.nil
     have dc := HS.out.bx.cell
     have df := HS.out.bx.frozen
     go_simp
     clear dc df
     have HS := Lib.hid (HS.out.set 9 (.slice ad2 an2 ac2) rfl H1.out H2.out HU1.out H4.out)
     generalize wi.setCell ⟨D, 9, none⟩ (.slice ad2 an2 ac2) = wj at *
     clear hHeld
     refine hK.out _ _ trivial (fun hHeld => ?_)
     try simp only [Act.put, List.setIfInBounds_toArray, List.set_cons_zero, List.set_cons_succ]
     clear hK
     refine wpAnyH_done (by kernel_rfl) ?_ _
     clear hHeld
     have dc := HS.out.bx.cell
     have df := HS.out.bx.frozen
     go_upto_region 25 with fail
     have HS := Lib.hid (HS.out.set 2 (.string (bs y)) rfl H1.out H2.out HU1.out H4.out)
     generalize wj.setCell ⟨D, 2, none⟩ (.string (bs y)) = wk at *
     clear dc df
     have dc := HS.out.bx.cell
     have df := HS.out.bx.frozen
     go_wp2_with (first
      | (refine wpList_load_row rfl 34 _ rfl D rfl 34 (De.devC ⟨z0, p0, bs y, bs y, ⟨#[98, 108, 111, 99, 107]⟩, bs x2, bs x3, 2, 1 + (q9 : Int), (.slice ad2 an2 ac2)⟩) (0, 0) _ HS.out.bx Tryz.underlying34 rfl De.info34b ?_)
      | (refine wpList_store_row rfl 34 _ _ rfl (r + 1) (De.devC ⟨z0, p0, bs y, bs y, ⟨#[98, 108, 111, 99, 107]⟩, bs x2, bs x3, 2, 1 + (q9 : Int), (.slice ad2 an2 ac2)⟩) rfl rfl 34 De.zeroC HS.out.rr De.info34b rfl (devC_one _ _ _ _ rfl) ?_))
     exact dev_end Tryz.results15 (setRow_heap _ _ _ _ _ _ HS.out.rr) rfl rfl (wd_fin2 HS.out (by omega) ⟨by show y.length ≤ _; omega, by show y.length ≤ _; omega, by show (5 : Nat) ≤ _; decide, by show x2.length ≤ _; omega, by show x3.length ≤ _; omega, HSm2.out⟩ (by omega) HTR.out hr HU3.out HUL.out HZw.out HPw.out)
    ·skip
     go_simp
     go_at_call 20
     refine Calls.mono (oneB [[], [102, 115, 58, 117, 49, 58, 114, 111, 111, 116], [102, 115, 58, 117, 50, 58], [114, 97, 105, 100, 58, 114, 49, 58, 49, 47, 50, 47, 49, 40, 102, 115, 58, 117, 51, 58, 100, 97, 116, 97, 41], [114, 97, 105, 100, 58, 114, 49, 58, 50, 47, 50, 47, 49, 40, 102, 115, 58, 117, 51, 58, 100, 97, 116, 97, 41], [99, 114, 121, 112, 116, 58, 99, 49, 40, 102, 115, 58, 117, 52, 58, 41], [112, 118, 58, 103, 49, 58, 49, 47, 49, 40, 102, 115, 58, 117, 53, 58, 44, 41], [116, 97, 98, 108, 101, 58, 116, 49, 40, 102, 115, 58, 117, 54, 58, 98, 111, 111, 116, 44, 114, 97, 105, 100, 58, 114, 49, 58, 50, 47, 50, 47, 49, 40, 102, 115, 58, 117, 51, 58, 100, 97, 116, 97, 41, 41], [98, 97, 100, 40]] 9 rfl (by decide) (by decide) (by decide) (by omega) HS.out.tp HTB.out HG.out rfl) ?_
     rintro e wh ⟨z, hz, rfl, hT, hk⟩
     dsimp only
     have HS := Lib.hid (HS.out.next hk hT H1.out H5.out HU2.out)
     clear hT hk
     clear hHeld
     refine hK.out _ _ trivial (fun hHeld => ?_)
     try simp only [Act.put, List.setIfInBounds_toArray, List.set_cons_zero, List.set_cons_succ]
     clear hK
     refine wpAnyH_ready (rs := [1]) (by kernel_rfl) (by simp) ?_
     refine AllReadyH.cons (o := { dst := some 94, op := Op.load 32 (Operand.tmp 93), type := 32, pos := "tree.go:44", after := #[{ on := 0, ground := Ground.data }], guard := none }) rfl (fun K hK => ?_) AllReadyH.nil
     have dl : wh.cell? ⟨D, 9, none⟩ = some (.slice ad an ac) := HS.out.bx.cell 9
     go_simp
     clear dl
     clear hHeld
     refine hK.out _ _ trivial (fun hHeld => ?_)
     try simp only [Act.put, List.setIfInBounds_toArray, List.set_cons_zero, List.set_cons_succ]
     clear hK
     refine wpAnyH_ready (rs := [5]) (by kernel_rfl) (by simp) ?_
     refine AllReadyH.cons (o := { dst := some 98, op := Op.call { callee := Callee.value (Operand.func 50), args := #[Operand.tmp 94, Operand.const (Value.string { data := #[99, 111, 110, 116, 101, 110, 116] }), Operand.tmp 97], argTypes := #[32, 9, 9] }, type := 32, pos := "tree.go:44", after := #[{ on := 1, ground := Ground.data }, { on := 4, ground := Ground.data }, { on := 4, ground := Ground.chain }], guard := none }) rfl (fun K hK => ?_) AllReadyH.nil
     go_simp
     go_at_call 50
     refine Calls.mono (De.refSet_any ⟨#[99, 111, 110, 116, 101, 110, 116]⟩ (bs z) (.slice ad an ac) l wh (by omega) HGd.out.1 HS.out.at_) ?_
     rintro e wi ⟨u2, rfl, hown2, hbl2⟩
     dsimp only
     have hsm2 : ∀ x ∈ De.setP ⟨#[99, 111, 110, 116, 101, 110, 116]⟩ (bs z) l, x.1.size ≤ 300 ∧ x.2.size ≤ 300 := fun x hx => by
      rcases De.mem_setP hx with h | h
      ·exact HSm2.out x h
      ·subst h
       exact ⟨by show (7 : Nat) ≤ _; decide, by show z.length ≤ _; omega⟩
     have hln2 := De.setP_length ⟨#[99, 111, 110, 116, 101, 110, 116]⟩ (bs z) l
     have hsz2 : D < wh.heap.size := block_lt HS.out.bx
     have hsz3 : r + 1 < wh.heap.size := block_lt HS.out.rr
     have hsz4 : tb < wh.heap.size := HS.out.tp.lt
     have HS := Lib.hid ((HS.out.quiet (Kp.of_below hbl2)).attr hown2.has)
     have hrg := own_rng hown2
     obtain ⟨ad2, ac2, hu2, -⟩ := hown2.has.form
     subst hu2
     generalize hl2 : De.setP ⟨#[99, 111, 110, 116, 101, 110, 116]⟩ (bs z) l = l2 at *
     generalize hln : l2.length = an2 at *
     have HU1 := Lib.hid (show ∀ b, (Value.slice ad2 an2 ac2).ownBlock = some b → b ≠ D from fun b hb => by have := (hrg b hb).1; omega)
     have HU3 := Lib.hid (show ∀ b, (Value.slice ad2 an2 ac2).ownBlock = some b → b ≠ r + 1 from fun b hb => by have := (hrg b hb).1; omega)
     have HUL := Lib.hid (show ∀ b, (Value.slice ad2 an2 ac2).ownBlock = some b → w.heap.size ≤ b from fun b hb => by have := (hrg b hb).1; have := H4.out; omega)
     clear hrg hown2 hbl2 hsz2 hsz3 hsz4
     have HSm2 := Lib.hid hsm2
     clear hsm2
     clear hHeld
     refine hK.out _ _ trivial (fun hHeld => ?_)
     try simp only [Act.put, List.setIfInBounds_toArray, List.set_cons_zero, List.set_cons_succ]
     clear hK
     refine wpAnyH_take (i := 6) (oi := { dst := some 99, op := Op.fieldAddr 34 (Operand.tmp 5) 9, type := 0, pos := "tree.go:44", after := #[{ on := 0, ground := Ground.phase }, { on := 1, ground := Ground.phase }, { on := 2, ground := Ground.phase }, { on := 3, ground := Ground.phase }, { on := 4, ground := Ground.phase }, { on := 5, ground := Ground.phase }], guard := none }) (v := .pointer (some ⟨D, 9, none⟩)) rfl (by kernel_rfl) (by kernel_rfl) (by kernel_rfl) (fun _ _ _ h => h) (Or.inl ⟨by rfl, fun w hSw => by (try dsimp only at hSw); go_simp⟩) hHeld ?_
     try simp only [Act.put, List.setIfInBounds_toArray, List.set_cons_zero, List.set_cons_succ]
     refine wpAnyH_ready (rs := [7]) (by kernel_rfl) (by simp) ?_
     refine AllReadyH.cons (o := { dst := none, op := Op.store 32 (Operand.tmp 99) (Operand.tmp 98), type := 0, pos := "tree.go:44", after := #[{ on := 6, ground := Ground.data }, { on := 5, ground := Ground.data }, { on := 5, ground := Ground.chain }, { on := 0, ground := Ground.phase }, { on := 1, ground := Ground.phase }, { on := 2, ground := Ground.phase }, { on := 3, ground := Ground.phase }, { on := 4, ground := Ground.phase }, { on := 5, ground := Ground.phase }], guard := none }) rfl (fun K hK => ?_) AllReadyH.nil
     have dc := HS.out.bx.cell
     have df := HS.out.bx.frozen
     go_simp
     clear dc df
     have HS := Lib.hid (HS.out.set 9 (.slice ad2 an2 ac2) rfl H1.out H2.out HU1.out H4.out)
     generalize wi.setCell ⟨D, 9, none⟩ (.slice ad2 an2 ac2) = wj at *
     clear hHeld
     refine hK.out _ _ trivial (fun hHeld => ?_)
     try simp only [Act.put, List.setIfInBounds_toArray, List.set_cons_zero, List.set_cons_succ]
     clear hK
     refine wpAnyH_done (by kernel_rfl) ?_ _
     clear hHeld
     have dc := HS.out.bx.cell
     have df := HS.out.bx.frozen
     go_upto_region 25 with fail
     have HS := Lib.hid (HS.out.set 2 (.string (bs y)) rfl H1.out H2.out HU1.out H4.out)
     generalize wj.setCell ⟨D, 2, none⟩ (.string (bs y)) = wk at *
     clear dc df
     have dc := HS.out.bx.cell
     have df := HS.out.bx.frozen
     go_wp2_with (first
      | (refine wpList_load_row rfl 34 _ rfl D rfl 34 (De.devC ⟨z0, p0, bs y, bs y, ⟨#[98, 108, 111, 99, 107]⟩, bs x2, bs x3, 2, 1 + (q9 : Int), (.slice ad2 an2 ac2)⟩) (0, 0) _ HS.out.bx Tryz.underlying34 rfl De.info34b ?_)
      | (refine wpList_store_row rfl 34 _ _ rfl (r + 1) (De.devC ⟨z0, p0, bs y, bs y, ⟨#[98, 108, 111, 99, 107]⟩, bs x2, bs x3, 2, 1 + (q9 : Int), (.slice ad2 an2 ac2)⟩) rfl rfl 34 De.zeroC HS.out.rr De.info34b rfl (devC_one _ _ _ _ rfl) ?_))
     exact dev_end Tryz.results15 (setRow_heap _ _ _ _ _ _ HS.out.rr) rfl rfl (wd_fin2 HS.out (by omega) ⟨by show y.length ≤ _; omega, by show y.length ≤ _; omega, by show (5 : Nat) ≤ _; decide, by show x2.length ≤ _; omega, by show x3.length ≤ _; omega, HSm2.out⟩ (by omega) HTR.out hr HU3.out HUL.out HZw.out HPw.out)
  ·skip
   go_upto_region 23 with (go_at_call 20; refine Calls.mono (oneW [[116, 116, 121, 48], [116, 116, 121, 49], [105, 110, 112, 117, 116, 33, 101, 118, 48]] 3 rfl (by simp) (by simp) (by simp <;> omega) (by omega) HS.out.tp _ rfl rfl) ?_; rintro e wb ⟨y, hy, rfl, hT, hk⟩; have HS := Lib.hid (HS.out.next hk hT H1.out H5.out HU2.out); have dc := HS.out.bx.cell; have df := HS.out.bx.frozen; clear hT hk)
   have HS := Lib.hid (HS.out.set 3 (.string (bs y)) rfl H1.out H2.out HU1.out H4.out)
   generalize wb.setCell ⟨D, 3, none⟩ (.string (bs y)) = wc at *
   clear dc df
   have dc := HS.out.bx.cell
   have df := HS.out.bx.frozen
   go_upto_region 24 with (go_at_call 14; refine Calls.mono (by with_reducible exact nextL9 (by omega) HS.out.tp) ?_; rintro e wd ⟨q9, hq9, rfl, hT, hk⟩; have HS := Lib.hid (HS.out.next hk hT H1.out H5.out HU2.out); have dc := HS.out.bx.cell; have df := HS.out.bx.frozen; have hw9 := wrap1 (show q9 < 100 by omega); clear hT hk)
   have HS := Lib.hid (HS.out.set 8 (.int .i64 (1 + (q9 : Int))) rfl H1.out H2.out HU1.out H4.out)
   generalize wd.setCell ⟨D, 8, none⟩ (.int .i64 (1 + (q9 : Int))) = we at *
   clear dc df
   have dc := HS.out.bx.cell
   have df := HS.out.bx.frozen
   go_upto_region 25 with fail
   have HS := Lib.hid (HS.out.set 2 (.string (bs y)) rfl H1.out H2.out HU1.out H4.out)
   generalize we.setCell ⟨D, 2, none⟩ (.string (bs y)) = wf at *
   clear dc df
   have dc := HS.out.bx.cell
   have df := HS.out.bx.frozen
   go_wp2_with (first
    | (refine wpList_load_row rfl 34 _ rfl D rfl 34 (De.devC ⟨z0, p0, bs y, bs y, (bs x1), bs x2, bs x3, 3, 1 + (q9 : Int), (.slice ad an ac)⟩) (0, 0) _ HS.out.bx Tryz.underlying34 rfl De.info34b ?_)
    | (refine wpList_store_row rfl 34 _ _ rfl (r + 1) (De.devC ⟨z0, p0, bs y, bs y, (bs x1), bs x2, bs x3, 3, 1 + (q9 : Int), (.slice ad an ac)⟩) rfl rfl 34 De.zeroC HS.out.rr De.info34b rfl (devC_one _ _ _ _ rfl) ?_))
   exact dev_end Tryz.results15 (setRow_heap _ _ _ _ _ _ HS.out.rr) rfl rfl (wd_fin2 HS.out (by omega) ⟨by show y.length ≤ _; omega, by show y.length ≤ _; omega, by show x1.length ≤ _; omega, by show x2.length ≤ _; omega, by show x3.length ≤ _; omega, HSm2.out⟩ (by omega) HTR.out hr HU3.out HUL.out HZw.out HPw.out)
  ·skip
   go_upto_region 13 with fail
   have HS := Lib.hid (HS.out.set 4 (.string ⟨#[110, 101, 116]⟩) rfl H1.out H2.out HU1.out H4.out)
   generalize wc.setCell ⟨D, 4, none⟩ (.string ⟨#[110, 101, 116]⟩) = wa at *
   clear dc df
   have dc := HS.out.bx.cell
   have df := HS.out.bx.frozen
   go_upto_region 14 with (go_at_call 20; refine Calls.mono (oneW [[101, 116, 104, 48], [101, 116, 104, 49], [119, 108, 97, 110, 48]] 3 rfl (by simp) (by simp) (by simp <;> omega) (by omega) HS.out.tp _ rfl rfl) ?_; rintro e wb ⟨y, hy, rfl, hT, hk⟩; have HS := Lib.hid (HS.out.next hk hT H1.out H5.out HU2.out); have dc := HS.out.bx.cell; have df := HS.out.bx.frozen; clear hT hk)
   have HS := Lib.hid (HS.out.set 3 (.string (bs y)) rfl H1.out H2.out HU1.out H4.out)
   generalize wb.setCell ⟨D, 3, none⟩ (.string (bs y)) = wc at *
   clear dc df
   have dc := HS.out.bx.cell
   have df := HS.out.bx.frozen
   go_upto_region 15 with (go_at_call 20; refine Calls.mono (oneW [y, y, [108, 97, 110, 48], [101, 116, 104, 49]] 4 rfl (by simp) (by simp) (by simp <;> omega) (by omega) HS.out.tp _ rfl rfl) ?_; rintro e wd ⟨z, hz, rfl, hT, hk⟩; have HS := Lib.hid (HS.out.next hk hT H1.out H5.out HU2.out); have dc := HS.out.bx.cell; have df := HS.out.bx.frozen; clear hT hk)
   have HS := Lib.hid (HS.out.set 2 (.string (bs z)) rfl H1.out H2.out HU1.out H4.out)
   generalize wd.setCell ⟨D, 2, none⟩ (.string (bs z)) = we at *
   clear dc df
   have dc := HS.out.bx.cell
   have df := HS.out.bx.frozen
   go_wp2_with (first
    | (refine wpList_load_row rfl 34 _ rfl D rfl 34 (De.devC ⟨z0, p0, bs z, bs y, ⟨#[110, 101, 116]⟩, bs x2, bs x3, 4, 0, (.slice ad an ac)⟩) (0, 0) _ HS.out.bx Tryz.underlying34 rfl De.info34b ?_)
    | (refine wpList_store_row rfl 34 _ _ rfl (r + 1) (De.devC ⟨z0, p0, bs z, bs y, ⟨#[110, 101, 116]⟩, bs x2, bs x3, 4, 0, (.slice ad an ac)⟩) rfl rfl 34 De.zeroC HS.out.rr De.info34b rfl (devC_one _ _ _ _ rfl) ?_))
   exact dev_end Tryz.results15 (setRow_heap _ _ _ _ _ _ HS.out.rr) rfl rfl (wd_fin2 HS.out (by omega) ⟨by show z.length ≤ _; omega, by show y.length ≤ _; omega, by show (3 : Nat) ≤ _; decide, by show x2.length ≤ _; omega, by show x3.length ≤ _; omega, HSm2.out⟩ (by omega) HTR.out hr HU3.out HUL.out HZw.out HPw.out)
end Go.Proofs.YtldcediiobfhiaaGreatDoor
namespace Go.Proofs.YtldcediiobfhiaaGreatDoor
open Go.RowKit
theorem chk_small {d : De.Dev} {la : List De.Atr} (h : De.checkE d la = 0) : d.orig.size ≤ 300 ∧ la.length ≤ 1000 := by
 unfold De.checkE at h
 by_cases h1 : De.placeB d = false
 ·rw [if_pos h1] at h; cases h
 rw [if_neg h1] at h
 by_cases h2 : De.textsB d = false
 ·rw [if_pos h2] at h; cases h
 rw [if_neg h2] at h
 by_cases h3 : De.kindB d = false
 ·rw [if_pos h3] at h; cases h
 rw [if_neg h3] at h
 by_cases h4 : De.numB d = false
 ·rw [if_pos h4] at h; cases h
 rw [if_neg h4] at h
 by_cases h5 : 24 < la.length
 ·rw [if_pos h5] at h; cases h
 refine ⟨?_, by omega⟩
 have h6 : De.textsB d = true := by simpa using h2
 unfold De.textsB at h6
 simp only [Bool.and_eq_true] at h6
 have h7 := h6.2.1
 unfold De.validB Nm.nameB at h7
 simp only [Bool.and_eq_true, decide_eq_true_eq] at h7
 have h8 := h7.1.1.2
 have h9 : d.orig.data.toList.length = d.orig.size := Array.length_toList
 omega
/-- A list of two devices: the block. -/
def TwoB (x y : De.ADev) (u v : Value) : Array Value := #[.int .i64 x.idx, .int .i64 x.par, .string x.name, .string x.orig, .string x.sub, .string x.drv, .string x.ali, .int .i64 x.kind, .int .i64 x.num, u, .int .i64 y.idx, .int .i64 y.par, .string y.name, .string y.orig, .string y.sub, .string y.drv, .string y.ali, .int .i64 y.kind, .int .i64 y.num, v]
def TwoAt (W : World) (R : Nat) (x y : De.ADev) (u v : Value) : Prop := W.heap[R]? = some (.cells (TwoB x y u v) 34 (0, 0))
theorem TwoAt.set {W : World} {R : Nat} {x y : De.ADev} {u v : Value} (h : TwoAt W R x y u v) (z : Int) : TwoAt (W.setCell ⟨R, 10, none⟩ (.int .i64 z)) R x { y with idx := z } u v := by
 unfold TwoAt at *
 show (W.heap.modify R _)[R]? = _
 rw [Array.getElem?_modify, if_pos rfl, h]
 rfl
theorem TwoAt.set1 {W : World} {R : Nat} {x y : De.ADev} {u v : Value} (h : TwoAt W R x y u v) (z : Int) : TwoAt (W.setCell ⟨R, 11, none⟩ (.int .i64 z)) R x { y with par := z } u v := by
 unfold TwoAt at *
 show (W.heap.modify R _)[R]? = _
 rw [Array.getElem?_modify, if_pos rfl, h]
 rfl
theorem TwoAt.has {W : World} {R : Nat} {x y : De.ADev} {u v : Value} (h : TwoAt W R x y u v) (hu : De.Has W u x.ats) (hv : De.Has W v y.ats) : De.DHas W (.slice (some ⟨R, 0, none⟩) 2 2) [(x, u), (y, v)] := by
 refine .inr ⟨R, 0, 2, rfl, Nat.le_refl _, block_lt h, ⟨fun j z hz => ?_, fun z hz => ?_⟩⟩
 ·match j, hz with
  | 0, hz =>
   obtain rfl : (x, u) = z := by simpa using hz
   intro m q hq
   rw [cell_of_row _ _ _ _ _ _ h]
   match m, hq with
   | 0, hq | 1, hq | 2, hq | 3, hq | 4, hq | 5, hq | 6, hq | 7, hq | 8, hq | 9, hq => exact hq
   | m + 10, hq => simp [De.dvC] at hq
  | 1, hz =>
   obtain rfl : (y, v) = z := by simpa using hz
   intro m q hq
   rw [cell_of_row _ _ _ _ _ _ h]
   match m, hq with
   | 0, hq | 1, hq | 2, hq | 3, hq | 4, hq | 5, hq | 6, hq | 7, hq | 8, hq | 9, hq => exact hq
   | m + 10, hq => simp [De.dvC] at hq
  | j + 2, hz => simp at hz
 ·rcases List.mem_cons.1 hz with rfl | hz
  ·exact hu
  ·rw [List.mem_singleton.1 hz]
   exact hv
theorem TwoAt.cell {W : World} {R : Nat} {x y : De.ADev} {u v : Value} (h : TwoAt W R x y u v) : W.cell? ⟨R, 10, none⟩ = some (.int .i64 y.idx) ∧ W.cell? ⟨R, 11, none⟩ = some (.int .i64 y.par) := by
 constructor <;> (rw [cell_of_row _ _ _ _ _ _ h]; rfl)
end Go.Proofs.YtldcediiobfhiaaGreatDoor
