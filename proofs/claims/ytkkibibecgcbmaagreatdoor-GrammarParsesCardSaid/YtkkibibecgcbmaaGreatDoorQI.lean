/- I -/
import Derived.Test.YtkkibibecgcbmaaGreatDoorQH
import Derived.Deep.RegionHeld3
open Go.Lib renaming hid → qH
open Go.Calls renaming mono → cM
open Go.Act renaming put → aP
open List renaming setIfInBounds_toArray → lA, set_cons_zero → lB, set_cons_succ → lC
set_option maxRecDepth 100000
set_option maxHeartbeats 16000000
namespace Go.Proofs.YtkkibibecgcbmaaGreatDoor
open Go.RowKit
theorem MAt.frz {w : World} {b o : Nat} {x : Tm} (h : MAt w b x) : w.frozen? ⟨b, o, none⟩ = false := by simp [World.frozen?, MAt] at h ⊢; simp [h]
theorem MAt.all {w : World} {b : Nat} {x : Tm} (h : MAt w b x) (y : Tm) : MAt ((((w.setCell ⟨b, 0, none⟩ (.int .i64 y.key)).setCell ⟨b, 1, none⟩ (.string (bs y.name))).setCell ⟨b, 2, none⟩ (.int .i64 y.op)).setCell ⟨b, 3, none⟩ (.string (bs y.val))) b y := by
 unfold MAt at h ⊢
 simp [World.setCell, Array.getElem?_modify, h, tmC]
theorem tm_end {fn : Func} {p : Nat} {a : Act} {W : World} {R : Nat} {x : Tm} {Q : Ending → World → Prop} (hr : fn.results = #[.cell p 31]) (h : MAt W R x) (h2 : a.tmps.getD p undef = .pointer (some ⟨R, 0, none⟩)) (hd : a.defers = [])
  (hq : Q (.returned (.agg (tmC x))) W) : bodyPost Tryz.prog fn Q .ret a W := by
 obtain ⟨z0, z1, z2, z3⟩ := h.cells
 refine bodyPost_ret (v := .agg (tmC x)) ?_ hd hq
 rw [Array.getD_eq_getD_getElem?] at h2
 simp [results, hr, go_sem, h2, z0, z1, z2, z3]
 rfl
def tm0 : Tm := ⟨0, [], 0, []⟩
theorem termOf_any (x : Lx.Tok) (w : World) : Calls Tryz.prog 47 #[.agg (Lx.tokC x)] w fun e w' => e = .returned (.agg (tmC (termOf x))) ∧ Kp [] w w' := by
 obtain ⟨W0, hW⟩ : ∃ W0, (w.alloc (.cells (Lx.tokC x) 81)).alloc (.cells #[.int .i64 0, .string ⟨#[]⟩, .int .i64 0, .string ⟨#[]⟩] 31) = W0 := ⟨_, rfl⟩
 obtain ⟨B, hB⟩ : ∃ B, w.heap.size = B := ⟨_, rfl⟩
 obtain ⟨T, hT⟩ : ∃ T, B + 1 = T := ⟨_, rfl⟩
 have hk0 : Kp [] w W0 := by rw [← hW]; exact ((Kp.refl [] w).alloc _).alloc _
 have hb0 : Lx.TAt W0 B x := by rw [← hW, ← hB]; exact heap_alloc2_old w _ _
 have hr0 : MAt W0 T tm0 := by
  have := heap_alloc_last (w.alloc (.cells (Lx.tokC x) 81)) (.cells #[.int .i64 0, .string ⟨#[]⟩, .int .i64 0, .string ⟨#[]⟩] 31)
  rw [hW, show (w.alloc (.cells (Lx.tokC x) 81)).heap.size = T by simp; omega] at this
  exact this
 have hkd : Kp [] W0 W0.drew := (Kp.refl [] W0).drew 1
 have HST := qH (show Lx.TAt W0.drew B x ∧ (∃ m, MAt W0.drew T m) ∧ Kp [] w W0.drew from ⟨hb0.kp hkd (by simp), ⟨_, hr0.kp hkd (by simp)⟩, hk0.trans hkd⟩)
 have HKY := qH fun W => keyOf_any x.key W
 have HOP := qH fun W => opOf_any x.op W
 obtain ⟨y, hy⟩ : ∃ y, termOf x = y := ⟨_, rfl⟩
 have hy1 : posI keysG x.key = y.key := by rw [← hy]; rfl
 have hy2 : y.name = x.name := by rw [← hy]; rfl
 have hy3 : posI opsG x.op = y.op := by rw [← hy]; rfl
 have hy4 : y.val = x.val := by rw [← hy]; rfl
 rw [hy]
 rw [hy1] at HKY
 rw [hy3] at HOP
 unfold Lx.tokC at hW ⊢
 have HTB := qH (show B ≠ T by omega)
 clear hk0 hb0 hr0 hy hy1 hy3 hkd
 go_enter Tryz.func47, Tryz.ntmps47
 go_upto_region 1 with fail
 refine wp_region_held_drew (S := fun W => Lx.TAt W B x ∧ (∃ m, MAt W T m) ∧ Kp [] w W) (by kernel_rfl) HST.out (fun hHeld => ?_)
 refine wpAnyH_take (i := 0) (oi := ⟨some 3, .fieldAddr 81 (.tmp 1) 0, 0, "term.go:23", #[], none⟩) (v := .pointer (some ⟨B, 0, none⟩)) rfl (by kernel_rfl) (by kernel_rfl) (by kernel_rfl) (fun _ _ _ h => h) (Or.inl ⟨by rfl, fun w hSw => by (try dsimp only at hSw); go_simp⟩) hHeld ?_
 try simp only [aP, lA, lB, lC]
 refine wpAnyH_take (i := 1) (oi := ⟨some 4, .load 9 (.tmp 3), 9, "term.go:23", #[⟨0, .data⟩], none⟩) (v := .string (bs x.key)) rfl (by kernel_rfl) (by kernel_rfl) (by kernel_rfl) (fun _ _ _ h => h) (Or.inl ⟨by rfl, fun w hSw => by (try dsimp only at hSw); obtain ⟨c0, c1, c2, c3⟩ := hSw.1.cells; go_simp⟩) hHeld ?_
 try simp only [aP, lA, lB, lC]
 refine wpAnyH_take (i := 3) (oi := ⟨some 6, .fieldAddr 81 (.tmp 1) 1, 0, "term.go:23", #[], none⟩) (v := .pointer (some ⟨B, 1, none⟩)) rfl (by kernel_rfl) (by kernel_rfl) (by kernel_rfl) (fun _ _ _ h => h) (Or.inl ⟨by rfl, fun w hSw => by (try dsimp only at hSw); go_simp⟩) hHeld ?_
 try simp only [aP, lA, lB, lC]
 refine wpAnyH_take (i := 4) (oi := ⟨some 7, .load 9 (.tmp 6), 9, "term.go:23", #[⟨3, .data⟩], none⟩) (v := .string (bs x.name)) rfl (by kernel_rfl) (by kernel_rfl) (by kernel_rfl) (fun _ _ _ h => h) (Or.inl ⟨by rfl, fun w hSw => by (try dsimp only at hSw); obtain ⟨c0, c1, c2, c3⟩ := hSw.1.cells; go_simp⟩) hHeld ?_
 try simp only [aP, lA, lB, lC]
 refine wpAnyH_take (i := 5) (oi := ⟨some 8, .fieldAddr 81 (.tmp 1) 2, 0, "term.go:23", #[], none⟩) (v := .pointer (some ⟨B, 2, none⟩)) rfl (by kernel_rfl) (by kernel_rfl) (by kernel_rfl) (fun _ _ _ h => h) (Or.inl ⟨by rfl, fun w hSw => by (try dsimp only at hSw); go_simp⟩) hHeld ?_
 try simp only [aP, lA, lB, lC]
 refine wpAnyH_take (i := 6) (oi := ⟨some 9, .load 9 (.tmp 8), 9, "term.go:23", #[⟨5, .data⟩], none⟩) (v := .string (bs x.op)) rfl (by kernel_rfl) (by kernel_rfl) (by kernel_rfl) (fun _ _ _ h => h) (Or.inl ⟨by rfl, fun w hSw => by (try dsimp only at hSw); obtain ⟨c0, c1, c2, c3⟩ := hSw.1.cells; go_simp⟩) hHeld ?_
 try simp only [aP, lA, lB, lC]
 refine wpAnyH_take (i := 8) (oi := ⟨some 11, .fieldAddr 81 (.tmp 1) 3, 0, "term.go:23", #[], none⟩) (v := .pointer (some ⟨B, 3, none⟩)) rfl (by kernel_rfl) (by kernel_rfl) (by kernel_rfl) (fun _ _ _ h => h) (Or.inl ⟨by rfl, fun w hSw => by (try dsimp only at hSw); go_simp⟩) hHeld ?_
 try simp only [aP, lA, lB, lC]
 refine wpAnyH_take (i := 9) (oi := ⟨some 12, .load 9 (.tmp 11), 9, "term.go:23", #[⟨8, .data⟩], none⟩) (v := .string (bs x.val)) rfl (by kernel_rfl) (by kernel_rfl) (by kernel_rfl) (fun _ _ _ h => h) (Or.inl ⟨by rfl, fun w hSw => by (try dsimp only at hSw); obtain ⟨c0, c1, c2, c3⟩ := hSw.1.cells; go_simp⟩) hHeld ?_
 try simp only [aP, lA, lB, lC]
 refine wpAnyH_ready (rs := [2]) (by kernel_rfl) (by simp) ?_
 refine AllReadyH.cons (o := ⟨some 5, .call { callee := .value (.func 76), args := #[.tmp 4], argTypes := #[9] }, 3, "term.go:23", #[⟨1, .data⟩], none⟩) rfl (fun K hK => ?_) AllReadyH.nil
 go_simp
 go_at_call 76
 refine cM (by with_reducible exact HKY.out _) ?_
 rintro e w1 ⟨rfl, hk⟩
 dsimp only
 have hH := (show Lx.TAt w1 B x ∧ (∃ m, MAt w1 T m) ∧ Kp [] w w1 from ⟨hHeld.1.kp hk (by simp), ⟨_, hHeld.2.1.choose_spec.kp hk (by simp)⟩, hHeld.2.2.trans hk⟩)
 clear hHeld
 refine hK.out _ _ hH (fun hHeld => ?_)
 try simp only [aP, lA, lB, lC]
 clear hK
 refine wpAnyH_ready (rs := [7]) (by kernel_rfl) (by simp) ?_
 refine AllReadyH.cons (o := ⟨some 10, .call { callee := .value (.func 77), args := #[.tmp 9], argTypes := #[9] }, 3, "term.go:23", #[⟨6, .data⟩, ⟨2, .chain⟩], none⟩) rfl (fun K hK => ?_) AllReadyH.nil
 go_simp
 go_at_call 77
 refine cM (by with_reducible exact HOP.out _) ?_
 rintro e w2 ⟨rfl, hk⟩
 dsimp only
 have hH2 := (show Lx.TAt w2 B x ∧ (∃ m, MAt w2 T m) ∧ Kp [] w w2 from ⟨hHeld.1.kp hk (by simp), ⟨_, hHeld.2.1.choose_spec.kp hk (by simp)⟩, hHeld.2.2.trans hk⟩)
 clear hHeld
 refine hK.out _ _ hH2 (fun hHeld => ?_)
 try simp only [aP, lA, lB, lC]
 clear hK
 refine wpAnyH_take (i := 10) (oi := ⟨some 13, .build 31 #[(0, .tmp 5), (1, .tmp 7), (2, .tmp 10), (3, .tmp 12)], 31, "term.go:23", #[⟨2, .data⟩, ⟨4, .data⟩, ⟨7, .data⟩, ⟨9, .data⟩], none⟩) (v := .agg #[.int .i64 y.key, .string (bs x.name), .int .i64 y.op, .string (bs x.val)]) rfl (by kernel_rfl) (by kernel_rfl) (by kernel_rfl) (fun _ _ _ h => h) (Or.inl ⟨by rfl, fun w hSw => by (try dsimp only at hSw); go_simp⟩) hHeld ?_
 try simp only [aP, lA, lB, lC]
 refine wpAnyH_ready (rs := [11]) (by kernel_rfl) (by simp) ?_
 refine AllReadyH.cons (o := ⟨none, .store 31 (.tmp 2) (.tmp 13), 0, "term.go:23", #[⟨10, .data⟩, ⟨7, .chain⟩, ⟨0, .phase⟩, ⟨1, .phase⟩, ⟨2, .phase⟩, ⟨3, .phase⟩, ⟨4, .phase⟩, ⟨5, .phase⟩, ⟨6, .phase⟩, ⟨7, .phase⟩, ⟨8, .phase⟩, ⟨9, .phase⟩, ⟨10, .phase⟩], none⟩) rfl (fun K hK => ?_) AllReadyH.nil
 obtain ⟨hB2, ⟨m, hm⟩, hk2⟩ := hH2
 obtain ⟨t0, t1, t2, t3⟩ := hm.cells
 have ft := fun o => hm.frz (o := o)
 have hmA := hm.all y
 rw [hy2, hy4] at hmA
 have HMA := qH hmA
 have HKE := qH (show Kp [] w _ from (((hk2.setCell (p := ⟨T, 0, none⟩) (.inr (by simp only; omega)) (.int .i64 y.key)).setCell (p := ⟨T, 1, none⟩) (.inr (by simp only; omega)) (.string (bs x.name))).setCell (p := ⟨T, 2, none⟩) (.inr (by simp only; omega)) (.int .i64 y.op)).setCell (p := ⟨T, 3, none⟩) (.inr (by simp only; omega)) (.string (bs x.val)))
 have HBE := qH ((((hB2.other (p := ⟨T, 0, none⟩) HTB.out (.int .i64 y.key)).other (p := ⟨T, 1, none⟩) HTB.out (.string (bs x.name))).other (p := ⟨T, 2, none⟩) HTB.out (.int .i64 y.op)).other (p := ⟨T, 3, none⟩) HTB.out (.string (bs x.val)))
 clear hmA hm hB2 hk2
 go_simp
 clear hHeld
 refine hK.out _ _ ⟨HBE.out, ⟨_, HMA.out⟩, HKE.out⟩ (fun hHeld => ?_)
 try simp only [aP, lA, lB, lC]
 clear hK
 refine wpAnyH_done (by kernel_rfl) ?_ _
 clear hHeld
 go_wp2
 exact tm_end Tryz.results47 (x := y) HMA.out rfl rfl ⟨rfl, HKE.out⟩
end Go.Proofs.YtkkibibecgcbmaaGreatDoor
namespace Go.Proofs.YtkkibibecgcbmaaGreatDoor
open Go.RowKit
theorem tok_end {fn : Func} {p : Nat} {a : Act} {W : World} {R : Nat} {x : Lx.Tok} {Q : Ending → World → Prop} (hr : fn.results = #[.cell p 81]) (h : Lx.TAt W R x) (h2 : a.tmps.getD p undef = .pointer (some ⟨R, 0, none⟩)) (hd : a.defers = [])
  (hq : Q (.returned (.agg (Lx.tokC x))) W) : bodyPost Tryz.prog fn Q .ret a W := by
 obtain ⟨z0, z1, z2, z3⟩ := h.cells
 refine bodyPost_ret (v := .agg (Lx.tokC x)) ?_ hd hq
 rw [Array.getD_eq_getD_getElem?] at h2
 simp [results, hr, go_sem, h2, z0, z1, z2, z3]
 rfl
end Go.Proofs.YtkkibibecgcbmaaGreatDoor
namespace Go.Proofs.YtkkibibecgcbmaaGreatDoor
open Go.RowKit
theorem read_len {t : List UInt8} {l : List Lx.Tok} (h : Lx.tokensE t = (l, 0)) : ∀ x ∈ l, x.name.length ≤ 1024 ∧ x.val.length ≤ 1024 := by
 unfold Lx.tokensE at h
 split at h
 ·cases h
 ·split at h
  ·cases h
  ·rename_i h1 h2
   split at h
   ·cases h
   ·cases h
   ·rename_i l' q hl
    cases h
    have hln : t.all Lx.lnCh = true := by simpa using h2
    have ht : (Lx.trimL t).all Lx.lnCh = true := List.all_eq_true.2 fun b hb => List.all_eq_true.1 hln b ((List.dropWhile_sublist _).mem hb)
    have hlt := Lx.trimL_le t
    obtain ⟨i1, i2⟩ := Lx.tokensF_len 1024 _ _ _ _ ht (by omega) hl
    exact fun x hx => by obtain ⟨a, b, c, d⟩ := i2 x hx; exact ⟨b, d⟩
theorem MAt.range {w : World} {b : Nat} {x : Tm} (h : MAt w b x) : w.rangeAt b 0 (tmT.cf x) := fun j v hv => by
 rw [Nat.zero_add, cell_of_row _ _ _ _ _ _ h]
 have : (tmC x).toList[j]? = some v := hv
 rwa [Array.getElem?_toList] at this
theorem tm_push {w W W7 : World} {Nb : Nat} {x : Tm} {v : Value} {xs : List Tm} (hk : Kp [] w W) (ho : tmT.Own W w.heap.size v xs) (hN : W.heap.size = Nb) (hW : W.alloc (.cells (tmC x) 31) = W7) : Kp [] w W7 ∧ tmT.Own W7 w.heap.size v xs ∧ W7.rangeAt Nb 0 (tmT.cf x) := by
 have hk1 : Kp [] W W7 := by rw [← hW]; exact (Kp.refl [] _).alloc _
 refine ⟨hk.trans hk1, ho.kp0 hk1, ?_⟩
 have h := MAt.new W x
 rw [hW, hN] at h
 exact h.range
theorem kp_grown {w W w' : World} {v : Value} (h : Kp [] w W) (g : W.grownBy w' v.ownBlock) (hv : ∀ b, v.ownBlock = some b → w.heap.size ≤ b) : Kp [] w w' := by
 cases hb : v.ownBlock with
 | none =>
  rw [hb] at g
  exact h.trans (Kp.of_grown_none g)
 | some b =>
  rw [hb] at g
  exact h.up (Kp.of_grown g) (by intro x hx; simp at hx; subst hx; exact .inr (hv x hb))
theorem info31 : (Tryz.prog.info? 31).map (fun i => (i.zero, i.size, i.bytes)) = some (some (.agg #[.int .i64 0, .string ⟨#[]⟩, .int .i64 0, .string ⟨#[]⟩]), 4, 48) := by kernel_rfl
theorem gparse_any {w : World} (hE : Env w) (s : List UInt8) (hs : s.length ≤ 1000000000) : Calls Tryz.prog 19 #[.string (bs s)] w fun r w' => ∃ v, r = .returned (.tuple #[v, .int .i64 (parseG s).2]) ∧ tmT.Own w' w.heap.size v (parseG s).1 ∧ Kp [] w w' := by
 obtain ⟨toks, en, hte⟩ : ∃ l e, Lx.tokensE s = (l, e) := ⟨_, _, rfl⟩
 have hT := Lx.tokens_any s w hE.max hs
 rw [hte] at hT
 simp only at hT
 by_cases hen : en = 0
 ·subst hen
  obtain ⟨hlen, _, _⟩ := Lx.read_ok hte
  have hsm := read_len hte
  have hpe : parseG s = if checkE (toks.map termOf) ≠ 0 then ([], checkE (toks.map termOf)) else (toks.map termOf, 0) := by unfold parseG; rw [hte]; rfl
  have HSM := qH (show ∀ t ∈ toks.map termOf, SmT t from fun t ht => by
   obtain ⟨x, hx, rfl⟩ := List.mem_map.1 ht
   have := hsm x hx
   exact ⟨by show x.name.length ≤ _; omega, by show x.val.length ≤ _; omega⟩)
  have HT := qH hT
  have HE := qH hE
  have HPE := qH hpe
  have HTO := qH fun x W => termOf_any x W
  obtain ⟨i3, hi3, hy0, hy1, hy2⟩ := info_parts info31
  clear hte hT hsm hpe hE
  go_enter Tryz.func19, Tryz.ntmps19
  go_upto_region 4 with (go_at_call 46; refine cM (by with_reducible exact HT.out) ?_; rintro r w1 ⟨tv, rfl, hto, hk1⟩)
  obtain ⟨ta, tc, hta⟩ := hto.form
  subst hta
  have HTH := qH hto.has
  have HK1 := qH hk1
  obtain ⟨w2, hrun, hown, hg⟩ := run_make_own w1 w1.heap.size 22 31 i3 _ 4 Tryz.underlying22 hi3 hy0 hy1 .i64 .i64 toks.length (by rw [hy2]; omega) (by unfold maxLen; omega) (Nat.le_refl _)
  have HK2 := qH (show Kp [] w1 w2 from Kp.of_grown_none hg)
  have HO2 := qH (show tmT.Own w2 w1.heap.size (.slice (some ⟨w1.heap.size, 0, none⟩) 0 toks.length) [] from hown)
  clear hto hk1 hown hg
  go_wp2
  have HROW := qH (show toks ≠ [] → ∃ b o, ta = some ⟨b, o, none⟩ ∧ b < w1.heap.size ∧ Lx.tokT.Row w1 b o toks by
   obtain ⟨a', c', he, hr⟩ := HTH.out.form
   cases he
   exact hr)
  clear hrun
  go_loopg [6, 23] toks.length (fun g s6 s23 wx => ∃ (v : Value) (i : Nat), v = s6 ∧ s23 = .int .i64 (i : Int) ∧ i + g = toks.length ∧ Kp [] w1 wx ∧ tmT.Own wx w1.heap.size v ((toks.take i).map termOf))
  case atStart => exact ⟨_, 0, rfl, rfl, by omega, HK2.out, HO2.out⟩
  case round =>
   obtain ⟨v, i, rfl, rfl, hig, hkp, hov⟩ := hrel
   by_cases hi : i < toks.length
   ·obtain ⟨g, rfl⟩ : ∃ g, gk = g + 1 := ⟨gk - 1, by omega⟩
    obtain ⟨b, o, rfl, hbl, hr⟩ := HROW.out (by rintro rfl; simp at hi)
    obtain ⟨x, hx⟩ : ∃ x, toks[i]? = some x := ⟨_, List.getElem?_eq_getElem hi⟩
    have hiz : (i : Int) < (toks.length : Int) := by omega
    have hr2 : Lx.tokT.Row wr b o toks := hr.keep (hkp.block b hbl (by simp))
    obtain ⟨c0, c1, c2, c3⟩ := Lx.tokRow hr2 hx
    have hwi : IntKind.i64.wrap ((i : Int) + 1) = ((i + 1 : Nat) : Int) := by rw [IntKind.wrap_i64]; omega
    have HI := qH hig
    obtain ⟨wb, hwb⟩ : ∃ wb, wr.alloc (.cells #[.string (bs x.key), .string (bs x.name), .string (bs x.op), .string (bs x.val)] 81) = wb := ⟨_, rfl⟩
    obtain ⟨pb, hpb⟩ : ∃ pb, wr.heap.size = pb := ⟨_, rfl⟩
    have hTb : Lx.TAt wb pb x := by
     have h := heap_alloc_last wr (.cells #[.string (bs x.key), .string (bs x.name), .string (bs x.op), .string (bs x.val)] 81)
     rw [hwb, hpb] at h
     exact h
    obtain ⟨d0, d1, d2, d3⟩ := hTb.cells
    have hkw : Kp [] wr wb := by rw [← hwb]; exact (Kp.refl [] wr).alloc _
    have HKb := qH (hkp.trans hkw)
    have HOb := qH (hov.kp0 hkw)
    have HT1 := qH (HTO.out x wb)
    have htk : (toks.take (i + 1)).map termOf = (toks.take i).map termOf ++ [termOf x] := by rw [List.take_add_one, hx]; simp
    have HTK := qH htk
    obtain ⟨xs, hxs⟩ : ∃ xs, (toks.take i).map termOf = xs := ⟨_, rfl⟩
    have HXS := qH (show xs.length ≤ 1000000 by rw [← hxs, List.length_map, List.length_take]; omega)
    rw [hxs] at HOb HTK
    obtain ⟨y, hy⟩ : ∃ y, termOf x = y := ⟨_, rfl⟩
    rw [hy] at HTK HT1
    unfold Lx.tokC tmC at HT1
    clear hkp hr hr2 hx hig hTb hkw hbl hov hxs htk hy
    go_wp2_with (first
     | (go_at_call 47; refine cM (by with_reducible exact HT1.out) ?_; rintro r w5 ⟨rfl, hk⟩; have HK5 := qH (HKb.out.trans hk); have HO5 := qH (HOb.out.kp0 hk); clear hk; obtain ⟨Nb, hNb⟩ : ∃ Nb, w5.heap.size = Nb := ⟨_, rfl⟩; obtain ⟨w7, hw7⟩ : ∃ w7, w5.alloc (.cells #[.int .i64 y.key, .string (bs y.name), .int .i64 y.op, .string (bs y.val)] 31) = w7 := ⟨_, rfl⟩; have H7 := qH (tm_push (x := y) HK5.out HO5.out hNb hw7))
     | (at_builtin; refine wpList_append_r (r := tmT) rfl (.tmp 27) (.tmp 30) rfl w1.heap.size v xs rfl H7.out.2.1 Nb 1 y rfl H7.out.2.2 HXS.out H7.out.1.size ?_; intro v8 w8 hown8 hgr8; have HO8 := qH hown8; have HG8 := qH (kp_grown H7.out.1 hgr8 fun b hb => (H7.out.2.1.ge b hb).1); clear hown8 hgr8))
    go_roundg g
    case measure => omega
    case rel => exact ⟨v8, i + 1, rfl, rfl, by have := HI.out; omega, HG8.out, by rw [HTK.out]; exact HO8.out⟩
   ·have hiz : ¬ ((i : Int) < (toks.length : Int)) := by omega
    have hie : toks.take i = toks := List.take_of_length_le (by omega)
    rw [hie] at hov
    have HOV := qH hov
    have HKP := qH hkp
    have HC := qH (gcheck_any (HE.out.kp0 (HK1.out.trans hkp)) hov.has (by rw [List.length_map]; omega) HSM.out)
    obtain ⟨ce, hce⟩ : ∃ ce, checkE (toks.map termOf) = ce := ⟨_, rfl⟩
    rw [hce] at HC HPE
    clear hov hkp hig hi hie hce hlen
    by_cases hc : ce = 0
    ·subst hc
     have hP := HPE.out
     rw [if_neg (by simp)] at hP
     have HP := qH hP
     clear hP
     go_wp2_with (go_at_call 15; refine cM (by with_reducible exact HC.out) ?_; rintro r w9 ⟨rfl, hk⟩; have HK9 := qH (HKP.out.trans hk); have HO9 := qH (HOV.out.kp0 hk); clear hk)
     go_ret2
     rw [HP.out]
     exact ⟨_, rfl, HO9.out.down HK1.out.size, HK1.out.trans HK9.out⟩
    ·have hP := HPE.out
     rw [if_pos hc] at hP
     have HP := qH hP
     clear hP
     go_wp2_with (go_at_call 15; refine cM (by with_reducible exact HC.out) ?_; rintro r w9 ⟨rfl, hk⟩; have HK9 := qH (HKP.out.trans hk); clear hk)
     go_ret2
     rw [HP.out]
     exact ⟨_, rfl, RT.Own.nil _ _ _, HK1.out.trans HK9.out⟩
 ·have hpe : parseG s = ([], (en : Int)) := by unfold parseG; rw [hte]; simp only; rw [if_pos hen]
  rw [hpe]
  have hez : ¬ ((en : Int) = 0) := by omega
  have HT := qH hT
  clear hte hT hpe hE hen
  go_enter Tryz.func19, Tryz.ntmps19
  go_wp2_with (go_at_call 46; refine cM (by with_reducible exact HT.out) ?_; rintro r w1 ⟨tv, rfl, hto, hk1⟩; have HK1 := qH hk1; clear hto hk1)
  go_ret2
  exact ⟨_, rfl, RT.Own.nil _ _ _, HK1.out⟩
end Go.Proofs.YtkkibibecgcbmaaGreatDoor
namespace Go.Proofs.YtkkibibecgcbmaaGreatDoor
open Go.RowKit
def kn1 : List UInt8 := [83, 85, 66, 83, 89, 83, 84, 69, 77, 61, 61, 34, 98, 108, 111, 99, 107, 34, 44, 32, 83, 89, 77, 76, 73, 78, 75, 43, 61, 34, 100, 105, 115, 107, 47, 37, 107, 34]
def kn2 : List UInt8 := [80, 82, 73, 79, 82, 73, 84, 89, 61, 34, 48, 48, 55, 34]
def kn3 : List UInt8 := [32, 44, 32]
theorem kn1_ok : parseG kn1 = ([⟨3, [], 1, [98, 108, 111, 99, 107]⟩, ⟨16, [], 4, [100, 105, 115, 107, 47, 37, 107]⟩], 0) := by decide +kernel
theorem kn2_ok : (parseG kn2).2 = 103 := by decide +kernel
theorem kn3_ok : (parseG kn3).2 = 106 := by decide +kernel
theorem tms2 {w : World} {v : Value} {a b : Tm} (h : tmT.Has w v [a, b]) : ∃ blk o c, v = .slice (some ⟨blk, o, none⟩) 2 c ∧ w.cell? ⟨blk, o + 4, none⟩ = some (.int .i64 b.key) ∧ w.cell? ⟨blk, o + 5, none⟩ = some (.string (bs b.name)) ∧ w.cell? ⟨blk, o + 6, none⟩ = some (.int .i64 b.op) ∧ w.cell? ⟨blk, o + 7, none⟩ = some (.string (bs b.val)) := by
 rcases h with ⟨_, _, _, hn⟩ | ⟨blk, o, c, rfl, _, hr⟩
 ·cases hn
 ·have h1 := tmRow hr (j := 1) rfl
  exact ⟨blk, o, c, rfl, h1.1, h1.2.1, h1.2.2.1, h1.2.2.2⟩
theorem eq_tm (k o : Int) (n v : ByteArray) (W : World) : (binOp .eql 31 (.agg #[.int .i64 k, .string n, .int .i64 o, .string v]) (.agg #[.int .i64 k, .string n, .int .i64 o, .string v])).run Tryz.prog W = .ok (.bool true) W := by
 have hS : Tryz.prog.underlying 31 = some (.struct (Tryz.prog.fieldsOf 31)) := by kernel_rfl
 have hp : Tryz.prog.stoodInHeld 31 = false := by kernel_rfl
 have u3 := Tryz.underlying3
 have u9 := Tryz.underlying9
 have a3 := Tryz.isAgg3
 have a9 := Tryz.isAgg9
 have z3 := Tryz.sizeOf3
 have z9 := Tryz.sizeOf9
 rw [run_eql_struct, show (10000 : Nat) = 9999 + 1 from rfl, run_equalIn_agg W 9999 31 _ _ hS hp]
 simp only [Program.fieldsOf, Tryz.underlying31]
 go_simp
theorem known_any {w : World} (hE : Env w) : Calls Tryz.prog 11 #[] w fun r w' => r = .returned (.bool true) ∧ Kp [] w w' := by
 have h1 := gparse_any hE kn1 (by decide)
 have h2 := fun W (h : Kp [] w W) => gparse_any (hE.kp0 h) kn2 (by decide)
 have h3 := fun W (h : Kp [] w W) => gparse_any (hE.kp0 h) kn3 (by decide)
 rw [kn1_ok] at h1
 simp only [kn2_ok] at h2
 simp only [kn3_ok] at h3
 have H1 := qH (show Calls Tryz.prog 19 #[.string ⟨#[83, 85, 66, 83, 89, 83, 84, 69, 77, 61, 61, 34, 98, 108, 111, 99, 107, 34, 44, 32, 83, 89, 77, 76, 73, 78, 75, 43, 61, 34, 100, 105, 115, 107, 47, 37, 107, 34]⟩] w _ from h1)
 have H2 := qH (show ∀ W, Kp [] w W → Calls Tryz.prog 19 #[.string ⟨#[80, 82, 73, 79, 82, 73, 84, 89, 61, 34, 48, 48, 55, 34]⟩] W _ from h2)
 have H3 := qH (show ∀ W, Kp [] w W → Calls Tryz.prog 19 #[.string ⟨#[32, 44, 32]⟩] W _ from h3)
 have e2 := fun W => eq_tm 16 4 ⟨#[]⟩ ⟨#[100, 105, 115, 107, 47, 37, 107]⟩ W
 clear h1 h2 h3 hE
 go_enter Tryz.func11, Tryz.ntmps11
 go_wp2_with (first
  | (go_at_call 19; refine cM (by with_reducible exact H1.out) ?_; rintro r w1 ⟨v, rfl, hown, hk⟩; have HK1 := qH hk; have HO1 := qH hown.has; clear hown hk; obtain ⟨b1, o1, c1, rfl, -⟩ := tms2 HO1.out)
  | (go_at_call 19; refine cM (by with_reducible exact H2.out _ HK1.out) ?_; rintro r w2 ⟨v2, rfl, hown, hk⟩; have HK2 := qH (HK1.out.trans hk); have HO2 := qH (HO1.out.kp0 hk); clear hown hk)
  | (go_at_call 19; refine cM (by with_reducible exact H3.out _ HK2.out) ?_; rintro r w3 ⟨v3, rfl, hown, hk⟩; have HK3 := qH (HK2.out.trans hk); have hh1 := tms2 (HO2.out.kp0 hk); clear hown hk; obtain ⟨b1', o1', c1', he, c10, c11, c12, c13⟩ := hh1; cases he; replace c10 : _ = some (Value.int .i64 16) := c10; replace c11 : _ = some (Value.string ⟨#[]⟩) := c11; replace c12 : _ = some (Value.int .i64 4) := c12; replace c13 : _ = some (Value.string ⟨#[100, 105, 115, 107, 47, 37, 107]⟩) := c13))
 go_ret
 exact ⟨rfl, HK3.out⟩
end Go.Proofs.YtkkibibecgcbmaaGreatDoor
