/- Whether a term holds for a draft: the program's. -/
import Derived.Test.YtljkljnfbcmjdaaGreatDoorKMd
open Go.Lib renaming hid → qH
open Go.Calls renaming mono → cM
open Go.Act renaming put → aP
open List renaming setIfInBounds_toArray → lA, set_cons_zero → lB, set_cons_succ → lC
set_option maxRecDepth 100000
set_option maxHeartbeats 16000000
namespace Go.Proofs.YtljkljnfbcmjdaaGreatDoor
open Go.RowKit
structure Sl where
 a : Option Addr
 n : Nat
 c : Nat
structure Dra where
 props : Sl
 tags : Sl
 links : Sl
 run : Sl
 load : Sl
 name : ByteArray
 prio : Int
 owner : ByteArray
 group : ByteArray
 mode : Int
 res : ByteArray
 calls : Int
 ticks : Int
 closed : Sl
def draC (d : Dra) : Array Value := #[.slice d.props.a d.props.n d.props.c, .slice d.tags.a d.tags.n d.tags.c, .slice d.links.a d.links.n d.links.c, .slice d.run.a d.run.n d.run.c, .slice d.load.a d.load.n d.load.c, .string d.name, .int .i64 d.prio, .string d.owner, .string d.group, .int .i64 d.mode, .string d.res, .int .i64 d.calls, .int .i64 d.ticks, .slice d.closed.a d.closed.n d.closed.c]
def DAt (W : World) (b : Nat) (d : Dra) : Prop := W.heap[b]? = some (.cells (draC d) 54 (0, 0))
theorem DAt.kp0 {w w' : World} {b : Nat} {d : Dra} (h : DAt w b d) (hk : Kp [] w w') : DAt w' b d := (hk.block b (block_lt h) (by simp)).trans h
theorem DAt.cells {w : World} {b : Nat} {d : Dra} (h : DAt w b d) : w.cell? ⟨b, 0, none⟩ = some (.slice d.props.a d.props.n d.props.c) ∧ w.cell? ⟨b, 1, none⟩ = some (.slice d.tags.a d.tags.n d.tags.c) ∧ w.cell? ⟨b, 2, none⟩ = some (.slice d.links.a d.links.n d.links.c) ∧ w.cell? ⟨b, 3, none⟩ = some (.slice d.run.a d.run.n d.run.c) ∧ w.cell? ⟨b, 4, none⟩ = some (.slice d.load.a d.load.n d.load.c) ∧ w.cell? ⟨b, 5, none⟩ = some (.string d.name) ∧ w.cell? ⟨b, 6, none⟩ = some (.int .i64 d.prio) ∧ w.cell? ⟨b, 7, none⟩ = some (.string d.owner) ∧ w.cell? ⟨b, 8, none⟩ = some (.string d.group) ∧ w.cell? ⟨b, 9, none⟩ = some (.int .i64 d.mode) ∧ w.cell? ⟨b, 10, none⟩ = some (.string d.res) ∧ w.cell? ⟨b, 11, none⟩ = some (.int .i64 d.calls) ∧ w.cell? ⟨b, 12, none⟩ = some (.int .i64 d.ticks) ∧ w.cell? ⟨b, 13, none⟩ = some (.slice d.closed.a d.closed.n d.closed.c) := by
 refine ⟨?_, ?_, ?_, ?_, ?_, ?_, ?_, ?_, ?_, ?_, ?_, ?_, ?_, ?_⟩ <;> (rw [cell_of_row _ _ _ _ _ _ h]; rfl)
theorem DAt.frz {w : World} {b o : Nat} {d : Dra} (h : DAt w b d) : w.frozen? ⟨b, o, none⟩ = false := by
 unfold DAt at h
 simp [World.frozen?, h]
theorem own_st1b (W : World) (s : ByteArray) : stT.Has (W.alloc (.cells #[.string s] 9)) (.slice (some ⟨W.heap.size, 0, none⟩) 1 1) [s.data.toList] :=
 .inr ⟨W.heap.size, 0, 1, rfl, by simp, RT.row_of (cur := [.string s]) (heap_alloc_last W _) (by show [Value.string s] = [Value.string (bs s.data.toList)]; rw [bs_of])⟩
theorem own_st1c (W : World) (s : ByteArray) (b : Nat) (hb : W.heap.size = b) : stT.Has (W.alloc (.cells #[.string s] 9)) (.slice (some ⟨b, 0, none⟩) 1 1) [s.data.toList] := by subst hb; exact own_st1b W s
theorem action_any (a : ByteArray) (d : Dra) (n : ByteArray) (w : World) : Calls Tryz.prog 70 #[.string a, .agg (draC d), .string n] w fun e w' => ∃ v, e = .returned v ∧ stT.Has w' v [a.data.toList] ∧ Kp [] w w' := by
 have hk := (Kp.refl [] w).alloc (.cells (draC d) 54)
 have HK := qH hk
 unfold draC at *
 go_enter Tryz.func70, Tryz.ntmps70
 go_wp2
 go_ret
 exact ⟨_, rfl, own_st1c _ _ _ (by simp), HK.out.alloc _⟩
theorem result_any (a : ByteArray) (d : Dra) (n : ByteArray) (w : World) : Calls Tryz.prog 73 #[.string a, .agg (draC d), .string n] w fun e w' => ∃ v, e = .returned v ∧ stT.Has w' v [d.res.data.toList] ∧ Kp [] w w' := by
 have hk := (Kp.refl [] w).alloc (.cells (draC d) 54)
 have HK := qH hk
 unfold draC at *
 go_enter Tryz.func73, Tryz.ntmps73
 go_wp2
 go_ret
 exact ⟨_, rfl, own_st1c _ _ _ (by simp), HK.out.alloc _⟩
theorem tags_any (a : ByteArray) (d : Dra) (n : ByteArray) (tl : List (List UInt8)) (w : World) (ht : stT.Has w (.slice d.tags.a d.tags.n d.tags.c) tl) : Calls Tryz.prog 72 #[.string a, .agg (draC d), .string n] w fun e w' => ∃ v, e = .returned v ∧ stT.Has w' v tl ∧ Kp [] w w' := by
 have hk := (Kp.refl [] w).alloc (.cells (draC d) 54)
 have HK := qH hk
 have HT := qH (ht.kp0 hk)
 unfold draC at *
 go_enter Tryz.func72, Tryz.ntmps72
 go_wp2
 go_ret
 exact ⟨_, rfl, HT.out, HK.out⟩
theorem prop_any (a : ByteArray) (d : Dra) (n : ByteArray) (l : List De.Atr) (w : World) (hl : l.length ≤ 9223372036854775807) (h : De.Has w (.slice d.props.a d.props.n d.props.c) l) : Calls Tryz.prog 71 #[.string a, .agg (draC d), .string n] w fun e w' => ∃ v, e = .returned v ∧ stT.Has w' v [(getO n l).data.toList] ∧ Kp [] w w' := by
 obtain ⟨W1, hW1⟩ : ∃ W1, w.alloc (.cells (draC d) 54) = W1 := ⟨_, rfl⟩
 have hk : Kp [] w W1 := by rw [← hW1]; exact (Kp.refl [] w).alloc _
 have HK := qH hk
 have HV := qH (valueIn_any n _ l W1 hl (h.below hk.bel))
 have hd : DAt W1 w.heap.size d := by rw [← hW1]; exact heap_alloc_last w _
 have d0 := hd.cells.1
 clear hk h hd
 unfold draC at hW1 ⊢
 go_enter Tryz.func71, Tryz.ntmps71
 go_wp2_with (go_at_call 85; refine cM (by with_reducible exact HV.out) ?_; rintro e w2 ⟨rfl, hb⟩)
 go_ret
 exact ⟨_, rfl, own_st1b _ _, (HK.out.trans hb).alloc _⟩
theorem draft_run (k : Int) (n : List UInt8) (o : Int) (vl : List UInt8) (act : ByteArray) (d : Dra) (w : World) (f : Nat) (vs : List (List UInt8))
  (hd : drB ⟨k, n, o, vl⟩ = true) (ht : vl.length ≤ 4611686018427387904) (hvl : vs.length ≤ 4611686018427387904) (hvs : SmV vs)
  (eg : ∀ args w, (callFunc f args).run Tryz.prog w = .ok (.enter f args) w) (hix : ∀ W, (Instr.index 84 (.agg drA) (.int .i64 k)).run Tryz.prog W = .ok (.func (.func f) #[] #[]) W)
  (hf : ∀ W, Kp [] w W → Calls Tryz.prog f #[.string act, .agg #[.slice d.props.a d.props.n d.props.c, .slice d.tags.a d.tags.n d.tags.c, .slice d.links.a d.links.n d.links.c, .slice d.run.a d.run.n d.run.c, .slice d.load.a d.load.n d.load.c, .string d.name, .int .i64 d.prio, .string d.owner, .string d.group, .int .i64 d.mode, .string d.res, .int .i64 d.calls, .int .i64 d.ticks, .slice d.closed.a d.closed.n d.closed.c], .string (bs n)] W fun e w' => ∃ v, e = .returned v ∧ stT.Has w' v vs ∧ Kp [] W w') :
  Calls Tryz.prog 15 #[.agg #[.int .i64 k, .string (bs n), .int .i64 o, .string (bs vl)], .string act, .agg #[.slice d.props.a d.props.n d.props.c, .slice d.tags.a d.tags.n d.tags.c, .slice d.links.a d.links.n d.links.c, .slice d.run.a d.run.n d.run.c, .slice d.load.a d.load.n d.load.c, .string d.name, .int .i64 d.prio, .string d.owner, .string d.group, .int .i64 d.mode, .string d.res, .int .i64 d.calls, .int .i64 d.ticks, .slice d.closed.a d.closed.n d.closed.c]] w fun e w' => e = .returned (.bool (hB ⟨k, n, o, vl⟩ vs)) ∧ Kp [] w w' := by
 obtain ⟨W0, hW⟩ : ∃ W0, (w.alloc (.cells #[.int .i64 k, .string (bs n), .int .i64 o, .string (bs vl)] 46)).alloc (.cells #[.slice d.props.a d.props.n d.props.c, .slice d.tags.a d.tags.n d.tags.c, .slice d.links.a d.links.n d.links.c, .slice d.run.a d.run.n d.run.c, .slice d.load.a d.load.n d.load.c, .string d.name, .int .i64 d.prio, .string d.owner, .string d.group, .int .i64 d.mode, .string d.res, .int .i64 d.calls, .int .i64 d.ticks, .slice d.closed.a d.closed.n d.closed.c] 54) = W0 := ⟨_, rfl⟩
 obtain ⟨R, hR'⟩ : ∃ R, w.heap.size = R := ⟨_, rfl⟩
 obtain ⟨E, hE⟩ : ∃ E, R + 1 = E := ⟨_, rfl⟩
 have hk0 : Kp [] w W0 := by rw [← hW]; exact ((Kp.refl [] w).alloc _).alloc _
 have hb0 : MAt W0 R ⟨k, n, o, vl⟩ := by rw [← hW, ← hR']; exact heap_alloc2_old w _ _
 have hd0 : DAt W0 E d := by
  have := heap_alloc_last (w.alloc (.cells #[.int .i64 k, .string (bs n), .int .i64 o, .string (bs vl)] 46)) (.cells #[.slice d.props.a d.props.n d.props.c, .slice d.tags.a d.tags.n d.tags.c, .slice d.links.a d.links.n d.links.c, .slice d.run.a d.run.n d.run.c, .slice d.load.a d.load.n d.load.c, .string d.name, .int .i64 d.prio, .string d.owner, .string d.group, .int .i64 d.mode, .string d.res, .int .i64 d.calls, .int .i64 d.ticks, .slice d.closed.a d.closed.n d.closed.c] 54)
  rw [hW] at this
  rw [← hE, ← hR']
  unfold DAt
  unfold draC
  simpa using this
 obtain ⟨c0, c1, c2, c3⟩ := hb0.cells
 have HTB := qH (fun W => (show Calls Tryz.prog 38 #[] W fun e w' => e = .returned (.agg drA) ∧ Kp [] W w' from (drA_any W).mono fun e w' ⟨h1, h2⟩ => ⟨h1, by rw [h2]; exact (Kp.refl [] W).alloc _⟩))
 have HIX := qH hix
 have HV := qH hf
 have HS := qH (fun W => looks_any ⟨k, n, o, vl⟩ W)
 rw [hd] at HS
 have HK0 := qH hk0
 have HB0 := qH hb0
 have HD0 := qH hd0
 have HH := qH (fun v' W (h : stT.Has W v' vs) => holds_any ⟨k, n, o, vl⟩ vs v' W ht hvl h hvs)
 unfold tmC at HS HH
 simp only at HS HH
 have HST0 := qH (show ∀ W, Kp [] W0 W → MAt W.drew R ⟨k, n, o, vl⟩ ∧ DAt W.drew E d ∧ Kp [] w W.drew from fun W h => have h1 := h.trans ((Kp.refl [] W).drew 1); ⟨HB0.out.kp0 h1, HD0.out.kp0 h1, HK0.out.trans h1⟩)
 clear hix hf hd hk0 hb0 hd0
 go_enter Tryz.func15, Tryz.ntmps15
 go_upto_region 3 with (first
  | (go_at_call 37; refine cM (by with_reducible exact HS.out _) ?_; rintro e w1 ⟨rfl, hk1⟩; have HK1 := qH hk1; obtain ⟨c0, c1, c2, c3⟩ := (HB0.out.kp0 hk1).cells; clear hk1))
 have HST := qH (HST0.out _ HK1.out)
 clear c0 c1 c2 c3
 refine wp_region_held_drew (S := fun W => MAt W R ⟨k, n, o, vl⟩ ∧ DAt W E d ∧ Kp [] w W) (by kernel_rfl) HST.out (fun hHeld => ?_)
 refine wpAnyH_take (i := 1) (oi := ⟨some 12, .fieldAddr 46 (.tmp 3) 0, 0, "match.go:45", #[], none⟩) (v := .pointer (some ⟨R, 0, none⟩)) rfl (by kernel_rfl) (by kernel_rfl) (by kernel_rfl) (fun _ _ _ h => h) (Or.inl ⟨by rfl, fun w hSw => by (try dsimp only at hSw); go_simp⟩) hHeld ?_
 try simp only [aP, lA, lB, lC]
 refine wpAnyH_take (i := 2) (oi := ⟨some 13, .load 3 (.tmp 12), 3, "match.go:45", #[⟨1, .data⟩], none⟩) (v := .int .i64 k) rfl (by kernel_rfl) (by kernel_rfl) (by kernel_rfl) (fun _ _ _ h => h) (Or.inl ⟨by rfl, fun w hSw => by (try dsimp only at hSw); obtain ⟨c0, c1, c2, c3⟩ := hSw.1.cells; go_simp⟩) hHeld ?_
 try simp only [aP, lA, lB, lC]
 refine wpAnyH_ready (rs := [0]) (by kernel_rfl) (by simp) ?_
 refine AllReadyH.cons (o := ⟨some 11, .call { callee := .value (.func 38), args := #[], argTypes := #[] }, 84, "match.go:45", #[], none⟩) rfl (fun K hK => ?_) AllReadyH.nil
 go_simp
 go_at_call 38
 refine cM (by with_reducible exact HTB.out _) ?_
 rintro e w3 ⟨rfl, hk⟩
 dsimp only
 have hH := (show MAt w3 R ⟨k, n, o, vl⟩ ∧ DAt w3 E d ∧ Kp [] w w3 from ⟨hHeld.1.kp0 hk, hHeld.2.1.kp0 hk, hHeld.2.2.trans hk⟩)
 clear hHeld
 refine hK.out _ _ hH (fun hHeld => ?_)
 try simp only [aP, lA, lB, lC]
 clear hK
 refine wpAnyH_take (i := 3) (oi := ⟨some 14, .index 84 (.tmp 11) (.tmp 13), 83, "match.go:45", #[⟨0, .data⟩, ⟨2, .data⟩], none⟩) (v := .func (.func f) #[] #[]) rfl (by kernel_rfl) (by kernel_rfl) (by kernel_rfl) (fun _ _ _ h => h) (Or.inl ⟨by rfl, fun w hSw => by (try dsimp only at hSw); go_simp; rw [HIX.out]; rfl⟩) hHeld ?_
 try simp only [aP, lA, lB, lC]
 refine wpAnyH_ready (rs := [4]) (by kernel_rfl) (by simp) ?_
 refine AllReadyH.cons (o := ⟨some 7, .assign (.tmp 14), 83, "match.go:45", #[⟨3, .data⟩, ⟨0, .chain⟩, ⟨0, .phase⟩, ⟨1, .phase⟩, ⟨2, .phase⟩, ⟨3, .phase⟩], none⟩) rfl (fun K hK => ?_) AllReadyH.nil
 have HF3 := qH hHeld
 go_simp
 clear hHeld
 refine hK.out _ _ HF3.out (fun hHeld => ?_)
 try simp only [aP, lA, lB, lC]
 clear hK
 refine wpAnyH_done (by kernel_rfl) ?_ _
 clear hHeld
 go_upto_region 4 with fail
 have HST4 := qH (show MAt _ R ⟨k, n, o, vl⟩ ∧ DAt _ E d ∧ Kp [] w _ from ⟨HF3.out.1.kp0 ((Kp.refl [] _).drew 1), HF3.out.2.1.kp0 ((Kp.refl [] _).drew 1), HF3.out.2.2.drew 1⟩)
 refine wp_region_held_drew (S := fun W => MAt W R ⟨k, n, o, vl⟩ ∧ DAt W E d ∧ Kp [] w W) (by kernel_rfl) HST4.out (fun hHeld => ?_)
 refine wpAnyH_take (i := 0) (oi := ⟨some 15, .load 46 (.tmp 3), 46, "match.go:46", #[], none⟩) (v := .agg #[.int .i64 k, .string (bs n), .int .i64 o, .string (bs vl)]) rfl (by kernel_rfl) (by kernel_rfl) (by kernel_rfl) (fun _ _ _ h => h) (Or.inl ⟨by rfl, fun w hSw => by (try dsimp only at hSw); obtain ⟨c0, c1, c2, c3⟩ := hSw.1.cells; go_simp⟩) hHeld ?_
 try simp only [aP, lA, lB, lC]
 refine wpAnyH_take (i := 1) (oi := ⟨some 16, .move (.tmp 7), 83, "match.go:46", #[], none⟩) (v := .func (.func f) #[] #[]) rfl (by kernel_rfl) (by kernel_rfl) (by kernel_rfl) (fun _ _ _ h => h) (Or.inl ⟨by rfl, fun w hSw => by (try dsimp only at hSw); go_simp⟩) hHeld ?_
 try simp only [aP, lA, lB, lC]
 refine wpAnyH_take (i := 2) (oi := ⟨some 17, .move (.tmp 1), 9, "match.go:46", #[], none⟩) (v := .string act) rfl (by kernel_rfl) (by kernel_rfl) (by kernel_rfl) (fun _ _ _ h => h) (Or.inl ⟨by rfl, fun w hSw => by (try dsimp only at hSw); go_simp⟩) hHeld ?_
 try simp only [aP, lA, lB, lC]
 refine wpAnyH_take (i := 3) (oi := ⟨some 18, .load 54 (.tmp 5), 54, "match.go:46", #[], none⟩) (v := .agg #[.slice d.props.a d.props.n d.props.c, .slice d.tags.a d.tags.n d.tags.c, .slice d.links.a d.links.n d.links.c, .slice d.run.a d.run.n d.run.c, .slice d.load.a d.load.n d.load.c, .string d.name, .int .i64 d.prio, .string d.owner, .string d.group, .int .i64 d.mode, .string d.res, .int .i64 d.calls, .int .i64 d.ticks, .slice d.closed.a d.closed.n d.closed.c]) rfl (by kernel_rfl) (by kernel_rfl) (by kernel_rfl) (fun _ _ _ h => h) (Or.inl ⟨by rfl, fun w hSw => by (try dsimp only at hSw); obtain ⟨d0, d1, d2, d3, d4, d5, d6, d7, d8, d9, d10, d11, d12, d13⟩ := hSw.2.1.cells; go_simp⟩) hHeld ?_
 try simp only [aP, lA, lB, lC]
 refine wpAnyH_take (i := 4) (oi := ⟨some 19, .fieldAddr 46 (.tmp 3) 1, 0, "match.go:46", #[], none⟩) (v := .pointer (some ⟨R, 1, none⟩)) rfl (by kernel_rfl) (by kernel_rfl) (by kernel_rfl) (fun _ _ _ h => h) (Or.inl ⟨by rfl, fun w hSw => by (try dsimp only at hSw); go_simp⟩) hHeld ?_
 try simp only [aP, lA, lB, lC]
 refine wpAnyH_take (i := 5) (oi := ⟨some 20, .load 9 (.tmp 19), 9, "match.go:46", #[⟨4, .data⟩], none⟩) (v := .string (bs n)) rfl (by kernel_rfl) (by kernel_rfl) (by kernel_rfl) (fun _ _ _ h => h) (Or.inl ⟨by rfl, fun w hSw => by (try dsimp only at hSw); obtain ⟨c0, c1, c2, c3⟩ := hSw.1.cells; go_simp⟩) hHeld ?_
 try simp only [aP, lA, lB, lC]
 refine wpAnyH_ready (rs := [6]) (by kernel_rfl) (by simp) ?_
 refine AllReadyH.cons (o := ⟨some 21, .call { callee := .value (.tmp 16), args := #[.tmp 17, .tmp 18, .tmp 20], argTypes := #[9, 54, 9] }, 52, "match.go:46", #[⟨1, .data⟩, ⟨2, .data⟩, ⟨3, .data⟩, ⟨5, .data⟩], none⟩) rfl (fun K hK => ?_) AllReadyH.nil
 go_simp
 refine cM (by with_reducible exact HV.out _ hHeld.2.2) ?_
 rintro e w4 ⟨v, rfl, hv, hk⟩
 dsimp only
 have hH := (show MAt w4 R ⟨k, n, o, vl⟩ ∧ DAt w4 E d ∧ Kp [] w w4 from ⟨hHeld.1.kp0 hk, hHeld.2.1.kp0 hk, hHeld.2.2.trans hk⟩)
 have HO := qH hv
 clear hHeld
 refine hK.out _ _ hH (fun hHeld => ?_)
 try simp only [aP, lA, lB, lC]
 clear hK
 refine wpAnyH_ready (rs := [7]) (by kernel_rfl) (by simp) ?_
 refine AllReadyH.cons (o := ⟨some 22, .call { callee := .value (.func 36), args := #[.tmp 15, .tmp 21], argTypes := #[46, 52] }, 4, "match.go:46", #[⟨0, .data⟩, ⟨6, .data⟩, ⟨6, .chain⟩], none⟩) rfl (fun K hK => ?_) AllReadyH.nil
 go_simp
 go_at_call 36
 refine cM (by with_reducible exact HH.out _ _ HO.out) ?_
 rintro e w5 ⟨rfl, hk⟩
 dsimp only
 have hH := (show MAt w5 R ⟨k, n, o, vl⟩ ∧ DAt w5 E d ∧ Kp [] w w5 from ⟨hHeld.1.kp0 hk, hHeld.2.1.kp0 hk, hHeld.2.2.trans hk⟩)
 clear hHeld
 refine hK.out _ _ hH (fun hHeld => ?_)
 try simp only [aP, lA, lB, lC]
 clear hK
 refine wpAnyH_ready (rs := [8]) (by kernel_rfl) (by simp) ?_
 refine AllReadyH.cons (o := ⟨some 6, .assign (.tmp 22), 4, "match.go:46", #[⟨7, .data⟩, ⟨7, .chain⟩, ⟨0, .phase⟩, ⟨1, .phase⟩, ⟨2, .phase⟩, ⟨3, .phase⟩, ⟨4, .phase⟩, ⟨5, .phase⟩, ⟨6, .phase⟩, ⟨7, .phase⟩], none⟩) rfl (fun K hK => ?_) AllReadyH.nil
 have HF4 := qH hHeld
 go_simp
 clear hHeld
 refine hK.out _ _ HF4.out (fun hHeld => ?_)
 try simp only [aP, lA, lB, lC]
 clear hK
 refine wpAnyH_done (by kernel_rfl) ?_ _
 clear hHeld
 go_wp2
 go_ret
 exact ⟨rfl, HF4.out.2.2⟩
theorem draft_no (k : Int) (n : List UInt8) (o : Int) (vl : List UInt8) (act : ByteArray) (d : Dra) (w : World) (hd : drB ⟨k, n, o, vl⟩ = false) :
  Calls Tryz.prog 15 #[.agg #[.int .i64 k, .string (bs n), .int .i64 o, .string (bs vl)], .string act, .agg #[.slice d.props.a d.props.n d.props.c, .slice d.tags.a d.tags.n d.tags.c, .slice d.links.a d.links.n d.links.c, .slice d.run.a d.run.n d.run.c, .slice d.load.a d.load.n d.load.c, .string d.name, .int .i64 d.prio, .string d.owner, .string d.group, .int .i64 d.mode, .string d.res, .int .i64 d.calls, .int .i64 d.ticks, .slice d.closed.a d.closed.n d.closed.c]] w fun e w' => e = .returned (.bool false) ∧ Kp [] w w' := by
 obtain ⟨W0, hW⟩ : ∃ W0, (w.alloc (.cells #[.int .i64 k, .string (bs n), .int .i64 o, .string (bs vl)] 46)).alloc (.cells #[.slice d.props.a d.props.n d.props.c, .slice d.tags.a d.tags.n d.tags.c, .slice d.links.a d.links.n d.links.c, .slice d.run.a d.run.n d.run.c, .slice d.load.a d.load.n d.load.c, .string d.name, .int .i64 d.prio, .string d.owner, .string d.group, .int .i64 d.mode, .string d.res, .int .i64 d.calls, .int .i64 d.ticks, .slice d.closed.a d.closed.n d.closed.c] 54) = W0 := ⟨_, rfl⟩
 obtain ⟨R, hR'⟩ : ∃ R, w.heap.size = R := ⟨_, rfl⟩
 have hk0 : Kp [] w W0 := by rw [← hW]; exact ((Kp.refl [] w).alloc _).alloc _
 have hb0 : MAt W0 R ⟨k, n, o, vl⟩ := by rw [← hW, ← hR']; exact heap_alloc2_old w _ _
 obtain ⟨c0, c1, c2, c3⟩ := hb0.cells
 have HS := qH (fun W => looks_any ⟨k, n, o, vl⟩ W)
 rw [hd] at HS
 unfold tmC at HS
 simp only at HS
 have HK0 := qH hk0
 clear hd hk0 hb0
 go_enter Tryz.func15, Tryz.ntmps15
 go_wp2_with (go_at_call 37; refine cM (by with_reducible exact HS.out _) ?_; rintro e w1 ⟨rfl, hk1⟩; have HK1 := qH hk1; clear hk1)
 go_ret
 exact ⟨rfl, HK0.out.trans HK1.out⟩
def valsR (k : Int) (n : List UInt8) (act : ByteArray) (d : Dra) (pl : List De.Atr) (tl : List (List UInt8)) : List (List UInt8) :=
 if k = 1 then [act.data.toList] else if k = 6 then [(getO (bs n) pl).data.toList] else if k = 7 then tl else [d.res.data.toList]
def draftB (t : Tm) (act : ByteArray) (d : Dra) (pl : List De.Atr) (tl : List (List UInt8)) : Bool := drB t && hB t (valsR t.key t.name act d pl tl)
structure SmR (act : ByteArray) (d : Dra) (pl : List De.Atr) (tl : List (List UInt8)) : Prop where
 act : act.size ≤ 4611686018427387904
 res : d.res.size ≤ 4611686018427387904
 p : ∀ x ∈ pl, x.2.size ≤ 4611686018427387904
 pn : pl.length ≤ 9223372036854775807
 t : SmV tl
 tn : tl.length ≤ 4611686018427387904
structure DrIn (W : World) (d : Dra) (pl : List De.Atr) (tl : List (List UInt8)) : Prop where
 p : De.Has W (.slice d.props.a d.props.n d.props.c) pl
 t : stT.Has W (.slice d.tags.a d.tags.n d.tags.c) tl
theorem DrIn.kp0 {W W' : World} {d : Dra} {pl : List De.Atr} {tl : List (List UInt8)} (h : DrIn W d pl tl) (hk : Kp [] W W') : DrIn W' d pl tl := ⟨h.p.below hk.bel, h.t.kp0 hk⟩
theorem dkey_cases {t : Tm} (h : drB t = true) : t.key = 1 ∨ t.key = 6 ∨ t.key = 7 ∨ t.key = 13 := by
 unfold drB drK at h
 simp only [Bool.or_eq_true, Bool.and_eq_true, beq_iff_eq] at h
 omega
theorem valsR_sm {act : ByteArray} {d : Dra} {pl : List De.Atr} {tl : List (List UInt8)} (h : SmR act d pl tl) (k : Int) (n : List UInt8) : SmV (valsR k n act d pl tl) ∧ (valsR k n act d pl tl).length ≤ 4611686018427387904 := by
 unfold valsR
 split
 ·exact ⟨fun x hx => by rw [List.mem_singleton.1 hx]; exact h.act, by simp⟩
 ·split
  ·exact ⟨fun x hx => by rw [List.mem_singleton.1 hx]; exact getO_size h.p _, by simp⟩
  ·split
   ·exact ⟨h.t, h.tn⟩
   ·exact ⟨fun x hx => by rw [List.mem_singleton.1 hx]; exact h.res, by simp⟩
theorem draft_any (t : Tm) (act : ByteArray) (d : Dra) (pl : List De.Atr) (tl : List (List UInt8)) (w : World) (ht : t.val.length ≤ 4611686018427387904) (hs : SmR act d pl tl) (h : DrIn w d pl tl) :
  Calls Tryz.prog 15 #[.agg (tmC t), .string act, .agg (draC d)] w fun e w' => e = .returned (.bool (draftB t act d pl tl)) ∧ Kp [] w w' := by
 obtain ⟨k, n, o, vl⟩ := t
 cases hb : drB ⟨k, n, o, vl⟩ with
 | false =>
  have h1 : draftB ⟨k, n, o, vl⟩ act d pl tl = false := by unfold draftB; rw [hb]; rfl
  rw [h1]
  exact draft_no k n o vl act d w hb
 | true =>
  have h1 : draftB ⟨k, n, o, vl⟩ act d pl tl = hB ⟨k, n, o, vl⟩ (valsR k n act d pl tl) := by unfold draftB; rw [hb]; rfl
  rw [h1]
  have hkc := dkey_cases hb
  obtain ⟨hv1, hv2⟩ := valsR_sm hs k n
  simp only at hkc
  rcases hkc with rfl | rfl | rfl | rfl
  ·exact draft_run 1 n o vl act d w 70 _ hb ht hv2 hv1 (enters_of Tryz.func70 (by kernel_rfl) rfl) drA_1 (fun W _ => action_any act d _ W)
  ·exact draft_run 6 n o vl act d w 71 _ hb ht hv2 hv1 (enters_of Tryz.func71 (by kernel_rfl) rfl) drA_6 (fun W hk => prop_any act d _ pl W hs.pn (h.kp0 hk).p)
  ·exact draft_run 7 n o vl act d w 72 _ hb ht hv2 hv1 (enters_of Tryz.func72 (by kernel_rfl) rfl) drA_7 (fun W hk => tags_any act d _ tl W (h.kp0 hk).t)
  ·exact draft_run 13 n o vl act d w 73 _ hb ht hv2 hv1 (enters_of Tryz.func73 (by kernel_rfl) rfl) drA_13 (fun W _ => result_any act d _ W)
end Go.Proofs.YtljkljnfbcmjdaaGreatDoor
