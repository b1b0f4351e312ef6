/- Whether a match holds for values: both. -/
import Derived.Test.YtljkljnfbcmjdaaGreatDoorKMa
import Derived.Test.YtljkljnfbcmjdaaGreatDoorKGlRJ
import Derived.Deep.RegionHeld3
open Go.Lib renaming hid → qH
open Go.Act renaming put → aP
open List renaming setIfInBounds_toArray → lA, set_cons_zero → lB, set_cons_succ → lC
set_option maxRecDepth 100000
set_option maxHeartbeats 16000000
namespace Go.Proofs.YtljkljnfbcmjdaaGreatDoor
open Go.RowKit
theorem st_cell {w : World} {b o : Nat} {l : List (List UInt8)} (h : stT.Row w b o l) {i : Nat} {x : List UInt8} (hx : l[i]? = some x) : w.cell? ⟨b, o + i, none⟩ = some (.string (bs x)) := by
 have := h i x hx 0 _ rfl
 simpa [stT] using this
theorem st_row_kp {w w' : World} {b o : Nat} {l : List (List UInt8)} (h : stT.Row w b o l) (hb : b < w.heap.size) (hk : Kp [] w w') : stT.Row w' b o l := h.keep (hk.block b hb (by simp))
theorem MAt.kp0 {w w' : World} {b : Nat} {t : Tm} (h : MAt w b t) (hk : Kp [] w w') : MAt w' b t := h.kp hk (by simp)
def hitB (t : Tm) (x : List UInt8) : Bool := Gl.patB t.val x
def hB (t : Tm) (l : List (List UInt8)) : Bool := l.any (hitB t) == (t.op == 1)
def SmV (l : List (List UInt8)) : Prop := ∀ x ∈ l, x.length ≤ 4611686018427387904
theorem glob_any (p s : List UInt8) (w : World) (hp : p.length ≤ 4611686018427387904) (hs : s.length ≤ 4611686018427387904) : Calls Tryz.prog 69 #[.string (bs p), .string (bs s)] w fun e w' => e = .returned (.bool (Gl.patB p s)) ∧ Kp [] w w' := by
 have h := Gl.match_any (bs p) (bs s) w (by rw [bs_size]; exact hp) (by rw [bs_size]; exact hs)
 rw [bs_data, bs_data] at h
 exact h.mono fun _ _ ⟨h1, h2⟩ => ⟨h1, Kp.of_bel h2⟩
theorem refGlob_any (p s : List UInt8) (w : World) (hp : p.length ≤ 4611686018427387904) (hs : s.length ≤ 4611686018427387904) : Calls Tryz.prog 83 #[.string (bs p), .string (bs s)] w fun e w' => e = .returned (.bool (Gl.patB p s)) ∧ Kp [] w w' := by
 have h := Gl.refMatch_any (bs p) (bs s) w (by rw [bs_size]; exact hp) (by rw [bs_size]; exact hs)
 rw [bs_data, bs_data] at h
 exact h.mono fun _ _ ⟨h1, h2⟩ => ⟨h1, Kp.of_bel h2⟩
theorem holds1_any (t : Tm) (x : List UInt8) (B : Nat) (w : World) (ht : t.val.length ≤ 4611686018427387904) (hx : x.length ≤ 4611686018427387904) (h : MAt w B t) : Calls Tryz.prog 68 #[.string (bs x), .pointer (some ⟨B, 0, none⟩)] w fun e w' => e = .returned (.bool (hitB t x)) ∧ Kp [] w w' := by
 obtain ⟨t0, t1, t2, t3⟩ := h.cells
 have HG := qH (glob_any t.val x w ht hx)
 unfold hitB
 clear h
 go_enter Tryz.func68, Tryz.ntmps68
 go_wp2_with (go_at_call 69; refine Calls.mono (by with_reducible exact HG.out) ?_; rintro e w2 ⟨rfl, hk⟩)
 go_ret
 exact ⟨rfl, hk⟩
theorem any_no {L : List (List UInt8)} {f : List UInt8 → Bool} (h : ∀ (j : Nat) (a : List UInt8), j < L.length → L[j]? = some a → f a = false) : L.any f = false := by
 rw [List.any_eq_false]
 intro x hx
 obtain ⟨j, hj, hje⟩ := List.getElem_of_mem hx
 simp [h j x hj (by rw [List.getElem?_eq_getElem hj, hje])]
def IdxP (b : Bool) (w : World) (e : Ending) (w' : World) : Prop := ∃ r : Int, e = .returned (.int .i64 r) ∧ decide (r ≥ 0) = b ∧ Kp [] w w'
theorem indexS_any (t : Tm) (l : List (List UInt8)) (v : Value) (B : Nat) (w : World) (ht : t.val.length ≤ 4611686018427387904) (hl : l.length ≤ 4611686018427387904) (hv : stT.Has w v l) (hs : SmV l) (hb : MAt w B t) :
  Calls Tryz.prog 86 #[v, .func (.func 68) #[] #[.pointer (some ⟨B, 0, none⟩)]] w (IdxP (l.any (hitB t)) w) := by
 obtain ⟨N, hN⟩ : ∃ N, l.length = N := ⟨_, rfl⟩
 rcases hv with ⟨a, c, rfl, rfl⟩ | ⟨G, o, c, rfl, hG, hrow⟩
 ·go_enter Tryz.func86, Tryz.ntmps86
  go_wp2
  go_loopw [8] (fun s8 wx => s8 = .int .i64 0 ∧ w = wx) (fun _ _ => 0)
  case atStart => exact ⟨rfl, rfl⟩
  case round =>
   obtain ⟨rfl, rfl⟩ := hrel
   have hz : ¬ ((0 : Int) < ((0 : Nat) : Int)) := by omega
   go_wp2
   go_ret
   exact ⟨-1, rfl, rfl, Kp.refl _ _⟩
 ·have Hrow := qH hrow
  have HGs := qH hG
  have Hs := qH hs
  have HN := qH hN
  have Hb := qH hb
  rw [hN] at hl ⊢
  clear hrow hG hs hN hb
  have hNi : (N : Int) ≤ 4611686018427387904 := by omega
  go_enter Tryz.func86, Tryz.ntmps86
  go_wp2
  go_loopw [8] (fun s8 wx => ∃ i : Nat, i ≤ N ∧ s8 = .int .i64 i ∧ (∀ (j : Nat) (a : List UInt8), j < i → l[j]? = some a → hitB t a = false) ∧ Kp [] w wx) (fun s8 _ => N - (intOf s8).toNat)
  case atStart => exact ⟨0, by omega, rfl, fun j a hj _ => absurd hj (by omega), Kp.refl _ _⟩
  case round =>
   obtain ⟨i, hi, rfl, hall, hdr⟩ := hrel
   have Hall := qH hall
   have Hdr := qH hdr
   clear hall hdr
   by_cases hlt : (i : Int) < (N : Int)
   ·obtain ⟨a, ha⟩ : ∃ a, l[i]? = some a := ⟨l[i]'(by rw [HN.out]; omega), List.getElem?_eq_getElem _⟩
    have hcell := st_cell (st_row_kp Hrow.out HGs.out Hdr.out) ha
    have Hm := qH (holds1_any t a B wr ht (Hs.out a (List.mem_of_getElem? ha)) (Hb.out.kp0 Hdr.out))
    have Hmem := qH (List.mem_of_getElem? ha)
    cases hmb : hitB t a with
    | true =>
     rw [hmb] at Hm
     have Hany := qH (show (l.any (hitB t)) = true from List.any_eq_true.2 ⟨a, Hmem.out, hmb⟩)
     clear hmb ha
     go_wp2_with (go_at_call 68; refine Hm.out.mono ?_; rintro e w' ⟨rfl, hd⟩)
     go_ret
     exact ⟨(i : Int), rfl, by rw [Hany.out]; exact decide_eq_true (Int.natCast_nonneg _), Hdr.out.trans hd⟩
    | false =>
     rw [hmb] at Hm
     have Hall2 := qH (show ∀ (j : Nat) (b : List UInt8), j < i + 1 → l[j]? = some b → hitB t b = false from fun j b hj hbj => by
      rcases Nat.lt_or_ge j i with h1 | h1
      ·exact Hall.out j b h1 hbj
      ·obtain rfl : j = i := by omega
       rw [ha] at hbj
       cases hbj
       exact hmb)
     clear hmb ha
     go_wp2_with (go_at_call 68; refine Hm.out.mono ?_; rintro e w' ⟨rfl, hd⟩)
     exact ⟨⟨i + 1, by omega, rfl, Hall2.out, Hdr.out.trans hd⟩, by simp [intOf]; omega⟩
   ·obtain rfl : i = N := by omega
    have Hany := qH (any_no (f := hitB t) fun j a hj hja => Hall.out j a (by rw [← HN.out]; exact hj) hja)
    go_wp2
    go_ret
    exact ⟨-1, rfl, by rw [Hany.out]; rfl, Hdr.out⟩
theorem containsS_any (t : Tm) (l : List (List UInt8)) (v : Value) (B : Nat) (w : World) (ht : t.val.length ≤ 4611686018427387904) (hl : l.length ≤ 4611686018427387904) (hv : stT.Has w v l) (hs : SmV l) (hb : MAt w B t) :
  Calls Tryz.prog 67 #[v, .func (.func 68) #[] #[.pointer (some ⟨B, 0, none⟩)]] w fun e w' => e = .returned (.bool (l.any (hitB t))) ∧ Kp [] w w' := by
 have hi := qH (indexS_any t l v B w ht hl hv hs hb)
 obtain ⟨a, c, rfl, -⟩ := hv.form
 clear hv hb
 go_enter Tryz.func67, Tryz.ntmps67
 go_wp2_with (go_at_call 86; refine hi.out.mono ?_; rintro e w' ⟨r, rfl, hr, hd⟩)
 go_ret
 exact ⟨by rw [← hr]; rfl, hd⟩
theorem holds_any (t : Tm) (l : List (List UInt8)) (v : Value) (w : World) (ht : t.val.length ≤ 4611686018427387904) (hl : l.length ≤ 4611686018427387904) (hv : stT.Has w v l) (hs : SmV l) :
  Calls Tryz.prog 36 #[.agg (tmC t), v] w fun e w' => e = .returned (.bool (hB t l)) ∧ Kp [] w w' := by
 obtain ⟨W0, hW⟩ : ∃ W0, w.alloc (.cells (tmC t) 46) = W0 := ⟨_, rfl⟩
 obtain ⟨R, hR⟩ : ∃ R, w.heap.size = R := ⟨_, rfl⟩
 have hk := (show Kp [] w W0 by rw [← hW]; exact (Kp.refl [] w).alloc _)
 have HK := qH hk
 have HR := qH (show MAt W0 R t by rw [← hW, ← hR]; exact MAt.new w t)
 obtain ⟨t0, t1, t2, t3⟩ := HR.out.cells
 have HC := qH (containsS_any t l v R W0 ht hl (hv.kp0 hk) hs HR.out)
 obtain ⟨a, c, rfl, -⟩ := hv.form
 unfold hB
 generalize l.any (hitB t) = b at *
 clear hv hk
 obtain ⟨k, n, o, vl⟩ := t
 unfold tmC at hW ⊢
 simp only at *
 go_enter Tryz.func36, Tryz.ntmps36
 go_wp2_with (go_at_call 67; refine HC.out.mono ?_; rintro e w2 ⟨rfl, hk2⟩; obtain ⟨t0, t1, t2, t3⟩ := (HR.out.kp0 hk2).cells)
 go_ret
 exact ⟨rfl, HK.out.trans hk2⟩
def hR (t : Tm) (x : List UInt8) : Bool := hitB t x == (t.op == 1)
theorem hB_one (t : Tm) (x : List UInt8) : hB t [x] = hR t x := by simp [hB, hR]
theorem refHolds_any (t : Tm) (x : List UInt8) (w : World) (ht : t.val.length ≤ 4611686018427387904) (hx : x.length ≤ 4611686018427387904) : Calls Tryz.prog 55 #[.agg (tmC t), .string (bs x)] w fun e w' => e = .returned (.bool (hR t x)) ∧ Kp [] w w' := by
 obtain ⟨W0, hW⟩ : ∃ W0, w.alloc (.cells (tmC t) 46) = W0 := ⟨_, rfl⟩
 obtain ⟨R, hR'⟩ : ∃ R, w.heap.size = R := ⟨_, rfl⟩
 have HK := qH (show Kp [] w W0 by rw [← hW]; exact (Kp.refl [] w).alloc _)
 have HST := qH (show MAt W0.drew R t ∧ Kp [] W0 W0.drew from ⟨(show MAt W0 R t by rw [← hW, ← hR']; exact MAt.new w t).kp0 ((Kp.refl [] W0).drew 1), (Kp.refl [] W0).drew 1⟩)
 have HM := qH fun W => refGlob_any t.val x W ht hx
 unfold hR
 unfold hitB
 generalize Gl.patB t.val x = b at *
 unfold tmC at hW ⊢
 go_enter Tryz.func55, Tryz.ntmps55
 go_upto_region 1 with fail
 refine wp_region_held_drew (S := fun W => MAt W R t ∧ Kp [] W0 W) (by kernel_rfl) HST.out (fun hHeld => ?_)
 refine wpAnyH_take (i := 0) (oi := ⟨some 5, .fieldAddr 46 (.tmp 2) 3, 0, "ref.go:24", #[], none⟩) (v := .pointer (some ⟨R, 3, none⟩)) rfl (by kernel_rfl) (by kernel_rfl) (by kernel_rfl) (fun _ _ _ h => h) (Or.inl ⟨by rfl, fun w hSw => by (try dsimp only at hSw); go_simp⟩) hHeld ?_
 try simp only [aP, lA, lB, lC]
 refine wpAnyH_take (i := 1) (oi := ⟨some 6, .load 9 (.tmp 5), 9, "ref.go:24", #[⟨0, .data⟩], none⟩) (v := .string (bs t.val)) rfl (by kernel_rfl) (by kernel_rfl) (by kernel_rfl) (fun _ _ _ h => h) (Or.inl ⟨by rfl, fun w hSw => by (try dsimp only at hSw); obtain ⟨c0, c1, c2, c3⟩ := hSw.1.cells; go_simp⟩) hHeld ?_
 try simp only [aP, lA, lB, lC]
 refine wpAnyH_take (i := 2) (oi := ⟨some 7, .move (.tmp 1), 9, "ref.go:24", #[], none⟩) (v := .string (bs x)) rfl (by kernel_rfl) (by kernel_rfl) (by kernel_rfl) (fun _ _ _ h => h) (Or.inl ⟨by rfl, fun w hSw => by (try dsimp only at hSw); go_simp⟩) hHeld ?_
 try simp only [aP, lA, lB, lC]
 refine wpAnyH_take (i := 4) (oi := ⟨some 9, .fieldAddr 46 (.tmp 2) 2, 0, "ref.go:24", #[], none⟩) (v := .pointer (some ⟨R, 2, none⟩)) rfl (by kernel_rfl) (by kernel_rfl) (by kernel_rfl) (fun _ _ _ h => h) (Or.inl ⟨by rfl, fun w hSw => by (try dsimp only at hSw); go_simp⟩) hHeld ?_
 try simp only [aP, lA, lB, lC]
 refine wpAnyH_take (i := 5) (oi := ⟨some 10, .load 3 (.tmp 9), 3, "ref.go:24", #[⟨4, .data⟩], none⟩) (v := .int .i64 t.op) rfl (by kernel_rfl) (by kernel_rfl) (by kernel_rfl) (fun _ _ _ h => h) (Or.inl ⟨by rfl, fun w hSw => by (try dsimp only at hSw); obtain ⟨c0, c1, c2, c3⟩ := hSw.1.cells; go_simp⟩) hHeld ?_
 try simp only [aP, lA, lB, lC]
 refine wpAnyH_take (i := 6) (oi := ⟨some 11, .binOp .eql 3 (.tmp 10) (.const (.int .i64 1)) 3, 4, "ref.go:24", #[⟨5, .data⟩], none⟩) (v := .bool (t.op == 1)) rfl (by kernel_rfl) (by kernel_rfl) (by kernel_rfl) (fun _ _ _ h => h) (Or.inl ⟨by rfl, fun w hSw => by (try dsimp only at hSw); go_simp⟩) hHeld ?_
 try simp only [aP, lA, lB, lC]
 refine wpAnyH_ready (rs := [3]) (by kernel_rfl) (by simp) ?_
 refine AllReadyH.cons (o := ⟨some 8, .call { callee := .value (.func 83), args := #[.tmp 6, .tmp 7], argTypes := #[9, 9] }, 4, "ref.go:24", #[⟨1, .data⟩, ⟨2, .data⟩], none⟩) rfl (fun K hK => ?_) AllReadyH.nil
 go_simp
 go_at_call 83
 refine Calls.mono (by with_reducible exact HM.out _) ?_
 rintro e w3 ⟨rfl, hk⟩
 dsimp only
 have hH := (show MAt w3 R t ∧ Kp [] W0 w3 from ⟨hHeld.1.kp0 hk, hHeld.2.trans hk⟩)
 clear hHeld
 refine hK.out _ _ hH (fun hHeld => ?_)
 try simp only [aP, lA, lB, lC]
 clear hK
 refine wpAnyH_take (i := 7) (oi := ⟨some 12, .binOp .eql 4 (.tmp 8) (.tmp 11) 4, 4, "ref.go:24", #[⟨3, .data⟩, ⟨6, .data⟩], none⟩) (v := .bool (b == (t.op == 1))) rfl (by kernel_rfl) (by kernel_rfl) (by kernel_rfl) (fun _ _ _ h => h) (Or.inl ⟨by rfl, fun w hSw => by (try dsimp only at hSw); go_simp⟩) hHeld ?_
 try simp only [aP, lA, lB, lC]
 refine wpAnyH_ready (rs := [8]) (by kernel_rfl) (by simp) ?_
 refine AllReadyH.cons (o := ⟨some 4, .assign (.tmp 12), 4, "ref.go:24", #[⟨7, .data⟩, ⟨3, .chain⟩, ⟨0, .phase⟩, ⟨1, .phase⟩, ⟨2, .phase⟩, ⟨3, .phase⟩, ⟨4, .phase⟩, ⟨5, .phase⟩, ⟨6, .phase⟩, ⟨7, .phase⟩], none⟩) rfl (fun K hK => ?_) AllReadyH.nil
 have HF := qH hHeld
 go_simp
 clear hHeld
 refine hK.out _ _ HF.out (fun hHeld => ?_)
 try simp only [aP, lA, lB, lC]
 clear hK
 refine wpAnyH_done (by kernel_rfl) ?_ _
 clear hHeld
 go_wp2
 go_ret
 exact ⟨rfl, HK.out.trans HF.out.2⟩
end Go.Proofs.YtljkljnfbcmjdaaGreatDoor
