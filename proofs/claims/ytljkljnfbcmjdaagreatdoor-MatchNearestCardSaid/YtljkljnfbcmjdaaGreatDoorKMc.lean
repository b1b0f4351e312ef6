/- Whether a match holds for values: both. -/
import Derived.Test.YtljkljnfbcmjdaaGreatDoorKMa
import Derived.Test.YtljkljnfbcmjdaaGreatDoorKGlRJ
import Derived.Deep.RegionHeld3
namespace Go.Proofs.YtljkljnfbcmjdaaGreatDoor
open Go.RowKit
theorem st_cell {w : World} {b o : Nat} {l : List (List UInt8)} (h : stT.Row w b o l) {i : Nat} {x : List UInt8} (hx : l[i]? = some x) : w.cell? ⟨b, o + i, none⟩ = some (.string (bs x)) := by
 have := h i x hx 0 _ rfl
 simpa [stT] using this
theorem st_row_kp {w w' : World} {b o : Nat} {l : List (List UInt8)} (h : stT.Row w b o l) (hb : b < w.heap.size) (hk : Kp [] w w') : stT.Row w' b o l := h.keep (hk.block b hb (by simp))
theorem MAt.kp0 {w w' : World} {b : Nat} {t : Tm} (h : MAt w b t) (hk : Kp [] w w') : MAt w' b t := h.kp hk (by simp)
def hitB (t : Tm) (x : List UInt8) : Bool := Gl.patB t.val x
def hB (t : Tm) (l : List (List UInt8)) : Bool := l.any (hitB t) == (t.op == 1)
def SmV (l : List (List UInt8)) : Prop := ∀ x ∈ l, x.length ≤ 4611686018427387904
theorem glob_any (p s : List UInt8) (w : World) (hp : p.length ≤ 4611686018427387904) (hs : s.length ≤ 4611686018427387904) : Calls Tryz.prog 69 #[.string (bs p), .string (bs s)] w fun e w' => e = .returned (.bool (Gl.patB p s)) ∧ Kp [] w w' := by
 have h := Gl.match_any (bs p) (bs s) w (by rw [bs_size]; exact hp) (by rw [bs_size]; exact hs)
 rw [bs_data, bs_data] at h
 exact h.mono fun _ _ ⟨h1, h2⟩ => ⟨h1, Kp.of_bel h2⟩
/-- The function that a match hands to ContainsFunc. -/
theorem holds1_any (t : Tm) (x : List UInt8) (B : Nat) (w : World) (ht : t.val.length ≤ 4611686018427387904) (hx : x.length ≤ 4611686018427387904) (h : MAt w B t) : Calls Tryz.prog 68 #[.string (bs x), .pointer (some ⟨B, 0, none⟩)] w fun e w' => e = .returned (.bool (hitB t x)) ∧ Kp [] w w' := by
 obtain ⟨t0, t1, t2, t3⟩ := h.cells
 have HG := Lib.hid (glob_any t.val x w ht hx)
 unfold hitB
 clear h
 go_enter Tryz.func68, Tryz.ntmps68
 go_wp2_with (go_at_call 69; refine Calls.mono (by with_reducible exact HG.out) ?_; rintro e w2 ⟨rfl, hk⟩)
 go_ret
 exact ⟨rfl, hk⟩
theorem any_no {L : List (List UInt8)} {f : List UInt8 → Bool} (h : ∀ (j : Nat) (a : List UInt8), j < L.length → L[j]? = some a → f a = false) : L.any f = false := by
 rw [List.any_eq_false]
 intro x hx
 obtain ⟨j, hj, hje⟩ := List.getElem_of_mem hx
 simp [h j x hj (by rw [List.getElem?_eq_getElem hj, hje])]
def IdxP (b : Bool) (w : World) (e : Ending) (w' : World) : Prop := ∃ r : Int, e = .returned (.int .i64 r) ∧ decide (r ≥ 0) = b ∧ Kp [] w w'
set_option maxHeartbeats 1000000 in
set_option maxRecDepth 100000 in
theorem indexS_any (t : Tm) (l : List (List UInt8)) (v : Value) (B : Nat) (w : World) (ht : t.val.length ≤ 4611686018427387904) (hl : l.length ≤ 4611686018427387904) (hv : stT.Has w v l) (hs : SmV l) (hb : MAt w B t) :
  Calls Tryz.prog 86 #[v, .func (.func 68) #[] #[.pointer (some ⟨B, 0, none⟩)]] w (IdxP (l.any (hitB t)) w) := by
 obtain ⟨N, hN⟩ : ∃ N, l.length = N := ⟨_, rfl⟩
 rcases hv with ⟨a, c, rfl, rfl⟩ | ⟨G, o, c, rfl, hG, hrow⟩
 ·go_enter Tryz.func86, Tryz.ntmps86
  go_wp2
  go_loopw [8] (fun s8 wx => s8 = .int .i64 0 ∧ w = wx) (fun _ _ => 0)
  case atStart => exact ⟨rfl, rfl⟩
  case round =>
   obtain ⟨rfl, rfl⟩ := hrel
   have hz : ¬ ((0 : Int) < ((0 : Nat) : Int)) := by omega
   go_wp2
   go_ret
   exact ⟨-1, rfl, rfl, Kp.refl _ _⟩
 ·have Hrow := Lib.hid hrow
  have HGs := Lib.hid hG
  have Hs := Lib.hid hs
  have HN := Lib.hid hN
  have Hb := Lib.hid hb
  rw [hN] at hl ⊢
  clear hrow hG hs hN hb
  have hNi : (N : Int) ≤ 4611686018427387904 := by omega
  go_enter Tryz.func86, Tryz.ntmps86
  go_wp2
  go_loopw [8] (fun s8 wx => ∃ i : Nat, i ≤ N ∧ s8 = .int .i64 i ∧ (∀ (j : Nat) (a : List UInt8), j < i → l[j]? = some a → hitB t a = false) ∧ Kp [] w wx) (fun s8 _ => N - (intOf s8).toNat)
  case atStart => exact ⟨0, by omega, rfl, fun j a hj _ => absurd hj (by omega), Kp.refl _ _⟩
  case round =>
   obtain ⟨i, hi, rfl, hall, hdr⟩ := hrel
   have Hall := Lib.hid hall
   have Hdr := Lib.hid hdr
   clear hall hdr
   by_cases hlt : (i : Int) < (N : Int)
   ·obtain ⟨a, ha⟩ : ∃ a, l[i]? = some a := ⟨l[i]'(by rw [HN.out]; omega), List.getElem?_eq_getElem _⟩
    have hcell := st_cell (st_row_kp Hrow.out HGs.out Hdr.out) ha
    have Hm := Lib.hid (holds1_any t a B wr ht (Hs.out a (List.mem_of_getElem? ha)) (Hb.out.kp0 Hdr.out))
    have Hmem := Lib.hid (List.mem_of_getElem? ha)
    cases hmb : hitB t a with
    | true =>
     rw [hmb] at Hm
     have Hany := Lib.hid (show (l.any (hitB t)) = true from List.any_eq_true.2 ⟨a, Hmem.out, hmb⟩)
     clear hmb ha
     go_wp2_with (go_at_call 68; refine Hm.out.mono ?_; rintro e w' ⟨rfl, hd⟩)
     go_ret
     exact ⟨(i : Int), rfl, by rw [Hany.out]; exact decide_eq_true (Int.natCast_nonneg _), Hdr.out.trans hd⟩
    | false =>
     rw [hmb] at Hm
     have Hall2 := Lib.hid (show ∀ (j : Nat) (b : List UInt8), j < i + 1 → l[j]? = some b → hitB t b = false from fun j b hj hbj => by
      rcases Nat.lt_or_ge j i with h1 | h1
      ·exact Hall.out j b h1 hbj
      ·obtain rfl : j = i := by omega
       rw [ha] at hbj
       cases hbj
       exact hmb)
     clear hmb ha
     go_wp2_with (go_at_call 68; refine Hm.out.mono ?_; rintro e w' ⟨rfl, hd⟩)
     exact ⟨⟨i + 1, by omega, rfl, Hall2.out, Hdr.out.trans hd⟩, by simp [intOf]; omega⟩
   ·obtain rfl : i = N := by omega
    have Hany := Lib.hid (any_no (f := hitB t) fun j a hj hja => Hall.out j a (by rw [← HN.out]; exact hj) hja)
    go_wp2
    go_ret
    exact ⟨-1, rfl, by rw [Hany.out]; rfl, Hdr.out⟩
theorem containsS_any (t : Tm) (l : List (List UInt8)) (v : Value) (B : Nat) (w : World) (ht : t.val.length ≤ 4611686018427387904) (hl : l.length ≤ 4611686018427387904) (hv : stT.Has w v l) (hs : SmV l) (hb : MAt w B t) :
  Calls Tryz.prog 67 #[v, .func (.func 68) #[] #[.pointer (some ⟨B, 0, none⟩)]] w fun e w' => e = .returned (.bool (l.any (hitB t))) ∧ Kp [] w w' := by
 have hi := Lib.hid (indexS_any t l v B w ht hl hv hs hb)
 obtain ⟨a, c, rfl, -⟩ := hv.form
 clear hv hb
 go_enter Tryz.func67, Tryz.ntmps67
 go_wp2_with (go_at_call 86; refine hi.out.mono ?_; rintro e w' ⟨r, rfl, hr, hd⟩)
 go_ret
 exact ⟨by rw [← hr]; rfl, hd⟩
set_option maxRecDepth 100000 in
set_option maxHeartbeats 2000000 in
theorem holds_any (t : Tm) (l : List (List UInt8)) (v : Value) (w : World) (ht : t.val.length ≤ 4611686018427387904) (hl : l.length ≤ 4611686018427387904) (hv : stT.Has w v l) (hs : SmV l) :
  Calls Tryz.prog 36 #[.agg (tmC t), v] w fun e w' => e = .returned (.bool (hB t l)) ∧ Kp [] w w' := by
 obtain ⟨W0, hW⟩ : ∃ W0, w.alloc (.cells (tmC t) 46) = W0 := ⟨_, rfl⟩
 obtain ⟨R, hR⟩ : ∃ R, w.heap.size = R := ⟨_, rfl⟩
 have hk := (show Kp [] w W0 by rw [← hW]; exact (Kp.refl [] w).alloc _)
 have HK := Lib.hid hk
 have HR := Lib.hid (show MAt W0 R t by rw [← hW, ← hR]; exact MAt.new w t)
 obtain ⟨t0, t1, t2, t3⟩ := HR.out.cells
 have HC := Lib.hid (containsS_any t l v R W0 ht hl (hv.kp0 hk) hs HR.out)
 obtain ⟨a, c, rfl, -⟩ := hv.form
 unfold hB
 generalize l.any (hitB t) = b at *
 clear hv hk
 obtain ⟨k, n, o, vl⟩ := t
 unfold tmC at hW ⊢
 simp only at *
 go_enter Tryz.func36, Tryz.ntmps36
 go_wp2_with (go_at_call 67; refine HC.out.mono ?_; rintro e w2 ⟨rfl, hk2⟩; obtain ⟨t0, t1, t2, t3⟩ := (HR.out.kp0 hk2).cells)
 go_ret
 exact ⟨rfl, HK.out.trans hk2⟩
/-- The reference: whether a match holds for a value. -/
def hR (t : Tm) (x : List UInt8) : Bool := hitB t x == (t.op == 1)
theorem hB_one (t : Tm) (x : List UInt8) : hB t [x] = hR t x := by simp [hB, hR]
end Go.Proofs.YtljkljnfbcmjdaaGreatDoor
