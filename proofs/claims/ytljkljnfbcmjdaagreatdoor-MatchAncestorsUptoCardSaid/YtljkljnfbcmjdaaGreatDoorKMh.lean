/- Where upward terms hold. -/
import Derived.Test.YtljkljnfbcmjdaaGreatDoorKMg
import Derived.Test.YtljkljnfbcmjdaaGreatDoorKDeI
open Go.Lib renaming hid → qH
open Go.Calls renaming mono → cM
set_option maxRecDepth 100000
set_option maxHeartbeats 16000000
namespace Go.Proofs.YtljkljnfbcmjdaaGreatDoor
open Go.RowKit
def valA (k : Int) (n : List UInt8) (a : De.ADev) : List UInt8 :=
 if k = 2 ∨ k = 8 then a.orig.data.toList else if k = 3 ∨ k = 9 then a.sub.data.toList else if k = 4 ∨ k = 10 then a.drv.data.toList else (getO (bs n) a.ats).data.toList
def devA (t : Tm) (a : De.ADev) : Bool := (statB t || upB t) && hR t (valA t.key t.name a)
theorem devA_eq (t : Tm) (a : De.ADev) (v : Value) : devB t (De.devOf a v) a.ats = devA t a := rfl
def missA (a : De.ADev) (t : Tm) : Bool := upB t && !devA t a
def holdA (lt : List Tm) (a : De.ADev) : Bool := !(lt.any (missA a))
structure SmA (x : De.ADev) : Prop where
 o : x.orig.size ≤ 4611686018427387904
 s : x.sub.size ≤ 4611686018427387904
 d : x.drv.size ≤ 4611686018427387904
 v : ∀ y ∈ x.ats, y.2.size ≤ 4611686018427387904
 n : x.ats.length ≤ 1000000
def SmL (lt : List Tm) : Prop := ∀ t ∈ lt, t.val.length ≤ 4611686018427387904
theorem SmA.d' {a : De.ADev} (h : SmA a) (v : Value) : SmD (De.devOf a v) a.ats := ⟨h.o, h.s, h.d, h.v⟩
def DBox (W : World) (E : Nat) (a : De.ADev) (b : Option Addr) (n c : Nat) : Prop := De.BoxAt W E (De.dvC a (.slice b n c)).toArray ∧ De.Has W (.slice b n c) a.ats
theorem DBox.kp0 {W W' : World} {E : Nat} {a : De.ADev} {b : Option Addr} {n c : Nat} (h : DBox W E a b n c) (hk : Kp [] W W') : DBox W' E a b n c := ⟨(hk.block E (block_lt h.1) (by simp)).trans h.1, h.2.below hk.bel⟩
theorem DBox.cells {W : World} {E : Nat} {a : De.ADev} {b : Option Addr} {n c : Nat} (h : DBox W E a b n c) : W.cell? ⟨E, 0, none⟩ = some (.int .i64 a.idx) ∧ W.cell? ⟨E, 1, none⟩ = some (.int .i64 a.par) ∧ W.cell? ⟨E, 2, none⟩ = some (.string a.name) ∧ W.cell? ⟨E, 3, none⟩ = some (.string a.orig) ∧ W.cell? ⟨E, 4, none⟩ = some (.string a.sub) ∧ W.cell? ⟨E, 5, none⟩ = some (.string a.drv) ∧ W.cell? ⟨E, 6, none⟩ = some (.string a.ali) ∧ W.cell? ⟨E, 7, none⟩ = some (.int .i64 a.kind) ∧ W.cell? ⟨E, 8, none⟩ = some (.int .i64 a.num) ∧ W.cell? ⟨E, 9, none⟩ = some (.slice b n c) :=
 ⟨h.1.cell 0, h.1.cell 1, h.1.cell 2, h.1.cell 3, h.1.cell 4, h.1.cell 5, h.1.cell 6, h.1.cell 7, h.1.cell 8, h.1.cell 9⟩
theorem miss_any (t : Tm) (a : De.ADev) (b : Option Addr) (n c E : Nat) (w : World) (ht : t.val.length ≤ 4611686018427387904) (ha : SmA a) (h : DBox w E a b n c) :
  Calls Tryz.prog 51 #[.agg (tmC t), .pointer (some ⟨E, 0, none⟩)] w fun e w' => e = .returned (.bool (missA a t)) ∧ Kp [] w w' := by
 obtain ⟨W0, hW⟩ : ∃ W0, w.alloc (.cells (tmC t) 46) = W0 := ⟨_, rfl⟩
 obtain ⟨R, hR'⟩ : ∃ R, w.heap.size = R := ⟨_, rfl⟩
 have hk0 : Kp [] w W0 := by rw [← hW]; exact (Kp.refl [] w).alloc _
 have hb0 : MAt W0 R t := by rw [← hW, ← hR']; exact heap_alloc_last w _
 have HK0 := qH hk0
 have HC := qH (fun W (hk : Kp [] W0 W) => (⟨(hb0.kp0 hk).cells, (h.kp0 (hk0.trans hk)).cells⟩ : _ ∧ _))
 have HU := qH (fun W => upward_any t W)
 have HD := qH (fun W (hk : Kp [] W0 W) => (show Calls Tryz.prog 14 #[.agg (tmC t), .agg #[.int .i64 a.idx, .int .i64 a.par, .string a.name, .string a.orig, .string a.sub, .string a.drv, .string a.ali, .int .i64 a.kind, .int .i64 a.num, .slice b n c]] W fun e w' => e = .returned (.bool (devA t a)) ∧ Kp [] W w' from
  device_any t (De.devOf a (.slice b n c)) a.ats W ht (ha.d' _) (by have := ha.n; omega) (h.kp0 (hk0.trans hk)).2))
 unfold missA
 generalize upB t = u at *
 generalize devA t a = dv at *
 obtain ⟨k, nm, o, vl⟩ := t
 unfold tmC at HU HD hW ⊢
 simp only at *
 obtain ⟨⟨c0, c1, c2, c3⟩, -⟩ := HC.out _ (Kp.refl [] W0)
 clear hk0 hb0 h
 cases u
 ·go_enter Tryz.func51, Tryz.ntmps51
  go_wp2_with (first
   | (go_at_call 13; refine cM (by with_reducible exact HU.out _) ?_; rintro e w1 ⟨rfl, hk1⟩; have HK1 := qH hk1; obtain ⟨⟨c0, c1, c2, c3⟩, d0, d1, d2, d3, d4, d5, d6, d7, d8, d9⟩ := HC.out _ hk1; clear hk1))
  go_ret
  exact ⟨rfl, HK0.out.trans HK1.out⟩
 ·go_enter Tryz.func51, Tryz.ntmps51
  go_wp2_with (first
   | (go_at_call 13; refine cM (by with_reducible exact HU.out _) ?_; rintro e w1 ⟨rfl, hk1⟩; have HK1 := qH hk1; obtain ⟨⟨c0, c1, c2, c3⟩, d0, d1, d2, d3, d4, d5, d6, d7, d8, d9⟩ := HC.out _ hk1; clear hk1)
   | (go_at_call 14; refine cM (by with_reducible exact HD.out _ HK1.out) ?_; rintro e w2 ⟨rfl, hk2⟩; have HK2 := qH (HK1.out.trans hk2); clear hk2))
  go_ret
  exact ⟨rfl, HK0.out.trans HK2.out⟩
theorem tm_row_kp {w w' : World} {b o : Nat} {l : List Tm} (h : tmT.Row w b o l) (hb : b < w.heap.size) (hk : Kp [] w w') : tmT.Row w' b o l := h.keep (hk.block b hb (by simp))
theorem any_noT {L : List Tm} {f : Tm → Bool} (h : ∀ (j : Nat) (a : Tm), j < L.length → L[j]? = some a → f a = false) : L.any f = false := by
 rw [List.any_eq_false]
 intro x hx
 obtain ⟨j, hj, hje⟩ := List.getElem_of_mem hx
 simp [h j x hj (by rw [List.getElem?_eq_getElem hj, hje])]
theorem indexT_any (l : List Tm) (v : Value) (a : De.ADev) (b : Option Addr) (n c E : Nat) (w : World) (hl : l.length ≤ 4611686018427387904) (hs : SmL l) (ha : SmA a) (hv : tmT.Has w v l) (hb : DBox w E a b n c) :
  Calls Tryz.prog 82 #[v, .func (.func 51) #[] #[.pointer (some ⟨E, 0, none⟩)]] w (IdxP (l.any (missA a)) w) := by
 obtain ⟨N, hN⟩ : ∃ N, l.length = N := ⟨_, rfl⟩
 rcases hv with ⟨ad, cp, rfl, rfl⟩ | ⟨G, o, cp, rfl, hG, hrow⟩
 ·go_enter Tryz.func82, Tryz.ntmps82
  go_wp2
  go_loopw [8] (fun s8 wx => s8 = .int .i64 0 ∧ w = wx) (fun _ _ => 0)
  case atStart => exact ⟨rfl, rfl⟩
  case round =>
   obtain ⟨rfl, rfl⟩ := hrel
   have hz : ¬ ((0 : Int) < ((0 : Nat) : Int)) := by omega
   go_wp2
   go_ret
   exact ⟨-1, rfl, rfl, Kp.refl _ _⟩
 ·have Hrow := qH hrow
  have HGs := qH hG
  have Hs := qH hs
  have HN := qH hN
  have Hb := qH hb
  rw [hN] at hl ⊢
  clear hrow hG hs hN hb
  have hNi : (N : Int) ≤ 4611686018427387904 := by omega
  go_enter Tryz.func82, Tryz.ntmps82
  go_wp2
  go_loopw [8] (fun s8 wx => ∃ i : Nat, i ≤ N ∧ s8 = .int .i64 i ∧ (∀ (j : Nat) (x : Tm), j < i → l[j]? = some x → missA a x = false) ∧ Kp [] w wx) (fun s8 _ => N - (intOf s8).toNat)
  case atStart => exact ⟨0, by omega, rfl, fun j a hj _ => absurd hj (by omega), Kp.refl _ _⟩
  case round =>
   obtain ⟨i, hi, rfl, hall, hdr⟩ := hrel
   have Hall := qH hall
   have Hdr := qH hdr
   clear hall hdr
   by_cases hlt : (i : Int) < (N : Int)
   ·obtain ⟨x, hx⟩ : ∃ x, l[i]? = some x := ⟨l[i]'(by rw [HN.out]; omega), List.getElem?_eq_getElem _⟩
    obtain ⟨c0, c1, c2, c3⟩ := tmRow (tm_row_kp Hrow.out HGs.out Hdr.out) hx
    have Hm := qH (show Calls Tryz.prog 51 #[.agg #[.int .i64 x.key, .string (bs x.name), .int .i64 x.op, .string (bs x.val)], .pointer (some ⟨E, 0, none⟩)] wr fun e w' => e = .returned (.bool (missA a x)) ∧ Kp [] wr w' from miss_any x a b n c E wr (Hs.out x (List.mem_of_getElem? hx)) ha (Hb.out.kp0 Hdr.out))
    have Hmem := qH (List.mem_of_getElem? hx)
    cases hmb : missA a x with
    | true =>
     rw [hmb] at Hm
     have Hany := qH (show (l.any (missA a)) = true from List.any_eq_true.2 ⟨x, Hmem.out, hmb⟩)
     clear hmb hx
     go_wp2_with (go_at_call 51; refine Hm.out.mono ?_; rintro e w' ⟨rfl, hd⟩)
     go_ret
     exact ⟨(i : Int), rfl, by rw [Hany.out]; exact decide_eq_true (Int.natCast_nonneg _), Hdr.out.trans hd⟩
    | false =>
     rw [hmb] at Hm
     have Hall2 := qH (show ∀ (j : Nat) (y : Tm), j < i + 1 → l[j]? = some y → missA a y = false from fun j y hj hbj => by
      rcases Nat.lt_or_ge j i with h1 | h1
      ·exact Hall.out j y h1 hbj
      ·obtain rfl : j = i := by omega
       rw [hx] at hbj
       cases hbj
       exact hmb)
     clear hmb hx
     go_wp2_with (go_at_call 51; refine Hm.out.mono ?_; rintro e w' ⟨rfl, hd⟩)
     exact ⟨⟨i + 1, by omega, rfl, Hall2.out, Hdr.out.trans hd⟩, by simp [intOf]; omega⟩
   ·obtain rfl : i = N := by omega
    have Hany := qH (any_noT (f := missA a) fun j a hj hja => Hall.out j a (by rw [← HN.out]; exact hj) hja)
    go_wp2
    go_ret
    exact ⟨-1, rfl, by rw [Hany.out]; rfl, Hdr.out⟩
theorem containsT_any (l : List Tm) (v : Value) (a : De.ADev) (b : Option Addr) (n c E : Nat) (w : World) (hl : l.length ≤ 4611686018427387904) (hs : SmL l) (ha : SmA a) (hv : tmT.Has w v l) (hb : DBox w E a b n c) :
  Calls Tryz.prog 50 #[v, .func (.func 51) #[] #[.pointer (some ⟨E, 0, none⟩)]] w fun e w' => e = .returned (.bool (l.any (missA a))) ∧ Kp [] w w' := by
 have hi := qH (indexT_any l v a b n c E w hl hs ha hv hb)
 obtain ⟨ad, cp, rfl, -⟩ := hv.form
 clear hv hb
 go_enter Tryz.func50, Tryz.ntmps50
 go_wp2_with (go_at_call 82; refine hi.out.mono ?_; rintro e w' ⟨r, rfl, hr, hd⟩)
 go_ret
 exact ⟨by rw [← hr]; rfl, hd⟩
theorem upHold_any (l : List Tm) (v : Value) (a : De.ADev) (b : Option Addr) (n c : Nat) (w : World) (hl : l.length ≤ 4611686018427387904) (hs : SmL l) (ha : SmA a) (hv : tmT.Has w v l) (hb : De.Has w (.slice b n c) a.ats) :
  Calls Tryz.prog 23 #[v, .agg #[.int .i64 a.idx, .int .i64 a.par, .string a.name, .string a.orig, .string a.sub, .string a.drv, .string a.ali, .int .i64 a.kind, .int .i64 a.num, .slice b n c]] w fun e w' => e = .returned (.bool (holdA l a)) ∧ Kp [] w w' := by
 obtain ⟨W0, hW⟩ : ∃ W0, w.alloc (.cells #[.int .i64 a.idx, .int .i64 a.par, .string a.name, .string a.orig, .string a.sub, .string a.drv, .string a.ali, .int .i64 a.kind, .int .i64 a.num, .slice b n c] 40) = W0 := ⟨_, rfl⟩
 have hk0 : Kp [] w W0 := by rw [← hW]; exact (Kp.refl [] w).alloc _
 have hd0 : DBox W0 w.heap.size a b n c := ⟨by rw [← hW]; exact heap_alloc_last w _, hb.below hk0.bel⟩
 have HC := qH (containsT_any l v a b n c w.heap.size W0 hl hs ha (hv.kp0 hk0) hd0)
 have HK := qH hk0
 obtain ⟨ad, cp, rfl, -⟩ := hv.form
 unfold holdA
 generalize l.any (missA a) = q at *
 clear hv hb hk0 hd0
 go_enter Tryz.func23, Tryz.ntmps23
 go_wp2_with (go_at_call 50; refine HC.out.mono ?_; rintro e w' ⟨rfl, hd⟩)
 go_ret
 exact ⟨rfl, HK.out.trans hd⟩
theorem hold1_any (l : List Tm) (ad : Option Addr) (cp Bt : Nat) (a : De.ADev) (b : Option Addr) (n c : Nat) (w : World) (hl : l.length ≤ 4611686018427387904) (hs : SmL l) (ha : SmA a) (hv : tmT.Has w (.slice ad l.length cp) l) (hb : De.Has w (.slice b n c) a.ats) (ht : w.cell? ⟨Bt, 0, none⟩ = some (.slice ad l.length cp)) :
  Calls Tryz.prog 22 #[.agg #[.int .i64 a.idx, .int .i64 a.par, .string a.name, .string a.orig, .string a.sub, .string a.drv, .string a.ali, .int .i64 a.kind, .int .i64 a.num, .slice b n c], .pointer (some ⟨Bt, 0, none⟩)] w fun e w' => e = .returned (.bool (holdA l a)) ∧ Kp [] w w' := by
 obtain ⟨W0, hW⟩ : ∃ W0, w.alloc (.cells #[.int .i64 a.idx, .int .i64 a.par, .string a.name, .string a.orig, .string a.sub, .string a.drv, .string a.ali, .int .i64 a.kind, .int .i64 a.num, .slice b n c] 40) = W0 := ⟨_, rfl⟩
 have hk0 : Kp [] w W0 := by rw [← hW]; exact (Kp.refl [] w).alloc _
 have hd0 : DBox W0 w.heap.size a b n c := ⟨by rw [← hW]; exact heap_alloc_last w _, hb.below hk0.bel⟩
 obtain ⟨d0, d1, d2, d3, d4, d5, d6, d7, d8, d9⟩ := hd0.cells
 have t0 := cell_kp hk0 ht
 have HC := qH (upHold_any l _ a b n c W0 hl hs ha (hv.kp0 hk0) (hb.below hk0.bel))
 have HK := qH hk0
 generalize holdA l a = q at *
 clear hv hb hk0 hd0 ht
 go_enter Tryz.func22, Tryz.ntmps22
 go_wp2_with (go_at_call 23; refine cM (by with_reducible exact HC.out) ?_; rintro e w' ⟨rfl, hd⟩)
 go_ret
 exact ⟨rfl, HK.out.trans hd⟩
end Go.Proofs.YtljkljnfbcmjdaaGreatDoor
