/- isLess, Match, Prefix. -/
import Derived.Test.YtdlchlbngojljaaDoorPGk
namespace Go.Proofs.YtdlchlbngojljaaDoor.Gl
open Go.RowKit
/-- Shorter, or as long and less byte by byte. -/
def lessB (s t : List UInt8) : Bool := decide (s.length < t.length) || (decide (s.length = t.length) && Op.bytesLess s t)
set_option maxHeartbeats 400000 in
set_option maxRecDepth 100000 in
theorem isLess_any (a b : ByteArray) (w : World) : Calls Tryd.prog 47 #[.string a, .string b] w (fun e w' => e = .returned (.bool (lessB a.data.toList b.data.toList)) ∧ w' = w) := by
 have hsa := Lib.size_eq a
 have hsb := Lib.size_eq b
 have hv : lessB a.data.toList b.data.toList = (decide (a.size < b.size) || (decide (a.size = b.size) && Op.bytesLess a.toList b.toList)) := by
  unfold lessB
  rw [← hsa, ← hsb, Lib.toList_data, Lib.toList_data]
 rw [hv]
 clear hv hsa hsb
 by_cases h1 : (a.size : Int) < (b.size : Int)
 ·have hd : decide (a.size < b.size) = true := decide_eq_true (by omega)
  rw [hd]
  clear hd
  go_enter Tryd.func47, Tryd.ntmps47
  go_wp2
  go_ret
  exact ⟨rfl, rfl⟩
 ·have hd : decide (a.size < b.size) = false := decide_eq_false (by omega)
  rw [hd]
  clear hd
  by_cases h2 : (a.size : Int) = (b.size : Int)
  ·have h3 : ((a.size : Int) == (b.size : Int)) = true := by simp [h2]
   have hd : decide (a.size = b.size) = true := decide_eq_true (by omega)
   rw [hd, Bool.false_or, Bool.true_and]
   clear hd
   go_enter Tryd.func47, Tryd.ntmps47
   go_wp2
   go_ret
   exact ⟨rfl, rfl⟩
  ·have h3 : ((a.size : Int) == (b.size : Int)) = false := beq_eq_false_iff_ne.2 h2
   have hd : decide (a.size = b.size) = false := decide_eq_false (by omega)
   rw [hd, Bool.false_or, Bool.false_and]
   clear hd
   go_enter Tryd.func47, Tryd.ntmps47
   go_wp2
   go_ret
   exact ⟨rfl, rfl⟩
set_option maxHeartbeats 400000 in
set_option maxRecDepth 100000 in
theorem match1_any (b : Nat) (a : Option Addr) (cap g : Nat) (l : List El) (s : ByteArray) (w : World) (hok : ∀ e ∈ l, e.ok) (ha : 0 < l.length → a = some ⟨g, 0, none⟩) (hE : ElsAt w g l) (hl : l.length ≤ 4096) (hs : s.size ≤ 4611686018427387904) (hb : w.cell? ⟨b, 0, none⟩ = some (.string s)) :
  Calls Tryd.prog 37 #[.slice a l.length cap, .pointer (some ⟨b, 0, none⟩)] w (Drw (.bool (mB l s.data.toList)) w) := by
 have hm := Lib.hid (matches_any a cap g l s w hok ha hE hl hs)
 go_enter Tryd.func37, Tryd.ntmps37
 go_wp2_with (go_at_call 38; refine hm.out.mono ?_; rintro e w' ⟨rfl, hd⟩)
 go_ret
 exact ⟨rfl, hd⟩
def patB (p s : List UInt8) : Bool := match altsP p with
 | none => false
 | some L => L.any fun a => mB a s
theorem Dr.cell {w w' : World} (h : Dr w w') (p : Addr) : w'.cell? p = w.cell? p := by
 obtain ⟨n, rfl⟩ := h
 rfl
theorem Dr.below {w w' : World} (h : Dr w w') : Below w.heap.size w w' := by
 obtain ⟨n, rfl⟩ := h
 exact drewN_below (Below.refl _ _) n
theorem Dr.trans {w w' w'' : World} (h : Dr w w') (k : Dr w' w'') : Dr w w'' := by
 obtain ⟨n, rfl⟩ := k
 exact h.drewN n
/-- Alternatives of good elements, not too many. -/
def Good (L : List (List El)) : Prop := ∀ a ∈ L, a.length ≤ 256 ∧ ∀ e ∈ a, ElGood e
theorem any_false {L : List (List El)} {f : List El → Bool} (h : ∀ (j : Nat) (a : List El), j < L.length → L[j]? = some a → f a = false) : L.any f = false := by
 rw [List.any_eq_false]
 intro a ha
 obtain ⟨j, hj⟩ := List.mem_iff_getElem?.1 ha
 rw [h j a (List.getElem?_eq_some_iff.1 hj).1 hj]
 simp
def IdxPost (b : Bool) (w : World) (e : Ending) (w' : World) : Prop := ∃ r : Int, e = .returned (.int .i64 r) ∧ decide (r ≥ 0) = b ∧ Dr w w'
set_option maxHeartbeats 400000 in
set_option maxRecDepth 100000 in
theorem indexFunc_any (L : List (List El)) (v : Value) (b : Nat) (s : ByteArray) (w : World) (hg : Good L) (hL : L.length ≤ 4096) (hv : AltsAt w v L) (hs : s.size ≤ 4611686018427387904) (hb : w.cell? ⟨b, 0, none⟩ = some (.string s)) :
  Calls Tryd.prog 56 #[v, .func (.func 37) #[] #[.pointer (some ⟨b, 0, none⟩)]] w (IdxPost (L.any fun a => mB a s.data.toList) w) := by
 obtain ⟨G, cap, rfl, hG, _, hrows⟩ := hv
 obtain ⟨N, hN⟩ : ∃ N, L.length = N := ⟨_, rfl⟩
 rw [hN] at hL ⊢
 have hNi : (N : Int) ≤ 4096 := by omega
 have Hrows := Lib.hid hrows
 have Hg := Lib.hid hg
 have HN := Lib.hid hN
 clear hrows hg hN
 go_enter Tryd.func56, Tryd.ntmps56
 go_wp2
 go_loopw [8] (fun s8 wx => ∃ i : Nat, i ≤ N ∧ s8 = .int .i64 i ∧ (∀ (j : Nat) (a : List El), j < i → L[j]? = some a → mB a s.data.toList = false) ∧ Dr w wx) (fun s8 _ => N - (intOf s8).toNat)
 case atStart => exact ⟨0, by omega, rfl, fun j a hj _ => absurd hj (by omega), Dr.refl w⟩
 case round =>
  obtain ⟨i, hi, rfl, hall, hdr⟩ := hrel
  have Hall := Lib.hid hall
  have Hdr := Lib.hid hdr
  clear hall hdr
  by_cases hlt : (i : Int) < (N : Int)
  ·obtain ⟨a, ha⟩ : ∃ a, L[i]? = some a := ⟨L[i]'(by rw [HN.out]; omega), List.getElem?_eq_getElem _⟩
   obtain ⟨aj, cj, gj, hc, h1, h2, h3⟩ := Hrows.out i a ha
   have hcell := (Hdr.out.cell ⟨G, i, none⟩).trans hc
   have hga := Hg.out a (List.mem_of_getElem? ha)
   have Hm := Lib.hid (match1_any b aj cj gj a s wr (fun e he => (hga.2 e he).1) h1 (Hdr.out.els h3) (by omega) hs ((Hdr.out.cell _).trans hb))
   have Hmem := Lib.hid (List.mem_of_getElem? ha)
   clear hc h1 h2 h3 hga
   cases hmb : mB a s.data.toList with
   | true =>
    rw [hmb] at Hm
    have Hany := Lib.hid (show (L.any fun a => mB a s.data.toList) = true from List.any_eq_true.2 ⟨a, Hmem.out, hmb⟩)
    clear hmb ha
    go_wp2_with (go_at_call 37; refine Hm.out.mono ?_; rintro e w' ⟨rfl, hd⟩)
    go_ret
    exact ⟨(i : Int), rfl, by rw [Hany.out]; exact decide_eq_true (Int.natCast_nonneg _), Hdr.out.trans hd⟩
   | false =>
    rw [hmb] at Hm
    have Hall2 := Lib.hid (show ∀ (j : Nat) (b : List El), j < i + 1 → L[j]? = some b → mB b s.data.toList = false from fun j b hj hbj => by
     rcases Nat.lt_or_ge j i with h1 | h1
     ·exact Hall.out j b h1 hbj
     ·obtain rfl : j = i := by omega
      rw [ha] at hbj
      cases hbj
      exact hmb)
    clear hmb ha
    go_wp2_with (go_at_call 37; refine Hm.out.mono ?_; rintro e w' ⟨rfl, hd⟩)
    exact ⟨⟨i + 1, by omega, rfl, Hall2.out, Hdr.out.trans hd⟩, by simp [intOf]; omega⟩
  ·obtain rfl : i = N := by omega
   have Hany := Lib.hid (any_false (f := fun a => mB a s.data.toList) fun j a hj hja => Hall.out j a (by rw [← HN.out]; exact hj) hja)
   go_wp2
   go_ret
   exact ⟨-1, rfl, by rw [Hany.out]; rfl, Hdr.out⟩
set_option maxHeartbeats 400000 in
set_option maxRecDepth 100000 in
theorem containsFunc_any (L : List (List El)) (v : Value) (b : Nat) (s : ByteArray) (w : World) (hg : Good L) (hL : L.length ≤ 4096) (hv : AltsAt w v L) (hs : s.size ≤ 4611686018427387904) (hb : w.cell? ⟨b, 0, none⟩ = some (.string s)) :
  Calls Tryd.prog 36 #[v, .func (.func 37) #[] #[.pointer (some ⟨b, 0, none⟩)]] w (Drw (.bool (L.any fun a => mB a s.data.toList)) w) := by
 have hi := Lib.hid (indexFunc_any L v b s w hg hL hv hs hb)
 go_enter Tryd.func36, Tryd.ntmps36
 go_wp2_with (go_at_call 56; refine hi.out.mono ?_; rintro e w' ⟨r, rfl, hr, hd⟩)
 go_ret
 exact ⟨by rw [← hr]; rfl, hd⟩
theorem altsP_Good {p : List UInt8} {L : List (List El)} (h : altsP p = some L) : Good L := (altsP_good h).2.2
set_option maxHeartbeats 400000 in
set_option maxRecDepth 100000 in
theorem match_any (p s : ByteArray) (w : World) (hp : p.size ≤ 4611686018427387904) (hs : s.size ≤ 4611686018427387904) : Calls Tryd.prog 20 #[.string p, .string s] w (Bel (.bool (patB p.data.toList s.data.toList)) w) := by
 cases h : altsP p.data.toList with
 | none =>
  have hc := comp_none h hp
  have hv : patB p.data.toList s.data.toList = false := by unfold patB; rw [h]
  have Hv := Lib.hid hv
  have hne : (errP p.data.toList == 0) = false := by
   rcases errP_none h with h1 | h1 <;> rw [h1] <;> rfl
  generalize errP p.data.toList = E at *
  have Hc := Lib.hid hc
  clear hc h hv
  go_enter Tryd.func20, Tryd.ntmps20
  go_wp2_with fail
  refine (Hc.out _).mono ?_
  rintro e W1 ⟨rfl, hb⟩
  go_wp2
  go_ret
  exact ⟨by rw [Hv.out]; rfl, below_new hb⟩
 | some L =>
  have hc := comp_some h hp
  have hv : patB p.data.toList s.data.toList = L.any fun a => mB a s.data.toList := by unfold patB; rw [h]
  have Hv := Lib.hid hv
  have Hc := Lib.hid hc
  have hgd := altsP_good h
  have Hg := Lib.hid (altsP_Good h)
  have hLl : L.length ≤ 4096 := by have := hgd.2.1; omega
  clear hc h hv hgd
  go_enter Tryd.func20, Tryd.ntmps20
  go_wp2_with fail
  refine (Hc.out _).mono ?_
  rintro e W1 ⟨hb, v, rfl, hv⟩
  have hcell : W1.cell? ⟨w.heap.size, 0, none⟩ = some (.string s) := (hb.cell (p := ⟨w.heap.size, 0, none⟩) (by simp)).trans (by rw [cell_of_row _ _ 0 _ _ _ (heap_alloc_last w (.cells #[.string s] 9))]; rfl)
  have hbl := below_new hb
  have Hcf := Lib.hid (containsFunc_any L v w.heap.size s W1 Hg.out hLl hv hs hcell)
  have Hbl := Lib.hid hbl
  clear hb hbl hcell hv
  go_wp2_with (go_at_call 36; refine Hcf.out.mono ?_; rintro e w' ⟨rfl, hd⟩)
  go_ret
  exact ⟨by rw [Hv.out]; rfl, Hbl.out.trans (hd.below.mono Hbl.out.size)⟩
end Go.Proofs.YtdlchlbngojljaaDoor.Gl
