/- GlRA -/
import Derived.Test.YtkkibibecgcbmaaGreatDoorQG
open Go.Lib renaming hid → qH
set_option maxRecDepth 100000
set_option maxHeartbeats 16000000
namespace Go.Proofs.YtkkibibecgcbmaaGreatDoor.Gl
open Go.RowKit
theorem byteOK_any (c : UInt8) (w : World) : Calls Tryz.prog 172 #[.int .u8 (c.toNat : Int)] w fun e w' => e = .returned (.bool (isText c)) ∧ w' = w := by
 unfold isText
 by_cases h1 : (32 : Int) ≤ (c.toNat : Int)
 ·have d1 : decide (32 ≤ c.toNat) = true := decide_eq_true (by omega)
  rw [d1, Bool.true_and]
  clear d1
  by_cases h2 : (c.toNat : Int) ≤ 126
  ·have d2 : decide (c.toNat ≤ 126) = true := decide_eq_true (by omega)
   rw [d2]
   clear d2
   go_enter Tryz.func172, Tryz.ntmps172
   go_wp2
   go_ret
   exact ⟨rfl, rfl⟩
  ·have d2 : decide (c.toNat ≤ 126) = false := decide_eq_false (by omega)
   rw [d2]
   clear d2
   go_enter Tryz.func172, Tryz.ntmps172
   go_wp2
   go_ret
   exact ⟨rfl, rfl⟩
 ·have d1 : decide (32 ≤ c.toNat) = false := decide_eq_false (by omega)
  rw [d1, Bool.false_and]
  clear d1
  go_enter Tryz.func172, Tryz.ntmps172
  go_wp2
  go_ret
  exact ⟨rfl, rfl⟩
theorem printable_any (s : ByteArray) (w : World) (hs : s.size ≤ 4611686018427387904) : Calls Tryz.prog 140 #[.string s] w fun e w' => e = .returned (.bool (s.data.toList.all isText)) ∧ w' = w := by
 have hsz := Lib.size_eq s
 have hsi : (s.size : Int) ≤ 4611686018427387904 := by omega
 have Hsz := qH hsz
 obtain ⟨R, hR⟩ : ∃ R, s.data.toList.all isText = R := ⟨_, rfl⟩
 rw [hR]
 have HR := qH hR
 clear hsz hR
 go_enter Tryz.func140, Tryz.ntmps140
 go_wp2
 go_loop [3] (fun s3 => ∃ k : Nat, k ≤ s.size ∧ s3 = .int .i64 k ∧ (s.data.toList.take k).all isText = true) (fun s3 => s.size - (intOf s3).toNat)
 case atStart => exact ⟨0, by omega, rfl, rfl⟩
 case round =>
  obtain ⟨k, hk, rfl, hall⟩ := hrel
  have Hall := qH hall
  clear hall
  by_cases hlt : (k : Int) < (s.size : Int)
  ·obtain ⟨x, hx⟩ : ∃ x : UInt8, s[k]'(by omega) = x := ⟨_, rfl⟩
   have hxl : s.data.toList[k]? = some x := by rw [← hx]; exact Lib.data_getElem? s k (by omega)
   have hb := fun W => byteOK_any x W
   have Hxl := qH hxl
   clear hxl
   cases ht : isText x with
   | true =>
    rw [ht] at hb
    have Hb := qH hb
    have Hn := qH (show (s.data.toList.take (k + 1)).all isText = true by rw [List.take_add_one, Hxl.out, List.all_append, Hall.out]; simp [ht])
    clear hb ht
    go_wp2_with (go_at_call 172; refine (Hb.out _).mono ?_; rintro e W1 ⟨rfl, rfl⟩)
    go_round
    case rel => exact ⟨k + 1, by omega, rfl, Hn.out⟩
    case measure => simp [intOf]; omega
   | false =>
    rw [ht] at hb
    have Hb := qH hb
    have Hv := qH (show R = false from by
     rw [← HR.out, List.all_eq_false]
     exact ⟨x, List.mem_of_getElem? Hxl.out, by rw [ht]; simp⟩)
    clear hb ht
    go_wp2_with (go_at_call 172; refine (Hb.out _).mono ?_; rintro e W1 ⟨rfl, rfl⟩)
    go_ret
    exact ⟨by rw [Hv.out]; rfl, rfl⟩
  ·obtain rfl : k = s.size := by omega
   have Hv := qH (show R = true from by
    rw [← HR.out]
    have := Hall.out
    rwa [Hsz.out, List.take_length] at this)
   go_wp2
   go_ret
   exact ⟨by rw [Hv.out]; rfl, rfl⟩
end Go.Proofs.YtkkibibecgcbmaaGreatDoor.Gl
namespace Go.Proofs.YtkkibibecgcbmaaGreatDoor.Gl
open Go.RowKit
def memR (S : UInt8 → Bool) (r : List UInt8) : Option (UInt8 → Bool) := if r.contains 93 then memB S (r.take (r.idxOf 93)) else none
theorem memR_end (S : UInt8 → Bool) (t : List UInt8) : memR S (93 :: t) = some S := by
 unfold memR
 rw [if_pos (by simp), List.idxOf_cons_self]
 rfl
theorem contains_cons_ne {a : UInt8} (h : a ≠ 93) (t : List UInt8) : (a :: t).contains 93 = t.contains 93 := by
 rw [Bool.eq_iff_iff]
 simp [Ne.symm h]
theorem idx_cons_ne {a : UInt8} (h : a ≠ 93) (t : List UInt8) : (a :: t).idxOf 93 = t.idxOf 93 + 1 := by
 rw [List.idxOf_cons, beq_eq_false_iff_ne.2 h]
 rfl
theorem memR_one (S : UInt8 → Bool) {a : UInt8} (ha : a ≠ 93) (t : List UInt8) (h : ¬ (2 ≤ t.length ∧ t[0]? = some 45 ∧ t[1]? ≠ some 93)) : memR S (a :: t) = memR (fun x => S x || rangeB a a x) t := by
 unfold memR
 rw [contains_cons_ne ha, idx_cons_ne ha, List.take_succ_cons]
 split
 ·rename_i hc
  have hi : t.idxOf 93 < t.length := List.idxOf_lt_length_iff.2 (by simpa using hc)
  apply memB_single
  rcases Nat.lt_or_ge (t.idxOf 93) 2 with h2 | h2
  ·left
   rw [List.length_take]
   omega
  ·right
   intro h0
   rw [List.getElem?_take, if_pos (by omega)] at h0
   refine h ⟨by omega, h0, fun h1 => ?_⟩
   match t, h0, h1, h2, hi with
   | [], h0, _, _, _ => simp at h0
   | [_], _, h1, _, _ => simp at h1
   | b :: c :: u, h0, h1, h2, _ =>
    simp only [List.getElem?_cons_zero, List.getElem?_cons_succ, Option.some.injEq] at h0 h1
    subst h0
    subst h1
    rw [idx_cons_ne (by decide), List.idxOf_cons_self] at h2
    omega
 ·rfl
theorem memR_range (S : UInt8 → Bool) {a c : UInt8} (ha : a ≠ 93) (hc : c ≠ 93) (t : List UInt8) : memR S (a :: 45 :: c :: t) = if c.toNat < a.toNat then none else memR (fun x => S x || rangeB a c x) t := by
 unfold memR
 rw [contains_cons_ne ha, contains_cons_ne (by decide), contains_cons_ne hc, idx_cons_ne ha, idx_cons_ne (by decide), idx_cons_ne hc, List.take_succ_cons, List.take_succ_cons, List.take_succ_cons, memB_range]
 split
 ·rfl
 ·split <;> rfl
def setR (r : List UInt8) : Option ((UInt8 → Bool) × Nat) := if r.contains 93 then (setB (r.take (r.idxOf 93))).map fun S => (S, r.idxOf 93) else none
theorem setR_not (r : List UInt8) : setR (33 :: r) = if r[0]? = some 93 then none else (memR (fun _ => false) r).map fun S => (fun x => isText x && !S x, r.idxOf 93 + 1) := by
 unfold setR memR
 rw [contains_cons_ne (by decide), idx_cons_ne (by decide), List.take_succ_cons]
 cases r with
 | nil => simp
 | cons b t =>
  simp only [List.getElem?_cons_zero, Option.some.injEq]
  by_cases hb : b = 93
  ·subst hb
   simp [setB]
  ·rw [if_neg hb]
   split
   ·rename_i hc
    have : (b :: t).take ((b :: t).idxOf 93) ≠ [] := by
     rw [idx_cons_ne hb, List.take_succ_cons]
     simp
    unfold setB
    simp only [if_true]
    rw [if_neg this]
    cases memB (fun _ => false) ((b :: t).take ((b :: t).idxOf 93)) <;> simp
   ·simp
theorem setR_plain {c : UInt8} (hc : c ≠ 33) (r : List UInt8) : setR (c :: r) = if c = 93 then none else (memR (fun _ => false) (c :: r)).map fun S => (S, (c :: r).idxOf 93) := by
 unfold setR memR
 by_cases hb : c = 93
 ·subst hb
  simp [setB]
 ·rw [if_neg hb]
  split
  ·rw [idx_cons_ne hb, List.take_succ_cons]
   unfold setB
   simp only [hc, if_false]
  ·simp
def boolRow (S : UInt8 → Bool) : Array Value := ((List.range 128).map fun c => Value.bool (S (UInt8.ofNat c))).toArray
theorem boolRow_size (S : UInt8 → Bool) : (boolRow S).size = 128 := by simp [boolRow]
theorem boolRow_get (S : UInt8 → Bool) (c : Nat) (h : c < 128) : (boolRow S)[c]? = some (.bool (S (UInt8.ofNat c))) := by
 simp [boolRow, h]
theorem boolRow_set (S : UInt8 → Bool) (c : Nat) (h : c < 128) : (boolRow S).setIfInBounds c (.bool true) = boolRow (fun x => S x || x == UInt8.ofNat c) := by
 apply Array.ext_getElem?
 intro i
 rw [Array.getElem?_setIfInBounds]
 by_cases hi : i < 128
 ·rw [boolRow_get (fun x => S x || x == UInt8.ofNat c) i hi]
  by_cases hc : c = i
  ·subst hc
   rw [if_pos rfl, if_pos (by rw [boolRow_size]; exact h)]
   simp
  ·rw [if_neg hc, boolRow_get _ i hi]
   have : (UInt8.ofNat i == UInt8.ofNat c) = false := by
    rw [beq_eq_false_iff_ne]
    intro e
    have := congrArg UInt8.toNat e
    simp at this
    omega
   rw [this, Bool.or_false]
 ·have hn : ∀ T : UInt8 → Bool, (boolRow T)[i]? = none := fun T => Array.getElem?_eq_none (by rw [boolRow_size]; omega)
  rw [hn, if_neg (by omega), hn]
end Go.Proofs.YtkkibibecgcbmaaGreatDoor.Gl
namespace Go.Proofs.YtkkibibecgcbmaaGreatDoor.Gl
open Go.RowKit
end Go.Proofs.YtkkibibecgcbmaaGreatDoor.Gl
