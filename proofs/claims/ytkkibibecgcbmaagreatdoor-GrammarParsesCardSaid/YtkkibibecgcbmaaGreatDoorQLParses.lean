/- LParses -/
import Derived.Test.YtkkibibecgcbmaaGreatDoorQIk
import Derived.Test.YtkkibibecgcbmaaGreatDoorQIl
import Derived.Test.YtkkibibecgcbmaaGreatDoorQLxP
open Go.Lib renaming hid → qH
open Go.Calls renaming mono → cM
set_option maxRecDepth 100000
set_option maxHeartbeats 16000000
namespace Go.Proofs.YtkkibibecgcbmaaGreatDoor
open Go.RowKit
def totL : List (List UInt8) → Nat
 | [] => 0
 | a :: l => a.length + totL l
theorem totL_le {M : Nat} : ∀ {l : List (List UInt8)}, (∀ p ∈ l, p.length ≤ M) → totL l ≤ l.length * M
 | [], _ => by simp [totL]
 | a :: l, h => by
  have h1 := h a (by simp)
  have h2 := totL_le (l := l) fun p hp => h p (by simp [hp])
  simp only [totL, List.length_cons, Nat.add_mul, Nat.one_mul]
  omega
theorem contL_tot : ∀ (a : List UInt8) (r : List (List UInt8)), (Lx.contL a r).1.length + totL (Lx.contL a r).2 ≤ a.length + totL r
 | a, [] => by
  unfold Lx.contL
  simp only [totL]
  split <;> simp
 | a, b :: r => by
  have ih := contL_tot b r
  unfold Lx.contL
  split
  ·simp only [totL, List.length_append, List.length_dropLast]
   omega
  ·simp only [totL]
   omega
theorem linesN_len : ∀ (m i : Nat) (l : List (List UInt8)), l.length ≤ m → (Lx.linesN i l).length ≤ l.length ∧ ∀ x ∈ Lx.linesN i l, x.2.length ≤ totL l
 | _, _, [], _ => by simp [Lx.linesN]
 | 0, _, _ :: _, h => by simp at h
 | m + 1, i, a :: r, h => by
  have hc := Lx.contL_len a r
  have ht := contL_tot a r
  simp only [List.length_cons] at h
  obtain ⟨h1, h2⟩ := linesN_len m (i + 1 + (r.length - (Lx.contL a r).2.length)) (Lx.contL a r).2 (by omega)
  rw [Lx.linesN_cons]
  constructor
  ·rw [List.length_append, List.length_cons]
   split <;> simp only [List.length_nil, List.length_cons] <;> omega
  ·intro x hx
   simp only [totL]
   rcases List.mem_append.1 hx with hx | hx
   ·split at hx
    ·cases hx
    ·rw [List.mem_singleton] at hx
     subst hx
     simp only
     omega
   ·have := h2 x hx
    omega
theorem linesL_len {s : List UInt8} (hs : s.length ≤ 7500) : (Lx.linesL s).length ≤ 10000 ∧ ∀ x ∈ Lx.linesL s, x.2.length ≤ 100000000 := by
 obtain ⟨h1, h2⟩ := Lx.pieces_len s
 have hp : (∀ p ∈ Lx.physL s, p.length ≤ 7500) ∧ (Lx.physL s).length ≤ 7501 := by
  unfold Lx.physL
  split
  ·exact ⟨fun p hp => by have := h1 p ((List.dropLast_sublist _).subset hp); omega, by rw [List.length_dropLast]; omega⟩
  ·exact ⟨fun p hp => by have := h1 p hp; omega, by omega⟩
 obtain ⟨h3, h4⟩ := linesN_len _ 1 (Lx.physL s) (Nat.le_refl _)
 have h5 := totL_le hp.1
 have h6 : (Lx.physL s).length * 7500 ≤ 7501 * 7500 := Nat.mul_le_mul_right _ hp.2
 exact ⟨by unfold Lx.linesL; omega, fun x hx => by have := h4 x hx; omega⟩
theorem grammarParses_list (raw : List UInt8) (a : Option Addr) (n c : Nat) (w : World) (hE : Env w) (hi : Ints w w.heap.size (.slice a n c)) : Calls Tryz.prog 4 #[.string (bs raw), .slice a n c] w fun e w' => e = .returned (.bool true) ∧ Kp [] w w' := by
 have HKN := qH fun W (h : Kp [] w W) => known_any (hE.kp0 h)
 by_cases hraw : 2000 < raw.length
 ·have hrz : (2000 : Int) < ((bs raw).size : Int) := by rw [bs_size]; omega
  have hk := Kp.refl [] w
  clear hraw hE hi
  go_enter Tryz.func4, Tryz.ntmps4
  go_wp2_with (go_at_call 11; refine cM (by with_reducible exact HKN.out _ hk) ?_; rintro r w1 ⟨rfl, hkp⟩)
  go_ret
  exact ⟨rfl, hkp⟩
 have hrz : ¬ (2000 : Int) < ((bs raw).size : Int) := by rw [bs_size]; omega
 have HRW := qH (show raw.length ≤ 2000 by omega)
 obtain ⟨tb, htb⟩ : ∃ tb, w.heap.size = tb := ⟨_, rfl⟩
 obtain ⟨w1, hw1⟩ : ∃ w1, w.alloc (.cells #[.slice a n c, .int .i64 0] 28) = w1 := ⟨_, rfl⟩
 have ht0 := tape_new hi
 rw [hw1, htb] at ht0
 have hk1 : Kp [] w w1 := by rw [← hw1]; exact (Kp.refl [] w).alloc _
 have HTW := qH (show w.heap.size ≤ tb by omega)
 have HK1 := qH hk1
 have HLT := qH (ltext_any hE hk1 (by omega) ht0)
 have HE := qH fun W (h : Kp [] w W) => hE.kp0 h
 have HSM := qH fun (W : World) (u v : Value) (l : List Tm) (hl : l.length ≤ 1000000) => same_any (w := W) (su := u) (sv := v) (l := l) hl
 clear ht0 hi hk1 hE hraw
 go_enter Tryz.func4, Tryz.ntmps4
 go_upto_region 4 with (first
  | (go_at_call 18; refine cM (by with_reducible exact HLT.out) ?_; rintro r w2 ⟨s, rfl, hs, hkp⟩; have HK2 := qH (HK1.out.off hkp HTW.out); have HSL := qH hs; have HLN := qH (Lx.refLines_any s w2 (HE.out _ HK2.out).max (by omega)); clear hs hkp)
  | (go_at_call 17; refine cM (by with_reducible exact HLN.out) ?_; rintro r w3 ⟨v, rfl, ho, hkp⟩; have HK3 := qH (HK2.out.trans hkp); obtain ⟨Nb, hNb⟩ : ∃ Nb, w3.heap.size = Nb := ⟨_, rfl⟩; obtain ⟨w4, hw4⟩ : ∃ W, w3.alloc (.cells #[.int .i64 0, .string (bs raw)] 39) = W := ⟨_, rfl⟩; have H4 := qH (Lx.ln_push (x := (0, raw)) hkp ho hNb hw4); have HLL := qH (linesL_len HSL.out); clear ho hkp)
  | (at_builtin; refine wpList_append_r (r := Lx.lnT) rfl (.tmp 19) (.tmp 22) rfl w2.heap.size v (Lx.linesL s) rfl H4.out.2.1 Nb 1 (0, raw) rfl H4.out.2.2 (by have := HLL.out.1; omega) H4.out.1.size ?_; intro v5 w5 hown5 hgr5; have HO5 := qH hown5; have HK5 := qH (HK2.out.trans (Lx.kp_grownK H4.out.1 hgr5 fun b hb => (H4.out.2.1.ge b hb).1)); clear hown5 hgr5))
 obtain ⟨L, hL⟩ : ∃ L, Lx.linesL s ++ [(0, raw)] = L := ⟨_, rfl⟩
 have HLS := qH (show ∀ x ∈ L, x.2.length ≤ 1000000000 from fun x hx => by
  rw [← hL] at hx
  rcases List.mem_append.1 hx with hx | hx
  ·have := HLL.out.2 x hx; omega
  ·rw [List.mem_singleton] at hx; subst hx; have := HRW.out; simp only; omega)
 have HLM := qH (show L.length ≤ 10001 by rw [← hL, List.length_append]; have := HLL.out.1; simp only [List.length_cons, List.length_nil]; omega)
 have HO := qH (show Lx.lnT.Own w5 w2.heap.size v5 L by rw [← hL]; exact HO5.out)
 obtain ⟨va, vc, rfl⟩ := HO.out.form
 have HROW := qH (show L ≠ [] → ∃ b o, va = some ⟨b, o, none⟩ ∧ b < w5.heap.size ∧ Lx.lnT.Row w5 b o L by
  obtain ⟨a', c', he, hr⟩ := HO.out.has.form
  cases he
  exact hr)
 clear hL HO HO5 HLT HLN H4 hw1 htb
 go_wp2
 go_loopg [6, 7, 8, 9, 10] L.length (fun g s6 s7 s8 s9 s10 wx => ∃ i : Nat, s6 = .int .i64 (i : Int) ∧ i + g = L.length ∧ Kp [] w5 wx)
 case atStart => exact ⟨0, rfl, by omega, Kp.refl _ _⟩
 case round =>
  obtain ⟨i, rfl, hig, hk⟩ := hrel
  have HK := qH hk
  have HIG := qH hig
  by_cases hil : i < L.length
  ·obtain ⟨g, rfl⟩ : ∃ g, gk = g + 1 := ⟨gk - 1, by omega⟩
   obtain ⟨tb2, o, rfl, hbl, hr⟩ := HROW.out (by rintro rfl; simp at hil)
   obtain ⟨⟨num, t⟩, hx⟩ : ∃ x, L[i]? = some x := ⟨_, List.getElem?_eq_getElem hil⟩
   have hiz : (i : Int) < (L.length : Int) := by omega
   have hi0 : (0 : Int) ≤ (i : Int) := by omega
   have hwi : IntKind.i64.wrap ((i : Int) + 1) = ((i + 1 : Nat) : Int) := by have := HLM.out; rw [IntKind.wrap_i64]; omega
   have HTL := qH (HLS.out _ (List.mem_of_getElem? hx))
   have HCL := qH (show ∀ W, Kp [] wr W → W.cell? ⟨tb2, o + i * 2 + 1, none⟩ = some (.string (bs t)) from fun W h => (Lx.lnRow (hr.keep ((hk.trans h).block tb2 hbl (by simp))) hx).2)
   have q0 := HCL.out _ (Kp.refl [] wr)
   obtain ⟨P, e, hpe⟩ : ∃ P e, parseG t = (P, e) := ⟨_, _, rfl⟩
   have HP := qH fun W (h : Kp [] w W) => gparse_any (HE.out W h) t HTL.out
   have HR := qH fun W (h : Kp [] w W) => refGParse_any (HE.out W h) t
   have HPL := qH (show P.length ≤ 1000000 by have := (parseG_sm t).1; rw [hpe] at this; simp only at this; omega)
   rw [hpe] at HP HR
   clear hk hig hil hx hbl hr hpe
   go_wp2_with (first
    | (go_at_call 19; refine cM (by with_reducible exact HP.out _ (HK5.out.trans HK.out)) ?_; rintro r w6 ⟨v6, rfl, ho6, hkp⟩; have HK6 := qH (HK.out.trans hkp); have HO6 := qH ho6; have q1 := HCL.out _ hkp; clear hkp ho6)
    | (go_at_call 20; refine cM (by with_reducible exact HR.out _ (HK5.out.trans HK6.out)) ?_; rintro r w7 ⟨v7, rfl, ho7, hkp⟩; have HK7 := qH (HK6.out.trans hkp); have HO7 := qH ho7; have HO67 := qH (HO6.out.kp0 hkp); clear hkp ho7)
    | (go_at_call 21; refine cM (by with_reducible exact HSM.out _ _ _ _ HPL.out HO67.out.has HO7.out.has) ?_; rintro r w8 ⟨rfl, hkp⟩; have HK8 := qH (HK7.out.trans hkp); clear hkp))
   go_roundg g
   case measure => omega
   case rel => exact ⟨i + 1, rfl, by have := HIG.out; omega, HK8.out⟩
  ·have hiz : ¬ (i : Int) < (L.length : Int) := by omega
   clear hk hig hil
   go_wp2_with (go_at_call 11; refine cM (by with_reducible exact HKN.out _ (HK5.out.trans HK.out)) ?_; rintro r w7 ⟨rfl, hkp⟩; have HK7 := qH ((HK5.out.trans HK.out).trans hkp); clear hkp)
   go_ret
   exact ⟨rfl, HK7.out⟩
theorem grammarParses_walk (raw : ByteArray) (a : Option Addr) (n c : Nat) (w : World) (hE : Env w) (hi : Ints w w.heap.size (.slice a n c)) : Calls Tryz.prog 4 #[.string raw, .slice a n c] w fun e w' => e = .returned (.bool true) ∧ Below w.heap.size w w' := by
 rw [← bs_of raw]
 exact (grammarParses_list _ a n c w hE hi).mono fun _ _ ⟨h1, h2⟩ => ⟨h1, h2.below (Nat.le_refl _) (by simp)⟩
end Go.Proofs.YtkkibibecgcbmaaGreatDoor
