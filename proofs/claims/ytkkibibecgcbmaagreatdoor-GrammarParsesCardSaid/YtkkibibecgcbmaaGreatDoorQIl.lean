/- Il -/
import Derived.Test.YtkkibibecgcbmaaGreatDoorQIh
import Derived.Test.YtkkibibecgcbmaaGreatDoorQGx
open Go.Lib renaming hid → qH
open Go.Calls renaming mono → cM
set_option maxRecDepth 100000
set_option maxHeartbeats 16000000
namespace Go.Proofs.YtkkibibecgcbmaaGreatDoor
open Go.RowKit
theorem addY {P : Program} (W : World) (a b : ByteArray) (h : a.size + b.size ≤ 9223372036854775807) : (Op.stringOp .add a b).run P W = .ok (.string (a ++ b)) W :=
 run_string_add_sum W a b h
theorem l3532 : (⟨#[35, 32]⟩ : ByteArray) = bs [35, 32] := rfl
theorem l32 : (⟨#[32]⟩ : ByteArray) = bs [32] := rfl
theorem l44 : (⟨#[44]⟩ : ByteArray) = bs [44] := rfl
theorem l10 : (⟨#[10]⟩ : ByteArray) = bs [10] := rfl
theorem z3532 : (⟨#[35, 32]⟩ : ByteArray).size = 2 := rfl
theorem z32 : (⟨#[32]⟩ : ByteArray).size = 1 := rfl
theorem z44 : (⟨#[44]⟩ : ByteArray).size = 1 := rfl
theorem z10 : (⟨#[10]⟩ : ByteArray).size = 1 := rfl
theorem oneT {w : World} {tb k : Nat} (hk : k ≤ 1000000) (h : Tp w tb k) (n : Nat) (hn : w.heap.size = n) : Calls Tryz.prog 36 #[.pointer (some ⟨tb, 0, none⟩), .slice (some ⟨n, 0, none⟩) 4 4] (w.alloc (.cells #[.string ⟨#[34]⟩, .string ⟨#[120]⟩, .string ⟨#[32, 65, 61, 61, 34, 98, 34]⟩, .string ⟨#[92]⟩] 9)) fun e w' =>
  ∃ x : List UInt8, x.length ≤ 300 ∧ e = .returned (.string (bs x)) ∧ Tp w' tb (k + 1) ∧ Kp [tb] w w' := by
 subst hn
 exact one_short [[34], [120], [32, 65, 61, 61, 34, 98, 34], [92]] (by decide) (by decide) hk h (by decide)
theorem ltext_any {w0 w : World} {tb : Nat} (hE : Env w0) (hk0 : Kp [] w0 w) (ht0 : w0.heap.size ≤ tb) (h : Tp w tb 0) : Calls Tryz.prog 18 #[.pointer (some ⟨tb, 0, none⟩)] w fun r w' => ∃ s : List UInt8, r = .returned (.string (bs s)) ∧ s.length ≤ 7500 ∧ Kp [tb] w w' := by
 have HN0 := qH (nextL6 (by omega) h)
 have HTB := qH h.lt
 have HE := qH fun W (k : Kp [tb] w W) => hE.kp0 (hk0.off k ht0)
 clear h hE hk0 ht0
 go_enter Tryz.func18, Tryz.ntmps18
 go_wp2_with (go_at_call 35; refine cM (by with_reducible exact HN0.out) ?_; rintro e w1 ⟨r0, hr0, rfl, htp, hk1⟩; have HT1 := qH htp; have HK1 := qH hk1; have HR0 := qH hr0; clear htp hk1 hr0)
 go_loopg [3, 4, 5, 6] r0 (fun g s3 s4 s5 s6 wx => ∃ s : List UInt8, s3 = .string (bs s) ∧ s4 = .int .i64 (g : Int) ∧ g ≤ 5 ∧ s.length + g * 1500 ≤ 7500 ∧ Tq wx tb (1 + (5 - g) * 700) ∧ Kp [tb] w wx)
 case atStart => exact ⟨[], rfl, rfl, by have := HR0.out; omega, by have := HR0.out; simp only [List.length_nil]; omega, ⟨1, by omega, HT1.out⟩, HK1.out⟩
 case round =>
  obtain ⟨s, rfl, rfl, hg, hsl, htq, hk⟩ := hrel
  have HK := qH hk
  rcases gk with _ | g
  ·have hz : ¬ ((0 : Int) < ((0 : Nat) : Int)) := by simp
   clear htq hk hg
   go_wp2
   go_ret
   exact ⟨s, rfl, by omega, HK.out⟩
  ·have hz : (0 : Int) < ((g + 1 : Nat) : Int) := by omega
   have hwk : IntKind.i64.wrap (((g + 1 : Nat) : Int) - 1) = (g : Int) := by rw [IntKind.wrap_i64]; omega
   have HS := qH (spoilt_any (by omega) (Nat.lt_of_lt_of_le HTB.out hk.size) htq)
   have HTW := qH (Nat.lt_of_lt_of_le HTB.out hk.size)
   have HG5 := qH hg
   clear htq hk hg
   go_upto_region 7 with (first
    | (go_at_call 12; refine cM (by with_reducible exact HS.out) ?_; rintro e w2 ⟨v, l, rfl, ho, hl, hsm, htq, hkp⟩; have HK2 := qH (HK.out.trans hkp); have HFM := qH (refGFormat_any (HE.out _ HK2.out) ho.has (by omega) hsm); have HFL := qH (fmtLen l); obtain ⟨f, z, hfe⟩ : ∃ f z, formatG l = (f, z) := ⟨_, _, rfl⟩; rw [hfe] at HFM HFL; have HTQ := qH htq; clear ho hl hsm htq hkp hfe)
    | (go_at_call 23; refine cM (by with_reducible exact HFM.out) ?_; rintro e w3 ⟨rfl, hkp⟩; have HK3 := qH (HK2.out.trans (hkp.mono (by simp))); have HTQ3 := qH (show Tq w3 tb _ from by obtain ⟨k, hk, ht⟩ := HTQ.out; exact ⟨k, hk, ht.kp hkp (by simp)⟩); obtain ⟨k3, hk3, ht3⟩ := HTQ3.out; have HK3N := qH hk3; have HN3 := qH (nextL6 (by omega) ht3); clear hkp hk3 ht3)
    | (go_at_call 35; refine cM (by with_reducible exact HN3.out) ?_; rintro e w4 ⟨r, hr, rfl, htp, hkp⟩; have HT4 := qH htp; have HK4 := qH (HK3.out.trans hkp); clear htp hkp))
   have hfl : f.length ≤ 1024 := HFL.out
   have hr4 : r = 0 ∨ r = 1 ∨ r = 2 ∨ (3 ≤ r) := by omega
   clear hr
   rcases hr4 with rfl | rfl | rfl | hr
   ·have c0 := fun W => @addY Tryz.prog W ⟨#[35, 32]⟩ (bs f) (by (repeat rw [ByteArray.size_append]); (repeat rw [bs_size]); have q1 := z3532; have q2 := z32; have q3 := z44; have q4 := z10; omega)
    have c8 := fun W => @addY Tryz.prog W (⟨#[35, 32]⟩ ++ bs f) ⟨#[10]⟩ (by (repeat rw [ByteArray.size_append]); (repeat rw [bs_size]); have q1 := z3532; have q2 := z32; have q3 := z44; have q4 := z10; omega)
    have c9 := fun W => @addY Tryz.prog W (bs s) ((⟨#[35, 32]⟩ ++ bs f) ++ ⟨#[10]⟩) (by (repeat rw [ByteArray.size_append]); (repeat rw [bs_size]); have q1 := z3532; have q2 := z32; have q3 := z44; have q4 := z10; omega)
    have HF := qH (show bs s ++ ((⟨#[35, 32]⟩ ++ bs f) ++ ⟨#[10]⟩) = bs (s ++ (([35, 32] ++ f) ++ [10])) by (try rw [l3532]); (try rw [l32]); (try rw [l44]); (try rw [l10]); simp only [bs_app])
    have HLN := qH (show (s ++ (([35, 32] ++ f) ++ [10])).length + g * 1500 ≤ 7500 by simp only [List.length_append, List.length_cons, List.length_nil]; omega)
    go_wp2
    rw [HF.out]
    go_roundg g
    case measure => omega
    case rel => exact ⟨_, rfl, rfl, by have := HG5.out; omega, HLN.out, ⟨_, by have := HK3N.out; have := HG5.out; omega, HT4.out⟩, HK4.out⟩
   ·have c0 := fun W => @addY Tryz.prog W ⟨#[32]⟩ (bs f) (by (repeat rw [ByteArray.size_append]); (repeat rw [bs_size]); have q1 := z3532; have q2 := z32; have q3 := z44; have q4 := z10; omega)
    have c1 := fun W => @addY Tryz.prog W (⟨#[32]⟩ ++ bs f) ⟨#[44]⟩ (by (repeat rw [ByteArray.size_append]); (repeat rw [bs_size]); have q1 := z3532; have q2 := z32; have q3 := z44; have q4 := z10; omega)
    have c8 := fun W => @addY Tryz.prog W ((⟨#[32]⟩ ++ bs f) ++ ⟨#[44]⟩) ⟨#[10]⟩ (by (repeat rw [ByteArray.size_append]); (repeat rw [bs_size]); have q1 := z3532; have q2 := z32; have q3 := z44; have q4 := z10; omega)
    have c9 := fun W => @addY Tryz.prog W (bs s) (((⟨#[32]⟩ ++ bs f) ++ ⟨#[44]⟩) ++ ⟨#[10]⟩) (by (repeat rw [ByteArray.size_append]); (repeat rw [bs_size]); have q1 := z3532; have q2 := z32; have q3 := z44; have q4 := z10; omega)
    have HF := qH (show bs s ++ (((⟨#[32]⟩ ++ bs f) ++ ⟨#[44]⟩) ++ ⟨#[10]⟩) = bs (s ++ ((([32] ++ f) ++ [44]) ++ [10])) by (try rw [l3532]); (try rw [l32]); (try rw [l44]); (try rw [l10]); simp only [bs_app])
    have HLN := qH (show (s ++ ((([32] ++ f) ++ [44]) ++ [10])).length + g * 1500 ≤ 7500 by simp only [List.length_append, List.length_cons, List.length_nil]; omega)
    go_wp2
    rw [HF.out]
    go_roundg g
    case measure => omega
    case rel => exact ⟨_, rfl, rfl, by have := HG5.out; omega, HLN.out, ⟨_, by have := HK3N.out; have := HG5.out; omega, HT4.out⟩, HK4.out⟩
   ·have HON := qH fun n hn => oneT (by have := HK3N.out; have := HG5.out; omega) HT4.out n hn
    obtain ⟨sb, hsb⟩ : ∃ b, w4.heap.size = b := ⟨_, rfl⟩
    go_upto_region 13 with (go_at_call 36; refine cM (by with_reducible exact HON.out _ hsb) ?_; rintro e w5 ⟨x, hx, rfl, htp, hkp⟩; have HT5 := qH htp; have HK5 := qH (HK4.out.trans hkp); have c0 := fun W => @addY Tryz.prog W (bs f) (bs x) (by (repeat rw [ByteArray.size_append]); (repeat rw [bs_size]); have q1 := z3532; have q2 := z32; have q3 := z44; have q4 := z10; omega); clear htp hkp)
    have c8 := fun W => @addY Tryz.prog W (bs f ++ bs x) ⟨#[10]⟩ (by (repeat rw [ByteArray.size_append]); (repeat rw [bs_size]); have q1 := z3532; have q2 := z32; have q3 := z44; have q4 := z10; omega)
    have c9 := fun W => @addY Tryz.prog W (bs s) ((bs f ++ bs x) ++ ⟨#[10]⟩) (by (repeat rw [ByteArray.size_append]); (repeat rw [bs_size]); have q1 := z3532; have q2 := z32; have q3 := z44; have q4 := z10; omega)
    have HF := qH (show bs s ++ ((bs f ++ bs x) ++ ⟨#[10]⟩) = bs (s ++ ((f ++ x) ++ [10])) by (try rw [l3532]); (try rw [l32]); (try rw [l44]); (try rw [l10]); simp only [bs_app])
    have HLN := qH (show (s ++ ((f ++ x) ++ [10])).length + g * 1500 ≤ 7500 by simp only [List.length_append, List.length_cons, List.length_nil]; omega)
    go_wp2
    rw [HF.out]
    go_roundg g
    case measure => omega
    case rel => exact ⟨_, rfl, rfl, by have := HG5.out; omega, HLN.out, ⟨_, by have := HK3N.out; have := HG5.out; omega, HT5.out⟩, HK5.out⟩
   ·have hr0 : ((r : Int) == 0) = false := by rw [beq_eq_false_iff_ne]; omega
    have hr1 : ((r : Int) == 1) = false := by rw [beq_eq_false_iff_ne]; omega
    have hr2 : ((r : Int) == 2) = false := by rw [beq_eq_false_iff_ne]; omega
    have c8 := fun W => @addY Tryz.prog W (bs f) ⟨#[10]⟩ (by (repeat rw [ByteArray.size_append]); (repeat rw [bs_size]); have q1 := z3532; have q2 := z32; have q3 := z44; have q4 := z10; omega)
    have c9 := fun W => @addY Tryz.prog W (bs s) ((bs f) ++ ⟨#[10]⟩) (by (repeat rw [ByteArray.size_append]); (repeat rw [bs_size]); have q1 := z3532; have q2 := z32; have q3 := z44; have q4 := z10; omega)
    have HF := qH (show bs s ++ ((bs f) ++ ⟨#[10]⟩) = bs (s ++ ((f) ++ [10])) by (try rw [l3532]); (try rw [l32]); (try rw [l44]); (try rw [l10]); simp only [bs_app])
    have HLN := qH (show (s ++ ((f) ++ [10])).length + g * 1500 ≤ 7500 by simp only [List.length_append, List.length_cons, List.length_nil]; omega)
    go_wp2
    rw [HF.out]
    go_roundg g
    case measure => omega
    case rel => exact ⟨_, rfl, rfl, by have := HG5.out; omega, HLN.out, ⟨_, by have := HK3N.out; have := HG5.out; omega, HT4.out⟩, HK4.out⟩
end Go.Proofs.YtkkibibecgcbmaaGreatDoor
