/- A text off the tape: that of a valid content, or nearly so. -/
import Derived.Test.YtoohnjlghjapnaaDoorZ
import Derived.Test.YtoohnjlghjapnaaDoorV
namespace Go.Proofs.YtoohnjlghjapnaaDoor
open Go.RowKit

/-- What the maker of texts leaves. -/
def TextPost (tb k N : Nat) (w : World) (e : Ending) (w' : World) : Prop :=
  ∃ (B : ByteArray) (k' : Nat), e = .returned (.string B) ∧ Tape w' tb k' ∧ k' ≤ k + N ∧ Kp [tb] w w'
def chs : List (List UInt8) := [[40], [41], [44], [58], [47], [48], [49], [97]]
theorem chs_len : ∀ x, x ∈ chs → x.length = 1 := by decide +kernel

set_option maxHeartbeats 4000000 in
set_option maxRecDepth 100000 in
theorem lawText_any {w : World} {tb k : Nat} (hT : Tape w tb k) (hk : k + tapeN 3 + 4 ≤ 1000000) : Calls Tryd.prog 17 #[.pointer (some ⟨tb, 0, none⟩)] w (TextPost tb k (tapeN 3 + 4) w) := by
  have HG := Lib.hid (gen_ok 3 (by omega) tb k w hT (by omega))
  have HK := Lib.hid hk
  have htl := hT.lt
  clear hT hk
  go_enter Tryd.func17, Tryd.ntmps17
  go_wp2_with fail
  refine HG.out.mono ?_
  rintro e w2 ⟨c, v, k', rfl, hval, hv, hT, hk', hkp⟩
  obtain ⟨va, vn, rfl, -⟩ := hv.form
  have HV := Lib.hid hval
  have T2 := Lib.hid hT
  have K2 := Lib.hid hkp
  have HK2 := Lib.hid hk'
  have HX := Lib.hid (refText_any 3 (by omega) _ c va vn w2 hval hv)
  have hbl : (bs c.txt).size ≤ 31668 := by rw [bs_size]; exact txt_len 3 c hval
  clear hval hv hT hkp hk'
  go_wp2_with fail
  refine HX.out.mono ?_
  rintro e w3 ⟨rfl, hk3⟩
  have T3 := Lib.hid (T2.out.kp hk3 (by simp))
  have K3 := Lib.hid (K2.out.up hk3 (by simp))
  clear hk3
  generalize bs c.txt = B at *
  by_cases hB : B.size = 0
  · go_wp2
    go_ret
    exact ⟨B, k', rfl, T3.out, by have := HK2.out; omega, K3.out⟩
  · have HN := Lib.hid (next_kp 2 (by omega) (by omega) (by have := HK.out; have := HK2.out; omega) T3.out)
    have hBp : 0 < B.size := by omega
    have hBz : ((B.size : Int) == 0) = false := beq_false_of_ne (by omega)
    go_wp2_with fail
    refine HN.out.mono ?_
    rintro e w4 ⟨r, hr, rfl, hT4, hk4⟩
    have T4 := Lib.hid hT4
    have K4 := Lib.hid (K3.out.trans hk4)
    clear hT4 hk4
    by_cases hr0 : r = 0
    · subst hr0
      go_wp2
      go_ret
      exact ⟨B, k' + 1, rfl, T4.out, by have := HK2.out; omega, K4.out⟩
    · have hrz : ((r : Int) == 0) = false := beq_false_of_ne (by omega)
      have HN2 := Lib.hid (next_kp B.size (by omega) (by omega) (by have := HK.out; have := HK2.out; omega) T4.out)
      go_wp2_with fail
      refine HN2.out.mono ?_
      rintro e w5 ⟨q, hq, rfl, hT5, hk5⟩
      have T5 := Lib.hid hT5
      have K5 := Lib.hid (K4.out.trans hk5)
      have HN3 := Lib.hid (next_kp 3 (by omega) (by omega) (by have := HK.out; have := HK2.out; omega) hT5)
      clear hT5 hk5
      go_wp2_with fail
      refine HN3.out.mono ?_
      rintro e w6 ⟨p, hp, rfl, hT6, hk6⟩
      have T6 := Lib.hid hT6
      have K6 := Lib.hid (K5.out.trans hk6)
      clear hT6 hk6
      have hq1 : IntKind.i64.wrap ((q : Int) + 1) = ((q + 1 : Nat) : Int) := by rw [IntKind.wrap_i64]; omega
      have hp3 : p = 0 ∨ p = 1 ∨ p = 2 := by omega
      rcases hp3 with rfl | rfl | rfl
      · go_wp2
        go_quiet (fail)
        go_wp2
        go_ret
        exact ⟨_, k' + 1 + 1 + 1, rfl, T6.out, by have := HK2.out; omega, K6.out.drew nq⟩
      · have HO := Lib.hid (show Calls Tryd.prog 25 #[.pointer (some ⟨tb, 0, none⟩), .slice (some ⟨w6.heap.size, 0, none⟩) 8 8] (w6.alloc (.cells #[.string ⟨#[40]⟩, .string ⟨#[41]⟩, .string ⟨#[44]⟩, .string ⟨#[58]⟩, .string ⟨#[47]⟩, .string ⟨#[48]⟩, .string ⟨#[49]⟩, .string ⟨#[97]⟩] 9)).drew fun e w' => ∃ x, x ∈ chs ∧ e = .returned (.string (bs x)) ∧ Tape w' tb (k' + 1 + 1 + 1 + 1) ∧ Kp [tb] w6.drew w' from one_new (w := w6.drew) chs (by decide) (by decide) (by have := HK.out; have := HK2.out; omega) T6.out)
        have hqB : q ≤ B.size := by omega
        have hq0 : (0 : Int) ≤ (q : Int) + 1 := by omega
        have hqB1 : q + 1 ≤ B.size := by omega
        have hqi : ((q : Int) + 1 ≤ (B.size : Int)) := by omega
        have y1 : (B.extract 0 q).size ≤ 31668 := by rw [ByteArray.size_extract]; omega
        have y2 : (B.extract q B.size).size ≤ 31668 := by rw [ByteArray.size_extract]; omega
        have y3 : (B.extract (q + 1) B.size).size ≤ 31668 := by rw [ByteArray.size_extract]; omega
        have a1 := fun (W : World) (Y : ByteArray) (h : Y.size = 1) => @run_add_str Tryd.prog W (B.extract 0 q) Y (by omega)
        have a2 := fun (W : World) (Y : ByteArray) (h : Y.size = 1) => @run_add_str Tryd.prog W (B.extract 0 q ++ Y) (B.extract q B.size) (by rw [ByteArray.size_append]; omega)
        have a3 := fun (W : World) (Y : ByteArray) (h : Y.size = 1) => @run_add_str Tryd.prog W (B.extract 0 q ++ Y) (B.extract (q + 1) B.size) (by rw [ByteArray.size_append]; omega)
        clear HN HN2 HN3 HG HX
        go_wp2
        go_region_law (first
          | (go_simp; (with_reducible refine HO.out.mono ?_); rintro e wb ⟨x, hx, rfl, hTb, hkb⟩; have Tb := Lib.hid hTb; have Kb := Lib.hid ((K6.out.drew 1).trans hkb); have hxs : (bs x).size = 1 := chs_len x hx; clear hTb hkb hx; generalize bs x = Y at *; have a1' := (fun W => a1 W Y hxs); have a2' := (fun W => a2 W Y hxs); have a3' := (fun W => a3 W Y hxs); dsimp only))
        all_goals
          go_wp2
          go_ret
          exact ⟨_, k' + 1 + 1 + 1 + 1, rfl, Tb.out, by have := HK2.out; omega, Kb.out⟩
      · have HO := Lib.hid (show Calls Tryd.prog 25 #[.pointer (some ⟨tb, 0, none⟩), .slice (some ⟨w6.heap.size, 0, none⟩) 8 8] (w6.alloc (.cells #[.string ⟨#[40]⟩, .string ⟨#[41]⟩, .string ⟨#[44]⟩, .string ⟨#[58]⟩, .string ⟨#[47]⟩, .string ⟨#[48]⟩, .string ⟨#[49]⟩, .string ⟨#[97]⟩] 9)).drew fun e w' => ∃ x, x ∈ chs ∧ e = .returned (.string (bs x)) ∧ Tape w' tb (k' + 1 + 1 + 1 + 1) ∧ Kp [tb] w6.drew w' from one_new (w := w6.drew) chs (by decide) (by decide) (by have := HK.out; have := HK2.out; omega) T6.out)
        have hqB : q ≤ B.size := by omega
        have hq0 : (0 : Int) ≤ (q : Int) + 1 := by omega
        have hqB1 : q + 1 ≤ B.size := by omega
        have hqi : ((q : Int) + 1 ≤ (B.size : Int)) := by omega
        have y1 : (B.extract 0 q).size ≤ 31668 := by rw [ByteArray.size_extract]; omega
        have y2 : (B.extract q B.size).size ≤ 31668 := by rw [ByteArray.size_extract]; omega
        have y3 : (B.extract (q + 1) B.size).size ≤ 31668 := by rw [ByteArray.size_extract]; omega
        have a1 := fun (W : World) (Y : ByteArray) (h : Y.size = 1) => @run_add_str Tryd.prog W (B.extract 0 q) Y (by omega)
        have a2 := fun (W : World) (Y : ByteArray) (h : Y.size = 1) => @run_add_str Tryd.prog W (B.extract 0 q ++ Y) (B.extract q B.size) (by rw [ByteArray.size_append]; omega)
        have a3 := fun (W : World) (Y : ByteArray) (h : Y.size = 1) => @run_add_str Tryd.prog W (B.extract 0 q ++ Y) (B.extract (q + 1) B.size) (by rw [ByteArray.size_append]; omega)
        clear HN HN2 HN3 HG HX
        go_wp2
        go_region_law (first
          | (go_simp; (with_reducible refine HO.out.mono ?_); rintro e wb ⟨x, hx, rfl, hTb, hkb⟩; have Tb := Lib.hid hTb; have Kb := Lib.hid ((K6.out.drew 1).trans hkb); have hxs : (bs x).size = 1 := chs_len x hx; clear hTb hkb hx; generalize bs x = Y at *; have a1' := (fun W => a1 W Y hxs); have a2' := (fun W => a2 W Y hxs); have a3' := (fun W => a3 W Y hxs); dsimp only))
        all_goals
          go_wp2
          go_ret
          exact ⟨_, k' + 1 + 1 + 1 + 1, rfl, Tb.out, by have := HK2.out; omega, Kb.out⟩
end Go.Proofs.YtoohnjlghjapnaaDoor
