/- Ig -/
import Derived.Test.YtkkibibecgcbmaaGreatDoorQIf
import Derived.Test.YtkkibibecgcbmaaGreatDoorQH
open Go.Lib renaming hid → qH
open Go.Calls renaming mono → cM
set_option maxRecDepth 100000
set_option maxHeartbeats 16000000
namespace Go.Proofs.YtkkibibecgcbmaaGreatDoor
open Go.RowKit
theorem firstE_app : ∀ a b : List Tm, firstE (a ++ b) = if firstE a = 0 then firstE b else firstE a
 | [], b => by simp [firstE]
 | t :: a, b => by
  have ih := firstE_app a b
  rw [List.cons_append, firstE, firstE]
  by_cases h : termE t = 0
  ·rw [if_pos h, if_pos h, ih]
  ·rw [if_neg h, if_neg h, if_neg h]
theorem firstE_ref {l : List Tm} {i : Nat} {x : Tm} (hx : l[i]? = some x) (hf : firstE (l.take i) = 0) (ht : termE x ≠ 0) : firstE l = termE x := by
 obtain ⟨hi, hxi⟩ := List.getElem?_eq_some_iff.1 hx
 rw [← List.take_append_drop i l, firstE_app, if_pos hf, List.drop_eq_getElem_cons hi, hxi, firstE, if_neg ht]
theorem firstE_snoc {l : List Tm} {i : Nat} {x : Tm} (hx : l[i]? = some x) (hf : firstE (l.take i) = 0) (ht : termE x = 0) : firstE (l.take (i + 1)) = 0 := by
 rw [List.take_add_one, hx, firstE_app, if_pos hf]
 simp [firstE, ht]
theorem cntK_snocI {l : List Tm} {i : Nat} {x : Tm} (hx : l[i]? = some x) (k : Int) : ((cntK (l.take (i + 1)) k : Nat) : Int) = (cntK (l.take i) k : Int) + (if x.key = k then 1 else 0) := by
 unfold cntK
 rw [List.take_add_one, hx, List.filter_append, List.length_append]
 by_cases h : x.key = k
 ·rw [if_pos h]
  simp [h]
 ·rw [if_neg h]
  simp [h]
theorem cntK_leT (l : List Tm) (k : Int) : cntK l k ≤ l.length := List.length_filter_le _ _
theorem refGCheck_any {w : World} (hE : Env w) {v : Value} {l : List Tm} (hh : tmT.Has w v l) (hl : l.length ≤ 1000000) (hs : ∀ x ∈ l, SmT x) : Calls Tryz.prog 16 #[v] w fun r w' => r = .returned (.int .i64 (checkE l)) ∧ Kp [] w w' := by
 obtain ⟨va, vc, rfl, hrow⟩ := hh.form
 obtain ⟨E, hr0⟩ : ∃ r0, checkE l = r0 := ⟨_, rfl⟩
 rw [hr0]
 unfold checkE at hr0
 by_cases h0 : l = []
 ·rw [if_pos h0] at hr0
  subst h0
  have hk := Kp.refl [] w
  subst hr0
  clear hE hs hh hrow
  go_enter Tryz.func16, Tryz.ntmps16
  go_wp2
  go_ret
  exact ⟨rfl, hk⟩
 have hl0 : 0 < l.length := List.length_pos_iff.2 h0
 have hz0 : ((l.length : Int) == 0) = false := by rw [beq_eq_false_iff_ne]; omega
 rw [if_neg h0] at hr0
 by_cases h16 : 16 < l.length
 ·rw [if_pos h16] at hr0
  have hz16 : (16 : Int) < (l.length : Int) := by omega
  have hk := Kp.refl [] w
  subst hr0
  clear hE hs hh hrow h0 hl0
  go_enter Tryz.func16, Tryz.ntmps16
  go_wp2
  go_ret
  exact ⟨rfl, hk⟩
 have hz16 : ¬ (16 : Int) < (l.length : Int) := by omega
 rw [if_neg h16] at hr0
 have HROW := qH hrow
 have HSM := qH hs
 have HE := qH hE
 have HEX0 := qH fun (c : Int) (h : firstE l ≠ 0) (h2 : firstE l = c) => (show E = c by rw [← hr0, if_pos h, h2])
 have HEND := qH fun (h : firstE l = 0) => (show E = if 1 < cntK l 23 ∨ 1 < cntK l 24 then 105 else 0 by rw [← hr0, if_neg (by rw [h]; simp)])
 have hl16 : l.length ≤ 16 := by omega
 clear hr0 hrow hs hE hh h0 h16 hl0
 go_enter Tryz.func16, Tryz.ntmps16
 go_wp2
 go_loopg [3, 4, 5] l.length (fun g s3 s4 s5 wx => ∃ i : Nat, s5 = .int .i64 (i : Int) ∧ s3 = .int .i64 ((cntK (l.take i) 23 : Nat) : Int) ∧ s4 = .int .i64 ((cntK (l.take i) 24 : Nat) : Int) ∧ firstE (l.take i) = 0 ∧ i + g = l.length ∧ Kp [] w wx)
 case atStart => exact ⟨0, rfl, rfl, rfl, rfl, by omega, Kp.refl _ _⟩
 case round =>
  obtain ⟨i, rfl, rfl, rfl, hf, hig, hkp⟩ := hrel
  have HK := qH hkp
  have HIG := qH hig
  by_cases hi : i < l.length
  ·obtain ⟨g, rfl⟩ : ∃ g, gk = g + 1 := ⟨gk - 1, by omega⟩
   obtain ⟨b, o, rfl, hbl, hr⟩ := HROW.out (by rintro rfl; simp at hi)
   obtain ⟨x, hx⟩ : ∃ x, l[i]? = some x := ⟨_, List.getElem?_eq_getElem hi⟩
   have hiz : (i : Int) < (l.length : Int) := by omega
   obtain ⟨d0, d1, d2, d3⟩ := tmRow (hr.keep (hkp.block b hbl (by simp))) hx
   have hwi : IntKind.i64.wrap ((i : Int) + 1) = ((i + 1 : Nat) : Int) := by rw [IntKind.wrap_i64]; omega
   have hsx := HSM.out x (List.mem_of_getElem? hx)
   have HEX := qH fun (c : Int) (h : termE x ≠ 0) (h2 : termE x = c) => HEX0.out c (by rw [firstE_ref hx hf h]; exact h) ((firstE_ref hx hf h).trans h2)
   have HF := qH fun (h : termE x = 0) => firstE_snoc hx hf h
   have hc1 := cntK_snocI hx 23
   have hc2 := cntK_snocI hx 24
   have l1 := cntK_leT (l.take i) 23
   have l2 := cntK_leT (l.take i) 24
   rw [List.length_take] at l1 l2
   obtain ⟨C1, hC1⟩ : ∃ c, cntK (l.take i) 23 = c := ⟨_, rfl⟩
   obtain ⟨C2, hC2⟩ : ∃ c, cntK (l.take i) 24 = c := ⟨_, rfl⟩
   rw [hC1] at hc1 l1 ⊢
   rw [hC2] at hc2 l2 ⊢
   have HC1 := qH hc1
   have HC2 := qH hc2
   have hw1 : IntKind.i64.wrap ((C1 : Int) + 1) = (C1 : Int) + 1 := by rw [IntKind.wrap_i64]; omega
   have hw2 : IntKind.i64.wrap ((C2 : Int) + 1) = (C2 : Int) + 1 := by rw [IntKind.wrap_i64]; omega
   obtain ⟨B8, hB8⟩ : ∃ B, wr.heap.size = B := ⟨_, rfl⟩
   obtain ⟨w7, hw7⟩ : ∃ W, wr.alloc (.cells #[.int .i64 x.key, .string (bs x.name), .int .i64 x.op, .string (bs x.val)] 31) = W := ⟨_, rfl⟩
   have hk7 : Kp [] wr w7 := by rw [← hw7]; exact (Kp.refl [] _).alloc _
   have hma : MAt w7 B8 x := by rw [← hw7, ← hB8]; exact MAt.new wr x
   obtain ⟨c0, c1, c2, c3⟩ := hma.cells
   have HB := qH hma
   have HK := qH (HK.out.trans hk7)
   have HNM := qH fun W => refNamed_any x hsx W
   clear hkp hr hx hig hbl hc1 hc2 hC1 hC2 l1 l2 hk7 hma hf
   by_cases k1 : x.key < 1
   ·have HTE := qH (show termE x = 100 by unfold termE; rw [if_pos (.inl k1)])
    have hE1 : E = 100 := HEX.out _ (by rw [HTE.out]; decide) HTE.out
    subst hE1
    clear HEX HEND
    go_wp2
    go_ret
    exact ⟨rfl, HK.out⟩
   by_cases k24 : (24 : Int) < x.key
   ·have HTE := qH (show termE x = 100 by unfold termE; rw [if_pos (.inr k24)])
    have hE1 : E = 100 := HEX.out _ (by rw [HTE.out]; decide) HTE.out
    subst hE1
    clear HEX HEND
    go_wp2
    go_ret
    exact ⟨rfl, HK.out⟩
   have hte : termE x = if nmT x.key x.name = false then 101 else if (opT x.key).contains x.op = false then 102 else if vlT x = false then 103 else 0 := by unfold termE; rw [if_neg (by omega)]
   have HAL := qH fun W => refAllowed_any x (by omega) (by omega) W
   cases hn : nmT x.key x.name with
   | false =>
    rw [hn] at HNM
    have HTE := qH (show termE x = 101 by rw [hte, if_pos hn])
    clear hte hn
    have hE1 : E = 101 := HEX.out _ (by rw [HTE.out]; decide) HTE.out
    subst hE1
    clear HEX HEND
    go_wp2_with (go_at_call 40; refine cM (by with_reducible exact HNM.out _) ?_; rintro e w2 ⟨rfl, hk2⟩; have HK := qH (HK.out.trans hk2); have HB := qH (HB.out.kp0 hk2); clear c0 c1 c2 c3; obtain ⟨c0, c1, c2, c3⟩ := HB.out.cells; clear hk2)
    go_ret
    exact ⟨rfl, HK.out⟩
   | true =>
    rw [hn] at HNM
    rw [if_neg (by rw [hn]; simp)] at hte
    cases ha : (opT x.key).contains x.op with
    | false =>
     rw [ha] at HAL
     have HTE := qH (show termE x = 102 by rw [hte, if_pos ha])
     clear hte hn ha
     have hE1 : E = 102 := HEX.out _ (by rw [HTE.out]; decide) HTE.out
     subst hE1
     clear HEX HEND
     go_wp2_with (first
      | (go_at_call 40; refine cM (by with_reducible exact HNM.out _) ?_; rintro e w2 ⟨rfl, hk2⟩; have HK := qH (HK.out.trans hk2); have HB := qH (HB.out.kp0 hk2); clear c0 c1 c2 c3; obtain ⟨c0, c1, c2, c3⟩ := HB.out.cells; clear hk2)
      | (go_at_call 41; refine cM (by with_reducible exact HAL.out _) ?_; rintro e w2 ⟨rfl, hk2⟩; have HK := qH (HK.out.trans hk2); have HB := qH (HB.out.kp0 hk2); clear c0 c1 c2 c3; obtain ⟨c0, c1, c2, c3⟩ := HB.out.cells; clear hk2))
     go_ret
     exact ⟨rfl, HK.out⟩
    | true =>
     rw [ha] at HAL
     rw [if_neg (by rw [ha]; simp)] at hte
     have HRT := qH fun W (h : Kp [] w W) => refRight_any (HE.out.kp0 h) x hsx (by omega) (by omega) hn ha
     cases hv : vlT x with
     | false =>
      rw [hv] at HRT
      have HTE := qH (show termE x = 103 by rw [hte, if_pos hv])
      clear hte hn ha hv
      have hE1 : E = 103 := HEX.out _ (by rw [HTE.out]; decide) HTE.out
      subst hE1
      clear HEX HEND
      go_wp2_with (first
       | (go_at_call 40; refine cM (by with_reducible exact HNM.out _) ?_; rintro e w2 ⟨rfl, hk2⟩; have HK := qH (HK.out.trans hk2); have HB := qH (HB.out.kp0 hk2); clear c0 c1 c2 c3; obtain ⟨c0, c1, c2, c3⟩ := HB.out.cells; clear hk2)
       | (go_at_call 41; refine cM (by with_reducible exact HAL.out _) ?_; rintro e w2 ⟨rfl, hk2⟩; have HK := qH (HK.out.trans hk2); have HB := qH (HB.out.kp0 hk2); clear c0 c1 c2 c3; obtain ⟨c0, c1, c2, c3⟩ := HB.out.cells; clear hk2)
       | (go_at_call 42; refine cM (by with_reducible exact HRT.out _ HK.out) ?_; rintro e w2 ⟨rfl, hk2⟩; have HK := qH (HK.out.trans hk2); have HB := qH (HB.out.kp0 hk2); clear c0 c1 c2 c3; obtain ⟨c0, c1, c2, c3⟩ := HB.out.cells; clear hk2))
      go_ret
      exact ⟨rfl, HK.out⟩
     | true =>
      rw [hv] at HRT
      have HF1 := qH (HF.out (show termE x = 0 by rw [hte, if_neg (by rw [hv]; simp)]))
      clear hte hn ha hv HEX HF
      by_cases k23 : x.key = 23
      ·rw [if_pos k23] at HC1
       rw [if_neg (by omega)] at HC2
       have q1 : (x.key == 23) = true := by rw [beq_iff_eq]; exact k23
       have q2 : (x.key == 24) = false := by rw [beq_eq_false_iff_ne]; omega
       clear k23
       go_wp2_with (first
        | (go_at_call 40; refine cM (by with_reducible exact HNM.out _) ?_; rintro e w2 ⟨rfl, hk2⟩; have HK := qH (HK.out.trans hk2); have HB := qH (HB.out.kp0 hk2); clear c0 c1 c2 c3; obtain ⟨c0, c1, c2, c3⟩ := HB.out.cells; clear hk2)
        | (go_at_call 41; refine cM (by with_reducible exact HAL.out _) ?_; rintro e w2 ⟨rfl, hk2⟩; have HK := qH (HK.out.trans hk2); have HB := qH (HB.out.kp0 hk2); clear c0 c1 c2 c3; obtain ⟨c0, c1, c2, c3⟩ := HB.out.cells; clear hk2)
        | (go_at_call 42; refine cM (by with_reducible exact HRT.out _ HK.out) ?_; rintro e w2 ⟨rfl, hk2⟩; have HK := qH (HK.out.trans hk2); have HB := qH (HB.out.kp0 hk2); clear c0 c1 c2 c3; obtain ⟨c0, c1, c2, c3⟩ := HB.out.cells; clear hk2))
       go_roundg g
       case measure => omega
       case rel => exact ⟨i + 1, rfl, by rw [HC1.out], by rw [HC2.out]; simp, HF1.out, by have := HIG.out; omega, HK.out⟩
      ·rw [if_neg k23] at HC1
       have q1 : (x.key == 23) = false := by rw [beq_eq_false_iff_ne]; exact k23
       by_cases k2 : x.key = 24
       ·rw [if_pos k2] at HC2
        have q2 : (x.key == 24) = true := by rw [beq_iff_eq]; exact k2
        clear k23 k2
        go_wp2_with (first
         | (go_at_call 40; refine cM (by with_reducible exact HNM.out _) ?_; rintro e w2 ⟨rfl, hk2⟩; have HK := qH (HK.out.trans hk2); have HB := qH (HB.out.kp0 hk2); clear c0 c1 c2 c3; obtain ⟨c0, c1, c2, c3⟩ := HB.out.cells; clear hk2)
         | (go_at_call 41; refine cM (by with_reducible exact HAL.out _) ?_; rintro e w2 ⟨rfl, hk2⟩; have HK := qH (HK.out.trans hk2); have HB := qH (HB.out.kp0 hk2); clear c0 c1 c2 c3; obtain ⟨c0, c1, c2, c3⟩ := HB.out.cells; clear hk2)
         | (go_at_call 42; refine cM (by with_reducible exact HRT.out _ HK.out) ?_; rintro e w2 ⟨rfl, hk2⟩; have HK := qH (HK.out.trans hk2); have HB := qH (HB.out.kp0 hk2); clear c0 c1 c2 c3; obtain ⟨c0, c1, c2, c3⟩ := HB.out.cells; clear hk2))
        go_roundg g
        case measure => omega
        case rel => exact ⟨i + 1, rfl, by rw [HC1.out]; simp, by rw [HC2.out], HF1.out, by have := HIG.out; omega, HK.out⟩
       ·rw [if_neg k2] at HC2
        have q2 : (x.key == 24) = false := by rw [beq_eq_false_iff_ne]; exact k2
        clear k23 k2
        go_wp2_with (first
         | (go_at_call 40; refine cM (by with_reducible exact HNM.out _) ?_; rintro e w2 ⟨rfl, hk2⟩; have HK := qH (HK.out.trans hk2); have HB := qH (HB.out.kp0 hk2); clear c0 c1 c2 c3; obtain ⟨c0, c1, c2, c3⟩ := HB.out.cells; clear hk2)
         | (go_at_call 41; refine cM (by with_reducible exact HAL.out _) ?_; rintro e w2 ⟨rfl, hk2⟩; have HK := qH (HK.out.trans hk2); have HB := qH (HB.out.kp0 hk2); clear c0 c1 c2 c3; obtain ⟨c0, c1, c2, c3⟩ := HB.out.cells; clear hk2)
         | (go_at_call 42; refine cM (by with_reducible exact HRT.out _ HK.out) ?_; rintro e w2 ⟨rfl, hk2⟩; have HK := qH (HK.out.trans hk2); have HB := qH (HB.out.kp0 hk2); clear c0 c1 c2 c3; obtain ⟨c0, c1, c2, c3⟩ := HB.out.cells; clear hk2))
        go_roundg g
        case measure => omega
        case rel => exact ⟨i + 1, rfl, by rw [HC1.out]; simp, by rw [HC2.out]; simp, HF1.out, by have := HIG.out; omega, HK.out⟩
  ·have hiz : ¬ ((i : Int) < (l.length : Int)) := by omega
   have hie : l.take i = l := List.take_of_length_le (by omega)
   rw [hie] at hf ⊢
   have hEE := HEND.out hf
   have l1 := cntK_leT l 23
   obtain ⟨C1, hC1⟩ : ∃ c, cntK l 23 = c := ⟨_, rfl⟩
   obtain ⟨C2, hC2⟩ : ∃ c, cntK l 24 = c := ⟨_, rfl⟩
   rw [hC1, hC2] at hEE
   rw [hC1, hC2]
   clear HEND HEX0 hkp hig hi hie hf hC1 hC2 l1
   by_cases g1 : 1 < C1
   ·rw [if_pos (.inl g1)] at hEE
    subst hEE
    have g1z : (1 : Int) < (C1 : Int) := by omega
    go_wp2
    go_ret
    exact ⟨rfl, HK.out⟩
   ·have g1z : ¬ (1 : Int) < (C1 : Int) := by omega
    by_cases g2 : 1 < C2
    ·rw [if_pos (.inr g2)] at hEE
     subst hEE
     have g2z : (1 : Int) < (C2 : Int) := by omega
     go_wp2
     go_ret
     exact ⟨rfl, HK.out⟩
    ·rw [if_neg (by rintro (h | h); exact g1 h; exact g2 h)] at hEE
     subst hEE
     have g2z : ¬ (1 : Int) < (C2 : Int) := by omega
     go_wp2
     go_ret
     exact ⟨rfl, HK.out⟩
end Go.Proofs.YtkkibibecgcbmaaGreatDoor
