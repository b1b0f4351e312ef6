/- The reference's Format. -/
import Derived.Test.YtfpkppgecmbglaaGreatDoorZG
import Derived.Test.YtfpkppgecmbglaaGreatDoorZF
import Derived.Test.YtfpkppgecmbglaaGreatDoorId
import Derived.Test.YtfpkppgecmbglaaGreatDoorLPlain
import Derived.Deep.RegionHeld3
import Derived.Deep.CutBlock
namespace Go.Proofs.YtfpkppgecmbglaaGreatDoor
open Go.RowKit

theorem refPr_any (s : List UInt8) (w : World) (hs : s.length ≤ 1000000000) : Calls Tryz.prog 41 #[.string (bs s)] w fun e w' => e = .returned (.bool (s.all prCh)) ∧ Kp [] w w' :=
  (Nm.printable_any (bs s) w (by rw [bs_size]; omega)).mono fun _ _ ⟨h1, h2⟩ => ⟨by rw [h1, bs_data]; unfold Nm.allIn; rw [text_ch], by rw [h2]; exact Kp.refl _ _⟩
theorem br_app (t : List UInt8) : (⟨#[123]⟩ : ByteArray) ++ bs t ++ ⟨#[125]⟩ = bs (123 :: (t ++ [125])) := by
  show bs [123] ++ bs t ++ bs [125] = _
  rw [bs_app, bs_app]
  rfl
theorem br_app2 (t : List UInt8) : (⟨#[123]⟩ : ByteArray) ++ bs t ++ ⟨#[43, 125]⟩ = bs (123 :: (t ++ [43] ++ [125])) := by
  show bs [123] ++ bs t ++ bs [43, 125] = _
  rw [bs_app, bs_app, List.append_assoc t]
  rfl
set_option maxHeartbeats 4000000 in
set_option maxRecDepth 100000 in
theorem refTail_any (p : Pc) (w : World) (hE : Env w) (hp : Well nmB kyB p) : Calls Tryz.prog 45 #[.agg (gpC p.g)] w fun e w' => e = .returned (.string (bs (tailOf p))) ∧ Kp [] w w' := by
  obtain ⟨k, t, n, m⟩ := p
  obtain ⟨TL, hTL⟩ : ∃ L, tailOf ⟨k, t, n, m⟩ = L := ⟨_, rfl⟩
  rw [hTL]
  obtain ⟨P, hP⟩ : ∃ P, w.heap.size = P := ⟨_, rfl⟩
  obtain ⟨W1, hW1⟩ : ∃ W1, w.alloc (.cells #[.int .i64 (k : Int), .string (bs t), .int .i64 (n : Int), .bool m] 61) = W1 := ⟨_, rfl⟩
  have hA1 : PAt W1 P ⟨(k : Int), t, (n : Int), m⟩ := by rw [← hW1, ← hP]; exact heap_alloc_last w _
  have hk1 : Kp [] w W1 := by rw [← hW1]; exact (Kp.refl [] w).alloc _
  have HK := Lib.hid hk1
  have HIT := Lib.hid (show n ≤ 99 → ∀ W, Kp [] W1 W → Calls Tryz.prog 71 #[.int .i64 (n : Int)] W (fun e w' => e = .returned (.string (bs (Lib.itoa n))) ∧ Kp [] W w') from fun h W hw => itoa_any ((hE.kp0 hk1).kp0 hw) n (by omega) (by omega))
  have HP := Lib.hid hP
  have HW := Lib.hid hW1
  obtain ⟨d0, d1, d2, d3⟩ := pcell hA1
  unfold Pc.g gpC
  simp only
  have h78 := hp.t0
  have hw9 := hp.w9
  have hw0 := hp.w0
  have hp7 := hp.t7
  have hp8 := hp.t8
  simp only at h78 hw9 hw0 hp7 hp8
  have HTL := Lib.hid hTL
  clear hP hW1 hk1 hA1 hE hTL hp
  by_cases e7 : k = 7
  · subst e7
    have hT7 : TL = 123 :: (t ++ [125]) := by rw [← HTL.out]; rfl
    have hT := hT7
    have hts : (bs t).size ≤ 32 := nmB_len (hp7 rfl)
    have hov1 : ¬ 9223372036854775807 < 1 + (bs t).size := by omega
    have hov2 : ¬ 9223372036854775807 < 1 + (bs t).size + 1 := by omega
    have dk : W1.cell? ⟨P, 0, none⟩ = some (.int .i64 7) := d0
    clear d0
    clear h78 hw9 hw0 hp7 hp8
    go_enter Tryz.func45, Tryz.ntmps45
    go_upto_region 1 with fail
    rw [HP.out, show w.alloc (.cells #[.int .i64 7, .string (bs t), .int .i64 (n : Int), .bool m] 61) = W1 from HW.out]
    go_wp2
    go_ret
    rw [hT]
    exact ⟨by rw [br_app]; rfl, HK.out⟩
  by_cases e8 : k = 8
  · subst e8
    have hT8 : TL = 123 :: (t ++ [125]) := by rw [← HTL.out]; rfl
    have hT := hT8
    have hts : (bs t).size ≤ 32 := kyB_len (hp8 rfl)
    have hov1 : ¬ 9223372036854775807 < 1 + (bs t).size := by omega
    have hov2 : ¬ 9223372036854775807 < 1 + (bs t).size + 1 := by omega
    have dk : W1.cell? ⟨P, 0, none⟩ = some (.int .i64 8) := d0
    clear d0
    clear h78 hw9 hw0 hp7 hp8
    go_enter Tryz.func45, Tryz.ntmps45
    go_upto_region 1 with fail
    rw [HP.out, show w.alloc (.cells #[.int .i64 8, .string (bs t), .int .i64 (n : Int), .bool m] 61) = W1 from HW.out]
    go_wp2
    go_ret
    rw [hT]
    exact ⟨by rw [br_app]; rfl, HK.out⟩
  have n7 : ((k : Int) == 7) = false := by rw [beq_eq_false_iff_ne]; omega
  have n8 : ((k : Int) == 8) = false := by rw [beq_eq_false_iff_ne]; omega
  by_cases e9 : k = 9 ∧ 0 < n
  · obtain ⟨rfl, hn0⟩ := e9
    obtain ⟨hn99, hm0⟩ := hw9 rfl
    have dk : W1.cell? ⟨P, 0, none⟩ = some (.int .i64 9) := d0
    clear d0 n7 n8
    have hit : Lib.itoa (n : Int) = decN n := by
      obtain ⟨n', rfl⟩ : ∃ n', n = n' + 1 := ⟨n - 1, by omega⟩
      exact (itoa_dec n' (by omega)).1
    have hI := Lib.hid (HIT.out hn99 W1 (Kp.refl _ _))
    have hgz : (0 : Int) < (n : Int) := by omega
    rw [hit] at hI
    have hds : (bs (decN n)).size ≤ 2 := by show (decN n).length ≤ 2; unfold decN; split <;> simp
    have hov1 : ¬ 9223372036854775807 < 1 + (bs (decN n)).size := by omega
    have hov2 : ¬ 9223372036854775807 < 1 + (bs (decN n)).size + 1 := by omega
    have hov3 : ¬ 9223372036854775807 < 1 + (bs (decN n)).size + 2 := by omega
    cases m with
    | true =>
      have hT : TL = 123 :: (decN n ++ [43] ++ [125]) := by rw [← HTL.out]; unfold tailOf; simp [hn0]
      clear h78 hw9 hw0 hp7 hp8 hm0 hit
      go_enter Tryz.func45, Tryz.ntmps45
      go_upto_region 1 with fail
      rw [HP.out, show w.alloc (.cells #[.int .i64 9, .string (bs t), .int .i64 (n : Int), .bool true] 61) = W1 from HW.out]
      go_wp2_with (go_at_call 71; refine Calls.mono (by with_reducible exact hI.out) ?_; rintro e w2 ⟨rfl, hk2⟩)
      go_ret
      rw [hT]
      exact ⟨by rw [br_app2]; rfl, HK.out.trans hk2⟩
    | false =>
      have hT : TL = 123 :: (decN n ++ [125]) := by rw [← HTL.out]; unfold tailOf; simp [hn0]
      clear h78 hw9 hw0 hp7 hp8 hm0 hit
      go_enter Tryz.func45, Tryz.ntmps45
      go_upto_region 1 with fail
      rw [HP.out, show w.alloc (.cells #[.int .i64 9, .string (bs t), .int .i64 (n : Int), .bool false] 61) = W1 from HW.out]
      go_wp2_with (go_at_call 71; refine Calls.mono (by with_reducible exact hI.out) ?_; rintro e w2 ⟨rfl, hk2⟩)
      go_ret
      rw [hT]
      exact ⟨by rw [br_app]; rfl, HK.out.trans hk2⟩
  have hT : TL = [] := by rw [← HTL.out]; unfold tailOf; rw [if_neg (by simp only; omega), if_neg e9]
  have hn00 : ¬ (0 : Int) < (n : Int) ∨ ((k : Int) == 9) = false := by
    by_cases e : k = 9
    · exact .inl (by have : ¬ 0 < n := fun h => e9 ⟨e, h⟩; omega)
    · exact .inr (by rw [beq_eq_false_iff_ne]; omega)
  clear h78 hw9 hw0 hp7 hp8
  rw [hT]
  by_cases e : k = 9
  · subst e
    have hgz : ¬ (0 : Int) < (n : Int) := by
      rcases hn00 with h | h
      · exact h
      · cases h
    have dk9 : W1.cell? ⟨P, 0, none⟩ = some (.int .i64 9) := d0
    clear d0 n7 n8
    clear hn00
    go_enter Tryz.func45, Tryz.ntmps45
    go_upto_region 1 with fail
    rw [HP.out, show w.alloc (.cells #[.int .i64 9, .string (bs t), .int .i64 (n : Int), .bool m] 61) = W1 from HW.out]
    go_wp2
    go_ret
    exact ⟨rfl, HK.out⟩
  · have n9 : ((k : Int) == 9) = false := by rw [beq_eq_false_iff_ne]; omega
    clear hn00
    go_enter Tryz.func45, Tryz.ntmps45
    go_upto_region 1 with fail
    rw [HP.out, HW.out]
    go_wp2
    go_ret
    exact ⟨rfl, HK.out⟩
end Go.Proofs.YtfpkppgecmbglaaGreatDoor
