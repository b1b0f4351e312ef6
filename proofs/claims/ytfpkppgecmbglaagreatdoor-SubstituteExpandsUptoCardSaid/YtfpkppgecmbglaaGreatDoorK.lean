/- first: one piece at the beginning of a text. -/
import Derived.Test.YtfpkppgecmbglaaGreatDoorJ
namespace Go.Proofs.YtfpkppgecmbglaaGreatDoor
open Go.RowKit

theorem filled_any {k : Nat} {s : List UInt8} {w : World} (hE : Env w) (hk : k = 0 ∨ 2 ≤ k ∧ k ≤ 11) (hl : s.length ≤ 1000000) : Calls Tryz.prog 62 #[.int .i64 (k : Int), .string (bs s)] w (FillPost k s w) := by
  by_cases h : brK k = true → s.head? ≠ some 123
  · exact filled_plain hk h
  · obtain ⟨hb, hs⟩ : brK k = true ∧ s.head? = some 123 := by
      by_cases hb : brK k = true
      · by_cases hs : s.head? = some 123
        · exact ⟨hb, hs⟩
        · exact absurd (fun _ => hs) h
      · exact absurd (fun x => absurd x hb) h
    cases s with
    | nil => cases hs
    | cons b s1 =>
      obtain rfl : b = 123 := by simpa using hs
      rw [List.length_cons] at hl
      have h3 : k = 7 ∨ k = 8 ∨ k = 9 := by
        unfold brK at hb
        simp at hb
        omega
      rcases h3 with h3 | h3 | h3
      · exact filled_name hE (by omega) (.inl h3)
      · exact filled_name hE (by omega) (.inr h3)
      · subst h3
        exact filled_word hE (by omega)
/-- What first answers. -/
def FirstOk (s : List UInt8) (p : Gp) (r : List UInt8) (ok : Bool) : Prop := match firstL nmB kyB s with
  | some (q, r') => p = q.g ∧ r = r' ∧ ok = true
  | none => ok = false
def FirstPost (s : List UInt8) (w : World) (e : Ending) (w' : World) : Prop := ∃ p r ok, e = .returned (.tuple #[.agg (gpC p), .string (bs r), .bool ok]) ∧ Kp [] w w' ∧ FirstOk s p r ok
theorem index_any (s : List UInt8) (w : World) (hs : s.length ≤ 1000000) (ha : s.all prCh = true) : Calls Tryz.prog 59 #[.string (bs s), .string ⟨#[36, 37]⟩] w fun e w' => e = .returned (.int .i64 (if (spanL plainCh s).2 = [] then -1 else ((spanL plainCh s).1.length : Int))) ∧ Kp [] w w' := by
  have h := Tryz.strings_IndexAny_laid (bs s) ⟨#[36, 37]⟩ w (by rw [bs_size]; omega) (by decide) (fun j b hb => pr_lt (List.all_eq_true.1 ha b (List.mem_of_getElem? hb))) (fun j b hb => by
    have : b ∈ ([36, 37] : List UInt8) := List.mem_of_getElem? hb
    simp at this
    rcases this with rfl | rfl <;> decide)
  rw [bs_data, show (⟨#[36, 37]⟩ : ByteArray).data.toList = [36, 37] from rfl, index_plain] at h
  exact h.mono fun _ _ ⟨h1, h2⟩ => ⟨h1, Kp.of_below h2⟩
set_option maxHeartbeats 4000000 in
set_option maxRecDepth 100000 in
/-- A text without "$" and "%%", and one at the beginning. -/
theorem first_text {s : List UInt8} {w : World} (hs : s.length ≤ 1000000) (ha : s.all prCh = true) (hne : (spanL plainCh s).1 ≠ []) : Calls Tryz.prog 30 #[.string (bs s)] w (FirstPost s w) := by
  have HI := Lib.hid fun W => index_any s W hs ha
  have hf : firstL nmB kyB s = some (⟨1, (spanL plainCh s).1, 0, false⟩, (spanL plainCh s).2) := by unfold firstL; rw [if_neg hne]
  obtain ⟨he, _, _⟩ := spanL_eq plainCh s
  have hEND : FirstOk s ⟨1, (spanL plainCh s).1, 0, false⟩ (spanL plainCh s).2 true := by unfold FirstOk; rw [hf]; exact ⟨rfl, rfl, rfl⟩
  clear hf
  have hR0 : PAt (w.alloc (.cells #[.int .i64 0, .string ⟨#[]⟩, .int .i64 0, .bool false] 61)) w.heap.size gp0 := PAt.new w gp0
  have hK0 : Kp [] w (w.alloc (.cells #[.int .i64 0, .string ⟨#[]⟩, .int .i64 0, .bool false] 61)) := (Kp.refl [] w).alloc _
  obtain ⟨W, hW⟩ : ∃ W, w.alloc (.cells #[.int .i64 0, .string ⟨#[]⟩, .int .i64 0, .bool false] 61) = W := ⟨_, rfl⟩
  obtain ⟨R, hRR⟩ : ∃ R, w.heap.size = R := ⟨_, rfl⟩
  have hwR : w.heap.size ≤ R := by omega
  rw [hW] at hR0 hK0
  rw [hRR] at hR0
  have HRA := Lib.hid hR0
  have HKA := Lib.hid hK0
  have HW := Lib.hid hW
  have HRR := Lib.hid hRR
  clear hR0 hK0 hW hRR
  generalize (spanL plainCh s).1 = a at *
  generalize (spanL plainCh s).2 = r at *
  have HP := Lib.hid fun W => textPiece_any a W
  simp only [gpC] at HP
  by_cases hr : r = []
  · subst hr
    rw [if_pos rfl] at HI
    rw [List.append_nil] at he
    subst he
    have HEND := Lib.hid hEND
    clear hEND hne ha
    go_enter Tryz.func30, Tryz.ntmps30
    go_wp2_with (first
      | (go_at_call 59; rw [HRR.out, HW.out]; refine Calls.mono (by with_reducible exact HI.out _) ?_; rintro e W0 ⟨rfl, hk0⟩; have HR0 := Lib.hid (HRA.out.kp hk0 (by simp)); have HK0 := Lib.hid (HKA.out.trans hk0); have fR := fun o => HR0.out.frz (o := o); obtain ⟨r0, r1, r2, r3⟩ := HR0.out.cells; simp only [gp0] at r0 r1 r2 r3; clear hk0)
      | (go_at_call 60; refine Calls.mono (by with_reducible exact HP.out _) ?_; rintro e w1 ⟨rfl, hk1⟩; have HR1 := Lib.hid (HR0.out.kp hk1 (by simp)); have HK1 := Lib.hid (HK0.out.trans hk1); have fR1 := fun o => HR1.out.frz (o := o); obtain ⟨y0, y1, y2, y3⟩ := HR1.out.cells; simp only [gp0] at y0 y1 y2 y3; clear hk1))
    exact pc_end3 rfl (HR1.out.all ⟨1, a, 0, false⟩) rfl rfl rfl rfl ⟨⟨1, a, 0, false⟩, [], true, rfl, HK1.out.setAll hwR _ _ _ _, HEND.out⟩
  · rw [if_neg hr] at HI
    have hpos : 0 < a.length := List.length_pos_iff.2 hne
    have e1 : (bs s).extract 0 a.length = bs a := by rw [bs_take, ← he, List.take_left' rfl]
    have e2 : (bs s).extract a.length (bs s).size = bs r := by rw [bs_drop, ← he, List.drop_left' rfl]
    have hle : a.length ≤ (bs s).size := by rw [bs_size, ← he, List.length_append]; omega
    have HEND := Lib.hid hEND
    clear hEND hne ha he
    generalize hal : a.length = n at *
    have hn0 : ¬ ((n : Int) < 0) := by omega
    have hn1 : (0 : Int) < (n : Int) := by omega
    have hle2 : (n : Int) ≤ ((bs s).size : Int) := by omega
    clear hal hr
    go_enter Tryz.func30, Tryz.ntmps30
    go_wp2_with (first
      | (go_at_call 59; rw [HRR.out, HW.out]; refine Calls.mono (by with_reducible exact HI.out _) ?_; rintro e W0 ⟨rfl, hk0⟩; have HR0 := Lib.hid (HRA.out.kp hk0 (by simp)); have HK0 := Lib.hid (HKA.out.trans hk0); have fR := fun o => HR0.out.frz (o := o); obtain ⟨r0, r1, r2, r3⟩ := HR0.out.cells; simp only [gp0] at r0 r1 r2 r3; clear hk0))
    go_region_with (go_at_call 60; refine Calls.mono (by with_reducible exact HP.out _) ?_; rintro e w1 ⟨rfl, hk1⟩; have HK1 := Lib.hid (((Kp.refl [] W0).drew 1).trans hk1); have HR1 := Lib.hid (HR0.out.kp HK1.out (by simp)); have fR1 := fun o => HR1.out.frz (o := o); obtain ⟨y0, y1, y2, y3⟩ := HR1.out.cells; simp only [gp0] at y0 y1 y2 y3; clear hk1)
    all_goals go_wp2
    all_goals exact pc_end3 rfl (HR1.out.all ⟨1, a, 0, false⟩) rfl rfl rfl rfl ⟨⟨1, a, 0, false⟩, _, _, rfl, (HK0.out.trans HK1.out).setAll hwR _ _ _ _, HEND.out⟩
end Go.Proofs.YtfpkppgecmbglaaGreatDoor
