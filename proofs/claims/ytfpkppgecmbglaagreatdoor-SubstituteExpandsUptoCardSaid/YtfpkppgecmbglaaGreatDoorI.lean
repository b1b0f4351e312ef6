/- filled: a piece of a known kind, and what braces say. -/
import Derived.Test.YtfpkppgecmbglaaGreatDoorH
namespace Go.Proofs.YtfpkppgecmbglaaGreatDoor
open Go.RowKit

theorem hasPrefix_one (c : UInt8) (l : List UInt8) : Lib.hasPrefix l [c] = (l.head? == some c) := by
  cases l with
  | nil => rfl
  | cons b r =>
    simp only [Lib.hasPrefix, List.isPrefixOf, Bool.and_true, List.head?_cons]
    rw [Bool.eq_iff_iff, beq_iff_eq, beq_iff_eq]
    exact ⟨fun h => by rw [h], fun h => (Option.some.inj h).symm⟩
theorem pre_any (l : List UInt8) (c : UInt8) (w : World) : Calls Tryz.prog 44 #[.string (bs l), .string ⟨#[c]⟩] w fun r w' => r = .returned (.bool (l.head? == some c)) ∧ w = w' := by
  have h := Tryz.strings_HasPrefix (bs l) ⟨#[c]⟩ w
  rw [bs_data, show (⟨#[c]⟩ : ByteArray).data.toList = [c] from rfl, hasPrefix_one] at h
  exact h.mono fun _ _ ⟨h1, h2⟩ => ⟨h1, h2.symm⟩
theorem suffix_one (l : List UInt8) (c : UInt8) : Lib.hasSuffix l [c] = (l.getLast? == some c) := by
  unfold Lib.hasSuffix
  rw [Bool.eq_iff_iff, List.isSuffixOf_iff_suffix, beq_iff_eq]
  constructor
  · rintro ⟨t, rfl⟩
    simp
  · intro h
    obtain ⟨t, rfl⟩ := List.getLast?_eq_some_iff.1 h
    exact ⟨t, rfl⟩
/-- A text without the plus at its end. -/
def plusL (l : List UInt8) : List UInt8 := if l.getLast? = some 43 then l.dropLast else l
theorem cutSuffix_any (l : List UInt8) (w : World) (hl : l.length ≤ 1000000000000) : Calls Tryz.prog 104 #[.string (bs l), .string ⟨#[43]⟩] w fun r w' => r = .returned (.tuple #[.string (bs (plusL l)), .bool (l.getLast? == some 43)]) ∧ w = w' := by
  have h := Tryz.strings_CutSuffix (bs l) ⟨#[43]⟩ w (by rw [bs_size]; omega)
  rw [bs_data, show (⟨#[43]⟩ : ByteArray).data.toList = [43] from rfl, suffix_one] at h
  have e : (⟨(Lib.trimSuffix l [43]).toArray⟩ : ByteArray) = bs (plusL l) := by
    unfold Lib.trimSuffix plusL
    rw [suffix_one]
    by_cases hp : l.getLast? = some 43
    · rw [if_pos (by simpa using hp), if_pos hp, List.dropLast_eq_take]
      rfl
    · rw [if_neg (by simpa using hp), if_neg hp]
      rfl
  rw [e] at h
  exact h.mono fun _ _ ⟨h1, h2⟩ => ⟨h1, h2.symm⟩
theorem cut_any {w : World} (hE : Env w) (l : List UInt8) (hl : l.length ≤ 1000000000) : Calls Tryz.prog 103 #[.string (bs l), .string ⟨#[125]⟩] w fun r w' => r = .returned (.tuple #[.string (bs (Lib.cut l [125]).1), .string (bs (Lib.cut l [125]).2.1), .bool (Lib.cut l [125]).2.2]) ∧ Kp [] w w' := by
  obtain ⟨m, hm⟩ := hE.max
  have h := Tryz.strings_Cut (bs l) ⟨#[125]⟩ m w (by rw [bs_size]; omega) hm
  rw [bs_data, show (⟨#[125]⟩ : ByteArray).data.toList = [125] from rfl] at h
  exact h.mono fun _ _ ⟨h1, n, h2⟩ => ⟨h1, by rw [h2]; exact (Kp.refl [] w).drew n⟩
theorem cut_len (l : List UInt8) : (Lib.cut l [125]).1.length ≤ l.length ∧ (Lib.cut l [125]).2.1.length ≤ l.length := by
  have e := spanL_len noBr l
  rw [cut_brace]
  cases h : (spanL noBr l).2 with
  | nil => exact ⟨Nat.le_refl _, Nat.zero_le _⟩
  | cons b r =>
    rw [h, List.length_cons] at e
    exact ⟨by simp only; omega, by simp only; omega⟩
theorem countL_eq (a : List UInt8) : countL a = (numN (plusL a)).map fun n => (n, a.getLast? == some 43) := by
  unfold countL plusL
  by_cases h : a.getLast? = some 43
  · rw [if_pos h, if_pos h, h]
    rfl
  · rw [if_neg h, if_neg h, show (a.getLast? == some 43) = false by simpa using h]
theorem plusL_len (a : List UInt8) : (plusL a).length ≤ a.length := by
  unfold plusL
  split
  · simp
  · exact Nat.le_refl _

/-- What filled answers. -/
def FillOk (k : Nat) (s : List UInt8) (p : Gp) (r : List UInt8) (ok : Bool) : Prop := match placeL nmB kyB k s with
  | some (q, r') => p = q.g ∧ r = r' ∧ ok = true
  | none => ok = false
def FillPost (k : Nat) (s : List UInt8) (w : World) (e : Ending) (w' : World) : Prop := ∃ p r ok, e = .returned (.tuple #[.agg (gpC p), .string (bs r), .bool ok]) ∧ Kp [] w w' ∧ FillOk k s p r ok
theorem fill_plain {k : Nat} {s : List UInt8} (hk : k = 0 ∨ 2 ≤ k ∧ k ≤ 11) (h : brK k = true → s.head? ≠ some 123) : FillOk k s ⟨k, [], 0, false⟩ s (okG ⟨k, [], 0, false⟩) := by
  unfold FillOk placeL
  by_cases h0 : k = 0
  · subst h0
    rw [if_pos rfl]
    rfl
  rw [if_neg h0]
  by_cases h7 : k = 7
  · subst h7
    rw [if_pos rfl, braceL_no (h (by decide))]
    rfl
  rw [if_neg h7]
  by_cases h8 : k = 8
  · subst h8
    rw [if_pos rfl, braceL_no (h (by decide))]
    rfl
  rw [if_neg h8]
  by_cases h9 : k = 9
  · subst h9
    rw [if_neg (fun x => h (by decide) x.2)]
    exact ⟨rfl, rfl, by decide⟩
  rw [if_neg (fun x => h9 x.1)]
  refine ⟨rfl, rfl, ?_⟩
  have : k = 2 ∨ k = 3 ∨ k = 4 ∨ k = 5 ∨ k = 6 ∨ k = 10 ∨ k = 11 := by omega
  rcases this with rfl | rfl | rfl | rfl | rfl | rfl | rfl <;> decide
set_option maxHeartbeats 4000000 in
set_option maxRecDepth 100000 in
theorem filled_plain {k : Nat} {s : List UInt8} {w : World} (hk : k = 0 ∨ 2 ≤ k ∧ k ≤ 11) (h : brK k = true → s.head? ≠ some 123) : Calls Tryz.prog 62 #[.int .i64 (k : Int), .string (bs s)] w (FillPost k s w) := by
  have HB := Lib.hid fun W => knowsBraces_any (k : Int) W
  have HX := Lib.hid fun W => pre_any s 123 W
  have HEND := Lib.hid (fill_plain hk h)
  obtain ⟨A, hA⟩ : ∃ A, okG ⟨k, [], 0, false⟩ = A := ⟨_, rfl⟩
  have HP := Lib.hid fun W => isPiece_any ⟨k, [], 0, false⟩ W (by simp)
  rw [hA] at HP HEND
  simp only [gpC] at HP
  have hR0 : PAt (w.alloc (.cells #[.int .i64 0, .string ⟨#[]⟩, .int .i64 0, .bool false] 61)) w.heap.size gp0 := PAt.new w gp0
  have hT0 : PAt ((w.alloc (.cells #[.int .i64 0, .string ⟨#[]⟩, .int .i64 0, .bool false] 61)).alloc (.cells #[.int .i64 (k : Int), .string ⟨#[]⟩, .int .i64 0, .bool false] 61)) (w.heap.size + 1) ⟨k, [], 0, false⟩ := by
    have := PAt.new (w.alloc (.cells (gpC gp0) 61)) ⟨k, [], 0, false⟩
    rw [World.size_alloc] at this
    exact this
  have hR1 := hR0.kp ((Kp.refl [] _).alloc (.cells #[.int .i64 (k : Int), .string ⟨#[]⟩, .int .i64 0, .bool false] 61)) (by simp)
  have hK0 : Kp [] w ((w.alloc (.cells #[.int .i64 0, .string ⟨#[]⟩, .int .i64 0, .bool false] 61)).alloc (.cells #[.int .i64 (k : Int), .string ⟨#[]⟩, .int .i64 0, .bool false] 61)) := ((Kp.refl [] w).alloc _).alloc _
  clear hR0
  obtain ⟨W0, hW⟩ : ∃ W0, (w.alloc (.cells #[.int .i64 0, .string ⟨#[]⟩, .int .i64 0, .bool false] 61)).alloc (.cells #[.int .i64 (k : Int), .string ⟨#[]⟩, .int .i64 0, .bool false] 61) = W0 := ⟨_, rfl⟩
  obtain ⟨R, hRR⟩ : ∃ R, w.heap.size = R := ⟨_, rfl⟩
  obtain ⟨T, hTT⟩ : ∃ T, R + 1 = T := ⟨_, rfl⟩
  have hTR : T ≠ R := by omega
  have hRT : R ≠ T := by omega
  have hwR : w.heap.size ≤ R := by omega
  have hwT : w.heap.size ≤ T := by omega
  rw [hW] at hT0 hR1 hK0
  rw [hRR] at hR1
  rw [hRR, hTT] at hT0
  have HR0 := Lib.hid hR1
  have HT0 := Lib.hid hT0
  have HK0 := Lib.hid hK0
  have HW := Lib.hid hW
  have HRR := Lib.hid hRR
  have HTT := Lib.hid hTT
  clear hR1 hT0 hK0 hW hRR hTT
  clear hk
  cases hb : brK k with
  | false =>
    rw [hb] at HB
    clear h hb hA
    go_enter Tryz.func62, Tryz.ntmps62
    go_wp2_with (go_at_call 102; refine Calls.mono (by with_reducible exact HB.out _) ?_; rintro e w1 ⟨rfl, rfl⟩)
    rw [HRR.out, HTT.out, HW.out]
    obtain ⟨c0, c1, c2, c3⟩ := HT0.out.cells
    have fR := fun o => HR0.out.frz (o := o)
    obtain ⟨r0, r1, r2, r3⟩ := HR0.out.cells
    simp only [gp0] at c0 c1 c2 c3 r0 r1 r2 r3
    go_region_with (go_at_call 37; refine Calls.mono (by with_reducible exact HP.out _) ?_; rintro e w1 ⟨rfl, hk1⟩; have HK1 := Lib.hid (((Kp.refl [] W0).drew 1).trans hk1); have HT1 := Lib.hid (HT0.out.kp HK1.out (by simp)); have HR1 := Lib.hid (HR0.out.kp HK1.out (by simp)); obtain ⟨x0, x1, x2, x3⟩ := HT1.out.cells; have fR1 := fun o => HR1.out.frz (o := o); obtain ⟨y0, y1, y2, y3⟩ := HR1.out.cells; simp only [gp0] at x0 x1 x2 x3 y0 y1 y2 y3; clear hk1)
    all_goals go_wp2
    all_goals exact pc_end3 rfl (HR1.out.all ⟨k, [], 0, false⟩) rfl rfl rfl rfl ⟨⟨k, [], 0, false⟩, s, _, rfl, (HK0.out.trans HK1.out).setAll hwR _ _ _ _, HEND.out⟩
  | true =>
    rw [hb] at HB
    have hx : (s.head? == some 123) = false := by simpa using h hb
    rw [hx] at HX
    clear h hb hA hx
    go_enter Tryz.func62, Tryz.ntmps62
    go_wp2_with (first
      | (go_at_call 102; refine Calls.mono (by with_reducible exact HB.out _) ?_; rintro e w1 ⟨rfl, rfl⟩)
      | (go_at_call 44; refine Calls.mono (by with_reducible exact HX.out _) ?_; rintro e w1 ⟨rfl, rfl⟩))
    rw [HRR.out, HTT.out, HW.out]
    obtain ⟨c0, c1, c2, c3⟩ := HT0.out.cells
    have fR := fun o => HR0.out.frz (o := o)
    obtain ⟨r0, r1, r2, r3⟩ := HR0.out.cells
    simp only [gp0] at c0 c1 c2 c3 r0 r1 r2 r3
    go_region_with (go_at_call 37; refine Calls.mono (by with_reducible exact HP.out _) ?_; rintro e w1 ⟨rfl, hk1⟩; have HK1 := Lib.hid (((Kp.refl [] W0).drew 1).trans hk1); have HT1 := Lib.hid (HT0.out.kp HK1.out (by simp)); have HR1 := Lib.hid (HR0.out.kp HK1.out (by simp)); obtain ⟨x0, x1, x2, x3⟩ := HT1.out.cells; have fR1 := fun o => HR1.out.frz (o := o); obtain ⟨y0, y1, y2, y3⟩ := HR1.out.cells; simp only [gp0] at x0 x1 x2 x3 y0 y1 y2 y3; clear hk1)
    all_goals go_wp2
    all_goals exact pc_end3 rfl (HR1.out.all ⟨k, [], 0, false⟩) rfl rfl rfl rfl ⟨⟨k, [], 0, false⟩, s, _, rfl, (HK0.out.trans HK1.out).setAll hwR _ _ _ _, HEND.out⟩
end Go.Proofs.YtfpkppgecmbglaaGreatDoor
