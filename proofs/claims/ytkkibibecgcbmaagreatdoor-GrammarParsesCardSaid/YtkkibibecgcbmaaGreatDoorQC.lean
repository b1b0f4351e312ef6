/- C -/
import Derived.Test.YtkkibibecgcbmaaGreatDoorQB
open Go.Lib renaming hid → qH
open Go.Calls renaming mono → cM
set_option maxRecDepth 100000
set_option maxHeartbeats 16000000
namespace Go.Proofs.YtkkibibecgcbmaaGreatDoor
open Go.RowKit
theorem span_at {p : UInt8 → Bool} {s : List UInt8} {i : Nat} (h : (s.take i).all p = true) (hn : ∀ hi : i < s.length, p s[i] = false) : spanL p s = (s.take i, s.drop i) := by
 have := spanL_app p (s.take i) (s.drop i) h (fun b r hb => by
  have hi : i < s.length := by
   rcases Nat.lt_or_ge i s.length with h | h
   ·exact h
   ·rw [List.drop_eq_nil_of_le h] at hb; cases hb
  rw [List.drop_eq_getElem_cons hi] at hb
  cases hb
  exact hn hi)
 rwa [List.take_append_drop] at this
theorem spLen_letter (r : List UInt8) (w : World) (hl : r.length ≤ 1000000000000) : Calls Tryz.prog 213 #[.string (bs (37 :: r))] w fun e w' => e = .returned (.int .i64 ((min 2 (r.length + 1) : Nat) : Int)) ∧ Kp [] w w' := by
 have hsz : ((bs (37 :: r)).size : Int) = (r.length : Int) + 1 := by rw [bs_size, List.length_cons]; push_cast; rfl
 have h0 : 0 < (bs (37 :: r)).size := by rw [bs_size]; simp
 have hg : (bs (37 :: r))[0]'h0 = 37 := rfl
 have hmin : ((min 2 (r.length + 1) : Nat) : Int) = min 2 ((r.length : Int) + 1) := by omega
 rw [hmin]
 go_enter Tryz.func213, Tryz.ntmps213
 go_wp2
 go_ret
 exact ⟨rfl, Kp.refl _ _⟩
theorem spLen_word (b : UInt8) (r : List UInt8) (w : World) (hb : b ≠ 37) (hl : r.length ≤ 1000000000000) : Calls Tryz.prog 213 #[.string (bs (b :: r))] w fun e w' => e = .returned (.int .i64 (((spanL azCh r).1.length + 1 : Nat) : Int)) ∧ Kp [] w w' := by
 obtain ⟨K, hK⟩ : ∃ K, (spanL azCh r).1.length + 1 = K := ⟨_, rfl⟩
 have hfin : ∀ i, i ≤ r.length → (r.take i).all azCh = true → (∀ hi : i < r.length, azCh r[i] = false) → i + 1 = K := fun i hi h1 h2 => by
  rw [← hK, span_at h1 h2, List.length_take]
  omega
 rw [hK]
 clear hK
 have HF := qH hfin
 clear hfin
 have hsz : (bs (b :: r)).size = r.length + 1 := rfl
 have h0 : 0 < (bs (b :: r)).size := by omega
 have hg : (bs (b :: r))[0]'h0 = b := rfl
 have hbn : ((b.toNat : Int) == 37) = false := by
  rw [beq_eq_false_iff_ne]
  intro e
  exact hb (UInt8.toNat_inj.1 (by have h3 : (37 : UInt8).toNat = 37 := rfl; omega))
 go_enter Tryz.func213, Tryz.ntmps213
 go_wp2
 go_loopw [3] (fun s3 wx => ∃ i : Nat, i ≤ r.length ∧ s3 = .int .i64 ((i + 1 : Nat) : Int) ∧ (r.take i).all azCh = true ∧ Kp [] w wx) (fun s3 _ => r.length + 1 - (intOf s3).toNat)
 case atStart => exact ⟨0, by omega, rfl, rfl, Kp.refl _ _⟩
 case round =>
  obtain ⟨i, hi, rfl, hall, hk⟩ := hrel
  have HA := qH hall
  have HK := qH hk
  clear hall hk
  by_cases hlt : i < r.length
  ·have hiz : ((i + 1 : Nat) : Int) < ((bs (b :: r)).size : Int) := by omega
   have hiz' : i + 1 < (bs (b :: r)).size := by omega
   obtain ⟨x, hx⟩ : ∃ x : UInt8, r[i] = x := ⟨_, rfl⟩
   have hgx : (bs (b :: r))[i + 1]'hiz' = x := (bs_get (b :: r) (i + 1) hiz').trans hx
   have HS := qH fun W => isSmall_any x W
   cases hz : azCh x with
   | true =>
    rw [hz] at HS
    have hn : (r.take (i + 1)).all azCh = true := by
     rw [List.take_add_one, List.getElem?_eq_getElem hlt, hx]
     simp only [Option.toList, List.all_append, HA.out, List.all_cons, hz, List.all_nil]
     rfl
    have HN := qH hn
    clear hn hz hx
    go_wp2_with (go_at_call 221; refine cM (by with_reducible exact HS.out _) ?_; rintro e w1 ⟨rfl, rfl⟩)
    go_roundw
    case rel => exact ⟨i + 1, by omega, by go_num, HN.out, HK.out⟩
    case measure => simp [intOf]; omega
   | false =>
    rw [hz] at HS
    obtain rfl := HF.out i hi HA.out (fun _ => by rw [hx, hz])
    clear hz hx
    go_wp2_with (go_at_call 221; refine cM (by with_reducible exact HS.out _) ?_; rintro e w1 ⟨rfl, rfl⟩)
    go_ret
    exact ⟨rfl, HK.out⟩
  ·have hiz : ¬ (((i + 1 : Nat) : Int) < ((bs (b :: r)).size : Int)) := by omega
   obtain rfl := HF.out i hi HA.out (fun h => absurd h hlt)
   go_wp2
   go_ret
   exact ⟨rfl, HK.out⟩
end Go.Proofs.YtkkibibecgcbmaaGreatDoor
namespace Go.Proofs.YtkkibibecgcbmaaGreatDoor
open Go.RowKit
theorem hasPrefix_one (c : UInt8) (l : List UInt8) : Lib.hasPrefix l [c] = (l.head? == some c) := by
 cases l with
 | nil => rfl
 | cons b r =>
  simp only [Lib.hasPrefix, List.isPrefixOf, Bool.and_true, List.head?_cons]
  rw [Bool.eq_iff_iff, beq_iff_eq, beq_iff_eq]
  exact ⟨fun h => by rw [h], fun h => (Option.some.inj h).symm⟩
theorem pre_any (l : List UInt8) (c : UInt8) (w : World) : Calls Tryz.prog 112 #[.string (bs l), .string ⟨#[c]⟩] w fun r w' => r = .returned (.bool (l.head? == some c)) ∧ w = w' := by
 have h := Tryz.strings_HasPrefix (bs l) ⟨#[c]⟩ w
 rw [bs_data, show (⟨#[c]⟩ : ByteArray).data.toList = [c] from rfl, hasPrefix_one] at h
 exact h.mono fun _ _ ⟨h1, h2⟩ => ⟨h1, h2.symm⟩
theorem suffix_one (l : List UInt8) (c : UInt8) : Lib.hasSuffix l [c] = (l.getLast? == some c) := by
 unfold Lib.hasSuffix
 rw [Bool.eq_iff_iff, List.isSuffixOf_iff_suffix, beq_iff_eq]
 constructor
 ·rintro ⟨t, rfl⟩
  simp
 ·intro h
  obtain ⟨t, rfl⟩ := List.getLast?_eq_some_iff.1 h
  exact ⟨t, rfl⟩
def plusL (l : List UInt8) : List UInt8 := if l.getLast? = some 43 then l.dropLast else l
theorem cutSuffix_any (l : List UInt8) (w : World) (hl : l.length ≤ 1000000000000) : Calls Tryz.prog 118 #[.string (bs l), .string ⟨#[43]⟩] w fun r w' => r = .returned (.tuple #[.string (bs (plusL l)), .bool (l.getLast? == some 43)]) ∧ w = w' := by
 have h := Tryz.strings_CutSuffix (bs l) ⟨#[43]⟩ w (by rw [bs_size]; omega)
 rw [bs_data, show (⟨#[43]⟩ : ByteArray).data.toList = [43] from rfl, suffix_one] at h
 have e : (⟨(Lib.trimSuffix l [43]).toArray⟩ : ByteArray) = bs (plusL l) := by
  unfold Lib.trimSuffix plusL
  rw [suffix_one]
  by_cases hp : l.getLast? = some 43
  ·rw [if_pos (by simpa using hp), if_pos hp, List.dropLast_eq_take]
   rfl
  ·rw [if_neg (by simpa using hp), if_neg hp]
   rfl
 rw [e] at h
 exact h.mono fun _ _ ⟨h1, h2⟩ => ⟨h1, h2.symm⟩
theorem cut_any {w : World} (hE : Env w) (l : List UInt8) (hl : l.length ≤ 1000000000) : Calls Tryz.prog 117 #[.string (bs l), .string ⟨#[125]⟩] w fun r w' => r = .returned (.tuple #[.string (bs (Lib.cut l [125]).1), .string (bs (Lib.cut l [125]).2.1), .bool (Lib.cut l [125]).2.2]) ∧ Kp [] w w' := by
 obtain ⟨m, hm⟩ := hE.max
 have h := Tryz.strings_Cut (bs l) ⟨#[125]⟩ m w (by rw [bs_size]; omega) hm
 rw [bs_data, show (⟨#[125]⟩ : ByteArray).data.toList = [125] from rfl] at h
 exact h.mono fun _ _ ⟨h1, n, h2⟩ => ⟨h1, by rw [h2]; exact (Kp.refl [] w).drew n⟩
theorem cut_len (l : List UInt8) : (Lib.cut l [125]).1.length ≤ l.length ∧ (Lib.cut l [125]).2.1.length ≤ l.length := by
 have e := spanL_len noBr l
 rw [cut_brace]
 cases h : (spanL noBr l).2 with
 | nil => exact ⟨Nat.le_refl _, Nat.zero_le _⟩
 | cons b r =>
  rw [h, List.length_cons] at e
  exact ⟨by simp only; omega, by simp only; omega⟩
theorem countL_eq (a : List UInt8) : countL a = (numN (plusL a)).map fun n => (n, a.getLast? == some 43) := by
 unfold countL plusL
 by_cases h : a.getLast? = some 43
 ·rw [if_pos h, if_pos h, h]
  rfl
 ·rw [if_neg h, if_neg h, show (a.getLast? == some 43) = false by simpa using h]
theorem plusL_len (a : List UInt8) : (plusL a).length ≤ a.length := by
 unfold plusL
 split
 ·simp
 ·exact Nat.le_refl _
def FillOk (k : Nat) (s : List UInt8) (p : Gp) (r : List UInt8) (ok : Bool) : Prop := match placeL nmB kyB k s with
 | some (q, r') => p = q.g ∧ r = r' ∧ ok = true
 | none => ok = false
def FillPost (k : Nat) (s : List UInt8) (w : World) (e : Ending) (w' : World) : Prop := ∃ p r ok, e = .returned (.tuple #[.agg (gpC p), .string (bs r), .bool ok]) ∧ Kp [] w w' ∧ FillOk k s p r ok
theorem fill_plain {k : Nat} {s : List UInt8} (hk : k = 0 ∨ 2 ≤ k ∧ k ≤ 11) (h : brK k = true → s.head? ≠ some 123) : FillOk k s ⟨k, [], 0, false⟩ s (okG ⟨k, [], 0, false⟩) := by
 unfold FillOk placeL
 by_cases h0 : k = 0
 ·subst h0
  rw [if_pos rfl]
  rfl
 rw [if_neg h0]
 by_cases h7 : k = 7
 ·subst h7
  rw [if_pos rfl, braceL_no (h (by decide))]
  rfl
 rw [if_neg h7]
 by_cases h8 : k = 8
 ·subst h8
  rw [if_pos rfl, braceL_no (h (by decide))]
  rfl
 rw [if_neg h8]
 by_cases h9 : k = 9
 ·subst h9
  rw [if_neg (fun x => h (by decide) x.2)]
  exact ⟨rfl, rfl, by decide⟩
 rw [if_neg (fun x => h9 x.1)]
 refine ⟨rfl, rfl, ?_⟩
 have : k = 2 ∨ k = 3 ∨ k = 4 ∨ k = 5 ∨ k = 6 ∨ k = 10 ∨ k = 11 := by omega
 rcases this with rfl | rfl | rfl | rfl | rfl | rfl | rfl <;> decide
theorem filled_plain {k : Nat} {s : List UInt8} {w : World} (hk : k = 0 ∨ 2 ≤ k ∧ k ≤ 11) (h : brK k = true → s.head? ≠ some 123) : Calls Tryz.prog 214 #[.int .i64 (k : Int), .string (bs s)] w (FillPost k s w) := by
 have HB := qH fun W => knowsBraces_any (k : Int) W
 have HX := qH fun W => pre_any s 123 W
 have HEND := qH (fill_plain hk h)
 obtain ⟨A, hA⟩ : ∃ A, okG ⟨k, [], 0, false⟩ = A := ⟨_, rfl⟩
 have HP := qH fun W => isPiece_any ⟨k, [], 0, false⟩ W (by simp)
 rw [hA] at HP HEND
 simp only [gpC] at HP
 have hR0 : PAt (w.alloc (.cells #[.int .i64 0, .string ⟨#[]⟩, .int .i64 0, .bool false] 172)) w.heap.size gp0 := PAt.new w gp0
 have hT0 : PAt ((w.alloc (.cells #[.int .i64 0, .string ⟨#[]⟩, .int .i64 0, .bool false] 172)).alloc (.cells #[.int .i64 (k : Int), .string ⟨#[]⟩, .int .i64 0, .bool false] 172)) (w.heap.size + 1) ⟨k, [], 0, false⟩ := by
  have := PAt.new (w.alloc (.cells (gpC gp0) 172)) ⟨k, [], 0, false⟩
  rw [World.size_alloc] at this
  exact this
 have hR1 := hR0.kp ((Kp.refl [] _).alloc (.cells #[.int .i64 (k : Int), .string ⟨#[]⟩, .int .i64 0, .bool false] 172)) (by simp)
 have hK0 : Kp [] w ((w.alloc (.cells #[.int .i64 0, .string ⟨#[]⟩, .int .i64 0, .bool false] 172)).alloc (.cells #[.int .i64 (k : Int), .string ⟨#[]⟩, .int .i64 0, .bool false] 172)) := ((Kp.refl [] w).alloc _).alloc _
 clear hR0
 obtain ⟨W0, hW⟩ : ∃ W0, (w.alloc (.cells #[.int .i64 0, .string ⟨#[]⟩, .int .i64 0, .bool false] 172)).alloc (.cells #[.int .i64 (k : Int), .string ⟨#[]⟩, .int .i64 0, .bool false] 172) = W0 := ⟨_, rfl⟩
 obtain ⟨R, hRR⟩ : ∃ R, w.heap.size = R := ⟨_, rfl⟩
 obtain ⟨T, hTT⟩ : ∃ T, R + 1 = T := ⟨_, rfl⟩
 have hTR : T ≠ R := by omega
 have hRT : R ≠ T := by omega
 have hwR : w.heap.size ≤ R := by omega
 have hwT : w.heap.size ≤ T := by omega
 rw [hW] at hT0 hR1 hK0
 rw [hRR] at hR1
 rw [hRR, hTT] at hT0
 have HR0 := qH hR1
 have HT0 := qH hT0
 have HK0 := qH hK0
 have HW := qH hW
 have HRR := qH hRR
 have HTT := qH hTT
 clear hR1 hT0 hK0 hW hRR hTT
 clear hk
 cases hb : brK k with
 | false =>
  rw [hb] at HB
  clear h hb hA
  go_enter Tryz.func214, Tryz.ntmps214
  go_wp2_with (go_at_call 222; refine cM (by with_reducible exact HB.out _) ?_; rintro e w1 ⟨rfl, rfl⟩)
  rw [HRR.out, HTT.out, HW.out]
  obtain ⟨c0, c1, c2, c3⟩ := HT0.out.cells
  have fR := fun o => HR0.out.frz (o := o)
  obtain ⟨r0, r1, r2, r3⟩ := HR0.out.cells
  simp only [gp0] at c0 c1 c2 c3 r0 r1 r2 r3
  go_region_with (go_at_call 223; refine cM (by with_reducible exact HP.out _) ?_; rintro e w1 ⟨rfl, hk1⟩; have HK1 := qH (((Kp.refl [] W0).drew 1).trans hk1); have HT1 := qH (HT0.out.kp HK1.out (by simp)); have HR1 := qH (HR0.out.kp HK1.out (by simp)); obtain ⟨x0, x1, x2, x3⟩ := HT1.out.cells; have fR1 := fun o => HR1.out.frz (o := o); obtain ⟨y0, y1, y2, y3⟩ := HR1.out.cells; simp only [gp0] at x0 x1 x2 x3 y0 y1 y2 y3; clear hk1)
  all_goals go_wp2
  all_goals exact pc_end3 rfl (HR1.out.all ⟨k, [], 0, false⟩) rfl rfl rfl rfl ⟨⟨k, [], 0, false⟩, s, _, rfl, (HK0.out.trans HK1.out).setAll hwR _ _ _ _, HEND.out⟩
 | true =>
  rw [hb] at HB
  have hx : (s.head? == some 123) = false := by simpa using h hb
  rw [hx] at HX
  clear h hb hA hx
  go_enter Tryz.func214, Tryz.ntmps214
  go_wp2_with (first
   | (go_at_call 222; refine cM (by with_reducible exact HB.out _) ?_; rintro e w1 ⟨rfl, rfl⟩)
   | (go_at_call 112; refine cM (by with_reducible exact HX.out _) ?_; rintro e w1 ⟨rfl, rfl⟩))
  rw [HRR.out, HTT.out, HW.out]
  obtain ⟨c0, c1, c2, c3⟩ := HT0.out.cells
  have fR := fun o => HR0.out.frz (o := o)
  obtain ⟨r0, r1, r2, r3⟩ := HR0.out.cells
  simp only [gp0] at c0 c1 c2 c3 r0 r1 r2 r3
  go_region_with (go_at_call 223; refine cM (by with_reducible exact HP.out _) ?_; rintro e w1 ⟨rfl, hk1⟩; have HK1 := qH (((Kp.refl [] W0).drew 1).trans hk1); have HT1 := qH (HT0.out.kp HK1.out (by simp)); have HR1 := qH (HR0.out.kp HK1.out (by simp)); obtain ⟨x0, x1, x2, x3⟩ := HT1.out.cells; have fR1 := fun o => HR1.out.frz (o := o); obtain ⟨y0, y1, y2, y3⟩ := HR1.out.cells; simp only [gp0] at x0 x1 x2 x3 y0 y1 y2 y3; clear hk1)
  all_goals go_wp2
  all_goals exact pc_end3 rfl (HR1.out.all ⟨k, [], 0, false⟩) rfl rfl rfl rfl ⟨⟨k, [], 0, false⟩, s, _, rfl, (HK0.out.trans HK1.out).setAll hwR _ _ _ _, HEND.out⟩
end Go.Proofs.YtkkibibecgcbmaaGreatDoor
namespace Go.Proofs.YtkkibibecgcbmaaGreatDoor
open Go.RowKit
theorem fill_name {k : Nat} {s1 a r : List UInt8} {cl : Bool} (hk : k = 7 ∨ k = 8) (h : Lib.cut s1 [125] = (a, r, cl)) : FillOk k (123 :: s1) ⟨k, a, 0, false⟩ r (cl && okG ⟨k, a, 0, false⟩) := by
 unfold FillOk placeL
 rw [braceL_cut, h]
 rcases hk with rfl | rfl
 ·rw [if_neg (by decide), if_pos rfl]
  cases cl with
  | false => rfl
  | true =>
   simp only [if_true, Option.bind_some, Bool.true_and]
   have e : okG ⟨((7 : Nat) : Int), a, 0, false⟩ = nmB a := rfl
   rw [e]
   cases h2 : nmB a with
   | false => rfl
   | true => exact ⟨rfl, rfl, rfl⟩
 ·rw [if_neg (by decide), if_neg (by decide), if_pos rfl]
  cases cl with
  | false => rfl
  | true =>
   simp only [if_true, Option.bind_some, Bool.true_and]
   have e : okG ⟨((8 : Nat) : Int), a, 0, false⟩ = kyB a := rfl
   rw [e]
   cases h2 : kyB a with
   | false => rfl
   | true => exact ⟨rfl, rfl, rfl⟩
theorem fill_word {s1 a r : List UInt8} {cl : Bool} (h : Lib.cut s1 [125] = (a, r, cl)) : FillOk 9 (123 :: s1) ⟨9, [], wnum (plusL a), a.getLast? == some 43⟩ r (cl && (decide (0 < wnum (plusL a)) && okG ⟨9, [], wnum (plusL a), a.getLast? == some 43⟩)) := by
 unfold FillOk placeL
 rw [braceL_cut, h, if_neg (by decide), if_neg (by decide), if_neg (by decide), if_pos ⟨rfl, rfl⟩]
 cases cl with
 | false => rfl
 | true =>
  simp only [if_true, Option.bind_some, Bool.true_and]
  rw [countL_eq]
  cases hn : numN (plusL a) with
  | none =>
   have := wnum_none hn
   simp only [Option.map_none]
   rw [Bool.and_eq_false_iff]
   by_cases h0 : 0 < wnum (plusL a)
   ·right
    have h1 : ¬ wnum (plusL a) ≤ 99 := fun h1 => this ⟨h0, h1⟩
    unfold okG
    simp [h1]
   ·left
    simpa using h0
  | some n =>
   have hw := wnum_some hn
   have hl := numN_le hn
   simp only [Option.map_some]
   rw [hw]
   refine ⟨rfl, trivial, ?_⟩
   unfold okG
   simp
   omega
theorem filled_name {k : Nat} {s1 : List UInt8} {w : World} (hE : Env w) (hl : s1.length ≤ 1000000) (hk : k = 7 ∨ k = 8) : Calls Tryz.prog 214 #[.int .i64 (k : Int), .string (bs (123 :: s1))] w (FillPost k (123 :: s1) w) := by
 have HB := qH fun W => knowsBraces_any (k : Int) W
 have HX := qH fun W => pre_any (123 :: s1) 123 W
 rw [show brK (k : Int) = true by rcases hk with rfl | rfl <;> decide] at HB
 rw [show ((123 :: s1 : List UInt8).head? == some 123) = true from rfl] at HX
 obtain ⟨a, r, cl, hcut⟩ : ∃ a r cl, Lib.cut s1 [125] = (a, r, cl) := ⟨_, _, _, rfl⟩
 have hal : a.length ≤ 1000000 := by have := (cut_len s1).1; rw [hcut] at this; exact Nat.le_trans this hl
 have HC := qH fun (W : World) (h : Kp [] w W) => cut_any (hE.kp0 h) s1 (by omega)
 have hex : bs s1 = (bs (123 :: s1)).extract 1 (bs (123 :: s1)).size := by rw [bs_drop]; rfl
 rw [hcut, hex] at HC
 have HEND := qH (fill_name hk hcut)
 have h9 : ((k : Int) != 9) = true := by rcases hk with rfl | rfl <;> decide
 have h9' : ¬ (k : Int) = 9 := by omega
 have hsz : (1 : Int) ≤ ((bs (123 :: s1)).size : Int) := by rw [bs_size]; simp; omega
 obtain ⟨A, hA⟩ : ∃ A, okG ⟨k, a, 0, false⟩ = A := ⟨_, rfl⟩
 have HP := qH fun W => isPiece_any ⟨k, a, 0, false⟩ W (by simp only; omega)
 rw [hA] at HP HEND
 simp only [gpC] at HP
 have hR0 : PAt (w.alloc (.cells #[.int .i64 0, .string ⟨#[]⟩, .int .i64 0, .bool false] 172)) w.heap.size gp0 := PAt.new w gp0
 have hT0 : PAt ((w.alloc (.cells #[.int .i64 0, .string ⟨#[]⟩, .int .i64 0, .bool false] 172)).alloc (.cells #[.int .i64 (k : Int), .string ⟨#[]⟩, .int .i64 0, .bool false] 172)) (w.heap.size + 1) ⟨k, [], 0, false⟩ := by
  have := PAt.new (w.alloc (.cells (gpC gp0) 172)) ⟨k, [], 0, false⟩
  rw [World.size_alloc] at this
  exact this
 have hR1 := hR0.kp ((Kp.refl [] _).alloc (.cells #[.int .i64 (k : Int), .string ⟨#[]⟩, .int .i64 0, .bool false] 172)) (by simp)
 have hK0 : Kp [] w ((w.alloc (.cells #[.int .i64 0, .string ⟨#[]⟩, .int .i64 0, .bool false] 172)).alloc (.cells #[.int .i64 (k : Int), .string ⟨#[]⟩, .int .i64 0, .bool false] 172)) := ((Kp.refl [] w).alloc _).alloc _
 clear hR0
 obtain ⟨W0, hW⟩ : ∃ W0, (w.alloc (.cells #[.int .i64 0, .string ⟨#[]⟩, .int .i64 0, .bool false] 172)).alloc (.cells #[.int .i64 (k : Int), .string ⟨#[]⟩, .int .i64 0, .bool false] 172) = W0 := ⟨_, rfl⟩
 obtain ⟨R, hRR⟩ : ∃ R, w.heap.size = R := ⟨_, rfl⟩
 obtain ⟨T, hTT⟩ : ∃ T, R + 1 = T := ⟨_, rfl⟩
 have hTR : T ≠ R := by omega
 have hRT : R ≠ T := by omega
 have hwR : w.heap.size ≤ R := by omega
 have hwT : w.heap.size ≤ T := by omega
 rw [hW] at hT0 hR1 hK0
 rw [hRR] at hR1
 rw [hRR, hTT] at hT0
 have HR0 := qH hR1
 have HT0 := qH hT0
 have HK0 := qH hK0
 have HW := qH hW
 have HRR := qH hRR
 have HTT := qH hTT
 clear hR1 hT0 hK0 hW hRR hTT
 clear hk hA hcut hex
 go_enter Tryz.func214, Tryz.ntmps214
 go_upto_region 6 with (first
  | (go_at_call 222; refine cM (by with_reducible exact HB.out _) ?_; rintro e w1 ⟨rfl, rfl⟩)
  | (go_at_call 112; refine cM (by with_reducible exact HX.out _) ?_; rintro e w1 ⟨rfl, rfl⟩; rw [HRR.out, HTT.out, HW.out])
  | (go_at_call 117; refine cM (by with_reducible exact HC.out _ HK0.out) ?_; rintro e w1 ⟨rfl, hk1⟩))
 have hT1 := HT0.out.kp hk1 (by simp)
 obtain ⟨c0, c1, c2, c3⟩ := hT1.cells
 have f1 := fun o => hT1.frz (o := o)
 have HT1 := qH hT1
 have HR1 := qH (HR0.out.kp hk1 (by simp))
 have HK1 := qH (HK0.out.trans hk1)
 clear hT1 hk1
 go_wp2_with fail
 clear c0 c1 c2 c3 f1
 have HT2 := qH (HT1.out.put1 a)
 have HR2 := qH (HR1.out.other (p := ⟨T, 1, none⟩) hRT (.string (bs a)))
 have HK2 := qH (HK1.out.setCell (p := ⟨T, 1, none⟩) (.inr hwT) (.string (bs a)))
 generalize w1.setCell ⟨T, 1, none⟩ (.string (bs a)) = W2 at *
 cases cl with
 | true =>
  rw [Bool.true_and] at HEND
  obtain ⟨c0, c1, c2, c3⟩ := HT2.out.cells
  have fR := fun o => HR2.out.frz (o := o)
  obtain ⟨r0, r1, r2, r3⟩ := HR2.out.cells
  simp only [gp0] at c0 c1 c2 c3 r0 r1 r2 r3
  go_region_with (go_at_call 223; refine cM (by with_reducible exact HP.out _) ?_; rintro e w1 ⟨rfl, hk1⟩; have HK1 := qH (((Kp.refl [] W2).drew 1).trans hk1); have HT1 := qH (HT2.out.kp HK1.out (by simp)); have HR1 := qH (HR2.out.kp HK1.out (by simp)); obtain ⟨x0, x1, x2, x3⟩ := HT1.out.cells; have fR1 := fun o => HR1.out.frz (o := o); obtain ⟨y0, y1, y2, y3⟩ := HR1.out.cells; simp only [gp0] at x0 x1 x2 x3 y0 y1 y2 y3; clear hk1)
  all_goals go_wp2
  all_goals exact pc_end3 rfl (HR1.out.all ⟨k, a, 0, false⟩) rfl rfl rfl rfl ⟨⟨k, a, 0, false⟩, _, _, rfl, (HK2.out.trans HK1.out).setAll hwR _ _ _ _, HEND.out⟩
 | false =>
  rw [Bool.false_and] at HEND
  obtain ⟨c0, c1, c2, c3⟩ := HT2.out.cells
  have fR := fun o => HR2.out.frz (o := o)
  obtain ⟨r0, r1, r2, r3⟩ := HR2.out.cells
  simp only [gp0] at c0 c1 c2 c3 r0 r1 r2 r3
  go_region
  all_goals go_wp2
  all_goals exact pc_end3 rfl ((HR2.out.kp ((Kp.refl [] W2).drew 1) (by simp)).all ⟨k, a, 0, false⟩) rfl rfl rfl rfl ⟨⟨k, a, 0, false⟩, _, _, rfl, (HK2.out.drew 1).setAll hwR _ _ _ _, HEND.out⟩
theorem filled_word {s1 : List UInt8} {w : World} (hE : Env w) (hl : s1.length ≤ 1000000) : Calls Tryz.prog 214 #[.int .i64 9, .string (bs (123 :: s1))] w (FillPost 9 (123 :: s1) w) := by
 have HB := qH fun W => knowsBraces_any 9 W
 have HX := qH fun W => pre_any (123 :: s1) 123 W
 rw [show brK 9 = true from rfl] at HB
 rw [show ((123 :: s1 : List UInt8).head? == some 123) = true from rfl] at HX
 obtain ⟨a, r, cl, hcut⟩ : ∃ a r cl, Lib.cut s1 [125] = (a, r, cl) := ⟨_, _, _, rfl⟩
 have hal : a.length ≤ 1000000 := by have := (cut_len s1).1; rw [hcut] at this; exact Nat.le_trans this hl
 have HC := qH fun (W : World) (h : Kp [] w W) => cut_any (hE.kp0 h) s1 (by omega)
 have hex : bs s1 = (bs (123 :: s1)).extract 1 (bs (123 :: s1)).size := by rw [bs_drop]; rfl
 rw [hcut, hex] at HC
 have HEND := qH (fill_word hcut)
 have HCS := qH fun W => cutSuffix_any a W (by omega)
 have hpl := plusL_len a
 have HWN := qH fun (W : World) (h : Kp [] w W) => wordNumber_any (hE.kp0 h) (plusL a) (by omega)
 have hsz : (1 : Int) ≤ ((bs (123 :: s1)).size : Int) := by rw [bs_size]; simp; omega
 obtain ⟨A, hA⟩ : ∃ A, okG ⟨9, [], wnum (plusL a), a.getLast? == some 43⟩ = A := ⟨_, rfl⟩
 have HP := qH fun W => isPiece_any ⟨9, [], wnum (plusL a), a.getLast? == some 43⟩ W (by simp)
 rw [hA] at HP HEND
 simp only [gpC] at HP
 have hR0 : PAt (w.alloc (.cells #[.int .i64 0, .string ⟨#[]⟩, .int .i64 0, .bool false] 172)) w.heap.size gp0 := PAt.new w gp0
 have hT0 : PAt ((w.alloc (.cells #[.int .i64 0, .string ⟨#[]⟩, .int .i64 0, .bool false] 172)).alloc (.cells #[.int .i64 9, .string ⟨#[]⟩, .int .i64 0, .bool false] 172)) (w.heap.size + 1) ⟨9, [], 0, false⟩ := by
  have := PAt.new (w.alloc (.cells (gpC gp0) 172)) ⟨9, [], 0, false⟩
  rw [World.size_alloc] at this
  exact this
 have hR1 := hR0.kp ((Kp.refl [] _).alloc (.cells #[.int .i64 9, .string ⟨#[]⟩, .int .i64 0, .bool false] 172)) (by simp)
 have hK0 : Kp [] w ((w.alloc (.cells #[.int .i64 0, .string ⟨#[]⟩, .int .i64 0, .bool false] 172)).alloc (.cells #[.int .i64 9, .string ⟨#[]⟩, .int .i64 0, .bool false] 172)) := ((Kp.refl [] w).alloc _).alloc _
 clear hR0
 obtain ⟨W0, hW⟩ : ∃ W0, (w.alloc (.cells #[.int .i64 0, .string ⟨#[]⟩, .int .i64 0, .bool false] 172)).alloc (.cells #[.int .i64 9, .string ⟨#[]⟩, .int .i64 0, .bool false] 172) = W0 := ⟨_, rfl⟩
 obtain ⟨R, hRR⟩ : ∃ R, w.heap.size = R := ⟨_, rfl⟩
 obtain ⟨T, hTT⟩ : ∃ T, R + 1 = T := ⟨_, rfl⟩
 have hTR : T ≠ R := by omega
 have hRT : R ≠ T := by omega
 have hwR : w.heap.size ≤ R := by omega
 have hwT : w.heap.size ≤ T := by omega
 rw [hW] at hT0 hR1 hK0
 rw [hRR] at hR1
 rw [hRR, hTT] at hT0
 have HR0 := qH hR1
 have HT0 := qH hT0
 have HK0 := qH hK0
 have HW := qH hW
 have HRR := qH hRR
 have HTT := qH hTT
 clear hR1 hT0 hK0 hW hRR hTT
 clear hA hcut hex hpl
 generalize plusL a = b at *
 generalize (a.getLast? == some 43) = m at *
 generalize wnum b = n at *
 go_enter Tryz.func214, Tryz.ntmps214
 go_upto_region 8 with (first
  | (go_at_call 222; refine cM (by with_reducible exact HB.out _) ?_; rintro e w1 ⟨rfl, rfl⟩)
  | (go_at_call 112; refine cM (by with_reducible exact HX.out _) ?_; rintro e w1 ⟨rfl, rfl⟩; rw [HRR.out, HTT.out, HW.out])
  | (go_at_call 117; refine cM (by with_reducible exact HC.out _ HK0.out) ?_; rintro e w1 ⟨rfl, hk1⟩))
 have hT1 := HT0.out.kp hk1 (by simp)
 obtain ⟨c0, c1, c2, c3⟩ := hT1.cells
 have f1 := fun o => hT1.frz (o := o)
 have HT1 := qH hT1
 have HR1 := qH (HR0.out.kp hk1 (by simp))
 have HK1 := qH (HK0.out.trans hk1)
 clear hT1 hk1
 go_upto_region 9 with (go_at_call 118; refine cM (by with_reducible exact HCS.out _) ?_; rintro e w2 ⟨rfl, rfl⟩)
 clear c0 c1 c2 c3 f1
 have HT2 := qH (HT1.out.put3 m)
 have HR2 := qH (HR1.out.other (p := ⟨T, 3, none⟩) hRT (.bool m))
 have HK2 := qH (HK1.out.setCell (p := ⟨T, 3, none⟩) (.inr hwT) (.bool m))
 generalize w1.setCell ⟨T, 3, none⟩ (.bool m) = W3 at *
 go_wp2_with (go_at_call 224; refine cM (by with_reducible exact HWN.out _ HK2.out) ?_; rintro e w3 ⟨rfl, hk3⟩; have hT3 := HT2.out.kp hk3 (by simp); obtain ⟨c0, c1, c2, c3⟩ := hT3.cells; have f1 := fun o => hT3.frz (o := o); have HT3 := qH hT3; have HR3 := qH (HR2.out.kp hk3 (by simp)); have HK3 := qH (HK2.out.trans hk3); clear hT3 hk3)
 clear c0 c1 c2 c3 f1 HT2 HR2 HK2
 have HT2 := qH (HT3.out.put2 n)
 have HR2 := qH (HR3.out.other (p := ⟨T, 2, none⟩) hRT (.int .i64 n))
 have HK2 := qH (HK3.out.setCell (p := ⟨T, 2, none⟩) (.inr hwT) (.int .i64 n))
 generalize w3.setCell ⟨T, 2, none⟩ (.int .i64 n) = W2 at *
 cases cl with
 | false =>
  rw [Bool.false_and] at HEND
  obtain ⟨c0, c1, c2, c3⟩ := HT2.out.cells
  have fR := fun o => HR2.out.frz (o := o)
  obtain ⟨r0, r1, r2, r3⟩ := HR2.out.cells
  simp only [gp0] at c0 c1 c2 c3 r0 r1 r2 r3
  go_region
  all_goals go_wp2
  all_goals exact pc_end3 rfl ((HR2.out.kp ((Kp.refl [] W2).drew 1) (by simp)).all ⟨9, [], n, m⟩) rfl rfl rfl rfl ⟨⟨9, [], n, m⟩, _, _, rfl, (HK2.out.drew 1).setAll hwR _ _ _ _, HEND.out⟩
 | true =>
  rw [Bool.true_and] at HEND
  by_cases hn : 0 < n
  ·rw [decide_eq_true hn, Bool.true_and] at HEND
   obtain ⟨c0, c1, c2, c3⟩ := HT2.out.cells
   have fR := fun o => HR2.out.frz (o := o)
   obtain ⟨r0, r1, r2, r3⟩ := HR2.out.cells
   simp only [gp0] at c0 c1 c2 c3 r0 r1 r2 r3
   go_region_with (go_at_call 223; refine cM (by with_reducible exact HP.out _) ?_; rintro e w1 ⟨rfl, hk1⟩; have HK1 := qH (((Kp.refl [] W2).drew 1).trans hk1); have HT1 := qH (HT2.out.kp HK1.out (by simp)); have HR1 := qH (HR2.out.kp HK1.out (by simp)); obtain ⟨x0, x1, x2, x3⟩ := HT1.out.cells; have fR1 := fun o => HR1.out.frz (o := o); obtain ⟨y0, y1, y2, y3⟩ := HR1.out.cells; simp only [gp0] at x0 x1 x2 x3 y0 y1 y2 y3; clear hk1)
   all_goals go_wp2
   all_goals exact pc_end3 rfl (HR1.out.all ⟨9, [], n, m⟩) rfl rfl rfl rfl ⟨⟨9, [], n, m⟩, _, _, rfl, (HK2.out.trans HK1.out).setAll hwR _ _ _ _, HEND.out⟩
  ·rw [decide_eq_false hn, Bool.false_and] at HEND
   obtain ⟨c0, c1, c2, c3⟩ := HT2.out.cells
   have fR := fun o => HR2.out.frz (o := o)
   obtain ⟨r0, r1, r2, r3⟩ := HR2.out.cells
   simp only [gp0] at c0 c1 c2 c3 r0 r1 r2 r3
   go_region
   all_goals go_wp2
   all_goals exact pc_end3 rfl ((HR2.out.kp ((Kp.refl [] W2).drew 1) (by simp)).all ⟨9, [], n, m⟩) rfl rfl rfl rfl ⟨⟨9, [], n, m⟩, _, _, rfl, (HK2.out.drew 1).setAll hwR _ _ _ _, HEND.out⟩
end Go.Proofs.YtkkibibecgcbmaaGreatDoor
namespace Go.Proofs.YtkkibibecgcbmaaGreatDoor
open Go.RowKit
theorem filled_any {k : Nat} {s : List UInt8} {w : World} (hE : Env w) (hk : k = 0 ∨ 2 ≤ k ∧ k ≤ 11) (hl : s.length ≤ 1000000) : Calls Tryz.prog 214 #[.int .i64 (k : Int), .string (bs s)] w (FillPost k s w) := by
 by_cases h : brK k = true → s.head? ≠ some 123
 ·exact filled_plain hk h
 ·obtain ⟨hb, hs⟩ : brK k = true ∧ s.head? = some 123 := by
   by_cases hb : brK k = true
   ·by_cases hs : s.head? = some 123
    ·exact ⟨hb, hs⟩
    ·exact absurd (fun _ => hs) h
   ·exact absurd (fun x => absurd x hb) h
  cases s with
  | nil => cases hs
  | cons b s1 =>
   obtain rfl : b = 123 := by simpa using hs
   rw [List.length_cons] at hl
   have h3 : k = 7 ∨ k = 8 ∨ k = 9 := by
    unfold brK at hb
    simp at hb
    omega
   rcases h3 with h3 | h3 | h3
   ·exact filled_name hE (by omega) (.inl h3)
   ·exact filled_name hE (by omega) (.inr h3)
   ·subst h3
    exact filled_word hE (by omega)
def FirstOk (s : List UInt8) (p : Gp) (r : List UInt8) (ok : Bool) : Prop := match firstL nmB kyB s with
 | some (q, r') => p = q.g ∧ r = r' ∧ ok = true
 | none => ok = false
def FirstPost (s : List UInt8) (w : World) (e : Ending) (w' : World) : Prop := ∃ p r ok, e = .returned (.tuple #[.agg (gpC p), .string (bs r), .bool ok]) ∧ Kp [] w w' ∧ FirstOk s p r ok
theorem index_any (s : List UInt8) (w : World) (hs : s.length ≤ 1000000) (ha : s.all prCh = true) : Calls Tryz.prog 211 #[.string (bs s), .string ⟨#[36, 37]⟩] w fun e w' => e = .returned (.int .i64 (if (spanL plainCh s).2 = [] then -1 else ((spanL plainCh s).1.length : Int))) ∧ Kp [] w w' := by
 have h := Tryz.strings_IndexAny_laid (bs s) ⟨#[36, 37]⟩ w (by rw [bs_size]; omega) (by decide) (fun j b hb => pr_lt (List.all_eq_true.1 ha b (List.mem_of_getElem? hb))) (fun j b hb => by
  have : b ∈ ([36, 37] : List UInt8) := List.mem_of_getElem? hb
  simp at this
  rcases this with rfl | rfl <;> decide)
 rw [bs_data, show (⟨#[36, 37]⟩ : ByteArray).data.toList = [36, 37] from rfl, index_plain] at h
 exact h.mono fun _ _ ⟨h1, h2⟩ => ⟨h1, Kp.of_below h2⟩
theorem first_text {s : List UInt8} {w : World} (hs : s.length ≤ 1000000) (ha : s.all prCh = true) (hne : (spanL plainCh s).1 ≠ []) : Calls Tryz.prog 199 #[.string (bs s)] w (FirstPost s w) := by
 have HI := qH fun W => index_any s W hs ha
 have hf : firstL nmB kyB s = some (⟨1, (spanL plainCh s).1, 0, false⟩, (spanL plainCh s).2) := by unfold firstL; rw [if_neg hne]
 obtain ⟨he, _, _⟩ := spanL_eq plainCh s
 have hEND : FirstOk s ⟨1, (spanL plainCh s).1, 0, false⟩ (spanL plainCh s).2 true := by unfold FirstOk; rw [hf]; exact ⟨rfl, rfl, rfl⟩
 clear hf
 have hR0 : PAt (w.alloc (.cells #[.int .i64 0, .string ⟨#[]⟩, .int .i64 0, .bool false] 172)) w.heap.size gp0 := PAt.new w gp0
 have hK0 : Kp [] w (w.alloc (.cells #[.int .i64 0, .string ⟨#[]⟩, .int .i64 0, .bool false] 172)) := (Kp.refl [] w).alloc _
 obtain ⟨W, hW⟩ : ∃ W, w.alloc (.cells #[.int .i64 0, .string ⟨#[]⟩, .int .i64 0, .bool false] 172) = W := ⟨_, rfl⟩
 obtain ⟨R, hRR⟩ : ∃ R, w.heap.size = R := ⟨_, rfl⟩
 have hwR : w.heap.size ≤ R := by omega
 rw [hW] at hR0 hK0
 rw [hRR] at hR0
 have HRA := qH hR0
 have HKA := qH hK0
 have HW := qH hW
 have HRR := qH hRR
 clear hR0 hK0 hW hRR
 generalize (spanL plainCh s).1 = a at *
 generalize (spanL plainCh s).2 = r at *
 have HP := qH fun W => textPiece_any a W
 simp only [gpC] at HP
 by_cases hr : r = []
 ·subst hr
  rw [if_pos rfl] at HI
  rw [List.append_nil] at he
  subst he
  have HEND := qH hEND
  clear hEND hne ha
  go_enter Tryz.func199, Tryz.ntmps199
  go_wp2_with (first
   | (go_at_call 211; rw [HRR.out, HW.out]; refine cM (by with_reducible exact HI.out _) ?_; rintro e W0 ⟨rfl, hk0⟩; have HR0 := qH (HRA.out.kp hk0 (by simp)); have HK0 := qH (HKA.out.trans hk0); have fR := fun o => HR0.out.frz (o := o); obtain ⟨r0, r1, r2, r3⟩ := HR0.out.cells; simp only [gp0] at r0 r1 r2 r3; clear hk0)
   | (go_at_call 212; refine cM (by with_reducible exact HP.out _) ?_; rintro e w1 ⟨rfl, hk1⟩; have HR1 := qH (HR0.out.kp hk1 (by simp)); have HK1 := qH (HK0.out.trans hk1); have fR1 := fun o => HR1.out.frz (o := o); obtain ⟨y0, y1, y2, y3⟩ := HR1.out.cells; simp only [gp0] at y0 y1 y2 y3; clear hk1))
  exact pc_end3 rfl (HR1.out.all ⟨1, a, 0, false⟩) rfl rfl rfl rfl ⟨⟨1, a, 0, false⟩, [], true, rfl, HK1.out.setAll hwR _ _ _ _, HEND.out⟩
 ·rw [if_neg hr] at HI
  have hpos : 0 < a.length := List.length_pos_iff.2 hne
  have e1 : (bs s).extract 0 a.length = bs a := by rw [bs_take, ← he, List.take_left' rfl]
  have e2 : (bs s).extract a.length (bs s).size = bs r := by rw [bs_drop, ← he, List.drop_left' rfl]
  have hle : a.length ≤ (bs s).size := by rw [bs_size, ← he, List.length_append]; omega
  have HEND := qH hEND
  clear hEND hne ha he
  generalize hal : a.length = n at *
  have hn0 : ¬ ((n : Int) < 0) := by omega
  have hn1 : (0 : Int) < (n : Int) := by omega
  have hle2 : (n : Int) ≤ ((bs s).size : Int) := by omega
  clear hal hr
  go_enter Tryz.func199, Tryz.ntmps199
  go_wp2_with (first
   | (go_at_call 211; rw [HRR.out, HW.out]; refine cM (by with_reducible exact HI.out _) ?_; rintro e W0 ⟨rfl, hk0⟩; have HR0 := qH (HRA.out.kp hk0 (by simp)); have HK0 := qH (HKA.out.trans hk0); have fR := fun o => HR0.out.frz (o := o); obtain ⟨r0, r1, r2, r3⟩ := HR0.out.cells; simp only [gp0] at r0 r1 r2 r3; clear hk0))
  go_region_with (go_at_call 212; refine cM (by with_reducible exact HP.out _) ?_; rintro e w1 ⟨rfl, hk1⟩; have HK1 := qH (((Kp.refl [] W0).drew 1).trans hk1); have HR1 := qH (HR0.out.kp HK1.out (by simp)); have fR1 := fun o => HR1.out.frz (o := o); obtain ⟨y0, y1, y2, y3⟩ := HR1.out.cells; simp only [gp0] at y0 y1 y2 y3; clear hk1)
  all_goals go_wp2
  all_goals exact pc_end3 rfl (HR1.out.all ⟨1, a, 0, false⟩) rfl rfl rfl rfl ⟨⟨1, a, 0, false⟩, _, _, rfl, (HK0.out.trans HK1.out).setAll hwR _ _ _ _, HEND.out⟩
end Go.Proofs.YtkkibibecgcbmaaGreatDoor
namespace Go.Proofs.YtkkibibecgcbmaaGreatDoor
open Go.RowKit
theorem span_not {b : UInt8} (h : plainCh b = false) (t : List UInt8) : spanL plainCh (b :: t) = ([], b :: t) := by rw [spanL, if_neg (by rw [h]; exact Bool.false_ne_true)]
theorem first_twice {b : UInt8} {u : List UInt8} {w : World} (hs : u.length ≤ 900000) (ha : (b :: b :: u).all prCh = true) (hb : plainCh b = false) : Calls Tryz.prog 199 #[.string (bs (b :: b :: u))] w (FirstPost (b :: b :: u) w) := by
 have HI := qH fun W => index_any (b :: b :: u) W (by simp; omega) ha
 rw [span_not hb] at HI
 rw [if_neg (by simp)] at HI
 have hf : firstL nmB kyB (b :: b :: u) = some (⟨1, [b], 0, false⟩, u) := by
  unfold firstL
  rw [span_not hb, if_pos rfl]
  unfold stepL
  dsimp only
  have h2 : ¬ (b ≠ 36 ∧ b ≠ 37) := by
   intro h
   simp [plainCh, h.1, h.2] at hb
  rw [if_neg h2, if_pos (show (b :: u).head? = some b from rfl)]
  rfl
 have hEND : FirstOk (b :: b :: u) ⟨1, [b], 0, false⟩ u true := by unfold FirstOk; rw [hf]; exact ⟨rfl, rfl, rfl⟩
 have HEND := qH hEND
 clear hf hEND
 have hR0 : PAt (w.alloc (.cells #[.int .i64 0, .string ⟨#[]⟩, .int .i64 0, .bool false] 172)) w.heap.size gp0 := PAt.new w gp0
 have hK0 : Kp [] w (w.alloc (.cells #[.int .i64 0, .string ⟨#[]⟩, .int .i64 0, .bool false] 172)) := (Kp.refl [] w).alloc _
 obtain ⟨W, hW⟩ : ∃ W, w.alloc (.cells #[.int .i64 0, .string ⟨#[]⟩, .int .i64 0, .bool false] 172) = W := ⟨_, rfl⟩
 obtain ⟨R, hRR⟩ : ∃ R, w.heap.size = R := ⟨_, rfl⟩
 have hwR : w.heap.size ≤ R := by omega
 rw [hW] at hR0 hK0
 rw [hRR] at hR0
 have HRA := qH hR0
 have HKA := qH hK0
 have HW := qH hW
 have HRR := qH hRR
 clear hR0 hK0 hW hRR
 have HP := qH fun W => textPiece_any [b] W
 simp only [gpC] at HP
 have e1 : (bs (b :: b :: u)).extract 0 1 = bs [b] := by rw [bs_take]; rfl
 have e2 : (bs (b :: b :: u)).extract 2 (bs (b :: b :: u)).size = bs u := by rw [bs_drop]; rfl
 have e2' : (bs (b :: b :: u)).extract 2 (u.length + 2) = bs u := e2
 have hsz : (bs (b :: b :: u)).size = u.length + 2 := rfl
 have h0 : 0 < (bs (b :: b :: u)).size := by omega
 have h1 : 1 < (bs (b :: b :: u)).size := by omega
 have g0 : (bs (b :: b :: u))[0]'h0 = b := rfl
 have g1 : (bs (b :: b :: u))[1]'h1 = b := rfl
 have hz1 : (1 : Int) < ((bs (b :: b :: u)).size : Int) := by omega
 have hzb : decide ((1 : Int) < (u.length : Int) + 2) = true := by simp; omega
 have hz2 : (2 : Int) ≤ ((bs (b :: b :: u)).size : Int) := by omega
 have hz0 : (1 : Int) ≤ ((bs (b :: b :: u)).size : Int) := by omega
 clear ha hb hs
 go_enter Tryz.func199, Tryz.ntmps199
 go_wp2_with (first
  | (go_at_call 211; rw [HRR.out, HW.out]; refine cM (by with_reducible exact HI.out _) ?_; rintro e W0 ⟨rfl, hk0⟩; have HR0 := qH (HRA.out.kp hk0 (by simp)); have HK0 := qH (HKA.out.trans hk0); have fR := fun o => HR0.out.frz (o := o); obtain ⟨r0, r1, r2, r3⟩ := HR0.out.cells; simp only [gp0] at r0 r1 r2 r3; clear hk0))
 go_quiet (fail)
 go_wp2_with fail
 go_region_with (go_at_call 212; refine cM (by with_reducible exact HP.out _) ?_; rintro e w1 ⟨rfl, hk1⟩; have HK1 := qH (((Kp.refl [] W0).drew _).trans hk1); have HR1 := qH (HR0.out.kp HK1.out (by simp)); have fR1 := fun o => HR1.out.frz (o := o); obtain ⟨y0, y1, y2, y3⟩ := HR1.out.cells; simp only [gp0] at y0 y1 y2 y3; clear hk1)
 all_goals go_wp2
 all_goals exact pc_end3 rfl (HR1.out.all ⟨1, [b], 0, false⟩) rfl rfl rfl rfl ⟨⟨1, [b], 0, false⟩, _, _, rfl, (HK0.out.trans HK1.out).setAll hwR _ _ _ _, HEND.out⟩
theorem first_tail {b : UInt8} {t rest sp : List UInt8} {n k : Nat} {w : World} (hE : Env w) (hs : t.length ≤ 900000) (ha : (b :: t).all prCh = true) (hb : plainCh b = false) (ht : t.head? ≠ some b)
  (hn : n ≤ t.length + 1) (hsp : (b :: t).take n = sp) (hrest : (b :: t).drop n = rest) (hk : kindS sp = k) (hk2 : k = 0 ∨ 2 ≤ k ∧ k ≤ 11) (hst : stepL nmB kyB (b :: t) = placeL nmB kyB k rest)
  (hL : ∀ W, Calls Tryz.prog 213 #[.string (bs (b :: t))] W fun e w' => e = .returned (.int .i64 (n : Int)) ∧ Kp [] W w') : Calls Tryz.prog 199 #[.string (bs (b :: t))] w (FirstPost (b :: t) w) := by
 have HI := qH fun W => index_any (b :: t) W (by simp; omega) ha
 rw [span_not hb] at HI
 rw [if_neg (by simp)] at HI
 have HF := qH (show ∀ p r ok, FillOk k rest p r ok → FirstOk (b :: t) p r ok from fun p r ok h => by
  have e : firstL nmB kyB (b :: t) = placeL nmB kyB k rest := by unfold firstL; rw [span_not hb, if_pos rfl, hst]
  unfold FirstOk
  rw [e]
  exact h)
 have HL := qH hL
 have HKI := qH fun W => kindOf_any sp W
 rw [hk] at HKI
 have hrl : rest.length ≤ 1000000 := by rw [← hrest, List.length_drop, List.length_cons]; omega
 have HFI := qH fun (W : World) (h : Kp [] w W) => filled_any (s := rest) (hE.kp0 h) hk2 hrl
 unfold FillPost at HFI
 simp only [gpC] at HFI
 unfold FirstPost
 have hR0 : PAt (w.alloc (.cells #[.int .i64 0, .string ⟨#[]⟩, .int .i64 0, .bool false] 172)) w.heap.size gp0 := PAt.new w gp0
 have hK0 : Kp [] w (w.alloc (.cells #[.int .i64 0, .string ⟨#[]⟩, .int .i64 0, .bool false] 172)) := (Kp.refl [] w).alloc _
 obtain ⟨W, hW⟩ : ∃ W, w.alloc (.cells #[.int .i64 0, .string ⟨#[]⟩, .int .i64 0, .bool false] 172) = W := ⟨_, rfl⟩
 obtain ⟨R, hRR⟩ : ∃ R, w.heap.size = R := ⟨_, rfl⟩
 have hwR : w.heap.size ≤ R := by omega
 rw [hW] at hR0 hK0
 rw [hRR] at hR0
 have HRA := qH hR0
 have HKA := qH hK0
 have HW := qH hW
 have HRR := qH hRR
 clear hR0 hK0 hW hRR
 have e1 : (bs (b :: t)).extract 0 n = bs sp := by rw [bs_take, hsp]
 have e2 : (bs (b :: t)).extract n (bs (b :: t)).size = bs rest := by rw [bs_drop, hrest]
 have e2' : (bs (b :: t)).extract n (t.length + 1) = bs rest := e2
 have hsz : (bs (b :: t)).size = t.length + 1 := rfl
 have h0 : 0 < (bs (b :: t)).size := by omega
 have g0 : (bs (b :: t))[0]'h0 = b := rfl
 have hzn : (n : Int) ≤ ((bs (b :: t)).size : Int) := by omega
 have hzn2 : n ≤ (bs (b :: t)).size := by omega
 clear ha hs hE hsp hrest hk hk2 hst hL hrl hb
 by_cases h1 : 1 < (bs (b :: t)).size
 ·have hz1 : (1 : Int) < ((bs (b :: t)).size : Int) := by omega
  have hzb : decide ((1 : Int) < (t.length : Int) + 1) = true := by simp; omega
  obtain ⟨c, hc⟩ : ∃ c, (bs (b :: t))[1]'h1 = c := ⟨_, rfl⟩
  have hcb : ((c.toNat : Int) == (b.toNat : Int)) = false := by
   rw [beq_eq_false_iff_ne]
   intro e
   apply ht
   cases t with
   | nil => simp at hsz; omega
   | cons d t =>
    have h1 : c = d := hc.symm
    have h2 : c = b := UInt8.toNat_inj.1 (by omega)
    rw [List.head?_cons, ← h1, h2]
  clear ht
  go_enter Tryz.func199, Tryz.ntmps199
  go_wp2_with (first
   | (go_at_call 211; rw [HRR.out, HW.out]; refine cM (by with_reducible exact HI.out _) ?_; rintro e W0 ⟨rfl, hk0⟩; have HR0 := qH (HRA.out.kp hk0 (by simp)); have HK0 := qH (HKA.out.trans hk0); have fR := fun o => HR0.out.frz (o := o); obtain ⟨r0, r1, r2, r3⟩ := HR0.out.cells; simp only [gp0] at r0 r1 r2 r3; clear hk0))
  go_quiet (fail)
  go_wp2_with (first
   | (go_at_call 213; refine cM (by with_reducible exact HL.out _) ?_; rintro e w1 ⟨rfl, hk1⟩; have HK1 := qH (HK0.out.trans (((Kp.refl [] W0).drew _).trans hk1)); have HR1 := qH (HR0.out.kp (((Kp.refl [] W0).drew _).trans hk1) (by simp)); clear hk1 r0 r1 r2 r3 fR))
  have fR1 := fun o => HR1.out.frz (o := o)
  obtain ⟨y0, y1, y2, y3⟩ := HR1.out.cells
  simp only [gp0] at y0 y1 y2 y3
  go_region_with (first
   | (go_at_call 215; refine cM (by with_reducible exact HKI.out _) ?_; rintro e w2 ⟨rfl, hk2⟩; have HK2 := qH (((Kp.refl [] w1).drew _).trans hk2); clear hk2)
   | (go_at_call 214; refine cM (by with_reducible exact HFI.out _ (HK1.out.trans HK2.out)) ?_; rintro e w3 ⟨p, r, ok, rfl, hk3, hok⟩; have HOK := qH hok; clear hok; have HK3 := qH (HK2.out.trans hk3); have HR3 := qH (HR1.out.kp HK3.out (by simp)); have fR3 := fun o => HR3.out.frz (o := o); obtain ⟨z0, z1, z2, z3⟩ := HR3.out.cells; simp only [gp0] at z0 z1 z2 z3; clear hk3))
  all_goals go_wp2
  all_goals exact pc_end3 rfl (HR3.out.all p) rfl rfl rfl rfl ⟨p, r, ok, rfl, (HK1.out.trans HK3.out).setAll hwR _ _ _ _, HF.out _ _ _ HOK.out⟩
 ·have hzb : decide ((1 : Int) < (t.length : Int) + 1) = false := by simp; omega
  clear ht
  go_enter Tryz.func199, Tryz.ntmps199
  go_wp2_with (first
   | (go_at_call 211; rw [HRR.out, HW.out]; refine cM (by with_reducible exact HI.out _) ?_; rintro e W0 ⟨rfl, hk0⟩; have HR0 := qH (HRA.out.kp hk0 (by simp)); have HK0 := qH (HKA.out.trans hk0); have fR := fun o => HR0.out.frz (o := o); obtain ⟨r0, r1, r2, r3⟩ := HR0.out.cells; simp only [gp0] at r0 r1 r2 r3; clear hk0))
  go_quiet (fail)
  go_wp2_with (first
   | (go_at_call 213; refine cM (by with_reducible exact HL.out _) ?_; rintro e w1 ⟨rfl, hk1⟩; have HK1 := qH (HK0.out.trans (((Kp.refl [] W0).drew _).trans hk1)); have HR1 := qH (HR0.out.kp (((Kp.refl [] W0).drew _).trans hk1) (by simp)); clear hk1 r0 r1 r2 r3 fR))
  have fR1 := fun o => HR1.out.frz (o := o)
  obtain ⟨y0, y1, y2, y3⟩ := HR1.out.cells
  simp only [gp0] at y0 y1 y2 y3
  go_region_with (first
   | (go_at_call 215; refine cM (by with_reducible exact HKI.out _) ?_; rintro e w2 ⟨rfl, hk2⟩; have HK2 := qH (((Kp.refl [] w1).drew _).trans hk2); clear hk2)
   | (go_at_call 214; refine cM (by with_reducible exact HFI.out _ (HK1.out.trans HK2.out)) ?_; rintro e w3 ⟨p, r, ok, rfl, hk3, hok⟩; have HOK := qH hok; clear hok; have HK3 := qH (HK2.out.trans hk3); have HR3 := qH (HR1.out.kp HK3.out (by simp)); have fR3 := fun o => HR3.out.frz (o := o); obtain ⟨z0, z1, z2, z3⟩ := HR3.out.cells; simp only [gp0] at z0 z1 z2 z3; clear hk3))
  all_goals go_wp2
  all_goals exact pc_end3 rfl (HR3.out.all p) rfl rfl rfl rfl ⟨p, r, ok, rfl, (HK1.out.trans HK3.out).setAll hwR _ _ _ _, HF.out _ _ _ HOK.out⟩
end Go.Proofs.YtkkibibecgcbmaaGreatDoor
namespace Go.Proofs.YtkkibibecgcbmaaGreatDoor
open Go.RowKit
theorem stepL_letterK (c : UInt8) (u : List UInt8) (h : c ≠ 37) : stepL nmB kyB (37 :: c :: u) = placeL nmB kyB (kindOfLetter c) u := by
 unfold stepL
 dsimp only
 rw [if_neg (by simp), if_neg (by rw [List.head?_cons]; intro e; exact h (Option.some.inj e)), if_pos rfl]
theorem stepL_wordK (t : List UInt8) (h : t.head? ≠ some 36) : stepL nmB kyB (36 :: t) = placeL nmB kyB (kindOfWord (spanL azCh t).1) (spanL azCh t).2 := by
 unfold stepL
 dsimp only
 rw [if_neg (by simp), if_neg h, if_neg (by decide)]
theorem first_any {s : List UInt8} {w : World} (hE : Env w) (hne : s ≠ []) (hs : s.length ≤ 900000) (ha : s.all prCh = true) : Calls Tryz.prog 199 #[.string (bs s)] w (FirstPost s w) := by
 by_cases h : (spanL plainCh s).1 ≠ []
 ·exact first_text (by omega) ha h
 have h := Decidable.of_not_not h
 cases s with
 | nil => exact absurd rfl hne
 | cons b t =>
  rw [List.length_cons] at hs
  have hb : plainCh b = false := by
   cases hb : plainCh b with
   | false => rfl
   | true => rw [spanL, if_pos hb] at h; cases h
  by_cases ht : t.head? = some b
  ·cases t with
   | nil => cases ht
   | cons c u =>
    obtain rfl : c = b := by simpa using ht
    rw [List.length_cons] at hs
    exact first_twice (by omega) ha hb
  ·have hb2 : b = 36 ∨ b = 37 := by
    simp only [plainCh, Bool.and_eq_false_iff, bne_eq_false_iff_eq] at hb
    exact hb
   rcases hb2 with rfl | rfl
   ·have hsl := spanL_len azCh t
    obtain ⟨he, _, _⟩ := spanL_eq azCh t
    have hk := kindOfWord_le (spanL azCh t).1
    refine first_tail hE (n := (spanL azCh t).1.length + 1) (k := kindOfWord (spanL azCh t).1) (sp := 36 :: (spanL azCh t).1) (rest := (spanL azCh t).2) (by omega) ha hb ht (by omega) ?_ ?_ (kindS_word _) (by omega) (stepL_wordK t ht) fun W => spLen_word 36 t W (by decide) (by omega)
    ·rw [List.take_succ_cons]
     congr 1
     generalize (spanL azCh t).1 = x at *
     generalize (spanL azCh t).2 = y at *
     rw [← he, List.take_left' rfl]
    ·rw [List.drop_succ_cons]
     generalize (spanL azCh t).1 = x at *
     generalize (spanL azCh t).2 = y at *
     rw [← he, List.drop_left' rfl]
   ·cases t with
    | nil =>
     exact first_tail hE (n := 1) (k := 0) (sp := [37]) (rest := []) (by simp) ha hb ht (by simp) rfl rfl kindS_one (.inl rfl) rfl fun W => spLen_letter [] W (by simp)
    | cons c u =>
     rw [List.length_cons] at hs
     have hc : c ≠ 37 := fun e => ht (by rw [e]; rfl)
     have hk := kindOfLetter_le c
     have hL := fun W => spLen_letter (c :: u) W (by rw [List.length_cons]; omega)
     rw [show min 2 ((c :: u).length + 1) = 2 by simp] at hL
     exact first_tail hE (n := 2) (k := kindOfLetter c) (sp := [37, c]) (rest := u) (by rw [List.length_cons]; omega) ha hb ht (by simp) rfl rfl (kindS_letter c) (by omega) (stepL_letterK c u hc) hL
theorem run_add_str {P : Program} (W : World) (a b : ByteArray) (h : a.size + b.size ≤ 100000000000) : (Op.stringOp .add a b).run P W = .ok (.string (a ++ b)) W :=
 run_string_add_sum W a b (by omega)
theorem gp_store {w : World} {B : Nat} {sv : Value} {l : List Gp} {x : Gp} (h : gpT.Own w B sv (l ++ [x])) :
  ∃ g cap, sv = .slice (some ⟨g, 0, none⟩) (l.length + 1) cap ∧ B ≤ g ∧ g < w.heap.size ∧ w.frozen? ⟨g, l.length * 4 + 1, none⟩ = false ∧ w.cell? ⟨g, l.length * 4, none⟩ = some (.int .i64 x.kind) ∧ w.cell? ⟨g, l.length * 4 + 1, none⟩ = some (.string (bs x.text)) ∧
   ∀ t, gpT.Own (w.setCell ⟨g, l.length * 4 + 1, none⟩ (.string (bs t))) B sv (l ++ [{ x with text := t }]) := by
 have hf := h.form2
 rcases h.2 with ⟨_, hn⟩ | ⟨g, cap, cur, hv, hB, hh, hc, hcm, hcz, ht⟩
 ·simp at hn
 have hrow : gpT.Row w g 0 (l ++ [x]) := RT.row_of (cur := cur.toList) (by rw [Array.toArray_toList]; exact hh) ht
 obtain ⟨d0, d1, d2, d3⟩ := gpRow hrow (j := l.length) (x := x) (by simp)
 rw [Nat.zero_add] at d0 d1
 refine ⟨g, cap, by rw [hv]; simp, hB, block_lt hh, by simp [World.frozen?, hh], d0, d1, fun t => ⟨?_, .inr ⟨g, cap, cur.setIfInBounds (l.length * 4 + 1) (.string (bs t)), ?_, hB, ?_, ?_, hcm, ?_, ?_⟩⟩⟩
 ·rw [gpT.cells_len]
 ·rw [hv]; simp
 ·simp [World.setCell, Array.getElem?_modify, hh]
 ·simpa using hc
 ·rw [Array.size_setIfInBounds]; exact hcz
 ·rw [Array.toList_setIfInBounds, List.take_set]
  have hlen : (l ++ [({ x with text := t } : Gp)]).length = (l ++ [x]).length := by simp
  rw [hlen, ht, RT.cells_append, RT.cells_append, List.set_append_right _ _ (by rw [gpT.cells_len]; show l.length * 4 ≤ _; omega), gpT.cells_len]
  rw [show l.length * 4 + 1 - l.length * gpT.sz = 1 by show l.length * 4 + 1 - l.length * 4 = 1; omega]
  rfl
theorem kp_grownB {w W W' : World} {B : Nat} {v : Value} (hB : Below B w W) (hb : B ≤ W.heap.size) (hg : W.grownBy W' v.ownBlock) (hv : ∀ b, v.ownBlock = some b → B ≤ b) : Below B w W' :=
 hB.trans ⟨hg.os, hg.tape, hg.output, hg.size, fun k hk => hg.block k (Nat.lt_of_lt_of_le hk hb) fun e => by have := hv k e.symm; omega⟩
theorem appendPiece_any {w : World} {B : Nat} {v : Value} (acc : List Pc) (p : Pc) (h : gpT.Own w B v (acc.map Pc.g)) (hB : B ≤ w.heap.size) (hl : acc.length ≤ 900000) (hz : tsum acc + p.text.length ≤ 1000000000) :
  Calls Tryz.prog 200 #[v, .agg (gpC p.g)] w fun e w' => ∃ v', e = .returned v' ∧ gpT.Own w' B v' ((addP acc p).map Pc.g) ∧ Below B w w' := by
 obtain ⟨W, hW⟩ : ∃ W, w.alloc (.cells (gpC p.g) 172) = W := ⟨_, rfl⟩
 obtain ⟨W2, hW2⟩ : ∃ W2, W.alloc (.cells (gpC p.g) 172) = W2 := ⟨_, rfl⟩
 obtain ⟨T, hT⟩ : ∃ T, w.heap.size = T := ⟨_, rfl⟩
 obtain ⟨N, hN⟩ : ∃ N, T + 1 = N := ⟨_, rfl⟩
 have hsz : W.heap.size = N := by rw [← hW]; simp; omega
 have hPT : PAt W T p.g := by rw [← hW, ← hT]; exact PAt.new w p.g
 have hPN : PAt W2 N p.g := by rw [← hW2, ← hsz]; exact PAt.new W p.g
 have hK : Kp [] w W := by rw [← hW]; exact (Kp.refl [] w).alloc _
 have hK2 : Kp [] w W2 := by rw [← hW2]; exact hK.alloc _
 have hO := h.kp0 hK
 have hO2 := h.kp0 hK2
 have hlT : ∀ b, v.ownBlock = some b → b ≠ T := fun b hb => by have := (h.ge b hb).2; omega
 obtain ⟨c0, c1, c2, c3⟩ := hPT.cells
 have HO := qH hO
 have HO2 := qH hO2
 have HBe := qH (hK.below hB (by simp))
 have HB2 := qH (hK2.below hB (by simp))
 have HPN := qH hPN.range
 have HW := qH hW
 have HW2 := qH hW2
 have HT := qH hT
 have HN := qH hN
 have HG := qH hlT
 have HS := qH hsz
 have HPT := qH hPT
 have HBW := qH (show B ≤ W2.heap.size from Nat.le_trans hB hK2.size)
 have hf := h.form
 clear hPT hPN hO hO2 hK hK2 hW hW2 hT hN hlT h hsz
 obtain ⟨pk, pt, pw, pm⟩ := p
 have HV := qH fun b (hb : v.ownBlock = some b) => (HO2.out.ge b hb).1
 simp only [Pc.g, gpC] at c0 c1 c2 c3 HW HW2 HPN HPT ⊢
 simp only at hz
 have HA := qH (show (acc.getLast? = none ∨ pk ≠ 1 ∨ ∃ q, acc.getLast? = some q ∧ q.kind ≠ 1) → addP acc ⟨pk, pt, pw, pm⟩ = acc ++ [⟨pk, pt, pw, pm⟩] from fun h => by
  rcases h with h | h | ⟨q, h, hq⟩
  ·unfold addP
   rw [h]
  ·exact addP_new _ _ (.inl h)
  ·exact addP_new _ _ (.inr fun q' h' => by rw [h] at h'; cases h'; exact hq))
 obtain ⟨va, vc, rfl⟩ := hf
 rw [List.length_map] at HO HO2 HG HV ⊢
 have hlen : (acc.map Pc.g).length ≤ 1000000 := by rw [List.length_map]; omega
 have HLE := qH hlen
 clear hlen
 cases hla : acc.getLast? with
 | none =>
  have h0 : acc = [] := List.getLast?_eq_none_iff.1 hla
  have he := HA.out (.inl hla)
  subst h0
  rw [he]
  clear HA he hla
  simp only [List.length_nil] at HO HO2 HG HV ⊢
  go_enter Tryz.func200, Tryz.ntmps200
  go_upto_region 1 with fail
  rw [HT.out, HW.out]
  go_wp2_with (first
   | (at_builtin; rw [HS.out, HW2.out]; refine wpList_append_r (r := gpT) rfl (.tmp 35) (.tmp 37) rfl B (.slice va 0 vc) _ rfl HO2.out N 1 ⟨(pk : Int), pt, (pw : Int), pm⟩ rfl HPN.out HLE.out HBW.out ?_; intro v8 w8 hown8 hgr8; have HO8 := qH hown8; have HK8 := qH (kp_grownB HB2.out HBW.out hgr8 HV.out); clear hown8 hgr8))
  go_ret
  exact ⟨v8, rfl, by simpa [Pc.g] using HO8.out, HK8.out⟩
 | some q =>
  obtain ⟨l, rfl⟩ := List.getLast?_eq_some_iff.1 hla
  have HLL := qH hla
  clear hla
  rw [List.length_append, List.length_singleton] at HO HO2 HG HV hl ⊢
  have hO := HO.out
  rw [List.map_append, List.map_cons, List.map_nil] at hO
  obtain ⟨g, cap, hv, hBg, hgl, hfz, d0, d1, hput⟩ := gp_store hO
  rw [List.length_map] at hv hfz d0 d1 hput
  cases hv
  clear hO
  have HPU := qH hput
  have hgT := HG.out g rfl
  clear hput
  have hlw : IntKind.i64.wrap ((l.length : Int) + 1 - 1) = (l.length : Int) := by rw [IntKind.wrap_i64]; omega
  have hge : (0 : Int) ≤ (l.length : Int) := by omega
  have hlt : (l.length : Int) < (l.length : Int) + 1 := by omega
  have hpkq : (q.kind : Int) = q.g.kind := rfl
  rw [← hpkq] at d0
  by_cases hpk : pk = 1
  ·by_cases hq : q.kind = 1
   ·have he : addP (l ++ [q]) ⟨pk, pt, pw, pm⟩ = l ++ [⟨q.kind, q.text ++ pt, q.word, q.more⟩] := by
     unfold addP
     rw [HLL.out]
     simp only [hpk, hq, and_self, if_true, List.dropLast_concat]
    rw [he]
    have hqi : ((q.kind : Int) == 1) = true := by rw [beq_iff_eq]; omega
    have hpi : ((pk : Int) == 1) = true := by rw [beq_iff_eq]; omega
    have hts : q.text.length ≤ tsum (l ++ [q]) := by simp [tsum]
    have hadd := fun W => @run_add_str Tryz.prog W (bs q.text) (bs pt) (by rw [bs_size, bs_size]; omega)
    rw [bs_app] at hadd
    have d1' : W.cell? ⟨g, l.length * 4 + 1, none⟩ = some (.string (bs q.text)) := d1
    have HP2 := qH (show gpT.Own (W.setCell ⟨g, l.length * 4 + 1, none⟩ (.string (bs (q.text ++ pt)))).drew B (.slice (some ⟨g, 0, none⟩) (l.length + 1) vc) ((l ++ [(⟨q.kind, q.text ++ pt, q.word, q.more⟩ : Pc)]).map Pc.g) by
     rw [List.map_append]
     exact (HPU.out (q.text ++ pt)).kp0 ((Kp.refl [] _).drew 1))
    have hb2 := HBe.out.setCell (p := ⟨g, l.length * 4 + 1, none⟩) hBg (.string (bs (q.text ++ pt)))
    have HB3 := qH hb2
    clear HA he hq hpk d1 hb2 hts
    go_enter Tryz.func200, Tryz.ntmps200
    go_upto_region 1 with fail
    rw [HT.out, HW.out]
    go_wp2_with fail
    go_region
    all_goals go_wp2
    all_goals go_ret
    all_goals exact ⟨_, rfl, HP2.out, HB3.out.os, HB3.out.tape, HB3.out.output, HB3.out.size, HB3.out.block⟩
   ·have he := HA.out (.inr (.inr ⟨q, HLL.out, hq⟩))
    rw [he]
    have hqi : ((q.kind : Int) == 1) = false := by rw [beq_eq_false_iff_ne]; omega
    have hpi : ((pk : Int) == 1) = true := by rw [beq_iff_eq]; omega
    clear HA he hq hpk
    go_enter Tryz.func200, Tryz.ntmps200
    go_upto_region 1 with fail
    rw [HT.out, HW.out]
    go_wp2_with (first
     | (at_builtin; rw [HS.out, HW2.out]; refine wpList_append_r (r := gpT) rfl (.tmp 35) (.tmp 37) rfl B (.slice (some ⟨g, 0, none⟩) (l.length + 1) vc) _ rfl HO2.out N 1 ⟨(pk : Int), pt, (pw : Int), pm⟩ rfl HPN.out HLE.out HBW.out ?_; intro v8 w8 hown8 hgr8; have HO8 := qH hown8; have HK8 := qH (kp_grownB HB2.out HBW.out hgr8 HV.out); clear hown8 hgr8))
    go_ret
    exact ⟨v8, rfl, by simpa [Pc.g] using HO8.out, HK8.out⟩
  ·have he := HA.out (.inr (.inl hpk))
   rw [he]
   have hpi : ((pk : Int) == 1) = false := by rw [beq_eq_false_iff_ne]; omega
   clear HA he
   go_enter Tryz.func200, Tryz.ntmps200
   go_upto_region 1 with fail
   rw [HT.out, HW.out]
   go_wp2_with (first
    | (at_builtin; rw [HS.out, HW2.out]; refine wpList_append_r (r := gpT) rfl (.tmp 35) (.tmp 37) rfl B (.slice (some ⟨g, 0, none⟩) (l.length + 1) vc) _ rfl HO2.out N 1 ⟨(pk : Int), pt, (pw : Int), pm⟩ rfl HPN.out HLE.out HBW.out ?_; intro v8 w8 hown8 hgr8; have HO8 := qH hown8; have HK8 := qH (kp_grownB HB2.out HBW.out hgr8 HV.out); clear hown8 hgr8))
   go_ret
   exact ⟨v8, rfl, by simpa [Pc.g] using HO8.out, HK8.out⟩
end Go.Proofs.YtkkibibecgcbmaaGreatDoor
namespace Go.Proofs.YtkkibibecgcbmaaGreatDoor
open Go.RowKit
def parseE (s : List UInt8) : List Pc × Int :=
 if 256 < s.length then ([], 91) else if txB s = false then ([], 90) else match parseP nmB kyB s with
  | none => ([], 90)
  | some l => (l, 0)
def ParsePost (s : List UInt8) (w : World) (e : Ending) (w' : World) : Prop := ∃ v, e = .returned (.tuple #[v, .int .i64 (parseE s).2]) ∧ gpT.Own w' w.heap.size v ((parseE s).1.map Pc.g) ∧ Kp [] w w'
theorem placeL_suf {nm ky : List UInt8 → Bool} {k : Nat} {s r : List UInt8} {p : Pc} (h : placeL nm ky k s = some (p, r)) : r <:+ s := by
 have hb : ∀ {x : List UInt8 × List UInt8}, braceL s = some x → x.2 <:+ s := fun {x} hx => by
  obtain ⟨e, _⟩ := braceL_inv (a := x.1) (r := x.2) hx
  exact ⟨123 :: (x.1 ++ [125]), by rw [e]; simp⟩
 unfold placeL at h
 split at h
 ·cases h
 split at h
 ·obtain ⟨x, hx, h⟩ := Option.bind_eq_some_iff.1 h
  split at h
  ·cases h; exact hb hx
  ·cases h
 split at h
 ·obtain ⟨x, hx, h⟩ := Option.bind_eq_some_iff.1 h
  split at h
  ·cases h; exact hb hx
  ·cases h
 split at h
 ·obtain ⟨x, hx, h⟩ := Option.bind_eq_some_iff.1 h
  obtain ⟨c, hc, h⟩ := Option.map_eq_some_iff.1 h
  cases h
  exact hb hx
 ·cases h
  exact List.suffix_refl _
theorem span_suf (p : UInt8 → Bool) (s : List UInt8) : (spanL p s).2 <:+ s := ⟨(spanL p s).1, (spanL_eq p s).1⟩
theorem stepL_suf {nm ky : List UInt8 → Bool} {s r : List UInt8} {p : Pc} (h : stepL nm ky s = some (p, r)) : r <:+ s := by
 match s with
 | [] => cases h
 | b :: s =>
  unfold stepL at h
  dsimp only at h
  split at h
  ·cases h
   exact List.suffix_cons _ _
  split at h
  ·cases h
   exact (List.tail_suffix s).trans (List.suffix_cons _ _)
  split at h
  ·split at h
   ·cases h
   ·rename_i c r' _
    exact ((placeL_suf h).trans (List.suffix_cons _ _)).trans (List.suffix_cons _ _)
  ·exact ((placeL_suf h).trans (span_suf _ _)).trans (List.suffix_cons _ _)
theorem firstL_suf {nm ky : List UInt8 → Bool} {s r : List UInt8} {p : Pc} (h : firstL nm ky s = some (p, r)) : r <:+ s := by
 unfold firstL at h
 split at h
 ·exact stepL_suf h
 ·cases h
  exact span_suf _ _
theorem suf_all {f : UInt8 → Bool} {r s : List UInt8} (h : r <:+ s) (ha : s.all f = true) : r.all f = true := by
 obtain ⟨t, rfl⟩ := h
 rw [List.all_append, Bool.and_eq_true] at ha
 exact ha.2
theorem first_cases {s : List UInt8} {p : Gp} {r : List UInt8} {ok : Bool} (h : FirstOk s p r ok) : (ok = false ∧ firstL nmB kyB s = none) ∨ ∃ q, ok = true ∧ p = q.g ∧ firstL nmB kyB s = some (q, r) := by
 unfold FirstOk at h
 split at h
 ·rename_i q r' e
  obtain ⟨h1, h2, h3⟩ := h
  exact .inr ⟨q, h3, h1, by rw [e, h2]⟩
 ·rename_i e
  exact .inl ⟨h, e⟩
theorem parse_any {w : World} (hE : Env w) (s : List UInt8) (hs : s.length ≤ 1000000000000) : Calls Tryz.prog 186 #[.string (bs s)] w (ParsePost s w) := by
 have hsz : (bs s).size = s.length := rfl
 unfold ParsePost
 obtain ⟨E, hEE⟩ : ∃ E, parseE s = E := ⟨_, rfl⟩
 rw [hEE]
 by_cases h1 : 256 < s.length
 ·have hE1 : E = ([], 91) := by rw [← hEE]; unfold parseE; rw [if_pos h1]
  subst hE1
  have hz : (256 : Int) < ((bs s).size : Int) := by omega
  clear hEE hE
  go_enter Tryz.func186, Tryz.ntmps186
  go_wp2
  go_ret2
  exact ⟨_, rfl, RT.Own.nil gpT w _, Kp.refl _ _⟩
 have hz : ¬ ((256 : Int) < ((bs s).size : Int)) := by omega
 have HT := qH fun W => text_any s W hs
 cases ht : txB s with
 | false =>
  have hE1 : E = ([], 90) := by rw [← hEE]; unfold parseE; rw [if_neg h1, if_pos ht]
  subst hE1
  rw [ht] at HT
  clear hEE hE
  go_enter Tryz.func186, Tryz.ntmps186
  go_wp2_with (go_at_call 197; refine cM (by with_reducible exact HT.out _) ?_; rintro e w1 ⟨rfl, hk1⟩)
  go_ret2
  exact ⟨_, rfl, RT.Own.nil gpT w1 _, hk1⟩
 | true =>
  rw [ht] at HT
  have hpr : s.all prCh = true := by rw [txB_eq] at ht; simp at ht; simpa using ht.2
  have hR : ∀ X, pfrom nmB kyB [] s = X → (match X with | none => (([] : List Pc), (90 : Int)) | some l => (l, 0)) = E := fun X hX => by
   rw [← hEE]
   unfold parseE
   rw [if_neg h1, if_neg (by rw [ht]; simp), parseP_eq, hX]
  have HR := qH hR
  have hl : s.length ≤ 256 := by omega
  clear hR hEE ht h1
  obtain ⟨B, hB⟩ : ∃ B, w.heap.size = B := ⟨_, rfl⟩
  have HBB := qH hB
  have hOB := qH (RT.Own.nil gpT)
  have HE := qH hE
  have HPR := qH hpr
  clear hpr hE
  rw [hB]
  clear hB
  go_enter Tryz.func186, Tryz.ntmps186
  go_wp2_with (go_at_call 197; refine cM (by with_reducible exact HT.out _) ?_; rintro e w1 ⟨rfl, hk1⟩)
  have HK1 := qH hk1
  clear hk1
  go_loopg [0, 4] (s.length) (fun g s0 s4 wx => ∃ (acc : List Pc) (r : List UInt8), s0 = .string (bs r) ∧ r.length ≤ g ∧ g ≤ s.length ∧ acc.length + r.length ≤ s.length ∧ tsum acc + 256 * r.length ≤ 65536 ∧ Hid (pfrom nmB kyB [] s = pfrom nmB kyB acc r) ∧ Hid (r.all prCh = true) ∧ gpT.Own wx B s4 (acc.map Pc.g) ∧ Hid (Kp [] w wx))
  case atStart => exact ⟨[], s, rfl, Nat.le_refl _, Nat.le_refl _, by simp, by simp [tsum]; omega, qH rfl, HPR, hOB.out w1 B, HK1⟩
  case round =>
   obtain ⟨acc, r, rfl, hrg, hgs, hal, hts, hp, hra, hO, hk⟩ := hrel
   cases r with
   | nil =>
    have he0 : (bs []).toList.isEmpty = true := bs_isEmpty []
    have hE1 := HR.out (some acc) (hp.out.trans (pfrom_nil acc))
    simp only at hE1
    subst hE1
    have HO := qH hO
    clear hO HR
    go_wp2
    go_ret2
    exact ⟨_, rfl, HO.out, hk.out⟩
   | cons b r' =>
    have he0 : (bs (b :: r')).toList.isEmpty = false := bs_isEmpty _
    have hne : b :: r' ≠ [] := by simp
    have HF := qH fun (W : World) (h : Kp [] w W) => first_any (s := b :: r') ((HE.out).kp0 h) hne (by omega) hra.out
    unfold FirstPost at HF
    simp only [gpC] at HF
    have HO := qH hO
    have hLL : (b :: r').length = r'.length + 1 := rfl
    generalize hq : b :: r' = r at *
    clear hO
    cases gk with
    | zero => omega
    | succ gk =>
    go_upto_region 8 with (go_at_call 199; refine cM (by with_reducible exact HF.out _ hk.out) ?_; rintro e w2 ⟨p, rr, ok, rfl, hk2, hok⟩)
    have HK2 := qH (hk.out.trans hk2)
    have HO2 := qH (HO.out.kp0 hk2)
    rcases first_cases hok with ⟨rfl, hfn⟩ | ⟨⟨qk, qt, qw, qm⟩, rfl, rfl, hfs⟩
    ·have hE1 := HR.out none (hp.out.trans (pfrom_first_none acc hne hfn))
     simp only at hE1
     subst hE1
     clear HR hok hfn hk2
     go_wp2
     go_ret2
     exact ⟨_, rfl, hOB.out _ _, HK2.out.alloc _⟩
    ·obtain ⟨hf1, hf2, hf3⟩ := firstL_le hfs
     have hpf := qH (hp.out.trans (pfrom_first acc hfs))
     have hrr : rr.all prCh = true := suf_all (firstL_suf hfs) hra.out
     have hal2 := addP_len acc ⟨qk, qt, qw, qm⟩
     have hts2 := addP_tsum acc ⟨qk, qt, qw, qm⟩
     simp only at hts2 hf3
     have HAP := qH fun (W : World) (h : gpT.Own W B u4 (acc.map Pc.g)) (hB : B ≤ W.heap.size) => appendPiece_any acc ⟨qk, qt, qw, qm⟩ h hB (by omega) (by show tsum acc + qt.length ≤ 1000000000; omega)
     simp only [gpC, Pc.g] at HAP ⊢
     have HRR := qH hrr
     clear hok hfs hk2 HR hrr
     have hBw : B ≤ w2.heap.size := by have := HBB.out; have := HK2.out.size; omega
     go_wp2_with (go_at_call 200; refine cM (by with_reducible exact HAP.out _ (HO2.out.kp0 ((Kp.refl [] w2).alloc _)) (by simp; omega)) ?_; rintro e w3 ⟨v3, rfl, ho3, hb3⟩; have HO3 := qH ho3; have HB3 := qH hb3; clear ho3 hb3)
     go_roundg gk
     case measure => omega
     case rel => exact ⟨_, rr, rfl, by omega, by omega, by omega, by omega, hpf, HRR, HO3.out, qH ((HK2.out.alloc _).belowTo (by rw [HBB.out]; exact HB3.out))⟩
theorem check_any {w : World} (hE : Env w) (s : List UInt8) (hs : s.length ≤ 1000000000000) : Calls Tryz.prog 164 #[.string (bs s)] w fun e w' => e = .returned (.int .i64 (parseE s).2) ∧ Kp [] w w' := by
 have HP := qH (parse_any hE s hs)
 unfold ParsePost at HP
 clear hE
 go_enter Tryz.func164, Tryz.ntmps164
 go_wp2_with (go_at_call 186; refine cM (by with_reducible exact HP.out) ?_; rintro e w1 ⟨v, rfl, ho, hk⟩)
 go_ret
 exact ⟨rfl, hk⟩
end Go.Proofs.YtkkibibecgcbmaaGreatDoor
