/- Device of both. -/
import Derived.Test.YthblgkjmjfhkdaaKMd
namespace Go.Proofs.Ythblgkjmjfhkdaa
open Go.RowKit

theorem Kp.bel {a b : World} (h : Kp [] a b) : Below a.heap.size a b := h.below (Nat.le_refl _) (by simp)
/-- What a term looks at. -/
def valD (k : Int) (n : List UInt8) (d : De.Dev) (l : List De.Atr) : List UInt8 :=
  if k = 2 ∨ k = 8 then d.orig.data.toList else if k = 3 ∨ k = 9 then d.sub.data.toList else if k = 4 ∨ k = 10 then d.drv.data.toList else (getO (bs n) l).data.toList
def devB (t : Tm) (d : De.Dev) (l : List De.Atr) : Bool := (statB t || upB t) && hR t (valD t.key t.name d l)
structure SmD (d : De.Dev) (l : List De.Atr) : Prop where
  o : d.orig.size ≤ 4611686018427387904
  s : d.sub.size ≤ 4611686018427387904
  d : d.drv.size ≤ 4611686018427387904
  a : ∀ x ∈ l, x.2.size ≤ 4611686018427387904
theorem getO_size {l : List De.Atr} (h : ∀ x ∈ l, x.2.size ≤ 4611686018427387904) (n : ByteArray) : (getO n l).size ≤ 4611686018427387904 := by
  unfold getO
  cases hg : De.getP n l with
  | none => decide
  | some v => exact h _ (De.getP_mem hg)
theorem valD_size {d : De.Dev} {l : List De.Atr} (h : SmD d l) (k : Int) (n : List UInt8) : (valD k n d l).length ≤ 4611686018427387904 := by
  unfold valD
  split
  · exact h.o
  · split
    · exact h.s
    · split
      · exact h.d
      · exact getO_size h.a _
theorem key_cases {t : Tm} (h : (statB t || upB t) = true) : t.key = 2 ∨ t.key = 3 ∨ t.key = 4 ∨ t.key = 5 ∨ t.key = 8 ∨ t.key = 9 ∨ t.key = 10 ∨ t.key = 11 := by
  unfold statB upB stK upK at h
  simp only [Bool.or_eq_true, Bool.and_eq_true, beq_iff_eq] at h
  omega
set_option maxRecDepth 100000 in
set_option maxHeartbeats 2000000 in
theorem device_no (k : Int) (n : List UInt8) (o : Int) (vl : List UInt8) (x1 x2 : Int) (x3 x4 x5 x6 x7 : ByteArray) (x8 x9 : Int) (ad : Option Addr) (an ac : Nat) (w : World)
    (hs : statB ⟨k, n, o, vl⟩ = false) (hu : upB ⟨k, n, o, vl⟩ = false) : Calls Try.prog 14 #[.agg #[.int .i64 k, .string (bs n), .int .i64 o, .string (bs vl)], .agg #[.int .i64 x1, .int .i64 x2, .string x3, .string x4, .string x5, .string x6, .string x7, .int .i64 x8, .int .i64 x9, .slice ad an ac]] w fun e w' => e = .returned (.bool false) ∧ Kp [] w w' := by
  obtain ⟨W0, hW⟩ : ∃ W0, (w.alloc (.cells #[.int .i64 k, .string (bs n), .int .i64 o, .string (bs vl)] 23)).alloc (.cells #[.int .i64 x1, .int .i64 x2, .string x3, .string x4, .string x5, .string x6, .string x7, .int .i64 x8, .int .i64 x9, .slice ad an ac] 26) = W0 := ⟨_, rfl⟩
  obtain ⟨R, hR'⟩ : ∃ R, w.heap.size = R := ⟨_, rfl⟩
  have hk0 : Kp [] w W0 := by rw [← hW]; exact ((Kp.refl [] w).alloc _).alloc _
  have hb0 : MAt W0 R ⟨k, n, o, vl⟩ := by rw [← hW, ← hR']; exact heap_alloc2_old w _ _
  obtain ⟨c0, c1, c2, c3⟩ := hb0.cells
  have HS := Lib.hid (fun W => static_any ⟨k, n, o, vl⟩ W)
  have HU := Lib.hid (fun W => upward_any ⟨k, n, o, vl⟩ W)
  rw [hs] at HS
  rw [hu] at HU
  unfold tmC at HS HU
  simp only at HS HU
  have HK0 := Lib.hid hk0
  have HB0 := Lib.hid hb0
  clear hs hu hk0 hb0
  go_enter Try.func14, Try.ntmps14
  go_wp2_with (first
    | (go_at_call 10; refine Calls.mono (by with_reducible exact HS.out _) ?_; rintro e w1 ⟨rfl, hk1⟩; have HK1 := Lib.hid hk1; obtain ⟨c0, c1, c2, c3⟩ := (HB0.out.kp0 hk1).cells; clear hk1)
    | (go_at_call 12; refine Calls.mono (by with_reducible exact HU.out _) ?_; rintro e w2 ⟨rfl, hk2⟩; have HK2 := Lib.hid (HK1.out.trans hk2); clear hk2))
  go_ret
  exact ⟨rfl, HK0.out.trans HK2.out⟩
set_option maxRecDepth 100000 in
theorem device_any (t : Tm) (d : De.Dev) (l : List De.Atr) (w : World) (ht : t.val.length ≤ 4611686018427387904) (hd : SmD d l) (hl : l.length ≤ 9223372036854775807) (h : De.Has w d.av l) :
    Calls Try.prog 14 #[.agg (tmC t), De.devV d] w fun e w' => e = .returned (.bool (devB t d l)) ∧ Kp [] w w' := by
  cases hb : statB t || upB t with
  | false =>
    have h1 : devB t d l = false := by unfold devB; rw [hb]; rfl
    rw [h1]
    rw [Bool.or_eq_false_iff] at hb
    obtain ⟨x1, x2, x3, x4, x5, x6, x7, x8, x9, av⟩ := d
    obtain ⟨ad, ac, hav, -⟩ := h.form
    simp only at hav
    subst hav
    obtain ⟨k, n, o, vl⟩ := t
    exact device_no k n o vl x1 x2 x3 x4 x5 x6 x7 x8 x9 ad _ ac w hb.1 hb.2
  | true =>
    have h1 : devB t d l = hR t (valD t.key t.name d l) := by unfold devB; rw [hb]; rfl
    rw [h1]
    have hkc := key_cases hb
    have hv := valD_size hd t.key t.name
    have hO : ∀ W, Kp [] w W → Calls Try.prog 47 #[De.devV d, .string (bs t.name)] W fun e w' => e = .returned (.string (bs d.orig.data.toList)) ∧ Kp [] W w' := fun W _ => by rw [bs_of]; exact original_any d _ W
    have hS : ∀ W, Kp [] w W → Calls Try.prog 48 #[De.devV d, .string (bs t.name)] W fun e w' => e = .returned (.string (bs d.sub.data.toList)) ∧ Kp [] W w' := fun W _ => by rw [bs_of]; exact subsystem_any d _ W
    have hD : ∀ W, Kp [] w W → Calls Try.prog 49 #[De.devV d, .string (bs t.name)] W fun e w' => e = .returned (.string (bs d.drv.data.toList)) ∧ Kp [] W w' := fun W _ => by rw [bs_of]; exact driver_any d _ W
    have hA : ∀ W, Kp [] w W → Calls Try.prog 50 #[De.devV d, .string (bs t.name)] W fun e w' => e = .returned (.string (bs (getO (bs t.name) l).data.toList)) ∧ Kp [] W w' := fun W hk => by rw [bs_of]; exact attr_any d _ l W hl (h.below hk.bel)
    obtain ⟨x1, x2, x3, x4, x5, x6, x7, x8, x9, av⟩ := d
    obtain ⟨ad, ac, hav, -⟩ := h.form
    simp only at hav
    subst hav
    obtain ⟨k, n, o, vl⟩ := t
    simp only at hkc hO hS hD hA hv ⊢
    unfold De.devV De.devC at hO hS hD hA ⊢
    simp only at hO hS hD hA ⊢
    rcases hkc with rfl | rfl | rfl | rfl | rfl | rfl | rfl | rfl
    · exact device_run 2 n o vl x1 x2 x3 x4 x5 x6 x7 x8 x9 ad _ ac w 47 _ _ _ hb rfl rfl ht hv (enters_of Try.func47 (by kernel_rfl) rfl) dvA_2 hO
    · exact device_run 3 n o vl x1 x2 x3 x4 x5 x6 x7 x8 x9 ad _ ac w 48 _ _ _ hb rfl rfl ht hv (enters_of Try.func48 (by kernel_rfl) rfl) dvA_3 hS
    · exact device_run 4 n o vl x1 x2 x3 x4 x5 x6 x7 x8 x9 ad _ ac w 49 _ _ _ hb rfl rfl ht hv (enters_of Try.func49 (by kernel_rfl) rfl) dvA_4 hD
    · exact device_run 5 n o vl x1 x2 x3 x4 x5 x6 x7 x8 x9 ad _ ac w 50 _ _ _ hb rfl rfl ht hv (enters_of Try.func50 (by kernel_rfl) rfl) dvA_5 hA
    · exact device_run 8 n o vl x1 x2 x3 x4 x5 x6 x7 x8 x9 ad _ ac w 47 _ _ _ hb rfl rfl ht hv (enters_of Try.func47 (by kernel_rfl) rfl) dvA_8 hO
    · exact device_run 9 n o vl x1 x2 x3 x4 x5 x6 x7 x8 x9 ad _ ac w 48 _ _ _ hb rfl rfl ht hv (enters_of Try.func48 (by kernel_rfl) rfl) dvA_9 hS
    · exact device_run 10 n o vl x1 x2 x3 x4 x5 x6 x7 x8 x9 ad _ ac w 49 _ _ _ hb rfl rfl ht hv (enters_of Try.func49 (by kernel_rfl) rfl) dvA_10 hD
    · exact device_run 11 n o vl x1 x2 x3 x4 x5 x6 x7 x8 x9 ad _ ac w 50 _ _ _ hb rfl rfl ht hv (enters_of Try.func50 (by kernel_rfl) rfl) dvA_11 hA
end Go.Proofs.Ythblgkjmjfhkdaa
