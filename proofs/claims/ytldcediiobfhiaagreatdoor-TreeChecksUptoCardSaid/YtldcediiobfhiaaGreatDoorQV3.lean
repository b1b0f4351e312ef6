/- When the program says that two devices clash. Whether a device clashes with one of a list. -/
import Derived.Test.YtldcediiobfhiaaGreatDoorQU1
import Derived.Test.YtldcediiobfhiaaGreatDoorQNp
import Derived.Test.YtldcediiobfhiaaGreatDoorQRf
import Derived.Test.YtldcediiobfhiaaGreatDoorQV2
namespace Go.Proofs.YtldcediiobfhiaaGreatDoor
open Go.RowKit
theorem De.ben88 (a b : ByteArray) (w : World) (ha : a.size ≤ 4611686018427387904) (hb : b.size ≤ 4611686018427387904) :
  Calls Tryz.prog 88 #[.string a, .string b] w fun e w' => e = .returned (.bool (benB a.data.toList b.data.toList)) ∧ w' = w := Nm.beneath_any a b w ha hb
set_option maxHeartbeats 8000000 in
set_option maxRecDepth 100000 in
theorem clash115_any (a b : De.Dev) (w : World) (hsa : a.orig.size < 1000000) (hsb : b.orig.size < 1000000) (hm : De.Max w) : Calls Tryz.prog 115 #[De.devV a, De.devV b] w (De.Bel (.bool (clashD a b)) w) := by
 have HA := Lib.hid (fun W (h : Below w.heap.size w W) => De.node_any a W (by omega) (hm.below h))
 have HB := Lib.hid (fun W (h : Below w.heap.size w W) => De.node_any b W (by omega) (hm.below h))
 obtain ⟨r, hr⟩ : ∃ r, clashD a b = r := ⟨_, rfl⟩
 rw [hr]
 unfold clashD at hr
 have hza : (De.nodeOf a.orig).size ≤ 4611686018427387904 := by have := De.nodeOf_size a.orig; omega
 have hzb : (De.nodeOf b.orig).size ≤ 4611686018427387904 := by have := De.nodeOf_size b.orig; omega
 have HZA := Lib.hid hza
 have HZB := Lib.hid hzb
 clear hza hzb hsa hsb hm
 obtain ⟨ai, ap, an, ao, au, ad, al, ak, am, av⟩ := a
 obtain ⟨bi, bp, bn, bo, bu, bd, bl, bk, bm, bv⟩ := b
 unfold De.devV De.devC at *
 unfold De.nodeR at HA HB
 simp only at HA HB hr HZA HZB ⊢
 generalize De.nodeOf ao = sa at *
 generalize De.nodeOf bo = sb at *
 obtain ⟨n, hn⟩ : ∃ n, w.heap.size = n := ⟨_, rfl⟩
 obtain ⟨W0, hW⟩ : ∃ W0, (w.alloc (.cells #[.int .i64 ai, .int .i64 ap, .string an, .string ao, .string au, .string ad, .string al, .int .i64 ak, .int .i64 am, av] 34)).alloc (.cells #[.int .i64 bi, .int .i64 bp, .string bn, .string bo, .string bu, .string bd, .string bl, .int .i64 bk, .int .i64 bm, bv] 34) = W0 := ⟨_, rfl⟩
 have hb0 : Below w.heap.size w W0 := by rw [← hW]; exact ((Below.refl _ w).alloc (Nat.le_refl _) _).alloc (by rw [World.size_alloc]; omega) _
 have hA : De.BoxAt W0 n #[.int .i64 ai, .int .i64 ap, .string an, .string ao, .string au, .string ad, .string al, .int .i64 ak, .int .i64 am, av] := by rw [← hW, ← hn]; exact heap_alloc2_old w _ _
 have hB : De.BoxAt W0 (n + 1) #[.int .i64 bi, .int .i64 bp, .string bn, .string bo, .string bu, .string bd, .string bl, .int .i64 bk, .int .i64 bm, bv] := by
  have := heap_alloc_last (w.alloc (.cells #[.int .i64 ai, .int .i64 ap, .string an, .string ao, .string au, .string ad, .string al, .int .i64 ak, .int .i64 am, av] 34)) (.cells #[.int .i64 bi, .int .i64 bp, .string bn, .string bo, .string bu, .string bd, .string bl, .int .i64 bk, .int .i64 bm, bv] 34)
  rw [hW] at this
  rw [← hn]
  unfold De.BoxAt
  simpa using this
 have HS0 := Lib.hid (show W0.heap.size = n + 2 by rw [← hW, World.size_alloc, World.size_alloc, hn])
 have HK0 := Lib.hid hb0
 have HBA := Lib.hid hA
 have HBB := Lib.hid hB
 have da := hA.cell
 have db := hB.cell
 have Hr := Lib.hid hr
 clear hr hb0 hA hB
 by_cases q0 : (ak == 4 && (bk == 4 && (an.toList == bn.toList))) = true
 ·have Hv := Lib.hid (show r = true from by rw [← Hr.out, q0]; rfl)
  rw [Bool.and_eq_true, Bool.and_eq_true] at q0
  obtain ⟨q1, q2, q3⟩ := q0
  clear HA HB
  go_enter Tryz.func115, Tryz.ntmps115
  go_wp2
  go_ret
  exact ⟨by rw [Hv.out]; rfl, HK0.out⟩
 have q0' : (ak == 4 && (bk == 4 && (an.toList == bn.toList))) = false := by simpa using q0
 have Hr2 := Lib.hid (show (De.hasN ak && (De.hasN bk && ((ak == bk && am == bm) || (sa.toList == sb.toList || (benB sa.data.toList sb.data.toList || benB sb.data.toList sa.data.toList))))) = r from by
  rw [← Hr.out, q0', Bool.false_or])
 have Q0 := Lib.hid q0'
 clear q0 q0'
 have hq : ((ak == 4) = false) ∨ ((ak == 4) = true ∧ (bk == 4) = false) ∨ ((ak == 4) = true ∧ (bk == 4) = true ∧ (an.toList == bn.toList) = false) := by
  have := Q0.out
  cases h1 : (ak == 4) with
  | false => exact .inl rfl
  | true =>
   cases h2 : (bk == 4) with
   | false => exact .inr (.inl ⟨rfl, rfl⟩)
   | true =>
    rw [h1, h2] at this
    exact .inr (.inr ⟨rfl, rfl, by simpa using this⟩)
 have hk4 : (ak == 4) = true → De.hasN ak = false := fun h => by rw [eq_of_beq h]; rfl
 cases hHA : De.hasN ak with
 | false =>
  have Hv := Lib.hid (show r = false from by rw [← Hr2.out, hHA]; rfl)
  rw [hHA] at HA
  cases hHB : De.hasN bk with
  | false =>
   rw [hHB] at HB
   rcases hq with q1 | ⟨q1, q2⟩ | ⟨q1, q2, q3⟩
   rotate_left 2
   ·clear hk4 hHA hHB HA HB
    go_enter Tryz.func115, Tryz.ntmps115
    go_wp2
    go_ret
    exact ⟨by rw [Hv.out]; rfl, HK0.out⟩
   all_goals (
    clear hk4 hHA hHB
    go_enter Tryz.func115, Tryz.ntmps115
    go_wp2_with (first
     | (refine wpList_load_row rfl 34 _ rfl n rfl 34 #[.int .i64 ai, .int .i64 ap, .string an, .string ao, .string au, .string ad, .string al, .int .i64 ak, .int .i64 am, av] (0, 0) _ HBA.out Tryz.underlying34 rfl De.info34b ?_)
     | (refine wpList_load_row rfl 34 _ rfl (n + 1) rfl 34 #[.int .i64 bi, .int .i64 bp, .string bn, .string bo, .string bu, .string bd, .string bl, .int .i64 bk, .int .i64 bm, bv] (0, 0) _ HBB2.out Tryz.underlying34 rfl De.info34b ?_)
     | (go_at_call 68; refine Calls.mono (by with_reducible exact HA.out _ HK0.out) ?_; rintro e W1 ⟨rfl, hb1⟩; have Hb1 := Lib.hid hb1; have HBA2 := Lib.hid (show De.BoxAt W1 n #[.int .i64 ai, .int .i64 ap, .string an, .string ao, .string au, .string ad, .string al, .int .i64 ak, .int .i64 am, av] from (hb1.block n (by have := HS0.out; omega)).trans HBA.out); have HBB2 := Lib.hid (show De.BoxAt W1 (n + 1) #[.int .i64 bi, .int .i64 bp, .string bn, .string bo, .string bu, .string bd, .string bl, .int .i64 bk, .int .i64 bm, bv] from (hb1.block (n + 1) (by have := HS0.out; omega)).trans HBB.out); clear hb1 da db)
     | (go_at_call 68; refine Calls.mono (by with_reducible exact HB.out _ (HK0.out.trans (Hb1.out.mono (by have := HS0.out; omega)))) ?_; rintro e W2 ⟨rfl, hb2⟩; have Hb2 := Lib.hid (Hb1.out.trans (hb2.mono Hb1.out.size)); have da := (show De.BoxAt W2 n #[.int .i64 ai, .int .i64 ap, .string an, .string ao, .string au, .string ad, .string al, .int .i64 ak, .int .i64 am, av] from (hb2.block n (by have h1 := HS0.out; have h2 := Hb1.out.size; omega)).trans HBA2.out).cell; have db := (show De.BoxAt W2 (n + 1) #[.int .i64 bi, .int .i64 bp, .string bn, .string bo, .string bu, .string bd, .string bl, .int .i64 bk, .int .i64 bm, bv] from (hb2.block (n + 1) (by have h1 := HS0.out; have h2 := Hb1.out.size; omega)).trans HBB2.out).cell; clear hb2))
    go_ret
    exact ⟨by rw [Hv.out]; rfl, HK0.out.trans (Hb2.out.mono (by have := HS0.out; omega))⟩)
  | true =>
   rw [hHB] at HB
   rcases hq with q1 | ⟨q1, q2⟩ | ⟨q1, q2, q3⟩
   rotate_left 2
   ·clear hk4 hHA hHB HA HB
    go_enter Tryz.func115, Tryz.ntmps115
    go_wp2
    go_ret
    exact ⟨by rw [Hv.out]; rfl, HK0.out⟩
   all_goals (
    clear hk4 hHA hHB
    go_enter Tryz.func115, Tryz.ntmps115
    go_wp2_with (first
     | (refine wpList_load_row rfl 34 _ rfl n rfl 34 #[.int .i64 ai, .int .i64 ap, .string an, .string ao, .string au, .string ad, .string al, .int .i64 ak, .int .i64 am, av] (0, 0) _ HBA.out Tryz.underlying34 rfl De.info34b ?_)
     | (refine wpList_load_row rfl 34 _ rfl (n + 1) rfl 34 #[.int .i64 bi, .int .i64 bp, .string bn, .string bo, .string bu, .string bd, .string bl, .int .i64 bk, .int .i64 bm, bv] (0, 0) _ HBB2.out Tryz.underlying34 rfl De.info34b ?_)
     | (go_at_call 68; refine Calls.mono (by with_reducible exact HA.out _ HK0.out) ?_; rintro e W1 ⟨rfl, hb1⟩; have Hb1 := Lib.hid hb1; have HBA2 := Lib.hid (show De.BoxAt W1 n #[.int .i64 ai, .int .i64 ap, .string an, .string ao, .string au, .string ad, .string al, .int .i64 ak, .int .i64 am, av] from (hb1.block n (by have := HS0.out; omega)).trans HBA.out); have HBB2 := Lib.hid (show De.BoxAt W1 (n + 1) #[.int .i64 bi, .int .i64 bp, .string bn, .string bo, .string bu, .string bd, .string bl, .int .i64 bk, .int .i64 bm, bv] from (hb1.block (n + 1) (by have := HS0.out; omega)).trans HBB.out); clear hb1 da db)
     | (go_at_call 68; refine Calls.mono (by with_reducible exact HB.out _ (HK0.out.trans (Hb1.out.mono (by have := HS0.out; omega)))) ?_; rintro e W2 ⟨rfl, hb2⟩; have Hb2 := Lib.hid (Hb1.out.trans (hb2.mono Hb1.out.size)); have da := (show De.BoxAt W2 n #[.int .i64 ai, .int .i64 ap, .string an, .string ao, .string au, .string ad, .string al, .int .i64 ak, .int .i64 am, av] from (hb2.block n (by have h1 := HS0.out; have h2 := Hb1.out.size; omega)).trans HBA2.out).cell; have db := (show De.BoxAt W2 (n + 1) #[.int .i64 bi, .int .i64 bp, .string bn, .string bo, .string bu, .string bd, .string bl, .int .i64 bk, .int .i64 bm, bv] from (hb2.block (n + 1) (by have h1 := HS0.out; have h2 := Hb1.out.size; omega)).trans HBB2.out).cell; clear hb2))
    go_ret
    exact ⟨by rw [Hv.out]; rfl, HK0.out.trans (Hb2.out.mono (by have := HS0.out; omega))⟩)
 | true =>
  have q1 : (ak == 4) = false := by
   cases h : (ak == 4) with
   | false => rfl
   | true => rw [hk4 h] at hHA; cases hHA
  rw [hHA] at HA
  cases hHB : De.hasN bk with
  | false =>
   have Hv := Lib.hid (show r = false from by rw [← Hr2.out, hHA, hHB]; rfl)
   rw [hHB] at HB
   clear hk4 hHA hHB hq
   go_enter Tryz.func115, Tryz.ntmps115
   go_wp2_with (first
    | (refine wpList_load_row rfl 34 _ rfl n rfl 34 #[.int .i64 ai, .int .i64 ap, .string an, .string ao, .string au, .string ad, .string al, .int .i64 ak, .int .i64 am, av] (0, 0) _ HBA.out Tryz.underlying34 rfl De.info34b ?_)
    | (refine wpList_load_row rfl 34 _ rfl (n + 1) rfl 34 #[.int .i64 bi, .int .i64 bp, .string bn, .string bo, .string bu, .string bd, .string bl, .int .i64 bk, .int .i64 bm, bv] (0, 0) _ HBB2.out Tryz.underlying34 rfl De.info34b ?_)
    | (go_at_call 68; refine Calls.mono (by with_reducible exact HA.out _ HK0.out) ?_; rintro e W1 ⟨rfl, hb1⟩; have Hb1 := Lib.hid hb1; have HBA2 := Lib.hid (show De.BoxAt W1 n #[.int .i64 ai, .int .i64 ap, .string an, .string ao, .string au, .string ad, .string al, .int .i64 ak, .int .i64 am, av] from (hb1.block n (by have := HS0.out; omega)).trans HBA.out); have HBB2 := Lib.hid (show De.BoxAt W1 (n + 1) #[.int .i64 bi, .int .i64 bp, .string bn, .string bo, .string bu, .string bd, .string bl, .int .i64 bk, .int .i64 bm, bv] from (hb1.block (n + 1) (by have := HS0.out; omega)).trans HBB.out); clear hb1 da db)
    | (go_at_call 68; refine Calls.mono (by with_reducible exact HB.out _ (HK0.out.trans (Hb1.out.mono (by have := HS0.out; omega)))) ?_; rintro e W2 ⟨rfl, hb2⟩; have Hb2 := Lib.hid (Hb1.out.trans (hb2.mono Hb1.out.size)); have da := (show De.BoxAt W2 n #[.int .i64 ai, .int .i64 ap, .string an, .string ao, .string au, .string ad, .string al, .int .i64 ak, .int .i64 am, av] from (hb2.block n (by have h1 := HS0.out; have h2 := Hb1.out.size; omega)).trans HBA2.out).cell; have db := (show De.BoxAt W2 (n + 1) #[.int .i64 bi, .int .i64 bp, .string bn, .string bo, .string bu, .string bd, .string bl, .int .i64 bk, .int .i64 bm, bv] from (hb2.block (n + 1) (by have h1 := HS0.out; have h2 := Hb1.out.size; omega)).trans HBB2.out).cell; clear hb2))
   go_ret
   exact ⟨by rw [Hv.out]; rfl, HK0.out.trans (Hb2.out.mono (by have := HS0.out; omega))⟩
  | true =>
   have Hv := Lib.hid (show ((ak == bk && am == bm) || (sa.toList == sb.toList || (benB sa.data.toList sb.data.toList || benB sb.data.toList sa.data.toList))) = r from by rw [← Hr2.out, hHA, hHB]; rfl)
   rw [hHB] at HB
   have HN1 := Lib.hid (fun W => De.ben88 sa sb W HZA.out HZB.out)
   have HN2 := Lib.hid (fun W => De.ben88 sb sa W HZB.out HZA.out)
   clear hk4 hHA hHB hq
   go_enter Tryz.func115, Tryz.ntmps115
   go_upto_region 7 with (first
    | (refine wpList_load_row rfl 34 _ rfl n rfl 34 #[.int .i64 ai, .int .i64 ap, .string an, .string ao, .string au, .string ad, .string al, .int .i64 ak, .int .i64 am, av] (0, 0) _ HBA.out Tryz.underlying34 rfl De.info34b ?_)
    | (refine wpList_load_row rfl 34 _ rfl (n + 1) rfl 34 #[.int .i64 bi, .int .i64 bp, .string bn, .string bo, .string bu, .string bd, .string bl, .int .i64 bk, .int .i64 bm, bv] (0, 0) _ HBB2.out Tryz.underlying34 rfl De.info34b ?_)
    | (go_at_call 68; refine Calls.mono (by with_reducible exact HA.out _ HK0.out) ?_; rintro e W1 ⟨rfl, hb1⟩; have Hb1 := Lib.hid hb1; have HBA2 := Lib.hid (show De.BoxAt W1 n #[.int .i64 ai, .int .i64 ap, .string an, .string ao, .string au, .string ad, .string al, .int .i64 ak, .int .i64 am, av] from (hb1.block n (by have := HS0.out; omega)).trans HBA.out); have HBB2 := Lib.hid (show De.BoxAt W1 (n + 1) #[.int .i64 bi, .int .i64 bp, .string bn, .string bo, .string bu, .string bd, .string bl, .int .i64 bk, .int .i64 bm, bv] from (hb1.block (n + 1) (by have := HS0.out; omega)).trans HBB.out); clear hb1 da db)
    | (go_at_call 68; refine Calls.mono (by with_reducible exact HB.out _ (HK0.out.trans (Hb1.out.mono (by have := HS0.out; omega)))) ?_; rintro e W2 ⟨rfl, hb2⟩; have Hb2 := Lib.hid (Hb1.out.trans (hb2.mono Hb1.out.size)); have da := (show De.BoxAt W2 n #[.int .i64 ai, .int .i64 ap, .string an, .string ao, .string au, .string ad, .string al, .int .i64 ak, .int .i64 am, av] from (hb2.block n (by have h1 := HS0.out; have h2 := Hb1.out.size; omega)).trans HBA2.out).cell; have db := (show De.BoxAt W2 (n + 1) #[.int .i64 bi, .int .i64 bp, .string bn, .string bo, .string bu, .string bd, .string bl, .int .i64 bk, .int .i64 bm, bv] from (hb2.block (n + 1) (by have h1 := HS0.out; have h2 := Hb1.out.size; omega)).trans HBB2.out).cell; clear hb2))
   cases e3 : (sa.toList == sb.toList) with
   | true =>
    have Hx := Lib.hid (show r = true from by rw [← Hv.out, e3]; simp)
    cases e1 : (ak == bk) with
    | false =>
     go_wp2
     go_ret
     exact ⟨by rw [Hx.out]; rfl, HK0.out.trans (Hb2.out.mono (by have := HS0.out; omega))⟩
    | true =>
     cases e2 : (am == bm) with
     | false =>
      go_wp2
      go_ret
      exact ⟨by rw [Hx.out]; rfl, HK0.out.trans (Hb2.out.mono (by have := HS0.out; omega))⟩
     | true =>
      go_wp2
      go_ret
      exact ⟨by rw [Hx.out]; rfl, HK0.out.trans (Hb2.out.mono (by have := HS0.out; omega))⟩
   | false =>
    cases e4 : benB sa.data.toList sb.data.toList with
    | true =>
     rw [e4] at HN1
     have Hx := Lib.hid (show r = true from by rw [← Hv.out, e4]; simp)
     cases e1 : (ak == bk) with
     | false =>
      go_wp2_with (go_at_call 88; refine Calls.mono (by with_reducible exact HN1.out _) ?_; rintro e W3 ⟨rfl, rfl⟩)
      go_ret
      exact ⟨by rw [Hx.out]; rfl, HK0.out.trans (Hb2.out.mono (by have := HS0.out; omega))⟩
     | true =>
      cases e2 : (am == bm) with
      | false =>
       go_wp2_with (go_at_call 88; refine Calls.mono (by with_reducible exact HN1.out _) ?_; rintro e W3 ⟨rfl, rfl⟩)
       go_ret
       exact ⟨by rw [Hx.out]; rfl, HK0.out.trans (Hb2.out.mono (by have := HS0.out; omega))⟩
      | true =>
       go_wp2
       go_ret
       exact ⟨by rw [Hx.out]; rfl, HK0.out.trans (Hb2.out.mono (by have := HS0.out; omega))⟩
    | false =>
     rw [e4] at HN1
     cases e1 : (ak == bk) with
     | false =>
      have Hx := Lib.hid (show r = benB sb.data.toList sa.data.toList from by rw [← Hv.out, e1, e3, e4]; simp)
      go_wp2_with (go_at_call 88; first | (refine Calls.mono (by with_reducible exact HN1.out _) ?_; rintro e W3 ⟨rfl, rfl⟩) | (refine Calls.mono (by with_reducible exact HN2.out _) ?_; rintro e W3 ⟨rfl, rfl⟩))
      go_ret
      exact ⟨by rw [Hx.out]; rfl, HK0.out.trans (Hb2.out.mono (by have := HS0.out; omega))⟩
     | true =>
      cases e2 : (am == bm) with
      | false =>
       have Hx := Lib.hid (show r = benB sb.data.toList sa.data.toList from by rw [← Hv.out, e1, e2, e3, e4]; simp)
       go_wp2_with (go_at_call 88; first | (refine Calls.mono (by with_reducible exact HN1.out _) ?_; rintro e W3 ⟨rfl, rfl⟩) | (refine Calls.mono (by with_reducible exact HN2.out _) ?_; rintro e W3 ⟨rfl, rfl⟩))
       go_ret
       exact ⟨by rw [Hx.out]; rfl, HK0.out.trans (Hb2.out.mono (by have := HS0.out; omega))⟩
      | true =>
       have Hx := Lib.hid (show r = true from by rw [← Hv.out, e1, e2]; simp)
       go_wp2
       go_ret
       exact ⟨by rw [Hx.out]; rfl, HK0.out.trans (Hb2.out.mono (by have := HS0.out; omega))⟩
end Go.Proofs.YtldcediiobfhiaaGreatDoor
namespace Go.Proofs.YtldcediiobfhiaaGreatDoor.De
open Go.RowKit Go.Maps
theorem Max.kp {W W' : World} (h : Max W) (hk : Kp [] W W') : Max W' := h.below hk.bel
set_option maxRecDepth 100000 in
set_option maxHeartbeats 2000000 in
theorem clashes1_any {w : World} (C : Nat) (d : Dev) (x : ADev) (vb : Option Addr) (vn vc : Nat) (hb : w.heap[C]? = some (.cells #[.int .i64 d.idx, .int .i64 d.par, .string d.name, .string d.orig, .string d.sub, .string d.drv, .string d.ali, .int .i64 d.kind, .int .i64 d.num, d.av] 34 (0, 0))) (hd : d.orig.size < 1000000) (hx : x.orig.size < 1000000) (hm : Max w) :
  Calls Tryz.prog 114 #[.agg #[.int .i64 x.idx, .int .i64 x.par, .string x.name, .string x.orig, .string x.sub, .string x.drv, .string x.ali, .int .i64 x.kind, .int .i64 x.num, .slice vb vn vc], .pointer (some ⟨C, 0, none⟩)] w fun e w' => e = .returned (.bool (x.idx != d.idx && clashD d (devOf x (.slice vb vn vc)))) ∧ Kp [] w w' := by
 obtain ⟨W1, hW1⟩ : ∃ W1, w.alloc (.cells #[.int .i64 x.idx, .int .i64 x.par, .string x.name, .string x.orig, .string x.sub, .string x.drv, .string x.ali, .int .i64 x.kind, .int .i64 x.num, .slice vb vn vc] 34) = W1 := ⟨_, rfl⟩
 obtain ⟨B, hB⟩ : ∃ B, w.heap.size = B := ⟨_, rfl⟩
 have hk1 : Kp [] w W1 := by rw [← hW1]; exact (Kp.refl [] w).alloc _
 have hbx : BoxAt W1 B #[.int .i64 x.idx, .int .i64 x.par, .string x.name, .string x.orig, .string x.sub, .string x.drv, .string x.ali, .int .i64 x.kind, .int .i64 x.num, .slice vb vn vc] := by rw [← hW1, ← hB]; exact heap_alloc_last w _
 have hbc : BoxAt W1 C #[.int .i64 d.idx, .int .i64 d.par, .string d.name, .string d.orig, .string d.sub, .string d.drv, .string d.ali, .int .i64 d.kind, .int .i64 d.num, d.av] := (hk1.block C (block_lt hb) (by simp)).trans hb
 have c0 := hbx.cell 0
 have c1 := hbc.cell 0
 have HC := Lib.hid fun W (h : Kp [] W1 W) => clash115_any d (devOf x (.slice vb vn vc)) W hd hx ((hm.kp hk1).kp h)
 have HBX := Lib.hid hbx
 have HBC := Lib.hid hbc
 have HK := Lib.hid hk1
 obtain ⟨q, hq⟩ : ∃ q, clashD d (devOf x (.slice vb vn vc)) = q := ⟨_, rfl⟩
 rw [hq] at HC ⊢
 unfold devOf devV devC at HC
 simp only at HC
 have c0' : W1.cell? ⟨B, 0, none⟩ = some (.int .i64 x.idx) := c0
 have c1' : W1.cell? ⟨C, 0, none⟩ = some (.int .i64 d.idx) := c1
 clear hm hk1 hbx hbc hq hb c0 c1
 by_cases he : x.idx = d.idx
 ·have hr : (x.idx != d.idx && q) = false := by simp [he]
  rw [hr]
  have he2 : (x.idx == d.idx) = true := by simp [he]
  have He := Lib.hid he
  clear he hr
  go_enter Tryz.func114, Tryz.ntmps114
  go_wp2
  go_ret
  exact ⟨rfl, HK.out⟩
 ·have he2 : (x.idx == d.idx) = false := beq_eq_false_iff_ne.2 he
  have hr : (x.idx != d.idx && q) = q := by simp [bne, he2]
  rw [hr]
  clear hr he
  have hne : (x.idx != d.idx) = true := by simp [bne, he2]
  have ed1 : W1.cell? ⟨C, 1, none⟩ = some (.int .i64 d.par) := HBC.out.cell 1
  have ed2 : W1.cell? ⟨C, 2, none⟩ = some (.string d.name) := HBC.out.cell 2
  have ed3 : W1.cell? ⟨C, 3, none⟩ = some (.string d.orig) := HBC.out.cell 3
  have ed4 : W1.cell? ⟨C, 4, none⟩ = some (.string d.sub) := HBC.out.cell 4
  have ed5 : W1.cell? ⟨C, 5, none⟩ = some (.string d.drv) := HBC.out.cell 5
  have ed6 : W1.cell? ⟨C, 6, none⟩ = some (.string d.ali) := HBC.out.cell 6
  have ed7 : W1.cell? ⟨C, 7, none⟩ = some (.int .i64 d.kind) := HBC.out.cell 7
  have ed8 : W1.cell? ⟨C, 8, none⟩ = some (.int .i64 d.num) := HBC.out.cell 8
  have ed9 : W1.cell? ⟨C, 9, none⟩ = some (d.av) := HBC.out.cell 9
  have ex1 : W1.cell? ⟨B, 1, none⟩ = some (.int .i64 x.par) := HBX.out.cell 1
  have ex2 : W1.cell? ⟨B, 2, none⟩ = some (.string x.name) := HBX.out.cell 2
  have ex3 : W1.cell? ⟨B, 3, none⟩ = some (.string x.orig) := HBX.out.cell 3
  have ex4 : W1.cell? ⟨B, 4, none⟩ = some (.string x.sub) := HBX.out.cell 4
  have ex5 : W1.cell? ⟨B, 5, none⟩ = some (.string x.drv) := HBX.out.cell 5
  have ex6 : W1.cell? ⟨B, 6, none⟩ = some (.string x.ali) := HBX.out.cell 6
  have ex7 : W1.cell? ⟨B, 7, none⟩ = some (.int .i64 x.kind) := HBX.out.cell 7
  have ex8 : W1.cell? ⟨B, 8, none⟩ = some (.int .i64 x.num) := HBX.out.cell 8
  have ex9 : W1.cell? ⟨B, 9, none⟩ = some (.slice vb vn vc) := HBX.out.cell 9
  go_enter Tryz.func114, Tryz.ntmps114
  go_wp2_with (go_at_call 115; refine Calls.mono (by with_reducible exact HC.out _ (Kp.refl [] _)) ?_; rintro e W2 ⟨rfl, hb2⟩; have HK2 := Lib.hid (HK.out.trans (Kp.of_below hb2)); clear hb2)
  go_ret
  exact ⟨rfl, HK2.out⟩
/-- Whether a device of another Index clashes. -/
def clsB (l : List DV) (d : Dev) : Bool := l.any fun x => x.1.idx != d.idx && clashD d (devOf x.1 x.2)
set_option maxRecDepth 100000 in
set_option maxHeartbeats 2000000 in
theorem indexFunc143_any (sv : Value) (l : List DV) (w : World) (hl : l.length ≤ 100000) (h : DHas w sv l) (C : Nat) (d : Dev) (hb : w.heap[C]? = some (.cells #[.int .i64 d.idx, .int .i64 d.par, .string d.name, .string d.orig, .string d.sub, .string d.drv, .string d.ali, .int .i64 d.kind, .int .i64 d.num, d.av] 34 (0, 0))) (hd : d.orig.size < 1000000) (hx : ∀ x ∈ l, x.1.orig.size < 1000000) (hm : Max w) :
  Calls Tryz.prog 143 #[sv, .func (.func 114) #[] #[.pointer (some ⟨C, 0, none⟩)]] w fun e w' => ∃ r : Int, e = .returned (.int .i64 r) ∧ decide (r ≥ 0) = clsB l d ∧ Kp [] w w' := by
 have HSL := Lib.hid h.slices
 rcases h with ⟨ad, c, rfl, rfl⟩ | ⟨b, o, c, rfl, hcap, hg, hrow⟩
 ·have hz : ¬ ((0 : Int) < ((0 : Nat) : Int)) := by omega
  go_enter Tryz.func143, Tryz.ntmps143
  go_wp2
  go_loopw [8] (fun s8 wx => s8 = .int .i64 0 ∧ w = wx) (fun _ _ => 0)
  case atStart => exact ⟨rfl, rfl⟩
  case round =>
   obtain ⟨rfl, rfl⟩ := hrel
   go_wp2
   go_ret
   exact ⟨-1, rfl, rfl, Kp.refl [] _⟩
 ·have HW := Lib.hid fun W (h : Kp [] w W) => hrow.below hg h.bel
  have HC := Lib.hid (fun (x : DV) (hxm : x ∈ l) vb vn vc W (h : Kp [] w W) => clashes1_any C d x.1 vb vn vc ((h.block C (block_lt hb) (by simp)).trans hb) hd (hx x hxm) (hm.kp h))
  obtain ⟨R, hR⟩ : ∃ R, clsB l d = R := ⟨_, rfl⟩
  have hT : ∀ (k : Nat) x, l[k]? = some x → (x.1.idx != d.idx && clashD d (devOf x.1 x.2)) = true → R = true := fun k x h1 h2 => by rw [← hR]; exact List.any_eq_true.2 ⟨x, List.mem_of_getElem? h1, h2⟩
  have hF : (∀ (k : Nat) x, k < l.length → l[k]? = some x → (x.1.idx != d.idx && clashD d (devOf x.1 x.2)) = false) → R = false := fun h => by
   rw [← hR]
   unfold clsB
   rw [List.any_eq_false]
   intro x hx
   obtain ⟨k, hk, hkx⟩ := List.getElem_of_mem hx
   rw [h k x hk (by rw [List.getElem?_eq_getElem hk, hkx])]
   simp
  have HT := Lib.hid hT
  have HF := Lib.hid hF
  rw [hR]
  clear hrow hT hF hR hx hm hb hd
  go_enter Tryz.func143, Tryz.ntmps143
  go_wp2
  go_loopw [5, 8] (fun _ s8 wx => ∃ i : Nat, i ≤ l.length ∧ s8 = .int .i64 (i : Int) ∧ (∀ (k : Nat) x, k < i → l[k]? = some x → (x.1.idx != d.idx && clashD d (devOf x.1 x.2)) = false) ∧ Kp [] w wx) (fun _ s8 _ => l.length - (intOf s8).toNat)
  case atStart => exact ⟨0, by omega, rfl, fun k x hk => absurd hk (Nat.not_lt_zero _), Kp.refl [] _⟩
  case round =>
   obtain ⟨i, hi, rfl, hinv, hbl⟩ := hrel
   have Hbl := Lib.hid hbl
   by_cases hlt : i < l.length
   ·have hiz : (i : Int) < (l.length : Int) := by omega
    obtain ⟨x, hx⟩ : ∃ x, l[i]? = some x := ⟨_, List.getElem?_eq_getElem hlt⟩
    have hxm := List.mem_of_getElem? hx
    have HRA := Lib.hid ((HW.out _ hbl).at_ i x hx)
    obtain ⟨vb, vn, vc, hv⟩ := HSL.out x hxm
    have hcl : Calls Tryz.prog 114 #[.agg (dvC x.1 (.slice vb vn vc)).toArray, .pointer (some ⟨C, 0, none⟩)] _ _ := HC.out x hxm vb vn vc _ hbl
    have hwr : IntKind.i64.wrap ((i : Int) + 1) = ((i + 1 : Nat) : Int) := by rw [IntKind.wrap_i64]; omega
    have HX := Lib.hid (And.intro hx hinv)
    obtain ⟨q, hq⟩ : ∃ q, (x.1.idx != d.idx && clashD d (devOf x.1 x.2)) = q := ⟨_, rfl⟩
    rw [← hv, hq] at hcl
    have HCl := Lib.hid hcl
    have Hq := Lib.hid hq
    rw [hv] at HRA
    have HI1 := Lib.hid (show (Tryz.prog.info? 34).map (·.size) = some (dvC x.1 (.slice vb vn vc)).length from info34b)
    rw [hv] at HCl
    clear hbl hx hinv hcl hq hxm hv
    cases q with
    | true =>
     have hRt := Lib.hid (HT.out i _ HX.out.1 Hq.out)
     go_wp2_with (first
      | (refine wpList_load_mid rfl 34 _ rfl b (o + i * 10) rfl (dvC x.1 (.slice vb vn vc)) _ (by with_reducible exact HRA.out) Tryz.underlying34 rfl HI1.out ?_)
      | (refine Calls.mono (by with_reducible exact HCl.out) ?_; rintro e W ⟨rfl, hb2⟩; have HK2 := Lib.hid (Hbl.out.trans hb2); clear hb2)
      | fail)
     go_ret
     exact ⟨(i : Int), rfl, by rw [hRt.out]; simp, HK2.out⟩
    | false =>
     go_wp2_with (first
      | (refine wpList_load_mid rfl 34 _ rfl b (o + i * 10) rfl (dvC x.1 (.slice vb vn vc)) _ (by with_reducible exact HRA.out) Tryz.underlying34 rfl HI1.out ?_)
      | (refine Calls.mono (by with_reducible exact HCl.out) ?_; rintro e W ⟨rfl, hb2⟩; have HK2 := Lib.hid (Hbl.out.trans hb2); clear hb2)
      | fail)
     refine ⟨⟨i + 1, by omega, by go_num, fun k y hk hy => ?_, HK2.out⟩, by simp [intOf]; omega⟩
     by_cases e : k = i
     ·subst e
      have h1 := HX.out.1
      rw [h1] at hy
      cases hy
      exact Hq.out
     ·exact HX.out.2 k y (by omega) hy
   ·have hiz : ¬ ((i : Int) < (l.length : Int)) := by omega
    have hRf := HF.out (fun k x hk hx => hinv k x (by omega) hx)
    clear hinv hbl
    go_wp2
    go_ret
    exact ⟨-1, rfl, by first | omega | simp [hRf], Hbl.out⟩
set_option maxRecDepth 100000 in
set_option maxHeartbeats 1000000 in
theorem containsFunc113_any (sv : Value) (l : List DV) (w : World) (hl : l.length ≤ 100000) (h : DHas w sv l) (C : Nat) (d : Dev) (hb : w.heap[C]? = some (.cells #[.int .i64 d.idx, .int .i64 d.par, .string d.name, .string d.orig, .string d.sub, .string d.drv, .string d.ali, .int .i64 d.kind, .int .i64 d.num, d.av] 34 (0, 0))) (hd : d.orig.size < 1000000) (hx : ∀ x ∈ l, x.1.orig.size < 1000000) (hm : Max w) :
  Calls Tryz.prog 113 #[sv, .func (.func 114) #[] #[.pointer (some ⟨C, 0, none⟩)]] w fun e w' => e = .returned (.bool (clsB l d)) ∧ Kp [] w w' := by
 have H := Lib.hid (indexFunc143_any sv l w hl h C d hb hd hx hm)
 clear h hb hd hx hm hl
 go_enter Tryz.func113, Tryz.ntmps113
 go_wp2_with (go_at_call 143; refine Calls.mono (by with_reducible exact H.out) ?_; rintro e W ⟨r, rfl, hr, hk⟩)
 go_ret
 exact ⟨by rw [← hr]; rfl, hk⟩
set_option maxRecDepth 100000 in
set_option maxHeartbeats 1000000 in
/-- clashes. -/
theorem clashes_any {w : World} {V M : Nat} {sv : Value} {l : List DV} {D : DataW Unit} (hV : View w V sv M l D) (ht : TOk l) (d : Dev) (hd : d.orig.size < 1000000) (hm : Max w) :
  Calls Tryz.prog 82 #[.pointer (some ⟨V, 0, none⟩), .agg #[.int .i64 d.idx, .int .i64 d.par, .string d.name, .string d.orig, .string d.sub, .string d.drv, .string d.ali, .int .i64 d.kind, .int .i64 d.num, d.av]] w fun e w' => e = .returned (.bool (clsB l d)) ∧ Kp [] w w' := by
 obtain ⟨W1, hW1⟩ : ∃ W1, w.alloc (.cells #[.int .i64 d.idx, .int .i64 d.par, .string d.name, .string d.orig, .string d.sub, .string d.drv, .string d.ali, .int .i64 d.kind, .int .i64 d.num, d.av] 34) = W1 := ⟨_, rfl⟩
 obtain ⟨B, hB⟩ : ∃ B, w.heap.size = B := ⟨_, rfl⟩
 have hk1 : Kp [] w W1 := by rw [← hW1]; exact (Kp.refl [] w).alloc _
 have hbx : W1.heap[B]? = some (.cells #[.int .i64 d.idx, .int .i64 d.par, .string d.name, .string d.orig, .string d.sub, .string d.drv, .string d.ali, .int .i64 d.kind, .int .i64 d.num, d.av] 34 (0, 0)) := by rw [← hW1, ← hB]; exact heap_alloc_last w _
 obtain ⟨a, c, rfl, -⟩ := hV.dev.form
 have hV1 := hV.below hk1.bel
 have hv0 : W1.cell? ⟨V, 0, none⟩ = some (.slice a l.length c) := by rw [cell_of_row _ _ _ _ _ _ hV1.box]; rfl
 have HC := Lib.hid (containsFunc113_any (.slice a l.length c) l W1 ht.n hV1.dev B d hbx hd (fun x hx => by have := ht.o x hx; omega) (hm.kp hk1))
 have HK := Lib.hid hk1
 clear hV hV1 hm hk1 hbx ht
 go_enter Tryz.func82, Tryz.ntmps82
 go_wp2_with (go_at_call 113; refine Calls.mono (by with_reducible exact HC.out) ?_; rintro e W2 ⟨rfl, hk2⟩; have HK2 := Lib.hid (HK.out.trans hk2); clear hk2)
 go_ret
 exact ⟨rfl, HK2.out⟩
end Go.Proofs.YtldcediiobfhiaaGreatDoor.De
