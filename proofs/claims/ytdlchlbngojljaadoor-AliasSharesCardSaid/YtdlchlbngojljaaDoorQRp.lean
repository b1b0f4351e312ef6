/- Rows of pairs in memory; the reference's has and better. The reference's step. -/
import Derived.Test.YtdlchlbngojljaaDoorQRm
import Derived.Test.YtdlchlbngojljaaDoorQRg
namespace Go.Proofs.YtdlchlbngojljaaDoor.Gl
open Go.RowKit
def txt (l : List UInt8) : ByteArray := ⟨l.toArray⟩
theorem txt_list (l : List UInt8) : (txt l).toList = l := by rw [Lib.toList_data]; rfl
theorem txt_size (l : List UInt8) : (txt l).size = l.length := by rw [Lib.size_eq]; rfl
def prC (z : Pr5) : List Value := [.int .i64 (z.a : Int), .int .i64 (z.b : Int), .int .i64 (z.i : Int), .int .i64 (z.k : Int), .string (txt z.t)]
def prV (z : Pr5) : Value := .agg (prC z).toArray
def prsC (l : List Pr5) : List Value := l.flatMap prC
theorem prsC_len (l : List Pr5) : (prsC l).length = l.length * 5 := by
 induction l with
 | nil => rfl
 | cons x l ih =>
  unfold prsC at ih ⊢
  rw [List.flatMap_cons, List.length_append, ih, List.length_cons]
  simp only [prC, List.length_cons, List.length_nil]
  omega
theorem prsC_append (a b : List Pr5) : prsC (a ++ b) = prsC a ++ prsC b := List.flatMap_append
theorem prsC_one (l : List Pr5) : ∀ v ∈ prsC l, v.oneCell' = true := fun v hv => by
 obtain ⟨x, _, h⟩ := List.mem_flatMap.1 hv
 simp only [prC, List.mem_cons, List.not_mem_nil, or_false] at h
 rcases h with rfl | rfl | rfl | rfl | rfl <;> rfl
theorem prsC_get : ∀ (l : List Pr5) (j : Nat) (x : Pr5) (m : Nat), l[j]? = some x → m < 5 → (prsC l)[j * 5 + m]? = (prC x)[m]?
 | [], j, x, m, h, _ => by simp at h
 | y :: l, 0, x, m, h, hm => by
  simp only [List.getElem?_cons_zero, Option.some.injEq] at h
  subst h
  have e : prsC (y :: l) = prC y ++ prsC l := rfl
  rw [e, List.getElem?_append_left (by show 0 * 5 + m < 5; omega), Nat.zero_mul, Nat.zero_add]
 | y :: l, j + 1, x, m, h, hm => by
  have := prsC_get l j x m (by simpa using h) hm
  have e : prsC (y :: l) = prC y ++ prsC l := rfl
  rw [e, List.getElem?_append_right (by show 5 ≤ (j + 1) * 5 + m; omega), show (j + 1) * 5 + m - (prC y).length = j * 5 + m by show (j + 1) * 5 + m - 5 = _; omega]
  exact this
/-- The pairs lie in the block g. -/
def PRow (w : World) (g : Nat) (l : List Pr5) : Prop := ∀ (j : Nat) v, (prsC l)[j]? = some v → w.cell? ⟨g, j, none⟩ = some v
theorem PRow.at_ {w : World} {g : Nat} {l : List Pr5} (h : PRow w g l) {j : Nat} {x : Pr5} (hj : l[j]? = some x) : w.cell? ⟨g, j * 5, none⟩ = some (.int .i64 (x.a : Int)) ∧ w.cell? ⟨g, j * 5 + 1, none⟩ = some (.int .i64 (x.b : Int)) ∧ w.cell? ⟨g, j * 5 + 2, none⟩ = some (.int .i64 (x.i : Int)) ∧ w.cell? ⟨g, j * 5 + 3, none⟩ = some (.int .i64 (x.k : Int)) ∧ w.cell? ⟨g, j * 5 + 4, none⟩ = some (.string (txt x.t)) :=
 ⟨h (j * 5 + 0) _ (prsC_get l j x 0 hj (by omega)), h _ _ (prsC_get l j x 1 hj (by omega)), h _ _ (prsC_get l j x 2 hj (by omega)), h _ _ (prsC_get l j x 3 hj (by omega)), h _ _ (prsC_get l j x 4 hj (by omega))⟩
theorem PRow.below {w w' : World} {g B : Nat} {l : List Pr5} (h : PRow w g l) (hb : Below B w w') (hB : g < B) : PRow w' g l := fun j v hv => (hb.cell (p := ⟨g, j, none⟩) hB).trans (h j v hv)
/-- The slice v holds these pairs. -/
def PHas (w : World) (v : Value) (l : List Pr5) : Prop := (v = .slice none 0 0 ∧ l = []) ∨ ∃ g c, v = .slice (some ⟨g, 0, none⟩) l.length c ∧ l.length ≤ c ∧ g < w.heap.size ∧ PRow w g l
theorem PHas.below {w w' : World} {v : Value} {l : List Pr5} (h : PHas w v l) (hb : Below w.heap.size w w') : PHas w' v l := by
 rcases h with h | ⟨g, c, hv, hc, hg, hr⟩
 ·exact Or.inl h
 ·exact Or.inr ⟨g, c, hv, hc, Nat.lt_of_lt_of_le hg hb.size, hr.below hb hg⟩
theorem PHas.form {w : World} {v : Value} {l : List Pr5} (h : PHas w v l) : ∃ a c, v = .slice a l.length c ∧ l.length ≤ c ∧ (l ≠ [] → ∃ g, a = some ⟨g, 0, none⟩ ∧ g < w.heap.size ∧ PRow w g l) := by
 rcases h with ⟨rfl, rfl⟩ | ⟨g, c, rfl, hc, hg, hr⟩
 ·exact ⟨none, 0, rfl, Nat.le_refl _, fun h => absurd rfl h⟩
 ·exact ⟨some ⟨g, 0, none⟩, c, rfl, hc, fun _ => ⟨g, rfl, hg, hr⟩⟩
theorem PHas.of_own {w : World} {B n : Nat} {v : Value} {l : List Pr5} (h : w.ownsRow B 96 5 v n (prsC l)) (hn : n = l.length) : PHas w v l := by
 subst hn
 rcases h.2 with ⟨hv, h0⟩ | ⟨g, cap, cur, hv, _, hg, hc, _, _, ht⟩
 ·exact Or.inl ⟨hv, List.length_eq_zero_iff.1 h0⟩
 ·refine Or.inr ⟨g, cap, hv, hc, (Array.getElem?_eq_some_iff.1 hg).1, fun j u hu => ?_⟩
  have hj : j < l.length * 5 := by
   rw [← prsC_len]
   exact (List.getElem?_eq_some_iff.1 hu).1
  rw [← ht, List.getElem?_take, if_pos hj] at hu
  rw [cell_of_row w g j cur _ _ hg]
  simpa using hu
theorem drop_below {B : Nat} {a w : World} (h : Below B a w) (n : Nat) : Below B a (w.drewN n) := ⟨h.os, h.tape, h.output, h.size, h.block⟩
theorem take_find {l : List Pr5} {z x : Pr5} {i : Nat} (h : (l.take i).find? (sameK · z) = none) (hx : l[i]? = some x) : (l.take (i + 1)).find? (sameK · z) = if sameK x z then some x else none := by
 rw [List.take_add_one, hx, List.find?_append, h]
 show List.find? (fun y => sameK y z) [x] = _
 rw [List.find?_cons]
 cases sameK x z <;> rfl
theorem find_at {l : List Pr5} {z x : Pr5} {i : Nat} (h : (l.take i).find? (sameK · z) = none) (hx : l[i]? = some x) (hs : sameK x z = true) : l.find? (sameK · z) = some x := by
 have h1 := take_find h hx
 rw [hs, if_pos rfl] at h1
 have : l = l.take (i + 1) ++ l.drop (i + 1) := (List.take_append_drop _ _).symm
 rw [this, List.find?_append, h1]
 rfl
def hasF (l : List Pr5) (z : Pr5) : Bool := match l.find? (sameK · z) with
 | none => false
 | some _ => true
theorem hasF_eq (l : List Pr5) (z : Pr5) : hasF l z = hasP l z := by
 unfold hasF
 cases h : l.find? (sameK · z) with
 | none =>
  symm
  unfold hasP
  rw [List.any_eq_false]
  intro y hy
  rw [find_none h y hy]
  simp
 | some y => exact (hasP_iff.2 ⟨y, List.mem_of_find?_eq_some h, by simpa using List.find?_some h⟩).symm
set_option maxHeartbeats 2000000 in
set_option maxRecDepth 100000 in
theorem refHas_any (l : List Pr5) (z : Pr5) (v : Value) (w : World) (hl : l.length ≤ 1000000000000) (hv : PHas w v l) : Calls Tryd.prog 52 #[v, prV z] w (Bel (.bool (hasF l z)) w) := by
 obtain ⟨a, c, rfl, hc, hrow⟩ := hv.form
 obtain ⟨R, hR⟩ : ∃ R, hasF l z = R := ⟨_, rfl⟩
 rw [hR]
 have HR := Lib.hid hR
 obtain ⟨za, hza⟩ : ∃ n : Int, (z.a : Int) = n := ⟨_, rfl⟩
 obtain ⟨zb, hzb⟩ : ∃ n : Int, (z.b : Int) = n := ⟨_, rfl⟩
 obtain ⟨zi, hzi⟩ : ∃ n : Int, (z.i : Int) = n := ⟨_, rfl⟩
 obtain ⟨zk, hzk⟩ : ∃ n : Int, (z.k : Int) = n := ⟨_, rfl⟩
 obtain ⟨zt, hzt⟩ : ∃ n : ByteArray, txt z.t = n := ⟨_, rfl⟩
 have hzv : prV z = .agg #[.int .i64 za, .int .i64 zb, .int .i64 zi, .int .i64 zk, .string zt] := by
  rw [← hza, ← hzb, ← hzi, ← hzk, ← hzt]
  rfl
 rw [hzv]
 have HZ := Lib.hid (And.intro hza (And.intro hzb (And.intro hzi (And.intro hzk hzt))))
 obtain ⟨N, hN⟩ : ∃ N, l.length = N := ⟨_, rfl⟩
 rw [hN] at hl ⊢
 have HN := Lib.hid hN
 have hb1 : Below w.heap.size w (w.alloc (.cells #[.int .i64 za, .int .i64 zb, .int .i64 zi, .int .i64 zk, .string zt] 96)) := (Below.refl _ w).alloc (Nat.le_refl _) _
 have HRow := Lib.hid (fun (h : l ≠ []) => (hrow h).imp fun g hg => And.intro hg.1 (And.intro hg.2.1 (hg.2.2.below hb1 hg.2.1)))
 have hz0 := cell_of_row _ _ 0 _ _ _ (heap_alloc_last w (.cells #[.int .i64 za, .int .i64 zb, .int .i64 zi, .int .i64 zk, .string zt] 96))
 have hz1 := cell_of_row _ _ 1 _ _ _ (heap_alloc_last w (.cells #[.int .i64 za, .int .i64 zb, .int .i64 zi, .int .i64 zk, .string zt] 96))
 have hz2 := cell_of_row _ _ 2 _ _ _ (heap_alloc_last w (.cells #[.int .i64 za, .int .i64 zb, .int .i64 zi, .int .i64 zk, .string zt] 96))
 have hz3 := cell_of_row _ _ 3 _ _ _ (heap_alloc_last w (.cells #[.int .i64 za, .int .i64 zb, .int .i64 zi, .int .i64 zk, .string zt] 96))
 have hz4 := cell_of_row _ _ 4 _ _ _ (heap_alloc_last w (.cells #[.int .i64 za, .int .i64 zb, .int .i64 zi, .int .i64 zk, .string zt] 96))
 simp only [List.getElem?_toArray, List.getElem?_cons_zero, List.getElem?_cons_succ] at hz0 hz1 hz2 hz3 hz4
 have Hb1 := Lib.hid hb1
 clear hR hza hzb hzi hzk hzt hzv hN hb1 hrow hc hv
 go_enter Tryd.func52, Tryd.ntmps52
 go_wp2
 generalize w.alloc (.cells #[.int .i64 za, .int .i64 zb, .int .i64 zi, .int .i64 zk, .string zt] 96) = W1 at *
 obtain ⟨E, hE⟩ : ∃ E, w.heap.size = E := ⟨_, rfl⟩
 rw [hE] at hz0 hz1 hz2 hz3 hz4 ⊢
 have HE := Lib.hid hE
 clear hE
 go_loopw [5] (fun s5 wx => ∃ i : Nat, i ≤ N ∧ s5 = .int .i64 (i : Int) ∧ (l.take i).find? (sameK · z) = none ∧ ∃ n, wx = W1.drewN n) (fun s5 _ => N - (intOf s5).toNat)
 case atStart => exact ⟨0, by omega, rfl, rfl, 0, rfl⟩
 case round =>
  obtain ⟨i, hi, rfl, hfind, n, rfl⟩ := hrel
  have Hf := Lib.hid hfind
  clear hfind
  have hbx : ∀ m, Below w.heap.size w (W1.drewN m) := fun m => drop_below Hb1.out m
  have Hbx := Lib.hid hbx
  clear hbx
  by_cases hlt : i < N
  ·have hiz : (i : Int) < (N : Int) := by omega
   obtain ⟨x, hx⟩ : ∃ x, l[i]? = some x := ⟨l[i]'(by rw [HN.out]; exact hlt), List.getElem?_eq_getElem _⟩
   obtain ⟨g, rfl, hg, hr⟩ := HRow.out (fun e => by rw [e] at hx; simp at hx)
   obtain ⟨d0, d1, d2, d3, d4⟩ := hr.at_ hx
   have hsk : sameK x z = (decide (x.a = z.a) && (decide (x.b = z.b) && (decide (x.i = z.i) && decide (x.k = z.k)))) := rfl
   have hnx := take_find Hf.out hx
   have hat := find_at Hf.out hx
   have e0 : decide (x.a = z.a) = ((x.a : Int) == za) := by rw [← HZ.out.1, Bool.eq_iff_iff, decide_eq_true_eq, beq_iff_eq]; omega
   have e1 : decide (x.b = z.b) = ((x.b : Int) == zb) := by rw [← HZ.out.2.1, Bool.eq_iff_iff, decide_eq_true_eq, beq_iff_eq]; omega
   have e2 : decide (x.i = z.i) = ((x.i : Int) == zi) := by rw [← HZ.out.2.2.1, Bool.eq_iff_iff, decide_eq_true_eq, beq_iff_eq]; omega
   have e3 : decide (x.k = z.k) = ((x.k : Int) == zk) := by rw [← HZ.out.2.2.2.1, Bool.eq_iff_iff, decide_eq_true_eq, beq_iff_eq]; omega
   rw [e0, e1, e2, e3] at hsk
   have Hnx := Lib.hid hnx
   have Hat := Lib.hid hat
   have Hsk := Lib.hid hsk
   have Hx := Lib.hid hx
   clear hsk hnx hat e0 e1 e2 e3 hr hx
   obtain ⟨xa, hxa⟩ : ∃ n : Int, (x.a : Int) = n := ⟨_, rfl⟩
   obtain ⟨xb, hxb⟩ : ∃ n : Int, (x.b : Int) = n := ⟨_, rfl⟩
   obtain ⟨xi, hxi⟩ : ∃ n : Int, (x.i : Int) = n := ⟨_, rfl⟩
   obtain ⟨xk, hxk⟩ : ∃ n : Int, (x.k : Int) = n := ⟨_, rfl⟩
   obtain ⟨xt, hxt⟩ : ∃ n : ByteArray, txt x.t = n := ⟨_, rfl⟩
   rw [hxa] at d0 Hsk
   rw [hxb] at d1 Hsk
   rw [hxi] at d2 Hsk
   rw [hxk] at d3 Hsk
   rw [hxt] at d4
   have HX := Lib.hid hxt
   clear hxa hxb hxi hxk hxt
   cases q0 : (xa == za) with
   | false =>
    have hn := Hnx.out
    have hs : sameK x z = false := by rw [Hsk.out, q0]; rfl
    rw [hs] at hn
    have Hn := Lib.hid hn
    clear hn hs
    go_wp2
    go_quiet (fail)
    go_wp2
    exact ⟨⟨i + 1, by omega, rfl, Hn.out, _, rfl⟩, by simp [intOf]; omega⟩
   | true =>
    cases q1 : (xb == zb) with
    | false =>
     have hn := Hnx.out
     have hs : sameK x z = false := by rw [Hsk.out, q0, q1]; rfl
     rw [hs] at hn
     have Hn := Lib.hid hn
     clear hn hs
     go_wp2
     go_quiet (fail)
     go_wp2
     exact ⟨⟨i + 1, by omega, rfl, Hn.out, _, rfl⟩, by simp [intOf]; omega⟩
    | true =>
     cases q2 : (xi == zi) with
     | false =>
      have hn := Hnx.out
      have hs : sameK x z = false := by rw [Hsk.out, q0, q1, q2]; rfl
      rw [hs] at hn
      have Hn := Lib.hid hn
      clear hn hs
      go_wp2
      go_quiet (fail)
      go_wp2
      exact ⟨⟨i + 1, by omega, rfl, Hn.out, _, rfl⟩, by simp [intOf]; omega⟩
     | true =>
      cases q3 : (xk == zk) with
      | false =>
       have hn := Hnx.out
       have hs : sameK x z = false := by rw [Hsk.out, q0, q1, q2, q3]; rfl
       rw [hs] at hn
       have Hn := Lib.hid hn
       clear hn hs
       go_wp2
       go_quiet (fail)
       go_wp2
       exact ⟨⟨i + 1, by omega, rfl, Hn.out, _, rfl⟩, by simp [intOf]; omega⟩
      | true =>
       have Hs := Lib.hid (show sameK x z = true from by rw [Hsk.out, q0, q1, q2, q3]; rfl)
       have Hv := Lib.hid (show R = true from by rw [← HR.out]; unfold hasF; rw [Hat.out Hs.out])
       go_wp2
       go_quiet (fail)
       go_wp2
       go_ret
       exact ⟨by rw [Hv.out]; rfl, drop_below (Hbx.out _) _⟩
  ·obtain rfl : i = N := by omega
   have hn := Hf.out
   rw [← HN.out, List.take_length] at hn
   have Hn := Lib.hid (show R = false from by rw [← HR.out]; unfold hasF; rw [hn])
   clear hn
   go_wp2
   go_ret
   exact ⟨by rw [Hn.out]; rfl, Hbx.out _⟩
set_option maxHeartbeats 2000000 in
set_option maxRecDepth 100000 in
theorem refBetter_any (l : List Pr5) (z : Pr5) (v : Value) (w : World) (hl : l.length ≤ 1000000000000) (hv : PHas w v l) : Calls Tryd.prog 77 #[v, prV z] w (Bel (.bool (betterP l z)) w) := by
 obtain ⟨a, c, rfl, hc, hrow⟩ := hv.form
 obtain ⟨R, hR⟩ : ∃ R, betterP l z = R := ⟨_, rfl⟩
 rw [hR]
 have HR := Lib.hid hR
 obtain ⟨za, hza⟩ : ∃ n : Int, (z.a : Int) = n := ⟨_, rfl⟩
 obtain ⟨zb, hzb⟩ : ∃ n : Int, (z.b : Int) = n := ⟨_, rfl⟩
 obtain ⟨zi, hzi⟩ : ∃ n : Int, (z.i : Int) = n := ⟨_, rfl⟩
 obtain ⟨zk, hzk⟩ : ∃ n : Int, (z.k : Int) = n := ⟨_, rfl⟩
 obtain ⟨zt, hzt⟩ : ∃ n : ByteArray, txt z.t = n := ⟨_, rfl⟩
 have hzv : prV z = .agg #[.int .i64 za, .int .i64 zb, .int .i64 zi, .int .i64 zk, .string zt] := by
  rw [← hza, ← hzb, ← hzi, ← hzk, ← hzt]
  rfl
 rw [hzv]
 have HZ := Lib.hid (And.intro hza (And.intro hzb (And.intro hzi (And.intro hzk hzt))))
 obtain ⟨N, hN⟩ : ∃ N, l.length = N := ⟨_, rfl⟩
 rw [hN] at hl ⊢
 have HN := Lib.hid hN
 have hb1 : Below w.heap.size w (w.alloc (.cells #[.int .i64 za, .int .i64 zb, .int .i64 zi, .int .i64 zk, .string zt] 96)) := (Below.refl _ w).alloc (Nat.le_refl _) _
 have HRow := Lib.hid (fun (h : l ≠ []) => (hrow h).imp fun g hg => And.intro hg.1 (And.intro hg.2.1 (hg.2.2.below hb1 hg.2.1)))
 have hz0 := cell_of_row _ _ 0 _ _ _ (heap_alloc_last w (.cells #[.int .i64 za, .int .i64 zb, .int .i64 zi, .int .i64 zk, .string zt] 96))
 have hz1 := cell_of_row _ _ 1 _ _ _ (heap_alloc_last w (.cells #[.int .i64 za, .int .i64 zb, .int .i64 zi, .int .i64 zk, .string zt] 96))
 have hz2 := cell_of_row _ _ 2 _ _ _ (heap_alloc_last w (.cells #[.int .i64 za, .int .i64 zb, .int .i64 zi, .int .i64 zk, .string zt] 96))
 have hz3 := cell_of_row _ _ 3 _ _ _ (heap_alloc_last w (.cells #[.int .i64 za, .int .i64 zb, .int .i64 zi, .int .i64 zk, .string zt] 96))
 have hz4 := cell_of_row _ _ 4 _ _ _ (heap_alloc_last w (.cells #[.int .i64 za, .int .i64 zb, .int .i64 zi, .int .i64 zk, .string zt] 96))
 simp only [List.getElem?_toArray, List.getElem?_cons_zero, List.getElem?_cons_succ] at hz0 hz1 hz2 hz3 hz4
 have Hb1 := Lib.hid hb1
 clear hR hza hzb hzi hzk hzt hzv hN hb1 hrow hc hv
 go_enter Tryd.func77, Tryd.ntmps77
 go_wp2
 generalize w.alloc (.cells #[.int .i64 za, .int .i64 zb, .int .i64 zi, .int .i64 zk, .string zt] 96) = W1 at *
 obtain ⟨E, hE⟩ : ∃ E, w.heap.size = E := ⟨_, rfl⟩
 rw [hE] at hz0 hz1 hz2 hz3 hz4 ⊢
 have HE := Lib.hid hE
 clear hE
 go_loopw [5] (fun s5 wx => ∃ i : Nat, i ≤ N ∧ s5 = .int .i64 (i : Int) ∧ (l.take i).find? (sameK · z) = none ∧ ∃ n, wx = W1.drewN n) (fun s5 _ => N - (intOf s5).toNat)
 case atStart => exact ⟨0, by omega, rfl, rfl, 0, rfl⟩
 case round =>
  obtain ⟨i, hi, rfl, hfind, n, rfl⟩ := hrel
  have Hf := Lib.hid hfind
  clear hfind
  have hbx : ∀ m, Below w.heap.size w (W1.drewN m) := fun m => drop_below Hb1.out m
  have Hbx := Lib.hid hbx
  clear hbx
  by_cases hlt : i < N
  ·have hiz : (i : Int) < (N : Int) := by omega
   obtain ⟨x, hx⟩ : ∃ x, l[i]? = some x := ⟨l[i]'(by rw [HN.out]; exact hlt), List.getElem?_eq_getElem _⟩
   obtain ⟨g, rfl, hg, hr⟩ := HRow.out (fun e => by rw [e] at hx; simp at hx)
   obtain ⟨d0, d1, d2, d3, d4⟩ := hr.at_ hx
   have hsk : sameK x z = (decide (x.a = z.a) && (decide (x.b = z.b) && (decide (x.i = z.i) && decide (x.k = z.k)))) := rfl
   have hnx := take_find Hf.out hx
   have hat := find_at Hf.out hx
   have e0 : decide (x.a = z.a) = ((x.a : Int) == za) := by rw [← HZ.out.1, Bool.eq_iff_iff, decide_eq_true_eq, beq_iff_eq]; omega
   have e1 : decide (x.b = z.b) = ((x.b : Int) == zb) := by rw [← HZ.out.2.1, Bool.eq_iff_iff, decide_eq_true_eq, beq_iff_eq]; omega
   have e2 : decide (x.i = z.i) = ((x.i : Int) == zi) := by rw [← HZ.out.2.2.1, Bool.eq_iff_iff, decide_eq_true_eq, beq_iff_eq]; omega
   have e3 : decide (x.k = z.k) = ((x.k : Int) == zk) := by rw [← HZ.out.2.2.2.1, Bool.eq_iff_iff, decide_eq_true_eq, beq_iff_eq]; omega
   rw [e0, e1, e2, e3] at hsk
   have Hnx := Lib.hid hnx
   have Hat := Lib.hid hat
   have Hsk := Lib.hid hsk
   have Hx := Lib.hid hx
   clear hsk hnx hat e0 e1 e2 e3 hr hx
   obtain ⟨xa, hxa⟩ : ∃ n : Int, (x.a : Int) = n := ⟨_, rfl⟩
   obtain ⟨xb, hxb⟩ : ∃ n : Int, (x.b : Int) = n := ⟨_, rfl⟩
   obtain ⟨xi, hxi⟩ : ∃ n : Int, (x.i : Int) = n := ⟨_, rfl⟩
   obtain ⟨xk, hxk⟩ : ∃ n : Int, (x.k : Int) = n := ⟨_, rfl⟩
   obtain ⟨xt, hxt⟩ : ∃ n : ByteArray, txt x.t = n := ⟨_, rfl⟩
   rw [hxa] at d0 Hsk
   rw [hxb] at d1 Hsk
   rw [hxi] at d2 Hsk
   rw [hxk] at d3 Hsk
   rw [hxt] at d4
   have HX := Lib.hid hxt
   clear hxa hxb hxi hxk hxt
   cases q0 : (xa == za) with
   | false =>
    have hn := Hnx.out
    have hs : sameK x z = false := by rw [Hsk.out, q0]; rfl
    rw [hs] at hn
    have Hn := Lib.hid hn
    clear hn hs
    go_wp2
    go_quiet (fail)
    go_wp2
    exact ⟨⟨i + 1, by omega, rfl, Hn.out, _, rfl⟩, by simp [intOf]; omega⟩
   | true =>
    cases q1 : (xb == zb) with
    | false =>
     have hn := Hnx.out
     have hs : sameK x z = false := by rw [Hsk.out, q0, q1]; rfl
     rw [hs] at hn
     have Hn := Lib.hid hn
     clear hn hs
     go_wp2
     go_quiet (fail)
     go_wp2
     exact ⟨⟨i + 1, by omega, rfl, Hn.out, _, rfl⟩, by simp [intOf]; omega⟩
    | true =>
     cases q2 : (xi == zi) with
     | false =>
      have hn := Hnx.out
      have hs : sameK x z = false := by rw [Hsk.out, q0, q1, q2]; rfl
      rw [hs] at hn
      have Hn := Lib.hid hn
      clear hn hs
      go_wp2
      go_quiet (fail)
      go_wp2
      exact ⟨⟨i + 1, by omega, rfl, Hn.out, _, rfl⟩, by simp [intOf]; omega⟩
     | true =>
      cases q3 : (xk == zk) with
      | false =>
       have hn := Hnx.out
       have hs : sameK x z = false := by rw [Hsk.out, q0, q1, q2, q3]; rfl
       rw [hs] at hn
       have Hn := Lib.hid hn
       clear hn hs
       go_wp2
       go_quiet (fail)
       go_wp2
       exact ⟨⟨i + 1, by omega, rfl, Hn.out, _, rfl⟩, by simp [intOf]; omega⟩
      | true =>
       have Hs := Lib.hid (show sameK x z = true from by rw [Hsk.out, q0, q1, q2, q3]; rfl)
       have hv : R = Op.bytesLess zt.toList xt.toList := by
        rw [← HR.out]
        unfold betterP
        rw [Hat.out Hs.out, ← HZ.out.2.2.2.2, ← HX.out, txt_list, txt_list]
       have Hv := Lib.hid hv
       clear hv
       go_wp2
       go_quiet (fail)
       go_wp2
       go_quiet (fail)
       go_wp2
       go_ret
       exact ⟨by rw [Hv.out]; rfl, drop_below (drop_below (Hbx.out _) _) _⟩
  ·obtain rfl : i = N := by omega
   have hn := Hf.out
   rw [← HN.out, List.take_length] at hn
   have Hn := Lib.hid (show R = true from by rw [← HR.out]; unfold betterP; rw [hn])
   clear hn
   go_wp2
   go_ret
   exact ⟨by rw [Hn.out]; rfl, Hbx.out _⟩
end Go.Proofs.YtdlchlbngojljaaDoor.Gl
namespace Go.Proofs.YtdlchlbngojljaaDoor.Gl
open Go.RowKit
set_option maxHeartbeats 1000000 in
set_option maxRecDepth 100000 in
theorem refStep_any (l : List El) (i : Nat) (c : UInt8) (vl : Value) (w : World) (hl : l.length ≤ 256) (hi : i ≤ l.length) (hc : isText c = true) (hv : PSl w vl l) :
  Calls Tryd.prog 51 #[vl, .int .i64 (i : Int), .int .u8 (c.toNat : Int)] w (Bel (.tuple #[.int .i64 ((stepR l i c).1 : Int), .bool (stepR l i c).2]) w) := by
 obtain ⟨aj, cj, gj, rfl, haj, hgj, hels⟩ := hv
 have hc127 : c.toNat ≤ 126 := by
  unfold isText at hc
  simp only [Bool.and_eq_true, decide_eq_true_eq] at hc
  exact hc.2
 have hci : (c.toNat : Int) < 128 := by omega
 rcases Nat.lt_or_ge i l.length with hlt | hge
 ·obtain ⟨e, he⟩ : ∃ e, l[i]? = some e := ⟨_, List.getElem?_eq_getElem hlt⟩
  obtain rfl := haj (by omega)
  have hst : stepR l i c = if e.star then (i, true) else (i + 1, e.set c) := by
   unfold stepR
   rw [he]
  rw [hst]
  have hcS := (hels i e he).1
  have hcX := (hels i e he).2.2 c.toNat (by omega)
  rw [UInt8.ofNat_toNat, ← Nat.add_assoc] at hcX
  have hset : setOfE e c = (!e.star && e.set c) := by
   unfold setOfE
   cases e.star <;> simp
  rw [hset] at hcX
  obtain ⟨N, hN⟩ : ∃ N, l.length = N := ⟨_, rfl⟩
  rw [hN] at hl hlt ⊢
  have hne : ((i : Int) == (N : Int)) = false := by rw [beq_eq_false_iff_ne]; omega
  have hiz : (i : Int) < (N : Int) := by omega
  clear hst hset hels he haj hN hi hc
  cases hs : e.star with
  | true =>
   rw [hs] at hcS
   simp only [if_true]
   clear hcX
   go_enter Tryd.func51, Tryd.ntmps51
   go_wp2
   go_ret2
   exact ⟨rfl, Below.refl _ _⟩
  | false =>
   rw [hs] at hcS hcX
   simp only [Bool.not_false, Bool.true_and] at hcX
   simp only [Bool.false_eq_true, if_false]
   generalize e.set c = sx at *
   go_enter Tryd.func51, Tryd.ntmps51
   go_wp2
   go_quiet (fail)
   go_wp2
   go_ret2
   exact ⟨by first | rfl | simp, drop_below (Below.refl _ _) _⟩
 ·obtain rfl : i = l.length := by omega
  have hst : stepR l l.length c = (0, false) := by
   unfold stepR
   rw [List.getElem?_eq_none (Nat.le_refl _)]
  rw [hst]
  obtain ⟨N, hN⟩ : ∃ N, l.length = N := ⟨_, rfl⟩
  rw [hN]
  clear hst hels haj hN hi hc hl
  go_enter Tryd.func51, Tryd.ntmps51
  go_wp2
  go_ret2
  exact ⟨rfl, Below.refl _ _⟩
end Go.Proofs.YtdlchlbngojljaaDoor.Gl
