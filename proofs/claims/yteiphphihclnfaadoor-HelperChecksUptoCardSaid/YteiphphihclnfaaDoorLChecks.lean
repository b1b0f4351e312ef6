/- HelperChecks: the walk. -/
import Derived.Test.YteiphphihclnfaaDoorLBounds
import Derived.Test.YteiphphihclnfaaDoorHK
namespace Go.Proofs.YteiphphihclnfaaDoor
open Go.RowKit Go.Shelf
open Go.Proofs.YteiphphihclnfaaDoor.Nm
theorem cell_set_same {w : World} {a : Addr} {u v : Value} (h : w.cell? a = some u) : (w.setCell a v).cell? a = some v := World.cell?_setCell_same' w a v (by rw [h]; rfl)
/-- One cell of an element is written. -/
theorem hp_set {w : World} {g k m : Nat} {l : List Hp} {x x' : Hp} {v : Value} (hrow : hpT.Row w g 0 l) (hx : l[k]? = some x) (hm : m < 4) (hcf : hpT.cf x' = (hpT.cf x).set m v) : hpT.Row (w.setCell ⟨g, k * 4 + m, none⟩ v) g 0 (l.set k x') := by
  have hk := (List.getElem?_eq_some_iff.1 hx).1
  have hs : hpT.sz = 4 := rfl
  intro j y hy m' u hu
  rw [hs, Nat.zero_add]
  have hm' : m' < 4 := by have := (List.getElem?_eq_some_iff.1 hu).1; rwa [hpT.len y] at this
  by_cases hj : k = j
  · subst hj
    rw [List.getElem?_set_self hk] at hy
    cases hy
    rw [hcf] at hu
    by_cases he : m = m'
    · subst he
      rw [List.getElem?_set_self (by rw [hpT.len x]; exact hm)] at hu
      cases hu
      obtain ⟨u0, hu0⟩ : ∃ u0, (hpT.cf x)[m]? = some u0 := ⟨_, List.getElem?_eq_getElem (by rw [hpT.len x]; exact hm)⟩
      have := hrow k x hx m u0 hu0
      rw [hs, Nat.zero_add] at this
      exact cell_set_same this
    · rw [List.getElem?_set_ne he] at hu
      have := hrow k x hx m' u hu
      rw [hs, Nat.zero_add] at this
      rw [World.cell?_setCell_other _ _ _ _ (by intro e; injection e with _ e2; omega)]
      exact this
  · rw [List.getElem?_set_ne hj] at hy
    have := hrow j y hy m' u hu
    rw [hs, Nat.zero_add] at this
    rw [World.cell?_setCell_other _ _ _ _ (by intro e; injection e with _ e2; omega)]
    exact this
/-- A table that Check and the reference's Check may be asked about. -/
def XOk (w : World) (xv : Value) : Prop := ∃ L, hpT.Has w xv L ∧ L.length ≤ 1000000 ∧ ∀ x ∈ L, SmH x
theorem XOk.calls {w : World} {xv : Value} (h : XOk w xv) : ∃ F : Int → Int, (∀ W', Kp [] w W' → ∀ z : Int, Calls Tryd.prog 13 #[xv, .int .i64 z] W' fun e w' => e = .returned (.int .i64 (F z)) ∧ Kp [] W' w') ∧ (∀ W', Kp [] w W' → ∀ z : Int, Calls Tryd.prog 14 #[xv, .int .i64 z] W' fun e w' => e = .returned (.int .i64 (F z)) ∧ Kp [] W' w') := by
  obtain ⟨L, h1, h2, h3⟩ := h
  exact ⟨checkT L, fun W' hk z => check_any h2 h3 (h1.kp0 hk), fun W' hk z => refCheckT_any h2 h3 (h1.kp0 hk)⟩
/-- An own row with one cell of an element written. -/
theorem own_xok {w : World} {B g cp k m : Nat} {L : List Hp} {x x' : Hp} {v : Value} (h : hpT.Own w B (.slice (some ⟨g, 0, none⟩) L.length cp) L) (hx : L[k]? = some x) (hm : m < 4) (hcf : hpT.cf x' = (hpT.cf x).set m v) (hs : ∀ y ∈ L, SmH y) (hsx : SmH x') (hl : L.length ≤ 1000000) :
    XOk (w.setCell ⟨g, k * 4 + m, none⟩ v) (.slice (some ⟨g, 0, none⟩) L.length cp) := by
  have hrow : hpT.Row w g 0 L ∧ g < w.heap.size := by
    rcases h.form2 with ⟨hv, _⟩ | ⟨g', cap, hv, _, hb, _, _, hr⟩
    · cases hv
    · cases hv
      exact ⟨hr, hb⟩
  refine ⟨L.set k x', .inr ⟨g, 0, cp, by rw [List.length_set], by simpa [World.setCell] using hrow.2, hp_set hrow.1 hx hm hcf⟩, by rw [List.length_set]; exact hl, fun y hy => ?_⟩
  rcases List.mem_or_eq_of_mem_set hy with h | h
  · exact hs y h
  · rw [h]; exact hsx
theorem own_cells {w : World} {B k : Nat} {v : Value} {L : List Hp} {x : Hp} (h : hpT.Own w B v L) (hx : L[k]? = some x) : ∃ g cp, v = .slice (some ⟨g, 0, none⟩) L.length cp ∧ B ≤ g ∧ g < w.heap.size ∧ (∀ j, w.frozen? ⟨g, j, none⟩ = false) ∧ w.cell? ⟨g, k * 4, none⟩ = some (.string (bs x.cmd)) ∧ w.cell? ⟨g, k * 4 + 1, none⟩ = some (.string (bs x.out)) ∧ w.cell? ⟨g, k * 4 + 2, none⟩ = some (.bool x.fails) ∧ w.cell? ⟨g, k * 4 + 3, none⟩ = some (.int .i64 x.ticks) := by
  rcases h.2 with ⟨_, hn⟩ | ⟨g, cap, cur, hv, hB, hh, hc, hcm, hcz, ht⟩
  · rw [List.length_eq_zero_iff.1 hn] at hx
    simp at hx
  · have hr : hpT.Row w g 0 L := RT.row_of (cur := cur.toList) (by rw [Array.toArray_toList]; exact hh) ht
    have hc4 := hpRow hr hx
    simp only [Nat.zero_add] at hc4
    exact ⟨g, cap, hv, hB, block_lt hh, fun j => by simp [World.frozen?, hh], hc4⟩
theorem first_cells {w : World} {B g cp : Nat} {L : List Hp} {x : Hp} (h : hpT.Own w B (.slice (some ⟨g, 0, none⟩) L.length cp) L) (hx : L[0]? = some x) : w.cell? ⟨g, 0, none⟩ = some (.string (bs x.cmd)) ∧ w.cell? ⟨g, 1, none⟩ = some (.string (bs x.out)) ∧ w.cell? ⟨g, 2, none⟩ = some (.bool x.fails) ∧ w.cell? ⟨g, 3, none⟩ = some (.int .i64 x.ticks) := by
  obtain ⟨g2, cp2, hv, _, _, _, e0, e1, e2, e3⟩ := own_cells h hx
  cases hv
  simp only [Nat.zero_mul, Nat.zero_add] at e0 e1 e2 e3
  exact ⟨e0, e1, e2, e3⟩
theorem four_at {q : Nat} {z : Int} (h : [(-1 : Int), 0, 1000, 1001][q]? = some z) : (#[Value.int .i64 (-1), .int .i64 0, .int .i64 1000, .int .i64 1001] : Array Value)[q]? = some (.int .i64 z) := by
  match q, h with
  | 0, h => cases h; rfl
  | 1, h => cases h; rfl
  | 2, h => cases h; rfl
  | 3, h => cases h; rfl
set_option maxRecDepth 100000 in
set_option maxHeartbeats 16000000 in
theorem helperChecks_walk (raw : Value) (limit : Int) (a : Option Addr) (n c : Nat) (W : World) (hm : ∃ m : Int, W.cell? ⟨0, 0, none⟩ = some (.int .i64 m)) {lr : List Hp} (h0 : hpT.Has W raw lr ∧ ∀ x ∈ lr, SmH x) (hg : Ints W W.heap.size (.slice a n c)) : Calls Tryd.prog 3 #[raw, .int .i64 limit, .slice a n c] W fun e W' => e = .returned (.bool true) ∧ Below W.heap.size W W' := by
  have hmx : Max W := hm
  obtain ⟨hraw, hsr⟩ := h0
  obtain ⟨rad, rcp, rfl, _⟩ := hraw.form
  by_cases hl : lr.length ≤ 80
  · have hl' : ¬ (80 : Int) < (lr.length : Int) := by omega
    obtain ⟨T, hT⟩ : ∃ T, W.heap.size = T := ⟨_, rfl⟩
    obtain ⟨W1, hW1⟩ : ∃ W1, W.alloc (.cells #[.slice a n c, .int .i64 0] 27) = W1 := ⟨_, rfl⟩
    have ht1 : Tp W1 T 0 := by rw [← hW1, ← hT]; exact tp_new hg
    have hk1 : Kp [] W W1 := by rw [← hW1]; exact (Kp.refl [] W).alloc _
    have hT0 : 0 < T := by have := hmx.lt; omega
    have hT1 : T < W1.heap.size := ht1.lt
    have HH := Lib.hid (helpers_any (by omega) ht1)
    have HKN := Lib.hid fun W' (h : Kp [T] W W') => known_any (hmx.kp h (by simp; omega))
    have hrw : ∀ W', Kp [T] W W' → hpT.Has W' (.slice rad lr.length rcp) lr := fun W' h => by
      rcases hraw with h1 | ⟨b, o, cp, h1, h2, h3⟩
      · exact .inl h1
      · exact .inr ⟨b, o, cp, h1, Nat.lt_of_lt_of_le h2 h.size, h3.keep (h.block b h2 (by simp; omega))⟩
    have HR13 := Lib.hid fun W' (h : Kp [T] W W') => check_any (l := lr) (limit := limit) (by omega) hsr (hrw W' h)
    have HR14 := Lib.hid fun W' (h : Kp [T] W W') => refCheckT_any (l := lr) (limit := limit) (by omega) hsr (hrw W' h)
    have HK1 := Lib.hid (hk1.mono (t := [T]) (by simp))
    obtain ⟨E0, hE0⟩ : ∃ E, checkT lr limit = E := ⟨_, rfl⟩
    rw [hE0] at HR13 HR14
    clear hm hmx hg ht1 hk1 hraw hsr hrw hE0 hl
    go_enter Tryd.func3, Tryd.ntmps3
    go_wp2_with (first
      | (go_at_call 9; refine Calls.mono (by with_reducible exact HKN.out _ HKC.out) ?_; rintro e wn ⟨rfl, hk⟩; have HKE := Lib.hid (HKC.out.trans (hk.mono (by simp))); clear hk)
      | (go_at_call 13; refine Calls.mono (by with_reducible exact HR13.out _ HKC.out) ?_; rintro e wn ⟨rfl, hk⟩; have HKC := Lib.hid (HKC.out.trans (hk.mono (by simp))); have HKX := Lib.hid (HKX.out.trans hk); clear hk)
      | (go_at_call 14; refine Calls.mono (by with_reducible exact HR14.out _ HKC.out) ?_; rintro e wn ⟨rfl, hk⟩; have HKC := Lib.hid (HKC.out.trans (hk.mono (by simp))); have HKX := Lib.hid (HKX.out.trans hk); clear hk)
      | (go_at_call 13; refine Calls.mono (by with_reducible exact HX13.out _ HKX.out _) ?_; rintro e wn ⟨rfl, hk⟩; have HKC := Lib.hid (HKC.out.trans (hk.mono (by simp))); have HKX := Lib.hid (HKX.out.trans hk); clear hk)
      | (go_at_call 14; refine Calls.mono (by with_reducible exact HX14.out _ HKX.out _) ?_; rintro e wn ⟨rfl, hk⟩; have HKC := Lib.hid (HKC.out.trans (hk.mono (by simp))); have HKX := Lib.hid (HKX.out.trans hk); clear hk)
      | (go_at_call 10; refine Calls.mono (by with_reducible exact HH.out) ?_; rintro e w2 ⟨v, L, lim, rfl, ho, hdr, h1, h2, ht, hk⟩; have HO := Lib.hid ho; have HDR := Lib.hid hdr; have HT2 := Lib.hid ht; have HK2 := Lib.hid (HK1.out.trans hk); obtain ⟨adx, cpx, rfl⟩ := ho.form; have hlL := hdr.1; obtain ⟨F, hx13, hx14⟩ := XOk.calls (⟨L, HO.out.has, by omega, HDR.out.sm⟩); have HX13 := Lib.hid hx13; have HX14 := Lib.hid hx14; clear hx13 hx14; have HKC := Lib.hid (HK2.out); have HKX := Lib.hid (Kp.refl [] w2); have HN := Lib.hid fun (h : 0 < L.length) => next_kp L.length (by omega) (by omega) (by omega) ht; rcases (show (¬ 0 < L.length) ∨ 0 < L.length from (by omega)) with hL0 | hL0; clear ho hdr ht hk)
      | (go_at_call 11; refine Calls.mono (by with_reducible exact HN.out hL0) ?_; rintro e w3 ⟨k, hk6, rfl, ht, hk⟩; have HT3 := Lib.hid ht; have HK3 := Lib.hid (HK2.out.trans hk); have HO3 := Lib.hid (HO.out.kpt hk (by omega)); obtain ⟨x, hx⟩ : ∃ x, L[k]? = some x := ⟨_, List.getElem?_eq_getElem hk6⟩; have HX := Lib.hid hx; have hkz : (k : Int) < (L.length : Int) := (by omega); have HN5 := Lib.hid (show Calls Tryd.prog 11 #[.pointer (some ⟨T, 0, none⟩), .int .i64 5] w3 fun e w' => ∃ r : Nat, r < 5 ∧ e = .returned (.int .i64 r) ∧ Tp w' T (0 + 7 + 1 + 1) ∧ Kp [T] w3 w' from next_kp 5 (by decide) (by decide) (by omega) ht); clear ht hk hx)
      | (go_at_call 11; refine Calls.mono (by with_reducible exact HN5.out) ?_; rintro e w4 ⟨r, hr5, rfl, ht, hk⟩; have HT4 := Lib.hid ht; have HK4 := Lib.hid (HK3.out.trans hk); have ho4 := HO3.out.kpt hk (by omega); have HO4 := Lib.hid ho4; obtain ⟨F, hx13, hx14⟩ := XOk.calls (⟨L, HO4.out.has, by omega, HDR.out.sm⟩); have HX13 := Lib.hid hx13; have HX14 := Lib.hid hx14; clear hx13 hx14; have HKC := Lib.hid (HK4.out); have HKX := Lib.hid (Kp.refl [] w4); obtain ⟨g, cp, hv, hBg, hgz, hfz, e0, e1, e2, e3⟩ := own_cells ho4 HX.out; cases hv; obtain ⟨N4, hN4⟩ : ∃ N4, w4.heap.size = N4 := ⟨_, rfl⟩; have HOA := Lib.hid (show Calls Tryd.prog 12 #[.pointer (some ⟨T, 0, none⟩), .slice (some ⟨N4, 0, none⟩) 3 3] (w4.alloc (.cells #[.string ⟨#[91]⟩, .string ⟨#[111, 107]⟩, .string ⟨#[1]⟩] 9)) fun e w' => ∃ x : List UInt8, x.length ≤ 300 ∧ e = .returned (.string (bs x)) ∧ Tp w' T (0 + 7 + 1 + 1 + 1) ∧ Kp [T] w4 w' from (by rw [← hN4]; exact one_short [[91], [111, 107], [1]] (by decide) (by decide) (by omega) ht (by decide))); have HOB := Lib.hid (show Calls Tryd.prog 12 #[.pointer (some ⟨T, 0, none⟩), .slice (some ⟨N4, 0, none⟩) 2 2] (w4.alloc (.cells #[.string ⟨#[10]⟩, .string ⟨#[111, 107]⟩] 9)) fun e w' => ∃ x : List UInt8, x.length ≤ 300 ∧ e = .returned (.string (bs x)) ∧ Tp w' T (0 + 7 + 1 + 1 + 1) ∧ Kp [T] w4 w' from (by rw [← hN4]; exact one_short [[10], [111, 107]] (by decide) (by decide) (by omega) ht (by decide))); obtain ⟨w4b, hw4b⟩ : ∃ w4b, w4.alloc (.cells #[.int .i64 (-1), .int .i64 0, .int .i64 1000, .int .i64 1001] 3) = w4b := ⟨_, rfl⟩; have hk4b : Kp [] w4 w4b := (by rw [← hw4b]; exact (Kp.refl [] w4).alloc _); have hb4b : w4b.heap[N4]? = some (.cells #[.int .i64 (-1), .int .i64 0, .int .i64 1000, .int .i64 1001] 3) := (by rw [← hw4b, ← hN4]; exact heap_alloc_last w4 _); have HK4B := Lib.hid hk4b; have HB4B := Lib.hid hb4b; have HNT := Lib.hid (show Calls Tryd.prog 11 #[.pointer (some ⟨T, 0, none⟩), .int .i64 4] w4b fun e w' => ∃ r : Nat, r < 4 ∧ e = .returned (.int .i64 r) ∧ Tp w' T (0 + 7 + 1 + 1 + 1) ∧ Kp [T] w4b w' from next_kp 4 (by decide) (by decide) (by omega) (ht.kp hk4b (by simp))); have hTN : T < N4 := (by have := ht.lt; omega); clear ht hk ho4 hk4b hb4b e0 e1 e2 e3 hfz hgz; have hrr : r = 0 ∨ r = 1 ∨ r = 2 ∨ r = 3 ∨ r = 4 := (by omega); clear hr5; rcases hrr with rfl | rfl | rfl | rfl | rfl)
      | (go_at_call 12; refine Calls.mono (by with_reducible exact HOA.out) ?_; rintro e w5 ⟨t, htl, rfl, _, hk⟩; have ho5 := (HO4.out.kpt hk (by omega)); obtain ⟨g2, cp2, hv2, hBg2, hgz2, hfz2, e0, e1, e2, e3⟩ := own_cells ho5 HX.out; obtain ⟨rfl, rfl⟩ : g = g2 ∧ cpx = cp2 := (by cases hv2; exact ⟨rfl, rfl⟩); clear hv2; have hfz := hfz2 (k * 4); obtain ⟨w6, hw6⟩ : ∃ w6, w5.setCell ⟨g, k * 4, none⟩ (.string (bs t)) = w6 := ⟨_, rfl⟩; obtain ⟨F, hx13, hx14⟩ := XOk.calls (show XOk w6 (.slice (some ⟨g, 0, none⟩) L.length cpx) from (by rw [← hw6]; exact own_xok (m := 0) (x' := { x with cmd := t }) ho5 HX.out (by decide) rfl HDR.out.sm ⟨by show t.length ≤ _; omega, (HDR.out.sm x (List.mem_of_getElem? HX.out)).2⟩ (by omega))); have HX13 := Lib.hid hx13; have HX14 := Lib.hid hx14; clear hx13 hx14; have HKC := Lib.hid (show Kp [T] W w6 from (by rw [← hw6]; exact (HK4.out.trans hk).setCell (.inr (show W.heap.size ≤ g from (by omega))) _)); have HKX := Lib.hid (Kp.refl [] w6); clear hk ho5 hfz2)
      | (go_at_call 12; refine Calls.mono (by with_reducible exact HOB.out) ?_; rintro e w5 ⟨t, htl, rfl, _, hk⟩; have ho5 := (HO4.out.kpt hk (by omega)); obtain ⟨g2, cp2, hv2, hBg2, hgz2, hfz2, e0, e1, e2, e3⟩ := own_cells ho5 HX.out; obtain ⟨rfl, rfl⟩ : g = g2 ∧ cpx = cp2 := (by cases hv2; exact ⟨rfl, rfl⟩); clear hv2; have hfz := hfz2 (k * 4 + 1); obtain ⟨w6, hw6⟩ : ∃ w6, w5.setCell ⟨g, k * 4 + 1, none⟩ (.string (bs t)) = w6 := ⟨_, rfl⟩; obtain ⟨F, hx13, hx14⟩ := XOk.calls (show XOk w6 (.slice (some ⟨g, 0, none⟩) L.length cpx) from (by rw [← hw6]; exact own_xok (m := 1) (x' := { x with out := t }) ho5 HX.out (by decide) rfl HDR.out.sm ⟨(HDR.out.sm x (List.mem_of_getElem? HX.out)).1, by show t.length ≤ _; omega⟩ (by omega))); have HX13 := Lib.hid hx13; have HX14 := Lib.hid hx14; clear hx13 hx14; have HKC := Lib.hid (show Kp [T] W w6 from (by rw [← hw6]; exact (HK4.out.trans hk).setCell (.inr (show W.heap.size ≤ g from (by omega))) _)); have HKX := Lib.hid (Kp.refl [] w6); clear hk ho5 hfz2)
      | (go_at_call 11; refine Calls.mono (by with_reducible exact HNT.out) ?_; rintro e w5 ⟨q, hq4, rfl, _, hk⟩; obtain ⟨z, hz⟩ : ∃ z : Int, [(-1 : Int), 0, 1000, 1001][q]? = some z := ⟨_, List.getElem?_eq_getElem (show q < [(-1 : Int), 0, 1000, 1001].length from hq4)⟩; have hqz : (q : Int) < 4 := (by omega); have hcz : w5.cell? ⟨N4, q, none⟩ = some (.int .i64 z) := (by rw [cell_of_row _ _ _ _ _ _ ((hk.block N4 (block_lt HB4B.out) (by simp; omega)).trans HB4B.out)]; exact four_at hz); clear hz; have ho5 := ((HO4.out.kp0 HK4B.out).kpt hk (by omega)); obtain ⟨g2, cp2, hv2, hBg2, hgz2, hfz2, e0, e1, e2, e3⟩ := own_cells ho5 HX.out; obtain ⟨rfl, rfl⟩ : g = g2 ∧ cpx = cp2 := (by cases hv2; exact ⟨rfl, rfl⟩); clear hv2; have hfz := hfz2 (k * 4 + 3); obtain ⟨w6, hw6⟩ : ∃ w6, w5.setCell ⟨g, k * 4 + 3, none⟩ (.int .i64 z) = w6 := ⟨_, rfl⟩; obtain ⟨F, hx13, hx14⟩ := XOk.calls (show XOk w6 (.slice (some ⟨g, 0, none⟩) L.length cpx) from (by rw [← hw6]; exact own_xok (m := 3) (x' := { x with ticks := z }) ho5 HX.out (by decide) rfl HDR.out.sm (HDR.out.sm x (List.mem_of_getElem? HX.out)) (by omega))); have HX13 := Lib.hid hx13; have HX14 := Lib.hid hx14; clear hx13 hx14; have HKC := Lib.hid (show Kp [T] W w6 from (by rw [← hw6]; exact (HK4.out.trans ((HK4B.out.mono (by simp)).trans hk)).setCell (.inr (show W.heap.size ≤ g from (by omega))) _)); have HKX := Lib.hid (Kp.refl [] w6); clear hk ho5 hfz2))
    any_goals (go_ret; exact ⟨rfl, HKE.out.below (Nat.le_refl _) (by simp; omega)⟩)
    go_loopg [8] (65 - L.length) (fun gg s8 wx => ∃ (l' : List Hp) (kk : Nat), hpT.Own wx W1.heap.size s8 l' ∧ 0 < l'.length ∧ (∀ y ∈ l', SmH y) ∧ l'.length + gg = 65 ∧ Tp wx T kk ∧ kk ≤ 100 + l'.length ∧ Kp [T] W wx)
    case atStart => exact ⟨L, 0 + 7 + 1 + 1, HO4.out, hL0, HDR.out.sm, by omega, HT4.out, by omega, HK4.out⟩
    case round =>
      obtain ⟨l', kk, hown, hpos, hsm, hlen, htp, hkk, hkp⟩ := hrel
      obtain ⟨x0, hx0⟩ : ∃ x0, l'[0]? = some x0 := ⟨_, List.getElem?_eq_getElem hpos⟩
      obtain ⟨g1, cp1, rfl, hBg1, hgz1, _, _, _, _, _⟩ := own_cells hown hx0
      have HN2 := Lib.hid (show Calls Tryd.prog 11 #[.pointer (some ⟨T, 0, none⟩), .int .i64 2] wr fun e w' => ∃ r : Nat, r < 2 ∧ e = .returned (.int .i64 r) ∧ Tp w' T (kk + 1) ∧ Kp [T] wr w' from next_kp 2 (by decide) (by decide) (by omega) htp)
      have HOWN := Lib.hid hown
      have HSM := Lib.hid hsm
      have HX0 := Lib.hid hx0
      have HKP := Lib.hid hkp
      have HLEN := Lib.hid hlen
      have HKK := Lib.hid hkk
      have hl6 : l'.length ≤ 1000000 := by omega
      have HPOS := Lib.hid hpos
      clear hown hsm hx0 hkp htp hkk hpos HX13 HX14 HKX HKC
      cases gk with
      | zero =>
        have hz65 : l'.length = 65 := by omega
        have HZ := Lib.hid hz65
        clear hz65 hlen
        go_wp2_with (first
          | (go_at_call 9; refine Calls.mono (by with_reducible exact HKN.out _ HKC.out) ?_; rintro e wn ⟨rfl, hk⟩; have HKE := Lib.hid (HKC.out.trans (hk.mono (by simp))); clear hk)
          | (go_at_call 13; refine Calls.mono (by with_reducible exact HR13.out _ HKC.out) ?_; rintro e wn ⟨rfl, hk⟩; have HKC := Lib.hid (HKC.out.trans (hk.mono (by simp))); have HKX := Lib.hid (HKX.out.trans hk); clear hk)
          | (go_at_call 14; refine Calls.mono (by with_reducible exact HR14.out _ HKC.out) ?_; rintro e wn ⟨rfl, hk⟩; have HKC := Lib.hid (HKC.out.trans (hk.mono (by simp))); have HKX := Lib.hid (HKX.out.trans hk); clear hk)
          | (go_at_call 13; refine Calls.mono (by with_reducible exact HX13.out _ HKX.out _) ?_; rintro e wn ⟨rfl, hk⟩; have HKC := Lib.hid (HKC.out.trans (hk.mono (by simp))); have HKX := Lib.hid (HKX.out.trans hk); clear hk)
          | (go_at_call 14; refine Calls.mono (by with_reducible exact HX14.out _ HKX.out _) ?_; rintro e wn ⟨rfl, hk⟩; have HKC := Lib.hid (HKC.out.trans (hk.mono (by simp))); have HKX := Lib.hid (HKX.out.trans hk); clear hk)
          | (go_at_call 11; refine Calls.mono (by with_reducible exact HN2.out) ?_; rintro e w5 ⟨q, hq2, rfl, ht, hk⟩; have hwq : IntKind.i64.wrap (64 + (q : Int)) = 64 + (q : Int) := (by rw [IntKind.wrap_i64]; omega); have hzq : ¬ (l'.length : Int) < 64 + (q : Int) := (by have := HZ.out; omega); obtain ⟨F, hx13, hx14⟩ := XOk.calls (⟨l', (HOWN.out.kpt hk (by omega)).has, hl6, HSM.out⟩); have HX13 := Lib.hid hx13; have HX14 := Lib.hid hx14; clear hx13 hx14; have HKC := Lib.hid (HKP.out.trans hk); have HKX := Lib.hid (Kp.refl [] w5); clear ht hk))
        go_ret
        exact ⟨rfl, HKE.out.below (Nat.le_refl _) (by simp; omega)⟩
      | succ gg =>
        clear hlen
        go_wp2_with (first
          | (go_at_call 9; refine Calls.mono (by with_reducible exact HKN.out _ HKC.out) ?_; rintro e wn ⟨rfl, hk⟩; have HKE := Lib.hid (HKC.out.trans (hk.mono (by simp))); clear hk)
          | (go_at_call 13; refine Calls.mono (by with_reducible exact HR13.out _ HKC.out) ?_; rintro e wn ⟨rfl, hk⟩; have HKC := Lib.hid (HKC.out.trans (hk.mono (by simp))); have HKX := Lib.hid (HKX.out.trans hk); clear hk)
          | (go_at_call 14; refine Calls.mono (by with_reducible exact HR14.out _ HKC.out) ?_; rintro e wn ⟨rfl, hk⟩; have HKC := Lib.hid (HKC.out.trans (hk.mono (by simp))); have HKX := Lib.hid (HKX.out.trans hk); clear hk)
          | (go_at_call 13; refine Calls.mono (by with_reducible exact HX13.out _ HKX.out _) ?_; rintro e wn ⟨rfl, hk⟩; have HKC := Lib.hid (HKC.out.trans (hk.mono (by simp))); have HKX := Lib.hid (HKX.out.trans hk); clear hk)
          | (go_at_call 14; refine Calls.mono (by with_reducible exact HX14.out _ HKX.out _) ?_; rintro e wn ⟨rfl, hk⟩; have HKC := Lib.hid (HKC.out.trans (hk.mono (by simp))); have HKX := Lib.hid (HKX.out.trans hk); clear hk)
          | (go_at_call 11; refine Calls.mono (by with_reducible exact HN2.out) ?_; rintro e w5 ⟨q, hq2, rfl, ht, hk⟩; have hwq : IntKind.i64.wrap (64 + (q : Int)) = 64 + (q : Int) := (by rw [IntKind.wrap_i64]; omega); obtain ⟨F, hx13, hx14⟩ := XOk.calls (⟨l', (HOWN.out.kpt hk (by omega)).has, hl6, HSM.out⟩); have HX13 := Lib.hid hx13; have HX14 := Lib.hid hx14; clear hx13 hx14; have HKC := Lib.hid (HKP.out.trans hk); have HKX := Lib.hid (Kp.refl [] w5); have ho5 := HOWN.out.kpt hk (by omega); have HO5 := Lib.hid ho5; have HT5 := Lib.hid ht; have HK5 := Lib.hid (HKP.out.trans hk); obtain ⟨c0, c1, c2, c3⟩ := first_cells ho5 HX0.out; obtain ⟨w6, hw6⟩ : ∃ w6, w5.alloc (.cells #[.string (bs x0.cmd), .string (bs x0.out), .bool x0.fails, .int .i64 x0.ticks] 33) = w6 := ⟨_, rfl⟩; obtain ⟨EE, hE⟩ : ∃ E, w5.heap.size = E := ⟨_, rfl⟩; have HE := Lib.hid (show w6.rangeAt EE 0 (hpT.cf x0) from fun m u hu => (by rw [← hw6, ← hE, cell_of_row _ _ _ _ _ _ (heap_alloc_last w5 _), Nat.zero_add]; simpa [hpT, hpC] using hu)); have HK6 := Lib.hid (show Kp [] w5 w6 from (by rw [← hw6]; exact (Kp.refl [] w5).alloc _)); have hq5 : (l'.length : Int) < 64 + (q : Int) ∨ ¬ (l'.length : Int) < 64 + (q : Int) := (by omega); clear ht hk ho5 hq2; rcases hq5 with hzq | hzq)
          | (at_builtin; refine wpList_append_r (r := hpT) rfl _ _ rfl W1.heap.size _ l' rfl (HO5.out.kp0 HK6.out) EE 1 x0 rfl HE.out hl6 (by have h1 := HK6.out.size; have h2 := HK5.out.size; have h3 := (HO5.out.ge g1 rfl); omega) ?_; intro v1 w7 hown1 hg1; have HOWN1 := Lib.hid hown1; have HT7 := Lib.hid ((HT5.out.kp HK6.out (by simp)).own (HO5.out.kp0 HK6.out) hT1 hg1); have HK7 := Lib.hid (kp_ownS (HK5.out.trans (HK6.out.mono (by simp))) (HO5.out.kp0 HK6.out) (by omega) hg1); clear hown1 hg1))
        any_goals (go_ret; exact ⟨rfl, HKE.out.below (Nat.le_refl _) (by simp; omega)⟩)
        go_roundg gg
        case measure => omega
        case rel => exact ⟨l' ++ [x0], kk + 1, HOWN1.out, by rw [List.length_append, List.length_singleton]; omega, fun y hy => by rcases List.mem_append.1 hy with h | h; exact HSM.out y h; rw [List.mem_singleton.1 h]; exact HSM.out x0 (List.mem_of_getElem? HX0.out), by rw [List.length_append, List.length_singleton]; have := HLEN.out; omega, HT7.out, by rw [List.length_append, List.length_singleton]; have := HKK.out; omega, HK7.out⟩
  · have hl' : (80 : Int) < (lr.length : Int) := by omega
    have HKN := Lib.hid (known_any hmx)
    clear hm hmx hg hraw hsr hl
    go_enter Tryd.func3, Tryd.ntmps3
    go_wp2_with (go_at_call 9; refine Calls.mono (by with_reducible exact HKN.out) ?_; rintro e w4 ⟨rfl, hk⟩; have HK4 := Lib.hid hk; clear hk)
    go_ret
    exact ⟨rfl, HK4.out.below (Nat.le_refl _) (by simp)⟩
end Go.Proofs.YteiphphihclnfaaDoor
