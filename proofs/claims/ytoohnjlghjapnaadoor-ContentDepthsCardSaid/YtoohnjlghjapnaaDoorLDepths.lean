/- The walk of ContentDepths. -/
import Derived.Test.YtoohnjlghjapnaaDoorAI
import Derived.Test.YtoohnjlghjapnaaDoorLNests
import Derived.Test.YtoohnjlghjapnaaDoorY
namespace Go.Proofs.YtoohnjlghjapnaaDoor
open Go.RowKit

theorem ROwn.has {w : World} {B : Nat} {Q : Nat → Prop} {v : Value} {L : List (Con × Value)} (h : ROwn w B Q v L) : CHas (fun _ => True) w v (L.map Prod.fst) := by
  rcases h.1.2 with ⟨hv, hn⟩ | ⟨g, cap, cur, hv, hB, hh, hc, hm, hz, ht⟩
  · have : L = [] := List.length_eq_zero_iff.1 hn
    subst this
    exact .inl ⟨rfl, none, 0, hv⟩
  · refine .inr ⟨g, 0, cap, by rw [hv, List.length_map], by rw [List.length_map]; exact hc, hm, trivial, block_lt hh, CRow.of fun j c hj => ?_⟩
    rw [List.getElem?_map] at hj
    obtain ⟨p, hp, rfl⟩ := Option.map_eq_some_iff.1 hj
    have hpm := List.mem_of_getElem? hp
    refine ⟨p.2, fun m u hu => ?_, (h.2 p hpm).1, (h.2 p hpm).2.mono fun _ _ _ => trivial⟩
    have hjl := (List.getElem?_eq_some_iff.1 hp).1
    have hml : m < 7 := (List.getElem?_eq_some_iff.1 hu).1
    have hg := rowC_get L j p m hp hml
    rw [← ht, List.getElem?_take, if_pos (by omega)] at hg
    rw [cell_of_row _ _ _ _ _ _ hh, Nat.zero_add, ← Array.getElem?_toList, hg, hu]
theorem refWalk_has {Q : Nat → Prop} (c : Con) (a : Option Addr) (n : Nat) (W : World) (hv : valN 6 c = true) (hh : CHas Q W (.slice a c.inner.length n) c.inner) :
    Calls Tryd.prog 19 #[.agg #[.int .i64 c.kind, .string (bs c.id), .string (bs c.lab), .int .i64 c.slot, .int .i64 c.tot, .int .i64 c.lst, .slice a c.inner.length n]] W fun r w' => ∃ v, r = .returned v ∧ CHas (fun _ => True) w' v c.walk ∧ Kp [] W w' :=
  (refWalk_any 6 (Nat.le_refl _) (fun b => b < W.heap.size) c a n W hv (hh.mono fun _ hb _ => hb) fun _ hb => hb).mono fun r w' ⟨v, L, h1, h2, h3, h4⟩ => ⟨v, h1, by rw [← h2]; exact h3.has, h4⟩

set_option maxHeartbeats 4000000 in
set_option maxRecDepth 100000 in
/-- Walk. -/
theorem walk_any {Q : Nat → Prop} (c : Con) (a : Option Addr) (n : Nat) (W : World) (hv : valN 6 c = true) (hh : CHas Q W (.slice a c.inner.length n) c.inner) :
    Calls Tryd.prog 18 #[.agg #[.int .i64 c.kind, .string (bs c.id), .string (bs c.lab), .int .i64 c.slot, .int .i64 c.tot, .int .i64 c.lst, .slice a c.inner.length n]] W fun r w' => ∃ v, r = .returned v ∧ CHas (fun _ => True) w' v c.walk ∧ Kp [] W w' := by
  obtain ⟨w1, hw1⟩ : ∃ w1, W.alloc (.cells #[.int .i64 c.kind, .string (bs c.id), .string (bs c.lab), .int .i64 c.slot, .int .i64 c.tot, .int .i64 c.lst, .slice a c.inner.length n] 24) = w1 := ⟨_, rfl⟩
  have hk1 : Kp [] W w1 := by rw [← hw1]; exact (Kp.refl [] W).alloc _
  have hb1 : BoxV W.heap.size (.int .i64 c.kind) (.string (bs c.id)) (.string (bs c.lab)) (.int .i64 c.slot) (.int .i64 c.tot) (.int .i64 c.lst) (.slice a c.inner.length n) w1 := by rw [← hw1]; exact al_new _ _
  obtain ⟨A, hA⟩ : ∃ A, W.heap.size = A := ⟨_, rfl⟩
  rw [hA] at hb1
  have HC := Lib.hid (check_any c a n w1 (tx_of_val hv) (kp_has hh hk1))
  rw [hv] at HC
  have hf : formE true = 0 := rfl
  have B1 := Lib.hid hb1
  have K1 := Lib.hid hk1
  have HH := Lib.hid (kp_has (hh.mono (Q' := fun b => b < W.heap.size) fun b hb _ => hb) hk1)
  have HV := Lib.hid hv
  obtain ⟨c0, c1, c2, c3, c4, c5, c6⟩ := hb1.cells
  clear hk1 hb1 hh hv
  go_enter Tryd.func18, Tryd.ntmps18
  go_wp2_with fail
  refine HC.out.mono ?_
  rintro r w2 ⟨rfl, hk2⟩
  clear c0 c1 c2 c3 c4 c5 c6
  have hk12 := K1.out.trans hk2
  have HD := Lib.hid (all_any 6 (Nat.le_refl _) (fun b => b < W.heap.size) c a n w2.heap.size (.slice none 0 0) [] w2 HV.out (kp_has HH.out hk2) (fun b hb => by have := hk12.size; omega) (Nat.le_refl _) ⟨World.ownsRow_nil _ _ _ _, fun p hp => by simp at hp⟩ (by have := wlen6 6 (Nat.le_refl _); simp; omega))
  have K2 := Lib.hid hk12
  obtain ⟨c0, c1, c2, c3, c4, c5, c6⟩ := (B1.out.kp hk2 (by simp)).cells
  clear hk2 hk12
  go_wp2_with fail
  refine HD.out.mono ?_
  rintro r w3 ⟨v, M, rfl, hM, hO, hb⟩
  have HM := Lib.hid (show CHas (fun _ => True) w3 v c.walk by rw [← hM]; exact (LOwn.has hO).mono fun _ _ _ => trivial)
  have K3 := Lib.hid (K2.out.trans (Kp.of_below hb))
  clear hM hO hb
  go_wp2
  go_ret
  exact ⟨_, rfl, HM.out, K3.out⟩

theorem lastQ {w : World} {p0 p1 p2 p3 p4 p5 p6 q0 q1 q2 q3 q4 q5 q6 r0 r1 r2 r3 r4 r5 r6 : Prop} {W : World} (h : p0 ∧ p1 ∧ p2 ∧ p3 ∧ p4 ∧ p5 ∧ p6 ∧ q0 ∧ q1 ∧ q2 ∧ q3 ∧ q4 ∧ q5 ∧ q6 ∧ r0 ∧ r1 ∧ r2 ∧ r3 ∧ r4 ∧ r5 ∧ r6 ∧ Kp [] w W) : Kp [] w W := h.2.2.2.2.2.2.2.2.2.2.2.2.2.2.2.2.2.2.2.2.2
theorem lastP {w : World} {p0 p1 p2 p3 p4 p5 p6 : Prop} {W : World} (h : p0 ∧ p1 ∧ p2 ∧ p3 ∧ p4 ∧ p5 ∧ p6 ∧ Kp [] w W) : Kp [] w W := h.2.2.2.2.2.2.2
set_option maxHeartbeats 8000000 in
set_option maxRecDepth 100000 in
theorem contentDepths_walk (a : Option Addr) (n cc : Nat) (w : World) (hi : Ints w w.heap.size (.slice a n cc)) (hE : Env w) :
    Calls Tryd.prog 5 #[.slice a n cc] w fun e w' => e = .returned (.bool true) ∧ Below w.heap.size w w' := by
  have ht0 := tape_new hi
  have hal : Kp [] w (w.alloc (.cells #[.slice a n cc, .int .i64 0] 28)) := (Kp.refl [] w).alloc _
  obtain ⟨B, hB⟩ : ∃ B, w.heap.size = B := ⟨_, rfl⟩
  rw [hB] at ht0
  have HG := Lib.hid (gen_ok 5 (by omega) B 0 _ ht0 (by decide))
  have E1 := Lib.hid (hE.kp hal (by simp))
  have K1 := Lib.hid hal
  have HB := Lib.hid hB
  have H6 := Lib.hid (show 6 ≤ B by rw [← hB]; exact hE.size)
  clear ht0 hal hi hE
  go_enter Tryd.func5, Tryd.ntmps5
  go_wp2_with fail
  refine HG.out.mono ?_
  rintro e w2 ⟨c, v, k', rfl, hval, hv, hT, hk', hk⟩
  have K2 := Lib.hid (K1.out.up hk (by simp; have := HB.out; omega))
  have E2 := Lib.hid (E1.out.kp hk (by simp; exact H6.out))
  obtain ⟨va, vn, rfl, -⟩ := hv.form
  obtain ⟨P, hP⟩ : ∃ P, w2.heap.size = P := ⟨_, rfl⟩
  obtain ⟨w3, hw3⟩ : ∃ w3, w2.alloc (.cells #[.int .i64 c.kind, .string (bs c.id), .string (bs c.lab), .int .i64 c.slot, .int .i64 c.tot, .int .i64 c.lst, .slice va c.inner.length vn] 24) = w3 := ⟨_, rfl⟩
  have hal : Kp [] w2 w3 := by rw [← hw3]; exact (Kp.refl [] w2).alloc _
  have hbx : BoxV P (.int .i64 c.kind) (.string (bs c.id)) (.string (bs c.lab)) (.int .i64 c.slot) (.int .i64 c.tot) (.int .i64 c.lst) (.slice va c.inner.length vn) w3 := by rw [← hP, ← hw3]; exact al_new _ _
  have hv6 := valN_up 5 6 c hval (by have := valN_dep 5 c hval; omega)
  have B3 := Lib.hid hbx
  have C3 := Lib.hid (kp_has hv hal)
  have K3 := Lib.hid (K2.out.trans hal)
  have E3 := Lib.hid (E2.out.kp hal (by simp))
  have HV := Lib.hid hv6
  have W1 := Lib.hid (walk_any c va vn w3.drew hv6 (kp_has hv (hal.drew 1)))
  have R1 := Lib.hid (refWalk_has c va vn w3.drew hv6 (kp_has hv (hal.drew 1)))
  obtain ⟨c0, c1, c2, c3, c4, c5, c6⟩ := hbx.cells
  clear hal hval hv hT hk hk' hbx hv6
  go_wp2_with fail
  go_region_law (first
    | (go_simp; (with_reducible refine W1.out.mono ?_); rintro e wa ⟨v1, rfl, hv1, hka⟩; have ka := Kp.trans ((Kp.refl [] w3).drew 1) hka; have H1 := Lib.hid hv1; have KA := Lib.hid ka; obtain ⟨a0, a1, a2, a3, a4, a5, a6⟩ := (B3.out.kp ka (by simp)).cells; have R2 := Lib.hid (refWalk_has c va vn wa HV.out (kp_has C3.out ka)); clear hv1 hka ka; dsimp only)
    | (go_simp; (with_reducible refine R2.out.mono ?_); rintro e w4 ⟨v2, rfl, hv2, hkb⟩; have G1 := Lib.hid (kp_has H1.out hkb); have G2 := Lib.hid hv2; have K34 := Lib.hid (KA.out.trans hkb); obtain ⟨b0, b1, b2, b3, b4, b5, b6⟩ := (B3.out.kp K34.out (by simp)).cells; clear hv2 hkb; dsimp only)
    | (go_simp; (with_reducible refine R1.out.mono ?_); rintro e wa ⟨v2, rfl, hv2, hka⟩; have ka := Kp.trans ((Kp.refl [] w3).drew 1) hka; have H2 := Lib.hid hv2; have KA := Lib.hid ka; obtain ⟨a0, a1, a2, a3, a4, a5, a6⟩ := (B3.out.kp ka (by simp)).cells; have W2 := Lib.hid (walk_any c va vn wa HV.out (kp_has C3.out ka)); clear hv2 hka ka; dsimp only)
    | (go_simp; (with_reducible refine W2.out.mono ?_); rintro e w4 ⟨v1, rfl, hv1, hkb⟩; have G1 := Lib.hid hv1; have G2 := Lib.hid (kp_has H2.out hkb); have K34 := Lib.hid (KA.out.trans hkb); obtain ⟨b0, b1, b2, b3, b4, b5, b6⟩ := (B3.out.kp K34.out (by simp)).cells; clear hv1 hkb; dsimp only))
  all_goals
    have hwne : c.walk ≠ [] := fun e => by have := walk_pos c; rw [e] at this; simp at this
    obtain ⟨x1, n1, e1, hr1⟩ := G1.out.form
    obtain ⟨r1, o1, rfl, -, hm1, -, hl1, hc1⟩ := hr1 hwne
    subst e1
    obtain ⟨x2, n2, e2, hr2⟩ := G2.out.form
    obtain ⟨r2, o2, rfl, -, -, -, hl2, hc2⟩ := hr2 hwne
    subst e2
    have Q1 := Lib.hid hc1
    have Q2 := Lib.hid hc2
    have hwm : c.walk.length ≤ 9223372036854775807 := by have h := walk_len 6 c HV.out; have := wlen6 6 (Nat.le_refl _); omega
    have K4 := Lib.hid (K3.out.trans K34.out)
    have E4 := Lib.hid (E3.out.kp K34.out (by simp))
    have B4 := Lib.hid (B3.out.kp K34.out (by simp))
    have C4 := Lib.hid (kp_has C3.out K34.out)
    have hst3 : ∀ W, Kp [] w4 W → W.cell? ⟨P, 0, none⟩ = some (.int .i64 c.kind) ∧ W.cell? ⟨P, 1, none⟩ = some (.string (bs c.id)) ∧ W.cell? ⟨P, 2, none⟩ = some (.string (bs c.lab)) ∧ W.cell? ⟨P, 3, none⟩ = some (.int .i64 c.slot) ∧ W.cell? ⟨P, 4, none⟩ = some (.int .i64 c.tot) ∧ W.cell? ⟨P, 5, none⟩ = some (.int .i64 c.lst) ∧ W.cell? ⟨P, 6, none⟩ = some (.slice va c.inner.length vn) ∧ Kp [] w4 W := fun W hW => ⟨kp_cell hW b0, kp_cell hW b1, kp_cell hW b2, kp_cell hW b3, kp_cell hW b4, kp_cell hW b5, kp_cell hW b6, hW⟩
    have HST3 := Lib.hid (hst3 w4.drew ((Kp.refl [] w4).drew 1))
    have HD3 := Lib.hid (fun W (hS : W.cell? ⟨P, 0, none⟩ = some (.int .i64 c.kind) ∧ W.cell? ⟨P, 1, none⟩ = some (.string (bs c.id)) ∧ W.cell? ⟨P, 2, none⟩ = some (.string (bs c.lab)) ∧ W.cell? ⟨P, 3, none⟩ = some (.int .i64 c.slot) ∧ W.cell? ⟨P, 4, none⟩ = some (.int .i64 c.tot) ∧ W.cell? ⟨P, 5, none⟩ = some (.int .i64 c.lst) ∧ W.cell? ⟨P, 6, none⟩ = some (.slice va c.inner.length vn) ∧ Kp [] w4 W) => (depthOf_any c va vn W (tx_of_val HV.out) HV.out (kp_has C4.out (lastP hS))).mono fun r w' h => (⟨h.1, hst3 w' ((lastP hS).trans h.2)⟩ : r = _ ∧ w'.cell? ⟨P, 0, none⟩ = some (.int .i64 c.kind) ∧ w'.cell? ⟨P, 1, none⟩ = some (.string (bs c.id)) ∧ w'.cell? ⟨P, 2, none⟩ = some (.string (bs c.lab)) ∧ w'.cell? ⟨P, 3, none⟩ = some (.int .i64 c.slot) ∧ w'.cell? ⟨P, 4, none⟩ = some (.int .i64 c.tot) ∧ w'.cell? ⟨P, 5, none⟩ = some (.int .i64 c.lst) ∧ w'.cell? ⟨P, 6, none⟩ = some (.slice va c.inner.length vn) ∧ Kp [] w4 w'))
    have HR3 := Lib.hid (fun W (hS : W.cell? ⟨P, 0, none⟩ = some (.int .i64 c.kind) ∧ W.cell? ⟨P, 1, none⟩ = some (.string (bs c.id)) ∧ W.cell? ⟨P, 2, none⟩ = some (.string (bs c.lab)) ∧ W.cell? ⟨P, 3, none⟩ = some (.int .i64 c.slot) ∧ W.cell? ⟨P, 4, none⟩ = some (.int .i64 c.tot) ∧ W.cell? ⟨P, 5, none⟩ = some (.int .i64 c.lst) ∧ W.cell? ⟨P, 6, none⟩ = some (.slice va c.inner.length vn) ∧ Kp [] w4 W) => (refDepth_any 6 c va vn W (by omega) HV.out (kp_has C4.out (lastP hS))).mono fun r w' h => (⟨h.1, hst3 w' ((lastP hS).trans h.2)⟩ : r = _ ∧ w'.cell? ⟨P, 0, none⟩ = some (.int .i64 c.kind) ∧ w'.cell? ⟨P, 1, none⟩ = some (.string (bs c.id)) ∧ w'.cell? ⟨P, 2, none⟩ = some (.string (bs c.lab)) ∧ w'.cell? ⟨P, 3, none⟩ = some (.int .i64 c.slot) ∧ w'.cell? ⟨P, 4, none⟩ = some (.int .i64 c.tot) ∧ w'.cell? ⟨P, 5, none⟩ = some (.int .i64 c.lst) ∧ w'.cell? ⟨P, 6, none⟩ = some (.slice va c.inner.length vn) ∧ Kp [] w4 w'))
    clear hst3 hr1 hr2 hc1 hc2 hm1
    go_wp2
    go_region_held3 (fun W => W.cell? ⟨P, 0, none⟩ = some (.int .i64 c.kind) ∧ W.cell? ⟨P, 1, none⟩ = some (.string (bs c.id)) ∧ W.cell? ⟨P, 2, none⟩ = some (.string (bs c.lab)) ∧ W.cell? ⟨P, 3, none⟩ = some (.int .i64 c.slot) ∧ W.cell? ⟨P, 4, none⟩ = some (.int .i64 c.tot) ∧ W.cell? ⟨P, 5, none⟩ = some (.int .i64 c.lst) ∧ W.cell? ⟨P, 6, none⟩ = some (.slice va c.inner.length vn) ∧ Kp [] w4 W) (first | exact HST3.out | assumption) (first
      | (go_at_call 20; refine Calls.mono (by with_reducible exact HD3.out _ (by assumption)) ?_; rintro e W ⟨rfl, hb⟩)
      | (go_at_call 21; refine Calls.mono (by with_reducible exact HR3.out _ (by assumption)) ?_; rintro e W ⟨rfl, hb⟩))
    all_goals
      go_wp2
      clear b0 b1 b2 b3 b4 b5 b6
      go_loopw [6] (fun s6 wx => ∃ i : Nat, i ≤ c.walk.length ∧ s6 = .int .i64 (i : Int) ∧ Kp [] w4 wx) (fun s6 _ => c.walk.length - (intOf s6).toNat)
      case atStart => exact ⟨0, Nat.zero_le _, rfl, lastP (by assumption)⟩
      case round =>
        rename_i wr
        obtain ⟨i, hi, rfl, hkp⟩ := hrel
        have KP := Lib.hid hkp
        clear hkp
        by_cases hlt : i < c.walk.length
        · have hiz : (i : Int) < (c.walk.length : Int) := by omega
          have hwi : IntKind.i64.wrap ((i : Int) + 1) = ((i + 1 : Nat) : Int) := by rw [IntKind.wrap_i64]; omega
          obtain ⟨x, hx⟩ : ∃ x, c.walk[i]? = some x := ⟨_, List.getElem?_eq_getElem hlt⟩
          obtain ⟨y1, hy1, htx, m0, m1, m2, m3, m4, m5, m6⟩ := Q1.out.cells hx
          obtain ⟨xa, xn, rfl, -⟩ := hy1.form
          obtain ⟨y2, hy2, -, q0, q1, q2, q3, q4, q5, q6⟩ := Q2.out.cells hx
          obtain ⟨ya, yn, rfl, -⟩ := hy2.form
          obtain ⟨c0, c1, c2, c3, c4, c5, c6⟩ := (B4.out.kp KP.out (by simp)).cells
          have hvx := (walk_val 6 c x HV.out (List.mem_of_getElem? hx)).1
          have hst8 : ∀ W, Kp [] wr W → W.cell? ⟨r1, o1 + i * 7, none⟩ = some (.int .i64 x.kind) ∧ W.cell? ⟨r1, o1 + i * 7 + 1, none⟩ = some (.string (bs x.id)) ∧ W.cell? ⟨r1, o1 + i * 7 + 2, none⟩ = some (.string (bs x.lab)) ∧ W.cell? ⟨r1, o1 + i * 7 + 3, none⟩ = some (.int .i64 x.slot) ∧ W.cell? ⟨r1, o1 + i * 7 + 4, none⟩ = some (.int .i64 x.tot) ∧ W.cell? ⟨r1, o1 + i * 7 + 5, none⟩ = some (.int .i64 x.lst) ∧ W.cell? ⟨r1, o1 + i * 7 + 6, none⟩ = some (.slice xa x.inner.length xn) ∧ W.cell? ⟨r2, o2 + i * 7, none⟩ = some (.int .i64 x.kind) ∧ W.cell? ⟨r2, o2 + i * 7 + 1, none⟩ = some (.string (bs x.id)) ∧ W.cell? ⟨r2, o2 + i * 7 + 2, none⟩ = some (.string (bs x.lab)) ∧ W.cell? ⟨r2, o2 + i * 7 + 3, none⟩ = some (.int .i64 x.slot) ∧ W.cell? ⟨r2, o2 + i * 7 + 4, none⟩ = some (.int .i64 x.tot) ∧ W.cell? ⟨r2, o2 + i * 7 + 5, none⟩ = some (.int .i64 x.lst) ∧ W.cell? ⟨r2, o2 + i * 7 + 6, none⟩ = some (.slice ya x.inner.length yn) ∧ W.cell? ⟨P, 0, none⟩ = some (.int .i64 c.kind) ∧ W.cell? ⟨P, 1, none⟩ = some (.string (bs c.id)) ∧ W.cell? ⟨P, 2, none⟩ = some (.string (bs c.lab)) ∧ W.cell? ⟨P, 3, none⟩ = some (.int .i64 c.slot) ∧ W.cell? ⟨P, 4, none⟩ = some (.int .i64 c.tot) ∧ W.cell? ⟨P, 5, none⟩ = some (.int .i64 c.lst) ∧ W.cell? ⟨P, 6, none⟩ = some (.slice va c.inner.length vn) ∧ Kp [] wr W := fun W hW => ⟨kp_cell (KP.out.trans hW) m0, kp_cell (KP.out.trans hW) m1, kp_cell (KP.out.trans hW) m2, kp_cell (KP.out.trans hW) m3, kp_cell (KP.out.trans hW) m4, kp_cell (KP.out.trans hW) m5, kp_cell (KP.out.trans hW) m6, kp_cell (KP.out.trans hW) q0, kp_cell (KP.out.trans hW) q1, kp_cell (KP.out.trans hW) q2, kp_cell (KP.out.trans hW) q3, kp_cell (KP.out.trans hW) q4, kp_cell (KP.out.trans hW) q5, kp_cell (KP.out.trans hW) q6, kp_cell hW c0, kp_cell hW c1, kp_cell hW c2, kp_cell hW c3, kp_cell hW c4, kp_cell hW c5, kp_cell hW c6, hW⟩
          have HST8 := Lib.hid (hst8 wr.drew ((Kp.refl [] wr).drew 1))
          have HSM := Lib.hid (fun W (hS : W.cell? ⟨r1, o1 + i * 7, none⟩ = some (.int .i64 x.kind) ∧ W.cell? ⟨r1, o1 + i * 7 + 1, none⟩ = some (.string (bs x.id)) ∧ W.cell? ⟨r1, o1 + i * 7 + 2, none⟩ = some (.string (bs x.lab)) ∧ W.cell? ⟨r1, o1 + i * 7 + 3, none⟩ = some (.int .i64 x.slot) ∧ W.cell? ⟨r1, o1 + i * 7 + 4, none⟩ = some (.int .i64 x.tot) ∧ W.cell? ⟨r1, o1 + i * 7 + 5, none⟩ = some (.int .i64 x.lst) ∧ W.cell? ⟨r1, o1 + i * 7 + 6, none⟩ = some (.slice xa x.inner.length xn) ∧ W.cell? ⟨r2, o2 + i * 7, none⟩ = some (.int .i64 x.kind) ∧ W.cell? ⟨r2, o2 + i * 7 + 1, none⟩ = some (.string (bs x.id)) ∧ W.cell? ⟨r2, o2 + i * 7 + 2, none⟩ = some (.string (bs x.lab)) ∧ W.cell? ⟨r2, o2 + i * 7 + 3, none⟩ = some (.int .i64 x.slot) ∧ W.cell? ⟨r2, o2 + i * 7 + 4, none⟩ = some (.int .i64 x.tot) ∧ W.cell? ⟨r2, o2 + i * 7 + 5, none⟩ = some (.int .i64 x.lst) ∧ W.cell? ⟨r2, o2 + i * 7 + 6, none⟩ = some (.slice ya x.inner.length yn) ∧ W.cell? ⟨P, 0, none⟩ = some (.int .i64 c.kind) ∧ W.cell? ⟨P, 1, none⟩ = some (.string (bs c.id)) ∧ W.cell? ⟨P, 2, none⟩ = some (.string (bs c.lab)) ∧ W.cell? ⟨P, 3, none⟩ = some (.int .i64 c.slot) ∧ W.cell? ⟨P, 4, none⟩ = some (.int .i64 c.tot) ∧ W.cell? ⟨P, 5, none⟩ = some (.int .i64 c.lst) ∧ W.cell? ⟨P, 6, none⟩ = some (.slice va c.inner.length vn) ∧ Kp [] wr W) => (refSame_any x x xa ya xn yn W (kp_has hy1 (KP.out.trans (lastQ hS))) (kp_has hy2 (KP.out.trans (lastQ hS)))).mono fun r w' h => (⟨h.1.trans (by rw [same_self]), hst8 w' ((lastQ hS).trans h.2)⟩ : r = .returned (.bool true) ∧ w'.cell? ⟨r1, o1 + i * 7, none⟩ = some (.int .i64 x.kind) ∧ w'.cell? ⟨r1, o1 + i * 7 + 1, none⟩ = some (.string (bs x.id)) ∧ w'.cell? ⟨r1, o1 + i * 7 + 2, none⟩ = some (.string (bs x.lab)) ∧ w'.cell? ⟨r1, o1 + i * 7 + 3, none⟩ = some (.int .i64 x.slot) ∧ w'.cell? ⟨r1, o1 + i * 7 + 4, none⟩ = some (.int .i64 x.tot) ∧ w'.cell? ⟨r1, o1 + i * 7 + 5, none⟩ = some (.int .i64 x.lst) ∧ w'.cell? ⟨r1, o1 + i * 7 + 6, none⟩ = some (.slice xa x.inner.length xn) ∧ w'.cell? ⟨r2, o2 + i * 7, none⟩ = some (.int .i64 x.kind) ∧ w'.cell? ⟨r2, o2 + i * 7 + 1, none⟩ = some (.string (bs x.id)) ∧ w'.cell? ⟨r2, o2 + i * 7 + 2, none⟩ = some (.string (bs x.lab)) ∧ w'.cell? ⟨r2, o2 + i * 7 + 3, none⟩ = some (.int .i64 x.slot) ∧ w'.cell? ⟨r2, o2 + i * 7 + 4, none⟩ = some (.int .i64 x.tot) ∧ w'.cell? ⟨r2, o2 + i * 7 + 5, none⟩ = some (.int .i64 x.lst) ∧ w'.cell? ⟨r2, o2 + i * 7 + 6, none⟩ = some (.slice ya x.inner.length yn) ∧ w'.cell? ⟨P, 0, none⟩ = some (.int .i64 c.kind) ∧ w'.cell? ⟨P, 1, none⟩ = some (.string (bs c.id)) ∧ w'.cell? ⟨P, 2, none⟩ = some (.string (bs c.lab)) ∧ w'.cell? ⟨P, 3, none⟩ = some (.int .i64 c.slot) ∧ w'.cell? ⟨P, 4, none⟩ = some (.int .i64 c.tot) ∧ w'.cell? ⟨P, 5, none⟩ = some (.int .i64 c.lst) ∧ w'.cell? ⟨P, 6, none⟩ = some (.slice va c.inner.length vn) ∧ Kp [] wr w'))
          have HDX := Lib.hid (fun W (hS : W.cell? ⟨r1, o1 + i * 7, none⟩ = some (.int .i64 x.kind) ∧ W.cell? ⟨r1, o1 + i * 7 + 1, none⟩ = some (.string (bs x.id)) ∧ W.cell? ⟨r1, o1 + i * 7 + 2, none⟩ = some (.string (bs x.lab)) ∧ W.cell? ⟨r1, o1 + i * 7 + 3, none⟩ = some (.int .i64 x.slot) ∧ W.cell? ⟨r1, o1 + i * 7 + 4, none⟩ = some (.int .i64 x.tot) ∧ W.cell? ⟨r1, o1 + i * 7 + 5, none⟩ = some (.int .i64 x.lst) ∧ W.cell? ⟨r1, o1 + i * 7 + 6, none⟩ = some (.slice xa x.inner.length xn) ∧ W.cell? ⟨r2, o2 + i * 7, none⟩ = some (.int .i64 x.kind) ∧ W.cell? ⟨r2, o2 + i * 7 + 1, none⟩ = some (.string (bs x.id)) ∧ W.cell? ⟨r2, o2 + i * 7 + 2, none⟩ = some (.string (bs x.lab)) ∧ W.cell? ⟨r2, o2 + i * 7 + 3, none⟩ = some (.int .i64 x.slot) ∧ W.cell? ⟨r2, o2 + i * 7 + 4, none⟩ = some (.int .i64 x.tot) ∧ W.cell? ⟨r2, o2 + i * 7 + 5, none⟩ = some (.int .i64 x.lst) ∧ W.cell? ⟨r2, o2 + i * 7 + 6, none⟩ = some (.slice ya x.inner.length yn) ∧ W.cell? ⟨P, 0, none⟩ = some (.int .i64 c.kind) ∧ W.cell? ⟨P, 1, none⟩ = some (.string (bs c.id)) ∧ W.cell? ⟨P, 2, none⟩ = some (.string (bs c.lab)) ∧ W.cell? ⟨P, 3, none⟩ = some (.int .i64 c.slot) ∧ W.cell? ⟨P, 4, none⟩ = some (.int .i64 c.tot) ∧ W.cell? ⟨P, 5, none⟩ = some (.int .i64 c.lst) ∧ W.cell? ⟨P, 6, none⟩ = some (.slice va c.inner.length vn) ∧ Kp [] wr W) => (depthOf_any x xa xn W htx hvx (kp_has hy1 (KP.out.trans (lastQ hS)))).mono fun r w' h => (⟨h.1, hst8 w' ((lastQ hS).trans h.2)⟩ : r = _ ∧ w'.cell? ⟨r1, o1 + i * 7, none⟩ = some (.int .i64 x.kind) ∧ w'.cell? ⟨r1, o1 + i * 7 + 1, none⟩ = some (.string (bs x.id)) ∧ w'.cell? ⟨r1, o1 + i * 7 + 2, none⟩ = some (.string (bs x.lab)) ∧ w'.cell? ⟨r1, o1 + i * 7 + 3, none⟩ = some (.int .i64 x.slot) ∧ w'.cell? ⟨r1, o1 + i * 7 + 4, none⟩ = some (.int .i64 x.tot) ∧ w'.cell? ⟨r1, o1 + i * 7 + 5, none⟩ = some (.int .i64 x.lst) ∧ w'.cell? ⟨r1, o1 + i * 7 + 6, none⟩ = some (.slice xa x.inner.length xn) ∧ w'.cell? ⟨r2, o2 + i * 7, none⟩ = some (.int .i64 x.kind) ∧ w'.cell? ⟨r2, o2 + i * 7 + 1, none⟩ = some (.string (bs x.id)) ∧ w'.cell? ⟨r2, o2 + i * 7 + 2, none⟩ = some (.string (bs x.lab)) ∧ w'.cell? ⟨r2, o2 + i * 7 + 3, none⟩ = some (.int .i64 x.slot) ∧ w'.cell? ⟨r2, o2 + i * 7 + 4, none⟩ = some (.int .i64 x.tot) ∧ w'.cell? ⟨r2, o2 + i * 7 + 5, none⟩ = some (.int .i64 x.lst) ∧ w'.cell? ⟨r2, o2 + i * 7 + 6, none⟩ = some (.slice ya x.inner.length yn) ∧ w'.cell? ⟨P, 0, none⟩ = some (.int .i64 c.kind) ∧ w'.cell? ⟨P, 1, none⟩ = some (.string (bs c.id)) ∧ w'.cell? ⟨P, 2, none⟩ = some (.string (bs c.lab)) ∧ w'.cell? ⟨P, 3, none⟩ = some (.int .i64 c.slot) ∧ w'.cell? ⟨P, 4, none⟩ = some (.int .i64 c.tot) ∧ w'.cell? ⟨P, 5, none⟩ = some (.int .i64 c.lst) ∧ w'.cell? ⟨P, 6, none⟩ = some (.slice va c.inner.length vn) ∧ Kp [] wr w'))
          have HDC := Lib.hid (fun W (hS : W.cell? ⟨r1, o1 + i * 7, none⟩ = some (.int .i64 x.kind) ∧ W.cell? ⟨r1, o1 + i * 7 + 1, none⟩ = some (.string (bs x.id)) ∧ W.cell? ⟨r1, o1 + i * 7 + 2, none⟩ = some (.string (bs x.lab)) ∧ W.cell? ⟨r1, o1 + i * 7 + 3, none⟩ = some (.int .i64 x.slot) ∧ W.cell? ⟨r1, o1 + i * 7 + 4, none⟩ = some (.int .i64 x.tot) ∧ W.cell? ⟨r1, o1 + i * 7 + 5, none⟩ = some (.int .i64 x.lst) ∧ W.cell? ⟨r1, o1 + i * 7 + 6, none⟩ = some (.slice xa x.inner.length xn) ∧ W.cell? ⟨r2, o2 + i * 7, none⟩ = some (.int .i64 x.kind) ∧ W.cell? ⟨r2, o2 + i * 7 + 1, none⟩ = some (.string (bs x.id)) ∧ W.cell? ⟨r2, o2 + i * 7 + 2, none⟩ = some (.string (bs x.lab)) ∧ W.cell? ⟨r2, o2 + i * 7 + 3, none⟩ = some (.int .i64 x.slot) ∧ W.cell? ⟨r2, o2 + i * 7 + 4, none⟩ = some (.int .i64 x.tot) ∧ W.cell? ⟨r2, o2 + i * 7 + 5, none⟩ = some (.int .i64 x.lst) ∧ W.cell? ⟨r2, o2 + i * 7 + 6, none⟩ = some (.slice ya x.inner.length yn) ∧ W.cell? ⟨P, 0, none⟩ = some (.int .i64 c.kind) ∧ W.cell? ⟨P, 1, none⟩ = some (.string (bs c.id)) ∧ W.cell? ⟨P, 2, none⟩ = some (.string (bs c.lab)) ∧ W.cell? ⟨P, 3, none⟩ = some (.int .i64 c.slot) ∧ W.cell? ⟨P, 4, none⟩ = some (.int .i64 c.tot) ∧ W.cell? ⟨P, 5, none⟩ = some (.int .i64 c.lst) ∧ W.cell? ⟨P, 6, none⟩ = some (.slice va c.inner.length vn) ∧ Kp [] wr W) => (depthOf_any c va vn W (tx_of_val HV.out) HV.out (kp_has C4.out (KP.out.trans (lastQ hS)))).mono fun r w' h => (⟨h.1, hst8 w' ((lastQ hS).trans h.2)⟩ : r = _ ∧ w'.cell? ⟨r1, o1 + i * 7, none⟩ = some (.int .i64 x.kind) ∧ w'.cell? ⟨r1, o1 + i * 7 + 1, none⟩ = some (.string (bs x.id)) ∧ w'.cell? ⟨r1, o1 + i * 7 + 2, none⟩ = some (.string (bs x.lab)) ∧ w'.cell? ⟨r1, o1 + i * 7 + 3, none⟩ = some (.int .i64 x.slot) ∧ w'.cell? ⟨r1, o1 + i * 7 + 4, none⟩ = some (.int .i64 x.tot) ∧ w'.cell? ⟨r1, o1 + i * 7 + 5, none⟩ = some (.int .i64 x.lst) ∧ w'.cell? ⟨r1, o1 + i * 7 + 6, none⟩ = some (.slice xa x.inner.length xn) ∧ w'.cell? ⟨r2, o2 + i * 7, none⟩ = some (.int .i64 x.kind) ∧ w'.cell? ⟨r2, o2 + i * 7 + 1, none⟩ = some (.string (bs x.id)) ∧ w'.cell? ⟨r2, o2 + i * 7 + 2, none⟩ = some (.string (bs x.lab)) ∧ w'.cell? ⟨r2, o2 + i * 7 + 3, none⟩ = some (.int .i64 x.slot) ∧ w'.cell? ⟨r2, o2 + i * 7 + 4, none⟩ = some (.int .i64 x.tot) ∧ w'.cell? ⟨r2, o2 + i * 7 + 5, none⟩ = some (.int .i64 x.lst) ∧ w'.cell? ⟨r2, o2 + i * 7 + 6, none⟩ = some (.slice ya x.inner.length yn) ∧ w'.cell? ⟨P, 0, none⟩ = some (.int .i64 c.kind) ∧ w'.cell? ⟨P, 1, none⟩ = some (.string (bs c.id)) ∧ w'.cell? ⟨P, 2, none⟩ = some (.string (bs c.lab)) ∧ w'.cell? ⟨P, 3, none⟩ = some (.int .i64 c.slot) ∧ w'.cell? ⟨P, 4, none⟩ = some (.int .i64 c.tot) ∧ w'.cell? ⟨P, 5, none⟩ = some (.int .i64 c.lst) ∧ w'.cell? ⟨P, 6, none⟩ = some (.slice va c.inner.length vn) ∧ Kp [] wr w'))
          have HLT := Lib.hid (fun (h : 0 < i) => walk_get HV.out h hx)
          clear hx hy1 hy2 htx hvx hst8 m0 m1 m2 m3 m4 m5 m6 q0 q1 q2 q3 q4 q5 q6 c0 c1 c2 c3 c4 c5 c6
          by_cases h0 : 0 < i
          · have h0z : (0 : Int) < (i : Int) := by omega
            have hdz : ¬ ((c.dep : Int) ≤ (x.dep : Int)) := by have := HLT.out h0; omega
            go_wp2
            go_region_held3 (fun W => W.cell? ⟨r1, o1 + i * 7, none⟩ = some (.int .i64 x.kind) ∧ W.cell? ⟨r1, o1 + i * 7 + 1, none⟩ = some (.string (bs x.id)) ∧ W.cell? ⟨r1, o1 + i * 7 + 2, none⟩ = some (.string (bs x.lab)) ∧ W.cell? ⟨r1, o1 + i * 7 + 3, none⟩ = some (.int .i64 x.slot) ∧ W.cell? ⟨r1, o1 + i * 7 + 4, none⟩ = some (.int .i64 x.tot) ∧ W.cell? ⟨r1, o1 + i * 7 + 5, none⟩ = some (.int .i64 x.lst) ∧ W.cell? ⟨r1, o1 + i * 7 + 6, none⟩ = some (.slice xa x.inner.length xn) ∧ W.cell? ⟨r2, o2 + i * 7, none⟩ = some (.int .i64 x.kind) ∧ W.cell? ⟨r2, o2 + i * 7 + 1, none⟩ = some (.string (bs x.id)) ∧ W.cell? ⟨r2, o2 + i * 7 + 2, none⟩ = some (.string (bs x.lab)) ∧ W.cell? ⟨r2, o2 + i * 7 + 3, none⟩ = some (.int .i64 x.slot) ∧ W.cell? ⟨r2, o2 + i * 7 + 4, none⟩ = some (.int .i64 x.tot) ∧ W.cell? ⟨r2, o2 + i * 7 + 5, none⟩ = some (.int .i64 x.lst) ∧ W.cell? ⟨r2, o2 + i * 7 + 6, none⟩ = some (.slice ya x.inner.length yn) ∧ W.cell? ⟨P, 0, none⟩ = some (.int .i64 c.kind) ∧ W.cell? ⟨P, 1, none⟩ = some (.string (bs c.id)) ∧ W.cell? ⟨P, 2, none⟩ = some (.string (bs c.lab)) ∧ W.cell? ⟨P, 3, none⟩ = some (.int .i64 c.slot) ∧ W.cell? ⟨P, 4, none⟩ = some (.int .i64 c.tot) ∧ W.cell? ⟨P, 5, none⟩ = some (.int .i64 c.lst) ∧ W.cell? ⟨P, 6, none⟩ = some (.slice va c.inner.length vn) ∧ Kp [] wr W) (first | exact HST8.out | assumption) (first
              | (go_at_call 16; refine Calls.mono (by with_reducible exact HSM.out _ (by assumption)) ?_; rintro e W ⟨rfl, hb⟩)
              | (go_at_call 20; refine Calls.mono (by with_reducible exact HDX.out _ (by assumption)) ?_; rintro e W ⟨rfl, hb⟩)
              | (go_at_call 20; refine Calls.mono (by with_reducible exact HDC.out _ (by assumption)) ?_; rintro e W ⟨rfl, hb⟩))
            all_goals
              go_wp2
              exact ⟨⟨i + 1, by omega, rfl, KP.out.trans (lastQ (by assumption))⟩, by simp [intOf]; omega⟩
          · have h0z : decide ((0 : Int) < (i : Int)) = false := decide_eq_false (by omega)
            have H0 := Lib.hid h0
            clear h0
            go_wp2
            refine wp_region_held_drew (S := fun W => W.cell? ⟨r1, o1 + i * 7, none⟩ = some (.int .i64 x.kind) ∧ W.cell? ⟨r1, o1 + i * 7 + 1, none⟩ = some (.string (bs x.id)) ∧ W.cell? ⟨r1, o1 + i * 7 + 2, none⟩ = some (.string (bs x.lab)) ∧ W.cell? ⟨r1, o1 + i * 7 + 3, none⟩ = some (.int .i64 x.slot) ∧ W.cell? ⟨r1, o1 + i * 7 + 4, none⟩ = some (.int .i64 x.tot) ∧ W.cell? ⟨r1, o1 + i * 7 + 5, none⟩ = some (.int .i64 x.lst) ∧ W.cell? ⟨r1, o1 + i * 7 + 6, none⟩ = some (.slice xa x.inner.length xn) ∧ W.cell? ⟨r2, o2 + i * 7, none⟩ = some (.int .i64 x.kind) ∧ W.cell? ⟨r2, o2 + i * 7 + 1, none⟩ = some (.string (bs x.id)) ∧ W.cell? ⟨r2, o2 + i * 7 + 2, none⟩ = some (.string (bs x.lab)) ∧ W.cell? ⟨r2, o2 + i * 7 + 3, none⟩ = some (.int .i64 x.slot) ∧ W.cell? ⟨r2, o2 + i * 7 + 4, none⟩ = some (.int .i64 x.tot) ∧ W.cell? ⟨r2, o2 + i * 7 + 5, none⟩ = some (.int .i64 x.lst) ∧ W.cell? ⟨r2, o2 + i * 7 + 6, none⟩ = some (.slice ya x.inner.length yn) ∧ W.cell? ⟨P, 0, none⟩ = some (.int .i64 c.kind) ∧ W.cell? ⟨P, 1, none⟩ = some (.string (bs c.id)) ∧ W.cell? ⟨P, 2, none⟩ = some (.string (bs c.lab)) ∧ W.cell? ⟨P, 3, none⟩ = some (.int .i64 c.slot) ∧ W.cell? ⟨P, 4, none⟩ = some (.int .i64 c.tot) ∧ W.cell? ⟨P, 5, none⟩ = some (.int .i64 c.lst) ∧ W.cell? ⟨P, 6, none⟩ = some (.slice va c.inner.length vn) ∧ Kp [] wr W) (by kernel_rfl) HST8.out (fun hHeld => ?_)
            refine wpAnyH_take (i := 0) (oi := { dst := some 33, op := Op.move (Operand.tmp 4), type := 22, pos := "law.go:159", after := #[], guard := none }) (v := .slice (some ⟨r1, o1, none⟩) c.walk.length n1) rfl (by kernel_rfl) (by kernel_rfl) (by kernel_rfl) (fun _ _ _ h => h) (Or.inl ⟨by rfl, fun w hSw => by (try dsimp only at hSw); go_simp⟩) (by assumption) ?_
            try simp only [Act.put, List.setIfInBounds_toArray, List.set_cons_zero, List.set_cons_succ]
            refine wpAnyH_take (i := 1) (oi := { dst := some 34, op := Op.move (Operand.tmp 6), type := 3, pos := "law.go:159", after := #[], guard := none }) (v := .int .i64 (i : Int)) rfl (by kernel_rfl) (by kernel_rfl) (by kernel_rfl) (fun _ _ _ h => h) (Or.inl ⟨by rfl, fun w hSw => by (try dsimp only at hSw); go_simp⟩) (by assumption) ?_
            try simp only [Act.put, List.setIfInBounds_toArray, List.set_cons_zero, List.set_cons_succ]
            refine wpAnyH_take (i := 2) (oi := { dst := some 35, op := Op.indexAddr 22 (Operand.tmp 33) (Operand.tmp 34), type := 0, pos := "law.go:159", after := #[{ on := 0, ground := Ground.data }, { on := 1, ground := Ground.data }], guard := none }) (v := .pointer (some ⟨r1, o1 + i * 7, none⟩)) rfl (by kernel_rfl) (by kernel_rfl) (by kernel_rfl) (fun _ _ _ h => h) (Or.inl ⟨by rfl, fun w hSw => by (try dsimp only at hSw); go_simp⟩) (by assumption) ?_
            try simp only [Act.put, List.setIfInBounds_toArray, List.set_cons_zero, List.set_cons_succ]
            refine wpAnyH_take (i := 3) (oi := { dst := some 36, op := Op.load 24 (Operand.tmp 35), type := 24, pos := "law.go:159", after := #[{ on := 2, ground := Ground.data }], guard := none }) (v := .agg #[.int .i64 x.kind, .string (bs x.id), .string (bs x.lab), .int .i64 x.slot, .int .i64 x.tot, .int .i64 x.lst, .slice xa x.inner.length xn]) rfl (by kernel_rfl) (by kernel_rfl) (by kernel_rfl) (fun _ _ _ h => h) (Or.inl ⟨by rfl, fun w hSw => by (try dsimp only at hSw); go_simp⟩) (by assumption) ?_
            try simp only [Act.put, List.setIfInBounds_toArray, List.set_cons_zero, List.set_cons_succ]
            refine wpAnyH_take (i := 4) (oi := { dst := some 37, op := Op.move (Operand.tmp 5), type := 22, pos := "law.go:159", after := #[], guard := none }) (v := .slice (some ⟨r2, o2, none⟩) c.walk.length n2) rfl (by kernel_rfl) (by kernel_rfl) (by kernel_rfl) (fun _ _ _ h => h) (Or.inl ⟨by rfl, fun w hSw => by (try dsimp only at hSw); go_simp⟩) (by assumption) ?_
            try simp only [Act.put, List.setIfInBounds_toArray, List.set_cons_zero, List.set_cons_succ]
            refine wpAnyH_take (i := 5) (oi := { dst := some 38, op := Op.move (Operand.tmp 6), type := 3, pos := "law.go:159", after := #[], guard := none }) (v := .int .i64 (i : Int)) rfl (by kernel_rfl) (by kernel_rfl) (by kernel_rfl) (fun _ _ _ h => h) (Or.inl ⟨by rfl, fun w hSw => by (try dsimp only at hSw); go_simp⟩) (by assumption) ?_
            try simp only [Act.put, List.setIfInBounds_toArray, List.set_cons_zero, List.set_cons_succ]
            refine wpAnyH_take (i := 6) (oi := { dst := some 39, op := Op.indexAddr 22 (Operand.tmp 37) (Operand.tmp 38), type := 0, pos := "law.go:159", after := #[{ on := 4, ground := Ground.data }, { on := 5, ground := Ground.data }], guard := none }) (v := .pointer (some ⟨r2, o2 + i * 7, none⟩)) rfl (by kernel_rfl) (by kernel_rfl) (by kernel_rfl) (fun _ _ _ h => h) (Or.inl ⟨by rfl, fun w hSw => by (try dsimp only at hSw); go_simp⟩) (by assumption) ?_
            try simp only [Act.put, List.setIfInBounds_toArray, List.set_cons_zero, List.set_cons_succ]
            refine wpAnyH_take (i := 7) (oi := { dst := some 40, op := Op.load 24 (Operand.tmp 39), type := 24, pos := "law.go:159", after := #[{ on := 6, ground := Ground.data }], guard := none }) (v := .agg #[.int .i64 x.kind, .string (bs x.id), .string (bs x.lab), .int .i64 x.slot, .int .i64 x.tot, .int .i64 x.lst, .slice ya x.inner.length yn]) rfl (by kernel_rfl) (by kernel_rfl) (by kernel_rfl) (fun _ _ _ h => h) (Or.inl ⟨by rfl, fun w hSw => by (try dsimp only at hSw); go_simp⟩) (by assumption) ?_
            try simp only [Act.put, List.setIfInBounds_toArray, List.set_cons_zero, List.set_cons_succ]
            refine wpAnyH_ready (rs := [8]) (by kernel_rfl) (by simp) ?_
            refine AllReadyH.cons (o := { dst := some 41, op := Op.call { callee := Callee.value (Operand.func 16), args := #[Operand.tmp 36, Operand.tmp 40], argTypes := #[24, 24] }, type := 4, pos := "law.go:159", after := #[{ on := 3, ground := Ground.data }, { on := 7, ground := Ground.data }], guard := none }) rfl (fun K hK => ?_) AllReadyH.nil
            go_simp
            go_at_call 16
            refine Calls.mono (HSM.out _ HST8.out) ?_
            rintro e W8 ⟨rfl, hb⟩
            dsimp only
            refine hK.out _ _ hb (fun hHeld => ?_)
            try simp only [Act.put, List.setIfInBounds_toArray, List.set_cons_zero, List.set_cons_succ]
            clear hK
            refine wpAnyH_take (i := 9) (oi := { dst := some 42, op := Op.unOp UnOp.not 4 (Operand.tmp 41), type := 4, pos := "law.go:159", after := #[{ on := 8, ground := Ground.data }], guard := none }) (v := .bool false) rfl (by kernel_rfl) (by kernel_rfl) (by kernel_rfl) (fun _ _ _ h => h) (Or.inl ⟨by rfl, fun w hSw => by (try dsimp only at hSw); go_simp⟩) (by assumption) ?_
            try simp only [Act.put, List.setIfInBounds_toArray, List.set_cons_zero, List.set_cons_succ]
            refine wpAnyH_take (i := 10) (oi := { dst := some 43, op := Op.move (Operand.tmp 42), type := 4, pos := "law.go:159", after := #[{ on := 9, ground := Ground.data }, { on := 8, ground := Ground.chain }], guard := none }) (v := .bool false) rfl (by kernel_rfl) (by kernel_rfl) (by kernel_rfl) (fun _ _ _ h => h) (Or.inl ⟨by rfl, fun w hSw => by (try dsimp only at hSw); go_simp⟩) (by assumption) ?_
            try simp only [Act.put, List.setIfInBounds_toArray, List.set_cons_zero, List.set_cons_succ]
            refine wpAnyH_take (i := 11) (oi := { dst := some 44, op := Op.move (Operand.tmp 6), type := 3, pos := "law.go:159", after := #[{ on := 10, ground := Ground.guard }], guard := some (10, false) }) (v := .int .i64 (i : Int)) rfl (by kernel_rfl) (by kernel_rfl) (by kernel_rfl) (fun _ _ _ h => h) (Or.inl ⟨by rfl, fun w hSw => by (try dsimp only at hSw); go_simp⟩) (by assumption) ?_
            try simp only [Act.put, List.setIfInBounds_toArray, List.set_cons_zero, List.set_cons_succ]
            refine wpAnyH_take (i := 12) (oi := { dst := some 45, op := Op.binOp BinOp.gtr 3 (Operand.tmp 44) (Operand.const (Value.int IntKind.i64 0)) 3, type := 4, pos := "law.go:159", after := #[{ on := 11, ground := Ground.data }, { on := 10, ground := Ground.guard }], guard := some (10, false) }) (v := .bool false) rfl (by kernel_rfl) (by kernel_rfl) (by kernel_rfl) (fun _ _ _ h => h) (Or.inl ⟨by rfl, fun w hSw => by (try dsimp only at hSw); go_simp; have := H0.out; omega⟩) (by assumption) ?_
            try simp only [Act.put, List.setIfInBounds_toArray, List.set_cons_zero, List.set_cons_succ]
            refine wpAnyH_take (i := 13) (oi := { dst := some 46, op := Op.move (Operand.tmp 45), type := 4, pos := "law.go:159", after := #[{ on := 12, ground := Ground.data }, { on := 10, ground := Ground.chain }, { on := 10, ground := Ground.guard }], guard := some (10, false) }) (v := .bool false) rfl (by kernel_rfl) (by kernel_rfl) (by kernel_rfl) (fun _ _ _ h => h) (Or.inl ⟨by rfl, fun w hSw => by (try dsimp only at hSw); go_simp⟩) (by assumption) ?_
            try simp only [Act.put, List.setIfInBounds_toArray, List.set_cons_zero, List.set_cons_succ]
            refine wpAnyH_take (i := 14) (oi := { dst := some 47, op := Op.move (Operand.tmp 4), type := 22, pos := "law.go:159", after := #[{ on := 13, ground := Ground.guard }], guard := some (13, true) }) (v := undef) rfl (by kernel_rfl) (by kernel_rfl) (by kernel_rfl) (fun _ _ _ h => h) (Or.inr ⟨by rfl, rfl⟩) (by assumption) ?_
            try simp only [Act.put, List.setIfInBounds_toArray, List.set_cons_zero, List.set_cons_succ]
            refine wpAnyH_take (i := 15) (oi := { dst := some 48, op := Op.move (Operand.tmp 6), type := 3, pos := "law.go:159", after := #[{ on := 13, ground := Ground.guard }], guard := some (13, true) }) (v := undef) rfl (by kernel_rfl) (by kernel_rfl) (by kernel_rfl) (fun _ _ _ h => h) (Or.inr ⟨by rfl, rfl⟩) (by assumption) ?_
            try simp only [Act.put, List.setIfInBounds_toArray, List.set_cons_zero, List.set_cons_succ]
            refine wpAnyH_take (i := 16) (oi := { dst := some 49, op := Op.indexAddr 22 (Operand.tmp 47) (Operand.tmp 48), type := 0, pos := "law.go:159", after := #[{ on := 14, ground := Ground.data }, { on := 15, ground := Ground.data }, { on := 13, ground := Ground.guard }], guard := some (13, true) }) (v := undef) rfl (by kernel_rfl) (by kernel_rfl) (by kernel_rfl) (fun _ _ _ h => h) (Or.inr ⟨by rfl, rfl⟩) (by assumption) ?_
            try simp only [Act.put, List.setIfInBounds_toArray, List.set_cons_zero, List.set_cons_succ]
            refine wpAnyH_take (i := 17) (oi := { dst := some 50, op := Op.load 24 (Operand.tmp 49), type := 24, pos := "law.go:159", after := #[{ on := 16, ground := Ground.data }, { on := 13, ground := Ground.guard }], guard := some (13, true) }) (v := undef) rfl (by kernel_rfl) (by kernel_rfl) (by kernel_rfl) (fun _ _ _ h => h) (Or.inr ⟨by rfl, rfl⟩) (by assumption) ?_
            try simp only [Act.put, List.setIfInBounds_toArray, List.set_cons_zero, List.set_cons_succ]
            refine wpAnyH_take (i := 18) (oi := { dst := some 51, op := Op.call { callee := Callee.value (Operand.func 20), args := #[Operand.tmp 50], argTypes := #[24] }, type := 3, pos := "law.go:159", after := #[{ on := 17, ground := Ground.data }, { on := 13, ground := Ground.chain }, { on := 13, ground := Ground.guard }], guard := some (13, true) }) (v := undef) rfl (by kernel_rfl) (by kernel_rfl) (by kernel_rfl) (fun _ _ _ h => h) (Or.inr ⟨by rfl, rfl⟩) (by assumption) ?_
            try simp only [Act.put, List.setIfInBounds_toArray, List.set_cons_zero, List.set_cons_succ]
            refine wpAnyH_take (i := 19) (oi := { dst := some 52, op := Op.load 24 (Operand.tmp 3), type := 24, pos := "law.go:159", after := #[{ on := 13, ground := Ground.guard }], guard := some (13, true) }) (v := undef) rfl (by kernel_rfl) (by kernel_rfl) (by kernel_rfl) (fun _ _ _ h => h) (Or.inr ⟨by rfl, rfl⟩) (by assumption) ?_
            try simp only [Act.put, List.setIfInBounds_toArray, List.set_cons_zero, List.set_cons_succ]
            refine wpAnyH_take (i := 20) (oi := { dst := some 53, op := Op.call { callee := Callee.value (Operand.func 20), args := #[Operand.tmp 52], argTypes := #[24] }, type := 3, pos := "law.go:159", after := #[{ on := 19, ground := Ground.data }, { on := 18, ground := Ground.chain }, { on := 13, ground := Ground.guard }], guard := some (13, true) }) (v := undef) rfl (by kernel_rfl) (by kernel_rfl) (by kernel_rfl) (fun _ _ _ h => h) (Or.inr ⟨by rfl, rfl⟩) (by assumption) ?_
            try simp only [Act.put, List.setIfInBounds_toArray, List.set_cons_zero, List.set_cons_succ]
            refine wpAnyH_take (i := 21) (oi := { dst := some 54, op := Op.binOp BinOp.geq 3 (Operand.tmp 51) (Operand.tmp 53) 3, type := 4, pos := "law.go:159", after := #[{ on := 18, ground := Ground.data }, { on := 20, ground := Ground.data }, { on := 13, ground := Ground.guard }], guard := some (13, true) }) (v := undef) rfl (by kernel_rfl) (by kernel_rfl) (by kernel_rfl) (fun _ _ _ h => h) (Or.inr ⟨by rfl, rfl⟩) (by assumption) ?_
            try simp only [Act.put, List.setIfInBounds_toArray, List.set_cons_zero, List.set_cons_succ]
            refine wpAnyH_take (i := 22) (oi := { dst := some 55, op := Op.pick (Operand.tmp 46) (Operand.tmp 54) (Operand.const (Value.bool false)), type := 4, pos := "law.go:159", after := #[{ on := 13, ground := Ground.data }, { on := 21, ground := Ground.data }, { on := 10, ground := Ground.guard }], guard := some (10, false) }) (v := .bool false) rfl (by kernel_rfl) (by kernel_rfl) (by kernel_rfl) (fun _ _ _ h => h) (Or.inl ⟨by rfl, fun w hSw => by (try dsimp only at hSw); go_simp⟩) (by assumption) ?_
            try simp only [Act.put, List.setIfInBounds_toArray, List.set_cons_zero, List.set_cons_succ]
            refine wpAnyH_take (i := 23) (oi := { dst := some 56, op := Op.pick (Operand.tmp 43) (Operand.const (Value.bool true)) (Operand.tmp 55), type := 4, pos := "law.go:159", after := #[{ on := 10, ground := Ground.data }, { on := 22, ground := Ground.data }], guard := none }) (v := .bool false) rfl (by kernel_rfl) (by kernel_rfl) (by kernel_rfl) (fun _ _ _ h => h) (Or.inl ⟨by rfl, fun w hSw => by (try dsimp only at hSw); go_simp⟩) (by assumption) ?_
            try simp only [Act.put, List.setIfInBounds_toArray, List.set_cons_zero, List.set_cons_succ]
            refine wpAnyH_done (by kernel_rfl) ?_ _
            clear hHeld
            go_wp2
            exact ⟨⟨i + 1, by omega, rfl, KP.out.trans (lastQ hb)⟩, by simp [intOf]; omega⟩
        · have hie : i = c.walk.length := by omega
          subst hie
          have hiz : ¬ ((c.walk.length : Int) < (c.walk.length : Int)) := by omega
          have HKN := Lib.hid (known_any (E4.out.kp KP.out (by simp)))
          go_wp2_with fail
          refine HKN.out.mono ?_
          rintro e wg ⟨rfl, hkg⟩
          have KGG := Lib.hid ((K4.out.trans KP.out).trans hkg)
          clear hkg
          go_wp2
          go_ret
          exact ⟨rfl, KGG.out.below (Nat.le_refl _) (by simp)⟩
end Go.Proofs.YtoohnjlghjapnaaDoor
