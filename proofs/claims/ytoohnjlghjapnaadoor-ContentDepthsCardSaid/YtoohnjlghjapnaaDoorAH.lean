/- A copy of a valid content: the walk. -/
import Derived.Test.YtoohnjlghjapnaaDoorAG
namespace Go.Proofs.YtoohnjlghjapnaaDoor
open Go.RowKit

theorem copy_end {A : Nat} {c : Con} {W w3 : World} {v : Value} (hA : W.heap.size = A) (hv : CHas (fun b => A ≤ b ∧ b ≠ A + 1) w3 v c.inner) (K3 : Kp [] W w3) :
    CopyPost c W (.returned (.agg #[.int .i64 c.kind, .string (bs c.id), .string (bs c.lab), .int .i64 c.slot, .int .i64 c.tot, .int .i64 c.lst, v])) (put7 w3 (A + 1) (.int .i64 c.kind) (.string (bs c.id)) (.string (bs c.lab)) (.int .i64 c.slot) (.int .i64 c.tot) (.int .i64 c.lst) v) := by
  have hk : Kp [A + 1] w3 (put7 w3 (A + 1) (.int .i64 c.kind) (.string (bs c.id)) (.string (bs c.lab)) (.int .i64 c.slot) (.int .i64 c.tot) (.int .i64 c.lst) v) := put7_kp (Kp.refl _ w3) (.inl (by simp)) _ _ _ _ _ _ _
  exact ⟨v, rfl, hv.keep hk.size fun k hkk hq => ⟨by omega, hk.block k hkk (by simp; exact hq.2)⟩, K3.up hk (by simp; omega)⟩
theorem ROwn.row {w : World} {B : Nat} {Q : Nat → Prop} {v : Value} {L : List (Con × Value)} (h : ROwn w B Q v L) (hL : 0 < L.length) :
    ∃ g c, v = .slice (some ⟨g, 0, none⟩) L.length c ∧ B ≤ g ∧ g < w.heap.size ∧ L.length ≤ c ∧ c ≤ maxLen ∧ (∀ (j : Nat) p, L[j]? = some p → w.rangeAt g (j * 7) (conC p.1 p.2)) ∧ w.there g 0 (L.length * 7) := by
  rcases h.1.2 with ⟨hv, hn⟩ | ⟨g, cap, cur, hv, hB, hh, hc, hm, hz, ht⟩
  · omega
  · have hzz : L.length * 7 ≤ cur.size := by rw [hz]; exact Nat.mul_le_mul_right _ hc
    refine ⟨g, cap, hv, hB, block_lt hh, hc, hm, fun j p hp m u hu => ?_, fun m hm2 => ?_⟩
    · have hjl := (List.getElem?_eq_some_iff.1 hp).1
      have hml : m < 7 := (List.getElem?_eq_some_iff.1 hu).1
      have hg := rowC_get L j p m hp hml
      rw [← ht, List.getElem?_take, if_pos (by omega)] at hg
      rw [cell_of_row _ _ _ _ _ _ hh, ← Array.getElem?_toList, hg, hu]
    · rw [Nat.zero_add, cell_of_row _ _ _ _ _ _ hh]
      refine ⟨?_, by simp [World.frozen?, hh]⟩
      rw [Array.getElem?_eq_getElem (by omega)]
      rfl

set_option maxHeartbeats 8000000 in
set_option maxRecDepth 100000 in
theorem copy_any : ∀ d, d ≤ 6 → CopyOK d := by
  intro d
  induction d using Nat.strongRecOn with
  | _ d ih =>
  intro hd Q c a n W hv hh hQ
  have h16 := wl_len hv
  obtain ⟨w0, hw0⟩ : ∃ w0, W.alloc (.cells #[.int .i64 c.kind, .string (bs c.id), .string (bs c.lab), .int .i64 c.slot, .int .i64 c.tot, .int .i64 c.lst, .slice a c.inner.length n] 24) = w0 := ⟨_, rfl⟩
  have hk0 : Kp [] W w0 := by rw [← hw0]; exact (Kp.refl [] W).alloc _
  have hb0 : BoxV W.heap.size (.int .i64 c.kind) (.string (bs c.id)) (.string (bs c.lab)) (.int .i64 c.slot) (.int .i64 c.tot) (.int .i64 c.lst) (.slice a c.inner.length n) w0 := by rw [← hw0]; exact al_new _ _
  have hs0 : w0.heap.size = W.heap.size + 1 := by rw [← hw0]; exact al_size _ _
  obtain ⟨w1, hw1⟩ : ∃ w1, w0.alloc (.cells #[.int .i64 0, .string ⟨#[]⟩, .string ⟨#[]⟩, .int .i64 0, .int .i64 0, .int .i64 0, .slice none 0 0] 24) = w1 := ⟨_, rfl⟩
  have hk1 : Kp [] w0 w1 := by rw [← hw1]; exact (Kp.refl [] w0).alloc _
  have hz1 : Zero7 w0.heap.size w1 := by rw [← hw1]; exact al_new _ _
  have hs1 : w1.heap.size = w0.heap.size + 1 := by rw [← hw1]; exact al_size _ _
  obtain ⟨A, hA⟩ : ∃ A, W.heap.size = A := ⟨_, rfl⟩
  rw [hA] at hb0 hs0 hQ
  rw [hs0] at hz1 hs1
  have hb1 := hb0.kp hk1 (by simp)
  have hk01 := hk0.trans hk1
  have HC := Lib.hid (clone_any c.inner a n w1 (by omega) (kp_has hh hk01) (fun b hb => by have := hQ b hb; omega))
  have K1 := Lib.hid hk01
  have Z1 := Lib.hid hz1
  have B1 := Lib.hid hb1
  have S1 := Lib.hid hs1
  have HA := Lib.hid hA
  have HQ := Lib.hid hQ
  have HV := Lib.hid hv
  have IH := Lib.hid ih
  obtain ⟨c0, c1, c2, c3, c4, c5, c6⟩ := hb1.cells
  clear hk0 hk1 hk01 hz1 hb0 hb1 hs0 hs1 hh hQ hv ih
  go_enter Tryd.func47, Tryd.ntmps47
  go_wp2_with fail
  subst hw0
  subst hw1
  refine HC.out.mono ?_
  rintro r w2 ⟨v, L, rfl, hL, hO, hk2⟩
  have hll : L.length = c.inner.length := by rw [← hL, List.length_map]
  obtain ⟨ga, gc, rfl⟩ := hO.form
  rw [hll]
  have hb2 := B1.out.kp hk2 (by simp)
  have hks : Kp [A] w2 (w2.setCell ⟨A, 6, none⟩ (.slice ga c.inner.length gc)) := (Kp.refl _ w2).setCell (.inl (by simp)) _
  have hk3 := K1.out.trans hk2
  obtain ⟨w3, hw3⟩ : ∃ w3, w2.setCell ⟨A, 6, none⟩ (.slice ga c.inner.length gc) = w3 := ⟨_, rfl⟩
  rw [hw3] at hks
  have B3 := Lib.hid (show BoxV A (.int .i64 c.kind) (.string (bs c.id)) (.string (bs c.lab)) (.int .i64 c.slot) (.int .i64 c.tot) (.int .i64 c.lst) (.slice ga c.inner.length gc) w3 by rw [← hw3]; exact hb2.put6 _)
  have Z3 := Lib.hid (BoxV.kp (BoxV.kp Z1.out hk2 (by simp)) hks (by simp))
  have K3 := Lib.hid (hk3.up hks (by simp; omega))
  have S3 := Lib.hid (show A + 2 ≤ w3.heap.size by have := S1.out; have := hk2.size; have := hks.size; omega)
  clear c0 c1 c2 c3 c4 c5 c6
  obtain ⟨c0, c1, c2, c3, c4, c5, c6⟩ := hb2.cells
  have f6 := hb2.frozen 6
  obtain ⟨d0, d1, d2, d3, d4, d5, d6⟩ := B3.out.cells
  have hml : c.inner.length ≤ 9223372036854775807 := by omega
  by_cases hne : c.inner.length = 0
  · have hnil : c.inner = [] := List.length_eq_zero_iff.1 hne
    have HN := Lib.hid hnil
    have hz : ¬ ((0 : Int) < (c.inner.length : Int)) := by omega
    clear hks hk2 hO hL hll hb2 hk3 hne hnil
    go_wp2
    subst hw3
    go_loopw [12] (fun s12 wx => s12 = .int .i64 0 ∧ wx = w2.setCell ⟨A, 6, none⟩ (.slice ga c.inner.length gc)) (fun _ _ => 0)
    case atStart => exact ⟨rfl, rfl⟩
    case round =>
      obtain ⟨rfl, rfl⟩ := hrel
      obtain ⟨d0, d1, d2, d3, d4, d5, d6⟩ := BoxV.cells Z3.out
      have g0 := BoxV.frozen Z3.out 0
      have g1 := BoxV.frozen Z3.out 1
      have g2 := BoxV.frozen Z3.out 2
      have g3 := BoxV.frozen Z3.out 3
      have g4 := BoxV.frozen Z3.out 4
      have g5 := BoxV.frozen Z3.out 5
      have g6 := BoxV.frozen Z3.out 6
      go_wp2
      refine bodyPost_ret (res24p Tryd.results47 rfl (put7_box Z3.out _ _ _ _ _ _ _)) rfl ?_
      exact copy_end HA.out (by rw [HN.out]; exact .inl ⟨rfl, _, _, rfl⟩) K3.out
  · obtain ⟨g, gc', he, hg, hgs, hgc, hgm, hrow, hthere⟩ := hO.row (by omega)
    injection he with he1 he2 he3
    subst he1 he3
    have hg2 : A + 2 ≤ g := by have := S1.out; omega
    have hkg : w3.heap[g]? = w2.heap[g]? := hks.block g hgs (by simp; omega)
    have hCA : CopyAt A g gc 0 Q c.inner L w3 := by
      refine ⟨hL, fun j p hj => range_kp (hrow j p hj) hkg, there_kp (by rw [← hll]; exact hthere) hkg, fun j p hj hlt => absurd hlt (Nat.not_lt_zero _), fun j p hj _ => ?_⟩
      have := hO.2 p (List.mem_of_getElem? hj)
      exact ⟨this.1, this.2.keep hks.size fun k hkk hq => ⟨hq, hks.block k hkk (by simp; have := HQ.out k hq; omega)⟩⟩
    have CA := Lib.hid hCA
    have GS := Lib.hid (show g < w3.heap.size by have := hks.size; omega)
    have GC := Lib.hid (show c.inner.length ≤ gc by omega)
    have GM := Lib.hid hgm
    clear hks hk2 hO hL hll hb2 hk3 hrow hthere hkg hCA hgs hgc hgm he2
    go_wp2
    clear c0 c1 c2 c3 c4 c5 c6 d0 d1 d2 d3 d4 d5 d6 f6
    subst hw3
    go_loopw [12] (fun s12 wx => ∃ (i : Nat) (L : List (Con × Value)), i ≤ c.inner.length ∧ s12 = .int .i64 (i : Int) ∧ CopyAt A g gc i Q c.inner L wx ∧ BoxV A (.int .i64 c.kind) (.string (bs c.id)) (.string (bs c.lab)) (.int .i64 c.slot) (.int .i64 c.tot) (.int .i64 c.lst) (.slice (some ⟨g, 0, none⟩) c.inner.length gc) wx ∧ Zero7 (A + 1) wx ∧ Kp [] W wx ∧ g < wx.heap.size) (fun s12 _ => c.inner.length - (intOf s12).toNat)
    case atStart => exact ⟨0, L, Nat.zero_le _, rfl, CA.out, B3.out, Z3.out, K3.out, GS.out⟩
    case round =>
      rename_i wr
      obtain ⟨i, M, hi, rfl, hca, hbx, hzr, hkp, hgw⟩ := hrel
      have CR := Lib.hid hca
      have BR := Lib.hid hbx
      have ZR := Lib.hid hzr
      have KR := Lib.hid hkp
      have GR := Lib.hid hgw
      obtain ⟨c0, c1, c2, c3, c4, c5, c6⟩ := hbx.cells
      clear hca hbx hzr hkp hgw
      by_cases hlt : i < c.inner.length
      · have hiz : (i : Int) < (c.inner.length : Int) := by omega
        have hml2 : M.length = c.inner.length := by rw [← CR.out.con, List.length_map]
        obtain ⟨p, hp⟩ : ∃ p, M[i]? = some p := ⟨_, List.getElem?_eq_getElem (by omega)⟩
        obtain ⟨x, u⟩ := p
        have hxi : x ∈ c.inner := by rw [← CR.out.con]; exact List.mem_map_of_mem (f := Prod.fst) (List.mem_of_getElem? hp)
        obtain ⟨_, d', hd', hvx⟩ := valN_inner HV.out hxi
        have hrw := CR.out.row i _ hp
        have e0 := hrw 0 _ rfl
        have e1 := hrw 1 _ rfl
        have e2 := hrw 2 _ rfl
        have e3 := hrw 3 _ rfl
        have e4 := hrw 4 _ rfl
        have e5 := hrw 5 _ rfl
        have e6 := hrw 6 _ rfl
        dsimp only at e0 e1 e2 e3 e4 e5 e6
        rw [Nat.add_zero] at e0
        have hux := (CR.out.hi i _ hp (Nat.le_refl _)).2
        dsimp only at hux
        obtain ⟨ua, un, rfl, -⟩ := hux.form
        obtain ⟨wd, hwd⟩ : ∃ wd, wr.alloc (.cells #[.int .i64 x.kind, .string (bs x.id), .string (bs x.lab), .int .i64 x.slot, .int .i64 x.tot, .int .i64 x.lst, .slice ua x.inner.length un] 24) = wd := ⟨_, rfl⟩
        have hal : Kp [] wr wd := by rw [← hwd]; exact (Kp.refl [] wr).alloc _
        have hbd : BoxV wr.heap.size (.int .i64 x.kind) (.string (bs x.id)) (.string (bs x.lab)) (.int .i64 x.slot) (.int .i64 x.tot) (.int .i64 x.lst) (.slice ua x.inner.length un) wd := by rw [← hwd]; exact al_new _ _
        have hwi : IntKind.i64.wrap ((i : Int) + 1) = ((i + 1 : Nat) : Int) := by rw [IntKind.wrap_i64]; omega
        have HC := Lib.hid (IH.out d' (by omega) (by omega) Q x ua un wd.drew hvx (kp_has hux (hal.drew 1)) (fun b hb => by have := HQ.out b hb; have : wd.heap.size ≤ wd.drew.heap.size := (Nat.le_refl _); have := hal.size; have := GR.out; omega))
        have CD := Lib.hid (CR.out.kp hal GR.out)
        have BD := Lib.hid (BR.out.kp hal (by simp))
        have ZD := Lib.hid (BoxV.kp ZR.out hal (by simp))
        have KD := Lib.hid (KR.out.trans hal)
        have HX := Lib.hid hp
        have BX := Lib.hid hbd
        have GD := Lib.hid (show g < wd.heap.size by have := hal.size; have := GR.out; omega)
        obtain ⟨D, hD⟩ : ∃ D, wr.heap.size = D := ⟨_, rfl⟩
        rw [hD] at BX
        obtain ⟨b0, b1, b2, b3, b4, b5, b6⟩ := BX.out.cells
        obtain ⟨q0, q1, q2, q3, q4, q5, q6⟩ := BD.out.cells
        clear hp hrw hux hal hbd hvx
        go_wp2_with fail
        go_region_law (first
          | (go_simp; (with_reducible refine HC.out.mono ?_); rintro r w5 ⟨u5, rfl, hu5, hk5⟩; obtain ⟨va5, vn5, rfl, -⟩ := hu5.form; have hkd := Kp.trans ((Kp.refl [] wd).drew 1) hk5; have C5 := Lib.hid (CD.out.kp hkd GD.out); have B5 := Lib.hid (BD.out.kp hkd (by simp)); have Z5 := Lib.hid (BoxV.kp ZD.out hkd (by simp)); have K5 := Lib.hid (KD.out.trans hkd); have G5 := Lib.hid (show g < w5.heap.size by have := hkd.size; have := GD.out; omega); have U5 := Lib.hid (hu5.mono (Q' := fun b => A + 2 ≤ b ∧ b ≠ g) fun b _ hb => by have : wd.heap.size ≤ b := hb; have := GD.out; omega); have hth := C5.out.wr; have y0 := (hth (i * 7) (by omega)).2; have y1 := (hth (i * 7 + 1) (by omega)).2; have y2 := (hth (i * 7 + 2) (by omega)).2; have y3 := (hth (i * 7 + 3) (by omega)).2; have y4 := (hth (i * 7 + 4) (by omega)).2; have y5 := (hth (i * 7 + 5) (by omega)).2; have y6 := (hth (i * 7 + 6) (by omega)).2; rw [Nat.zero_add] at y0 y1 y2 y3 y4 y5 y6; have hr5 := C5.out.row i _ HX.out; have x0 := hr5 0 _ rfl; have x1 := hr5 1 _ rfl; have x2 := hr5 2 _ rfl; have x3 := hr5 3 _ rfl; have x4 := hr5 4 _ rfl; have x5 := hr5 5 _ rfl; have x6 := hr5 6 _ rfl; rw [Nat.add_zero] at x0; obtain ⟨p0, p1, p2, p3, p4, p5, p6⟩ := B5.out.cells; clear hth hr5 hu5 hk5 hkd; dsimp only at x0 x1 x2 x3 x4 x5 x6; dsimp only))
        all_goals
          have hst := C5.out.step HX.out hg2 HQ.out U5.out
          have hks := setCells_kp g (conC x (.slice va5 x.inner.length vn5)) (i * 7) w5
          have B6 := Lib.hid (B5.out.kp hks (by simp; omega))
          have Z6 := Lib.hid (BoxV.kp Z5.out hks (by simp; omega))
          have K6 := Lib.hid (K5.out.up hks (by simp; have := HA.out; omega))
          have G6 := Lib.hid (show g < (w5.setCells g (i * 7) (conC x (.slice va5 x.inner.length vn5))).heap.size by have := hks.size; have := G5.out; omega)
          have S6 := Lib.hid hst
          clear hks hst
          go_wp2
          exact ⟨⟨i + 1, M.set i (x, .slice va5 x.inner.length vn5), by omega, rfl, S6.out, B6.out, Z6.out, K6.out, G6.out⟩, by simp [intOf]; omega⟩
      · have hie : i = c.inner.length := by omega
        subst hie
        have hiz : ¬ ((c.inner.length : Int) < (c.inner.length : Int)) := by omega
        obtain ⟨d0, d1, d2, d3, d4, d5, d6⟩ := BoxV.cells ZR.out
        have g0 := BoxV.frozen ZR.out 0
        have g1 := BoxV.frozen ZR.out 1
        have g2 := BoxV.frozen ZR.out 2
        have g3 := BoxV.frozen ZR.out 3
        have g4 := BoxV.frozen ZR.out 4
        have g5 := BoxV.frozen ZR.out 5
        have g6 := BoxV.frozen ZR.out 6
        have HF := Lib.hid ((CR.out.has hg2 GR.out GC.out GM.out).mono (Q' := fun b => A ≤ b ∧ b ≠ A + 1) fun b _ hb => by omega)
        go_wp2
        refine bodyPost_ret (res24p Tryd.results47 rfl (put7_box ZR.out _ _ _ _ _ _ _)) rfl ?_
        exact copy_end HA.out HF.out KR.out
end Go.Proofs.YtoohnjlghjapnaaDoor
