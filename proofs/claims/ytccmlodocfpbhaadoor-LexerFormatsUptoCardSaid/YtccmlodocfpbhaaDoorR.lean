/- Drawing tokens off the tape, some of which cannot be written. -/
import Derived.Test.YtccmlodocfpbhaaDoorQ
namespace Go.Proofs.YtccmlodocfpbhaaDoor
open Go.RowKit

theorem draw_set0 {w0 W W2 : World} {tb xb kk : Nat} {x : Tok} {y : List UInt8} {v : Value} {xs : List Tok} (h : TAt W xb x) (hk : Kp [tb] w0 W) (ho : tokT.Own W w0.heap.size v xs) (hT : Tape W tb kk) (hx : w0.heap.size ≤ xb) (hv : ∀ b, v.ownBlock = some b → b ≠ xb) (hb : tb < xb)
    (hW : W.setCell ⟨xb, 0, none⟩ (.string (bs y)) = W2) : TAt W2 xb { x with key := y } ∧ Kp [tb] w0 W2 ∧ tokT.Own W2 w0.heap.size v xs ∧ Tape W2 tb kk := by
  rw [← hW]
  exact ⟨h.put0 y, hk.setCell (.inr hx) _, ho.set (p := ⟨xb, 0, none⟩) hv _, hT.keep fun b hb' => Below.heap_setCell _ _ _ _ (by simp only; omega)⟩
theorem draw_set1 {w0 W W2 : World} {tb xb kk : Nat} {x : Tok} {y : List UInt8} {v : Value} {xs : List Tok} (h : TAt W xb x) (hk : Kp [tb] w0 W) (ho : tokT.Own W w0.heap.size v xs) (hT : Tape W tb kk) (hx : w0.heap.size ≤ xb) (hv : ∀ b, v.ownBlock = some b → b ≠ xb) (hb : tb < xb)
    (hW : W.setCell ⟨xb, 1, none⟩ (.string (bs y)) = W2) : TAt W2 xb { x with name := y } ∧ Kp [tb] w0 W2 ∧ tokT.Own W2 w0.heap.size v xs ∧ Tape W2 tb kk := by
  rw [← hW]
  exact ⟨h.put1 y, hk.setCell (.inr hx) _, ho.set (p := ⟨xb, 1, none⟩) hv _, hT.keep fun b hb' => Below.heap_setCell _ _ _ _ (by simp only; omega)⟩
theorem draw_set2 {w0 W W2 : World} {tb xb kk : Nat} {x : Tok} {y : List UInt8} {v : Value} {xs : List Tok} (h : TAt W xb x) (hk : Kp [tb] w0 W) (ho : tokT.Own W w0.heap.size v xs) (hT : Tape W tb kk) (hx : w0.heap.size ≤ xb) (hv : ∀ b, v.ownBlock = some b → b ≠ xb) (hb : tb < xb)
    (hW : W.setCell ⟨xb, 2, none⟩ (.string (bs y)) = W2) : TAt W2 xb { x with op := y } ∧ Kp [tb] w0 W2 ∧ tokT.Own W2 w0.heap.size v xs ∧ Tape W2 tb kk := by
  rw [← hW]
  exact ⟨h.put2 y, hk.setCell (.inr hx) _, ho.set (p := ⟨xb, 2, none⟩) hv _, hT.keep fun b hb' => Below.heap_setCell _ _ _ _ (by simp only; omega)⟩
theorem draw_set3 {w0 W W2 : World} {tb xb kk : Nat} {x : Tok} {y : List UInt8} {v : Value} {xs : List Tok} (h : TAt W xb x) (hk : Kp [tb] w0 W) (ho : tokT.Own W w0.heap.size v xs) (hT : Tape W tb kk) (hx : w0.heap.size ≤ xb) (hv : ∀ b, v.ownBlock = some b → b ≠ xb) (hb : tb < xb)
    (hW : W.setCell ⟨xb, 3, none⟩ (.string (bs y)) = W2) : TAt W2 xb { x with val := y } ∧ Kp [tb] w0 W2 ∧ tokT.Own W2 w0.heap.size v xs ∧ Tape W2 tb kk := by
  rw [← hW]
  exact ⟨h.put3 y, hk.setCell (.inr hx) _, ho.set (p := ⟨xb, 3, none⟩) hv _, hT.keep fun b hb' => Below.heap_setCell _ _ _ _ (by simp only; omega)⟩

set_option maxHeartbeats 4000000 in
set_option maxRecDepth 100000 in
theorem drawn_wrong {w : World} {tb k : Nat} (h : Tape w tb k) (hk : k ≤ 1000) : Calls Tryd.prog 18 #[.pointer (some ⟨tb, 0, none⟩), .bool true] w fun r w' => ∃ v, r = .returned v ∧ ∃ xs, tokT.Own w' w.heap.size v xs ∧ xs.length ≤ 4 ∧ (∀ x ∈ xs, Lo x) ∧ ∃ k', Tape w' tb k' ∧ k' ≤ k + 25 ∧ Kp [tb] w w' := by
  have HN := Lib.hid (next_kp 5 (by decide) (by decide) (by omega) h)
  have htb := h.lt
  have HTB := Lib.hid htb
  clear h htb
  go_enter Tryd.func18, Tryd.ntmps18
  go_wp2_with (go_at_call 20; refine Calls.mono (by exact HN.out) ?_; rintro r w1 ⟨n, hn, rfl, hT, hg⟩; have HT := Lib.hid hT; have HG := Lib.hid hg; clear hT hg)
  go_loopg [5, 6] n (fun g s5 s6 wx => ∃ v xs kk, v = s5 ∧ s6 = .int .i64 (g : Int) ∧ tokT.Own wx w.heap.size v xs ∧ xs.length + g = n ∧ (∀ x ∈ xs, Lo x) ∧ Tape wx tb kk ∧ kk + 6 * g ≤ k + 1 + 6 * n ∧ Kp [tb] w wx)
  case atStart => exact ⟨_, [], k + 1, rfl, rfl, RT.Own.nil _ _ _, by simp, (fun x hx => by cases hx), HT.out, by omega, HG.out⟩
  case round =>
    obtain ⟨v, xs, kk, rfl, rfl, hown, hxn, hgood, hT, hkk, hkp⟩ := hrel
    have HO := Lib.hid hown
    have HTp := Lib.hid hT
    have HKp := Lib.hid hkp
    have HGd := Lib.hid hgood
    cases gk with
    | zero =>
      have hz : ¬ ((0 : Int) < ((0 : Nat) : Int)) := by omega
      have HR := Lib.hid (show xs.length ≤ 4 ∧ kk ≤ k + 25 by omega)
      clear hown hxn hgood hT hkk hkp
      go_wp2
      go_ret
      exact ⟨v, rfl, xs, HO.out, HR.out.1, HGd.out, kk, HTp.out, HR.out.2, HKp.out⟩
    | succ g =>
      have hz : (0 : Int) < ((g + 1 : Nat) : Int) := by omega
      have hwr : IntKind.i64.wrap ((g : Int) + 1 - 1) = (g : Int) := by rw [IntKind.wrap_i64]; omega
      have hwr2 : IntKind.i64.wrap (g : Int) = (g : Int) := by rw [IntKind.wrap_i64]; omega
      have HKK := Lib.hid (show kk ≤ 2000 ∧ xs.length + 1 + g = n ∧ kk + 6 + 6 * g ≤ k + 1 + 6 * n ∧ xs.length ≤ 1000000 by omega)
      have HO1 := Lib.hid (one_kKeys (w := wr) (by omega) hT)
      clear hown hxn hgood hT hkk hkp
      go_wp2_with (first
        | (go_at_call 23; refine Calls.mono (by with_reducible exact HO1.out) ?_; rintro r w2 ⟨x1, hx1, rfl, hT2, hg2⟩; have HG2 := Lib.hid (HKp.out.trans hg2); have HOw2 := Lib.hid (HO.out.kp hg2 (fun b hb => by have := (HO.out.ge b hb).1; have := HTB.out; simp; omega)); have HX1 := Lib.hid hx1; have HO2 := Lib.hid (one_kNames (w := w2) (by have := HKK.out; omega) hT2); clear hT2 hg2 hx1)
        | (go_at_call 23; refine Calls.mono (by with_reducible exact HO2.out) ?_; rintro r w3 ⟨x2, hx2, rfl, hT3, hg3⟩; have HG3 := Lib.hid (HG2.out.trans hg3); have HOw3 := Lib.hid (HOw2.out.kp hg3 (fun b hb => by have := (HO.out.ge b hb).1; have := HTB.out; simp; omega)); have HX2 := Lib.hid hx2; have HO3 := Lib.hid (one_kOps (w := w3) (by have := HKK.out; omega) hT3); clear hT3 hg3 hx2)
        | (go_at_call 23; refine Calls.mono (by with_reducible exact HO3.out) ?_; rintro r w4 ⟨x3, hx3, rfl, hT4, hg4⟩; have HG4 := Lib.hid (HG3.out.trans hg4); have HOw4 := Lib.hid (HOw3.out.kp hg4 (fun b hb => by have := (HO.out.ge b hb).1; have := HTB.out; simp; omega)); have HX3 := Lib.hid hx3; have HO4 := Lib.hid (one_kVals (w := w4) (by have := HKK.out; omega) hT4); clear hT4 hg4 hx3)
        | (go_at_call 23; refine Calls.mono (by with_reducible exact HO4.out) ?_; rintro r w5 ⟨x4, hx4, rfl, hT5, hg5⟩; have HT5 := Lib.hid hT5; have HG5 := Lib.hid (HG4.out.trans hg5); have HOw5 := Lib.hid (HOw4.out.kp hg5 (fun b hb => by have := (HO.out.ge b hb).1; have := HTB.out; simp; omega)); have HX4 := Lib.hid hx4; clear hT5 hg5 hx4; obtain ⟨xb, hxb⟩ : ∃ xb, w5.heap.size = xb := ⟨_, rfl⟩; obtain ⟨w6, hw6⟩ : ∃ w6, w5.alloc (.cells #[.string (bs x1), .string (bs x2), .string (bs x3), .string (bs x4)] 43) = w6 := ⟨_, rfl⟩; have H6 := Lib.hid (draw_box (x := ⟨x1, x2, x3, x4⟩) HG5.out HOw5.out HT5.out hxb hw6); obtain ⟨d0, d1, d2, d3⟩ := H6.out.1.cells; have df := fun o => H6.out.1.frz (o := o); have HN6 := Lib.hid (next_kp 12 (by decide) (by decide) (by have := HKK.out; omega) H6.out.2.2.2.1)))
      refine Calls.mono (by exact HN6.out) ?_
      rintro r w7 ⟨c, hc, rfl, hT7, hg7⟩
      have hLo : Lo ⟨x1, x2, x3, x4⟩ := (drawn_good HX1.out HX2.out HX3.out HX4.out).2
      have HLo := Lib.hid hLo
      have HK7 := Lib.hid (H6.out.2.1.trans hg7)
      have HO7 := Lib.hid (H6.out.2.2.1.kp hg7 (fun b hb => by have := (HO.out.ge b hb).1; have := HTB.out; simp; omega))
      have hA7 : TAt w7 xb ⟨x1, x2, x3, x4⟩ := H6.out.1.kp hg7 (by have := H6.out.2.2.2.2.2.2; simp; omega)
      have HA7 := Lib.hid hA7
      have HT7 := Lib.hid hT7
      obtain ⟨e0, e1, e2, e3⟩ := hA7.cells
      have ef := fun o => hA7.frz (o := o)
      clear hA7 hg7 hLo
      by_cases hc0 : c = 0
      · subst hc0
        have HY0 := Lib.hid (one_bKeys (w := w7) (by have := HKK.out; omega) hT7)
        clear hT7
        go_wp2_with (first
          | (go_at_call 23; refine Calls.mono (by with_reducible exact HY0.out) ?_; rintro r w9 ⟨y, hy, rfl, hT9, hg9⟩; have HY := Lib.hid hy; have HK9 := Lib.hid (HK7.out.trans hg9); have HO9 := Lib.hid (HO7.out.kp hg9 (fun b hb => by have := (HO.out.ge b hb).1; have := HTB.out; simp; omega)); have hA9 := HA7.out.kp hg9 (by have := H6.out.2.2.2.2.2.2; simp; omega); obtain ⟨p0, p1, p2, p3⟩ := hA9.cells; have pf := (fun o => hA9.frz (o := o)); have HA9 := Lib.hid hA9; have HT9 := Lib.hid hT9; clear hA9 hT9 hg9 hy; obtain ⟨w10, hw10⟩ : ∃ w10, w9.setCell ⟨xb, 0, none⟩ (.string (bs y)) = w10 := ⟨_, rfl⟩; have H10 := Lib.hid (draw_set0 (y := y) HA9.out HK9.out HO9.out HT9.out H6.out.2.2.2.2.1 H6.out.2.2.2.2.2.1 H6.out.2.2.2.2.2.2 hw10); obtain ⟨q0, q1, q2, q3⟩ := H10.out.1.cells; obtain ⟨Nb, hNb⟩ : ∃ Nb, w10.heap.size = Nb := ⟨_, rfl⟩; obtain ⟨w11, hw11⟩ : ∃ w11, w10.alloc (.cells #[.string (bs y), .string (bs x2), .string (bs x3), .string (bs x4)] 43) = w11 := ⟨_, rfl⟩; have H11 := Lib.hid (draw_push (x := ⟨y, x2, x3, x4⟩) H10.out.2.1 H10.out.2.2.1 H10.out.2.2.2 hNb hw11))
          | (at_builtin; refine wpList_append_r (r := tokT) rfl (.tmp 54) (.tmp 56) rfl w.heap.size v xs rfl H11.out.2.1 Nb 1 ⟨y, x2, x3, x4⟩ rfl H11.out.2.2.1 HKK.out.2.2.2 H11.out.1.size ?_; intro v8 w8 hown8 hgr8; have HO8 := Lib.hid hown8; have HK8 := Lib.hid (kp_grownT H11.out.1 hgr8 fun b hb => (H11.out.2.1.ge b hb).1); have HT8 := Lib.hid (H11.out.2.2.2.keep fun b hb => hgr8.block b (by have := H11.out.2.2.2.lt; omega) (fun e => by have := (H11.out.2.1.ge b e.symm).1; have := HTB.out; omega)); clear hown8 hgr8))
        go_roundg g
        case measure => omega
        case rel =>
          have hkk := HKK.out
          refine ⟨v8, xs ++ [⟨y, x2, x3, x4⟩], kk + 6, rfl, rfl, HO8.out, by rw [List.length_append, List.length_singleton]; omega, fun x hx => ?_, HT8.out, by omega, HK8.out⟩
          rcases List.mem_append.1 hx with hx | hx
          · exact HGd.out x hx
          · rw [List.mem_singleton.1 hx]
            exact lo_key HLo.out HY.out
      · have hn0 : ((c : Int) == 0) = false := by simp; omega
        by_cases hc1 : c = 1
        · subst hc1
          have HY0 := Lib.hid (one_bNames (w := w7) (by have := HKK.out; omega) hT7)
          clear hT7
          go_wp2_with (first
            | (go_at_call 23; refine Calls.mono (by with_reducible exact HY0.out) ?_; rintro r w9 ⟨y, hy, rfl, hT9, hg9⟩; have HY := Lib.hid hy; have HK9 := Lib.hid (HK7.out.trans hg9); have HO9 := Lib.hid (HO7.out.kp hg9 (fun b hb => by have := (HO.out.ge b hb).1; have := HTB.out; simp; omega)); have hA9 := HA7.out.kp hg9 (by have := H6.out.2.2.2.2.2.2; simp; omega); obtain ⟨p0, p1, p2, p3⟩ := hA9.cells; have pf := (fun o => hA9.frz (o := o)); have HA9 := Lib.hid hA9; have HT9 := Lib.hid hT9; clear hA9 hT9 hg9 hy; obtain ⟨w10, hw10⟩ : ∃ w10, w9.setCell ⟨xb, 1, none⟩ (.string (bs y)) = w10 := ⟨_, rfl⟩; have H10 := Lib.hid (draw_set1 (y := y) HA9.out HK9.out HO9.out HT9.out H6.out.2.2.2.2.1 H6.out.2.2.2.2.2.1 H6.out.2.2.2.2.2.2 hw10); obtain ⟨q0, q1, q2, q3⟩ := H10.out.1.cells; obtain ⟨Nb, hNb⟩ : ∃ Nb, w10.heap.size = Nb := ⟨_, rfl⟩; obtain ⟨w11, hw11⟩ : ∃ w11, w10.alloc (.cells #[.string (bs x1), .string (bs y), .string (bs x3), .string (bs x4)] 43) = w11 := ⟨_, rfl⟩; have H11 := Lib.hid (draw_push (x := ⟨x1, y, x3, x4⟩) H10.out.2.1 H10.out.2.2.1 H10.out.2.2.2 hNb hw11))
            | (at_builtin; refine wpList_append_r (r := tokT) rfl (.tmp 54) (.tmp 56) rfl w.heap.size v xs rfl H11.out.2.1 Nb 1 ⟨x1, y, x3, x4⟩ rfl H11.out.2.2.1 HKK.out.2.2.2 H11.out.1.size ?_; intro v8 w8 hown8 hgr8; have HO8 := Lib.hid hown8; have HK8 := Lib.hid (kp_grownT H11.out.1 hgr8 fun b hb => (H11.out.2.1.ge b hb).1); have HT8 := Lib.hid (H11.out.2.2.2.keep fun b hb => hgr8.block b (by have := H11.out.2.2.2.lt; omega) (fun e => by have := (H11.out.2.1.ge b e.symm).1; have := HTB.out; omega)); clear hown8 hgr8))
          go_roundg g
          case measure => omega
          case rel =>
            have hkk := HKK.out
            refine ⟨v8, xs ++ [⟨x1, y, x3, x4⟩], kk + 6, rfl, rfl, HO8.out, by rw [List.length_append, List.length_singleton]; omega, fun x hx => ?_, HT8.out, by omega, HK8.out⟩
            rcases List.mem_append.1 hx with hx | hx
            · exact HGd.out x hx
            · rw [List.mem_singleton.1 hx]
              exact lo_name HLo.out HY.out
        · have hn1 : ((c : Int) == 1) = false := by simp; omega
          by_cases hc2 : c = 2
          · subst hc2
            have HY0 := Lib.hid (one_bOps (w := w7) (by have := HKK.out; omega) hT7)
            clear hT7
            go_wp2_with (first
              | (go_at_call 23; refine Calls.mono (by with_reducible exact HY0.out) ?_; rintro r w9 ⟨y, hy, rfl, hT9, hg9⟩; have HY := Lib.hid hy; have HK9 := Lib.hid (HK7.out.trans hg9); have HO9 := Lib.hid (HO7.out.kp hg9 (fun b hb => by have := (HO.out.ge b hb).1; have := HTB.out; simp; omega)); have hA9 := HA7.out.kp hg9 (by have := H6.out.2.2.2.2.2.2; simp; omega); obtain ⟨p0, p1, p2, p3⟩ := hA9.cells; have pf := (fun o => hA9.frz (o := o)); have HA9 := Lib.hid hA9; have HT9 := Lib.hid hT9; clear hA9 hT9 hg9 hy; obtain ⟨w10, hw10⟩ : ∃ w10, w9.setCell ⟨xb, 2, none⟩ (.string (bs y)) = w10 := ⟨_, rfl⟩; have H10 := Lib.hid (draw_set2 (y := y) HA9.out HK9.out HO9.out HT9.out H6.out.2.2.2.2.1 H6.out.2.2.2.2.2.1 H6.out.2.2.2.2.2.2 hw10); obtain ⟨q0, q1, q2, q3⟩ := H10.out.1.cells; obtain ⟨Nb, hNb⟩ : ∃ Nb, w10.heap.size = Nb := ⟨_, rfl⟩; obtain ⟨w11, hw11⟩ : ∃ w11, w10.alloc (.cells #[.string (bs x1), .string (bs x2), .string (bs y), .string (bs x4)] 43) = w11 := ⟨_, rfl⟩; have H11 := Lib.hid (draw_push (x := ⟨x1, x2, y, x4⟩) H10.out.2.1 H10.out.2.2.1 H10.out.2.2.2 hNb hw11))
              | (at_builtin; refine wpList_append_r (r := tokT) rfl (.tmp 54) (.tmp 56) rfl w.heap.size v xs rfl H11.out.2.1 Nb 1 ⟨x1, x2, y, x4⟩ rfl H11.out.2.2.1 HKK.out.2.2.2 H11.out.1.size ?_; intro v8 w8 hown8 hgr8; have HO8 := Lib.hid hown8; have HK8 := Lib.hid (kp_grownT H11.out.1 hgr8 fun b hb => (H11.out.2.1.ge b hb).1); have HT8 := Lib.hid (H11.out.2.2.2.keep fun b hb => hgr8.block b (by have := H11.out.2.2.2.lt; omega) (fun e => by have := (H11.out.2.1.ge b e.symm).1; have := HTB.out; omega)); clear hown8 hgr8))
            go_roundg g
            case measure => omega
            case rel =>
              have hkk := HKK.out
              refine ⟨v8, xs ++ [⟨x1, x2, y, x4⟩], kk + 6, rfl, rfl, HO8.out, by rw [List.length_append, List.length_singleton]; omega, fun x hx => ?_, HT8.out, by omega, HK8.out⟩
              rcases List.mem_append.1 hx with hx | hx
              · exact HGd.out x hx
              · rw [List.mem_singleton.1 hx]
                exact lo_op HLo.out HY.out
          · have hn2 : ((c : Int) == 2) = false := by simp; omega
            by_cases hc3 : c = 3
            · subst hc3
              have HY0 := Lib.hid (one_bVals (w := w7) (by have := HKK.out; omega) hT7)
              clear hT7
              go_wp2_with (first
                | (go_at_call 23; refine Calls.mono (by with_reducible exact HY0.out) ?_; rintro r w9 ⟨y, hy, rfl, hT9, hg9⟩; have HY := Lib.hid hy; have HK9 := Lib.hid (HK7.out.trans hg9); have HO9 := Lib.hid (HO7.out.kp hg9 (fun b hb => by have := (HO.out.ge b hb).1; have := HTB.out; simp; omega)); have hA9 := HA7.out.kp hg9 (by have := H6.out.2.2.2.2.2.2; simp; omega); obtain ⟨p0, p1, p2, p3⟩ := hA9.cells; have pf := (fun o => hA9.frz (o := o)); have HA9 := Lib.hid hA9; have HT9 := Lib.hid hT9; clear hA9 hT9 hg9 hy; obtain ⟨w10, hw10⟩ : ∃ w10, w9.setCell ⟨xb, 3, none⟩ (.string (bs y)) = w10 := ⟨_, rfl⟩; have H10 := Lib.hid (draw_set3 (y := y) HA9.out HK9.out HO9.out HT9.out H6.out.2.2.2.2.1 H6.out.2.2.2.2.2.1 H6.out.2.2.2.2.2.2 hw10); obtain ⟨q0, q1, q2, q3⟩ := H10.out.1.cells; obtain ⟨Nb, hNb⟩ : ∃ Nb, w10.heap.size = Nb := ⟨_, rfl⟩; obtain ⟨w11, hw11⟩ : ∃ w11, w10.alloc (.cells #[.string (bs x1), .string (bs x2), .string (bs x3), .string (bs y)] 43) = w11 := ⟨_, rfl⟩; have H11 := Lib.hid (draw_push (x := ⟨x1, x2, x3, y⟩) H10.out.2.1 H10.out.2.2.1 H10.out.2.2.2 hNb hw11))
                | (at_builtin; refine wpList_append_r (r := tokT) rfl (.tmp 54) (.tmp 56) rfl w.heap.size v xs rfl H11.out.2.1 Nb 1 ⟨x1, x2, x3, y⟩ rfl H11.out.2.2.1 HKK.out.2.2.2 H11.out.1.size ?_; intro v8 w8 hown8 hgr8; have HO8 := Lib.hid hown8; have HK8 := Lib.hid (kp_grownT H11.out.1 hgr8 fun b hb => (H11.out.2.1.ge b hb).1); have HT8 := Lib.hid (H11.out.2.2.2.keep fun b hb => hgr8.block b (by have := H11.out.2.2.2.lt; omega) (fun e => by have := (H11.out.2.1.ge b e.symm).1; have := HTB.out; omega)); clear hown8 hgr8))
              go_roundg g
              case measure => omega
              case rel =>
                have hkk := HKK.out
                refine ⟨v8, xs ++ [⟨x1, x2, x3, y⟩], kk + 6, rfl, rfl, HO8.out, by rw [List.length_append, List.length_singleton]; omega, fun x hx => ?_, HT8.out, by omega, HK8.out⟩
                rcases List.mem_append.1 hx with hx | hx
                · exact HGd.out x hx
                · rw [List.mem_singleton.1 hx]
                  exact lo_val HLo.out HY.out
            · have hn3 : ((c : Int) == 3) = false := by simp; omega
              obtain ⟨Nb, hNb⟩ : ∃ Nb, w7.heap.size = Nb := ⟨_, rfl⟩
              obtain ⟨w11, hw11⟩ : ∃ w11, w7.alloc (.cells #[.string (bs x1), .string (bs x2), .string (bs x3), .string (bs x4)] 43) = w11 := ⟨_, rfl⟩
              have H11 := Lib.hid (draw_push (x := ⟨x1, x2, x3, x4⟩) HK7.out HO7.out HT7.out hNb hw11)
              clear hT7 hc0 hc1 hc2 hc3
              go_wp2_with (first
                | (at_builtin; refine wpList_append_r (r := tokT) rfl (.tmp 54) (.tmp 56) rfl w.heap.size v xs rfl H11.out.2.1 Nb 1 ⟨x1, x2, x3, x4⟩ rfl H11.out.2.2.1 HKK.out.2.2.2 H11.out.1.size ?_; intro v8 w8 hown8 hgr8; have HO8 := Lib.hid hown8; have HK8 := Lib.hid (kp_grownT H11.out.1 hgr8 fun b hb => (H11.out.2.1.ge b hb).1); have HT8 := Lib.hid (H11.out.2.2.2.keep fun b hb => hgr8.block b (by have := H11.out.2.2.2.lt; omega) (fun e => by have := (H11.out.2.1.ge b e.symm).1; have := HTB.out; omega)); clear hown8 hgr8))
              go_roundg g
              case measure => omega
              case rel =>
                have hkk := HKK.out
                refine ⟨v8, xs ++ [⟨x1, x2, x3, x4⟩], kk + 5, rfl, rfl, HO8.out, by rw [List.length_append, List.length_singleton]; omega, fun x hx => ?_, HT8.out, by omega, HK8.out⟩
                rcases List.mem_append.1 hx with hx | hx
                · exact HGd.out x hx
                · rw [List.mem_singleton.1 hx]
                  exact HLo.out
end Go.Proofs.YtccmlodocfpbhaaDoor
