/- helper.Call and the reference's Call. -/
import Derived.Test.YteiphphihclnfaaDoorHB
import Derived.Test.YteiphphihclnfaaDoorGlRJ
namespace Go.Proofs.YteiphphihclnfaaDoor
open Go.RowKit
theorem callL_calls {l : List Hp} {limit calls : Int} {c : List UInt8} (h : 16 ≤ calls) : callL l limit calls c = ([], 0, 144) := by unfold callL; rw [if_pos h]
theorem callL_none {l : List Hp} {limit calls : Int} {c : List UInt8} (h : ¬ 16 ≤ calls) (hf : firstH c l = none) : callL l limit calls c = ([], 0, 143) := by unfold callL; rw [if_neg h, hf]
theorem callL_slow {l : List Hp} {limit calls : Int} {c : List UInt8} {x : Hp} (h : ¬ 16 ≤ calls) (hf : firstH c l = some x) (h1 : limit < x.ticks) : callL l limit calls c = ([], limit, 142) := by
  unfold callL; rw [if_neg h, hf]; simp only; rw [if_pos h1]
theorem callL_fails {l : List Hp} {limit calls : Int} {c : List UInt8} {x : Hp} (h : ¬ 16 ≤ calls) (hf : firstH c l = some x) (h1 : ¬ limit < x.ticks) (h2 : x.fails = true) : callL l limit calls c = ([], x.ticks, 141) := by
  unfold callL; rw [if_neg h, hf]; simp only; rw [if_neg h1, if_pos h2]
theorem callL_ok {l : List Hp} {limit calls : Int} {c : List UInt8} {x : Hp} (h : ¬ 16 ≤ calls) (hf : firstH c l = some x) (h1 : ¬ limit < x.ticks) (h2 : x.fails = false) : callL l limit calls c = (x.out, x.ticks, 0) := by
  unfold callL; rw [if_neg h, hf]; simp only; rw [if_neg h1, if_neg (by rw [h2]; exact Bool.false_ne_true)]
theorem run_any {l : List Hp} (hl : l.length ≤ 1000000) (hs : ∀ x ∈ l, SmH x) {v : Value} {limit calls : Int} {c : List UInt8} (hc : c.length ≤ 4611686018427387904) {w : World} (hh : hpT.Has w v l) :
    Calls Tryd.prog 27 #[v, .int .i64 limit, .int .i64 calls, .string (bs c)] w fun e w' => e = .returned (.agg #[.string (bs (callL l limit calls c).1), .int .i64 (callL l limit calls c).2.1, .int .i64 (callL l limit calls c).2.2]) ∧ Kp [] w w' := by
  by_cases h : 16 ≤ calls
  · rw [callL_calls h]; exact run_calls h
  · cases hf : firstH c l with
    | none => rw [callL_none h hf]; exact run_none hl hs hc h hh hf
    | some x =>
      by_cases h1 : limit < x.ticks
      · rw [callL_slow h hf h1]; exact run_slow hl hs hc h hh hf h1
      · cases h2 : x.fails with
        | true => rw [callL_fails h hf h1 h2]; exact run_fails hl hs hc h hh hf h1 h2
        | false => rw [callL_ok h hf h1 h2]; exact run_ok hl hs hc h hh hf h1 h2
/-- What Call answers, as it is handed back. -/
def ansV (r : List UInt8 × Int × Int) : Value := .tuple #[.string (bs r.1), .int .i64 r.2.1, .int .i64 r.2.2]
set_option maxRecDepth 100000 in
set_option maxHeartbeats 4000000 in
theorem call_any {l : List Hp} (hl : l.length ≤ 1000000) (hs : ∀ x ∈ l, SmH x) {v : Value} {limit calls : Int} {c : List UInt8} (hc : c.length ≤ 4611686018427387904) {w : World} (hh : hpT.Has w v l) :
    Calls Tryd.prog 16 #[v, .int .i64 limit, .int .i64 calls, .string (bs c)] w fun e w' => e = .returned (ansV (callL l limit calls c)) ∧ Kp [] w w' := by
  have hr := run_any hl hs (limit := limit) (calls := calls) hc hh
  obtain ⟨R, hR⟩ : ∃ R, callL l limit calls c = R := ⟨_, rfl⟩
  rw [hR] at hr ⊢
  obtain ⟨o, t, E⟩ := R
  unfold ansV
  simp only at hr ⊢
  have HR := Lib.hid hr
  clear hr hR hh hs
  go_enter Tryd.func16, Tryd.ntmps16
  go_wp2_with (go_at_call 27; refine Calls.mono (by with_reducible exact HR.out) ?_; rintro e w1 ⟨rfl, hk1⟩; have HK1 := Lib.hid hk1; clear hk1)
  go_quiet (fail)
  go_wp2
  go_ret3
  exact ⟨rfl, ((HK1.out.alloc _).drew _)⟩
theorem refGlob_any {p s : List UInt8} (hp : p.length ≤ 4611686018427387904) (hs : s.length ≤ 4611686018427387904) (w : World) : Calls Tryd.prog 28 #[.string (bs p), .string (bs s)] w fun e w' => e = .returned (.bool (Gl.patB p s)) ∧ Kp [] w w' :=
  (Gl.refMatch_any (bs p) (bs s) w hp hs).mono fun _ _ ⟨h1, h2⟩ => ⟨h1, Kp.of_below h2⟩
theorem firstH_hit {l : List Hp} {c : List UInt8} {i : Nat} {x : Hp} (hno : firstH c (l.take i) = none) (hx : l[i]? = some x) (h : hitB c x = true) : firstH c l = some x := by
  have hi := (List.getElem?_eq_some_iff.1 hx).1
  have he : l[i] = x := (List.getElem?_eq_some_iff.1 hx).2
  unfold firstH at hno ⊢
  rw [← List.take_append_drop i l, List.find?_append, hno, List.drop_eq_getElem_cons hi, he, List.find?_cons, h]
  rfl
theorem firstH_step {l : List Hp} {c : List UInt8} {i : Nat} {x : Hp} (hno : firstH c (l.take i) = none) (hx : l[i]? = some x) (h : hitB c x = false) : firstH c (l.take (i + 1)) = none := by
  unfold firstH at hno ⊢
  rw [List.take_add_one, hx, List.find?_append, hno]
  simp [h]
set_option maxRecDepth 100000 in
set_option maxHeartbeats 8000000 in
theorem refCall_any {l : List Hp} (hl : l.length ≤ 1000000) (hs : ∀ x ∈ l, SmH x) {v : Value} {limit calls : Int} {c : List UInt8} (hc : c.length ≤ 4611686018427387904) {w : World} (hh : hpT.Has w v l) :
    Calls Tryd.prog 17 #[v, .int .i64 limit, .int .i64 calls, .string (bs c)] w fun e w' => e = .returned (ansV (callL l limit calls c)) ∧ Kp [] w w' := by
  obtain ⟨va, vc, rfl, hrow⟩ := hh.form
  have HROW := Lib.hid hrow
  have HSM := Lib.hid hs
  clear hrow hh hs
  by_cases hcl : 16 ≤ calls
  · rw [callL_calls hcl]
    go_enter Tryd.func17, Tryd.ntmps17
    go_wp2
    go_ret3
    exact ⟨rfl, Kp.refl _ _⟩
  · obtain ⟨R, hR⟩ : ∃ R, callL l limit calls c = R := ⟨_, rfl⟩
    rw [hR]
    have HR := Lib.hid hR
    clear hR
    go_enter Tryd.func17, Tryd.ntmps17
    go_wp2
    go_loopg [11] l.length (fun g s11 wx => ∃ i : Nat, s11 = .int .i64 (i : Int) ∧ firstH c (l.take i) = none ∧ i + g = l.length ∧ Kp [] w wx)
    case atStart => exact ⟨0, rfl, rfl, by omega, Kp.refl _ _⟩
    case round =>
      obtain ⟨i, rfl, hno, hig, hkp⟩ := hrel
      have HK := Lib.hid hkp
      have HNO := Lib.hid hno
      by_cases hi : i < l.length
      · obtain ⟨g, rfl⟩ : ∃ g, gk = g + 1 := ⟨gk - 1, by omega⟩
        obtain ⟨b, o, rfl, hbl, hr⟩ := HROW.out (by rintro rfl; simp at hi)
        obtain ⟨x, hx⟩ : ∃ x, l[i]? = some x := ⟨_, List.getElem?_eq_getElem hi⟩
        have hiz : (i : Int) < (l.length : Int) := by omega
        have HRW := Lib.hid fun W (h : Kp [] wr W) => hpRow (hr.keep ((hkp.trans h).block b hbl (by simp))) hx
        obtain ⟨c0, c1, c2, c3⟩ := HRW.out _ (Kp.refl _ _)
        have hwi : IntKind.i64.wrap ((i : Int) + 1) = ((i + 1 : Nat) : Int) := by rw [IntKind.wrap_i64]; omega
        have HI := Lib.hid hig
        have HP := Lib.hid (show ∀ W, Calls Tryd.prog 28 #[.string (bs x.cmd), .string (bs c)] W fun e w' => e = .returned (.bool (hitB c x)) ∧ Kp [] W w' from fun W => refGlob_any (HSM.out x (List.mem_of_getElem? hx)).1 hc W)
        cases hp : hitB c x with
        | true =>
          have hf := firstH_hit hno hx hp
          rw [hp] at HP
          by_cases h1 : limit < x.ticks
          · have HRE := Lib.hid (show R = ([], limit, 142) by rw [← HR.out]; exact callL_slow (by omega) hf h1)
            clear hkp hr hx hig hbl hno hp hf
            go_wp2_with (go_at_call 28; refine Calls.mono (by with_reducible exact HP.out _) ?_; rintro e w1 ⟨rfl, hk1⟩; obtain ⟨d0, d1, d2, d3⟩ := HRW.out _ hk1; have HK1 := Lib.hid (HK.out.trans hk1); clear hk1 c0 c1 c2 c3)
            go_ret3
            exact ⟨by rw [HRE.out]; rfl, HK1.out⟩
          · cases h2 : x.fails with
            | true =>
              have HRE := Lib.hid (show R = ([], x.ticks, 141) by rw [← HR.out]; exact callL_fails (by omega) hf h1 h2)
              rw [h2] at HRW c2
              clear hkp hr hx hig hbl hno hp hf h2
              go_wp2_with (go_at_call 28; refine Calls.mono (by with_reducible exact HP.out _) ?_; rintro e w1 ⟨rfl, hk1⟩; obtain ⟨d0, d1, d2, d3⟩ := HRW.out _ hk1; have HK1 := Lib.hid (HK.out.trans hk1); clear hk1 c0 c1 c2 c3)
              go_quiet (fail)
              go_wp2
              go_ret3
              exact ⟨by rw [HRE.out]; rfl, HK1.out.drew _⟩
            | false =>
              have HRE := Lib.hid (show R = (x.out, x.ticks, 0) by rw [← HR.out]; exact callL_ok (by omega) hf h1 h2)
              rw [h2] at HRW c2
              clear hkp hr hx hig hbl hno hp hf h2
              go_wp2_with (go_at_call 28; refine Calls.mono (by with_reducible exact HP.out _) ?_; rintro e w1 ⟨rfl, hk1⟩; obtain ⟨d0, d1, d2, d3⟩ := HRW.out _ hk1; have HK1 := Lib.hid (HK.out.trans hk1); clear hk1 c0 c1 c2 c3)
              go_quiet (fail)
              go_wp2
              go_ret3
              exact ⟨by rw [HRE.out]; rfl, HK1.out.drew _⟩
        | false =>
          have HT := Lib.hid (firstH_step hno hx hp)
          rw [hp] at HP
          clear hkp hr hx hig hbl hno hp
          go_wp2_with (go_at_call 28; refine Calls.mono (by with_reducible exact HP.out _) ?_; rintro e w1 ⟨rfl, hk1⟩; have HK1 := Lib.hid (HK.out.trans hk1); clear hk1)
          go_roundg g
          case measure => omega
          case rel => exact ⟨i + 1, rfl, HT.out, by have := HI.out; omega, HK1.out⟩
      · have hiz : ¬ ((i : Int) < (l.length : Int)) := by omega
        have hie : l.take i = l := List.take_of_length_le (by omega)
        rw [hie] at hno
        have HRE := Lib.hid (show R = ([], 0, 143) by rw [← HR.out]; exact callL_none (by omega) hno)
        clear hkp hig hi hie hno
        go_wp2
        go_ret3
        exact ⟨by rw [HRE.out]; rfl, HK.out⟩
end Go.Proofs.YteiphphihclnfaaDoor
