/- Which helpers can be elements of a table: isHelper, Check, the reference's Check. -/
import Derived.Test.YteiphphihclnfaaDoorHC
import Derived.Test.YteiphphihclnfaaDoorNS
namespace Go.Proofs.YteiphphihclnfaaDoor
open Go.RowKit Go.Shelf
open Go.Proofs.YteiphphihclnfaaDoor.Nm
/-- Whether a helper can be an element of a table. -/
def helpB (x : Hp) : Bool := (Gl.errP x.cmd == 0) && (textB x.out && (decide (0 ≤ x.ticks) && decide (x.ticks ≤ 1000)))
/-- What is wrong with a table and a limit. -/
def checkT (l : List Hp) (limit : Int) : Int := if limit < 1 ∨ 1000 < limit ∨ 64 < l.length then 140 else if l.all helpB then 0 else 140
theorem gcheck_any {p : List UInt8} (hp : p.length ≤ 4611686018427387904) (w : World) : Calls Tryd.prog 40 #[.string (bs p)] w fun e w' => e = .returned (.int .i64 (Gl.errP p)) ∧ Kp [] w w' :=
  (Gl.check_any (bs p) w hp).mono fun _ _ ⟨h1, h2⟩ => ⟨h1, Kp.of_below h2⟩
theorem rcheck_any {p : List UInt8} (hp : p.length ≤ 4611686018427387904) (w : World) : Calls Tryd.prog 25 #[.string (bs p)] w fun e w' => e = .returned (.int .i64 (Gl.errP p)) ∧ Kp [] w w' :=
  (Gl.refCheck_any (bs p) w hp).mono fun _ _ ⟨h1, h2⟩ => ⟨h1, Kp.of_below h2⟩
theorem ntext_any {p : List UInt8} (hp : p.length ≤ 4611686018427387904) (w : World) : Calls Tryd.prog 41 #[.string (bs p)] w fun e w' => e = .returned (.bool (textB p)) ∧ Kp [] w w' :=
  (text_any (bs p) w hp).mono fun _ _ ⟨h1, h2⟩ => ⟨h1, Kp.of_below h2⟩
theorem rtext_any {p : List UInt8} (hp : p.length ≤ 4611686018427387904) (w : World) : Calls Tryd.prog 26 #[.string (bs p)] w fun e w' => e = .returned (.bool (textB p)) ∧ Kp [] w w' :=
  (refText_any (bs p) w hp).mono fun _ _ ⟨h1, h2⟩ => ⟨h1, by rw [h2]; exact Kp.refl _ _⟩
set_option maxRecDepth 100000 in
set_option maxHeartbeats 4000000 in
theorem isHelper_any {x : Hp} (hx : SmH x) (W : World) : Calls Tryd.prog 24 #[.agg #[.string (bs x.cmd), .string (bs x.out), .bool x.fails, .int .i64 x.ticks]] W fun e W' => e = .returned (.bool (helpB x)) ∧ Kp [] W W' := by
  obtain ⟨W1, hW1⟩ : ∃ W1, W.alloc (.cells #[.string (bs x.cmd), .string (bs x.out), .bool x.fails, .int .i64 x.ticks] 33) = W1 := ⟨_, rfl⟩
  obtain ⟨B, hB⟩ : ∃ B, W.heap.size = B := ⟨_, rfl⟩
  have hk : Kp [] W W1 := by rw [← hW1]; exact (Kp.refl [] W).alloc _
  have hb : W1.heap[B]? = some (.cells #[.string (bs x.cmd), .string (bs x.out), .bool x.fails, .int .i64 x.ticks] 33) := by rw [← hW1, ← hB]; exact heap_alloc_last W _
  have HCC := Lib.hid fun W' (h : Kp [] W1 W') => show W'.cell? ⟨B, 0, none⟩ = some (.string (bs x.cmd)) ∧ W'.cell? ⟨B, 1, none⟩ = some (.string (bs x.out)) ∧ W'.cell? ⟨B, 3, none⟩ = some (.int .i64 x.ticks) from by
    have e := (h.block B (block_lt hb) (by simp)).trans hb
    refine ⟨?_, ?_, ?_⟩ <;> (rw [cell_of_row _ _ _ _ _ _ e]; rfl)
  obtain ⟨c0, c1, c3⟩ := HCC.out _ (Kp.refl _ _)
  have HK := Lib.hid hk
  have H1 := Lib.hid (gcheck_any hx.1 W1)
  have H2 := Lib.hid fun W' => ntext_any hx.2 W'
  have HP : helpB x = ((Gl.errP x.cmd == 0) && (textB x.out && (decide (0 ≤ x.ticks) && decide (x.ticks ≤ 1000)))) := rfl
  obtain ⟨E, hE⟩ : ∃ E, Gl.errP x.cmd = E := ⟨_, rfl⟩
  obtain ⟨tb, htb⟩ : ∃ tb, textB x.out = tb := ⟨_, rfl⟩
  rw [hE] at H1 HP
  rw [htb] at H2 HP
  have HPP := Lib.hid HP
  clear hk hb hx HP hE htb
  by_cases h0 : E = 0
  · subst h0
    cases tb with
    | true =>
      by_cases h1 : 0 ≤ x.ticks
      · by_cases h2 : x.ticks ≤ 1000
        · have HR := Lib.hid (show helpB x = true by rw [HPP.out]; simp [h1, h2])
          go_enter Tryd.func24, Tryd.ntmps24
          go_wp2_with (first
            | (go_at_call 40; refine Calls.mono (by with_reducible exact H1.out) ?_; rintro e w2 ⟨rfl, hk2⟩; obtain ⟨d0, d1, d3⟩ := HCC.out _ hk2; have HK2 := Lib.hid hk2; clear hk2 c0 c1 c3)
            | (go_at_call 41; refine Calls.mono (by with_reducible exact H2.out _) ?_; rintro e w3 ⟨rfl, hk3⟩; obtain ⟨f0, f1, f3⟩ := HCC.out _ (HK2.out.trans hk3); have HK3 := Lib.hid (HK.out.trans (HK2.out.trans hk3)); clear hk3 d0 d1 d3))
          go_ret
          exact ⟨by rw [HR.out]; rfl, HK3.out⟩
        · have HD := Lib.hid (show decide (x.ticks ≤ 1000) = false from decide_eq_false h2)
          have HR := Lib.hid (show helpB x = false by rw [HPP.out]; simp [h2])
          go_enter Tryd.func24, Tryd.ntmps24
          go_wp2_with (first
            | (go_at_call 40; refine Calls.mono (by with_reducible exact H1.out) ?_; rintro e w2 ⟨rfl, hk2⟩; obtain ⟨d0, d1, d3⟩ := HCC.out _ hk2; have HK2 := Lib.hid hk2; clear hk2 c0 c1 c3)
            | (go_at_call 41; refine Calls.mono (by with_reducible exact H2.out _) ?_; rintro e w3 ⟨rfl, hk3⟩; obtain ⟨f0, f1, f3⟩ := HCC.out _ (HK2.out.trans hk3); have HK3 := Lib.hid (HK.out.trans (HK2.out.trans hk3)); clear hk3 d0 d1 d3))
          go_ret
          exact ⟨by rw [HR.out]; show Ending.returned (Value.bool (decide (x.ticks ≤ 1000))) = _; rw [HD.out], HK3.out⟩
      · have HR := Lib.hid (show helpB x = false by rw [HPP.out]; simp [h1])
        go_enter Tryd.func24, Tryd.ntmps24
        go_wp2_with (first
          | (go_at_call 40; refine Calls.mono (by with_reducible exact H1.out) ?_; rintro e w2 ⟨rfl, hk2⟩; obtain ⟨d0, d1, d3⟩ := HCC.out _ hk2; have HK2 := Lib.hid hk2; clear hk2 c0 c1 c3)
          | (go_at_call 41; refine Calls.mono (by with_reducible exact H2.out _) ?_; rintro e w3 ⟨rfl, hk3⟩; obtain ⟨f0, f1, f3⟩ := HCC.out _ (HK2.out.trans hk3); have HK3 := Lib.hid (HK.out.trans (HK2.out.trans hk3)); clear hk3 d0 d1 d3))
        go_ret
        exact ⟨by rw [HR.out]; rfl, HK3.out⟩
    | false =>
      have HR := Lib.hid (show helpB x = false by rw [HPP.out]; simp)
      go_enter Tryd.func24, Tryd.ntmps24
      go_wp2_with (first
        | (go_at_call 40; refine Calls.mono (by with_reducible exact H1.out) ?_; rintro e w2 ⟨rfl, hk2⟩; obtain ⟨d0, d1, d3⟩ := HCC.out _ hk2; have HK2 := Lib.hid hk2; clear hk2 c0 c1 c3)
        | (go_at_call 41; refine Calls.mono (by with_reducible exact H2.out _) ?_; rintro e w3 ⟨rfl, hk3⟩; obtain ⟨f0, f1, f3⟩ := HCC.out _ (HK2.out.trans hk3); have HK3 := Lib.hid (HK.out.trans (HK2.out.trans hk3)); clear hk3 d0 d1 d3))
      go_ret
      exact ⟨by rw [HR.out]; rfl, HK3.out⟩
  · have h0b : (E == 0) = false := by simpa using h0
    have HR := Lib.hid (show helpB x = false by rw [HPP.out, h0b]; simp)
    go_enter Tryd.func24, Tryd.ntmps24
    go_wp2_with (go_at_call 40; refine Calls.mono (by with_reducible exact H1.out) ?_; rintro e w2 ⟨rfl, hk2⟩; have HK2 := Lib.hid hk2; clear hk2 c0 c1 c3)
    go_ret
    exact ⟨by rw [HR.out]; rfl, HK.out.trans HK2.out⟩
theorem checkT_bad {l : List Hp} {limit : Int} (h : limit < 1 ∨ 1000 < limit ∨ 64 < l.length) : checkT l limit = 140 := by unfold checkT; rw [if_pos h]
theorem checkT_ok {l : List Hp} {limit : Int} (h : ¬ (limit < 1 ∨ 1000 < limit ∨ 64 < l.length)) (h2 : l.all helpB = true) : checkT l limit = 0 := by unfold checkT; rw [if_neg h, if_pos h2]
theorem checkT_no {l : List Hp} {limit : Int} (h : ¬ (limit < 1 ∨ 1000 < limit ∨ 64 < l.length)) {x : Hp} (hx : x ∈ l) (h2 : helpB x = false) : checkT l limit = 140 := by
  unfold checkT
  rw [if_neg h, if_neg]
  intro h3
  rw [List.all_eq_true.1 h3 x hx] at h2
  cases h2
theorem all_step {l : List Hp} {i : Nat} {x : Hp} (h : (l.take i).all helpB = true) (hx : l[i]? = some x) (h2 : helpB x = true) : (l.take (i + 1)).all helpB = true := by
  rw [List.take_add_one, hx, List.all_append, h]
  simp [h2]
/-- That all so far can be elements. -/
def AllH (l : List Hp) (i : Nat) : Prop := (l.take i).all helpB = true
set_option maxRecDepth 100000 in
set_option maxHeartbeats 8000000 in
theorem check_any {l : List Hp} (hl : l.length ≤ 1000000) (hs : ∀ x ∈ l, SmH x) {v : Value} {limit : Int} {w : World} (hh : hpT.Has w v l) :
    Calls Tryd.prog 13 #[v, .int .i64 limit] w fun e w' => e = .returned (.int .i64 (checkT l limit)) ∧ Kp [] w w' := by
  obtain ⟨va, vc, rfl, hrow⟩ := hh.form
  have HROW := Lib.hid hrow
  have HSM := Lib.hid hs
  clear hrow hh hs
  obtain ⟨R, hR⟩ : ∃ R, checkT l limit = R := ⟨_, rfl⟩
  have HR := Lib.hid hR
  rw [hR]
  clear hR
  by_cases h1 : limit < 1
  · have HE := Lib.hid (show R = 140 by rw [← HR.out]; exact checkT_bad (.inl h1))
    go_enter Tryd.func13, Tryd.ntmps13
    go_wp2
    go_ret
    exact ⟨by rw [HE.out]; rfl, Kp.refl _ _⟩
  · by_cases h2 : 1000 < limit
    · have HE := Lib.hid (show R = 140 by rw [← HR.out]; exact checkT_bad (.inr (.inl h2)))
      go_enter Tryd.func13, Tryd.ntmps13
      go_wp2
      go_ret
      exact ⟨by rw [HE.out]; rfl, Kp.refl _ _⟩
    · by_cases h3 : 64 < l.length
      · have HE := Lib.hid (show R = 140 by rw [← HR.out]; exact checkT_bad (.inr (.inr h3)))
        have h3b : (64 : Int) < (l.length : Int) := by omega
        go_enter Tryd.func13, Tryd.ntmps13
        go_wp2
        go_ret
        exact ⟨by rw [HE.out]; rfl, Kp.refl _ _⟩
      · have h3b : ¬ (64 : Int) < (l.length : Int) := by omega
        have hg : ¬ (limit < 1 ∨ 1000 < limit ∨ 64 < l.length) := by omega
        have HG := Lib.hid hg
        clear hg h3
        go_enter Tryd.func13, Tryd.ntmps13
        go_wp2
        go_loopg [20] l.length (fun g s20 wx => ∃ i : Nat, s20 = .int .i64 (i : Int) ∧ AllH l i ∧ i + g = l.length ∧ Kp [] w wx)
        case atStart => exact ⟨0, rfl, rfl, by omega, Kp.refl _ _⟩
        case round =>
          obtain ⟨i, rfl, hno, hig, hkp⟩ := hrel
          have HK := Lib.hid hkp
          have HNO := Lib.hid hno
          by_cases hi : i < l.length
          · obtain ⟨g, rfl⟩ : ∃ g, gk = g + 1 := ⟨gk - 1, by omega⟩
            obtain ⟨b, o, rfl, hbl, hr⟩ := HROW.out (by rintro rfl; simp at hi)
            obtain ⟨x, hx⟩ : ∃ x, l[i]? = some x := ⟨_, List.getElem?_eq_getElem hi⟩
            have hiz : (i : Int) < (l.length : Int) := by omega
            obtain ⟨c0, c1, c2, c3⟩ := hpRow (hr.keep (hkp.block b hbl (by simp))) hx
            have hwi : IntKind.i64.wrap ((i : Int) + 1) = ((i + 1 : Nat) : Int) := by rw [IntKind.wrap_i64]; omega
            have HI := Lib.hid hig
            have hxm := List.mem_of_getElem? hx
            have HP := Lib.hid fun W => isHelper_any (HSM.out x hxm) W
            have HKA := Lib.hid fun o => hkp.alloc o
            cases hp : helpB x with
            | true =>
              have HT := Lib.hid (show AllH l (i + 1) from all_step hno hx hp)
              rw [hp] at HP
              clear hkp hr hx hig hbl hno hp hxm
              go_wp2_with (go_at_call 24; refine Calls.mono (by with_reducible exact HP.out _) ?_; rintro e w1 ⟨rfl, hk1⟩; have HK1 := Lib.hid ((HKA.out _).trans hk1); clear hk1)
              go_roundg g
              case measure => omega
              case rel => exact ⟨i + 1, rfl, HT.out, by have := HI.out; omega, HK1.out⟩
            | false =>
              have HE := Lib.hid (show R = 140 by rw [← HR.out]; exact checkT_no HG.out hxm hp)
              rw [hp] at HP
              clear hkp hr hx hig hbl hno hp hxm
              go_wp2_with (go_at_call 24; refine Calls.mono (by with_reducible exact HP.out _) ?_; rintro e w1 ⟨rfl, hk1⟩; have HK1 := Lib.hid ((HKA.out _).trans hk1); clear hk1)
              go_ret
              exact ⟨by rw [HE.out]; rfl, HK1.out⟩
          · have hiz : ¬ ((i : Int) < (l.length : Int)) := by omega
            have hie : l.take i = l := List.take_of_length_le (by omega)
            have HE := Lib.hid (show R = 0 by rw [← HR.out]; unfold AllH at hno; rw [hie] at hno; exact checkT_ok HG.out hno)
            clear hkp hig hi hie hno
            go_wp2
            go_ret
            exact ⟨by rw [HE.out]; rfl, HK.out⟩
set_option maxRecDepth 100000 in
set_option maxHeartbeats 8000000 in
theorem refCheckT_any {l : List Hp} (hl : l.length ≤ 1000000) (hs : ∀ x ∈ l, SmH x) {v : Value} {limit : Int} {w : World} (hh : hpT.Has w v l) :
    Calls Tryd.prog 14 #[v, .int .i64 limit] w fun e w' => e = .returned (.int .i64 (checkT l limit)) ∧ Kp [] w w' := by
  obtain ⟨va, vc, rfl, hrow⟩ := hh.form
  have HROW := Lib.hid hrow
  have HSM := Lib.hid hs
  clear hrow hh hs
  obtain ⟨R, hR⟩ : ∃ R, checkT l limit = R := ⟨_, rfl⟩
  have HR := Lib.hid hR
  rw [hR]
  clear hR
  by_cases h1 : limit < 1
  · have HE := Lib.hid (show R = 140 by rw [← HR.out]; exact checkT_bad (.inl h1))
    go_enter Tryd.func14, Tryd.ntmps14
    go_wp2
    go_ret
    exact ⟨by rw [HE.out]; rfl, Kp.refl _ _⟩
  · by_cases h2 : 1000 < limit
    · have HE := Lib.hid (show R = 140 by rw [← HR.out]; exact checkT_bad (.inr (.inl h2)))
      go_enter Tryd.func14, Tryd.ntmps14
      go_wp2
      go_ret
      exact ⟨by rw [HE.out]; rfl, Kp.refl _ _⟩
    · by_cases h3 : 64 < l.length
      · have HE := Lib.hid (show R = 140 by rw [← HR.out]; exact checkT_bad (.inr (.inr h3)))
        have h3b : (64 : Int) < (l.length : Int) := by omega
        go_enter Tryd.func14, Tryd.ntmps14
        go_wp2
        go_ret
        exact ⟨by rw [HE.out]; rfl, Kp.refl _ _⟩
      · have h3b : ¬ (64 : Int) < (l.length : Int) := by omega
        have hg : ¬ (limit < 1 ∨ 1000 < limit ∨ 64 < l.length) := by omega
        have HG := Lib.hid hg
        clear hg h3
        go_enter Tryd.func14, Tryd.ntmps14
        go_wp2
        go_loopg [5] l.length (fun g s5 wx => ∃ i : Nat, s5 = .int .i64 (i : Int) ∧ AllH l i ∧ i + g = l.length ∧ Kp [] w wx)
        case atStart => exact ⟨0, rfl, rfl, by omega, Kp.refl _ _⟩
        case round =>
          obtain ⟨i, rfl, hno, hig, hkp⟩ := hrel
          have HK := Lib.hid hkp
          have HNO := Lib.hid hno
          by_cases hi : i < l.length
          · obtain ⟨g, rfl⟩ : ∃ g, gk = g + 1 := ⟨gk - 1, by omega⟩
            obtain ⟨b, o, rfl, hbl, hr⟩ := HROW.out (by rintro rfl; simp at hi)
            obtain ⟨x, hx⟩ : ∃ x, l[i]? = some x := ⟨_, List.getElem?_eq_getElem hi⟩
            have hiz : (i : Int) < (l.length : Int) := by omega
            have HRW := Lib.hid fun W' (h : Kp [] w W') => hpRow (hr.keep (h.block b hbl (by simp))) hx
            obtain ⟨c0, c1, c2, c3⟩ := HRW.out _ hkp
            have hwi : IntKind.i64.wrap ((i : Int) + 1) = ((i + 1 : Nat) : Int) := by rw [IntKind.wrap_i64]; omega
            have HI := Lib.hid hig
            have hxm := List.mem_of_getElem? hx
            have H1 := Lib.hid fun W => rcheck_any (HSM.out x hxm).1 W
            have H2 := Lib.hid fun W => rtext_any (HSM.out x hxm).2 W
            have HP : helpB x = ((Gl.errP x.cmd == 0) && (textB x.out && (decide (0 ≤ x.ticks) && decide (x.ticks ≤ 1000)))) := rfl
            obtain ⟨E, hE⟩ : ∃ E, Gl.errP x.cmd = E := ⟨_, rfl⟩
            obtain ⟨tb, htb⟩ : ∃ tb, textB x.out = tb := ⟨_, rfl⟩
            rw [hE] at H1 HP
            rw [htb] at H2 HP
            have HPP := Lib.hid HP
            clear HP hE htb
            by_cases h0 : E = 0
            · subst h0
              cases tb with
              | true =>
                by_cases h4 : x.ticks < 0
                · have h4b : decide (0 ≤ x.ticks) = false := decide_eq_false (by omega)
                  have H4 := Lib.hid h4b
                  clear h4b
                  have HE := Lib.hid (show R = 140 by rw [← HR.out]; exact checkT_no HG.out hxm (by rw [HPP.out]; rw [H4.out]; rfl))
                  clear hkp hr hx hig hbl hno hxm
                  go_wp2_with (first | (go_at_call 25; refine Calls.mono (by with_reducible exact H1.out _) ?_; rintro e w1 ⟨rfl, hk1⟩; obtain ⟨d0, d1, d2, d3⟩ := HRW.out _ (HK.out.trans hk1); have HK1 := Lib.hid (HK.out.trans hk1); clear hk1 c0 c1 c2 c3) | (go_at_call 26; refine Calls.mono (by with_reducible exact H2.out _) ?_; rintro e w2 ⟨rfl, hk2⟩; obtain ⟨f0, f1, f2, f3⟩ := HRW.out _ (HK1.out.trans hk2); have HK2 := Lib.hid (HK1.out.trans hk2); clear hk2 d0 d1 d2 d3))
                  go_ret
                  exact ⟨by rw [HE.out]; rfl, HK2.out⟩
                · have h4b : decide (0 ≤ x.ticks) = true := decide_eq_true (by omega)
                  have H4 := Lib.hid h4b
                  clear h4b
                  by_cases h5 : 1000 < x.ticks
                  · have h5b : decide (x.ticks ≤ 1000) = false := decide_eq_false (by omega)
                    have H5 := Lib.hid h5b
                    clear h5b
                    have HE := Lib.hid (show R = 140 by rw [← HR.out]; exact checkT_no HG.out hxm (by rw [HPP.out]; rw [H4.out, H5.out]; rfl))
                    clear hkp hr hx hig hbl hno hxm
                    go_wp2_with (first | (go_at_call 25; refine Calls.mono (by with_reducible exact H1.out _) ?_; rintro e w1 ⟨rfl, hk1⟩; obtain ⟨d0, d1, d2, d3⟩ := HRW.out _ (HK.out.trans hk1); have HK1 := Lib.hid (HK.out.trans hk1); clear hk1 c0 c1 c2 c3) | (go_at_call 26; refine Calls.mono (by with_reducible exact H2.out _) ?_; rintro e w2 ⟨rfl, hk2⟩; obtain ⟨f0, f1, f2, f3⟩ := HRW.out _ (HK1.out.trans hk2); have HK2 := Lib.hid (HK1.out.trans hk2); clear hk2 d0 d1 d2 d3))
                    go_ret
                    exact ⟨by rw [HE.out]; rfl, HK2.out⟩
                  · have h5b : decide (x.ticks ≤ 1000) = true := decide_eq_true (by omega)
                    have H5 := Lib.hid h5b
                    clear h5b
                    have HT := Lib.hid (show AllH l (i + 1) from all_step hno hx (by rw [HPP.out, H4.out, H5.out]; rfl))
                    clear hkp hr hx hig hbl hno hxm
                    go_wp2_with (first | (go_at_call 25; refine Calls.mono (by with_reducible exact H1.out _) ?_; rintro e w1 ⟨rfl, hk1⟩; obtain ⟨d0, d1, d2, d3⟩ := HRW.out _ (HK.out.trans hk1); have HK1 := Lib.hid (HK.out.trans hk1); clear hk1 c0 c1 c2 c3) | (go_at_call 26; refine Calls.mono (by with_reducible exact H2.out _) ?_; rintro e w2 ⟨rfl, hk2⟩; obtain ⟨f0, f1, f2, f3⟩ := HRW.out _ (HK1.out.trans hk2); have HK2 := Lib.hid (HK1.out.trans hk2); clear hk2 d0 d1 d2 d3))
                    go_roundg g
                    case measure => omega
                    case rel => exact ⟨i + 1, rfl, HT.out, by have := HI.out; omega, HK2.out⟩
              | false =>
                have HE := Lib.hid (show R = 140 by rw [← HR.out]; exact checkT_no HG.out hxm (by rw [HPP.out]; rfl))
                clear hkp hr hx hig hbl hno hxm
                go_wp2_with (first | (go_at_call 25; refine Calls.mono (by with_reducible exact H1.out _) ?_; rintro e w1 ⟨rfl, hk1⟩; obtain ⟨d0, d1, d2, d3⟩ := HRW.out _ (HK.out.trans hk1); have HK1 := Lib.hid (HK.out.trans hk1); clear hk1 c0 c1 c2 c3) | (go_at_call 26; refine Calls.mono (by with_reducible exact H2.out _) ?_; rintro e w2 ⟨rfl, hk2⟩; obtain ⟨f0, f1, f2, f3⟩ := HRW.out _ (HK1.out.trans hk2); have HK2 := Lib.hid (HK1.out.trans hk2); clear hk2 d0 d1 d2 d3))
                go_ret
                exact ⟨by rw [HE.out]; rfl, HK2.out⟩
            · have h0b : (E == 0) = false := by simpa using h0
              have H0 := Lib.hid h0b
              have HE := Lib.hid (show R = 140 by rw [← HR.out]; exact checkT_no HG.out hxm (by rw [HPP.out]; rw [H0.out]; rfl))
              clear hkp hr hx hig hbl hno hxm
              go_wp2_with (go_at_call 25; refine Calls.mono (by with_reducible exact H1.out _) ?_; rintro e w1 ⟨rfl, hk1⟩; obtain ⟨d0, d1, d2, d3⟩ := HRW.out _ (HK.out.trans hk1); have HK1 := Lib.hid (HK.out.trans hk1); clear hk1 c0 c1 c2 c3)
              go_ret
              exact ⟨by rw [HE.out]; rfl, HK1.out⟩
          · have hiz : ¬ ((i : Int) < (l.length : Int)) := by omega
            have hie : l.take i = l := List.take_of_length_le (by omega)
            have HE := Lib.hid (show R = 0 by rw [← HR.out]; unfold AllH at hno; rw [hie] at hno; exact checkT_ok HG.out hno)
            clear hkp hig hi hie hno
            go_wp2
            go_ret
            exact ⟨by rw [HE.out]; rfl, HK.out⟩
end Go.Proofs.YteiphphihclnfaaDoor
