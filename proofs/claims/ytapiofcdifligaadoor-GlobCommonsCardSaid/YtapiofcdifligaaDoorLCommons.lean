/- GlobCommons: the law's walk; the reference's Common for all texts. -/
import Derived.Test.YtapiofcdifligaaDoorRY
namespace Go.Proofs.YtapiofcdifligaaDoor
open Go.RowKit

set_option maxHeartbeats 1000000 in
set_option maxRecDepth 100000 in
theorem refCommon_any (p q : ByteArray) (w : World) (hp : p.size ≤ 4611686018427387904) (hq : q.size ≤ 4611686018427387904) (hp16 : ∀ x, altsP p.data.toList = some x → p.size ≤ 16) (hq16 : ∀ x, altsP q.data.toList = some x → q.size ≤ 16) : Calls Tryd.prog 22 #[.string p, .string q] w (Bel (comRes p.data.toList q.data.toList) w) := by
  unfold comRes
  cases h : altsP p.data.toList with
  | none =>
    have hc := fun W => refCheck_any p W hp
    have hne2 : (errP p.data.toList != 0) = true := by
      rcases errP_none h with h1 | h1 <;> rw [h1] <;> rfl
    simp only
    generalize errP p.data.toList = E at *
    have Hc := Lib.hid hc
    clear hc h hp16 hq16
    go_enter Tryd.func22, Tryd.ntmps22
    go_wp2_with fail
    refine (Hc.out _).mono ?_
    rintro e W1 ⟨rfl, hb⟩
    go_wp2
    go_ret3
    exact ⟨rfl, hb⟩
  | some x =>
    cases h2 : altsP q.data.toList with
    | none =>
      have hc := fun W => refCheck_any p W hp
      rw [errP_some h] at hc
      have hc2 := fun W => refCheck_any q W hq
      have hne2 : (errP q.data.toList != 0) = true := by
        rcases errP_none h2 with h1 | h1 <;> rw [h1] <;> rfl
      simp only
      generalize errP q.data.toList = E at *
      have Hc := Lib.hid hc
      have Hc2 := Lib.hid hc2
      clear hc hc2 h h2 hp16 hq16
      go_enter Tryd.func22, Tryd.ntmps22
      go_wp2_with fail
      refine (Hc.out _).mono ?_
      rintro e W1 ⟨rfl, hb⟩
      have Hb := Lib.hid hb
      clear hb
      go_wp2_with fail
      refine (Hc2.out _).mono ?_
      rintro e W2 ⟨rfl, hb⟩
      go_wp2
      go_ret3
      exact ⟨rfl, Hb.out.trans (hb.mono Hb.out.size)⟩
    | some y => exact refCommon_main p q x y w h h2 (hp16 x h) (hq16 y h2)

set_option maxHeartbeats 400000 in
set_option maxRecDepth 100000 in
theorem comp_long (p : ByteArray) (w : World) (h : (256 : Int) < (p.size : Int)) : Calls Tryd.prog 26 #[.string p] w (Bel (.tuple #[.slice none 0 0, .int .i64 21]) w) := by
  go_enter Tryd.func26, Tryd.ntmps26
  go_wp2
  go_ret2
  exact ⟨rfl, Below.refl _ _⟩
set_option maxHeartbeats 400000 in
set_option maxRecDepth 100000 in
theorem check_all (p : ByteArray) (w : World) : Calls Tryd.prog 13 #[.string p] w (Bel (.int .i64 (errP p.data.toList)) w) := by
  by_cases h : 256 < p.size
  · have he : errP p.data.toList = 21 := by
      unfold errP
      rw [if_pos (by rw [← Lib.size_eq]; exact h)]
    rw [he]
    have Hc := Lib.hid fun W => comp_long p W (by omega)
    clear he h
    go_enter Tryd.func13, Tryd.ntmps13
    go_wp2_with fail
    refine (Hc.out _).mono ?_
    rintro e W1 ⟨rfl, hb⟩
    go_wp2
    go_ret
    exact ⟨rfl, hb⟩
  · exact check_any p w (by omega)

theorem comRes_form (p q : List UInt8) : ∃ (s : ByteArray) (b : Bool) (e : Int), comRes p q = .tuple #[.string s, .bool b, .int .i64 e] := by
  unfold comRes
  cases altsP p with
  | none => exact ⟨_, _, _, rfl⟩
  | some x =>
    cases altsP q with
    | none => exact ⟨_, _, _, rfl⟩
    | some y => exact ⟨_, _, _, rfl⟩

set_option maxHeartbeats 2000000 in
set_option maxRecDepth 100000 in
theorem globCommons_walk (p q : ByteArray) (w : World) (hT : TabAt w) : Calls Tryd.prog 6 #[.string p, .string q] w (Bel (.bool true) w) := by
  have Hk := Lib.hid known_any
  have HT := Lib.hid hT
  have Hb := Lib.hid (Below.refl w.heap.size w)
  have Hcp := Lib.hid fun W => check_all p W
  have Hcq := Lib.hid fun W => check_all q W
  obtain ⟨rs, rb, re, hcr⟩ := comRes_form p.data.toList q.data.toList
  have hcm := fun W (h : TabAt W) (h1 : p.size ≤ 400) (h2 : q.size ≤ 400) => common_any p q W (by omega) (by omega) h
  have hrm := fun W (h1 : ∀ x, altsP p.data.toList = some x → p.size ≤ 16) (h2 : ∀ x, altsP q.data.toList = some x → q.size ≤ 16) (h3 : p.size ≤ 400) (h4 : q.size ≤ 400) => refCommon_any p q W (by omega) (by omega) h1 h2
  rw [hcr] at hcm hrm
  have Hcm := Lib.hid hcm
  have Hrm := Lib.hid hrm
  have HEP := Lib.hid fun (x : List (List El)) (h : altsP p.data.toList = some x) => errP_some h
  have HEQ := Lib.hid fun (x : List (List El)) (h : altsP q.data.toList = some x) => errP_some h
  clear hT hcr hcm hrm
  generalize errP p.data.toList = EP at *
  generalize errP q.data.toList = EQ at *
  by_cases h1 : (16 : Int) < (p.size : Int)
  · cases e1 : (EP == 0) with
    | true =>
      go_enter Tryd.func6, Tryd.ntmps6
      go_wp2_with fail
      refine (Hcp.out _).mono ?_
      rintro e W1 ⟨rfl, hb⟩
      replace Hb := Lib.hid (Hb.out.trans (hb.mono Hb.out.size))
      clear hb
      go_wp2_with fail
      refine (Hk.out _ (HT.out.below Hb.out)).mono ?_
      rintro e W1 ⟨rfl, hb⟩
      replace Hb := Lib.hid (Hb.out.trans (hb.mono Hb.out.size))
      clear hb
      go_wp2
      go_ret
      exact ⟨rfl, Hb.out⟩
    | false =>
      by_cases h2 : (16 : Int) < (q.size : Int)
      · cases e2 : (EQ == 0) with
        | true =>
          go_enter Tryd.func6, Tryd.ntmps6
          go_wp2_with fail
          refine (Hcp.out _).mono ?_
          rintro e W1 ⟨rfl, hb⟩
          replace Hb := Lib.hid (Hb.out.trans (hb.mono Hb.out.size))
          clear hb
          go_wp2_with fail
          refine (Hcq.out _).mono ?_
          rintro e W1 ⟨rfl, hb⟩
          replace Hb := Lib.hid (Hb.out.trans (hb.mono Hb.out.size))
          clear hb
          go_wp2_with fail
          refine (Hk.out _ (HT.out.below Hb.out)).mono ?_
          rintro e W1 ⟨rfl, hb⟩
          replace Hb := Lib.hid (Hb.out.trans (hb.mono Hb.out.size))
          clear hb
          go_wp2
          go_ret
          exact ⟨rfl, Hb.out⟩
        | false =>
          by_cases h3 : (400 : Int) < (p.size : Int)
          · go_enter Tryd.func6, Tryd.ntmps6
            go_wp2_with fail
            refine (Hcp.out _).mono ?_
            rintro e W1 ⟨rfl, hb⟩
            replace Hb := Lib.hid (Hb.out.trans (hb.mono Hb.out.size))
            clear hb
            go_wp2_with fail
            refine (Hcq.out _).mono ?_
            rintro e W1 ⟨rfl, hb⟩
            replace Hb := Lib.hid (Hb.out.trans (hb.mono Hb.out.size))
            clear hb
            go_wp2_with fail
            refine (Hk.out _ (HT.out.below Hb.out)).mono ?_
            rintro e W1 ⟨rfl, hb⟩
            replace Hb := Lib.hid (Hb.out.trans (hb.mono Hb.out.size))
            clear hb
            go_wp2
            go_ret
            exact ⟨rfl, Hb.out⟩
          · by_cases h4 : (400 : Int) < (q.size : Int)
            · go_enter Tryd.func6, Tryd.ntmps6
              go_wp2_with fail
              refine (Hcp.out _).mono ?_
              rintro e W1 ⟨rfl, hb⟩
              replace Hb := Lib.hid (Hb.out.trans (hb.mono Hb.out.size))
              clear hb
              go_wp2_with fail
              refine (Hcq.out _).mono ?_
              rintro e W1 ⟨rfl, hb⟩
              replace Hb := Lib.hid (Hb.out.trans (hb.mono Hb.out.size))
              clear hb
              go_wp2_with fail
              refine (Hk.out _ (HT.out.below Hb.out)).mono ?_
              rintro e W1 ⟨rfl, hb⟩
              replace Hb := Lib.hid (Hb.out.trans (hb.mono Hb.out.size))
              clear hb
              go_wp2
              go_ret
              exact ⟨rfl, Hb.out⟩
            · have Hrm2 := Lib.hid fun W => Hrm.out W (fun x h => by have := HEP.out x h; rw [this] at e1; cases e1) (fun x h => by have := HEQ.out x h; rw [this] at e2; cases e2) (by omega) (by omega)
              have Hcm2 := Lib.hid fun W h => Hcm.out W h (by omega) (by omega)
              go_enter Tryd.func6, Tryd.ntmps6
              go_wp2_with fail
              refine (Hcp.out _).mono ?_
              rintro e W1 ⟨rfl, hb⟩
              replace Hb := Lib.hid (Hb.out.trans (hb.mono Hb.out.size))
              clear hb
              go_wp2_with fail
              refine (Hcq.out _).mono ?_
              rintro e W1 ⟨rfl, hb⟩
              replace Hb := Lib.hid (Hb.out.trans (hb.mono Hb.out.size))
              clear hb
              go_wp2_with fail
              refine (Hcm2.out _ (HT.out.below Hb.out)).mono ?_
              rintro e W1 ⟨rfl, hb⟩
              replace Hb := Lib.hid (Hb.out.trans (hb.mono Hb.out.size))
              clear hb
              go_wp2_with fail
              refine (Hrm2.out _).mono ?_
              rintro e W1 ⟨rfl, hb⟩
              replace Hb := Lib.hid (Hb.out.trans (hb.mono Hb.out.size))
              clear hb
              go_wp2_with fail
              refine (Hk.out _ (HT.out.below Hb.out)).mono ?_
              rintro e W1 ⟨rfl, hb⟩
              replace Hb := Lib.hid (Hb.out.trans (hb.mono Hb.out.size))
              clear hb
              go_wp2
              go_ret
              exact ⟨rfl, Hb.out⟩
      · by_cases h3 : (400 : Int) < (p.size : Int)
        · go_enter Tryd.func6, Tryd.ntmps6
          go_wp2_with fail
          refine (Hcp.out _).mono ?_
          rintro e W1 ⟨rfl, hb⟩
          replace Hb := Lib.hid (Hb.out.trans (hb.mono Hb.out.size))
          clear hb
          go_wp2_with fail
          refine (Hk.out _ (HT.out.below Hb.out)).mono ?_
          rintro e W1 ⟨rfl, hb⟩
          replace Hb := Lib.hid (Hb.out.trans (hb.mono Hb.out.size))
          clear hb
          go_wp2
          go_ret
          exact ⟨rfl, Hb.out⟩
        · by_cases h4 : (400 : Int) < (q.size : Int)
          · exact absurd h4 (by omega)
          · have Hrm2 := Lib.hid fun W => Hrm.out W (fun x h => by have := HEP.out x h; rw [this] at e1; cases e1) (fun _ _ => by omega) (by omega) (by omega)
            have Hcm2 := Lib.hid fun W h => Hcm.out W h (by omega) (by omega)
            go_enter Tryd.func6, Tryd.ntmps6
            go_wp2_with fail
            refine (Hcp.out _).mono ?_
            rintro e W1 ⟨rfl, hb⟩
            replace Hb := Lib.hid (Hb.out.trans (hb.mono Hb.out.size))
            clear hb
            go_wp2_with fail
            refine (Hcm2.out _ (HT.out.below Hb.out)).mono ?_
            rintro e W1 ⟨rfl, hb⟩
            replace Hb := Lib.hid (Hb.out.trans (hb.mono Hb.out.size))
            clear hb
            go_wp2_with fail
            refine (Hrm2.out _).mono ?_
            rintro e W1 ⟨rfl, hb⟩
            replace Hb := Lib.hid (Hb.out.trans (hb.mono Hb.out.size))
            clear hb
            go_wp2_with fail
            refine (Hk.out _ (HT.out.below Hb.out)).mono ?_
            rintro e W1 ⟨rfl, hb⟩
            replace Hb := Lib.hid (Hb.out.trans (hb.mono Hb.out.size))
            clear hb
            go_wp2
            go_ret
            exact ⟨rfl, Hb.out⟩
  · by_cases h2 : (16 : Int) < (q.size : Int)
    · cases e2 : (EQ == 0) with
      | true =>
        go_enter Tryd.func6, Tryd.ntmps6
        go_wp2_with fail
        refine (Hcq.out _).mono ?_
        rintro e W1 ⟨rfl, hb⟩
        replace Hb := Lib.hid (Hb.out.trans (hb.mono Hb.out.size))
        clear hb
        go_wp2_with fail
        refine (Hk.out _ (HT.out.below Hb.out)).mono ?_
        rintro e W1 ⟨rfl, hb⟩
        replace Hb := Lib.hid (Hb.out.trans (hb.mono Hb.out.size))
        clear hb
        go_wp2
        go_ret
        exact ⟨rfl, Hb.out⟩
      | false =>
        by_cases h3 : (400 : Int) < (p.size : Int)
        · exact absurd h3 (by omega)
        · by_cases h4 : (400 : Int) < (q.size : Int)
          · go_enter Tryd.func6, Tryd.ntmps6
            go_wp2_with fail
            refine (Hcq.out _).mono ?_
            rintro e W1 ⟨rfl, hb⟩
            replace Hb := Lib.hid (Hb.out.trans (hb.mono Hb.out.size))
            clear hb
            go_wp2_with fail
            refine (Hk.out _ (HT.out.below Hb.out)).mono ?_
            rintro e W1 ⟨rfl, hb⟩
            replace Hb := Lib.hid (Hb.out.trans (hb.mono Hb.out.size))
            clear hb
            go_wp2
            go_ret
            exact ⟨rfl, Hb.out⟩
          · have Hrm2 := Lib.hid fun W => Hrm.out W (fun _ _ => by omega) (fun x h => by have := HEQ.out x h; rw [this] at e2; cases e2) (by omega) (by omega)
            have Hcm2 := Lib.hid fun W h => Hcm.out W h (by omega) (by omega)
            go_enter Tryd.func6, Tryd.ntmps6
            go_wp2_with fail
            refine (Hcq.out _).mono ?_
            rintro e W1 ⟨rfl, hb⟩
            replace Hb := Lib.hid (Hb.out.trans (hb.mono Hb.out.size))
            clear hb
            go_wp2_with fail
            refine (Hcm2.out _ (HT.out.below Hb.out)).mono ?_
            rintro e W1 ⟨rfl, hb⟩
            replace Hb := Lib.hid (Hb.out.trans (hb.mono Hb.out.size))
            clear hb
            go_wp2_with fail
            refine (Hrm2.out _).mono ?_
            rintro e W1 ⟨rfl, hb⟩
            replace Hb := Lib.hid (Hb.out.trans (hb.mono Hb.out.size))
            clear hb
            go_wp2_with fail
            refine (Hk.out _ (HT.out.below Hb.out)).mono ?_
            rintro e W1 ⟨rfl, hb⟩
            replace Hb := Lib.hid (Hb.out.trans (hb.mono Hb.out.size))
            clear hb
            go_wp2
            go_ret
            exact ⟨rfl, Hb.out⟩
    · by_cases h3 : (400 : Int) < (p.size : Int)
      · exact absurd h3 (by omega)
      · by_cases h4 : (400 : Int) < (q.size : Int)
        · exact absurd h4 (by omega)
        · have Hrm2 := Lib.hid fun W => Hrm.out W (fun _ _ => by omega) (fun _ _ => by omega) (by omega) (by omega)
          have Hcm2 := Lib.hid fun W h => Hcm.out W h (by omega) (by omega)
          go_enter Tryd.func6, Tryd.ntmps6
          go_wp2_with fail
          refine (Hcm2.out _ (HT.out.below Hb.out)).mono ?_
          rintro e W1 ⟨rfl, hb⟩
          replace Hb := Lib.hid (Hb.out.trans (hb.mono Hb.out.size))
          clear hb
          go_wp2_with fail
          refine (Hrm2.out _).mono ?_
          rintro e W1 ⟨rfl, hb⟩
          replace Hb := Lib.hid (Hb.out.trans (hb.mono Hb.out.size))
          clear hb
          go_wp2_with fail
          refine (Hk.out _ (HT.out.below Hb.out)).mono ?_
          rintro e W1 ⟨rfl, hb⟩
          replace Hb := Lib.hid (Hb.out.trans (hb.mono Hb.out.size))
          clear hb
          go_wp2
          go_ret
          exact ⟨rfl, Hb.out⟩
end Go.Proofs.YtapiofcdifligaaDoor
