/- GlobChoices: the law's walk. -/
import Derived.Test.YtapiofcdifligaaDoorAL
namespace Go.Proofs.YtapiofcdifligaaDoor
open Go.RowKit

theorem bar_bytes (p q : ByteArray) : (p ++ ⟨#[124]⟩ ++ q).data.toList = p.data.toList ++ 124 :: q.data.toList := by simp
theorem bytes_append (p q : ByteArray) : (p ++ q).data.toList = p.data.toList ++ q.data.toList := by simp

set_option maxHeartbeats 1000000 in
set_option maxRecDepth 100000 in
theorem globChoices_walk (p q s : ByteArray) (w : World) (hT : TabAt w) : Calls Tryd.prog 10 #[.string p, .string q, .string s] w (Bel (.bool true) w) := by
  have Hk := Lib.hid known_any
  have HT := Lib.hid hT
  have Hb := Lib.hid (Below.refl w.heap.size w)
  clear hT
  by_cases h1 : (p.size : Int) ≤ 100
  · by_cases h2 : (q.size : Int) ≤ 100
    · by_cases h3 : (s.size : Int) ≤ 200
      · have Hp := Lib.hid fun W => check_any p W (by omega)
        have Hq := Lib.hid fun W => check_any q W (by omega)
        cases hx : altsP p.data.toList with
        | none =>
          have hne : (errP p.data.toList != 0) = true := by
            rcases errP_none hx with h | h <;> rw [h] <;> rfl
          generalize errP p.data.toList = E at *
          clear hx Hq
          go_enter Tryd.func10, Tryd.ntmps10
          go_wp2_with fail
          refine (Hp.out _).mono ?_
          rintro e W1 ⟨rfl, hb⟩
          replace Hb := Lib.hid (Hb.out.trans (hb.mono Hb.out.size))
          clear hb
          go_wp2_with fail
          refine (Hk.out _ (HT.out.below Hb.out)).mono ?_
          rintro e W1 ⟨rfl, hb⟩
          replace Hb := Lib.hid (Hb.out.trans (hb.mono Hb.out.size))
          clear hb
          go_wp2
          go_ret
          exact ⟨rfl, Hb.out⟩
        | some x =>
          rw [errP_some hx] at Hp
          cases hy : altsP q.data.toList with
          | none =>
            have hne : (errP q.data.toList != 0) = true := by
              rcases errP_none hy with h | h <;> rw [h] <;> rfl
            generalize errP q.data.toList = E at *
            clear hx hy
            go_enter Tryd.func10, Tryd.ntmps10
            go_wp2_with fail
            refine (Hp.out _).mono ?_
            rintro e W1 ⟨rfl, hb⟩
            replace Hb := Lib.hid (Hb.out.trans (hb.mono Hb.out.size))
            clear hb
            go_wp2_with fail
            refine (Hq.out _).mono ?_
            rintro e W1 ⟨rfl, hb⟩
            replace Hb := Lib.hid (Hb.out.trans (hb.mono Hb.out.size))
            clear hb
            go_wp2_with fail
            refine (Hk.out _ (HT.out.below Hb.out)).mono ?_
            rintro e W1 ⟨rfl, hb⟩
            replace Hb := Lib.hid (Hb.out.trans (hb.mono Hb.out.size))
            clear hb
            go_wp2
            go_ret
            exact ⟨rfl, Hb.out⟩
          | some y =>
            rw [errP_some hy] at Hq
            have hv := patB_choice hx hy (by rw [← Lib.size_eq, ← Lib.size_eq]; omega) s.data.toList
            have hm := fun W => match_any (p ++ ⟨#[124]⟩ ++ q) s W (by rw [Lib.size_eq, bar_bytes, List.length_append, List.length_cons, ← Lib.size_eq, ← Lib.size_eq]; omega) (by omega)
            have hmp := fun W => match_any p s W (by omega) (by omega)
            have hmq := fun W => match_any q s W (by omega) (by omega)
            rw [bar_bytes, hv] at hm
            generalize patB p.data.toList s.data.toList = b1 at *
            generalize patB q.data.toList s.data.toList = b2 at *
            clear hv hx hy
            cases b1 with
            | true =>
              rw [Bool.true_or] at hm
              have Hm := Lib.hid hm
              have Hmp := Lib.hid hmp
              clear hm hmp hmq
              go_enter Tryd.func10, Tryd.ntmps10
              go_wp2_with fail
              refine (Hp.out _).mono ?_
              rintro e W1 ⟨rfl, hb⟩
              replace Hb := Lib.hid (Hb.out.trans (hb.mono Hb.out.size))
              clear hb
              go_wp2_with fail
              refine (Hq.out _).mono ?_
              rintro e W1 ⟨rfl, hb⟩
              replace Hb := Lib.hid (Hb.out.trans (hb.mono Hb.out.size))
              clear hb
              go_wp2_with fail
              refine (Hm.out _).mono ?_
              rintro e W1 ⟨rfl, hb⟩
              replace Hb := Lib.hid (Hb.out.trans (hb.mono Hb.out.size))
              clear hb
              go_wp2_with fail
              refine (Hmp.out _).mono ?_
              rintro e W1 ⟨rfl, hb⟩
              replace Hb := Lib.hid (Hb.out.trans (hb.mono Hb.out.size))
              clear hb
              go_wp2_with fail
              refine (Hk.out _ (HT.out.below Hb.out)).mono ?_
              rintro e W1 ⟨rfl, hb⟩
              replace Hb := Lib.hid (Hb.out.trans (hb.mono Hb.out.size))
              clear hb
              go_wp2
              go_ret
              exact ⟨rfl, Hb.out⟩
            | false =>
              rw [Bool.false_or] at hm
              have Hm := Lib.hid hm
              have Hmp := Lib.hid hmp
              have Hmq := Lib.hid hmq
              clear hm hmp hmq
              cases b2 with
              | true =>
                go_enter Tryd.func10, Tryd.ntmps10
                go_wp2_with fail
                refine (Hp.out _).mono ?_
                rintro e W1 ⟨rfl, hb⟩
                replace Hb := Lib.hid (Hb.out.trans (hb.mono Hb.out.size))
                clear hb
                go_wp2_with fail
                refine (Hq.out _).mono ?_
                rintro e W1 ⟨rfl, hb⟩
                replace Hb := Lib.hid (Hb.out.trans (hb.mono Hb.out.size))
                clear hb
                go_wp2_with fail
                refine (Hm.out _).mono ?_
                rintro e W1 ⟨rfl, hb⟩
                replace Hb := Lib.hid (Hb.out.trans (hb.mono Hb.out.size))
                clear hb
                go_wp2_with fail
                refine (Hmp.out _).mono ?_
                rintro e W1 ⟨rfl, hb⟩
                replace Hb := Lib.hid (Hb.out.trans (hb.mono Hb.out.size))
                clear hb
                go_wp2_with fail
                refine (Hmq.out _).mono ?_
                rintro e W1 ⟨rfl, hb⟩
                replace Hb := Lib.hid (Hb.out.trans (hb.mono Hb.out.size))
                clear hb
                go_wp2_with fail
                refine (Hk.out _ (HT.out.below Hb.out)).mono ?_
                rintro e W1 ⟨rfl, hb⟩
                replace Hb := Lib.hid (Hb.out.trans (hb.mono Hb.out.size))
                clear hb
                go_wp2
                go_ret
                exact ⟨rfl, Hb.out⟩
              | false =>
                go_enter Tryd.func10, Tryd.ntmps10
                go_wp2_with fail
                refine (Hp.out _).mono ?_
                rintro e W1 ⟨rfl, hb⟩
                replace Hb := Lib.hid (Hb.out.trans (hb.mono Hb.out.size))
                clear hb
                go_wp2_with fail
                refine (Hq.out _).mono ?_
                rintro e W1 ⟨rfl, hb⟩
                replace Hb := Lib.hid (Hb.out.trans (hb.mono Hb.out.size))
                clear hb
                go_wp2_with fail
                refine (Hm.out _).mono ?_
                rintro e W1 ⟨rfl, hb⟩
                replace Hb := Lib.hid (Hb.out.trans (hb.mono Hb.out.size))
                clear hb
                go_wp2_with fail
                refine (Hmp.out _).mono ?_
                rintro e W1 ⟨rfl, hb⟩
                replace Hb := Lib.hid (Hb.out.trans (hb.mono Hb.out.size))
                clear hb
                go_wp2_with fail
                refine (Hmq.out _).mono ?_
                rintro e W1 ⟨rfl, hb⟩
                replace Hb := Lib.hid (Hb.out.trans (hb.mono Hb.out.size))
                clear hb
                go_wp2_with fail
                refine (Hk.out _ (HT.out.below Hb.out)).mono ?_
                rintro e W1 ⟨rfl, hb⟩
                replace Hb := Lib.hid (Hb.out.trans (hb.mono Hb.out.size))
                clear hb
                go_wp2
                go_ret
                exact ⟨rfl, Hb.out⟩
      · go_enter Tryd.func10, Tryd.ntmps10
        go_wp2_with fail
        refine (Hk.out _ (HT.out.below Hb.out)).mono ?_
        rintro e W1 ⟨rfl, hb⟩
        replace Hb := Lib.hid (Hb.out.trans (hb.mono Hb.out.size))
        clear hb
        go_wp2
        go_ret
        exact ⟨rfl, Hb.out⟩
    · go_enter Tryd.func10, Tryd.ntmps10
      go_wp2_with fail
      refine (Hk.out _ (HT.out.below Hb.out)).mono ?_
      rintro e W1 ⟨rfl, hb⟩
      replace Hb := Lib.hid (Hb.out.trans (hb.mono Hb.out.size))
      clear hb
      go_wp2
      go_ret
      exact ⟨rfl, Hb.out⟩
  · go_enter Tryd.func10, Tryd.ntmps10
    go_wp2_with fail
    refine (Hk.out _ (HT.out.below Hb.out)).mono ?_
    rintro e W1 ⟨rfl, hb⟩
    replace Hb := Lib.hid (Hb.out.trans (hb.mono Hb.out.size))
    clear hb
    go_wp2
    go_ret
    exact ⟨rfl, Hb.out⟩
end Go.Proofs.YtapiofcdifligaaDoor
