/- GlobMeets: the law's walk. -/
import Derived.Test.YtapiofcdifligaaDoorAL
namespace Go.Proofs.YtapiofcdifligaaDoor
open Go.RowKit

set_option maxHeartbeats 1000000 in
set_option maxRecDepth 100000 in
theorem less_any (a b : ByteArray) (w : World) : Calls Tryd.prog 23 #[.string a, .string b] w (Bel (.bool (lessB a.data.toList b.data.toList)) w) := by
  have hsa := Lib.size_eq a
  have hsb := Lib.size_eq b
  have hv : lessB a.data.toList b.data.toList = (decide (a.size < b.size) || (decide (a.size = b.size) && Op.bytesLess a.toList b.toList)) := by
    unfold lessB
    rw [← hsa, ← hsb, Lib.toList_data, Lib.toList_data]
  rw [hv]
  clear hv hsa hsb
  by_cases h1 : (a.size : Int) < (b.size : Int)
  · have hd : decide (a.size < b.size) = true := decide_eq_true (by omega)
    rw [hd]
    clear hd
    go_enter Tryd.func23, Tryd.ntmps23
    go_wp2
    go_ret
    exact ⟨rfl, Below.refl _ _⟩
  · have hd : decide (a.size < b.size) = false := decide_eq_false (by omega)
    rw [hd]
    clear hd
    by_cases h2 : (a.size : Int) = (b.size : Int)
    · have h3 : ((a.size : Int) == (b.size : Int)) = true := by simp [h2]
      have hd : decide (a.size = b.size) = true := decide_eq_true (by omega)
      rw [hd, Bool.false_or, Bool.true_and]
      clear hd
      go_enter Tryd.func23, Tryd.ntmps23
      go_wp2
      go_ret
      exact ⟨rfl, Below.refl _ _⟩
    · have h3 : ((a.size : Int) == (b.size : Int)) = false := beq_eq_false_iff_ne.2 h2
      have hd : decide (a.size = b.size) = false := decide_eq_false (by omega)
      rw [hd, Bool.false_or, Bool.false_and]
      clear hd
      go_enter Tryd.func23, Tryd.ntmps23
      go_wp2
      go_ret
      exact ⟨rfl, Below.refl _ _⟩

set_option maxHeartbeats 1000000 in
set_option maxRecDepth 100000 in
theorem globMeets_walk (p q s : ByteArray) (w : World) (hT : TabAt w) : Calls Tryd.prog 7 #[.string p, .string q, .string s] w (Bel (.bool true) w) := by
  have Hk := Lib.hid known_any
  have HT := Lib.hid hT
  have Hb := Lib.hid (Below.refl w.heap.size w)
  clear hT
  by_cases h1 : (p.size : Int) ≤ 16
  · by_cases h2 : (q.size : Int) ≤ 16
    · by_cases h3 : (s.size : Int) ≤ 40
      · have hmp := fun W => match_any p s W (by omega) (by omega)
        have hmq := fun W => match_any q s W (by omega) (by omega)
        have hcm := fun W (h : TabAt W) => common_any p q W (by omega) (by omega) h
        cases hx : altsP p.data.toList with
        | none =>
          have hne : (errP p.data.toList != 0) = true := by
            rcases errP_none hx with h | h <;> rw [h] <;> rfl
          have hv : patB p.data.toList s.data.toList = false := by unfold patB; rw [hx]
          unfold comRes at hcm
          rw [hx] at hcm
          simp only at hcm
          rw [hv] at hmp
          generalize errP p.data.toList = E at *
          have Hc := Lib.hid hcm
          have Hp := Lib.hid hmp
          clear hx hv hcm hmp hmq
          go_enter Tryd.func7, Tryd.ntmps7
          go_wp2_with fail
          refine (Hk.out _ (HT.out.below Hb.out)).mono ?_
          rintro e W1 ⟨rfl, hb⟩
          replace Hb := Lib.hid (Hb.out.trans (hb.mono Hb.out.size))
          clear hb
          go_wp2_with fail
          refine (Hc.out _ (HT.out.below Hb.out)).mono ?_
          rintro e W1 ⟨rfl, hb⟩
          replace Hb := Lib.hid (Hb.out.trans (hb.mono Hb.out.size))
          clear hb
          go_wp2_with fail
          refine (Hp.out _).mono ?_
          rintro e W1 ⟨rfl, hb⟩
          replace Hb := Lib.hid (Hb.out.trans (hb.mono Hb.out.size))
          clear hb
          go_wp2
          go_ret
          exact ⟨rfl, Hb.out⟩
        | some x =>
          cases hy : altsP q.data.toList with
          | none =>
            have hne : (errP q.data.toList != 0) = true := by
              rcases errP_none hy with h | h <;> rw [h] <;> rfl
            have hv : patB q.data.toList s.data.toList = false := by unfold patB; rw [hy]
            unfold comRes at hcm
            rw [hx, hy] at hcm
            simp only at hcm
            rw [hv] at hmq
            generalize errP q.data.toList = E at *
            generalize patB p.data.toList s.data.toList = b1 at *
            have Hc := Lib.hid hcm
            have Hp := Lib.hid hmp
            have Hq := Lib.hid hmq
            clear hx hy hv hcm hmp hmq
            cases b1 with
            | true =>
              go_enter Tryd.func7, Tryd.ntmps7
              go_wp2_with fail
              refine (Hk.out _ (HT.out.below Hb.out)).mono ?_
              rintro e W1 ⟨rfl, hb⟩
              replace Hb := Lib.hid (Hb.out.trans (hb.mono Hb.out.size))
              clear hb
              go_wp2_with fail
              refine (Hc.out _ (HT.out.below Hb.out)).mono ?_
              rintro e W1 ⟨rfl, hb⟩
              replace Hb := Lib.hid (Hb.out.trans (hb.mono Hb.out.size))
              clear hb
              go_wp2_with fail
              refine (Hp.out _).mono ?_
              rintro e W1 ⟨rfl, hb⟩
              replace Hb := Lib.hid (Hb.out.trans (hb.mono Hb.out.size))
              clear hb
              go_wp2_with fail
              refine (Hq.out _).mono ?_
              rintro e W1 ⟨rfl, hb⟩
              replace Hb := Lib.hid (Hb.out.trans (hb.mono Hb.out.size))
              clear hb
              go_wp2
              go_ret
              exact ⟨rfl, Hb.out⟩
            | false =>
              go_enter Tryd.func7, Tryd.ntmps7
              go_wp2_with fail
              refine (Hk.out _ (HT.out.below Hb.out)).mono ?_
              rintro e W1 ⟨rfl, hb⟩
              replace Hb := Lib.hid (Hb.out.trans (hb.mono Hb.out.size))
              clear hb
              go_wp2_with fail
              refine (Hc.out _ (HT.out.below Hb.out)).mono ?_
              rintro e W1 ⟨rfl, hb⟩
              replace Hb := Lib.hid (Hb.out.trans (hb.mono Hb.out.size))
              clear hb
              go_wp2_with fail
              refine (Hp.out _).mono ?_
              rintro e W1 ⟨rfl, hb⟩
              replace Hb := Lib.hid (Hb.out.trans (hb.mono Hb.out.size))
              clear hb
              go_wp2
              go_ret
              exact ⟨rfl, Hb.out⟩
          | some y =>
            have hsp := commonB_spec (altsP_Good hx) (altsP_Good hy)
            unfold comRes at hcm
            rw [hx, hy] at hcm
            simp only at hcm
            cases hcb : commonB x y with
            | none =>
              rw [hcb] at hsp hcm
              have hno : patB p.data.toList s.data.toList = true → patB q.data.toList s.data.toList = true → False := by
                unfold patB
                rw [hx, hy]
                exact hsp s.data.toList (by rw [← Lib.size_eq]; unfold never; omega)
              generalize patB p.data.toList s.data.toList = b1 at *
              generalize patB q.data.toList s.data.toList = b2 at *
              have hs0 : strOf none = .string ⟨#[]⟩ := rfl
              rw [hs0, Option.isSome_none] at hcm
              have Hc := Lib.hid hcm
              have Hp := Lib.hid hmp
              have Hq := Lib.hid hmq
              clear hx hy hcm hmp hmq hsp hcb hs0
              cases b1 with
              | true =>
                cases b2 with
                | true => exact (hno rfl rfl).elim
                | false =>
                  go_enter Tryd.func7, Tryd.ntmps7
                  go_wp2_with fail
                  refine (Hk.out _ (HT.out.below Hb.out)).mono ?_
                  rintro e W1 ⟨rfl, hb⟩
                  replace Hb := Lib.hid (Hb.out.trans (hb.mono Hb.out.size))
                  clear hb
                  go_wp2_with fail
                  refine (Hc.out _ (HT.out.below Hb.out)).mono ?_
                  rintro e W1 ⟨rfl, hb⟩
                  replace Hb := Lib.hid (Hb.out.trans (hb.mono Hb.out.size))
                  clear hb
                  go_wp2_with fail
                  refine (Hp.out _).mono ?_
                  rintro e W1 ⟨rfl, hb⟩
                  replace Hb := Lib.hid (Hb.out.trans (hb.mono Hb.out.size))
                  clear hb
                  go_wp2_with fail
                  refine (Hq.out _).mono ?_
                  rintro e W1 ⟨rfl, hb⟩
                  replace Hb := Lib.hid (Hb.out.trans (hb.mono Hb.out.size))
                  clear hb
                  go_wp2
                  go_ret
                  exact ⟨rfl, Hb.out⟩
              | false =>
                go_enter Tryd.func7, Tryd.ntmps7
                go_wp2_with fail
                refine (Hk.out _ (HT.out.below Hb.out)).mono ?_
                rintro e W1 ⟨rfl, hb⟩
                replace Hb := Lib.hid (Hb.out.trans (hb.mono Hb.out.size))
                clear hb
                go_wp2_with fail
                refine (Hc.out _ (HT.out.below Hb.out)).mono ?_
                rintro e W1 ⟨rfl, hb⟩
                replace Hb := Lib.hid (Hb.out.trans (hb.mono Hb.out.size))
                clear hb
                go_wp2_with fail
                refine (Hp.out _).mono ?_
                rintro e W1 ⟨rfl, hb⟩
                replace Hb := Lib.hid (Hb.out.trans (hb.mono Hb.out.size))
                clear hb
                go_wp2
                go_ret
                exact ⟨rfl, Hb.out⟩
            | some t =>
              rw [hcb] at hsp hcm
              obtain ⟨hlt, hx1, hy1, hmin⟩ := hsp
              have hs1 : strOf (some t) = .string ⟨t.toArray⟩ := rfl
              rw [hs1, Option.isSome_some] at hcm
              obtain ⟨bt, hbt⟩ : ∃ u : ByteArray, (⟨t.toArray⟩ : ByteArray) = u := ⟨_, rfl⟩
              have hbd : bt.data.toList = t := by rw [← hbt]
              have hbs : bt.size ≤ 4611686018427387904 := by rw [Lib.size_eq, hbd]; unfold never at hlt; omega
              rw [hbt] at hcm
              have hpt := fun W => match_any p bt W (by omega) hbs
              have hqt := fun W => match_any q bt W (by omega) hbs
              have e1 : patB p.data.toList t = true := by unfold patB; rw [hx]; exact hx1
              have e2 : patB q.data.toList t = true := by unfold patB; rw [hy]; exact hy1
              rw [hbd, e1] at hpt
              rw [hbd, e2] at hqt
              have hless := fun W => less_any s bt W
              rw [hbd] at hless
              have hno : patB p.data.toList s.data.toList = true → patB q.data.toList s.data.toList = true → lessB s.data.toList t = false := by
                unfold patB
                rw [hx, hy]
                exact fun h k => (leB_iff _ _).2 (hmin _ h k)
              generalize patB p.data.toList s.data.toList = b1 at *
              generalize patB q.data.toList s.data.toList = b2 at *
              generalize lessB s.data.toList t = b3 at *
              have Hc := Lib.hid hcm
              have Hp := Lib.hid hmp
              have Hq := Lib.hid hmq
              have Hpt := Lib.hid hpt
              have Hqt := Lib.hid hqt
              have Hl := Lib.hid hless
              clear hx hy hcm hmp hmq hcb hs1 hpt hqt e1 e2 hless hbd hbs hbt hlt hx1 hy1 hmin
              cases b1 with
              | true =>
                cases b2 with
                | true =>
                  obtain rfl := hno rfl rfl
                  clear hno
                  go_enter Tryd.func7, Tryd.ntmps7
                  go_wp2_with fail
                  refine (Hk.out _ (HT.out.below Hb.out)).mono ?_
                  rintro e W1 ⟨rfl, hb⟩
                  replace Hb := Lib.hid (Hb.out.trans (hb.mono Hb.out.size))
                  clear hb
                  go_wp2_with fail
                  refine (Hc.out _ (HT.out.below Hb.out)).mono ?_
                  rintro e W1 ⟨rfl, hb⟩
                  replace Hb := Lib.hid (Hb.out.trans (hb.mono Hb.out.size))
                  clear hb
                  go_wp2_with fail
                  refine (Hpt.out _).mono ?_
                  rintro e W1 ⟨rfl, hb⟩
                  replace Hb := Lib.hid (Hb.out.trans (hb.mono Hb.out.size))
                  clear hb
                  go_wp2_with fail
                  refine (Hqt.out _).mono ?_
                  rintro e W1 ⟨rfl, hb⟩
                  replace Hb := Lib.hid (Hb.out.trans (hb.mono Hb.out.size))
                  clear hb
                  go_wp2_with fail
                  refine (Hp.out _).mono ?_
                  rintro e W1 ⟨rfl, hb⟩
                  replace Hb := Lib.hid (Hb.out.trans (hb.mono Hb.out.size))
                  clear hb
                  go_wp2_with fail
                  refine (Hq.out _).mono ?_
                  rintro e W1 ⟨rfl, hb⟩
                  replace Hb := Lib.hid (Hb.out.trans (hb.mono Hb.out.size))
                  clear hb
                  go_wp2_with fail
                  refine (Hl.out _).mono ?_
                  rintro e W1 ⟨rfl, hb⟩
                  replace Hb := Lib.hid (Hb.out.trans (hb.mono Hb.out.size))
                  clear hb
                  go_wp2
                  go_ret
                  exact ⟨rfl, Hb.out⟩
                | false =>
                  clear hno
                  go_enter Tryd.func7, Tryd.ntmps7
                  go_wp2_with fail
                  refine (Hk.out _ (HT.out.below Hb.out)).mono ?_
                  rintro e W1 ⟨rfl, hb⟩
                  replace Hb := Lib.hid (Hb.out.trans (hb.mono Hb.out.size))
                  clear hb
                  go_wp2_with fail
                  refine (Hc.out _ (HT.out.below Hb.out)).mono ?_
                  rintro e W1 ⟨rfl, hb⟩
                  replace Hb := Lib.hid (Hb.out.trans (hb.mono Hb.out.size))
                  clear hb
                  go_wp2_with fail
                  refine (Hpt.out _).mono ?_
                  rintro e W1 ⟨rfl, hb⟩
                  replace Hb := Lib.hid (Hb.out.trans (hb.mono Hb.out.size))
                  clear hb
                  go_wp2_with fail
                  refine (Hqt.out _).mono ?_
                  rintro e W1 ⟨rfl, hb⟩
                  replace Hb := Lib.hid (Hb.out.trans (hb.mono Hb.out.size))
                  clear hb
                  go_wp2_with fail
                  refine (Hp.out _).mono ?_
                  rintro e W1 ⟨rfl, hb⟩
                  replace Hb := Lib.hid (Hb.out.trans (hb.mono Hb.out.size))
                  clear hb
                  go_wp2_with fail
                  refine (Hq.out _).mono ?_
                  rintro e W1 ⟨rfl, hb⟩
                  replace Hb := Lib.hid (Hb.out.trans (hb.mono Hb.out.size))
                  clear hb
                  go_wp2
                  go_ret
                  exact ⟨rfl, Hb.out⟩
              | false =>
                clear hno
                go_enter Tryd.func7, Tryd.ntmps7
                go_wp2_with fail
                refine (Hk.out _ (HT.out.below Hb.out)).mono ?_
                rintro e W1 ⟨rfl, hb⟩
                replace Hb := Lib.hid (Hb.out.trans (hb.mono Hb.out.size))
                clear hb
                go_wp2_with fail
                refine (Hc.out _ (HT.out.below Hb.out)).mono ?_
                rintro e W1 ⟨rfl, hb⟩
                replace Hb := Lib.hid (Hb.out.trans (hb.mono Hb.out.size))
                clear hb
                go_wp2_with fail
                refine (Hpt.out _).mono ?_
                rintro e W1 ⟨rfl, hb⟩
                replace Hb := Lib.hid (Hb.out.trans (hb.mono Hb.out.size))
                clear hb
                go_wp2_with fail
                refine (Hqt.out _).mono ?_
                rintro e W1 ⟨rfl, hb⟩
                replace Hb := Lib.hid (Hb.out.trans (hb.mono Hb.out.size))
                clear hb
                go_wp2_with fail
                refine (Hp.out _).mono ?_
                rintro e W1 ⟨rfl, hb⟩
                replace Hb := Lib.hid (Hb.out.trans (hb.mono Hb.out.size))
                clear hb
                go_wp2
                go_ret
                exact ⟨rfl, Hb.out⟩
      · go_enter Tryd.func7, Tryd.ntmps7
        go_wp2_with fail
        refine (Hk.out _ (HT.out.below Hb.out)).mono ?_
        rintro e W1 ⟨rfl, hb⟩
        replace Hb := Lib.hid (Hb.out.trans (hb.mono Hb.out.size))
        clear hb
        go_wp2
        go_ret
        exact ⟨rfl, Hb.out⟩
    · go_enter Tryd.func7, Tryd.ntmps7
      go_wp2_with fail
      refine (Hk.out _ (HT.out.below Hb.out)).mono ?_
      rintro e W1 ⟨rfl, hb⟩
      replace Hb := Lib.hid (Hb.out.trans (hb.mono Hb.out.size))
      clear hb
      go_wp2
      go_ret
      exact ⟨rfl, Hb.out⟩
  · go_enter Tryd.func7, Tryd.ntmps7
    go_wp2_with fail
    refine (Hk.out _ (HT.out.below Hb.out)).mono ?_
    rintro e W1 ⟨rfl, hb⟩
    replace Hb := Lib.hid (Hb.out.trans (hb.mono Hb.out.size))
    clear hb
    go_wp2
    go_ret
    exact ⟨rfl, Hb.out⟩
end Go.Proofs.YtapiofcdifligaaDoor
