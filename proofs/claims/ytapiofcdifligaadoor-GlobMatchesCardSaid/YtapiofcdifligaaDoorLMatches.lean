/- GlobMatches: the law's walk. -/
import Derived.Test.YtapiofcdifligaaDoorRJ
namespace Go.Proofs.YtapiofcdifligaaDoor
open Go.RowKit

set_option maxHeartbeats 1000000 in
set_option maxRecDepth 100000 in
theorem globMatches_walk (p s : ByteArray) (w : World) (hT : TabAt w) : Calls Tryd.prog 4 #[.string p, .string s] w (Bel (.bool true) w) := by
  have Hk := Lib.hid known_any
  have HT := Lib.hid hT
  have Hb := Lib.hid (Below.refl w.heap.size w)
  clear hT
  by_cases h1 : (300 : Int) < (p.size : Int)
  · go_enter Tryd.func4, Tryd.ntmps4
    go_wp2_with fail
    refine (Hk.out _ (HT.out.below Hb.out)).mono ?_
    rintro e W1 ⟨rfl, hb⟩
    go_wp2
    go_ret
    exact ⟨rfl, Hb.out.trans hb⟩
  by_cases h2 : (200 : Int) < (s.size : Int)
  · go_enter Tryd.func4, Tryd.ntmps4
    go_wp2_with fail
    refine (Hk.out _ (HT.out.below Hb.out)).mono ?_
    rintro e W1 ⟨rfl, hb⟩
    go_wp2
    go_ret
    exact ⟨rfl, Hb.out.trans hb⟩
  have Hc := Lib.hid fun W => match_any p s W (by omega) (by omega)
  have Hr := Lib.hid fun W => refMatch_any p s W (by omega) (by omega)
  generalize patB p.data.toList s.data.toList = E at *
  go_enter Tryd.func4, Tryd.ntmps4
  go_wp2_with fail
  refine (Hc.out _).mono ?_
  rintro e W1 ⟨rfl, hb⟩
  replace Hb := Lib.hid (Hb.out.trans (hb.mono Hb.out.size))
  clear hb
  go_wp2_with fail
  refine (Hr.out _).mono ?_
  rintro e W1 ⟨rfl, hb⟩
  replace Hb := Lib.hid (Hb.out.trans (hb.mono Hb.out.size))
  clear hb
  go_wp2_with fail
  refine (Hk.out _ (HT.out.below Hb.out)).mono ?_
  rintro e W1 ⟨rfl, hb⟩
  replace Hb := Lib.hid (Hb.out.trans (hb.mono Hb.out.size))
  clear hb
  go_wp2
  go_ret
  exact ⟨rfl, Hb.out⟩
end Go.Proofs.YtapiofcdifligaaDoor
