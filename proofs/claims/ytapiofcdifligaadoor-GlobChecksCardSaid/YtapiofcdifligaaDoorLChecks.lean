/- GlobChecks: the law's walk. -/
import Derived.Test.YtapiofcdifligaaDoorRG
namespace Go.Proofs.YtapiofcdifligaaDoor
open Go.RowKit

set_option maxHeartbeats 1000000 in
set_option maxRecDepth 100000 in
theorem globChecks_walk (p : ByteArray) (w : World) (hT : TabAt w) : Calls Tryd.prog 3 #[.string p] w (Bel (.bool true) w) := by
  have Hk := Lib.hid known_any
  have HT := Lib.hid hT
  have Hb := Lib.hid (Below.refl w.heap.size w)
  clear hT
  by_cases h1 : (600 : Int) < (p.size : Int)
  · go_enter Tryd.func3, Tryd.ntmps3
    go_wp2_with fail
    refine (Hk.out _ (HT.out.below Hb.out)).mono ?_
    rintro e W1 ⟨rfl, hb⟩
    go_wp2
    go_ret
    exact ⟨rfl, Hb.out.trans hb⟩
  · have Hc := Lib.hid fun W => check_any p W (by omega)
    have Hr := Lib.hid fun W => refCheck_any p W (by omega)
    generalize errP p.data.toList = E at *
    go_enter Tryd.func3, Tryd.ntmps3
    go_wp2_with fail
    refine (Hc.out _).mono ?_
    rintro e W1 ⟨rfl, hb⟩
    replace Hb := Lib.hid (Hb.out.trans (hb.mono Hb.out.size))
    clear hb
    go_wp2_with fail
    refine (Hr.out _).mono ?_
    rintro e W1 ⟨rfl, hb⟩
    replace Hb := Lib.hid (Hb.out.trans (hb.mono Hb.out.size))
    clear hb
    go_wp2_with fail
    refine (Hk.out _ (HT.out.below Hb.out)).mono ?_
    rintro e W1 ⟨rfl, hb⟩
    replace Hb := Lib.hid (Hb.out.trans (hb.mono Hb.out.size))
    clear hb
    go_wp2
    go_ret
    exact ⟨rfl, Hb.out⟩
end Go.Proofs.YtapiofcdifligaaDoor
