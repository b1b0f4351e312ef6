/- GlobLiterals: the law's walk. -/
import Derived.Test.YtapiofcdifligaaDoorRL
namespace Go.Proofs.YtapiofcdifligaaDoor
open Go.RowKit

set_option maxHeartbeats 1000000 in
set_option maxRecDepth 100000 in
theorem globLiterals_walk (p : ByteArray) (w : World) (hT : TabAt w) : Calls Tryd.prog 5 #[.string p] w (Bel (.bool true) w) := by
  have Hk := Lib.hid known_any
  have HT := Lib.hid hT
  have Hb := Lib.hid (Below.refl w.heap.size w)
  clear hT
  by_cases h1 : (300 : Int) < (p.size : Int)
  · go_enter Tryd.func5, Tryd.ntmps5
    go_wp2_with fail
    refine (Hk.out _ (HT.out.below Hb.out)).mono ?_
    rintro e W1 ⟨rfl, hb⟩
    go_wp2
    go_ret
    exact ⟨rfl, Hb.out.trans hb⟩
  have hlit := fun W (h : TabAt W) => literal_any p W (by omega) h
  have hrlit := fun W => refLiteral_any p W (by omega)
  have hpre := fun W (h : TabAt W) => prefix_any p W (by omega) h
  have hrpre := fun W => refPrefix_any p W (by omega)
  obtain ⟨S1, hS1⟩ : ∃ S1, strOf (litB p.data.toList) = .string S1 := ⟨_, rfl⟩
  unfold litRes at hlit hrlit
  rw [hS1] at hlit hrlit
  generalize (litB p.data.toList).isSome = B1 at *
  obtain ⟨S2, hS2⟩ : ∃ S2 : ByteArray, (⟨((altsP p.data.toList).elim [] prefB).toArray⟩ : ByteArray) = S2 := ⟨_, rfl⟩
  rw [hS2] at hpre hrpre
  generalize errP p.data.toList = E at *
  have Hlit := Lib.hid hlit
  have Hrlit := Lib.hid hrlit
  have Hpre := Lib.hid hpre
  have Hrpre := Lib.hid hrpre
  clear hlit hrlit hpre hrpre hS1 hS2
  go_enter Tryd.func5, Tryd.ntmps5
  go_wp2_with fail
  refine (Hlit.out _ (HT.out.below Hb.out)).mono ?_
  rintro e W1 ⟨rfl, hb⟩
  replace Hb := Lib.hid (Hb.out.trans (hb.mono Hb.out.size))
  clear hb
  go_wp2_with fail
  refine (Hrlit.out _).mono ?_
  rintro e W1 ⟨rfl, hb⟩
  replace Hb := Lib.hid (Hb.out.trans (hb.mono Hb.out.size))
  clear hb
  go_wp2_with fail
  refine (Hpre.out _ (HT.out.below Hb.out)).mono ?_
  rintro e W1 ⟨rfl, hb⟩
  replace Hb := Lib.hid (Hb.out.trans (hb.mono Hb.out.size))
  clear hb
  go_wp2_with fail
  refine (Hrpre.out _).mono ?_
  rintro e W1 ⟨rfl, hb⟩
  replace Hb := Lib.hid (Hb.out.trans (hb.mono Hb.out.size))
  clear hb
  go_wp2_with fail
  refine (Hk.out _ (HT.out.below Hb.out)).mono ?_
  rintro e W1 ⟨rfl, hb⟩
  replace Hb := Lib.hid (Hb.out.trans (hb.mono Hb.out.size))
  clear hb
  go_wp2
  go_ret
  exact ⟨rfl, Hb.out⟩
end Go.Proofs.YtapiofcdifligaaDoor
