/- NameSplits: the law's walk. -/
import Derived.Test.YtfcfooipoiomkaaDoorU
namespace Go.Proofs.YtfcfooipoiomkaaDoor
open Go.RowKit

set_option maxHeartbeats 1000000 in
set_option maxRecDepth 100000 in
theorem nameSplits_walk (s : ByteArray) (w : World) (m : Int) (hm : w.cell? ⟨0, 0, none⟩ = some (.int .i64 m)) : Calls Tryd.prog 4 #[.string s] w (Bel (.bool true) w) := by
  have Hk := Lib.hid known_any
  by_cases h1 : s.size ≤ 600
  · have h1' : (s.size : Int) ≤ 600 := by omega
    have hnn : (piecesB 47 (s.extract 1 s.size)).length ≤ s.size + 1 := by
      have h1 := Lib.splitB_all ⟨#[47]⟩ (by decide) 0 _ (s.extract 1 s.size) rfl
      rw [splitB_pieces 47 _ (s.extract 1 s.size) rfl] at h1
      have h2 := Lib.countB_le ⟨#[47]⟩ (by decide) (s.extract 1 s.size).size (s.extract 1 s.size) (Nat.le_refl _)
      have h3 : (s.extract 1 s.size).size ≤ s.size := by simp
      omega
    have H1 := Lib.hid (split_any s m w (by omega) hm)
    have H2 := Lib.hid fun W => refSplit_any s m W (by omega)
    have Hm := Lib.hid hm
    generalize isPathB s.data.toList = is at *
    generalize piecesB 47 (s.extract 1 s.size) = xs at *
    clear hm
    go_enter Tryd.func4, Tryd.ntmps4
    go_wp2_with fail
    refine H1.out.mono ?_
    rintro e W1 ⟨hb1, ⟨rfl, b1, hb1w, hb1W, hs1, rfl⟩ | ⟨rfl, rfl⟩⟩
    · have Hs1 := Lib.hid hs1
      clear hs1
      go_wp2_with fail
      refine (H2.out _ (max_below Hm.out hb1 (Nat.le_refl _))).mono ?_
      rintro e W2 ⟨hb2, ⟨_, b2, hb2w, hb2W, hs2, rfl⟩ | ⟨hf, rfl⟩⟩
      · have Hs := Lib.hid (sameTexts_any b1 b2 xs.length xs.length 0 0 xs W2 (by omega) (fun j x hx => by rw [Nat.zero_add]; exact (Hs1.out.below hb2 hb1W) j x hx) (fun j x hx => by rw [Nat.zero_add]; exact hs2 j x hx))
        clear hs2
        have hc2 := belT hb1 hb2
        clear hb1 hb2
        go_wp2_with fail
        refine Hs.out.mono ?_
        rintro e W3 ⟨rfl, n, rfl⟩
        go_wp2_with fail
        refine (Hk.out _).mono ?_
        rintro e W4 ⟨rfl, hb4⟩
        go_wp2
        go_ret
        exact ⟨rfl, belT (drewN_below hc2 n) hb4⟩
      · cases hf
    · go_wp2_with fail
      refine (H2.out _ (max_below Hm.out hb1 (Nat.le_refl _))).mono ?_
      rintro e W2 ⟨hb2, ⟨hf, _⟩ | ⟨_, rfl⟩⟩
      · cases hf
      · have hc2 := belT hb1 hb2
        clear hb1 hb2
        go_wp2_with fail
        refine (Hk.out _).mono ?_
        rintro e W4 ⟨rfl, hb4⟩
        go_wp2
        go_ret
        exact ⟨rfl, belT hc2 hb4⟩
  · have h1' : ¬ (s.size : Int) ≤ 600 := by omega
    clear hm
    go_enter Tryd.func4, Tryd.ntmps4
    go_wp2_with fail
    refine (Hk.out _).mono ?_
    rintro e w6 ⟨rfl, hbl⟩
    go_wp2
    go_ret
    exact ⟨rfl, hbl⟩
end Go.Proofs.YtfcfooipoiomkaaDoor
