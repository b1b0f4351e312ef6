/- NameCompares: the law's walk. -/
import Derived.Test.YtfcfooipoiomkaaDoorX
namespace Go.Proofs.YtfcfooipoiomkaaDoor
open Go.RowKit

theorem path_form {s : ByteArray} (h : isPathB s.data.toList = true) : ∃ r, s.data.toList = 47 :: r ∧ listsOf (piecesB 47 (s.extract 1 s.size)) = pieces 47 r := by
  cases hl : s.data.toList with
  | nil => rw [hl] at h; cases h
  | cons c r =>
    rw [hl, isPathB, Bool.and_eq_true] at h
    have hc : c = 47 := eq_of_beq h.1
    subst hc
    exact ⟨r, rfl, by rw [listsOf_pieces, Lib.extract_to_end, hl]; rfl⟩
theorem lists_take (xs : List ByteArray) (n : Nat) : listsOf (xs.take n) = (listsOf xs).take n := by simp [listsOf, List.map_take]
theorem names_few (s : ByteArray) : (piecesB 47 (s.extract 1 s.size)).length ≤ s.size + 1 := by
  have h1 := Lib.splitB_all ⟨#[47]⟩ (by decide) 0 _ (s.extract 1 s.size) rfl
  rw [splitB_pieces 47 _ (s.extract 1 s.size) rfl] at h1
  have h2 := Lib.countB_le ⟨#[47]⟩ (by decide) (s.extract 1 s.size).size (s.extract 1 s.size) (Nat.le_refl _)
  have h3 : (s.extract 1 s.size).size ≤ s.size := by simp
  omega

set_option maxHeartbeats 2000000 in
set_option maxRecDepth 100000 in
theorem compares_good (a b : ByteArray) (w : World) (m : Int) (hm : w.cell? ⟨0, 0, none⟩ = some (.int .i64 m)) (la : (a.size : Int) ≤ 300) (lb : (b.size : Int) ≤ 300)
    (pa : isPathB a.data.toList = true) (pb : isPathB b.data.toList = true) : Calls Tryd.prog 6 #[.string a, .string b] w (Bel (.bool true) w) := by
  have Hk := Lib.hid known_any
  have hc := fun W => compare_any a b W (by omega) (by omega)
  have hu := fun W => under_any a b W (by omega) (by omega)
  have hsa := fun W => refSplit_any a m W (by omega)
  have hsb := fun W => refSplit_any b m W (by omega)
  rw [show cmpB a.data.toList b.data.toList = (cmpL a.data.toList b.data.toList, 0) from by simp [cmpB, pa, pb]] at hc
  rw [show underB a.data.toList b.data.toList = (benB a.data.toList b.data.toList, 0) from by simp [underB, pa, pb]] at hu
  obtain ⟨ra, hra, hla⟩ := path_form pa
  obtain ⟨rb, hrb, hlb⟩ := path_form pb
  rw [hra, hrb, cmpL_pieces, ← hla, ← hlb] at hc
  rw [hra, hrb, ben_pieces, ← hla, ← hlb] at hu
  have hfa := names_few a
  have hfb := names_few b
  rw [pa] at hsa
  rw [pb] at hsb
  generalize piecesB 47 (a.extract 1 a.size) = xs at *
  generalize piecesB 47 (b.extract 1 b.size) = ys at *
  rw [← lists_take, lists_len, lists_len] at hu
  have Hm := Lib.hid hm
  have Hc := Lib.hid hc
  have Hsa := Lib.hid hsa
  have Hsb := Lib.hid hsb
  clear hm hc hsa hsb hra hrb hla hlb pa pb
  have hxl : xs.length ≤ 4611686018427387904 := by omega
  have hyl : ys.length ≤ 4611686018427387904 := by omega
  by_cases hg : ys.length > xs.length
  · have htk : (ys.take xs.length).length = xs.length := by simp; omega
    have hg1 : (xs.length : Int) < (ys.length : Int) := by omega
    have hg2 : (xs.length : Int) ≤ (ys.length : Int) := by omega
    rw [decide_eq_true hg, Bool.true_and] at hu
    have Hu := Lib.hid hu
    have Htk := Lib.hid htk
    clear hu htk hg
    go_enter Tryd.func6, Tryd.ntmps6
    go_wp2_with fail
    refine (Hc.out _).mono ?_
    rintro e W1 ⟨rfl, hb1⟩
    go_wp2_with fail
    refine (Hu.out _).mono ?_
    rintro e W2 ⟨rfl, hb2⟩
    have hc2 := belT hb1 hb2
    clear hb1 hb2
    go_wp2_with fail
    refine (Hsa.out _ (max_below Hm.out hc2 (Nat.le_refl _))).mono ?_
    rintro e W3 ⟨hb3, ⟨_, b1, hb1w, hb1W, hs1, rfl⟩ | ⟨hf, _⟩⟩
    · have Hs1 := Lib.hid hs1
      have hc3 := belT hc2 hb3
      clear hs1 hc2 hb3
      go_wp2_with fail
      refine (Hsb.out _ (max_below Hm.out hc3 (Nat.le_refl _))).mono ?_
      rintro e W4 ⟨hb4, ⟨_, b2, hb2w, hb2W, hs2, rfl⟩ | ⟨hf, _⟩⟩
      · have hs1' := Hs1.out.below hb4 hb1W
        have hc4 := belT hc3 hb4
        have h1 := refCompare_any b1 b2 xs.length ys.length xs (ys.take xs.length) W4 hxl (by rw [Htk.out]; exact hxl) hs1' (fun j x hx => hs2 j x (by
          rw [List.getElem?_take] at hx
          split at hx
          · exact hx
          · cases hx))
        rw [Htk.out] at h1
        have h2 := fun n => refCompare_any b1 b2 xs.length ys.length xs ys (W4.drewN n) hxl hyl (fun j x hx => hs1' j x hx) (fun j x hx => hs2 j x hx)
        have H1 := Lib.hid h1
        have H2 := Lib.hid h2
        clear h1 h2 hs1' hs2 hc3 hb4 Hs1
        go_wp2_with fail
        refine H1.out.mono ?_
        rintro e W5 ⟨rfl, n, rfl⟩
        go_wp2_with fail
        refine (H2.out n).mono ?_
        rintro e W6 ⟨rfl, n2, rfl⟩
        go_wp2_with fail
        refine (Hk.out _).mono ?_
        rintro e W7 ⟨rfl, hb7⟩
        go_wp2
        go_ret
        exact ⟨rfl, belT (drewN_below hc4 (n + n2)) hb7⟩
      · cases hf
    · cases hf
  · have hg1 : ¬ (xs.length : Int) < (ys.length : Int) := by omega
    rw [decide_eq_false hg, Bool.false_and] at hu
    have Hu := Lib.hid hu
    clear hu hg
    go_enter Tryd.func6, Tryd.ntmps6
    go_wp2_with fail
    refine (Hc.out _).mono ?_
    rintro e W1 ⟨rfl, hb1⟩
    go_wp2_with fail
    refine (Hu.out _).mono ?_
    rintro e W2 ⟨rfl, hb2⟩
    have hc2 := belT hb1 hb2
    clear hb1 hb2
    go_wp2_with fail
    refine (Hsa.out _ (max_below Hm.out hc2 (Nat.le_refl _))).mono ?_
    rintro e W3 ⟨hb3, ⟨_, b1, hb1w, hb1W, hs1, rfl⟩ | ⟨hf, _⟩⟩
    · have Hs1 := Lib.hid hs1
      have hc3 := belT hc2 hb3
      clear hs1 hc2 hb3
      go_wp2_with fail
      refine (Hsb.out _ (max_below Hm.out hc3 (Nat.le_refl _))).mono ?_
      rintro e W4 ⟨hb4, ⟨_, b2, hb2w, hb2W, hs2, rfl⟩ | ⟨hf, _⟩⟩
      · have hs1' := Hs1.out.below hb4 hb1W
        have hc4 := belT hc3 hb4
        have H2 := Lib.hid (refCompare_any b1 b2 xs.length ys.length xs ys W4 hxl hyl hs1' hs2)
        clear hs1' hs2 hc3 hb4 Hs1
        go_wp2_with fail
        refine H2.out.mono ?_
        rintro e W6 ⟨rfl, n2, rfl⟩
        go_wp2_with fail
        refine (Hk.out _).mono ?_
        rintro e W7 ⟨rfl, hb7⟩
        go_wp2
        go_ret
        exact ⟨rfl, belT (drewN_below hc4 n2) hb7⟩
      · cases hf
    · cases hf

set_option maxHeartbeats 2000000 in
set_option maxRecDepth 100000 in
theorem compares_bad (a b : ByteArray) (w : World) (m : Int) (hm : w.cell? ⟨0, 0, none⟩ = some (.int .i64 m)) (la : (a.size : Int) ≤ 300) (lb : (b.size : Int) ≤ 300)
    (hp : (isPathB a.data.toList && isPathB b.data.toList) = false) : Calls Tryd.prog 6 #[.string a, .string b] w (Bel (.bool true) w) := by
  have Hk := Lib.hid known_any
  have hc := fun W => compare_any a b W (by omega) (by omega)
  have hu := fun W => under_any a b W (by omega) (by omega)
  have hsa := fun W => refSplit_any a m W (by omega)
  have hsb := fun W => refSplit_any b m W (by omega)
  rw [show cmpB a.data.toList b.data.toList = (0, 10) from by simp only [cmpB, hp]; rfl] at hc
  rw [show underB a.data.toList b.data.toList = (false, 10) from by simp only [underB, hp]; rfl] at hu
  generalize piecesB 47 (a.extract 1 a.size) = xs at *
  generalize piecesB 47 (b.extract 1 b.size) = ys at *
  generalize isPathB a.data.toList = pa at *
  generalize isPathB b.data.toList = pb at *
  have Hm := Lib.hid hm
  have Hc := Lib.hid hc
  have Hu := Lib.hid hu
  have Hsa := Lib.hid hsa
  have Hsb := Lib.hid hsb
  have Hp := Lib.hid hp
  clear hm hc hu hsa hsb hp
  go_enter Tryd.func6, Tryd.ntmps6
  go_wp2_with fail
  refine (Hc.out _).mono ?_
  rintro e W1 ⟨rfl, hb1⟩
  go_wp2_with fail
  refine (Hu.out _).mono ?_
  rintro e W2 ⟨rfl, hb2⟩
  have hc2 := belT hb1 hb2
  clear hb1 hb2
  go_wp2_with fail
  refine (Hsa.out _ (max_below Hm.out hc2 (Nat.le_refl _))).mono ?_
  rintro e W3 ⟨hb3, ⟨rfl, b1, _, _, _, rfl⟩ | ⟨rfl, rfl⟩⟩
  · have hc3 := belT hc2 hb3
    clear hc2 hb3
    go_wp2_with fail
    refine (Hsb.out _ (max_below Hm.out hc3 (Nat.le_refl _))).mono ?_
    rintro e W4 ⟨hb4, ⟨rfl, b2, _, _, _, rfl⟩ | ⟨rfl, rfl⟩⟩
    · exact absurd Hp.out (by decide)
    · have hc4 := belT hc3 hb4
      clear hc3 hb4
      go_wp2_with fail
      refine (Hk.out _).mono ?_
      rintro e W7 ⟨rfl, hb7⟩
      go_wp2
      go_ret
      exact ⟨rfl, belT hc4 hb7⟩
  · have hc3 := belT hc2 hb3
    clear hc2 hb3
    go_wp2_with fail
    refine (Hsb.out _ (max_below Hm.out hc3 (Nat.le_refl _))).mono ?_
    rintro e W4 ⟨hb4, ⟨rfl, b2, _, _, _, rfl⟩ | ⟨rfl, rfl⟩⟩
    · have hc4 := belT hc3 hb4
      clear hc3 hb4
      go_wp2_with fail
      refine (Hk.out _).mono ?_
      rintro e W7 ⟨rfl, hb7⟩
      go_wp2
      go_ret
      exact ⟨rfl, belT hc4 hb7⟩
    · have hc4 := belT hc3 hb4
      clear hc3 hb4
      go_wp2_with fail
      refine (Hk.out _).mono ?_
      rintro e W7 ⟨rfl, hb7⟩
      go_wp2
      go_ret
      exact ⟨rfl, belT hc4 hb7⟩

set_option maxHeartbeats 400000 in
set_option maxRecDepth 100000 in
theorem nameCompares_walk (a b : ByteArray) (w : World) (m : Int) (hm : w.cell? ⟨0, 0, none⟩ = some (.int .i64 m)) : Calls Tryd.prog 6 #[.string a, .string b] w (Bel (.bool true) w) := by
  by_cases h1 : (a.size : Int) ≤ 300
  · by_cases h2 : (b.size : Int) ≤ 300
    · cases pa : isPathB a.data.toList with
      | true =>
        cases pb : isPathB b.data.toList with
        | true => exact compares_good a b w m hm h1 h2 pa pb
        | false => exact compares_bad a b w m hm h1 h2 (by rw [pa, pb]; rfl)
      | false => exact compares_bad a b w m hm h1 h2 (by rw [pa]; rfl)
    · have Hk := Lib.hid known_any
      clear hm
      go_enter Tryd.func6, Tryd.ntmps6
      go_wp2_with fail
      refine (Hk.out _).mono ?_
      rintro e w6 ⟨rfl, hbl⟩
      go_wp2
      go_ret
      exact ⟨rfl, hbl⟩
  · have Hk := Lib.hid known_any
    clear hm
    go_enter Tryd.func6, Tryd.ntmps6
    go_wp2_with fail
    refine (Hk.out _).mono ?_
    rintro e w6 ⟨rfl, hbl⟩
    go_wp2
    go_ret
    exact ⟨rfl, hbl⟩
end Go.Proofs.YtfcfooipoiomkaaDoor
