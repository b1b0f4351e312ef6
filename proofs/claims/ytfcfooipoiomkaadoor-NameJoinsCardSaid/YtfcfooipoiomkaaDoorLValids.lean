/- NameValids: the law's walk. -/
import Derived.Test.YtfcfooipoiomkaaDoorK
import Derived.Test.YtfcfooipoiomkaaDoorS
import Derived.Test.YtfcfooipoiomkaaDoorT
namespace Go.Proofs.YtfcfooipoiomkaaDoor
open Go.RowKit

theorem belT {w W1 W2 : World} (h : Below w.heap.size w W1) (k : Below W1.heap.size W1 W2) : Below w.heap.size w W2 := h.trans (k.mono h.size)
theorem max_below {w W : World} {B : Nat} {m : Int} (hm : w.cell? ⟨0, 0, none⟩ = some (.int .i64 m)) (hb : Below B w W) (hB : w.heap.size ≤ B) : W.cell? ⟨0, 0, none⟩ = some (.int .i64 m) :=
  (hb.cell (p := ⟨0, 0, none⟩) (Nat.lt_of_lt_of_le (block_lt_of_cell hm) hB)).trans hm

set_option maxHeartbeats 1000000 in
set_option maxRecDepth 100000 in
theorem nameValids_walk (s : ByteArray) (w : World) (m : Int) (hm : w.cell? ⟨0, 0, none⟩ = some (.int .i64 m)) : Calls Tryd.prog 3 #[.string s] w (Bel (.bool true) w) := by
  have Hk := Lib.hid known_any
  by_cases h1 : s.size ≤ 600
  · have h1' : (s.size : Int) ≤ 600 := by omega
    have H1 := Lib.hid fun W => valid_any s W (by omega)
    have H2 := Lib.hid fun W => refValid_any s W (by omega)
    have H3 := Lib.hid fun W => key_any s W (by omega)
    have H4 := Lib.hid fun W => refKey_any s W (by omega)
    have H5 := Lib.hid fun W => text_any s W (by omega)
    have H6 := Lib.hid fun W => refText_any s W (by omega)
    have H7 := Lib.hid fun W => interface_any s W (by omega)
    have H8 := Lib.hid fun W => refInterface_any s W (by omega)
    have H9 := Lib.hid fun W => link_any s W (by omega)
    have H10 := Lib.hid fun W => refLink_any s m W (by omega)
    have Hm := Lib.hid hm
    generalize nameB NameSet s.data.toList = v1 at *
    generalize keyB s.data.toList = v2 at *
    generalize textB s.data.toList = v3 at *
    generalize ifaceB s.data.toList = v4 at *
    generalize linkB s.data.toList = v5 at *
    clear hm
    go_enter Tryd.func3, Tryd.ntmps3
    go_wp2_with fail
    refine (H1.out _).mono ?_
    rintro e W1 ⟨rfl, hb1⟩
    go_wp2_with fail
    refine (H2.out _).mono ?_
    rintro e W2 ⟨rfl, rfl⟩
    go_wp2_with fail
    refine (H3.out _).mono ?_
    rintro e W3 ⟨rfl, hb3⟩
    have hc3 := belT hb1 hb3
    clear hb3 hb1
    go_wp2_with fail
    refine (H4.out _).mono ?_
    rintro e W4 ⟨rfl, rfl⟩
    go_wp2_with fail
    refine (H5.out _).mono ?_
    rintro e W5 ⟨rfl, hb5⟩
    have hc5 := belT hc3 hb5
    clear hb5 hc3
    go_wp2_with fail
    refine (H6.out _).mono ?_
    rintro e W6 ⟨rfl, rfl⟩
    go_wp2_with fail
    refine (H7.out _).mono ?_
    rintro e W7 ⟨rfl, hb7⟩
    have hc7 := belT hc5 hb7
    clear hb7 hc5
    go_wp2_with fail
    refine (H8.out _).mono ?_
    rintro e W8 ⟨rfl, rfl⟩
    go_wp2_with fail
    refine (H9.out _).mono ?_
    rintro e W9 ⟨rfl, hb9⟩
    have hc9 := belT hc7 hb9
    clear hb9 hc7
    go_wp2_with fail
    refine (H10.out _ (max_below Hm.out hc9 (Nat.le_refl _))).mono ?_
    rintro e W10 ⟨rfl, hb10⟩
    have hc10 := belT hc9 hb10
    clear hb10 hc9
    go_wp2_with fail
    refine (Hk.out _).mono ?_
    rintro e W11 ⟨rfl, hb11⟩
    have hc11 := belT hc10 hb11
    clear hb11 hc10
    go_wp2
    go_ret
    exact ⟨rfl, hc11⟩
  · have h1' : ¬ (s.size : Int) ≤ 600 := by omega
    clear hm
    go_enter Tryd.func3, Tryd.ntmps3
    go_wp2_with fail
    refine (Hk.out _).mono ?_
    rintro e w6 ⟨rfl, hbl⟩
    go_wp2
    go_ret
    exact ⟨rfl, hbl⟩
end Go.Proofs.YtfcfooipoiomkaaDoor
