/- known, the sanity check of the statements: the examples of the chapter. -/
import Derived.Test.YtfcfooipoiomkaaDoorF
import Derived.Test.YtfcfooipoiomkaaDoorJ
namespace Go.Proofs.YtfcfooipoiomkaaDoor
open Go.RowKit

set_option maxHeartbeats 1000000 in
set_option maxRecDepth 100000 in
theorem known_any (w : World) : Calls Tryd.prog 12 #[] w (Bel (.bool true) w) := by
  have h1 := fun W => compare_any ⟨#[47, 97, 47, 98]⟩ ⟨#[47, 97, 43, 47, 98]⟩ W (by decide) (by decide)
  rw [show cmpB (⟨#[47, 97, 47, 98]⟩ : ByteArray).data.toList (⟨#[47, 97, 43, 47, 98]⟩ : ByteArray).data.toList = (-1, 0) from by decide +kernel] at h1
  have h2 := fun W => clean_any ⟨#[100, 105, 115, 107, 47, 47, 98, 121, 32, 105, 100, 47, 46, 47, 120]⟩ W (by decide)
  rw [show cleanB (⟨#[100, 105, 115, 107, 47, 47, 98, 121, 32, 105, 100, 47, 46, 47, 120]⟩ : ByteArray).data.toList = ([100, 105, 115, 107, 47, 98, 121, 95, 105, 100, 47, 120], true) from by decide +kernel] at h2
  have h3 := fun W => valid_any ⟨#[99, 99, 105, 115, 115, 33, 99, 48, 100, 48]⟩ W (by decide)
  rw [show nameB NameSet (⟨#[99, 99, 105, 115, 115, 33, 99, 48, 100, 48]⟩ : ByteArray).data.toList = true from by decide +kernel] at h3
  have h4 := fun W => valid_any ⟨#[46]⟩ W (by decide)
  rw [show nameB NameSet (⟨#[46]⟩ : ByteArray).data.toList = false from by decide +kernel] at h4
  have h5 := fun W => number_any ⟨#[115, 100, 97, 49, 50]⟩ W (by decide)
  rw [show (⟨#[115, 100, 97, 49, 50]⟩ : ByteArray).extract (numAt (⟨#[115, 100, 97, 49, 50]⟩ : ByteArray).data.toList (⟨#[115, 100, 97, 49, 50]⟩ : ByteArray).size) (⟨#[115, 100, 97, 49, 50]⟩ : ByteArray).size = ⟨#[49, 50]⟩ from by decide +kernel] at h5
  have H1 := Lib.hid h1
  have H2 := Lib.hid h2
  have H3 := Lib.hid h3
  have H4 := Lib.hid h4
  have H5 := Lib.hid h5
  clear h1 h2 h3 h4 h5
  go_enter Tryd.func12, Tryd.ntmps12
  go_wp2_with fail
  refine (H1.out _).mono ?_
  rintro e W1 ⟨rfl, hb1⟩
  go_wp2_with fail
  refine (H2.out _).mono ?_
  rintro e W2 ⟨rfl, hb2⟩
  go_wp2_with fail
  refine (H3.out _).mono ?_
  rintro e W3 ⟨rfl, hb3⟩
  go_wp2_with fail
  refine (H4.out _).mono ?_
  rintro e W4 ⟨rfl, hb4⟩
  go_wp2_with fail
  refine (H5.out _).mono ?_
  rintro e W5 ⟨rfl, rfl⟩
  go_wp2
  go_ret
  exact ⟨rfl, hb1.trans ((hb2.mono hb1.size).trans ((hb3.mono (Nat.le_trans hb1.size hb2.size)).trans (hb4.mono (Nat.le_trans hb1.size (Nat.le_trans hb2.size hb3.size)))))⟩
end Go.Proofs.YtfcfooipoiomkaaDoor
