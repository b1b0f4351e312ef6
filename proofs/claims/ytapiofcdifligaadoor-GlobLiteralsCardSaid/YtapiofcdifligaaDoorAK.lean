/- known, the sanity check of the statements: the examples of the chapter. -/
import Derived.Test.YtapiofcdifligaaDoorAJ
namespace Go.Proofs.YtapiofcdifligaaDoor
open Go.RowKit

theorem comRes_of {p q t : List UInt8} (h1 : (altsP p).isSome = true) (h2 : (altsP q).isSome = true) (h : ((altsP p).bind fun x => (altsP q).bind fun y => commonB x y) = some t) : comRes p q = .tuple #[.string ⟨t.toArray⟩, .bool true, .int .i64 0] := by
  unfold comRes
  cases hx : altsP p with
  | none => rw [hx] at h1; simp at h1
  | some x =>
    cases hy : altsP q with
    | none => rw [hy] at h2; simp at h2
    | some y =>
      rw [hx, hy] at h
      have h' : commonB x y = some t := h
      simp only [h']
      rfl

set_option maxHeartbeats 1000000 in
set_option maxRecDepth 100000 in
theorem known_any (w : World) (hT : TabAt w) : Calls Tryd.prog 12 #[] w (Bel (.bool true) w) := by
  have h1 := common_any ⟨#[97, 42]⟩ ⟨#[42, 98]⟩ w (by decide) (by decide) hT
  rw [show comRes (⟨#[97, 42]⟩ : ByteArray).data.toList (⟨#[42, 98]⟩ : ByteArray).data.toList = .tuple #[.string ⟨#[97, 98]⟩, .bool true, .int .i64 0] from comRes_of (t := [97, 98]) (by decide +kernel) (by decide +kernel) (by decide +kernel)] at h1
  have h2 := fun W (h : TabAt W) => prefix_any ⟨#[117, 115, 98, 58, 118, 49, 42, 124, 117, 115, 98, 58, 119, 63]⟩ W (by decide) h
  rw [show (⟨((altsP (⟨#[117, 115, 98, 58, 118, 49, 42, 124, 117, 115, 98, 58, 119, 63]⟩ : ByteArray).data.toList).elim [] prefB).toArray⟩ : ByteArray) = ⟨#[117, 115, 98, 58]⟩ from by decide +kernel, show errP (⟨#[117, 115, 98, 58, 118, 49, 42, 124, 117, 115, 98, 58, 119, 63]⟩ : ByteArray).data.toList = 0 from by decide +kernel] at h2
  have h3 := fun W => match_any ⟨#[115, 100, 91, 97, 45, 99, 93, 42, 124, 110, 118, 109, 101, 63]⟩ ⟨#[115, 100, 98, 49]⟩ W (by decide) (by decide)
  rw [show patB (⟨#[115, 100, 91, 97, 45, 99, 93, 42, 124, 110, 118, 109, 101, 63]⟩ : ByteArray).data.toList (⟨#[115, 100, 98, 49]⟩ : ByteArray).data.toList = true from by decide +kernel] at h3
  have h4 := fun W => match_any ⟨#[115, 100, 91, 33, 97, 45, 99, 93]⟩ ⟨#[115, 100, 98]⟩ W (by decide) (by decide)
  rw [show patB (⟨#[115, 100, 91, 33, 97, 45, 99, 93]⟩ : ByteArray).data.toList (⟨#[115, 100, 98]⟩ : ByteArray).data.toList = false from by decide +kernel] at h4
  have H1 := Lib.hid h1
  have H2 := Lib.hid h2
  have H3 := Lib.hid h3
  have H4 := Lib.hid h4
  have HT := Lib.hid hT
  clear h1 h2 h3 h4 hT
  go_enter Tryd.func12, Tryd.ntmps12
  go_wp2_with fail
  refine H1.out.mono ?_
  rintro e W1 ⟨rfl, hb1⟩
  have Hb1 := Lib.hid hb1
  go_wp2_with fail
  refine (H2.out _ (HT.out.below hb1)).mono ?_
  rintro e W2 ⟨rfl, hb2⟩
  go_wp2_with fail
  refine (H3.out _).mono ?_
  rintro e W3 ⟨rfl, hb3⟩
  go_wp2_with fail
  refine (H4.out _).mono ?_
  rintro e W4 ⟨rfl, hb4⟩
  go_wp2
  go_ret
  exact ⟨rfl, hb1.trans ((hb2.mono hb1.size).trans ((hb3.mono (Nat.le_trans hb1.size hb2.size)).trans (hb4.mono (Nat.le_trans hb1.size (Nat.le_trans hb2.size hb3.size)))))⟩
end Go.Proofs.YtapiofcdifligaaDoor
