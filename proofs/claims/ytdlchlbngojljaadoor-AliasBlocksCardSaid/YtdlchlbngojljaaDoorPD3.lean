/- An alias that is drawn; what the walks of the laws want. -/
import Derived.Test.YtdlchlbngojljaaDoorPD2
namespace Go.Proofs.YtdlchlbngojljaaDoor
open Go.RowKit Go.Maps
def alL : List Tx := [[117, 115, 98, 58, 118, 49], [117, 115, 98, 58, 118, 49, 50], [117, 115, 98, 58, 118, 50], [112, 99, 105, 58, 100, 50], [112, 99, 105, 58, 100, 51], [120, 58, 49], [118, 105, 114, 116, 105, 111], []]
def AlPost (tb k : Nat) (w : World) (e : Ending) (w' : World) : Prop := ∃ x, x ∈ alL ∧ Hid (Tp w' tb (k + 1)) ∧ Hid (Kp [tb] w w') ∧ e = .returned (.string (bs x))
set_option maxHeartbeats 2000000 in
set_option maxRecDepth 100000 in
theorem alias_any {w : World} {tb k : Nat} (hk : k ≤ 1000000) (h : Tp w tb k) : Calls Tryd.prog 10 #[.pointer (some ⟨tb, 0, none⟩)] w (AlPost tb k w) := by
 have hone := one_new alL (by decide) (by decide) hk h
 obtain ⟨B, hB⟩ : ∃ B, w.heap.size = B := ⟨_, rfl⟩
 obtain ⟨W, hW⟩ : ∃ W, w.alloc (.cells #[.string ⟨#[117, 115, 98, 58, 118, 49]⟩, .string ⟨#[117, 115, 98, 58, 118, 49, 50]⟩, .string ⟨#[117, 115, 98, 58, 118, 50]⟩, .string ⟨#[112, 99, 105, 58, 100, 50]⟩, .string ⟨#[112, 99, 105, 58, 100, 51]⟩, .string ⟨#[120, 58, 49]⟩, .string ⟨#[118, 105, 114, 116, 105, 111]⟩, .string ⟨#[]⟩] 9) = W := ⟨_, rfl⟩
 have HO := Lib.hid (show Calls Tryd.prog 16 #[.pointer (some ⟨tb, 0, none⟩), .slice (some ⟨B, 0, none⟩) 8 8] W (fun e w' => ∃ x, x ∈ alL ∧ e = .returned (.string (bs x)) ∧ Tp w' tb (k + 1) ∧ Kp [tb] w w') from by rw [← hW, ← hB]; exact hone)
 have HB := Lib.hid hB
 have HW := Lib.hid hW
 unfold AlPost
 clear hone hB hW h
 go_enter Tryd.func10, Tryd.ntmps10
 go_wp2_with fail
 rw [HB.out, HW.out]
 refine Calls.mono (by with_reducible exact HO.out) ?_
 rintro e w2 ⟨x, hx, rfl, hT, hK⟩
 have HT := Lib.hid hT
 have HK := Lib.hid hK
 have HX := Lib.hid hx
 clear hT hK hx HO
 go_wp2
 go_ret
 exact ⟨x, HX.out, HT, HK, rfl⟩
theorem sub_nodup {ms : List Md} (h : ms.Sublist allMd) : (ms.map (·.name)).Nodup := (h.map (·.name)).nodup (by decide)
theorem sub_ty {C : Cf} (h : C.mods.Sublist allMd) (h1 : C.bl.length ≤ 1000) (h2 : C.ex.length ≤ 1000) (h3 : ∀ s ∈ C.bl, s.length ≤ 1000) (h4 : ∀ e ∈ C.ex, e.1.length ≤ 1000 ∧ e.2.length ≤ 1000) : CTy C := by
 have hall : allMd.length = 8 ∧ ∀ m ∈ allMd, m.al.length ≤ 100 ∧ m.name.length ≤ 1000 ∧ ∀ p ∈ m.al, p.length ≤ 16 := by decide
 exact ⟨by have := h.length_le; omega, fun m hm => (hall.2 m (h.subset hm)).1, fun m hm => (hall.2 m (h.subset hm)).2.1, fun m hm => (hall.2 m (h.subset hm)).2.2, h1, h3, h2, h4⟩
theorem al_len {x : Tx} (h : x ∈ alL) : x.length ≤ 10 := by
 have : ∀ x ∈ alL, x.length ≤ 10 := by decide
 exact this x h
theorem kp_bel {w w' : World} {tb : Nat} (h : Kp [tb] w w') (htb : w.heap.size ≤ tb) : Below w.heap.size w w' := h.below (Nat.le_refl _) (by simpa using htb)
/-- A tape that was just made. -/
theorem tp_new {w : World} {lv : Value} (h : Ints w w.heap.size lv) : Tp (w.alloc (.cells #[lv, .int .i64 0] 26)) w.heap.size 0 := by
 refine ⟨lv, heap_alloc_last w _, h.keep fun b hb => ?_⟩
 exact ((Kp.refl [] w).alloc _).block b hb (by simp)
/-- Two patterns that match one text have a common text. -/
theorem com_some {p q s : Tx} (hs : s.length ≤ 1000000) (h1 : hitG p s = true) (h2 : hitG q s = true) : (comG p q).isSome = true := by
 unfold hitG Gl.patB at h1 h2
 unfold comG
 cases hp : Gl.altsP p with
 | none => rw [hp] at h1; cases h1
 | some x =>
  cases hq : Gl.altsP q with
  | none => rw [hq] at h2; cases h2
  | some y =>
   rw [hp] at h1
   rw [hq] at h2
   have hsp := Gl.commonB_spec (Gl.altsP_Good hp) (Gl.altsP_Good hq)
   show (Gl.commonB x y).isSome = true
   cases hc : Gl.commonB x y with
   | some t => rfl
   | none =>
    rw [hc] at hsp
    exact absurd (hsp s (by unfold Gl.never; omega) h1 h2) id
theorem com_hit {p q t : Tx} (h : comG p q = some t) : hitG p t = true ∧ hitG q t = true ∧ t.length ≤ 2000000000 := by
 unfold comG at h
 unfold hitG Gl.patB
 cases hp : Gl.altsP p with
 | none => rw [hp] at h; cases h
 | some x =>
  rw [hp] at h
  cases hq : Gl.altsP q with
  | none => rw [hq] at h; cases h
  | some y =>
   rw [hq] at h
   have h' : Gl.commonB x y = some t := h
   have hsp := Gl.commonB_spec (Gl.altsP_Good hp) (Gl.altsP_Good hq)
   rw [h'] at hsp
   exact ⟨hsp.2.1, hsp.2.2.1, by have := hsp.1; unfold Gl.never at this; omega⟩
end Go.Proofs.YtdlchlbngojljaaDoor
