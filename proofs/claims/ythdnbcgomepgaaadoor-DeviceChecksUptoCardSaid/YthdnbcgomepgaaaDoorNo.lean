/- The reference's Node; what DeviceNodes asks of one device. -/
import Derived.Test.YthdnbcgomepgaaaDoorSw
import Derived.Test.YthdnbcgomepgaaaDoorQ2
namespace Go.Proofs.YthdnbcgomepgaaaDoor
open Go.RowKit

set_option maxHeartbeats 400000 in
set_option maxRecDepth 100000 in
theorem refNode_any (d : Dev) (w : World) (hs : d.orig.size < 4294967281) (hm : Max w) : Calls Tryd.prog 26 #[devV d] w (Bel (nodeR d) w) := by
  have hre := fun W (h : Below w.heap.size w W) => replace_any d.orig W hs (hm.below h)
  have HR := Lib.hid hre
  have hx : nodeR d = .tuple #[.string (if hasN d.kind then nodeOf d.orig else ⟨#[]⟩), .bool (hasN d.kind)] := rfl
  rw [hx]
  clear hre hm hx hs
  obtain ⟨idx, par, name, orig, sub, drv, ali, kind, num, av⟩ := d
  unfold devV devC at *
  simp only at HR ⊢
  have hb0 := box_below w (.cells #[.int .i64 idx, .int .i64 par, .string name, .string orig, .string sub, .string drv, .string ali, .int .i64 kind, .int .i64 num, av] 24)
  by_cases k2 : kind = 2
  · subst k2
    have hk : hasN 2 = true := rfl
    rw [hk, if_pos rfl]
    go_enter Tryd.func26, Tryd.ntmps26
    go_wp2_with fail
    refine (HR.out _ hb0).mono ?_
    rintro e W2 ⟨rfl, hb2⟩
    have Hb2 := Lib.hid (hb0.trans (hb2.mono hb0.size))
    clear hb2
    go_wp2
    go_ret2
    exact ⟨rfl, Hb2.out⟩
  · have k2' : (kind == 2) = false := beq_eq_false_iff_ne.2 k2
    have k2n : (kind != 2) = true := by rw [bne, k2']; rfl
    by_cases k3 : kind = 3
    · subst k3
      have hk : hasN 3 = true := rfl
      rw [hk, if_pos rfl]
      go_enter Tryd.func26, Tryd.ntmps26
      go_wp2_with fail
      refine (HR.out _ hb0).mono ?_
      rintro e W2 ⟨rfl, hb2⟩
      have Hb2 := Lib.hid (hb0.trans (hb2.mono hb0.size))
      clear hb2
      go_wp2
      go_ret2
      exact ⟨rfl, Hb2.out⟩
    · have k3' : (kind == 3) = false := beq_eq_false_iff_ne.2 k3
      have k3n : (kind != 3) = true := by rw [bne, k3']; rfl
      have hk : hasN kind = false := by unfold hasN; rw [k2', k3']; rfl
      have hf : (if false = true then nodeOf orig else (⟨#[]⟩ : ByteArray)) = ⟨#[]⟩ := rfl
      rw [hk, hf]
      clear HR
      go_enter Tryd.func26, Tryd.ntmps26
      go_wp2
      go_ret2
      exact ⟨rfl, hb0⟩

/-- A device without fault has a link name for its node. -/
theorem check_link {d : Dev} {l : List Atr} (h : checkE d l = 0) (hn : hasN d.kind = true) : lnkB (nodeOf d.orig) = true := by
  unfold checkE at h
  by_cases h1 : placeB d = false
  · rw [if_pos h1] at h
    omega
  rw [if_neg h1] at h
  by_cases h2 : textsB d = false
  · rw [if_pos h2] at h
    omega
  rw [if_neg h2] at h
  by_cases h3 : kindB d = false
  · rw [if_pos h3] at h
    omega
  rw [if_neg h3] at h
  by_cases h4 : numB d = false
  · rw [if_pos h4] at h
    omega
  rw [if_neg h4] at h
  by_cases h5 : 24 < l.length
  · rw [if_pos h5] at h
    omega
  rw [if_neg h5] at h
  by_cases h6 : attrB l = false
  · rw [if_pos h6] at h
    omega
  rw [if_neg h6] at h
  by_cases h7 : nodB d = false
  · rw [if_pos h7] at h
    omega
  have h8 : nodB d = true := by simpa using h7
  unfold nodB at h8
  rw [hn] at h8
  simpa using h8

/-- A row of cells within a block. -/
def Seg (W : World) (S o : Nat) (c : Array Value) : Prop := ∀ (j : Nat) v, c[j]? = some v → W.cell? ⟨S, o + j, none⟩ = some v
theorem Seg.below {W W' : World} {S o : Nat} {c : Array Value} {B : Nat} (h : Seg W S o c) (hS : S < B) (hb : Below B W W') : Seg W' S o c := fun j v hv => (hb.cell (p := ⟨S, o + j, none⟩) hS).trans (h j v hv)
end Go.Proofs.YthdnbcgomepgaaaDoor
