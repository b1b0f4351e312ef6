/- Node, and the examples of the chapter. -/
import Derived.Test.YthdnbcgomepgaaaDoorH
namespace Go.Proofs.YthdnbcgomepgaaaDoor
open Go.RowKit

/-- A device. -/
structure Dev where
  idx : Int
  par : Int
  name : ByteArray
  orig : ByteArray
  sub : ByteArray
  drv : ByteArray
  ali : ByteArray
  kind : Int
  num : Int
  av : Value

def devC (d : Dev) : Array Value := #[.int .i64 d.idx, .int .i64 d.par, .string d.name, .string d.orig, .string d.sub, .string d.drv, .string d.ali, .int .i64 d.kind, .int .i64 d.num, d.av]
def devV (d : Dev) : Value := .agg (devC d)

/-- The variable internal/bytealg.MaxLen lies in block 0. -/
def Max (w : World) : Prop := ∃ m : Int, w.cell? ⟨0, 0, none⟩ = some (.int .i64 m)
theorem Max.pos {w : World} (h : Max w) : 0 < w.heap.size := by
  obtain ⟨m, h⟩ := h
  exact World.block_lt_of_cell? _ _ h
theorem Max.below {w w' : World} (h : Max w) (hb : Below w.heap.size w w') : Max w' := by
  have hp := h.pos
  obtain ⟨m, h⟩ := h
  exact ⟨m, (hb.cell (p := ⟨0, 0, none⟩) hp).trans h⟩

def nodeOf (s : ByteArray) : ByteArray := ⟨(Lib.replaceAll s.data.toList [33] [47]).toArray⟩
def hasN (k : Int) : Bool := k == 2 || k == 3
def nodeR (d : Dev) : Value := .tuple #[.string (if hasN d.kind then nodeOf d.orig else ⟨#[]⟩), .bool (hasN d.kind)]

theorem replace_any (s : ByteArray) (w : World) (hs : s.size < 4294967281) (hm : Max w) : Calls Tryd.prog 49 #[.string s, .string ⟨#[33]⟩, .string ⟨#[47]⟩] w (Bel (.string (nodeOf s)) w) := by
  obtain ⟨m, hm⟩ := hm
  have h1 : (1 : Nat) ≤ (⟨#[33]⟩ : ByteArray).size := Nat.le_refl _
  have hmul := Lib.countB_mul_le ⟨#[33]⟩ h1 s.size s (Nat.le_refl _)
  have e1 : (⟨#[33]⟩ : ByteArray).size = 1 := rfl
  have e2 : (⟨#[47]⟩ : ByteArray).size = 1 := rfl
  rw [e1] at hmul
  exact Tryd.strings_ReplaceAll s ⟨#[33]⟩ ⟨#[47]⟩ m w hs hm h1 (by rw [e2]; omega)

set_option maxHeartbeats 400000 in
set_option maxRecDepth 100000 in
theorem hasNode_any (d : Dev) (w : World) : Calls Tryd.prog 48 #[devV d] w (Bel (.bool (hasN d.kind)) w) := by
  obtain ⟨idx, par, name, orig, sub, drv, ali, kind, num, av⟩ := d
  unfold devV devC hasN
  simp only
  by_cases h2 : kind = 2
  · subst h2
    go_enter Tryd.func48, Tryd.ntmps48
    go_wp2
    go_ret
    exact ⟨rfl, (Below.refl _ w).alloc (Nat.le_refl _) _⟩
  · by_cases h3 : kind = 3
    · subst h3
      go_enter Tryd.func48, Tryd.ntmps48
      go_wp2
      go_ret
      exact ⟨rfl, (Below.refl _ w).alloc (Nat.le_refl _) _⟩
    · have e2 : (kind == 2) = false := by simpa using h2
      have e3 : (kind == 3) = false := by simpa using h3
      rw [e2, e3]
      go_enter Tryd.func48, Tryd.ntmps48
      go_wp2
      go_ret
      exact ⟨rfl, (Below.refl _ w).alloc (Nat.le_refl _) _⟩

set_option maxHeartbeats 400000 in
set_option maxRecDepth 100000 in
theorem node_any (d : Dev) (w : World) (hs : d.orig.size < 4294967281) (hm : Max w) : Calls Tryd.prog 25 #[devV d] w (Bel (nodeR d) w) := by
  have hh := fun W => hasNode_any d W
  have hre := fun W (h : Below w.heap.size w W) => replace_any d.orig W hs (hm.below h)
  have HH := Lib.hid hh
  have HR := Lib.hid hre
  have hx : nodeR d = .tuple #[.string (if hasN d.kind then nodeOf d.orig else ⟨#[]⟩), .bool (hasN d.kind)] := rfl
  rw [hx]
  clear hh hre hm hx hs
  obtain ⟨idx, par, name, orig, sub, drv, ali, kind, num, av⟩ := d
  unfold devV devC at *
  simp only at HH HR ⊢
  cases hk : hasN kind with
  | false =>
    rw [hk] at HH
    go_enter Tryd.func25, Tryd.ntmps25
    go_wp2_with fail
    refine (HH.out _).mono ?_
    rintro e W ⟨rfl, hb⟩
    have Hb := Lib.hid (((Below.refl _ w).alloc (Nat.le_refl _) _).trans (hb.mono (by simp)))
    clear hb
    go_wp2
    go_ret2
    exact ⟨rfl, Hb.out⟩
  | true =>
    rw [hk] at HH
    go_enter Tryd.func25, Tryd.ntmps25
    go_wp2_with fail
    refine (HH.out _).mono ?_
    rintro e W ⟨rfl, hb⟩
    have hc := hb.cell (p := ⟨w.heap.size, 3, none⟩) (by simp)
    rw [cell_of_row _ _ _ _ _ _ (heap_last w _)] at hc
    simp only [List.getElem?_toArray, List.getElem?_cons_zero, List.getElem?_cons_succ] at hc
    have Hb := Lib.hid (((Below.refl _ w).alloc (Nat.le_refl _) _).trans (hb.mono (by simp)))
    clear hb
    go_wp2_with fail
    refine (HR.out _ Hb.out).mono ?_
    rintro e W2 ⟨rfl, hb2⟩
    have Hb2 := Lib.hid (Hb.out.trans (hb2.mono Hb.out.size))
    clear hb2
    go_wp2
    go_ret2
    exact ⟨rfl, Hb2.out⟩

theorem known_node : nodeOf ⟨#[99, 99, 105, 115, 115, 33, 99, 48, 100, 48]⟩ = ⟨#[99, 99, 105, 115, 115, 47, 99, 48, 100, 48]⟩ := by
  kernel_rfl

def KL : List Atr := [(⟨#[97]⟩, ⟨#[49]⟩), (⟨#[99]⟩, ⟨#[51]⟩)]
theorem kl_set : setP ⟨#[98]⟩ ⟨#[50]⟩ KL = [(⟨#[97]⟩, ⟨#[49]⟩), (⟨#[98]⟩, ⟨#[50]⟩), (⟨#[99]⟩, ⟨#[51]⟩)] := by
  kernel_rfl
theorem kl_srt : Srt KL := by
  unfold Srt KL
  refine List.Pairwise.cons (fun y hy => ?_) (List.Pairwise.cons (fun y hy => by cases hy) .nil)
  rw [List.mem_singleton.1 hy]
  kernel_rfl

set_option maxHeartbeats 1000000 in
set_option maxRecDepth 100000 in
theorem known_any (w : World) (hm : Max w) : Calls Tryd.prog 10 #[] w (Bel (.bool true) w) := by
  have hset := fun W sv (h : Has W sv KL) => set_any ⟨#[98]⟩ ⟨#[50]⟩ sv KL W (by decide) kl_srt h
  have hnode := fun W (h : Max W) => node_any ⟨0, 0, ⟨#[]⟩, ⟨#[99, 99, 105, 115, 115, 33, 99, 48, 100, 48]⟩, ⟨#[]⟩, ⟨#[]⟩, ⟨#[]⟩, 2, 0, .slice none 0 0⟩ W (by decide) h
  have HS := Lib.hid hset
  have HN := Lib.hid hnode
  have HM := Lib.hid hm
  clear hset hnode hm
  have hR : nodeR ⟨0, 0, ⟨#[]⟩, ⟨#[99, 99, 105, 115, 115, 33, 99, 48, 100, 48]⟩, ⟨#[]⟩, ⟨#[]⟩, ⟨#[]⟩, 2, 0, .slice none 0 0⟩ = .tuple #[.string ⟨#[99, 99, 105, 115, 115, 47, 99, 48, 100, 48]⟩, .bool true] := by
    unfold nodeR
    rw [known_node]
    rfl
  rw [hR] at HN
  clear hR
  go_enter Tryd.func10, Tryd.ntmps10
  go_wp2_with fail
  have hb0 : Below w.heap.size w (w.alloc (.cells #[.string ⟨#[97]⟩, .string ⟨#[49]⟩, .string ⟨#[99]⟩, .string ⟨#[51]⟩] 55)) := (Below.refl _ w).alloc (Nat.le_refl _) _
  refine (HS.out _ _ (.inr ⟨w.heap.size, 0, 2, rfl, by simp, row_of_heap (heap_last w (.cells #[.string ⟨#[97]⟩, .string ⟨#[49]⟩, .string ⟨#[99]⟩, .string ⟨#[51]⟩] 55)) rfl⟩)).mono ?_
  rintro e W ⟨u, rfl, hh, hb⟩
  rw [kl_set] at hh
  have Hb := Lib.hid (hb0.trans (hb.mono (by simp)))
  have hso := sorted_any u _ W (by decide) hh
  rw [srtB_of (by have := srt_setP ⟨#[98]⟩ ⟨#[50]⟩ kl_srt; rwa [kl_set] at this)] at hso
  rcases hh with ⟨_, _, _, h0⟩ | ⟨b, o, c, rfl, hbW, hrow⟩
  · cases h0
  have hc := (hrow 1 (⟨#[98]⟩, ⟨#[50]⟩) rfl).1
  clear hb0 hb
  have HSo := Lib.hid (fun W' (h : Below W.heap.size W W') => sorted_any (.slice (some ⟨b, o, none⟩) 3 c) [(⟨#[97]⟩, ⟨#[49]⟩), (⟨#[98]⟩, ⟨#[50]⟩), (⟨#[99]⟩, ⟨#[51]⟩)] W' (by decide) (.inr ⟨b, o, c, rfl, Nat.lt_of_lt_of_le hbW h.size, hrow.keep (h.block b hbW)⟩))
  have hst : srtB [((⟨#[97]⟩ : ByteArray), (⟨#[49]⟩ : ByteArray)), (⟨#[98]⟩, ⟨#[50]⟩), (⟨#[99]⟩, ⟨#[51]⟩)] = true := srtB_of (by have := srt_setP ⟨#[98]⟩ ⟨#[50]⟩ kl_srt; rwa [kl_set] at this)
  rw [hst] at HSo
  have HMW := Lib.hid (HM.out.below Hb.out)
  have Hc := Lib.hid hc
  clear hso hrow hst hc
  go_wp2_with fail
  refine (HN.out _ HMW.out).mono ?_
  rintro e W2 ⟨rfl, hb2⟩
  have hc := (hb2.cell (p := ⟨b, o + 1 * 2, none⟩) hbW).trans Hc.out
  rw [Nat.one_mul] at hc
  have Hb2 := Lib.hid hb2
  clear hb2
  go_wp2_with fail
  refine (HSo.out _ Hb2.out).mono ?_
  rintro e W3 ⟨rfl, hb3⟩
  have Hb3 := Lib.hid ((Hb.out.trans (Hb2.out.mono Hb.out.size)).trans (hb3.mono (Nat.le_trans Hb.out.size Hb2.out.size)))
  clear hb3
  go_wp2
  go_ret
  exact ⟨rfl, Hb3.out⟩
end Go.Proofs.YthdnbcgomepgaaaDoor
