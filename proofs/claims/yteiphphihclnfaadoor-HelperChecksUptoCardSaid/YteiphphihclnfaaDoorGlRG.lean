/- The reference's Parse by a pattern's alternatives; its Check. -/
import Derived.Test.YteiphphihclnfaaDoorGlRF
namespace Go.Proofs.YteiphphihclnfaaDoor.Gl
open Go.RowKit

theorem all_allIn (p : List UInt8) : allIn TextSet p = p.all isText := congrArg (fun f => p.all f) (funext fun b => text_iff b)
theorem parse_none {p : ByteArray} (h : altsP p.data.toList = none) (hp : p.size ≤ 256) (w : World) : Calls Tryd.prog 42 #[.string p] w (Bel (.tuple #[.slice none 0 0, .bool false]) w) := by
  have hsz := Lib.size_eq p
  refine (parse_any p w hp).mono ?_
  rintro e w' ⟨hb, h1⟩
  refine ⟨?_, hb⟩
  unfold altsP at h
  rw [if_neg (by omega), all_allIn] at h
  split at h
  · rename_i h2
    rw [if_pos h2] at h1
    exact h1
  · rename_i h2
    rw [if_neg h2] at h1
    rw [Option.map_eq_none_iff.1 h] at h1
    exact h1
theorem parse_some {p : ByteArray} {L : List (List El)} (h : altsP p.data.toList = some L) (hp : p.size ≤ 256) (w : World) : Calls Tryd.prog 42 #[.string p] w (fun e w' => Below w.heap.size w w' ∧ ∃ v, e = .returned (.tuple #[v, .bool true]) ∧ PAltsAt w' v L) := by
  have hsz := Lib.size_eq p
  refine (parse_any p w hp).mono ?_
  rintro e w' ⟨hb, h1⟩
  refine ⟨hb, ?_⟩
  obtain ⟨_, h2, T, hT, rfl⟩ := altsP_parts h
  rw [if_neg (by rw [h2]; simp), hT] at h1
  exact h1
theorem altsP_short {p : ByteArray} {L : List (List El)} (h : altsP p.data.toList = some L) : p.size ≤ 256 := by
  have := (altsP_parts h).1
  rwa [← Lib.size_eq] at this

set_option maxHeartbeats 400000 in
set_option maxRecDepth 100000 in
theorem refCheck_any (p : ByteArray) (w : World) (hp : p.size ≤ 4611686018427387904) : Calls Tryd.prog 25 #[.string p] w (Bel (.int .i64 (errP p.data.toList)) w) := by
  have hsz := Lib.size_eq p
  by_cases h256 : 256 < p.size
  · have hi : (256 : Int) < (p.size : Int) := by omega
    have he : errP p.data.toList = 21 := by
      unfold errP
      rw [if_pos (by omega)]
    rw [he]
    clear he hsz
    go_enter Tryd.func25, Tryd.ntmps25
    go_wp2
    go_ret
    exact ⟨rfl, Below.refl _ _⟩
  · have hi : ¬ (256 : Int) < (p.size : Int) := by omega
    cases h : altsP p.data.toList with
    | none =>
      have hc := parse_none h (by omega)
      have he : errP p.data.toList = 20 := by
        unfold errP
        rw [if_neg (by omega), h]
        rfl
      rw [he]
      have Hc := Lib.hid hc
      clear hc h he hsz
      go_enter Tryd.func25, Tryd.ntmps25
      go_wp2_with fail
      refine (Hc.out _).mono ?_
      rintro e W1 ⟨rfl, hb⟩
      go_wp2
      go_ret
      exact ⟨rfl, hb⟩
    | some L =>
      have hc := parse_some h (by omega)
      rw [errP_some h]
      have Hc := Lib.hid hc
      clear hc h hsz
      go_enter Tryd.func25, Tryd.ntmps25
      go_wp2_with fail
      refine (Hc.out _).mono ?_
      rintro e W1 ⟨hb, v, rfl, hv⟩
      go_wp2
      go_ret
      exact ⟨rfl, hb⟩
end Go.Proofs.YteiphphihclnfaaDoor.Gl
