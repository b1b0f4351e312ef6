/- The reference's Children. The reference's Ancestors. The reference's Below and Subtree. The reference's Subtree. -/
import Derived.Test.YtldcediiobfhiaaGreatDoorKRd
import Derived.Deep.RegionHeld
namespace Go.Proofs.YtldcediiobfhiaaGreatDoor.De
open Go.RowKit
end Go.Proofs.YtldcediiobfhiaaGreatDoor.De
namespace Go.Proofs.YtldcediiobfhiaaGreatDoor.De
open Go.RowKit
end Go.Proofs.YtldcediiobfhiaaGreatDoor.De
namespace Go.Proofs.YtldcediiobfhiaaGreatDoor.De
open Go.RowKit
theorem upD_len (l : List DV) : ∀ (k : Nat) (n : Int), (upD l k n).length ≤ k
 | 0, _ => Nat.le_refl _
 | k + 1, n => by
  unfold upD
  cases fndD l n with
  | none => exact Nat.zero_le _
  | some x => exact Nat.succ_le_succ (upD_len l k x.1.par)
theorem idxP_isSome : ∀ (l : List ADev) (n : Int), (idxP l n).isSome = l.any fun a => a.idx == n
 | [], _ => rfl
 | a :: l, n => by
  rw [idxP, List.any_cons]
  by_cases h : a.idx = n
  ·rw [if_pos h, h]
   simp
  ·rw [if_neg h, Option.isSome_map, idxP_isSome l n]
   have : (a.idx == n) = false := beq_eq_false_iff_ne.2 h
   rw [this, Bool.false_or]
theorem idxV_ge (o : Option Nat) : decide (0 ≤ idxV o) = o.isSome := by
 cases o with
 | none => rfl
 | some p =>
  show decide ((0 : Int) ≤ (p : Int)) = true
  exact decide_eq_true (by omega)
/-- Lying below, as the reference asks it. -/
theorem bel_up (l : List DV) (n top : Int) : (idxP ((upD l l.length n).map (·.1)) top).isSome = ((ups (l.map (·.1)) n).any fun a => a.idx == top) := by
 rw [idxP_isSome, upD_fst]
 unfold ups
 rw [List.length_map]
set_option maxHeartbeats 1000000 in
set_option maxRecDepth 100000 in
theorem refBelow_any (sv : Value) (l : List DV) (n top : Int) (w : World) (hl : l.length ≤ 1000000) (h : DHas w sv l) : Calls Tryz.prog 78 #[.agg #[sv], .int .i64 n, .int .i64 top] w (Bel (.bool ((ups (l.map (·.1)) n).any fun a => a.idx == top)) w) := by
 obtain ⟨a, c, hsv, _⟩ := h.form
 have HC := Lib.hid (fun W (hW : Below w.heap.size w W) => refChain_any sv l n W hl (h.below hW))
 have hbu := bel_up l n top
 have hlen := upD_len l l.length n
 obtain ⟨R, hR⟩ : ∃ R, upD l l.length n = R := ⟨_, rfl⟩
 rw [hR] at HC hbu hlen
 rw [← hbu]
 have HX := Lib.hid (fun (u : Value) W (hu : DHas W u R) => refIndex_any u R top W (by omega) hu)
 obtain ⟨o, ho⟩ : ∃ o, idxP (R.map (·.1)) top = o := ⟨_, rfl⟩
 rw [ho] at HX ⊢
 have hge := idxV_ge o
 obtain ⟨z, hz⟩ : ∃ z, idxV o = z := ⟨_, rfl⟩
 rw [hz] at HX hge
 obtain ⟨N, hN⟩ : ∃ N, l.length = N := ⟨_, rfl⟩
 rw [hN] at hsv
 subst hsv
 have Hb0 := Lib.hid (show Below w.heap.size w (w.alloc (.cells #[.slice a N c] 29)) from (Below.refl _ w).alloc (Nat.le_refl _) _)
 have Hge := Lib.hid hge
 clear h hR hN hl hbu hlen ho hz hge
 go_enter Tryz.func78, Tryz.ntmps78
 go_wp2_with fail
 refine (HC.out _ Hb0.out).mono ?_
 rintro e W1 ⟨u, rfl, hown, hb1⟩
 have Hu := Lib.hid hown.has
 have Hbw := Lib.hid (Hb0.out.trans (hb1.mono Hb0.out.size))
 clear hown hb1
 go_wp2_with fail
 refine (HX.out u W1 Hu.out).mono ?_
 rintro e W2 ⟨rfl, hb2⟩
 have Hb2 := Lib.hid (Hbw.out.trans (hb2.mono Hbw.out.size))
 clear hb2
 go_wp2
 go_ret
 exact ⟨by rw [← Hge.out]; rfl, Hb2.out⟩
end Go.Proofs.YtldcediiobfhiaaGreatDoor.De
namespace Go.Proofs.YtldcediiobfhiaaGreatDoor.De
open Go.RowKit
end Go.Proofs.YtldcediiobfhiaaGreatDoor.De
