/- Remove of the reference. slices.Grow of the nil slice, slices.Concat of two rows of devices. -/
import Derived.Test.YtldcediiobfhiaaGreatDoorKZ3
import Derived.Test.YtldcediiobfhiaaGreatDoorKRr
import Derived.Test.YtldcediiobfhiaaGreatDoorKMg
import Derived.Deep.MidRow
namespace Go.Proofs.YtldcediiobfhiaaGreatDoor
open Go.RowKit
/-- Whether a device lies below another or is it, as the reference asks. -/
def blw (l : List De.DV) (n : Int) (x : De.DV) : Bool := (De.ups (l.map (·.1)) x.1.idx).any fun a => a.idx == n
def remE (l : List De.DV) (n : Int) : Int := if (De.idxP (l.map (·.1)) n).isSome then 0 else 45
def remR (l : List De.DV) (n : Int) : List De.DV := if (De.idxP (l.map (·.1)) n).isSome then l.filter (fun x => !blw l n x) else []
end Go.Proofs.YtldcediiobfhiaaGreatDoor
namespace Go.Proofs.YtldcediiobfhiaaGreatDoor
open Go.RowKit
theorem zero_cells_size (k : Nat) : (Builtin.zeroCells (Value.agg De.zeroC).cells k).size = k * 10 := De.zero_size k
set_option maxHeartbeats 2000000 in
set_option maxRecDepth 100000 in
theorem grow_nil (n : Nat) (hn : n ≤ 200000) (w : World) : Calls Tryz.prog 118 #[.slice none 0 0, .int .i64 (n : Int)] w fun e w' => ∃ v, e = .returned v ∧ Hid (w'.ownsRow w.heap.size 34 10 v 0 []) ∧ Hid (Kp [] w w') := by
 obtain ⟨i0, hi0, hz0, hz1, hz2⟩ := info_parts De.info34
 have h1 : ¬ ((n : Int) < 0) := by omega
 have h2 : IntKind.i64.wrap (n : Int) = (n : Int) := by rw [IntKind.wrap_i64]; omega
 cases n with
 | zero =>
  go_enter Tryz.func118, Tryz.ntmps118
  go_wp2
  go_ret
  exact ⟨_, rfl, Lib.hid (World.ownsRow_nil _ _ _ _), Lib.hid (Kp.refl _ _)⟩
 | succ k =>
  have hold : (Builtin.firstCells i0.size 0 (.slice none 0 0)).run Tryz.prog w.drew = .ok (([] : List Value)).toArray w.drew := run_firstCells_none w.drew i0.size 0 0 0
  have hrz := fun ty => Lib.run_append_grow_zeros (P := Tryz.prog) w 22 3 ty 34 i0 _ .i64 .i64 Tryz.underlying22 Tryz.underlying3 hi0 hz0 none 0 0 [] hold (k + 1) (by omega) (by omega) (by omega) (by omega) (by rw [hz2]; omega)
   (by rw [hz2]; exact growslice_fits (by omega) (by omega))
  rw [show 0 + (k + 1) = k + 1 by omega] at hrz
  obtain ⟨G, hG⟩ : ∃ G, grownCap w (k + 1) 0 34 = G := ⟨_, rfl⟩
  have hG1 : k + 1 ≤ G := by rw [← hG]; exact grownCap_ge w _ _ _
  have hG2 : G ≤ maxLen := by rw [← hG]; exact grownCap_le_maxLen w _ _ _ (by unfold maxLen; omega)
  rw [hG] at hrz
  obtain ⟨row0, hrow0⟩ : ∃ row : Array Value, ([] : List Value).toArray ++ Builtin.zeroCells (Value.agg De.zeroC).cells (k + 1) ++ Builtin.zeroCells (Value.agg De.zeroC).cells (G - (k + 1)) = row := ⟨_, rfl⟩
  rw [hrow0] at hrz
  have hrs : row0.size = G * 10 := by
   rw [← hrow0, Array.size_append, Array.size_append, zero_cells_size, zero_cells_size]
   simp
   omega
  obtain ⟨W1, hW1⟩ : ∃ W1, w.drew.alloc (.cells row0 34) = W1 := ⟨_, rfl⟩
  rw [hW1] at hrz
  have hk1 : Kp [] w W1 := by rw [← hW1]; exact ((Kp.refl [] w).drew 1).alloc _
  have hn1 : W1.heap[w.heap.size]? = some (.cells row0 34 (0, 0)) := by rw [← hW1]; exact heap_alloc_last w.drew _
  have HO := Lib.hid (show W1.ownsRow w.heap.size 34 10 (.slice (some ⟨w.heap.size, 0, none⟩) 0 G) 0 [] from ⟨rfl, .inr ⟨w.heap.size, G, row0, rfl, Nat.le_refl _, hn1, Nat.zero_le _, hG2, hrs, by simp⟩⟩)
  have HK := Lib.hid hk1
  have HR := Lib.hid hrz
  have h3 : ((k + 1 : Nat) : Int) > 0 := by omega
  have hG3 : G ≤ 9223372036854775807 := by unfold maxLen at hG2; omega
  clear hrz hold hW1 hk1 hn1 hrs hrow0 hG
  go_enter Tryz.func118, Tryz.ntmps118
  go_wp2_with (at_builtin; refine Lib.wpList_append_run _ rfl _ _ _ _ rfl _ _ rfl rfl _ _ (HR.out _) ?_)
  all_goals (go_ret; exact ⟨_, rfl, HO, HK⟩)
theorem two_sl {W : World} {R : Nat} {u v : Value} (h : W.heap[R]? = some (.cells #[u, v] 22 (0, 0))) : W.cell? ⟨R, 0, none⟩ = some u ∧ W.cell? ⟨R, 1, none⟩ = some v := by
 constructor <;> (rw [cell_of_row _ _ _ _ _ _ h]; rfl)
set_option maxHeartbeats 4000000 in
set_option maxRecDepth 100000 in
/-- Concat of two rows. -/
theorem concat_any (R : Nat) (ua ub : Option Addr) (n m c1 c2 : Nat) (l1 l2 : List De.DV) (w : World) (hn : n + m ≤ 100000) (h : w.heap[R]? = some (.cells #[.slice ua n c1, .slice ub m c2] 22 (0, 0))) (hl1 : l1.length = n) (hl2 : l2.length = m) (h1 : De.DHas w (.slice ua n c1) l1) (h2 : De.DHas w (.slice ub m c2) l2) :
  Calls Tryz.prog 84 #[.slice (some ⟨R, 0, none⟩) 2 2] w fun e w' => ∃ v, e = .returned v ∧ Hid (De.DHas w' v (l1 ++ l2)) ∧ Hid (Kp [] w w') := by
 have HR := Lib.hid h
 have H1 := Lib.hid h1
 have H2 := Lib.hid h2
 have HL1 := Lib.hid hl1
 have HL2 := Lib.hid hl2
 have t0 := (two_sl h).1
 have t1 := (two_sl h).2
 obtain ⟨S, hS⟩ : ∃ S, n + m = S := ⟨_, rfl⟩
 have hw0 : IntKind.i64.wrap (n : Int) = (n : Int) := by rw [IntKind.wrap_i64]; omega
 have hw1 : IntKind.i64.wrap ((n : Int) + (m : Int)) = (S : Int) := by rw [IntKind.wrap_i64]; omega
 have hp0 : ¬ ((n : Int) < 0) := by omega
 have hp1 : ¬ ((S : Int) < 0) := by omega
 have HG := Lib.hid (grow_nil S (by omega) w)
 clear h h1 h2 hl1 hl2
 go_enter Tryz.func84, Tryz.ntmps84
 go_upto_region 3 with fail
 go_loopw [3, 11] (fun s3 s11 wx => ∃ i : Nat, i ≤ 2 ∧ s11 = .int .i64 (i : Int) ∧ s3 = .int .i64 ((if i = 0 then 0 else if i = 1 then n else S : Nat) : Int) ∧ wx = w) (fun _ s11 _ => 2 - (intOf s11).toNat)
 case atStart => exact ⟨0, by omega, rfl, rfl, rfl⟩
 case round =>
  obtain ⟨i, hi, rfl, rfl, hwx⟩ := hrel
  subst hwx
  obtain rfl | rfl | rfl : i = 0 ∨ i = 1 ∨ i = 2 := by omega
  ·go_wp2
   exact ⟨⟨1, by omega, by go_num, rfl, trivial⟩, by simp [intOf]⟩
  ·have hs : (if (1 : Nat) = 0 then 0 else if (1 : Nat) = 1 then n else S : Nat) = n := rfl
   rw [hs]
   go_wp2
   exact ⟨⟨2, by omega, by go_num, rfl, trivial⟩, by simp [intOf]⟩
  ·have hs : (if (2 : Nat) = 0 then 0 else if (2 : Nat) = 1 then n else S : Nat) = S := rfl
   rw [hs]
   go_upto_region 11 with (go_at_call 118; refine Calls.mono (by with_reducible exact HG.out) ?_; rintro e w1 ⟨v0, rfl, HO1, HK1⟩)
   clear t0 t1
   go_loopw [6, 27] (fun s6 s27 wx => ∃ (i : Nat) (XS : List De.DV), i ≤ 2 ∧ s27 = .int .i64 (i : Int) ∧ XS = (if i = 0 then [] else if i = 1 then l1 else l1 ++ l2) ∧ Hid (wx.ownsRow wr.heap.size 34 10 s6 XS.length (De.dvsC XS)) ∧ Hid (Kp [] wr wx)) (fun _ s27 _ => 2 - (intOf s27).toNat)
   case atStart => exact ⟨0, [], by omega, rfl, rfl, HO1, HK1⟩
   case round =>
    obtain ⟨i, XS, hi2, rfl, hXS, HO, HK⟩ := hrel
    have hw := HK.out.size
    have t0 := (two_sl ((HK.out.block R (block_lt HR.out) (by simp)).trans HR.out)).1
    have t1 := (two_sl ((HK.out.block R (block_lt HR.out) (by simp)).trans HR.out)).2
    obtain rfl | rfl | rfl : i = 0 ∨ i = 1 ∨ i = 2 := by omega
    ·obtain rfl : XS = [] := hXS
     have HLa := Lib.hid (show ([] : List De.DV).length + l1.length ≤ 100000 from by rw [HL1.out]; simp; omega)
     go_wp2_with (refine wpList_append_dvs rfl _ _ rfl _ _ (.slice ua n c1) [] l1 rfl HO.out rfl (H1.out.below HK.out.bel) HLa.out hw ?_; intro v5 w3 hown hgr; have HO5 := Lib.hid hown; have HK5 := Lib.hid (kp_grownS HK.out hgr (fun b hb => (HO.out.lt b hb).1)); clear hown hgr)
     exact ⟨⟨1, l1, by omega, by go_num, rfl, HO5, HK5⟩, by simp [intOf]⟩
    ·obtain rfl : XS = l1 := hXS
     have HLa := Lib.hid (show XS.length + l2.length ≤ 100000 from by rw [HL1.out, HL2.out]; omega)
     go_wp2_with (refine wpList_append_dvs rfl _ _ rfl _ _ (.slice ub m c2) XS l2 rfl HO.out rfl (H2.out.below HK.out.bel) HLa.out hw ?_; intro v5 w3 hown hgr; have HO5 := Lib.hid hown; have HK5 := Lib.hid (kp_grownS HK.out hgr (fun b hb => (HO.out.lt b hb).1)); clear hown hgr)
     exact ⟨⟨2, XS ++ l2, by omega, by go_num, rfl, HO5, HK5⟩, by simp [intOf]⟩
    ·obtain rfl : XS = l1 ++ l2 := hXS
     go_wp2
     go_ret
     exact ⟨_, rfl, Lib.hid (De.DOwn.has ⟨HO.out, fun z hz => by
      rcases List.mem_append.1 hz with h | h
      ·exact dhas_ats (H1.out.below HK.out.bel) z h
      ·exact dhas_ats (H2.out.below HK.out.bel) z h⟩), HK⟩
end Go.Proofs.YtldcediiobfhiaaGreatDoor
