/- MatchDevices: terms are static and upward, and hold for a device, as the reference says. -/
import Derived.Test.YthblgkjmjfhkdaaKLDrafts
namespace Go.Proofs.Ythblgkjmjfhkdaa
open Go.RowKit

set_option maxRecDepth 100000 in
set_option maxHeartbeats 16000000 in
theorem devices_any (x0 : Tm) (xi xp : Int) (xn xo xs xd xa : ByteArray) (xk xm : Int) (xad : Option Addr) (xac : Nat) (lx : List De.Atr) (a : Option Addr) (n c : Nat) {w : World} (hi : Ints w w.heap.size (.slice a n c)) (h : De.Has w (.slice xad lx.length xac) lx) (hs : SmD ⟨xi, xp, xn, xo, xs, xd, xa, xk, xm, .slice xad lx.length xac⟩ lx) (hlx : lx.length ≤ 9223372036854775807) :
    Calls Try.prog 3 #[.agg (tmC x0), .agg #[.int .i64 xi, .int .i64 xp, .string xn, .string xo, .string xs, .string xd, .string xa, .int .i64 xk, .int .i64 xm, .slice xad lx.length xac], .slice a n c] w fun e w' => e = .returned (.bool true) ∧ Kp [] w w' := by
  have HKN := Lib.hid known_any
  have HLX := Lib.hid hlx
  obtain ⟨xan, hxan⟩ : ∃ n, lx.length = n := ⟨_, rfl⟩
  rw [hxan] at h hs ⊢
  obtain ⟨p4, hp4⟩ : ∃ p, w.heap.size = p := ⟨_, rfl⟩
  obtain ⟨p6, hp6⟩ : ∃ p, p4 + 1 = p := ⟨_, rfl⟩
  obtain ⟨tb, htb⟩ : ∃ p, p6 + 1 = p := ⟨_, rfl⟩
  obtain ⟨u1, hu1⟩ : ∃ u, w.alloc (.cells #[.int .i64 x0.key, .string (bs x0.name), .int .i64 x0.op, .string (bs x0.val)] 23) = u := ⟨_, rfl⟩
  obtain ⟨u2, hu2⟩ : ∃ u, u1.alloc (.cells #[.int .i64 xi, .int .i64 xp, .string xn, .string xo, .string xs, .string xd, .string xa, .int .i64 xk, .int .i64 xm, .slice xad xan xac] 26) = u := ⟨_, rfl⟩
  obtain ⟨u3, hu3⟩ : ∃ u, u2.alloc (.cells #[.slice a n c, .int .i64 0] 31) = u := ⟨_, rfl⟩
  have z1 : u1.heap.size = p6 := by rw [← hu1, ← hp6, ← hp4]; simp
  have z2 : u2.heap.size = tb := by rw [← hu2, ← htb, ← z1]; simp
  have k1 : Kp [] w u1 := by rw [← hu1]; exact (Kp.refl [] _).alloc _
  have k2 : Kp [] u1 u2 := by rw [← hu2]; exact (Kp.refl [] _).alloc _
  have k3 : Kp [] u2 u3 := by rw [← hu3]; exact (Kp.refl [] _).alloc _
  have m4 : MAt u1 p4 x0 := by rw [← hu1, ← hp4]; exact heap_alloc_last w _
  have m6 : De.BoxAt u2 p6 #[.int .i64 xi, .int .i64 xp, .string xn, .string xo, .string xs, .string xd, .string xa, .int .i64 xk, .int .i64 xm, .slice xad xan xac] := by rw [← hu2, ← z1]; exact heap_alloc_last u1 _
  have hT : Tp u3 tb 0 := by
    rw [← hu3, ← z2]
    exact tape_new2 (hi.keep fun b hb => (k1.trans k2).block b hb (by simp)) ((k1.trans k2).size)
  have HM4 := Lib.hid (m4.kp0 (k2.trans k3))
  have HM6 := Lib.hid (show De.BoxAt u3 p6 #[.int .i64 xi, .int .i64 xp, .string xn, .string xo, .string xs, .string xd, .string xa, .int .i64 xk, .int .i64 xm, .slice xad xan xac] from (k3.block p6 (block_lt m6) (by simp)).trans m6)
  have HT := Lib.hid hT
  have HI := Lib.hid (h.below (k1.trans (k2.trans k3)).bel)
  have HKW := Lib.hid (k1.trans (k2.trans k3))
  have HP := Lib.hid (show p4 < tb ∧ p6 < tb by omega)
  have HSR := Lib.hid hs
  obtain ⟨t0, t1, t2, t3⟩ := m4.kp0 k2 |>.cells
  have HDX := Lib.hid (fun W (h : De.BoxAt W p6 #[.int .i64 xi, .int .i64 xp, .string xn, .string xo, .string xs, .string xd, .string xa, .int .i64 xk, .int .i64 xm, .slice xad xan xac]) => (show W.cell? ⟨p6, 0, none⟩ = some (.int .i64 xi) ∧ W.cell? ⟨p6, 1, none⟩ = some (.int .i64 xp) ∧ W.cell? ⟨p6, 2, none⟩ = some (.string xn) ∧ W.cell? ⟨p6, 3, none⟩ = some (.string xo) ∧ W.cell? ⟨p6, 4, none⟩ = some (.string xs) ∧ W.cell? ⟨p6, 5, none⟩ = some (.string xd) ∧ W.cell? ⟨p6, 6, none⟩ = some (.string xa) ∧ W.cell? ⟨p6, 7, none⟩ = some (.int .i64 xk) ∧ W.cell? ⟨p6, 8, none⟩ = some (.int .i64 xm) ∧ W.cell? ⟨p6, 9, none⟩ = some (.slice xad xan xac) from ⟨h.cell 0, h.cell 1, h.cell 2, h.cell 3, h.cell 4, h.cell 5, h.cell 6, h.cell 7, h.cell 8, h.cell 9⟩))
  obtain ⟨d0, d1, d2, d3, d4, d5, d6, d7, d8, d9⟩ := HDX.out _ m6
  have k12 := k1.trans k2
  have hz0 : (bs x0.val).size = x0.val.length := bs_size _
  unfold tmC
  clear hT m4 k3 hxan h hs hlx
  by_cases hq1 : xan ≤ 60
  · have hn1 : ¬ (60 : Int) < (xan : Int) := by omega
    by_cases hq2 : x0.val.length ≤ 300
    · have hn2 : ¬ (300 : Int) < ((bs x0.val).size : Int) := by omega
      have HVL := Lib.hid hq2
      go_enter Try.func3, Try.ntmps3
      go_upto_region 5 with (go_at_call 8; refine Calls.mono (wdev_any (by omega) HT.out) ?_; rintro e w3 ⟨⟨yi, yp, yn, yo, ys, yd, ya, yk, ym, yv⟩, ly, rfl, hhas, hsm, hln, ⟨k5, hk5, hT⟩, hkp⟩; obtain ⟨yad, yac, hv, -⟩ := hhas.form; simp only at hv; subst hv; have HT3 := Lib.hid hT; have HI3 := Lib.hid (has_tape HI.out HT.out hkp); have HJ3 := Lib.hid hhas; have HSR2 := Lib.hid hsm; have HLN := Lib.hid hln; have HM43 := Lib.hid (HM4.out.kp hkp (by simp; have := HP.out; omega)); have HM63 := Lib.hid (show De.BoxAt w3 p6 #[.int .i64 xi, .int .i64 xp, .string xn, .string xo, .string xs, .string xd, .string xa, .int .i64 xk, .int .i64 xm, .slice xad xan xac] from (hkp.block p6 (block_lt HM6.out) (by simp; have := HP.out; omega)).trans HM6.out); have HK3 := Lib.hid hkp; clear hT hhas hsm hkp hln; dsimp only [De.devV, De.devC])
      have HLY := Lib.hid (show ly.length ≤ 9223372036854775807 from Nat.le_trans HLN.out (by decide))
      obtain ⟨yan, hyan⟩ : ∃ n, ly.length = n := ⟨_, rfl⟩
      rw [hyan] at HJ3 HSR2 ⊢
      clear hyan
      obtain ⟨pa, hpa⟩ : ∃ p, w3.heap.size = p := ⟨_, rfl⟩
      rw [hpa]
      have HDY := Lib.hid (fun W (h : De.BoxAt W pa #[.int .i64 yi, .int .i64 yp, .string yn, .string yo, .string ys, .string yd, .string ya, .int .i64 yk, .int .i64 ym, .slice yad yan yac]) => (show W.cell? ⟨pa, 0, none⟩ = some (.int .i64 yi) ∧ W.cell? ⟨pa, 1, none⟩ = some (.int .i64 yp) ∧ W.cell? ⟨pa, 2, none⟩ = some (.string yn) ∧ W.cell? ⟨pa, 3, none⟩ = some (.string yo) ∧ W.cell? ⟨pa, 4, none⟩ = some (.string ys) ∧ W.cell? ⟨pa, 5, none⟩ = some (.string yd) ∧ W.cell? ⟨pa, 6, none⟩ = some (.string ya) ∧ W.cell? ⟨pa, 7, none⟩ = some (.int .i64 yk) ∧ W.cell? ⟨pa, 8, none⟩ = some (.int .i64 ym) ∧ W.cell? ⟨pa, 9, none⟩ = some (.slice yad yan yac) from ⟨h.cell 0, h.cell 1, h.cell 2, h.cell 3, h.cell 4, h.cell 5, h.cell 6, h.cell 7, h.cell 8, h.cell 9⟩))
      have ka := (Kp.refl [] w3).alloc (.cells #[.int .i64 yi, .int .i64 yp, .string yn, .string yo, .string ys, .string yd, .string ya, .int .i64 yk, .int .i64 ym, .slice yad yan yac] 26)
      have ma : De.BoxAt (w3.alloc (.cells #[.int .i64 yi, .int .i64 yp, .string yn, .string yo, .string ys, .string yd, .string ya, .int .i64 yk, .int .i64 ym, .slice yad yan yac] 26)) pa #[.int .i64 yi, .int .i64 yp, .string yn, .string yo, .string ys, .string yd, .string ya, .int .i64 yk, .int .i64 ym, .slice yad yan yac] := by rw [← hpa]; exact heap_alloc_last w3 _
      generalize w3.alloc (.cells #[.int .i64 yi, .int .i64 yp, .string yn, .string yo, .string ys, .string yd, .string ya, .int .i64 yk, .int .i64 ym, .slice yad yan yac] 26) = w4 at *
      have kb := (Kp.refl [] w4).drew 1
      have kc := ka.trans kb
      have HTA := Lib.hid (show tb < pa by have := HT3.out.lt; omega)
      have HT := Lib.hid (show Tp w4.drew tb k5 from HT3.out.kp kc (by simp))
      have HI := Lib.hid (HI3.out.below kc.bel)
      have HJ := Lib.hid (HJ3.out.below kc.bel)
      have HM4 := Lib.hid (HM43.out.kp0 kc)
      have HM6 := Lib.hid (show De.BoxAt w4.drew p6 #[.int .i64 xi, .int .i64 xp, .string xn, .string xo, .string xs, .string xd, .string xa, .int .i64 xk, .int .i64 xm, .slice xad xan xac] from (kc.block p6 (block_lt HM63.out) (by simp)).trans HM63.out)
      have HMA := Lib.hid (show De.BoxAt w4.drew pa #[.int .i64 yi, .int .i64 yp, .string yn, .string yo, .string ys, .string yd, .string ya, .int .i64 yk, .int .i64 ym, .slice yad yan yac] from (kb.block pa (block_lt ma) (by simp)).trans ma)
      have HK := Lib.hid (HK3.out.trans (kc.mono (by simp)))
      clear ka ma kb kc hpa HT3 HI3 HJ3 HM43 HM63 HK3
      refine wp_region_held_drew (S := fun W => MAt W p4 x0) (by kernel_rfl) HM4.out (fun hHeld => ?_)
      refine wpAnyH_take (i := 0) (oi := { dst := some 29, op := Op.load 23 (Operand.tmp 3), type := 23, pos := "law.go:53", after := #[], guard := none }) (v := .agg #[.int .i64 x0.key, .string (bs x0.name), .int .i64 x0.op, .string (bs x0.val)]) rfl (by kernel_rfl) (by kernel_rfl) (by kernel_rfl) (fun _ _ _ h => h) (Or.inl ⟨by rfl, fun w hSw => by (try dsimp only at hSw); obtain ⟨c0, c1, c2, c3⟩ := hSw.cells; go_simp⟩) hHeld ?_
      try simp only [Act.put, List.setIfInBounds_toArray, List.set_cons_zero, List.set_cons_succ]
      refine wpAnyH_take (i := 1) (oi := { dst := some 30, op := Op.move (Operand.tmp 7), type := 29, pos := "law.go:53", after := #[], guard := none }) (v := .pointer (some ⟨tb, 0, none⟩)) rfl (by kernel_rfl) (by kernel_rfl) (by kernel_rfl) (fun _ _ _ h => h) (Or.inl ⟨by rfl, fun w hSw => by (try dsimp only at hSw); go_simp⟩) hHeld ?_
      try simp only [Act.put, List.setIfInBounds_toArray, List.set_cons_zero, List.set_cons_succ]
      refine wpAnyH_take (i := 3) (oi := { dst := some 32, op := Op.move (Operand.tmp 7), type := 29, pos := "law.go:53", after := #[], guard := none }) (v := .pointer (some ⟨tb, 0, none⟩)) rfl (by kernel_rfl) (by kernel_rfl) (by kernel_rfl) (fun _ _ _ h => h) (Or.inl ⟨by rfl, fun w hSw => by (try dsimp only at hSw); go_simp⟩) hHeld ?_
      try simp only [Act.put, List.setIfInBounds_toArray, List.set_cons_zero, List.set_cons_succ]
      refine wpAnyH_ready (rs := [2]) (by kernel_rfl) (by simp) ?_
      refine AllReadyH.cons (o := { dst := some 31, op := Op.call { callee := Callee.value (Operand.func 9), args := #[Operand.tmp 30], argTypes := #[29] }, type := 23, pos := "law.go:53", after := #[{ on := 1, ground := Ground.data }], guard := none }) rfl (fun K hK => ?_) AllReadyH.nil
      go_simp
      go_at_call 9
      refine Calls.mono (by with_reducible exact term_any (by omega) HT.out) ?_
      rintro e w5 ⟨x1, rfl, hg1, ⟨k6, hk6, hT⟩, hkp⟩
      dsimp only
      have HI := Lib.hid (has_tape HI.out HT.out hkp)
      have HJ := Lib.hid (has_tape HJ.out HT.out hkp)
      have HM4 := Lib.hid (HM4.out.kp hkp (by simp; have := HP.out; omega))
      have HM6 := Lib.hid (show De.BoxAt w5 p6 #[.int .i64 xi, .int .i64 xp, .string xn, .string xo, .string xs, .string xd, .string xa, .int .i64 xk, .int .i64 xm, .slice xad xan xac] from (hkp.block p6 (block_lt HM6.out) (by simp; have := HP.out; omega)).trans HM6.out)
      have HMA := Lib.hid (show De.BoxAt w5 pa #[.int .i64 yi, .int .i64 yp, .string yn, .string yo, .string ys, .string yd, .string ya, .int .i64 yk, .int .i64 ym, .slice yad yan yac] from (hkp.block pa (block_lt HMA.out) (by simp; have := HTA.out; omega)).trans HMA.out)
      have HK := Lib.hid (HK.out.trans hkp)
      have HT := Lib.hid hT
      clear hT hkp
      dsimp only [tmC]
      have HG1 := Lib.hid hg1.1.2
      clear hg1
      clear hHeld
      refine hK.out _ _ HM4.out (fun hHeld => ?_)
      try simp only [Act.put, List.setIfInBounds_toArray, List.set_cons_zero, List.set_cons_succ]
      clear hK
      refine wpAnyH_ready (rs := [4]) (by kernel_rfl) (by simp) ?_
      refine AllReadyH.cons (o := { dst := some 33, op := Op.call { callee := Callee.value (Operand.func 9), args := #[Operand.tmp 32], argTypes := #[29] }, type := 23, pos := "law.go:53", after := #[{ on := 3, ground := Ground.data }, { on := 2, ground := Ground.chain }], guard := none }) rfl (fun K hK => ?_) AllReadyH.nil
      go_simp
      go_at_call 9
      refine Calls.mono (by with_reducible exact term_any (by omega) HT.out) ?_
      rintro e w6 ⟨x2, rfl, hg2, ⟨k7, hk7, hT⟩, hkp⟩
      dsimp only
      have HI := Lib.hid (has_tape HI.out HT.out hkp)
      have HJ := Lib.hid (has_tape HJ.out HT.out hkp)
      have HM4 := Lib.hid (HM4.out.kp hkp (by simp; have := HP.out; omega))
      have HM6 := Lib.hid (show De.BoxAt w6 p6 #[.int .i64 xi, .int .i64 xp, .string xn, .string xo, .string xs, .string xd, .string xa, .int .i64 xk, .int .i64 xm, .slice xad xan xac] from (hkp.block p6 (block_lt HM6.out) (by simp; have := HP.out; omega)).trans HM6.out)
      have HMA := Lib.hid (show De.BoxAt w6 pa #[.int .i64 yi, .int .i64 yp, .string yn, .string yo, .string ys, .string yd, .string ya, .int .i64 yk, .int .i64 ym, .slice yad yan yac] from (hkp.block pa (block_lt HMA.out) (by simp; have := HTA.out; omega)).trans HMA.out)
      have HK := Lib.hid (HK.out.trans hkp)
      have HT := Lib.hid hT
      clear hT hkp
      dsimp only [tmC]
      have HG2 := Lib.hid hg2.1.2
      clear hg2
      clear hHeld
      refine hK.out _ _ HM4.out (fun hHeld => ?_)
      try simp only [Act.put, List.setIfInBounds_toArray, List.set_cons_zero, List.set_cons_succ]
      clear hK
      refine wpAnyH_ready (rs := [5]) (by kernel_rfl) (by simp) ?_
      refine AllReadyH.cons (o := { dst := some 34, op := Op.buildSlice 37 3 #[(0, Operand.tmp 29), (1, Operand.tmp 31), (2, Operand.tmp 33)], type := 37, pos := "law.go:53", after := #[{ on := 0, ground := Ground.data }, { on := 2, ground := Ground.data }, { on := 4, ground := Ground.data }], guard := none }) rfl (fun K hK => ?_) AllReadyH.nil
      go_simp
      have kg := (Kp.refl [] w6).alloc (.cells #[.int .i64 x0.key, .string (bs x0.name), .int .i64 x0.op, .string (bs x0.val), .int .i64 x1.key, .string (bs x1.name), .int .i64 x1.op, .string (bs x1.val), .int .i64 x2.key, .string (bs x2.name), .int .i64 x2.op, .string (bs x2.val)] 23)
      have hgl := heap_alloc_last w6 (.cells #[.int .i64 x0.key, .string (bs x0.name), .int .i64 x0.op, .string (bs x0.val), .int .i64 x1.key, .string (bs x1.name), .int .i64 x1.op, .string (bs x1.val), .int .i64 x2.key, .string (bs x2.name), .int .i64 x2.op, .string (bs x2.val)] 23)
      obtain ⟨g, hg⟩ : ∃ g, w6.heap.size = g := ⟨_, rfl⟩
      rw [hg] at hgl
      rw [hg]
      have HGL := Lib.hid (TR.new hgl)
      generalize w6.alloc (.cells #[.int .i64 x0.key, .string (bs x0.name), .int .i64 x0.op, .string (bs x0.val), .int .i64 x1.key, .string (bs x1.name), .int .i64 x1.op, .string (bs x1.val), .int .i64 x2.key, .string (bs x2.name), .int .i64 x2.op, .string (bs x2.val)] 23) = w7 at *
      have HI := Lib.hid (HI.out.below kg.bel)
      have HJ := Lib.hid (HJ.out.below kg.bel)
      have HM4 := Lib.hid (HM4.out.kp0 kg)
      have HM6 := Lib.hid (show De.BoxAt w7 p6 #[.int .i64 xi, .int .i64 xp, .string xn, .string xo, .string xs, .string xd, .string xa, .int .i64 xk, .int .i64 xm, .slice xad xan xac] from (kg.block p6 (block_lt HM6.out) (by simp)).trans HM6.out)
      have HMA := Lib.hid (show De.BoxAt w7 pa #[.int .i64 yi, .int .i64 yp, .string yn, .string yo, .string ys, .string yd, .string ya, .int .i64 yk, .int .i64 ym, .slice yad yan yac] from (kg.block pa (block_lt HMA.out) (by simp)).trans HMA.out)
      have HK := Lib.hid (HK.out.trans (kg.mono (by simp)))
      clear kg hgl hg
      clear hHeld
      refine hK.out _ _ HM4.out (fun hHeld => ?_)
      try simp only [Act.put, List.setIfInBounds_toArray, List.set_cons_zero, List.set_cons_succ]
      clear hK
      refine wpAnyH_take (i := 6) (oi := { dst := some 9, op := Op.assign (Operand.tmp 34), type := 37, pos := "law.go:53", after := #[{ on := 5, ground := Ground.data }, { on := 4, ground := Ground.chain }, { on := 0, ground := Ground.phase }, { on := 1, ground := Ground.phase }, { on := 2, ground := Ground.phase }, { on := 3, ground := Ground.phase }, { on := 4, ground := Ground.phase }, { on := 5, ground := Ground.phase }], guard := none }) (v := .slice (some ⟨g, 0, none⟩) 3 3) rfl (by kernel_rfl) (by kernel_rfl) (by kernel_rfl) (fun _ _ _ h => h) (Or.inl ⟨by rfl, fun w hSw => by (try dsimp only at hSw); go_simp⟩) hHeld ?_
      try simp only [Act.put, List.setIfInBounds_toArray, List.set_cons_zero, List.set_cons_succ]
      refine wpAnyH_done (by kernel_rfl) ?_ _
      clear hHeld
      have hxs : ∀ i, (pk x0 x1 x2 i).val.length ≤ 4611686018427387904 := fun i => by
        have h0 := HVL.out
        have h1 := HG1.out
        have h2 := HG2.out
        match i with
        | 0 => show x0.val.length ≤ _; omega
        | 1 => show x1.val.length ≤ _; omega
        | (n + 2) => show x2.val.length ≤ _; omega
      generalize pk x0 x1 x2 = xf at *
      have HXS := Lib.hid hxs
      clear hxs
      go_wp2
      go_loopw [10] (fun s10 wx => ∃ i : Nat, i ≤ 3 ∧ s10 = .int .i64 i ∧ Kp [] w7 wx) (fun s10 _ => 3 - (intOf s10).toNat)
      case atStart => exact ⟨0, by omega, rfl, Kp.refl _ _⟩
      case round =>
        obtain ⟨i, hi3, rfl, hk⟩ := hrel
        have HKr := Lib.hid hk
        by_cases hlt : (i : Int) < 3
        · have hi4 : i < 3 := by omega
          obtain ⟨t0, t1, t2, t3⟩ := HGL.out.kp0 hk i hi4
          have hxv := HXS.out i
          generalize xf i = x at *
          clear hk
          go_upto_region 10 with fail
          obtain ⟨b, hb⟩ : ∃ b, wr.heap.size = b := ⟨_, rfl⟩
          rw [hb]
          have kx := (Kp.refl [] wr).alloc (.cells #[.int .i64 x.key, .string (bs x.name), .int .i64 x.op, .string (bs x.val)] 23)
          have mx : MAt (wr.alloc (.cells #[.int .i64 x.key, .string (bs x.name), .int .i64 x.op, .string (bs x.val)] 23)) b x := by rw [← hb]; exact heap_alloc_last wr _
          generalize wr.alloc (.cells #[.int .i64 x.key, .string (bs x.name), .int .i64 x.op, .string (bs x.val)] 23) = w8 at *
          have kz := (Kp.refl [] w8).drew 1
          have ky := HKr.out.trans (kx.trans kz)
          have HST := Lib.hid (show MAt w8.drew b x ∧ De.BoxAt w8.drew p6 #[.int .i64 xi, .int .i64 xp, .string xn, .string xo, .string xs, .string xd, .string xa, .int .i64 xk, .int .i64 xm, .slice xad xan xac] ∧ De.BoxAt w8.drew pa #[.int .i64 yi, .int .i64 yp, .string yn, .string yo, .string ys, .string yd, .string ya, .int .i64 yk, .int .i64 ym, .slice yad yan yac] ∧ Kp [] w7 w8.drew from ⟨mx.kp0 kz, (ky.block p6 (block_lt HM6.out) (by simp)).trans HM6.out, (ky.block pa (block_lt HMA.out) (by simp)).trans HMA.out, ky⟩)
          have HA := Lib.hid (fun W (hk : Kp [] w7 W) => (show Calls Try.prog 10 #[.agg #[.int .i64 x.key, .string (bs x.name), .int .i64 x.op, .string (bs x.val)]] W fun e w' => e = .returned (.bool (statB x)) ∧ Kp [] W w' from static_any x W))
          have HB := Lib.hid (fun W (hk : Kp [] w7 W) => (show Calls Try.prog 11 #[.agg #[.int .i64 x.key, .string (bs x.name), .int .i64 x.op, .string (bs x.val)]] W fun e w' => e = .returned (.bool (statB x)) ∧ Kp [] W w' from refStatic_any x W))
          have HC := Lib.hid (fun W (hk : Kp [] w7 W) => (show Calls Try.prog 12 #[.agg #[.int .i64 x.key, .string (bs x.name), .int .i64 x.op, .string (bs x.val)]] W fun e w' => e = .returned (.bool (upB x)) ∧ Kp [] W w' from upward_any x W))
          have HE := Lib.hid (fun W (hk : Kp [] w7 W) => (show Calls Try.prog 13 #[.agg #[.int .i64 x.key, .string (bs x.name), .int .i64 x.op, .string (bs x.val)]] W fun e w' => e = .returned (.bool (upB x)) ∧ Kp [] W w' from refUpward_any x W))
          have HU := Lib.hid (fun W (hk : Kp [] w7 W) => (show Calls Try.prog 14 #[.agg #[.int .i64 x.key, .string (bs x.name), .int .i64 x.op, .string (bs x.val)], .agg #[.int .i64 xi, .int .i64 xp, .string xn, .string xo, .string xs, .string xd, .string xa, .int .i64 xk, .int .i64 xm, .slice xad xan xac]] W fun e w' => e = .returned (.bool (devB x ⟨xi, xp, xn, xo, xs, xd, xa, xk, xm, .slice xad xan xac⟩ lx)) ∧ Kp [] W w' from device_any x ⟨xi, xp, xn, xo, xs, xd, xa, xk, xm, .slice xad xan xac⟩ lx W hxv HSR.out HLX.out (HI.out.below hk.bel)))
          have HV := Lib.hid (fun W (hk : Kp [] w7 W) => (show Calls Try.prog 15 #[.agg #[.int .i64 x.key, .string (bs x.name), .int .i64 x.op, .string (bs x.val)], .agg #[.int .i64 xi, .int .i64 xp, .string xn, .string xo, .string xs, .string xd, .string xa, .int .i64 xk, .int .i64 xm, .slice xad xan xac]] W fun e w' => e = .returned (.bool (devB x ⟨xi, xp, xn, xo, xs, xd, xa, xk, xm, .slice xad xan xac⟩ lx)) ∧ Kp [] W w' from refDevice_any x ⟨xi, xp, xn, xo, xs, xd, xa, xk, xm, .slice xad xan xac⟩ lx W hxv HSR.out HLX.out (HI.out.below hk.bel)))
          have HX := Lib.hid (fun W (hk : Kp [] w7 W) => (show Calls Try.prog 14 #[.agg #[.int .i64 x.key, .string (bs x.name), .int .i64 x.op, .string (bs x.val)], .agg #[.int .i64 yi, .int .i64 yp, .string yn, .string yo, .string ys, .string yd, .string ya, .int .i64 yk, .int .i64 ym, .slice yad yan yac]] W fun e w' => e = .returned (.bool (devB x ⟨yi, yp, yn, yo, ys, yd, ya, yk, ym, .slice yad yan yac⟩ ly)) ∧ Kp [] W w' from device_any x ⟨yi, yp, yn, yo, ys, yd, ya, yk, ym, .slice yad yan yac⟩ ly W hxv HSR2.out HLY.out (HJ.out.below hk.bel)))
          have HY := Lib.hid (fun W (hk : Kp [] w7 W) => (show Calls Try.prog 15 #[.agg #[.int .i64 x.key, .string (bs x.name), .int .i64 x.op, .string (bs x.val)], .agg #[.int .i64 yi, .int .i64 yp, .string yn, .string yo, .string ys, .string yd, .string ya, .int .i64 yk, .int .i64 ym, .slice yad yan yac]] W fun e w' => e = .returned (.bool (devB x ⟨yi, yp, yn, yo, ys, yd, ya, yk, ym, .slice yad yan yac⟩ ly)) ∧ Kp [] W w' from refDevice_any x ⟨yi, yp, yn, yo, ys, yd, ya, yk, ym, .slice yad yan yac⟩ ly W hxv HSR2.out HLY.out (HJ.out.below hk.bel)))
          generalize statB x = q1 at *
          generalize upB x = q2 at *
          generalize devB x ⟨xi, xp, xn, xo, xs, xd, xa, xk, xm, .slice xad xan xac⟩ lx = q3 at *
          generalize devB x ⟨yi, yp, yn, yo, ys, yd, ya, yk, ym, .slice yad yan yac⟩ ly = q4 at *
          clear kx mx kz ky hb hxv
          refine wp_region_held_drew (S := fun W => MAt W b x ∧ De.BoxAt W p6 #[.int .i64 xi, .int .i64 xp, .string xn, .string xo, .string xs, .string xd, .string xa, .int .i64 xk, .int .i64 xm, .slice xad xan xac] ∧ De.BoxAt W pa #[.int .i64 yi, .int .i64 yp, .string yn, .string yo, .string ys, .string yd, .string ya, .int .i64 yk, .int .i64 ym, .slice yad yan yac] ∧ Kp [] w7 W) (by kernel_rfl) HST.out (fun hHeld => ?_)
          refine wpAnyH_take (i := 0) (oi := { dst := some 45, op := Op.load 23 (Operand.tmp 11), type := 23, pos := "law.go:56", after := #[], guard := none }) (v := .agg #[.int .i64 x.key, .string (bs x.name), .int .i64 x.op, .string (bs x.val)]) rfl (by kernel_rfl) (by kernel_rfl) (by kernel_rfl) (fun _ _ _ h => h) (Or.inl ⟨by rfl, fun w hSw => by (try dsimp only at hSw); obtain ⟨c0, c1, c2, c3⟩ := hSw.1.cells; go_simp⟩) hHeld ?_
          try simp only [Act.put, List.setIfInBounds_toArray, List.set_cons_zero, List.set_cons_succ]
          refine wpAnyH_take (i := 2) (oi := { dst := some 47, op := Op.load 23 (Operand.tmp 11), type := 23, pos := "law.go:56", after := #[], guard := none }) (v := .agg #[.int .i64 x.key, .string (bs x.name), .int .i64 x.op, .string (bs x.val)]) rfl (by kernel_rfl) (by kernel_rfl) (by kernel_rfl) (fun _ _ _ h => h) (Or.inl ⟨by rfl, fun w hSw => by (try dsimp only at hSw); obtain ⟨c0, c1, c2, c3⟩ := hSw.1.cells; go_simp⟩) hHeld ?_
          try simp only [Act.put, List.setIfInBounds_toArray, List.set_cons_zero, List.set_cons_succ]
          refine wpAnyH_ready (rs := [1]) (by kernel_rfl) (by simp) ?_
          refine AllReadyH.cons (o := { dst := some 46, op := Op.call { callee := Callee.value (Operand.func 10), args := #[Operand.tmp 45], argTypes := #[23] }, type := 4, pos := "law.go:56", after := #[{ on := 0, ground := Ground.data }], guard := none }) rfl (fun K hK => ?_) AllReadyH.nil
          go_simp
          go_at_call 10
          refine Calls.mono (by with_reducible exact HA.out _ hHeld.2.2.2) ?_
          rintro e y1 ⟨rfl, hk⟩
          dsimp only
          have hH := (show MAt y1 b x ∧ De.BoxAt y1 p6 #[.int .i64 xi, .int .i64 xp, .string xn, .string xo, .string xs, .string xd, .string xa, .int .i64 xk, .int .i64 xm, .slice xad xan xac] ∧ De.BoxAt y1 pa #[.int .i64 yi, .int .i64 yp, .string yn, .string yo, .string ys, .string yd, .string ya, .int .i64 yk, .int .i64 ym, .slice yad yan yac] ∧ Kp [] w7 y1 from ⟨hHeld.1.kp0 hk, (hk.block p6 (block_lt hHeld.2.1) (by simp)).trans hHeld.2.1, (hk.block pa (block_lt hHeld.2.2.1) (by simp)).trans hHeld.2.2.1, hHeld.2.2.2.trans hk⟩)
          clear hHeld
          refine hK.out _ _ hH (fun hHeld => ?_)
          try simp only [Act.put, List.setIfInBounds_toArray, List.set_cons_zero, List.set_cons_succ]
          clear hK
          refine wpAnyH_ready (rs := [3]) (by kernel_rfl) (by simp) ?_
          refine AllReadyH.cons (o := { dst := some 48, op := Op.call { callee := Callee.value (Operand.func 11), args := #[Operand.tmp 47], argTypes := #[23] }, type := 4, pos := "law.go:56", after := #[{ on := 2, ground := Ground.data }, { on := 1, ground := Ground.chain }], guard := none }) rfl (fun K hK => ?_) AllReadyH.nil
          go_simp
          go_at_call 11
          refine Calls.mono (by with_reducible exact HB.out _ hHeld.2.2.2) ?_
          rintro e y2 ⟨rfl, hk⟩
          dsimp only
          have hH := (show MAt y2 b x ∧ De.BoxAt y2 p6 #[.int .i64 xi, .int .i64 xp, .string xn, .string xo, .string xs, .string xd, .string xa, .int .i64 xk, .int .i64 xm, .slice xad xan xac] ∧ De.BoxAt y2 pa #[.int .i64 yi, .int .i64 yp, .string yn, .string yo, .string ys, .string yd, .string ya, .int .i64 yk, .int .i64 ym, .slice yad yan yac] ∧ Kp [] w7 y2 from ⟨hHeld.1.kp0 hk, (hk.block p6 (block_lt hHeld.2.1) (by simp)).trans hHeld.2.1, (hk.block pa (block_lt hHeld.2.2.1) (by simp)).trans hHeld.2.2.1, hHeld.2.2.2.trans hk⟩)
          clear hHeld
          refine hK.out _ _ hH (fun hHeld => ?_)
          try simp only [Act.put, List.setIfInBounds_toArray, List.set_cons_zero, List.set_cons_succ]
          clear hK
          refine wpAnyH_take (i := 4) (oi := { dst := some 49, op := Op.binOp BinOp.neq 4 (Operand.tmp 46) (Operand.tmp 48) 4, type := 4, pos := "law.go:56", after := #[{ on := 1, ground := Ground.data }, { on := 3, ground := Ground.data }], guard := none }) (v := .bool false) rfl (by kernel_rfl) (by kernel_rfl) (by kernel_rfl) (fun _ _ _ h => h) (Or.inl ⟨by rfl, fun w hSw => by (try dsimp only at hSw); (go_simp; try simp)⟩) hHeld ?_
          try simp only [Act.put, List.setIfInBounds_toArray, List.set_cons_zero, List.set_cons_succ]
          refine wpAnyH_take (i := 5) (oi := { dst := some 50, op := Op.move (Operand.tmp 49), type := 4, pos := "law.go:56", after := #[{ on := 4, ground := Ground.data }, { on := 3, ground := Ground.chain }], guard := none }) (v := .bool false) rfl (by kernel_rfl) (by kernel_rfl) (by kernel_rfl) (fun _ _ _ h => h) (Or.inl ⟨by rfl, fun w hSw => by (try dsimp only at hSw); go_simp⟩) hHeld ?_
          try simp only [Act.put, List.setIfInBounds_toArray, List.set_cons_zero, List.set_cons_succ]
          refine wpAnyH_take (i := 6) (oi := { dst := some 51, op := Op.load 23 (Operand.tmp 11), type := 23, pos := "law.go:56", after := #[{ on := 5, ground := Ground.guard }], guard := some (5, false) }) (v := .agg #[.int .i64 x.key, .string (bs x.name), .int .i64 x.op, .string (bs x.val)]) rfl (by kernel_rfl) (by kernel_rfl) (by kernel_rfl) (fun _ _ _ h => h) (Or.inl ⟨by rfl, fun w hSw => by (try dsimp only at hSw); obtain ⟨c0, c1, c2, c3⟩ := hSw.1.cells; go_simp⟩) hHeld ?_
          try simp only [Act.put, List.setIfInBounds_toArray, List.set_cons_zero, List.set_cons_succ]
          refine wpAnyH_take (i := 8) (oi := { dst := some 53, op := Op.load 23 (Operand.tmp 11), type := 23, pos := "law.go:56", after := #[{ on := 5, ground := Ground.guard }], guard := some (5, false) }) (v := .agg #[.int .i64 x.key, .string (bs x.name), .int .i64 x.op, .string (bs x.val)]) rfl (by kernel_rfl) (by kernel_rfl) (by kernel_rfl) (fun _ _ _ h => h) (Or.inl ⟨by rfl, fun w hSw => by (try dsimp only at hSw); obtain ⟨c0, c1, c2, c3⟩ := hSw.1.cells; go_simp⟩) hHeld ?_
          try simp only [Act.put, List.setIfInBounds_toArray, List.set_cons_zero, List.set_cons_succ]
          refine wpAnyH_ready (rs := [7]) (by kernel_rfl) (by simp) ?_
          refine AllReadyH.cons (o := { dst := some 52, op := Op.call { callee := Callee.value (Operand.func 12), args := #[Operand.tmp 51], argTypes := #[23] }, type := 4, pos := "law.go:56", after := #[{ on := 6, ground := Ground.data }, { on := 5, ground := Ground.chain }, { on := 5, ground := Ground.guard }], guard := some (5, false) }) rfl (fun K hK => ?_) AllReadyH.nil
          go_simp
          go_at_call 12
          refine Calls.mono (by with_reducible exact HC.out _ hHeld.2.2.2) ?_
          rintro e y3 ⟨rfl, hk⟩
          dsimp only
          have hH := (show MAt y3 b x ∧ De.BoxAt y3 p6 #[.int .i64 xi, .int .i64 xp, .string xn, .string xo, .string xs, .string xd, .string xa, .int .i64 xk, .int .i64 xm, .slice xad xan xac] ∧ De.BoxAt y3 pa #[.int .i64 yi, .int .i64 yp, .string yn, .string yo, .string ys, .string yd, .string ya, .int .i64 yk, .int .i64 ym, .slice yad yan yac] ∧ Kp [] w7 y3 from ⟨hHeld.1.kp0 hk, (hk.block p6 (block_lt hHeld.2.1) (by simp)).trans hHeld.2.1, (hk.block pa (block_lt hHeld.2.2.1) (by simp)).trans hHeld.2.2.1, hHeld.2.2.2.trans hk⟩)
          clear hHeld
          refine hK.out _ _ hH (fun hHeld => ?_)
          try simp only [Act.put, List.setIfInBounds_toArray, List.set_cons_zero, List.set_cons_succ]
          clear hK
          refine wpAnyH_ready (rs := [9]) (by kernel_rfl) (by simp) ?_
          refine AllReadyH.cons (o := { dst := some 54, op := Op.call { callee := Callee.value (Operand.func 13), args := #[Operand.tmp 53], argTypes := #[23] }, type := 4, pos := "law.go:56", after := #[{ on := 8, ground := Ground.data }, { on := 7, ground := Ground.chain }, { on := 5, ground := Ground.guard }], guard := some (5, false) }) rfl (fun K hK => ?_) AllReadyH.nil
          go_simp
          go_at_call 13
          refine Calls.mono (by with_reducible exact HE.out _ hHeld.2.2.2) ?_
          rintro e y4 ⟨rfl, hk⟩
          dsimp only
          have hH := (show MAt y4 b x ∧ De.BoxAt y4 p6 #[.int .i64 xi, .int .i64 xp, .string xn, .string xo, .string xs, .string xd, .string xa, .int .i64 xk, .int .i64 xm, .slice xad xan xac] ∧ De.BoxAt y4 pa #[.int .i64 yi, .int .i64 yp, .string yn, .string yo, .string ys, .string yd, .string ya, .int .i64 yk, .int .i64 ym, .slice yad yan yac] ∧ Kp [] w7 y4 from ⟨hHeld.1.kp0 hk, (hk.block p6 (block_lt hHeld.2.1) (by simp)).trans hHeld.2.1, (hk.block pa (block_lt hHeld.2.2.1) (by simp)).trans hHeld.2.2.1, hHeld.2.2.2.trans hk⟩)
          clear hHeld
          refine hK.out _ _ hH (fun hHeld => ?_)
          try simp only [Act.put, List.setIfInBounds_toArray, List.set_cons_zero, List.set_cons_succ]
          clear hK
          refine wpAnyH_take (i := 10) (oi := { dst := some 55, op := Op.binOp BinOp.neq 4 (Operand.tmp 52) (Operand.tmp 54) 4, type := 4, pos := "law.go:56", after := #[{ on := 7, ground := Ground.data }, { on := 9, ground := Ground.data }, { on := 5, ground := Ground.guard }], guard := some (5, false) }) (v := .bool false) rfl (by kernel_rfl) (by kernel_rfl) (by kernel_rfl) (fun _ _ _ h => h) (Or.inl ⟨by rfl, fun w hSw => by (try dsimp only at hSw); (go_simp; try simp)⟩) hHeld ?_
          try simp only [Act.put, List.setIfInBounds_toArray, List.set_cons_zero, List.set_cons_succ]
          refine wpAnyH_take (i := 11) (oi := { dst := some 56, op := Op.pick (Operand.tmp 50) (Operand.const (Value.bool true)) (Operand.tmp 55), type := 4, pos := "law.go:56", after := #[{ on := 5, ground := Ground.data }, { on := 10, ground := Ground.data }], guard := none }) (v := .bool false) rfl (by kernel_rfl) (by kernel_rfl) (by kernel_rfl) (fun _ _ _ h => h) (Or.inl ⟨by rfl, fun w hSw => by (try dsimp only at hSw); go_simp⟩) hHeld ?_
          try simp only [Act.put, List.setIfInBounds_toArray, List.set_cons_zero, List.set_cons_succ]
          refine wpAnyH_take (i := 12) (oi := { dst := some 57, op := Op.move (Operand.tmp 56), type := 4, pos := "law.go:56", after := #[{ on := 11, ground := Ground.data }, { on := 9, ground := Ground.chain }], guard := none }) (v := .bool false) rfl (by kernel_rfl) (by kernel_rfl) (by kernel_rfl) (fun _ _ _ h => h) (Or.inl ⟨by rfl, fun w hSw => by (try dsimp only at hSw); go_simp⟩) hHeld ?_
          try simp only [Act.put, List.setIfInBounds_toArray, List.set_cons_zero, List.set_cons_succ]
          refine wpAnyH_take (i := 13) (oi := { dst := some 58, op := Op.load 23 (Operand.tmp 11), type := 23, pos := "law.go:56", after := #[{ on := 12, ground := Ground.guard }], guard := some (12, false) }) (v := .agg #[.int .i64 x.key, .string (bs x.name), .int .i64 x.op, .string (bs x.val)]) rfl (by kernel_rfl) (by kernel_rfl) (by kernel_rfl) (fun _ _ _ h => h) (Or.inl ⟨by rfl, fun w hSw => by (try dsimp only at hSw); obtain ⟨c0, c1, c2, c3⟩ := hSw.1.cells; go_simp⟩) hHeld ?_
          try simp only [Act.put, List.setIfInBounds_toArray, List.set_cons_zero, List.set_cons_succ]
          refine wpAnyH_take (i := 14) (oi := { dst := some 59, op := Op.load 26 (Operand.tmp 4), type := 26, pos := "law.go:56", after := #[{ on := 12, ground := Ground.guard }], guard := some (12, false) }) (v := .agg #[.int .i64 xi, .int .i64 xp, .string xn, .string xo, .string xs, .string xd, .string xa, .int .i64 xk, .int .i64 xm, .slice xad xan xac]) rfl (by kernel_rfl) (by kernel_rfl) (by kernel_rfl) (fun _ _ _ h => h) (Or.inl ⟨by rfl, fun w hSw => by (try dsimp only at hSw); obtain ⟨d0, d1, d2, d3, d4, d5, d6, d7, d8, d9⟩ := HDX.out _ hSw.2.1; go_simp⟩) hHeld ?_
          try simp only [Act.put, List.setIfInBounds_toArray, List.set_cons_zero, List.set_cons_succ]
          refine wpAnyH_take (i := 16) (oi := { dst := some 61, op := Op.load 23 (Operand.tmp 11), type := 23, pos := "law.go:56", after := #[{ on := 12, ground := Ground.guard }], guard := some (12, false) }) (v := .agg #[.int .i64 x.key, .string (bs x.name), .int .i64 x.op, .string (bs x.val)]) rfl (by kernel_rfl) (by kernel_rfl) (by kernel_rfl) (fun _ _ _ h => h) (Or.inl ⟨by rfl, fun w hSw => by (try dsimp only at hSw); obtain ⟨c0, c1, c2, c3⟩ := hSw.1.cells; go_simp⟩) hHeld ?_
          try simp only [Act.put, List.setIfInBounds_toArray, List.set_cons_zero, List.set_cons_succ]
          refine wpAnyH_take (i := 17) (oi := { dst := some 62, op := Op.load 26 (Operand.tmp 4), type := 26, pos := "law.go:56", after := #[{ on := 12, ground := Ground.guard }], guard := some (12, false) }) (v := .agg #[.int .i64 xi, .int .i64 xp, .string xn, .string xo, .string xs, .string xd, .string xa, .int .i64 xk, .int .i64 xm, .slice xad xan xac]) rfl (by kernel_rfl) (by kernel_rfl) (by kernel_rfl) (fun _ _ _ h => h) (Or.inl ⟨by rfl, fun w hSw => by (try dsimp only at hSw); obtain ⟨d0, d1, d2, d3, d4, d5, d6, d7, d8, d9⟩ := HDX.out _ hSw.2.1; go_simp⟩) hHeld ?_
          try simp only [Act.put, List.setIfInBounds_toArray, List.set_cons_zero, List.set_cons_succ]
          refine wpAnyH_ready (rs := [15]) (by kernel_rfl) (by simp) ?_
          refine AllReadyH.cons (o := { dst := some 60, op := Op.call { callee := Callee.value (Operand.func 14), args := #[Operand.tmp 58, Operand.tmp 59], argTypes := #[23, 26] }, type := 4, pos := "law.go:56", after := #[{ on := 13, ground := Ground.data }, { on := 14, ground := Ground.data }, { on := 12, ground := Ground.chain }, { on := 12, ground := Ground.guard }], guard := some (12, false) }) rfl (fun K hK => ?_) AllReadyH.nil
          go_simp
          go_at_call 14
          refine Calls.mono (by with_reducible exact HU.out _ hHeld.2.2.2) ?_
          rintro e y5 ⟨rfl, hk⟩
          dsimp only
          have hH := (show MAt y5 b x ∧ De.BoxAt y5 p6 #[.int .i64 xi, .int .i64 xp, .string xn, .string xo, .string xs, .string xd, .string xa, .int .i64 xk, .int .i64 xm, .slice xad xan xac] ∧ De.BoxAt y5 pa #[.int .i64 yi, .int .i64 yp, .string yn, .string yo, .string ys, .string yd, .string ya, .int .i64 yk, .int .i64 ym, .slice yad yan yac] ∧ Kp [] w7 y5 from ⟨hHeld.1.kp0 hk, (hk.block p6 (block_lt hHeld.2.1) (by simp)).trans hHeld.2.1, (hk.block pa (block_lt hHeld.2.2.1) (by simp)).trans hHeld.2.2.1, hHeld.2.2.2.trans hk⟩)
          clear hHeld
          refine hK.out _ _ hH (fun hHeld => ?_)
          try simp only [Act.put, List.setIfInBounds_toArray, List.set_cons_zero, List.set_cons_succ]
          clear hK
          refine wpAnyH_ready (rs := [18]) (by kernel_rfl) (by simp) ?_
          refine AllReadyH.cons (o := { dst := some 63, op := Op.call { callee := Callee.value (Operand.func 15), args := #[Operand.tmp 61, Operand.tmp 62], argTypes := #[23, 26] }, type := 4, pos := "law.go:56", after := #[{ on := 16, ground := Ground.data }, { on := 17, ground := Ground.data }, { on := 15, ground := Ground.chain }, { on := 12, ground := Ground.guard }], guard := some (12, false) }) rfl (fun K hK => ?_) AllReadyH.nil
          go_simp
          go_at_call 15
          refine Calls.mono (by with_reducible exact HV.out _ hHeld.2.2.2) ?_
          rintro e y6 ⟨rfl, hk⟩
          dsimp only
          have hH := (show MAt y6 b x ∧ De.BoxAt y6 p6 #[.int .i64 xi, .int .i64 xp, .string xn, .string xo, .string xs, .string xd, .string xa, .int .i64 xk, .int .i64 xm, .slice xad xan xac] ∧ De.BoxAt y6 pa #[.int .i64 yi, .int .i64 yp, .string yn, .string yo, .string ys, .string yd, .string ya, .int .i64 yk, .int .i64 ym, .slice yad yan yac] ∧ Kp [] w7 y6 from ⟨hHeld.1.kp0 hk, (hk.block p6 (block_lt hHeld.2.1) (by simp)).trans hHeld.2.1, (hk.block pa (block_lt hHeld.2.2.1) (by simp)).trans hHeld.2.2.1, hHeld.2.2.2.trans hk⟩)
          clear hHeld
          refine hK.out _ _ hH (fun hHeld => ?_)
          try simp only [Act.put, List.setIfInBounds_toArray, List.set_cons_zero, List.set_cons_succ]
          clear hK
          refine wpAnyH_take (i := 19) (oi := { dst := some 64, op := Op.binOp BinOp.neq 4 (Operand.tmp 60) (Operand.tmp 63) 4, type := 4, pos := "law.go:56", after := #[{ on := 15, ground := Ground.data }, { on := 18, ground := Ground.data }, { on := 12, ground := Ground.guard }], guard := some (12, false) }) (v := .bool false) rfl (by kernel_rfl) (by kernel_rfl) (by kernel_rfl) (fun _ _ _ h => h) (Or.inl ⟨by rfl, fun w hSw => by (try dsimp only at hSw); (go_simp; try simp)⟩) hHeld ?_
          try simp only [Act.put, List.setIfInBounds_toArray, List.set_cons_zero, List.set_cons_succ]
          refine wpAnyH_take (i := 20) (oi := { dst := some 65, op := Op.pick (Operand.tmp 57) (Operand.const (Value.bool true)) (Operand.tmp 64), type := 4, pos := "law.go:56", after := #[{ on := 12, ground := Ground.data }, { on := 19, ground := Ground.data }], guard := none }) (v := .bool false) rfl (by kernel_rfl) (by kernel_rfl) (by kernel_rfl) (fun _ _ _ h => h) (Or.inl ⟨by rfl, fun w hSw => by (try dsimp only at hSw); go_simp⟩) hHeld ?_
          try simp only [Act.put, List.setIfInBounds_toArray, List.set_cons_zero, List.set_cons_succ]
          refine wpAnyH_take (i := 21) (oi := { dst := some 66, op := Op.move (Operand.tmp 65), type := 4, pos := "law.go:56", after := #[{ on := 20, ground := Ground.data }, { on := 18, ground := Ground.chain }], guard := none }) (v := .bool false) rfl (by kernel_rfl) (by kernel_rfl) (by kernel_rfl) (fun _ _ _ h => h) (Or.inl ⟨by rfl, fun w hSw => by (try dsimp only at hSw); go_simp⟩) hHeld ?_
          try simp only [Act.put, List.setIfInBounds_toArray, List.set_cons_zero, List.set_cons_succ]
          refine wpAnyH_take (i := 22) (oi := { dst := some 67, op := Op.load 23 (Operand.tmp 11), type := 23, pos := "law.go:56", after := #[{ on := 21, ground := Ground.guard }], guard := some (21, false) }) (v := .agg #[.int .i64 x.key, .string (bs x.name), .int .i64 x.op, .string (bs x.val)]) rfl (by kernel_rfl) (by kernel_rfl) (by kernel_rfl) (fun _ _ _ h => h) (Or.inl ⟨by rfl, fun w hSw => by (try dsimp only at hSw); obtain ⟨c0, c1, c2, c3⟩ := hSw.1.cells; go_simp⟩) hHeld ?_
          try simp only [Act.put, List.setIfInBounds_toArray, List.set_cons_zero, List.set_cons_succ]
          refine wpAnyH_take (i := 23) (oi := { dst := some 68, op := Op.load 26 (Operand.tmp 8), type := 26, pos := "law.go:56", after := #[{ on := 21, ground := Ground.guard }], guard := some (21, false) }) (v := .agg #[.int .i64 yi, .int .i64 yp, .string yn, .string yo, .string ys, .string yd, .string ya, .int .i64 yk, .int .i64 ym, .slice yad yan yac]) rfl (by kernel_rfl) (by kernel_rfl) (by kernel_rfl) (fun _ _ _ h => h) (Or.inl ⟨by rfl, fun w hSw => by (try dsimp only at hSw); obtain ⟨d0, d1, d2, d3, d4, d5, d6, d7, d8, d9⟩ := HDY.out _ hSw.2.2.1; go_simp⟩) hHeld ?_
          try simp only [Act.put, List.setIfInBounds_toArray, List.set_cons_zero, List.set_cons_succ]
          refine wpAnyH_take (i := 25) (oi := { dst := some 70, op := Op.load 23 (Operand.tmp 11), type := 23, pos := "law.go:56", after := #[{ on := 21, ground := Ground.guard }], guard := some (21, false) }) (v := .agg #[.int .i64 x.key, .string (bs x.name), .int .i64 x.op, .string (bs x.val)]) rfl (by kernel_rfl) (by kernel_rfl) (by kernel_rfl) (fun _ _ _ h => h) (Or.inl ⟨by rfl, fun w hSw => by (try dsimp only at hSw); obtain ⟨c0, c1, c2, c3⟩ := hSw.1.cells; go_simp⟩) hHeld ?_
          try simp only [Act.put, List.setIfInBounds_toArray, List.set_cons_zero, List.set_cons_succ]
          refine wpAnyH_take (i := 26) (oi := { dst := some 71, op := Op.load 26 (Operand.tmp 8), type := 26, pos := "law.go:56", after := #[{ on := 21, ground := Ground.guard }], guard := some (21, false) }) (v := .agg #[.int .i64 yi, .int .i64 yp, .string yn, .string yo, .string ys, .string yd, .string ya, .int .i64 yk, .int .i64 ym, .slice yad yan yac]) rfl (by kernel_rfl) (by kernel_rfl) (by kernel_rfl) (fun _ _ _ h => h) (Or.inl ⟨by rfl, fun w hSw => by (try dsimp only at hSw); obtain ⟨d0, d1, d2, d3, d4, d5, d6, d7, d8, d9⟩ := HDY.out _ hSw.2.2.1; go_simp⟩) hHeld ?_
          try simp only [Act.put, List.setIfInBounds_toArray, List.set_cons_zero, List.set_cons_succ]
          refine wpAnyH_ready (rs := [24]) (by kernel_rfl) (by simp) ?_
          refine AllReadyH.cons (o := { dst := some 69, op := Op.call { callee := Callee.value (Operand.func 14), args := #[Operand.tmp 67, Operand.tmp 68], argTypes := #[23, 26] }, type := 4, pos := "law.go:56", after := #[{ on := 22, ground := Ground.data }, { on := 23, ground := Ground.data }, { on := 21, ground := Ground.chain }, { on := 21, ground := Ground.guard }], guard := some (21, false) }) rfl (fun K hK => ?_) AllReadyH.nil
          go_simp
          go_at_call 14
          refine Calls.mono (by with_reducible exact HX.out _ hHeld.2.2.2) ?_
          rintro e y7 ⟨rfl, hk⟩
          dsimp only
          have hH := (show MAt y7 b x ∧ De.BoxAt y7 p6 #[.int .i64 xi, .int .i64 xp, .string xn, .string xo, .string xs, .string xd, .string xa, .int .i64 xk, .int .i64 xm, .slice xad xan xac] ∧ De.BoxAt y7 pa #[.int .i64 yi, .int .i64 yp, .string yn, .string yo, .string ys, .string yd, .string ya, .int .i64 yk, .int .i64 ym, .slice yad yan yac] ∧ Kp [] w7 y7 from ⟨hHeld.1.kp0 hk, (hk.block p6 (block_lt hHeld.2.1) (by simp)).trans hHeld.2.1, (hk.block pa (block_lt hHeld.2.2.1) (by simp)).trans hHeld.2.2.1, hHeld.2.2.2.trans hk⟩)
          clear hHeld
          refine hK.out _ _ hH (fun hHeld => ?_)
          try simp only [Act.put, List.setIfInBounds_toArray, List.set_cons_zero, List.set_cons_succ]
          clear hK
          refine wpAnyH_ready (rs := [27]) (by kernel_rfl) (by simp) ?_
          refine AllReadyH.cons (o := { dst := some 72, op := Op.call { callee := Callee.value (Operand.func 15), args := #[Operand.tmp 70, Operand.tmp 71], argTypes := #[23, 26] }, type := 4, pos := "law.go:56", after := #[{ on := 25, ground := Ground.data }, { on := 26, ground := Ground.data }, { on := 24, ground := Ground.chain }, { on := 21, ground := Ground.guard }], guard := some (21, false) }) rfl (fun K hK => ?_) AllReadyH.nil
          go_simp
          go_at_call 15
          refine Calls.mono (by with_reducible exact HY.out _ hHeld.2.2.2) ?_
          rintro e y8 ⟨rfl, hk⟩
          dsimp only
          have hH := (show MAt y8 b x ∧ De.BoxAt y8 p6 #[.int .i64 xi, .int .i64 xp, .string xn, .string xo, .string xs, .string xd, .string xa, .int .i64 xk, .int .i64 xm, .slice xad xan xac] ∧ De.BoxAt y8 pa #[.int .i64 yi, .int .i64 yp, .string yn, .string yo, .string ys, .string yd, .string ya, .int .i64 yk, .int .i64 ym, .slice yad yan yac] ∧ Kp [] w7 y8 from ⟨hHeld.1.kp0 hk, (hk.block p6 (block_lt hHeld.2.1) (by simp)).trans hHeld.2.1, (hk.block pa (block_lt hHeld.2.2.1) (by simp)).trans hHeld.2.2.1, hHeld.2.2.2.trans hk⟩)
          have HF := Lib.hid hH.2.2.2
          clear hHeld
          refine hK.out _ _ hH (fun hHeld => ?_)
          try simp only [Act.put, List.setIfInBounds_toArray, List.set_cons_zero, List.set_cons_succ]
          clear hK
          refine wpAnyH_take (i := 28) (oi := { dst := some 73, op := Op.binOp BinOp.neq 4 (Operand.tmp 69) (Operand.tmp 72) 4, type := 4, pos := "law.go:56", after := #[{ on := 24, ground := Ground.data }, { on := 27, ground := Ground.data }, { on := 21, ground := Ground.guard }], guard := some (21, false) }) (v := .bool false) rfl (by kernel_rfl) (by kernel_rfl) (by kernel_rfl) (fun _ _ _ h => h) (Or.inl ⟨by rfl, fun w hSw => by (try dsimp only at hSw); (go_simp; try simp)⟩) hHeld ?_
          try simp only [Act.put, List.setIfInBounds_toArray, List.set_cons_zero, List.set_cons_succ]
          refine wpAnyH_take (i := 29) (oi := { dst := some 74, op := Op.pick (Operand.tmp 66) (Operand.const (Value.bool true)) (Operand.tmp 73), type := 4, pos := "law.go:56", after := #[{ on := 21, ground := Ground.data }, { on := 28, ground := Ground.data }], guard := none }) (v := .bool false) rfl (by kernel_rfl) (by kernel_rfl) (by kernel_rfl) (fun _ _ _ h => h) (Or.inl ⟨by rfl, fun w hSw => by (try dsimp only at hSw); go_simp⟩) hHeld ?_
          try simp only [Act.put, List.setIfInBounds_toArray, List.set_cons_zero, List.set_cons_succ]
          refine wpAnyH_done (by kernel_rfl) ?_ _
          clear hHeld
          go_wp2
          exact ⟨⟨i + 1, by omega, rfl, HF.out⟩, by simp [intOf]; omega⟩
        · obtain rfl : i = 3 := by omega
          clear hk
          go_wp2_with (go_at_call 7; refine Calls.mono (by with_reducible exact HKN.out _) ?_; rintro e w9 ⟨rfl, hk⟩; have HF := Lib.hid (HKr.out.trans hk); clear hk)
          go_ret
          exact ⟨rfl, HKW.out.up (HK.out.trans (HF.out.mono (by simp))) (fun y hy => .inr (by have := HP.out.1; simp at hy; omega))⟩
    · have hn2 : (300 : Int) < ((bs x0.val).size : Int) := by omega
      go_enter Try.func3, Try.ntmps3
      go_wp2_with (go_at_call 7; refine Calls.mono (by with_reducible exact HKN.out _) ?_; rintro e w9 ⟨rfl, hk⟩; have HF := Lib.hid hk; clear hk)
      go_ret
      exact ⟨rfl, k12.trans HF.out⟩
  · have hn1 : (60 : Int) < (xan : Int) := by omega
    go_enter Try.func3, Try.ntmps3
    go_wp2_with (go_at_call 7; refine Calls.mono (by with_reducible exact HKN.out _) ?_; rintro e w9 ⟨rfl, hk⟩; have HF := Lib.hid hk; clear hk)
    go_ret
    exact ⟨rfl, k12.trans HF.out⟩
end Go.Proofs.Ythblgkjmjfhkdaa
