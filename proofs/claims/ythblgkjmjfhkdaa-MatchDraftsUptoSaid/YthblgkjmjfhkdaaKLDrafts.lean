/- MatchDrafts: a term holds for an action and a draft as the reference says. -/
import Derived.Test.YthblgkjmjfhkdaaKLTurns
import Derived.Test.YthblgkjmjfhkdaaKTe
namespace Go.Proofs.Ythblgkjmjfhkdaa
open Go.RowKit

theorem tape_new2 {w : World} {lv : Value} {B : Nat} (hi : Ints w B lv) (hB : B ≤ w.heap.size) : Tp (w.alloc (.cells #[lv, .int .i64 0] 31)) w.heap.size 0 :=
  tape_new (by
    rcases hi with h | ⟨b, o, n, c, e, hb, hr⟩
    · exact .inl h
    · exact .inr ⟨b, o, n, c, e, by omega, hr⟩)
theorem DrIn.tape {W W' : World} {tb k : Nat} {d : Dra} {pl : List De.Atr} {tl : List (List UInt8)} (h : DrIn W d pl tl) (hT : Tp W tb k) (hk : Kp [tb] W W') : DrIn W' d pl tl := ⟨has_tape h.p hT hk, tags_tape h.t hT hk⟩
/-- The three terms, in a block of their own. -/
def TR (W : World) (g : Nat) (x : Nat → Tm) : Prop := ∀ i, i < 3 → W.cell? ⟨g, i * 4, none⟩ = some (.int .i64 (x i).key) ∧ W.cell? ⟨g, i * 4 + 1, none⟩ = some (.string (bs (x i).name)) ∧ W.cell? ⟨g, i * 4 + 2, none⟩ = some (.int .i64 (x i).op) ∧ W.cell? ⟨g, i * 4 + 3, none⟩ = some (.string (bs (x i).val))
def pk (x0 x1 x2 : Tm) : Nat → Tm | 0 => x0 | 1 => x1 | _ => x2
theorem TR.new {W : World} {g : Nat} {x0 x1 x2 : Tm} (h : W.heap[g]? = some (.cells #[.int .i64 x0.key, .string (bs x0.name), .int .i64 x0.op, .string (bs x0.val), .int .i64 x1.key, .string (bs x1.name), .int .i64 x1.op, .string (bs x1.val), .int .i64 x2.key, .string (bs x2.name), .int .i64 x2.op, .string (bs x2.val)] 23 (0, 0))) : TR W g (pk x0 x1 x2) := fun i hi => by
  have hc : i = 0 ∨ i = 1 ∨ i = 2 := by omega
  rcases hc with rfl | rfl | rfl <;> (refine ⟨?_, ?_, ?_, ?_⟩ <;> (rw [cell_of_row _ _ _ _ _ _ h]; rfl))
theorem TR.kp0 {W W' : World} {g : Nat} {x : Nat → Tm} (h : TR W g x) (hk : Kp [] W W') : TR W' g x := fun i hi => ⟨cell_kp hk (h i hi).1, cell_kp hk (h i hi).2.1, cell_kp hk (h i hi).2.2.1, cell_kp hk (h i hi).2.2.2⟩
set_option maxRecDepth 100000 in
set_option maxHeartbeats 16000000 in
theorem drafts_any (x0 : Tm) (act : ByteArray) (d : Dra) (pl : List De.Atr) (tl : List (List UInt8)) (a : Option Addr) (n c : Nat) {w : World} (hi : Ints w w.heap.size (.slice a n c)) (h : DrIn w d pl tl) (hs : pl.length + tl.length ≤ 100 → SmR act d pl tl) (hpl : pl.length ≤ 2000000000) (htl : tl.length ≤ 2000000000) :
    Calls Try.prog 4 #[.agg (tmC x0), .string act, .agg (draC d), .slice a n c] w fun e w' => e = .returned (.bool true) ∧ Kp [] w w' := by
  have HKN := Lib.hid known_any
  have hpn : d.props.n = pl.length := by
    obtain ⟨_, _, e, -⟩ := h.p.form
    cases d; rename_i p _ _ _ _ _ _ _ _ _ _ _ _ _
    cases p
    simp at e
    exact e.2.1
  have htn : d.tags.n = tl.length := by
    obtain ⟨_, _, e, -⟩ := h.t.form
    cases d; rename_i p _ _ _ _ _ _ _ _ _ _ _ _
    cases p
    simp at e
    exact e.2.1
  obtain ⟨p4, hp4⟩ : ∃ p, w.heap.size = p := ⟨_, rfl⟩
  obtain ⟨p6, hp6⟩ : ∃ p, p4 + 1 = p := ⟨_, rfl⟩
  obtain ⟨tb, htb⟩ : ∃ p, p6 + 1 = p := ⟨_, rfl⟩
  obtain ⟨u1, hu1⟩ : ∃ u, w.alloc (.cells #[.int .i64 x0.key, .string (bs x0.name), .int .i64 x0.op, .string (bs x0.val)] 23) = u := ⟨_, rfl⟩
  obtain ⟨u2, hu2⟩ : ∃ u, u1.alloc (.cells #[.slice d.props.a d.props.n d.props.c, .slice d.tags.a d.tags.n d.tags.c, .slice d.links.a d.links.n d.links.c, .slice d.run.a d.run.n d.run.c, .slice d.load.a d.load.n d.load.c, .string d.name, .int .i64 d.prio, .string d.owner, .string d.group, .int .i64 d.mode, .string d.res, .int .i64 d.calls, .int .i64 d.ticks, .slice d.closed.a d.closed.n d.closed.c] 43) = u := ⟨_, rfl⟩
  obtain ⟨u3, hu3⟩ : ∃ u, u2.alloc (.cells #[.slice a n c, .int .i64 0] 31) = u := ⟨_, rfl⟩
  have z1 : u1.heap.size = p6 := by rw [← hu1, ← hp6, ← hp4]; simp
  have z2 : u2.heap.size = tb := by rw [← hu2, ← htb, ← z1]; simp
  have k1 : Kp [] w u1 := by rw [← hu1]; exact (Kp.refl [] _).alloc _
  have k2 : Kp [] u1 u2 := by rw [← hu2]; exact (Kp.refl [] _).alloc _
  have k3 : Kp [] u2 u3 := by rw [← hu3]; exact (Kp.refl [] _).alloc _
  have m4 : MAt u1 p4 x0 := by rw [← hu1, ← hp4]; exact heap_alloc_last w _
  have m6 : DAt u2 p6 d := by rw [← hu2, ← z1]; exact heap_alloc_last u1 _
  have hT : Tp u3 tb 0 := by
    rw [← hu3, ← z2]
    exact tape_new2 (hi.keep fun b hb => (k1.trans k2).block b hb (by simp)) ((k1.trans k2).size)
  have hin := h.kp0 (k1.trans (k2.trans k3))
  have HM4 := Lib.hid (m4.kp0 (k2.trans k3))
  have HM6 := Lib.hid (m6.kp0 k3)
  have HT := Lib.hid hT
  have HI := Lib.hid hin
  have HKW := Lib.hid (k1.trans (k2.trans k3))
  have HP := Lib.hid (show p4 < tb ∧ p6 < tb by omega)
  obtain ⟨t0, t1, t2, t3⟩ := m4.kp0 k2 |>.cells
  have hwa : IntKind.i64.wrap ((d.props.n : Int) + (d.tags.n : Int)) = (d.props.n : Int) + (d.tags.n : Int) := by rw [IntKind.wrap_i64] <;> omega
  obtain ⟨d0, d1, d2, d3, d4, d5, d6, d7, d8, d9, d10, d11, d12, d13⟩ := m6.cells
  have k12 := k1.trans k2
  have hz0 : (bs x0.val).size = x0.val.length := bs_size _
  unfold tmC draC
  have hsum : (d.props.n : Int) + (d.tags.n : Int) = ((pl.length + tl.length : Nat) : Int) := by omega
  clear hT hin m4 k3 hpn htn
  by_cases hq1 : pl.length + tl.length ≤ 100
  · have hn1 : ¬ (100 : Int) < (d.props.n : Int) + (d.tags.n : Int) := by omega
    by_cases hq2 : x0.val.length ≤ 300
    · clear hsum
      have hn2 : ¬ (300 : Int) < ((bs x0.val).size : Int) := by omega
      have HSR := Lib.hid (hs hq1)
      have HVL := Lib.hid hq2
      go_enter Try.func4, Try.ntmps4
      go_upto_region 5 with (go_at_call 16; refine Calls.mono (draw_any (by omega) HT.out) ?_; rintro e w3 ⟨D, pL, tL, rfl, hin2, hsr2, ⟨k5, hk5, hT⟩, hkp⟩; have HT3 := Lib.hid hT; have HI3 := Lib.hid (HI.out.tape HT.out hkp); have HJ3 := Lib.hid hin2; have HSR2 := Lib.hid (hsr2 ⟨#[97, 100, 100]⟩ (by decide)); have HM43 := Lib.hid (HM4.out.kp hkp (by simp; have := HP.out; omega)); have HM63 := Lib.hid (show DAt w3 p6 d from (hkp.block p6 (block_lt HM6.out) (by simp; have := HP.out; omega)).trans HM6.out); have HK3 := Lib.hid hkp; clear hT hin2 hsr2 hkp; dsimp only [draC])
      obtain ⟨pa, hpa⟩ : ∃ p, w3.heap.size = p := ⟨_, rfl⟩
      rw [hpa]
      have ka := (Kp.refl [] w3).alloc (.cells #[.slice D.props.a D.props.n D.props.c, .slice D.tags.a D.tags.n D.tags.c, .slice D.links.a D.links.n D.links.c, .slice D.run.a D.run.n D.run.c, .slice D.load.a D.load.n D.load.c, .string D.name, .int .i64 D.prio, .string D.owner, .string D.group, .int .i64 D.mode, .string D.res, .int .i64 D.calls, .int .i64 D.ticks, .slice D.closed.a D.closed.n D.closed.c] 43)
      have ma : DAt (w3.alloc (.cells #[.slice D.props.a D.props.n D.props.c, .slice D.tags.a D.tags.n D.tags.c, .slice D.links.a D.links.n D.links.c, .slice D.run.a D.run.n D.run.c, .slice D.load.a D.load.n D.load.c, .string D.name, .int .i64 D.prio, .string D.owner, .string D.group, .int .i64 D.mode, .string D.res, .int .i64 D.calls, .int .i64 D.ticks, .slice D.closed.a D.closed.n D.closed.c] 43)) pa D := by rw [← hpa]; exact heap_alloc_last w3 _
      generalize w3.alloc (.cells #[.slice D.props.a D.props.n D.props.c, .slice D.tags.a D.tags.n D.tags.c, .slice D.links.a D.links.n D.links.c, .slice D.run.a D.run.n D.run.c, .slice D.load.a D.load.n D.load.c, .string D.name, .int .i64 D.prio, .string D.owner, .string D.group, .int .i64 D.mode, .string D.res, .int .i64 D.calls, .int .i64 D.ticks, .slice D.closed.a D.closed.n D.closed.c] 43) = w4 at *
      have kb := (Kp.refl [] w4).drew 1
      have kc := ka.trans kb
      have HTA := Lib.hid (show tb < pa by have := HT3.out.lt; omega)
      have HT := Lib.hid (show Tp w4.drew tb k5 from HT3.out.kp kc (by simp))
      have HI := Lib.hid (HI3.out.kp0 kc)
      have HJ := Lib.hid (HJ3.out.kp0 kc)
      have HM4 := Lib.hid (HM43.out.kp0 kc)
      have HM6 := Lib.hid (HM63.out.kp0 kc)
      have HMA := Lib.hid (ma.kp0 kb)
      have HK := Lib.hid (HK3.out.trans (kc.mono (by simp)))
      clear ka ma kb kc hpa HT3 HI3 HJ3 HM43 HM63 HK3
      refine wp_region_held_drew (S := fun W => MAt W p4 x0) (by kernel_rfl) HM4.out (fun hHeld => ?_)
      refine wpAnyH_take (i := 0) (oi := { dst := some 34, op := Op.load 23 (Operand.tmp 4), type := 23, pos := "law.go:70", after := #[], guard := none }) (v := .agg #[.int .i64 x0.key, .string (bs x0.name), .int .i64 x0.op, .string (bs x0.val)]) rfl (by kernel_rfl) (by kernel_rfl) (by kernel_rfl) (fun _ _ _ h => h) (Or.inl ⟨by rfl, fun w hSw => by (try dsimp only at hSw); obtain ⟨c0, c1, c2, c3⟩ := hSw.cells; go_simp⟩) hHeld ?_
      try simp only [Act.put, List.setIfInBounds_toArray, List.set_cons_zero, List.set_cons_succ]
      refine wpAnyH_take (i := 1) (oi := { dst := some 35, op := Op.move (Operand.tmp 9), type := 29, pos := "law.go:70", after := #[], guard := none }) (v := .pointer (some ⟨tb, 0, none⟩)) rfl (by kernel_rfl) (by kernel_rfl) (by kernel_rfl) (fun _ _ _ h => h) (Or.inl ⟨by rfl, fun w hSw => by (try dsimp only at hSw); go_simp⟩) hHeld ?_
      try simp only [Act.put, List.setIfInBounds_toArray, List.set_cons_zero, List.set_cons_succ]
      refine wpAnyH_take (i := 3) (oi := { dst := some 37, op := Op.move (Operand.tmp 9), type := 29, pos := "law.go:70", after := #[], guard := none }) (v := .pointer (some ⟨tb, 0, none⟩)) rfl (by kernel_rfl) (by kernel_rfl) (by kernel_rfl) (fun _ _ _ h => h) (Or.inl ⟨by rfl, fun w hSw => by (try dsimp only at hSw); go_simp⟩) hHeld ?_
      try simp only [Act.put, List.setIfInBounds_toArray, List.set_cons_zero, List.set_cons_succ]
      refine wpAnyH_ready (rs := [2]) (by kernel_rfl) (by simp) ?_
      refine AllReadyH.cons (o := { dst := some 36, op := Op.call { callee := Callee.value (Operand.func 9), args := #[Operand.tmp 35], argTypes := #[29] }, type := 23, pos := "law.go:70", after := #[{ on := 1, ground := Ground.data }], guard := none }) rfl (fun K hK => ?_) AllReadyH.nil
      go_simp
      go_at_call 9
      refine Calls.mono (by with_reducible exact term_any (by omega) HT.out) ?_
      rintro e w5 ⟨x1, rfl, hg1, ⟨k6, hk6, hT⟩, hkp⟩
      dsimp only
      have HI := Lib.hid (HI.out.tape HT.out hkp)
      have HJ := Lib.hid (HJ.out.tape HT.out hkp)
      have HM4 := Lib.hid (HM4.out.kp hkp (by simp; have := HP.out; omega))
      have HM6 := Lib.hid (show DAt w5 p6 d from (hkp.block p6 (block_lt HM6.out) (by simp; have := HP.out; omega)).trans HM6.out)
      have HMA := Lib.hid (show DAt w5 pa D from (hkp.block pa (block_lt HMA.out) (by simp; have := HTA.out; omega)).trans HMA.out)
      have HK := Lib.hid (HK.out.trans hkp)
      have HT := Lib.hid hT
      clear hT hkp
      dsimp only [tmC]
      have HG1 := Lib.hid hg1.1.2
      clear hg1
      clear hHeld
      refine hK.out _ _ HM4.out (fun hHeld => ?_)
      try simp only [Act.put, List.setIfInBounds_toArray, List.set_cons_zero, List.set_cons_succ]
      clear hK
      refine wpAnyH_ready (rs := [4]) (by kernel_rfl) (by simp) ?_
      refine AllReadyH.cons (o := { dst := some 38, op := Op.call { callee := Callee.value (Operand.func 9), args := #[Operand.tmp 37], argTypes := #[29] }, type := 23, pos := "law.go:70", after := #[{ on := 3, ground := Ground.data }, { on := 2, ground := Ground.chain }], guard := none }) rfl (fun K hK => ?_) AllReadyH.nil
      go_simp
      go_at_call 9
      refine Calls.mono (by with_reducible exact term_any (by omega) HT.out) ?_
      rintro e w6 ⟨x2, rfl, hg2, ⟨k7, hk7, hT⟩, hkp⟩
      dsimp only
      have HI := Lib.hid (HI.out.tape HT.out hkp)
      have HJ := Lib.hid (HJ.out.tape HT.out hkp)
      have HM4 := Lib.hid (HM4.out.kp hkp (by simp; have := HP.out; omega))
      have HM6 := Lib.hid (show DAt w6 p6 d from (hkp.block p6 (block_lt HM6.out) (by simp; have := HP.out; omega)).trans HM6.out)
      have HMA := Lib.hid (show DAt w6 pa D from (hkp.block pa (block_lt HMA.out) (by simp; have := HTA.out; omega)).trans HMA.out)
      have HK := Lib.hid (HK.out.trans hkp)
      have HT := Lib.hid hT
      clear hT hkp
      dsimp only [tmC]
      have HG2 := Lib.hid hg2.1.2
      clear hg2
      clear hHeld
      refine hK.out _ _ HM4.out (fun hHeld => ?_)
      try simp only [Act.put, List.setIfInBounds_toArray, List.set_cons_zero, List.set_cons_succ]
      clear hK
      refine wpAnyH_ready (rs := [5]) (by kernel_rfl) (by simp) ?_
      refine AllReadyH.cons (o := { dst := some 39, op := Op.buildSlice 37 3 #[(0, Operand.tmp 34), (1, Operand.tmp 36), (2, Operand.tmp 38)], type := 37, pos := "law.go:70", after := #[{ on := 0, ground := Ground.data }, { on := 2, ground := Ground.data }, { on := 4, ground := Ground.data }], guard := none }) rfl (fun K hK => ?_) AllReadyH.nil
      go_simp
      have kg := (Kp.refl [] w6).alloc (.cells #[.int .i64 x0.key, .string (bs x0.name), .int .i64 x0.op, .string (bs x0.val), .int .i64 x1.key, .string (bs x1.name), .int .i64 x1.op, .string (bs x1.val), .int .i64 x2.key, .string (bs x2.name), .int .i64 x2.op, .string (bs x2.val)] 23)
      have hgl := heap_alloc_last w6 (.cells #[.int .i64 x0.key, .string (bs x0.name), .int .i64 x0.op, .string (bs x0.val), .int .i64 x1.key, .string (bs x1.name), .int .i64 x1.op, .string (bs x1.val), .int .i64 x2.key, .string (bs x2.name), .int .i64 x2.op, .string (bs x2.val)] 23)
      obtain ⟨g, hg⟩ : ∃ g, w6.heap.size = g := ⟨_, rfl⟩
      rw [hg] at hgl
      rw [hg]
      have HGL := Lib.hid (TR.new hgl)
      generalize w6.alloc (.cells #[.int .i64 x0.key, .string (bs x0.name), .int .i64 x0.op, .string (bs x0.val), .int .i64 x1.key, .string (bs x1.name), .int .i64 x1.op, .string (bs x1.val), .int .i64 x2.key, .string (bs x2.name), .int .i64 x2.op, .string (bs x2.val)] 23) = w7 at *
      have HI := Lib.hid (HI.out.kp0 kg)
      have HJ := Lib.hid (HJ.out.kp0 kg)
      have HM4 := Lib.hid (HM4.out.kp0 kg)
      have HM6 := Lib.hid (HM6.out.kp0 kg)
      have HMA := Lib.hid (HMA.out.kp0 kg)
      have HK := Lib.hid (HK.out.trans (kg.mono (by simp)))
      clear kg hgl hg
      clear hHeld
      refine hK.out _ _ HM4.out (fun hHeld => ?_)
      try simp only [Act.put, List.setIfInBounds_toArray, List.set_cons_zero, List.set_cons_succ]
      clear hK
      refine wpAnyH_take (i := 6) (oi := { dst := some 11, op := Op.assign (Operand.tmp 39), type := 37, pos := "law.go:70", after := #[{ on := 5, ground := Ground.data }, { on := 4, ground := Ground.chain }, { on := 0, ground := Ground.phase }, { on := 1, ground := Ground.phase }, { on := 2, ground := Ground.phase }, { on := 3, ground := Ground.phase }, { on := 4, ground := Ground.phase }, { on := 5, ground := Ground.phase }], guard := none }) (v := .slice (some ⟨g, 0, none⟩) 3 3) rfl (by kernel_rfl) (by kernel_rfl) (by kernel_rfl) (fun _ _ _ h => h) (Or.inl ⟨by rfl, fun w hSw => by (try dsimp only at hSw); go_simp⟩) hHeld ?_
      try simp only [Act.put, List.setIfInBounds_toArray, List.set_cons_zero, List.set_cons_succ]
      refine wpAnyH_done (by kernel_rfl) ?_ _
      clear hHeld
      have hxs : ∀ i, (pk x0 x1 x2 i).val.length ≤ 4611686018427387904 := fun i => by
        have h0 := HVL.out
        have h1 := HG1.out
        have h2 := HG2.out
        match i with
        | 0 => show x0.val.length ≤ _; omega
        | 1 => show x1.val.length ≤ _; omega
        | (n + 2) => show x2.val.length ≤ _; omega
      generalize pk x0 x1 x2 = xf at *
      have HXS := Lib.hid hxs
      clear hxs
      go_wp2
      go_loopw [12] (fun s12 wx => ∃ i : Nat, i ≤ 3 ∧ s12 = .int .i64 i ∧ Kp [] w7 wx) (fun s12 _ => 3 - (intOf s12).toNat)
      case atStart => exact ⟨0, by omega, rfl, Kp.refl _ _⟩
      case round =>
        obtain ⟨i, hi3, rfl, hk⟩ := hrel
        have HKr := Lib.hid hk
        by_cases hlt : (i : Int) < 3
        · have hi4 : i < 3 := by omega
          obtain ⟨t0, t1, t2, t3⟩ := HGL.out.kp0 hk i hi4
          have hxv := HXS.out i
          generalize xf i = x at *
          clear hk
          go_upto_region 10 with fail
          obtain ⟨b, hb⟩ : ∃ b, wr.heap.size = b := ⟨_, rfl⟩
          rw [hb]
          have kx := (Kp.refl [] wr).alloc (.cells #[.int .i64 x.key, .string (bs x.name), .int .i64 x.op, .string (bs x.val)] 23)
          have mx : MAt (wr.alloc (.cells #[.int .i64 x.key, .string (bs x.name), .int .i64 x.op, .string (bs x.val)] 23)) b x := by rw [← hb]; exact heap_alloc_last wr _
          generalize wr.alloc (.cells #[.int .i64 x.key, .string (bs x.name), .int .i64 x.op, .string (bs x.val)] 23) = w8 at *
          have kz := (Kp.refl [] w8).drew 1
          have ky := HKr.out.trans (kx.trans kz)
          have HST := Lib.hid (show MAt w8.drew b x ∧ DAt w8.drew p6 d ∧ DAt w8.drew pa D ∧ Kp [] w7 w8.drew from ⟨mx.kp0 kz, HM6.out.kp0 ky, HMA.out.kp0 ky, ky⟩)
          have HA := Lib.hid (fun W (hk : Kp [] w7 W) => (show Calls Try.prog 17 #[.agg #[.int .i64 x.key, .string (bs x.name), .int .i64 x.op, .string (bs x.val)], .string act, .agg #[.slice d.props.a d.props.n d.props.c, .slice d.tags.a d.tags.n d.tags.c, .slice d.links.a d.links.n d.links.c, .slice d.run.a d.run.n d.run.c, .slice d.load.a d.load.n d.load.c, .string d.name, .int .i64 d.prio, .string d.owner, .string d.group, .int .i64 d.mode, .string d.res, .int .i64 d.calls, .int .i64 d.ticks, .slice d.closed.a d.closed.n d.closed.c]] W fun e w' => e = .returned (.bool (draftB x act d pl tl)) ∧ Kp [] W w' from draft_any x act d pl tl W hxv HSR.out (HI.out.kp0 hk)))
          have HB := Lib.hid (fun W (hk : Kp [] w7 W) => (show Calls Try.prog 18 #[.agg #[.int .i64 x.key, .string (bs x.name), .int .i64 x.op, .string (bs x.val)], .string act, .agg #[.slice d.props.a d.props.n d.props.c, .slice d.tags.a d.tags.n d.tags.c, .slice d.links.a d.links.n d.links.c, .slice d.run.a d.run.n d.run.c, .slice d.load.a d.load.n d.load.c, .string d.name, .int .i64 d.prio, .string d.owner, .string d.group, .int .i64 d.mode, .string d.res, .int .i64 d.calls, .int .i64 d.ticks, .slice d.closed.a d.closed.n d.closed.c]] W fun e w' => e = .returned (.bool (draftB x act d pl tl)) ∧ Kp [] W w' from refDraft_any x act d pl tl W hxv HSR.out (HI.out.kp0 hk)))
          have HC := Lib.hid (fun W (hk : Kp [] w7 W) => (show Calls Try.prog 17 #[.agg #[.int .i64 x.key, .string (bs x.name), .int .i64 x.op, .string (bs x.val)], .string ⟨#[97, 100, 100]⟩, .agg #[.slice D.props.a D.props.n D.props.c, .slice D.tags.a D.tags.n D.tags.c, .slice D.links.a D.links.n D.links.c, .slice D.run.a D.run.n D.run.c, .slice D.load.a D.load.n D.load.c, .string D.name, .int .i64 D.prio, .string D.owner, .string D.group, .int .i64 D.mode, .string D.res, .int .i64 D.calls, .int .i64 D.ticks, .slice D.closed.a D.closed.n D.closed.c]] W fun e w' => e = .returned (.bool (draftB x ⟨#[97, 100, 100]⟩ D pL tL)) ∧ Kp [] W w' from draft_any x ⟨#[97, 100, 100]⟩ D pL tL W hxv HSR2.out (HJ.out.kp0 hk)))
          have HE := Lib.hid (fun W (hk : Kp [] w7 W) => (show Calls Try.prog 18 #[.agg #[.int .i64 x.key, .string (bs x.name), .int .i64 x.op, .string (bs x.val)], .string ⟨#[97, 100, 100]⟩, .agg #[.slice D.props.a D.props.n D.props.c, .slice D.tags.a D.tags.n D.tags.c, .slice D.links.a D.links.n D.links.c, .slice D.run.a D.run.n D.run.c, .slice D.load.a D.load.n D.load.c, .string D.name, .int .i64 D.prio, .string D.owner, .string D.group, .int .i64 D.mode, .string D.res, .int .i64 D.calls, .int .i64 D.ticks, .slice D.closed.a D.closed.n D.closed.c]] W fun e w' => e = .returned (.bool (draftB x ⟨#[97, 100, 100]⟩ D pL tL)) ∧ Kp [] W w' from refDraft_any x ⟨#[97, 100, 100]⟩ D pL tL W hxv HSR2.out (HJ.out.kp0 hk)))
          generalize draftB x act d pl tl = q1 at *
          generalize draftB x ⟨#[97, 100, 100]⟩ D pL tL = q2 at *
          clear kx mx kz ky hb hxv
          refine wp_region_held_drew (S := fun W => MAt W b x ∧ DAt W p6 d ∧ DAt W pa D ∧ Kp [] w7 W) (by kernel_rfl) HST.out (fun hHeld => ?_)
          refine wpAnyH_take (i := 0) (oi := { dst := some 50, op := Op.load 23 (Operand.tmp 13), type := 23, pos := "law.go:73", after := #[], guard := none }) (v := .agg #[.int .i64 x.key, .string (bs x.name), .int .i64 x.op, .string (bs x.val)]) rfl (by kernel_rfl) (by kernel_rfl) (by kernel_rfl) (fun _ _ _ h => h) (Or.inl ⟨by rfl, fun w hSw => by (try dsimp only at hSw); obtain ⟨c0, c1, c2, c3⟩ := hSw.1.cells; go_simp⟩) hHeld ?_
          try simp only [Act.put, List.setIfInBounds_toArray, List.set_cons_zero, List.set_cons_succ]
          refine wpAnyH_take (i := 1) (oi := { dst := some 51, op := Op.move (Operand.tmp 1), type := 9, pos := "law.go:73", after := #[], guard := none }) (v := .string act) rfl (by kernel_rfl) (by kernel_rfl) (by kernel_rfl) (fun _ _ _ h => h) (Or.inl ⟨by rfl, fun w hSw => by (try dsimp only at hSw); go_simp⟩) hHeld ?_
          try simp only [Act.put, List.setIfInBounds_toArray, List.set_cons_zero, List.set_cons_succ]
          refine wpAnyH_take (i := 2) (oi := { dst := some 52, op := Op.load 43 (Operand.tmp 6), type := 43, pos := "law.go:73", after := #[], guard := none }) (v := .agg #[.slice d.props.a d.props.n d.props.c, .slice d.tags.a d.tags.n d.tags.c, .slice d.links.a d.links.n d.links.c, .slice d.run.a d.run.n d.run.c, .slice d.load.a d.load.n d.load.c, .string d.name, .int .i64 d.prio, .string d.owner, .string d.group, .int .i64 d.mode, .string d.res, .int .i64 d.calls, .int .i64 d.ticks, .slice d.closed.a d.closed.n d.closed.c]) rfl (by kernel_rfl) (by kernel_rfl) (by kernel_rfl) (fun _ _ _ h => h) (Or.inl ⟨by rfl, fun w hSw => by (try dsimp only at hSw); obtain ⟨d0, d1, d2, d3, d4, d5, d6, d7, d8, d9, d10, d11, d12, d13⟩ := hSw.2.1.cells; go_simp⟩) hHeld ?_
          try simp only [Act.put, List.setIfInBounds_toArray, List.set_cons_zero, List.set_cons_succ]
          refine wpAnyH_take (i := 4) (oi := { dst := some 54, op := Op.load 23 (Operand.tmp 13), type := 23, pos := "law.go:73", after := #[], guard := none }) (v := .agg #[.int .i64 x.key, .string (bs x.name), .int .i64 x.op, .string (bs x.val)]) rfl (by kernel_rfl) (by kernel_rfl) (by kernel_rfl) (fun _ _ _ h => h) (Or.inl ⟨by rfl, fun w hSw => by (try dsimp only at hSw); obtain ⟨c0, c1, c2, c3⟩ := hSw.1.cells; go_simp⟩) hHeld ?_
          try simp only [Act.put, List.setIfInBounds_toArray, List.set_cons_zero, List.set_cons_succ]
          refine wpAnyH_take (i := 5) (oi := { dst := some 55, op := Op.move (Operand.tmp 1), type := 9, pos := "law.go:73", after := #[], guard := none }) (v := .string act) rfl (by kernel_rfl) (by kernel_rfl) (by kernel_rfl) (fun _ _ _ h => h) (Or.inl ⟨by rfl, fun w hSw => by (try dsimp only at hSw); go_simp⟩) hHeld ?_
          try simp only [Act.put, List.setIfInBounds_toArray, List.set_cons_zero, List.set_cons_succ]
          refine wpAnyH_take (i := 6) (oi := { dst := some 56, op := Op.load 43 (Operand.tmp 6), type := 43, pos := "law.go:73", after := #[], guard := none }) (v := .agg #[.slice d.props.a d.props.n d.props.c, .slice d.tags.a d.tags.n d.tags.c, .slice d.links.a d.links.n d.links.c, .slice d.run.a d.run.n d.run.c, .slice d.load.a d.load.n d.load.c, .string d.name, .int .i64 d.prio, .string d.owner, .string d.group, .int .i64 d.mode, .string d.res, .int .i64 d.calls, .int .i64 d.ticks, .slice d.closed.a d.closed.n d.closed.c]) rfl (by kernel_rfl) (by kernel_rfl) (by kernel_rfl) (fun _ _ _ h => h) (Or.inl ⟨by rfl, fun w hSw => by (try dsimp only at hSw); obtain ⟨d0, d1, d2, d3, d4, d5, d6, d7, d8, d9, d10, d11, d12, d13⟩ := hSw.2.1.cells; go_simp⟩) hHeld ?_
          try simp only [Act.put, List.setIfInBounds_toArray, List.set_cons_zero, List.set_cons_succ]
          refine wpAnyH_ready (rs := [3]) (by kernel_rfl) (by simp) ?_
          refine AllReadyH.cons (o := { dst := some 53, op := Op.call { callee := Callee.value (Operand.func 17), args := #[Operand.tmp 50, Operand.tmp 51, Operand.tmp 52], argTypes := #[23, 9, 43] }, type := 4, pos := "law.go:73", after := #[{ on := 0, ground := Ground.data }, { on := 1, ground := Ground.data }, { on := 2, ground := Ground.data }], guard := none }) rfl (fun K hK => ?_) AllReadyH.nil
          go_simp
          go_at_call 17
          refine Calls.mono (by with_reducible exact HA.out _ hHeld.2.2.2) ?_
          rintro e y1 ⟨rfl, hk⟩
          dsimp only
          have hH := (show MAt y1 b x ∧ DAt y1 p6 d ∧ DAt y1 pa D ∧ Kp [] w7 y1 from ⟨hHeld.1.kp0 hk, hHeld.2.1.kp0 hk, hHeld.2.2.1.kp0 hk, hHeld.2.2.2.trans hk⟩)
          clear hHeld
          refine hK.out _ _ hH (fun hHeld => ?_)
          try simp only [Act.put, List.setIfInBounds_toArray, List.set_cons_zero, List.set_cons_succ]
          clear hK
          refine wpAnyH_ready (rs := [7]) (by kernel_rfl) (by simp) ?_
          refine AllReadyH.cons (o := { dst := some 57, op := Op.call { callee := Callee.value (Operand.func 18), args := #[Operand.tmp 54, Operand.tmp 55, Operand.tmp 56], argTypes := #[23, 9, 43] }, type := 4, pos := "law.go:73", after := #[{ on := 4, ground := Ground.data }, { on := 5, ground := Ground.data }, { on := 6, ground := Ground.data }, { on := 3, ground := Ground.chain }], guard := none }) rfl (fun K hK => ?_) AllReadyH.nil
          go_simp
          go_at_call 18
          refine Calls.mono (by with_reducible exact HB.out _ hHeld.2.2.2) ?_
          rintro e y2 ⟨rfl, hk⟩
          dsimp only
          have hH := (show MAt y2 b x ∧ DAt y2 p6 d ∧ DAt y2 pa D ∧ Kp [] w7 y2 from ⟨hHeld.1.kp0 hk, hHeld.2.1.kp0 hk, hHeld.2.2.1.kp0 hk, hHeld.2.2.2.trans hk⟩)
          clear hHeld
          refine hK.out _ _ hH (fun hHeld => ?_)
          try simp only [Act.put, List.setIfInBounds_toArray, List.set_cons_zero, List.set_cons_succ]
          clear hK
          refine wpAnyH_take (i := 8) (oi := { dst := some 58, op := Op.binOp BinOp.neq 4 (Operand.tmp 53) (Operand.tmp 57) 4, type := 4, pos := "law.go:73", after := #[{ on := 3, ground := Ground.data }, { on := 7, ground := Ground.data }], guard := none }) (v := .bool false) rfl (by kernel_rfl) (by kernel_rfl) (by kernel_rfl) (fun _ _ _ h => h) (Or.inl ⟨by rfl, fun w hSw => by (try dsimp only at hSw); (go_simp; try simp)⟩) hHeld ?_
          try simp only [Act.put, List.setIfInBounds_toArray, List.set_cons_zero, List.set_cons_succ]
          refine wpAnyH_take (i := 9) (oi := { dst := some 59, op := Op.move (Operand.tmp 58), type := 4, pos := "law.go:73", after := #[{ on := 8, ground := Ground.data }, { on := 7, ground := Ground.chain }], guard := none }) (v := .bool false) rfl (by kernel_rfl) (by kernel_rfl) (by kernel_rfl) (fun _ _ _ h => h) (Or.inl ⟨by rfl, fun w hSw => by (try dsimp only at hSw); go_simp⟩) hHeld ?_
          try simp only [Act.put, List.setIfInBounds_toArray, List.set_cons_zero, List.set_cons_succ]
          refine wpAnyH_take (i := 10) (oi := { dst := some 60, op := Op.load 23 (Operand.tmp 13), type := 23, pos := "law.go:73", after := #[{ on := 9, ground := Ground.guard }], guard := some (9, false) }) (v := .agg #[.int .i64 x.key, .string (bs x.name), .int .i64 x.op, .string (bs x.val)]) rfl (by kernel_rfl) (by kernel_rfl) (by kernel_rfl) (fun _ _ _ h => h) (Or.inl ⟨by rfl, fun w hSw => by (try dsimp only at hSw); obtain ⟨c0, c1, c2, c3⟩ := hSw.1.cells; go_simp⟩) hHeld ?_
          try simp only [Act.put, List.setIfInBounds_toArray, List.set_cons_zero, List.set_cons_succ]
          refine wpAnyH_take (i := 11) (oi := { dst := some 61, op := Op.load 43 (Operand.tmp 10), type := 43, pos := "law.go:73", after := #[{ on := 9, ground := Ground.guard }], guard := some (9, false) }) (v := .agg #[.slice D.props.a D.props.n D.props.c, .slice D.tags.a D.tags.n D.tags.c, .slice D.links.a D.links.n D.links.c, .slice D.run.a D.run.n D.run.c, .slice D.load.a D.load.n D.load.c, .string D.name, .int .i64 D.prio, .string D.owner, .string D.group, .int .i64 D.mode, .string D.res, .int .i64 D.calls, .int .i64 D.ticks, .slice D.closed.a D.closed.n D.closed.c]) rfl (by kernel_rfl) (by kernel_rfl) (by kernel_rfl) (fun _ _ _ h => h) (Or.inl ⟨by rfl, fun w hSw => by (try dsimp only at hSw); obtain ⟨d0, d1, d2, d3, d4, d5, d6, d7, d8, d9, d10, d11, d12, d13⟩ := hSw.2.2.1.cells; go_simp⟩) hHeld ?_
          try simp only [Act.put, List.setIfInBounds_toArray, List.set_cons_zero, List.set_cons_succ]
          refine wpAnyH_take (i := 13) (oi := { dst := some 63, op := Op.load 23 (Operand.tmp 13), type := 23, pos := "law.go:73", after := #[{ on := 9, ground := Ground.guard }], guard := some (9, false) }) (v := .agg #[.int .i64 x.key, .string (bs x.name), .int .i64 x.op, .string (bs x.val)]) rfl (by kernel_rfl) (by kernel_rfl) (by kernel_rfl) (fun _ _ _ h => h) (Or.inl ⟨by rfl, fun w hSw => by (try dsimp only at hSw); obtain ⟨c0, c1, c2, c3⟩ := hSw.1.cells; go_simp⟩) hHeld ?_
          try simp only [Act.put, List.setIfInBounds_toArray, List.set_cons_zero, List.set_cons_succ]
          refine wpAnyH_take (i := 14) (oi := { dst := some 64, op := Op.load 43 (Operand.tmp 10), type := 43, pos := "law.go:73", after := #[{ on := 9, ground := Ground.guard }], guard := some (9, false) }) (v := .agg #[.slice D.props.a D.props.n D.props.c, .slice D.tags.a D.tags.n D.tags.c, .slice D.links.a D.links.n D.links.c, .slice D.run.a D.run.n D.run.c, .slice D.load.a D.load.n D.load.c, .string D.name, .int .i64 D.prio, .string D.owner, .string D.group, .int .i64 D.mode, .string D.res, .int .i64 D.calls, .int .i64 D.ticks, .slice D.closed.a D.closed.n D.closed.c]) rfl (by kernel_rfl) (by kernel_rfl) (by kernel_rfl) (fun _ _ _ h => h) (Or.inl ⟨by rfl, fun w hSw => by (try dsimp only at hSw); obtain ⟨d0, d1, d2, d3, d4, d5, d6, d7, d8, d9, d10, d11, d12, d13⟩ := hSw.2.2.1.cells; go_simp⟩) hHeld ?_
          try simp only [Act.put, List.setIfInBounds_toArray, List.set_cons_zero, List.set_cons_succ]
          refine wpAnyH_ready (rs := [12]) (by kernel_rfl) (by simp) ?_
          refine AllReadyH.cons (o := { dst := some 62, op := Op.call { callee := Callee.value (Operand.func 17), args := #[Operand.tmp 60, Operand.const (Value.string { data := #[97, 100, 100] }), Operand.tmp 61], argTypes := #[23, 9, 43] }, type := 4, pos := "law.go:73", after := #[{ on := 10, ground := Ground.data }, { on := 11, ground := Ground.data }, { on := 9, ground := Ground.chain }, { on := 9, ground := Ground.guard }], guard := some (9, false) }) rfl (fun K hK => ?_) AllReadyH.nil
          go_simp
          go_at_call 17
          refine Calls.mono (by with_reducible exact HC.out _ hHeld.2.2.2) ?_
          rintro e y3 ⟨rfl, hk⟩
          dsimp only
          have hH := (show MAt y3 b x ∧ DAt y3 p6 d ∧ DAt y3 pa D ∧ Kp [] w7 y3 from ⟨hHeld.1.kp0 hk, hHeld.2.1.kp0 hk, hHeld.2.2.1.kp0 hk, hHeld.2.2.2.trans hk⟩)
          clear hHeld
          refine hK.out _ _ hH (fun hHeld => ?_)
          try simp only [Act.put, List.setIfInBounds_toArray, List.set_cons_zero, List.set_cons_succ]
          clear hK
          refine wpAnyH_ready (rs := [15]) (by kernel_rfl) (by simp) ?_
          refine AllReadyH.cons (o := { dst := some 65, op := Op.call { callee := Callee.value (Operand.func 18), args := #[Operand.tmp 63, Operand.const (Value.string { data := #[97, 100, 100] }), Operand.tmp 64], argTypes := #[23, 9, 43] }, type := 4, pos := "law.go:73", after := #[{ on := 13, ground := Ground.data }, { on := 14, ground := Ground.data }, { on := 12, ground := Ground.chain }, { on := 9, ground := Ground.guard }], guard := some (9, false) }) rfl (fun K hK => ?_) AllReadyH.nil
          go_simp
          go_at_call 18
          refine Calls.mono (by with_reducible exact HE.out _ hHeld.2.2.2) ?_
          rintro e y4 ⟨rfl, hk⟩
          dsimp only
          have hH := (show MAt y4 b x ∧ DAt y4 p6 d ∧ DAt y4 pa D ∧ Kp [] w7 y4 from ⟨hHeld.1.kp0 hk, hHeld.2.1.kp0 hk, hHeld.2.2.1.kp0 hk, hHeld.2.2.2.trans hk⟩)
          have HF := Lib.hid hH.2.2.2
          clear hHeld
          refine hK.out _ _ hH (fun hHeld => ?_)
          try simp only [Act.put, List.setIfInBounds_toArray, List.set_cons_zero, List.set_cons_succ]
          clear hK
          refine wpAnyH_take (i := 16) (oi := { dst := some 66, op := Op.binOp BinOp.neq 4 (Operand.tmp 62) (Operand.tmp 65) 4, type := 4, pos := "law.go:73", after := #[{ on := 12, ground := Ground.data }, { on := 15, ground := Ground.data }, { on := 9, ground := Ground.guard }], guard := some (9, false) }) (v := .bool false) rfl (by kernel_rfl) (by kernel_rfl) (by kernel_rfl) (fun _ _ _ h => h) (Or.inl ⟨by rfl, fun w hSw => by (try dsimp only at hSw); (go_simp; try simp)⟩) hHeld ?_
          try simp only [Act.put, List.setIfInBounds_toArray, List.set_cons_zero, List.set_cons_succ]
          refine wpAnyH_take (i := 17) (oi := { dst := some 67, op := Op.pick (Operand.tmp 59) (Operand.const (Value.bool true)) (Operand.tmp 66), type := 4, pos := "law.go:73", after := #[{ on := 9, ground := Ground.data }, { on := 16, ground := Ground.data }], guard := none }) (v := .bool false) rfl (by kernel_rfl) (by kernel_rfl) (by kernel_rfl) (fun _ _ _ h => h) (Or.inl ⟨by rfl, fun w hSw => by (try dsimp only at hSw); go_simp⟩) hHeld ?_
          try simp only [Act.put, List.setIfInBounds_toArray, List.set_cons_zero, List.set_cons_succ]
          refine wpAnyH_done (by kernel_rfl) ?_ _
          clear hHeld
          go_wp2
          exact ⟨⟨i + 1, by omega, rfl, HF.out⟩, by simp [intOf]; omega⟩
        · obtain rfl : i = 3 := by omega
          clear hk
          go_wp2_with (go_at_call 7; refine Calls.mono (by with_reducible exact HKN.out _) ?_; rintro e w9 ⟨rfl, hk⟩; have HF := Lib.hid (HKr.out.trans hk); clear hk)
          go_ret
          exact ⟨rfl, HKW.out.up (HK.out.trans (HF.out.mono (by simp))) (fun y hy => .inr (by have := HP.out.1; simp at hy; omega))⟩
    · clear hsum
      have hn2 : (300 : Int) < ((bs x0.val).size : Int) := by omega
      go_enter Try.func4, Try.ntmps4
      go_wp2_with (go_at_call 7; refine Calls.mono (by with_reducible exact HKN.out _) ?_; rintro e w9 ⟨rfl, hk⟩; have HF := Lib.hid hk; clear hk)
      go_ret
      exact ⟨rfl, k12.trans HF.out⟩
  · have hn1 : (100 : Int) < (d.props.n : Int) + (d.tags.n : Int) := by omega
    clear hsum
    go_enter Try.func4, Try.ntmps4
    go_wp2_with (go_at_call 7; refine Calls.mono (by with_reducible exact HKN.out _) ?_; rintro e w9 ⟨rfl, hk⟩; have HF := Lib.hid hk; clear hk)
    go_ret
    exact ⟨rfl, k12.trans HF.out⟩
end Go.Proofs.Ythblgkjmjfhkdaa
