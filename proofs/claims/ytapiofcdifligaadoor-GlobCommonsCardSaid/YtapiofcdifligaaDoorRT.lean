/- The reference's put into no list. -/
import Derived.Test.YtapiofcdifligaaDoorRS
import Derived.Deep.Upon
namespace Go.Proofs.YtapiofcdifligaaDoor
open Go.RowKit

theorem step_append_none {P : Program} {ops : Array Oper} {o : Oper} {a : Act} {w : World} {K : Act → World → Prop} {Q : Exit → Act → World → Prop} {E : Prop} (hg : o.guard = none) (s x : Operand) (t : TypeId) (hop : o.op = Op.call { callee := Callee.builtin Builtin.append, args := #[s, x], argTypes := #[t, t] })
    (e : TypeId) (i : TypeInfo) (h1 : P.underlying t = some (.slice e)) (h2 : P.info? e = some i) (b : Option Addr) (sl sc : Nat) (hle : sl ≤ sc) (hs : a.eval s = .slice b sl sc) (hx : a.eval x = .slice none 0 0) (hK : K (a.put o.dst (.slice b sl sc)) w) :
    if Region.wanted o (yielded ops a.tmps) = true then Oper.wp P o a w K Q else E := by
  have hw : Region.wanted o (yielded ops a.tmps) = true := by simp [Region.wanted, hg]
  rw [if_pos hw]
  have hrun := run_append_nothing w t t o.type e i h1 h2 b sl sc hle (.slice none 0 0) (Src.ofNil w h1 0)
  unfold Oper.wp
  simp [execOp, hop, resolve, invoke, builtin, hs, hx, hrun, Result.andThen]
  exact hK

set_option maxHeartbeats 1500000 in
set_option maxRecDepth 100000 in
theorem put_nil (z : Pr5) (w : World) : Calls Tryd.prog 41 #[.slice none 0 0, prV z] w (PutPost [] z (.slice none 0 0) w) := by
  obtain ⟨i0, hi0, hw0, hw1, hw2⟩ := info_parts info52b
  obtain ⟨za, hza⟩ : ∃ n : Int, (z.a : Int) = n := ⟨_, rfl⟩
  obtain ⟨zb, hzb⟩ : ∃ n : Int, (z.b : Int) = n := ⟨_, rfl⟩
  obtain ⟨zi, hzi⟩ : ∃ n : Int, (z.i : Int) = n := ⟨_, rfl⟩
  obtain ⟨zk, hzk⟩ : ∃ n : Int, (z.k : Int) = n := ⟨_, rfl⟩
  obtain ⟨zt, hzt⟩ : ∃ n : ByteArray, txt z.t = n := ⟨_, rfl⟩
  have hzv : prV z = .agg #[.int .i64 za, .int .i64 zb, .int .i64 zi, .int .i64 zk, .string zt] := by
    rw [← hza, ← hzb, ← hzi, ← hzk, ← hzt]
    rfl
  rw [hzv]
  have HZ := Lib.hid (And.intro hza (And.intro hzb (And.intro hzi (And.intro hzk hzt))))
  have hb1 : Below w.heap.size w (w.alloc (.cells #[.int .i64 za, .int .i64 zb, .int .i64 zi, .int .i64 zk, .string zt] 52)) := (Below.refl _ w).alloc (Nat.le_refl _) _
  have hz0 := cell_of_row _ _ 0 _ _ _ (heap_alloc_last w (.cells #[.int .i64 za, .int .i64 zb, .int .i64 zi, .int .i64 zk, .string zt] 52))
  have hz1 := cell_of_row _ _ 1 _ _ _ (heap_alloc_last w (.cells #[.int .i64 za, .int .i64 zb, .int .i64 zi, .int .i64 zk, .string zt] 52))
  have hz2 := cell_of_row _ _ 2 _ _ _ (heap_alloc_last w (.cells #[.int .i64 za, .int .i64 zb, .int .i64 zi, .int .i64 zk, .string zt] 52))
  have hz3 := cell_of_row _ _ 3 _ _ _ (heap_alloc_last w (.cells #[.int .i64 za, .int .i64 zb, .int .i64 zi, .int .i64 zk, .string zt] 52))
  have hz4 := cell_of_row _ _ 4 _ _ _ (heap_alloc_last w (.cells #[.int .i64 za, .int .i64 zb, .int .i64 zi, .int .i64 zk, .string zt] 52))
  simp only [List.getElem?_toArray, List.getElem?_cons_zero, List.getElem?_cons_succ] at hz0 hz1 hz2 hz3 hz4
  have Hb1 := Lib.hid hb1
  have hbox := heap_alloc_last w (.cells #[.int .i64 za, .int .i64 zb, .int .i64 zi, .int .i64 zk, .string zt] 52)
  clear hza hzb hzi hzk hzt hzv hb1
  go_enter Tryd.func41, Tryd.ntmps41
  go_wp2
  generalize w.alloc (.cells #[.int .i64 za, .int .i64 zb, .int .i64 zi, .int .i64 zk, .string zt] 52) = W1 at *
  obtain ⟨E, hE⟩ : ∃ E, w.heap.size = E := ⟨_, rfl⟩
  rw [hE] at hbox
  have HBox := Lib.hid hbox
  clear hbox
  rw [hE] at hz0 hz1 hz2 hz3 hz4 ⊢
  have HE := Lib.hid hE
  clear hE
  go_loopw [0, 5] (fun s0 s5 wx => s0 = .slice none 0 0 ∧ s5 = .int .i64 0 ∧ ∃ n, wx = W1.drewN n) (fun _ _ _ => 0)
  case atStart => exact ⟨rfl, rfl, 0, rfl⟩
  case round =>
    obtain ⟨rfl, rfl, n, rfl⟩ := hrel
    go_wp2
    go_loopw [6] (fun s6 wx => s6 = .int .i64 0 ∧ ∃ n, wx = W1.drewN n) (fun _ _ => 0)
    case atStart => exact ⟨rfl, _, rfl⟩
    case round =>
      obtain ⟨rfl, m, rfl⟩ := hrel
      go_wp2
      go_quiet (fail)
      go_wp2
      generalize hWc : World.drewN (World.drewN W1 m) nq = Wc
      have HEc := Lib.hid (show Wc.heap[E]? = some (.cells #[.int .i64 za, .int .i64 zb, .int .i64 zi, .int .i64 zk, .string zt] 52 (0, 0)) from by rw [← hWc]; exact HBox.out)
      have Hbc := Lib.hid (show Below w.heap.size w Wc from by rw [← hWc]; exact drop_below (drop_below Hb1.out _) _)
      have hEl : E < Wc.heap.size := (Array.getElem?_eq_some_iff.1 HEc.out).1
      have hzc : #[.int .i64 za, .int .i64 zb, .int .i64 zi, .int .i64 zk, .string zt].toList = prC z := by rw [← HZ.out.1, ← HZ.out.2.1, ← HZ.out.2.2.1, ← HZ.out.2.2.2.1, ← HZ.out.2.2.2.2]; rfl
      clear hWc HBox Hb1 hz0 hz1 hz2 hz3 hz4
      refine wp_region_held_drew (S := fun wx => wx.heap[E]? = some (.cells #[.int .i64 za, .int .i64 zb, .int .i64 zi, .int .i64 zk, .string zt] 52 (0, 0)) ∧ Below Wc.heap.size Wc wx) (by kernel_rfl) ⟨HEc.out, (Below.refl _ _).drew⟩ (fun hHeld => ?_)
      refine wpAnyH_take (i := 0) (oi := { dst := some 85, op := Op.move (Operand.tmp 0), type := 50, pos := "ref.go:283", after := #[], guard := none }) (v := .slice none 0 0) rfl (by kernel_rfl) (by kernel_rfl) (by kernel_rfl) (fun _ _ _ h => h) (Or.inl ⟨by rfl, fun w hSw => by go_simp⟩) (by assumption) ?_
      try simp only [Act.put, List.setIfInBounds_toArray, List.set_cons_zero, List.set_cons_succ]
      refine wpAnyH_take (i := 1) (oi := { dst := some 86, op := Op.move (Operand.tmp 6), type := 3, pos := "ref.go:283", after := #[], guard := none }) (v := .int .i64 0) rfl (by kernel_rfl) (by kernel_rfl) (by kernel_rfl) (fun _ _ _ h => h) (Or.inl ⟨by rfl, fun w hSw => by go_simp⟩) (by assumption) ?_
      try simp only [Act.put, List.setIfInBounds_toArray, List.set_cons_zero, List.set_cons_succ]
      refine wpAnyH_take (i := 2) (oi := { dst := some 87, op := Op.slice 50 (Operand.tmp 85) none (some (Operand.tmp 86)) none, type := 50, pos := "ref.go:283", after := #[{ on := 0, ground := Ground.data }, { on := 1, ground := Ground.data }], guard := none }) (v := .slice none 0 0) rfl (by kernel_rfl) (by kernel_rfl) (by kernel_rfl) (fun _ _ _ h => h) (Or.inl ⟨by rfl, fun w hSw => by go_simp⟩) (by assumption) ?_
      try simp only [Act.put, List.setIfInBounds_toArray, List.set_cons_zero, List.set_cons_succ]
      refine wpAnyH_take (i := 4) (oi := { dst := some 89, op := Op.load 52 (Operand.tmp 3), type := 52, pos := "ref.go:283", after := #[], guard := none }) (v := .agg #[.int .i64 za, .int .i64 zb, .int .i64 zi, .int .i64 zk, .string zt]) rfl (by kernel_rfl) (by kernel_rfl) (by kernel_rfl) (fun _ _ _ h => h) (yieldsIf_load_row (by rfl) 52 (.tmp 3) rfl E rfl 52 #[.int .i64 za, .int .i64 zb, .int .i64 zi, .int .i64 zk, .string zt] (0, 0) _ (fun w h => h.1) Tryd.underlying52 rfl (by rw [hi0]; simp [hw1])) (by assumption) ?_
      try simp only [Act.put, List.setIfInBounds_toArray, List.set_cons_zero, List.set_cons_succ]
      refine wpAnyH_take (i := 7) (oi := { dst := some 92, op := Op.move (Operand.tmp 0), type := 50, pos := "ref.go:283", after := #[], guard := none }) (v := .slice none 0 0) rfl (by kernel_rfl) (by kernel_rfl) (by kernel_rfl) (fun _ _ _ h => h) (Or.inl ⟨by rfl, fun w hSw => by go_simp⟩) (by assumption) ?_
      try simp only [Act.put, List.setIfInBounds_toArray, List.set_cons_zero, List.set_cons_succ]
      refine wpAnyH_take (i := 8) (oi := { dst := some 93, op := Op.move (Operand.tmp 6), type := 3, pos := "ref.go:283", after := #[], guard := none }) (v := .int .i64 0) rfl (by kernel_rfl) (by kernel_rfl) (by kernel_rfl) (fun _ _ _ h => h) (Or.inl ⟨by rfl, fun w hSw => by go_simp⟩) (by assumption) ?_
      try simp only [Act.put, List.setIfInBounds_toArray, List.set_cons_zero, List.set_cons_succ]
      refine wpAnyH_take (i := 9) (oi := { dst := some 94, op := Op.slice 50 (Operand.tmp 92) (some (Operand.tmp 93)) none none, type := 50, pos := "ref.go:283", after := #[{ on := 7, ground := Ground.data }, { on := 8, ground := Ground.data }], guard := none }) (v := .slice none 0 0) rfl (by kernel_rfl) (by kernel_rfl) (by kernel_rfl) (fun _ _ _ h => h) (Or.inl ⟨by rfl, fun w hSw => by go_simp⟩) (by assumption) ?_
      try simp only [Act.put, List.setIfInBounds_toArray, List.set_cons_zero, List.set_cons_succ]
      refine wpAnyH_ready (rs := [3, 5]) (by kernel_rfl) (by simp) ?_
      refine AllReadyH.cons (o := { dst := some 88, op := Op.call { callee := Callee.builtin Builtin.append, args := #[Operand.const (Value.slice none 0 0), Operand.tmp 87], argTypes := #[50, 50] }, type := 50, pos := "ref.go:283", after := #[{ on := 2, ground := Ground.data }], guard := none }) rfl (fun K hK => ?_) (AllReadyH.cons (o := { dst := some 90, op := Op.buildSlice 50 1 #[(0, Operand.tmp 89)], type := 50, pos := "ref.go:283", after := #[{ on := 4, ground := Ground.data }], guard := none }) rfl (fun K hK => ?_) AllReadyH.nil)
      · refine step_append_none rfl (.const (.slice none 0 0)) (.tmp 87) 50 rfl 52 i0 Tryd.underlying50 hi0 none 0 0 (Nat.le_refl _) rfl rfl ?_
        refine hK.out _ _ ⟨HEc.out, (Below.refl _ Wc).drew⟩ (fun hHeld => ?_)
        try simp only [Act.put, List.setIfInBounds_toArray, List.set_cons_zero, List.set_cons_succ]
        clear hK
        refine wpAnyH_ready (rs := [5]) (by kernel_rfl) (by simp) ?_
        refine AllReadyH.cons (o := { dst := some 90, op := Op.buildSlice 50 1 #[(0, Operand.tmp 89)], type := 50, pos := "ref.go:283", after := #[{ on := 4, ground := Ground.data }], guard := none }) rfl (fun K hK => ?_) AllReadyH.nil
        refine step_build_row rfl 50 52 (.tmp 89) rfl #[.int .i64 za, .int .i64 zb, .int .i64 zi, .int .i64 zk, .string zt] i0 _ rfl Tryd.underlying50 hi0 hw0 (by rw [hw1]; rfl) (Nat.succ_pos 4) (by show (5 : Nat) ≤ 2 ^ 24; omega) ?_
        have hb1 : Below Wc.heap.size Wc (Wc.drew.alloc (.cells #[.int .i64 za, .int .i64 zb, .int .i64 zi, .int .i64 zk, .string zt] 52)) := ((Below.refl _ Wc).drew).alloc (Nat.le_refl _) _
        refine hK.out _ _ ⟨(hb1.block E hEl).trans HEc.out, hb1⟩ (fun hHeld => ?_)
        try simp only [Act.put, List.setIfInBounds_toArray, List.set_cons_zero, List.set_cons_succ]
        clear hK
        refine wpAnyH_ready (rs := [6]) (by kernel_rfl) (by simp) ?_
        refine AllReadyH.cons (o := { dst := some 91, op := Op.call { callee := Callee.builtin Builtin.append, args := #[Operand.tmp 88, Operand.tmp 90], argTypes := #[50, 50] }, type := 50, pos := "ref.go:283", after := #[{ on := 3, ground := Ground.data }, { on := 5, ground := Ground.data }, { on := 3, ground := Ground.chain }], guard := none }) rfl (fun K hK => ?_) AllReadyH.nil
        refine step_append_own rfl (.tmp 88) (.tmp 90) 50 rfl Wc.heap.size 52 i0 _ 5 48 Tryd.underlying50 hi0 hw0 hw1 hw2 rfl (by decide) (.slice none 0 0) 0 [] rfl (World.ownsRow_nil _ _ _ _) ⟨Wc.drew.heap.size, 0, none⟩ 1 1 [.int .i64 za, .int .i64 zb, .int .i64 zi, .int .i64 zk, .string zt] rfl rfl (pr_new Wc.drew) zc_one (by unfold maxLen; omega) (by omega) (hb1.size) ?_
        intro v2 w2 hown2 hgr2
        have hb3 : Below Wc.heap.size Wc w2 := hb1.grown hgr2 hb1.size (fun k hk => by cases hk)
        obtain ⟨b2, c2, hv2, hc2⟩ : ∃ b c, v2 = .slice b 1 c ∧ 1 ≤ c := by
          rcases hown2.2 with ⟨hv, h0⟩ | ⟨g, cap, cur, hv, _, _, hc, _, _, _⟩
          · cases h0
          · exact ⟨_, _, hv, hc⟩
        have hfin := hown2
        rw [hv2]
        refine hK.out _ _ ⟨(hb3.block E hEl).trans HEc.out, hb3⟩ (fun hHeld => ?_)
        try simp only [Act.put, List.setIfInBounds_toArray, List.set_cons_zero, List.set_cons_succ]
        clear hK
        refine wpAnyH_ready (rs := [10]) (by kernel_rfl) (by simp) ?_
        refine AllReadyH.cons (o := { dst := some 95, op := Op.call { callee := Callee.builtin Builtin.append, args := #[Operand.tmp 91, Operand.tmp 94], argTypes := #[50, 50] }, type := 50, pos := "ref.go:283", after := #[{ on := 6, ground := Ground.data }, { on := 9, ground := Ground.data }, { on := 6, ground := Ground.chain }], guard := none }) rfl (fun K hK => ?_) AllReadyH.nil
        refine step_append_none rfl (.tmp 91) (.tmp 94) 50 rfl 52 i0 Tryd.underlying50 hi0 b2 1 c2 hc2 rfl rfl ?_
        refine hK.out _ _ ⟨(hb3.block E hEl).trans HEc.out, hb3⟩ (fun hHeld => ?_)
        try simp only [Act.put, List.setIfInBounds_toArray, List.set_cons_zero, List.set_cons_succ]
        clear hK
        refine wpAnyH_take (i := 11) (oi := { dst := some 4, op := Op.assign (Operand.tmp 95), type := 50, pos := "ref.go:283", after := #[{ on := 10, ground := Ground.data }, { on := 10, ground := Ground.chain }, { on := 0, ground := Ground.phase }, { on := 1, ground := Ground.phase }, { on := 2, ground := Ground.phase }, { on := 3, ground := Ground.phase }, { on := 4, ground := Ground.phase }, { on := 5, ground := Ground.phase }, { on := 6, ground := Ground.phase }, { on := 7, ground := Ground.phase }, { on := 8, ground := Ground.phase }, { on := 9, ground := Ground.phase }, { on := 10, ground := Ground.phase }], guard := none }) (v := .slice b2 1 c2) rfl (by kernel_rfl) (by kernel_rfl) (by kernel_rfl) (fun _ _ _ h => h) (Or.inl ⟨by rfl, fun w hSw => by go_simp⟩) (by assumption) ?_
        try simp only [Act.put, List.setIfInBounds_toArray, List.set_cons_zero, List.set_cons_succ]
        refine wpAnyH_done (by kernel_rfl) ?_ _
        have hph : PHas w2 (.slice b2 1 c2) (insQ [] z) := by
          rw [← hv2]
          refine PHas.of_own (B := Wc.heap.size) (l := [z]) ?_ rfl
          have e : prsC [z] = [] ++ [.int .i64 za, .int .i64 zb, .int .i64 zi, .int .i64 zk, .string zt] := by
            show prC z ++ [] = _
            rw [List.append_nil, List.nil_append]
            exact hzc.symm
          rw [e]
          exact hfin
        have HFin := Lib.hid (show PutPost [] z (.slice none 0 0) w (.returned (.slice b2 1 c2)) w2 from ⟨_, rfl, hph, Hbc.out.trans (hb3.mono Hbc.out.size), Or.inr fun b hb => by rw [← hv2] at hb; exact Nat.le_trans Hbc.out.size (hfin.lt b hb).1⟩)
        clear hph hfin hown2 hgr2 hb1 hb3 hHeld hzc
        go_wp2
        go_ret
        exact HFin.out
      · refine step_build_row rfl 50 52 (.tmp 89) rfl #[.int .i64 za, .int .i64 zb, .int .i64 zi, .int .i64 zk, .string zt] i0 _ rfl Tryd.underlying50 hi0 hw0 (by rw [hw1]; rfl) (Nat.succ_pos 4) (by show (5 : Nat) ≤ 2 ^ 24; omega) ?_
        have hb1 : Below Wc.heap.size Wc (Wc.drew.alloc (.cells #[.int .i64 za, .int .i64 zb, .int .i64 zi, .int .i64 zk, .string zt] 52)) := ((Below.refl _ Wc).drew).alloc (Nat.le_refl _) _
        refine hK.out _ _ ⟨(hb1.block E hEl).trans HEc.out, hb1⟩ (fun hHeld => ?_)
        try simp only [Act.put, List.setIfInBounds_toArray, List.set_cons_zero, List.set_cons_succ]
        clear hK
        refine wpAnyH_ready (rs := [3]) (by kernel_rfl) (by simp) ?_
        refine AllReadyH.cons (o := { dst := some 88, op := Op.call { callee := Callee.builtin Builtin.append, args := #[Operand.const (Value.slice none 0 0), Operand.tmp 87], argTypes := #[50, 50] }, type := 50, pos := "ref.go:283", after := #[{ on := 2, ground := Ground.data }], guard := none }) rfl (fun K hK => ?_) AllReadyH.nil
        refine step_append_none rfl (.const (.slice none 0 0)) (.tmp 87) 50 rfl 52 i0 Tryd.underlying50 hi0 none 0 0 (Nat.le_refl _) rfl rfl ?_
        refine hK.out _ _ ⟨(hb1.block E hEl).trans HEc.out, hb1⟩ (fun hHeld => ?_)
        try simp only [Act.put, List.setIfInBounds_toArray, List.set_cons_zero, List.set_cons_succ]
        clear hK
        refine wpAnyH_ready (rs := [6]) (by kernel_rfl) (by simp) ?_
        refine AllReadyH.cons (o := { dst := some 91, op := Op.call { callee := Callee.builtin Builtin.append, args := #[Operand.tmp 88, Operand.tmp 90], argTypes := #[50, 50] }, type := 50, pos := "ref.go:283", after := #[{ on := 3, ground := Ground.data }, { on := 5, ground := Ground.data }, { on := 3, ground := Ground.chain }], guard := none }) rfl (fun K hK => ?_) AllReadyH.nil
        refine step_append_own rfl (.tmp 88) (.tmp 90) 50 rfl Wc.heap.size 52 i0 _ 5 48 Tryd.underlying50 hi0 hw0 hw1 hw2 rfl (by decide) (.slice none 0 0) 0 [] rfl (World.ownsRow_nil _ _ _ _) ⟨Wc.drew.heap.size, 0, none⟩ 1 1 [.int .i64 za, .int .i64 zb, .int .i64 zi, .int .i64 zk, .string zt] rfl rfl (pr_new Wc.drew) zc_one (by unfold maxLen; omega) (by omega) (hb1.size) ?_
        intro v2 w2 hown2 hgr2
        have hb3 : Below Wc.heap.size Wc w2 := hb1.grown hgr2 hb1.size (fun k hk => by cases hk)
        obtain ⟨b2, c2, hv2, hc2⟩ : ∃ b c, v2 = .slice b 1 c ∧ 1 ≤ c := by
          rcases hown2.2 with ⟨hv, h0⟩ | ⟨g, cap, cur, hv, _, _, hc, _, _, _⟩
          · cases h0
          · exact ⟨_, _, hv, hc⟩
        have hfin := hown2
        rw [hv2]
        refine hK.out _ _ ⟨(hb3.block E hEl).trans HEc.out, hb3⟩ (fun hHeld => ?_)
        try simp only [Act.put, List.setIfInBounds_toArray, List.set_cons_zero, List.set_cons_succ]
        clear hK
        refine wpAnyH_ready (rs := [10]) (by kernel_rfl) (by simp) ?_
        refine AllReadyH.cons (o := { dst := some 95, op := Op.call { callee := Callee.builtin Builtin.append, args := #[Operand.tmp 91, Operand.tmp 94], argTypes := #[50, 50] }, type := 50, pos := "ref.go:283", after := #[{ on := 6, ground := Ground.data }, { on := 9, ground := Ground.data }, { on := 6, ground := Ground.chain }], guard := none }) rfl (fun K hK => ?_) AllReadyH.nil
        refine step_append_none rfl (.tmp 91) (.tmp 94) 50 rfl 52 i0 Tryd.underlying50 hi0 b2 1 c2 hc2 rfl rfl ?_
        refine hK.out _ _ ⟨(hb3.block E hEl).trans HEc.out, hb3⟩ (fun hHeld => ?_)
        try simp only [Act.put, List.setIfInBounds_toArray, List.set_cons_zero, List.set_cons_succ]
        clear hK
        refine wpAnyH_take (i := 11) (oi := { dst := some 4, op := Op.assign (Operand.tmp 95), type := 50, pos := "ref.go:283", after := #[{ on := 10, ground := Ground.data }, { on := 10, ground := Ground.chain }, { on := 0, ground := Ground.phase }, { on := 1, ground := Ground.phase }, { on := 2, ground := Ground.phase }, { on := 3, ground := Ground.phase }, { on := 4, ground := Ground.phase }, { on := 5, ground := Ground.phase }, { on := 6, ground := Ground.phase }, { on := 7, ground := Ground.phase }, { on := 8, ground := Ground.phase }, { on := 9, ground := Ground.phase }, { on := 10, ground := Ground.phase }], guard := none }) (v := .slice b2 1 c2) rfl (by kernel_rfl) (by kernel_rfl) (by kernel_rfl) (fun _ _ _ h => h) (Or.inl ⟨by rfl, fun w hSw => by go_simp⟩) (by assumption) ?_
        try simp only [Act.put, List.setIfInBounds_toArray, List.set_cons_zero, List.set_cons_succ]
        refine wpAnyH_done (by kernel_rfl) ?_ _
        have hph : PHas w2 (.slice b2 1 c2) (insQ [] z) := by
          rw [← hv2]
          refine PHas.of_own (B := Wc.heap.size) (l := [z]) ?_ rfl
          have e : prsC [z] = [] ++ [.int .i64 za, .int .i64 zb, .int .i64 zi, .int .i64 zk, .string zt] := by
            show prC z ++ [] = _
            rw [List.append_nil, List.nil_append]
            exact hzc.symm
          rw [e]
          exact hfin
        have HFin := Lib.hid (show PutPost [] z (.slice none 0 0) w (.returned (.slice b2 1 c2)) w2 from ⟨_, rfl, hph, Hbc.out.trans (hb3.mono Hbc.out.size), Or.inr fun b hb => by rw [← hv2] at hb; exact Nat.le_trans Hbc.out.size (hfin.lt b hb).1⟩)
        clear hph hfin hown2 hgr2 hb1 hb3 hHeld hzc
        go_wp2
        go_ret
        exact HFin.out
end Go.Proofs.YtapiofcdifligaaDoor
