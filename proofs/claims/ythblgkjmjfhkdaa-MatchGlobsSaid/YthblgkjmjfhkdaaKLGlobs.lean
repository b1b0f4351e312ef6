/- MatchGlobs: a match holds exactly if the pattern matches. -/
import Derived.Test.YthblgkjmjfhkdaaKKn
namespace Go.Proofs.Ythblgkjmjfhkdaa
open Go.RowKit

theorem hR_is (k : Int) (n pl x : List UInt8) : hR ⟨k, n, 1, pl⟩ x = Gl.patB pl x := by
  show (Gl.patB pl x == true) = _
  simp
theorem g_dev (pl vl : List UInt8) (s : Nat) (hp : pl.length ≤ 200) (hv : vl.length ≤ 200) (i : Nat) (hi : i < 4) (W : World) (h : De.Has W (.slice (some ⟨s, 0, none⟩) 1 1) [(⟨#[97]⟩, bs vl)]) :
    Calls Try.prog 14 #[.agg #[.int .i64 (2 + (i : Int)), .string ⟨#[97]⟩, .int .i64 1, .string (bs pl)], .agg #[.int .i64 0, .int .i64 0, .string ⟨#[]⟩, .string (bs vl), .string (bs vl), .string (bs vl), .string ⟨#[]⟩, .int .i64 0, .int .i64 0, .slice (some ⟨s, 0, none⟩) 1 1]] W fun e w' => e = .returned (.bool (Gl.patB pl vl)) ∧ Kp [] W w' := by
  have hsm : SmD ⟨0, 0, ⟨#[]⟩, bs vl, bs vl, bs vl, ⟨#[]⟩, 0, 0, .slice (some ⟨s, 0, none⟩) 1 1⟩ [(⟨#[97]⟩, bs vl)] :=
    ⟨by show vl.length ≤ _; omega, by show vl.length ≤ _; omega, by show vl.length ≤ _; omega, fun x hx => by rw [List.mem_singleton.1 hx]; show vl.length ≤ _; omega⟩
  have hh := device_any ⟨2 + (i : Int), [97], 1, pl⟩ ⟨0, 0, ⟨#[]⟩, bs vl, bs vl, bs vl, ⟨#[]⟩, 0, 0, .slice (some ⟨s, 0, none⟩) 1 1⟩ [(⟨#[97]⟩, bs vl)] W (by show pl.length ≤ _; omega) hsm (by simp) h
  have hc : i = 0 ∨ i = 1 ∨ i = 2 ∨ i = 3 := by omega
  have hg : getO (bs [97]) [(⟨#[97]⟩, bs vl)] = bs vl := by
    show (De.getP _ _).getD _ = _
    simp [De.getP, bs]
  rcases hc with rfl | rfl | rfl | rfl
  · exact hh.mono fun e w' ⟨h1, h2⟩ => ⟨h1.trans (congrArg (fun b => Ending.returned (.bool b)) (hR_is 2 [97] pl vl)), h2⟩
  · exact hh.mono fun e w' ⟨h1, h2⟩ => ⟨h1.trans (congrArg (fun b => Ending.returned (.bool b)) (hR_is 3 [97] pl vl)), h2⟩
  · exact hh.mono fun e w' ⟨h1, h2⟩ => ⟨h1.trans (congrArg (fun b => Ending.returned (.bool b)) (hR_is 4 [97] pl vl)), h2⟩
  · refine hh.mono fun e w' ⟨h1, h2⟩ => ⟨h1.trans (congrArg (fun b => Ending.returned (.bool b)) ?_), h2⟩
    show hR ⟨5, [97], 1, pl⟩ (getO (bs [97]) [(⟨#[97]⟩, bs vl)]).data.toList = _
    rw [hg, hR_is]
    rfl
theorem g_dra (k : Int) (n : List UInt8) (act : ByteArray) (pl vl : List UInt8) (b : Nat) (hp : pl.length ≤ 200) (hv : vl.length ≤ 200) (hk : (k = 13 ∧ n = [] ∧ act = ⟨#[]⟩) ∨ (k = 6 ∧ n = [75] ∧ act = ⟨#[]⟩) ∨ (k = 7 ∧ n = [] ∧ act = ⟨#[]⟩) ∨ (k = 1 ∧ n = [] ∧ act = bs vl)) (W : World)
    (h : De.Has W (.slice (some ⟨b, 0, none⟩) 1 1) [(⟨#[75]⟩, bs vl)]) (ht : stT.Has W (.slice (some ⟨b + 1, 0, none⟩) 1 1) [vl]) :
    Calls Try.prog 17 #[.agg #[.int .i64 k, .string (bs n), .int .i64 1, .string (bs pl)], .string act, .agg #[.slice (some ⟨b, 0, none⟩) 1 1, .slice (some ⟨b + 1, 0, none⟩) 1 1, .slice none 0 0, .slice none 0 0, .slice none 0 0, .string ⟨#[]⟩, .int .i64 0, .string ⟨#[]⟩, .string ⟨#[]⟩, .int .i64 0, .string (bs vl), .int .i64 0, .int .i64 0, .slice none 0 0]] W fun e w' => e = .returned (.bool (Gl.patB pl vl)) ∧ Kp [] W w' := by
  have hal : act.size ≤ 200 := by
    rcases hk with ⟨_, _, rfl⟩ | ⟨_, _, rfl⟩ | ⟨_, _, rfl⟩ | ⟨_, _, rfl⟩
    · decide
    · decide
    · decide
    · exact hv
  have hh := draft_any ⟨k, n, 1, pl⟩ act ⟨⟨some ⟨b, 0, none⟩, 1, 1⟩, ⟨some ⟨b + 1, 0, none⟩, 1, 1⟩, ⟨none, 0, 0⟩, ⟨none, 0, 0⟩, ⟨none, 0, 0⟩, ⟨#[]⟩, 0, ⟨#[]⟩, ⟨#[]⟩, 0, bs vl, 0, 0, ⟨none, 0, 0⟩⟩ [(⟨#[75]⟩, bs vl)] [vl] W (by show pl.length ≤ _; omega)
    ⟨by omega, by show vl.length ≤ _; omega, fun x hx => by rw [List.mem_singleton.1 hx]; show vl.length ≤ _; omega, by simp, fun x hx => by rw [List.mem_singleton.1 hx]; omega, by simp⟩ ⟨h, ht⟩
  have hg : getO (bs [75]) [(⟨#[75]⟩, bs vl)] = bs vl := by
    show (De.getP _ _).getD _ = _
    simp [De.getP, bs]
  refine hh.mono fun e w' ⟨h1, h2⟩ => ⟨h1.trans (congrArg (fun b => Ending.returned (.bool b)) ?_), h2⟩
  rcases hk with ⟨rfl, rfl, rfl⟩ | ⟨rfl, rfl, rfl⟩ | ⟨rfl, rfl, rfl⟩ | ⟨rfl, rfl, rfl⟩
  · show hB ⟨13, [], 1, pl⟩ [vl] = _
    rw [hB_one, hR_is]
  · show hB ⟨6, [75], 1, pl⟩ [(getO (bs [75]) [(⟨#[75]⟩, bs vl)]).data.toList] = _
    rw [hg, hB_one, hR_is]
    rfl
  · show hB ⟨7, [], 1, pl⟩ [vl] = _
    rw [hB_one, hR_is]
  · show hB ⟨1, [], 1, pl⟩ [vl] = _
    rw [hB_one, hR_is]
theorem own_at1 (W : World) (k v : ByteArray) (b : Nat) (hb : W.heap.size = b) : De.Has (W.alloc (.cells #[.string k, .string v] 50)) (.slice (some ⟨b, 0, none⟩) 1 1) [(k, v)] := by
  subst hb
  have hh := heap_alloc_last W (.cells #[.string k, .string v] 50)
  refine .inr ⟨W.heap.size, 0, 1, rfl, by simp, fun j x hj => ?_⟩
  cases j with
  | zero =>
    cases hj
    exact ⟨by rw [cell_of_row _ _ _ _ _ _ hh]; rfl, by rw [cell_of_row _ _ _ _ _ _ hh]; rfl⟩
  | succ j => simp at hj
set_option maxRecDepth 100000 in
set_option maxHeartbeats 8000000 in
theorem globs_any (pl vl : List UInt8) (w : World) : Calls Try.prog 6 #[.string (bs pl), .string (bs vl)] w fun e w' => e = .returned (.bool true) ∧ Kp [] w w' := by
  have HKN := Lib.hid known_any
  by_cases hp : pl.length ≤ 200
  · by_cases hv : vl.length ≤ 200
    · have hp1 : ¬ ((200 : Int) < ((bs pl).size : Int)) := by rw [bs_size]; omega
      have hv1 : ¬ ((200 : Int) < ((bs vl).size : Int)) := by rw [bs_size]; omega
      have HG := Lib.hid (fun W => glob_any pl vl W (by omega) (by omega))
      have hdev := g_dev pl vl
      have hdra := fun k n act => g_dra k n act pl vl
      obtain ⟨g, hg⟩ : ∃ g, Gl.patB pl vl = g := ⟨_, rfl⟩
      rw [hg] at HG hdev hdra
      clear hg
      go_enter Try.func6, Try.ntmps6
      go_upto_region 4 with (go_at_call 20; refine Calls.mono (by with_reducible exact HG.out _) ?_; rintro e w1 ⟨rfl, hk1⟩; have HK1 := Lib.hid hk1; clear hk1)
      go_upto_region 6 with fail
      obtain ⟨s, hs⟩ : ∃ s, w1.heap.size = s := ⟨_, rfl⟩
      rw [hs]
      generalize hw2 : w1.alloc (.cells #[.string ⟨#[97]⟩, .string (bs vl)] 50) = w2
      generalize hw3 : w2.alloc (.cells #[.int .i64 0, .int .i64 0, .string ⟨#[]⟩, .string (bs vl), .string (bs vl), .string (bs vl), .string ⟨#[]⟩, .int .i64 0, .int .i64 0, .slice (some ⟨s, 0, none⟩) 1 1] 26) = w3
      generalize hw4 : w3.alloc (.cells #[.int .i64 2, .int .i64 3, .int .i64 4, .int .i64 5] 3) = w4
      have z2 : w2.heap.size = s + 1 := by rw [← hw2]; simp [hs]
      have z3 : w3.heap.size = s + 1 + 1 := by rw [← hw3]; simp [z2]
      have z4 : w4.heap.size = s + 1 + 1 + 1 := by rw [← hw4]; simp [z3]
      have k2 : Kp [] w1 w2 := by rw [← hw2]; exact (Kp.refl [] _).alloc _
      have k3 : Kp [] w2 w3 := by rw [← hw3]; exact (Kp.refl [] _).alloc _
      have k4 : Kp [] w3 w4 := by rw [← hw4]; exact (Kp.refl [] _).alloc _
      have hA : De.Has w4 (.slice (some ⟨s, 0, none⟩) 1 1) [(⟨#[97]⟩, bs vl)] := (show De.Has w2 (.slice (some ⟨s, 0, none⟩) 1 1) [(⟨#[97]⟩, bs vl)] by rw [← hw2]; exact own_at1 w1 _ _ s hs).below (k3.trans k4).bel
      have hE3 : De.BoxAt w3 (s + 1) #[.int .i64 0, .int .i64 0, .string ⟨#[]⟩, .string (bs vl), .string (bs vl), .string (bs vl), .string ⟨#[]⟩, .int .i64 0, .int .i64 0, .slice (some ⟨s, 0, none⟩) 1 1] := by rw [← hw3, ← z2]; exact heap_alloc_last w2 _
      have hE4 : De.BoxAt w4 (s + 1) #[.int .i64 0, .int .i64 0, .string ⟨#[]⟩, .string (bs vl), .string (bs vl), .string (bs vl), .string ⟨#[]⟩, .int .i64 0, .int .i64 0, .slice (some ⟨s, 0, none⟩) 1 1] := (k4.block _ (block_lt hE3) (by simp)).trans hE3
      have hK4 : w4.heap[s + 1 + 1]? = some (.cells #[.int .i64 2, .int .i64 3, .int .i64 4, .int .i64 5] 3 (0, 0)) := by rw [← hw4, ← z3]; exact heap_alloc_last w3 _
      have HK4 := Lib.hid (HK1.out.trans (k2.trans (k3.trans k4)))
      have hKc : ∀ i : Nat, i < 4 → w4.cell? ⟨s + 1 + 1, i, none⟩ = some (.int .i64 (2 + (i : Int))) := fun i hi => by
        rw [cell_of_row _ _ _ _ _ _ hK4]
        have hc : i = 0 ∨ i = 1 ∨ i = 2 ∨ i = 3 := by omega
        rcases hc with rfl | rfl | rfl | rfl <;> rfl
      have HDV := Lib.hid (fun (i : Nat) (hi : i < 4) W (hk : Kp [] w4 W) => hdev s hp hv i hi W (hA.below hk.bel))
      have HKC := Lib.hid hKc
      have HE4 := Lib.hid hE4
      have Hdra := Lib.hid (fun k n act b hk W h ht => hdra k n act b hp hv hk W h ht)
      obtain ⟨E, hE⟩ : ∃ E, s + 1 = E := ⟨_, rfl⟩
      obtain ⟨Kb, hKK⟩ : ∃ Kb, E + 1 = Kb := ⟨_, rfl⟩
      rw [hE] at HE4 HKC ⊢
      rw [hKK] at HKC ⊢
      have HDC := Lib.hid (fun W (h : De.BoxAt W E #[.int .i64 0, .int .i64 0, .string ⟨#[]⟩, .string (bs vl), .string (bs vl), .string (bs vl), .string ⟨#[]⟩, .int .i64 0, .int .i64 0, .slice (some ⟨s, 0, none⟩) 1 1]) => (show W.cell? ⟨E, 0, none⟩ = some (.int .i64 0) ∧ W.cell? ⟨E, 1, none⟩ = some (.int .i64 0) ∧ W.cell? ⟨E, 2, none⟩ = some (.string ⟨#[]⟩) ∧ W.cell? ⟨E, 3, none⟩ = some (.string (bs vl)) ∧ W.cell? ⟨E, 4, none⟩ = some (.string (bs vl)) ∧ W.cell? ⟨E, 5, none⟩ = some (.string (bs vl)) ∧ W.cell? ⟨E, 6, none⟩ = some (.string ⟨#[]⟩) ∧ W.cell? ⟨E, 7, none⟩ = some (.int .i64 0) ∧ W.cell? ⟨E, 8, none⟩ = some (.int .i64 0) ∧ W.cell? ⟨E, 9, none⟩ = some (.slice (some ⟨s, 0, none⟩) 1 1) from ⟨h.cell 0, h.cell 1, h.cell 2, h.cell 3, h.cell 4, h.cell 5, h.cell 6, h.cell 7, h.cell 8, h.cell 9⟩))
      clear hw2 hw3 hw4 z2 z3 k2 k3 k4 hA hE3 hE4 hK4 hKc hdev hdra hs z4 hE hKK
      go_wp2
      go_loopw [8] (fun s8 wx => ∃ i : Nat, i ≤ 4 ∧ s8 = .int .i64 i ∧ Kp [] w4 wx) (fun s8 _ => 4 - (intOf s8).toNat)
      case atStart => exact ⟨0, by omega, rfl, Kp.refl _ _⟩
      case round =>
        obtain ⟨i, hi, rfl, hk⟩ := hrel
        have HKr := Lib.hid hk
        by_cases hlt : (i : Int) < 4
        · have hi4 : i < 4 := by omega
          have hkd := hk.drew 1
          have HST := Lib.hid (show wr.drew.cell? ⟨Kb, i, none⟩ = some (.int .i64 (2 + (i : Int))) ∧ De.BoxAt wr.drew E #[.int .i64 0, .int .i64 0, .string ⟨#[]⟩, .string (bs vl), .string (bs vl), .string (bs vl), .string ⟨#[]⟩, .int .i64 0, .int .i64 0, .slice (some ⟨s, 0, none⟩) 1 1] ∧ Kp [] w4 wr.drew from ⟨cell_kp hkd (HKC.out i hi4), (hkd.block E (block_lt HE4.out) (by simp)).trans HE4.out, hkd⟩)
          clear hk hkd
          go_upto_region 9 with fail
          refine wp_region_held_drew (S := fun W => W.cell? ⟨Kb, i, none⟩ = some (.int .i64 (2 + (i : Int))) ∧ De.BoxAt W E #[.int .i64 0, .int .i64 0, .string ⟨#[]⟩, .string (bs vl), .string (bs vl), .string (bs vl), .string ⟨#[]⟩, .int .i64 0, .int .i64 0, .slice (some ⟨s, 0, none⟩) 1 1] ∧ Kp [] w4 W) (by kernel_rfl) HST.out (fun hHeld => ?_)
          refine wpAnyH_take (i := 0) (oi := { dst := some 36, op := Op.move (Operand.tmp 7), type := 27, pos := "law.go:164", after := #[], guard := none }) (v := .slice (some ⟨Kb, 0, none⟩) 4 4) rfl (by kernel_rfl) (by kernel_rfl) (by kernel_rfl) (fun _ _ _ h => h) (Or.inl ⟨by rfl, fun w hSw => by (try dsimp only at hSw); go_simp⟩) hHeld ?_
          try simp only [Act.put, List.setIfInBounds_toArray, List.set_cons_zero, List.set_cons_succ]
          refine wpAnyH_take (i := 1) (oi := { dst := some 37, op := Op.move (Operand.tmp 8), type := 3, pos := "law.go:164", after := #[], guard := none }) (v := .int .i64 (i : Int)) rfl (by kernel_rfl) (by kernel_rfl) (by kernel_rfl) (fun _ _ _ h => h) (Or.inl ⟨by rfl, fun w hSw => by (try dsimp only at hSw); go_simp⟩) hHeld ?_
          try simp only [Act.put, List.setIfInBounds_toArray, List.set_cons_zero, List.set_cons_succ]
          refine wpAnyH_take (i := 2) (oi := { dst := some 38, op := Op.indexAddr 27 (Operand.tmp 36) (Operand.tmp 37), type := 0, pos := "law.go:164", after := #[{ on := 0, ground := Ground.data }, { on := 1, ground := Ground.data }], guard := none }) (v := .pointer (some ⟨Kb, i, none⟩)) rfl (by kernel_rfl) (by kernel_rfl) (by kernel_rfl) (fun _ _ _ h => h) (Or.inl ⟨by rfl, fun w hSw => by (try dsimp only at hSw); go_simp⟩) hHeld ?_
          try simp only [Act.put, List.setIfInBounds_toArray, List.set_cons_zero, List.set_cons_succ]
          refine wpAnyH_take (i := 3) (oi := { dst := some 39, op := Op.load 3 (Operand.tmp 38), type := 3, pos := "law.go:164", after := #[{ on := 2, ground := Ground.data }], guard := none }) (v := .int .i64 (2 + (i : Int))) rfl (by kernel_rfl) (by kernel_rfl) (by kernel_rfl) (fun _ _ _ h => h) (Or.inl ⟨by rfl, fun w hSw => by (try dsimp only at hSw); have dk := hSw.1; go_simp⟩) hHeld ?_
          try simp only [Act.put, List.setIfInBounds_toArray, List.set_cons_zero, List.set_cons_succ]
          refine wpAnyH_take (i := 4) (oi := { dst := some 40, op := Op.move (Operand.tmp 0), type := 9, pos := "law.go:164", after := #[], guard := none }) (v := .string (bs pl)) rfl (by kernel_rfl) (by kernel_rfl) (by kernel_rfl) (fun _ _ _ h => h) (Or.inl ⟨by rfl, fun w hSw => by (try dsimp only at hSw); go_simp⟩) hHeld ?_
          try simp only [Act.put, List.setIfInBounds_toArray, List.set_cons_zero, List.set_cons_succ]
          refine wpAnyH_take (i := 5) (oi := { dst := some 41, op := Op.build 23 #[(0, Operand.tmp 39), (1, Operand.const (Value.string { data := #[97] })), (2, Operand.const (Value.int IntKind.i64 1)), (3, Operand.tmp 40)], type := 23, pos := "law.go:164", after := #[{ on := 3, ground := Ground.data }, { on := 4, ground := Ground.data }], guard := none }) (v := .agg #[.int .i64 (2 + (i : Int)), .string ⟨#[97]⟩, .int .i64 1, .string (bs pl)]) rfl (by kernel_rfl) (by kernel_rfl) (by kernel_rfl) (fun _ _ _ h => h) (Or.inl ⟨by rfl, fun w hSw => by (try dsimp only at hSw); go_simp⟩) hHeld ?_
          try simp only [Act.put, List.setIfInBounds_toArray, List.set_cons_zero, List.set_cons_succ]
          refine wpAnyH_take (i := 6) (oi := { dst := some 42, op := Op.load 26 (Operand.tmp 6), type := 26, pos := "law.go:164", after := #[], guard := none }) (v := .agg #[.int .i64 0, .int .i64 0, .string ⟨#[]⟩, .string (bs vl), .string (bs vl), .string (bs vl), .string ⟨#[]⟩, .int .i64 0, .int .i64 0, .slice (some ⟨s, 0, none⟩) 1 1]) rfl (by kernel_rfl) (by kernel_rfl) (by kernel_rfl) (fun _ _ _ h => h) (Or.inl ⟨by rfl, fun w hSw => by (try dsimp only at hSw); obtain ⟨d0, d1, d2, d3, d4, d5, d6, d7, d8, d9⟩ := HDC.out _ hSw.2.1; go_simp⟩) hHeld ?_
          try simp only [Act.put, List.setIfInBounds_toArray, List.set_cons_zero, List.set_cons_succ]
          refine wpAnyH_take (i := 8) (oi := { dst := some 44, op := Op.move (Operand.tmp 5), type := 4, pos := "law.go:164", after := #[], guard := none }) (v := .bool g) rfl (by kernel_rfl) (by kernel_rfl) (by kernel_rfl) (fun _ _ _ h => h) (Or.inl ⟨by rfl, fun w hSw => by (try dsimp only at hSw); go_simp⟩) hHeld ?_
          try simp only [Act.put, List.setIfInBounds_toArray, List.set_cons_zero, List.set_cons_succ]
          refine wpAnyH_ready (rs := [7]) (by kernel_rfl) (by simp) ?_
          refine AllReadyH.cons (o := { dst := some 43, op := Op.call { callee := Callee.value (Operand.func 14), args := #[Operand.tmp 41, Operand.tmp 42], argTypes := #[23, 26] }, type := 4, pos := "law.go:164", after := #[{ on := 5, ground := Ground.data }, { on := 6, ground := Ground.data }], guard := none }) rfl (fun K hK => ?_) AllReadyH.nil
          go_simp
          go_at_call 14
          refine Calls.mono (by with_reducible exact HDV.out i hi4 _ hHeld.2.2) ?_
          rintro e w5 ⟨rfl, hk⟩
          dsimp only
          have hH := (show w5.cell? ⟨Kb, i, none⟩ = some (.int .i64 (2 + (i : Int))) ∧ De.BoxAt w5 E #[.int .i64 0, .int .i64 0, .string ⟨#[]⟩, .string (bs vl), .string (bs vl), .string (bs vl), .string ⟨#[]⟩, .int .i64 0, .int .i64 0, .slice (some ⟨s, 0, none⟩) 1 1] ∧ Kp [] w4 w5 from ⟨cell_kp hk hHeld.1, (hk.block E (block_lt hHeld.2.1) (by simp)).trans hHeld.2.1, hHeld.2.2.trans hk⟩)
          have HF := Lib.hid hH
          clear hHeld
          refine hK.out _ _ hH (fun hHeld => ?_)
          try simp only [Act.put, List.setIfInBounds_toArray, List.set_cons_zero, List.set_cons_succ]
          clear hK
          refine wpAnyH_take (i := 9) (oi := { dst := some 45, op := Op.binOp BinOp.neq 4 (Operand.tmp 43) (Operand.tmp 44) 4, type := 4, pos := "law.go:164", after := #[{ on := 7, ground := Ground.data }, { on := 8, ground := Ground.data }], guard := none }) (v := .bool false) rfl (by kernel_rfl) (by kernel_rfl) (by kernel_rfl) (fun _ _ _ h => h) (Or.inl ⟨by rfl, fun w hSw => by (try dsimp only at hSw); (go_simp; try simp)⟩) hHeld ?_
          try simp only [Act.put, List.setIfInBounds_toArray, List.set_cons_zero, List.set_cons_succ]
          refine wpAnyH_done (by kernel_rfl) ?_ _
          clear hHeld
          go_wp2
          exact ⟨⟨i + 1, by omega, rfl, HF.out.2.2⟩, by simp [intOf]; omega⟩
        · obtain rfl : i = 4 := by omega
          clear hk
          go_upto_region 12 with fail
          obtain ⟨b, hb⟩ : ∃ b, wr.heap.size = b := ⟨_, rfl⟩
          rw [hb]
          generalize hv1 : wr.alloc (.cells #[.string ⟨#[75]⟩, .string (bs vl)] 50) = v1
          generalize hv2 : v1.alloc (.cells #[.string (bs vl)] 9) = v2
          generalize hv3 : v2.alloc (.cells #[.slice (some ⟨b, 0, none⟩) 1 1, .slice (some ⟨b + 1, 0, none⟩) 1 1, .slice none 0 0, .slice none 0 0, .slice none 0 0, .string ⟨#[]⟩, .int .i64 0, .string ⟨#[]⟩, .string ⟨#[]⟩, .int .i64 0, .string (bs vl), .int .i64 0, .int .i64 0, .slice none 0 0] 43) = v3
          have y1 : v1.heap.size = b + 1 := by rw [← hv1]; simp [hb]
          have y2 : v2.heap.size = b + 1 + 1 := by rw [← hv2]; simp [y1]
          have l1 : Kp [] wr v1 := by rw [← hv1]; exact (Kp.refl [] _).alloc _
          have l2 : Kp [] v1 v2 := by rw [← hv2]; exact (Kp.refl [] _).alloc _
          have l3 : Kp [] v2 v3 := by rw [← hv3]; exact (Kp.refl [] _).alloc _
          have hA : De.Has v3 (.slice (some ⟨b, 0, none⟩) 1 1) [(⟨#[75]⟩, bs vl)] := (show De.Has v1 (.slice (some ⟨b, 0, none⟩) 1 1) [(⟨#[75]⟩, bs vl)] by rw [← hv1]; exact own_at1 wr _ _ b hb).below (l2.trans l3).bel
          have hT : stT.Has v3 (.slice (some ⟨b + 1, 0, none⟩) 1 1) [vl] := (show stT.Has v2 (.slice (some ⟨b + 1, 0, none⟩) 1 1) [vl] by
            rw [← hv2]
            have := own_st1c v1 (bs vl) (b + 1) y1
            rwa [bs_data] at this).kp0 l3
          have hDv : DAt v3 (b + 1 + 1) ⟨⟨some ⟨b, 0, none⟩, 1, 1⟩, ⟨some ⟨b + 1, 0, none⟩, 1, 1⟩, ⟨none, 0, 0⟩, ⟨none, 0, 0⟩, ⟨none, 0, 0⟩, ⟨#[]⟩, 0, ⟨#[]⟩, ⟨#[]⟩, 0, bs vl, 0, 0, ⟨none, 0, 0⟩⟩ := by rw [← hv3, ← y2]; exact heap_alloc_last v2 _
          have HKv := Lib.hid (HK4.out.trans (HKr.out.trans (l1.trans (l2.trans l3))))
          have HDd := Lib.hid (fun W (hk : Kp [] v3 W) => (hDv.kp0 hk).cells)
          have H13 := Lib.hid (fun W (hk : Kp [] v3 W) => Hdra.out 13 [] ⟨#[]⟩ b (.inl ⟨rfl, rfl, rfl⟩) W (hA.below hk.bel) (hT.kp0 hk))
          have H6 := Lib.hid (fun W (hk : Kp [] v3 W) => Hdra.out 6 [75] ⟨#[]⟩ b (.inr (.inl ⟨rfl, rfl, rfl⟩)) W (hA.below hk.bel) (hT.kp0 hk))
          have H7 := Lib.hid (fun W (hk : Kp [] v3 W) => Hdra.out 7 [] ⟨#[]⟩ b (.inr (.inr (.inl ⟨rfl, rfl, rfl⟩))) W (hA.below hk.bel) (hT.kp0 hk))
          have H1 := Lib.hid (fun W (hk : Kp [] v3 W) => Hdra.out 1 [] (bs vl) b (.inr (.inr (.inr ⟨rfl, rfl, rfl⟩))) W (hA.below hk.bel) (hT.kp0 hk))
          have e0 : bs [] = ⟨#[]⟩ := rfl
          have e75 : bs [75] = ⟨#[75]⟩ := rfl
          rw [e0] at H13 H7 H1
          rw [e75] at H6
          obtain ⟨d0, d1, d2, d3, d4, d5, d6, d7, d8, d9, d10, d11, d12, d13⟩ := HDd.out v3 (Kp.refl [] v3)
          clear hv1 hv2 hv3 y1 y2 l1 l2 l3 hA hT hDv hb e0 e75
          go_wp2_with (first
            | (go_at_call 17; refine Calls.mono (by with_reducible exact H13.out _ (Kp.refl [] _)) ?_; rintro e u1 ⟨rfl, hq1⟩; have HQ1 := Lib.hid hq1; obtain ⟨d0, d1, d2, d3, d4, d5, d6, d7, d8, d9, d10, d11, d12, d13⟩ := HDd.out u1 hq1; clear hq1)
            | (go_at_call 17; refine Calls.mono (by with_reducible exact H6.out _ HQ1.out) ?_; rintro e u2 ⟨rfl, hq1⟩; have HQ2 := Lib.hid (HQ1.out.trans hq1); obtain ⟨d0, d1, d2, d3, d4, d5, d6, d7, d8, d9, d10, d11, d12, d13⟩ := HDd.out u2 HQ2.out; clear hq1)
            | (go_at_call 17; refine Calls.mono (by with_reducible exact H7.out _ HQ2.out) ?_; rintro e u3 ⟨rfl, hq1⟩; have HQ3 := Lib.hid (HQ2.out.trans hq1); obtain ⟨d0, d1, d2, d3, d4, d5, d6, d7, d8, d9, d10, d11, d12, d13⟩ := HDd.out u3 HQ3.out; clear hq1)
            | (go_at_call 17; refine Calls.mono (by with_reducible exact H1.out _ HQ3.out) ?_; rintro e u4 ⟨rfl, hq1⟩; have HQ4 := Lib.hid (HQ3.out.trans hq1); clear hq1)
            | (go_at_call 7; refine Calls.mono (by with_reducible exact HKN.out _) ?_; rintro e u5 ⟨rfl, hq1⟩; have HQ5 := Lib.hid (HQ4.out.trans hq1); clear hq1))
          go_ret
          exact ⟨rfl, HKv.out.trans HQ5.out⟩
    · have hp1 : ¬ ((200 : Int) < ((bs pl).size : Int)) := by rw [bs_size]; omega
      have hv1 : ((200 : Int) < ((bs vl).size : Int)) := by rw [bs_size]; omega
      go_enter Try.func6, Try.ntmps6
      go_wp2_with (go_at_call 7; refine Calls.mono (by with_reducible exact HKN.out _) ?_; rintro e w1 ⟨rfl, hk1⟩; have HK1 := Lib.hid hk1; clear hk1)
      go_ret
      exact ⟨rfl, HK1.out⟩
  · have hp1 : ((200 : Int) < ((bs pl).size : Int)) := by rw [bs_size]; omega
    go_enter Try.func6, Try.ntmps6
    go_wp2_with (go_at_call 7; refine Calls.mono (by with_reducible exact HKN.out _) ?_; rintro e w1 ⟨rfl, hk1⟩; have HK1 := Lib.hid hk1; clear hk1)
    go_ret
    exact ⟨rfl, HK1.out⟩
theorem matchGlobs_walk (s0 s1 : ByteArray) (W : World) : Calls Try.prog 6 #[.string s0, .string s1] W fun e w' => e = .returned (.bool true) ∧ Below W.heap.size W w' := by
  have h := globs_any s0.data.toList s1.data.toList W
  rw [bs_of, bs_of] at h
  exact h.mono fun e w' ⟨h1, h2⟩ => ⟨h1, h2.bel⟩
end Go.Proofs.Ythblgkjmjfhkdaa
