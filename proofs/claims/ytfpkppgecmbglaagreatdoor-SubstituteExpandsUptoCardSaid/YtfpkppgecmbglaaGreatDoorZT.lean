/- The tape's templates. -/
import Derived.Test.YtfpkppgecmbglaaGreatDoorV
import Derived.Test.YtfpkppgecmbglaaGreatDoorYK
namespace Go.Proofs.YtfpkppgecmbglaaGreatDoor
open Go.RowKit

theorem one_bound (B : Nat) {w : World} {tb k : Nat} (xs : List (List UInt8)) (h1 : 1 ≤ xs.length) (h2 : xs.length ≤ 1000000) (hk : k ≤ 1000000) (h : Tp w tb k) (hx : ∀ x ∈ xs, x.length ≤ B) :
    Calls Tryz.prog 28 #[.pointer (some ⟨tb, 0, none⟩), .slice (some ⟨w.heap.size, 0, none⟩) xs.length xs.length] (w.alloc (.cells (xs.map fun x => Value.string (bs x)).toArray 9)) fun e w' =>
      ∃ x : List UInt8, x.length ≤ B ∧ e = .returned (.string (bs x)) ∧ Tp w' tb (k + 1) ∧ Kp [tb] w w' :=
  (one_new xs h1 h2 hk h).mono fun _ _ ⟨x, h, r⟩ => ⟨x, hx x h, r⟩
theorem oneT0 {w : World} {tb k : Nat} (hk : k ≤ 1000000) (h : Tp w tb k) : Calls Tryz.prog 28 #[.pointer (some ⟨tb, 0, none⟩), .slice (some ⟨w.heap.size, 0, none⟩) 29 29] (w.alloc (.cells #[.string ⟨#[36, 107, 101, 114, 110, 101, 108]⟩, .string ⟨#[37, 107]⟩, .string ⟨#[36, 110, 117, 109, 98, 101, 114]⟩, .string ⟨#[37, 110]⟩, .string ⟨#[36, 100, 101, 118, 112, 97, 116, 104]⟩, .string ⟨#[37, 112]⟩, .string ⟨#[36, 105, 100]⟩, .string ⟨#[37, 98]⟩, .string ⟨#[36, 100, 114, 105, 118, 101, 114]⟩, .string ⟨#[37, 100]⟩, .string ⟨#[36, 97, 116, 116, 114, 123, 115, 105, 122, 101, 125]⟩, .string ⟨#[37, 115, 123, 118, 101, 110, 100, 111, 114, 125]⟩, .string ⟨#[36, 101, 110, 118, 123, 73, 68, 125]⟩, .string ⟨#[37, 69, 123, 73, 68, 95, 88, 125]⟩, .string ⟨#[36, 114, 101, 115, 117, 108, 116]⟩, .string ⟨#[37, 99]⟩, .string ⟨#[36, 114, 101, 115, 117, 108, 116, 123, 49, 125]⟩, .string ⟨#[37, 99, 123, 50, 43, 125]⟩, .string ⟨#[36, 114, 101, 115, 117, 108, 116, 123, 49, 48, 125]⟩, .string ⟨#[36, 112, 97, 114, 101, 110, 116]⟩, .string ⟨#[37, 80]⟩, .string ⟨#[36, 110, 97, 109, 101]⟩, .string ⟨#[36, 36]⟩, .string ⟨#[37, 37]⟩, .string ⟨#[65]⟩, .string ⟨#[45, 98]⟩, .string ⟨#[47]⟩, .string ⟨#[32]⟩, .string ⟨#[123, 49, 125]⟩] 9)) fun e w' =>
    ∃ x : List UInt8, x.length ≤ 12 ∧ e = .returned (.string (bs x)) ∧ Tp w' tb (k + 1) ∧ Kp [tb] w w' := one_bound 12 [[36, 107, 101, 114, 110, 101, 108], [37, 107], [36, 110, 117, 109, 98, 101, 114], [37, 110], [36, 100, 101, 118, 112, 97, 116, 104], [37, 112], [36, 105, 100], [37, 98], [36, 100, 114, 105, 118, 101, 114], [37, 100], [36, 97, 116, 116, 114, 123, 115, 105, 122, 101, 125], [37, 115, 123, 118, 101, 110, 100, 111, 114, 125], [36, 101, 110, 118, 123, 73, 68, 125], [37, 69, 123, 73, 68, 95, 88, 125], [36, 114, 101, 115, 117, 108, 116], [37, 99], [36, 114, 101, 115, 117, 108, 116, 123, 49, 125], [37, 99, 123, 50, 43, 125], [36, 114, 101, 115, 117, 108, 116, 123, 49, 48, 125], [36, 112, 97, 114, 101, 110, 116], [37, 80], [36, 110, 97, 109, 101], [36, 36], [37, 37], [65], [45, 98], [47], [32], [123, 49, 125]] (by decide) (by decide) hk h (by decide)
theorem oneT1 {w : World} {tb k : Nat} (hk : k ≤ 1000000) (h : Tp w tb k) : Calls Tryz.prog 28 #[.pointer (some ⟨tb, 0, none⟩), .slice (some ⟨w.heap.size, 0, none⟩) 4 4] (w.alloc (.cells #[.string ⟨#[]⟩, .string ⟨#[45]⟩, .string ⟨#[46]⟩, .string ⟨#[57]⟩] 9)) fun e w' =>
    ∃ x : List UInt8, x.length ≤ 1 ∧ e = .returned (.string (bs x)) ∧ Tp w' tb (k + 1) ∧ Kp [tb] w w' := one_bound 1 [[], [45], [46], [57]] (by decide) (by decide) hk h (by decide)
theorem oneT2 {w : World} {tb k : Nat} (hk : k ≤ 1000000) (h : Tp w tb k) : Calls Tryz.prog 28 #[.pointer (some ⟨tb, 0, none⟩), .slice (some ⟨w.heap.size, 0, none⟩) 8 8] (w.alloc (.cells #[.string ⟨#[]⟩, .string ⟨#[36]⟩, .string ⟨#[37]⟩, .string ⟨#[123]⟩, .string ⟨#[125]⟩, .string ⟨#[120]⟩, .string ⟨#[48]⟩, .string ⟨#[43]⟩] 9)) fun e w' =>
    ∃ x : List UInt8, x.length ≤ 1 ∧ e = .returned (.string (bs x)) ∧ Tp w' tb (k + 1) ∧ Kp [tb] w w' := one_bound 1 [[], [36], [37], [123], [125], [120], [48], [43]] (by decide) (by decide) hk h (by decide)
theorem wrap_add2 (a b : Nat) (h1 : a ≤ 65) (h2 : b < 2) : IntKind.i64.wrap ((a : Int) + (b : Int)) = ((a + b : Nat) : Int) := by rw [IntKind.wrap_i64]; omega
/-- What template answers. -/
def TemplPost (tb k : Nat) (w : World) (e : Ending) (w' : World) : Prop := ∃ (s : List UInt8) (q : Nat), s.length ≤ 200 ∧ q ≤ k + 20 ∧ e = .returned (.string (bs s)) ∧ Tp w' tb q ∧ Kp [tb] w w'
set_option maxHeartbeats 8000000 in
set_option maxRecDepth 100000 in
theorem template_any {w : World} {tb k : Nat} (wrong : Bool) (hk : k ≤ 1000) (h : Tp w tb k) : Calls Tryz.prog 12 #[.pointer (some ⟨tb, 0, none⟩), .bool wrong] w (TemplPost tb k w) := by
  have HN := Lib.hid (show Calls Tryz.prog 27 #[.pointer (some ⟨tb, 0, none⟩), .int .i64 6] w (fun e w' => ∃ r : Nat, r < 6 ∧ e = .returned (.int .i64 r) ∧ Tp w' tb (k + 1) ∧ Kp [tb] w w') from next_kp 6 (by decide) (by decide) (by omega) h)
  clear h
  go_enter Tryz.func12, Tryz.ntmps12
  go_wp2_with fail
  refine Calls.mono (by with_reducible exact HN.out) ?_
  rintro e w1 ⟨r, hr, rfl, hT1, hk1⟩
  have HT1 := Lib.hid hT1
  have HK1 := Lib.hid hk1
  clear HN hT1 hk1
  go_wp2
  go_loopg [5, 6] r (fun g s5 s6 wx => ∃ (y : List UInt8) (q : Nat), s5 = .string (bs y) ∧ s6 = .int .i64 (g : Int) ∧ g ≤ 5 ∧ y.length ≤ 13 * (5 - g) ∧ Hid (q ≤ k + 1 + 2 * (5 - g)) ∧ Hid (Tp wx tb q) ∧ Hid (Kp [tb] w wx))
  case atStart => exact ⟨[], k + 1, rfl, rfl, by omega, by simp, Lib.hid (by omega), HT1, HK1⟩
  case round =>
    obtain ⟨y, q, rfl, rfl, hg5, hyl, hq, hT, hK⟩ := hrel
    have hys : (bs y).size = y.length := rfl
    cases gk with
    | zero =>
      have hz : ¬ ((0 : Int) < ((0 : Nat) : Int)) := by omega
      have hyl2 : y.length ≤ 65 := by omega
      have hqq : q ≤ k + 11 := by have := hq.out; omega
      clear hyl hq hg5
      cases wrong with
      | false =>
        go_wp2
        go_ret
        exact ⟨y, q, by omega, by omega, rfl, hT.out, hK.out⟩
      | true =>
        by_cases hy0 : y = []
        · subst hy0
          have hz0 : (bs []).size = 0 := rfl
          go_wp2
          go_ret
          exact ⟨[], q, by simp, by omega, rfl, hT.out, hK.out⟩
        · have hyp : 1 ≤ y.length := List.length_pos_iff.2 hy0
          have hyi : ((y.length : Int) == 0) = false := by simpa using hy0
          have HN2 := Lib.hid (show ∀ W q, q ≤ 1000000 → Tp W tb q → Calls Tryz.prog 27 #[.pointer (some ⟨tb, 0, none⟩), .int .i64 2] W (fun e w' => ∃ r : Nat, r < 2 ∧ e = .returned (.int .i64 r) ∧ Tp w' tb (q + 1) ∧ Kp [tb] W w') from fun W q h1 h2 => next_kp 2 (by decide) (by decide) h1 h2)
          clear hy0
          go_wp2_with fail
          refine Calls.mono (by with_reducible exact HN2.out _ q (by omega) hT.out) ?_
          rintro e w2 ⟨r2, hr2, rfl, hT2, hk2⟩
          have HT2 := Lib.hid hT2
          have HK2 := Lib.hid (hK.out.trans hk2)
          clear hT hK hT2 hk2
          have hr01 : r2 = 0 ∨ r2 = 1 := by omega
          rcases hr01 with rfl | rfl
          · go_wp2
            go_ret
            exact ⟨y, q + 1, by omega, by omega, rfl, HT2.out, HK2.out⟩
          · go_wp2_with fail
            have hyl3 : y.length ≤ 1000000 := by omega
            refine Calls.mono (by with_reducible exact next_kp y.length hyp hyl3 (by omega) HT2.out) ?_
            rintro e w3 ⟨r3, hr3, rfl, hT3, hk3⟩
            have HT3 := Lib.hid hT3
            have HK3 := Lib.hid (HK2.out.trans hk3)
            have hr3i : (r3 : Int) ≤ (y.length : Int) := by omega
            have hr3n : r3 ≤ (bs y).size := by omega
            have hex : (bs y).extract 0 r3 = bs (y.take r3) := bs_take y r3
            clear HT2 HK2 hT3 hk3
            have hts : (bs (y.take r3)).size ≤ 65 := by rw [bs_size, List.length_take]; omega
            have HR65 := Lib.hid (show r3 ≤ 65 by omega)
            have HPRE := Lib.hid (show ∀ r5 : Nat, r5 < 2 → wrap64 ((r3 : Int) + (r5 : Int)) = ((r3 + r5 : Nat) : Int) ∧ ((r3 + r5 : Nat) : Int) ≤ (y.length : Int) ∧ r3 + r5 ≤ (bs y).size ∧ (bs y).extract (r3 + r5) y.length = bs (y.drop (r3 + r5)) ∧ (bs (y.drop (r3 + r5))).size ≤ 65 from fun r5 h => ⟨by unfold wrap64; omega, by omega, by omega, bs_drop y (r3 + r5), by rw [bs_size, List.length_drop]; omega⟩)
            have HOV := Lib.hid (show ∀ g h : Nat, g ≤ 1 → h ≤ 65 → ¬ 9223372036854775807 < (bs (y.take r3)).size + g + h from fun g h h1 h2 => by omega)
            have HLEN := Lib.hid (show ∀ (x : List UInt8) (d : Nat), x.length ≤ 1 → (y.take r3 ++ x ++ y.drop d).length ≤ 200 from fun x d hx => by rw [List.length_append, List.length_append, List.length_take, List.length_drop]; omega)
            have HQ4 := Lib.hid (show q + 4 ≤ k + 20 by omega)
            go_upto_region 11 with fail
            refine wp_region_held_drew (S := fun _ => True) (by kernel_rfl) trivial (fun hHeld => ?_)
            have HTd := Lib.hid (show Tp w3.drew tb (q + 2) from HT3.out.kp ((Kp.refl [] w3).drew 1) (by simp))
            have HKd := Lib.hid (show Kp [tb] w w3.drew from HK3.out.trans (((Kp.refl [] w3).drew 1).mono (by simp)))
            generalize hwd : w3.drew = wd at *
            clear hwd HT3 HK3
            refine wpAnyH_take (i := 0) (oi := { dst := some 59, op := Op.move (Operand.tmp 5), type := 9, pos := "law.go:35", after := #[], guard := none }) (v := .string (bs y)) rfl (by kernel_rfl) (by kernel_rfl) (by kernel_rfl) (fun _ _ _ h => h) (Or.inl ⟨by rfl, fun w hSw => by (try dsimp only at hSw); go_simp⟩) hHeld ?_
            try simp only [Act.put, List.setIfInBounds_toArray, List.set_cons_zero, List.set_cons_succ]
            refine wpAnyH_take (i := 1) (oi := { dst := some 60, op := Op.move (Operand.tmp 7), type := 3, pos := "law.go:35", after := #[], guard := none }) (v := .int .i64 (r3 : Int)) rfl (by kernel_rfl) (by kernel_rfl) (by kernel_rfl) (fun _ _ _ h => h) (Or.inl ⟨by rfl, fun w hSw => by (try dsimp only at hSw); go_simp⟩) hHeld ?_
            try simp only [Act.put, List.setIfInBounds_toArray, List.set_cons_zero, List.set_cons_succ]
            refine wpAnyH_take (i := 2) (oi := { dst := some 61, op := Op.slice 9 (Operand.tmp 59) none (some (Operand.tmp 60)) none, type := 9, pos := "law.go:35", after := #[{ on := 0, ground := Ground.data }, { on := 1, ground := Ground.data }], guard := none }) (v := .string (bs (y.take r3))) rfl (by kernel_rfl) (by kernel_rfl) (by kernel_rfl) (fun _ _ _ h => h) (Or.inl ⟨by rfl, fun w hSw => by (try dsimp only at hSw); go_simp⟩) hHeld ?_
            try simp only [Act.put, List.setIfInBounds_toArray, List.set_cons_zero, List.set_cons_succ]
            refine wpAnyH_take (i := 3) (oi := { dst := some 62, op := Op.move (Operand.tmp 0), type := 25, pos := "law.go:35", after := #[], guard := none }) (v := .pointer (some ⟨tb, 0, none⟩)) rfl (by kernel_rfl) (by kernel_rfl) (by kernel_rfl) (fun _ _ _ h => h) (Or.inl ⟨by rfl, fun w hSw => by (try dsimp only at hSw); go_simp⟩) hHeld ?_
            try simp only [Act.put, List.setIfInBounds_toArray, List.set_cons_zero, List.set_cons_succ]
            refine wpAnyH_take (i := 7) (oi := { dst := some 66, op := Op.move (Operand.tmp 5), type := 9, pos := "law.go:35", after := #[], guard := none }) (v := .string (bs y)) rfl (by kernel_rfl) (by kernel_rfl) (by kernel_rfl) (fun _ _ _ h => h) (Or.inl ⟨by rfl, fun w hSw => by (try dsimp only at hSw); go_simp⟩) hHeld ?_
            try simp only [Act.put, List.setIfInBounds_toArray, List.set_cons_zero, List.set_cons_succ]
            refine wpAnyH_take (i := 8) (oi := { dst := some 67, op := Op.move (Operand.tmp 7), type := 3, pos := "law.go:35", after := #[], guard := none }) (v := .int .i64 (r3 : Int)) rfl (by kernel_rfl) (by kernel_rfl) (by kernel_rfl) (fun _ _ _ h => h) (Or.inl ⟨by rfl, fun w hSw => by (try dsimp only at hSw); go_simp⟩) hHeld ?_
            try simp only [Act.put, List.setIfInBounds_toArray, List.set_cons_zero, List.set_cons_succ]
            refine wpAnyH_take (i := 9) (oi := { dst := some 68, op := Op.move (Operand.tmp 0), type := 25, pos := "law.go:35", after := #[], guard := none }) (v := .pointer (some ⟨tb, 0, none⟩)) rfl (by kernel_rfl) (by kernel_rfl) (by kernel_rfl) (fun _ _ _ h => h) (Or.inl ⟨by rfl, fun w hSw => by (try dsimp only at hSw); go_simp⟩) hHeld ?_
            try simp only [Act.put, List.setIfInBounds_toArray, List.set_cons_zero, List.set_cons_succ]
            refine wpAnyH_ready (rs := [4]) (by kernel_rfl) (by simp) ?_
            refine AllReadyH.cons (o := { dst := some 63, op := Op.buildSlice 28 8 #[(0, Operand.const (Value.string { data := #[] })), (1, Operand.const (Value.string { data := #[36] })), (2, Operand.const (Value.string { data := #[37] })), (3, Operand.const (Value.string { data := #[123] })), (4, Operand.const (Value.string { data := #[125] })), (5, Operand.const (Value.string { data := #[120] })), (6, Operand.const (Value.string { data := #[48] })), (7, Operand.const (Value.string { data := #[43] }))], type := 28, pos := "law.go:35", after := #[], guard := none }) rfl (fun K hK => ?_) AllReadyH.nil
            go_simp
            clear hHeld
            refine hK.out _ _ trivial (fun hHeld => ?_)
            try simp only [Act.put, List.setIfInBounds_toArray, List.set_cons_zero, List.set_cons_succ]
            clear hK
            refine wpAnyH_ready (rs := [5]) (by kernel_rfl) (by simp) ?_
            refine AllReadyH.cons (o := { dst := some 64, op := Op.call { callee := Callee.value (Operand.func 28), args := #[Operand.tmp 62, Operand.tmp 63], argTypes := #[25, 28] }, type := 9, pos := "law.go:35", after := #[{ on := 3, ground := Ground.data }, { on := 4, ground := Ground.data }], guard := none }) rfl (fun K hK => ?_) AllReadyH.nil
            go_simp
            go_at_call 28
            refine Calls.mono (by with_reducible exact oneT2 (by omega) HTd.out) ?_
            rintro e w4 ⟨x, hx, rfl, hT4, hk4⟩
            dsimp only
            have HT4 := Lib.hid hT4
            have HK4 := Lib.hid (HKd.out.trans hk4)
            have hxs : (bs x).size ≤ 1 := hx
            have hov : ¬ 9223372036854775807 < (bs (y.take r3)).size + (bs x).size := (by omega)
            clear hT4 hk4
            clear hHeld
            refine hK.out _ _ trivial (fun hHeld => ?_)
            try simp only [Act.put, List.setIfInBounds_toArray, List.set_cons_zero, List.set_cons_succ]
            clear hK
            refine wpAnyH_take (i := 6) (oi := { dst := some 65, op := Op.binOp BinOp.add 9 (Operand.tmp 61) (Operand.tmp 64) 9, type := 9, pos := "law.go:35", after := #[{ on := 2, ground := Ground.data }, { on := 5, ground := Ground.data }], guard := none }) (v := .string (bs (y.take r3) ++ bs x)) rfl (by kernel_rfl) (by kernel_rfl) (by kernel_rfl) (fun _ _ _ h => h) (Or.inl ⟨by rfl, fun w hSw => by (try dsimp only at hSw); go_simp⟩) hHeld ?_
            try simp only [Act.put, List.setIfInBounds_toArray, List.set_cons_zero, List.set_cons_succ]
            refine wpAnyH_ready (rs := [10]) (by kernel_rfl) (by simp) ?_
            refine AllReadyH.cons (o := { dst := some 69, op := Op.call { callee := Callee.value (Operand.func 27), args := #[Operand.tmp 68, Operand.const (Value.int IntKind.i64 2)], argTypes := #[25, 3] }, type := 3, pos := "law.go:35", after := #[{ on := 9, ground := Ground.data }, { on := 5, ground := Ground.chain }], guard := none }) rfl (fun K hK => ?_) AllReadyH.nil
            go_simp
            go_at_call 27
            refine Calls.mono (by with_reducible exact HN2.out _ (q + 3) (by omega) HT4.out) ?_
            rintro e w5 ⟨r5, hr5, rfl, hT5, hk5⟩
            dsimp only
            have HT5 := Lib.hid hT5
            have HK5 := Lib.hid (HK4.out.trans hk5)
            obtain ⟨hwr, hdi, hdn, hed, hds⟩ := HPRE.out r5 hr5
            have hov2 := HOV.out (bs x).size (bs (y.drop (r3 + r5))).size hxs hds
            clear hT5 hk5
            clear hHeld
            refine hK.out _ _ trivial (fun hHeld => ?_)
            try simp only [Act.put, List.setIfInBounds_toArray, List.set_cons_zero, List.set_cons_succ]
            clear hK
            obtain ⟨d, hd⟩ : ∃ d, r3 + r5 = d := ⟨_, rfl⟩
            rw [hd] at hwr hdi hdn hed hds hov2
            have hwr2 := wrap_add2 r3 r5 HR65.out hr5
            rw [hd] at hwr2
            clear hd
            refine wpAnyH_take (i := 11) (oi := { dst := some 70, op := Op.binOp BinOp.add 3 (Operand.tmp 67) (Operand.tmp 69) 3, type := 3, pos := "law.go:35", after := #[{ on := 8, ground := Ground.data }, { on := 10, ground := Ground.data }], guard := none }) (v := .int .i64 (d : Int)) rfl (by kernel_rfl) (by kernel_rfl) (by kernel_rfl) (fun _ _ _ h => h) (Or.inl ⟨by rfl, fun w hSw => by (try dsimp only at hSw); go_simp⟩) hHeld ?_
            try simp only [Act.put, List.setIfInBounds_toArray, List.set_cons_zero, List.set_cons_succ]
            refine wpAnyH_take (i := 12) (oi := { dst := some 71, op := Op.slice 9 (Operand.tmp 66) (some (Operand.tmp 70)) none none, type := 9, pos := "law.go:35", after := #[{ on := 7, ground := Ground.data }, { on := 11, ground := Ground.data }], guard := none }) (v := .string (bs (y.drop d))) rfl (by kernel_rfl) (by kernel_rfl) (by kernel_rfl) (fun _ _ _ h => h) (Or.inl ⟨by rfl, fun w hSw => by (try dsimp only at hSw); go_simp⟩) hHeld ?_
            try simp only [Act.put, List.setIfInBounds_toArray, List.set_cons_zero, List.set_cons_succ]
            refine wpAnyH_take (i := 13) (oi := { dst := some 72, op := Op.binOp BinOp.add 9 (Operand.tmp 65) (Operand.tmp 71) 9, type := 9, pos := "law.go:35", after := #[{ on := 6, ground := Ground.data }, { on := 12, ground := Ground.data }], guard := none }) (v := .string (bs (y.take r3) ++ bs x ++ bs (y.drop d))) rfl (by kernel_rfl) (by kernel_rfl) (by kernel_rfl) (fun _ _ _ h => h) (Or.inl ⟨by rfl, fun w hSw => by (try dsimp only at hSw); go_simp⟩) hHeld ?_
            try simp only [Act.put, List.setIfInBounds_toArray, List.set_cons_zero, List.set_cons_succ]
            refine wpAnyH_take (i := 14) (oi := { dst := some 4, op := Op.assign (Operand.tmp 72), type := 9, pos := "law.go:35", after := #[{ on := 13, ground := Ground.data }, { on := 10, ground := Ground.chain }, { on := 0, ground := Ground.phase }, { on := 1, ground := Ground.phase }, { on := 2, ground := Ground.phase }, { on := 3, ground := Ground.phase }, { on := 4, ground := Ground.phase }, { on := 5, ground := Ground.phase }, { on := 6, ground := Ground.phase }, { on := 7, ground := Ground.phase }, { on := 8, ground := Ground.phase }, { on := 9, ground := Ground.phase }, { on := 10, ground := Ground.phase }, { on := 11, ground := Ground.phase }, { on := 12, ground := Ground.phase }, { on := 13, ground := Ground.phase }], guard := none }) (v := .string (bs (y.take r3) ++ bs x ++ bs (y.drop d))) rfl (by kernel_rfl) (by kernel_rfl) (by kernel_rfl) (fun _ _ _ h => h) (Or.inl ⟨by rfl, fun w hSw => by (try dsimp only at hSw); go_simp⟩) hHeld ?_
            try simp only [Act.put, List.setIfInBounds_toArray, List.set_cons_zero, List.set_cons_succ]
            refine wpAnyH_done (by kernel_rfl) ?_ _
            clear hHeld
            rw [bs_app, bs_app]
            go_wp2
            go_ret
            exact ⟨y.take r3 ++ x ++ y.drop d, q + 4, HLEN.out _ _ hx, HQ4.out, rfl, HT5.out, HK5.out⟩
    | succ gk =>
      have hz : (0 : Int) < ((gk + 1 : Nat) : Int) := by omega
      go_wp2_with fail
      refine Calls.mono (by with_reducible exact oneT0 (by have := hq.out; omega) hT.out) ?_
      rintro e w2 ⟨x, hx, rfl, hT2, hk2⟩
      have HT2 := Lib.hid hT2
      have HK2 := Lib.hid (hK.out.trans hk2)
      have hxs : (bs x).size = x.length := rfl
      have hle : y.length + x.length ≤ 77 := by omega
      have hnl : y.length + x.length ≤ 13 * (5 - gk) - 1 := by omega
      clear hT hK hT2 hk2
      go_upto_region 6 with fail
      rw [bs_app]
      have hzs : (bs (y ++ x)).size = y.length + x.length := by rw [bs_size, List.length_append]
      have hse := bs_isEmpty (y ++ x)
      obtain ⟨u, hu⟩ : ∃ u, y ++ x = u := ⟨_, rfl⟩
      have hul : u.length = y.length + x.length := by rw [← hu, List.length_append]
      rw [hu] at hzs hse ⊢
      have hun : u.length ≤ 13 * (5 - gk) - 1 := by omega
      have hqn : Hid (q + 1 ≤ k + 1 + 2 * (5 - gk) - 1) := Lib.hid (by have := hq.out; omega)
      clear hu hyl hxs hx hys hle hnl hq
      by_cases hu0 : u = []
      · subst hu0
        have hf0 : (bs []).toList.isEmpty = true := by rw [bs_isEmpty]; rfl
        go_wp2
        go_roundg gk
        case measure => omega
        case rel => exact ⟨[], q + 1, rfl, by go_num, by omega, by simp, Lib.hid (by have := hqn.out; omega), HT2, HK2⟩
      · have hf0 : (bs u).toList.isEmpty = false := by rw [bs_isEmpty]; simpa using hu0
        obtain ⟨m, hm⟩ : ∃ m, u.length = m + 1 := ⟨u.length - 1, by have := List.length_pos_iff.2 hu0; omega⟩
        have hzs2 : (bs u).size = m + 1 := hm
        have hlt : m < (bs u).size := by omega
        obtain ⟨c, hc⟩ : ∃ c : UInt8, (bs u)[m]'hlt = c := ⟨_, rfl⟩
        have hwm : wrap64 (m : Int) = (m : Int) := by unfold wrap64; omega
        have hmi : (m : Int) < (m : Int) + 1 := by omega
        have HUN := Lib.hid hun
        have HM := Lib.hid hm
        clear hse hul hzs hu0 hun hm
        by_cases h97 : (97 : Int) ≤ (c.toNat : Int)
        · by_cases h122 : (c.toNat : Int) ≤ 122
          · go_wp2_with fail
            refine Calls.mono (by with_reducible exact oneT1 (by have := hqn.out; omega) HT2.out) ?_
            rintro e w3 ⟨x3, hx3, rfl, hT3, hk3⟩
            have HT3 := Lib.hid hT3
            have HK3 := Lib.hid (HK2.out.trans hk3)
            have hxs3 : (bs x3).size = x3.length := rfl
            have hov : ¬ 9223372036854775807 < (bs u).size + (bs x3).size := by have := HUN.out; have := HM.out; omega
            clear HT2 HK2 hT3 hk3
            go_wp2
            rw [bs_app]
            go_roundg gk
            case measure => omega
            case rel => exact ⟨u ++ x3, q + 2, rfl, by go_num, by omega, by rw [List.length_append]; have := HUN.out; omega, Lib.hid (by have := hqn.out; omega), HT3, HK3⟩
          · go_wp2
            go_roundg gk
            case measure => omega
            case rel => exact ⟨u, q + 1, rfl, by go_num, by omega, by have := HUN.out; omega, Lib.hid (by have := hqn.out; omega), HT2, HK2⟩
        · go_wp2
          go_roundg gk
          case measure => omega
          case rel => exact ⟨u, q + 1, rfl, by go_num, by omega, by have := HUN.out; omega, Lib.hid (by have := hqn.out; omega), HT2, HK2⟩
end Go.Proofs.YtfpkppgecmbglaaGreatDoor
