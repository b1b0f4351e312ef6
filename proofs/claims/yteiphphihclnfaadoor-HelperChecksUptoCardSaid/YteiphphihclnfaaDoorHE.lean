/- The examples of the chapter; the drawn table of helpers; a drawn command. -/
import Derived.Test.YteiphphihclnfaaDoorHC
import Derived.Test.YteiphphihclnfaaDoorHD
namespace Go.Proofs.YteiphphihclnfaaDoor
open Go.RowKit Go.Shelf
open Go.Proofs.YteiphphihclnfaaDoor.Nm
/-- The two helpers of the examples. -/
def exH : List Hp := [⟨[112, 114, 111, 98, 101, 32, 42], [65, 61, 49, 59, 98, 61, 50, 59, 67, 61], false, 3⟩, ⟨[115, 108, 111, 119], [], false, 50⟩]
theorem ex1 : callL exH 10 0 [112, 114, 111, 98, 101, 32, 115, 100, 97] = ([65, 61, 49, 59, 98, 61, 50, 59, 67, 61], 3, 0) := by decide
theorem ex2 : callL exH 10 0 [115, 108, 111, 119] = ([], 10, 142) := by decide
theorem ex3 : callL exH 10 16 [112, 114, 111, 98, 101, 32, 120] = ([], 0, 144) := by decide
theorem ex4 : itemsL [65, 61, 49, 59, 98, 61, 50, 59, 67, 61, 59, 68, 61, 61] = [([65], [49]), ([68], [61])] := by decide
theorem smH_ex : ∀ x ∈ exH, SmH x := by
  intro x hx
  simp only [exH, List.mem_cons, List.not_mem_nil, or_false] at hx
  rcases hx with rfl | rfl <;> exact ⟨by decide, by decide⟩
set_option maxRecDepth 100000 in
set_option maxHeartbeats 4000000 in
theorem known_any {w : World} (hmx : Max w) : Calls Tryd.prog 9 #[] w fun e w' => e = .returned (.bool true) ∧ Kp [] w w' := by
  obtain ⟨N, hN⟩ : ∃ N, w.heap.size = N := ⟨_, rfl⟩
  obtain ⟨w1, hw1⟩ : ∃ w1, w.alloc (.cells #[.string ⟨#[112, 114, 111, 98, 101, 32, 42]⟩, .string ⟨#[65, 61, 49, 59, 98, 61, 50, 59, 67, 61]⟩, .bool false, .int .i64 3, .string ⟨#[115, 108, 111, 119]⟩, .string ⟨#[]⟩, .bool false, .int .i64 50] 33) = w1 := ⟨_, rfl⟩
  have hk1 : Kp [] w w1 := by rw [← hw1]; exact (Kp.refl [] w).alloc _
  have hb1 : w1.heap[N]? = some (.cells #[.string ⟨#[112, 114, 111, 98, 101, 32, 42]⟩, .string ⟨#[65, 61, 49, 59, 98, 61, 50, 59, 67, 61]⟩, .bool false, .int .i64 3, .string ⟨#[115, 108, 111, 119]⟩, .string ⟨#[]⟩, .bool false, .int .i64 50] 33) := by rw [← hw1, ← hN]; exact heap_alloc_last w _
  have hh1 : hpT.Has w1 (.slice (some ⟨N, 0, none⟩) 2 2) exH := .inr ⟨N, 0, 2, rfl, block_lt hb1, RT.row_of (r := hpT) (cur := [.string ⟨#[112, 114, 111, 98, 101, 32, 42]⟩, .string ⟨#[65, 61, 49, 59, 98, 61, 50, 59, 67, 61]⟩, .bool false, .int .i64 3, .string ⟨#[115, 108, 111, 119]⟩, .string ⟨#[]⟩, .bool false, .int .i64 50]) hb1 rfl⟩
  have H1 := Lib.hid fun W (h : Kp [] w1 W) => show Calls Tryd.prog 16 #[.slice (some ⟨N, 0, none⟩) 2 2, .int .i64 10, .int .i64 0, .string ⟨#[112, 114, 111, 98, 101, 32, 115, 100, 97]⟩] W fun e w' => e = .returned (.tuple #[.string ⟨#[65, 61, 49, 59, 98, 61, 50, 59, 67, 61]⟩, .int .i64 3, .int .i64 0]) ∧ Kp [] W w' from by
    have := call_any (l := exH) (by decide) smH_ex (limit := 10) (calls := 0) (c := [112, 114, 111, 98, 101, 32, 115, 100, 97]) (by decide) (hh1.kp0 h)
    rw [ex1] at this
    exact this
  have H2 := Lib.hid fun W (h : Kp [] w1 W) => show Calls Tryd.prog 16 #[.slice (some ⟨N, 0, none⟩) 2 2, .int .i64 10, .int .i64 0, .string ⟨#[115, 108, 111, 119]⟩] W fun e w' => e = .returned (.tuple #[.string ⟨#[]⟩, .int .i64 10, .int .i64 142]) ∧ Kp [] W w' from by
    have := call_any (l := exH) (by decide) smH_ex (limit := 10) (calls := 0) (c := [115, 108, 111, 119]) (by decide) (hh1.kp0 h)
    rw [ex2] at this
    exact this
  have H3 := Lib.hid fun W (h : Kp [] w1 W) => show Calls Tryd.prog 16 #[.slice (some ⟨N, 0, none⟩) 2 2, .int .i64 10, .int .i64 16, .string ⟨#[112, 114, 111, 98, 101, 32, 120]⟩] W fun e w' => e = .returned (.tuple #[.string ⟨#[]⟩, .int .i64 0, .int .i64 144]) ∧ Kp [] W w' from by
    have := call_any (l := exH) (by decide) smH_ex (limit := 10) (calls := 16) (c := [112, 114, 111, 98, 101, 32, 120]) (by decide) (hh1.kp0 h)
    rw [ex3] at this
    exact this
  have H4 := Lib.hid fun W (h : Kp [] w1 W) => show Calls Tryd.prog 19 #[.string ⟨#[65, 61, 49, 59, 98, 61, 50, 59, 67, 61, 59, 68, 61, 61]⟩] W fun e w' => ∃ g cap, e = .returned (.slice (some ⟨g, 0, none⟩) 2 cap) ∧ w'.cell? ⟨g, 2, none⟩ = some (.string ⟨#[68]⟩) ∧ w'.cell? ⟨g, 3, none⟩ = some (.string ⟨#[61]⟩) ∧ Kp [] W w' from by
    refine (items_any (s := [65, 61, 49, 59, 98, 61, 50, 59, 67, 61, 59, 68, 61, 61]) (by decide) ((hmx.kp hk1 (by simp)).kp h (by simp))).mono ?_
    rintro e w' ⟨v, he, hown, hk⟩
    rw [ex4] at hown
    rcases hown.form2 with ⟨_, h0⟩ | ⟨g, cap, rfl, _, _, _, _, hr⟩
    · cases h0
    · obtain ⟨d0, d1⟩ := atRow hr (j := 1) rfl
      exact ⟨g, cap, he, d0, d1, hk⟩
  have HK1 := Lib.hid hk1
  clear hk1 hb1 hh1 hmx
  go_enter Tryd.func9, Tryd.ntmps9
  go_wp2_with (first
    | (go_at_call 19; refine Calls.mono (by with_reducible exact H4.out _ HA3.out) ?_; rintro e a4 ⟨g, cap, rfl, d0, d1, hk⟩; have HA4 := Lib.hid (HA3.out.trans hk); clear hk)
    | (go_at_call 16; refine Calls.mono (by with_reducible exact H3.out _ HA2.out) ?_; rintro e a3 ⟨rfl, hk⟩; have HA3 := Lib.hid (HA2.out.trans hk); clear hk)
    | (go_at_call 16; refine Calls.mono (by with_reducible exact H2.out _ HA1.out) ?_; rintro e a2 ⟨rfl, hk⟩; have HA2 := Lib.hid (HA1.out.trans hk); clear hk)
    | (go_at_call 16; refine Calls.mono (by with_reducible exact H1.out _ (Kp.refl _ _)) ?_; rintro e a1 ⟨rfl, hk⟩; have HA1 := Lib.hid hk; clear hk))
  go_ret
  exact ⟨rfl, HK1.out.trans HA4.out⟩
end Go.Proofs.YteiphphihclnfaaDoor
