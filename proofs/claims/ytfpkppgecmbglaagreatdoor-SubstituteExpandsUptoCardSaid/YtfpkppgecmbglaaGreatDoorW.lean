/- The sanity check 'known'. -/
import Derived.Test.YtfpkppgecmbglaaGreatDoorV
namespace Go.Proofs.YtfpkppgecmbglaaGreatDoor
open Go.RowKit

/-- Values lie in a block. -/
def Hold (W : World) (V : Nat) (v : Vs) (a b c : Value) : Prop := Env W ∧ VsIn W v a b c ∧ W.heap[V]? = some (.cells (vsC v a b c) 43 (0, 0))
theorem Hold.kp0 {W W' : World} {V : Nat} {v : Vs} {a b c : Value} (h : Hold W V v a b c) (hk : Kp [] W W') : Hold W' V v a b c :=
  ⟨h.1.kp0 hk, h.2.1.kp0 hk, (hk.block V (block_lt h.2.2) (by simp)).trans h.2.2⟩
theorem Hold.cells {W : World} {V : Nat} {v : Vs} {a b c : Value} (h : Hold W V v a b c) : W.cell? ⟨V, 0, none⟩ = some (.string (bs v.kernel)) ∧ W.cell? ⟨V, 1, none⟩ = some (.string (bs v.devpath)) ∧ W.cell? ⟨V, 2, none⟩ = some (.string (bs v.id)) ∧ W.cell? ⟨V, 3, none⟩ = some (.string (bs v.driver)) ∧ W.cell? ⟨V, 4, none⟩ = some (.string (bs v.parent)) ∧ W.cell? ⟨V, 5, none⟩ = some (.string (bs v.name)) ∧ W.cell? ⟨V, 6, none⟩ = some (.string (bs v.result)) ∧ W.cell? ⟨V, 7, none⟩ = some a ∧ W.cell? ⟨V, 8, none⟩ = some b ∧ W.cell? ⟨V, 9, none⟩ = some c := by
  refine ⟨?_, ?_, ?_, ?_, ?_, ?_, ?_, ?_, ?_, ?_⟩ <;> (rw [cell_of_row _ _ _ _ _ _ h.2.2]; rfl)
theorem Hold.call {W : World} {V : Nat} {v : Vs} {a b c : Value} (h : Hold W V v a b c) (s x : List UInt8) (z : Int) (hs : s.length ≤ 1000000000000) (he : expandE s v = (x, z)) :
    Calls Tryz.prog 21 #[.string (bs s), .agg (vsC v a b c)] W fun e w' => e = .returned (.tuple #[.string (bs x), .int .i64 z]) ∧ Kp [] W w' :=
  (expand_any h.1 s hs v a b c (.inl h.2.1)).mono fun _ _ ⟨h1, h2⟩ => ⟨by rw [h1, he], h2⟩

def kv : Vs := ⟨[115, 100, 97, 49, 50], [], [], [], [], [], [97, 32, 32, 98, 32, 99], [], [], [([73, 68], [55])]⟩
def kt1 : List UInt8 := [100, 105, 115, 107, 47, 36, 107, 101, 114, 110, 101, 108, 45, 37, 110]
def kt2 : List UInt8 := [36, 101, 110, 118, 123, 73, 68, 125, 36, 101, 110, 118, 123, 78, 79, 125, 37, 37, 120]
def kt3 : List UInt8 := [36, 114, 101, 115, 117, 108, 116, 123, 50, 125, 44, 32, 37, 99, 123, 50, 43, 125, 44, 32, 36, 114, 101, 115, 117, 108, 116, 123, 57, 125]
def kt4 : List UInt8 := [36, 107, 101, 114, 110, 101, 108, 115]
theorem kx1 : expandE kt1 kv = ([100, 105, 115, 107, 47, 115, 100, 97, 49, 50, 45, 49, 50], 0) := by decide +kernel
theorem kx2 : expandE kt2 kv = ([55, 37, 120], 0) := by decide +kernel
theorem kx3 : expandE kt3 kv = ([98, 44, 32, 98, 32, 99, 44, 32], 0) := by decide +kernel
theorem kx4 : (parseE kt4).2 = 90 := by decide +kernel
theorem kin {W : World} {A : Nat} (h : W.heap[A]? = some (.cells #[.string (bs [73, 68]), .string (bs [55])] 56 (0, 0))) : VsIn W kv (.slice none 0 0) (.slice none 0 0) (.slice (some ⟨A, 0, none⟩) 1 1) := by
  refine ⟨.inl ⟨_, _, rfl, rfl⟩, .inl ⟨_, _, rfl, rfl⟩, .inr ⟨A, 0, 1, rfl, block_lt h, ?_⟩, by decide, by decide, by decide, by decide, by decide⟩
  exact RT.row_of (r := atT) (cur := [.string (bs [73, 68]), .string (bs [55])]) h rfl
set_option maxHeartbeats 4000000 in
set_option maxRecDepth 100000 in
theorem known_any {w : World} (hE : Env w) : Calls Tryz.prog 11 #[] w fun e w' => e = .returned (.bool true) ∧ Kp [] w w' := by
  obtain ⟨A, hA⟩ : ∃ A, w.heap.size = A := ⟨_, rfl⟩
  obtain ⟨W, hW⟩ : ∃ W, (w.alloc (.cells #[.string ⟨#[73, 68]⟩, .string ⟨#[55]⟩] 56)).alloc (.cells #[.string ⟨#[115, 100, 97, 49, 50]⟩, .string ⟨#[]⟩, .string ⟨#[]⟩, .string ⟨#[]⟩, .string ⟨#[]⟩, .string ⟨#[]⟩, .string ⟨#[97, 32, 32, 98, 32, 99]⟩, .slice none 0 0, .slice none 0 0, .slice (some ⟨A, 0, none⟩) 1 1] 43) = W := ⟨_, rfl⟩
  have hk : Kp [] w W := by rw [← hW]; exact ((Kp.refl [] w).alloc _).alloc _
  have hAb : W.heap[A]? = some (.cells #[.string (bs [73, 68]), .string (bs [55])] 56 (0, 0)) := by
    have h1 := heap_alloc_last w (.cells #[.string (bs [73, 68]), .string (bs [55])] 56)
    have h2 : Kp [] (w.alloc (.cells #[.string ⟨#[73, 68]⟩, .string ⟨#[55]⟩] 56)) W := by rw [← hW]; exact (Kp.refl [] _).alloc _
    have h3 := h2.block A (by rw [World.size_alloc]; omega) (by simp)
    rw [h3, ← hA]
    exact h1
  have hV : W.heap[A + 1]? = some (.cells (vsC kv (.slice none 0 0) (.slice none 0 0) (.slice (some ⟨A, 0, none⟩) 1 1)) 43 (0, 0)) := by
    have h1 := heap_alloc_last (w.alloc (.cells #[.string ⟨#[73, 68]⟩, .string ⟨#[55]⟩] 56)) (.cells #[.string ⟨#[115, 100, 97, 49, 50]⟩, .string ⟨#[]⟩, .string ⟨#[]⟩, .string ⟨#[]⟩, .string ⟨#[]⟩, .string ⟨#[]⟩, .string ⟨#[97, 32, 32, 98, 32, 99]⟩, .slice none 0 0, .slice none 0 0, .slice (some ⟨A, 0, none⟩) 1 1] 43)
    rw [World.size_alloc, hW, hA] at h1
    exact h1
  have hH : Hold W (A + 1) kv (.slice none 0 0) (.slice none 0 0) (.slice (some ⟨A, 0, none⟩) 1 1) := ⟨hE.kp0 hk, kin hAb, hV⟩
  have HH := Lib.hid hH
  have HK := Lib.hid hk
  have HWW := Lib.hid hW
  have HA := Lib.hid hA
  clear hH hk hW hA hAb hV hE
  go_enter Tryz.func11, Tryz.ntmps11
  go_upto_region 2 with fail
  rw [HA.out, HWW.out]
  have HCL := Lib.hid (show ∀ W, Hold W (A + 1) kv (.slice none 0 0) (.slice none 0 0) (.slice (some ⟨A, 0, none⟩) 1 1) → W.cell? ⟨A + 1, 0, none⟩ = some (.string ⟨#[115, 100, 97, 49, 50]⟩) ∧ W.cell? ⟨A + 1, 1, none⟩ = some (.string ⟨#[]⟩) ∧ W.cell? ⟨A + 1, 2, none⟩ = some (.string ⟨#[]⟩) ∧ W.cell? ⟨A + 1, 3, none⟩ = some (.string ⟨#[]⟩) ∧ W.cell? ⟨A + 1, 4, none⟩ = some (.string ⟨#[]⟩) ∧ W.cell? ⟨A + 1, 5, none⟩ = some (.string ⟨#[]⟩) ∧ W.cell? ⟨A + 1, 6, none⟩ = some (.string ⟨#[97, 32, 32, 98, 32, 99]⟩) ∧ W.cell? ⟨A + 1, 7, none⟩ = some (.slice none 0 0) ∧ W.cell? ⟨A + 1, 8, none⟩ = some (.slice none 0 0) ∧ W.cell? ⟨A + 1, 9, none⟩ = some (.slice (some ⟨A, 0, none⟩) 1 1) from fun W h => h.cells)
  have HC1 := Lib.hid (show ∀ W, Hold W (A + 1) kv (.slice none 0 0) (.slice none 0 0) (.slice (some ⟨A, 0, none⟩) 1 1) → Calls Tryz.prog 21 #[.string ⟨#[100, 105, 115, 107, 47, 36, 107, 101, 114, 110, 101, 108, 45, 37, 110]⟩, .agg #[.string ⟨#[115, 100, 97, 49, 50]⟩, .string ⟨#[]⟩, .string ⟨#[]⟩, .string ⟨#[]⟩, .string ⟨#[]⟩, .string ⟨#[]⟩, .string ⟨#[97, 32, 32, 98, 32, 99]⟩, .slice none 0 0, .slice none 0 0, .slice (some ⟨A, 0, none⟩) 1 1]] W (fun e w' => e = .returned (.tuple #[.string ⟨#[100, 105, 115, 107, 47, 115, 100, 97, 49, 50, 45, 49, 50]⟩, .int .i64 0]) ∧ Kp [] W w') from fun W h => h.call kt1 _ _ (by decide) kx1)
  have HC2 := Lib.hid (show ∀ W, Hold W (A + 1) kv (.slice none 0 0) (.slice none 0 0) (.slice (some ⟨A, 0, none⟩) 1 1) → Calls Tryz.prog 21 #[.string ⟨#[36, 101, 110, 118, 123, 73, 68, 125, 36, 101, 110, 118, 123, 78, 79, 125, 37, 37, 120]⟩, .agg #[.string ⟨#[115, 100, 97, 49, 50]⟩, .string ⟨#[]⟩, .string ⟨#[]⟩, .string ⟨#[]⟩, .string ⟨#[]⟩, .string ⟨#[]⟩, .string ⟨#[97, 32, 32, 98, 32, 99]⟩, .slice none 0 0, .slice none 0 0, .slice (some ⟨A, 0, none⟩) 1 1]] W (fun e w' => e = .returned (.tuple #[.string ⟨#[55, 37, 120]⟩, .int .i64 0]) ∧ Kp [] W w') from fun W h => h.call kt2 _ _ (by decide) kx2)
  have HC3 := Lib.hid (show ∀ W, Hold W (A + 1) kv (.slice none 0 0) (.slice none 0 0) (.slice (some ⟨A, 0, none⟩) 1 1) → Calls Tryz.prog 21 #[.string ⟨#[36, 114, 101, 115, 117, 108, 116, 123, 50, 125, 44, 32, 37, 99, 123, 50, 43, 125, 44, 32, 36, 114, 101, 115, 117, 108, 116, 123, 57, 125]⟩, .agg #[.string ⟨#[115, 100, 97, 49, 50]⟩, .string ⟨#[]⟩, .string ⟨#[]⟩, .string ⟨#[]⟩, .string ⟨#[]⟩, .string ⟨#[]⟩, .string ⟨#[97, 32, 32, 98, 32, 99]⟩, .slice none 0 0, .slice none 0 0, .slice (some ⟨A, 0, none⟩) 1 1]] W (fun e w' => e = .returned (.tuple #[.string ⟨#[98, 44, 32, 98, 32, 99, 44, 32]⟩, .int .i64 0]) ∧ Kp [] W w') from fun W h => h.call kt3 _ _ (by decide) kx3)
  have HC4 := Lib.hid (show ∀ W, Hold W (A + 1) kv (.slice none 0 0) (.slice none 0 0) (.slice (some ⟨A, 0, none⟩) 1 1) → Calls Tryz.prog 16 #[.string ⟨#[36, 107, 101, 114, 110, 101, 108, 115]⟩] W (fun e w' => e = .returned (.int .i64 90) ∧ Kp [] W w') from fun W h => (check_any h.1 kt4 (by decide)).mono fun _ _ ⟨h1, h2⟩ => ⟨by rw [h1, kx4], h2⟩)
  obtain ⟨c0, c1, c2, c3, c4, c5, c6, c7, c8, c9⟩ := HCL.out _ HH.out
  go_upto_region 3 with (go_at_call 21; refine Calls.mono (by with_reducible exact HC1.out _ HH.out) ?_; rintro e w1 ⟨rfl, hk1⟩)
  have HH1 := Lib.hid (HH.out.kp0 hk1)
  have HK1 := Lib.hid (HK.out.trans hk1)
  clear hk1 c0 c1 c2 c3 c4 c5 c6 c7 c8 c9
  obtain ⟨c0, c1, c2, c3, c4, c5, c6, c7, c8, c9⟩ := HCL.out _ HH1.out
  go_upto_region 4 with (go_at_call 21; refine Calls.mono (by with_reducible exact HC2.out _ HH1.out) ?_; rintro e w2 ⟨rfl, hk2⟩)
  have HH2 := Lib.hid (HH1.out.kp0 hk2)
  have HK2 := Lib.hid (HK1.out.trans hk2)
  clear hk2 c0 c1 c2 c3 c4 c5 c6 c7 c8 c9
  obtain ⟨c0, c1, c2, c3, c4, c5, c6, c7, c8, c9⟩ := HCL.out _ HH2.out
  go_upto_region 5 with (go_at_call 21; refine Calls.mono (by with_reducible exact HC3.out _ HH2.out) ?_; rintro e w3 ⟨rfl, hk3⟩)
  have HH3 := Lib.hid (HH2.out.kp0 hk3)
  have HK3 := Lib.hid (HK2.out.trans hk3)
  clear hk3 c0 c1 c2 c3 c4 c5 c6 c7 c8 c9
  go_wp2_with (go_at_call 16; refine Calls.mono (by with_reducible exact HC4.out _ HH3.out) ?_; rintro e w4 ⟨rfl, hk4⟩)
  go_ret
  exact ⟨rfl, HK3.out.trans hk4⟩
end Go.Proofs.YtfpkppgecmbglaaGreatDoor
