/- The example of the chapter. -/
import Derived.Test.YtljkljnfbcmjdaaGreatDoorKMi
open Go.Lib renaming hid → qH
open Go.Calls renaming mono → cM
namespace Go.Proofs.YtljkljnfbcmjdaaGreatDoor
open Go.RowKit
def kD1 : De.ADev := ⟨1, 0, ⟨#[117, 115, 98, 48]⟩, ⟨#[117, 115, 98, 48]⟩, ⟨#[117, 115, 98]⟩, ⟨#[]⟩, ⟨#[]⟩, 1, 0, []⟩
def kD2 : De.ADev := ⟨2, 1, ⟨#[115, 100, 97]⟩, ⟨#[115, 100, 97]⟩, ⟨#[98, 108, 111, 99, 107]⟩, ⟨#[]⟩, ⟨#[]⟩, 2, 8, [(⟨#[115, 105, 122, 101]⟩, ⟨#[53]⟩)]⟩
def kL (s : Nat) : List De.DV := [(kD1, .slice none 0 0), (kD2, .slice (some ⟨s, 0, none⟩) 1 1)]
def kT0 : Tm := ⟨9, [], 1, [117, 115, 98]⟩
def kT1 : Tm := ⟨8, [], 1, [115, 100, 42]⟩
def kT5 : Tm := ⟨5, [115, 105, 122, 101], 1, [91, 48, 45, 57, 93]⟩
def kT7 : Tm := ⟨7, [], 2, [120, 42]⟩
def kTags : List (List UInt8) := [[97], [120, 49]]
theorem k_anc1 (s : Nat) : ancE [kT0] (kL s) 2 = (1, true) := by
 have h : wayA (kL s) 2 = some [kD2, kD1] := rfl
 unfold ancE
 rw [h]
 decide +kernel
theorem k_anc2 (s : Nat) : ancE [kT0, kT1] (kL s) 2 = (0, false) := by
 have h : wayA (kL s) 2 = some [kD2, kD1] := rfl
 unfold ancE
 rw [h]
 decide +kernel
theorem k_dev : devA kT5 kD2 = true := by decide +kernel
theorem k_dra : (drB kT7 && hB kT7 kTags) = false := by decide +kernel
theorem k_sm1 : SmA kD1 := ⟨by decide, by decide, by decide, by decide, by decide⟩
theorem k_sm2 : SmA kD2 := ⟨by decide, by decide, by decide, by decide, by decide⟩
theorem k_wf : ∀ a ∈ [kD1, kD2], (Lit.int .i64 a.idx).wf = true ∧ (Lit.int .i64 a.par).wf = true := by decide
theorem k_mem {s : Nat} {x : De.DV} (hx : x ∈ kL s) : x.1 ∈ [kD1, kD2] := by
 have : x.1 ∈ (kL s).map (·.1) := List.mem_map_of_mem hx
 exact this
theorem k_ok (s : Nat) : TrOk (kL s) := by
 refine ⟨by show 2 ≤ 1000000; omega, fun x hx => ?_, fun x hx => (k_wf _ (k_mem hx)).1, fun x hx => (k_wf _ (k_mem hx)).2⟩
 have := k_mem hx
 simp only [List.mem_cons, List.not_mem_nil, or_false] at this
 rcases this with h | h
 ·rw [h]
  exact k_sm1
 ·rw [h]
  exact k_sm2
theorem k_tags : SmV kTags := fun x hx => by
 simp only [kTags, List.mem_cons, List.not_mem_nil, or_false] at hx
 rcases hx with rfl | rfl <;> decide
theorem own_tm1 (W : World) (b : Nat) (hb : W.heap.size = b) : tmT.Has (W.alloc (.cells #[.int .i64 9, .string ⟨#[]⟩, .int .i64 1, .string ⟨#[117, 115, 98]⟩] 46)) (.slice (some ⟨b, 0, none⟩) 1 1) [kT0] := by
 subst hb
 exact .inr ⟨W.heap.size, 0, 1, rfl, by simp, RT.row_of (cur := (#[.int .i64 9, .string ⟨#[]⟩, .int .i64 1, .string ⟨#[117, 115, 98]⟩] : Array Value).toList) (heap_alloc_last W _) rfl⟩
theorem own_tm2 (W : World) (b : Nat) (hb : W.heap.size = b) : tmT.Has (W.alloc (.cells #[.int .i64 9, .string ⟨#[]⟩, .int .i64 1, .string ⟨#[117, 115, 98]⟩, .int .i64 8, .string ⟨#[]⟩, .int .i64 1, .string ⟨#[115, 100, 42]⟩] 46)) (.slice (some ⟨b, 0, none⟩) 2 2) [kT0, kT1] := by
 subst hb
 exact .inr ⟨W.heap.size, 0, 2, rfl, by simp, RT.row_of (cur := (#[.int .i64 9, .string ⟨#[]⟩, .int .i64 1, .string ⟨#[117, 115, 98]⟩, .int .i64 8, .string ⟨#[]⟩, .int .i64 1, .string ⟨#[115, 100, 42]⟩] : Array Value).toList) (heap_alloc_last W _) rfl⟩
theorem own_tg (W : World) (b : Nat) (hb : W.heap.size = b) : stT.Has (W.alloc (.cells #[.string ⟨#[97]⟩, .string ⟨#[120, 49]⟩] 9)) (.slice (some ⟨b, 0, none⟩) 2 2) kTags := by
 subst hb
 exact .inr ⟨W.heap.size, 0, 2, rfl, by simp, RT.row_of (cur := (#[.string ⟨#[97]⟩, .string ⟨#[120, 49]⟩] : Array Value).toList) (heap_alloc_last W _) rfl⟩
def kDra (b : Nat) : Dra := ⟨⟨none, 0, 0⟩, ⟨some ⟨b, 0, none⟩, 2, 2⟩, ⟨none, 0, 0⟩, ⟨none, 0, 0⟩, ⟨none, 0, 0⟩, ⟨#[]⟩, 0, ⟨#[]⟩, ⟨#[]⟩, 0, ⟨#[]⟩, 0, 0, ⟨none, 0, 0⟩⟩
set_option maxRecDepth 100000 in
set_option maxHeartbeats 8000000 in
theorem known_any (w : World) : Calls Tryz.prog 5 #[] w fun e w' => e = .returned (.bool true) ∧ Kp [] w w' := by
 go_enter Tryz.func5, Tryz.ntmps5
 go_upto_region 3 with fail
 obtain ⟨s, hs⟩ : ∃ s, w.heap.size = s := ⟨_, rfl⟩
 rw [hs]
 generalize hw1 : w.alloc (.cells #[.string ⟨#[115, 105, 122, 101]⟩, .string ⟨#[53]⟩] 50) = w1
 generalize hw2 : w1.alloc (.cells #[.int .i64 1, .int .i64 0, .string ⟨#[117, 115, 98, 48]⟩, .string ⟨#[117, 115, 98, 48]⟩, .string ⟨#[117, 115, 98]⟩, .string ⟨#[]⟩, .string ⟨#[]⟩, .int .i64 1, .int .i64 0, .slice none 0 0, .int .i64 2, .int .i64 1, .string ⟨#[115, 100, 97]⟩, .string ⟨#[115, 100, 97]⟩, .string ⟨#[98, 108, 111, 99, 107]⟩, .string ⟨#[]⟩, .string ⟨#[]⟩, .int .i64 2, .int .i64 8, .slice (some ⟨s, 0, none⟩) 1 1] 40) = w2
 generalize hw3 : w2.alloc (.cells #[.slice (some ⟨s + 1, 0, none⟩) 2 2] 30) = w3
 generalize hw4 : w3.alloc (.cells #[.int .i64 9, .string ⟨#[]⟩, .int .i64 1, .string ⟨#[117, 115, 98]⟩] 46) = w4
 have z1 : w1.heap.size = s + 1 := by rw [← hw1]; simp [hs]
 have z2 : w2.heap.size = s + 1 + 1 := by rw [← hw2]; simp [z1]
 have z3 : w3.heap.size = s + 1 + 1 + 1 := by rw [← hw3]; simp [z2]
 have z4 : w4.heap.size = s + 1 + 1 + 1 + 1 := by rw [← hw4]; simp [z3]
 have k1 : Kp [] w w1 := by rw [← hw1]; exact (Kp.refl [] _).alloc _
 have k2 : Kp [] w1 w2 := by rw [← hw2]; exact (Kp.refl [] _).alloc _
 have k3 : Kp [] w2 w3 := by rw [← hw3]; exact (Kp.refl [] _).alloc _
 have k4 : Kp [] w3 w4 := by rw [← hw4]; exact (Kp.refl [] _).alloc _
 have hA1 : w1.heap[s]? = some (.cells #[.string ⟨#[115, 105, 122, 101]⟩, .string ⟨#[53]⟩] 50 (0, 0)) := by rw [← hw1, ← hs]; exact heap_alloc_last w _
 have hD2 : w2.heap[s + 1]? = some (.cells #[.int .i64 1, .int .i64 0, .string ⟨#[117, 115, 98, 48]⟩, .string ⟨#[117, 115, 98, 48]⟩, .string ⟨#[117, 115, 98]⟩, .string ⟨#[]⟩, .string ⟨#[]⟩, .int .i64 1, .int .i64 0, .slice none 0 0, .int .i64 2, .int .i64 1, .string ⟨#[115, 100, 97]⟩, .string ⟨#[115, 100, 97]⟩, .string ⟨#[98, 108, 111, 99, 107]⟩, .string ⟨#[]⟩, .string ⟨#[]⟩, .int .i64 2, .int .i64 8, .slice (some ⟨s, 0, none⟩) 1 1] 40 (0, 0)) := by rw [← hw2, ← z1]; exact heap_alloc_last w1 _
 have hT3 : w3.heap[s + 1 + 1]? = some (.cells #[.slice (some ⟨s + 1, 0, none⟩) 2 2] 30 (0, 0)) := by rw [← hw3, ← z2]; exact heap_alloc_last w2 _
 have hU4 : MAt w4 (s + 1 + 1 + 1) kT0 := by rw [← hw4, ← z3]; exact heap_alloc_last w3 _
 have hA4 : w4.heap[s]? = some (.cells #[.string ⟨#[115, 105, 122, 101]⟩, .string ⟨#[53]⟩] 50 (0, 0)) := ((k2.trans (k3.trans k4)).block _ (block_lt hA1) (by simp)).trans hA1
 have hD4 : w4.heap[s + 1]? = some (.cells #[.int .i64 1, .int .i64 0, .string ⟨#[117, 115, 98, 48]⟩, .string ⟨#[117, 115, 98, 48]⟩, .string ⟨#[117, 115, 98]⟩, .string ⟨#[]⟩, .string ⟨#[]⟩, .int .i64 1, .int .i64 0, .slice none 0 0, .int .i64 2, .int .i64 1, .string ⟨#[115, 100, 97]⟩, .string ⟨#[115, 100, 97]⟩, .string ⟨#[98, 108, 111, 99, 107]⟩, .string ⟨#[]⟩, .string ⟨#[]⟩, .int .i64 2, .int .i64 8, .slice (some ⟨s, 0, none⟩) 1 1] 40 (0, 0)) := ((k3.trans k4).block _ (block_lt hD2) (by simp)).trans hD2
 have hT4 : w4.heap[s + 1 + 1]? = some (.cells #[.slice (some ⟨s + 1, 0, none⟩) 2 2] 30 (0, 0)) := (k4.block _ (block_lt hT3) (by simp)).trans hT3
 have HK4 := qH (k1.trans (k2.trans (k3.trans k4)))
 have hAt : ∀ x ∈ kL s, De.Has w4 x.2 x.1.ats := fun x hx => by
  simp only [kL, List.mem_cons, List.not_mem_nil, or_false] at hx
  rcases hx with rfl | rfl
  ·exact .inl ⟨none, 0, rfl, rfl⟩
  ·refine .inr ⟨s, 0, 1, rfl, block_lt hA4, fun j x hj => ?_⟩
   cases j with
   | zero =>
    cases hj
    exact ⟨by rw [cell_of_row _ _ _ _ _ _ hA4]; rfl, by rw [cell_of_row _ _ _ _ _ _ hA4]; rfl⟩
   | succ j => simp [kD2] at hj
 have hDH : De.DHas w4 (.slice (some ⟨s + 1, 0, none⟩) (kL s).length 2) (kL s) :=
  De.DOwn.has (B := s + 1) ⟨⟨rfl, .inr ⟨s + 1, 2, _, rfl, Nat.le_refl _, hD4, Nat.le_refl _, by unfold maxLen; omega, rfl, rfl⟩⟩, hAt⟩
 have HC1 := qH (fun W b (hk : Kp [] w4 W) (ht : tmT.Has W (.slice (some ⟨b, 0, none⟩) 1 1) [kT0]) => (show Calls Tryz.prog 9 #[.slice (some ⟨b, 0, none⟩) 1 1, .agg #[.slice (some ⟨s + 1, 0, none⟩) 2 2], .int .i64 2] W fun e w' => e = .returned (.tuple #[.int .i64 1, .bool true]) ∧ Kp [] W w' from by
  have := ancestor_some [kT0] (some ⟨b, 0, none⟩) 1 (kL s) (some ⟨s + 1, 0, none⟩) 2 2 W (by simp) (fun t h => by rw [List.mem_singleton.1 h]; decide) ht (k_ok s) (hDH.below hk.bel) (Nat.le_refl _) (by decide) kD2 (.slice (some ⟨s, 0, none⟩) 1 1) rfl
  rw [k_anc1] at this
  exact this))
 have HC2 := qH (fun W b (hk : Kp [] w4 W) (ht : tmT.Has W (.slice (some ⟨b, 0, none⟩) 2 2) [kT0, kT1]) => (show Calls Tryz.prog 9 #[.slice (some ⟨b, 0, none⟩) 2 2, .agg #[.slice (some ⟨s + 1, 0, none⟩) 2 2], .int .i64 2] W fun e w' => e = .returned (.tuple #[.int .i64 0, .bool false]) ∧ Kp [] W w' from by
  have := ancestor_some [kT0, kT1] (some ⟨b, 0, none⟩) 2 (kL s) (some ⟨s + 1, 0, none⟩) 2 2 W (by simp) (fun t h => by rcases List.mem_cons.1 h with rfl | h; decide; rw [List.mem_singleton.1 h]; decide) ht (k_ok s) (hDH.below hk.bel) (Nat.le_refl _) (by decide) kD2 (.slice (some ⟨s, 0, none⟩) 1 1) rfl
  rw [k_anc2] at this
  exact this))
 have HC3 := qH (fun W (hk : Kp [] w4 W) => (show Calls Tryz.prog 14 #[.agg #[.int .i64 5, .string ⟨#[115, 105, 122, 101]⟩, .int .i64 1, .string ⟨#[91, 48, 45, 57, 93]⟩], .agg #[.int .i64 2, .int .i64 1, .string ⟨#[115, 100, 97]⟩, .string ⟨#[115, 100, 97]⟩, .string ⟨#[98, 108, 111, 99, 107]⟩, .string ⟨#[]⟩, .string ⟨#[]⟩, .int .i64 2, .int .i64 8, .slice (some ⟨s, 0, none⟩) 1 1]] W fun e w' => e = .returned (.bool true) ∧ Kp [] W w' from by
  have := device_any kT5 (De.devOf kD2 (.slice (some ⟨s, 0, none⟩) 1 1)) kD2.ats W (by decide) (k_sm2.d' _) (by decide) ((hAt _ (.tail _ (.head _))).below hk.bel)
  rw [devA_eq, k_dev] at this
  exact this))
 have HC4 := qH (fun W b (ht : stT.Has W (.slice (some ⟨b, 0, none⟩) 2 2) kTags) => (show Calls Tryz.prog 15 #[.agg #[.int .i64 7, .string ⟨#[]⟩, .int .i64 2, .string ⟨#[120, 42]⟩], .string ⟨#[97, 100, 100]⟩, .agg #[.slice none 0 0, .slice (some ⟨b, 0, none⟩) 2 2, .slice none 0 0, .slice none 0 0, .slice none 0 0, .string ⟨#[]⟩, .int .i64 0, .string ⟨#[]⟩, .string ⟨#[]⟩, .int .i64 0, .string ⟨#[]⟩, .int .i64 0, .int .i64 0, .slice none 0 0]] W fun e w' => e = .returned (.bool false) ∧ Kp [] W w' from by
  have := draft_any kT7 ⟨#[97, 100, 100]⟩ (kDra b) [] kTags W (by decide) ⟨by decide, by show (⟨#[]⟩ : ByteArray).size ≤ _; decide, fun _ h => (by cases h), by decide, k_tags, by decide⟩ ⟨.inl ⟨none, 0, rfl, rfl⟩, ht⟩
  rw [show draftB kT7 ⟨#[97, 100, 100]⟩ (kDra b) [] kTags = false from k_dra] at this
  exact this))
 have c0 : w4.cell? ⟨s + 1 + 1, 0, none⟩ = some (.slice (some ⟨s + 1, 0, none⟩) 2 2) := by rw [cell_of_row _ _ _ _ _ _ hT4]; rfl
 have HU := qH (fun W (hk : Kp [] w4 W) => (show (W.cell? ⟨s + 1 + 1 + 1, 0, none⟩ = some (.int .i64 9) ∧ W.cell? ⟨s + 1 + 1 + 1, 1, none⟩ = some (.string ⟨#[]⟩) ∧ W.cell? ⟨s + 1 + 1 + 1, 2, none⟩ = some (.int .i64 1) ∧ W.cell? ⟨s + 1 + 1 + 1, 3, none⟩ = some (.string ⟨#[117, 115, 98]⟩)) ∧ W.cell? ⟨s + 1 + 1, 0, none⟩ = some (.slice (some ⟨s + 1, 0, none⟩) 2 2) from ⟨(hU4.kp0 hk).cells, cell_kp hk c0⟩))
 obtain ⟨⟨u0, u1, u2, u3⟩, -⟩ := HU.out _ (Kp.refl [] w4)
 have HRow := qH (fun W (hk : Kp [] w4 W) => (show W.rangeAt (s + 1) 10 [.int .i64 2, .int .i64 1, .string ⟨#[115, 100, 97]⟩, .string ⟨#[115, 100, 97]⟩, .string ⟨#[98, 108, 111, 99, 107]⟩, .string ⟨#[]⟩, .string ⟨#[]⟩, .int .i64 2, .int .i64 8, .slice (some ⟨s, 0, none⟩) 1 1] from fun m v hm => by
  rw [cell_of_row _ _ _ _ _ _ ((hk.block _ (block_lt hD4) (by simp)).trans hD4), ← hm, List.getElem?_toArray.symm]
  have hm10 : m < 10 := (List.getElem?_eq_some_iff.1 hm).1
  have hc : m = 0 ∨ m = 1 ∨ m = 2 ∨ m = 3 ∨ m = 4 ∨ m = 5 ∨ m = 6 ∨ m = 7 ∨ m = 8 ∨ m = 9 := by omega
  rcases hc with rfl | rfl | rfl | rfl | rfl | rfl | rfl | rfl | rfl | rfl <;> rfl))
 have HI1 := qH (show (Tryz.prog.info? 40).map (·.size) = some ([.int .i64 2, .int .i64 1, .string ⟨#[115, 100, 97]⟩, .string ⟨#[115, 100, 97]⟩, .string ⟨#[98, 108, 111, 99, 107]⟩, .string ⟨#[]⟩, .string ⟨#[]⟩, .int .i64 2, .int .i64 8, .slice (some ⟨s, 0, none⟩) 1 1] : List Value).length from De.info34b)
 have HZ4 := qH z4
 have hOT := qH (show tmT.Has (w4.alloc (.cells #[.int .i64 9, .string ⟨#[]⟩, .int .i64 1, .string ⟨#[117, 115, 98]⟩] 46)) (.slice (some ⟨s + 1 + 1 + 1 + 1, 0, none⟩) 1 1) [kT0] from own_tm1 w4 _ z4)
 clear hw1 hw2 hw3 hw4 z1 z2 z3 k1 k2 k3 k4 hA1 hD2 hT3 hA4 hD4 hT4 hAt hDH hU4
 go_upto_region 4 with (go_at_call 9; refine cM (by with_reducible exact HC1.out _ _ ((Kp.refl [] w4).alloc _) hOT.out) ?_; rintro e w5 ⟨rfl, hk5⟩; have HK5 := qH (((Kp.refl [] w4).alloc _).trans hk5); clear hk5)
 have hz5 := HK5.out.size
 have hlt5 : s + 1 + 1 < w5.heap.size := by rw [z4] at hz5; omega
 obtain ⟨⟨u0, u1, u2, u3⟩, c0⟩ := HU.out _ HK5.out
 obtain ⟨q5, hq5⟩ : ∃ q, w5.heap.size = q := ⟨_, rfl⟩
 rw [hq5] at hz5 hlt5
 have hne5 : ¬ (s + 1 + 1 = q5) := by omega
 have hne5' : ¬ (q5 = s + 1 + 1) := by omega
 have HOT2 := qH (show tmT.Has (w5.alloc (.cells #[.int .i64 9, .string ⟨#[]⟩, .int .i64 1, .string ⟨#[117, 115, 98]⟩, .int .i64 8, .string ⟨#[]⟩, .int .i64 1, .string ⟨#[115, 100, 42]⟩] 46)) (.slice (some ⟨q5, 0, none⟩) 2 2) [kT0, kT1] from own_tm2 w5 _ hq5)
 have HKA := qH (HK5.out.trans ((Kp.refl [] w5).alloc (.cells #[.int .i64 9, .string ⟨#[]⟩, .int .i64 1, .string ⟨#[117, 115, 98]⟩, .int .i64 8, .string ⟨#[]⟩, .int .i64 1, .string ⟨#[115, 100, 42]⟩] 46)))
 have HQ5 := qH hq5
 clear hOT hz5
 go_upto_region 5 with (go_at_call 9; refine cM (by with_reducible exact HC2.out _ _ HKA.out HOT2.out) ?_; rintro e w6 ⟨rfl, hk6⟩; have HK6 := qH (HKA.out.trans hk6); clear hk6)
 obtain ⟨-, c0⟩ := HU.out _ HK6.out
 have HR6 := qH (HRow.out _ HK6.out)
 have HC3' := qH (HC3.out _ HK6.out)
 clear hq5
 go_wp2_with (first
  | (refine wpList_load_mid rfl 40 _ rfl (s + 1) 10 rfl [.int .i64 2, .int .i64 1, .string ⟨#[115, 100, 97]⟩, .string ⟨#[115, 100, 97]⟩, .string ⟨#[98, 108, 111, 99, 107]⟩, .string ⟨#[]⟩, .string ⟨#[]⟩, .int .i64 2, .int .i64 8, .slice (some ⟨s, 0, none⟩) 1 1] _ (by with_reducible exact HR6.out) Tryz.underlying40 rfl HI1.out ?_)
  | (go_at_call 14; refine cM (by with_reducible exact HC3'.out) ?_; rintro e w7 ⟨rfl, hk7⟩; have HK7 := qH (HK6.out.trans hk7); obtain ⟨q7, hq7⟩ : ∃ q, w7.heap.size = q := ⟨_, rfl⟩; have HT7 := qH (own_tg w7 q7 hq7); have HK7' := qH (HK7.out.trans ((Kp.refl [] w7).alloc (.cells #[.string ⟨#[97]⟩, .string ⟨#[120, 49]⟩] 9))); clear hk7)
  | (go_at_call 15; refine cM (by with_reducible exact HC4.out _ _ HT7.out) ?_; rintro e w8 ⟨rfl, hk8⟩; have HK8 := qH (HK7'.out.trans hk8); clear hk8))
 go_ret
 exact ⟨rfl, HK4.out.trans HK8.out⟩
end Go.Proofs.YtljkljnfbcmjdaaGreatDoor
