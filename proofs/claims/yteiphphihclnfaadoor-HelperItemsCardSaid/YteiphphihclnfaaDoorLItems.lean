/- HelperItems: the walk. -/
import Derived.Test.YteiphphihclnfaaDoorHE
namespace Go.Proofs.YteiphphihclnfaaDoor
open Go.RowKit Go.Shelf
open Go.Proofs.YteiphphihclnfaaDoor.Nm
set_option maxRecDepth 100000 in
set_option maxHeartbeats 4000000 in
theorem helperItems_walk (s : ByteArray) (W : World) (hm : ∃ m : Int, W.cell? ⟨0, 0, none⟩ = some (.int .i64 m)) : Calls Tryd.prog 5 #[.string s] W fun e W' => e = .returned (.bool true) ∧ Below W.heap.size W W' := by
  have hmx : Max W := hm
  have HMX := Lib.hid fun W' (h : Kp [] W W') => hmx.kp h (by simp)
  have HKN := Lib.hid fun W' (h : Kp [] W W') => known_any (hmx.kp h (by simp))
  obtain ⟨l, rfl⟩ : ∃ l, s = bs l := ⟨s.data.toList, (bs_of s).symm⟩
  have hsz := bs_size l
  by_cases hl : l.length ≤ 600
  · have hi : ¬ (600 : Int) < ((bs l).size : Int) := by omega
    have H1 := Lib.hid fun W' (h : Kp [] W W') => items_any (s := l) (by omega) (HMX.out W' h)
    have H2 := Lib.hid fun W' (h : Kp [] W W') => refItems_any (s := l) (by omega) (HMX.out W' h)
    have hil : (itemsL l).length ≤ 1000000 := by
      have h1 := List.length_filterMap_le itemOf (pieces 59 l)
      have h2 := pieces_count 59 l
      unfold itemsL
      omega
    clear hm hmx hsz hl
    go_enter Tryd.func5, Tryd.ntmps5
    go_wp2_with (first
      | (go_at_call 9; refine Calls.mono (by with_reducible exact HKN.out _ HK3.out) ?_; rintro e w4 ⟨rfl, hk⟩; have HK4 := Lib.hid (HK3.out.trans hk); clear hk)
      | (go_at_call 18; refine Calls.mono (by with_reducible exact sameAttrs_refl hil (HO1.out.kp0 HK12.out).has HO2.out.has) ?_; rintro e w3 ⟨rfl, hk⟩; have HK3 := Lib.hid (HK2.out.trans hk); clear hk)
      | (go_at_call 20; refine Calls.mono (by with_reducible exact H2.out _ HK1.out) ?_; rintro e w2 ⟨v2, rfl, ho, hk⟩; have HO2 := Lib.hid ho; have HK12 := Lib.hid hk; have HK2 := Lib.hid (HK1.out.trans hk); clear ho hk)
      | (go_at_call 19; refine Calls.mono (by with_reducible exact H1.out _ (Kp.refl _ _)) ?_; rintro e w1 ⟨v1, rfl, ho, hk⟩; have HO1 := Lib.hid ho; have HK1 := Lib.hid hk; clear ho hk))
    go_ret
    exact ⟨rfl, HK4.out.below (Nat.le_refl _) (by simp)⟩
  · have hi : (600 : Int) < ((bs l).size : Int) := by omega
    clear hm hmx hsz hl
    go_enter Tryd.func5, Tryd.ntmps5
    go_wp2_with (go_at_call 9; refine Calls.mono (by with_reducible exact HKN.out _ (Kp.refl _ _)) ?_; rintro e w4 ⟨rfl, hk⟩; have HK4 := Lib.hid hk; clear hk)
    go_ret
    exact ⟨rfl, HK4.out.below (Nat.le_refl _) (by simp)⟩
end Go.Proofs.YteiphphihclnfaaDoor
