/- HelperBounds: the walk. -/
import Derived.Test.YteiphphihclnfaaDoorHF
namespace Go.Proofs.YteiphphihclnfaaDoor
open Go.RowKit Go.Shelf
open Go.Proofs.YteiphphihclnfaaDoor.Nm
/-- What the law asks of an answer. -/
def boundP (lim calls : Int) (R : List UInt8 × Int × Int) : Prop := (calls < 16 ∧ 0 ≤ R.2.1 ∧ R.2.1 ≤ lim ∧ R.2.2 = 0) ∨ (calls < 16 ∧ 0 ≤ R.2.1 ∧ R.2.1 ≤ lim ∧ (bs R.1).toList = [] ∧ R.2.2 ≠ 0) ∨ (16 ≤ calls ∧ 0 ≤ lim ∧ (bs R.1).toList = [] ∧ R.2.1 = 0 ∧ R.2.2 = 144)
theorem callL_bound {L : List Hp} (hL : DrawnH L) {lim calls : Int} (h1 : 1 ≤ lim) (c : List UInt8) : boundP lim calls (callL L lim calls c) := by
  have he : (bs []).toList = [] := toL []
  by_cases h : 16 ≤ calls
  · rw [callL_calls h]
    exact .inr (.inr ⟨h, by omega, he, rfl, rfl⟩)
  · have hc : calls < 16 := by omega
    cases hf : firstH c L with
    | none =>
      rw [callL_none h hf]
      exact .inr (.inl ⟨hc, by decide, by show (0 : Int) ≤ lim; omega, he, by decide⟩)
    | some x =>
      have hx := hL.2 x (List.mem_of_find?_eq_some hf)
      by_cases h2 : lim < x.ticks
      · rw [callL_slow h hf h2]
        exact .inr (.inl ⟨hc, by show (0 : Int) ≤ lim; omega, by show lim ≤ lim; omega, he, by show (142 : Int) ≠ 0; decide⟩)
      · have h3 : x.ticks ≤ lim := by omega
        cases h4 : x.fails with
        | true =>
          rw [callL_fails h hf h2 h4]
          exact .inr (.inl ⟨hc, hx.2.1, h3, he, by show (141 : Int) ≠ 0; decide⟩)
        | false =>
          rw [callL_ok h hf h2 h4]
          exact .inl ⟨hc, hx.2.1, h3, rfl⟩
theorem DrawnH.sm {L : List Hp} (h : DrawnH L) : ∀ x ∈ L, SmH x := fun x hx => (h.2 x hx).1
theorem tp_new {W : World} {a : Option Addr} {n c : Nat} (hg : Ints W W.heap.size (.slice a n c)) : Tp (W.alloc (.cells #[.slice a n c, .int .i64 0] 27)) W.heap.size 0 :=
  ⟨_, heap_alloc_last W _, hg.keep fun _ hb => heap_alloc_old _ _ hb⟩
set_option maxRecDepth 100000 in
set_option maxHeartbeats 8000000 in
theorem helperBounds_walk (a : Option Addr) (n c : Nat) (calls : Int) (W : World) (hm : ∃ m : Int, W.cell? ⟨0, 0, none⟩ = some (.int .i64 m)) (hg : Ints W W.heap.size (.slice a n c)) : Calls Tryd.prog 6 #[.slice a n c, .int .i64 calls] W fun e W' => e = .returned (.bool true) ∧ Below W.heap.size W W' := by
  have hmx : Max W := hm
  obtain ⟨T, hT⟩ : ∃ T, W.heap.size = T := ⟨_, rfl⟩
  obtain ⟨W1, hW1⟩ : ∃ W1, W.alloc (.cells #[.slice a n c, .int .i64 0] 27) = W1 := ⟨_, rfl⟩
  have ht1 : Tp W1 T 0 := by rw [← hW1, ← hT]; exact tp_new hg
  have hk1 : Kp [] W W1 := by rw [← hW1]; exact (Kp.refl [] W).alloc _
  have hm1 : Max W1 := hmx.kp hk1 (by simp)
  have hT0 : 0 < T := by have := hmx.lt; omega
  have hT1 : T < W1.heap.size := ht1.lt
  have HH := Lib.hid (helpers_any (by omega) ht1)
  have HK1 := Lib.hid (hk1.mono (t := [T]) (by simp))
  have HKN := Lib.hid fun W' (h : Kp [T] W1 W') => known_any (hm1.kp h (by simp; omega))
  clear hm hmx hg ht1 hk1 hm1
  go_enter Tryd.func6, Tryd.ntmps6
  go_wp2_with (first
    | (go_at_call 9; refine Calls.mono (by with_reducible exact HKN.out _ HK4.out) ?_; rintro e w4 ⟨rfl, hk⟩; have HK5 := Lib.hid (HK4.out.trans (hk.mono (by simp))); clear hk)
    | (go_at_call 16; refine Calls.mono (by with_reducible exact HCALL.out) ?_; rintro e w3 ⟨rfl, hk⟩; have HK4 := Lib.hid (HK3.out.trans (hk.mono (by simp))); clear hk)
    | (go_at_call 15; refine Calls.mono (by with_reducible exact command_any (by omega) HT2.out) ?_; rintro e w3 ⟨cm, hcm, rfl, ht, hk⟩; have HK3 := Lib.hid (HK2.out.trans hk); have HCALL := Lib.hid (call_any (l := L) (by have := HDR.out.1; omega) HDR.out.sm (limit := lim) (calls := calls) (c := cm) (by omega) (HO.out.kpt hk (by omega)).has); have hb := callL_bound (calls := calls) HDR.out h1 cm; generalize callL L lim calls cm = R at HCALL hb; obtain ⟨o, t, E⟩ := R; unfold ansV at HCALL; unfold boundP at hb; simp only at HCALL hb; clear ht hk; rcases hb with ⟨b0, b1, b2, rfl⟩ | ⟨b0, b1, b2, b3, b4⟩ | ⟨b0, b1, b2, rfl, rfl⟩)
    | (go_at_call 10; refine Calls.mono (by with_reducible exact HH.out) ?_; rintro e w2 ⟨v, L, lim, rfl, ho, hdr, h1, h2, ht, hk⟩; have HO := Lib.hid ho; have HDR := Lib.hid hdr; have HT2 := Lib.hid ht; have HK2 := Lib.hid hk; clear ho hdr ht hk))
  all_goals go_ret
  all_goals exact ⟨rfl, (HK1.out.trans HK5.out).below (Nat.le_refl _) (by simp; omega)⟩
end Go.Proofs.YteiphphihclnfaaDoor
