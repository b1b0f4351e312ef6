/- GrammarChecks: the walk. -/
import Derived.Test.YtkkibibecgcbmaaGreatDoorKIg
import Derived.Test.YtkkibibecgcbmaaGreatDoorKGx
import Derived.Deep.RegionHeld3
namespace Go.Proofs.YtkkibibecgcbmaaGreatDoor
open Go.RowKit

set_option maxHeartbeats 8000000 in
set_option maxRecDepth 100000 in
theorem grammarChecks_list {rv : Value} {R : List Tm} {w : World} (hR : tmT.Has w rv R) (hRs : ∀ x ∈ R, SmT x) (a : Option Addr) (n c : Nat) (hE : Env w) (hi : Ints w w.heap.size (.slice a n c)) : Calls Tryz.prog 3 #[rv, .slice a n c] w fun e w' => e = .returned (.bool true) ∧ Kp [] w w' := by
  obtain ⟨ra, rc, rfl, _⟩ := hR.form
  have HKN := Lib.hid fun W (h : Kp [] w W) => known_any (hE.kp0 h)
  by_cases h30 : 30 < R.length
  · have hz : (30 : Int) < (R.length : Int) := by omega
    have hk := Kp.refl [] w
    clear h30 hE hi hR hRs
    go_enter Tryz.func3, Tryz.ntmps3
    go_wp2_with (go_at_call 11; refine Calls.mono (by with_reducible exact HKN.out _ hk) ?_; rintro r w1 ⟨rfl, hkp⟩)
    go_ret
    exact ⟨rfl, hkp⟩
  have hz : ¬ (30 : Int) < (R.length : Int) := by omega
  have hRl : R.length ≤ 1000000 := by omega
  obtain ⟨z1, hz1⟩ : ∃ z, checkE R = z := ⟨_, rfl⟩
  have HPR := Lib.hid fun W (h : Kp [] w W) => gcheck_any (hE.kp0 h) (hR.kp0 h) hRl hRs
  have HRR := Lib.hid fun W (h : Kp [] w W) => refGCheck_any (hE.kp0 h) (hR.kp0 h) hRl hRs
  rw [hz1] at HPR HRR
  have HE := Lib.hid hE
  obtain ⟨tb, htb⟩ : ∃ tb, w.heap.size = tb := ⟨_, rfl⟩
  obtain ⟨w1, hw1⟩ : ∃ w1, w.alloc (.cells #[.slice a n c, .int .i64 0] 28) = w1 := ⟨_, rfl⟩
  have ht0 := tape_new hi
  rw [hw1, htb] at ht0
  have hk1 : Kp [] w w1 := by rw [← hw1]; exact (Kp.refl [] w).alloc _
  have HTW := Lib.hid (show w.heap.size ≤ tb by omega)
  have HK1 := Lib.hid hk1
  have HS := Lib.hid (spoilt_any (n := 0) (by omega) ht0.lt ⟨0, Nat.le_refl _, ht0⟩)
  clear ht0 hi hk1 hE hR hRs h30 hz1 hRl
  go_enter Tryz.func3, Tryz.ntmps3
  go_wp2_with (go_at_call 12; refine Calls.mono (by with_reducible exact HS.out) ?_; rintro r w2 ⟨v, l, rfl, ho, hl, hsm, _, hkp⟩; obtain ⟨av, cv, rfl⟩ := ho.form; have HK2 := Lib.hid (HK1.out.off hkp HTW.out); have HO := Lib.hid ho; have HSM := Lib.hid hsm; have HL := Lib.hid hl; clear ho hsm hl hkp)
  go_loopg [6] l.length (fun g s6 wx => ∃ i : Nat, s6 = .int .i64 (i : Int) ∧ i + g = l.length ∧ Kp [] w2 wx)
  case atStart => exact ⟨0, rfl, by omega, Kp.refl _ _⟩
  case round =>
    obtain ⟨i, rfl, hig, hk⟩ := hrel
    have HIG := Lib.hid hig
    have HK := Lib.hid hk
    have hl40 : l.length ≤ 40 := HL.out
    by_cases hi : i < l.length
    · obtain ⟨g, rfl⟩ : ∃ g, gk = g + 1 := ⟨gk - 1, by omega⟩
      obtain ⟨x, hx⟩ : ∃ x, l[i]? = some x := ⟨_, List.getElem?_eq_getElem hi⟩
      have hiz : (i : Int) < (l.length : Int) := by omega
      have hwi : IntKind.i64.wrap ((i : Int) + 1) = ((i + 1 : Nat) : Int) := by rw [IntKind.wrap_i64]; omega
      rcases HO.out.form2 with ⟨_, h2⟩ | ⟨gb, cap, hv, _, hglt, _, _, hrr⟩
      · subst h2
        simp at hi
      cases hv
      have HRW := Lib.hid (show ∀ W, Kp [] wr W → tmT.Row W gb 0 l from fun W h => hrr.keep ((hk.trans h).block gb hglt (by simp)))
      have HSS := Lib.hid (show ∀ W, Kp [] wr.drew W → W.cell? ⟨gb, i * 4, none⟩ = some (.int .i64 x.key) ∧ W.cell? ⟨gb, i * 4 + 1, none⟩ = some (.string (bs x.name)) ∧ W.cell? ⟨gb, i * 4 + 2, none⟩ = some (.int .i64 x.op) ∧ W.cell? ⟨gb, i * 4 + 3, none⟩ = some (.string (bs x.val)) ∧ Kp [] wr W from fun W h => by
        have h1 : Kp [] wr W := ((Kp.refl [] wr).drew 1).trans h
        obtain ⟨q0, q1, q2, q3⟩ := tmRow (HRW.out W h1) hx
        simp only [Nat.zero_add] at q0 q1 q2 q3
        exact ⟨q0, q1, q2, q3, h1⟩)
      have HST := Lib.hid (HSS.out _ (Kp.refl _ _))
      have H13 := Lib.hid (show ∀ W, (W.cell? ⟨gb, i * 4, none⟩ = some (.int .i64 x.key) ∧ W.cell? ⟨gb, i * 4 + 1, none⟩ = some (.string (bs x.name)) ∧ W.cell? ⟨gb, i * 4 + 2, none⟩ = some (.int .i64 x.op) ∧ W.cell? ⟨gb, i * 4 + 3, none⟩ = some (.string (bs x.val)) ∧ Kp [] wr W) → Calls Tryz.prog 13 #[.agg #[.int .i64 x.key, .string (bs x.name), .int .i64 x.op, .string (bs x.val)]] W fun e w' => e = .returned (.bool (matchB x.op)) ∧ (w'.cell? ⟨gb, i * 4, none⟩ = some (.int .i64 x.key) ∧ w'.cell? ⟨gb, i * 4 + 1, none⟩ = some (.string (bs x.name)) ∧ w'.cell? ⟨gb, i * 4 + 2, none⟩ = some (.int .i64 x.op) ∧ w'.cell? ⟨gb, i * 4 + 3, none⟩ = some (.string (bs x.val)) ∧ Kp [] wr w') from fun W h => (match_any x W).mono fun e w' ⟨h1, h2⟩ => ⟨h1, by
        obtain ⟨q0, q1, q2, q3⟩ := tmRow (HRW.out w' (h.2.2.2.2.trans h2)) hx
        simp only [Nat.zero_add] at q0 q1 q2 q3
        exact ⟨q0, q1, q2, q3, h.2.2.2.2.trans h2⟩⟩)
      have H14 := Lib.hid (show ∀ W, (W.cell? ⟨gb, i * 4, none⟩ = some (.int .i64 x.key) ∧ W.cell? ⟨gb, i * 4 + 1, none⟩ = some (.string (bs x.name)) ∧ W.cell? ⟨gb, i * 4 + 2, none⟩ = some (.int .i64 x.op) ∧ W.cell? ⟨gb, i * 4 + 3, none⟩ = some (.string (bs x.val)) ∧ Kp [] wr W) → Calls Tryz.prog 14 #[.agg #[.int .i64 x.key, .string (bs x.name), .int .i64 x.op, .string (bs x.val)]] W fun e w' => e = .returned (.bool (matchB x.op)) ∧ (w'.cell? ⟨gb, i * 4, none⟩ = some (.int .i64 x.key) ∧ w'.cell? ⟨gb, i * 4 + 1, none⟩ = some (.string (bs x.name)) ∧ w'.cell? ⟨gb, i * 4 + 2, none⟩ = some (.int .i64 x.op) ∧ w'.cell? ⟨gb, i * 4 + 3, none⟩ = some (.string (bs x.val)) ∧ Kp [] wr w') from fun W h => (refMatch_any x W).mono fun e w' ⟨h1, h2⟩ => ⟨h1, by
        obtain ⟨q0, q1, q2, q3⟩ := tmRow (HRW.out w' (h.2.2.2.2.trans h2)) hx
        simp only [Nat.zero_add] at q0 q1 q2 q3
        exact ⟨q0, q1, q2, q3, h.2.2.2.2.trans h2⟩⟩)
      generalize matchB x.op = mb at H13 H14
      clear hk hig hx hrr hglt
      go_upto_region 7 with fail
      cases mb <;>
      · go_region_held3 (fun W => W.cell? ⟨gb, i * 4, none⟩ = some (.int .i64 x.key) ∧ W.cell? ⟨gb, i * 4 + 1, none⟩ = some (.string (bs x.name)) ∧ W.cell? ⟨gb, i * 4 + 2, none⟩ = some (.int .i64 x.op) ∧ W.cell? ⟨gb, i * 4 + 3, none⟩ = some (.string (bs x.val)) ∧ Kp [] wr W) (first | exact HST.out | assumption) (first
          | (go_at_call 13; refine Calls.mono (by with_reducible exact H13.out _ (by assumption)) ?_; rintro e W ⟨rfl, hb⟩)
          | (go_at_call 14; refine Calls.mono (by with_reducible exact H14.out _ (by assumption)) ?_; rintro e W ⟨rfl, hb⟩))
        all_goals
          go_wp2
          go_roundg g
          case measure => omega
          case rel => exact ⟨i + 1, rfl, by have := HIG.out; omega, HK.out.trans (And.right (And.right (And.right (And.right (by assumption)))))⟩
    · have hiz : ¬ (i : Int) < (l.length : Int) := by omega
      obtain ⟨z2, hz2⟩ : ∃ z, checkE l = z := ⟨_, rfl⟩
      have HPL := Lib.hid fun W (h : Kp [] w2 W) => gcheck_any (HE.out.kp0 (HK2.out.trans h)) (HO.out.has.kp0 h) (by omega) HSM.out
      have HRL := Lib.hid fun W (h : Kp [] w2 W) => refGCheck_any (HE.out.kp0 (HK2.out.trans h)) (HO.out.has.kp0 h) (by omega) HSM.out
      rw [hz2] at HPL HRL
      clear hk hig hi hz2
      go_wp2_with (first
        | (go_at_call 15; refine Calls.mono (by with_reducible exact HPR.out _ (HK2.out.trans HK.out)) ?_; rintro r w3 ⟨rfl, hkp⟩; have HK := Lib.hid (HK.out.trans hkp); clear hkp)
        | (go_at_call 16; refine Calls.mono (by with_reducible exact HRR.out _ (HK2.out.trans HK.out)) ?_; rintro r w3 ⟨rfl, hkp⟩; have HK := Lib.hid (HK.out.trans hkp); clear hkp)
        | (go_at_call 15; refine Calls.mono (by with_reducible exact HPL.out _ HK.out) ?_; rintro r w3 ⟨rfl, hkp⟩; have HK := Lib.hid (HK.out.trans hkp); clear hkp)
        | (go_at_call 16; refine Calls.mono (by with_reducible exact HRL.out _ HK.out) ?_; rintro r w3 ⟨rfl, hkp⟩; have HK := Lib.hid (HK.out.trans hkp); clear hkp)
        | (go_at_call 11; refine Calls.mono (by with_reducible exact HKN.out _ (HK2.out.trans HK.out)) ?_; rintro r w7 ⟨rfl, hkp⟩; have HK7 := Lib.hid ((HK2.out.trans HK.out).trans hkp); clear hkp))
      go_ret
      exact ⟨rfl, HK7.out⟩
theorem grammarChecks_walk {R : List Tm} (rv : Value) (a : Option Addr) (n c : Nat) (w : World) (hE : Env w) (g0 : tmT.Has w rv R ∧ ∀ x ∈ R, SmT x) (hi : Ints w w.heap.size (.slice a n c)) : Calls Tryz.prog 3 #[rv, .slice a n c] w fun e w' => e = .returned (.bool true) ∧ Below w.heap.size w w' :=
  (grammarChecks_list g0.1 g0.2 a n c hE hi).mono fun _ _ ⟨h1, h2⟩ => ⟨h1, h2.below (Nat.le_refl _) (by simp)⟩
end Go.Proofs.YtkkibibecgcbmaaGreatDoor
