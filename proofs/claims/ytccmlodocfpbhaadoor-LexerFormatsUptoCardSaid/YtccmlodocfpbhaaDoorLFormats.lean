/- The walk of LexerFormats. -/
import Derived.Test.YtccmlodocfpbhaaDoorX
import Derived.Test.YtccmlodocfpbhaaDoorR
import Derived.Test.YtccmlodocfpbhaaDoorLSeparators
namespace Go.Proofs.YtccmlodocfpbhaaDoor
open Go.RowKit

theorem repU_one (c : Nat) : Lib.repeatL [65] c = List.replicate c 65 := by
  induction c with
  | zero => rfl
  | succ c ih => rw [Lib.repeatL, ih, List.replicate_succ]; rfl
theorem repU_any (n : Nat) (w : World) (h : n < 4) : ∃ S : List UInt8, S.length ≤ 1021 ∧ Calls Tryd.prog 19 #[.string ⟨#[65]⟩, .int .i64 (1018 + (n : Int))] w fun r w' => r = .returned (.string (bs S)) ∧ Kp [] w w' := by
  refine ⟨List.replicate (1018 + n) 65, by rw [List.length_replicate]; omega, ?_⟩
  have h := Tryd.strings_Repeat ⟨#[65]⟩ (1018 + n) w (by omega) (by rw [show (⟨#[65]⟩ : ByteArray).size = 1 from rfl]; omega)
  rw [show (⟨#[65]⟩ : ByteArray).data.toList = [65] from rfl, repU_one, show ((1018 + n : Nat) : Int) = 1018 + (n : Int) by omega] at h
  exact h.mono fun _ _ ⟨h1, h2⟩ => ⟨h1, Kp.of_below h2⟩
theorem has_single (w : World) (x : Tok) : tokT.Has (w.alloc (.cells (tokC x) 43)) (.slice (some ⟨w.heap.size, 0, none⟩) 1 1) [x] := by
  refine .inr ⟨w.heap.size, 0, 1, rfl, by simp, fun j y hy => ?_⟩
  have hj : j = 0 := by have := (List.getElem?_eq_some_iff.1 hy).1; simp at this; omega
  subst hj
  simp only [List.getElem?_cons_zero, Option.some.injEq] at hy
  subst hy
  rw [Nat.zero_mul, Nat.add_zero]
  exact TAt.range (heap_alloc_last w _)
/-- A row of slices of tokens. -/
def Trio (w : World) (b : Nat) (m : List (Value × List Tok)) : Prop := b < w.heap.size ∧ ∀ (j : Nat) v l, m[j]? = some (v, l) → w.cell? ⟨b, j, none⟩ = some v ∧ tokT.Has w v l ∧ l.length ≤ 30 ∧ ∀ x ∈ l, Sm x
theorem Trio.kp0 {w w' : World} {b : Nat} {m : List (Value × List Tok)} (h : Trio w b m) (hk : Kp [] w w') : Trio w' b m :=
  ⟨by have := hk.size; have := h.1; omega, fun j v l hx => by
    obtain ⟨h1, h2, h3⟩ := h.2 j v l hx
    refine ⟨?_, h2.kp0 hk, h3⟩
    simp only [World.cell?, hk.block b h.1 (by simp)] at h1 ⊢
    exact h1⟩
theorem trio_new {w : World} {v0 v1 v2 : Value} {l0 l1 l2 : List Tok} (h0 : tokT.Has w v0 l0 ∧ l0.length ≤ 30 ∧ ∀ x ∈ l0, Sm x) (h1 : tokT.Has w v1 l1 ∧ l1.length ≤ 30 ∧ ∀ x ∈ l1, Sm x) (h2 : tokT.Has w v2 l2 ∧ l2.length ≤ 30 ∧ ∀ x ∈ l2, Sm x) :
    Trio (w.alloc (.cells #[v0, v1, v2] 33)) w.heap.size [(v0, l0), (v1, l1), (v2, l2)] := by
  have hk : Kp [] w (w.alloc (.cells #[v0, v1, v2] 33)) := (Kp.refl [] w).alloc _
  refine ⟨by simp, fun j v l hx => ?_⟩
  have hc := cell_of_row _ _ j _ _ _ (heap_alloc_last w (.cells #[v0, v1, v2] 33))
  match j, hx with
  | 0, hx => cases hx; exact ⟨hc, h0.1.kp0 hk, h0.2⟩
  | 1, hx => cases hx; exact ⟨hc, h1.1.kp0 hk, h1.2⟩
  | 2, hx => cases hx; exact ⟨hc, h2.1.kp0 hk, h2.2⟩
  | j + 3, hx => simp at hx

set_option maxHeartbeats 8000000 in
set_option maxRecDepth 100000 in
theorem lexerFormats_walk {l0 : List Tok} (v : Value) (a : Option Addr) (n c : Nat) (w : World) (hm : Max w) (h0 : tokT.Has w v l0 ∧ ∀ x ∈ l0, Sm x) (hi : Ints w w.heap.size (.slice a n c)) : Calls Tryd.prog 5 #[v, .slice a n c] w fun e w' => e = .returned (.bool true) ∧ Below w.heap.size w w' := by
  obtain ⟨hh, hs0⟩ := h0
  have hh' := hh
  obtain ⟨va, vc, rfl, _⟩ := hh'.form
  have HM := Lib.hid fun W (h : Kp [] w W) => (show Max W from hm.kp h (by simp))
  have HKN := Lib.hid fun W (h : Kp [] w W) => known_any W (HM.out _ h)
  by_cases hl : 30 < l0.length
  · have hz : (30 : Int) < (l0.length : Int) := by omega
    have HK0 := Lib.hid (HKN.out w (Kp.refl _ _))
    clear hh hh' hs0 hm hi hl
    go_enter Tryd.func5, Tryd.ntmps5
    go_wp2_with (go_at_call 10; refine Calls.mono (by with_reducible exact HK0.out) ?_; rintro r w4 ⟨rfl, hk⟩; have HK4 := Lib.hid hk; clear hk)
    go_ret
    exact ⟨rfl, HK4.out.toBelowS⟩
  · have hz : ¬ (30 : Int) < (l0.length : Int) := by omega
    obtain ⟨tb, htb⟩ : ∃ tb, w.heap.size = tb := ⟨_, rfl⟩
    obtain ⟨w1, hw1⟩ : ∃ w1, w.alloc (.cells #[.slice a n c, .int .i64 0] 31) = w1 := ⟨_, rfl⟩
    have ht0 := tape_new hi
    rw [hw1, htb] at ht0
    have hk1 : Kp [] w w1 := by rw [← hw1]; exact (Kp.refl [] w).alloc _
    have htw : w.heap.size ≤ tb := by omega
    have HTW := Lib.hid htw
    have HK1 := Lib.hid hk1
    have HT1B := Lib.hid ht0.lt
    have HD := Lib.hid (drawn_wrong ht0 (by omega))
    have HH0 := Lib.hid (show tokT.Has w (.slice va l0.length vc) l0 ∧ l0.length ≤ 30 ∧ ∀ x ∈ l0, Sm x from ⟨hh, by omega, hs0⟩)
    clear ht0 hi hm hk1 htw hh hh' hs0 hl
    go_enter Tryd.func5, Tryd.ntmps5
    go_wp2_with (first
      | (go_at_call 18; refine Calls.mono (by with_reducible exact HD.out) ?_; rintro r w2 ⟨v1, rfl, xs, hown, hxl, hsm, k2, hT2, hk2, hkp⟩; obtain ⟨a1, c1, rfl⟩ := hown.form; have HO2 := Lib.hid hown; have HX := Lib.hid (show xs.length ≤ 30 ∧ ∀ x ∈ xs, Sm x from ⟨by omega, fun x hx => lo_sm (hsm x hx)⟩); have HK2 := Lib.hid (HK1.out.tapeOff hkp HTW.out); have HN2 := Lib.hid (next_kp 4 (by decide) (by decide) (by omega) hT2); clear hown hxl hsm hT2 hk2 hkp)
      | (go_at_call 20; refine Calls.mono (by exact HN2.out) ?_; rintro r w3 ⟨q, hq, rfl, hT3, hkp⟩; have hwn : IntKind.i64.wrap (1018 + (q : Int)) = 1018 + (q : Int) := (by rw [IntKind.wrap_i64]; omega); have HK3 := Lib.hid (HK2.out.tapeOff hkp HTW.out); have HO3 := Lib.hid (HO2.out.kp hkp (fun b hb => by have := (HO2.out.ge b hb).1; have := HT1B.out; simp; omega)); obtain ⟨S, hS, hrep⟩ := repU_any q w3 hq; have HS := Lib.hid hS; have HR := Lib.hid hrep; clear hq hT3 hkp hS hrep)
      | (go_at_call 19; refine Calls.mono (by with_reducible exact HR.out) ?_; rintro r w4 ⟨rfl, hkp⟩; have hk4 := HK3.out.trans hkp; have ho4 := HO3.out.kp0 hkp; obtain ⟨w5, hw5⟩ : ∃ w5, w4.alloc (.cells #[.string (bs S), .string ⟨#[]⟩, .string ⟨#[61]⟩, .string ⟨#[120]⟩] 43) = w5 := ⟨_, rfl⟩; obtain ⟨B5, hB5⟩ : ∃ B5, w4.heap.size = B5 := ⟨_, rfl⟩; obtain ⟨B6, hB6⟩ : ∃ B6, w5.heap.size = B6 := ⟨_, rfl⟩; obtain ⟨w6, hw6⟩ : ∃ w6, w5.alloc (.cells #[.slice va l0.length vc, .slice a1 xs.length c1, .slice (some ⟨B5, 0, none⟩) 1 1] 33) = w6 := ⟨_, rfl⟩; have hk45 : Kp [] w4 w5 := (by rw [← hw5]; exact (Kp.refl [] w4).alloc _); have hk56 : Kp [] w5 w6 := (by rw [← hw6]; exact (Kp.refl [] w5).alloc _); have hsi := has_single w4 ⟨S, [], [61], [120]⟩; rw [show w4.alloc (.cells (tokC ⟨S, [], [61], [120]⟩) 43) = w5 from hw5, hB5] at hsi; have htr := trio_new (w := w5) (v0 := .slice va l0.length vc) ⟨HH0.out.1.kp0 (hk4.trans hk45), HH0.out.2⟩ ⟨(ho4.kp0 hk45).has, HX.out⟩ ⟨hsi, (by simp), (fun x hx => by rw [List.mem_singleton.1 hx]; have := HS.out; exact ⟨by simp only; omega, by simp, by simp, by simp⟩)⟩; rw [hw6, hB6] at htr; obtain ⟨M, hM, htr⟩ : ∃ M : List (Value × List Tok), M.length = 3 ∧ Trio w6 B6 M := ⟨_, rfl, htr⟩; have HTR := Lib.hid htr; have HML := Lib.hid hM; have HK6 := Lib.hid ((hk4.trans hk45).trans hk56); clear hkp hk4 ho4 hk45 hk56 hsi htr hM))
    go_loopg [7, 8, 9, 10, 11] 3 (fun g s7 s8 s9 s10 s11 wx => ∃ i : Nat, s7 = .int .i64 (i : Int) ∧ i + g = 3 ∧ Kp [] w wx ∧ Trio wx B6 M)
    case atStart => exact ⟨0, rfl, rfl, HK6.out, HTR.out⟩
    case round =>
      obtain ⟨i, rfl, hig, hkp, htr⟩ := hrel
      by_cases hi : i < 3
      · obtain ⟨g, rfl⟩ : ∃ g, gk = g + 1 := ⟨gk - 1, by omega⟩
        have hiz : (i : Int) < 3 := by omega
        have hwi : IntKind.i64.wrap ((i : Int) + 1) = (i : Int) + 1 := by rw [IntKind.wrap_i64]; omega
        obtain ⟨⟨u, l⟩, hu⟩ : ∃ p, M[i]? = some p := ⟨_, List.getElem?_eq_getElem (by rw [HML.out]; exact hi)⟩
        obtain ⟨hc, hhas, hl30, hsm⟩ := htr.2 i u l hu
        have hhas' := hhas
        obtain ⟨ua, uc, rfl, _⟩ := hhas'.form
        obtain ⟨s, e, hse⟩ : ∃ s e, fmtE l = (s, e) := ⟨_, _, rfl⟩
        have hf := format_any (HM.out _ hkp) hhas (by omega) hsm
        have hr := fun W (h : Kp [] wr W) => refFormat_any (HM.out _ (hkp.trans h)) (hhas.kp0 h) hl30 hsm
        rw [hse] at hf hr
        have HF := Lib.hid hf
        have HR2 := Lib.hid hr
        have HU := Lib.hid hu
        have HTr := Lib.hid htr
        have HK := Lib.hid hkp
        have HIG := Lib.hid (show i + 1 + g = 3 by omega)
        clear hig hkp htr hi hu hhas hhas' hl30 hsm hse hf hr
        go_wp2_with (first
          | (go_at_call 21; refine Calls.mono (by with_reducible exact HF.out) ?_; rintro r wa ⟨rfl, hkp⟩; have hc2 := ((HTr.out.kp0 hkp).2 i _ _ HU.out).1; have Ka := Lib.hid hkp; clear hkp)
          | (go_at_call 22; refine Calls.mono (by with_reducible exact HR2.out _ Ka.out) ?_; rintro r wb ⟨rfl, hkp⟩; have Kb := Lib.hid (Ka.out.trans hkp); clear hkp))
        go_roundg g
        case measure => omega
        case rel => exact ⟨i + 1, rfl, HIG.out, HK.out.trans Kb.out, HTr.out.kp0 Kb.out⟩
      · have hiz : ¬ ((i : Int) < 3) := by omega
        have HK := Lib.hid hkp
        clear hig hkp htr hi
        go_wp2_with (go_at_call 10; refine Calls.mono (by with_reducible exact HKN.out _ HK.out) ?_; rintro r w7 ⟨rfl, hkp⟩; have HK8 := Lib.hid (HK.out.trans hkp); clear hkp)
        go_ret
        exact ⟨rfl, HK8.out.toBelowS⟩
end Go.Proofs.YtccmlodocfpbhaaDoor
