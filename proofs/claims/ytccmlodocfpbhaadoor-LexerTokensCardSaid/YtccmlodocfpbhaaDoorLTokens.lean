/- The walk of LexerTokens. -/
import Derived.Test.YtccmlodocfpbhaaDoorZB
namespace Go.Proofs.YtccmlodocfpbhaaDoor
open Go.RowKit

theorem tokensE_num (t : List UInt8) : (tokensE t).1.length ≤ 1024 := by
  obtain ⟨l, e, h⟩ : ∃ l e, tokensE t = (l, e) := ⟨_, _, rfl⟩
  by_cases he : e = 0
  · subst he
    have := (read_ok h).1
    rw [h]
    exact this
  · have : l = [] := by
      unfold tokensE at h
      split at h
      · cases h; rfl
      · split at h
        · cases h; rfl
        · split at h
          · cases h; rfl
          · cases h; rfl
          · cases h; exact absurd rfl he
    rw [h, this]
    simp

set_option maxHeartbeats 8000000 in
set_option maxRecDepth 100000 in
theorem lexerTokens_list (raw : List UInt8) (a : Option Addr) (n c : Nat) (w : World) (hm : Max w) (hi : Ints w w.heap.size (.slice a n c)) : Calls Tryd.prog 4 #[.string (bs raw), .slice a n c] w fun e w' => e = .returned (.bool true) ∧ Below w.heap.size w w' := by
  have HM := Lib.hid fun W (h : Kp [] w W) => (show Max W from hm.kp h (by simp))
  have HKN := Lib.hid fun W (h : Kp [] w W) => known_any W (HM.out _ h)
  by_cases hraw : 2000 < raw.length
  · have hrz : (2000 : Int) < ((bs raw).size : Int) := by rw [bs_size]; omega
    have HK0 := Lib.hid (HKN.out w (Kp.refl _ _))
    clear hm hi hraw
    go_enter Tryd.func4, Tryd.ntmps4
    go_wp2_with (go_at_call 10; refine Calls.mono (by with_reducible exact HK0.out) ?_; rintro r w4 ⟨rfl, hk⟩; have HK4 := Lib.hid hk; clear hk)
    go_ret
    exact ⟨rfl, HK4.out.toBelowS⟩
  · have hrz : ¬ (2000 : Int) < ((bs raw).size : Int) := by rw [bs_size]; omega
    have HRL := Lib.hid (show raw.length ≤ 2000 by omega)
    obtain ⟨tb, htb⟩ : ∃ tb, w.heap.size = tb := ⟨_, rfl⟩
    obtain ⟨w1, hw1⟩ : ∃ w1, w.alloc (.cells #[.slice a n c, .int .i64 0] 31) = w1 := ⟨_, rfl⟩
    have ht0 := tape_new hi
    rw [hw1, htb] at ht0
    have hk1 : Kp [] w w1 := by rw [← hw1]; exact (Kp.refl [] w).alloc _
    have htw : w.heap.size ≤ tb := by omega
    have htn : 0 ≠ tb := by have := hm.pos; omega
    have HTW := Lib.hid htw
    have HK1 := Lib.hid hk1
    have HL1 := Lib.hid (line_any (HM.out _ hk1) ht0 (by omega) htn)
    have HSM := Lib.hid fun (W : World) (u v : Value) (l : List Tok) (hl : l.length ≤ 1024) => same_any (w := W) (su := u) (sv := v) (l := l) (by omega)
    clear ht0 hi hm hk1 htw htn hraw
    go_enter Tryd.func4, Tryd.ntmps4
    go_wp2_with (first
      | (go_at_call 14; refine Calls.mono (by with_reducible exact HL1.out) ?_; rintro r w6 ⟨ln, rfl, hll, hkp, hrest⟩; have HLL := Lib.hid hll; have HK6 := Lib.hid (HK1.out.tapeOff hkp HTW.out); obtain ⟨B2, hB2⟩ : ∃ B2, w6.heap.size = B2 := ⟨_, rfl⟩; obtain ⟨w7, hw7⟩ : ∃ w7, w6.alloc (.cells #[.string (bs raw), .string (bs ln)] 9) = w7 := ⟨_, rfl⟩; have htwo := two_new w6 raw ln; rw [hw7, hB2] at htwo; have HTWO := Lib.hid htwo; have HK7 := Lib.hid (HK6.out.trans (show Kp [] w6 w7 by rw [← hw7]; exact (Kp.refl [] w6).alloc _)); clear hll hkp hrest htwo))
    go_loopg [6, 7, 8, 9, 10] 2 (fun g s6 s7 s8 s9 s10 wx => ∃ i : Nat, s6 = .int .i64 (i : Int) ∧ i + g = 2 ∧ Kp [] w wx ∧ Two wx B2 raw ln)
    case atStart => exact ⟨0, rfl, rfl, HK7.out, HTWO.out⟩
    case round =>
      obtain ⟨i, rfl, hig, hkp, htwo⟩ := hrel
      by_cases hi : i < 2
      · obtain ⟨g, rfl⟩ : ∃ g, gk = g + 1 := ⟨gk - 1, by omega⟩
        have hiz : (i : Int) < 2 := by omega
        have hwi : IntKind.i64.wrap ((i : Int) + 1) = (i : Int) + 1 := by rw [IntKind.wrap_i64]; omega
        obtain ⟨t, ht⟩ : ∃ t, [raw, ln][i]? = some t := ⟨_, List.getElem?_eq_getElem (by simpa using hi)⟩
        have hc := htwo.2 i t ht
        have htl : t.length ≤ 2000 := by
          have := List.mem_of_getElem? ht
          simp only [List.mem_cons, List.not_mem_nil, or_false] at this
          rcases this with rfl | rfl
          · exact HRL.out
          · have := HLL.out; omega
        have hnum := tokensE_num t
        obtain ⟨l, e, hte⟩ : ∃ l e, tokensE t = (l, e) := ⟨_, _, rfl⟩
        have htk := tokens_any t wr (HM.out _ hkp) (by omega)
        have htr := fun W => refTokens_any t W
        rw [hte] at htk htr hnum
        have HTQ := Lib.hid htk
        have HTR := Lib.hid htr
        have HNUM := Lib.hid (show l.length ≤ 1024 from hnum)
        have HK := Lib.hid hkp
        have HTWo := Lib.hid htwo
        have HT := Lib.hid ht
        have HIG := Lib.hid (show i + 1 + g = 2 by omega)
        clear hig hkp htwo hi ht htl hte htk htr hnum
        go_wp2_with (first
          | (go_at_call 15; refine Calls.mono (by with_reducible exact HTQ.out) ?_; rintro r wa ⟨va, rfl, ho, hkp⟩; have Ka := Lib.hid (HK.out.trans hkp); have ta := HTWo.out.kp0 hkp; have hc2 := ta.2 i t HT.out; have Ta := Lib.hid ta; have Oa := Lib.hid ho; clear ho hkp ta)
          | (go_at_call 16; refine Calls.mono (by with_reducible exact HTR.out _) ?_; rintro r wb ⟨vb, rfl, ho, hkp⟩; have Kb := Lib.hid (Ka.out.trans hkp); have Tb := Lib.hid (Ta.out.kp0 hkp); have Ob := Lib.hid (Oa.out.kp0 hkp); have Pb := Lib.hid ho; clear ho hkp)
          | (go_at_call 17; refine Calls.mono (by with_reducible exact HSM.out _ _ _ _ HNUM.out Ob.out.has Pb.out.has) ?_; rintro r wd ⟨rfl, hkp⟩; have Kd := Lib.hid (Kb.out.trans hkp); have Td := Lib.hid (Tb.out.kp0 hkp); clear hkp))
        go_roundg g
        case measure => omega
        case rel => exact ⟨i + 1, rfl, HIG.out, Kd.out, Td.out⟩
      · have hiz : ¬ ((i : Int) < 2) := by omega
        have HKK2 := Lib.hid hkp
        clear hig hkp htwo hi
        go_wp2_with (go_at_call 10; refine Calls.mono (by with_reducible exact HKN.out _ HKK2.out) ?_; rintro r w7 ⟨rfl, hkp⟩; have HK8 := Lib.hid (HKK2.out.trans hkp); clear hkp)
        go_ret
        exact ⟨rfl, HK8.out.toBelowS⟩
theorem lexerTokens_walk (raw : ByteArray) (a : Option Addr) (n c : Nat) (w : World) (hm : Max w) (hi : Ints w w.heap.size (.slice a n c)) : Calls Tryd.prog 4 #[.string raw, .slice a n c] w fun e w' => e = .returned (.bool true) ∧ Below w.heap.size w w' := by
  rw [← bs_of raw]
  exact lexerTokens_list _ a n c w hm hi
end Go.Proofs.YtccmlodocfpbhaaDoor
