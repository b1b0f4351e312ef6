/- GrammarReaches: the walk. -/
import Derived.Test.YtkkibibecgcbmaaGreatDoorKHk
import Derived.Test.YtkkibibecgcbmaaGreatDoorKHl
namespace Go.Proofs.YtkkibibecgcbmaaGreatDoor
open Go.RowKit

theorem any_mid {M : List RV} {i k : Nat} {q : RV} (p : RV → Bool) (h : M[k]? = some q) (hik : i + 1 ≤ k) : ((M.take (k + 1)).drop (i + 1)).any p = (((M.take k).drop (i + 1)).any p || p q) := by
  have hk := (List.getElem?_eq_some_iff.1 h).1
  rw [List.take_add_one, h, List.drop_append_of_le_length (by rw [List.length_take]; omega), List.any_append]
  simp
set_option maxHeartbeats 16000000 in
set_option maxRecDepth 100000 in
theorem grammarReaches_list (a : Option Addr) (n c : Nat) (w : World) (hE : Env w) (hi : Ints w w.heap.size (.slice a n c)) : Calls Tryz.prog 9 #[.slice a n c] w fun e w' => e = .returned (.bool true) ∧ Kp [] w w' := by
  obtain ⟨tb, htb⟩ : ∃ tb, w.heap.size = tb := ⟨_, rfl⟩
  obtain ⟨w1, hw1⟩ : ∃ w1, w.alloc (.cells #[.slice a n c, .int .i64 0] 28) = w1 := ⟨_, rfl⟩
  have ht0 := tape_new hi
  rw [hw1, htb] at ht0
  have hk1 : Kp [] w w1 := by rw [← hw1]; exact (Kp.refl [] w).alloc _
  have HTW := Lib.hid (show w.heap.size ≤ tb by omega)
  have HK1 := Lib.hid hk1
  have HR := Lib.hid (rules_any (n := 0) (by omega) ht0.lt ⟨0, Nat.le_refl _, ht0⟩)
  have HKN := Lib.hid fun W (h : Kp [] w W) => known_any (hE.kp0 h)
  clear ht0 hi hk1 hE
  go_enter Tryz.func9, Tryz.ntmps9
  go_upto_region 2 with (go_at_call 28; refine Calls.mono (by with_reducible exact HR.out) ?_; rintro r w2 ⟨v, L, rfl, ho, hl, hin, hkp⟩)
  obtain ⟨av, cv, rfl⟩ := ho.form
  have HK2 := Lib.hid (HK1.out.off hkp HTW.out)
  have hinh : ∀ x ∈ L, InH w2 x ∧ TermsOk x.l := fun x hx => ⟨(hin x hx).1.inH (by have := (hin x hx).2.1.2.1; omega), (hin x hx).2.1⟩
  have HIN := Lib.hid hinh
  have HO := Lib.hid ho
  have HL := Lib.hid hl
  have HLK := Lib.hid (link_any (by omega) ho.has (fun x hx => ⟨(hinh x hx).1, (hinh x hx).2.1⟩) (leftOut_any w2 _ L hl ho.has hinh))
  have HMM := Lib.hid (show ∀ x ∈ (linkL L).1, x ∈ L from fun x hx => linkL_mem L x hx)
  have HNUM := Lib.hid (linkL_num L)
  clear hinh ho hl hin hkp
  go_upto_region 3 with (go_at_call 29; refine Calls.mono (by with_reducible exact HLK.out) ?_; rintro r w3 ⟨v1, v2, M, rfl, h1, h2, h3, h4, hkp⟩)
  obtain ⟨a1, c1, rfl⟩ := h1.form
  have hml : M.length ≤ 8 := by
    have := congrArg List.length h3
    simp only [List.length_map] at this
    have := HNUM.out
    have := HL.out
    omega
  have HK3 := Lib.hid (HK2.out.trans hkp)
  have HK23 := Lib.hid hkp
  have hmin : ∀ x ∈ M, InH w3 x ∧ TermsOk x.l := fun x hx => by
    obtain ⟨y, hy, he⟩ := pl_mem h3 HMM.out hx
    have ht := (HIN.out y hy).2
    rw [he] at ht
    exact ⟨(h2 x hx).inH (by have := ht.2.1; omega), ht⟩
  have HMI := Lib.hid hmin
  have HMO := Lib.hid h1
  have HPL := Lib.hid h3
  have HML := Lib.hid hml
  obtain ⟨f1, f2⟩ := linkL_fix h3
  have hl2 := link_any (by omega) h1.has (fun x hx => ⟨(hmin x hx).1, (hmin x hx).2.1⟩) (leftOut_any w3 _ M hml h1.has hmin)
  rw [f1, f2] at hl2
  have HLM := Lib.hid hl2
  have HIL := Lib.hid (show ∀ x ∈ L, InH w3 x from fun x hx => (HIN.out x hx).1.kp0 hkp)
  have HOL := Lib.hid (HO.out.kp0 hkp)
  clear hml hmin h1 h2 h3 h4 hkp f1 f2 hl2
  go_wp2_with (first
    | (go_at_call 29; refine Calls.mono (by with_reducible exact HLM.out) ?_; rintro r w4 ⟨u1, u2, M2, rfl, h1, h2, h3, h4, hkp⟩; obtain ⟨a2, c2, rfl⟩ := h1.form; obtain ⟨a3, c3, rfl⟩ := h4.form; have HK4 := Lib.hid (HK3.out.trans hkp); have HK34 := Lib.hid hkp; have HS := Lib.hid (sameRules_any (by have := HML.out; omega) (HMO.out.kp0 hkp).has h1.has (fun x hx => (HMI.out x hx).1.kp0 hkp) (fun x hx => (h2 x hx).inH (by obtain ⟨y, hy, he⟩ := pl_mem (L := M) h3 (fun _ h => h) hx; have := (HMI.out y hy).2.2.1; rw [he] at this; omega)) h3.symm); clear h1 h2 h3 h4 hkp)
    | (go_at_call 26; refine Calls.mono (by with_reducible exact HS.out) ?_; rintro r w5 ⟨rfl, hkp⟩; have HK5 := Lib.hid (HK4.out.trans hkp); have HK35 := Lib.hid (HK34.out.trans hkp); clear hkp))
  have HOL5 := Lib.hid (HOL.out.kp0 HK35.out)
  have HIL5 := Lib.hid (show ∀ x ∈ L, InH w5 x from fun x hx => (HIL.out x hx).kp0 HK35.out)
  have HMO5 := Lib.hid (HMO.out.kp0 HK35.out)
  have HMI5 := Lib.hid (show ∀ x ∈ M, InH w5 x from fun x hx => (HMI.out x hx).1.kp0 HK35.out)
  have hL8 : L.length ≤ 8 := HL.out
  have hM8 : M.length ≤ 8 := HML.out
  go_loopg [8, 9, 10, 11] L.length (fun g s8 s9 s10 s11 wx => ∃ i : Nat, s9 = .int .i64 (i : Int) ∧ s8 = .int .i64 ((cntN (L.take i) : Nat) : Int) ∧ i + g = L.length ∧ Kp [] w5 wx)
  case atStart => exact ⟨0, rfl, rfl, by omega, Kp.refl _ _⟩
  case round =>
    obtain ⟨i, rfl, rfl, hig, hk⟩ := hrel
    have HIG := Lib.hid hig
    have HK := Lib.hid hk
    by_cases hi : i < L.length
    · obtain ⟨g, rfl⟩ : ∃ g, gk = g + 1 := ⟨gk - 1, by omega⟩
      obtain ⟨x, hx⟩ : ∃ x, L[i]? = some x := ⟨_, List.getElem?_eq_getElem hi⟩
      have hiz : (i : Int) < (L.length : Int) := by omega
      have hwi : IntKind.i64.wrap ((i : Int) + 1) = ((i + 1 : Nat) : Int) := by rw [IntKind.wrap_i64]; omega
      have hsn := cntN_snoc hx
      have hcl := cntN_le (L.take i)
      rw [List.length_take] at hcl
      have hwp : IntKind.i64.wrap ((cntN (L.take i) : Int) + 1) = ((cntN (L.take i) + 1 : Nat) : Int) := by rw [IntKind.wrap_i64]; omega
      rcases HOL5.out.form2 with ⟨_, h2⟩ | ⟨gb, cap, hv, _, hglt, _, _, hrr⟩
      · subst h2
        simp at hi
      cases hv
      obtain ⟨q0, q1, q2⟩ := rvRow (hrr.keep (hk.block gb hglt (by simp))) hx
      simp only [Nat.zero_add] at q0 q1 q2
      have hin := (HIL5.out x (List.mem_of_getElem? hx)).kp0 hk
      have HV := Lib.hid (value_any hin.1 hin.2 24)
      rw [optV_eq, show valO x.l 24 = x.to from rfl] at HV
      obtain ⟨tt, htt⟩ : ∃ t, (x.to).getD [] = t := ⟨_, rfl⟩
      have hjn : x.to.isNone = !x.to.isSome := by cases x.to <;> rfl
      obtain ⟨js, hjs⟩ : ∃ t, (x.to).isSome = t := ⟨_, rfl⟩
      rw [hjn, hjs] at hsn
      rw [htt, hjs] at HV
      have HSN := Lib.hid hsn
      obtain ⟨C, hC⟩ : ∃ C, cntN (L.take i) = C := ⟨_, rfl⟩
      rw [hC] at HSN hwp ⊢
      clear hk hig hx hsn hcl hrr hglt hin htt hjn hjs hC
      cases js with
      | true =>
        go_wp2_with (go_at_call 31; refine Calls.mono (by with_reducible exact HV.out) ?_; rintro e w6 ⟨rfl, hk1⟩; have HK6 := Lib.hid (HK.out.trans hk1); clear hk1)
        go_roundg g
        case measure => omega
        case rel => exact ⟨i + 1, rfl, by rw [HSN.out]; rfl, by have := HIG.out; omega, HK6.out⟩
      | false =>
        go_wp2_with (go_at_call 31; refine Calls.mono (by with_reducible exact HV.out) ?_; rintro e w6 ⟨rfl, hk1⟩; have HK6 := Lib.hid (HK.out.trans hk1); clear hk1)
        go_roundg g
        case measure => omega
        case rel => exact ⟨i + 1, rfl, by rw [HSN.out]; rfl, by have := HIG.out; omega, HK6.out⟩
    · have hiz : ¬ (i : Int) < (L.length : Int) := by omega
      have hie : L.take i = L := List.take_of_length_le (by omega)
      rw [hie]
      have hcl := cntN_le L
      have HCM := Lib.hid (cntN_of HPL.out)
      obtain ⟨C, hC⟩ : ∃ C, cntN L = C := ⟨_, rfl⟩
      rw [hC] at HCM hcl ⊢
      clear hk hig hie hi hC
      go_wp2
      go_loopg [8, 12, 13, 14, 15, 16, 17, 18] M.length (fun g s8 s12 s13 s14 s15 s16 s17 s18 wx => ∃ i : Nat, s12 = .int .i64 (i : Int) ∧ s8 = .int .i64 ((C : Int) - (cntN (M.take i) : Int)) ∧ i + g = M.length ∧ Kp [] w5 wx)
      case atStart => exact ⟨0, rfl, by simp [cntN], by omega, HK.out⟩
      case round =>
        obtain ⟨i, rfl, rfl, hig, hk⟩ := hrel
        have HIG := Lib.hid hig
        have HK := Lib.hid hk
        by_cases hi : i < M.length
        · obtain ⟨g, rfl⟩ : ∃ g, gk = g + 1 := ⟨gk - 1, by omega⟩
          obtain ⟨x, hx⟩ : ∃ x, M[i]? = some x := ⟨_, List.getElem?_eq_getElem hi⟩
          have hiz : (i : Int) < (M.length : Int) := by omega
          have hwi : IntKind.i64.wrap ((i : Int) + 1) = ((i + 1 : Nat) : Int) := by rw [IntKind.wrap_i64]; omega
          have hsn := cntN_snoc hx
          have hcl2 := cntN_le (M.take i)
          rw [List.length_take] at hcl2
          have hwp : IntKind.i64.wrap ((C : Int) - (cntN (M.take i) : Int) - 1) = (C : Int) - (cntN (M.take i) : Int) - 1 := by rw [IntKind.wrap_i64]; omega
          rcases HMO5.out.form2 with ⟨_, h2⟩ | ⟨gb, cap, hv, _, hglt, _, _, hrr⟩
          · subst h2
            simp at hi
          cases hv
          obtain ⟨q0, q1, q2⟩ := rvRow (hrr.keep (hk.block gb hglt (by simp))) hx
          simp only [Nat.zero_add] at q0 q1 q2
          have HRR := Lib.hid hrr
          have HGL := Lib.hid hglt
          have hin := (HMI5.out x (List.mem_of_getElem? hx)).kp0 hk
          have HV := Lib.hid (value_any hin.1 hin.2 24)
          have hst := reach_of HPL.out hx
          rw [stays_eq] at hst
          rw [optV_eq, show valO x.l 24 = x.to from rfl] at HV
          obtain ⟨tt, htt⟩ : ∃ t, (x.to).getD [] = t := ⟨_, rfl⟩
          have hjn : x.to.isNone = !x.to.isSome := by cases x.to <;> rfl
          obtain ⟨js, hjs⟩ : ∃ t, (x.to).isSome = t := ⟨_, rfl⟩
          rw [hjn, hjs] at hsn
          rw [htt, hjs] at HV hst
          have HSN := Lib.hid hsn
          have HST := Lib.hid hst
          obtain ⟨C2, hC⟩ : ∃ C, cntN (M.take i) = C := ⟨_, rfl⟩
          rw [hC] at HSN hwp ⊢
          clear hk hig hx hsn hcl2 hrr hglt hin htt hjn hjs hC hst
          cases js with
          | false =>
            go_wp2_with (go_at_call 31; refine Calls.mono (by with_reducible exact HV.out) ?_; rintro e w6 ⟨rfl, hk1⟩; have HK6 := Lib.hid (HK.out.trans hk1); clear hk1)
            go_roundg g
            case measure => omega
            case rel => exact ⟨i + 1, rfl, by rw [HSN.out]; congr 1; simp only [Bool.not_false, if_true]; omega, by have := HIG.out; omega, HK6.out⟩
          | true =>
            go_wp2_with (go_at_call 31; refine Calls.mono (by with_reducible exact HV.out) ?_; rintro e w6 ⟨rfl, hk1⟩; have HK6 := Lib.hid (HK.out.trans hk1); clear hk1)
            go_loopg [15, 16, 17, 18] M.length (fun g s15 s16 s17 s18 wx => ∃ k : Nat, s16 = .int .i64 (k : Int) ∧ s15 = .bool (((M.take k).drop (i + 1)).any fun q => q.lab.isSome && (q.lab.getD [] == tt)) ∧ i + 1 ≤ k ∧ k ≤ M.length ∧ k + g = M.length + (i + 1) ∧ Kp [] w5 wx)
            case atStart => exact ⟨i + 1, rfl, by simp, by omega, by omega, by omega, HK6.out⟩
            case round =>
              obtain ⟨k, rfl, rfl, hik, hkM, hkg, hk2⟩ := hrel
              have HK2 := Lib.hid hk2
              have HKG := Lib.hid hkg
              have HIK := Lib.hid hik
              by_cases hkR : k < M.length
              · obtain ⟨g, rfl⟩ : ∃ g, gk = g + 1 := ⟨gk - 1, by omega⟩
                obtain ⟨q, hq⟩ : ∃ q, M[k]? = some q := ⟨_, List.getElem?_eq_getElem hkR⟩
                have hkz : (k : Int) < (M.length : Int) := by omega
                have hwk : IntKind.i64.wrap ((k : Int) + 1) = ((k + 1 : Nat) : Int) := by rw [IntKind.wrap_i64]; omega
                have hsn := any_mid (fun q => q.lab.isSome && (q.lab.getD [] == tt)) hq hik
                have hin := (HMI5.out q (List.mem_of_getElem? hq)).kp0 hk2
                have HV2 := Lib.hid (value_any hin.1 hin.2 23)
                rw [optV_eq, show valO q.l 23 = q.lab from rfl] at HV2
                obtain ⟨q0, q1, q2⟩ := rvRow (HRR.out.keep (hk2.block gb HGL.out (by simp))) hq
                simp only [Nat.zero_add] at q0 q1 q2
                obtain ⟨f, hf⟩ : ∃ f, (((M.take k).drop (i + 1)).any fun q => q.lab.isSome && (q.lab.getD [] == tt)) = f := ⟨_, rfl⟩
                obtain ⟨lb, hlb⟩ : ∃ t, (q.lab).getD [] = t := ⟨_, rfl⟩
                obtain ⟨hs, hhs⟩ : ∃ t, (q.lab).isSome = t := ⟨_, rfl⟩
                have HSN := Lib.hid (show (((M.take (k + 1)).drop (i + 1)).any fun q => q.lab.isSome && (q.lab.getD [] == tt)) = (f || (hs && (lb == tt))) by rw [hsn, hf, hlb, hhs])
                rw [hf]
                rw [hlb, hhs] at HV2
                have HTL := Lib.hid (show ((bs lb).toList == (bs tt).toList) = (lb == tt) by rw [toL, toL])
                clear hin hq hsn hf hlb hhs hk2 hkg hik hkM
                cases f with
                | true =>
                  go_wp2_with (go_at_call 31; refine Calls.mono (by with_reducible exact HV2.out) ?_; rintro e w7 ⟨rfl, hk3⟩; have HK3 := Lib.hid (HK2.out.trans hk3); clear hk3)
                  go_roundg g
                  case measure => omega
                  case rel => exact ⟨k + 1, rfl, by rw [HSN.out]; rfl, by have := HIK.out; omega, by omega, by have := HKG.out; omega, HK3.out⟩
                | false =>
                  cases hs with
                  | false =>
                    go_wp2_with (go_at_call 31; refine Calls.mono (by with_reducible exact HV2.out) ?_; rintro e w7 ⟨rfl, hk3⟩; have HK3 := Lib.hid (HK2.out.trans hk3); clear hk3)
                    go_roundg g
                    case measure => omega
                    case rel => exact ⟨k + 1, rfl, by rw [HSN.out]; rfl, by have := HIK.out; omega, by omega, by have := HKG.out; omega, HK3.out⟩
                  | true =>
                    go_wp2_with (go_at_call 31; refine Calls.mono (by with_reducible exact HV2.out) ?_; rintro e w7 ⟨rfl, hk3⟩; have HK3 := Lib.hid (HK2.out.trans hk3); clear hk3)
                    go_roundg g
                    case measure => omega
                    case rel => exact ⟨k + 1, rfl, by rw [HSN.out, ← HTL.out]; rfl, by have := HIK.out; omega, by omega, by have := HKG.out; omega, HK3.out⟩
              · have hkz : ¬ (k : Int) < (M.length : Int) := by omega
                have hkt : M.take k = M := List.take_of_length_le (by omega)
                rw [hkt]
                have hal : ((M.drop (i + 1)).any fun q => q.lab.isSome && (q.lab.getD [] == tt)) = true := by simpa using HST.out
                rw [hal]
                clear hkt hk2 hkg hik hkM hkR hal
                go_wp2
                go_roundg g
                case measure => omega
                case rel => exact ⟨i + 1, rfl, by rw [HSN.out]; congr 1, by have := HIG.out; omega, HK2.out⟩
        · have hiz : ¬ (i : Int) < (M.length : Int) := by omega
          have hie : M.take i = M := List.take_of_length_le (by omega)
          rw [hie, HCM.out, Int.sub_self]
          clear hk hig hie hi
          go_wp2_with (go_at_call 11; refine Calls.mono (by with_reducible exact HKN.out _ (HK5.out.trans HK.out)) ?_; rintro r w7 ⟨rfl, hkp⟩; have HK7 := Lib.hid ((HK5.out.trans HK.out).trans hkp); clear hkp)
          go_ret
          exact ⟨rfl, HK7.out⟩
theorem grammarReaches_walk (a : Option Addr) (n c : Nat) (w : World) (hE : Env w) (hi : Ints w w.heap.size (.slice a n c)) : Calls Tryz.prog 9 #[.slice a n c] w fun e w' => e = .returned (.bool true) ∧ Below w.heap.size w w' :=
  (grammarReaches_list a n c w hE hi).mono fun _ _ ⟨h1, h2⟩ => ⟨h1, h2.below (Nat.le_refl _) (by simp)⟩
end Go.Proofs.YtkkibibecgcbmaaGreatDoor
