/- The reference's Link. -/
import Derived.Test.YtkkibibecgcbmaaGreatDoorKHc
namespace Go.Proofs.YtkkibibecgcbmaaGreatDoor
open Go.RowKit

theorem optV_eq (o : Option (List UInt8)) : optV o = .tuple #[.string (bs (o.getD [])), .bool o.isSome] := by cases o <;> rfl
/-- The reference's own word on whether a rule stays. -/
theorem stays_eq (x : RV) (R : List RV) : staysR x R = ((!x.to.isSome) || R.any fun q => q.lab.isSome && (q.lab.getD [] == x.to.getD [])) := by
  unfold staysR
  cases x.to with
  | none => rfl
  | some t =>
    simp only [Option.isSome_some, Bool.not_true, Bool.false_or, Option.getD_some]
    congr 1
    funext q
    cases q.lab with
    | none => rfl
    | some s => simp
theorem any_snoc (R : List RV) (k : Nat) (q : RV) (f : RV → Bool) (h : R[k]? = some q) : (R.take (k + 1)).any f = ((R.take k).any f || f q) := by
  rw [List.take_add_one, h, List.any_append]
  simp
set_option maxHeartbeats 8000000 in
set_option maxRecDepth 100000 in
theorem refLink_any {w : World} {rv : Value} {L : List RV} (hl : L.length ≤ 1000) (hr : rvT.Has w rv L) (hi : ∀ x ∈ L, InH w x) : Calls Tryz.prog 30 #[rv] w fun e w' => ∃ v1 v2, e = .returned (.tuple #[v1, v2]) ∧ rvT.Own w' w.heap.size v1 (linkL L).1 ∧ flT.Own w' w.heap.size v2 ((linkL L).2.map RV.fl) ∧ Kp [] w w' := by
  obtain ⟨ra, rc, rfl, hrow⟩ := hr.form
  have HROW := Lib.hid hrow
  have HIN := Lib.hid hi
  clear hrow hr hi
  have hw0 : IntKind.i64.wrap ((L.length : Int) - 1) = (L.length : Int) - 1 := by rw [IntKind.wrap_i64]; omega
  go_enter Tryz.func30, Tryz.ntmps30
  go_wp2
  go_loopg [4, 5, 6] L.length (fun g s4 s5 s6 wx => s6 = .int .i64 ((g : Int) - 1) ∧ g ≤ L.length ∧ rvT.Own wx w.heap.size s4 (linkL (L.drop g)).1 ∧ flT.Own wx w.heap.size s5 ((linkL (L.drop g)).2.map RV.fl) ∧ Kp [] w wx)
  case atStart => exact ⟨rfl, Nat.le_refl _, by rw [List.drop_length]; exact RT.Own.nil _ _ _, by rw [List.drop_length]; exact RT.Own.nil _ _ _, Kp.refl _ _⟩
  case round =>
    obtain ⟨rfl, hgl, ho4, ho5, hkp⟩ := hrel
    have HO4 := Lib.hid ho4
    have HO5 := Lib.hid ho5
    have HK := Lib.hid hkp
    clear ho4 ho5
    cases gk with
    | zero =>
      have hgz : ¬ (0 : Int) ≤ ((0 : Nat) : Int) - 1 := by omega
      clear hkp
      rw [List.drop_zero] at HO4 HO5
      go_wp2
      go_ret2
      exact ⟨_, _, rfl, HO4.out, HO5.out, HK.out⟩
    | succ i =>
      have hi : i < L.length := by omega
      obtain ⟨b, o, rfl, hbl, hrw⟩ := HROW.out (by rintro rfl; simp at hi)
      obtain ⟨x, hx⟩ : ∃ x, L[i]? = some x := ⟨_, List.getElem?_eq_getElem hi⟩
      have hx0 := hx
      obtain ⟨c0, c1, c2⟩ := rvRow (hrw.keep (hkp.block b hbl (by simp))) hx
      have hin := (HIN.out x (List.mem_of_getElem? hx)).kp0 hkp
      have e1 : (((i + 1 : Nat) : Int) - 1) = (i : Int) := by omega
      have hiz : (i : Int) < (L.length : Int) := by omega
      have hi0 : (0 : Int) ≤ (i : Int) := by omega
      have HX := Lib.hid hx
      have HV := Lib.hid (value_any hin.1 hin.2 24)
      have hd := linkL_drop hx0
      have HD := Lib.hid hd
      rw [e1]
      obtain ⟨R, hR⟩ : ∃ R, (linkL (L.drop (i + 1))).1 = R := ⟨_, rfl⟩
      obtain ⟨F, hF⟩ : ∃ F, (linkL (L.drop (i + 1))).2 = F := ⟨_, rfl⟩
      rw [hR, hF] at HD
      rw [hR] at HO4
      rw [hF] at HO5
      have HRM := Lib.hid (show ∀ q ∈ R, q ∈ L from fun q hq => by rw [← hR] at hq; exact List.mem_of_mem_drop (linkL_mem _ _ hq))
      have hRl : R.length ≤ 1000 := by have := linkL_num (L.drop (i + 1)); rw [hR] at this; simp only [List.length_drop] at this; omega
      have hFl : F.length ≤ 1000 := by have := linkL_num (L.drop (i + 1)); rw [hF] at this; simp only [List.length_drop] at this; omega
      clear hin hx hx0 hd hR hF hkp
      obtain ⟨a4, n4, rfl⟩ := HO4.out.form
      obtain ⟨tt, htt⟩ : ∃ t, (x.to).getD [] = t := ⟨_, rfl⟩
      obtain ⟨js, hjs⟩ : ∃ t, (x.to).isSome = t := ⟨_, rfl⟩
      have HST := Lib.hid (stays_eq x R)
      rw [htt, hjs] at HST
      rw [optV_eq, show valO x.l 24 = x.to from rfl, htt, hjs] at HV
      clear htt hjs
      go_upto_region 9 with (go_at_call 31; refine Calls.mono (by with_reducible exact HV.out) ?_; rintro e w1 ⟨rfl, hk1⟩; have HK1 := Lib.hid (HK.out.trans hk1); have H41 := Lib.hid (HO4.out.kp0 hk1); have H51 := Lib.hid (HO5.out.kp0 hk1); clear hk1)
      obtain ⟨M, hM⟩ : ∃ M, (R.any fun q => q.lab.isSome && (q.lab.getD [] == tt)) = M := ⟨_, rfl⟩
      go_loopg [9, 10, 11, 12] R.length (fun g s9 s10 s11 s12 wx => ∃ k : Nat, s10 = .int .i64 (k : Int) ∧ s9 = .bool ((!js) || (R.take k).any fun q => q.lab.isSome && (q.lab.getD [] == tt)) ∧ k + g = R.length ∧ Kp [] w1 wx)
      case atStart => exact ⟨0, rfl, by simp, by omega, Kp.refl _ _⟩
      case round =>
        obtain ⟨k, rfl, rfl, hkg, hk2⟩ := hrel
        have HK2 := Lib.hid hk2
        by_cases hkR : k < R.length
        · obtain ⟨g, rfl⟩ : ∃ g, gk = g + 1 := ⟨gk - 1, by omega⟩
          obtain ⟨q, hq⟩ : ∃ q, R[k]? = some q := ⟨_, List.getElem?_eq_getElem hkR⟩
          have hkz : (k : Int) < (R.length : Int) := by omega
          have hwk : IntKind.i64.wrap ((k : Int) + 1) = ((k + 1 : Nat) : Int) := by rw [IntKind.wrap_i64]; omega
          have hsn := any_snoc R k q (fun q => q.lab.isSome && (q.lab.getD [] == tt)) hq
          have hin := (HIN.out q (HRM.out q (List.mem_of_getElem? hq))).kp0 (HK1.out.trans hk2)
          have HV2 := Lib.hid (value_any hin.1 hin.2 23)
          rw [optV_eq, show valO q.l 23 = q.lab from rfl] at HV2
          rcases H41.out.form2 with ⟨_, h2⟩ | ⟨gb, cap, hv, _, hglt, _, _, hrr⟩
          · subst h2
            simp at hkR
          cases hv
          obtain ⟨q0, q1, q2⟩ := rvRow (hrr.keep (hk2.block gb hglt (by simp))) hq
          simp only [Nat.zero_add] at q0 q1 q2
          obtain ⟨f, hf⟩ : ∃ f, ((!js) || (R.take k).any fun q => q.lab.isSome && (q.lab.getD [] == tt)) = f := ⟨_, rfl⟩
          obtain ⟨lb, hlb⟩ : ∃ t, (q.lab).getD [] = t := ⟨_, rfl⟩
          obtain ⟨hs, hhs⟩ : ∃ t, (q.lab).isSome = t := ⟨_, rfl⟩
          have HSN := Lib.hid (show ((!js) || (R.take (k + 1)).any fun q => q.lab.isSome && (q.lab.getD [] == tt)) = (f || (hs && (lb == tt))) by rw [hsn, ← Bool.or_assoc, hf, hlb, hhs])
          rw [hf]
          rw [hlb, hhs] at HV2
          have HKG := Lib.hid hkg
          have HTL := Lib.hid (show ((bs lb).toList == (bs tt).toList) = (lb == tt) by rw [toL, toL])
          clear hin hq hsn hf hlb hhs hk2 hkg hrr hglt
          cases f with
          | true =>
            go_wp2_with (go_at_call 31; refine Calls.mono (by with_reducible exact HV2.out) ?_; rintro e w3 ⟨rfl, hk3⟩; have HK3 := Lib.hid (HK2.out.trans hk3); clear hk3)
            go_roundg g
            case measure => omega
            case rel => exact ⟨k + 1, rfl, by rw [HSN.out]; rfl, by have := HKG.out; omega, HK3.out⟩
          | false =>
            cases hs with
            | false =>
              go_wp2_with (go_at_call 31; refine Calls.mono (by with_reducible exact HV2.out) ?_; rintro e w3 ⟨rfl, hk3⟩; have HK3 := Lib.hid (HK2.out.trans hk3); clear hk3)
              go_roundg g
              case measure => omega
              case rel => exact ⟨k + 1, rfl, by rw [HSN.out]; rfl, by have := HKG.out; omega, HK3.out⟩
            | true =>
              go_wp2_with (go_at_call 31; refine Calls.mono (by with_reducible exact HV2.out) ?_; rintro e w3 ⟨rfl, hk3⟩; have HK3 := Lib.hid (HK2.out.trans hk3); clear hk3)
              go_roundg g
              case measure => omega
              case rel => exact ⟨k + 1, rfl, by rw [HSN.out, ← HTL.out]; rfl, by have := HKG.out; omega, HK3.out⟩
        · have hkz : ¬ (k : Int) < (R.length : Int) := by omega
          have hkt : R.take k = R := List.take_of_length_le (by omega)
          rw [hkt, ← HST.out]
          have HK3 := Lib.hid (HK1.out.trans hk2)
          have H42 := Lib.hid (H41.out.kp0 hk2)
          have H52 := Lib.hid (H51.out.kp0 hk2)
          obtain ⟨c0, c1, c2⟩ := rvRow (hrw.keep ((HK1.out.trans hk2).block b hbl (by simp))) HX.out
          have HDX := Lib.hid (show linkL (L.drop i) = if staysR x R = true then (x :: R, F) else (R, x :: F) from HD.out)
          have hig : i ≤ L.length := by omega
          have hwi : IntKind.i64.wrap ((i : Int) - 1) = (i : Int) - 1 := by rw [IntKind.wrap_i64]; omega
          have HRL := Lib.hid (show ([x] : List RV).length + R.length ≤ 1000000 by simp; omega)
          have HFL := Lib.hid (show ([x.fl] : List FV).length + (F.map RV.fl).length ≤ 1000000 by simp; omega)
          have HIG := Lib.hid hig
          obtain ⟨st, hst⟩ : ∃ t, staysR x R = t := ⟨_, rfl⟩
          rw [hst]
          rw [hst] at HDX
          clear hkt hk2 hrw hst hig
          cases st with
          | true =>
            simp only [if_true] at HDX
            obtain ⟨Nb, hNb⟩ : ∃ Nb, wr.heap.size = Nb := ⟨_, rfl⟩
            obtain ⟨w7, hw7⟩ : ∃ w7, wr.alloc (.cells #[.string (bs x.file), .int .i64 x.line, .slice x.a x.n x.c] 63) = w7 := ⟨_, rfl⟩
            have HS7 := Lib.hid (show rvT.Own w7 w.heap.size (.slice (some ⟨Nb, 0, none⟩) 1 1) [x] from by
              have := own_singleR (r := rvT) (W := wr) x (rvC x) rfl HK3.out.size 1 rfl
              rw [hNb] at this
              rw [← hw7]
              exact this)
            have hk7 : Kp [] wr w7 := by rw [← hw7]; exact (Kp.refl [] _).alloc _
            have HK7 := Lib.hid (HK3.out.trans hk7)
            have H47 := Lib.hid (H42.out.kp0 hk7).any
            have H57 := Lib.hid (H52.out.kp0 hk7)
            have HNF := Lib.hid (show ∀ b, u5.ownBlock = some b → b ≠ Nb from fun b hb => by have := (H52.out.ge b hb).2; omega)
            clear hk7
            go_wp2_with (at_builtin; refine wpList_append_any (r := rvT) rfl (.tmp 60) (.tmp 61) rfl w.heap.size (.slice (some ⟨Nb, 0, none⟩) 1 1) (.slice a4 R.length n4) [x] R rfl HS7.out (by simp) rfl H47.out HRL.out HK7.out.size ?_; intro v8 w8 hown8 hgr8; have HO8 := Lib.hid hown8; have HK8 := Lib.hid (kp_grownS HK7.out hgr8 fun b hb => (HS7.out.ge b hb).1); have H58 := Lib.hid (H57.out.keep fun b hlt hb => hgr8.block b hlt (fun e => HNF.out b hb (by simpa [Value.ownBlock] using e))); clear hown8 hgr8)
            go_roundg i
            case measure => omega
            case rel => exact ⟨rfl, HIG.out, by rw [HDX.out]; exact HO8.out, by rw [HDX.out]; exact H58.out, HK8.out⟩
          | false =>
            simp only [Bool.false_eq_true, if_false] at HDX
            have HKA := Lib.hid fun A => (show Kp [] wr ((wr.drew).alloc A) from ((Kp.refl [] wr).drew 1).alloc A)
            go_wp2
            go_region_law (refine step_append_any (r := flT) rfl (.tmp 74) (.tmp 75) rfl w.heap.size (.slice (some ⟨wr.drew.heap.size, 0, none⟩) 1 1) u5 [x.fl] (F.map RV.fl) rfl (own_singleR (r := flT) (W := wr.drew) x.fl #[.string (bs x.file), .int .i64 x.line, .int .i64 107] rfl HK3.out.size 1 rfl) (by simp) rfl (H52.out.kp0 (HKA.out _)).any HFL.out (HK3.out.trans (HKA.out _)).size ?_; intro v8 w8 hown8 hgr8; have HO8 := Lib.hid hown8; have HK8 := Lib.hid (kp_grownS (HK3.out.trans (HKA.out _)) hgr8 fun b hb => by have := HK3.out.size; simp [Value.ownBlock] at hb; omega); have H48 := Lib.hid ((H42.out.kp0 (HKA.out _)).keep fun b hlt hb => hgr8.block b hlt (fun e => by have := (H42.out.ge b hb).2; simp [Value.ownBlock] at e; omega)); clear hown8 hgr8)
            all_goals
              go_wp2
              go_roundg i
              case measure => omega
              case rel => exact ⟨rfl, HIG.out, by rw [HDX.out]; exact H48.out, by rw [HDX.out]; exact HO8.out, HK8.out⟩
end Go.Proofs.YtkkibibecgcbmaaGreatDoor
