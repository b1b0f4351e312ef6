/- The walk of GrammarLinks, where it is known what is left out. -/
import Derived.Test.YtkkibibecgcbmaaGreatDoorKHg
namespace Go.Proofs.YtkkibibecgcbmaaGreatDoor
open Go.RowKit

theorem Ins.inH {W : World} {B : Nat} {x : RV} (h : Ins W B x) (hl : x.l.length ≤ 1000000) : InH W x := ⟨RT.Own.has h, hl⟩
/-- What leftOut says, of rules of the tape. -/
def LeftOut : Prop := ∀ (W : World) (rv : Value) (L : List RV), L.length ≤ 8 → rvT.Has W rv L → (∀ x ∈ L, InH W x ∧ TermsOk x.l) →
  Calls Tryz.prog 55 #[rv] W fun e w' => ∃ v, e = .returned v ∧ blT.Own w' W.heap.size v (outL L) ∧ Kp [] W w'
theorem pl_mem {M L : List RV} {K : List RV} (h : M.map RV.pl = K.map RV.pl) (hk : ∀ x ∈ K, x ∈ L) {x : RV} (hx : x ∈ M) : ∃ y ∈ L, y.l = x.l := by
  have h1 : x.pl ∈ K.map RV.pl := by rw [← h]; exact List.mem_map.2 ⟨x, hx, rfl⟩
  obtain ⟨y, hy, he⟩ := List.mem_map.1 h1
  exact ⟨y, hk y hy, by simpa [RV.pl] using (Prod.mk.inj (Prod.mk.inj he).2).2⟩
set_option maxHeartbeats 16000000 in
set_option maxRecDepth 100000 in
theorem grammarLinks_list (hlo : LeftOut) (a : Option Addr) (n c : Nat) (w : World) (hE : Env w) (hi : Ints w w.heap.size (.slice a n c)) : Calls Tryz.prog 8 #[.slice a n c] w fun e w' => e = .returned (.bool true) ∧ Kp [] w w' := by
  obtain ⟨tb, htb⟩ : ∃ tb, w.heap.size = tb := ⟨_, rfl⟩
  obtain ⟨w1, hw1⟩ : ∃ w1, w.alloc (.cells #[.slice a n c, .int .i64 0] 28) = w1 := ⟨_, rfl⟩
  have ht0 := tape_new hi
  rw [hw1, htb] at ht0
  have hk1 : Kp [] w w1 := by rw [← hw1]; exact (Kp.refl [] w).alloc _
  have HTW := Lib.hid (show w.heap.size ≤ tb by omega)
  have HK1 := Lib.hid hk1
  have HR := Lib.hid (rules_any (n := 0) (by omega) ht0.lt ⟨0, Nat.le_refl _, ht0⟩)
  have HKN := Lib.hid fun W (h : Kp [] w W) => known_any (hE.kp0 h)
  have HLO := Lib.hid hlo
  clear ht0 hi hk1 hE hlo
  go_enter Tryz.func8, Tryz.ntmps8
  go_upto_region 2 with (go_at_call 28; refine Calls.mono (by with_reducible exact HR.out) ?_; rintro r w2 ⟨v, L, rfl, ho, hl, hin, hkp⟩)
  obtain ⟨av, cv, rfl⟩ := ho.form
  have HK2 := Lib.hid (HK1.out.off hkp HTW.out)
  have hinh : ∀ x ∈ L, InH w2 x ∧ TermsOk x.l := fun x hx => ⟨(hin x hx).1.inH (by have := (hin x hx).2.1.2.1; omega), (hin x hx).2.1⟩
  have HIN := Lib.hid hinh
  have HHS := Lib.hid ho.has
  have HL := Lib.hid (show L.length ≤ 1000 by omega)
  have HLK := Lib.hid (link_any (by omega) ho.has (fun x hx => ⟨(hinh x hx).1, (hinh x hx).2.1⟩) (HLO.out w2 _ L hl ho.has hinh))
  have hnum := linkL_num L
  have HMM := Lib.hid (show ∀ x ∈ (linkL L).1, x ∈ L from fun x hx => linkL_mem L x hx)
  have HF1 := Lib.hid (show ∀ W, Kp [] w2 W → Calls Tryz.prog 30 #[.slice av L.length cv] W fun e w' => ∃ v1 v2, e = .returned (.tuple #[v1, v2]) ∧ rvT.Own w' W.heap.size v1 (linkL L).1 ∧ flT.Own w' W.heap.size v2 ((linkL L).2.map RV.fl) ∧ Kp [] W w' from fun W h => refLink_any HL.out (HHS.out.kp0 h) fun x hx => (HIN.out x hx).1.kp0 h)
  obtain ⟨F, hF⟩ : ∃ F, (linkL L).2.map RV.fl = F := ⟨_, rfl⟩
  obtain ⟨K, hK⟩ : ∃ K, (linkL L).1 = K := ⟨_, rfl⟩
  have hFl : F.length = (linkL L).2.length := by rw [← hF]; simp
  rw [← hFl, hK] at hnum
  rw [hF, hK] at HLK HF1
  rw [hK] at HMM
  clear hinh ho hl hin hkp hF hK hFl
  have hb : F.length ≤ 1000000 ∧ K.length ≤ 1000000 := by have := HL.out; omega
  have HB := Lib.hid hb
  clear hb
  go_upto_region 4 with (first
    | (go_at_call 29; refine Calls.mono (by with_reducible exact HLK.out) ?_; rintro r w3 ⟨v1, v2, M, rfl, h1, h2, h3, h4, hkp⟩; obtain ⟨a1, c1, rfl⟩ := h1.form; obtain ⟨a2, c2, rfl⟩ := h4.form; have HK3 := Lib.hid (HK2.out.trans hkp); have HK23 := Lib.hid hkp; have HM3 := Lib.hid h1.has; have HF3 := Lib.hid h4.has; have HP3 := Lib.hid h3; have HI3 := Lib.hid (show ∀ x ∈ M, InH w3 x from fun x hx => (h2 x hx).inH (by obtain ⟨y, hy, he⟩ := pl_mem h3 HMM.out hx; have := (HIN.out y hy).2.2.1; rw [← he]; omega)); clear h1 h2 h3 h4 hkp)
    | (go_at_call 30; refine Calls.mono (by with_reducible exact HF1.out _ HK23.out) ?_; rintro r w4 ⟨v3, v4, rfl, h1, h2, hkp⟩; have HK4 := Lib.hid (HK3.out.trans hkp); have HM4 := Lib.hid (HM3.out.kp0 hkp); have HF4 := Lib.hid (HF3.out.kp0 hkp); have HI4 := Lib.hid (fun x hx => (HI3.out x hx).kp0 hkp); have HR4 := Lib.hid h1.has; have HG4 := Lib.hid h2.has; have HJ4 := Lib.hid (fun x hx => ((HIN.out x (HMM.out x hx)).1.kp0 (HK23.out.trans hkp))); clear h1 h2 hkp))
  have hml : M.length = K.length := by have := congrArg List.length HP3.out; simpa using this
  have hsum : IntKind.i64.wrap ((M.length : Int) + (F.length : Int)) = (L.length : Int) := by rw [IntKind.wrap_i64]; have := HL.out; omega
  have HS := Lib.hid (sameRules_any (by rw [hml]; exact HB.out.2) HM4.out HR4.out HI4.out HJ4.out HP3.out)
  have HT := Lib.hid fun W (h : Kp [] w4 W) => sameFaults_any (l := F) HB.out.1 (HF4.out.kp0 h) (HG4.out.kp0 h)
  clear hml hnum
  go_wp2_with (first
    | (go_at_call 26; refine Calls.mono (by with_reducible exact HS.out) ?_; rintro r w5 ⟨rfl, hkp⟩; have HK5 := Lib.hid (HK4.out.trans hkp); have HK45 := Lib.hid hkp; clear hkp)
    | (go_at_call 27; refine Calls.mono (by with_reducible exact HT.out _ HK45.out) ?_; rintro r w6 ⟨rfl, hkp⟩; have HK6 := Lib.hid (HK5.out.trans hkp); clear hkp)
    | (go_at_call 11; refine Calls.mono (by with_reducible exact HKN.out _ HK6.out) ?_; rintro r w7 ⟨rfl, hkp⟩; have HK7 := Lib.hid (HK6.out.trans hkp); clear hkp))
  go_ret
  exact ⟨rfl, HK7.out⟩
end Go.Proofs.YtkkibibecgcbmaaGreatDoor
