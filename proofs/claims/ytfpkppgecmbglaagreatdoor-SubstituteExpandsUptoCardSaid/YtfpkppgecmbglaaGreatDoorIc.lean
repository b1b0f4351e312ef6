/- The reference's add. -/
import Derived.Test.YtfpkppgecmbglaaGreatDoorN
namespace Go.Proofs.YtfpkppgecmbglaaGreatDoor
open Go.RowKit

set_option maxHeartbeats 4000000 in
set_option maxRecDepth 100000 in
theorem refAdd_any {w : World} {B : Nat} {v : Value} (acc : List Pc) (p : Pc) (h : gpT.Own w B v (acc.map Pc.g)) (hB : B ≤ w.heap.size) (hl : acc.length ≤ 900000) (hz : tsum acc + p.text.length ≤ 1000000000) :
    Calls Tryz.prog 33 #[v, .agg (gpC p.g)] w fun e w' => ∃ v', e = .returned v' ∧ gpT.Own w' B v' ((addP acc p).map Pc.g) ∧ Below B w w' := by
  obtain ⟨W, hW⟩ : ∃ W, w.alloc (.cells (gpC p.g) 61) = W := ⟨_, rfl⟩
  obtain ⟨W2, hW2⟩ : ∃ W2, W.alloc (.cells (gpC p.g) 61) = W2 := ⟨_, rfl⟩
  obtain ⟨T, hT⟩ : ∃ T, w.heap.size = T := ⟨_, rfl⟩
  obtain ⟨N, hN⟩ : ∃ N, T + 1 = N := ⟨_, rfl⟩
  have hsz : W.heap.size = N := by rw [← hW]; simp; omega
  have hPT : PAt W T p.g := by rw [← hW, ← hT]; exact PAt.new w p.g
  have hPN : PAt W2 N p.g := by rw [← hW2, ← hsz]; exact PAt.new W p.g
  have hK : Kp [] w W := by rw [← hW]; exact (Kp.refl [] w).alloc _
  have hK2 : Kp [] w W2 := by rw [← hW2]; exact hK.alloc _
  have hO := h.kp0 hK
  have hO2 := h.kp0 hK2
  have hlT : ∀ b, v.ownBlock = some b → b ≠ T := fun b hb => by have := (h.ge b hb).2; omega
  obtain ⟨c0, c1, c2, c3⟩ := hPT.cells
  have HO := Lib.hid hO
  have HO2 := Lib.hid hO2
  have HBe := Lib.hid (hK.below hB (by simp))
  have HB2 := Lib.hid (hK2.below hB (by simp))
  have HPN := Lib.hid hPN.range
  have HW := Lib.hid hW
  have HW2 := Lib.hid hW2
  have HT := Lib.hid hT
  have HN := Lib.hid hN
  have HG := Lib.hid hlT
  have HS := Lib.hid hsz
  have HPT := Lib.hid hPT
  have HBW := Lib.hid (show B ≤ W2.heap.size from Nat.le_trans hB hK2.size)
  have hf := h.form
  clear hPT hPN hO hO2 hK hK2 hW hW2 hT hN hlT h hsz
  obtain ⟨pk, pt, pw, pm⟩ := p
  have HV := Lib.hid fun b (hb : v.ownBlock = some b) => (HO2.out.ge b hb).1
  simp only [Pc.g, gpC] at c0 c1 c2 c3 HW HW2 HPN HPT ⊢
  simp only at hz
  have HA := Lib.hid (show (acc.getLast? = none ∨ pk ≠ 1 ∨ ∃ q, acc.getLast? = some q ∧ q.kind ≠ 1) → addP acc ⟨pk, pt, pw, pm⟩ = acc ++ [⟨pk, pt, pw, pm⟩] from fun h => by
    rcases h with h | h | ⟨q, h, hq⟩
    · unfold addP
      rw [h]
    · exact addP_new _ _ (.inl h)
    · exact addP_new _ _ (.inr fun q' h' => by rw [h] at h'; cases h'; exact hq))
  obtain ⟨va, vc, rfl⟩ := hf
  rw [List.length_map] at HO HO2 HG HV ⊢
  have hlen : (acc.map Pc.g).length ≤ 1000000 := by rw [List.length_map]; omega
  have HLE := Lib.hid hlen
  clear hlen
  cases hla : acc.getLast? with
  | none =>
    have h0 : acc = [] := List.getLast?_eq_none_iff.1 hla
    have he := HA.out (.inl hla)
    subst h0
    rw [he]
    clear HA he hla
    simp only [List.length_nil] at HO HO2 HG HV ⊢
    go_enter Tryz.func33, Tryz.ntmps33
    go_upto_region 1 with fail
    rw [HT.out, HW.out]
    go_wp2_with (first
      | (at_builtin; rw [HS.out, HW2.out]; refine wpList_append_r (r := gpT) rfl (.tmp 35) (.tmp 37) rfl B (.slice va 0 vc) _ rfl HO2.out N 1 ⟨(pk : Int), pt, (pw : Int), pm⟩ rfl HPN.out HLE.out HBW.out ?_; intro v8 w8 hown8 hgr8; have HO8 := Lib.hid hown8; have HK8 := Lib.hid (kp_grownB HB2.out HBW.out hgr8 HV.out); clear hown8 hgr8))
    go_ret
    exact ⟨v8, rfl, by simpa [Pc.g] using HO8.out, HK8.out⟩
  | some q =>
    obtain ⟨l, rfl⟩ := List.getLast?_eq_some_iff.1 hla
    have HLL := Lib.hid hla
    clear hla
    rw [List.length_append, List.length_singleton] at HO HO2 HG HV hl ⊢
    have hO := HO.out
    rw [List.map_append, List.map_cons, List.map_nil] at hO
    obtain ⟨g, cap, hv, hBg, hgl, hfz, d0, d1, hput⟩ := gp_store hO
    rw [List.length_map] at hv hfz d0 d1 hput
    cases hv
    clear hO
    have HPU := Lib.hid hput
    have hgT := HG.out g rfl
    clear hput
    have hlw : IntKind.i64.wrap ((l.length : Int) + 1 - 1) = (l.length : Int) := by rw [IntKind.wrap_i64]; omega
    have hge : (0 : Int) ≤ (l.length : Int) := by omega
    have hlt : (l.length : Int) < (l.length : Int) + 1 := by omega
    have hpkq : (q.kind : Int) = q.g.kind := rfl
    rw [← hpkq] at d0
    by_cases hpk : pk = 1
    · by_cases hq : q.kind = 1
      · have he : addP (l ++ [q]) ⟨pk, pt, pw, pm⟩ = l ++ [⟨q.kind, q.text ++ pt, q.word, q.more⟩] := by
          unfold addP
          rw [HLL.out]
          simp only [hpk, hq, and_self, if_true, List.dropLast_concat]
        rw [he]
        have hqi : ((q.kind : Int) == 1) = true := by rw [beq_iff_eq]; omega
        have hpi : ((pk : Int) == 1) = true := by rw [beq_iff_eq]; omega
        have hts : q.text.length ≤ tsum (l ++ [q]) := by simp [tsum]
        have hadd := fun W => @run_add_str Tryz.prog W (bs q.text) (bs pt) (by rw [bs_size, bs_size]; omega)
        rw [bs_app] at hadd
        have d1' : W.cell? ⟨g, l.length * 4 + 1, none⟩ = some (.string (bs q.text)) := d1
        have HP2 := Lib.hid (show gpT.Own (W.setCell ⟨g, l.length * 4 + 1, none⟩ (.string (bs (q.text ++ pt)))).drew B (.slice (some ⟨g, 0, none⟩) (l.length + 1) vc) ((l ++ [(⟨q.kind, q.text ++ pt, q.word, q.more⟩ : Pc)]).map Pc.g) by
          rw [List.map_append]
          exact (HPU.out (q.text ++ pt)).kp0 ((Kp.refl [] _).drew 1))
        have hb2 := HBe.out.setCell (p := ⟨g, l.length * 4 + 1, none⟩) hBg (.string (bs (q.text ++ pt)))
        have HB3 := Lib.hid hb2
        clear HA he hq hpk d1 hb2 hts
        go_enter Tryz.func33, Tryz.ntmps33
        go_upto_region 1 with fail
        rw [HT.out, HW.out]
        go_wp2_with fail
        go_region
        all_goals go_wp2
        all_goals go_ret
        all_goals exact ⟨_, rfl, HP2.out, HB3.out.os, HB3.out.tape, HB3.out.output, HB3.out.size, HB3.out.block⟩
      · have he := HA.out (.inr (.inr ⟨q, HLL.out, hq⟩))
        rw [he]
        have hqi : ((q.kind : Int) == 1) = false := by rw [beq_eq_false_iff_ne]; omega
        have hpi : ((pk : Int) == 1) = true := by rw [beq_iff_eq]; omega
        clear HA he hq hpk
        go_enter Tryz.func33, Tryz.ntmps33
        go_upto_region 1 with fail
        rw [HT.out, HW.out]
        go_wp2_with (first
          | (at_builtin; rw [HS.out, HW2.out]; refine wpList_append_r (r := gpT) rfl (.tmp 35) (.tmp 37) rfl B (.slice (some ⟨g, 0, none⟩) (l.length + 1) vc) _ rfl HO2.out N 1 ⟨(pk : Int), pt, (pw : Int), pm⟩ rfl HPN.out HLE.out HBW.out ?_; intro v8 w8 hown8 hgr8; have HO8 := Lib.hid hown8; have HK8 := Lib.hid (kp_grownB HB2.out HBW.out hgr8 HV.out); clear hown8 hgr8))
        go_ret
        exact ⟨v8, rfl, by simpa [Pc.g] using HO8.out, HK8.out⟩
    · have he := HA.out (.inr (.inl hpk))
      rw [he]
      have hpi : ((pk : Int) == 1) = false := by rw [beq_eq_false_iff_ne]; omega
      clear HA he
      go_enter Tryz.func33, Tryz.ntmps33
      go_upto_region 1 with fail
      rw [HT.out, HW.out]
      go_wp2_with (first
        | (at_builtin; rw [HS.out, HW2.out]; refine wpList_append_r (r := gpT) rfl (.tmp 35) (.tmp 37) rfl B (.slice (some ⟨g, 0, none⟩) (l.length + 1) vc) _ rfl HO2.out N 1 ⟨(pk : Int), pt, (pw : Int), pm⟩ rfl HPN.out HLE.out HBW.out ?_; intro v8 w8 hown8 hgr8; have HO8 := Lib.hid hown8; have HK8 := Lib.hid (kp_grownB HB2.out HBW.out hgr8 HV.out); clear hown8 hgr8))
      go_ret
      exact ⟨v8, rfl, by simpa [Pc.g] using HO8.out, HK8.out⟩
end Go.Proofs.YtfpkppgecmbglaaGreatDoor
