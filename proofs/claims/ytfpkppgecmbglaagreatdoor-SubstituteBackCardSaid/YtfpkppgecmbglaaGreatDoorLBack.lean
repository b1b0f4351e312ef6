/- SubstituteBack: the walk. -/
import Derived.Test.YtfpkppgecmbglaaGreatDoorZT
import Derived.Test.YtfpkppgecmbglaaGreatDoorZQ
import Derived.Test.YtfpkppgecmbglaaGreatDoorZF
import Derived.Test.YtfpkppgecmbglaaGreatDoorZB
import Derived.Test.YtfpkppgecmbglaaGreatDoorZS
import Derived.Test.YtfpkppgecmbglaaGreatDoorLPlain
namespace Go.Proofs.YtfpkppgecmbglaaGreatDoor
open Go.RowKit

set_option maxHeartbeats 16000000 in
set_option maxRecDepth 100000 in
theorem substituteBack_walk (a : Option Addr) (n c : Nat) (w : World) (hE : Env w) (g : Ints w w.heap.size (.slice a n c)) : Calls Tryz.prog 6 #[.slice a n c] w fun e w' => e = .returned (.bool true) ∧ Below w.heap.size w w' := by
  obtain ⟨tb, htb⟩ : ∃ tb, w.heap.size = tb := ⟨_, rfl⟩
  obtain ⟨W0, hW0⟩ : ∃ W0, w.alloc (.cells #[.slice a n c, .int .i64 0] 27) = W0 := ⟨_, rfl⟩
  have hk0 : Kp [] w W0 := by rw [← hW0]; exact (Kp.refl [] w).alloc _
  have hT0 : Tp W0 tb 0 := ⟨_, by rw [← hW0, ← htb]; exact heap_alloc_last w _, by rw [← htb]; exact g.keep fun b hb => hk0.block b hb (by simp)⟩
  have h8 : 8 ≤ tb := by rw [← htb]; exact hE.size
  have HE := Lib.hid (show ∀ W, Kp [tb] w W → Env W from fun W hk => hE.kp hk (by intro x hx; simp at hx; omega))
  have HK0 := Lib.hid (hk0.mono (t := [tb]) (by simp))
  have HPc := Lib.hid (pieces_any (by omega) hT0)
  unfold PiecesPost at HPc
  have HTB := Lib.hid htb
  have HW0 := Lib.hid hW0
  have HSM := Lib.hid fun (W : World) (u v : Value) (l : List Gp) (hl : l.length ≤ 1000) => same_any (w := W) (su := u) (sv := v) (l := l) (by omega)
  rw [htb]
  clear hE hk0 hT0 h8 g hW0 htb
  go_enter Tryz.func6, Tryz.ntmps6
  go_wp2_with fail
  rw [HTB.out, HW0.out]
  refine Calls.mono (by with_reducible exact HPc.out) ?_
  rintro e w1 ⟨v1, xs, q1, rfl, ho1, hxs, hq1, hT1, hk1⟩
  have HK1 := Lib.hid (HK0.out.trans hk1.out)
  have HX1 := Lib.hid ho1.out.has
  have HXL := Lib.hid (show xs.length ≤ 1000 by have := hxs.out.1; omega)
  have HF1 := Lib.hid (format_any (HE.out _ HK1.out) (by have := hxs.out.1; omega) HX1.out (fun x hx => by have := hxs.out.2 x hx; omega))
  have HBk := Lib.hid (fun s (h : formatE xs = (s, 0)) => format_parse h)
  obtain ⟨s1, e1, hf1⟩ : ∃ s e, formatE xs = (s, e) := ⟨_, _, rfl⟩
  rw [hf1] at HF1 HBk
  simp only at HF1
  have hq1b : q1 ≤ 60 := by have := hq1.out; omega
  clear ho1 hxs hq1 hk1 HPc HW0 HK0 hf1
  go_upto_if 30 with (go_at_call 18; refine Calls.mono (by with_reducible exact HF1.out) ?_; rintro e w2 ⟨rfl, hk2⟩; have HK2 := Lib.hid (HK1.out.trans (hk2.mono (by simp))); have HT2 := Lib.hid (hT1.out.kp hk2 (by simp)); have HX2 := Lib.hid (HX1.out.kp0 hk2); clear hk2)
  clear HF1 hT1 HK1 HX1
  go_cut [] (fun wx => Hid (Tp wx tb q1) ∧ Hid (Kp [tb] w wx))
  case first =>
    by_cases he1 : e1 = 0
    · subst he1
      obtain ⟨ps, hps, hpe, hsl⟩ := HBk.out s1 rfl
      have HP := Lib.hid (parse_any (HE.out _ HK2.out) s1 (by omega))
      unfold ParsePost at HP
      rw [hpe] at HP
      simp only at HP
      rw [← hps] at HP
      clear hps hpe hsl
      go_wp2_with (first
        | (go_at_call 13; refine Calls.mono (by with_reducible exact HP.out) ?_; rintro r w3 ⟨v3, rfl, ho3, hkp⟩; have HK3 := Lib.hid (HK2.out.trans (hkp.mono (by simp))); have HO3 := Lib.hid ho3; have HX3 := Lib.hid (HX2.out.kp0 hkp); have HT3 := Lib.hid (HT2.out.kp hkp (by simp)); clear hkp ho3)
        | (go_at_call 15; refine Calls.mono (by with_reducible exact HSM.out _ _ _ _ HXL.out HX3.out HO3.out.has) ?_; rintro r w4 ⟨rfl, hkp⟩; have HK4 := Lib.hid (HK3.out.trans (hkp.mono (by simp))); have HT4 := Lib.hid (HT3.out.kp hkp (by simp)); clear hkp))
      go_meet
      exact ⟨HT4, HK4⟩
    · have hz1 : (e1 == 0) = false := beq_eq_false_iff_ne.2 he1
      go_wp2
      go_meet
      exact ⟨HT2, HK2⟩
  obtain ⟨HTc, HKc⟩ := hcut
  clear HX2 HT2 HK2 HXL HBk
  have HTm := Lib.hid (template_any true (by omega) HTc.out)
  unfold TemplPost at HTm
  have HEc := Lib.hid (HE.out _ HKc.out)
  go_upto_region 9 with (go_at_call 12; refine Calls.mono (by with_reducible exact HTm.out) ?_; rintro e w5 ⟨s, q5, hsl, hq5, rfl, hT5, hk5⟩; have HT5 := Lib.hid hT5; have HK5 := Lib.hid (HKc.out.trans hk5); have HSL := Lib.hid hsl; clear hT5 hk5 hsl)
  clear HTm HTc HKc HEc
  have hq5b : q5 ≤ 200 := by omega
  have HP := Lib.hid (parse_any (HE.out _ HK5.out) s (by have := HSL.out; omega))
  have hPL : (parseE s).1.length ≤ 256 := (parseE_read s).2
  unfold ParsePost at HP
  obtain ⟨ps, ep, hpe⟩ : ∃ P e, parseE s = (P, e) := ⟨_, _, rfl⟩
  have hrd := parseE_text s
  rw [hpe] at HP hPL hrd
  simp only at HP hPL hrd
  have HRd := Lib.hid hrd
  clear hrd
  have HPE := Lib.hid hpe
  clear hpe hq5
  go_upto_region 10 with (go_at_call 13; refine Calls.mono (by with_reducible exact HP.out) ?_; rintro r w6 ⟨v6, rfl, ho6, hkp⟩; have HK6 := Lib.hid (HK5.out.trans (hkp.mono (by simp))); have HO6 := Lib.hid ho6; have HT6 := Lib.hid (HT5.out.kp hkp (by simp)); clear hkp ho6)
  clear HP HT5 HK5
  by_cases hep : ep = 0
  rotate_left
  · have hz : (ep != 0) = true := by simpa using hep
    have HKN := Lib.hid (known_any (HE.out _ HK6.out))
    go_wp2_with (go_at_call 11; refine Calls.mono (by with_reducible exact HKN.out) ?_; rintro r w7 ⟨rfl, hkp⟩; have HK7 := Lib.hid (HK6.out.trans (hkp.mono (by simp))); clear hkp)
    go_ret
    exact ⟨rfl, HK7.out.below (by rw [HTB.out]; exact Nat.le_refl _) (by simp)⟩
  subst hep
  have HX6 := Lib.hid HO6.out.has
  have HF2 := Lib.hid (format_any (HE.out _ HK6.out) (by rw [List.length_map]; omega) HX6.out (fun x hx => by
    obtain ⟨p, hp, rfl⟩ := List.mem_map.1 hx
    have h2 := HRd.out p hp
    show p.text.length ≤ 1000000000000
    omega))
  have HBk := Lib.hid (fun u (h : formatE (ps.map Pc.g) = (u, 0)) => format_parse h)
  obtain ⟨u, eu, hfu⟩ : ∃ s e, formatE (ps.map Pc.g) = (s, e) := ⟨_, _, rfl⟩
  rw [hfu] at HF2 HBk
  simp only at HF2
  clear hfu hPL
  go_upto_region 13 with (go_at_call 18; refine Calls.mono (by with_reducible exact HF2.out) ?_; rintro e w7 ⟨rfl, hk7⟩; have HK7 := Lib.hid (HK6.out.trans (hk7.mono (by simp))); have HT7 := Lib.hid (HT6.out.kp hk7 (by simp)); clear hk7)
  clear HF2 HT6 HK6 HX6 HO6
  by_cases heu : eu = 0
  rotate_left
  · have hz : (eu != 0) = true := by simpa using heu
    have HKN := Lib.hid (known_any (HE.out _ HK7.out))
    go_wp2_with (go_at_call 11; refine Calls.mono (by with_reducible exact HKN.out) ?_; rintro r w8 ⟨rfl, hkp⟩; have HK8 := Lib.hid (HK7.out.trans (hkp.mono (by simp))); clear hkp)
    go_ret
    exact ⟨rfl, HK8.out.below (by rw [HTB.out]; exact Nat.le_refl _) (by simp)⟩
  subst heu
  have HUP := Lib.hid (show parseE u = (ps, 0) ∧ u.length ≤ 256 from by
    obtain ⟨ps2, h1, h2, h3⟩ := HBk.out u rfl
    rw [g_inj h1]
    exact ⟨h2, h3⟩)
  have HV := Lib.hid (values_at (by omega) HT7.out)
  unfold ValsPost at HV
  clear HBk HRd
  go_wp2_with fail
  refine Calls.mono (by with_reducible exact HV.out) ?_
  rintro e w8 ⟨v, av, bv, cv, rfl, hin, hk8⟩
  obtain ⟨sa, ca, rfl, -⟩ := hin.ha.form
  obtain ⟨sb, cb, rfl, -⟩ := hin.hb.form
  obtain ⟨sc, cc, rfl, -⟩ := hin.hc.form
  unfold vsC
  obtain ⟨V, hV⟩ : ∃ V, w8.heap.size = V := ⟨_, rfl⟩
  obtain ⟨W1, hW1⟩ : ∃ W1, w8.alloc (.cells #[.string (bs v.kernel), .string (bs v.devpath), .string (bs v.id), .string (bs v.driver), .string (bs v.parent), .string (bs v.name), .string (bs v.result), .slice sa v.attrs.length ca, .slice sb v.above.length cb, .slice sc v.env.length cc] 43) = W1 := ⟨_, rfl⟩
  have hk11 : Kp [] w8 W1 := by rw [← hW1]; exact (Kp.refl [] w8).alloc _
  have hVb : W1.heap[V]? = some (.cells (vsC v (.slice sa v.attrs.length ca) (.slice sb v.above.length cb) (.slice sc v.env.length cc)) 43 (0, 0)) := by rw [← hW1, ← hV]; exact heap_alloc_last w8 _
  have HKW := Lib.hid (HK7.out.trans (hk8.trans (hk11.mono (by simp))))
  have HH := Lib.hid (show Hold W1 V v (.slice sa v.attrs.length ca) (.slice sb v.above.length cb) (.slice sc v.env.length cc) from ⟨HE.out _ HKW.out, hin.kp0 hk11, hVb⟩)
  have HC := Lib.hid (fun (t : List UInt8) (ht : t.length ≤ 300) (hp : parseE t = (ps, 0)) W (hw : Kp [] W1 W) => (show Calls Tryz.prog 21 #[.string (bs t), .agg #[.string (bs v.kernel), .string (bs v.devpath), .string (bs v.id), .string (bs v.driver), .string (bs v.parent), .string (bs v.name), .string (bs v.result), .slice sa v.attrs.length ca, .slice sb v.above.length cb, .slice sc v.env.length cc]] W (fun e w' => e = .returned (.tuple #[.string (bs (expandL v ps)), .int .i64 0]) ∧ Kp [] W w') from (HH.out.kp0 hw).call t _ 0 (by omega) (by unfold expandE; rw [hp]; rfl)))
  have HVV := Lib.hid hV
  have HW1 := Lib.hid hW1
  clear hV hW1 hk11 hVb hin hk8 HV HK7 HT7 HE HSM
  go_upto_region 16 with fail
  rw [HVV.out, HW1.out]
  obtain ⟨c0, c1, c2, c3, c4, c5, c6, c7, c8, c9⟩ := HH.out.cells
  go_upto_region 17 with (go_at_call 21; refine Calls.mono (by with_reducible exact HC.out _ (by have := HSL.out; omega) HPE.out _ (Kp.refl [] W1)) ?_; rintro e w9 ⟨rfl, hk9⟩; have HK9 := Lib.hid hk9; clear hk9)
  clear c0 c1 c2 c3 c4 c5 c6 c7 c8 c9
  obtain ⟨c0, c1, c2, c3, c4, c5, c6, c7, c8, c9⟩ := (HH.out.kp0 HK9.out).cells
  go_upto_region 18 with (go_at_call 21; refine Calls.mono (by with_reducible exact HC.out _ (by have := HUP.out.2; omega) HUP.out.1 _ HK9.out) ?_; rintro e wa ⟨rfl, hka⟩; have HKa := Lib.hid (HK9.out.trans hka); clear hka)
  clear c0 c1 c2 c3 c4 c5 c6 c7 c8 c9
  have HKN := Lib.hid (known_any (HH.out.kp0 HKa.out).1)
  generalize expandL v ps = y
  go_wp2_with (go_at_call 11; refine Calls.mono (by with_reducible exact HKN.out) ?_; rintro e wb ⟨rfl, hkb⟩)
  go_ret
  exact ⟨rfl, (HKW.out.trans ((HKa.out.trans hkb).mono (by simp))).below (by rw [HTB.out]; exact Nat.le_refl _) (by simp)⟩
end Go.Proofs.YtfpkppgecmbglaaGreatDoor
