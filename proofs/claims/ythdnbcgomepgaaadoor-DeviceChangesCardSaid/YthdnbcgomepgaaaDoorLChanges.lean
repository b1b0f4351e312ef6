/- DeviceChanges: the walk. -/
import Derived.Test.YthdnbcgomepgaaaDoorK3
namespace Go.Proofs.YthdnbcgomepgaaaDoor
open Go.RowKit

theorem ints_move {w W : World} {lv : Value} (h : Ints w w.heap.size lv) (hb : Below w.heap.size w W) : Ints W W.heap.size lv := by
  rcases h.keep (fun b hbl => hb.block b hbl) with h | ⟨b, o, n, c, hv, hbl, hz⟩
  · exact .inl h
  · exact .inr ⟨b, o, n, c, hv, Nat.lt_of_lt_of_le hbl hb.size, hz⟩

set_option maxHeartbeats 4000000 in
set_option maxRecDepth 100000 in
theorem deviceChanges_walk (la : Option Addr) (ln lc : Nat) (ma : Option Addr) (mn mc : Nat) (w : World) (hm : Max w) (h : Ints w w.heap.size (.slice la ln lc)) (h2 : Ints w w.heap.size (.slice ma mn mc)) :
    Calls Tryd.prog 9 #[.slice la ln lc, .slice ma mn mc] w (Bel (.bool true) w) := by
  have HM := Lib.hid hm
  have H0 := Lib.hid (attrs_any w.heap.size 0 (w.alloc (.cells #[.slice la ln lc, .int .i64 0] 30)) (by omega) (tape_new w _ h))
  have H2 := Lib.hid h2
  clear hm h h2
  go_enter Tryd.func9, Tryd.ntmps9
  go_wp2_with fail
  refine H0.out.mono ?_
  rintro e W1 ⟨ua, a, k1, rfl, hown, hga, hlena, hk1, hT, hg⟩
  have hb1 : Below w.heap.size w W1 := below_tape ((Below.refl _ w).alloc (Nat.le_refl _) _) (by simp) (Nat.le_refl _) hg
  have Hb1 := Lib.hid hb1
  have Hown := Lib.hid hown
  have H3 := Lib.hid (attrs_any W1.heap.size 0 (W1.alloc (.cells #[.slice ma mn mc, .int .i64 0] 30)) (by omega) (tape_new W1 _ (ints_move H2.out hb1)))
  clear hown hT hg hb1 H0 H2
  go_wp2_with fail
  refine H3.out.mono ?_
  rintro e W2 ⟨ub, b, k2, rfl, hownb, hgb, hlenb, hk2, hT, hg⟩
  have hb2 : Below w.heap.size w W2 := below_tape (Hb1.out.alloc Hb1.out.size _) (Nat.le_trans Hb1.out.size (by simp)) Hb1.out.size hg
  have hgg : W1.grownBy W2 (some W1.heap.size) := (World.grownBy_alloc _ _ _).trans hg
  have hsa := (Hown.out.keep (w' := W2) fun k hk _ => hgg.block k hk (fun e => by have := Option.some.inj e; omega)).sub
  have hsb := hownb.sub
  have Sa := Lib.hid hsa
  have Sb := Lib.hid hsb
  have Hb2 := Lib.hid hb2
  have HC1 := Lib.hid (changed_any _ _ a b W2 (by omega) (by omega) hga.1 hgb.1 hsa hsb)
  clear hownb hT hg hb2 hgg hsa hsb H3 Hown Hb1 hk1 hk2
  go_wp2_with fail
  refine HC1.out.mono ?_
  rintro e W3 ⟨u, ns, rfl, hu, hch, hnl, hb3⟩
  have Hu3 := Lib.hid hu
  have Hch := Lib.hid hch
  have Hb3 := Lib.hid hb3
  have HC2 := Lib.hid (refChanged_any _ _ a b W3 (by omega) (by omega) hga.1 (Sa.out.below hb3).has (Sb.out.below hb3).has)
  have hpk : pick a b (allP a ⟨#[120]⟩ b) = ns := isCh_unique (pick_isCh (allP_srt b hga.1) fun n hn => allP_has (by simp) b a n hn) hch
  rw [hpk] at HC2
  clear hu hch hb3 hpk HC1
  go_wp2_with fail
  refine HC2.out.mono ?_
  rintro e W4 ⟨v, rfl, hv, hb4⟩
  have Hb4 := Lib.hid (Hb3.out.trans (hb4.mono Hb3.out.size))
  have Hu4 := Lib.hid (Hu3.out.below hb4)
  have HC3 := Lib.hid (sameTexts_any _ _ _ _ ns W4 (by omega) Hu4.out hv)
  clear hv hb4 HC2
  go_wp2_with fail
  refine HC3.out.mono ?_
  rintro e W5 ⟨rfl, hb5⟩
  have Hb5 := Lib.hid (Hb4.out.trans (hb5.mono Hb4.out.size))
  have Hu5 := Lib.hid (Hu4.out.below hb5)
  have HC4 := Lib.hid (changed_any _ _ a a W5 (by omega) (by omega) hga.1 hga.1 (Sa.out.below Hb5.out) (Sa.out.below Hb5.out))
  clear hb5 HC3
  go_wp2_with fail
  refine HC4.out.mono ?_
  rintro e W6 ⟨u', ns', rfl, hu', hch', hnl', hb6⟩
  obtain rfl := isCh_self hch'
  have hlen' : ∃ ad c, u' = .slice ad 0 c := by
    rcases hu'.form with ⟨rfl, _⟩ | ⟨g, cap, rfl, _⟩
    · exact ⟨_, _, rfl⟩
    · exact ⟨_, _, rfl⟩
  obtain ⟨ad', c', rfl⟩ := hlen'
  have Hb6 := Lib.hid (Hb5.out.trans (hb6.mono Hb5.out.size))
  have Hu6 := Lib.hid (Hu5.out.below hb6)
  have Sa6 := Lib.hid (Sa.out.below Hb6.out)
  have Sb6 := Lib.hid (Sb.out.below Hb6.out)
  have hform : ∃ ad c, u = .slice ad ns.length c ∧ (ns ≠ [] → ∃ g, ad = some ⟨g, 0, none⟩ ∧ g < W6.heap.size ∧ ∀ (j : Nat) x, ns[j]? = some x → W6.cell? ⟨g, j, none⟩ = some (.string x)) := by
    rcases Hu6.out.form with ⟨rfl, hn⟩ | ⟨g, cap, rfl, _, hg, hc⟩
    · exact ⟨_, _, by rw [hn]; rfl, fun h => absurd hn h⟩
    · exact ⟨_, _, rfl, fun _ => ⟨g, rfl, hg, hc⟩⟩
  obtain ⟨adu, cu, rfl, hrow⟩ := hform
  have Hrow := Lib.hid hrow
  have Hb := Lib.hid (Hb2.out.trans (Hb6.out.mono Hb2.out.size))
  have hnl2 : ns.length ≤ 8 := by omega
  clear hu' hch' hb6 HC4 hrow hnl'
  go_wp2_with fail
  go_loopw [5, 8] (fun s5 s8 wx => ∃ i : Nat, i ≤ ns.length ∧ s8 = .int .i64 i ∧ Has wx s5 (curP a b (ns.take i)) ∧ Below W6.heap.size W6 wx) (fun _ s8 _ => ns.length - (intOf s8).toNat)
  case atStart => exact ⟨0, by omega, rfl, Sa6.out.has, Below.refl _ _⟩
  case round =>
    obtain ⟨i, hi, rfl, hcur, hbl⟩ := hrel
    have Hbl := Lib.hid hbl
    by_cases hlt : i < ns.length
    · have hiz : (i : Int) < (ns.length : Int) := by omega
      obtain ⟨x, hx⟩ : ∃ x, ns[i]? = some x := ⟨_, List.getElem?_eq_getElem hlt⟩
      obtain ⟨g, rfl, hgW, hc⟩ := Hrow.out (fun e => by rw [e] at hlt; simp at hlt)
      have hcw := hc i x hx
      have Hcw := Lib.hid hcw
      rw [← hbl.cell (p := ⟨g, i, none⟩) hgW] at hcw
      have hsn : curP a b (ns.take (i + 1)) = setP x (getV x b) (curP a b (ns.take i)) := by
        rw [List.take_add_one, hx]
        exact curP_snoc x _ a
      have Hsn := Lib.hid hsn
      have hcl := curP_len (b := b) (ns.take i) a
      rw [List.length_take] at hcl
      have HG := Lib.hid (get_any x _ b wr (by omega) (Sb6.out.has.below hbl))
      have hwr : IntKind.i64.wrap ((i : Int) + 1) = ((i + 1 : Nat) : Int) := by rw [IntKind.wrap_i64]; omega
      have Hcur := Lib.hid hcur
      have Hsr := Lib.hid (curP_srt (b := b) (ns.take i) hga.1)
      unfold getR at HG
      have hv1 : (getP x b).getD ⟨#[]⟩ = getV x b := rfl
      rw [hv1] at HG
      generalize (getP x b).isSome = o1 at *
      generalize curP a b (ns.take i) = cur at *
      generalize getV x b = vx at *
      clear hsn hx hc hcur hbl hv1
      go_wp2_with fail
      refine HG.out.mono ?_
      rintro e W7 ⟨rfl, hb7⟩
      have Hb7 := Lib.hid (Hbl.out.trans (hb7.mono Hbl.out.size))
      have hc7 := (Hb7.out.cell (p := ⟨g, i, none⟩) hgW).trans Hcw.out
      have HS := Lib.hid (set_any x vx _ cur W7 (by omega) Hsr.out (Hcur.out.below hb7))
      clear hb7 hcw
      go_wp2_with fail
      refine HS.out.mono ?_
      rintro e W8 ⟨o8, rfl, hh8, hb8⟩
      have Hb8 := Lib.hid (Hb7.out.trans (hb8.mono Hb7.out.size))
      have Hh8 := Lib.hid hh8
      clear hb8 hh8 hc7
      go_wp2
      exact ⟨⟨i + 1, by omega, rfl, by rw [Hsn.out]; exact Hh8.out, Hb8.out⟩, by simp [intOf]; omega⟩
    · have hiz : ¬ ((i : Int) < (ns.length : Int)) := by omega
      rw [List.take_of_length_le (by omega), curP_end hga.1 hgb.1 hga.2 hgb.2 Hch.out] at hcur
      have HE := Lib.hid (sameAttrs_any _ _ b b wr (by omega) hcur (Sb6.out.has.below hbl))
      rw [decide_eq_true rfl] at HE
      have HK := Lib.hid (fun W (h : Below W6.heap.size W6 W) => known_any W (HM.out.below (Hb.out.trans (h.mono Hb.out.size))))
      clear hcur hbl
      go_wp2_with fail
      refine HE.out.mono ?_
      rintro e W7 ⟨rfl, hb7⟩
      have Hb7 := Lib.hid (Hbl.out.trans (hb7.mono Hbl.out.size))
      clear hb7
      go_wp2_with fail
      refine (HK.out _ Hb7.out).mono ?_
      rintro e W8 ⟨rfl, hb8⟩
      have Hfin := Lib.hid (Hb.out.trans ((Hb7.out.trans (hb8.mono Hb7.out.size)).mono Hb.out.size))
      clear hb8
      go_wp2
      go_ret
      exact ⟨rfl, Hfin.out⟩
end Go.Proofs.YthdnbcgomepgaaaDoor
