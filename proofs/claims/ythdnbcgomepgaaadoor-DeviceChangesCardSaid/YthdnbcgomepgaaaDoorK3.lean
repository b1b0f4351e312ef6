/- The reference's Changed; SameTexts. -/
import Derived.Test.YthdnbcgomepgaaaDoorK2
namespace Go.Proofs.YthdnbcgomepgaaaDoor
open Go.RowKit

theorem OwnN.mono {w : World} {B B' : Nat} {v : Value} {ns : Names} (h : OwnN w B v ns) (hB : B' ≤ B) : OwnN w B' v ns := by
  refine ⟨h.1, ?_⟩
  rcases h.2 with hn | ⟨g, cap, cur, hv, hg, rest⟩
  · exact .inl hn
  · exact .inr ⟨g, cap, cur, hv, Nat.le_trans hB hg, rest⟩

def RchPost (L : Names) (w : World) (e : Ending) (w' : World) : Prop := ∃ u, e = .returned u ∧ OwnN w' w.heap.size u L ∧ Below w.heap.size w w'

set_option maxHeartbeats 2000000 in
set_option maxRecDepth 100000 in
theorem refChanged_any (sa sb : Value) (a b : List Atr) (w : World) (hla : a.length ≤ 1000) (hlb : b.length ≤ 1000) (ha : Srt a) (hsa : Has w sa a) (hsb : Has w sb b) :
    Calls Tryd.prog 32 #[sa, sb] w (RchPost (pick a b (allP a ⟨#[120]⟩ b)) w) := by
  obtain ⟨j0, hj0, hy0, hy1, hy2⟩ := info_parts info9
  have HI := Lib.hid (And.intro hj0 (And.intro hy0 (And.intro hy1 hy2)))
  have Hsa := Lib.hid hsa
  have Hsb := Lib.hid hsb
  obtain ⟨adb, cb, rfl, hrb⟩ := hsb.form
  have Hrb := Lib.hid hrb
  clear hj0 hy0 hy1 hy2 hsa hsb hrb
  go_enter Tryd.func32, Tryd.ntmps32
  go_wp2
  go_loopw [5, 6] (fun s5 s6 wx => ∃ i : Nat, i ≤ b.length ∧ s6 = .int .i64 i ∧ Has wx s5 (allP a ⟨#[120]⟩ (b.take i)) ∧ Below w.heap.size w wx) (fun _ s6 _ => b.length - (intOf s6).toNat)
  case atStart => exact ⟨0, by omega, rfl, by simpa [allP] using Hsa.out, Below.refl _ _⟩
  case round =>
    obtain ⟨i, hi, rfl, hall, hbl⟩ := hrel
    by_cases hlt : i < b.length
    · have hiz : (i : Int) < (b.length : Int) := by omega
      obtain ⟨y, hy⟩ : ∃ y, b[i]? = some y := ⟨_, List.getElem?_eq_getElem hlt⟩
      obtain ⟨bb, ob, rfl, hbb, hrow⟩ := Hrb.out (fun e => by rw [e] at hlt; simp at hlt)
      obtain ⟨hc, _⟩ := hrow i y hy
      rw [← hbl.cell (p := ⟨bb, ob + i * 2, none⟩) hbb] at hc
      have hlen : (allP a ⟨#[120]⟩ (b.take i)).length ≤ 1000000 := by
        have := allP_len (v := ⟨#[120]⟩) (b.take i) a
        rw [List.length_take] at this
        omega
      have Hset := Lib.hid (refSet_any y.1 ⟨#[120]⟩ _ _ _ hlen (allP_srt _ ha) hall)
      have hwr : IntKind.i64.wrap ((i : Int) + 1) = ((i + 1 : Nat) : Int) := by rw [IntKind.wrap_i64]; omega
      have Hst := Lib.hid (allP_drop ⟨#[120]⟩ a b i y hy)
      have Hbl := Lib.hid hbl
      clear hall hbl hrow hy hlen
      go_wp2_with fail
      refine Hset.out.mono ?_
      rintro e W ⟨u, rfl, ho, hb⟩
      have Ho := Lib.hid ho.has
      have Hb := Lib.hid (Hbl.out.trans (hb.mono Hbl.out.size))
      clear ho hb
      go_wp2
      exact ⟨⟨i + 1, by omega, rfl, by rw [Hst.out]; exact Ho.out, Hb.out⟩, by simp [intOf]; omega⟩
    · have hiz : ¬ ((i : Int) < (b.length : Int)) := by omega
      rw [List.take_of_length_le (by omega)] at hall
      obtain ⟨all, hal⟩ : ∃ all, allP a ⟨#[120]⟩ b = all := ⟨_, rfl⟩
      have hall_len : all.length ≤ 2000 := by
        have := allP_len (v := ⟨#[120]⟩) b a
        rw [← hal]
        omega
      rw [hal] at hall
      have Hal := Lib.hid hal
      have Hbl := Lib.hid hbl
      have Hall := Lib.hid hall
      obtain ⟨adl, cl, rfl, hrl⟩ := hall.form
      have Hrl := Lib.hid hrl
      have HG1 := Lib.hid (fun n W (h : Below w.heap.size w W) => refGet_any n _ a W (by omega) (Hsa.out.below h))
      have HG2 := Lib.hid (fun n W (h : Below w.heap.size w W) => refGet_any n _ b W (by omega) (Hsb.out.below h))
      clear hall hrl hbl hal Hsa Hsb Hrb hlt hi
      generalize wr = W5 at *
      go_wp2
      clear hiz
      go_loopw [7, 8] (fun s7 s8 wx => ∃ j : Nat, j ≤ all.length ∧ s8 = .int .i64 j ∧ OwnN wx W5.heap.size s7 (pick a b (all.take j)) ∧ Below W5.heap.size W5 wx) (fun _ s8 _ => all.length - (intOf s8).toNat)
      case atStart => exact ⟨0, by omega, rfl, OwnN.nil _ _, Below.refl _ _⟩
      case round =>
        obtain ⟨j, hj, rfl, hown, hb2⟩ := hrel
        obtain ⟨hj0, hy0, hy1, hy2⟩ := HI.out
        by_cases hlt : j < all.length
        · have hiz : (j : Int) < (all.length : Int) := by omega
          obtain ⟨x, hx⟩ : ∃ x, all[j]? = some x := ⟨_, List.getElem?_eq_getElem hlt⟩
          obtain ⟨bl, ol, rfl, hbl, hrow⟩ := Hrl.out (fun e => by rw [e] at hlt; simp at hlt)
          obtain ⟨hcw, _⟩ := hrow j x hx
          have Hcw := Lib.hid hcw
          have hc := hcw
          rw [← hb2.cell (p := ⟨bl, ol + j * 2, none⟩) hbl] at hc
          have hst := pick_step a b all j x hx
          have hpl := pick_len a b (all.take j)
          rw [List.length_take] at hpl
          have hwr : IntKind.i64.wrap ((j : Int) + 1) = ((j + 1 : Nat) : Int) := by rw [IntKind.wrap_i64]; omega
          have Hown := Lib.hid hown
          have Hb2 := Lib.hid hb2
          have hE1 := HG1.out x.1
          have hE2 := HG2.out x.1
          unfold getR at hE1 hE2
          have hv1 : (getP x.1 a).getD ⟨#[]⟩ = getV x.1 a := rfl
          have hv2 : (getP x.1 b).getD ⟨#[]⟩ = getV x.1 b := rfl
          rw [hv1] at hE1
          rw [hv2] at hE2
          obtain ⟨nm, x2⟩ := x
          simp only at hc hst hE1 hE2 Hcw
          generalize (getP nm a).isSome = o1 at *
          generalize (getP nm b).isSome = o2 at *
          generalize pick a b (all.take j) = acc at *
          generalize getV nm a = va at *
          generalize getV nm b = vb at *
          have HE1 := Lib.hid hE1
          have HE2 := Lib.hid hE2
          clear hown hb2 hrow hx hcw hE1 hE2 hv1 hv2
          go_wp2_with fail
          refine (HE1.out _ (Hbl.out.trans (Hb2.out.mono Hbl.out.size))).mono ?_
          rintro e W1 ⟨rfl, hb1⟩
          have Hb3 := Lib.hid (Hb2.out.trans (hb1.mono Hb2.out.size))
          have Hown1 := Lib.hid (Hown.out.below hb1)
          have hc1 := (Hb3.out.cell (p := ⟨bl, ol + j * 2, none⟩) hbl).trans Hcw.out
          clear hb1 hc
          go_wp2_with fail
          refine (HE2.out _ (Hbl.out.trans (Hb3.out.mono Hbl.out.size))).mono ?_
          rintro e W2 ⟨rfl, hb1⟩
          have Hb4 := Lib.hid (Hb3.out.trans (hb1.mono Hb3.out.size))
          have Hown2 := Lib.hid (Hown1.out.below hb1)
          have hc2 := (Hb4.out.cell (p := ⟨bl, ol + j * 2, none⟩) hbl).trans Hcw.out
          have hBw4 := Hb4.out.size
          clear hb1 hc1
          by_cases hq : va = vb
          · have hq' := str_eq hq
            rw [if_pos hq, List.append_nil] at hst
            have Hst := Lib.hid hst
            clear hq hst
            go_wp2
            exact ⟨⟨j + 1, by omega, rfl, by rw [Hst.out]; exact Hown2.out, Hb4.out⟩, by simp [intOf]; omega⟩
          · have hq' := str_ne hq
            rw [if_neg hq] at hst
            have Hst := Lib.hid hst
            clear hq hst
            go_wp2_with (at_builtin; refine wpList_append_own _ rfl _ _ 50 rfl W5.heap.size 9 j0 _ 1 16 Tryd.underlying50 hj0 hy0 hy1 hy2 rfl (by decide) _ _ _ rfl (Hown2.out.alloc _) ⟨W2.heap.size, 0, none⟩ 1 1 [.string nm] rfl rfl (cells_new _ _ _) (by simp [Value.oneCell']) (by unfold maxLen; omega) (by omega) (by first | (simp; done) | (simp; omega)) ?_; intro v9 w9 hown9 hgrow9 _; have Hbl9 := Lib.hid (ownN_below Hown2.out Hb4.out hBw4 hgrow9); have Hown9 := Lib.hid (OwnN.append hown9); clear hown9 hgrow9)
            exact ⟨⟨j + 1, by omega, rfl, by rw [Hst.out]; exact Hown9.out, Hbl9.out⟩, by simp [intOf]; omega⟩
        · have hiz : ¬ ((j : Int) < (all.length : Int)) := by omega
          rw [List.take_of_length_le (by omega)] at hown
          have Hfin := Lib.hid (show RchPost (pick a b all) w (.returned u7) wr from ⟨_, rfl, hown.mono Hbl.out.size, Hbl.out.trans (hb2.mono Hbl.out.size)⟩)
          clear hown hb2
          go_wp2
          go_ret
          rw [Hal.out]
          exact Hfin.out

set_option maxHeartbeats 1000000 in
set_option maxRecDepth 100000 in
theorem sameTexts_any (u v : Value) (B B' : Nat) (ns : Names) (w : World) (hl : ns.length ≤ 1000000) (hu : OwnN w B u ns) (hv : OwnN w B' v ns) : Calls Tryd.prog 31 #[u, v] w (Bel (.bool true) w) := by
  rcases hu.form with ⟨rfl, h0⟩ | ⟨g, cap, rfl, hB, hg, hc⟩
  · rcases hv.form with ⟨rfl, _⟩ | ⟨g', cap', rfl, hB', hg', hc'⟩
    · go_enter Tryd.func31, Tryd.ntmps31
      go_wp2
      go_loopw [5] (fun s5 wx => s5 = .int .i64 0 ∧ w = wx) (fun _ _ => 0)
      case atStart => exact ⟨rfl, rfl⟩
      case round =>
        obtain ⟨rfl, rfl⟩ := hrel
        go_wp2
        go_ret
        exact ⟨rfl, Below.refl _ _⟩
    · have hz : ns.length = 0 := by rw [h0]; rfl
      rw [hz]
      clear hc' h0 hz
      go_enter Tryd.func31, Tryd.ntmps31
      go_wp2
      go_loopw [5] (fun s5 wx => s5 = .int .i64 0 ∧ w = wx) (fun _ _ => 0)
      case atStart => exact ⟨rfl, rfl⟩
      case round =>
        obtain ⟨rfl, rfl⟩ := hrel
        go_wp2
        go_ret
        exact ⟨rfl, Below.refl _ _⟩
  · rcases hv.form with ⟨rfl, h0⟩ | ⟨g', cap', rfl, hB', hg', hc'⟩
    · have hz : ns.length = 0 := by rw [h0]; rfl
      rw [hz]
      clear hc h0 hz
      go_enter Tryd.func31, Tryd.ntmps31
      go_wp2
      go_loopw [5] (fun s5 wx => s5 = .int .i64 0 ∧ w = wx) (fun _ _ => 0)
      case atStart => exact ⟨rfl, rfl⟩
      case round =>
        obtain ⟨rfl, rfl⟩ := hrel
        go_wp2
        go_ret
        exact ⟨rfl, Below.refl _ _⟩
    · have Ha := Lib.hid hc
      have Hb := Lib.hid hc'
      clear hc hc'
      go_enter Tryd.func31, Tryd.ntmps31
      go_wp2
      go_loopw [5] (fun s5 wx => ∃ i : Nat, i ≤ ns.length ∧ s5 = .int .i64 i ∧ ∃ n, wx = w.drewN n) (fun s5 _ => ns.length - (intOf s5).toNat)
      case atStart => exact ⟨0, by omega, rfl, 0, rfl⟩
      case round =>
        obtain ⟨i, hi, rfl, n, rfl⟩ := hrel
        by_cases hlt : i < ns.length
        · have hiz : (i : Int) < (ns.length : Int) := by omega
          obtain ⟨x, hx⟩ : ∃ x, ns[i]? = some x := ⟨_, List.getElem?_eq_getElem hlt⟩
          have h1 := Ha.out i x hx
          have h2 := Hb.out i x hx
          clear hx
          go_wp2
          go_quiet (fail)
          go_wp2
          exact ⟨⟨i + 1, by omega, by go_num, _, rfl⟩, by simp [intOf]; omega⟩
        · have hiz : ¬ ((i : Int) < (ns.length : Int)) := by omega
          go_wp2
          go_ret
          exact ⟨rfl, drawn_below (Below.refl _ _) _⟩
end Go.Proofs.YthdnbcgomepgaaaDoor
