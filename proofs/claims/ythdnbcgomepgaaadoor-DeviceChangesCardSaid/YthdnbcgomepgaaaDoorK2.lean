/- Changed, the program's and the reference's; SameTexts: the walks. -/
import Derived.Test.YthdnbcgomepgaaaDoorK
namespace Go.Proofs.YthdnbcgomepgaaaDoor
open Go.RowKit

def lenOf : Value → Nat
  | .slice _ n _ => n
  | _ => 0
theorem Sub.form {w : World} {v : Value} {l : List Atr} (h : Sub w v l) : ∃ a c, v = .slice a l.length c := by
  rcases h with ⟨a, c, rfl, rfl⟩ | ⟨b, o, c, rfl, _⟩
  · exact ⟨a, c, rfl⟩
  · exact ⟨_, c, rfl⟩
theorem Sub.len {w : World} {v : Value} {l : List Atr} (h : Sub w v l) : lenOf v = l.length := by
  obtain ⟨a, c, rfl⟩ := h.form
  rfl

def ChPost (a b : List Atr) (w : World) (e : Ending) (w' : World) : Prop := ∃ u ns, e = .returned u ∧ OwnN w' w.heap.size u ns ∧ IsCh a b ns ∧ ns.length ≤ a.length + b.length ∧ Below w.heap.size w w'

set_option maxHeartbeats 2000000 in
set_option maxRecDepth 100000 in
theorem changed_any (sa sb : Value) (a b : List Atr) (w : World) (hla : a.length ≤ 1000) (hlb : b.length ≤ 1000) (ha : Srt a) (hb : Srt b) (hsa : Sub w sa a) (hsb : Sub w sb b) : Calls Tryd.prog 30 #[sa, sb] w (ChPost a b w) := by
  obtain ⟨j0, hj0, hy0, hy1, hy2⟩ := info_parts info9
  have HI := Lib.hid (And.intro hj0 (And.intro hy0 (And.intro hy1 hy2)))
  clear hj0 hy0 hy1 hy2
  go_enter Tryd.func30, Tryd.ntmps30
  go_wp2
  go_loopw [0, 1, 5] (fun s0 s1 s5 wx => ∃ (a' b' : List Atr) (acc : Names), Sub w s0 a' ∧ Sub w s1 b' ∧ OwnN wx w.heap.size s5 acc ∧ Half a b a' b' acc ∧ Below w.heap.size w wx ∧ acc.length + (a'.length + b'.length) ≤ a.length + b.length) (fun s0 s1 _ _ => lenOf s0 + lenOf s1)
  case atStart => exact ⟨a, b, [], hsa, hsb, OwnN.nil _ _, half_start ha hb, Below.refl _ _, by simp⟩
  case round =>
    clear hsa hsb ha hb
    obtain ⟨a', b', acc, hs0, hs1, hown, hhalf, hbl, hal⟩ := hrel
    obtain ⟨hj0, hy0, hy1, hy2⟩ := HI.out
    by_cases hne : a' ≠ [] ∨ b' ≠ []
    · have hf := fun W (h : Below w.heap.size w W) => firstName_any _ _ a' b' W hne (hs0.below h) (hs1.below h)
      have hlt := take_len hne
      have hst := half_step hhalf hne
      unfold chStep at hst
      have HT1 := Lib.hid (fun nm W (h : Below w.heap.size w W) => take_any nm _ a' w W hs0 h)
      have HT2 := Lib.hid (fun nm W (h : Below w.heap.size w W) => take_any nm _ b' w W hs1 h)
      obtain ⟨ada, ca, rfl⟩ := hs0.form
      obtain ⟨adb, cb, rfl⟩ := hs1.form
      have Hown := Lib.hid hown
      have Hbl := Lib.hid hbl
      have hcond : 0 < (a'.length : Int) ∨ 0 < (b'.length : Int) := by
        rcases hne with h | h
        · left
          have := List.length_pos_iff.2 h
          omega
        · right
          have := List.length_pos_iff.2 h
          omega
      clear hs0 hs1 hown hbl hhalf hne
      obtain ⟨nm, hnm⟩ : ∃ nm, firstN a' b' = nm := ⟨_, rfl⟩
      rw [hnm] at hf hlt hst
      have Hf := Lib.hid (Lib.hid hf)
      have Hlt := Lib.hid (show (takeR nm a').length + (takeR nm b').length < lenOf (.slice ada a'.length ca) + lenOf (.slice adb b'.length cb) from hlt)
      have Hlt2 := Lib.hid hlt
      obtain ⟨n1, hn1⟩ : ∃ n1, a'.length = n1 := ⟨_, rfl⟩
      obtain ⟨n2, hn2⟩ : ∃ n2, b'.length = n2 := ⟨_, rfl⟩
      clear hf hlt hnm
      have HT1 := Lib.hid (HT1.out nm)
      have HT2 := Lib.hid (HT2.out nm)
      rw [hn1] at Hf Hlt Hlt2 HT1 hcond hal
      rw [hn2] at Hf Hlt Hlt2 HT2 hcond hal
      rw [hn1, hn2]
      clear hn1 hn2
      by_cases h1 : 0 < (n1 : Int)
      · clear hcond
        go_wp2_with fail
        refine (Hf.out.out _ Hbl.out).mono ?_
        rintro e W1 ⟨rfl, hb1⟩
        have Hown1 := Lib.hid (Hown.out.below hb1)
        have Hbl1 := Lib.hid (Hbl.out.trans (hb1.mono Hbl.out.size))
        clear hb1
        go_wp2_with fail
        refine (HT1.out _ Hbl1.out).mono ?_
        rintro e W2 ⟨x1, rfl, hx1, hb2⟩
        have Hx1 := Lib.hid hx1
        have Hown2 := Lib.hid (Hown1.out.below hb2)
        have Hbl2 := Lib.hid (Hbl1.out.trans (hb2.mono Hbl1.out.size))
        have hl1 := hx1.len
        clear hb2 hx1
        go_wp2_with fail
        refine (HT2.out _ Hbl2.out).mono ?_
        rintro e W3 ⟨x2, rfl, hx2, hb3⟩
        have Hx2 := Lib.hid hx2
        have Hown3 := Lib.hid (Hown2.out.below hb3)
        have Hbl3 := Lib.hid (Hbl2.out.trans (hb3.mono Hbl2.out.size))
        have hl2 := hx2.len
        have hBw3 := Hbl3.out.size
        clear hb3 hx2
        by_cases hq : takeV nm a' = takeV nm b'
        · have hq' := str_eq hq
          rw [if_pos hq, List.append_nil] at hst
          have Hst := Lib.hid hst
          generalize takeV nm a' = va at *
          generalize takeV nm b' = vb at *
          clear hq hst
          go_wp2
          exact ⟨⟨_, _, acc, Hx1.out, Hx2.out, Hown3.out, Hst.out, Hbl3.out, by have := Hlt2.out; omega⟩, by rw [hl1, hl2]; exact Hlt.out⟩
        · have hq' := str_ne hq
          rw [if_neg hq] at hst
          have Hst := Lib.hid hst
          generalize takeV nm a' = va at *
          generalize takeV nm b' = vb at *
          clear hq hst
          go_wp2_with (at_builtin; refine wpList_append_own _ rfl _ _ 50 rfl w.heap.size 9 j0 _ 1 16 Tryd.underlying50 hj0 hy0 hy1 hy2 rfl (by decide) _ _ _ rfl (Hown3.out.alloc _) ⟨W3.heap.size, 0, none⟩ 1 1 [.string nm] rfl rfl (cells_new _ _ _) (by simp [Value.oneCell']) (by unfold maxLen; omega) (by omega) (by first | (simp; done) | (simp; omega)) ?_; intro v9 w9 hown9 hgrow9 _; have Hbl9 := Lib.hid (ownN_below Hown3.out Hbl3.out hBw3 hgrow9); have Hown9 := Lib.hid (OwnN.append hown9); clear hown9 hgrow9)
          exact ⟨⟨_, _, acc ++ [nm], Hx1.out, Hx2.out, Hown9.out, Hst.out, Hbl9.out, by have := Hlt2.out; simp; omega⟩, by rw [hl1, hl2]; exact Hlt.out⟩
      · have h2 : 0 < (n2 : Int) := by
          rcases hcond with h | h
          · exact absurd h h1
          · exact h
        obtain rfl : n1 = 0 := by omega
        clear h1
        clear hcond
        go_wp2_with fail
        refine (Hf.out.out _ Hbl.out).mono ?_
        rintro e W1 ⟨rfl, hb1⟩
        have Hown1 := Lib.hid (Hown.out.below hb1)
        have Hbl1 := Lib.hid (Hbl.out.trans (hb1.mono Hbl.out.size))
        clear hb1
        go_wp2_with fail
        refine (HT1.out _ Hbl1.out).mono ?_
        rintro e W2 ⟨x1, rfl, hx1, hb2⟩
        have Hx1 := Lib.hid hx1
        have Hown2 := Lib.hid (Hown1.out.below hb2)
        have Hbl2 := Lib.hid (Hbl1.out.trans (hb2.mono Hbl1.out.size))
        have hl1 := hx1.len
        clear hb2 hx1
        go_wp2_with fail
        refine (HT2.out _ Hbl2.out).mono ?_
        rintro e W3 ⟨x2, rfl, hx2, hb3⟩
        have Hx2 := Lib.hid hx2
        have Hown3 := Lib.hid (Hown2.out.below hb3)
        have Hbl3 := Lib.hid (Hbl2.out.trans (hb3.mono Hbl2.out.size))
        have hl2 := hx2.len
        have hBw3 := Hbl3.out.size
        clear hb3 hx2
        by_cases hq : takeV nm a' = takeV nm b'
        · have hq' := str_eq hq
          rw [if_pos hq, List.append_nil] at hst
          have Hst := Lib.hid hst
          generalize takeV nm a' = va at *
          generalize takeV nm b' = vb at *
          clear hq hst
          go_wp2
          exact ⟨⟨_, _, acc, Hx1.out, Hx2.out, Hown3.out, Hst.out, Hbl3.out, by have := Hlt2.out; omega⟩, by rw [hl1, hl2]; exact Hlt.out⟩
        · have hq' := str_ne hq
          rw [if_neg hq] at hst
          have Hst := Lib.hid hst
          generalize takeV nm a' = va at *
          generalize takeV nm b' = vb at *
          clear hq hst
          go_wp2_with (at_builtin; refine wpList_append_own _ rfl _ _ 50 rfl w.heap.size 9 j0 _ 1 16 Tryd.underlying50 hj0 hy0 hy1 hy2 rfl (by decide) _ _ _ rfl (Hown3.out.alloc _) ⟨W3.heap.size, 0, none⟩ 1 1 [.string nm] rfl rfl (cells_new _ _ _) (by simp [Value.oneCell']) (by unfold maxLen; omega) (by omega) (by first | (simp; done) | (simp; omega)) ?_; intro v9 w9 hown9 hgrow9 _; have Hbl9 := Lib.hid (ownN_below Hown3.out Hbl3.out hBw3 hgrow9); have Hown9 := Lib.hid (OwnN.append hown9); clear hown9 hgrow9)
          exact ⟨⟨_, _, acc ++ [nm], Hx1.out, Hx2.out, Hown9.out, Hst.out, Hbl9.out, by have := Hlt2.out; simp; omega⟩, by rw [hl1, hl2]; exact Hlt.out⟩
    · obtain rfl : a' = [] := Classical.byContradiction fun h => hne (.inl h)
      obtain rfl : b' = [] := Classical.byContradiction fun h => hne (.inr h)
      obtain ⟨ada, ca, rfl⟩ := hs0.form
      obtain ⟨adb, cb, rfl⟩ := hs1.form
      have hz : ([] : List Atr).length = 0 := rfl
      rw [hz]
      have Hfin := Lib.hid (show ChPost a b w (.returned u5) wr from ⟨_, acc, rfl, hown, half_end hhalf, by simp at hal; omega, hbl⟩)
      clear hs0 hs1 hown hhalf hbl
      go_wp2
      go_ret
      exact Hfin.out
end Go.Proofs.YthdnbcgomepgaaaDoor
