/- Split: the project's and the reference's, and SameTexts. -/
import Derived.Test.YtfcfooipoiomkaaDoorLValids
namespace Go.Proofs.YtfcfooipoiomkaaDoor
open Go.RowKit

/-- What the two functions called Split return: the names of a path, or nothing. -/
def SplitPost (l : List ByteArray) (ok bad : Value) (is : Bool) (w : World) (e : Ending) (w' : World) : Prop :=
  Below w.heap.size w w' ∧ ((is = true ∧ ∃ b, w.heap.size ≤ b ∧ b < w'.heap.size ∧ Strs w' b l ∧ e = .returned (.tuple #[.slice (some ⟨b, 0, none⟩) l.length l.length, ok])) ∨ (is = false ∧ e = .returned (.tuple #[.slice none 0 0, bad])))

theorem splitAt_below (w : World) (xs : List ByteArray) : Below w.heap.size w (splitAt w xs) := (Below.refl _ w).alloc (Nat.le_refl _) _
theorem splitAt_size (w : World) (xs : List ByteArray) : (splitAt w xs).heap.size = w.heap.size + 1 := World.size_alloc ..
theorem path_head {s : ByteArray} (h : isPathB s.data.toList = true) : 1 ≤ s.size := by
  rw [Lib.size_eq]
  cases hl : s.data.toList with
  | nil => rw [hl] at h; cases h
  | cons _ _ => simp

set_option maxHeartbeats 1000000 in
set_option maxRecDepth 100000 in
theorem split_any (s : ByteArray) (m : Int) (w : World) (hs : s.size < 4294967281) (hm : w.cell? ⟨0, 0, none⟩ = some (.int .i64 m)) :
    Calls Tryd.prog 23 #[.string s] w (SplitPost (piecesB 47 (s.extract 1 s.size)) (.int .i64 0) (.int .i64 10) (isPathB s.data.toList) w) := by
  have hp := isPath_any s w (by omega)
  cases hq : isPathB s.data.toList with
  | false =>
    rw [hq] at hp
    have Hp := Lib.hid hp
    clear hp hq hm
    go_enter Tryd.func23, Tryd.ntmps23
    go_wp2_with fail
    refine Hp.out.mono ?_
    rintro e W1 ⟨rfl, hb⟩
    go_wp2
    go_ret2
    exact ⟨hb, .inr ⟨rfl, rfl⟩⟩
  | true =>
    rw [hq] at hp
    have h1 := path_head hq
    have h1' : (1 : Int) ≤ (s.size : Int) := by omega
    have Hp := Lib.hid hp
    have Hm := Lib.hid hm
    clear hp hq hm
    go_enter Tryd.func23, Tryd.ntmps23
    go_wp2_with fail
    refine Hp.out.mono ?_
    rintro e W1 ⟨rfl, hb⟩
    have Hsp := Lib.hid (split_slash (s.extract 1 s.size) m W1 (by simp; omega) (max_below Hm.out hb (Nat.le_refl _)))
    have hst := splitAt_strs W1 (piecesB 47 (s.extract 1 s.size))
    have hbb := belT hb (splitAt_below W1 (piecesB 47 (s.extract 1 s.size)))
    have hbsz := splitAt_size W1 (piecesB 47 (s.extract 1 s.size))
    have Hst := Lib.hid hst
    have Hbsz := Lib.hid hbsz
    clear hst hbsz
    generalize splitAt W1 (piecesB 47 (s.extract 1 s.size)) = W2 at *
    generalize piecesB 47 (s.extract 1 s.size) = xs at *
    go_wp2_with fail
    refine Hsp.out.mono ?_
    rintro e w2 ⟨rfl, rfl⟩
    go_wp2
    go_ret2
    exact ⟨hbb, .inl ⟨rfl, _, hb.size, by rw [Hbsz.out]; omega, Hst.out, rfl⟩⟩

set_option maxHeartbeats 1000000 in
set_option maxRecDepth 100000 in
theorem refSplit_any (s : ByteArray) (m : Int) (w : World) (hs : s.size < 4294967281) (hm : w.cell? ⟨0, 0, none⟩ = some (.int .i64 m)) :
    Calls Tryd.prog 24 #[.string s] w (SplitPost (piecesB 47 (s.extract 1 s.size)) (.bool true) (.bool false) (isPathB s.data.toList) w) := by
  have hsz := Lib.size_eq s
  cases hl : s.data.toList with
  | nil =>
    have he := empty_form hl
    clear hm hsz hl
    go_enter Tryd.func24, Tryd.ntmps24
    go_wp2
    go_ret2
    exact ⟨Below.refl _ _, .inr ⟨rfl, rfl⟩⟩
  | cons c r =>
    have he := nonempty_form (s := s) (by rw [hl]; simp)
    have hpos : 0 < s.size := by rw [hsz, hl]; simp
    have hpos' : (0 : Int) < (s.size : Int) := by omega
    have hc0 : s[0]'hpos = c := by
      have := Lib.data_getElem? s 0 hpos
      rw [hl] at this
      simp at this
      exact this.symm
    by_cases h47 : c = 47
    · subst h47
      have hr : (s.extract 1 s.size).data.toList = r := by rw [Lib.extract_to_end, hl]; rfl
      obtain ⟨res, hres⟩ : ∃ res, isPathB (47 :: r) = res := ⟨_, rfl⟩
      rw [hres]
      have hres2 : ((piecesB 47 (s.extract 1 s.size)).all fun x => nameB NameSet x.data.toList) = res := by
        rw [piecesB_all, hr, ← hres]
        rfl
      have h1 : (1 : Int) ≤ (s.size : Int) := by omega
      have Hsp := Lib.hid (split_slash (s.extract 1 s.size) m w (by simp; omega) hm)
      have hst := splitAt_strs w (piecesB 47 (s.extract 1 s.size))
      have hbel := splitAt_below w (piecesB 47 (s.extract 1 s.size))
      have hbsz := splitAt_size w (piecesB 47 (s.extract 1 s.size))
      have hxl : ∀ x ∈ piecesB 47 (s.extract 1 s.size), x.size ≤ s.size := fun x hx => Nat.le_trans (piecesB_size hx) (by simp)
      have hnn : (piecesB 47 (s.extract 1 s.size)).length ≤ s.size + 1 := by
        have h1 := Lib.splitB_all ⟨#[47]⟩ (by decide) 0 _ (s.extract 1 s.size) rfl
        rw [splitB_pieces 47 _ (s.extract 1 s.size) rfl] at h1
        have h2 := Lib.countB_le ⟨#[47]⟩ (by decide) (s.extract 1 s.size).size (s.extract 1 s.size) (Nat.le_refl _)
        have h3 : (s.extract 1 s.size).size ≤ s.size := by simp
        omega
      generalize splitAt w (piecesB 47 (s.extract 1 s.size)) = W at *
      generalize piecesB 47 (s.extract 1 s.size) = xs at *
      have Hst := Lib.hid hst
      have Hbsz := Lib.hid hbsz
      have Hres := Lib.hid hres2
      clear hst hbsz hres hres2 hm hsz hl hr
      go_enter Tryd.func24, Tryd.ntmps24
      go_wp2_with fail
      refine Hsp.out.mono ?_
      rintro e w1 ⟨rfl, rfl⟩
      go_wp2
      go_loop [5] (fun s5 => ∃ i : Nat, i ≤ xs.length ∧ s5 = .int .i64 i ∧ ((xs.take i).all fun x => nameB NameSet x.data.toList) = true) (fun s5 => xs.length - (intOf s5).toNat)
      case atStart => exact ⟨0, by omega, rfl, rfl⟩
      case round =>
        obtain ⟨i, hi, rfl, ha⟩ := hrel
        have Ha := Lib.hid ha
        clear ha
        by_cases hlt : i < xs.length
        · have hiz : (i : Int) < (xs.length : Int) := by omega
          obtain ⟨x, hx⟩ : ∃ x, xs[i]? = some x := ⟨_, List.getElem?_eq_getElem hlt⟩
          have hcell := Hst.out i x hx
          have hxs := hxl x (List.mem_of_getElem? hx)
          have hv := fun W => refValid_any x W (by omega)
          cases hn : nameB NameSet x.data.toList with
          | false =>
            have hr : res = false := by
              rw [← Hres.out, List.all_eq_false]
              exact ⟨x, List.mem_of_getElem? hx, by rw [hn]; exact Bool.false_ne_true⟩
            subst hr
            rw [hn] at hv
            have Hv := Lib.hid hv
            clear hv hn hx
            go_wp2_with fail
            refine (Hv.out _).mono ?_
            rintro e w2 ⟨rfl, rfl⟩
            go_wp2
            go_ret2
            exact ⟨hbel, .inr ⟨rfl, rfl⟩⟩
          | true =>
            have hg : ((xs.take (i + 1)).all fun x => nameB NameSet x.data.toList) = true := by
              rw [List.take_add_one, hx]
              simp only [Option.toList]
              rw [List.all_append, Ha.out]
              simp [hn]
            rw [hn] at hv
            have Hv := Lib.hid hv
            have Hg := Lib.hid hg
            clear hv hn hx hg
            go_wp2_with fail
            refine (Hv.out _).mono ?_
            rintro e w2 ⟨rfl, rfl⟩
            go_wp2
            go_round
            case rel => exact ⟨i + 1, by omega, by go_num, Hg.out⟩
            case measure => simp [intOf]; omega
        · have h : xs.take i = xs := List.take_of_length_le (by omega)
          rw [h] at Ha
          have hr : res = true := by rw [← Hres.out, Ha.out]
          subst hr
          clear h
          go_wp2
          go_ret2
          exact ⟨hbel, .inl ⟨rfl, _, Nat.le_refl _, by rw [Hbsz.out]; omega, Hst.out, rfl⟩⟩
    · have hn : ((c.toNat : Int) != 47) = true := bne_iff_ne.2 fun e => h47 (UInt8.toNat_inj.1 (by simpa using (by omega : c.toNat = 47)))
      have hv : isPathB (c :: r) = false := by simp [isPathB, h47]
      rw [hv]
      clear hsz hl h47 hv hm
      go_enter Tryd.func24, Tryd.ntmps24
      go_wp2
      go_ret2
      exact ⟨Below.refl _ _, .inr ⟨rfl, rfl⟩⟩

set_option maxHeartbeats 1000000 in
set_option maxRecDepth 100000 in
theorem sameTexts_any (a b ca cb : Nat) (oa ob : Nat) (xs : List ByteArray) (w : World) (hl : xs.length ≤ 4611686018427387904) (ha : ∀ (j : Nat) x, xs[j]? = some x → w.cell? ⟨a, oa + j, none⟩ = some (.string x)) (hb : ∀ (j : Nat) x, xs[j]? = some x → w.cell? ⟨b, ob + j, none⟩ = some (.string x)) :
    Calls Tryd.prog 25 #[.slice (some ⟨a, oa, none⟩) xs.length ca, .slice (some ⟨b, ob, none⟩) xs.length cb] w (Draws (.bool true) w) := by
  have Ha := Lib.hid ha
  have Hb := Lib.hid hb
  clear ha hb
  go_enter Tryd.func25, Tryd.ntmps25
  go_wp2
  go_loopw [5] (fun s5 wx => ∃ i : Nat, i ≤ xs.length ∧ s5 = .int .i64 i ∧ ∃ n, wx = w.drewN n) (fun s5 _ => xs.length - (intOf s5).toNat)
  case atStart => exact ⟨0, by omega, rfl, 0, rfl⟩
  case round =>
    obtain ⟨i, hi, rfl, n, rfl⟩ := hrel
    by_cases hlt : i < xs.length
    · have hiz : (i : Int) < (xs.length : Int) := by omega
      obtain ⟨x, hx⟩ : ∃ x, xs[i]? = some x := ⟨_, List.getElem?_eq_getElem hlt⟩
      have h1 := Ha.out i x hx
      have h2 := Hb.out i x hx
      clear hx
      go_wp2
      go_quiet (fail)
      go_wp2
      exact ⟨⟨i + 1, by omega, by go_num, _, rfl⟩, by simp [intOf]; omega⟩
    · go_wp2
      go_ret
      exact ⟨rfl, _, rfl⟩
end Go.Proofs.YtfcfooipoiomkaaDoor
