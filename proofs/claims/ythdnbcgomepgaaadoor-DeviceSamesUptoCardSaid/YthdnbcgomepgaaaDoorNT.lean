
/- strings.Split at a slash, and the reference's link names. -/
import Derived.Test.YthdnbcgomepgaaaDoorNG
import Derived.Test.YthdnbcgomepgaaaDoorNR
import Derived.Lib.SplitLaws
namespace Go.Proofs.YthdnbcgomepgaaaDoor.Nm
open Go.RowKit

theorem indexB_one (s : ByteArray) (c : UInt8) : Lib.indexB s ⟨#[c]⟩ = Lib.indexByte s.data.toList c := Lib.index_one _ _
theorem splitB_pieces (c : UInt8) : ∀ (k : Nat) (s : ByteArray), Lib.countB s ⟨#[c]⟩ = k → Lib.splitB ⟨#[c]⟩ 0 k s = piecesB c s := by
  intro k
  induction k with
  | zero =>
    intro s hk
    by_cases hneg : Lib.indexByte s.data.toList c < 0
    · rw [Lib.splitB_zero, piecesB_none c s hneg]
    · obtain ⟨o, ho⟩ : ∃ o : Nat, Lib.indexByte s.data.toList c = (o : Int) := ⟨(Lib.indexByte s.data.toList c).toNat, by omega⟩
      have := Lib.countB_hit s ⟨#[c]⟩ o (by simp [ByteArray.size]) (by rw [indexB_one, ho])
      omega
  | succ k ih =>
    intro s hk
    by_cases hneg : Lib.indexByte s.data.toList c < 0
    · have h1 : Lib.indexByte s.data.toList c = -1 := by have := Lib.indexByte_ge s.data.toList c; omega
      have := Lib.countB_miss s ⟨#[c]⟩ (by rw [indexB_one, h1])
      omega
    · obtain ⟨o, ho⟩ : ∃ o : Nat, Lib.indexByte s.data.toList c = (o : Int) := ⟨(Lib.indexByte s.data.toList c).toNat, by omega⟩
      have hc := Lib.countB_hit s ⟨#[c]⟩ o (by simp [ByteArray.size]) (by rw [indexB_one, ho])
      rw [show (⟨#[c]⟩ : ByteArray).size = 1 from rfl] at hc
      rw [Lib.splitB_hit _ _ _ _ o (by rw [indexB_one, ho]), piecesB_some c s o ho, show (⟨#[c]⟩ : ByteArray).size = 1 from rfl, ih _ (by omega), Nat.add_zero]

/-- The cells from the beginning of block b hold these texts. -/
def Strs (W : World) (b : Nat) (xs : List ByteArray) : Prop := ∀ (j : Nat) x, xs[j]? = some x → W.cell? ⟨b, j, none⟩ = some (.string x)
def splitAt (w : World) (xs : List ByteArray) : World := w.alloc (.cells (xs.map Value.string).toArray 9)
theorem splitAt_strs (w : World) (xs : List ByteArray) : Strs (splitAt w xs) w.heap.size xs := by
  intro j x hx
  unfold splitAt
  rw [World.cell?_alloc_at _ _ _ _ rfl]
  simp [hx]
theorem Strs.below {W W' : World} {b B : Nat} {xs : List ByteArray} (h : Strs W b xs) (hb : Below B W W') (hB : b < B) : Strs W' b xs := fun j x hx => (hb.cell (p := ⟨b, j, none⟩) hB).trans (h j x hx)

set_option maxHeartbeats 400000 in
theorem split_slash (s : ByteArray) (m : Int) (w : World) (hs : s.size < 4294967281) (hm : w.cell? ⟨0, 0, none⟩ = some (.int .i64 m)) :
    Calls Tryd.prog 66 #[.string s, .string ⟨#[47]⟩] w fun e w' => e = .returned (.slice (some ⟨w.heap.size, 0, none⟩) (piecesB 47 s).length (piecesB 47 s).length) ∧ w' = splitAt w (piecesB 47 s) := by
  have h := Tryd.strings_Split s ⟨#[47]⟩ m w hs hm (by decide)
  have h1 := Lib.splitB_all ⟨#[47]⟩ (by decide) 0 _ s rfl
  rw [splitB_pieces 47 _ s rfl] at h h1
  rw [← h1] at h
  exact h

set_option maxHeartbeats 1000000 in
set_option maxRecDepth 100000 in
theorem refLink_any (s : ByteArray) (m : Int) (w : World) (hs : s.size < 4294967281) (hm : w.cell? ⟨0, 0, none⟩ = some (.int .i64 m)) :
    Calls Tryd.prog 42 #[.string s] w (Bel (.bool (linkB s.data.toList)) w) := by
  have hsz := Lib.size_eq s
  have hsp := split_slash s m w hs hm
  have hst := splitAt_strs w (piecesB 47 s)
  have hall := piecesB_all 47 s linkPart
  have hbel : Below w.heap.size w (splitAt w (piecesB 47 s)) := (Below.refl _ w).alloc (Nat.le_refl _) _
  have hxl : ∀ x ∈ piecesB 47 s, x.size ≤ s.size := fun x hx => piecesB_size hx
  have hnn : (piecesB 47 s).length ≤ s.size + 1 := by
    have h1 := Lib.splitB_all ⟨#[47]⟩ (by decide) 0 _ s rfl
    rw [splitB_pieces 47 _ s rfl] at h1
    have := Lib.countB_le ⟨#[47]⟩ (by decide) s.size s (Nat.le_refl _)
    omega
  obtain ⟨res, hres⟩ : ∃ res, linkB s.data.toList = res := ⟨_, rfl⟩
  rw [hres]
  unfold linkB at hres
  rw [← hall, ← hsz] at hres
  generalize splitAt w (piecesB 47 s) = W at *
  generalize piecesB 47 s = xs at *
  have Hsp := Lib.hid hsp
  have Hst := Lib.hid hst
  have Hres := Lib.hid hres
  clear hsp hst hres hall hsz hm
  go_enter Tryd.func42, Tryd.ntmps42
  go_wp2_with fail
  refine Hsp.out.mono ?_
  rintro e w1 ⟨rfl, rfl⟩
  go_wp2
  go_loop [4] (fun s4 => ∃ i : Nat, i ≤ xs.length ∧ s4 = .int .i64 i ∧ ((xs.take i).all fun x => linkPart x.data.toList) = true) (fun s4 => xs.length - (intOf s4).toNat)
  case atStart => exact ⟨0, by omega, rfl, rfl⟩
  case round =>
    obtain ⟨i, hi, rfl, ha⟩ := hrel
    have Ha := Lib.hid ha
    clear ha
    by_cases hlt : i < xs.length
    · have hiz : (i : Int) < (xs.length : Int) := by omega
      obtain ⟨x, hx⟩ : ∃ x, xs[i]? = some x := ⟨_, List.getElem?_eq_getElem hlt⟩
      have hcell := Hst.out i x hx
      have hxs := hxl x (List.mem_of_getElem? hx)
      have hbad : linkPart x.data.toList = false → res = false := fun h => by
        rw [← Hres.out]
        have : (xs.all fun x => linkPart x.data.toList) = false := by
          rw [List.all_eq_false]
          exact ⟨x, List.mem_of_getElem? hx, by rw [h]; exact Bool.false_ne_true⟩
        rw [this, Bool.and_false]
      have hgood : linkPart x.data.toList = true → ((xs.take (i + 1)).all fun x => linkPart x.data.toList) = true := fun h => by
        rw [List.take_add_one, hx]
        simp only [Option.toList]
        rw [List.all_append, Ha.out]
        simp [h]
      clear hx
      by_cases h0 : x.data.toList = []
      · have hr : res = false := hbad (by simp [linkPart, h0])
        subst hr
        have he := empty_form h0
        clear h0 hbad hgood
        go_wp2
        go_ret
        exact ⟨rfl, hbel⟩
      · have he := nonempty_form h0
        by_cases h46 : x.data.toList = [46]
        · have hr : res = false := hbad (by rw [h46]; decide)
          subst hr
          have hq : x.toList = [46] := by rw [Lib.toList_data, h46]
          clear h0 h46 hbad hgood
          go_wp2
          go_ret
          exact ⟨rfl, hbel⟩
        · have hq := ne_form h46
          by_cases h4646 : x.data.toList = [46, 46]
          · have hr : res = false := hbad (by rw [h4646]; decide)
            subst hr
            have hq2 : x.toList = [46, 46] := by rw [Lib.toList_data, h4646]
            clear h0 h46 h4646 hbad hgood
            go_wp2
            go_ret
            exact ⟨rfl, hbel⟩
          · have hq2 := ne_form h4646
            have hin := fun W => in_any x ⟨#[65, 66, 67, 68, 69, 70, 71, 72, 73, 74, 75, 76, 77, 78, 79, 80, 81, 82, 83, 84, 85, 86, 87, 88, 89, 90, 97, 98, 99, 100, 101, 102, 103, 104, 105, 106, 107, 108, 109, 110, 111, 112, 113, 114, 115, 116, 117, 118, 119, 120, 121, 122, 48, 49, 50, 51, 52, 53, 54, 55, 56, 57, 95, 46, 58, 43, 45, 64, 35, 61, 37]⟩ W (by omega)
            rw [show (⟨#[65, 66, 67, 68, 69, 70, 71, 72, 73, 74, 75, 76, 77, 78, 79, 80, 81, 82, 83, 84, 85, 86, 87, 88, 89, 90, 97, 98, 99, 100, 101, 102, 103, 104, 105, 106, 107, 108, 109, 110, 111, 112, 113, 114, 115, 116, 117, 118, 119, 120, 121, 122, 48, 49, 50, 51, 52, 53, 54, 55, 56, 57, 95, 46, 58, 43, 45, 64, 35, 61, 37]⟩ : ByteArray).data.toList = LinkSet from rfl] at hin
            have hlp : linkPart x.data.toList = allIn LinkSet x.data.toList := by
              have hle : x.data.toList.isEmpty = false := by rw [← Lib.toList_data]; exact he
              unfold linkPart isDotsB
              rw [hle, beq_eq_false_iff_ne.2 h46, beq_eq_false_iff_ne.2 h4646]
              rfl
            rw [hlp] at hbad hgood
            cases hal : allIn LinkSet x.data.toList with
            | false =>
              have hr : res = false := hbad hal
              subst hr
              rw [hal] at hin
              have Hin := Lib.hid hin
              clear hin hal h0 h46 h4646 hbad hgood hlp
              go_wp2_with fail
              refine (Hin.out _).mono ?_
              rintro e w2 ⟨rfl, rfl⟩
              go_wp2
              go_ret
              exact ⟨rfl, hbel⟩
            | true =>
              rw [hal] at hin
              have Hin := Lib.hid hin
              have Hg := Lib.hid (hgood hal)
              clear hin hal h0 h46 h4646 hbad hgood hlp
              go_wp2_with fail
              refine (Hin.out _).mono ?_
              rintro e w2 ⟨rfl, rfl⟩
              go_wp2
              go_round
              case rel => exact ⟨i + 1, by omega, by go_num, Hg.out⟩
              case measure => simp [intOf]; omega
    · have h : xs.take i = xs := List.take_of_length_le (by omega)
      rw [h] at Ha
      have hr : res = decide ((s.size : Int) ≤ 256) := by
        rw [← Hres.out, Ha.out, Bool.and_true]
        exact decide_eq_decide.2 (by omega)
      have Hr := Lib.hid hr
      clear hr h
      go_wp2
      go_ret
      exact ⟨by rw [Hr.out]; rfl, hbel⟩
end Go.Proofs.YthdnbcgomepgaaaDoor.Nm
