/- Set. -/
import Derived.Test.YthdnbcgomepgaaaDoorF
namespace Go.Proofs.YthdnbcgomepgaaaDoor
open Go.RowKit

theorem heap_set_other (w : World) (a : Addr) (u : Value) (k : Nat) (h : k ≠ a.block) : (w.setCell a u).heap[k]? = w.heap[k]? := Below.heap_setCell w a u k h

theorem Owns.ne {w : World} {B : Nat} {v : Value} {l : List Atr} (h : Owns w B v l) : v.ownBlock ≠ some w.heap.size := fun e => by
  rcases h.form with ⟨hv, _⟩ | ⟨g, cap, hv, _, hg, _⟩
  · rw [hv] at e
    cases e
  · rw [hv] at e
    have h1 : g = w.heap.size := Option.some.inj e
    omega

/-- The value of an attribute is changed in its place. -/
theorem owns_store {w : World} {B : Nat} {sv : Value} {n y v : ByteArray} {A C : List Atr} (h : Owns w B sv (A ++ ((n, y) :: C))) :
    ∃ g cap, sv = .slice (some ⟨g, 0, none⟩) (A.length + (C.length + 1)) cap ∧ A.length + (C.length + 1) ≤ cap ∧ w.cell? ⟨g, A.length * 2 + 1, none⟩ = some (.string y) ∧ w.frozen? ⟨g, A.length * 2 + 1, none⟩ = false ∧
      Has (w.setCell ⟨g, A.length * 2 + 1, none⟩ (.string v)) sv (A ++ ((n, v) :: C)) ∧ Below B w (w.setCell ⟨g, A.length * 2 + 1, none⟩ (.string v)) := by
  rcases h.2 with ⟨_, hn⟩ | ⟨g, cap, cur, hv, hBg, hh, hc, hcm, hcs, ht⟩
  · simp at hn
  have hrow : Row w g 0 (A ++ ((n, y) :: C)) := row_of_heap hh ht
  have hlen : (A ++ ((n, y) :: C)).length = A.length + (C.length + 1) := by simp
  have hlen2 : (A ++ ((n, v) :: C)).length = A.length + (C.length + 1) := by simp
  have hat := hrow A.length (n, y) (by simp)
  simp only [Nat.zero_add] at hat
  refine ⟨g, cap, by rw [hv, hlen], by rw [← hlen]; exact hc, hat.2, by simp [World.frozen?, hh], .inr ⟨g, 0, cap, by rw [hv, hlen, hlen2], ?_, fun j z hz => ?_⟩, (Below.refl B w).setCell hBg _⟩
  · exact Nat.lt_of_lt_of_le (block_lt hh) ((Below.refl B w).setCell (p := ⟨g, A.length * 2 + 1, none⟩) hBg _).size
  · simp only [Nat.zero_add]
    by_cases hj : j = A.length
    · subst hj
      obtain rfl : z = (n, v) := by simpa using hz.symm
      exact ⟨(World.cell?_setCell_other _ _ _ _ (by simp)).trans hat.1, World.cell?_setCell_same _ _ _ hat.2⟩
    · have hz' : (A ++ ((n, y) :: C))[j]? = some z := by
        rcases Nat.lt_or_ge j A.length with h1 | h1
        · rw [List.getElem?_append_left h1] at hz ⊢
          exact hz
        · rw [List.getElem?_append_right h1] at hz ⊢
          obtain ⟨k, hk⟩ : ∃ k, j - A.length = k + 1 := ⟨j - A.length - 1, by omega⟩
          rw [hk, List.getElem?_cons_succ] at hz ⊢
          exact hz
      have := hrow j z hz'
      simp only [Nat.zero_add] at this
      exact ⟨(World.cell?_setCell_other _ _ _ _ (by first | (simp; done) | (simp; omega))).trans this.1, (World.cell?_setCell_other _ _ _ _ (by first | (simp; done) | (simp; omega))).trans this.2⟩

def SetPost (n v : ByteArray) (l : List Atr) (w : World) (e : Ending) (w' : World) : Prop := ∃ u, e = .returned u ∧ Has w' u (setP n v l) ∧ Below w.heap.size w w'

set_option maxHeartbeats 1000000 in
set_option maxRecDepth 100000 in
theorem set_any (n v : ByteArray) (sv : Value) (l : List Atr) (w : World) (hl : l.length ≤ 1000000) (hs : Srt l) (h : Has w sv l) : Calls Tryd.prog 21 #[sv, .string n, .string v] w (SetPost n v l w) := by
  obtain ⟨M, hM, hM2⟩ := srt_split n hs
  have hpl : Place n l (l.filter fun x => lt x.1 n).length (!M.isEmpty) := by
    have := place_split (n := n) (A := l.filter fun x => lt x.1 n) (M := M) (C := l.filter fun x => lt n x.1) (fun x hx => (List.mem_filter.1 hx).2) hM2 (fun x hx => (List.mem_filter.1 hx).2)
    rwa [← hM] at this
  have HP := Lib.hid (place_any n sv l _ _ w hl h hpl)
  have hS : ∀ u e w', (e = .returned u ∧ Has w' u (l.filter (fun x => lt x.1 n) ++ (one n v ++ l.filter fun x => lt n x.1)) ∧ Below w.heap.size w w') → SetPost n v l w e w' := fun u e w' h => ⟨u, h⟩
  have HS := Lib.hid hS
  have Hh := Lib.hid h
  have HCl := Lib.hid (fun W (h : Has W sv l) => clone_any sv l W hl h)
  have HM := Lib.hid hM
  have hal : (l.filter fun x => lt x.1 n).length ≤ l.length := hpl.le
  clear hS h hM hpl
  generalize l.filter (fun x => lt x.1 n) = A at *
  generalize l.filter (fun x => lt n x.1) = C at *
  by_cases hv : v = ⟨#[]⟩
  · have he := str_empty hv
    have hone : one n v = [] := by unfold one; rw [if_pos hv]
    rw [hone] at HS
    have hv' := hv
    clear hone hv
    rcases hM2 with rfl | ⟨y, rfl⟩
    · go_enter Tryd.func21, Tryd.ntmps21
      go_wp2_with fail
      refine HP.out.mono ?_
      rintro e W ⟨rfl, hb⟩
      go_wp2_with fail
      refine (HCl.out W (Hh.out.below hb)).mono ?_
      rintro e W2 ⟨u, rfl, hown, hb2⟩
      have HO := Lib.hid hown
      have HB := Lib.hid (hb.trans (hb2.mono hb.size))
      clear hown hb hb2
      go_wp2
      go_ret
      exact HS.out _ _ _ ⟨rfl, by have := HO.out.has; rwa [HM.out] at this, HB.out⟩
    · have Hwo := Lib.hid (fun W u (h : Owns W w.heap.size u l) => without_any w.heap.size A.length u l W hl (by rw [HM.out]; simp) h)
      go_enter Tryd.func21, Tryd.ntmps21
      go_wp2_with fail
      refine HP.out.mono ?_
      rintro e W ⟨rfl, hb⟩
      go_wp2_with fail
      refine (HCl.out W (Hh.out.below hb)).mono ?_
      rintro e W2 ⟨u, rfl, hown, hb2⟩
      have HB := Lib.hid (hb.trans (hb2.mono hb.size))
      have hBs := hb.size
      have hown' := hown.mono hBs
      have Ho := Lib.hid hown'
      clear hown hown' hb hb2 hBs
      go_wp2_with fail
      refine (Hwo.out _ _ Ho.out).mono ?_
      rintro e W3 ⟨u3, rfl, hh3, hb3⟩
      have Hh3 := Lib.hid hh3
      have Hb3 := Lib.hid (HB.out.trans hb3)
      clear hh3 hb3
      go_wp2
      go_ret
      refine HS.out _ _ _ ⟨rfl, ?_, Hb3.out⟩
      have := Hh3.out
      rw [HM.out] at this
      simpa using this
  · have he := str_full hv
    have hone : one n v = [(n, v)] := by unfold one; rw [if_neg hv]
    rw [hone] at HS
    clear hone hv
    rcases hM2 with rfl | ⟨y, rfl⟩
    · have hMl := HM.out
      rw [List.nil_append] at hMl
      have Hin := Lib.hid (fun W vb u (h : Owns W w.heap.size u l) (hB : w.heap.size ≤ W.heap.size) (hv : OneAt W vb n v) (hne : u.ownBlock ≠ some vb) => insert_any w.heap.size vb A.length n v u l W hl hal h hB hv hne)
      go_enter Tryd.func21, Tryd.ntmps21
      go_wp2_with fail
      refine HP.out.mono ?_
      rintro e W ⟨rfl, hb⟩
      go_wp2_with fail
      refine (HCl.out W (Hh.out.below hb)).mono ?_
      rintro e W2 ⟨u, rfl, hown, hb2⟩
      have HB := Lib.hid (hb.trans (hb2.mono hb.size))
      have hBs := hb.size
      have hown' := hown.mono hBs
      have Hon := Lib.hid (hown'.alloc (.cells #[.string n, .string v] 55))
      have Hne := Lib.hid hown'.ne
      have Hon1 := Lib.hid (heap_last W2 (.cells #[.string n, .string v] 55))
      have Hsz := Lib.hid (show w.heap.size ≤ (W2.alloc (.cells #[.string n, .string v] 55)).heap.size from Nat.le_trans HB.out.size (by simp))
      clear hown hown' hb hb2 hBs hMl
      go_wp2_with fail
      refine (Hin.out _ _ _ Hon.out Hsz.out Hon1.out Hne.out).mono ?_
      rintro e W3 ⟨u3, rfl, hh3, hb3⟩
      have Hh3 := Lib.hid hh3
      have Hb3 := Lib.hid ((HB.out.alloc HB.out.size _).trans hb3)
      clear hh3 hb3
      go_wp2
      go_ret
      refine HS.out _ _ _ ⟨rfl, ?_, Hb3.out⟩
      have := Hh3.out
      rw [HM.out] at this
      simpa using this
    · go_enter Tryd.func21, Tryd.ntmps21
      go_wp2_with fail
      refine HP.out.mono ?_
      rintro e W ⟨rfl, hb⟩
      go_wp2_with fail
      refine (HCl.out W (Hh.out.below hb)).mono ?_
      rintro e W2 ⟨u, rfl, hown, hb2⟩
      have HB := Lib.hid (hb.trans (hb2.mono hb.size))
      have hBs := hb.size
      have hown' := hown.mono hBs
      have hown2 := hown'
      rw [HM.out] at hown2
      obtain ⟨g, cap, rfl, hcap, hc, hf, hh, hbs⟩ := owns_store (v := v) (A := A) (C := C) hown2
      have hi1 : (A.length : Int) < ((A.length + (C.length + 1) : Nat) : Int) := by omega
      have Hh3 := Lib.hid hh
      have Hb3 := Lib.hid (HB.out.trans hbs)
      clear hown hown' hown2 hb hb2 hBs hh hbs
      go_wp2
      go_ret
      refine HS.out _ _ _ ⟨rfl, ?_, Hb3.out⟩
      have := Hh3.out
      simpa using this
end Go.Proofs.YthdnbcgomepgaaaDoor
