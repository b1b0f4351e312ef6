/- slices.Clone of terms; rows of bools; what is left out, on lists. -/
import Derived.Test.YtkkibibecgcbmaaGreatDoorKHd
import Derived.Lib.SliceRun
namespace Go.Proofs.YtkkibibecgcbmaaGreatDoor
open Go.RowKit

theorem own_emptyR {α : Type} {r : RT α} {W : World} {B : Nat} (hB : B ≤ W.heap.size) : r.Own (W.alloc (.cells #[] r.ty)) B (.slice (some ⟨W.heap.size, 0, none⟩) 0 0) [] :=
  ⟨by simp [RT.cells], .inr ⟨_, 0, #[], rfl, hB, heap_alloc_last _ _, Nat.le_refl _, by unfold maxLen; omega, by simp, by simp [RT.cells]⟩⟩
set_option maxRecDepth 100000 in
set_option maxHeartbeats 2000000 in
theorem clone_any {w : World} {v : Value} {l : List Tm} (hh : tmT.Has w v l) (hn : l ≠ []) (hl : l.length ≤ 1000000) : Calls Tryz.prog 56 #[v] w fun e w' => ∃ v', e = .returned v' ∧ tmT.Own w' w.heap.size v' l ∧ Kp [] w w' := by
  obtain ⟨va, vc, rfl, hrow⟩ := hh.form
  obtain ⟨b, o, rfl, hb, hr⟩ := hrow hn
  obtain ⟨Nb, hNb⟩ : ∃ Nb, w.heap.size = Nb := ⟨_, rfl⟩
  obtain ⟨w1, hw1⟩ : ∃ w1, w.alloc (.cells #[] 31) = w1 := ⟨_, rfl⟩
  have hk1 : Kp [] w w1 := by rw [← hw1]; exact (Kp.refl [] w).alloc _
  have HE := Lib.hid (show tmT.Own w1 w.heap.size (.slice (some ⟨Nb, 0, none⟩) 0 0) [] by
    have := own_emptyR (r := tmT) (W := w) (Nat.le_refl _)
    rw [hNb] at this ⊢
    rw [← hw1]
    exact this)
  have HR := Lib.hid (hr.keep (hk1.block b hb (by simp)))
  have HK1 := Lib.hid hk1
  have HL := Lib.hid hl
  have hn2 := fun W : World => Lib.run_eql_slice_nil (P := Tryz.prog) W 22 31 (some ⟨b, o, none⟩) l.length vc 0 0 Tryz.underlying22
  clear hr hb hk1 hrow hh
  go_enter Tryz.func56, Tryz.ntmps56
  go_wp2_with (at_builtin; refine wpList_append_rs (r := tmT) rfl (.tmp 5) (.tmp 6) rfl w.heap.size (.slice (some ⟨Nb, 0, none⟩) 0 0) [] l rfl HE.out b o vc rfl HR.out (by have := HL.out; simp; omega) HK1.out.size ?_; intro v8 w8 hown8 hgr8; have HO8 := Lib.hid hown8; have HK8 := Lib.hid (kp_grownS HK1.out hgr8 fun b hb => (HE.out.ge b hb).1); clear hown8 hgr8)
  go_ret
  exact ⟨_, rfl, HO8.out, HK8.out⟩
set_option maxRecDepth 100000 in
noncomputable def blT : RT Bool where
  sz := 1
  ty := 4
  sl := 88
  bt := 1
  z := .bool false
  cf := fun x => [.bool x]
  pos := by decide
  len := fun _ => rfl
  one := fun x v hv => by
    simp only [List.mem_cons, List.not_mem_nil, or_false] at hv
    rcases hv with rfl
    rfl
  und := Tryz.underlying88
  info := by kernel_rfl
  zs := rfl
  btl := by decide
theorem blRow {w : World} {b o : Nat} {l : List Bool} (h : blT.Row w b o l) {j : Nat} {x : Bool} (hx : l[j]? = some x) : w.cell? ⟨b, o + j, none⟩ = some (.bool x) := by
  have := h j x hx 0 _ rfl
  simpa [blT] using this
/-- Which rules are left out. -/
def outL : List RV → List Bool
  | [] => []
  | r :: l => (!staysR r (linkL l).1) :: outL l
theorem outL_len : ∀ l : List RV, (outL l).length = l.length
  | [] => rfl
  | r :: l => by rw [outL, List.length_cons, List.length_cons, outL_len l]
/-- Those of a list that a row of bools strikes, and the others. -/
def keepsL (L : List RV) (O : List Bool) : List RV := ((L.zip O).filter fun p => !p.2).map (·.1)
def dropsL (L : List RV) (O : List Bool) : List RV := ((L.zip O).filter fun p => p.2).map (·.1)
theorem linkL_out : ∀ L : List RV, linkL L = (keepsL L (outL L), dropsL L (outL L))
  | [] => rfl
  | r :: l => by
    have ih := linkL_out l
    rw [linkL, outL]
    unfold keepsL dropsL at ih ⊢
    rw [List.zip_cons_cons, List.filter_cons, List.filter_cons]
    cases h : staysR r (linkL l).1
    · simp only [Bool.not_false, Bool.not_true, Bool.false_eq_true, if_false, if_true]
      rw [ih]
      rfl
    · simp only [Bool.not_false, Bool.not_true, Bool.false_eq_true, if_false, if_true]
      rw [ih]
      rfl
theorem zip_at {L : List RV} {O : List Bool} {i : Nat} {x : RV} {q : Bool} (h1 : L[i]? = some x) (h2 : O[i]? = some q) : (L.take (i + 1)).zip (O.take (i + 1)) = (L.take i).zip (O.take i) ++ [(x, q)] := by
  rw [List.take_add_one, List.take_add_one, h1, h2]
  have e1 := (List.getElem?_eq_some_iff.1 h1).1
  have e2 := (List.getElem?_eq_some_iff.1 h2).1
  rw [List.zip_append (by simp; omega)]
  rfl
theorem keeps_at {L : List RV} {O : List Bool} {i : Nat} {x : RV} {q : Bool} (h1 : L[i]? = some x) (h2 : O[i]? = some q) : keepsL (L.take (i + 1)) (O.take (i + 1)) = keepsL (L.take i) (O.take i) ++ (if q then [] else [x]) := by
  unfold keepsL
  rw [zip_at h1 h2, List.filter_append, List.map_append]
  cases q <;> rfl
theorem drops_at {L : List RV} {O : List Bool} {i : Nat} {x : RV} {q : Bool} (h1 : L[i]? = some x) (h2 : O[i]? = some q) : dropsL (L.take (i + 1)) (O.take (i + 1)) = dropsL (L.take i) (O.take i) ++ (if q then [x] else []) := by
  unfold dropsL
  rw [zip_at h1 h2, List.filter_append, List.map_append]
  cases q <;> rfl
end Go.Proofs.YtkkibibecgcbmaaGreatDoor
