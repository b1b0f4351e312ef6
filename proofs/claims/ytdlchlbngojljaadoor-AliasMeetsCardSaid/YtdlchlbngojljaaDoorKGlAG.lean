/- advance: the least byte with which a shortest text goes on. -/
import Derived.Test.YtdlchlbngojljaaDoorKGh
namespace Go.Proofs.YtdlchlbngojljaaDoor.Gl
open Go.RowKit Go.Maps

/-- While the front is gone through. -/
structure AInv (K : SK) (a b : List El) (S : List (Nat × Nat)) (C : Nat) (w : World) (R : List (Nat × Nat)) (v : Value) (W : World) : Prop where
  s : SAt K a b W
  m : LenMap K a b W
  n : SeenMap K a b S W
  row : W.ownsRow C 132 2 v R.length (pairsV R)
  fr : Fr (fun k => k = K.M1 ∨ C ≤ k) w W
  lb : C ≤ w.heap.size

theorem AInv.next {K : SK} {a b : List El} (hA : Apart K a b) {S : List (Nat × Nat)} {C : Nat} (hL : Low K a b C) {w : World} {R R' : List (Nat × Nat)} {v v' : Value} {W W' : World} (h : AInv K a b S C w R v W) (hf : Fr (fun k => k = K.M1 ∨ C ≤ k) W W') (hm : LenMap K a b W') (hr : W'.ownsRow C 132 2 v' R'.length (pairsV R')) : AInv K a b S C w R' v' W' := by
  have hx : ∀ x, x < C → x ≠ K.M1 → ¬ (x = K.M1 ∨ C ≤ x) := fun x h1 h2 => by
    rintro (h3 | h3)
    · exact h2 h3
    · omega
  exact ⟨h.s.fr hf (hx _ hL.s hA.s1) (fun h0 => hx _ (hL.a h0) (hA.a1 h0)) (fun h0 => hx _ (hL.b h0) (hA.b1 h0)) (hx _ hL.t hA.t1), hm, h.n.kept (hf.block _ h.n.lt (hx _ hL.m2 (fun e => hA.m e.symm))), hr, h.fr.trans hf, h.lb⟩
theorem AInv.below {K : SK} {a b : List El} (hA : Apart K a b) {S : List (Nat × Nat)} {C : Nat} (hL : Low K a b C) {w : World} {R : List (Nat × Nat)} {v : Value} {W W' : World} (h : AInv K a b S C w R v W) (hb : Below W.heap.size W W') : AInv K a b S C w R v W' :=
  h.next hA hL (Fr.of_below hb) (h.m.below hb) (ownsRow_below h.row hb)
theorem AInv.alloc {K : SK} {a b : List El} (hA : Apart K a b) {S : List (Nat × Nat)} {C : Nat} (hL : Low K a b C) {w : World} {R : List (Nat × Nat)} {v : Value} {W : World} (h : AInv K a b S C w R v W) (o : Obj) : AInv K a b S C w R v (W.alloc o) := h.below hA hL ((Below.refl _ _).alloc (Nat.le_refl _) o)
theorem AInv.length {K : SK} {a b : List El} (hA : Apart K a b) {S : List (Nat × Nat)} {C : Nat} (hL : Low K a b C) {w : World} {R : List (Nat × Nat)} {v : Value} {W W' : World} (h : AInv K a b S C w R v W) (hf : Fr (· = K.M1) W W') (hm : LenMap K a b W') : AInv K a b S C w R v W' :=
  h.next hA hL (hf.mono fun x _ e => Or.inl e) hm (row_fr h.row hf fun g hg e => by have := (h.row.lt g hg).1; have := hL.m1; omega)
theorem AInv.append {K : SK} {a b : List El} (hA : Apart K a b) {S : List (Nat × Nat)} {C : Nat} (hL : Low K a b C) {w : World} {R : List (Nat × Nat)} {v v' : Value} {W w1 : World} {tmp : Obj} {z : Nat × Nat} (h : AInv K a b S C w R v W)
    (hown : w1.ownsRow C 132 2 v' (R.length + 1) (pairsV R ++ [.int .i64 (z.1 : Int), .int .i64 (z.2 : Int)])) (hg : (W.alloc tmp).grownBy w1 v.ownBlock) : AInv K a b S C w (R ++ [z]) v' w1 := by
  have hf : Fr (fun k => k = K.M1 ∨ C ≤ k) W w1 := (Fr.of_below ((Below.refl _ W).alloc (Nat.le_refl _) tmp)).trans (Fr.of_grown hg fun x hx => Or.inr (h.row.lt x hx).1)
  have hm1 : v.ownBlock ≠ some K.M1 := fun e => by have := (h.row.lt _ e).1; have := hL.m1; omega
  have hb1 := h.m.lt
  refine h.next hA hL hf (h.m.kept ?_) (by rw [List.length_append, pairsV_snoc]; exact hown)
  rw [hg.block _ (by simp; omega) (fun e => hm1 e.symm)]
  exact Below.heap_alloc _ _ _ hb1
theorem AInv.empty {K : SK} {a b : List El} {S : List (Nat × Nat)} {C : Nat} {w : World} {R : List (Nat × Nat)} {v : Value} {W : World} (h : AInv K a b S C w R v W) : AInv K a b S C w [] (.slice none 0 0) W := ⟨h.s, h.m, h.n, World.ownsRow_nil _ _ _ _, h.fr, h.lb⟩

/-- The row of the front. -/
def FrontAt (w : World) (C : Nat) (v : Value) (F : List (Nat × Nat)) : Prop := ∃ a cap g, v = .slice a F.length cap ∧ (0 < F.length → a = some ⟨g, 0, none⟩ ∧ g < C) ∧ ∀ (j : Nat) (z : Nat × Nat), F[j]? = some z → w.cell? ⟨g, j * 2, none⟩ = some (.int .i64 (z.1 : Int)) ∧ w.cell? ⟨g, j * 2 + 1, none⟩ = some (.int .i64 (z.2 : Int))

theorem frontAt_of {w : World} {B : Nat} {v : Value} {F : List (Nat × Nat)} (h : w.ownsRow B 132 2 v F.length (pairsV F)) : FrontAt w w.heap.size v F := by
  rcases h.2 with ⟨rfl, h0⟩ | ⟨g, cap, cur, rfl, hB, hg, _⟩
  · refine ⟨none, 0, 0, by rw [h0], fun h => by omega, ?_⟩
    have : F = [] := List.length_eq_zero_iff.1 h0
    subst this
    intro j z hz
    simp at hz
  · refine ⟨some ⟨g, 0, none⟩, cap, g, rfl, fun _ => ⟨rfl, (Array.getElem?_eq_some_iff.1 hg).1⟩, fun j z hz => ?_⟩
    have hl := (List.getElem?_eq_some_iff.1 hz).1
    obtain ⟨h1, h2⟩ := pairsV_get F j z hz
    exact ⟨(h.cellAt (j * 2) (by omega)).trans h1, (h.cellAt (j * 2 + 1) (by omega)).trans h2⟩

def APost (K : SK) (a b : List El) (S : List (Nat × Nat)) (C left : Nat) (F : List (Nat × Nat)) (w : World) (e : Ending) (w' : World) : Prop :=
  ∃ v, e = .returned (.tuple #[.int .u8 ((advB a b left F).1.toNat : Int), v]) ∧ AInv K a b S C w (advB a b left F).2 v w'

theorem advB_take {a b : List El} {left : Nat} {F : List (Nat × Nat)} {j : Nat} {z : Nat × Nat} (h : F[j]? = some z) : advB a b left (F.take (j + 1)) = advStep a b left (advB a b left (F.take j)) z := by
  unfold advB
  rw [List.take_add_one, h, List.foldl_append]
  rfl

theorem advB_len (a b : List El) (left : Nat) (F : List (Nat × Nat)) : (advB a b left F).2.length ≤ F.length := by
  have key : ∀ (r : List (Nat × Nat)) (st : UInt8 × List (Nat × Nat)), (r.foldl (advStep a b left) st).2.length ≤ st.2.length + r.length := by
    intro r
    induction r with
    | nil => intro st; simp
    | cons z r ih =>
      intro st
      rw [List.foldl_cons]
      refine Nat.le_trans (ih _) ?_
      have : (advStep a b left st z).2.length ≤ st.2.length + 1 := by
        unfold advStep
        split
        · omega
        · split
          · omega
          · split
            · simp
            · simp
      simp only [List.length_cons]
      omega
  have := key F (0, [])
  simpa [advB] using this

theorem advStep_none {a b : List El} {left : Nat} {st : UInt8 × List (Nat × Nat)} {z : Nat × Nat} (h : stepP a b z.1 z.2 = none) : advStep a b left st z = st := by unfold advStep; rw [h]
theorem advStep_skip {a b : List El} {left : Nat} {st : UInt8 × List (Nat × Nat)} {z : Nat × Nat} {c : UInt8} {i k : Nat} (h : stepP a b z.1 z.2 = some (c, i, k)) (hs : lenP a b i k ≠ left ∨ (st.2 ≠ [] ∧ st.1.toNat < c.toNat)) : advStep a b left st z = st := by unfold advStep; rw [h]; simp only; rw [if_pos hs]
theorem advStep_same {a b : List El} {left : Nat} {st : UInt8 × List (Nat × Nat)} {z : Nat × Nat} {i k : Nat} (h : stepP a b z.1 z.2 = some (st.1, i, k)) (hl : lenP a b i k = left) : advStep a b left st z = (st.1, st.2 ++ [(i, k)]) := by
  unfold advStep; rw [h]; simp only; rw [if_neg (by rw [not_or]; exact ⟨fun h' => h' hl, fun h' => by omega⟩), if_pos trivial]
theorem advStep_new {a b : List El} {left : Nat} {st : UInt8 × List (Nat × Nat)} {z : Nat × Nat} {c : UInt8} {i k : Nat} (h : stepP a b z.1 z.2 = some (c, i, k)) (hl : lenP a b i k = left) (hn : ¬ (st.2 ≠ [] ∧ st.1.toNat < c.toNat)) (hc : c ≠ st.1) : advStep a b left st z = (c, [(i, k)]) := by
  unfold advStep; rw [h]; simp only; rw [if_neg (by rw [not_or]; exact ⟨fun h' => h' hl, hn⟩), if_neg hc]
end Go.Proofs.YtdlchlbngojljaaDoor.Gl
