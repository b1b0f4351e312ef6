/- clones, as an own row. slices.Insert: a device is put into a list. -/
import Derived.Test.YtldcediiobfhiaaGreatDoorQDf
import Derived.Shelf.Spec.SlicesInsert
import Derived.Lib.AppendZerosOnto
import Derived.Laws.NewBlocks
namespace Go.Proofs.YtldcediiobfhiaaGreatDoor.De
open Go.RowKit
/-- An own row of devices whose attributes lie elsewhere. -/
structure DIn (W : World) (B : Nat) (v : Value) (L : List DV) : Prop where
 row : W.ownsRow B 34 10 v L.length (dvsC L)
 ats : ∀ x ∈ L, Has W x.2 x.1.ats
 ne : ∀ x ∈ L, x.1.ats ≠ [] → ∀ b, x.2.ownBlock = some b → B ≤ b ∧ v.ownBlock ≠ some b
theorem DIn.has {W : World} {B : Nat} {v : Value} {L : List DV} (h : DIn W B v L) : DHas W v L := DOwn.has ⟨h.row, h.ats⟩
def ShapeAt (W : World) (g c : Nat) : Prop := ∃ cur : Array Value, W.heap[g]? = some (.cells cur 34 (0, 0)) ∧ cur.size = c * 10 ∧ c ≤ maxLen
theorem ShapeAt.below {W W' : World} {g c : Nat} (h : ShapeAt W g c) (hg : g < W.heap.size) (hb : Below W.heap.size W W') : ShapeAt W' g c := by
 obtain ⟨cur, h1, h2⟩ := h
 exact ⟨cur, (hb.block g hg).trans h1, h2⟩
theorem ShapeAt.setCell {W : World} {g c : Nat} (h : ShapeAt W g c) (a : Addr) (v : Value) : ShapeAt (W.setCell a v) g c := by
 obtain ⟨cur, h1, h2, h3⟩ := h
 by_cases e : g = a.block
 ·refine ⟨if a.spot.isSome then cur else cur.setIfInBounds a.off v, ?_, ?_, h3⟩
  ·subst e
   show (W.heap.modify a.block _)[a.block]? = _
   rw [Array.getElem?_modify, if_pos rfl, h1]
   rfl
  ·split
   ·exact h2
   ·rw [Array.size_setIfInBounds]
    exact h2
 ·exact ⟨cur, (Below.heap_setCell W a v g e).trans h1, h2, h3⟩
theorem ShapeAt.setCells {g c : Nat} (g' : Nat) : ∀ (vs : List Value) (o : Nat) {W : World}, ShapeAt W g c → ShapeAt (W.setCells g' o vs) g c
 | [], _, _, h => h
 | v :: r, o, W, h => by
  rw [World.setCells]
  exact ShapeAt.setCells g' r (o + 1) (h.setCell ⟨g', o, none⟩ v)
end Go.Proofs.YtldcediiobfhiaaGreatDoor.De
namespace Go.Proofs.YtldcediiobfhiaaGreatDoor.De
open Go.RowKit
theorem has_kept {w w' : World} {sv : Value} {x : DV} (h : Has w x.2 x.1.ats) (hn : x.1.ats ≠ [] → ∀ b, x.2.ownBlock = some b → sv.ownBlock ≠ some b) (hs : w.heap.size ≤ w'.heap.size) (hk : ∀ b, b < w.heap.size → sv.ownBlock ≠ some b → w'.heap[b]? = w.heap[b]?) : Has w' x.2 x.1.ats := by
 cases hb : sv.ownBlock with
 | none => exact h.keep hs fun b hb2 _ => hk b hb2 (by rw [hb]; simp)
 | some g => exact h.other hs (g := g) (fun hne e => hn hne g e hb) fun b hb2 hne => hk b hb2 (by rw [hb]; intro e; cases e; exact hne rfl)
/-- What is put in, and where: the attributes do not lie in the row. -/
structure InsIn (w : World) (sv : Value) (L : List DV) : Prop where
 ats : ∀ x ∈ L, Has w x.2 x.1.ats
 ne : ∀ x ∈ L, x.1.ats ≠ [] → ∀ b, x.2.ownBlock = some b → sv.ownBlock ≠ some b
theorem InsIn.all {w w' : World} {sv : Value} {L : List DV} (h : InsIn w sv L) (hs : w.heap.size ≤ w'.heap.size) (hk : ∀ b, b < w.heap.size → sv.ownBlock ≠ some b → w'.heap[b]? = w.heap[b]?) : ∀ x ∈ L, Has w' x.2 x.1.ats := fun x hx => has_kept (h.ats x hx) (h.ne x hx) hs hk
def InsPost (B : Nat) (w : World) (L : List DV) (e : Ending) (w' : World) : Prop := ∃ u, e = .returned u ∧ DHas w' u L ∧ Below B w w'
end Go.Proofs.YtldcediiobfhiaaGreatDoor.De
