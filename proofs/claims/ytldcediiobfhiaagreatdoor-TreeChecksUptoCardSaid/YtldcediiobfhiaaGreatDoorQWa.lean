/- Children. -/
import Derived.Test.YtldcediiobfhiaaGreatDoorQRr
import Derived.Test.YtldcediiobfhiaaGreatDoorQDx
namespace Go.Proofs.YtldcediiobfhiaaGreatDoor.De
open Go.RowKit
/-- A row of devices of its own, whose attributes lie in rows of their own. -/
structure COwn (W : World) (B : Nat) (v : Value) (l : List DV) : Prop where
 row : W.ownsRow B 34 10 v l.length (dvsC l)
 ats : ∀ x ∈ l, Owns W B x.2 x.1.ats
theorem COwn.nil (W : World) (B : Nat) : COwn W B (.slice none 0 0) [] := ⟨World.ownsRow_nil _ _ _ _, fun x hx => by cases hx⟩
theorem COwn.has {W : World} {B : Nat} {v : Value} {l : List DV} (h : COwn W B v l) : DHas W v l := DOwn.has ⟨h.row, fun x hx => (h.ats x hx).has⟩
theorem COwn.below {W W' : World} {B : Nat} {v : Value} {l : List DV} (h : COwn W B v l) (hb : Below W.heap.size W W') : COwn W' B v l :=
 ⟨(DOwn.keep (⟨h.row, fun x hx => (h.ats x hx).has⟩ : DOwn W B v l) hb).row, fun x hx => (h.ats x hx).below hb⟩
theorem COwn.push {W W' : World} {B L vc : Nat} {va : Option Addr} {l : List DV} {d : ADev} {u v3 : Value} (h : COwn W B (.slice va L vc) l) (hu : Owns W B u d.ats) (hL : l.length = L) (h3 : W'.ownsRow B 34 10 v3 (L + 1) (dvsC l ++ dvC d u)) (hg : (W.alloc (.cells (dvC d u).toArray 34)).grownBy W' (Value.slice va L vc).ownBlock) : COwn W' B v3 (l ++ [(d, u)]) := by
 have hk : ∀ (z : Value) (k : List Atr), Owns W B z k → Owns W' B z k := fun z k ho => ho.keep fun b hb hz => by
  rw [hg.block b (by rw [World.size_alloc]; omega) (fun e => by
   rcases h.row.2 with ⟨hv, -⟩ | ⟨g, cap, cur, hv, -, hh, -⟩
   ·rw [hv] at e
    cases e
   ·rw [hv] at e
    have e2 : g = b := by simpa [Value.ownBlock] using e.symm
    rcases ho.2 with ⟨hz2, -⟩ | ⟨g2, cap2, cur2, hz2, -, hh2, -⟩
    ·rw [hz2] at hz
     cases hz
    ·rw [hz2] at hz
     have e3 : g2 = b := by simpa [Value.ownBlock] using hz
     rw [e2] at hh
     rw [e3, hh] at hh2
     simp at hh2)]
  exact Below.heap_alloc W _ b hb
 refine ⟨?_, fun x hx => ?_⟩
 ·rw [List.length_append, hL, dvsC_append]
  have h1 : dvsC [(d, u)] = dvC d u := by simp [dvsC]
  rw [h1]
  exact h3
 ·rcases List.mem_append.1 hx with hx | hx
  ·exact hk _ _ (h.ats x hx)
  ·rw [List.mem_singleton.1 hx]
   exact hk _ _ hu
end Go.Proofs.YtldcediiobfhiaaGreatDoor.De
