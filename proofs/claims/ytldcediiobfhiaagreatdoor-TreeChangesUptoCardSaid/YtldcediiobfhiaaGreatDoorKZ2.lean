/- Insert, where it says no error. Insert of the program and of the reference answer the same, on lists. Insert of the program into a valid tree. -/
import Derived.Test.YtldcediiobfhiaaGreatDoorKV6
import Derived.Test.YtldcediiobfhiaaGreatDoorKZ1
import Derived.Test.YtldcediiobfhiaaGreatDoorKU4
import Derived.Test.YtldcediiobfhiaaGreatDoorKSe
namespace Go.Proofs.YtldcediiobfhiaaGreatDoor.De
open Go.RowKit Go.Maps
theorem DIn.below {W W' : World} {B : Nat} {v : Value} {L : List DV} (h : DIn W B v L) (hb : Below W.heap.size W W') : DIn W' B v L :=
 ⟨(DOwn.keep (⟨h.row, h.ats⟩ : DOwn W B v L) hb).row, fun x hx => (h.ats x hx).below hb, h.ne⟩
end Go.Proofs.YtldcediiobfhiaaGreatDoor.De
namespace Go.Proofs.YtldcediiobfhiaaGreatDoor
open Go.RowKit
theorem last_fnd {l : List De.ADev} (ht : De.Tidy l) (n : Int) : (De.lastI l n).isSome = (De.fnd l n).isSome := by
 rw [De.lastI_fnd ht n]
 cases hp : De.lastI l n with
 | none => rfl
 | some p =>
  obtain ⟨a, ha, -⟩ := De.lastI_some hp
  show true = (l[p]?).isSome
  rw [ha]
  rfl
theorem snd_chk (d : De.Dev) (la : List De.Atr) : sndA (aOf d la) = decide (De.checkE d la = 0) := rfl
theorem any_congr2 {α : Type} {p q : α → Bool} : ∀ {l : List α}, (∀ x ∈ l, p x = q x) → l.any p = l.any q
 | [], _ => rfl
 | a :: l, h => by
  rw [List.any_cons, List.any_cons, h a (List.mem_cons_self ..), any_congr2 fun x hx => h x (List.mem_cons_of_mem _ hx)]
end Go.Proofs.YtldcediiobfhiaaGreatDoor
namespace Go.Proofs.YtldcediiobfhiaaGreatDoor
open Go.RowKit
end Go.Proofs.YtldcediiobfhiaaGreatDoor
