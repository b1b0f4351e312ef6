/- Change of the program. -/
import Derived.Test.YtldcediiobfhiaaGreatDoorQZ9
import Derived.Test.YtldcediiobfhiaaGreatDoorQZ4
namespace Go.Proofs.YtldcediiobfhiaaGreatDoor.De
open Go.RowKit Go.Maps
/-- A row in which a device was put at a place. -/
theorem Cl.put {w W : World} {g i : Nat} {L : List DV} {x y : DV} (h : Cl w g L W) (hg : w.heap.size ≤ g) (hx : L[i]? = some x) (hu : Has W y.2 y.1.ats) (hn : y.1.ats ≠ [] → y.2.ownBlock ≠ some g) :
  Cl w g (L.set i y) (W.setCells g (i * 10) (dvC y.1 y.2)) := by
 have hsz := size_setCells g (dvC y.1 y.2) (i * 10) W
 have hil := (List.getElem?_eq_some_iff.1 hx).1
 have hth : W.there g (i * 10) (dvC y.1 y.2).length := fun j hj => ⟨(h.row i x hx).isSome j (by rw [dvC_len] at hj ⊢; exact hj), h.fr _⟩
 have hoth : ∀ b, b < W.heap.size → b ≠ g → (W.setCells g (i * 10) (dvC y.1 y.2)).heap[b]? = W.heap[b]? := fun b hb hne => World.heap_setCells_other W g _ _ hb hne
 have hA : ∀ {v : Value} {l : List Atr}, Has W v l → (l ≠ [] → v.ownBlock ≠ some g) → Has (W.setCells g (i * 10) (dvC y.1 y.2)) v l := fun hh hne => hh.other (Nat.le_of_eq hsz.symm) hne hoth
 refine ⟨fun j z hz => ?_, fun z hz => ?_, fun z hz => ?_, fun j => by rw [World.frozen?_setCells]; exact h.fr j, below_setCells g hg _ _ h.bl, by rw [hsz]; exact h.lt⟩
 ·by_cases hji : j = i
  ·subst hji
   rw [List.getElem?_set_self hil] at hz
   cases hz
   exact World.rangeAt_setCells_same W g _ _ hth
  ·rw [List.getElem?_set_ne (fun e => hji e.symm)] at hz
   refine World.rangeAt_setCells_apart (h.row j z hz) g _ _ (.inr ?_)
   rw [dvC_len, dvC_len]
   omega
 ·rcases List.mem_or_eq_of_mem_set hz with hm | rfl
  ·exact hA (h.ats z hm) (h.ne z hm)
  ·exact hA hu hn
 ·rcases List.mem_or_eq_of_mem_set hz with hm | rfl
  ·exact h.ne z hm
  ·exact hn
theorem DIn.cl {w W : World} {B : Nat} {u : Value} {l : List DV} (h : DIn W B u l) (_hB : w.heap.size ≤ B) (hl : l ≠ []) (hb : Below w.heap.size w W) : ∃ g c, u = .slice (some ⟨g, 0, none⟩) l.length c ∧ B ≤ g ∧ l.length ≤ c ∧ Cl w g l W := by
 have hh := h.has
 rcases h.row.2 with ⟨_, h0⟩ | ⟨g, cap, cur, rfl, hB2, hg, hc, _, _, ht⟩
 ·exact absurd (List.length_eq_zero_iff.1 h0) hl
 ·refine ⟨g, cap, rfl, hB2, hc, ?_, h.ats, fun x hx hne e => (h.ne x hx hne g e).2 rfl, fun j => by simp [World.frozen?, hg], hb, block_lt hg⟩
  rcases hh with ⟨a, c, hv, h0⟩ | ⟨g', o', c', hv, _, _, hr⟩
  ·exact absurd h0 hl
  ·simp only [Value.slice.injEq, Option.some.injEq, Addr.mk.injEq] at hv
   obtain ⟨⟨rfl, rfl, -⟩, -, -⟩ := hv
   intro j x hx
   have := hr.at_ j x hx
   rwa [Nat.zero_add] at this
end Go.Proofs.YtldcediiobfhiaaGreatDoor.De
