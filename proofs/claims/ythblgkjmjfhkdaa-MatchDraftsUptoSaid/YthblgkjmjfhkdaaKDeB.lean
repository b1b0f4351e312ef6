/- The reference's Set, and attrs: the lists of the statements. -/
import Derived.Test.YthblgkjmjfhkdaaKDeA
namespace Go.Proofs.Ythblgkjmjfhkdaa.De
open Go.RowKit

theorem info55 : (Try.prog.info? 50).map (fun i => (i.zero, i.size, i.bytes)) = some (some (.agg #[.string ⟨#[]⟩, .string ⟨#[]⟩]), 2, 32) := by kernel_rfl

theorem heap_last (w : World) (o : Obj) : (w.alloc o).heap[w.heap.size]? = some o := by
  show (w.heap.push o)[w.heap.size]? = some o
  simp
theorem cells_new (w : World) (c : Array Value) (t : TypeId) : ∀ j u, c.toList[j]? = some u → (w.alloc (.cells c t)).cell? ((⟨w.heap.size, 0, none⟩ : Addr).add j) = some u := by
  intro j u h
  have hadd : (⟨w.heap.size, 0, none⟩ : Addr).add j = ⟨w.heap.size, j, none⟩ := by unfold Addr.add; split <;> simp_all
  rw [hadd, cell_of_row _ _ j _ _ _ (heap_last w (.cells c t))]
  simpa using h
theorem Owns.alloc {w : World} {B : Nat} {v : Value} {l : List Atr} (h : Owns w B v l) (o : Obj) : Owns (w.alloc o) B v l := h.keep fun k hk _ => Below.heap_alloc w o k hk
theorem Owns.nil (w : World) (B : Nat) : Owns w B (.slice none 0 0) [] := ⟨rfl, .inl ⟨rfl, rfl⟩⟩
theorem Owns.append {w : World} {B : Nat} {v : Value} {l : List Atr} {n x : ByteArray} (h : w.ownsRow B 50 2 v (l.length + 1) (cellsP l ++ [.string n, .string x])) : Owns w B v (l ++ [(n, x)]) := by
  unfold Owns
  rw [cellsP_append, List.length_append]
  exact h

theorem str_ne {a b : ByteArray} (h : a ≠ b) : (a.toList == b.toList) = false := beq_eq_false_iff_ne.2 fun e => h (data_inj e)

end Go.Proofs.Ythblgkjmjfhkdaa.De
