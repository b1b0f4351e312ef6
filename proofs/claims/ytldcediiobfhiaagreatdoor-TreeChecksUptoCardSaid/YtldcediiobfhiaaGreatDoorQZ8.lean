/- The iterator over a subtree once more, for a body that turns an elder block. Remove of the program. In a valid tree the program's Remove and the reference's leave the same devices. -/
import Derived.Test.YtldcediiobfhiaaGreatDoorQY1
import Derived.Test.YtldcediiobfhiaaGreatDoorQAB
import Derived.Sort.QuietTacIn
import Derived.Stop.RegionWithIn
import Derived.Test.YtldcediiobfhiaaGreatDoorQZ6
import Derived.Test.YtldcediiobfhiaaGreatDoorQSe
namespace Go.Proofs.YtldcediiobfhiaaGreatDoor.De
open Go.RowKit Go.Shelf Go.Maps
attribute [local go_sem] Oper.semAt_some
/-- What lies below a bound stays, but for one block. -/
structure Bex (n₀ Bs : Nat) (A B : World) : Prop where
 os : B.os = A.os
 tape : B.tape = A.tape
 output : B.output = A.output
 size : A.heap.size ≤ B.heap.size
 block : ∀ k, k < n₀ → k ≠ Bs → B.heap[k]? = A.heap[k]?
theorem Bex.refl (n₀ Bs : Nat) (w : World) : Bex n₀ Bs w w := ⟨rfl, rfl, rfl, Nat.le_refl _, fun _ _ _ => rfl⟩
theorem Bex.trans {n₀ Bs : Nat} {A B C : World} (h : Bex n₀ Bs A B) (g : Bex n₀ Bs B C) : Bex n₀ Bs A C :=
 ⟨g.os.trans h.os, g.tape.trans h.tape, g.output.trans h.output, Nat.le_trans h.size g.size, fun k hk hn => (g.block k hk hn).trans (h.block k hk hn)⟩
theorem Bex.of_below {n₀ Bs : Nat} {A B : World} (h : Below n₀ A B) : Bex n₀ Bs A B := ⟨h.os, h.tape, h.output, h.size, fun k hk _ => h.block k hk⟩
theorem Bex.drew {n₀ Bs : Nat} {A B : World} (h : Bex n₀ Bs A B) : Bex n₀ Bs A B.drew := ⟨h.os, h.tape, h.output, h.size, h.block⟩
theorem Bex.alloc {n₀ Bs : Nat} {A B : World} (h : Bex n₀ Bs A B) (hn : n₀ ≤ B.heap.size) (o : Obj) : Bex n₀ Bs A (B.alloc o) :=
 h.trans (Bex.of_below ((Below.refl n₀ B).alloc hn o))
theorem Bex.grown {n₀ Bs : Nat} {A B C : World} {row : Option Nat} (h : Bex n₀ Bs A B) (hg : B.grownBy C row) (hn : n₀ ≤ B.heap.size) (hr : ∀ k, row = some k → n₀ ≤ k) : Bex n₀ Bs A C :=
 h.trans (Bex.of_below ((Below.refl n₀ B).grown hg hn hr))
theorem Bex.cell {n₀ Bs : Nat} {A B : World} (h : Bex n₀ Bs A B) {p : Addr} (hp : p.block < n₀) (hn : p.block ≠ Bs) : B.cell? p = A.cell? p := World.cell?_of_block (h.block p.block hp hn)
def Kex (n₀ Bs : Nat) (A B : World) : Prop := Bex n₀ Bs A B ∧ KeepsWalks A B ∧ Kz Bs A B
theorem Kex.trans {n₀ Bs : Nat} {A B C : World} (h : Kex n₀ Bs A B) (k : Kex n₀ Bs B C) : Kex n₀ Bs A C := ⟨h.1.trans k.1, h.2.1.trans k.2.1, h.2.2.trans k.2.2⟩
theorem Kex.of {n₀ Bs : Nat} {A B : World} (h : Km n₀ Bs A B) : Kex n₀ Bs A B := ⟨Bex.of_below h.1, h.2⟩
/-- What the iterator reads; none of it is the block that is turned. -/
structure It3 (n₀ Bs : Nat) (W : World) (Bv Ba V N c p : Nat) (a : Option Addr) (l : List DV) : Prop where
 bv : W.cell? ⟨Bv, 0, none⟩ = some (.pointer (some ⟨V, 0, none⟩))
 hv : Bv < n₀ ∧ Bv ≠ Bs
 ba : W.cell? ⟨Ba, 0, none⟩ = some (.int .i64 (p : Int))
 ha : Ba < n₀ ∧ Ba ≠ Bs
 v0 : W.cell? ⟨V, 0, none⟩ = some (.slice a N c)
 hV : V < n₀ ∧ V ≠ Bs
 len : l.length = N
 row : ∃ g o, a = some ⟨g, o, none⟩ ∧ (g < n₀ ∧ g ≠ Bs) ∧ ∀ (j : Nat) x, l[j]? = some x → W.rangeAt g (o + j * 10) (dvC x.1 x.2)
theorem It3.keep {n₀ Bs : Nat} {W W' : World} {Bv Ba V N c p : Nat} {a : Option Addr} {l : List DV} (h : It3 n₀ Bs W Bv Ba V N c p a l) (hb : Bex n₀ Bs W W') : It3 n₀ Bs W' Bv Ba V N c p a l :=
 ⟨(hb.cell (p := ⟨Bv, 0, none⟩) h.hv.1 h.hv.2).trans h.bv, h.hv, (hb.cell (p := ⟨Ba, 0, none⟩) h.ha.1 h.ha.2).trans h.ba, h.ha, (hb.cell (p := ⟨V, 0, none⟩) h.hV.1 h.hV.2).trans h.v0, h.hV, h.len, by
   obtain ⟨g, o, e, hg, hr⟩ := h.row
   exact ⟨g, o, e, hg, fun j x hx m v hv => (hb.cell (p := ⟨g, o + j * 10 + m, none⟩) hg.1 hg.2).trans (hr j x hx m v hv)⟩⟩
end Go.Proofs.YtldcediiobfhiaaGreatDoor.De
namespace Go.Proofs.YtldcediiobfhiaaGreatDoor.De
open Go.RowKit Go.Shelf Go.Maps
attribute [local go_sem] Oper.semAt_some
theorem Bex.set {n₀ Bs : Nat} {W : World} (v : Value) : Bex n₀ Bs W (W.setCell ⟨Bs, 0, none⟩ v) := ⟨rfl, rfl, rfl, by simp [World.setCell], fun _ _ hn => Below.heap_setCell _ _ _ _ hn⟩
end Go.Proofs.YtldcediiobfhiaaGreatDoor.De
namespace Go.Proofs.YtldcediiobfhiaaGreatDoor
open Go.RowKit
end Go.Proofs.YtldcediiobfhiaaGreatDoor
