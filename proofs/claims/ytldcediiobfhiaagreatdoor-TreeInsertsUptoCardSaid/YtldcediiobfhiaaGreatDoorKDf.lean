/- The iterator over the ancestors of a device. The ancestors of a device, collected. -/
import Derived.Test.YtldcediiobfhiaaGreatDoorKDeE
import Derived.RangeFuncNested
import Derived.RangeFuncBound
import Derived.RangeFuncCalls
import Derived.RangeFuncLeaves
import Derived.Shelf.Abstract
import Derived.WalkKit
import Derived.OwnWalkIn
import Derived.TacticsInMore
import Derived.LoopNIn
import Derived.LoopIn
import Derived.Maps.OwnIn
import Derived.Maps.AppendAt
import Derived.RangeFuncBox
import Derived.Sort.CutIn
namespace Go.Proofs.YtldcediiobfhiaaGreatDoor.De
open Go.RowKit Go.Shelf Go.Maps
attribute [local go_sem] Oper.semAt_some
/-- Going up from a parent's number: at most so many devices. -/
def ancL (l : List DV) : Nat → Int → List DV
 | 0, _ => []
 | k + 1, p => match lastI (l.map (·.1)) p with
  | none => []
  | some q => match l[q]? with
   | none => []
   | some x => x :: ancL l k x.1.par
theorem ancL_none {l : List DV} {p : Int} (h : lastI (l.map (·.1)) p = none) : ∀ k, ancL l k p = []
 | 0 => rfl
 | k + 1 => by rw [ancL, h]
theorem ancL_some {l : List DV} {p : Int} {q : Nat} {x : DV} (h : lastI (l.map (·.1)) p = some q) (hx : l[q]? = some x) (k : Nat) : ancL l (k + 1) p = x :: ancL l k x.1.par := by rw [ancL, h]; simp only [hx]
theorem ancL_mem {l : List DV} : ∀ (k : Nat) (p : Int) (x : DV), x ∈ ancL l k p → x ∈ l
 | 0, _, _, h => by cases h
 | k + 1, p, x, h => by
  rw [ancL] at h
  cases hp : lastI (l.map (·.1)) p with
  | none => rw [hp] at h; cases h
  | some q =>
   rw [hp] at h
   simp only at h
   cases hx : l[q]? with
   | none => rw [hx] at h; cases h
   | some y =>
    rw [hx] at h
    rcases List.mem_cons.1 h with rfl | h
    ·exact List.mem_of_getElem? hx
    ·exact ancL_mem k _ x h
theorem ancL_len {l : List DV} : ∀ (k : Nat) (p : Int), (ancL l k p).length ≤ k
 | 0, _ => Nat.le_refl _
 | k + 1, p => by
  rw [ancL]
  cases lastI (l.map (·.1)) p with
  | none => simp
  | some q =>
   simp only
   cases l[q]? with
   | none => simp
   | some y =>
    have := ancL_len (l := l) k y.1.par
    simp
    omega
/-- What the iterator reads. -/
structure It (n₀ : Nat) (W : World) (Bd Bv V M N c : Nat) (par : Int) (a : Option Addr) (l : List DV) (D : DataW Unit) : Prop where
 bd : W.cell? ⟨Bd, 1, none⟩ = some (.int .i64 par)
 hd : Bd < n₀
 bv : W.cell? ⟨Bv, 0, none⟩ = some (.pointer (some ⟨V, 0, none⟩))
 hv : Bv < n₀
 v0 : W.cell? ⟨V, 0, none⟩ = some (.slice a N c)
 v1 : W.cell? ⟨V, 1, none⟩ = some (.map (some M))
 hV : V < n₀
 im : IMap W M N (lastI (l.map (·.1))) D
 hM : M < n₀
 len : l.length = N
 row : l ≠ [] → ∃ g o, a = some ⟨g, o, none⟩ ∧ g < n₀ ∧ ∀ (j : Nat) x, l[j]? = some x → W.rangeAt g (o + j * 10) (dvC x.1 x.2)
theorem It.keep {n₀ : Nat} {W W' : World} {Bd Bv V M N c : Nat} {par : Int} {a : Option Addr} {l : List DV} {D : DataW Unit} (h : It n₀ W Bd Bv V M N c par a l D) (hb : Below n₀ W W') : It n₀ W' Bd Bv V M N c par a l D :=
 ⟨(hb.cell (p := ⟨Bd, 1, none⟩) h.hd).trans h.bd, h.hd, (hb.cell (p := ⟨Bv, 0, none⟩) h.hv).trans h.bv, h.hv, (hb.cell (p := ⟨V, 0, none⟩) h.hV).trans h.v0, (hb.cell (p := ⟨V, 1, none⟩) h.hV).trans h.v1, h.hV,
  h.im.kept (hb.block M h.hM), h.hM, h.len, fun hl => by
   obtain ⟨g, o, e, hg, hr⟩ := h.row hl
   exact ⟨g, o, e, hg, fun j x hx m v hv => (hb.cell (p := ⟨g, o + j * 10 + m, none⟩) hg).trans (hr j x hx m v hv)⟩⟩
abbrev AD (l : List DV) : Type := { x : DV // x ∈ l }
def adE {l : List DV} (x : AD l) : Array Value := #[.agg #[.int .i64 x.1.1.idx, .int .i64 x.1.1.par, .string x.1.1.name, .string x.1.1.orig, .string x.1.1.sub, .string x.1.1.drv, .string x.1.1.ali, .int .i64 x.1.1.kind, .int .i64 x.1.1.num, x.1.2]]
end Go.Proofs.YtldcediiobfhiaaGreatDoor.De
namespace Go.Proofs.YtldcediiobfhiaaGreatDoor.De
open Go.RowKit Go.Shelf Go.Maps
attribute [local go_sem] Oper.semAt_some
def valsA {l : List DV} (pre : List (AD l)) : List DV := pre.map (fun p : AD l => p.1)
end Go.Proofs.YtldcediiobfhiaaGreatDoor.De
