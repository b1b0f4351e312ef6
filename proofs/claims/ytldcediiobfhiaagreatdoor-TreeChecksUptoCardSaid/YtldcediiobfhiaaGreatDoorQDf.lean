/- clones: a list of devices that shares no memory with another. The iterator over the ancestors of a device. The ancestors of a device, collected. Ancestors. -/
import Derived.Test.YtldcediiobfhiaaGreatDoorQDeDL
import Derived.Deep.MidRow
import Derived.Deep.Upon
import Derived.Deep.DeepCutAuto
import Derived.Deep.CutBlock
import Derived.RangeFuncNested
import Derived.RangeFuncBound
import Derived.RangeFuncCalls
import Derived.RangeFuncLeaves
import Derived.Shelf.Abstract
import Derived.WalkKit
import Derived.OwnWalkIn
import Derived.TacticsInMore
import Derived.LoopNIn
import Derived.LoopIn
import Derived.Maps.OwnIn
import Derived.Maps.AppendAt
import Derived.RangeFuncBox
import Derived.Sort.CutIn
namespace Go.Proofs.YtldcediiobfhiaaGreatDoor.De
open Go.RowKit
theorem below_setCells {n : Nat} {w : World} (g : Nat) (hg : n ≤ g) : ∀ (vs : List Value) (o : Nat) {W : World}, Below n w W → Below n w (W.setCells g o vs)
 | [], _, _, h => h
 | v :: r, o, W, h => by
  rw [World.setCells]
  exact below_setCells g hg r (o + 1) (h.setCell (p := ⟨g, o, none⟩) hg v)
theorem size_setCells (g : Nat) : ∀ (vs : List Value) (o : Nat) (W : World), (W.setCells g o vs).heap.size = W.heap.size
 | [], _, _ => rfl
 | v :: r, o, W => by
  rw [World.setCells, size_setCells g r (o + 1)]
  simp [World.setCell]
theorem Has.lt {W : World} {v : Value} {l : List Atr} (h : Has W v l) (hl : l ≠ []) : ∀ b, v.ownBlock = some b → b < W.heap.size := by
 rcases h with ⟨a, c, rfl, rfl⟩ | ⟨b, o, c, rfl, hb, _⟩
 ·exact absurd rfl hl
 ·intro b' hb'
  cases hb'
  exact hb
theorem Has.other {W W' : World} {v : Value} {l : List Atr} (h : Has W v l) (hs : W.heap.size ≤ W'.heap.size) {g : Nat} (hg : l ≠ [] → v.ownBlock ≠ some g) (hk : ∀ b, b < W.heap.size → b ≠ g → W'.heap[b]? = W.heap[b]?) : Has W' v l := by
 cases l with
 | nil =>
  rcases h with h | ⟨b, o, c, hv, hb, hr⟩
  ·exact .inl h
  ·exact .inr ⟨b, o, c, hv, Nat.lt_of_lt_of_le hb hs, fun j x hx => by simp at hx⟩
 | cons x l => exact h.keep hs fun b hb hv => hk b hb fun e => hg (by simp) (by rw [hv, e])
/-- A row of devices in block g, in the middle of being copied. -/
structure Cl (w : World) (g : Nat) (L : List DV) (W : World) : Prop where
 row : ∀ (j : Nat) x, L[j]? = some x → W.rangeAt g (j * 10) (dvC x.1 x.2)
 ats : ∀ x ∈ L, Has W x.2 x.1.ats
 ne : ∀ x ∈ L, x.1.ats ≠ [] → x.2.ownBlock ≠ some g
 fr : ∀ j, W.frozen? ⟨g, j, none⟩ = false
 bl : Below w.heap.size w W
 lt : g < W.heap.size
theorem Cl.below {w W W' : World} {g : Nat} {L : List DV} (h : Cl w g L W) (hb : Below W.heap.size W W') : Cl w g L W' :=
 have e := hb.block g h.lt
 ⟨fun j x hx m v hv => by
  have := h.row j x hx m v hv
  simp only [World.cell?, e] at this ⊢
  exact this, fun x hx => (h.ats x hx).below hb, h.ne, fun j => by
  have := h.fr j
  simp only [World.frozen?, e] at this ⊢
  exact this, h.bl.trans (hb.mono h.bl.size), Nat.lt_of_lt_of_le h.lt hb.size⟩
theorem Cl.set {w W : World} {g i : Nat} {L : List DV} {x : DV} {u : Value} (h : Cl w g L W) (hg : w.heap.size ≤ g) (hx : L[i]? = some x) (hu : Has W u x.1.ats) (hn : x.1.ats ≠ [] → u.ownBlock ≠ some g) :
  Cl w g (L.set i (x.1, u)) (W.setCells g (i * 10) (dvC x.1 u)) := by
 have hsz := size_setCells g (dvC x.1 u) (i * 10) W
 have hil := (List.getElem?_eq_some_iff.1 hx).1
 have hth : W.there g (i * 10) (dvC x.1 u).length := fun j hj => ⟨(h.row i x hx).isSome j (by rw [dvC_len] at hj ⊢; exact hj), h.fr _⟩
 have hoth : ∀ b, b < W.heap.size → b ≠ g → (W.setCells g (i * 10) (dvC x.1 u)).heap[b]? = W.heap[b]? := fun b hb hne => World.heap_setCells_other W g _ _ hb hne
 have hA : ∀ {v : Value} {l : List Atr}, Has W v l → (l ≠ [] → v.ownBlock ≠ some g) → Has (W.setCells g (i * 10) (dvC x.1 u)) v l := fun hh hne => hh.other (Nat.le_of_eq hsz.symm) hne hoth
 refine ⟨fun j y hy => ?_, fun y hy => ?_, fun y hy => ?_, fun j => by rw [World.frozen?_setCells]; exact h.fr j, below_setCells g hg _ _ h.bl, by rw [hsz]; exact h.lt⟩
 ·by_cases hji : j = i
  ·subst hji
   rw [List.getElem?_set_self hil] at hy
   cases hy
   exact World.rangeAt_setCells_same W g _ _ hth
  ·rw [List.getElem?_set_ne (fun e => hji e.symm)] at hy
   refine World.rangeAt_setCells_apart (h.row j y hy) g _ _ (.inr ?_)
   rw [dvC_len, dvC_len]
   omega
 ·rcases List.mem_or_eq_of_mem_set hy with hm | rfl
  ·exact hA (h.ats y hm) (h.ne y hm)
  ·exact hA hu hn
 ·rcases List.mem_or_eq_of_mem_set hy with hm | rfl
  ·exact h.ne y hm
  ·exact hn
theorem Cl.start {w W : World} {u : Value} {l : List DV} (h : DOwn W w.heap.size u l) (hl : l ≠ []) (hb : Below w.heap.size w W) (hA : ∀ x ∈ l, Has w x.2 x.1.ats) : ∃ g c, u = .slice (some ⟨g, 0, none⟩) l.length c ∧ w.heap.size ≤ g ∧ l.length ≤ c ∧ Cl w g l W := by
 have hh := h.has
 rcases h.row.2 with ⟨_, h0⟩ | ⟨g, cap, cur, rfl, hB, hg, hc, _, _, ht⟩
 ·exact absurd (List.length_eq_zero_iff.1 h0) hl
 ·refine ⟨g, cap, rfl, hB, hc, ?_, h.ats, fun x hx hne e => ?_, fun j => by simp [World.frozen?, hg], hb, block_lt hg⟩
  ·rcases hh with ⟨a, c, hv, h0⟩ | ⟨g', o', c', hv, _, _, hr⟩
   ·exact absurd h0 hl
   ·simp only [Value.slice.injEq, Option.some.injEq, Addr.mk.injEq] at hv
    obtain ⟨⟨rfl, rfl, -⟩, -, -⟩ := hv
    intro j x hx
    have := hr.at_ j x hx
    rwa [Nat.zero_add] at this
  ·have := (hA x hx).lt hne g e
   omega
theorem Cl.has {w W : World} {g c : Nat} {L : List DV} (h : Cl w g L W) (hc : L.length ≤ c) : DHas W (.slice (some ⟨g, 0, none⟩) L.length c) L :=
 .inr ⟨g, 0, c, rfl, hc, h.lt, ⟨fun j x hx => by rw [Nat.zero_add]; exact h.row j x hx, h.ats⟩⟩
theorem Owns.new {w : World} {B : Nat} {v : Value} {l : List Atr} (h : Owns w B v l) (hl : l ≠ []) {g : Nat} (hg : g < B) : v.ownBlock ≠ some g := by
 rcases h.form with ⟨_, h0⟩ | ⟨g', cap, rfl, hB, _⟩
 ·exact absurd h0 hl
 ·intro e
  have e2 : g' = g := Option.some.inj e
  omega
theorem Owns.ge {w : World} {B : Nat} {v : Value} {l : List Atr} (h : Owns w B v l) (hl : l ≠ []) : ∀ b, v.ownBlock = some b → B ≤ b := by
 rcases h.form with ⟨_, h0⟩ | ⟨g', cap, rfl, hB, _⟩
 ·exact absurd h0 hl
 ·intro b e
  have e2 : g' = b := Option.some.inj e
  omega
end Go.Proofs.YtldcediiobfhiaaGreatDoor.De
namespace Go.Proofs.YtldcediiobfhiaaGreatDoor.De
open Go.RowKit Go.Shelf Go.Maps
attribute [local go_sem] Oper.semAt_some
/-- Going up from a parent's number: at most so many devices. -/
def ancL (l : List DV) : Nat → Int → List DV
 | 0, _ => []
 | k + 1, p => match lastI (l.map (·.1)) p with
  | none => []
  | some q => match l[q]? with
   | none => []
   | some x => x :: ancL l k x.1.par
theorem ancL_none {l : List DV} {p : Int} (h : lastI (l.map (·.1)) p = none) : ∀ k, ancL l k p = []
 | 0 => rfl
 | k + 1 => by rw [ancL, h]
theorem ancL_some {l : List DV} {p : Int} {q : Nat} {x : DV} (h : lastI (l.map (·.1)) p = some q) (hx : l[q]? = some x) (k : Nat) : ancL l (k + 1) p = x :: ancL l k x.1.par := by rw [ancL, h]; simp only [hx]
theorem ancL_mem {l : List DV} : ∀ (k : Nat) (p : Int) (x : DV), x ∈ ancL l k p → x ∈ l
 | 0, _, _, h => by cases h
 | k + 1, p, x, h => by
  rw [ancL] at h
  cases hp : lastI (l.map (·.1)) p with
  | none => rw [hp] at h; cases h
  | some q =>
   rw [hp] at h
   simp only at h
   cases hx : l[q]? with
   | none => rw [hx] at h; cases h
   | some y =>
    rw [hx] at h
    rcases List.mem_cons.1 h with rfl | h
    ·exact List.mem_of_getElem? hx
    ·exact ancL_mem k _ x h
theorem ancL_len {l : List DV} : ∀ (k : Nat) (p : Int), (ancL l k p).length ≤ k
 | 0, _ => Nat.le_refl _
 | k + 1, p => by
  rw [ancL]
  cases lastI (l.map (·.1)) p with
  | none => simp
  | some q =>
   simp only
   cases l[q]? with
   | none => simp
   | some y =>
    have := ancL_len (l := l) k y.1.par
    simp
    omega
/-- What the iterator reads. -/
structure It (n₀ : Nat) (W : World) (Bd Bv V M N c : Nat) (par : Int) (a : Option Addr) (l : List DV) (D : DataW Unit) : Prop where
 bd : W.cell? ⟨Bd, 1, none⟩ = some (.int .i64 par)
 hd : Bd < n₀
 bv : W.cell? ⟨Bv, 0, none⟩ = some (.pointer (some ⟨V, 0, none⟩))
 hv : Bv < n₀
 v0 : W.cell? ⟨V, 0, none⟩ = some (.slice a N c)
 v1 : W.cell? ⟨V, 1, none⟩ = some (.map (some M))
 hV : V < n₀
 im : IMap W M N (lastI (l.map (·.1))) D
 hM : M < n₀
 len : l.length = N
 row : l ≠ [] → ∃ g o, a = some ⟨g, o, none⟩ ∧ g < n₀ ∧ ∀ (j : Nat) x, l[j]? = some x → W.rangeAt g (o + j * 10) (dvC x.1 x.2)
theorem It.keep {n₀ : Nat} {W W' : World} {Bd Bv V M N c : Nat} {par : Int} {a : Option Addr} {l : List DV} {D : DataW Unit} (h : It n₀ W Bd Bv V M N c par a l D) (hb : Below n₀ W W') : It n₀ W' Bd Bv V M N c par a l D :=
 ⟨(hb.cell (p := ⟨Bd, 1, none⟩) h.hd).trans h.bd, h.hd, (hb.cell (p := ⟨Bv, 0, none⟩) h.hv).trans h.bv, h.hv, (hb.cell (p := ⟨V, 0, none⟩) h.hV).trans h.v0, (hb.cell (p := ⟨V, 1, none⟩) h.hV).trans h.v1, h.hV,
  h.im.kept (hb.block M h.hM), h.hM, h.len, fun hl => by
   obtain ⟨g, o, e, hg, hr⟩ := h.row hl
   exact ⟨g, o, e, hg, fun j x hx m v hv => (hb.cell (p := ⟨g, o + j * 10 + m, none⟩) hg).trans (hr j x hx m v hv)⟩⟩
abbrev AD (l : List DV) : Type := { x : DV // x ∈ l }
def adE {l : List DV} (x : AD l) : Array Value := #[.agg #[.int .i64 x.1.1.idx, .int .i64 x.1.1.par, .string x.1.1.name, .string x.1.1.orig, .string x.1.1.sub, .string x.1.1.drv, .string x.1.1.ali, .int .i64 x.1.1.kind, .int .i64 x.1.1.num, x.1.2]]
end Go.Proofs.YtldcediiobfhiaaGreatDoor.De
namespace Go.Proofs.YtldcediiobfhiaaGreatDoor.De
open Go.RowKit Go.Shelf Go.Maps
attribute [local go_sem] Oper.semAt_some
def valsA {l : List DV} (pre : List (AD l)) : List DV := pre.map (fun p : AD l => p.1)
end Go.Proofs.YtldcediiobfhiaaGreatDoor.De
namespace Go.Proofs.YtldcediiobfhiaaGreatDoor.De
open Go.RowKit Go.Maps
theorem anc_any (V : Nat) (a : ADev) (v : Value) (w : World) : Calls Tryz.prog 76 #[.pointer (some ⟨V, 0, none⟩), .agg (dvC a v).toArray] w fun e w' =>
  e = .returned (.func (.func 110) #[] #[.pointer (some ⟨w.heap.size + 1, 0, none⟩), .pointer (some ⟨w.heap.size, 0, none⟩)]) ∧ w' = (w.alloc (.cells #[.pointer (some ⟨V, 0, none⟩)] 64)).alloc (.cells (dvC a v).toArray 34) := by
 unfold dvC
 go_enter Tryz.func76, Tryz.ntmps76
 go_wp2
 go_ret
 exact ⟨rfl, rfl⟩
end Go.Proofs.YtldcediiobfhiaaGreatDoor.De
