/- The iterator over a subtree: plain side, and what it reads. The iterator over a subtree. The subtree, collected. Subtree. -/
import Derived.Test.YtldcediiobfhiaaGreatDoorQDf
import Derived.Test.YtldcediiobfhiaaGreatDoorQTu
import Derived.Test.YtldcediiobfhiaaGreatDoorQAB
import Derived.Sort.QuietTacIn
import Derived.Stop.RegionWithIn
namespace Go.Proofs.YtldcediiobfhiaaGreatDoor.De
open Go.RowKit Go.Shelf Go.Maps
attribute [local go_sem] Oper.semAt_some
def f1 (i : Int) : Int → Bool := fun j => j == i || false
/-- The block of the row in a box. -/
def ownAt (W : World) (Bs : Nat) : Option Nat := (W.cell? ⟨Bs, 0, none⟩).bind Value.ownBlock
theorem ownAt_eq {A B : World} {Bs : Nat} (h : B.heap[Bs]? = A.heap[Bs]?) : ownAt B Bs = ownAt A Bs := by
 unfold ownAt World.cell?
 rw [h]
/-- Of cells, a round turns a box and the row in it. -/
structure Kz (Bs : Nat) (A B : World) : Prop where
 size : A.heap.size ≤ B.heap.size
 same : ∀ (k : Nat) (o : Obj), A.heap[k]? = some o → o.isCells = true → k ≠ Bs → ownAt A Bs ≠ some k → B.heap[k]? = some o
 own : ∀ k, ownAt B Bs = some k → ownAt A Bs = some k ∨ A.heap.size ≤ k
 lt : (∀ k, ownAt A Bs = some k → k < A.heap.size) → ∀ k, ownAt B Bs = some k → k < B.heap.size
theorem Kz.trans {Bs : Nat} {A B C : World} (h : Kz Bs A B) (g : Kz Bs B C) : Kz Bs A C := by
 refine ⟨Nat.le_trans h.size g.size, fun k o hk hc hn ho => g.same k o (h.same k o hk hc hn ho) hc hn fun e => ?_, fun k hk => ?_, fun hA => g.lt (h.lt hA)⟩
 ·rcases h.own k e with h1 | h1
  ·exact ho h1
  ·have := (Array.getElem?_eq_some_iff.1 hk).1
   omega
 ·rcases g.own k hk with h1 | h1
  ·exact h.own k h1
  ·exact .inr (Nat.le_trans h.size h1)
/-- A step that leaves the box and all cells. -/
theorem Kz.step {Bs : Nat} {A B : World} (hs : A.heap.size ≤ B.heap.size) (h : ∀ (k : Nat) (o : Obj), A.heap[k]? = some o → o.isCells = true → B.heap[k]? = some o) (hb : B.heap[Bs]? = A.heap[Bs]?) : Kz Bs A B := by
 have e := ownAt_eq hb
 exact ⟨hs, fun k o hk hc _ _ => h k o hk hc, fun k hk => .inl (e ▸ hk), fun hA k hk => Nat.lt_of_lt_of_le (hA k (e ▸ hk)) hs⟩
theorem Kz.alloc {Bs : Nat} {W : World} (hB : Bs < W.heap.size) (o : Obj) : Kz Bs W (W.alloc o) :=
 Kz.step (by simp) (fun k o' hk _ => (Below.heap_alloc W o k (Array.getElem?_eq_some_iff.1 hk).1).trans hk) (Below.heap_alloc W o Bs hB)
/-- What a round keeps: what lies below n₀, maps, and cells that are not its own. -/
def Km (n₀ Bs : Nat) (A B : World) : Prop := Below n₀ A B ∧ KeepsWalks A B ∧ Kz Bs A B
theorem Km.trans {n₀ Bs : Nat} {A B C : World} (h : Km n₀ Bs A B) (k : Km n₀ Bs B C) : Km n₀ Bs A C := ⟨h.1.trans k.1, h.2.1.trans k.2.1, h.2.2.trans k.2.2⟩
theorem boolE (x : Bool) : plainElem (H := Unit) Tryz.prog 4 (.bool x) = some (.lit (.bool x), []) := plainElem_bool Tryz.underlying4 x
set_option maxRecDepth 100000 in
theorem bool_inv {v : Value} {z : DataW Unit × List MemPlace} (h : plainElem Tryz.prog 4 v = some z) : ∃ x, v = .bool x ∧ z = (.lit (.bool x), []) := by
 unfold plainElem at h
 rw [Tryz.underlying4] at h
 cases v <;> simp at h
 exact ⟨_, rfl, h.symm⟩
/-- Block M is a map of numbers: those of which f says yes. -/
structure BMap (w : World) (M N : Nat) (f : Int → Bool) (D : DataW Unit) : Prop where
 own : w.ownsMap Tryz.prog 3 (plainElem Tryz.prog 4) M N D
 val : ∀ x, (Lit.int .i64 x).wf = true → D.atKey (.int .i64 x) (.lit (.bool false)) = .lit (.bool (f x))
theorem BMap.kept {w w' : World} {M N : Nat} {f : Int → Bool} {D : DataW Unit} (h : BMap w M N f D) (hb : ∀ o, w.heap[M]? = some o → o.isWalk = true → w'.heap[M]? = some o) : BMap w' M N f D := by
 obtain ⟨⟨es, clock, h1, h2⟩, h3⟩ := h
 exact ⟨⟨es, clock, hb _ h1 rfl, h2⟩, h3⟩
theorem BMap.put {w w' : World} {M N : Nat} {f : Int → Bool} {D : DataW Unit} {s : Int} (h : BMap w M N f D) (hs : (Lit.int .i64 s).wf = true) (hown : w'.ownsMap Tryz.prog 3 (plainElem Tryz.prog 4) M (N + 1) (D.put (.int .i64 s) (.lit (.bool true)))) : BMap w' M (N + 1) (fun j => j == s || f j) (D.put (.int .i64 s) (.lit (.bool true))) := by
 refine ⟨hown, fun t ht => ?_⟩
 by_cases e : t = s
 ·subst e
  rw [Maps.atKey_put_same h.own.isMap (lawI.key (keyI hs))]
  simp
 ·rw [Maps.atKey_put_other (fun e' => e (by cases e'; rfl)), h.val t ht]
  simp [e]
theorem BMap.look {w : World} {M N : Nat} {f : Int → Bool} {D : DataW Unit} {s : Int} (hs : (Lit.int .i64 s).wf = true) (h : BMap w M N f D) : (Instr.lookup 114 (.map (some M)) (.int .i64 s) false).run Tryz.prog w = .ok (.bool (f s)) w := by
 obtain ⟨v, ps, hrun, hv⟩ := h.own.lookup (t := 114) (e := 4) lawI Tryz.underlying114 (Tryz.zeroValue4 _) (boolE false) (keyI hs)
 obtain ⟨x, rfl, hx⟩ := bool_inv hv
 rw [h.val s hs] at hx
 cases hx
 exact hrun
/-- What the iterator reads. -/
structure It2 (n₀ : Nat) (W : World) (Bv Ba V N c p : Nat) (a : Option Addr) (l : List DV) : Prop where
 bv : W.cell? ⟨Bv, 0, none⟩ = some (.pointer (some ⟨V, 0, none⟩))
 hv : Bv < n₀
 ba : W.cell? ⟨Ba, 0, none⟩ = some (.int .i64 (p : Int))
 ha : Ba < n₀
 v0 : W.cell? ⟨V, 0, none⟩ = some (.slice a N c)
 hV : V < n₀
 len : l.length = N
 row : ∃ g o, a = some ⟨g, o, none⟩ ∧ g < n₀ ∧ ∀ (j : Nat) x, l[j]? = some x → W.rangeAt g (o + j * 10) (dvC x.1 x.2)
theorem It2.keep {n₀ : Nat} {W W' : World} {Bv Ba V N c p : Nat} {a : Option Addr} {l : List DV} (h : It2 n₀ W Bv Ba V N c p a l) (hb : Below n₀ W W') : It2 n₀ W' Bv Ba V N c p a l :=
 ⟨(hb.cell (p := ⟨Bv, 0, none⟩) h.hv).trans h.bv, h.hv, (hb.cell (p := ⟨Ba, 0, none⟩) h.ha).trans h.ba, h.ha, (hb.cell (p := ⟨V, 0, none⟩) h.hV).trans h.v0, h.hV, h.len, by
   obtain ⟨g, o, e, hg, hr⟩ := h.row
   exact ⟨g, o, e, hg, fun j x hx m v hv => (hb.cell (p := ⟨g, o + j * 10 + m, none⟩) hg).trans (hr j x hx m v hv)⟩⟩
end Go.Proofs.YtldcediiobfhiaaGreatDoor.De
namespace Go.Proofs.YtldcediiobfhiaaGreatDoor.De
open Go.RowKit Go.Shelf Go.Maps
attribute [local go_sem] Oper.semAt_some
end Go.Proofs.YtldcediiobfhiaaGreatDoor.De
namespace Go.Proofs.YtldcediiobfhiaaGreatDoor.De
open Go.RowKit Go.Shelf Go.Maps
attribute [local go_sem] Oper.semAt_some
end Go.Proofs.YtldcediiobfhiaaGreatDoor.De
namespace Go.Proofs.YtldcediiobfhiaaGreatDoor.De
open Go.RowKit Go.Maps
end Go.Proofs.YtldcediiobfhiaaGreatDoor.De
