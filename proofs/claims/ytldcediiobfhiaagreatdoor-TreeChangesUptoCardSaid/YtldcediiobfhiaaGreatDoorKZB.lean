/- What Insert, Remove and Change of a drawn tree leave, in memory: TreeStays' contracts. Remove and Change of both sides, as TreeChanges calls them; lists that are compared. A drawn device that is changed in its box; the reference's Find in a drawn tree. -/
import Derived.Test.YtldcediiobfhiaaGreatDoorKZ9
import Derived.Test.YtldcediiobfhiaaGreatDoorKZA
import Derived.Test.YtldcediiobfhiaaGreatDoorKZ8
import Derived.Test.YtldcediiobfhiaaGreatDoorKSe
import Derived.Test.YtldcediiobfhiaaGreatDoorKZ6
namespace Go.Proofs.YtldcediiobfhiaaGreatDoor
open Go.RowKit
/-- A small device. -/
def SmA (a : De.ADev) : Prop := SmX (vDev a) a.ats ∧ a.ats.length ≤ 1000
theorem sma_of {x : De.DV} (h : Sml x) : SmA x.1 := ⟨⟨h.1.n, h.1.o, h.1.s, h.1.r, h.1.i, h.1.a⟩, h.2⟩
theorem sma_zero : SmA zeroA := ⟨⟨by decide, by decide, by decide, by decide, by decide, fun _ h => (by cases h)⟩, by decide⟩
end Go.Proofs.YtldcediiobfhiaaGreatDoor
namespace Go.Proofs.YtldcediiobfhiaaGreatDoor
open Go.RowKit
theorem rem_mem {L : List De.DV} {z : Int} {a : De.ADev} (h : a ∈ (remR L z).map (·.1)) : a ∈ L.map (·.1) := by
 obtain ⟨x, hx, rfl⟩ := List.mem_map.1 h
 unfold remR at hx
 split at hx
 ·exact List.mem_map.2 ⟨x, (List.mem_filter.1 hx).1, rfl⟩
 ·cases hx
theorem ch43 {W0 W : World} {B n : Nat} {v u : Value} {L : List De.DV} (ht : TreeAt W0 B n v L) (hn : n ≤ 80000) (hu : De.DHas W u L) (z : Int) (hz : (Lit.int .i64 z).wf = true) :
  Calls Tryz.prog 43 #[.agg #[u], .int .i64 z] W (ChgPost (remE L z) ((remR L z).map (·.1)) W) := by
 have htok := tree_tok ht (by omega)
 refine (De.remove_any u L z W (by have := ht.len; omega) (fun x hx => by have := (ht.sml x hx).2; omega) hu (cap_of hu) htok.wi htok.wp hz).mono fun e w' ⟨v', L', he, h1, h2, h3⟩ => ?_
 obtain ⟨a, c, rfl, -⟩ := h2.form
 obtain ⟨e1, e2⟩ := rem_eq ht.val z
 rw [e2] at h1
 rw [e1] at he
 exact ⟨a, _, c, L', he, Lib.hid h1, Lib.hid h2, Lib.hid (Kp.of_below h3)⟩
theorem ch44 {W0 W : World} {B n : Nat} {v u : Value} {L : List De.DV} (ht : TreeAt W0 B n v L) (hn : n ≤ 80000) (hu : De.DHas W u L) (z : Int) :
  Calls Tryz.prog 44 #[.agg #[u], .int .i64 z] W (ChgPost (remE L z) ((remR L z).map (·.1)) W) :=
 (refRemove_any u L z W (by have := ht.len; omega) hu).mono fun e w' ⟨v', he, h2, h3⟩ => by
  obtain ⟨a, c, e2, -⟩ := h2.out.form
  subst e2
  exact ⟨a, _, c, _, he, Lib.hid rfl, h2, h3⟩
theorem ch45 {W0 W : World} {B n : Nat} {v u : Value} {L : List De.DV} (ht : TreeAt W0 B n v L) (hn : n ≤ 100000) (hu : De.DHas W u L) (d : De.Dev) (la : List De.Atr) (hd : De.Has W d.av la) (hs : De.Sized d la) (hla : la.length ≤ 9223372036854775807) (hM : De.Max W) (hi : (Lit.int .i64 d.idx).wf = true) :
  Calls Tryz.prog 45 #[.agg #[u], De.devV d] W (ChgPost (chgT (L.map (·.1)) (aOf d la)) (chgR (L.map (·.1)) (aOf d la)) W) :=
 De.change_any u L d la W ht.val (tree_tok ht hn) hu (cap_of hu) hd hs hla hM hi (fun x hx => by have := (ht.sml x hx).2; omega)
theorem ch46 {W0 W : World} {B n : Nat} {v u : Value} {L : List De.DV} (ht : TreeAt W0 B n v L) (hn : n ≤ 100000) (hu : De.DHas W u L) (d : De.Dev) (la : List De.Atr) (hd : De.Has W d.av la) (hs : De.Sized d la) (hla : la.length ≤ 9223372036854775807) (hM : De.Max W) :
  Calls Tryz.prog 46 #[.agg #[u], De.devV d] W (ChgPost (chgT (L.map (·.1)) (aOf d la)) (chgR (L.map (·.1)) (aOf d la)) W) :=
 refChange_any u L d la W ht.val hu hd hs hla (fun x hx => by have := (tree_tok ht hn).o x hx; omega) hM
/-- Two lists with the same devices are the same. -/
theorem same42 {W : World} {u v : Value} {L1 L2 : List De.DV} {A : List De.ADev} (hA : A.length ≤ 1000000) (hA2 : ∀ a ∈ A, a.ats.length ≤ 1000000) (h1 : L1.map (·.1) = A) (h2 : L2.map (·.1) = A) (hu : De.DHas W u L1) (hv : De.DHas W v L2) :
  Calls Tryz.prog 42 #[.agg #[u], .agg #[v]] W fun e w' => e = .returned (.bool true) ∧ Kp [] W w' := by
 have hl : L1.length ≤ 1000000 := by rw [← List.length_map (f := (·.1)), h1]; exact hA
 refine (De.sameTree_any u v L1 L2 W hl (fun x hx => hA2 _ (by rw [← h1]; exact List.mem_map.2 ⟨x, hx, rfl⟩)) hu hv).mono fun e w' ⟨he, hb⟩ => ⟨?_, Kp.of_below hb⟩
 rw [he, De.sameL_iff.2 (h1.trans h2.symm)]
theorem rem_small {W0 : World} {B n : Nat} {v : Value} {L : List De.DV} (ht : TreeAt W0 B n v L) (hn : n ≤ 100000) (z : Int) : ((remR L z).map (·.1)).length ≤ 1000000 ∧ ∀ a ∈ (remR L z).map (·.1), a.ats.length ≤ 1000000 := by
 refine ⟨?_, fun a ha => ?_⟩
 ·rw [List.length_map]
  have : (remR L z).length ≤ L.length := by
   unfold remR
   split
   ·exact List.length_filter_le _ _
   ·simp
  have := ht.len
  omega
 ·obtain ⟨x, hx, rfl⟩ := List.mem_map.1 (rem_mem ha)
  have := (ht.sml x hx).2
  omega
theorem chg_small {W0 : World} {B n : Nat} {v : Value} {L : List De.DV} (ht : TreeAt W0 B n v L) (hn : n ≤ 100000) (d : De.Dev) (la : List De.Atr) : (chgR (L.map (·.1)) (aOf d la)).length ≤ 1000000 ∧ ∀ a ∈ chgR (L.map (·.1)) (aOf d la), a.ats.length ≤ 1000000 := by
 have hl := ht.len
 unfold chgR
 by_cases h : chgT (L.map (·.1)) (aOf d la) = 0
 ·rw [if_pos h]
  refine ⟨by unfold De.chgL; rw [List.length_map, List.length_map]; omega, fun a ha => ?_⟩
  obtain ⟨e, he, rfl⟩ := List.mem_map.1 ha
  split
  ·obtain ⟨o, -, hs⟩ := chgT_swap h
   have h1 := hs.snd
   rw [snd_chk] at h1
   have := (chk_small (of_decide_eq_true h1)).2
   show la.length ≤ _
   omega
  ·obtain ⟨x, hx, rfl⟩ := List.mem_map.1 he
   have := (ht.sml x hx).2
   omega
 ·rw [if_neg h]
  exact ⟨by simp, fun a ha => by cases ha⟩
/-- A box with a tree. -/
def BxT (W : World) (R : Nat) : Prop := ∃ a n c, W.heap[R]? = some (.cells #[.slice a n c] 29 (0, 0))
/-- What the loop keeps: the tree, the two devices, the greatest length, two boxes. -/
structure ChS (L : List De.DV) (x : Value) (LR : List De.DV) (lv : Value) (A B Q : Nat) (W : World) : Prop where
 t : De.DHas W x L
 l : De.DHas W lv LR
 m : De.Max W
 a : BxT W A
 b : BxT W B
 q : W.heap[Q]? = some (.cells #[x] 29 (0, 0))
theorem BxT.kp {W W' : World} {R : Nat} {S : List Nat} (h : BxT W R) (hk : Kp S W W') (hR : R ∉ S) : BxT W' R := by
 obtain ⟨a, n, c, h⟩ := h
 exact ⟨a, n, c, (hk.block R (block_lt h) hR).trans h⟩
theorem ChS.kp {L LR : List De.DV} {x lv : Value} {A B Q : Nat} {W W' : World} (h : ChS L x LR lv A B Q W) (hk : Kp [] W W') : ChS L x LR lv A B Q W' :=
 ⟨h.t.below hk.bel, h.l.below hk.bel, h.m.below hk.bel, h.a.kp hk (by simp), h.b.kp hk (by simp), (hk.block Q (block_lt h.q) (by simp)).trans h.q⟩
theorem ChS.setA {L LR : List De.DV} {x lv : Value} {A B Q : Nat} {W W' : World} (h : ChS L x LR lv A B Q W) (hk : Kp [A] W W') (hn : BxT W' A) (h0 : 0 ≠ A) (hAB : B ≠ A) (hQ : Q ≠ A) : ChS L x LR lv A B Q W' := by
 obtain ⟨a, n, c, ha⟩ := h.a
 exact ⟨dhasR h.t hk ha, dhasR h.l hk ha, MaxT h.m h0 hk, hn, h.b.kp hk (by simpa using hAB), (hk.block Q (block_lt h.q) (by simpa using hQ)).trans h.q⟩
theorem ChS.setB {L LR : List De.DV} {x lv : Value} {A B Q : Nat} {W W' : World} (h : ChS L x LR lv A B Q W) (hk : Kp [B] W W') (hn : BxT W' B) (h0 : 0 ≠ B) (hAB : A ≠ B) (hQ : Q ≠ B) : ChS L x LR lv A B Q W' := by
 obtain ⟨a, n, c, ha⟩ := h.b
 exact ⟨dhasR h.t hk ha, dhasR h.l hk ha, MaxT h.m h0 hk, h.a.kp hk (by simpa using hAB), hn, (hk.block Q (block_lt h.q) (by simpa using hQ)).trans h.q⟩
end Go.Proofs.YtldcediiobfhiaaGreatDoor
namespace Go.Proofs.YtldcediiobfhiaaGreatDoor
open Go.RowKit
theorem hasSet {W W' : World} {S : List Nat} {v : Value} {l : List De.Atr} (h : De.Has W v l) (hk : Kp S W W') (hS : l ≠ [] → ∀ b, v.ownBlock = some b → b ∉ S) : De.Has W' v l := by
 cases l with
 | nil =>
  rcases h with h | ⟨b, o, c, hv, hb, -⟩
  ·exact .inl h
  ·exact .inr ⟨b, o, c, hv, Nat.lt_of_lt_of_le hb hk.size, fun j x hx => by simp at hx⟩
 | cons a l => exact h.keep hk.size fun b hb e => hk.block b hb (hS (by simp) b e)
theorem rf22 {W0 W : World} {B n : Nat} {v u : Value} {L : List De.DV} (ht : TreeAt W0 B n v L) (hn : n ≤ 100000) (hu : De.DHas W u L) (z : Int) :
  Calls Tryz.prog 22 #[.agg #[u], .int .i64 z] W fun e w' => ∃ X a m c b, e = .returned (.tuple #[.agg (De.dvC X (.slice a m c)).toArray, .bool b]) ∧ Hid (SmA X) ∧ Hid ((Lit.int .i64 X.idx).wf = true) ∧ Hid (Kp [] W w') := by
 have htok := tree_tok ht hn
 refine (De.refFind_any u L z W (by have := htok.n; omega) hu).mono fun e w' ⟨hb, he⟩ => ?_
 cases hf : ((De.idxP (L.map (·.1)) z).bind fun p => L[p]?) with
 | none =>
  rw [hf] at he
  exact ⟨zeroA, none, 0, 0, false, he, Lib.hid sma_zero, Lib.hid (by decide), Lib.hid (Kp.of_below hb)⟩
 | some x =>
  rw [hf] at he
  obtain ⟨p, -, hp⟩ := Option.bind_eq_some_iff.1 hf
  have hx : x ∈ L := List.mem_of_getElem? hp
  obtain ⟨a, m, c, hv⟩ := De.DHas.slices hu x hx
  refine ⟨x.1, a, m, c, true, ?_, Lib.hid (sma_of (ht.sml x hx)), Lib.hid (htok.wi x hx), Lib.hid (Kp.of_below hb)⟩
  rw [he]
  show Ending.returned (.tuple #[.agg (De.dvC x.1 x.2).toArray, .bool true]) = _
  rw [hv]
/-- A small device in its box. -/
def DvAt (D : Nat) (ev : Value) (l : List De.Atr) (tb : Nat) (w9 wx : World) : Prop := ∃ d : De.Dev, d.av = ev ∧ De.BoxAt wx D (De.devC d) ∧ SmX d l ∧ (Lit.int .i64 d.idx).wf = true ∧ De.Has wx ev l ∧ Kp [tb] w9 wx
theorem DvAt.put {D : Nat} {ev : Value} {l : List De.Atr} {tb : Nat} {w9 wr wx : World} {d' : De.Dev} (hk : Kp [tb] w9 wr) (hD : w9.heap.size ≤ D) (hh : De.Has wr ev l) (hev : l ≠ [] → ∀ b, ev.ownBlock = some b → b ≠ D ∧ b ≠ tb) (hkx : Kp [D] wr wx) (hb : De.BoxAt wx D (De.devC d')) (ha : d'.av = ev) (hs : SmX d' l) (hi : (Lit.int .i64 d'.idx).wf = true) : DvAt D ev l tb w9 wx :=
 ⟨d', ha, hb, hs, hi, hasSet hh hkx (fun hne b e => by have := (hev hne b e).1; simpa using this), hk.up hkx (by intro z hz; simp at hz; subst hz; exact .inr hD)⟩
end Go.Proofs.YtldcediiobfhiaaGreatDoor
