/- What Insert, Remove and Change of a drawn tree leave, in memory: TreeStays' contracts. -/
import Derived.Test.YtldcediiobfhiaaGreatDoorKZ9
import Derived.Test.YtldcediiobfhiaaGreatDoorKXr
import Derived.Test.YtldcediiobfhiaaGreatDoorKZ8
import Derived.Test.YtldcediiobfhiaaGreatDoorKSe
namespace Go.Proofs.YtldcediiobfhiaaGreatDoor
open Go.RowKit
/-- A small device. -/
def SmA (a : De.ADev) : Prop := SmX (vDev a) a.ats ∧ a.ats.length ≤ 1000
theorem sma_of {x : De.DV} (h : Sml x) : SmA x.1 := ⟨⟨h.1.n, h.1.o, h.1.s, h.1.r, h.1.i, h.1.a⟩, h.2⟩
theorem sma_dev {d : De.Dev} {la : List De.Atr} (h : SmX d la) (hl : la.length ≤ 1000) : SmA (aOf d la) := ⟨⟨h.n, h.o, h.s, h.r, h.i, h.a⟩, hl⟩
theorem sma_zero : SmA zeroA := ⟨⟨by decide, by decide, by decide, by decide, by decide, fun _ h => (by cases h)⟩, by decide⟩
theorem sma_smx {a : De.ADev} (h : SmA a) (u : Value) : SmX (De.devOf a u) a.ats := ⟨h.1.n, h.1.o, h.1.s, h.1.r, h.1.i, h.1.a⟩
theorem sma_cok {L : List De.DV} (hv : De.Valid sndA clA (L.map (·.1))) (h : ∀ y ∈ L, SmA y.1) : De.COk L := by
 have hl : L.length ≤ 256 := by
  have := hv.size
  rwa [List.length_map] at this
 have hs : ∀ y ∈ L, (1 ≤ y.1.idx ∧ y.1.idx ≤ 1073741824) ∧ 0 ≤ y.1.par ∧ y.1.par ≤ 1073741824 := fun y hy => sml_idx (hv.sound _ (List.mem_map.2 ⟨y, hy, rfl⟩))
 refine ⟨⟨by omega, fun y hy => ?_, fun y hy => ?_, fun y hy => (h y hy).1.o, fun y hy => (h y hy).1.n⟩, fun y hy => sized_sml (sma_smx (h y hy) _), fun y hy => ?_⟩
 ·have := hs y hy
  exact wf_num (by omega) this.1.2
 ·have := hs y hy
  exact wf_num (by omega) this.2.2
 ·have := (h y hy).2
  omega
/-- What comes out of the switch: an error and no device, or a valid tree in which what stays keeps its origin. -/
def StP (A : List De.ADev) (E : Int) (LY : List De.DV) : Prop := (E ≠ 0 → LY = []) ∧ (E = 0 → StOk A (LY.map (·.1))) ∧ ∀ y ∈ LY, SmA y.1
def StPost (A : List De.ADev) (W : World) (e : Ending) (w' : World) : Prop := ∃ a m c E LY, e = .returned (.tuple #[.agg #[.slice a m c], .int .i64 E]) ∧ Hid (LY.length = m) ∧ Hid (De.DHas w' (.slice a m c) LY) ∧ Hid (StP A E LY) ∧ Hid (Kp [] W w')
theorem dhas_len {W : World} {a : Option Addr} {m c : Nat} {L : List De.DV} (h : De.DHas W (.slice a m c) L) : L.length = m := by
 obtain ⟨a', c', e, -⟩ := h.form
 injection e with _ e _
 exact e.symm
theorem fst_nil {L : List De.DV} (h : L.map (·.1) = []) : L = [] := List.map_eq_nil_iff.1 h
theorem tree_sma {W : World} {B n : Nat} {v : Value} {L : List De.DV} (ht : TreeAt W B n v L) : ∀ a ∈ L.map (·.1), SmA a := fun a ha => by
 obtain ⟨x, hx, rfl⟩ := List.mem_map.1 ha
 exact sma_of (ht.sml x hx)
theorem st40 {W0 W : World} {B n : Nat} {v u : Value} {L : List De.DV} (ht : TreeAt W0 B n v L) (hn : n ≤ 100000) (hu : De.DHas W u L) (d : De.Dev) (la : List De.Atr) (hd : De.Has W d.av la) (hs : SmX d la) (hla : la.length ≤ 1000) (hM : De.Max W) (hi : (Lit.int .i64 d.idx).wf = true) (hp : (Lit.int .i64 d.par).wf = true) :
  Calls Tryz.prog 40 #[.agg #[u], De.devV d] W (StPost (L.map (·.1)) W) :=
 (ins40 ht hn hu d la hd (sized_sml hs) (by omega) hM hi hp).mono fun e w' ⟨a, m, c, L', he, h1, h2, h3⟩ => by
  refine ⟨a, m, c, _, L', he, Lib.hid (dhas_len h2.out), h2, Lib.hid ⟨fun hE => fst_nil ?_, fun hE => ?_, fun y hy => ?_⟩, h3⟩
  ·rw [h1.out]
   unfold insR
   rw [if_neg hE]
  ·rw [h1.out]
   exact st_ins ht.val hE
  ·have hm : y.1 ∈ insR (L.map (·.1)) (aOf d la) := by rw [← h1.out]; exact List.mem_map.2 ⟨y, hy, rfl⟩
   rcases insR_mem2 hm with e | e
   ·rw [e]
    exact sma_dev hs hla
   ·exact tree_sma ht _ e
theorem st43 {W0 W : World} {B n : Nat} {v u : Value} {L : List De.DV} (ht : TreeAt W0 B n v L) (hn : n ≤ 80000) (hu : De.DHas W u L) (z : Int) (hz : (Lit.int .i64 z).wf = true) :
  Calls Tryz.prog 43 #[.agg #[u], .int .i64 z] W (StPost (L.map (·.1)) W) := by
 have htok := tree_tok ht (by omega)
 refine (De.remove_any u L z W (by have := ht.len; omega) (fun x hx => by have := (ht.sml x hx).2; omega) hu (cap_of hu) htok.wi htok.wp hz).mono fun e w' ⟨v', L', he, h1, h2, h3⟩ => ?_
 obtain ⟨a, c, rfl, -⟩ := h2.form
 obtain ⟨e1, e2⟩ := rem_eq ht.val z
 rw [e2] at h1
 rw [e1] at he
 refine ⟨a, _, c, _, L', he, Lib.hid rfl, Lib.hid h2, Lib.hid ⟨fun hE => fst_nil ?_, fun hE => ?_, fun y hy => ?_⟩, Lib.hid (Kp.of_below h3)⟩
 ·rw [h1]
  unfold remR
  unfold remE at hE
  split at hE
  ·exact absurd rfl hE
  ·rename_i hn2
   rw [if_neg hn2]
   rfl
 ·rw [h1, rem_list hE]
  exact st_rem ht.val z
 ·have hm : y.1 ∈ (remR L z).map (·.1) := by rw [← h1]; exact List.mem_map.2 ⟨y, hy, rfl⟩
  obtain ⟨x, hx, hxe⟩ := List.mem_map.1 hm
  unfold remR at hx
  split at hx
  ·rw [← hxe]
   exact sma_of (ht.sml x (List.mem_filter.1 hx).1)
  ·cases hx
theorem st45 {W0 W : World} {B n : Nat} {v u : Value} {L : List De.DV} (ht : TreeAt W0 B n v L) (hn : n ≤ 100000) (hu : De.DHas W u L) (d : De.Dev) (la : List De.Atr) (hd : De.Has W d.av la) (hs : SmX d la) (hla : la.length ≤ 1000) (hM : De.Max W) (hi : (Lit.int .i64 d.idx).wf = true) :
  Calls Tryz.prog 45 #[.agg #[u], De.devV d] W (StPost (L.map (·.1)) W) :=
 (De.change_any u L d la W ht.val (tree_tok ht hn) hu (cap_of hu) hd (sized_sml hs) (by omega) hM hi (fun x hx => by have := (ht.sml x hx).2; omega)).mono fun e w' ⟨a, m, c, L', he, h1, h2, h3⟩ => by
  refine ⟨a, m, c, _, L', he, Lib.hid (dhas_len h2.out), h2, Lib.hid ⟨fun hE => fst_nil ?_, fun hE => ?_, fun y hy => ?_⟩, h3⟩
  ·rw [h1.out]
   unfold chgR
   rw [if_neg hE]
  ·rw [h1.out]
   exact st_chg ht.val hE
  ·have hm : y.1 ∈ chgR (L.map (·.1)) (aOf d la) := by rw [← h1.out]; exact List.mem_map.2 ⟨y, hy, rfl⟩
   rcases chgR_mem hm with e | e
   ·rw [e]
    exact sma_dev hs hla
   ·exact tree_sma ht _ e
/-- Find in a drawn tree: a small device. -/
theorem st21 {W0 W : World} {B n : Nat} {v u : Value} {L : List De.DV} (ht : TreeAt W0 B n v L) (hn : n ≤ 100000) (hu : De.DHas W u L) (z : Int) (hz : (Lit.int .i64 z).wf = true) :
  Calls Tryz.prog 21 #[.agg #[u], .int .i64 z] W fun e w' => ∃ X a m c b, e = .returned (.tuple #[.agg (De.dvC X (.slice a m c)).toArray, .bool b]) ∧ Hid (SmA X) ∧ Hid ((Lit.int .i64 X.idx).wf = true) ∧ Hid (Kp [] W w') := by
 have htok := tree_tok ht hn
 refine (De.find_any u L z W (by have := htok.n; omega) (fun x hx => by have := (ht.sml x hx).2; omega) hu htok.wi hz).mono fun e w' h => ?_
 obtain ⟨a, m, c, he, -, hk⟩ := found_form ((got_bind L z).trans (got_fnd ht.val.tidy z)) h
 refine ⟨_, a, m, c, _, he, Lib.hid ?_, Lib.hid ?_, Lib.hid hk⟩
 ·unfold valA
  cases hf : De.fnd (L.map (·.1)) z with
  | none => exact sma_zero
  | some x => exact tree_sma ht _ (De.fnd_mem hf).1
 ·unfold valA
  cases hf : De.fnd (L.map (·.1)) z with
  | none => decide
  | some x =>
   obtain ⟨y, hy, hye⟩ := List.mem_map.1 (De.fnd_mem hf).1
   show (Lit.int .i64 x.idx).wf = true
   rw [← hye]
   exact htok.wi y hy
/-- The origin of what stayed. -/
theorem st_trl {A : List De.ADev} {LY : List De.DV} (h : StOk A (LY.map (·.1))) {a : De.ADev} (ha : a ∈ A) {t : List UInt8} (ht : De.trlO De.ADev.orig LY a.idx = some t) : t = De.pth (De.org A a) := by
 unfold De.trlO at ht
 rw [Option.map_eq_some_iff] at ht
 obtain ⟨y, hy, rfl⟩ := ht
 obtain ⟨p, hp, hi⟩ := got_at hy
 have hm := List.mem_of_getElem? hp
 rw [trlA_org h.v hm, h.o a ha y.1 (List.mem_map.2 ⟨y, hm, rfl⟩) hi]
end Go.Proofs.YtldcediiobfhiaaGreatDoor
