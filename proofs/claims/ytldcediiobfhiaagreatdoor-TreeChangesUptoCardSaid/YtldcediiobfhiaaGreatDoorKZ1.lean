/- clones, as an own row. slices.Insert: a device is put into a list. -/
import Derived.Test.YtldcediiobfhiaaGreatDoorKDf
import Derived.Shelf.Spec.SlicesInsert
import Derived.Lib.AppendZerosOnto
import Derived.Laws.NewBlocks
namespace Go.Proofs.YtldcediiobfhiaaGreatDoor.De
open Go.RowKit
/-- An own row of devices whose attributes lie elsewhere. -/
structure DIn (W : World) (B : Nat) (v : Value) (L : List DV) : Prop where
 row : W.ownsRow B 34 10 v L.length (dvsC L)
 ats : ∀ x ∈ L, Has W x.2 x.1.ats
 ne : ∀ x ∈ L, x.1.ats ≠ [] → ∀ b, x.2.ownBlock = some b → B ≤ b ∧ v.ownBlock ≠ some b
theorem DIn.has {W : World} {B : Nat} {v : Value} {L : List DV} (h : DIn W B v L) : DHas W v L := DOwn.has ⟨h.row, h.ats⟩
def ShapeAt (W : World) (g c : Nat) : Prop := ∃ cur : Array Value, W.heap[g]? = some (.cells cur 34 (0, 0)) ∧ cur.size = c * 10 ∧ c ≤ maxLen
theorem ShapeAt.below {W W' : World} {g c : Nat} (h : ShapeAt W g c) (hg : g < W.heap.size) (hb : Below W.heap.size W W') : ShapeAt W' g c := by
 obtain ⟨cur, h1, h2⟩ := h
 exact ⟨cur, (hb.block g hg).trans h1, h2⟩
theorem ShapeAt.setCell {W : World} {g c : Nat} (h : ShapeAt W g c) (a : Addr) (v : Value) : ShapeAt (W.setCell a v) g c := by
 obtain ⟨cur, h1, h2, h3⟩ := h
 by_cases e : g = a.block
 ·refine ⟨if a.spot.isSome then cur else cur.setIfInBounds a.off v, ?_, ?_, h3⟩
  ·subst e
   show (W.heap.modify a.block _)[a.block]? = _
   rw [Array.getElem?_modify, if_pos rfl, h1]
   rfl
  ·split
   ·exact h2
   ·rw [Array.size_setIfInBounds]
    exact h2
 ·exact ⟨cur, (Below.heap_setCell W a v g e).trans h1, h2, h3⟩
theorem ShapeAt.setCells {g c : Nat} (g' : Nat) : ∀ (vs : List Value) (o : Nat) {W : World}, ShapeAt W g c → ShapeAt (W.setCells g' o vs) g c
 | [], _, _, h => h
 | v :: r, o, W, h => by
  rw [World.setCells]
  exact ShapeAt.setCells g' r (o + 1) (h.setCell ⟨g', o, none⟩ v)
theorem shape_own {W : World} {B g n c : Nat} {xs : List Value} (h : W.ownsRow B 34 10 (.slice (some ⟨g, 0, none⟩) n c) n xs) : ShapeAt W g c := by
 rcases h.2 with ⟨hv, _⟩ | ⟨g', cap, cur, hv, _, hh, _, hcm, hcs, _⟩
 ·cases hv
 ·simp only [Value.slice.injEq, Option.some.injEq, Addr.mk.injEq] at hv
  obtain ⟨⟨rfl, -, -⟩, -, rfl⟩ := hv
  exact ⟨cur, hh, hcs, hcm⟩
theorem din_of {w W : World} {g c : Nat} {L : List DV} (h : Cl w g L W) (hs : ShapeAt W g c) (hg : w.heap.size ≤ g) (hc : L.length ≤ c) (hf : ∀ x ∈ L, x.1.ats ≠ [] → ∀ b, x.2.ownBlock = some b → w.heap.size ≤ b) : DIn W w.heap.size (.slice (some ⟨g, 0, none⟩) L.length c) L := by
 obtain ⟨cur, h1, h2, h3⟩ := hs
 have hrow : DRow W g 0 L := ⟨fun j x hx => by rw [Nat.zero_add]; exact h.row j x hx, h.ats⟩
 refine ⟨⟨dvsC_len L, .inr ⟨g, c, cur, rfl, hg, h1, hc, h3, h2, ?_⟩⟩, h.ats, fun x hx hne b hb => ⟨hf x hx hne b hb, fun e => ?_⟩⟩
 ·have hcl : cur.toList.length = c * 10 := by simpa using h2
  have hle : L.length * 10 ≤ c * 10 := Nat.mul_le_mul_right 10 hc
  refine List.ext_getElem? fun j => ?_
  rw [List.getElem?_take]
  by_cases hj : j < L.length * 10
  ·rw [if_pos hj]
   obtain ⟨u, hu⟩ : ∃ u, (dvsC L)[j]? = some u := ⟨_, List.getElem?_eq_getElem (by rw [dvsC_len]; exact hj)⟩
   have h4 := hrow.cells j u hu
   have hadd : (⟨g, 0, none⟩ : Addr).add j = ⟨g, j, none⟩ := by unfold Addr.add; split <;> simp_all
   rw [hadd, cell_of_row _ _ _ _ _ _ h1] at h4
   rw [hu]
   simpa using h4
  ·rw [if_neg hj, List.getElem?_eq_none (by rw [dvsC_len]; omega)]
 ·exact h.ne x hx hne (by rw [hb]; exact e.symm)
set_option maxHeartbeats 2000000 in
set_option maxRecDepth 100000 in
theorem clonesO_any (sv : Value) (l : List DV) (w : World) (hl : l.length ≤ 1000000) (hal : ∀ x ∈ l, x.1.ats.length ≤ 1000000) (h : DHas w sv l) :
  Calls Tryz.prog 74 #[sv] w fun e w' => ∃ u l', e = .returned u ∧ l'.map (·.1) = l.map (·.1) ∧ DIn w' w.heap.size u l' ∧ Below w.heap.size w w' := by
 have HC := Lib.hid (cloneD_any sv l w hl h)
 have HA := Lib.hid (show ∀ x ∈ l, Has w x.2 x.1.ats by
  rcases h with ⟨a, c, rfl, rfl⟩ | ⟨g, o, c, rfl, _, _, hr⟩
  ·intro x hx
   cases hx
  ·exact hr.ats)
 have HL := Lib.hid hal
 clear h hal
 go_enter Tryz.func74, Tryz.ntmps74
 go_upto_region 2 with (go_at_call 108; refine HC.out.mono ?_; rintro e w1 ⟨u, rfl, hown, hb1⟩)
 by_cases hn : l = []
 ·subst hn
  obtain ⟨ad, c, hu, -⟩ := hown.has.form
  subst hu
  have HH := Lib.hid hown.row
  have HB := Lib.hid hb1
  clear hown hb1
  have hz : ¬ ((0 : Int) < (([] : List DV).length : Int)) := by simp
  go_wp2
  go_loopw [9] (fun s wx => s = .int .i64 0 ∧ w1 = wx) (fun _ _ => 0)
  case atStart => exact ⟨rfl, rfl⟩
  case round =>
   obtain ⟨rfl, rfl⟩ := hrel
   go_wp2
   go_ret
   exact ⟨_, [], rfl, rfl, ⟨HH.out, fun _ h => (by cases h), fun _ h => (by cases h)⟩, HB.out⟩
 ·obtain ⟨g, c, rfl, hg, hc, hcl⟩ := Cl.start hown hn hb1 HA.out
  have Hcl := Lib.hid hcl
  have HSh := Lib.hid (shape_own hown.row)
  have Hc := Lib.hid hc
  obtain ⟨N, hN⟩ : ∃ N, l.length = N := ⟨_, rfl⟩
  have HN := Lib.hid hN
  rw [hN] at hl hc ⊢
  have hi34 := Lib.hid info34b
  clear hown hb1 hcl hN
  go_wp2
  go_loopw [9] (fun s wx => ∃ (i : Nat) (L : List DV), i ≤ N ∧ s = .int .i64 i ∧ L.map (·.1) = l.map (·.1) ∧ Cl w g L wx ∧ ShapeAt wx g c ∧ ∀ (j : Nat) x, j < i → L[j]? = some x → x.1.ats ≠ [] → ∀ b, x.2.ownBlock = some b → w.heap.size ≤ b) (fun s _ => N - (intOf s).toNat)
  case atStart => exact ⟨0, l, by omega, rfl, rfl, Hcl.out, HSh.out, fun j x hj => absurd hj (by omega)⟩
  case round =>
   obtain ⟨i, L, hi, rfl, hLm, hC, hsh, hfr⟩ := hrel
   have HFr := Lib.hid hfr
   have HShx := Lib.hid hsh
   have hLn : L.length = N := by rw [← HN.out, ← List.length_map (f := (·.1)), hLm, List.length_map]
   have HM := Lib.hid hLm
   have HLn := Lib.hid hLn
   have HC2 := Lib.hid hC
   clear hLm hC hfr hsh
   by_cases hlt : (i : Int) < (N : Int)
   ·obtain ⟨x, hx⟩ : ∃ x, L[i]? = some x := ⟨L[i]'(by omega), List.getElem?_eq_getElem _⟩
    have hxm := List.mem_of_getElem? hx
    have hats : x.1.ats.length ≤ 1000000 := by
     have : x.1 ∈ l.map (·.1) := by rw [← HM.out]; exact List.mem_map_of_mem hxm
     obtain ⟨y, hy, he⟩ := List.mem_map.1 this
     rw [← he]
     exact HL.out y hy
    have HR := Lib.hid (HC2.out.row i x hx)
    have Hx := Lib.hid hx
    have HW := Lib.hid hg
    have hHas := HC2.out.ats x hxm
    have hgl := Lib.hid HC2.out.lt
    clear hx hxm hLn
    obtain ⟨a, v⟩ := x
    simp only at HR Hx hats hHas
    have HD := Lib.hid (show Calls Tryz.prog 65 #[.agg (dvC a v).toArray] wr fun e w' => ∃ u, e = .returned (.agg (dvC a u).toArray) ∧ Owns w' wr.heap.size u a.ats ∧ Below wr.heap.size wr w' from cloneDev_any a v wr hats hHas)
    have HI1 := Lib.hid (show (Tryz.prog.info? 34).map (·.size) = some (dvC a v).length from info34b)
    have HI2 := Lib.hid (fun u => (show (Tryz.prog.info? 34).map (·.size) = some (dvC a u).toArray.size from info34b))
    have HS := Lib.hid (fun (u : Value) (h : u.oneCell' = true) => all_oneCell_toArray (dvC_one (a := a) h))
    clear hHas hats
    go_wp2_with (first
     | (refine wpList_load_mid rfl 34 _ rfl g (i * 10) rfl (dvC a v) _ (by with_reducible exact HR.out) Tryz.underlying34 rfl HI1.out ?_)
     | (go_at_call 65; refine Calls.mono (by with_reducible exact HD.out) ?_; rintro e w2 ⟨u, rfl, hown, hb⟩; have HO := Lib.hid hown; have HC3 := Lib.hid (HC2.out.below hb); have HSh3 := Lib.hid (HShx.out.below HC2.out.lt hb); clear hown hb)
     | (refine wpList_store_mid rfl 34 _ _ rfl g (i * 10) (dvC a u).toArray rfl rfl (fun j hj => ⟨(HC3.out.row i _ Hx.out).isSome j hj, HC3.out.fr _⟩) (HI2.out u) (HS.out u HO.out.has.one) ?_; generalize hw3 : w2.setCells g (i * 10) (dvC a u).toArray.toList = w3))
    refine ⟨⟨i + 1, L.set i (a, u), by omega, rfl, ?_, ?_, ?_, ?_⟩, by simp [intOf]; omega⟩
    ·rw [List.map_set, set_same (by rw [List.getElem?_map, Hx.out]; rfl), HM.out]
    ·rw [← hw3]
     exact HC3.out.set HW.out Hx.out HO.out.has fun hne => HO.out.new hne hgl.out
    ·rw [← hw3]
     exact HSh3.out.setCells g _ _
    ·intro j y hj hy hne b hb
     by_cases hji : j = i
     ·subst hji
      rw [List.getElem?_set_self (List.getElem?_eq_some_iff.1 Hx.out).1] at hy
      cases hy
      have h1 := HO.out.ge hne b hb
      have h2 := HC2.out.bl.size
      omega
     ·rw [List.getElem?_set_ne (fun e => hji e.symm)] at hy
      exact HFr.out j y (by omega) hy hne b hb
   ·obtain rfl : i = N := by omega
    have HFin := Lib.hid (show ∀ x ∈ L, x.1.ats ≠ [] → ∀ b, x.2.ownBlock = some b → w.heap.size ≤ b from fun x hx => by
     obtain ⟨j, hj, hje⟩ := List.getElem_of_mem hx
     exact HFr.out j x (by rw [← HLn.out]; exact hj) (by rw [List.getElem?_eq_getElem hj, hje]))
    go_wp2
    go_ret
    exact ⟨_, rfl, L, HM.out, by rw [← HLn.out]; exact din_of HC2.out HShx.out hg (by rw [HLn.out]; exact hc) HFin.out, HC2.out.bl⟩
end Go.Proofs.YtldcediiobfhiaaGreatDoor.De
namespace Go.Proofs.YtldcediiobfhiaaGreatDoor.De
open Go.RowKit
theorem has_kept {w w' : World} {sv : Value} {x : DV} (h : Has w x.2 x.1.ats) (hn : x.1.ats ≠ [] → ∀ b, x.2.ownBlock = some b → sv.ownBlock ≠ some b) (hs : w.heap.size ≤ w'.heap.size) (hk : ∀ b, b < w.heap.size → sv.ownBlock ≠ some b → w'.heap[b]? = w.heap[b]?) : Has w' x.2 x.1.ats := by
 cases hb : sv.ownBlock with
 | none => exact h.keep hs fun b hb2 _ => hk b hb2 (by rw [hb]; simp)
 | some g => exact h.other hs (g := g) (fun hne e => hn hne g e hb) fun b hb2 hne => hk b hb2 (by rw [hb]; intro e; cases e; exact hne rfl)
/-- What is put in, and where: the attributes do not lie in the row. -/
structure InsIn (w : World) (sv : Value) (L : List DV) : Prop where
 ats : ∀ x ∈ L, Has w x.2 x.1.ats
 ne : ∀ x ∈ L, x.1.ats ≠ [] → ∀ b, x.2.ownBlock = some b → sv.ownBlock ≠ some b
theorem InsIn.all {w w' : World} {sv : Value} {L : List DV} (h : InsIn w sv L) (hs : w.heap.size ≤ w'.heap.size) (hk : ∀ b, b < w.heap.size → sv.ownBlock ≠ some b → w'.heap[b]? = w.heap[b]?) : ∀ x ∈ L, Has w' x.2 x.1.ats := fun x hx => has_kept (h.ats x hx) (h.ne x hx) hs hk
def InsPost (B : Nat) (w : World) (L : List DV) (e : Ending) (w' : World) : Prop := ∃ u, e = .returned u ∧ DHas w' u L ∧ Below B w w'
theorem zero_size (k : Nat) : (Builtin.zeroCells zeroC k).size = k * 10 := by
 unfold zeroC
 induction k with
 | zero => simp [Builtin.zeroCells]
 | succ k ih =>
  simp [Builtin.zeroCells] at ih ⊢
  try omega
end Go.Proofs.YtldcediiobfhiaaGreatDoor.De
