/- clones, as an own row. slices.Insert: a device is put into a list. -/
import Derived.Test.YtldcediiobfhiaaGreatDoorKDf
import Derived.Shelf.Spec.SlicesInsert
import Derived.Lib.AppendZerosOnto
import Derived.Laws.NewBlocks
namespace Go.Proofs.YtldcediiobfhiaaGreatDoor.De
open Go.RowKit
/-- An own row of devices whose attributes lie elsewhere. -/
structure DIn (W : World) (B : Nat) (v : Value) (L : List DV) : Prop where
 row : W.ownsRow B 34 10 v L.length (dvsC L)
 ats : ∀ x ∈ L, Has W x.2 x.1.ats
 ne : ∀ x ∈ L, x.1.ats ≠ [] → ∀ b, x.2.ownBlock = some b → B ≤ b ∧ v.ownBlock ≠ some b
theorem DIn.has {W : World} {B : Nat} {v : Value} {L : List DV} (h : DIn W B v L) : DHas W v L := DOwn.has ⟨h.row, h.ats⟩
def ShapeAt (W : World) (g c : Nat) : Prop := ∃ cur : Array Value, W.heap[g]? = some (.cells cur 34 (0, 0)) ∧ cur.size = c * 10 ∧ c ≤ maxLen
theorem ShapeAt.below {W W' : World} {g c : Nat} (h : ShapeAt W g c) (hg : g < W.heap.size) (hb : Below W.heap.size W W') : ShapeAt W' g c := by
 obtain ⟨cur, h1, h2⟩ := h
 exact ⟨cur, (hb.block g hg).trans h1, h2⟩
theorem ShapeAt.setCell {W : World} {g c : Nat} (h : ShapeAt W g c) (a : Addr) (v : Value) : ShapeAt (W.setCell a v) g c := by
 obtain ⟨cur, h1, h2, h3⟩ := h
 by_cases e : g = a.block
 ·refine ⟨if a.spot.isSome then cur else cur.setIfInBounds a.off v, ?_, ?_, h3⟩
  ·subst e
   show (W.heap.modify a.block _)[a.block]? = _
   rw [Array.getElem?_modify, if_pos rfl, h1]
   rfl
  ·split
   ·exact h2
   ·rw [Array.size_setIfInBounds]
    exact h2
 ·exact ⟨cur, (Below.heap_setCell W a v g e).trans h1, h2, h3⟩
theorem ShapeAt.setCells {g c : Nat} (g' : Nat) : ∀ (vs : List Value) (o : Nat) {W : World}, ShapeAt W g c → ShapeAt (W.setCells g' o vs) g c
 | [], _, _, h => h
 | v :: r, o, W, h => by
  rw [World.setCells]
  exact ShapeAt.setCells g' r (o + 1) (h.setCell ⟨g', o, none⟩ v)
theorem shape_own {W : World} {B g n c : Nat} {xs : List Value} (h : W.ownsRow B 34 10 (.slice (some ⟨g, 0, none⟩) n c) n xs) : ShapeAt W g c := by
 rcases h.2 with ⟨hv, _⟩ | ⟨g', cap, cur, hv, _, hh, _, hcm, hcs, _⟩
 ·cases hv
 ·simp only [Value.slice.injEq, Option.some.injEq, Addr.mk.injEq] at hv
  obtain ⟨⟨rfl, -, -⟩, -, rfl⟩ := hv
  exact ⟨cur, hh, hcs, hcm⟩
theorem din_of {w W : World} {g c : Nat} {L : List DV} (h : Cl w g L W) (hs : ShapeAt W g c) (hg : w.heap.size ≤ g) (hc : L.length ≤ c) (hf : ∀ x ∈ L, x.1.ats ≠ [] → ∀ b, x.2.ownBlock = some b → w.heap.size ≤ b) : DIn W w.heap.size (.slice (some ⟨g, 0, none⟩) L.length c) L := by
 obtain ⟨cur, h1, h2, h3⟩ := hs
 have hrow : DRow W g 0 L := ⟨fun j x hx => by rw [Nat.zero_add]; exact h.row j x hx, h.ats⟩
 refine ⟨⟨dvsC_len L, .inr ⟨g, c, cur, rfl, hg, h1, hc, h3, h2, ?_⟩⟩, h.ats, fun x hx hne b hb => ⟨hf x hx hne b hb, fun e => ?_⟩⟩
 ·have hcl : cur.toList.length = c * 10 := by simpa using h2
  have hle : L.length * 10 ≤ c * 10 := Nat.mul_le_mul_right 10 hc
  refine List.ext_getElem? fun j => ?_
  rw [List.getElem?_take]
  by_cases hj : j < L.length * 10
  ·rw [if_pos hj]
   obtain ⟨u, hu⟩ : ∃ u, (dvsC L)[j]? = some u := ⟨_, List.getElem?_eq_getElem (by rw [dvsC_len]; exact hj)⟩
   have h4 := hrow.cells j u hu
   have hadd : (⟨g, 0, none⟩ : Addr).add j = ⟨g, j, none⟩ := by unfold Addr.add; split <;> simp_all
   rw [hadd, cell_of_row _ _ _ _ _ _ h1] at h4
   rw [hu]
   simpa using h4
  ·rw [if_neg hj, List.getElem?_eq_none (by rw [dvsC_len]; omega)]
 ·exact h.ne x hx hne (by rw [hb]; exact e.symm)
set_option maxHeartbeats 2000000 in
set_option maxRecDepth 100000 in
theorem clonesO_any (sv : Value) (l : List DV) (w : World) (hl : l.length ≤ 1000000) (hal : ∀ x ∈ l, x.1.ats.length ≤ 1000000) (h : DHas w sv l) :
  Calls Tryz.prog 74 #[sv] w fun e w' => ∃ u l', e = .returned u ∧ l'.map (·.1) = l.map (·.1) ∧ DIn w' w.heap.size u l' ∧ Below w.heap.size w w' := by
 have HC := Lib.hid (cloneD_any sv l w hl h)
 have HA := Lib.hid (show ∀ x ∈ l, Has w x.2 x.1.ats by
  rcases h with ⟨a, c, rfl, rfl⟩ | ⟨g, o, c, rfl, _, _, hr⟩
  ·intro x hx
   cases hx
  ·exact hr.ats)
 have HL := Lib.hid hal
 clear h hal
 go_enter Tryz.func74, Tryz.ntmps74
 go_upto_region 2 with (go_at_call 108; refine HC.out.mono ?_; rintro e w1 ⟨u, rfl, hown, hb1⟩)
 by_cases hn : l = []
 ·subst hn
  obtain ⟨ad, c, hu, -⟩ := hown.has.form
  subst hu
  have HH := Lib.hid hown.row
  have HB := Lib.hid hb1
  clear hown hb1
  have hz : ¬ ((0 : Int) < (([] : List DV).length : Int)) := by simp
  go_wp2
  go_loopw [9] (fun s wx => s = .int .i64 0 ∧ w1 = wx) (fun _ _ => 0)
  case atStart => exact ⟨rfl, rfl⟩
  case round =>
   obtain ⟨rfl, rfl⟩ := hrel
   go_wp2
   go_ret
   exact ⟨_, [], rfl, rfl, ⟨HH.out, fun _ h => (by cases h), fun _ h => (by cases h)⟩, HB.out⟩
 ·obtain ⟨g, c, rfl, hg, hc, hcl⟩ := Cl.start hown hn hb1 HA.out
  have Hcl := Lib.hid hcl
  have HSh := Lib.hid (shape_own hown.row)
  have Hc := Lib.hid hc
  obtain ⟨N, hN⟩ : ∃ N, l.length = N := ⟨_, rfl⟩
  have HN := Lib.hid hN
  rw [hN] at hl hc ⊢
  have hi34 := Lib.hid info34b
  clear hown hb1 hcl hN
  go_wp2
  go_loopw [9] (fun s wx => ∃ (i : Nat) (L : List DV), i ≤ N ∧ s = .int .i64 i ∧ L.map (·.1) = l.map (·.1) ∧ Cl w g L wx ∧ ShapeAt wx g c ∧ ∀ (j : Nat) x, j < i → L[j]? = some x → x.1.ats ≠ [] → ∀ b, x.2.ownBlock = some b → w.heap.size ≤ b) (fun s _ => N - (intOf s).toNat)
  case atStart => exact ⟨0, l, by omega, rfl, rfl, Hcl.out, HSh.out, fun j x hj => absurd hj (by omega)⟩
  case round =>
   obtain ⟨i, L, hi, rfl, hLm, hC, hsh, hfr⟩ := hrel
   have HFr := Lib.hid hfr
   have HShx := Lib.hid hsh
   have hLn : L.length = N := by rw [← HN.out, ← List.length_map (f := (·.1)), hLm, List.length_map]
   have HM := Lib.hid hLm
   have HLn := Lib.hid hLn
   have HC2 := Lib.hid hC
   clear hLm hC hfr hsh
   by_cases hlt : (i : Int) < (N : Int)
   ·obtain ⟨x, hx⟩ : ∃ x, L[i]? = some x := ⟨L[i]'(by omega), List.getElem?_eq_getElem _⟩
    have hxm := List.mem_of_getElem? hx
    have hats : x.1.ats.length ≤ 1000000 := by
     have : x.1 ∈ l.map (·.1) := by rw [← HM.out]; exact List.mem_map_of_mem hxm
     obtain ⟨y, hy, he⟩ := List.mem_map.1 this
     rw [← he]
     exact HL.out y hy
    have HR := Lib.hid (HC2.out.row i x hx)
    have Hx := Lib.hid hx
    have HW := Lib.hid hg
    have hHas := HC2.out.ats x hxm
    have hgl := Lib.hid HC2.out.lt
    clear hx hxm hLn
    obtain ⟨a, v⟩ := x
    simp only at HR Hx hats hHas
    have HD := Lib.hid (show Calls Tryz.prog 65 #[.agg (dvC a v).toArray] wr fun e w' => ∃ u, e = .returned (.agg (dvC a u).toArray) ∧ Owns w' wr.heap.size u a.ats ∧ Below wr.heap.size wr w' from cloneDev_any a v wr hats hHas)
    have HI1 := Lib.hid (show (Tryz.prog.info? 34).map (·.size) = some (dvC a v).length from info34b)
    have HI2 := Lib.hid (fun u => (show (Tryz.prog.info? 34).map (·.size) = some (dvC a u).toArray.size from info34b))
    have HS := Lib.hid (fun (u : Value) (h : u.oneCell' = true) => all_oneCell_toArray (dvC_one (a := a) h))
    clear hHas hats
    go_wp2_with (first
     | (refine wpList_load_mid rfl 34 _ rfl g (i * 10) rfl (dvC a v) _ (by with_reducible exact HR.out) Tryz.underlying34 rfl HI1.out ?_)
     | (go_at_call 65; refine Calls.mono (by with_reducible exact HD.out) ?_; rintro e w2 ⟨u, rfl, hown, hb⟩; have HO := Lib.hid hown; have HC3 := Lib.hid (HC2.out.below hb); have HSh3 := Lib.hid (HShx.out.below HC2.out.lt hb); clear hown hb)
     | (refine wpList_store_mid rfl 34 _ _ rfl g (i * 10) (dvC a u).toArray rfl rfl (fun j hj => ⟨(HC3.out.row i _ Hx.out).isSome j hj, HC3.out.fr _⟩) (HI2.out u) (HS.out u HO.out.has.one) ?_; generalize hw3 : w2.setCells g (i * 10) (dvC a u).toArray.toList = w3))
    refine ⟨⟨i + 1, L.set i (a, u), by omega, rfl, ?_, ?_, ?_, ?_⟩, by simp [intOf]; omega⟩
    ·rw [List.map_set, set_same (by rw [List.getElem?_map, Hx.out]; rfl), HM.out]
    ·rw [← hw3]
     exact HC3.out.set HW.out Hx.out HO.out.has fun hne => HO.out.new hne hgl.out
    ·rw [← hw3]
     exact HSh3.out.setCells g _ _
    ·intro j y hj hy hne b hb
     by_cases hji : j = i
     ·subst hji
      rw [List.getElem?_set_self (List.getElem?_eq_some_iff.1 Hx.out).1] at hy
      cases hy
      have h1 := HO.out.ge hne b hb
      have h2 := HC2.out.bl.size
      omega
     ·rw [List.getElem?_set_ne (fun e => hji e.symm)] at hy
      exact HFr.out j y (by omega) hy hne b hb
   ·obtain rfl : i = N := by omega
    have HFin := Lib.hid (show ∀ x ∈ L, x.1.ats ≠ [] → ∀ b, x.2.ownBlock = some b → w.heap.size ≤ b from fun x hx => by
     obtain ⟨j, hj, hje⟩ := List.getElem_of_mem hx
     exact HFr.out j x (by rw [← HLn.out]; exact hj) (by rw [List.getElem?_eq_getElem hj, hje]))
    go_wp2
    go_ret
    exact ⟨_, rfl, L, HM.out, by rw [← HLn.out]; exact din_of HC2.out HShx.out hg (by rw [HLn.out]; exact hc) HFin.out, HC2.out.bl⟩
end Go.Proofs.YtldcediiobfhiaaGreatDoor.De
namespace Go.Proofs.YtldcediiobfhiaaGreatDoor.De
open Go.RowKit
theorem size34 : (Tryz.prog.info? 34).map (·.size) = some 10 := info34b
theorem dvsC_take (l : List DV) (i : Nat) : (dvsC l).take (i * 10) = dvsC (l.take i) := by
 induction l generalizing i with
 | nil => simp [dvsC]
 | cons x l ih =>
  cases i with
  | zero => simp [dvsC]
  | succ i =>
   have e : dvsC (x :: l) = dvC x.1 x.2 ++ dvsC l := rfl
   rw [e, show (i + 1) * 10 = (dvC x.1 x.2).length + i * 10 by rw [dvC_len]; omega, List.take_length_add_append, ih, List.take_succ_cons]
   rfl
theorem dvsC_drop (l : List DV) (i : Nat) : (dvsC l).drop (i * 10) = dvsC (l.drop i) := by
 induction l generalizing i with
 | nil => simp [dvsC]
 | cons x l ih =>
  cases i with
  | zero => simp [dvsC]
  | succ i =>
   have e : dvsC (x :: l) = dvC x.1 x.2 ++ dvsC l := rfl
   rw [e, show (i + 1) * 10 = (dvC x.1 x.2).length + i * 10 by rw [dvC_len]; omega, List.drop_length_add_append, ih, List.drop_succ_cons]
theorem drow_of_heap {w : World} {g : Nat} {cur : Array Value} {l : List DV} (hh : w.heap[g]? = some (.cells cur 34 (0, 0))) (ht : cur.toList.take (l.length * 10) = dvsC l) : ∀ (j : Nat) x, l[j]? = some x → w.rangeAt g (0 + j * 10) (dvC x.1 x.2) := fun j x hx m v hv => by
 have hm : m < 10 := by
  have := (List.getElem?_eq_some_iff.1 hv).1
  rwa [dvC_len] at this
 have hj : j < l.length := (List.getElem?_eq_some_iff.1 hx).1
 have h1 := dvsC_get l j x m hx hm
 rw [← ht, List.getElem?_take, if_pos (by omega), hv] at h1
 rw [cell_of_row _ _ _ _ _ _ hh, Nat.zero_add]
 simpa using h1
/-- The slice of one device that a call of Insert lays. -/
def OneAt (w : World) (vb : Nat) (y : DV) : Prop := w.heap[vb]? = some (.cells (dvC y.1 y.2).toArray 34 (0, 0))
theorem has_kept {w w' : World} {sv : Value} {x : DV} (h : Has w x.2 x.1.ats) (hn : x.1.ats ≠ [] → ∀ b, x.2.ownBlock = some b → sv.ownBlock ≠ some b) (hs : w.heap.size ≤ w'.heap.size) (hk : ∀ b, b < w.heap.size → sv.ownBlock ≠ some b → w'.heap[b]? = w.heap[b]?) : Has w' x.2 x.1.ats := by
 cases hb : sv.ownBlock with
 | none => exact h.keep hs fun b hb2 _ => hk b hb2 (by rw [hb]; simp)
 | some g => exact h.other hs (g := g) (fun hne e => hn hne g e hb) fun b hb2 hne => hk b hb2 (by rw [hb]; intro e; cases e; exact hne rfl)
/-- What is put in, and where: the attributes do not lie in the row. -/
structure InsIn (w : World) (sv : Value) (L : List DV) : Prop where
 ats : ∀ x ∈ L, Has w x.2 x.1.ats
 ne : ∀ x ∈ L, x.1.ats ≠ [] → ∀ b, x.2.ownBlock = some b → sv.ownBlock ≠ some b
theorem InsIn.all {w w' : World} {sv : Value} {L : List DV} (h : InsIn w sv L) (hs : w.heap.size ≤ w'.heap.size) (hk : ∀ b, b < w.heap.size → sv.ownBlock ≠ some b → w'.heap[b]? = w.heap[b]?) : ∀ x ∈ L, Has w' x.2 x.1.ats := fun x hx => has_kept (h.ats x hx) (h.ne x hx) hs hk
def InsPost (B : Nat) (w : World) (L : List DV) (e : Ending) (w' : World) : Prop := ∃ u, e = .returned u ∧ DHas w' u L ∧ Below B w w'
theorem dvC_ones {y : DV} {w : World} (h : Has w y.2 y.1.ats) : ∀ v ∈ dvC y.1 y.2, v.oneCell' = true := dvC_one h.one
/-- A copy of devices within memory. -/
theorem run_copy_ten (w : World) (ty : TypeId) (g o dLen dCap : Nat) (a : Addr) (sLen sCap : Nat) (cur : Array Value) (t : TypeId) (m : Nat) (cs : List Value)
  (hg : w.heap[g]? = some (.cells cur t (0, 0))) (hn : m = Nat.min sLen dLen) (hl : cs.length = m * 10)
  (hsrc : ∀ j v, cs[j]? = some v → w.cell? (a.add j) = some v) (hfit : o + cs.length ≤ cur.size) (h1 : ∀ v ∈ cs, v.oneCell' = true) :
  (Builtin.copy_ #[22, 22] ty #[.slice (some ⟨g, o, none⟩) dLen dCap, .slice (some a) sLen sCap]).run Tryz.prog w =
   .ok (goInt m) (w.setRow g (cur.toList.take o ++ cs ++ cur.toList.drop (o + cs.length)).toArray) := by
 have hl' := run_firstCells_some (P := Tryz.prog) w 10 m a sLen sCap cs hl hsrc
 have hst := run_storeCells_at Tryz.prog g o t cs 0 cur w hg (by simpa using hfit) h1
 obtain ⟨i, hq, hi⟩ := Option.map_eq_some_iff.1 size34
 simp [Builtin.copy_, run_underlying Tryz.underlying22, Builtin.lenOf, sizeOf, typeInfo, hq, hi, ← hn, hl', hst]
/-- The cells of a list in a row, read from there. -/
theorem row_src {w : World} {g : Nat} {cur : Array Value} (hh : w.heap[g]? = some (.cells cur 34 (0, 0))) (k : Nat) (cs : List Value) (h : ∃ m, (cur.toList.take m).drop k = cs) : ∀ j v, cs[j]? = some v → w.cell? ((⟨g, k, none⟩ : Addr).add j) = some v := fun j v hj => by
 obtain ⟨m, hm⟩ := h
 have hadd : (⟨g, k, none⟩ : Addr).add j = ⟨g, k + j, none⟩ := by unfold Addr.add; split <;> simp_all
 rw [hadd, cell_of_row _ _ _ _ _ _ hh]
 rw [← hm, List.getElem?_drop, List.getElem?_take] at hj
 split at hj
 ·simpa using hj
 ·cases hj
theorem one_cells {w : World} {vb : Nat} {y : DV} (h : OneAt w vb y) : ∀ j u, (dvC y.1 y.2)[j]? = some u → w.cell? ((⟨vb, 0, none⟩ : Addr).add j) = some u := fun j u hj => by
 have hadd : (⟨vb, 0, none⟩ : Addr).add j = ⟨vb, j, none⟩ := by unfold Addr.add; split <;> simp_all
 rw [hadd, cell_of_row _ _ _ _ _ _ h]
 simpa using hj
set_option maxHeartbeats 1000000 in
set_option maxRecDepth 100000 in
theorem insert_end (B vb : Nat) (y : DV) (sv : Value) (l : List DV) (w : World) (hl : l.length ≤ 1000000) (h : w.ownsRow B 34 10 sv l.length (dvsC l)) (hB : B ≤ w.heap.size) (hv : OneAt w vb y) (hI : InsIn w sv (l ++ [y])) (hy1 : ∀ v ∈ dvC y.1 y.2, v.oneCell' = true) :
  Calls Tryz.prog 83 #[sv, .int .i64 l.length, .slice (some ⟨vb, 0, none⟩) 1 1] w (InsPost B w (l ++ [y])) := by
 obtain ⟨i0, hi0, hz0, hz1, hz2⟩ := info_parts info34
 have HV := Lib.hid (one_cells hv)
 have HO := Lib.hid h
 have HY := Lib.hid hy1
 have hfin : ∀ v1 w1, w1.ownsRow B 34 10 v1 (l.length + 1) (dvsC l ++ dvC y.1 y.2) → w.grownBy w1 sv.ownBlock → InsPost B w (l ++ [y]) (.returned v1) w1 := fun v1 w1 ho hg => by
  have hbel : Below B w w1 := (Below.refl B w).grown hg hB fun k hk => by
   rcases h.2 with ⟨rfl, _⟩ | ⟨g, cap, cur, rfl, hBg, _⟩
   ·cases hk
   ·cases hk
    exact hBg
  refine ⟨v1, rfl, DOwn.has (B := B) ⟨?_, hI.all hg.size fun b hb hne => hg.block b hb (fun e => hne e.symm)⟩, hbel⟩
  rw [List.length_append, dvsC_append]
  have e : dvsC [y] = dvC y.1 y.2 := by simp [dvsC]
  rw [e]
  exact ho
 have HF := Lib.hid hfin
 have hform := h.2
 clear hfin h hv hI hy1
 rcases hform with ⟨rfl, hn⟩ | ⟨g, cap, cur, rfl, hBg, hg, hcap, hcm, hcs, htk⟩
 ·obtain ⟨N, hN⟩ : ∃ N, l.length = N := ⟨_, rfl⟩
  rw [hN] at hn hl HO HF ⊢
  subst hn
  go_enter Tryz.func83, Tryz.ntmps83
  go_wp2_with (at_builtin; refine wpList_append_own _ rfl _ _ 22 rfl B 34 i0 _ 10 136 Tryz.underlying22 hi0 hz0 hz1 hz2 rfl (by decide) _ _ _ rfl HO.out ⟨vb, 0, none⟩ 1 1 (dvC y.1 y.2) rfl rfl HV.out HY.out (by unfold maxLen; first | (simp; done) | omega) (by first | (simp; done) | omega) hB ?_; intro v1 w1 hown1 hgrow1 _; have Hown1 := Lib.hid hown1; have Hgrow1 := Lib.hid hgrow1; clear hown1 hgrow1)
  all_goals
   go_ret
   exact HF.out _ _ Hown1.out Hgrow1.out
 ·have hlc : (l.length : Int) ≤ (cap : Int) := by omega
  clear htk hcs hg
  go_enter Tryz.func83, Tryz.ntmps83
  go_wp2_with (at_builtin; refine wpList_append_own _ rfl _ _ 22 rfl B 34 i0 _ 10 136 Tryz.underlying22 hi0 hz0 hz1 hz2 rfl (by decide) _ _ _ rfl HO.out ⟨vb, 0, none⟩ 1 1 (dvC y.1 y.2) rfl rfl HV.out HY.out (by unfold maxLen; first | (simp; done) | omega) (by first | (simp; done) | omega) hB ?_; intro v1 w1 hown1 hgrow1 _; have Hown1 := Lib.hid hown1; have Hgrow1 := Lib.hid hgrow1; clear hown1 hgrow1)
  all_goals
   go_ret
   exact HF.out _ _ Hown1.out Hgrow1.out
theorem hov (w : World) (vb g cap k lb cb : Nat) (y : DV) (cur : Array Value) (hv : OneAt w vb y) (hg : w.heap[g]? = some (.cells cur 34 (0, 0))) (hcur : cur.size = cap * 10) (hcap : 0 < cap) (hne : vb ≠ g) :
  (callFunc 116 #[.slice (some ⟨vb, 0, none⟩) 1 1, .slice (some ⟨g, k, none⟩) lb cb]).run Tryz.prog w = .ok (.value (.bool false)) w := by
 have hz : ∀ w, (Go.sizeOf 34).run Tryz.prog w = .ok 10 w := fun w => by
  obtain ⟨i, hq, hi⟩ := Option.map_eq_some_iff.1 size34
  simp [Go.sizeOf, typeInfo, hq, hi]
 unfold OneAt at hv
 rw [run_callFunc_extern (P := Tryz.prog) (f := 116) (fn := (Tryz.prog.funcs[116]?).get (by kernel_rfl)) (Option.some_get _).symm (by kernel_rfl) (by kernel_rfl) (by kernel_rfl) (e := Extern.SlicesOverlaps.overlaps #[22, 22] #[4]) (by kernel_rfl),
  Lib.run_overlaps_apart w 22 4 34 Tryz.underlying22 10 hz ⟨vb, 0, none⟩ ⟨g, k, none⟩ 1 1 lb cb hne 34 34 10 (cap * 10) (by simp [World.shape?, hv, dvC_len]) (by simp [World.shape?, hg, hcur]) (by omega) (by simp [World.frozen?, hv]) (by simp [World.frozen?, hv])]
 rfl
set_option maxHeartbeats 1000000 in
set_option maxRecDepth 100000 in
/-- There is room: in place. -/
theorem insert_room (B vb i g cap : Nat) (y : DV) (l : List DV) (cur : Array Value) (w : World) (hl : l.length ≤ 1000000) (hi : i < l.length) (hroom : l.length + 1 ≤ cap) (hcm : cap ≤ maxLen) (hB : B ≤ g)
  (hh : w.heap[g]? = some (.cells cur 34 (0, 0))) (hcs : cur.size = cap * 10) (ht : cur.toList.take (l.length * 10) = dvsC l) (hv : OneAt w vb y) (hne : vb ≠ g) (hI : InsIn w (.slice (some ⟨g, 0, none⟩) l.length cap) (l.take i ++ (y :: l.drop i))) (hy1 : ∀ v ∈ dvC y.1 y.2, v.oneCell' = true) :
  Calls Tryz.prog 83 #[.slice (some ⟨g, 0, none⟩) l.length cap, .int .i64 i, .slice (some ⟨vb, 0, none⟩) 1 1] w (InsPost B w (l.take i ++ (y :: l.drop i))) := by
 have hov1 := fun lb cb => hov w vb g cap ((i + 1) * 10) lb cb y cur hv hh hcs (by omega) hne
 have hlen := dvsC_len l
 have hyl := dvC_len y.1 y.2
 obtain ⟨ds, hds⟩ : ∃ ds, dvsC (l.drop i) = ds := ⟨_, rfl⟩
 have hdl : ds.length = (l.length - i) * 10 := by rw [← hds, dvsC_len, List.length_drop]
 have hdr : (cur.toList.take (l.length * 10)).drop (i * 10) = ds := by rw [ht, dvsC_drop, hds]
 have hone : ∀ v ∈ ds, v.oneCell' = true := by rw [← hds]; exact dvsC_one (W := w) (fun x hx => hI.ats x (List.mem_append.2 (.inr (List.mem_cons_of_mem _ hx))))
 have hcul : cur.toList.length = cap * 10 := by simpa using hcs
 obtain ⟨row1, hrow1⟩ : ∃ row : Array Value, (cur.toList.take ((i + 1) * 10) ++ ds ++ cur.toList.drop ((i + 1) * 10 + ds.length)).toArray = row := ⟨_, rfl⟩
 have hrl1 : row1.size = cap * 10 := by rw [← hrow1]; simp [hcs]; omega
 have hrun1 : ∀ ty dc sc, (Builtin.copy_ #[22, 22] ty #[.slice (some ⟨g, (i + 1) * 10, none⟩) (l.length - i) dc, .slice (some ⟨g, i * 10, none⟩) (l.length + 1 - i) sc]).run Tryz.prog w.drew = .ok (.int .i64 ((l.length - i : Nat) : Int)) (w.drew.setRow g row1) := fun ty dc sc => by
  rw [← hrow1]
  exact run_copy_ten w.drew ty g ((i + 1) * 10) (l.length - i) dc ⟨g, i * 10, none⟩ (l.length + 1 - i) sc cur 34 (l.length - i) ds hh (by simp only [Nat.min_def]; split <;> omega) hdl (row_src (w := w.drew) hh _ ds ⟨_, hdr⟩) (by rw [hcs, hdl]; omega) hone
 obtain ⟨row2, hrow2⟩ : ∃ row : Array Value, (row1.toList.take (i * 10) ++ (dvC y.1 y.2) ++ row1.toList.drop (i * 10 + 10)).toArray = row := ⟨_, rfl⟩
 have hh1 : (w.drew.setRow g row1).heap[g]? = some (.cells row1 34 (0, 0)) := setRow_heap w.drew g cur row1 34 (0, 0) hh
 have hv1 : OneAt (w.drew.setRow g row1) vb y := by
  have hb : (w.drew.setRow g row1).heap[vb]? = w.heap[vb]? := by simp [World.setRow, Array.getElem?_modify, Ne.symm hne]; rfl
  exact hb.trans hv
 have hrun2 : ∀ ty dc, (Builtin.copy_ #[22, 22] ty #[.slice (some ⟨g, i * 10, none⟩) (l.length + 1 - i) dc, .slice (some ⟨vb, 0, none⟩) 1 1]).run Tryz.prog (w.drew.setRow g row1) = .ok (.int .i64 ((1 : Nat) : Int)) ((w.drew.setRow g row1).setRow g row2) := fun ty dc => by
  rw [← hrow2]
  exact run_copy_ten _ ty g (i * 10) (l.length + 1 - i) dc ⟨vb, 0, none⟩ 1 1 row1 34 1 (dvC y.1 y.2) hh1 (by simp only [Nat.min_def]; split <;> omega) rfl (one_cells hv1) (by simp [hrl1]; omega) hy1
 have hpost : InsPost B w (l.take i ++ (y :: l.drop i)) (.returned (.slice (some ⟨g, 0, none⟩) (l.length + 1) cap)) ((w.drew.setRow g row1).setRow g row2) := by
  have hml : (l.take i ++ (y :: l.drop i)).length = l.length + 1 := by simp; omega
  have hbel : Below B w ((w.drew.setRow g row1).setRow g row2) := below_setRow (below_setRow (Below.refl _ w).drew hB _) hB _
  refine ⟨_, rfl, .inr ⟨g, 0, cap, by rw [hml], by rw [hml]; exact hroom, Nat.lt_of_lt_of_le (block_lt hh) hbel.size, ⟨drow_of_heap (setRow_heap _ g row1 row2 34 (0, 0) hh1) ?_, hI.all hbel.size fun b hb hne2 => (setRow_other _ _ _ _ (fun e => hne2 (by rw [e]; rfl))).trans (setRow_other _ _ _ _ (fun e => hne2 (by rw [e]; rfl)))⟩⟩, hbel⟩
  have e : dvsC (l.take i ++ (y :: l.drop i)) = dvsC (l.take i) ++ ((dvC y.1 y.2) ++ ds) := by rw [dvsC_append, ← hds]; rfl
  have e1 : row1.toList.take (i * 10) = dvsC (l.take i) := by
   rw [← hrow1, ← dvsC_take, ← ht]
   simp only [List.append_assoc]
   rw [List.take_append_of_le_length (by simp [hcs]; omega), List.take_take, List.take_take, Nat.min_eq_left (by omega), Nat.min_eq_left (by omega)]
  have e2 : (row1.toList.drop (i * 10 + 10)).take ds.length = ds := by
   have e3 : (cur.toList.take ((i + 1) * 10)).length = i * 10 + 10 := by simp [hcs]; omega
   rw [← hrow1]
   simp only [List.append_assoc]
   rw [List.drop_append_of_le_length (by rw [e3]; exact Nat.le_refl _), List.drop_of_length_le (by rw [e3]; exact Nat.le_refl _), List.nil_append, List.take_append_of_le_length (Nat.le_refl _), List.take_of_length_le (Nat.le_refl _)]
  rw [e, ← hrow2, e1, hml]
  have e4 : (dvsC (l.take i)).length = i * 10 := by rw [dvsC_len, List.length_take]; omega
  have e5 : (l.length + 1) * 10 = i * 10 + (10 + ds.length) := by rw [hdl]; omega
  simp only [List.append_assoc]
  rw [e5, ← e4, List.take_length_add_append, show 10 + ds.length = (dvC y.1 y.2).length + ds.length from rfl, List.take_length_add_append, e4, e2]
 have HP := Lib.hid hpost
 have H1 := Lib.hid hrun1
 have H2 := Lib.hid hrun2
 have hz2 : ¬ ((i : Int) = (l.length : Int)) := by omega
 have hz3 : ¬ ((cap : Int) < (l.length : Int) + 1) := by omega
 have hw1 : IntKind.i64.wrap ((l.length : Int) + 1) = (l.length : Int) + 1 := by rw [IntKind.wrap_i64]; omega
 have hw2 : IntKind.i64.wrap ((i : Int) + 1) = (i : Int) + 1 := by rw [IntKind.wrap_i64]; omega
 have htn : ((i : Int) + 1).toNat = i + 1 := by omega
 have htn2 : ((l.length : Int) + 1).toNat = l.length + 1 := by omega
 have h0i : (0 : Int) ≤ (i : Int) + 1 := by omega
 have h0l : (0 : Int) ≤ (l.length : Int) + 1 := by omega
 have hi1 : (i : Int) ≤ (l.length : Int) := by omega
 have hi2 : (i : Int) ≤ (l.length : Int) + 1 := by omega
 have hi3 : (i : Int) + 1 ≤ (l.length : Int) + 1 := by omega
 have hc1 : ¬ (cap = i) := by omega
 have hc2 : ¬ (cap = i + 1) := by omega
 have hc3 : (l.length : Int) + 1 ≤ (cap : Int) := by omega
 have hc63 : cap ≤ 9223372036854775807 := by unfold maxLen at hcm; omega
 have mixed : Tryz.prog.follows Departure.mixedOrders = true := by kernel_rfl
 clear hyl hI hy1 hrun1 hrun2 hpost hv hv1 hh hh1 hrow1 hrow2 hrl1 hcul hone hdr hdl hds hlen ht hcs
 go_enter Tryz.func83, Tryz.ntmps83
 go_wp2_with (simp only [hov1])
 have hr := H1.out 3 (cap - (i + 1)) (cap - i)
 go_region
 all_goals
  clear hr
  have hr2 := H2.out 3 (cap - i)
  go_wp2
  go_ret
  exact HP.out
theorem zero_size (k : Nat) : (Builtin.zeroCells zeroC k).size = k * 10 := by
 unfold zeroC
 induction k with
 | zero => simp [Builtin.zeroCells]
 | succ k ih =>
  simp [Builtin.zeroCells] at ih ⊢
  try omega
set_option maxHeartbeats 1000000 in
set_option maxRecDepth 100000 in
/-- There is no room: a new row. -/
theorem insert_grow (B vb i g : Nat) (y : DV) (l : List DV) (cur : Array Value) (w : World) (hl : l.length ≤ 1000000) (hi : i < l.length) (hB : B ≤ w.heap.size)
  (hh : w.heap[g]? = some (.cells cur 34 (0, 0))) (ht : cur.toList.take (l.length * 10) = dvsC l) (hv : OneAt w vb y) (hI : InsIn w (.slice (some ⟨g, 0, none⟩) l.length l.length) (l.take i ++ (y :: l.drop i))) (hy1 : ∀ v ∈ dvC y.1 y.2, v.oneCell' = true) :
  Calls Tryz.prog 83 #[.slice (some ⟨g, 0, none⟩) l.length l.length, .int .i64 i, .slice (some ⟨vb, 0, none⟩) 1 1] w (InsPost B w (l.take i ++ (y :: l.drop i))) := by
 obtain ⟨i0, hi0, hz0, hz1, hz2⟩ := info_parts info34
 have hlen := dvsC_len l
 have hyl := dvC_len y.1 y.2
 obtain ⟨ds, hds⟩ : ∃ ds, dvsC (l.drop i) = ds := ⟨_, rfl⟩
 have hdl : ds.length = (l.length - i) * 10 := by rw [← hds, dvsC_len, List.length_drop]
 have hdr : (cur.toList.take (l.length * 10)).drop (i * 10) = ds := by rw [ht, dvsC_drop, hds]
 have hone : ∀ v ∈ ds, v.oneCell' = true := by rw [← hds]; exact dvsC_one (W := w) (fun x hx => hI.ats x (List.mem_append.2 (.inr (List.mem_cons_of_mem _ hx))))
 have hal : (dvsC (l.take i)).length = i * 10 := by rw [dvsC_len, List.length_take]; omega
 have hold : (Builtin.firstCells i0.size i (.slice (some ⟨g, 0, none⟩) i l.length)).run Tryz.prog w.drew = .ok (dvsC (l.take i)).toArray w.drew := by
  rw [hz1]
  refine run_firstCells_some w.drew 10 i ⟨g, 0, none⟩ i l.length _ hal fun j v hj => ?_
  exact row_src (w := w.drew) hh 0 _ ⟨i * 10, by rw [List.drop_zero, ← dvsC_take, ← ht, List.take_take, Nat.min_eq_left (by omega)]⟩ j v hj
 have happ := fun ty => Lib.run_append_grow_zeros (P := Tryz.prog) w 22 3 ty 34 i0 _ .i64 .i64 Tryz.underlying22 Tryz.underlying3 hi0 hz0 (some ⟨g, 0, none⟩) i l.length (dvsC (l.take i)) hold (l.length + 1 - i) (by omega) (by omega) (by omega) (by omega) (by rw [hz2]; omega)
  (by rw [hz2]; exact growslice_fits (by omega) (by omega))
 rw [show i + (l.length + 1 - i) = l.length + 1 by omega] at happ
 obtain ⟨G, hG⟩ : ∃ G, grownCap w (l.length + 1) l.length 34 = G := ⟨_, rfl⟩
 have hG1 : l.length + 1 ≤ G := by rw [← hG]; exact grownCap_ge w _ _ _
 have hG2 : G ≤ maxLen := by rw [← hG]; exact grownCap_le_maxLen w _ _ _ (by unfold maxLen; omega)
 rw [hG] at happ
 obtain ⟨row0, hrow0⟩ : ∃ row : Array Value, (dvsC (l.take i)).toArray ++ Builtin.zeroCells (Value.agg zeroC).cells (l.length + 1 - i) ++ Builtin.zeroCells (Value.agg zeroC).cells (G - (l.length + 1)) = row := ⟨_, rfl⟩
 rw [hrow0] at happ
 have hrs0 : row0.size = G * 10 := by
  rw [← hrow0]
  have e : (Value.agg zeroC).cells = zeroC := rfl
  rw [e, Array.size_append, Array.size_append, zero_size, zero_size, List.size_toArray, hal]
  omega
 have hr0 : row0.toList.take (i * 10) = dvsC (l.take i) := by
  rw [← hrow0]
  simp only [Array.toList_append, List.append_assoc]
  rw [List.take_append_of_le_length (by rw [hal]; exact Nat.le_refl _), List.take_of_length_le (by rw [hal]; exact Nat.le_refl _)]
 obtain ⟨W1, hW1⟩ : ∃ W1, w.drew.alloc (.cells row0 34) = W1 := ⟨_, rfl⟩
 rw [hW1] at happ
 have hb1 : Below w.heap.size w W1 := by rw [← hW1]; exact (Below.refl _ w).drew.alloc (Nat.le_refl _) _
 have hn1 : W1.heap[w.heap.size]? = some (.cells row0 34 (0, 0)) := by rw [← hW1]; exact heap_last w.drew _
 clear hW1 hrow0 hold
 have hgw := block_lt hh
 have hvw := block_lt hv
 have hv1 : OneAt W1 vb y := (hb1.block vb hvw).trans hv
 obtain ⟨row1, hrow1⟩ : ∃ row : Array Value, (row0.toList.take (i * 10) ++ (dvC y.1 y.2) ++ row0.toList.drop (i * 10 + 10)).toArray = row := ⟨_, rfl⟩
 have hrun1 : ∀ ty dc, (Builtin.copy_ #[22, 22] ty #[.slice (some ⟨w.heap.size, i * 10, none⟩) (l.length + 1 - i) dc, .slice (some ⟨vb, 0, none⟩) 1 1]).run Tryz.prog W1 = .ok (.int .i64 ((1 : Nat) : Int)) (W1.setRow w.heap.size row1) := fun ty dc => by
  rw [← hrow1]
  exact run_copy_ten _ ty w.heap.size (i * 10) (l.length + 1 - i) dc ⟨vb, 0, none⟩ 1 1 row0 34 1 (dvC y.1 y.2) hn1 (by simp only [Nat.min_def]; split <;> omega) rfl (one_cells hv1) (by simp [hrs0]; omega) hy1
 have hn2 : (W1.setRow w.heap.size row1).heap[w.heap.size]? = some (.cells row1 34 (0, 0)) := setRow_heap W1 w.heap.size row0 row1 34 (0, 0) hn1
 have hb2 : Below w.heap.size w (W1.setRow w.heap.size row1) := below_setRow hb1 (Nat.le_refl _) _
 have hh2 : (W1.setRow w.heap.size row1).heap[g]? = some (.cells cur 34 (0, 0)) := (hb2.block g hgw).trans hh
 have hrs1 : row1.size = G * 10 := by rw [← hrow1]; simp [hrs0]; omega
 obtain ⟨row2, hrow2⟩ : ∃ row : Array Value, (row1.toList.take ((i + 1) * 10) ++ ds ++ row1.toList.drop ((i + 1) * 10 + ds.length)).toArray = row := ⟨_, rfl⟩
 have hrun2 : ∀ ty dc sc, (Builtin.copy_ #[22, 22] ty #[.slice (some ⟨w.heap.size, (i + 1) * 10, none⟩) (l.length - i) dc, .slice (some ⟨g, i * 10, none⟩) (l.length - i) sc]).run Tryz.prog (W1.setRow w.heap.size row1).drew = .ok (.int .i64 ((l.length - i : Nat) : Int)) ((W1.setRow w.heap.size row1).drew.setRow w.heap.size row2) := fun ty dc sc => by
  rw [← hrow2]
  exact run_copy_ten _ ty w.heap.size ((i + 1) * 10) (l.length - i) dc ⟨g, i * 10, none⟩ (l.length - i) sc row1 34 (l.length - i) ds hn2 (by simp only [Nat.min_def]; split <;> omega) hdl (row_src (w := (W1.setRow w.heap.size row1).drew) hh2 _ ds ⟨_, hdr⟩) (by rw [hrs1, hdl]; omega) hone
 have hpost : InsPost B w (l.take i ++ (y :: l.drop i)) (.returned (.slice (some ⟨w.heap.size, 0, none⟩) (l.length + 1) G)) ((W1.setRow w.heap.size row1).drew.setRow w.heap.size row2) := by
  have hml : (l.take i ++ (y :: l.drop i)).length = l.length + 1 := by simp; omega
  have hbel : Below w.heap.size w ((W1.setRow w.heap.size row1).drew.setRow w.heap.size row2) := below_setRow hb2.drew (Nat.le_refl _) _
  have hn3 : ((W1.setRow w.heap.size row1).drew.setRow w.heap.size row2).heap[w.heap.size]? = some (.cells row2 34 (0, 0)) := setRow_heap _ w.heap.size row1 row2 34 (0, 0) hn2
  refine ⟨_, rfl, .inr ⟨w.heap.size, 0, G, by rw [hml], by rw [hml]; exact hG1, block_lt hn3, ⟨drow_of_heap hn3 ?_, hI.all hbel.size fun b hb _ => hbel.block b hb⟩⟩, hbel.mono hB⟩
  have e : dvsC (l.take i ++ (y :: l.drop i)) = (dvsC (l.take i) ++ (dvC y.1 y.2)) ++ ds := by rw [dvsC_append, ← hds, List.append_assoc]; rfl
  have e1 : row1.toList.take ((i + 1) * 10) = dvsC (l.take i) ++ (dvC y.1 y.2) := by
   rw [← hrow1, hr0]
   have : (i + 1) * 10 = (dvsC (l.take i) ++ (dvC y.1 y.2)).length := by simp [hal]; omega
   simp only []
   rw [this, List.take_append_of_le_length (Nat.le_refl _), List.take_of_length_le (Nat.le_refl _)]
  have e5 : (l.length + 1) * 10 = (dvsC (l.take i) ++ (dvC y.1 y.2) ++ ds).length := by simp [hal, hdl]; omega
  rw [e, ← hrow2, e1, hml, e5]
  simp only []
  rw [List.take_append_of_le_length (Nat.le_refl _), List.take_of_length_le (Nat.le_refl _)]
 have HP := Lib.hid hpost
 have H1 := Lib.hid hrun1
 have H2 := Lib.hid hrun2
 have hz2' : ¬ ((i : Int) = (l.length : Int)) := by omega
 have hz3 : (l.length : Int) < (l.length : Int) + 1 := by omega
 have hw1 : IntKind.i64.wrap ((l.length : Int) + 1) = (l.length : Int) + 1 := by rw [IntKind.wrap_i64]; omega
 have hw2 : IntKind.i64.wrap ((i : Int) + 1) = (i : Int) + 1 := by rw [IntKind.wrap_i64]; omega
 have hw3 : IntKind.i64.wrap ((l.length : Int) + 1 - (i : Int)) = ((l.length + 1 - i : Nat) : Int) := by rw [IntKind.wrap_i64]; omega
 have htn : ((i : Int) + 1).toNat = i + 1 := by omega
 have h0i : (0 : Int) ≤ (i : Int) + 1 := by omega
 have hi1 : (i : Int) ≤ (l.length : Int) := by omega
 have hi2 : (i : Int) ≤ (l.length : Int) + 1 := by omega
 have hi3 : (i : Int) + 1 ≤ (l.length : Int) + 1 := by omega
 have hc0 : ¬ (l.length = i) := by omega
 have hc1 : ¬ (G = i) := by omega
 have hc2 : ¬ (G = i + 1) := by omega
 have hc3 : (l.length : Int) + 1 ≤ (G : Int) := by omega
 have hc63 : G ≤ 9223372036854775807 := by unfold maxLen at hG2; omega
 have mixed : Tryz.prog.follows Departure.mixedOrders = true := by kernel_rfl
 have Hap := Lib.hid (happ 22)
 clear hyl hI hy1 happ hrun1 hrun2 hpost hv hv1 hh hh2 hn1 hn2 hb1 hb2 hrow1 hrow2 hrs0 hrs1 hr0 hal hone hdr hdl hds hlen ht hi0 hz0 hz1 hz2 hG hG1
 go_enter Tryz.func83, Tryz.ntmps83
 have hr1 := H1.out 3 (G - i)
 go_wp2_with (at_builtin; refine Lib.wpList_append_run _ rfl _ _ 22 3 rfl _ _ rfl rfl _ _ Hap.out ?_)
 have hr2 := H2.out 3 (G - (i + 1)) (l.length - i)
 clear hr1
 go_region
 all_goals
  clear hr2
  go_wp2
  go_ret
  exact HP.out
theorem insert_any (B vb i : Nat) (y : DV) (sv : Value) (l : List DV) (w : World) (hl : l.length ≤ 1000000) (hi : i ≤ l.length) (h : DIn w B sv l) (hB : B ≤ w.heap.size) (hv : OneAt w vb y) (hyh : Has w y.2 y.1.ats) (hyn : y.1.ats ≠ [] → ∀ b, y.2.ownBlock = some b → sv.ownBlock ≠ some b) (hne : sv.ownBlock ≠ some vb) :
  Calls Tryz.prog 83 #[sv, .int .i64 i, .slice (some ⟨vb, 0, none⟩) 1 1] w (InsPost B w (l.take i ++ (y :: l.drop i))) := by
 have hy1 := dvC_ones hyh
 have hI : InsIn w sv (l.take i ++ (y :: l.drop i)) := by
  have key : ∀ x ∈ l.take i ++ (y :: l.drop i), x = y ∨ x ∈ l := fun x hx => by
   rcases List.mem_append.1 hx with h1 | h1
   ·exact .inr (List.mem_of_mem_take h1)
   ·rcases List.mem_cons.1 h1 with h2 | h2
    ·exact .inl h2
    ·exact .inr (List.mem_of_mem_drop h2)
  refine ⟨fun x hx => ?_, fun x hx => ?_⟩
  ·rcases key x hx with rfl | h1
   ·exact hyh
   ·exact h.ats x h1
  ·rcases key x hx with rfl | h1
   ·exact hyn
   ·exact fun h2 b hb => (h.ne x h1 h2 b hb).2
 by_cases he : i = l.length
 ·subst he
  rw [List.take_length, List.drop_length] at hI ⊢
  exact insert_end B vb y sv l w hl h.row hB hv hI hy1
 ·rcases h.row.2 with ⟨_, hn⟩ | ⟨g, cap, cur, rfl, hBg, hh, hc, hcm, hcs, ht⟩
  ·omega
  ·have hne' : vb ≠ g := fun e => hne (by rw [e]; rfl)
   by_cases hroom : l.length + 1 ≤ cap
   ·exact insert_room B vb i g cap y l cur w hl (by omega) hroom hcm hBg hh hcs ht hv hne' hI hy1
   ·obtain rfl : cap = l.length := by omega
    exact insert_grow B vb i g y l cur w hl (by omega) hB hh ht hv hI hy1
end Go.Proofs.YtldcediiobfhiaaGreatDoor.De
