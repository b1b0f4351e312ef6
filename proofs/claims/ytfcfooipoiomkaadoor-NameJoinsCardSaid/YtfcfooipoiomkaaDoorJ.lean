/- Clean: what any text becomes as the name of a link: the walk. -/
import Derived.Test.YtfcfooipoiomkaaDoorI
namespace Go.Proofs.YtfcfooipoiomkaaDoor
open Go.RowKit Go.Shelf

attribute [local go_sem] Oper.semAt_some

theorem ownFrom_cell2 {β : Type} {B : Nat} (p : β → Prop) {w0 : World} {n0 : Nat} {a b : Addr} {v u : Value} (ha : a.block < B) (hb' : b.block < B) (hn : n0 ≤ w0.heap.size) (hB : n0 ≤ B) :
    OwnFrom B (fun (s : β) W => p s ∧ W.cell? a = some v ∧ W.cell? b = some u ∧ Below n0 w0 W) := by
  rintro s A C row ⟨hp, hc, hd, hb⟩ hg hr
  refine ⟨hp, (World.cell?_of_block (hg.block _ (block_lt_of_cell hc) fun e => ?_)).trans hc, (World.cell?_of_block (hg.block _ (block_lt_of_cell hd) fun e => ?_)).trans hd, ownFrom_below (β := Unit) hn hB () A C row hb hg hr⟩
  · have := (hr _ e.symm).1; omega
  · have := (hr _ e.symm).1; omega

theorem row_form {w : World} {B : Nat} {v : Value} {n : Nat} {xs : List Value} (h : w.ownsRow B 5 1 v n xs) : ∃ ad cp, v = .slice ad n cp := by
  rcases h.2 with ⟨rfl, rfl⟩ | ⟨g, cap, cur, rfl, _⟩
  · exact ⟨_, _, rfl⟩
  · exact ⟨_, _, rfl⟩
theorem row_cast {w : World} {B : Nat} {v : Value} {n n' : Nat} {xs xs' : List Value} (h : w.ownsRow B 5 1 v n xs) (hn : n = n') (hx : xs = xs') : w.ownsRow B 5 1 v n' xs' := by subst hn hx; exact h

/-- What an appended byte has done, once the box at k holds the longer slice. -/
theorem box_stored {B k : Nat} {W W1 : World} {v v' : Value} {n' : Nat} {xs' : List Value} (hk : k < B) (hbox : Boxed W k 59 v) (hbl : Below B W W1) (hko : KeepsOthers W W1) (hrow' : W1.ownsRow B 5 1 v' n' xs') :
    Boxed W1 k 59 v ∧ Boxed (W1.setCell ⟨k, 0, none⟩ v') k 59 v' ∧ (W1.setCell ⟨k, 0, none⟩ v').ownsRow B 5 1 v' n' xs' ∧ BelowBut B k W (W1.setCell ⟨k, 0, none⟩ v') ∧ KeepsOthers W (W1.setCell ⟨k, 0, none⟩ v') := by
  have h1 : Boxed W1 k 59 v := (hbl.block k hk).trans hbox
  exact ⟨h1, h1.set v', row_setCell hrow' hk, (BelowBut.of_below hbl).set v', hko.trans (KeepsOthers.setCell _ _ _)⟩

/-- What one component asks: where two cells of results (n, n + 1), a set (b), a slice's box (k) and an iterator's boxes (m) lie. -/
structure At (w W2 ws : World) (b : Nat) : Prop where
  nb : w.heap.size + 1 < b
  bm : b + 2 = W2.heap.size
  sz : ws.heap.size = W2.heap.size + 3
  set : SetAt ws b LinkSet
  c1 : ws.cell? ⟨w.heap.size, 0, none⟩ = some (.string ⟨#[]⟩)
  f1 : ws.frozen? ⟨w.heap.size, 0, none⟩ = false
  c2 : ws.cell? ⟨w.heap.size + 1, 0, none⟩ = some (.bool false)
  f2 : ws.frozen? ⟨w.heap.size + 1, 0, none⟩ = false
  bel : Below w.heap.size w ws

theorem At.facts {w W2 ws W : World} {b : Nat} {acc : List UInt8} (h : At w W2 ws b) (hH : Hold W2.heap.size (b + 1) ws acc W) :
    SetAt W b LinkSet ∧ W.cell? ⟨w.heap.size, 0, none⟩ = some (.string ⟨#[]⟩) ∧ W.frozen? ⟨w.heap.size, 0, none⟩ = false ∧ W.cell? ⟨w.heap.size + 1, 0, none⟩ = some (.bool false) ∧ W.frozen? ⟨w.heap.size + 1, 0, none⟩ = false ∧ Below w.heap.size w W := by
  have h1 := h.nb
  have h2 := h.bm
  have h3 := h.sz
  refine ⟨fun z => ?_, ?_, ?_, ?_, ?_, ?_⟩
  · rw [hH.cell (by simp; omega) (by simp; omega) (by simp)]; exact h.set z
  · rw [hH.cell (by simp; omega) (by simp; omega) (by simp; omega)]; exact h.c1
  · rw [hH.frozen (by simp; omega) (by simp; omega) (by simp; omega)]; exact h.f1
  · rw [hH.cell (by simp; omega) (by simp; omega) (by simp; omega)]; exact h.c2
  · rw [hH.frozen (by simp; omega) (by simp; omega) (by simp; omega)]; exact h.f2
  · exact h.bel.trans ⟨hH.os, hH.tape, hH.output, hH.size, fun j hj => hH.block j (by omega) (by omega) (by omega)⟩

theorem cell_set_ne {W : World} {a b : Addr} {u : Value} (h : b.block ≠ a.block) : (W.setCell a u).cell? b = W.cell? b := World.cell?_of_block (Below.heap_setCell _ _ _ _ h)
theorem listsOf_snoc (pre : List ByteArray) (x : ByteArray) : listsOf (pre ++ [x]) = listsOf pre ++ [x.data.toList] := by simp [listsOf]
theorem stepC_else {acc p : List UInt8} (h0 : p ≠ []) (h1 : p ≠ [46]) (h2 : p ≠ [46, 46]) :
    stepC acc p = if ((if acc = [] then [] else acc ++ [47]) ++ p.map (clean1 LinkSet)).length ≤ 256 then some ((if acc = [] then [] else acc ++ [47]) ++ p.map (clean1 LinkSet)) else none := by
  unfold stepC
  rw [if_neg (by simp [h0, h1]), if_neg h2]

set_option maxHeartbeats 4000000 in
set_option maxRecDepth 100000 in
theorem clean_any (s : ByteArray) (w : World) (hs : s.size ≤ 1000000) :
    Calls Tryd.prog 34 #[.string s] w (Bel (.tuple #[.string ⟨(cleanB s.data.toList).1.toArray⟩, .bool (cleanB s.data.toList).2]) w) := by
  have hv := (zero_of_info (P := Tryd.prog) info46).1
  refine (callsIn_wide (n := 5)).1 ?_
  refine callsIn_of_wp_marks Tryd.func34 rfl trivial (wpIn_wide.2 ?_) rfl
  simp only [Tryd.ntmps34, List.size_toArray, List.length_cons, List.length_nil, Nat.reduceAdd, Nat.reduceSub, Array.replicate_succ, Array.replicate_zero, List.push_toArray, List.append_toArray, List.nil_append, List.cons_append]
  go_wp2_with fail
  refine (linkBytes_any _).mono ?_
  rintro e W1 ⟨rfl, hb⟩
  have hi' : (Tryd.prog.info? 46).map (·.size) = some (Lib.setCells LinkSet).size := by rw [Lib.setCells_size]; exact (zero_of_info (P := Tryd.prog) info46).2
  have Hi := Lib.hid hi'
  clear hi'
  go_wp2_with (first
    | (refine wpList_store_new W1 46 _ (Lib.setCells LinkSet) rfl _ _ rfl rfl rfl Hi.out (sizes_ok _) (Lib.setCells_one _) ?_)
    | (go_at_call 49; refine (splitSeq_any _ _ _).mono ?_; rintro e w' ⟨rfl, rfl⟩))
  obtain ⟨W2, hW2⟩ : ∃ W2, (W1.alloc (.cells (Lib.setCells LinkSet) 46)).alloc (.cells #[.slice none 0 0] 59) = W2 := ⟨_, rfl⟩
  obtain ⟨ws, hws⟩ : ∃ ws, splitWorld W2 s ⟨#[47]⟩ = ws := ⟨_, rfl⟩
  have hz2 : W1.heap.size + 1 + 1 = W2.heap.size := by rw [← hW2]; simp
  have hb2 := hb.size
  simp only [World.size_alloc] at hb2
  have hbl2 : Below (w.heap.size + 2) W1 W2 := by rw [← hW2]; exact ((Below.refl _ W1).alloc (by omega) _).alloc (by simp; omega) _
  have hbs : Below W2.heap.size W2 ws := by rw [← hws]; exact splitWorld_below W2 s ⟨#[47]⟩
  have hsz : ws.heap.size = W2.heap.size + 3 := by rw [← hws]; exact splitWorld_size W2 s ⟨#[47]⟩
  have hset2 : SetAt W2 W1.heap.size LinkSet := setAt_cells (t := 46) (fr := (0, 0)) (by rw [← hW2]; exact heap_alloc2_old W1 _ _)
  have hbx2 : Boxed W2 (W1.heap.size + 1) 59 (.slice none 0 0) := by rw [← hW2]; exact heap_alloc2_new W1 _ _
  have hn1 : W2.heap[w.heap.size]? = some (.cells #[.string ⟨#[]⟩] 9) := (hbl2.block _ (by omega)).trans ((hb.block _ (by simp; omega)).trans (heap_alloc2_old w _ _))
  have hn2 : W2.heap[w.heap.size + 1]? = some (.cells #[.bool false] 4) := (hbl2.block _ (by omega)).trans ((hb.block _ (by simp)).trans (heap_alloc2_new w _ _))
  have hat : At w W2 ws W1.heap.size := by
    refine ⟨by omega, hz2, hsz, hset2.below hbs (by omega), ?_, ?_, ?_, ?_, ?_⟩
    · exact (hbs.cell (p := ⟨w.heap.size, 0, none⟩) (by show w.heap.size < W2.heap.size; omega)).trans ((cell_of_row _ _ _ _ _ _ hn1).trans rfl)
    · exact (hbs.frozen (p := ⟨w.heap.size, 0, none⟩) (by show w.heap.size < W2.heap.size; omega)).trans (frozen_of_row _ _ _ _ _ hn1)
    · exact (hbs.cell (p := ⟨w.heap.size + 1, 0, none⟩) (by show w.heap.size + 1 < W2.heap.size; omega)).trans ((cell_of_row _ _ _ _ _ _ hn2).trans rfl)
    · exact (hbs.frozen (p := ⟨w.heap.size + 1, 0, none⟩) (by show w.heap.size + 1 < W2.heap.size; omega)).trans (frozen_of_row _ _ _ _ _ hn2)
    · have h1 : Below w.heap.size w W1 := (((Below.refl _ w).alloc (Nat.le_refl _) _).alloc (by simp) _).trans (hb.mono (by simp; omega))
      exact h1.trans ((hbl2.mono (by omega)).trans (hbs.mono (by omega)))
  have hH0 : Hold W2.heap.size (W1.heap.size + 1) ws [] ws := ⟨rfl, rfl, rfl, Nat.le_refl _, fun _ _ _ _ => rfl, _, (hbs.block _ (by omega)).trans hbx2, World.ownsRow_nil _ _ _ _⟩
  have hm1 : W1.heap.size + 1 < W2.heap.size := by omega
  clear hb hb2 hbl2 hbs hset2 hbx2 hn1 hn2 Hi hv
  rw [hz2, hW2]
  clear hz2 hW2
  have Hat := Lib.hid hat
  clear hat
  rw [← hws] at hH0 hsz Hat
  refine wp_rangeSplit (n := 5) (by omega) W2 s 47 (by omega) rfl rfl
    (fun pre W => ∃ acc, (foldC (listsOf pre) [] = some acc ∧ acc.length ≤ 256) ∧ Hold W2.heap.size (W1.heap.size + 1) (splitWorld W2 s ⟨#[47]⟩) acc W)
    (fun cd pre W => (cd = .ret ∧ foldC (listsOf pre) [] = none) ∧ W.cell? ⟨w.heap.size, 0, none⟩ = some (.string ⟨#[]⟩) ∧ W.cell? ⟨w.heap.size + 1, 0, none⟩ = some (.bool false) ∧ Below w.heap.size w W)
    (Hold.own _ (by omega) (by omega) _) (fun cd => ownFrom_cell2 _ (by have := Hat.out.nb; simp; omega) (by have := Hat.out.nb; simp; omega) (Nat.le_refl _) (by have := Hat.out.nb; omega))
    (fun pre A v h => by obtain ⟨acc, hp, h⟩ := h; exact ⟨acc, hp, h.set0 (by omega) (by omega) v⟩) ⟨[], ⟨rfl, by simp⟩, hH0⟩
    (fun x => { tmps := #[.string s, undef, .pointer (some ⟨w.heap.size, 0, none⟩), .pointer (some ⟨w.heap.size + 1, 0, none⟩), .pointer (some ⟨W1.heap.size, 0, none⟩), .pointer (some ⟨W1.heap.size + 1, 0, none⟩), .string x,
      .agg (Lib.setCells LinkSet), .string s, splitFn W2.heap.size, .string x, undef, undef, undef, undef, undef, undef, undef, undef, undef, undef, undef, undef, undef, undef, undef, undef, undef, undef, undef, undef, undef, undef, undef, undef, undef], defers := [] }) ?assign ?body ?done ?stop
  case assign =>
    intro l x W K hK
    gi_wp2
    exact hK
  case body =>
    rintro l pre x W ⟨acc, ⟨hfold, hlen⟩, hH⟩ hx
    have hxs : x.size ≤ 1000000 := by have := piecesB_size' hx; omega
    obtain ⟨v, hvb, hrow⟩ := hH.row
    obtain ⟨ad, cp, rfl⟩ := row_form hrow
    have hfa := Hat.out.facts hH
    have hS := hfa.1
    have hc1 := hfa.2.1
    have hf1 := hfa.2.2.1
    have hc2 := hfa.2.2.2.1
    have hf2 := hfa.2.2.2.2.1
    have hbel2 := hfa.2.2.2.2.2
    have hcb := hvb.cell
    have hfb := hvb.frozen
    have HS := Lib.hid hS
    have Hrow := Lib.hid hrow
    have Hvb := Lib.hid hvb
    have Hfa := Lib.hid hfa
    have hBW : (splitWorld W2 s ⟨#[47]⟩).heap.size ≤ W.heap.size := hH.size
    clear hS hrow hvb hfa
    by_cases he : x.data.toList = []
    · have hstep := foldC_snoc hfold x.data.toList
      rw [show stepC acc x.data.toList = some acc from by rw [he]; rfl] at hstep
      have he' := empty_form he
      have Hstep := Lib.hid hstep
      have HH := Lib.hid hH
      have Hlen := Lib.hid hlen
      clear he hstep hfold hH hc1 hc2 hf1 hf2 hcb hfb hlen
      gi_wp2
      exact ⟨KeepsFrom.refl _ _, fun _ _ _ => rfl, _, ⟨by rw [listsOf_snoc]; exact Hstep.out, Hlen.out⟩, HH.out⟩
    · have he' := nonempty_form he
      by_cases h46 : x.data.toList = [46]
      · have hstep := foldC_snoc hfold x.data.toList
        rw [show stepC acc x.data.toList = some acc from by rw [h46]; rfl] at hstep
        have hq : x.toList = [46] := by rw [Lib.toList_data, h46]
        have Hstep := Lib.hid hstep
        have HH := Lib.hid hH
        have Hlen := Lib.hid hlen
        clear he h46 hstep hfold hH hc1 hc2 hf1 hf2 hcb hfb hlen
        gi_wp2
        exact ⟨KeepsFrom.refl _ _, fun _ _ _ => rfl, _, ⟨by rw [listsOf_snoc]; exact Hstep.out, Hlen.out⟩, HH.out⟩
      · have hq46 : (x.toList == [46]) = false := by rw [Lib.toList_data]; exact beq_eq_false_iff_ne.2 h46
        by_cases h4646 : x.data.toList = [46, 46]
        · have hstep := foldC_snoc hfold x.data.toList
          rw [show stepC acc x.data.toList = none from by rw [h4646]; rfl] at hstep
          have hq : x.toList = [46, 46] := by rw [Lib.toList_data, h4646]
          have Hstep := Lib.hid hstep
          clear he h46 h4646 hstep hfold hH hcb hfb hlen
          gi_wp2
          refine ⟨((KeepsOthers.setCell W _ _).trans (KeepsOthers.setCell _ _ _)).from _ |> fun h => ⟨h.size, h.same⟩, ⟨rfl, by rw [listsOf_snoc]; exact Hstep.out⟩, ?_, World.cell?_setCell_same' _ _ _ (by rw [cell_set_ne (by simp), hc2]; rfl), (hbel2.setCell (Nat.le_refl _) _).setCell (by simp) _⟩
          rw [cell_set_ne (by simp)]
          exact World.cell?_setCell_same' _ _ _ (by rw [hc1]; rfl)
        · have hq4646 : (x.toList == [46, 46]) = false := by rw [Lib.toList_data]; exact beq_eq_false_iff_ne.2 h4646
          have hstep0 := stepC_else (acc := acc) he h46 h4646
          have Hfold := Lib.hid hfold
          have HH := Lib.hid hH
          clear he h46 h4646 hfold hH
          by_cases hacc : acc = []
          · have hz : ¬ (0 : Int) < (acc.length : Int) := by rw [hacc]; simp
            rw [if_pos hacc, show ([] : List UInt8) = acc from hacc.symm] at hstep0
            clear hacc
            obtain ⟨acc2, hacc2⟩ : ∃ acc2, acc ++ x.data.toList.map (clean1 LinkSet) = acc2 := ⟨_, rfl⟩
            rw [hacc2] at hstep0
            by_cases hlong : acc2.length ≤ 256
            · have hlt : ¬ (256 : Int) < (acc2.length : Int) := by omega
              rw [if_pos hlong] at hstep0
              have Hstep0 := Lib.hid hstep0
              have Hlong := Lib.hid hlong
              clear hstep0 hlong
              have happ := appendCleaned_any (splitWorld W2 s ⟨#[47]⟩).heap.size W1.heap.size (.slice ad acc.length cp) acc x LinkSet W (by omega) Hrow.out hBW (by omega) HS.out
              rw [hacc2] at happ
              have Happ := Lib.hid happ
              clear happ
              gi_wp2_with fail
              refine ⟨trivial, (CallsIn.inRound l (callsIn_wide.2 Happ.out)).mono ?_⟩
              rintro e W3 ⟨v2, rfl, hrow2, hbl3, hko3⟩
              obtain ⟨ad2, cp2, rfl⟩ := row_form hrow2
              have hst := box_stored (k := W1.heap.size + 1) (by omega) Hvb.out hbl3 hko3 hrow2
              have hcb3 := hst.1.cell
              have hfb3 := hst.1.frozen
              have hcb4 := hst.2.1.cell
              have hBX := (BelowBut.refl _ _ W).trans hst.2.2.2.1
              have hkoX := (KeepsOthers.refl W).trans hst.2.2.2.2
              have hHX := HH.out.next hBX hst.2.1 hst.2.2.1
              have hfx := Hat.out.facts hHX
              have hc1x := hfx.2.1
              have hf1x := hfx.2.2.1
              have hc2x := hfx.2.2.2.1
              have hf2x := hfx.2.2.2.2.1
              have hbelx := hfx.2.2.2.2.2
              have HHX := Lib.hid hHX
              have HBX := Lib.hid hBX
              have HKX := Lib.hid hkoX
              have Hbelx := Lib.hid hbelx
              clear hfx hst hHX hBX hkoX hbelx hrow2 hbl3 hko3 Happ
              clear hcb hfb hc1 hf1 hc2 hf2
              gi_wp2
              exact ⟨HKX.out.from _ |> fun h => ⟨h.size, h.same⟩, fun j h1 h2 => HBX.out.block j (by omega) (by omega), _, ⟨by rw [listsOf_snoc, foldC_snoc Hfold.out, Hstep0.out], Hlong.out⟩, HHX.out⟩
            · have hlt : (256 : Int) < (acc2.length : Int) := by omega
              rw [if_neg hlong] at hstep0
              have Hstep0 := Lib.hid hstep0
              clear hstep0 hlong
              have happ := appendCleaned_any (splitWorld W2 s ⟨#[47]⟩).heap.size W1.heap.size (.slice ad acc.length cp) acc x LinkSet W (by omega) Hrow.out hBW (by omega) HS.out
              rw [hacc2] at happ
              have Happ := Lib.hid happ
              clear happ
              gi_wp2_with fail
              refine ⟨trivial, (CallsIn.inRound l (callsIn_wide.2 Happ.out)).mono ?_⟩
              rintro e W3 ⟨v2, rfl, hrow2, hbl3, hko3⟩
              obtain ⟨ad2, cp2, rfl⟩ := row_form hrow2
              have hst := box_stored (k := W1.heap.size + 1) (by omega) Hvb.out hbl3 hko3 hrow2
              have hcb3 := hst.1.cell
              have hfb3 := hst.1.frozen
              have hcb4 := hst.2.1.cell
              have hBX := (BelowBut.refl _ _ W).trans hst.2.2.2.1
              have hkoX := (KeepsOthers.refl W).trans hst.2.2.2.2
              have hHX := HH.out.next hBX hst.2.1 hst.2.2.1
              have hfx := Hat.out.facts hHX
              have hc1x := hfx.2.1
              have hf1x := hfx.2.2.1
              have hc2x := hfx.2.2.2.1
              have hf2x := hfx.2.2.2.2.1
              have hbelx := hfx.2.2.2.2.2
              have HHX := Lib.hid hHX
              have HBX := Lib.hid hBX
              have HKX := Lib.hid hkoX
              have Hbelx := Lib.hid hbelx
              clear hfx hst hHX hBX hkoX hbelx hrow2 hbl3 hko3 Happ
              clear hcb hfb hc1 hf1 hc2 hf2
              gi_wp2
              refine ⟨((HKX.out.trans (KeepsOthers.setCell _ _ _)).trans (KeepsOthers.setCell _ _ _)).from _ |> fun h => ⟨h.size, h.same⟩, ⟨rfl, by rw [listsOf_snoc, foldC_snoc Hfold.out, Hstep0.out]⟩, ?_, World.cell?_setCell_same' _ _ _ (by rw [cell_set_ne (by simp), hc2x]; rfl), (Hbelx.out.setCell (Nat.le_refl _) _).setCell (by simp) _⟩
              rw [cell_set_ne (by simp)]
              exact World.cell?_setCell_same' _ _ _ (by rw [hc1x]; rfl)
          · have hz : (0 : Int) < (acc.length : Int) := by have := List.length_pos_iff.2 hacc; omega
            rw [if_neg hacc] at hstep0
            clear hacc
            obtain ⟨i0, hi, hz0, hz1, hz2⟩ := info_parts info5
            obtain ⟨acc1, hacc1⟩ : ∃ acc1, acc ++ [47] = acc1 := ⟨_, rfl⟩
            rw [hacc1] at hstep0
            have hl1 : acc1.length ≤ 257 := by rw [← hacc1]; simp; omega
            have Hacc1 := Lib.hid hacc1
            clear hacc1
            obtain ⟨acc2, hacc2⟩ : ∃ acc2, acc1 ++ x.data.toList.map (clean1 LinkSet) = acc2 := ⟨_, rfl⟩
            rw [hacc2] at hstep0
            by_cases hlong : acc2.length ≤ 256
            · have hlt : ¬ (256 : Int) < (acc2.length : Int) := by omega
              rw [if_pos hlong] at hstep0
              have Hstep0 := Lib.hid hstep0
              have Hlong := Lib.hid hlong
              clear hstep0 hlong
              gi_wp2_with (gi_at_builtin; refine wpListIn_append_own _ rfl _ _ 59 rfl (splitWorld W2 s ⟨#[47]⟩).heap.size 5 i0 _ 1 1 Tryd.underlying59 hi hz0 hz1 hz2 rfl (by decide) _ _ _ rfl (Hrow.out.alloc _) ⟨W.heap.size, 0, none⟩ 1 1 [u8v 47] rfl rfl (cell_one_new _ _ _) (by simp [u8v, Value.oneCell']) (by unfold maxLen; omega) (by omega) (by simp; omega) ?_; intro v1 w1 hown1 hgrow1 _; obtain ⟨ad1, cp1, rfl⟩ := row_form hown1; have hbl1 := grown_below Hrow.out hBW hgrow1; have hko1 := grown_others Hrow.out hgrow1; have hrow1 := row_cast (n' := acc1.length) (xs' := acc1.map u8v) hown1 (by rw [← Hacc1.out]; simp) (by rw [← Hacc1.out]; simp); have hsl := box_stored (k := W1.heap.size + 1) (by omega) Hvb.out hbl1 hko1 hrow1; have hcb1 := hsl.1.cell; have hfb1 := hsl.1.frozen; have hcb2 := hsl.2.1.cell; have hfb2 := hsl.2.1.frozen; have Hsl := Lib.hid hsl; clear hsl hrow1 hko1 hbl1 hgrow1 hown1)
              have Hrow2 := Lib.hid Hsl.out.2.2.1
              have Hbox2 := Lib.hid Hsl.out.2.1
              have hbb2 := Hsl.out.2.2.2.1
              have hsz2 : (splitWorld W2 s ⟨#[47]⟩).heap.size ≤ (w1.setCell ⟨W1.heap.size + 1, 0, none⟩ (.slice ad1 (acc.length + 1) cp1)).heap.size := Nat.le_trans hBW hbb2.size
              have hset2 : SetAt (w1.setCell ⟨W1.heap.size + 1, 0, none⟩ (.slice ad1 (acc.length + 1) cp1)) W1.heap.size LinkSet := fun z => (hbb2.cell (a := ⟨W1.heap.size, z.toNat, none⟩) (by show W1.heap.size < _; omega) (by show W1.heap.size ≠ _; omega)).trans (HS.out z)
              have Hbb2 := Lib.hid hbb2
              have Hset2 := Lib.hid hset2
              clear hbb2 hset2
              have happ := appendCleaned_any (splitWorld W2 s ⟨#[47]⟩).heap.size W1.heap.size (.slice ad1 (acc.length + 1) cp1) acc1 x LinkSet (w1.setCell ⟨W1.heap.size + 1, 0, none⟩ (.slice ad1 (acc.length + 1) cp1)) (by omega) Hrow2.out hsz2 (by omega) Hset2.out
              rw [hacc2] at happ
              have Happ := Lib.hid happ
              clear happ
              gi_wp2_with fail
              refine ⟨trivial, (CallsIn.inRound l (callsIn_wide.2 Happ.out)).mono ?_⟩
              rintro e W3 ⟨v2, rfl, hrow2, hbl3, hko3⟩
              obtain ⟨ad2, cp2, rfl⟩ := row_form hrow2
              have hst := box_stored (k := W1.heap.size + 1) (by omega) Hbox2.out hbl3 hko3 hrow2
              have hcb3 := hst.1.cell
              have hfb3 := hst.1.frozen
              have hcb4 := hst.2.1.cell
              have hBX := Hbb2.out.trans hst.2.2.2.1
              have hkoX := Hsl.out.2.2.2.2.trans hst.2.2.2.2
              have hHX := HH.out.next hBX hst.2.1 hst.2.2.1
              have hfx := Hat.out.facts hHX
              have hc1x := hfx.2.1
              have hf1x := hfx.2.2.1
              have hc2x := hfx.2.2.2.1
              have hf2x := hfx.2.2.2.2.1
              have hbelx := hfx.2.2.2.2.2
              have HHX := Lib.hid hHX
              have HBX := Lib.hid hBX
              have HKX := Lib.hid hkoX
              have Hbelx := Lib.hid hbelx
              clear hfx hst hHX hBX hkoX hbelx hrow2 hbl3 hko3 Happ
              clear hcb hfb hc1 hf1 hc2 hf2 hcb1 hfb1 hcb2 hfb2
              gi_wp2
              exact ⟨HKX.out.from _ |> fun h => ⟨h.size, h.same⟩, fun j h1 h2 => HBX.out.block j (by omega) (by omega), _, ⟨by rw [listsOf_snoc, foldC_snoc Hfold.out, Hstep0.out], Hlong.out⟩, HHX.out⟩
            · have hlt : (256 : Int) < (acc2.length : Int) := by omega
              rw [if_neg hlong] at hstep0
              have Hstep0 := Lib.hid hstep0
              clear hstep0 hlong
              gi_wp2_with (gi_at_builtin; refine wpListIn_append_own _ rfl _ _ 59 rfl (splitWorld W2 s ⟨#[47]⟩).heap.size 5 i0 _ 1 1 Tryd.underlying59 hi hz0 hz1 hz2 rfl (by decide) _ _ _ rfl (Hrow.out.alloc _) ⟨W.heap.size, 0, none⟩ 1 1 [u8v 47] rfl rfl (cell_one_new _ _ _) (by simp [u8v, Value.oneCell']) (by unfold maxLen; omega) (by omega) (by simp; omega) ?_; intro v1 w1 hown1 hgrow1 _; obtain ⟨ad1, cp1, rfl⟩ := row_form hown1; have hbl1 := grown_below Hrow.out hBW hgrow1; have hko1 := grown_others Hrow.out hgrow1; have hrow1 := row_cast (n' := acc1.length) (xs' := acc1.map u8v) hown1 (by rw [← Hacc1.out]; simp) (by rw [← Hacc1.out]; simp); have hsl := box_stored (k := W1.heap.size + 1) (by omega) Hvb.out hbl1 hko1 hrow1; have hcb1 := hsl.1.cell; have hfb1 := hsl.1.frozen; have hcb2 := hsl.2.1.cell; have hfb2 := hsl.2.1.frozen; have Hsl := Lib.hid hsl; clear hsl hrow1 hko1 hbl1 hgrow1 hown1)
              have Hrow2 := Lib.hid Hsl.out.2.2.1
              have Hbox2 := Lib.hid Hsl.out.2.1
              have hbb2 := Hsl.out.2.2.2.1
              have hsz2 : (splitWorld W2 s ⟨#[47]⟩).heap.size ≤ (w1.setCell ⟨W1.heap.size + 1, 0, none⟩ (.slice ad1 (acc.length + 1) cp1)).heap.size := Nat.le_trans hBW hbb2.size
              have hset2 : SetAt (w1.setCell ⟨W1.heap.size + 1, 0, none⟩ (.slice ad1 (acc.length + 1) cp1)) W1.heap.size LinkSet := fun z => (hbb2.cell (a := ⟨W1.heap.size, z.toNat, none⟩) (by show W1.heap.size < _; omega) (by show W1.heap.size ≠ _; omega)).trans (HS.out z)
              have Hbb2 := Lib.hid hbb2
              have Hset2 := Lib.hid hset2
              clear hbb2 hset2
              have happ := appendCleaned_any (splitWorld W2 s ⟨#[47]⟩).heap.size W1.heap.size (.slice ad1 (acc.length + 1) cp1) acc1 x LinkSet (w1.setCell ⟨W1.heap.size + 1, 0, none⟩ (.slice ad1 (acc.length + 1) cp1)) (by omega) Hrow2.out hsz2 (by omega) Hset2.out
              rw [hacc2] at happ
              have Happ := Lib.hid happ
              clear happ
              gi_wp2_with fail
              refine ⟨trivial, (CallsIn.inRound l (callsIn_wide.2 Happ.out)).mono ?_⟩
              rintro e W3 ⟨v2, rfl, hrow2, hbl3, hko3⟩
              obtain ⟨ad2, cp2, rfl⟩ := row_form hrow2
              have hst := box_stored (k := W1.heap.size + 1) (by omega) Hbox2.out hbl3 hko3 hrow2
              have hcb3 := hst.1.cell
              have hfb3 := hst.1.frozen
              have hcb4 := hst.2.1.cell
              have hBX := Hbb2.out.trans hst.2.2.2.1
              have hkoX := Hsl.out.2.2.2.2.trans hst.2.2.2.2
              have hHX := HH.out.next hBX hst.2.1 hst.2.2.1
              have hfx := Hat.out.facts hHX
              have hc1x := hfx.2.1
              have hf1x := hfx.2.2.1
              have hc2x := hfx.2.2.2.1
              have hf2x := hfx.2.2.2.2.1
              have hbelx := hfx.2.2.2.2.2
              have HHX := Lib.hid hHX
              have HBX := Lib.hid hBX
              have HKX := Lib.hid hkoX
              have Hbelx := Lib.hid hbelx
              clear hfx hst hHX hBX hkoX hbelx hrow2 hbl3 hko3 Happ
              clear hcb hfb hc1 hf1 hc2 hf2 hcb1 hfb1 hcb2 hfb2
              gi_wp2
              refine ⟨((HKX.out.trans (KeepsOthers.setCell _ _ _)).trans (KeepsOthers.setCell _ _ _)).from _ |> fun h => ⟨h.size, h.same⟩, ⟨rfl, by rw [listsOf_snoc, foldC_snoc Hfold.out, Hstep0.out]⟩, ?_, World.cell?_setCell_same' _ _ _ (by rw [cell_set_ne (by simp), hc2x]; rfl), (Hbelx.out.setCell (Nat.le_refl _) _).setCell (by simp) _⟩
              rw [cell_set_ne (by simp)]
              exact World.cell?_setCell_same' _ _ _ (by rw [hc1x]; rfl)
  case done =>
    rintro D W hD ⟨acc, ⟨hfold, hlen⟩, hH⟩ hK
    have hv : cleanB s.data.toList = (acc, decide (0 < acc.length)) := by
      unfold cleanB
      rw [← listsOf_pieces, hfold]
    obtain ⟨v, hvb, hrow⟩ := hH.row
    obtain ⟨ad, cp, rfl⟩ := row_form hrow
    have hfa := Hat.out.facts hH
    have hc1 := hfa.2.1
    have hf1 := hfa.2.2.1
    have hc2 := hfa.2.2.2.1
    have hf2 := hfa.2.2.2.2.1
    have hbel2 := hfa.2.2.2.2.2
    have hcb := hvb.cell
    have hfb := hvb.frozen
    have hconv : ∀ n, (convert 59 9 (.slice ad acc.length cp)).run Tryd.prog (W.drewN n) = .ok (.string ⟨acc.toArray⟩) (W.drewN n) := fun n => run_string_owned (w := W.drewN n) hrow
    have hconv1 : (convert 59 9 (.slice ad acc.length cp)).run Tryd.prog W.drew = .ok (.string ⟨acc.toArray⟩) W.drew := run_string_owned (w := W.drew) hrow
    have hconv0 : (convert 59 9 (.slice ad acc.length cp)).run Tryd.prog W = .ok (.string ⟨acc.toArray⟩) W := run_string_owned (w := W) hrow
    have hnb := Hat.out.nb
    have Hv := Lib.hid hv
    have HK := Lib.hid hK
    have Hbel := Lib.hid hbel2
    clear hfold hrow hvb hfa hv hK hbel2 hH hH0 hsz hlen
    go_wp2
    go_region
    all_goals go_wp2
    have hcA : ((W.setCell ⟨w.heap.size, 0, none⟩ (.string ⟨acc.toArray⟩)).setCell ⟨w.heap.size + 1, 0, none⟩ (.bool (decide (0 < acc.length)))).drew.cell? ⟨w.heap.size, 0, none⟩ = some (.string ⟨acc.toArray⟩) := by
      show ((W.setCell ⟨w.heap.size, 0, none⟩ (.string ⟨acc.toArray⟩)).setCell ⟨w.heap.size + 1, 0, none⟩ (.bool (decide (0 < acc.length)))).cell? ⟨w.heap.size, 0, none⟩ = _
      rw [cell_set_ne (by simp)]
      exact World.cell?_setCell_same' _ _ _ (by rw [hc1]; rfl)
    have hcB : ((W.setCell ⟨w.heap.size, 0, none⟩ (.string ⟨acc.toArray⟩)).setCell ⟨w.heap.size + 1, 0, none⟩ (.bool (decide (0 < acc.length)))).drew.cell? ⟨w.heap.size + 1, 0, none⟩ = some (.bool (decide (0 < acc.length))) := by
      show ((W.setCell ⟨w.heap.size, 0, none⟩ (.string ⟨acc.toArray⟩)).setCell ⟨w.heap.size + 1, 0, none⟩ (.bool (decide (0 < acc.length)))).cell? ⟨w.heap.size + 1, 0, none⟩ = _
      exact World.cell?_setCell_same' _ _ _ (by rw [cell_set_ne (by simp), hc2]; rfl)
    have hbF : Below w.heap.size w ((W.setCell ⟨w.heap.size, 0, none⟩ (.string ⟨acc.toArray⟩)).setCell ⟨w.heap.size + 1, 0, none⟩ (.bool (decide (0 < acc.length)))).drew := ((Hbel.out.setCell (Nat.le_refl _) _).setCell (by simp) _).drew
    have hKF : ((W.setCell ⟨w.heap.size, 0, none⟩ (.string ⟨acc.toArray⟩)).setCell ⟨w.heap.size + 1, 0, none⟩ (.bool (decide (0 < acc.length)))).drew.heap[D]? = some (.deferred (some [])) :=
      (Below.heap_setCell _ _ _ _ (by show D ≠ w.heap.size + 1; omega)).trans ((Below.heap_setCell _ _ _ _ (by show D ≠ w.heap.size; omega)).trans HK.out)
    refine ⟨by simp, .inl ⟨_, _, rfl, run_takeDeferred hKF, ?_⟩⟩
    exact ⟨_, results_cell_two rfl rfl rfl (load_string (by rw [cell_putObj _ (by show w.heap.size ≠ D; omega)]; exact hcA)) (load_bool (by rw [cell_putObj _ (by show w.heap.size + 1 ≠ D; omega)]; exact hcB)), by rw [Hv.out], below_putObj hbF (by omega) _⟩
  case stop =>
    rintro D cd pre W hD hp ⟨⟨rfl, hbad⟩, hc1, hc2, hbel2⟩ hK
    have hv : cleanB s.data.toList = ([], false) := by
      obtain ⟨r, hr⟩ := hp
      unfold cleanB
      rw [← listsOf_pieces, ← hr]
      unfold listsOf at hbad ⊢
      rw [List.map_append, foldC_append, hbad]
      rfl
    have hnb := Hat.out.nb
    have Hv := Lib.hid hv
    have HK := Lib.hid hK
    have HC1 := Lib.hid hc1
    have HC2 := Lib.hid hc2
    clear hv hK hc1 hc2 hH0 hsz
    go_wp2
    refine ⟨by simp, .inl ⟨_, _, rfl, run_takeDeferred HK.out, ?_⟩⟩
    exact ⟨_, results_cell_two rfl rfl rfl (load_string (by rw [cell_putObj _ (by show w.heap.size ≠ D; omega)]; exact HC1.out)) (load_bool (by rw [cell_putObj _ (by show w.heap.size + 1 ≠ D; omega)]; exact HC2.out)), by rw [Hv.out], below_putObj hbel2 (by omega) _⟩
end Go.Proofs.YtfcfooipoiomkaaDoor
