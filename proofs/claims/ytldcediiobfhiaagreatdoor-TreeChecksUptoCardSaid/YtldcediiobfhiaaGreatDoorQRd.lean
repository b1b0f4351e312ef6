/- The reference's index and Find. The reference's Chain. -/
import Derived.Test.YtldcediiobfhiaaGreatDoorQDeDL
import Derived.Great.BuildSlice
import Derived.Deep.LoopGhost
namespace Go.Proofs.YtldcediiobfhiaaGreatDoor.De
open Go.RowKit
/-- The first place of an Index. -/
def idxP : List ADev → Int → Option Nat
 | [], _ => none
 | a :: l, n => if a.idx = n then some 0 else (idxP l n).map (· + 1)
def idxV (o : Option Nat) : Int := match o with
 | some p => (p : Int)
 | none => -1
theorem idxP_some : ∀ {l : List ADev} {n : Int} {p : Nat}, idxP l n = some p → ∃ a, l[p]? = some a ∧ a.idx = n
 | [], _, _, h => by cases h
 | a :: l, n, p, h => by
  unfold idxP at h
  split at h
  ·rename_i he
   obtain rfl := Option.some.inj h
   exact ⟨a, rfl, he⟩
  ·obtain ⟨q, hq, rfl⟩ := Option.map_eq_some_iff.1 h
   obtain ⟨b, hb, he⟩ := idxP_some hq
   exact ⟨b, by simpa using hb, he⟩
theorem idxP_fnd : ∀ (l : List ADev) (n : Int), fnd l n = (idxP l n).bind fun p => l[p]?
 | [], _ => rfl
 | a :: l, n => by
  have ih := idxP_fnd l n
  unfold fnd at ih ⊢
  rw [List.find?_cons, idxP]
  by_cases he : a.idx = n
  ·rw [if_pos he, he]
   simp
  ·rw [if_neg he]
   have : (a.idx == n) = false := beq_eq_false_iff_ne.2 he
   rw [this, ih]
   cases idxP l n with
   | none => rfl
   | some p => simp
theorem idxP_step {l : List ADev} {n : Int} {i : Nat} {a : ADev} (h : idxP l n = (idxP (l.drop i) n).map (· + i)) (ha : l[i]? = some a) (hne : a.idx ≠ n) : idxP l n = (idxP (l.drop (i + 1)) n).map (· + (i + 1)) := by
 obtain ⟨hi, he⟩ := List.getElem?_eq_some_iff.1 ha
 rw [h, List.drop_eq_getElem_cons hi, he, idxP, if_neg hne, Option.map_map]
 congr 1
 funext p
 simp only [Function.comp]
 omega
theorem idxP_hit {l : List ADev} {n : Int} {i : Nat} {a : ADev} (h : idxP l n = (idxP (l.drop i) n).map (· + i)) (ha : l[i]? = some a) (he : a.idx = n) : idxP l n = some i := by
 obtain ⟨hi, he'⟩ := List.getElem?_eq_some_iff.1 ha
 rw [h, List.drop_eq_getElem_cons hi, he', idxP, if_pos he]
 simp
theorem dvC_cells {W : World} {g o : Nat} {a : ADev} {v : Value} (h : W.rangeAt g o (dvC a v)) : W.cell? ⟨g, o, none⟩ = some (.int .i64 a.idx) ∧ W.cell? ⟨g, o + 1, none⟩ = some (.int .i64 a.par) ∧ W.cell? ⟨g, o + 2, none⟩ = some (.string a.name) ∧ W.cell? ⟨g, o + 3, none⟩ = some (.string a.orig) ∧ W.cell? ⟨g, o + 7, none⟩ = some (.int .i64 a.kind) ∧ W.cell? ⟨g, o + 8, none⟩ = some (.int .i64 a.num) :=
 ⟨h 0 _ rfl, h 1 _ rfl, h 2 _ rfl, h 3 _ rfl, h 7 _ rfl, h 8 _ rfl⟩
set_option maxHeartbeats 1000000 in
set_option maxRecDepth 100000 in
theorem refIndex_any (sv : Value) (l : List DV) (n : Int) (w : World) (hl : l.length ≤ 1000000) (h : DHas w sv l) : Calls Tryz.prog 56 #[sv, .int .i64 n] w (Bel (.int .i64 (idxV (idxP (l.map (·.1)) n))) w) := by
 obtain ⟨a, c, rfl, hrow⟩ := h.form
 obtain ⟨R, hR⟩ : ∃ R, idxP (l.map (·.1)) n = R := ⟨_, rfl⟩
 rw [hR]
 have HR := Lib.hid hR
 obtain ⟨N, hN⟩ : ∃ N, l.length = N := ⟨_, rfl⟩
 rw [hN] at hl ⊢
 have HN := Lib.hid hN
 have HRow := Lib.hid hrow
 clear hR hN hrow h
 go_enter Tryz.func56, Tryz.ntmps56
 go_wp2
 go_loopw [5] (fun s5 wx => ∃ i : Nat, i ≤ N ∧ s5 = .int .i64 (i : Int) ∧ R = (idxP ((l.map (·.1)).drop i) n).map (· + i) ∧ ∃ m, wx = w.drewN m) (fun s5 _ => N - (intOf s5).toNat)
 case atStart => exact ⟨0, by omega, rfl, by rw [← HR.out]; simp, 0, rfl⟩
 case round =>
  obtain ⟨i, hi, rfl, hrr, m, rfl⟩ := hrel
  have Hrr := Lib.hid hrr
  clear hrr
  by_cases hlt : i < N
  ·have hiz : (i : Int) < (N : Int) := by omega
   obtain ⟨x, hx⟩ : ∃ x, l[i]? = some x := ⟨l[i]'(by rw [HN.out]; exact hlt), List.getElem?_eq_getElem _⟩
   obtain ⟨g, o, rfl, hcap, hg, hr⟩ := HRow.out (fun e => by rw [e] at hx; simp at hx)
   obtain ⟨d0, -, -, -, -, -⟩ := dvC_cells (hr.at_ i x hx)
   have hxa : (l.map (·.1))[i]? = some x.1 := by rw [List.getElem?_map, hx]; rfl
   have Hxa := Lib.hid hxa
   clear hr hg hx hcap hxa
   cases q : (x.1.idx == n) with
   | true =>
    have Hv := Lib.hid (show R = some i from by rw [← HR.out]; exact idxP_hit (HR.out.trans Hrr.out) Hxa.out (by simpa using q))
    go_wp2
    go_ret
    exact ⟨by rw [Hv.out]; rfl, drawn_below (Below.refl _ _) _⟩
   | false =>
    have Hv := Lib.hid (show R = (idxP ((l.map (·.1)).drop (i + 1)) n).map (· + (i + 1)) from by rw [← HR.out]; exact idxP_step (HR.out.trans Hrr.out) Hxa.out (by simpa using q))
    go_wp2
    exact ⟨⟨i + 1, by omega, rfl, Hv.out, _, rfl⟩, by simp [intOf]; omega⟩
  ·obtain rfl : i = N := by omega
   have Hv := Lib.hid (show R = none from by
    rw [Hrr.out, List.drop_of_length_le (by rw [List.length_map, HN.out]; exact Nat.le_refl _)]
    rfl)
   go_wp2
   go_ret
   exact ⟨by rw [Hv.out]; rfl, drawn_below (Below.refl _ _) _⟩
/-- What the reference's Find answers: the device itself, or the zero device. -/
def RefPost (o : Option DV) (w : World) (e : Ending) (w' : World) : Prop := Below w.heap.size w w' ∧ e = .returned (match o with
 | none => .tuple #[.agg zeroC, .bool false]
 | some x => .tuple #[devV (devOf x.1 x.2), .bool true])
set_option maxHeartbeats 1000000 in
set_option maxRecDepth 100000 in
theorem refFind_any (sv : Value) (l : List DV) (n : Int) (w : World) (hl : l.length ≤ 1000000) (h : DHas w sv l) : Calls Tryz.prog 22 #[.agg #[sv], .int .i64 n] w (RefPost ((idxP (l.map (·.1)) n).bind fun p => l[p]?) w) := by
 obtain ⟨a, c, hsv, hrow⟩ := h.form
 have HX := Lib.hid (fun W (hW : Below w.heap.size w W) => refIndex_any sv l n W hl (h.below hW))
 obtain ⟨R, hR⟩ : ∃ R, idxP (l.map (·.1)) n = R := ⟨_, rfl⟩
 rw [hR] at HX ⊢
 have HR := Lib.hid hR
 obtain ⟨N, hN⟩ : ∃ N, l.length = N := ⟨_, rfl⟩
 rw [hN] at hsv hl
 have HN := Lib.hid hN
 have HRow := Lib.hid hrow
 obtain ⟨Bz, hBz⟩ : ∃ Bz, w.heap.size = Bz := ⟨_, rfl⟩
 subst hsv
 have hs1 : (w.alloc (.cells #[.slice a N c] 29)).heap.size = Bz + 1 := by rw [World.size_alloc, hBz]
 have h0 := heap_alloc2_old w (.cells #[.slice a N c] 29) (.cells zeroC 34)
 have h1 := heap_alloc2_new w (.cells #[.slice a N c] 29) (.cells zeroC 34)
 rw [hBz] at h0
 rw [hBz] at h1
 have c0 := cell_of_row _ Bz 0 _ _ _ h0
 simp only [List.getElem?_toArray, List.getElem?_cons_zero] at c0
 have Hb0 := Lib.hid (show Below w.heap.size w ((w.alloc (.cells #[.slice a N c] 29)).alloc (.cells zeroC 34)) from ((Below.refl _ w).alloc (Nat.le_refl _) _).alloc (by rw [World.size_alloc]; omega) _)
 have H0 := Lib.hid h0
 have H1 := Lib.hid h1
 have Hsz := Lib.hid (show ((w.alloc (.cells #[.slice a N c] 29)).alloc (.cells zeroC 34)).heap.size = Bz + 2 by rw [World.size_alloc, hs1])
 clear h0 h1 h hrow hs1 hR hN
 go_enter Tryz.func22, Tryz.ntmps22
 go_wp2_with fail
 refine (HX.out _ Hb0.out).mono ?_
 rintro e W1 ⟨rfl, hb1⟩
 rw [Hsz.out] at hb1
 have HB1 := Lib.hid ((hb1.block Bz (by omega)).trans H0.out)
 have HR1 := Lib.hid ((hb1.block (Bz + 1) (by omega)).trans H1.out)
 have Hbw := Lib.hid (Hb0.out.trans (hb1.mono (by omega)))
 have c01 := cell_of_row _ Bz 0 _ _ _ HB1.out
 simp only [List.getElem?_toArray, List.getElem?_cons_zero] at c01
 clear hb1 c0
 cases R with
 | none =>
  have hz : idxV none = -1 := rfl
  rw [hz]
  clear hz
  go_wp2_with (refine wpList_store_row rfl 34 _ _ rfl (Bz + 1) zeroC rfl rfl 34 zeroC HR1.out info34b rfl zeroC_one ?_)
  exact bodyPost_ret (v := .tuple #[.agg zeroC, .bool false]) (results_row_tmp rfl _ _ (Bz + 1) 34 zeroC _ _ _ rfl rfl (setRow_heap _ _ _ _ _ _ HR1.out) Tryz.underlying34 rfl info34b) rfl ⟨below_setRow Hbw.out (by omega) _, rfl⟩
 | some p =>
  obtain ⟨y, hy, -⟩ := idxP_some HR.out
  rw [List.getElem?_map, Option.map_eq_some_iff] at hy
  obtain ⟨x, hx, -⟩ := hy
  have hpN : p < N := by
   rw [← HN.out]
   exact (List.getElem?_eq_some_iff.1 hx).1
  have hpz : (p : Int) < (N : Int) := by omega
  have hp0 : (0 : Int) ≤ (p : Int) := by omega
  have hz : idxV (some p) = (p : Int) := rfl
  rw [hz]
  obtain ⟨g, o, rfl, hcap, hg, hr⟩ := HRow.out (fun e => by rw [e] at hx; simp at hx)
  have Hran := Lib.hid ((hr.below hg Hbw.out).at_ p x hx)
  have Hres := Lib.hid (show ((some p).bind fun p => l[p]?) = some x from hx)
  have Hone := Lib.hid (show (dvC x.1 x.2).toArray.all (·.oneCell') = true from by
   rw [Array.all_eq_true_iff_forall_mem]
   intro v hv
   exact dvC_one (hr.ats x (List.mem_of_getElem? hx)).one v (by simpa using hv))
  clear hr hg hx hz hcap
  go_wp2_with (first
   | (refine wpList_load_mid rfl 34 _ rfl g (o + p * 10) rfl (dvC x.1 x.2) _ Hran.out Tryz.underlying34 rfl info34b ?_)
   | (refine wpList_store_row rfl 34 _ _ rfl (Bz + 1) (dvC x.1 x.2).toArray rfl rfl 34 zeroC HR1.out info34b rfl Hone.out ?_))
  exact bodyPost_ret (v := .tuple #[devV (devOf x.1 x.2), .bool true]) (results_row_tmp rfl _ _ (Bz + 1) 34 (dvC x.1 x.2).toArray _ _ _ rfl rfl (setRow_heap _ _ _ _ _ _ HR1.out) Tryz.underlying34 rfl info34b) rfl ⟨below_setRow Hbw.out (by omega) _, by rw [Hres.out]⟩
end Go.Proofs.YtldcediiobfhiaaGreatDoor.De
namespace Go.Proofs.YtldcediiobfhiaaGreatDoor.De
open Go.RowKit
theorem wpList_build_row {P : Program} {ops : Array Oper} {rest : List Oper} {o : Oper} {a : Act} {w : World} {Q : Exit → Act → World → Prop} (hg : o.guard = none) (t e : TypeId) (x : Operand) (ho : o.op = .buildSlice t 1 #[(0, x)])
  (cs : Array Value) (ie : TypeInfo) (z : Value) (hx : a.eval x = .agg cs)
  (hu : P.underlying t = some (.slice e)) (hie : P.info? e = some ie) (hz : ie.zero = some z) (hs : ie.size = cs.size) (hpos : 0 < cs.size) (hsmall : cs.size ≤ 2 ^ 24)
  (h : wpList P ops Q rest (a.put o.dst (.slice (some ⟨w.heap.size, 0, none⟩) 1 1)) (w.alloc (.cells cs e))) : wpList P ops Q (o :: rest) a w := by
 refine wpList_buildSlice hg t e 1 #[(0, x)] ho cs ie z hu hie hz (by rw [hs]; omega) (by rw [hs]; omega) ?_ h
 have hp : ((#[(0, x)] : Array (Nat × Operand)).map fun (i, x) => (i, a.eval x)).toList = (([Value.agg cs].zipIdx 0).map fun x => (x.2, x.1)) := by
  simp [hx]
 rw [hp, hs]
 have hf := Great.fill_whole hpos [Value.agg cs] ((Array.range (1 * cs.size)).map (z.cells[· % z.cells.size]!)) (fun v hv => by rw [List.mem_singleton.1 hv]; rfl) (by simp)
 rw [hf]
 congr 1
 simp [Value.cells]
/-- The device with an Index, with the place of its attributes. -/
def fndD (l : List DV) (n : Int) : Option DV := (idxP (l.map (·.1)) n).bind fun p => l[p]?
theorem fndD_fst (l : List DV) (n : Int) : (fndD l n).map (·.1) = fnd (l.map (·.1)) n := by
 unfold fndD
 rw [idxP_fnd]
 cases idxP (l.map (·.1)) n with
 | none => rfl
 | some p =>
  show (l[p]?).map _ = (l.map _)[p]?
  rw [List.getElem?_map]
theorem fndD_mem {l : List DV} {n : Int} {x : DV} (h : fndD l n = some x) : x ∈ l := by
 unfold fndD at h
 cases hp : idxP (l.map (·.1)) n with
 | none => rw [hp] at h; cases h
 | some p => rw [hp] at h; exact List.mem_of_getElem? h
def upD (l : List DV) : Nat → Int → List DV
 | 0, _ => []
 | k + 1, n => match fndD l n with
  | none => []
  | some x => x :: upD l k x.1.par
theorem upD_fst (l : List DV) : ∀ (k : Nat) (n : Int), (upD l k n).map (·.1) = up (l.map (·.1)) k n
 | 0, _ => rfl
 | k + 1, n => by
  unfold upD up
  rw [← fndD_fst]
  cases fndD l n with
  | none => rfl
  | some x => simp only [List.map_cons, Option.map_some]; rw [upD_fst l k x.1.par]
theorem DOwn.keep {W W' : World} {B : Nat} {v : Value} {l : List DV} (h : DOwn W B v l) (hb : Below W.heap.size W W') : DOwn W' B v l := by
 refine ⟨?_, fun x hx => (h.ats x hx).below hb⟩
 rcases h.row with ⟨h0, h1 | ⟨g, cap, cur, hv, hB, hg, r⟩⟩
 ·exact ⟨h0, Or.inl h1⟩
 ·exact ⟨h0, Or.inr ⟨g, cap, cur, hv, hB, (hb.block g (Array.getElem?_eq_some_iff.1 hg).1).trans hg, r⟩⟩
theorem ownsRow_mono' {w : World} {B B' : Nat} {e : TypeId} {k : Nat} {v : Value} {n : Nat} {xs : List Value} (h : w.ownsRow B e k v n xs) (hB : B' ≤ B) : w.ownsRow B' e k v n xs := by
 rcases h with ⟨h0, h1 | ⟨g, cap, cur, hv, hb, r⟩⟩
 ·exact ⟨h0, Or.inl h1⟩
 ·exact ⟨h0, Or.inr ⟨g, cap, cur, hv, Nat.le_trans hB hb, r⟩⟩
theorem DHas.ats {W : World} {v : Value} {l : List DV} (h : DHas W v l) : ∀ x ∈ l, Has W x.2 x.1.ats := by
 rcases h with ⟨_, _, _, rfl⟩ | ⟨g, o, c, _, _, _, hr⟩
 ·exact fun x hx => by cases hx
 ·exact hr.ats
theorem row_new (w : World) (cs : List Value) (t : TypeId) : ∀ (j : Nat) u, cs[j]? = some u → (w.alloc (.cells cs.toArray t)).cell? ((⟨w.heap.size, 0, none⟩ : Addr).add j) = some u := fun j u hu => by
 rw [Addr.add_mid, Nat.zero_add, cell_of_row _ _ j _ _ _ (heap_alloc_last w (.cells cs.toArray t))]
 simpa using hu
set_option maxHeartbeats 2000000 in
set_option maxRecDepth 100000 in
theorem refChain_any (sv : Value) (l : List DV) (n : Int) (w : World) (hl : l.length ≤ 1000000) (h : DHas w sv l) : Calls Tryz.prog 73 #[.agg #[sv], .int .i64 n] w fun e w' => ∃ u, e = .returned u ∧ DOwn w' w.heap.size u (upD l l.length n) ∧ Below w.heap.size w w' := by
 obtain ⟨a, c, hsv, _⟩ := h.form
 obtain ⟨i0, hi0, hz0, hz1, hz2⟩ := info_parts info34
 have HF := Lib.hid (fun (m : Int) W (hW : Below w.heap.size w W) => refFind_any sv l m W hl (h.below hW))
 have HD := Lib.hid h
 obtain ⟨N, hN⟩ : ∃ N, l.length = N := ⟨_, rfl⟩
 rw [hN] at hsv hl ⊢
 obtain ⟨R, hR⟩ : ∃ R, upD l N n = R := ⟨_, rfl⟩
 rw [hR]
 have HR := Lib.hid hR
 obtain ⟨Bz, hBz⟩ : ∃ Bz, w.heap.size = Bz := ⟨_, rfl⟩
 subst hsv
 have h0 := heap_alloc_last w (.cells #[.slice a N c] 29)
 rw [hBz] at h0
 have H0 := Lib.hid h0
 have Hb0 := Lib.hid (show Below w.heap.size w (w.alloc (.cells #[.slice a N c] 29)) from (Below.refl _ w).alloc (Nat.le_refl _) _)
 have HS0 := Lib.hid (show (w.alloc (.cells #[.slice a N c] 29)).heap.size = Bz + 1 by rw [World.size_alloc, hBz])
 clear h0 h hN hR
 go_enter Tryz.func73, Tryz.ntmps73
 go_wp2
 generalize w.alloc (.cells #[.slice a N c] 29) = W0 at *
 go_loopg [1, 5] N (fun g s1 s5 wx => ∃ (out : List DV) (m : Int) (v : Value), s1 = .int .i64 m ∧ s5 = v ∧ R = out ++ upD l g m ∧ out.length + g = N ∧ (∀ y ∈ out, y ∈ l) ∧ DOwn wx (Bz + 1) v out ∧ Below W0.heap.size W0 wx)
 case atStart => exact ⟨[], n, _, rfl, rfl, HR.out.symm, by simp, fun y hy => (by cases hy), DOwn.nil _ _, Below.refl _ _⟩
 case round =>
  obtain ⟨out, m, v, rfl, rfl, hrr, hlen, hsub, hown, hbx⟩ := hrel
  have Hsub := Lib.hid hsub
  clear hsub
  obtain ⟨va, vc, hv, _⟩ := hown.has.form
  obtain ⟨L, hL⟩ : ∃ L, out.length = L := ⟨_, rfl⟩
  rw [hL] at hv hlen
  have HL := Lib.hid hL
  have Hrr := Lib.hid hrr
  have Hown := Lib.hid (hv ▸ hown)
  have Hbx := Lib.hid hbx
  have HB := Lib.hid ((hbx.block Bz (Array.getElem?_eq_some_iff.1 H0.out).1).trans H0.out)
  have Hbw := Lib.hid (Hb0.out.trans (hbx.mono Hb0.out.size))
  have c0 := cell_of_row _ Bz 0 _ _ _ HB.out
  simp only [List.getElem?_toArray, List.getElem?_cons_zero] at c0
  have Hlen := Lib.hid hlen
  clear hL hrr hown hbx
  subst hv
  cases gk with
  | zero =>
   have hlt : ¬ (L : Int) < (N : Int) := by omega
   have Hfin := Lib.hid (show R = out from by rw [Hrr.out]; simp [upD])
   clear hlen
   go_wp2
   go_ret
   exact ⟨_, rfl, by rw [Hfin.out]; exact ⟨by
    have := Hown.out.row
    exact ownsRow_mono' this (by have := HS0.out; have := Hb0.out.size; omega), Hown.out.ats⟩, by rw [← hBz]; exact Hbw.out⟩
  | succ g =>
   have hlt : (L : Int) < (N : Int) := by omega
   have hcall := HF.out m _ Hbw.out
   have Hcall := Lib.hid hcall
   clear hlen hcall
   go_wp2_with fail
   refine Hcall.out.mono ?_
   clear Hcall c0
   rintro e W1 ⟨hb1, rfl⟩
   have Hown1 := Lib.hid (Hown.out.keep hb1)
   have Hbx1 := Lib.hid (Hbx.out.trans (hb1.mono Hbx.out.size))
   have Hbw1 := Lib.hid (Hbw.out.trans (hb1.mono Hbw.out.size))
   clear hb1
   cases hf : fndD l m with
   | none =>
    have hf' : ((idxP (l.map (·.1)) m).bind fun p => l[p]?) = none := hf
    rw [hf']
    have Hfin := Lib.hid (show R = out from by rw [Hrr.out, upD, hf]; simp)
    have Hown2 := Lib.hid (Hown1.out.keep ((Below.refl _ W1).alloc (Nat.le_refl _) (.cells zeroC 34)))
    have Hb2 := Lib.hid (Hbw1.out.alloc Hbw1.out.size (.cells zeroC 34))
    clear hf hf'
    go_wp2_with (refine wpList_store_new W1 34 _ zeroC rfl _ _ rfl rfl rfl info34b rfl zeroC_one ?_)
    go_ret
    exact ⟨_, rfl, by rw [Hfin.out]; exact ⟨ownsRow_mono' Hown2.out.row (by have := HS0.out; have := Hb0.out.size; omega), Hown2.out.ats⟩, Hb2.out⟩
   | some x =>
    have hf' : ((idxP (l.map (·.1)) m).bind fun p => l[p]?) = some x := hf
    rw [hf']
    have hxm := fndD_mem hf
    have hr2 : R = (out ++ [x]) ++ upD l g x.1.par := by
     rw [Hrr.out, upD, hf]
     simp
    have Hr2 := Lib.hid hr2
    have hax := (HD.out.below Hbw1.out).ats x hxm
    have Hax := Lib.hid hax
    have Hone := Lib.hid (show (dvC x.1 x.2).toArray.all (·.oneCell') = true from by
     rw [Array.all_eq_true_iff_forall_mem]
     intro v hv
     exact dvC_one hax.one v (by simpa using hv))
    obtain ⟨F, hF⟩ : ∃ F, W1.heap.size = F := ⟨_, rfl⟩
    have hbf := heap_alloc_last W1 (.cells (dvC x.1 x.2).toArray 34)
    have HbF := Lib.hid hbf
    have Hbb := Lib.hid (show Below W1.heap.size W1 (W1.alloc (.cells (dvC x.1 x.2).toArray 34)) from (Below.refl _ W1).alloc (Nat.le_refl _) _)
    have Hown2 := Lib.hid (Hown1.out.keep Hbb.out)
    have HsF := Lib.hid (show (W1.alloc (.cells (dvC x.1 x.2).toArray 34)).heap.size = F + 1 by rw [World.size_alloc, hF])
    have hLN : L ≤ 1000000 := by omega
    have Hnews := Lib.hid (row_new (W1.alloc (.cells (dvC x.1 x.2).toArray 34)) (dvC x.1 x.2) 34)
    have Hones := Lib.hid (dvC_one hax.one (a := x.1))
    have Hbase := Lib.hid (show Bz + 1 ≤ ((W1.alloc (.cells (dvC x.1 x.2).toArray 34)).alloc (.cells (dvC x.1 x.2).toArray 34)).heap.size from by
     rw [World.size_alloc, World.size_alloc]
     have := Hbx1.out.size
     have := HS0.out
     omega)
    have hrow2 : (W1.alloc (.cells (dvC x.1 x.2).toArray 34)).ownsRow (Bz + 1) 34 10 (.slice va L vc) L (dvsC out) := by
     have := Hown2.out.row
     rw [HL.out] at this
     exact this
    have Hrow2 := Lib.hid hrow2
    have Hc1 := Lib.hid (fun w3 (hg : ((W1.alloc (.cells (dvC x.1 x.2).toArray 34)).alloc (.cells (dvC x.1 x.2).toArray 34)).grownBy w3 (Value.slice va L vc).ownBlock) => show w3.cell? ⟨W1.heap.size, 1, none⟩ = some (.int .i64 x.1.par) from by
     have hne : some W1.heap.size ≠ (Value.slice va L vc).ownBlock := fun e => by
      have := (Hown1.out.row.lt _ e.symm).2
      omega
     have h1 := hg.block W1.heap.size (by rw [World.size_alloc, World.size_alloc]; omega) hne
     have h2 := (Below.heap_alloc (W1.alloc (.cells (dvC x.1 x.2).toArray 34)) (.cells (dvC x.1 x.2).toArray 34) W1.heap.size (by rw [World.size_alloc]; omega))
     rw [cell_of_row _ _ 1 _ _ _ (h1.trans (h2.trans hbf))]
     rfl)
    have Hxm := Lib.hid hxm
    clear hf hf' hxm hr2 hax hbf hrow2 hF
    go_wp2_with (first
     | (refine wpList_store_new W1 34 _ (dvC x.1 x.2).toArray rfl _ _ rfl rfl rfl info34b rfl Hone.out ?_)
     | (refine wpList_load_row rfl 34 _ rfl W1.heap.size rfl 34 (dvC x.1 x.2).toArray (0, 0) _ HbF.out Tryz.underlying34 rfl info34b ?_)
     | (refine wpList_build_row rfl 22 34 _ rfl (dvC x.1 x.2).toArray i0 _ rfl Tryz.underlying22 hi0 hz0 (by rw [hz1]; rfl) (by show 0 < 10; omega) (by show (10 : Nat) ≤ 2 ^ 24; omega) ?_)
     | (at_builtin; refine wpList_append_own _ rfl _ _ 22 rfl (Bz + 1) 34 i0 _ 10 136 Tryz.underlying22 hi0 hz0 hz1 hz2 rfl (by decide) _ L (dvsC out) rfl (Hrow2.out.alloc _) ⟨(W1.alloc (.cells (dvC x.1 x.2).toArray 34)).heap.size, 0, none⟩ 1 1 (dvC x.1 x.2) rfl rfl Hnews.out Hones.out (by unfold maxLen; omega) (by omega) Hbase.out ?_; intro v3 w3 hown3 hgr3 _; have hc3 := Hc1.out w3 hgr3; have Hown3 := Lib.hid hown3; have Hgr3 := Lib.hid hgr3; clear hown3 hgr3))
    have hgb : ∀ k, (Value.slice va L vc).ownBlock = some k → W0.heap.size ≤ k := fun k hk => by
     have h1 := (Hown1.out.row.lt k hk).1
     have h2 := HS0.out
     omega
    have hx3 : Below W0.heap.size W0 w3 := ((Hbx1.out.alloc Hbx1.out.size (.cells (dvC x.1 x.2).toArray 34)).alloc (by rw [World.size_alloc]; have := Hbx1.out.size; omega) (.cells (dvC x.1 x.2).toArray 34)).grown Hgr3.out (by rw [World.size_alloc, World.size_alloc]; have := Hbx1.out.size; omega) hgb
    have hw3 : Below w.heap.size w w3 := Hb0.out.trans (hx3.mono Hb0.out.size)
    have hsub3 : ∀ y ∈ out ++ [x], y ∈ l := fun y hy => by
     rcases List.mem_append.1 hy with hy | hy
     ·exact Hsub.out y hy
     ·rw [List.mem_singleton.1 hy]
      exact Hxm.out
    have hown3 : DOwn w3 (Bz + 1) v3 (out ++ [x]) := ⟨by
     have h1 : (out ++ [x]).length = L + 1 := by rw [List.length_append, HL.out]; rfl
     have h2 : dvsC (out ++ [x]) = dvsC out ++ dvC x.1 x.2 := by rw [dvsC_append]; simp [dvsC]
     rw [h1, h2]
     exact Hown3.out, fun y hy => (HD.out.below hw3).ats y (hsub3 y hy)⟩
    have Hend := Lib.hid (And.intro hsub3 (And.intro hown3 hx3))
    go_roundg g
    case measure => omega
    case rel => exact ⟨out ++ [x], x.1.par, v3, rfl, rfl, Hr2.out, by rw [List.length_append, HL.out]; have := Hlen.out; simp only [List.length_cons, List.length_nil]; omega, Hend.out.1, Hend.out.2.1, Hend.out.2.2⟩
end Go.Proofs.YtldcediiobfhiaaGreatDoor.De
