/- The reference's closed. -/
import Derived.Test.YtdlchlbngojljaaDoorQRv
import Derived.Deep.MidRow
namespace Go.Proofs.YtdlchlbngojljaaDoor.Gl
open Go.RowKit
theorem PRow.range {w : World} {g : Nat} {l : List Pr5} (h : PRow w g l) {j : Nat} {x : Pr5} (hj : l[j]? = some x) : w.rangeAt g (j * 5) (prC x) := fun m v hv => by
 have hm : m < 5 := (List.getElem?_eq_some_iff.1 hv).1
 rw [← prsC_get l j x m hj hm] at hv
 exact h _ v hv
theorem info52c : (Tryd.prog.info? 96).map (·.size) = some 5 := by kernel_rfl
theorem prC_one (z : Pr5) : (prC z).toArray.all (·.oneCell') = true := by simp [prC, Value.oneCell']
/-- A pair in a block of its own. -/
def BoxP (w : World) (b : Nat) (z : Pr5) : Prop := w.heap[b]? = some (.cells (prC z).toArray 96 (0, 0))
theorem BoxP.new (w : World) (z : Pr5) : BoxP (w.alloc (.cells (prC z).toArray 96)) w.heap.size z := heap_alloc_last w _
theorem BoxP.below {w w' : World} {b B : Nat} {z : Pr5} (h : BoxP w b z) (hb : Below B w w') (hB : b < B) : BoxP w' b z := (hb.block b hB).trans h
theorem BoxP.lt {w : World} {b : Nat} {z : Pr5} (h : BoxP w b z) : b < w.heap.size := (Array.getElem?_eq_some_iff.1 h).1
theorem BoxP.cells {w : World} {b : Nat} {z : Pr5} (h : BoxP w b z) : w.cell? ⟨b, 0, none⟩ = some (.int .i64 (z.a : Int)) ∧ w.cell? ⟨b, 1, none⟩ = some (.int .i64 (z.b : Int)) ∧ w.cell? ⟨b, 2, none⟩ = some (.int .i64 (z.i : Int)) ∧ w.cell? ⟨b, 3, none⟩ = some (.int .i64 (z.k : Int)) := by
 refine ⟨?_, ?_, ?_, ?_⟩ <;> (rw [cell_of_row w b _ _ _ _ h]; rfl)
theorem BoxP.frozen {w : World} {b : Nat} {z : Pr5} (h : BoxP w b z) (i : Nat) : w.frozen? ⟨b, i, none⟩ = false := frozen_of_row w b i _ _ h
/-- What closed answers. -/
def ClosedPost (x y : List (List El)) (n : Nat) (l : List Pr5) (w : World) (e : Ending) (w' : World) : Prop := ∃ v m, e = .returned v ∧ PHas w' v m ∧ Below w.heap.size w w' ∧ Closing x y n l m ∧ ∀ b, v.ownBlock = some b → w.heap.size ≤ b
theorem alt_cell {w W : World} {G n cap : Nat} {L : List (List El)} {j : Nat} {a : List El} (h : PAltsAt w (.slice (some ⟨G, 0, none⟩) n cap) L) (hb : Below w.heap.size w W) (hj : L[j]? = some a) : ∃ aj cj gj, W.cell? ⟨G, j, none⟩ = some (.slice aj a.length cj) ∧ (0 < a.length → aj = some ⟨gj, 0, none⟩) ∧ PElsAt W gj a := by
 obtain ⟨G', cap', hv, hG, _, hrow⟩ := h
 obtain ⟨aj, cj, gj, hc, h1, h2, h3⟩ := hrow j a hj
 have e : G = G' := by simp only [Value.slice.injEq, Option.some.injEq, Addr.mk.injEq] at hv; exact hv.1.1
 subst e
 exact ⟨aj, cj, gj, (hb.cell (p := ⟨G, j, none⟩) hG).trans hc, h1, h3.below hb h2⟩
theorem wpList_store_newF {P : Program} {ops : Array Oper} {rest : List Oper} {o : Oper} {a : Act} {Q : Exit → Act → World → Prop} (w : World) (F : Nat) (hF : w.heap.size = F) (t : TypeId) (c c' : Array Value) (hgd : o.guard = none) (x y : Operand) (ho : o.op = .store t x y)
  (hx : a.eval x = .pointer (some ⟨F, 0, none⟩)) (hy : a.eval y = .agg c') (hi : (P.info? t).map (·.size) = some c'.size) (hc : c.size = c'.size) (h1 : c'.all (·.oneCell') = true)
  (h : wpList P ops Q rest (a.put o.dst undef) (w.alloc (.cells c' t))) : wpList P ops Q (o :: rest) a (w.alloc (.cells c t)) := by
 subst hF
 exact wpList_store_new w t c c' hgd x y ho hx hy hi hc h1 h
set_option maxHeartbeats 600000 in
set_option maxRecDepth 100000 in
theorem refClosed_any (x y : List (List El)) (n : Nat) (l : List Pr5) (vx vy vl : Value) (w : World) (hx : Small 18 x) (hy : Small 18 y) (hvx : PAltsAt w vx x) (hvy : PAltsAt w vy y) (hl : LI n l) (hs : ∀ z ∈ l, Snd x y z) (hv : PHas w vl l) : Calls Tryd.prog 50 #[vx, vy, vl] w (ClosedPost x y n l w) := by
 have hN := snd_length hx hy hl hs
 rw [allK18] at hN
 obtain ⟨a, c, rfl, hc, hrow⟩ := hv.form
 obtain ⟨Gx, capx, rfl⟩ := palts_form hvx
 obtain ⟨Gy, capy, rfl⟩ := palts_form hvy
 obtain ⟨T, hT⟩ : ∃ T, l.map (·.t) = T := ⟨_, rfl⟩
 have hTl : ∀ s ∈ T, s.length = n := fun s h => by
  rw [← hT] at h
  obtain ⟨z, hz, rfl⟩ := List.mem_map.1 h
  exact hl.len z hz
 have hTm : ∀ z ∈ l, z.t ∈ T := fun z hz => by
  rw [← hT]
  exact List.mem_map_of_mem hz
 have HX := Lib.hid hx
 have HY := Lib.hid hy
 have HAx := Lib.hid hvx
 have HAy := Lib.hid hvy
 have HL := Lib.hid hl
 have HS := Lib.hid hs
 have HTl := Lib.hid hTl
 have HTm := Lib.hid hTm
 have HRow := Lib.hid hrow
 have Hput := Lib.hid fun (o : List Pr5) (z : Pr5) (v : Value) (W : World) (h0 : o.length ≤ 104976) (h1 : LI n o) (h2 : z.t.length = n) (h3 : PHas W v o) => refPut_any o z v n W (by omega) h1 h2 h3
 have Hbet := Lib.hid fun (o : List Pr5) (z : Pr5) (v : Value) (W : World) (h0 : o.length ≤ 104976) (h3 : PHas W v o) => refBetter_any o z v W (by omega) h3
 obtain ⟨N, hNl⟩ : ∃ N, l.length = N := ⟨_, rfl⟩
 rw [hNl] at hN hc ⊢
 have HN := Lib.hid hNl
 have hcN : (N : Int) ≤ (c : Int) := by omega
 clear hx hy hvx hvy hl hs hTl hTm hrow hT hNl hv
 go_enter Tryd.func50, Tryd.ntmps50
 go_wp2
 go_loopw [7, 8] (fun s7 s8 wx => ∃ (i : Nat) (o : List Pr5) (v : Value), i ≤ N ∧ s7 = v ∧ s8 = .int .i64 (i : Int) ∧ PHas wx v o ∧ CL x y n T (l.take i) o ∧ Below w.heap.size w wx ∧ ∀ b, v.ownBlock = some b → w.heap.size ≤ b) (fun _ s8 _ => N - (intOf s8).toNat)
 case atStart => exact ⟨0, [], .slice none 0 0, by omega, rfl, rfl, Or.inl ⟨rfl, rfl⟩, CL.nil x y n T, Below.refl _ _, fun b h => by cases h⟩
 case round =>
  obtain ⟨i, o, v0, hi, rfl, rfl, hpo, hcl, hbw, hfr⟩ := hrel
  have hol := snd_length HX.out HY.out hcl.li hcl.snd
  rw [allK18] at hol
  have Hpo := Lib.hid hpo
  have Hcl := Lib.hid hcl
  have Hb := Lib.hid hbw
  have Hfr := Lib.hid hfr
  have Hol := Lib.hid hol
  clear hpo hcl hbw hfr hol
  by_cases hlt : i < N
  ·have hiz : (i : Int) < (N : Int) := by omega
   obtain ⟨z, hz⟩ : ∃ z, l[i]? = some z := ⟨l[i]'(by rw [HN.out]; exact hlt), List.getElem?_eq_getElem _⟩
   obtain ⟨g, rfl, hg, hr⟩ := HRow.out (fun e => by rw [e] at hz; simp at hz)
   have Hran := Lib.hid ((hr.below Hb.out hg).range hz)
   have Hzm := Lib.hid (List.mem_of_getElem? hz)
   have Hz := Lib.hid hz
   clear hr hg hz
   go_wp2_with (refine wpList_load_mid rfl 96 _ rfl g (i * 5) rfl (prC z) _ Hran.out Tryd.underlying96 rfl info52c ?_)
   have hcall : Calls Tryd.prog 53 #[u7, Value.agg (prC z).toArray] wr (PutPost o z u7 wr) := Hput.out o z u7 wr Hol.out Hcl.out.li (HL.out.len z Hzm.out) Hpo.out
   refine hcall.mono ?_
   clear hcall
   rintro e W1 ⟨v1, rfl, hp1, hb1, hf1⟩
   have hcl1 := Hcl.out.more Hz.out (HL.out.len z Hzm.out) (HS.out z Hzm.out) (HTm.out z Hzm.out)
   have Hrel := Lib.hid (And.intro hp1 (And.intro hcl1 (And.intro (Hb.out.trans (hb1.mono Hb.out.size)) (show ∀ b, v1.ownBlock = some b → w.heap.size ≤ b from fun b hb => by
    rcases hf1 with rfl | h
    ·exact Hfr.out b hb
    ·exact Nat.le_trans Hb.out.size (h b hb)))))
   clear hp1 hcl1 hb1 hf1
   go_wp2
   exact ⟨⟨i + 1, putP o z, _, by omega, rfl, rfl, Hrel.out.1, Hrel.out.2.1, Hrel.out.2.2.1, Hrel.out.2.2.2⟩, by simp [intOf]; omega⟩
  ·obtain rfl : i = N := by omega
   have HN2 := Lib.hid (show CL x y n T l o from by
    have := Hcl.out
    rw [← HN.out, List.take_length] at this
    exact this)
   clear Hcl
   have Hbb := Hb
   clear Hb
   have Hpo2 := Hpo
   clear Hpo HRow
   go_wp2
   go_loopg [7, 9] (clM 18 T o 0) (fun g s7 s9 wx => ∃ (i : Nat) (o : List Pr5) (v : Value), i ≤ o.length ∧ s7 = v ∧ s9 = .int .i64 (i : Int) ∧ PHas wx v o ∧ CL x y n T l o ∧ Below w.heap.size w wx ∧ (∀ b, v.ownBlock = some b → w.heap.size ≤ b) ∧ (∀ (j : Nat) u, j < i → o[j]? = some u → ClosedAt x y o u) ∧ clM 18 T o i ≤ g)
   case atStart => exact ⟨0, o, _, Nat.zero_le _, rfl, rfl, Hpo2.out, HN2.out, Hbb.out, Hfr.out, fun j u h => by omega, Nat.le_refl _⟩
   case round =>
    clear Hpo2 HN2 Hbb Hfr Hol
    obtain ⟨j, p, v0, hj, rfl, rfl, hpo, hcl, hbw, hfr, hca, hm⟩ := hrel
    have hol := snd_length HX.out HY.out hcl.li hcl.snd
    rw [allK18] at hol
    have Hcl := Lib.hid hcl
    have Hb := Lib.hid hbw
    have Hfr := Lib.hid hfr
    have Hol := Lib.hid hol
    have Hca := Lib.hid hca
    have Hm := Lib.hid hm
    have Hpo := Lib.hid hpo
    obtain ⟨P, hP⟩ : ∃ P, p.length = P := ⟨_, rfl⟩
    have hPl : P ≤ 104976 := by omega
    obtain ⟨pa, pc, hsv, hpc, hprow⟩ := hpo.form
    rw [hP] at hj hsv hpc
    have HP := Lib.hid hP
    have HPV := Lib.hid hsv
    have HPR := Lib.hid hprow
    have HPr := Lib.hid (hsv ▸ hpo)
    clear hcl hbw hfr hol hca hm hpo hP hprow
    subst hsv
    by_cases hlt : j < P
    ·have hiz : (j : Int) < (P : Int) := by omega
     obtain ⟨z, hz⟩ : ∃ z, p[j]? = some z := ⟨p[j]'(by rw [HP.out]; exact hlt), List.getElem?_eq_getElem _⟩
     obtain ⟨g, rfl, hg, hr⟩ := HPR.out (fun e => by rw [e] at hz; simp at hz)
     have Hran := Lib.hid (hr.range hz)
     have Hz := Lib.hid hz
     have Hzm := Lib.hid (List.mem_of_getElem? hz)
     obtain ⟨la, lb, ha, hb, hila, hklb, -, -⟩ := (Hcl.out.snd z (List.mem_of_getElem? hz)).ex
     have Hla := Lib.hid ha
     have Hlb := Lib.hid hb
     clear hr hg hz ha hb
     go_wp2_with (first
      | (refine wpList_load_mid rfl 96 _ rfl g (j * 5) rfl (prC z) _ Hran.out Tryd.underlying96 rfl info52c ?_)
      | (refine wpList_store_new wr 96 _ (prC z).toArray rfl _ _ rfl rfl rfl info52c rfl (prC_one z) ?_))
     obtain ⟨E, hE⟩ : ∃ E, wr.heap.size = E := ⟨_, rfl⟩
     have hbox1 := BoxP.new wr z
     have hbw1 := (Hb.out.alloc Hb.out.size (.cells (prC z).toArray 96))
     have hpw1 := (HPr.out.below ((Below.refl _ wr).alloc (Nat.le_refl _) (.cells (prC z).toArray 96)))
     generalize wr.alloc (.cells (prC z).toArray 96) = W1 at *
     rw [hE] at hbox1 ⊢
     have HE1 := Lib.hid hbox1
     have Hb1 := Lib.hid hbw1
     have HP1 := Lib.hid hpw1
     clear hbox1 hbw1 hpw1 hE
     obtain ⟨aj, cj, gj, hcx, haj, hels⟩ := alt_cell HAx.out Hb1.out Hla.out
     obtain ⟨c0, c1, c2, c3⟩ := HE1.out.cells
     have hzx : (z.a : Int) < (x.length : Int) := by have := (List.getElem?_eq_some_iff.1 Hla.out).1; omega
     have Hels := Lib.hid hels
     clear hels
     rcases Nat.lt_or_ge z.i la.length with hfl | hfl
     ·obtain ⟨e, he⟩ : ∃ e, la[z.i]? = some e := ⟨_, List.getElem?_eq_getElem hfl⟩
      obtain rfl := haj (by omega)
      have hstar := (Hels.out z.i e he).1
      have hsa := starAt_get he
      have hfz : (z.i : Int) < (la.length : Int) := by omega
      have hfb : (z.i : Int) + 1 < 100 := by have := HX.out.el la (List.mem_of_getElem? Hla.out); omega
      have Hsa := Lib.hid hsa
      clear hsa he haj
      cases hse : e.star with
      | false =>
       rw [hse] at hstar
       have HNS := Lib.hid (Hsa.out.trans hse)
       clear hse
       go_quiet (fail)
       have HD1 := Lib.hid (show ∀ la', x[z.a]? = some la' → starAt la' z.i = true → Dom p { z with i := z.i + 1 } from fun la' h1 h2 => by
        rw [Hla.out] at h1
        obtain rfl := Option.some.inj h1
        exact absurd h2 (by rw [HNS.out]; simp))
       generalize hW7 : World.drewN W1 nq = W7
       have HE7 := Lib.hid (show BoxP W7 E z from by rw [← hW7]; exact HE1.out)
       have HP7 := Lib.hid (show PHas W7 (Value.slice (some ⟨g, 0, none⟩) P pc) p from by rw [← hW7]; exact HP1.out.below (drop_below (Below.refl _ _) _))
       have Hb7 := Lib.hid (show Below w.heap.size w W7 from by rw [← hW7]; exact drop_below Hb1.out _)
       clear hW7
       go_wp2
       obtain ⟨aj, cj, gj, hcx, haj, hels⟩ := alt_cell HAy.out Hb7.out Hlb.out
       obtain ⟨c0, c1, c2, c3⟩ := HE7.out.cells
       have hzx : (z.b : Int) < (y.length : Int) := by have := (List.getElem?_eq_some_iff.1 Hlb.out).1; omega
       have Hels := Lib.hid hels
       clear hels
       rcases Nat.lt_or_ge z.k lb.length with hfl | hfl
       ·obtain ⟨e, he⟩ : ∃ e, lb[z.k]? = some e := ⟨_, List.getElem?_eq_getElem hfl⟩
        obtain rfl := haj (by omega)
        have hstar := (Hels.out z.k e he).1
        have hsa := starAt_get he
        have hfz : (z.k : Int) < (lb.length : Int) := by omega
        have hfb : (z.k : Int) + 1 < 100 := by have := HY.out.el lb (List.mem_of_getElem? Hlb.out); omega
        have Hsa := Lib.hid hsa
        clear hsa he haj
        cases hse : e.star with
        | false =>
         rw [hse] at hstar
         have HNS := Lib.hid (Hsa.out.trans hse)
         clear hse
         go_quiet (fail)
         have HD2 := Lib.hid (show ∀ lb', y[z.b]? = some lb' → starAt lb' z.k = true → Dom p { z with k := z.k + 1 } from fun lb' h1 h2 => by
          rw [Hlb.out] at h1
          obtain rfl := Option.some.inj h1
          exact absurd h2 (by rw [HNS.out]; simp))
         generalize hW7 : World.drewN W7 nq = W8
         have Hend := Lib.hid (And.intro (show PHas W8 (Value.slice (some ⟨g, 0, none⟩) P pc) p from by rw [← hW7]; exact HP7.out.below (drop_below (Below.refl _ _) _)) (show Below w.heap.size w W8 from by rw [← hW7]; exact drop_below Hb7.out _))
         clear hW7
         have Hca2 := Lib.hid (closed_step Hca.out Hz.out ⟨HD1.out, HD2.out⟩)
         have Hst := Lib.hid (Nat.lt_of_lt_of_le (clM_step (M := 18) (T := T) (o := p) (i := j) (by rw [allK18]; omega)) Hm.out)
         go_wp2
         go_roundg (clM 18 T p (j + 1))
         case measure => exact Hst.out
         case rel => exact ⟨j + 1, p, (Value.slice (some ⟨g, 0, none⟩) P pc), by rw [HP.out]; omega, rfl, rfl, Hend.out.1, Hcl.out, Hend.out.2, Hfr.out, Hca2.out, Nat.le_refl _⟩
        | true =>
         rw [hse] at hstar
         have Hsw := Lib.hid (show Snd x y { z with k := z.k + 1 } from snd_skip_k x y (Hcl.out.snd z Hzm.out) Hlb.out (Hsa.out.trans hse))
         clear hse
         go_quiet (fail)
         generalize hW2 : World.drewN W7 nq = W2
         have HE2 := Lib.hid (show BoxP W2 E z from by rw [← hW2]; exact HE7.out)
         have HP2 := Lib.hid (show PHas W2 (Value.slice (some ⟨g, 0, none⟩) P pc) p from by rw [← hW2]; exact HP7.out.below (drop_below (Below.refl _ _) _))
         have Hb2 := Lib.hid (show Below w.heap.size w W2 from by rw [← hW2]; exact drop_below Hb7.out _)
         clear hW2 c0 c1 c2 c3 hcx hstar
         have hbox := BoxP.new W2 z
         obtain ⟨F, hF⟩ : ∃ F, W2.heap.size = F := ⟨_, rfl⟩
         have hFb : w.heap.size ≤ F := by rw [← hF]; exact Hb2.out.size
         rw [hF] at hbox
         obtain ⟨c0, c1, c2, c3⟩ := hbox.cells
         have hfz2 := hbox.frozen 3
         have Hb4 := Lib.hid (show Below w.heap.size w (W2.alloc (.cells ((prC z).set 3 (.int .i64 ((z.k : Int) + 1))).toArray 96)) from Hb2.out.alloc Hb2.out.size _)
         have Hbb4 := Lib.hid (show Below W2.heap.size W2 (W2.alloc (.cells ((prC z).set 3 (.int .i64 ((z.k : Int) + 1))).toArray 96)) from (Below.refl _ W2).alloc (Nat.le_refl _) _)
         have HB4 := Lib.hid (show BoxP (W2.alloc (.cells ((prC z).set 3 (.int .i64 ((z.k : Int) + 1))).toArray 96)) F { z with k := z.k + 1 } from by
          have := BoxP.new W2 { z with k := z.k + 1 }
          rw [hF] at this
          exact this)
         clear hbox hFb
         go_wp2_with (first
          | (refine wpList_load_row rfl 96 _ rfl E rfl 96 (prC z).toArray (0, 0) _ HE2.out Tryd.underlying96 rfl info52c ?_)
          | (refine wpList_load_row rfl 96 _ rfl F rfl 96 (prC { z with k := z.k + 1 }).toArray (0, 0) _ HB4.out Tryd.underlying96 rfl info52c ?_)
          | (refine wpList_store_newF W2 F hF 96 _ (prC z).toArray rfl _ _ rfl rfl rfl info52c rfl (prC_one z) ?_))
         generalize W2.alloc (.cells ((prC z).set 3 (.int .i64 ((z.k : Int) + 1))).toArray 96) = W4 at *
         have HP5 := Lib.hid (HP2.out.below Hbb4.out)
         have HBE5 := Lib.hid (HE2.out.below Hbb4.out HE2.out.lt)
         have HB5 := HB4
         have Hb5 := Hb4
         obtain ⟨R, hR⟩ : ∃ R, betterP p { z with k := z.k + 1 } = R := ⟨_, rfl⟩
         have hcallb : Calls Tryd.prog 77 #[(Value.slice (some ⟨g, 0, none⟩) P pc), Value.agg (prC { z with k := z.k + 1 }).toArray] W4 (Bel (.bool R) W4) := by
          rw [← hR]
          exact Hbet.out p { z with k := z.k + 1 } _ W4 Hol.out HP5.out
         refine hcallb.mono ?_
         clear hcallb hF HB4 Hb4 Hbb4 c0 c1 c2 c3 hfz2 HP2 HE2 Hb2
         rintro e W5 ⟨rfl, hb5⟩
         cases R with
         | true =>
          have HBt := Lib.hid hR
          clear hR
          have HB6 := Lib.hid (HB5.out.below hb5 HB5.out.lt)
          go_wp2_with (refine wpList_load_row rfl 96 _ rfl F rfl 96 (prC { z with k := z.k + 1 }).toArray (0, 0) _ HB6.out Tryd.underlying96 rfl info52c ?_)
          have hcall : Calls Tryd.prog 53 #[(Value.slice (some ⟨g, 0, none⟩) P pc), Value.agg (prC { z with k := z.k + 1 }).toArray] W5 (PutPost p { z with k := z.k + 1 } (Value.slice (some ⟨g, 0, none⟩) P pc) W5) := Hput.out p { z with k := z.k + 1 } (Value.slice (some ⟨g, 0, none⟩) P pc) W5 Hol.out Hcl.out.li (HTl.out _ (Hcl.out.txt z Hzm.out)) (HP5.out.below hb5)
          refine hcall.mono ?_
          clear hcall
          rintro e W6 ⟨v1, rfl, hp6, hb6, hf6⟩
          have Hnew := Lib.hid (And.intro hp6 (And.intro (Hcl.out.put (w := { z with k := z.k + 1 }) (HTl.out _ (Hcl.out.txt z Hzm.out)) Hsw.out (Hcl.out.txt z Hzm.out)) (And.intro ((Hb5.out.trans (hb5.mono Hb5.out.size)).trans (hb6.mono (Nat.le_trans Hb5.out.size hb5.size))) (And.intro (show ∀ b, v1.ownBlock = some b → w.heap.size ≤ b from fun b hb => by
           rcases hf6 with rfl | h
           ·exact Hfr.out b hb
           ·exact Nat.le_trans (Nat.le_trans Hb5.out.size hb5.size) (h b hb)) (Nat.lt_of_lt_of_le (clM_put (w := { z with k := z.k + 1 }) HX.out HY.out Hcl.out HTl.out Hsw.out (Hcl.out.txt z Hzm.out) HBt.out j (by rw [allK18]; omega)) Hm.out)))))
          clear hp6 hb6 hf6 hb5
          go_wp2
          go_roundg (clM 18 T (putP p { z with k := z.k + 1 }) 0)
          case measure => exact Hnew.out.2.2.2.2
          case rel => exact ⟨0, putP p { z with k := z.k + 1 }, v1, Nat.zero_le _, rfl, rfl, Hnew.out.1, Hnew.out.2.1, Hnew.out.2.2.1, Hnew.out.2.2.2.1, fun j u h => by omega, Nat.le_refl _⟩
         | false =>
          have HBt := Lib.hid hR
          clear hR
          have HD2 := Lib.hid (show ∀ lb', y[z.b]? = some lb' → starAt lb' z.k = true → Dom p { z with k := z.k + 1 } from fun _ _ _ => dom_of_not_better Hcl.out.li (HTl.out _ (Hcl.out.txt z Hzm.out)) HBt.out)
          have Hend := Lib.hid (And.intro (HP5.out.below hb5) (Hb5.out.trans (hb5.mono Hb5.out.size)))
          clear hb5
          have Hca2 := Lib.hid (closed_step Hca.out Hz.out ⟨HD1.out, HD2.out⟩)
          have Hst := Lib.hid (Nat.lt_of_lt_of_le (clM_step (M := 18) (T := T) (o := p) (i := j) (by rw [allK18]; omega)) Hm.out)
          go_wp2
          go_roundg (clM 18 T p (j + 1))
          case measure => exact Hst.out
          case rel => exact ⟨j + 1, p, (Value.slice (some ⟨g, 0, none⟩) P pc), by rw [HP.out]; omega, rfl, rfl, Hend.out.1, Hcl.out, Hend.out.2, Hfr.out, Hca2.out, Nat.le_refl _⟩
       ·have HNS := Lib.hid (show starAt lb z.k = false from by unfold starAt; rw [List.getElem?_eq_none hfl]; rfl)
        have hfz : ¬ (z.k : Int) < (lb.length : Int) := by omega
        go_quiet (fail)
        have HD2 := Lib.hid (show ∀ lb', y[z.b]? = some lb' → starAt lb' z.k = true → Dom p { z with k := z.k + 1 } from fun lb' h1 h2 => by
         rw [Hlb.out] at h1
         obtain rfl := Option.some.inj h1
         exact absurd h2 (by rw [HNS.out]; simp))
        generalize hW7 : World.drewN W7 nq = W8
        have Hend := Lib.hid (And.intro (show PHas W8 (Value.slice (some ⟨g, 0, none⟩) P pc) p from by rw [← hW7]; exact HP7.out.below (drop_below (Below.refl _ _) _)) (show Below w.heap.size w W8 from by rw [← hW7]; exact drop_below Hb7.out _))
        clear hW7
        have Hca2 := Lib.hid (closed_step Hca.out Hz.out ⟨HD1.out, HD2.out⟩)
        have Hst := Lib.hid (Nat.lt_of_lt_of_le (clM_step (M := 18) (T := T) (o := p) (i := j) (by rw [allK18]; omega)) Hm.out)
        go_wp2
        go_roundg (clM 18 T p (j + 1))
        case measure => exact Hst.out
        case rel => exact ⟨j + 1, p, (Value.slice (some ⟨g, 0, none⟩) P pc), by rw [HP.out]; omega, rfl, rfl, Hend.out.1, Hcl.out, Hend.out.2, Hfr.out, Hca2.out, Nat.le_refl _⟩
      | true =>
       rw [hse] at hstar
       have Hsw := Lib.hid (show Snd x y { z with i := z.i + 1 } from snd_skip_i x y (Hcl.out.snd z Hzm.out) Hla.out (Hsa.out.trans hse))
       clear hse
       go_quiet (fail)
       generalize hW2 : World.drewN W1 nq = W2
       have HE2 := Lib.hid (show BoxP W2 E z from by rw [← hW2]; exact HE1.out)
       have HP2 := Lib.hid (show PHas W2 (Value.slice (some ⟨g, 0, none⟩) P pc) p from by rw [← hW2]; exact HP1.out.below (drop_below (Below.refl _ _) _))
       have Hb2 := Lib.hid (show Below w.heap.size w W2 from by rw [← hW2]; exact drop_below Hb1.out _)
       clear hW2 c0 c1 c2 c3 hcx hstar
       have hbox := BoxP.new W2 z
       obtain ⟨F, hF⟩ : ∃ F, W2.heap.size = F := ⟨_, rfl⟩
       have hFb : w.heap.size ≤ F := by rw [← hF]; exact Hb2.out.size
       rw [hF] at hbox
       obtain ⟨c0, c1, c2, c3⟩ := hbox.cells
       have hfz2 := hbox.frozen 2
       have Hb4 := Lib.hid (show Below w.heap.size w (W2.alloc (.cells ((prC z).set 2 (.int .i64 ((z.i : Int) + 1))).toArray 96)) from Hb2.out.alloc Hb2.out.size _)
       have Hbb4 := Lib.hid (show Below W2.heap.size W2 (W2.alloc (.cells ((prC z).set 2 (.int .i64 ((z.i : Int) + 1))).toArray 96)) from (Below.refl _ W2).alloc (Nat.le_refl _) _)
       have HB4 := Lib.hid (show BoxP (W2.alloc (.cells ((prC z).set 2 (.int .i64 ((z.i : Int) + 1))).toArray 96)) F { z with i := z.i + 1 } from by
        have := BoxP.new W2 { z with i := z.i + 1 }
        rw [hF] at this
        exact this)
       clear hbox hFb
       go_wp2_with (first
        | (refine wpList_load_row rfl 96 _ rfl E rfl 96 (prC z).toArray (0, 0) _ HE2.out Tryd.underlying96 rfl info52c ?_)
        | (refine wpList_load_row rfl 96 _ rfl F rfl 96 (prC { z with i := z.i + 1 }).toArray (0, 0) _ HB4.out Tryd.underlying96 rfl info52c ?_)
        | (refine wpList_store_newF W2 F hF 96 _ (prC z).toArray rfl _ _ rfl rfl rfl info52c rfl (prC_one z) ?_))
       generalize W2.alloc (.cells ((prC z).set 2 (.int .i64 ((z.i : Int) + 1))).toArray 96) = W4 at *
       have HP5 := Lib.hid (HP2.out.below Hbb4.out)
       have HBE5 := Lib.hid (HE2.out.below Hbb4.out HE2.out.lt)
       have HB5 := HB4
       have Hb5 := Hb4
       obtain ⟨R, hR⟩ : ∃ R, betterP p { z with i := z.i + 1 } = R := ⟨_, rfl⟩
       have hcallb : Calls Tryd.prog 77 #[(Value.slice (some ⟨g, 0, none⟩) P pc), Value.agg (prC { z with i := z.i + 1 }).toArray] W4 (Bel (.bool R) W4) := by
        rw [← hR]
        exact Hbet.out p { z with i := z.i + 1 } _ W4 Hol.out HP5.out
       refine hcallb.mono ?_
       clear hcallb hF HB4 Hb4 Hbb4 c0 c1 c2 c3 hfz2 HP2 HE2 Hb2
       rintro e W7 ⟨rfl, hb5⟩
       cases R with
       | true =>
        have HBt := Lib.hid hR
        clear hR
        have HB6 := Lib.hid (HB5.out.below hb5 HB5.out.lt)
        go_wp2_with (refine wpList_load_row rfl 96 _ rfl F rfl 96 (prC { z with i := z.i + 1 }).toArray (0, 0) _ HB6.out Tryd.underlying96 rfl info52c ?_)
        have hcall : Calls Tryd.prog 53 #[(Value.slice (some ⟨g, 0, none⟩) P pc), Value.agg (prC { z with i := z.i + 1 }).toArray] W7 (PutPost p { z with i := z.i + 1 } (Value.slice (some ⟨g, 0, none⟩) P pc) W7) := Hput.out p { z with i := z.i + 1 } (Value.slice (some ⟨g, 0, none⟩) P pc) W7 Hol.out Hcl.out.li (HTl.out _ (Hcl.out.txt z Hzm.out)) (HP5.out.below hb5)
        refine hcall.mono ?_
        clear hcall
        rintro e W6 ⟨v1, rfl, hp6, hb6, hf6⟩
        have Hnew := Lib.hid (And.intro hp6 (And.intro (Hcl.out.put (w := { z with i := z.i + 1 }) (HTl.out _ (Hcl.out.txt z Hzm.out)) Hsw.out (Hcl.out.txt z Hzm.out)) (And.intro ((Hb5.out.trans (hb5.mono Hb5.out.size)).trans (hb6.mono (Nat.le_trans Hb5.out.size hb5.size))) (And.intro (show ∀ b, v1.ownBlock = some b → w.heap.size ≤ b from fun b hb => by
         rcases hf6 with rfl | h
         ·exact Hfr.out b hb
         ·exact Nat.le_trans (Nat.le_trans Hb5.out.size hb5.size) (h b hb)) (Nat.lt_of_lt_of_le (clM_put (w := { z with i := z.i + 1 }) HX.out HY.out Hcl.out HTl.out Hsw.out (Hcl.out.txt z Hzm.out) HBt.out j (by rw [allK18]; omega)) Hm.out)))))
        clear hp6 hb6 hf6 hb5
        go_wp2
        go_roundg (clM 18 T (putP p { z with i := z.i + 1 }) 0)
        case measure => exact Hnew.out.2.2.2.2
        case rel => exact ⟨0, putP p { z with i := z.i + 1 }, v1, Nat.zero_le _, rfl, rfl, Hnew.out.1, Hnew.out.2.1, Hnew.out.2.2.1, Hnew.out.2.2.2.1, fun j u h => by omega, Nat.le_refl _⟩
       | false =>
        have HBt := Lib.hid hR
        clear hR
        have HD1 := Lib.hid (show ∀ la', x[z.a]? = some la' → starAt la' z.i = true → Dom p { z with i := z.i + 1 } from fun _ _ _ => dom_of_not_better Hcl.out.li (HTl.out _ (Hcl.out.txt z Hzm.out)) HBt.out)
        have HE7 := Lib.hid (HBE5.out.below hb5 HBE5.out.lt)
        have HP7 := Lib.hid (HP5.out.below hb5)
        have Hb7 := Lib.hid (Hb5.out.trans (hb5.mono Hb5.out.size))
        clear hb5
        go_wp2
        obtain ⟨aj, cj, gj, hcx, haj, hels⟩ := alt_cell HAy.out Hb7.out Hlb.out
        obtain ⟨c0, c1, c2, c3⟩ := HE7.out.cells
        have hzx : (z.b : Int) < (y.length : Int) := by have := (List.getElem?_eq_some_iff.1 Hlb.out).1; omega
        have Hels := Lib.hid hels
        clear hels
        rcases Nat.lt_or_ge z.k lb.length with hfl | hfl
        ·obtain ⟨e, he⟩ : ∃ e, lb[z.k]? = some e := ⟨_, List.getElem?_eq_getElem hfl⟩
         obtain rfl := haj (by omega)
         have hstar := (Hels.out z.k e he).1
         have hsa := starAt_get he
         have hfz : (z.k : Int) < (lb.length : Int) := by omega
         have hfb : (z.k : Int) + 1 < 100 := by have := HY.out.el lb (List.mem_of_getElem? Hlb.out); omega
         have Hsa := Lib.hid hsa
         clear hsa he haj
         cases hse : e.star with
         | false =>
          rw [hse] at hstar
          have HNS := Lib.hid (Hsa.out.trans hse)
          clear hse
          go_quiet (fail)
          have HD2 := Lib.hid (show ∀ lb', y[z.b]? = some lb' → starAt lb' z.k = true → Dom p { z with k := z.k + 1 } from fun lb' h1 h2 => by
           rw [Hlb.out] at h1
           obtain rfl := Option.some.inj h1
           exact absurd h2 (by rw [HNS.out]; simp))
          generalize hW7 : World.drewN W7 nq = W8
          have Hend := Lib.hid (And.intro (show PHas W8 (Value.slice (some ⟨g, 0, none⟩) P pc) p from by rw [← hW7]; exact HP7.out.below (drop_below (Below.refl _ _) _)) (show Below w.heap.size w W8 from by rw [← hW7]; exact drop_below Hb7.out _))
          clear hW7
          have Hca2 := Lib.hid (closed_step Hca.out Hz.out ⟨HD1.out, HD2.out⟩)
          have Hst := Lib.hid (Nat.lt_of_lt_of_le (clM_step (M := 18) (T := T) (o := p) (i := j) (by rw [allK18]; omega)) Hm.out)
          go_wp2
          go_roundg (clM 18 T p (j + 1))
          case measure => exact Hst.out
          case rel => exact ⟨j + 1, p, (Value.slice (some ⟨g, 0, none⟩) P pc), by rw [HP.out]; omega, rfl, rfl, Hend.out.1, Hcl.out, Hend.out.2, Hfr.out, Hca2.out, Nat.le_refl _⟩
         | true =>
          rw [hse] at hstar
          have Hsw := Lib.hid (show Snd x y { z with k := z.k + 1 } from snd_skip_k x y (Hcl.out.snd z Hzm.out) Hlb.out (Hsa.out.trans hse))
          clear hse
          go_quiet (fail)
          generalize hW2 : World.drewN W7 nq = W2
          have HE2 := Lib.hid (show BoxP W2 E z from by rw [← hW2]; exact HE7.out)
          have HP2 := Lib.hid (show PHas W2 (Value.slice (some ⟨g, 0, none⟩) P pc) p from by rw [← hW2]; exact HP7.out.below (drop_below (Below.refl _ _) _))
          have Hb2 := Lib.hid (show Below w.heap.size w W2 from by rw [← hW2]; exact drop_below Hb7.out _)
          clear hW2 c0 c1 c2 c3 hcx hstar
          have hbox := BoxP.new W2 z
          obtain ⟨F, hF⟩ : ∃ F, W2.heap.size = F := ⟨_, rfl⟩
          have hFb : w.heap.size ≤ F := by rw [← hF]; exact Hb2.out.size
          rw [hF] at hbox
          obtain ⟨c0, c1, c2, c3⟩ := hbox.cells
          have hfz2 := hbox.frozen 3
          have Hb4 := Lib.hid (show Below w.heap.size w (W2.alloc (.cells ((prC z).set 3 (.int .i64 ((z.k : Int) + 1))).toArray 96)) from Hb2.out.alloc Hb2.out.size _)
          have Hbb4 := Lib.hid (show Below W2.heap.size W2 (W2.alloc (.cells ((prC z).set 3 (.int .i64 ((z.k : Int) + 1))).toArray 96)) from (Below.refl _ W2).alloc (Nat.le_refl _) _)
          have HB4 := Lib.hid (show BoxP (W2.alloc (.cells ((prC z).set 3 (.int .i64 ((z.k : Int) + 1))).toArray 96)) F { z with k := z.k + 1 } from by
           have := BoxP.new W2 { z with k := z.k + 1 }
           rw [hF] at this
           exact this)
          clear hbox hFb
          go_wp2_with (first
           | (refine wpList_load_row rfl 96 _ rfl E rfl 96 (prC z).toArray (0, 0) _ HE2.out Tryd.underlying96 rfl info52c ?_)
           | (refine wpList_load_row rfl 96 _ rfl F rfl 96 (prC { z with k := z.k + 1 }).toArray (0, 0) _ HB4.out Tryd.underlying96 rfl info52c ?_)
           | (refine wpList_store_newF W2 F hF 96 _ (prC z).toArray rfl _ _ rfl rfl rfl info52c rfl (prC_one z) ?_))
          generalize W2.alloc (.cells ((prC z).set 3 (.int .i64 ((z.k : Int) + 1))).toArray 96) = W4 at *
          have HP5 := Lib.hid (HP2.out.below Hbb4.out)
          have HBE5 := Lib.hid (HE2.out.below Hbb4.out HE2.out.lt)
          have HB5 := HB4
          have Hb5 := Hb4
          obtain ⟨R, hR⟩ : ∃ R, betterP p { z with k := z.k + 1 } = R := ⟨_, rfl⟩
          have hcallb : Calls Tryd.prog 77 #[(Value.slice (some ⟨g, 0, none⟩) P pc), Value.agg (prC { z with k := z.k + 1 }).toArray] W4 (Bel (.bool R) W4) := by
           rw [← hR]
           exact Hbet.out p { z with k := z.k + 1 } _ W4 Hol.out HP5.out
          refine hcallb.mono ?_
          clear hcallb hF HB4 Hb4 Hbb4 c0 c1 c2 c3 hfz2 HP2 HE2 Hb2
          rintro e W5 ⟨rfl, hb5⟩
          cases R with
          | true =>
           have HBt := Lib.hid hR
           clear hR
           have HB6 := Lib.hid (HB5.out.below hb5 HB5.out.lt)
           go_wp2_with (refine wpList_load_row rfl 96 _ rfl F rfl 96 (prC { z with k := z.k + 1 }).toArray (0, 0) _ HB6.out Tryd.underlying96 rfl info52c ?_)
           have hcall : Calls Tryd.prog 53 #[(Value.slice (some ⟨g, 0, none⟩) P pc), Value.agg (prC { z with k := z.k + 1 }).toArray] W5 (PutPost p { z with k := z.k + 1 } (Value.slice (some ⟨g, 0, none⟩) P pc) W5) := Hput.out p { z with k := z.k + 1 } (Value.slice (some ⟨g, 0, none⟩) P pc) W5 Hol.out Hcl.out.li (HTl.out _ (Hcl.out.txt z Hzm.out)) (HP5.out.below hb5)
           refine hcall.mono ?_
           clear hcall
           rintro e W6 ⟨v1, rfl, hp6, hb6, hf6⟩
           have Hnew := Lib.hid (And.intro hp6 (And.intro (Hcl.out.put (w := { z with k := z.k + 1 }) (HTl.out _ (Hcl.out.txt z Hzm.out)) Hsw.out (Hcl.out.txt z Hzm.out)) (And.intro ((Hb5.out.trans (hb5.mono Hb5.out.size)).trans (hb6.mono (Nat.le_trans Hb5.out.size hb5.size))) (And.intro (show ∀ b, v1.ownBlock = some b → w.heap.size ≤ b from fun b hb => by
            rcases hf6 with rfl | h
            ·exact Hfr.out b hb
            ·exact Nat.le_trans (Nat.le_trans Hb5.out.size hb5.size) (h b hb)) (Nat.lt_of_lt_of_le (clM_put (w := { z with k := z.k + 1 }) HX.out HY.out Hcl.out HTl.out Hsw.out (Hcl.out.txt z Hzm.out) HBt.out j (by rw [allK18]; omega)) Hm.out)))))
           clear hp6 hb6 hf6 hb5
           go_wp2
           go_roundg (clM 18 T (putP p { z with k := z.k + 1 }) 0)
           case measure => exact Hnew.out.2.2.2.2
           case rel => exact ⟨0, putP p { z with k := z.k + 1 }, v1, Nat.zero_le _, rfl, rfl, Hnew.out.1, Hnew.out.2.1, Hnew.out.2.2.1, Hnew.out.2.2.2.1, fun j u h => by omega, Nat.le_refl _⟩
          | false =>
           have HBt := Lib.hid hR
           clear hR
           have HD2 := Lib.hid (show ∀ lb', y[z.b]? = some lb' → starAt lb' z.k = true → Dom p { z with k := z.k + 1 } from fun _ _ _ => dom_of_not_better Hcl.out.li (HTl.out _ (Hcl.out.txt z Hzm.out)) HBt.out)
           have Hend := Lib.hid (And.intro (HP5.out.below hb5) (Hb5.out.trans (hb5.mono Hb5.out.size)))
           clear hb5
           have Hca2 := Lib.hid (closed_step Hca.out Hz.out ⟨HD1.out, HD2.out⟩)
           have Hst := Lib.hid (Nat.lt_of_lt_of_le (clM_step (M := 18) (T := T) (o := p) (i := j) (by rw [allK18]; omega)) Hm.out)
           go_wp2
           go_roundg (clM 18 T p (j + 1))
           case measure => exact Hst.out
           case rel => exact ⟨j + 1, p, (Value.slice (some ⟨g, 0, none⟩) P pc), by rw [HP.out]; omega, rfl, rfl, Hend.out.1, Hcl.out, Hend.out.2, Hfr.out, Hca2.out, Nat.le_refl _⟩
        ·have HNS := Lib.hid (show starAt lb z.k = false from by unfold starAt; rw [List.getElem?_eq_none hfl]; rfl)
         have hfz : ¬ (z.k : Int) < (lb.length : Int) := by omega
         go_quiet (fail)
         have HD2 := Lib.hid (show ∀ lb', y[z.b]? = some lb' → starAt lb' z.k = true → Dom p { z with k := z.k + 1 } from fun lb' h1 h2 => by
          rw [Hlb.out] at h1
          obtain rfl := Option.some.inj h1
          exact absurd h2 (by rw [HNS.out]; simp))
         generalize hW7 : World.drewN W7 nq = W8
         have Hend := Lib.hid (And.intro (show PHas W8 (Value.slice (some ⟨g, 0, none⟩) P pc) p from by rw [← hW7]; exact HP7.out.below (drop_below (Below.refl _ _) _)) (show Below w.heap.size w W8 from by rw [← hW7]; exact drop_below Hb7.out _))
         clear hW7
         have Hca2 := Lib.hid (closed_step Hca.out Hz.out ⟨HD1.out, HD2.out⟩)
         have Hst := Lib.hid (Nat.lt_of_lt_of_le (clM_step (M := 18) (T := T) (o := p) (i := j) (by rw [allK18]; omega)) Hm.out)
         go_wp2
         go_roundg (clM 18 T p (j + 1))
         case measure => exact Hst.out
         case rel => exact ⟨j + 1, p, (Value.slice (some ⟨g, 0, none⟩) P pc), by rw [HP.out]; omega, rfl, rfl, Hend.out.1, Hcl.out, Hend.out.2, Hfr.out, Hca2.out, Nat.le_refl _⟩
     ·have HNS := Lib.hid (show starAt la z.i = false from by unfold starAt; rw [List.getElem?_eq_none hfl]; rfl)
      have hfz : ¬ (z.i : Int) < (la.length : Int) := by omega
      go_quiet (fail)
      have HD1 := Lib.hid (show ∀ la', x[z.a]? = some la' → starAt la' z.i = true → Dom p { z with i := z.i + 1 } from fun la' h1 h2 => by
       rw [Hla.out] at h1
       obtain rfl := Option.some.inj h1
       exact absurd h2 (by rw [HNS.out]; simp))
      generalize hW7 : World.drewN W1 nq = W7
      have HE7 := Lib.hid (show BoxP W7 E z from by rw [← hW7]; exact HE1.out)
      have HP7 := Lib.hid (show PHas W7 (Value.slice (some ⟨g, 0, none⟩) P pc) p from by rw [← hW7]; exact HP1.out.below (drop_below (Below.refl _ _) _))
      have Hb7 := Lib.hid (show Below w.heap.size w W7 from by rw [← hW7]; exact drop_below Hb1.out _)
      clear hW7
      go_wp2
      obtain ⟨aj, cj, gj, hcx, haj, hels⟩ := alt_cell HAy.out Hb7.out Hlb.out
      obtain ⟨c0, c1, c2, c3⟩ := HE7.out.cells
      have hzx : (z.b : Int) < (y.length : Int) := by have := (List.getElem?_eq_some_iff.1 Hlb.out).1; omega
      have Hels := Lib.hid hels
      clear hels
      rcases Nat.lt_or_ge z.k lb.length with hfl | hfl
      ·obtain ⟨e, he⟩ : ∃ e, lb[z.k]? = some e := ⟨_, List.getElem?_eq_getElem hfl⟩
       obtain rfl := haj (by omega)
       have hstar := (Hels.out z.k e he).1
       have hsa := starAt_get he
       have hfz : (z.k : Int) < (lb.length : Int) := by omega
       have hfb : (z.k : Int) + 1 < 100 := by have := HY.out.el lb (List.mem_of_getElem? Hlb.out); omega
       have Hsa := Lib.hid hsa
       clear hsa he haj
       cases hse : e.star with
       | false =>
        rw [hse] at hstar
        have HNS := Lib.hid (Hsa.out.trans hse)
        clear hse
        go_quiet (fail)
        have HD2 := Lib.hid (show ∀ lb', y[z.b]? = some lb' → starAt lb' z.k = true → Dom p { z with k := z.k + 1 } from fun lb' h1 h2 => by
         rw [Hlb.out] at h1
         obtain rfl := Option.some.inj h1
         exact absurd h2 (by rw [HNS.out]; simp))
        generalize hW7 : World.drewN W7 nq = W8
        have Hend := Lib.hid (And.intro (show PHas W8 (Value.slice (some ⟨g, 0, none⟩) P pc) p from by rw [← hW7]; exact HP7.out.below (drop_below (Below.refl _ _) _)) (show Below w.heap.size w W8 from by rw [← hW7]; exact drop_below Hb7.out _))
        clear hW7
        have Hca2 := Lib.hid (closed_step Hca.out Hz.out ⟨HD1.out, HD2.out⟩)
        have Hst := Lib.hid (Nat.lt_of_lt_of_le (clM_step (M := 18) (T := T) (o := p) (i := j) (by rw [allK18]; omega)) Hm.out)
        go_wp2
        go_roundg (clM 18 T p (j + 1))
        case measure => exact Hst.out
        case rel => exact ⟨j + 1, p, (Value.slice (some ⟨g, 0, none⟩) P pc), by rw [HP.out]; omega, rfl, rfl, Hend.out.1, Hcl.out, Hend.out.2, Hfr.out, Hca2.out, Nat.le_refl _⟩
       | true =>
        rw [hse] at hstar
        have Hsw := Lib.hid (show Snd x y { z with k := z.k + 1 } from snd_skip_k x y (Hcl.out.snd z Hzm.out) Hlb.out (Hsa.out.trans hse))
        clear hse
        go_quiet (fail)
        generalize hW2 : World.drewN W7 nq = W2
        have HE2 := Lib.hid (show BoxP W2 E z from by rw [← hW2]; exact HE7.out)
        have HP2 := Lib.hid (show PHas W2 (Value.slice (some ⟨g, 0, none⟩) P pc) p from by rw [← hW2]; exact HP7.out.below (drop_below (Below.refl _ _) _))
        have Hb2 := Lib.hid (show Below w.heap.size w W2 from by rw [← hW2]; exact drop_below Hb7.out _)
        clear hW2 c0 c1 c2 c3 hcx hstar
        have hbox := BoxP.new W2 z
        obtain ⟨F, hF⟩ : ∃ F, W2.heap.size = F := ⟨_, rfl⟩
        have hFb : w.heap.size ≤ F := by rw [← hF]; exact Hb2.out.size
        rw [hF] at hbox
        obtain ⟨c0, c1, c2, c3⟩ := hbox.cells
        have hfz2 := hbox.frozen 3
        have Hb4 := Lib.hid (show Below w.heap.size w (W2.alloc (.cells ((prC z).set 3 (.int .i64 ((z.k : Int) + 1))).toArray 96)) from Hb2.out.alloc Hb2.out.size _)
        have Hbb4 := Lib.hid (show Below W2.heap.size W2 (W2.alloc (.cells ((prC z).set 3 (.int .i64 ((z.k : Int) + 1))).toArray 96)) from (Below.refl _ W2).alloc (Nat.le_refl _) _)
        have HB4 := Lib.hid (show BoxP (W2.alloc (.cells ((prC z).set 3 (.int .i64 ((z.k : Int) + 1))).toArray 96)) F { z with k := z.k + 1 } from by
         have := BoxP.new W2 { z with k := z.k + 1 }
         rw [hF] at this
         exact this)
        clear hbox hFb
        go_wp2_with (first
         | (refine wpList_load_row rfl 96 _ rfl E rfl 96 (prC z).toArray (0, 0) _ HE2.out Tryd.underlying96 rfl info52c ?_)
         | (refine wpList_load_row rfl 96 _ rfl F rfl 96 (prC { z with k := z.k + 1 }).toArray (0, 0) _ HB4.out Tryd.underlying96 rfl info52c ?_)
         | (refine wpList_store_newF W2 F hF 96 _ (prC z).toArray rfl _ _ rfl rfl rfl info52c rfl (prC_one z) ?_))
        generalize W2.alloc (.cells ((prC z).set 3 (.int .i64 ((z.k : Int) + 1))).toArray 96) = W4 at *
        have HP5 := Lib.hid (HP2.out.below Hbb4.out)
        have HBE5 := Lib.hid (HE2.out.below Hbb4.out HE2.out.lt)
        have HB5 := HB4
        have Hb5 := Hb4
        obtain ⟨R, hR⟩ : ∃ R, betterP p { z with k := z.k + 1 } = R := ⟨_, rfl⟩
        have hcallb : Calls Tryd.prog 77 #[(Value.slice (some ⟨g, 0, none⟩) P pc), Value.agg (prC { z with k := z.k + 1 }).toArray] W4 (Bel (.bool R) W4) := by
         rw [← hR]
         exact Hbet.out p { z with k := z.k + 1 } _ W4 Hol.out HP5.out
        refine hcallb.mono ?_
        clear hcallb hF HB4 Hb4 Hbb4 c0 c1 c2 c3 hfz2 HP2 HE2 Hb2
        rintro e W5 ⟨rfl, hb5⟩
        cases R with
        | true =>
         have HBt := Lib.hid hR
         clear hR
         have HB6 := Lib.hid (HB5.out.below hb5 HB5.out.lt)
         go_wp2_with (refine wpList_load_row rfl 96 _ rfl F rfl 96 (prC { z with k := z.k + 1 }).toArray (0, 0) _ HB6.out Tryd.underlying96 rfl info52c ?_)
         have hcall : Calls Tryd.prog 53 #[(Value.slice (some ⟨g, 0, none⟩) P pc), Value.agg (prC { z with k := z.k + 1 }).toArray] W5 (PutPost p { z with k := z.k + 1 } (Value.slice (some ⟨g, 0, none⟩) P pc) W5) := Hput.out p { z with k := z.k + 1 } (Value.slice (some ⟨g, 0, none⟩) P pc) W5 Hol.out Hcl.out.li (HTl.out _ (Hcl.out.txt z Hzm.out)) (HP5.out.below hb5)
         refine hcall.mono ?_
         clear hcall
         rintro e W6 ⟨v1, rfl, hp6, hb6, hf6⟩
         have Hnew := Lib.hid (And.intro hp6 (And.intro (Hcl.out.put (w := { z with k := z.k + 1 }) (HTl.out _ (Hcl.out.txt z Hzm.out)) Hsw.out (Hcl.out.txt z Hzm.out)) (And.intro ((Hb5.out.trans (hb5.mono Hb5.out.size)).trans (hb6.mono (Nat.le_trans Hb5.out.size hb5.size))) (And.intro (show ∀ b, v1.ownBlock = some b → w.heap.size ≤ b from fun b hb => by
          rcases hf6 with rfl | h
          ·exact Hfr.out b hb
          ·exact Nat.le_trans (Nat.le_trans Hb5.out.size hb5.size) (h b hb)) (Nat.lt_of_lt_of_le (clM_put (w := { z with k := z.k + 1 }) HX.out HY.out Hcl.out HTl.out Hsw.out (Hcl.out.txt z Hzm.out) HBt.out j (by rw [allK18]; omega)) Hm.out)))))
         clear hp6 hb6 hf6 hb5
         go_wp2
         go_roundg (clM 18 T (putP p { z with k := z.k + 1 }) 0)
         case measure => exact Hnew.out.2.2.2.2
         case rel => exact ⟨0, putP p { z with k := z.k + 1 }, v1, Nat.zero_le _, rfl, rfl, Hnew.out.1, Hnew.out.2.1, Hnew.out.2.2.1, Hnew.out.2.2.2.1, fun j u h => by omega, Nat.le_refl _⟩
        | false =>
         have HBt := Lib.hid hR
         clear hR
         have HD2 := Lib.hid (show ∀ lb', y[z.b]? = some lb' → starAt lb' z.k = true → Dom p { z with k := z.k + 1 } from fun _ _ _ => dom_of_not_better Hcl.out.li (HTl.out _ (Hcl.out.txt z Hzm.out)) HBt.out)
         have Hend := Lib.hid (And.intro (HP5.out.below hb5) (Hb5.out.trans (hb5.mono Hb5.out.size)))
         clear hb5
         have Hca2 := Lib.hid (closed_step Hca.out Hz.out ⟨HD1.out, HD2.out⟩)
         have Hst := Lib.hid (Nat.lt_of_lt_of_le (clM_step (M := 18) (T := T) (o := p) (i := j) (by rw [allK18]; omega)) Hm.out)
         go_wp2
         go_roundg (clM 18 T p (j + 1))
         case measure => exact Hst.out
         case rel => exact ⟨j + 1, p, (Value.slice (some ⟨g, 0, none⟩) P pc), by rw [HP.out]; omega, rfl, rfl, Hend.out.1, Hcl.out, Hend.out.2, Hfr.out, Hca2.out, Nat.le_refl _⟩
      ·have HNS := Lib.hid (show starAt lb z.k = false from by unfold starAt; rw [List.getElem?_eq_none hfl]; rfl)
       have hfz : ¬ (z.k : Int) < (lb.length : Int) := by omega
       go_quiet (fail)
       have HD2 := Lib.hid (show ∀ lb', y[z.b]? = some lb' → starAt lb' z.k = true → Dom p { z with k := z.k + 1 } from fun lb' h1 h2 => by
        rw [Hlb.out] at h1
        obtain rfl := Option.some.inj h1
        exact absurd h2 (by rw [HNS.out]; simp))
       generalize hW7 : World.drewN W7 nq = W8
       have Hend := Lib.hid (And.intro (show PHas W8 (Value.slice (some ⟨g, 0, none⟩) P pc) p from by rw [← hW7]; exact HP7.out.below (drop_below (Below.refl _ _) _)) (show Below w.heap.size w W8 from by rw [← hW7]; exact drop_below Hb7.out _))
       clear hW7
       have Hca2 := Lib.hid (closed_step Hca.out Hz.out ⟨HD1.out, HD2.out⟩)
       have Hst := Lib.hid (Nat.lt_of_lt_of_le (clM_step (M := 18) (T := T) (o := p) (i := j) (by rw [allK18]; omega)) Hm.out)
       go_wp2
       go_roundg (clM 18 T p (j + 1))
       case measure => exact Hst.out
       case rel => exact ⟨j + 1, p, (Value.slice (some ⟨g, 0, none⟩) P pc), by rw [HP.out]; omega, rfl, rfl, Hend.out.1, Hcl.out, Hend.out.2, Hfr.out, Hca2.out, Nat.le_refl _⟩
    ·obtain rfl : j = P := by omega
     have hfin : Closing x y n l p := ⟨Hcl.out.li, Hcl.out.snd, Hcl.out.dom, closed_all (by rw [HP.out]; exact Hca.out)⟩
     have Hfin := Lib.hid hfin
     clear hfin
     go_wp2
     go_ret
     exact ⟨_, p, rfl, HPr.out, Hb.out, Hfin.out, Hfr.out⟩
end Go.Proofs.YtdlchlbngojljaaDoor.Gl
