/- advance: the least byte with which a shortest text goes on. advance: the walk. -/
import Derived.Test.YtdlchlbngojljaaDoorPGz
namespace Go.Proofs.YtdlchlbngojljaaDoor.Gl
open Go.RowKit Go.Maps
/-- While the front is gone through. -/
structure AInv (K : SK) (a b : List El) (S : List (Nat × Nat)) (C : Nat) (w : World) (R : List (Nat × Nat)) (v : Value) (W : World) : Prop where
 s : SAt K a b W
 m : LenMap K a b W
 n : SeenMap K a b S W
 row : W.ownsRow C 132 2 v R.length (pairsV R)
 fr : Fr (fun k => k = K.M1 ∨ C ≤ k) w W
 lb : C ≤ w.heap.size
theorem AInv.next {K : SK} {a b : List El} (hA : Apart K a b) {S : List (Nat × Nat)} {C : Nat} (hL : Low K a b C) {w : World} {R R' : List (Nat × Nat)} {v v' : Value} {W W' : World} (h : AInv K a b S C w R v W) (hf : Fr (fun k => k = K.M1 ∨ C ≤ k) W W') (hm : LenMap K a b W') (hr : W'.ownsRow C 132 2 v' R'.length (pairsV R')) : AInv K a b S C w R' v' W' := by
 have hx : ∀ x, x < C → x ≠ K.M1 → ¬ (x = K.M1 ∨ C ≤ x) := fun x h1 h2 => by
  rintro (h3 | h3)
  ·exact h2 h3
  ·omega
 exact ⟨h.s.fr hf (hx _ hL.s hA.s1) (fun h0 => hx _ (hL.a h0) (hA.a1 h0)) (fun h0 => hx _ (hL.b h0) (hA.b1 h0)) (hx _ hL.t hA.t1), hm, h.n.kept (hf.block _ h.n.lt (hx _ hL.m2 (fun e => hA.m e.symm))), hr, h.fr.trans hf, h.lb⟩
theorem AInv.below {K : SK} {a b : List El} (hA : Apart K a b) {S : List (Nat × Nat)} {C : Nat} (hL : Low K a b C) {w : World} {R : List (Nat × Nat)} {v : Value} {W W' : World} (h : AInv K a b S C w R v W) (hb : Below W.heap.size W W') : AInv K a b S C w R v W' :=
 h.next hA hL (Fr.of_below hb) (h.m.below hb) (ownsRow_below h.row hb)
theorem AInv.alloc {K : SK} {a b : List El} (hA : Apart K a b) {S : List (Nat × Nat)} {C : Nat} (hL : Low K a b C) {w : World} {R : List (Nat × Nat)} {v : Value} {W : World} (h : AInv K a b S C w R v W) (o : Obj) : AInv K a b S C w R v (W.alloc o) := h.below hA hL ((Below.refl _ _).alloc (Nat.le_refl _) o)
theorem AInv.length {K : SK} {a b : List El} (hA : Apart K a b) {S : List (Nat × Nat)} {C : Nat} (hL : Low K a b C) {w : World} {R : List (Nat × Nat)} {v : Value} {W W' : World} (h : AInv K a b S C w R v W) (hf : Fr (· = K.M1) W W') (hm : LenMap K a b W') : AInv K a b S C w R v W' :=
 h.next hA hL (hf.mono fun x _ e => Or.inl e) hm (row_fr h.row hf fun g hg e => by have := (h.row.lt g hg).1; have := hL.m1; omega)
theorem AInv.append {K : SK} {a b : List El} (hA : Apart K a b) {S : List (Nat × Nat)} {C : Nat} (hL : Low K a b C) {w : World} {R : List (Nat × Nat)} {v v' : Value} {W w1 : World} {tmp : Obj} {z : Nat × Nat} (h : AInv K a b S C w R v W)
  (hown : w1.ownsRow C 132 2 v' (R.length + 1) (pairsV R ++ [.int .i64 (z.1 : Int), .int .i64 (z.2 : Int)])) (hg : (W.alloc tmp).grownBy w1 v.ownBlock) : AInv K a b S C w (R ++ [z]) v' w1 := by
 have hf : Fr (fun k => k = K.M1 ∨ C ≤ k) W w1 := (Fr.of_below ((Below.refl _ W).alloc (Nat.le_refl _) tmp)).trans (Fr.of_grown hg fun x hx => Or.inr (h.row.lt x hx).1)
 have hm1 : v.ownBlock ≠ some K.M1 := fun e => by have := (h.row.lt _ e).1; have := hL.m1; omega
 have hb1 := h.m.lt
 refine h.next hA hL hf (h.m.kept ?_) (by rw [List.length_append, pairsV_snoc]; exact hown)
 rw [hg.block _ (by simp; omega) (fun e => hm1 e.symm)]
 exact Below.heap_alloc _ _ _ hb1
theorem AInv.empty {K : SK} {a b : List El} {S : List (Nat × Nat)} {C : Nat} {w : World} {R : List (Nat × Nat)} {v : Value} {W : World} (h : AInv K a b S C w R v W) : AInv K a b S C w [] (.slice none 0 0) W := ⟨h.s, h.m, h.n, World.ownsRow_nil _ _ _ _, h.fr, h.lb⟩
/-- The row of the front. -/
def FrontAt (w : World) (C : Nat) (v : Value) (F : List (Nat × Nat)) : Prop := ∃ a cap g, v = .slice a F.length cap ∧ (0 < F.length → a = some ⟨g, 0, none⟩ ∧ g < C) ∧ ∀ (j : Nat) (z : Nat × Nat), F[j]? = some z → w.cell? ⟨g, j * 2, none⟩ = some (.int .i64 (z.1 : Int)) ∧ w.cell? ⟨g, j * 2 + 1, none⟩ = some (.int .i64 (z.2 : Int))
theorem frontAt_of {w : World} {B : Nat} {v : Value} {F : List (Nat × Nat)} (h : w.ownsRow B 132 2 v F.length (pairsV F)) : FrontAt w w.heap.size v F := by
 rcases h.2 with ⟨rfl, h0⟩ | ⟨g, cap, cur, rfl, hB, hg, _⟩
 ·refine ⟨none, 0, 0, by rw [h0], fun h => by omega, ?_⟩
  have : F = [] := List.length_eq_zero_iff.1 h0
  subst this
  intro j z hz
  simp at hz
 ·refine ⟨some ⟨g, 0, none⟩, cap, g, rfl, fun _ => ⟨rfl, (Array.getElem?_eq_some_iff.1 hg).1⟩, fun j z hz => ?_⟩
  have hl := (List.getElem?_eq_some_iff.1 hz).1
  obtain ⟨h1, h2⟩ := pairsV_get F j z hz
  exact ⟨(h.cellAt (j * 2) (by omega)).trans h1, (h.cellAt (j * 2 + 1) (by omega)).trans h2⟩
def APost (K : SK) (a b : List El) (S : List (Nat × Nat)) (C left : Nat) (F : List (Nat × Nat)) (w : World) (e : Ending) (w' : World) : Prop :=
 ∃ v, e = .returned (.tuple #[.int .u8 ((advB a b left F).1.toNat : Int), v]) ∧ AInv K a b S C w (advB a b left F).2 v w'
theorem advB_take {a b : List El} {left : Nat} {F : List (Nat × Nat)} {j : Nat} {z : Nat × Nat} (h : F[j]? = some z) : advB a b left (F.take (j + 1)) = advStep a b left (advB a b left (F.take j)) z := by
 unfold advB
 rw [List.take_add_one, h, List.foldl_append]
 rfl
theorem advB_len (a b : List El) (left : Nat) (F : List (Nat × Nat)) : (advB a b left F).2.length ≤ F.length := by
 have key : ∀ (r : List (Nat × Nat)) (st : UInt8 × List (Nat × Nat)), (r.foldl (advStep a b left) st).2.length ≤ st.2.length + r.length := by
  intro r
  induction r with
  | nil => intro st; simp
  | cons z r ih =>
   intro st
   rw [List.foldl_cons]
   refine Nat.le_trans (ih _) ?_
   have : (advStep a b left st z).2.length ≤ st.2.length + 1 := by
    unfold advStep
    split
    ·omega
    ·split
     ·omega
     ·split
      ·simp
      ·simp
   simp only [List.length_cons]
   omega
 have := key F (0, [])
 simpa [advB] using this
theorem advStep_none {a b : List El} {left : Nat} {st : UInt8 × List (Nat × Nat)} {z : Nat × Nat} (h : stepP a b z.1 z.2 = none) : advStep a b left st z = st := by unfold advStep; rw [h]
theorem advStep_skip {a b : List El} {left : Nat} {st : UInt8 × List (Nat × Nat)} {z : Nat × Nat} {c : UInt8} {i k : Nat} (h : stepP a b z.1 z.2 = some (c, i, k)) (hs : lenP a b i k ≠ left ∨ (st.2 ≠ [] ∧ st.1.toNat < c.toNat)) : advStep a b left st z = st := by unfold advStep; rw [h]; simp only; rw [if_pos hs]
theorem advStep_same {a b : List El} {left : Nat} {st : UInt8 × List (Nat × Nat)} {z : Nat × Nat} {i k : Nat} (h : stepP a b z.1 z.2 = some (st.1, i, k)) (hl : lenP a b i k = left) : advStep a b left st z = (st.1, st.2 ++ [(i, k)]) := by
 unfold advStep; rw [h]; simp only; rw [if_neg (by rw [not_or]; exact ⟨fun h' => h' hl, fun h' => by omega⟩), if_pos trivial]
theorem advStep_new {a b : List El} {left : Nat} {st : UInt8 × List (Nat × Nat)} {z : Nat × Nat} {c : UInt8} {i k : Nat} (h : stepP a b z.1 z.2 = some (c, i, k)) (hl : lenP a b i k = left) (hn : ¬ (st.2 ≠ [] ∧ st.1.toNat < c.toNat)) (hc : c ≠ st.1) : advStep a b left st z = (c, [(i, k)]) := by
 unfold advStep; rw [h]; simp only; rw [if_neg (by rw [not_or]; exact ⟨fun h' => h' hl, hn⟩), if_neg hc]
end Go.Proofs.YtdlchlbngojljaaDoor.Gl
namespace Go.Proofs.YtdlchlbngojljaaDoor.Gl
open Go.RowKit Go.Maps
theorem cell_not_map {w : World} {M : Nat} {es : Array MapEntry} {cl : Nat} (hm : w.heap[M]? = some (.map es cl)) {p : Addr} {v : Value} (h : w.cell? p = some v) : p.block ≠ M := by
 intro e
 obtain ⟨bl, off, sp⟩ := p
 simp only at e
 subst e
 unfold World.cell? at h
 simp only [hm] at h
 simp at h
theorem row_len {w : World} {B : Nat} {t : TypeId} {k n : Nat} {v : Value} {xs : List Value} (h : w.ownsRow B t k v n xs) : ∃ a cap, v = .slice a n cap := by
 rcases h.2 with ⟨rfl, rfl⟩ | ⟨g, cap, cur, rfl, _⟩
 ·exact ⟨none, 0, rfl⟩
 ·exact ⟨_, cap, rfl⟩
set_option maxHeartbeats 1000000 in
set_option maxRecDepth 100000 in
theorem advance_any (K : SK) (a b : List El) (C left : Nat) (w : World) (S F : List (Nat × Nat)) (v : Value) (hA : Apart K a b) (hL : Low K a b C) (hs : SAt K a b w) (hm : LenMap K a b w) (hn : SeenMap K a b S w) (hC : C = w.heap.size) (hr : FrontAt w w.heap.size v F) (hF : ∀ z ∈ F, z.1 ≤ a.length ∧ z.2 ≤ b.length) (hFl : F.length ≤ 16785409) (hal : a.length ≤ 4096) (hbl : b.length ≤ 4096) (hleft : left ≤ 1073741824) :
  Calls Tryd.prog 75 #[.pointer (some ⟨K.Sb, 0, none⟩), v, .int .i64 left] w (APost K a b S C left F w) := by
 obtain ⟨i0, hi0, hz0, hz1, hz2⟩ := info_parts info83b
 obtain ⟨fa, fcap, fg, rfl, hfa, hrows⟩ := hr
 have hst : AInv K a b S C w [] (.slice none 0 0) w := ⟨hs, hm, hn, World.ownsRow_nil _ _ _ _, Fr.refl _ _, by omega⟩
 have hrowC : ∀ (W : World), Fr (fun k => k = K.M1 ∨ C ≤ k) w W → ∀ (j : Nat) (z : Nat × Nat), F[j]? = some z → W.cell? ⟨fg, j * 2, none⟩ = some (.int .i64 (z.1 : Int)) ∧ W.cell? ⟨fg, j * 2 + 1, none⟩ = some (.int .i64 (z.2 : Int)) := fun W hf j z hz => by
  obtain ⟨h1, h2⟩ := hrows j z hz
  have hl := (List.getElem?_eq_some_iff.1 hz).1
  have hg := (hfa (by omega)).2
  obtain ⟨S', D', hmm⟩ := hm
  obtain ⟨es, cl, hmap, _⟩ := hmm.own
  have hne : fg ≠ K.M1 := cell_not_map hmap h1
  have hx : ¬ (fg = K.M1 ∨ C ≤ fg) := by
   rintro (h3 | h3)
   ·exact hne h3
   ·omega
  exact ⟨(hf.cell (p := ⟨fg, j * 2, none⟩) hg hx).trans h1, (hf.cell (p := ⟨fg, j * 2 + 1, none⟩) hg hx).trans h2⟩
 obtain ⟨N, hN⟩ : ∃ N, F.length = N := ⟨_, rfl⟩
 have Hst := Lib.hid hst
 have Hrow := Lib.hid hrowC
 have HA := Lib.hid hA
 have HL := Lib.hid hL
 have HF := Lib.hid hF
 have HN := Lib.hid hN
 have Hfa := Lib.hid (fun (h : 0 < F.length) => (hfa h).1)
 have hNi : (N : Int) ≤ 16785409 := by omega
 have hlefti : (left : Int) ≤ 1073741824 := by omega
 have Hadv := Lib.hid (fun j => advB_len a b left (F.take j))
 clear hst hrowC hA hL hs hm hn hC hrows hfa hF
 rw [hN]
 clear hN hFl
 go_enter Tryd.func75, Tryd.ntmps75
 go_wp2
 go_loopw [8, 9, 17] (fun s8 s9 s17 wx => ∃ (j : Nat) (vr : Value), j ≤ N ∧ s17 = .int .i64 j ∧ s8 = .int .u8 ((advB a b left (F.take j)).1.toNat : Int) ∧ s9 = vr ∧ AInv K a b S C w (advB a b left (F.take j)).2 vr wx) (fun _ _ s17 _ => N - (intOf s17).toNat)
 case atStart => exact ⟨0, _, by omega, rfl, rfl, rfl, Hst.out⟩
 case round =>
  obtain ⟨j, vr, hj, rfl, rfl, rfl, hinv⟩ := hrel
  have Hinv := Lib.hid hinv
  clear hinv
  by_cases hlt : (j : Int) < (N : Int)
  ·obtain ⟨z, hz⟩ : ∃ z, F[j]? = some z := ⟨F[j]'(by rw [HN.out]; omega), List.getElem?_eq_getElem _⟩
   obtain rfl := Hfa.out (by rw [HN.out]; omega)
   obtain ⟨hzi, hzk⟩ := HF.out z (List.mem_of_getElem? hz)
   obtain ⟨c0, c1⟩ := Hrow.out _ Hinv.out.fr j z hz
   have hnext := advB_take (a := a) (b := b) (left := left) hz
   have hlen := Hadv.out j
   have htl : (F.take j).length ≤ N := by rw [List.length_take, HN.out]; exact Nat.min_le_right _ _
   obtain ⟨x, y⟩ := z
   simp only at hzi hzk c0 c1
   obtain ⟨st, hst⟩ : ∃ st, advB a b left (F.take j) = st := ⟨_, rfl⟩
   rw [hst] at hnext hlen Hinv ⊢
   obtain ⟨lb, R⟩ := st
   simp only at hnext hlen Hinv ⊢
   have L1 := Lib.hid (Hinv.out.alloc HA.out HL.out (.cells #[.int .i64 (x : Int), .int .i64 (y : Int)] 132))
   obtain ⟨ra, rcap, hrv⟩ := row_len Hinv.out.row
   subst hrv
   have hlbi : (lb.toNat : Int) < 256 := by have := UInt8.toNat_lt lb; omega
   have hRi : (R.length : Int) ≤ 16785409 := by omega
   have hxi : (x : Int) ≤ 4096 := by omega
   have hyi : (y : Int) ≤ 4096 := by omega
   cases hsp : stepP a b x y with
   | none =>
    have Hstep := Lib.hid (fun W (h : SAt K a b W) => step_none h hzi hzk hal hbl hsp)
    rw [advStep_none hsp] at hnext
    have Hnext := Lib.hid hnext
    clear hnext hz hsp hst Hinv
    go_wp2_with fail
    refine (Hstep.out _ L1.out.s).mono ?_
    rintro e W2 ⟨x5, y5, c5, rfl, hb2⟩
    have L2 := Lib.hid ((L1.out.below HA.out HL.out hb2).alloc HA.out HL.out (.cells #[.int .i64 x5, .int .i64 y5] 132))
    clear hb2 L1
    go_wp2
    exact ⟨⟨j + 1, _, by omega, rfl, by rw [Hnext.out], rfl, by rw [Hnext.out]; exact L2.out⟩, by simp [intOf]; omega⟩
   | some t =>
    obtain ⟨c, i', k'⟩ := t
    have hspc := stepP_spec a b hsp
    have Hstep := Lib.hid (fun W (h : SAt K a b W) => step_some h hzi hzk hal hbl hsp)
    have Hlen := Lib.hid (fun W (h1 : SAt K a b W) (h2 : LenMap K a b W) => length_any K a b i' k' W HA.out h1 h2 hspc.2.2.2.2.1 hspc.2.2.2.2.2.1 hal hbl i' k' rfl rfl)
    have hci : (c.toNat : Int) < 256 := by have := UInt8.toNat_lt c; omega
    have hle := lenP_le_never a b i' k'
    unfold never at hle
    by_cases hL : lenP a b i' k' = left
    ·have hq : (((lenP a b i' k' : Nat) : Int) != (left : Int)) = false := by rw [hL]; simp
     by_cases hR : R = []
     ·subst hR
      have hR0 : ¬ (([] : List (Nat × Nat)).length : Int) > 0 := by simp
      by_cases hc : c = lb
      ·subst hc
       rw [advStep_same hsp hL] at hnext
       have hcc : ((c.toNat : Int) != (c.toNat : Int)) = false := by simp
       have Hnext := Lib.hid hnext
       clear hnext hz hsp hst Hinv hspc
       go_wp2_with fail
       refine (Hstep.out _ L1.out.s).mono ?_
       rintro e W2 ⟨rfl, hb2⟩
       have hszC : C ≤ W2.heap.size := Nat.le_trans L1.out.lb (Nat.le_trans L1.out.fr.size hb2.size)
       have L2 := Lib.hid ((L1.out.below HA.out HL.out hb2).alloc HA.out HL.out (.cells #[.int .i64 (i' : Int), .int .i64 (k' : Int)] 132))
       clear hb2 L1
       go_wp2_with fail
       refine (Hlen.out _ L2.out.s L2.out.m).mono ?_
       rintro e W3 ⟨rfl, hf3, hm3⟩
       have L3 := Lib.hid (L2.out.length HA.out HL.out hf3 hm3)
       have hrow : W3.heap[W2.heap.size]? = some (.cells #[.int .i64 (i' : Int), .int .i64 (k' : Int)] 132 (0, 0)) := (hf3.block W2.heap.size (by simp) (by have := HL.out.m1; omega)).trans (heap_alloc_last W2 _)
       have e0 := cell_of_row _ W2.heap.size 0 _ _ _ hrow
       have e1 := cell_of_row _ W2.heap.size 1 _ _ _ hrow
       simp only [List.getElem?_toArray, List.getElem?_cons_zero, List.getElem?_cons_succ] at e0 e1
       clear hf3 hm3 hrow L2
       go_wp2_with (at_builtin; refine wpList_append_own _ rfl _ _ 133 rfl C 132 i0 _ 2 16 Tryd.underlying133 hi0 hz0 hz1 hz2 rfl (by decide) _ _ _ rfl ((show W3.ownsRow C 132 2 (.slice ra 0 rcap) 0 [] from L3.out.row).alloc _) ⟨W3.heap.size, 0, none⟩ 1 1 [.int .i64 (i' : Int), .int .i64 (k' : Int)] rfl rfl (cell_six_new _ _ _) (by simp [Value.oneCell']) (by unfold maxLen; first | omega | (simp; done) | (simp; omega)) (by first | omega | (simp; done) | (simp; omega)) (Nat.le_trans L3.out.lb (Nat.le_trans L3.out.fr.size (by simp))) ?_; intro v1 w4 hown hgrow _; have L4 := Lib.hid (L3.out.append HA.out HL.out (z := (i', k')) hown hgrow); clear hown hgrow)
       exact ⟨⟨j + 1, v1, by omega, rfl, by rw [Hnext.out], rfl, by rw [Hnext.out]; exact L4.out⟩, by simp [intOf]; omega⟩
      ·rw [advStep_new hsp hL (fun h => h.1 rfl) hc] at hnext
       have hcc : ((c.toNat : Int) != (lb.toNat : Int)) = true := by
        rw [bne_iff_ne]
        intro h
        exact hc (UInt8.toNat_inj.1 (by omega))
       have Hnext := Lib.hid hnext
       clear hnext hz hsp hst Hinv hspc
       go_wp2_with fail
       refine (Hstep.out _ L1.out.s).mono ?_
       rintro e W2 ⟨rfl, hb2⟩
       have hszC : C ≤ W2.heap.size := Nat.le_trans L1.out.lb (Nat.le_trans L1.out.fr.size hb2.size)
       have L2 := Lib.hid ((L1.out.below HA.out HL.out hb2).alloc HA.out HL.out (.cells #[.int .i64 (i' : Int), .int .i64 (k' : Int)] 132))
       clear hb2 L1
       go_wp2_with fail
       refine (Hlen.out _ L2.out.s L2.out.m).mono ?_
       rintro e W3 ⟨rfl, hf3, hm3⟩
       have L3 := Lib.hid (L2.out.length HA.out HL.out hf3 hm3)
       have hrow : W3.heap[W2.heap.size]? = some (.cells #[.int .i64 (i' : Int), .int .i64 (k' : Int)] 132 (0, 0)) := (hf3.block W2.heap.size (by simp) (by have := HL.out.m1; omega)).trans (heap_alloc_last W2 _)
       have e0 := cell_of_row _ W2.heap.size 0 _ _ _ hrow
       have e1 := cell_of_row _ W2.heap.size 1 _ _ _ hrow
       simp only [List.getElem?_toArray, List.getElem?_cons_zero, List.getElem?_cons_succ] at e0 e1
       clear hf3 hm3 hrow L2
       go_wp2_with (at_builtin; refine wpList_append_own _ rfl _ _ 133 rfl C 132 i0 _ 2 16 Tryd.underlying133 hi0 hz0 hz1 hz2 rfl (by decide) _ _ _ rfl (L3.out.empty.row.alloc _) ⟨W3.heap.size, 0, none⟩ 1 1 [.int .i64 (i' : Int), .int .i64 (k' : Int)] rfl rfl (cell_six_new _ _ _) (by simp [Value.oneCell']) (by unfold maxLen; first | omega | (simp; done) | (simp; omega)) (by first | omega | (simp; done) | (simp; omega)) (Nat.le_trans L3.out.empty.lb (Nat.le_trans L3.out.empty.fr.size (by simp))) ?_; intro v1 w4 hown hgrow _; have L4 := Lib.hid (L3.out.empty.append HA.out HL.out (z := (i', k')) hown hgrow); clear hown hgrow)
       exact ⟨⟨j + 1, v1, by omega, rfl, by rw [Hnext.out], rfl, by rw [Hnext.out]; exact L4.out⟩, by simp [intOf]; omega⟩
     ·have hRl : 0 < R.length := List.length_pos_iff.2 hR
      have hR0 : (R.length : Int) > 0 := by omega
      by_cases hlt2 : lb.toNat < c.toNat
      ·have hcg : (c.toNat : Int) > (lb.toNat : Int) := by omega
       rw [advStep_skip hsp (Or.inr ⟨hR, hlt2⟩)] at hnext
       have Hnext := Lib.hid hnext
       clear hnext hz hsp hst Hinv hspc
       go_wp2_with fail
       refine (Hstep.out _ L1.out.s).mono ?_
       rintro e W2 ⟨rfl, hb2⟩
       have hszC : C ≤ W2.heap.size := Nat.le_trans L1.out.lb (Nat.le_trans L1.out.fr.size hb2.size)
       have L2 := Lib.hid ((L1.out.below HA.out HL.out hb2).alloc HA.out HL.out (.cells #[.int .i64 (i' : Int), .int .i64 (k' : Int)] 132))
       clear hb2 L1
       go_wp2_with fail
       refine (Hlen.out _ L2.out.s L2.out.m).mono ?_
       rintro e W3 ⟨rfl, hf3, hm3⟩
       have L3 := Lib.hid (L2.out.length HA.out HL.out hf3 hm3)
       have hrow : W3.heap[W2.heap.size]? = some (.cells #[.int .i64 (i' : Int), .int .i64 (k' : Int)] 132 (0, 0)) := (hf3.block W2.heap.size (by simp) (by have := HL.out.m1; omega)).trans (heap_alloc_last W2 _)
       have e0 := cell_of_row _ W2.heap.size 0 _ _ _ hrow
       have e1 := cell_of_row _ W2.heap.size 1 _ _ _ hrow
       simp only [List.getElem?_toArray, List.getElem?_cons_zero, List.getElem?_cons_succ] at e0 e1
       clear hf3 hm3 hrow L2
       go_wp2
       exact ⟨⟨j + 1, _, by omega, rfl, by rw [Hnext.out], rfl, by rw [Hnext.out]; exact L3.out⟩, by simp [intOf]; omega⟩
      ·have hcg : ¬ (c.toNat : Int) > (lb.toNat : Int) := by omega
       by_cases hc : c = lb
       ·subst hc
        rw [advStep_same hsp hL] at hnext
        have hcc : ((c.toNat : Int) != (c.toNat : Int)) = false := by simp
        have Hnext := Lib.hid hnext
        clear hnext hz hsp hst Hinv hspc
        go_wp2_with fail
        refine (Hstep.out _ L1.out.s).mono ?_
        rintro e W2 ⟨rfl, hb2⟩
        have hszC : C ≤ W2.heap.size := Nat.le_trans L1.out.lb (Nat.le_trans L1.out.fr.size hb2.size)
        have L2 := Lib.hid ((L1.out.below HA.out HL.out hb2).alloc HA.out HL.out (.cells #[.int .i64 (i' : Int), .int .i64 (k' : Int)] 132))
        clear hb2 L1
        go_wp2_with fail
        refine (Hlen.out _ L2.out.s L2.out.m).mono ?_
        rintro e W3 ⟨rfl, hf3, hm3⟩
        have L3 := Lib.hid (L2.out.length HA.out HL.out hf3 hm3)
        have hrow : W3.heap[W2.heap.size]? = some (.cells #[.int .i64 (i' : Int), .int .i64 (k' : Int)] 132 (0, 0)) := (hf3.block W2.heap.size (by simp) (by have := HL.out.m1; omega)).trans (heap_alloc_last W2 _)
        have e0 := cell_of_row _ W2.heap.size 0 _ _ _ hrow
        have e1 := cell_of_row _ W2.heap.size 1 _ _ _ hrow
        simp only [List.getElem?_toArray, List.getElem?_cons_zero, List.getElem?_cons_succ] at e0 e1
        clear hf3 hm3 hrow L2
        go_wp2_with (at_builtin; refine wpList_append_own _ rfl _ _ 133 rfl C 132 i0 _ 2 16 Tryd.underlying133 hi0 hz0 hz1 hz2 rfl (by decide) _ _ _ rfl (L3.out.row.alloc _) ⟨W3.heap.size, 0, none⟩ 1 1 [.int .i64 (i' : Int), .int .i64 (k' : Int)] rfl rfl (cell_six_new _ _ _) (by simp [Value.oneCell']) (by unfold maxLen; first | omega | (simp; done) | (simp; omega)) (by first | omega | (simp; done) | (simp; omega)) (Nat.le_trans L3.out.lb (Nat.le_trans L3.out.fr.size (by simp))) ?_; intro v1 w4 hown hgrow _; have L4 := Lib.hid (L3.out.append HA.out HL.out (z := (i', k')) hown hgrow); clear hown hgrow)
        exact ⟨⟨j + 1, v1, by omega, rfl, by rw [Hnext.out], rfl, by rw [Hnext.out]; exact L4.out⟩, by simp [intOf]; omega⟩
       ·rw [advStep_new hsp hL (fun h => hlt2 h.2) hc] at hnext
        have hcc : ((c.toNat : Int) != (lb.toNat : Int)) = true := by
         rw [bne_iff_ne]
         intro h
         exact hc (UInt8.toNat_inj.1 (by omega))
        have Hnext := Lib.hid hnext
        clear hnext hz hsp hst Hinv hspc
        go_wp2_with fail
        refine (Hstep.out _ L1.out.s).mono ?_
        rintro e W2 ⟨rfl, hb2⟩
        have hszC : C ≤ W2.heap.size := Nat.le_trans L1.out.lb (Nat.le_trans L1.out.fr.size hb2.size)
        have L2 := Lib.hid ((L1.out.below HA.out HL.out hb2).alloc HA.out HL.out (.cells #[.int .i64 (i' : Int), .int .i64 (k' : Int)] 132))
        clear hb2 L1
        go_wp2_with fail
        refine (Hlen.out _ L2.out.s L2.out.m).mono ?_
        rintro e W3 ⟨rfl, hf3, hm3⟩
        have L3 := Lib.hid (L2.out.length HA.out HL.out hf3 hm3)
        have hrow : W3.heap[W2.heap.size]? = some (.cells #[.int .i64 (i' : Int), .int .i64 (k' : Int)] 132 (0, 0)) := (hf3.block W2.heap.size (by simp) (by have := HL.out.m1; omega)).trans (heap_alloc_last W2 _)
        have e0 := cell_of_row _ W2.heap.size 0 _ _ _ hrow
        have e1 := cell_of_row _ W2.heap.size 1 _ _ _ hrow
        simp only [List.getElem?_toArray, List.getElem?_cons_zero, List.getElem?_cons_succ] at e0 e1
        clear hf3 hm3 hrow L2
        go_wp2_with (at_builtin; refine wpList_append_own _ rfl _ _ 133 rfl C 132 i0 _ 2 16 Tryd.underlying133 hi0 hz0 hz1 hz2 rfl (by decide) _ _ _ rfl (L3.out.empty.row.alloc _) ⟨W3.heap.size, 0, none⟩ 1 1 [.int .i64 (i' : Int), .int .i64 (k' : Int)] rfl rfl (cell_six_new _ _ _) (by simp [Value.oneCell']) (by unfold maxLen; first | omega | (simp; done) | (simp; omega)) (by first | omega | (simp; done) | (simp; omega)) (Nat.le_trans L3.out.empty.lb (Nat.le_trans L3.out.empty.fr.size (by simp))) ?_; intro v1 w4 hown hgrow _; have L4 := Lib.hid (L3.out.empty.append HA.out HL.out (z := (i', k')) hown hgrow); clear hown hgrow)
        exact ⟨⟨j + 1, v1, by omega, rfl, by rw [Hnext.out], rfl, by rw [Hnext.out]; exact L4.out⟩, by simp [intOf]; omega⟩
    ·have hq : (((lenP a b i' k' : Nat) : Int) != (left : Int)) = true := by
      rw [bne_iff_ne]
      omega
     rw [advStep_skip hsp (Or.inl hL)] at hnext
     have Hnext := Lib.hid hnext
     clear hnext hz hsp hst Hinv hspc
     go_wp2_with fail
     refine (Hstep.out _ L1.out.s).mono ?_
     rintro e W2 ⟨rfl, hb2⟩
     have hszC : C ≤ W2.heap.size := Nat.le_trans L1.out.lb (Nat.le_trans L1.out.fr.size hb2.size)
     have L2 := Lib.hid ((L1.out.below HA.out HL.out hb2).alloc HA.out HL.out (.cells #[.int .i64 (i' : Int), .int .i64 (k' : Int)] 132))
     clear hb2 L1
     go_wp2_with fail
     refine (Hlen.out _ L2.out.s L2.out.m).mono ?_
     rintro e W3 ⟨rfl, hf3, hm3⟩
     have L3 := Lib.hid (L2.out.length HA.out HL.out hf3 hm3)
     have hrow : W3.heap[W2.heap.size]? = some (.cells #[.int .i64 (i' : Int), .int .i64 (k' : Int)] 132 (0, 0)) := (hf3.block W2.heap.size (by simp) (by have := HL.out.m1; omega)).trans (heap_alloc_last W2 _)
     have e0 := cell_of_row _ W2.heap.size 0 _ _ _ hrow
     have e1 := cell_of_row _ W2.heap.size 1 _ _ _ hrow
     simp only [List.getElem?_toArray, List.getElem?_cons_zero, List.getElem?_cons_succ] at e0 e1
     clear hf3 hm3 hrow L2
     go_wp2
     exact ⟨⟨j + 1, _, by omega, rfl, by rw [Hnext.out], rfl, by rw [Hnext.out]; exact L3.out⟩, by simp [intOf]; omega⟩
  ·obtain rfl : j = N := by omega
   have hfin : F.take j = F := by rw [← HN.out, List.take_length]
   rw [hfin] at Hinv ⊢
   go_wp2
   go_ret2
   exact ⟨_, rfl, Hinv.out⟩
end Go.Proofs.YtdlchlbngojljaaDoor.Gl
