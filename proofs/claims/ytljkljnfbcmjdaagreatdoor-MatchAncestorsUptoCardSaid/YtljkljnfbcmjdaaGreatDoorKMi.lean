/- The device at which the upward terms hold. Ancestor. -/
import Derived.Test.YtljkljnfbcmjdaaGreatDoorKMh
import Derived.Deep.Upon
open Go.Lib renaming hid → qH
open Go.Calls renaming mono → cM
open Go.Act renaming put → aP
open List renaming setIfInBounds_toArray → lA, set_cons_zero → lB, set_cons_succ → lC
set_option maxRecDepth 100000
set_option maxHeartbeats 16000000
namespace Go.Proofs.YtljkljnfbcmjdaaGreatDoor
open Go.RowKit
theorem findIdx_hit {α : Type} {f : α → Bool} : ∀ {L : List α} {i : Nat} {x : α}, (∀ (j : Nat) (y : α), j < i → L[j]? = some y → f y = false) → L[i]? = some x → f x = true → L.findIdx? f = some i
 | [], _, _, _, h, _ => by simp at h
 | y :: l, 0, x, _, h, hx => by
  simp at h
  subst h
  simp [List.findIdx?_cons, hx]
 | y :: l, i + 1, x, ha, h, hx => by
  have h0 := ha 0 y (by omega) rfl
  have ih := findIdx_hit (L := l) (i := i) (x := x) (fun j z hj hz => ha (j + 1) z (by omega) (by simpa using hz)) (by simpa using h) hx
  simp [List.findIdx?_cons, h0, ih]
theorem findIdx_no {α : Type} {f : α → Bool} {L : List α} (h : ∀ (j : Nat) (y : α), L[j]? = some y → f y = false) : L.findIdx? f = none := by
 rw [List.findIdx?_eq_none_iff]
 intro x hx
 obtain ⟨j, hj, hje⟩ := List.getElem_of_mem hx
 simp [h j x (by rw [List.getElem?_eq_getElem hj, hje])]
def idxR (lt : List Tm) (L : List De.DV) : Int := match L.findIdx? (fun x => holdA lt x.1) with
 | some i => (i : Int)
 | none => -1
attribute [local irreducible] holdA in
theorem idxR_hit {lt : List Tm} {L : List De.DV} {i : Nat} {a : De.ADev} {v : Value} (h1 : ∀ (j : Nat) (x : De.DV), j < i → L[j]? = some x → holdA lt x.1 = false) (hx : L[i]? = some (a, v)) (h : holdA lt a = true) : idxR lt L = (i : Int) := by
 have hq := findIdx_hit (f := fun x : De.DV => holdA lt x.1) (L := L) (i := i) (x := (a, v)) h1 hx h
 unfold idxR
 rw [hq]
attribute [local irreducible] holdA in
theorem idxR_no {lt : List Tm} {L : List De.DV} (h1 : ∀ (j : Nat) (x : De.DV), L[j]? = some x → holdA lt x.1 = false) : idxR lt L = -1 := by
 have hq := findIdx_no (f := fun x : De.DV => holdA lt x.1) (L := L) h1
 unfold idxR
 rw [hq]
theorem indexD_any (lt : List Tm) (ad : Option Addr) (cp Bt : Nat) (L : List De.DV) (v : Value) (w : World) (hl : lt.length ≤ 4611686018427387904) (hs : SmL lt) (hL : L.length ≤ 1000000) (ha : ∀ x ∈ L, SmA x.1)
  (hv : tmT.Has w (.slice ad lt.length cp) lt) (ht : w.cell? ⟨Bt, 0, none⟩ = some (.slice ad lt.length cp)) (hd : De.DHas w v L) :
  Calls Tryz.prog 21 #[v, .func (.func 22) #[] #[.pointer (some ⟨Bt, 0, none⟩)]] w fun e w' => e = .returned (.int .i64 (idxR lt L)) ∧ Kp [] w w' := by
 obtain ⟨N, hN⟩ : ∃ N, L.length = N := ⟨_, rfl⟩
 rcases hd with ⟨a', c', rfl, rfl⟩ | ⟨G, o, c', rfl, hcap, hG, hrow⟩
 ·go_enter Tryz.func21, Tryz.ntmps21
  go_wp2
  go_loopw [8] (fun s8 wx => s8 = .int .i64 0 ∧ w = wx) (fun _ _ => 0)
  case atStart => exact ⟨rfl, rfl⟩
  case round =>
   obtain ⟨rfl, rfl⟩ := hrel
   have hz : ¬ ((0 : Int) < ((0 : Nat) : Int)) := by omega
   go_wp2
   go_ret
   exact ⟨rfl, Kp.refl _ _⟩
 ·have Hrow := qH hrow
  have HGs := qH hG
  have HN := qH hN
  have Hv := qH hv
  have Ht := qH ht
  have Ha := qH ha
  have Hcap := qH hcap
  rw [hN] at hL Hcap ⊢
  clear hrow hG hN hv ht ha hcap
  have hNi : (N : Int) ≤ 1000000 := by omega
  go_enter Tryz.func21, Tryz.ntmps21
  go_wp2
  go_loopw [8] (fun s8 wx => ∃ i : Nat, i ≤ N ∧ s8 = .int .i64 i ∧ (∀ (j : Nat) (x : De.DV), j < i → L[j]? = some x → holdA lt x.1 = false) ∧ Kp [] w wx) (fun s8 _ => N - (intOf s8).toNat)
  case atStart => exact ⟨0, by omega, rfl, fun j a hj _ => absurd hj (by omega), Kp.refl _ _⟩
  case round =>
   obtain ⟨i, hi, rfl, hall, hdr⟩ := hrel
   have Hall := qH hall
   have Hdr := qH hdr
   clear hall hdr
   by_cases hlt : (i : Int) < (N : Int)
   ·obtain ⟨⟨a, u⟩, hx⟩ : ∃ x, L[i]? = some x := ⟨L[i]'(by rw [HN.out]; omega), List.getElem?_eq_getElem _⟩
    have hxm := List.mem_of_getElem? hx
    have hrw := Hrow.out.below HGs.out Hdr.out.bel
    have hHas := hrw.ats _ hxm
    obtain ⟨b, c, hu, -⟩ := hHas.form
    simp only at hu
    subst hu
    generalize a.ats.length = n at *
    have Hran := qH (hrw.at_ i _ hx)
    simp only at Hran hHas
    have HI1 := qH (show (Tryz.prog.info? 40).map (·.size) = some (De.dvC a (.slice b n c)).length from De.info34b)
    have Hm := qH (show Calls Tryz.prog 22 #[.agg (De.dvC a (.slice b n c)).toArray, .pointer (some ⟨Bt, 0, none⟩)] wr fun e w' => e = .returned (.bool (holdA lt a)) ∧ Kp [] wr w' from hold1_any lt ad cp Bt a b n c wr hl hs (Ha.out _ hxm) (Hv.out.kp0 Hdr.out) hHas (cell_kp Hdr.out Ht.out))
    have Hx := qH hx
    clear hxm hrw hHas hx
    cases hmb : holdA lt a with
    | true =>
     rw [hmb] at Hm
     have HE := qH (idxR_hit Hall.out Hx.out hmb)
     clear hmb
     go_wp2_with (first
      | (refine wpList_load_mid rfl 40 _ rfl G (o + i * 10) rfl (De.dvC a (.slice b n c)) _ (by with_reducible exact Hran.out) Tryz.underlying40 rfl HI1.out ?_)
      | (go_at_call 22; refine cM (by with_reducible exact Hm.out) ?_; rintro e w' ⟨rfl, hd⟩))
     go_ret
     exact ⟨by rw [HE.out]; rfl, Hdr.out.trans hd⟩
    | false =>
     rw [hmb] at Hm
     have Hall2 := qH (show ∀ (j : Nat) (y : De.DV), j < i + 1 → L[j]? = some y → holdA lt y.1 = false from fun j y hj hbj => by
      rcases Nat.lt_or_ge j i with h1 | h1
      ·exact Hall.out j y h1 hbj
      ·obtain rfl : j = i := by omega
       rw [Hx.out] at hbj
       cases hbj
       exact hmb)
     clear hmb
     go_wp2_with (first
      | (refine wpList_load_mid rfl 40 _ rfl G (o + i * 10) rfl (De.dvC a (.slice b n c)) _ (by with_reducible exact Hran.out) Tryz.underlying40 rfl HI1.out ?_)
      | (go_at_call 22; refine cM (by with_reducible exact Hm.out) ?_; rintro e w' ⟨rfl, hd⟩))
     exact ⟨⟨i + 1, by omega, rfl, Hall2.out, Hdr.out.trans hd⟩, by simp [intOf]; omega⟩
   ·obtain rfl : i = N := by omega
    have HE := qH (idxR_no fun j y hy => Hall.out j y (by rw [← HN.out]; exact (List.getElem?_eq_some_iff.1 hy).1) hy)
    go_wp2
    go_ret
    exact ⟨by rw [HE.out]; rfl, Hdr.out⟩
end Go.Proofs.YtljkljnfbcmjdaaGreatDoor
namespace Go.Proofs.YtljkljnfbcmjdaaGreatDoor
open Go.RowKit
theorem run_append_dv {w : World} {G : Nat} {C : Array Value} {x : De.DV} {y : Value} {L : List De.DV} {ty : TypeId} (hg : w.heap[G]? = some (.cells C 40 (0, 0))) (hC : C = (De.dvC x.1 x.2).toArray) (hy : De.DHas w y L) (hl : L.length ≤ 1000) :
  ∃ v' w', (Builtin.append_ #[28, 28] ty #[.slice (some ⟨G, 0, none⟩) 1 1, y]).run Tryz.prog w = .ok v' w' ∧ w'.ownsRow G 40 10 v' (1 + L.length) (De.dvsC (x :: L)) ∧ w.grownBy w' (some G) := by
 obtain ⟨i0, hi0, hz0, hz1, hz2⟩ := info_parts De.info34
 have hown : w.ownsRow G 40 10 (.slice (some ⟨G, 0, none⟩) 1 1) 1 (De.dvC x.1 x.2) := by
  subst hC
  exact ⟨rfl, .inr ⟨G, 1, _, rfl, Nat.le_refl _, hg, Nat.le_refl _, by unfold maxLen; omega, rfl, rfl⟩⟩
 have hgl := block_lt hg
 have hcat : De.dvsC (x :: L) = De.dvC x.1 x.2 ++ De.dvsC L := by simp [De.dvsC]
 rw [hcat]
 have hsome : ∀ (ad : Addr) (c : Nat), (∀ j u, (De.dvsC L)[j]? = some u → w.cell? (ad.add j) = some u) → (∀ u ∈ De.dvsC L, u.oneCell' = true) → ∃ v' w', (Builtin.append_ #[28, 28] ty #[.slice (some ⟨G, 0, none⟩) 1 1, .slice (some ad) L.length c]).run Tryz.prog w = .ok v' w' ∧ w'.ownsRow G 40 10 v' (1 + L.length) (De.dvC x.1 x.2 ++ De.dvsC L) ∧ w.grownBy w' (some G) := fun ad c hc h1 => by
  obtain ⟨v', w', r0, r1, r2, _⟩ := run_append_own (P := Tryz.prog) w G 28 ty 40 i0 _ 10 136 Tryz.underlying28 hi0 hz0 hz1 hz2 rfl (by decide) _ 1 _ hown ad L.length c (De.dvsC L) (De.dvsC_len L) hc h1 (by unfold maxLen; omega) (by omega) (Nat.le_of_lt hgl)
  exact ⟨v', w', r0, r1, r2⟩
 rcases hy with ⟨ad, c, rfl, rfl⟩ | ⟨g, o, c, rfl, hcap, hgb, hr⟩
 ·cases ad with
  | none =>
   refine ⟨_, w, run_append_nothing w 28 28 ty 40 i0 Tryz.underlying28 hi0 _ _ _ (Nat.le_refl _) _ (Src.ofNil w Tryz.underlying28 c), ?_, World.grownBy.refl _ _⟩
   have : De.dvC x.1 x.2 ++ De.dvsC [] = De.dvC x.1 x.2 := by simp [De.dvsC]
   rw [this]
   exact hown
  | some ad => exact hsome ad c (fun j u hj => by simp [De.dvsC] at hj) (fun u hu => by simp [De.dvsC] at hu)
 ·exact hsome _ c (fun j u hj => hr.cells j u hj) (De.dvsC_one hr.ats)
theorem dh_ats {W : World} {v : Value} {L : List De.DV} (h : De.DHas W v L) : ∀ x ∈ L, De.Has W x.2 x.1.ats := fun x hx => by
 rcases h with ⟨a, c, hv, rfl⟩ | ⟨g, o, c, hv, _, _, hr⟩
 ·cases hx
 ·exact hr.ats x hx
theorem step_append_run {ops : Array Oper} {o : Oper} {a : Act} {w w' : World} {K : Act → World → Prop} {Q : Exit → Act → World → Prop} {E : Prop} (hg : o.guard = none) (s y : Operand)
  (hop : o.op = Op.call { callee := Callee.builtin Builtin.append, args := #[s, y], argTypes := #[28, 28] }) (v yv v' : Value) (hs : a.eval s = v) (hx : a.eval y = yv)
  (h1 : (Builtin.append_ #[28, 28] o.type #[v, yv]).run Tryz.prog w = .ok v' w') (hK : K (a.put o.dst v') w') :
  if Region.wanted o (yielded ops a.tmps) = true then Oper.wp Tryz.prog o a w K Q else E := by
 have hw : Region.wanted o (yielded ops a.tmps) = true := by simp [Region.wanted, hg]
 rw [if_pos hw]
 unfold Oper.wp
 simp [execOp, hop, resolve, invoke, builtin, hs, hx, h1, Result.andThen]
 exact hK
def wayA (l : List De.DV) (q : Int) : Option (List De.ADev) := match (De.lastI (l.map (·.1)) q).bind fun p => l[p]? with
 | none => none
 | some x => some (x.1 :: (De.ancOf l q).map (·.1))
def ancE (lt : List Tm) (l : List De.DV) (q : Int) : Int × Bool := match wayA l q with
 | none => (0, false)
 | some w => match w.find? (holdA lt) with
  | none => (0, false)
  | some a => (a.idx, true)
theorem find_of_idx {α : Type} {f : α → Bool} : ∀ {L : List α} {i : Nat}, L.findIdx? f = some i → ∃ x, L[i]? = some x ∧ L.find? f = some x
 | [], _, h => by simp at h
 | y :: l, i, h => by
  rw [List.findIdx?_cons] at h
  cases hy : f y with
  | true =>
   rw [hy] at h
   simp at h
   subst h
   exact ⟨y, rfl, by simp [hy]⟩
  | false =>
   rw [hy] at h
   simp only [Bool.false_eq_true, if_false, Option.map_eq_some_iff] at h
   obtain ⟨j, hj, rfl⟩ := h
   obtain ⟨x, h1, h2⟩ := find_of_idx hj
   exact ⟨x, by simpa using h1, by rw [List.find?_cons, hy]; exact h2⟩
theorem find_no_idx {α : Type} {f : α → Bool} {L : List α} (h : L.findIdx? f = none) : L.find? f = none := by
 rw [List.findIdx?_eq_none_iff] at h
 rw [List.find?_eq_none]
 intro x hx
 simpa using h x hx
theorem find_map {lt : List Tm} {L : List De.DV} : (L.map (·.1)).find? (holdA lt) = (L.find? fun x => holdA lt x.1).map (·.1) := by
 rw [List.find?_map]
 rfl
structure TrOk (l : List De.DV) : Prop where
 n : l.length ≤ 1000000
 sm : ∀ x ∈ l, SmA x.1
 wi : ∀ x ∈ l, (Lit.int .i64 x.1.idx).wf = true
 wp : ∀ x ∈ l, (Lit.int .i64 x.1.par).wf = true
theorem ancestor_none (lt : List Tm) (ad : Option Addr) (cp : Nat) (l : List De.DV) (a0 : Option Addr) (c0 : Nat) (q : Int) (w : World) (ho : TrOk l) (hd : De.DHas w (.slice a0 l.length c0) l) (hq : (Lit.int .i64 q).wf = true)
  (hf : (De.lastI (l.map (·.1)) q).bind (fun p => l[p]?) = none) :
  Calls Tryz.prog 9 #[.slice ad lt.length cp, .agg #[.slice a0 l.length c0], .int .i64 q] w fun e w' => e = .returned (.tuple #[.int .i64 0, .bool false]) ∧ Kp [] w w' := by
 obtain ⟨W0, hW⟩ : ∃ W0, (w.alloc (.cells #[.slice ad lt.length cp] 23)).alloc (.cells #[.slice a0 l.length c0] 30) = W0 := ⟨_, rfl⟩
 have hk0 : Kp [] w W0 := by rw [← hW]; exact ((Kp.refl [] w).alloc _).alloc _
 have ht1 : W0.heap[w.heap.size + 1]? = some (.cells #[.slice a0 l.length c0] 30 (0, 0)) := by
  have := heap_alloc_last (w.alloc (.cells #[.slice ad lt.length cp] 23)) (.cells #[.slice a0 l.length c0] 30)
  rw [hW] at this
  simpa using this
 have t1 : W0.cell? ⟨w.heap.size + 1, 0, none⟩ = some (.slice a0 l.length c0) := by rw [cell_of_row _ _ _ _ _ _ ht1]; rfl
 have HF := qH (show Calls Tryz.prog 11 #[.agg #[.slice a0 l.length c0], .int .i64 q] W0 fun e w' => e = .returned (.tuple #[.agg #[.int .i64 0, .int .i64 0, .string ⟨#[]⟩, .string ⟨#[]⟩, .string ⟨#[]⟩, .string ⟨#[]⟩, .string ⟨#[]⟩, .int .i64 0, .int .i64 0, .slice none 0 0], .bool false]) ∧ Kp [] W0 w' from by
  have := De.find_any (.slice a0 l.length c0) l q W0 ho.n (fun x hx => (ho.sm x hx).n) (hd.below hk0.bel) ho.wi hq
  rw [hf] at this
  exact this.mono fun e w' ⟨h1, h2⟩ => ⟨h2, Kp.of_bel h1⟩)
 have HK := qH hk0
 clear hd hf ht1 hk0 ho
 go_enter Tryz.func9, Tryz.ntmps9
 go_wp2_with (go_at_call 11; refine cM (by with_reducible exact HF.out) ?_; rintro e w2 ⟨rfl, hk2⟩; have HK2 := qH (HK.out.trans hk2); clear hk2)
 go_ret2
 exact ⟨rfl, HK2.out.alloc _⟩
theorem ancestor_some (lt : List Tm) (ad : Option Addr) (cp : Nat) (l : List De.DV) (a0 : Option Addr) (c0 : Nat) (q : Int) (w : World) (hlt : lt.length ≤ 4611686018427387904) (hsl : SmL lt) (hv : tmT.Has w (.slice ad lt.length cp) lt) (ho : TrOk l) (hd : De.DHas w (.slice a0 l.length c0) l) (hc0 : l.length ≤ c0) (hq : (Lit.int .i64 q).wf = true)
  (a : De.ADev) (ov : Value) (hf : (De.lastI (l.map (·.1)) q).bind (fun p => l[p]?) = some (a, ov)) :
  Calls Tryz.prog 9 #[.slice ad lt.length cp, .agg #[.slice a0 l.length c0], .int .i64 q] w fun e w' => e = .returned (.tuple #[.int .i64 (ancE lt l q).1, .bool (ancE lt l q).2]) ∧ Kp [] w w' := by
 obtain ⟨W0, hW⟩ : ∃ W0, (w.alloc (.cells #[.slice ad lt.length cp] 23)).alloc (.cells #[.slice a0 l.length c0] 30) = W0 := ⟨_, rfl⟩
 obtain ⟨Bt, hBt⟩ : ∃ Bt, w.heap.size = Bt := ⟨_, rfl⟩
 have hk0 : Kp [] w W0 := by rw [← hW]; exact ((Kp.refl [] w).alloc _).alloc _
 have ht0 : W0.heap[Bt]? = some (.cells #[.slice ad lt.length cp] 23 (0, 0)) := by rw [← hW, ← hBt]; exact heap_alloc2_old w _ _
 have ht1 : W0.heap[Bt + 1]? = some (.cells #[.slice a0 l.length c0] 30 (0, 0)) := by
  have := heap_alloc_last (w.alloc (.cells #[.slice ad lt.length cp] 23)) (.cells #[.slice a0 l.length c0] 30)
  rw [hW] at this
  rw [← hBt]
  simpa using this
 have t0 : W0.cell? ⟨Bt, 0, none⟩ = some (.slice ad lt.length cp) := by rw [cell_of_row _ _ _ _ _ _ ht0]; rfl
 have t1 : W0.cell? ⟨Bt + 1, 0, none⟩ = some (.slice a0 l.length c0) := by rw [cell_of_row _ _ _ _ _ _ ht1]; rfl
 have hHow : wayA l q = some (a :: (De.ancOf l q).map (·.1)) := by unfold wayA; rw [hf]
 have hsa : SmA a ∧ ∃ x ∈ l, x = (a, ov) := by
  obtain ⟨p, -, hp⟩ := Option.bind_eq_some_iff.1 hf
  have := List.mem_of_getElem? hp
  exact ⟨ho.sm _ this, _, this, rfl⟩
 have HF := qH (show Calls Tryz.prog 11 #[.agg #[.slice a0 l.length c0], .int .i64 q] W0 fun e w' => ∃ b c, e = .returned (.tuple #[.agg #[.int .i64 a.idx, .int .i64 a.par, .string a.name, .string a.orig, .string a.sub, .string a.drv, .string a.ali, .int .i64 a.kind, .int .i64 a.num, .slice b a.ats.length c], .bool true]) ∧ De.Has w' (.slice b a.ats.length c) a.ats ∧ Kp [] W0 w' from by
  have := De.find_any (.slice a0 l.length c0) l q W0 ho.n (fun x hx => (ho.sm x hx).n) (hd.below hk0.bel) ho.wi hq
  rw [hf] at this
  refine this.mono fun e w' ⟨h1, u, h2, h3⟩ => ?_
  obtain ⟨b, c, rfl, -⟩ := h3.has.form
  exact ⟨b, c, h2, h3.has, Kp.of_bel h1⟩)
 have hANC := fun W (hk : Kp [] W0 W) => De.ancestors_any (.slice a0 l.length c0) l q W ho.n (fun x hx => (ho.sm x hx).n) ((hd.below hk0.bel).below hk.bel) (fun a' n' c' e => by cases e; exact hc0) ho.wi ho.wp hq
 have HAN0 := qH hANC
 have HLn := qH (show (De.ancOf l q).length ≤ 1000 by
  unfold De.ancOf
  split
  ·simp
  ·split
   ·simp
   ·exact Nat.le_trans (De.ancL_len _ _) (by omega))
 have HSmW := qH (show ∀ x ∈ De.ancOf l q, SmA x.1 from fun x hx => ho.sm x (De.ancOf_mem hx))
 have HK := qH hk0
 have HT0 := qH t0
 have HT1 := qH t1
 have HV := qH (hv.kp0 hk0)
 have HOW := qH hHow
 have HSA := qH hsa.1
 clear hd hf ht0 ht1 hk0 ho hANC hv hHow hsa
 generalize hnn : a.ats.length = n at *
 go_enter Tryz.func9, Tryz.ntmps9
 go_upto_region 2 with (go_at_call 11; refine cM (by with_reducible exact HF.out) ?_; rintro e w2 ⟨b, c, rfl, hb2, hk2⟩; have HK2 := qH hk2; have HB2 := qH hb2; clear hk2 hb2)
 obtain ⟨Bd, hBd⟩ : ∃ B, w2.heap.size = B := ⟨_, rfl⟩
 have hbx2 := heap_alloc_last w2 (.cells #[.int .i64 a.idx, .int .i64 a.par, .string a.name, .string a.orig, .string a.sub, .string a.drv, .string a.ali, .int .i64 a.kind, .int .i64 a.num, .slice b n c] 40)
 have hk23 := (Kp.refl [] w2).alloc (.cells #[.int .i64 a.idx, .int .i64 a.par, .string a.name, .string a.orig, .string a.sub, .string a.drv, .string a.ali, .int .i64 a.kind, .int .i64 a.num, .slice b n c] 40)
 generalize hw3 : w2.alloc (.cells #[.int .i64 a.idx, .int .i64 a.par, .string a.name, .string a.orig, .string a.sub, .string a.drv, .string a.ali, .int .i64 a.kind, .int .i64 a.num, .slice b n c] 40) = w3 at *
 rw [hBd] at hbx2 ⊢
 have HBX := qH (show DBox w3 Bd a b n c from ⟨hbx2, HB2.out.below hk23.bel⟩)
 have HK3 := qH (HK2.out.trans hk23)
 have HTR := qH (cell_kp HK3.out HT1.out)
 have HAN := qH (fun W (hk : Kp [] w3 W) => HAN0.out W (HK3.out.trans hk))
 have hdr := (Kp.refl [] w3).drew 1
 have HST := qH (show DBox w3.drew Bd a b n c ∧ w3.drew.cell? ⟨Bt + 1, 0, none⟩ = some (.slice a0 l.length c0) ∧ Kp [] w3 w3.drew from ⟨HBX.out.kp0 hdr, cell_kp hdr HTR.out, hdr⟩)
 clear hbx2 hk23 hdr hw3
 go_upto_region 4 with fail
 refine wp_region_held_drew (S := fun W => DBox W Bd a b n c ∧ W.cell? ⟨Bt + 1, 0, none⟩ = some (.slice a0 l.length c0) ∧ Kp [] w3 W) (by kernel_rfl) HST.out (fun hHeld => ?_)
 refine wpAnyH_take (i := 0) (oi := ⟨some 20, .load 40 (.tmp 8), 40, "match.go:55", #[], none⟩) (v := .agg #[.int .i64 a.idx, .int .i64 a.par, .string a.name, .string a.orig, .string a.sub, .string a.drv, .string a.ali, .int .i64 a.kind, .int .i64 a.num, .slice b n c]) rfl (by kernel_rfl) (by kernel_rfl) (by kernel_rfl) (fun _ _ _ h => h) (Or.inl ⟨by rfl, fun w hSw => by (try dsimp only at hSw); obtain ⟨d0, d1, d2, d3, d4, d5, d6, d7, d8, d9⟩ := hSw.1.cells; go_simp⟩) hHeld ?_
 try simp only [aP, lA, lB, lC]
 refine wpAnyH_take (i := 2) (oi := ⟨some 22, .load 30 (.tmp 4), 30, "match.go:55", #[], none⟩) (v := .agg #[.slice a0 l.length c0]) rfl (by kernel_rfl) (by kernel_rfl) (by kernel_rfl) (fun _ _ _ h => h) (Or.inl ⟨by rfl, fun w hSw => by (try dsimp only at hSw); have t0 := hSw.2.1; go_simp⟩) hHeld ?_
 try simp only [aP, lA, lB, lC]
 refine wpAnyH_take (i := 3) (oi := ⟨some 23, .move (.tmp 2), 3, "match.go:55", #[], none⟩) (v := .int .i64 q) rfl (by kernel_rfl) (by kernel_rfl) (by kernel_rfl) (fun _ _ _ h => h) (Or.inl ⟨by rfl, fun w hSw => by (try dsimp only at hSw); go_simp⟩) hHeld ?_
 try simp only [aP, lA, lB, lC]
 refine wpAnyH_ready (rs := [1, 4]) (by kernel_rfl) (by simp) ?_
 refine AllReadyH.cons (o := ⟨some 21, .buildSlice 28 1 #[(0, .tmp 20)], 28, "match.go:55", #[⟨0, .data⟩], none⟩) rfl (fun K hK => ?_) (AllReadyH.cons (o := ⟨some 24, .call { callee := .value (.func 12), args := #[.tmp 22, .tmp 23], argTypes := #[30, 3] }, 28, "match.go:55", #[⟨2, .data⟩, ⟨3, .data⟩], none⟩) rfl (fun K hK => ?_) AllReadyH.nil)
 ·skip
  go_simp
  have hk6 : Kp [] w3.drew (w3.alloc (.cells #[.int .i64 a.idx, .int .i64 a.par, .string a.name, .string a.orig, .string a.sub, .string a.drv, .string a.ali, .int .i64 a.kind, .int .i64 a.num, .slice b n c] 40)).drew := (Kp.refl [] w3.drew).alloc (.cells #[.int .i64 a.idx, .int .i64 a.par, .string a.name, .string a.orig, .string a.sub, .string a.drv, .string a.ali, .int .i64 a.kind, .int .i64 a.num, .slice b n c] 40)
  have hg6 : (w3.alloc (.cells #[.int .i64 a.idx, .int .i64 a.par, .string a.name, .string a.orig, .string a.sub, .string a.drv, .string a.ali, .int .i64 a.kind, .int .i64 a.num, .slice b n c] 40)).drew.heap[w3.heap.size]? = some (.cells #[.int .i64 a.idx, .int .i64 a.par, .string a.name, .string a.orig, .string a.sub, .string a.drv, .string a.ali, .int .i64 a.kind, .int .i64 a.num, .slice b n c] 40 (0, 0)) := heap_alloc_last w3 (.cells #[.int .i64 a.idx, .int .i64 a.par, .string a.name, .string a.orig, .string a.sub, .string a.drv, .string a.ali, .int .i64 a.kind, .int .i64 a.num, .slice b n c] 40)
  generalize hw4 : (w3.alloc (.cells #[.int .i64 a.idx, .int .i64 a.par, .string a.name, .string a.orig, .string a.sub, .string a.drv, .string a.ali, .int .i64 a.kind, .int .i64 a.num, .slice b n c] 40)).drew = w4 at *
  have hH := (show DBox w4 Bd a b n c ∧ w4.cell? ⟨Bt + 1, 0, none⟩ = some (.slice a0 l.length c0) ∧ Kp [] w3 w4 from ⟨hHeld.1.kp0 hk6, cell_kp hk6 hHeld.2.1, hHeld.2.2.trans hk6⟩)
  have HG4 := qH (show w4.heap[w3.heap.size]? = some (.cells #[.int .i64 a.idx, .int .i64 a.par, .string a.name, .string a.orig, .string a.sub, .string a.drv, .string a.ali, .int .i64 a.kind, .int .i64 a.num, .slice b n c] 40 (0, 0)) from hg6)
  clear hHeld hk6 hg6
  refine hK.out _ _ hH (fun hHeld => ?_)
  try simp only [aP, lA, lB, lC]
  clear hK
  refine wpAnyH_ready (rs := [4]) (by kernel_rfl) (by simp) ?_
  refine AllReadyH.cons (o := ⟨some 24, .call { callee := .value (.func 12), args := #[.tmp 22, .tmp 23], argTypes := #[30, 3] }, 28, "match.go:55", #[⟨2, .data⟩, ⟨3, .data⟩], none⟩) rfl (fun K hK => ?_) AllReadyH.nil
  go_simp
  go_at_call 12
  refine cM (by with_reducible exact HAN.out _ hHeld.2.2) ?_
  rintro e w5 ⟨u, L, rfl, hL, hD, hfr, hb⟩
  dsimp only
  have hk := Kp.of_bel hb
  have hH := (show DBox w5 Bd a b n c ∧ w5.cell? ⟨Bt + 1, 0, none⟩ = some (.slice a0 l.length c0) ∧ Kp [] w3 w5 from ⟨hHeld.1.kp0 hk, cell_kp hk hHeld.2.1, hHeld.2.2.trans hk⟩)
  have HG5 := qH ((hk.block _ (block_lt HG4.out) (by simp)).trans HG4.out)
  have HL := qH hL
  have HD := qH hD
  have HNe := qH (show ∀ x ∈ L, x.1.ats ≠ [] → x.2.ownBlock ≠ some w3.heap.size from fun x hx hne e => absurd (Nat.lt_of_lt_of_le (block_lt HG4.out) (hfr x hx hne _ e)) (Nat.lt_irrefl _))
  have HGe := qH (Nat.le_refl w3.heap.size)
  clear hL hD hb hk hfr
  clear hHeld
  refine hK.out _ _ hH (fun hHeld => ?_)
  try simp only [aP, lA, lB, lC]
  clear hK
  refine wpAnyH_ready (rs := [5]) (by kernel_rfl) (by simp) ?_
  refine AllReadyH.cons (o := ⟨some 25, .call { callee := .builtin .append, args := #[.tmp 21, .tmp 24], argTypes := #[28, 28] }, 28, "match.go:55", #[⟨1, .data⟩, ⟨4, .data⟩, ⟨4, .chain⟩], none⟩) rfl (fun K hK => ?_) AllReadyH.nil
  obtain ⟨v6, w6, hrun, how, hgr⟩ := run_append_dv (x := (a, .slice b n c)) HG5.out rfl HD.out (by rw [← List.length_map (f := (·.1)), HL.out, List.length_map]; exact HLn.out)
  have HR := qH hrun
  have HOw := qH how
  have HGr := qH hgr
  have hk56 : Kp [] w3 w6 := hHeld.2.2.up (Kp.of_grown hgr) (fun x hx => by simp at hx; subst hx; exact .inr HGe.out)
  have hH := (show DBox w6 Bd a b n c ∧ w6.cell? ⟨Bt + 1, 0, none⟩ = some (.slice a0 l.length c0) ∧ Kp [] w3 w6 from ⟨HBX.out.kp0 hk56, cell_kp hk56 HTR.out, hk56⟩)
  have HK6 := qH hk56
  clear how hgr hrun hk56
  refine step_append_run rfl _ _ rfl _ _ _ rfl rfl HR.out ?_
  clear hHeld
  refine hK.out _ _ hH (fun hHeld => ?_)
  try simp only [aP, lA, lB, lC]
  clear hK
  refine wpAnyH_ready (rs := [6]) (by kernel_rfl) (by simp) ?_
  refine AllReadyH.cons (o := ⟨some 10, .assign (.tmp 25), 28, "match.go:55", #[⟨5, .data⟩, ⟨5, .chain⟩, ⟨0, .phase⟩, ⟨1, .phase⟩, ⟨2, .phase⟩, ⟨3, .phase⟩, ⟨4, .phase⟩, ⟨5, .phase⟩], none⟩) rfl (fun K hK => ?_) AllReadyH.nil
  have HF := qH hHeld
  go_simp
  clear hHeld
  refine hK.out _ _ HF.out (fun hHeld => ?_)
  try simp only [aP, lA, lB, lC]
  clear hK
  refine wpAnyH_done (by kernel_rfl) ?_ _
  clear hHeld
  have HTm := qH (cell_kp (HK3.out.trans HK6.out) HT0.out)
  have hHas6 : De.DHas w6 v6 ((a, .slice b n c) :: L) := by
   refine De.DOwn.has (B := w3.heap.size) ⟨?_, fun x hx => ?_⟩
   ·have := HOw.out
    rw [Nat.add_comm] at this
    exact this
   ·rcases List.mem_cons.1 hx with rfl | hx
    ·exact (HBX.out.kp0 HK6.out).2
    ·exact (dh_ats HD.out x hx).other HGr.out.size (g := w3.heap.size) (fun hne e => HNe.out x hx hne e) (fun b' hb' hne => HGr.out.block b' hb' (by intro e; cases e; exact hne rfl))
  have hlen : ((a, Value.slice b n c) :: L).length ≤ 1000000 := by
   have h1 : L.length = (De.ancOf l q).length := by rw [← List.length_map (f := (·.1)), HL.out, List.length_map]
   have := HLn.out
   simp only [List.length_cons]
   omega
  have hsm : ∀ x ∈ (a, Value.slice b n c) :: L, SmA x.1 := fun x hx => by
   rcases List.mem_cons.1 hx with rfl | hx
   ·exact HSA.out
   ·have : x.1 ∈ (De.ancOf l q).map (·.1) := by rw [← HL.out]; exact List.mem_map_of_mem hx
    obtain ⟨y, hy, he⟩ := List.mem_map.1 this
    rw [← he]
    exact HSmW.out y hy
  have HI := qH (indexD_any lt ad cp Bt ((a, .slice b n c) :: L) v6 w6 hlt hsl hlen hsm (HV.out.kp0 (HK3.out.trans HK6.out)) HTm.out hHas6)
  have HHas := qH hHas6
  have hway : wayA l q = some (((a, Value.slice b n c) :: L).map (·.1)) := by rw [HOW.out, List.map_cons, HL.out]
  have hE1 : ancE lt l q = match (((a, Value.slice b n c) :: L).find? fun x => holdA lt x.1).map (·.1) with
    | none => (0, false)
    | some a => (a.idx, true) := by
   unfold ancE
   rw [hway]
   simp only [find_map]
  obtain ⟨X, hX⟩ : ∃ X, (a, Value.slice b n c) :: L = X := ⟨_, rfl⟩
  rw [hX] at hE1 HI HHas
  have HE1 := qH hE1
  clear hHas6 hlen hsm hway hE1 hX
  obtain ⟨v6a, v6c, hv6, hv6r⟩ := HHas.out.form
  subst hv6
  cases hix : X.findIdx? (fun x => holdA lt x.1) with
  | none =>
   have hi : idxR lt X = -1 := by unfold idxR; rw [hix]
   rw [hi] at HI
   have HE := qH (show ancE lt l q = (0, false) by rw [HE1.out, find_no_idx hix]; rfl)
   clear hi hix hv6r
   go_wp2_with (go_at_call 21; refine cM (by with_reducible exact HI.out) ?_; rintro e w7 ⟨rfl, hk7⟩)
   go_ret2
   exact ⟨by rw [HE.out] <;> rfl, HK.out.trans (HK3.out.trans (HK6.out.trans hk7))⟩
  | some i =>
   have hi : idxR lt X = (i : Int) := by unfold idxR; rw [hix]
   rw [hi] at HI
   obtain ⟨⟨y, yv⟩, hy, hfy⟩ := find_of_idx hix
   have HE := qH (show ancE lt l q = (y.idx, true) by rw [HE1.out, hfy]; rfl)
   have hiX := (List.getElem?_eq_some_iff.1 hy).1
   obtain ⟨g, o, rfl, hcap, hg, hr⟩ := hv6r (by rintro rfl; simp at hy)
   have hc7 := hr.at_ i _ hy 0 _ rfl
   have HC7 := qH (show ∀ W, Kp [] w6 W → W.cell? ⟨g, o + i * 10, none⟩ = some (.int .i64 y.idx) from fun W hk => cell_kp hk (by simpa using hc7))
   have hin : ¬ ((i : Int) < 0) := by omega
   have hi2 : (i : Int) < (X.length : Int) := by omega
   clear hi hix hy hfy hr hc7
   go_wp2_with (go_at_call 21; refine cM (by with_reducible exact HI.out) ?_; rintro e w7 ⟨rfl, hk7⟩; have e7 := HC7.out _ hk7)
   go_ret2
   exact ⟨by rw [HE.out] <;> rfl, HK.out.trans (HK3.out.trans (HK6.out.trans hk7))⟩
 ·skip
  go_simp
  go_at_call 12
  refine cM (by with_reducible exact HAN.out _ hHeld.2.2) ?_
  rintro e w5 ⟨u, L, rfl, hL, hD, hfr, hb⟩
  dsimp only
  have hk := Kp.of_bel hb
  have hH := (show DBox w5 Bd a b n c ∧ w5.cell? ⟨Bt + 1, 0, none⟩ = some (.slice a0 l.length c0) ∧ Kp [] w3 w5 from ⟨hHeld.1.kp0 hk, cell_kp hk hHeld.2.1, hHeld.2.2.trans hk⟩)
  have HL := qH hL
  have HD5 := qH hD
  clear hL hD hb hk hfr
  clear hHeld
  refine hK.out _ _ hH (fun hHeld => ?_)
  try simp only [aP, lA, lB, lC]
  clear hK
  refine wpAnyH_ready (rs := [1]) (by kernel_rfl) (by simp) ?_
  refine AllReadyH.cons (o := ⟨some 21, .buildSlice 28 1 #[(0, .tmp 20)], 28, "match.go:55", #[⟨0, .data⟩], none⟩) rfl (fun K hK => ?_) AllReadyH.nil
  go_simp
  have hk6 := (Kp.refl [] w5).alloc (.cells #[.int .i64 a.idx, .int .i64 a.par, .string a.name, .string a.orig, .string a.sub, .string a.drv, .string a.ali, .int .i64 a.kind, .int .i64 a.num, .slice b n c] 40)
  have hg6 := heap_alloc_last w5 (.cells #[.int .i64 a.idx, .int .i64 a.par, .string a.name, .string a.orig, .string a.sub, .string a.drv, .string a.ali, .int .i64 a.kind, .int .i64 a.num, .slice b n c] 40)
  generalize hw4 : w5.alloc (.cells #[.int .i64 a.idx, .int .i64 a.par, .string a.name, .string a.orig, .string a.sub, .string a.drv, .string a.ali, .int .i64 a.kind, .int .i64 a.num, .slice b n c] 40) = w4 at *
  have hH := (show DBox w4 Bd a b n c ∧ w4.cell? ⟨Bt + 1, 0, none⟩ = some (.slice a0 l.length c0) ∧ Kp [] w3 w4 from ⟨hHeld.1.kp0 hk6, cell_kp hk6 hHeld.2.1, hHeld.2.2.trans hk6⟩)
  have HG5 := qH hg6
  have HD := qH (HD5.out.below hk6.bel)
  have HGe := qH hHeld.2.2.size
  have HNe := qH (show ∀ x ∈ L, x.1.ats ≠ [] → x.2.ownBlock ≠ some w5.heap.size from fun x hx hne e => absurd ((dh_ats HD5.out x hx).lt hne _ e) (Nat.lt_irrefl _))
  clear hHeld hk6 hg6
  refine hK.out _ _ hH (fun hHeld => ?_)
  try simp only [aP, lA, lB, lC]
  clear hK
  refine wpAnyH_ready (rs := [5]) (by kernel_rfl) (by simp) ?_
  refine AllReadyH.cons (o := ⟨some 25, .call { callee := .builtin .append, args := #[.tmp 21, .tmp 24], argTypes := #[28, 28] }, 28, "match.go:55", #[⟨1, .data⟩, ⟨4, .data⟩, ⟨4, .chain⟩], none⟩) rfl (fun K hK => ?_) AllReadyH.nil
  obtain ⟨v6, w6, hrun, how, hgr⟩ := run_append_dv (x := (a, .slice b n c)) HG5.out rfl HD.out (by rw [← List.length_map (f := (·.1)), HL.out, List.length_map]; exact HLn.out)
  have HR := qH hrun
  have HOw := qH how
  have HGr := qH hgr
  have hk56 : Kp [] w3 w6 := hHeld.2.2.up (Kp.of_grown hgr) (fun x hx => by simp at hx; subst hx; exact .inr HGe.out)
  have hH := (show DBox w6 Bd a b n c ∧ w6.cell? ⟨Bt + 1, 0, none⟩ = some (.slice a0 l.length c0) ∧ Kp [] w3 w6 from ⟨HBX.out.kp0 hk56, cell_kp hk56 HTR.out, hk56⟩)
  have HK6 := qH hk56
  clear how hgr hrun hk56
  refine step_append_run rfl _ _ rfl _ _ _ rfl rfl HR.out ?_
  clear hHeld
  refine hK.out _ _ hH (fun hHeld => ?_)
  try simp only [aP, lA, lB, lC]
  clear hK
  refine wpAnyH_ready (rs := [6]) (by kernel_rfl) (by simp) ?_
  refine AllReadyH.cons (o := ⟨some 10, .assign (.tmp 25), 28, "match.go:55", #[⟨5, .data⟩, ⟨5, .chain⟩, ⟨0, .phase⟩, ⟨1, .phase⟩, ⟨2, .phase⟩, ⟨3, .phase⟩, ⟨4, .phase⟩, ⟨5, .phase⟩], none⟩) rfl (fun K hK => ?_) AllReadyH.nil
  have HF := qH hHeld
  go_simp
  clear hHeld
  refine hK.out _ _ HF.out (fun hHeld => ?_)
  try simp only [aP, lA, lB, lC]
  clear hK
  refine wpAnyH_done (by kernel_rfl) ?_ _
  clear hHeld
  have HTm := qH (cell_kp (HK3.out.trans HK6.out) HT0.out)
  have hHas6 : De.DHas w6 v6 ((a, .slice b n c) :: L) := by
   refine De.DOwn.has (B := w5.heap.size) ⟨?_, fun x hx => ?_⟩
   ·have := HOw.out
    rw [Nat.add_comm] at this
    exact this
   ·rcases List.mem_cons.1 hx with rfl | hx
    ·exact (HBX.out.kp0 HK6.out).2
    ·exact (dh_ats HD.out x hx).other HGr.out.size (g := w5.heap.size) (fun hne e => HNe.out x hx hne e) (fun b' hb' hne => HGr.out.block b' hb' (by intro e; cases e; exact hne rfl))
  have hlen : ((a, Value.slice b n c) :: L).length ≤ 1000000 := by
   have h1 : L.length = (De.ancOf l q).length := by rw [← List.length_map (f := (·.1)), HL.out, List.length_map]
   have := HLn.out
   simp only [List.length_cons]
   omega
  have hsm : ∀ x ∈ (a, Value.slice b n c) :: L, SmA x.1 := fun x hx => by
   rcases List.mem_cons.1 hx with rfl | hx
   ·exact HSA.out
   ·have : x.1 ∈ (De.ancOf l q).map (·.1) := by rw [← HL.out]; exact List.mem_map_of_mem hx
    obtain ⟨y, hy, he⟩ := List.mem_map.1 this
    rw [← he]
    exact HSmW.out y hy
  have HI := qH (indexD_any lt ad cp Bt ((a, .slice b n c) :: L) v6 w6 hlt hsl hlen hsm (HV.out.kp0 (HK3.out.trans HK6.out)) HTm.out hHas6)
  have HHas := qH hHas6
  have hway : wayA l q = some (((a, Value.slice b n c) :: L).map (·.1)) := by rw [HOW.out, List.map_cons, HL.out]
  have hE1 : ancE lt l q = match (((a, Value.slice b n c) :: L).find? fun x => holdA lt x.1).map (·.1) with
    | none => (0, false)
    | some a => (a.idx, true) := by
   unfold ancE
   rw [hway]
   simp only [find_map]
  obtain ⟨X, hX⟩ : ∃ X, (a, Value.slice b n c) :: L = X := ⟨_, rfl⟩
  rw [hX] at hE1 HI HHas
  have HE1 := qH hE1
  clear hHas6 hlen hsm hway hE1 hX
  obtain ⟨v6a, v6c, hv6, hv6r⟩ := HHas.out.form
  subst hv6
  cases hix : X.findIdx? (fun x => holdA lt x.1) with
  | none =>
   have hi : idxR lt X = -1 := by unfold idxR; rw [hix]
   rw [hi] at HI
   have HE := qH (show ancE lt l q = (0, false) by rw [HE1.out, find_no_idx hix]; rfl)
   clear hi hix hv6r
   go_wp2_with (go_at_call 21; refine cM (by with_reducible exact HI.out) ?_; rintro e w7 ⟨rfl, hk7⟩)
   go_ret2
   exact ⟨by rw [HE.out] <;> rfl, HK.out.trans (HK3.out.trans (HK6.out.trans hk7))⟩
  | some i =>
   have hi : idxR lt X = (i : Int) := by unfold idxR; rw [hix]
   rw [hi] at HI
   obtain ⟨⟨y, yv⟩, hy, hfy⟩ := find_of_idx hix
   have HE := qH (show ancE lt l q = (y.idx, true) by rw [HE1.out, hfy]; rfl)
   have hiX := (List.getElem?_eq_some_iff.1 hy).1
   obtain ⟨g, o, rfl, hcap, hg, hr⟩ := hv6r (by rintro rfl; simp at hy)
   have hc7 := hr.at_ i _ hy 0 _ rfl
   have HC7 := qH (show ∀ W, Kp [] w6 W → W.cell? ⟨g, o + i * 10, none⟩ = some (.int .i64 y.idx) from fun W hk => cell_kp hk (by simpa using hc7))
   have hin : ¬ ((i : Int) < 0) := by omega
   have hi2 : (i : Int) < (X.length : Int) := by omega
   clear hi hix hy hfy hr hc7
   go_wp2_with (go_at_call 21; refine cM (by with_reducible exact HI.out) ?_; rintro e w7 ⟨rfl, hk7⟩; have e7 := HC7.out _ hk7)
   go_ret2
   exact ⟨by rw [HE.out] <;> rfl, HK.out.trans (HK3.out.trans (HK6.out.trans hk7))⟩
end Go.Proofs.YtljkljnfbcmjdaaGreatDoor
