/- A content that comes in, with at most one fault. -/
import Derived.Test.YtoohnjlghjapnaaDoorV
namespace Go.Proofs.YtoohnjlghjapnaaDoor
open Go.RowKit

/-- What the spoiler leaves. -/
def SpoilPost (tb k N : Nat) (w : World) (e : Ending) (w' : World) : Prop :=
  ∃ (c : Con) (v : Value) (k' : Nat), e = .returned (.agg #[.int .i64 c.kind, .string (bs c.id), .string (bs c.lab), .int .i64 c.slot, .int .i64 c.tot, .int .i64 c.lst, v]) ∧ Tx c ∧ CHas (fun b => tb + 1 ≤ b) w' v c.inner ∧ Tape w' tb k' ∧ k' ≤ k + N ∧ Kp [tb] w w'
theorem spoil_end {tb k N A : Nat} {c : Con} {w w3 : World} {v : Value} {k' : Nat} (hA : w.heap.size = A) (hv : CHas (fun b => tb + 1 ≤ b ∧ b ≠ A + 1) w3 v c.inner) (hx : Tx c) (T3 : Tape w3 tb k') (hk' : k' ≤ k + N) (K3 : Kp [tb] w w3) (htb : tb < A) :
    SpoilPost tb k N w (.returned (.agg #[.int .i64 c.kind, .string (bs c.id), .string (bs c.lab), .int .i64 c.slot, .int .i64 c.tot, .int .i64 c.lst, v])) (put7 w3 (A + 1) (.int .i64 c.kind) (.string (bs c.id)) (.string (bs c.lab)) (.int .i64 c.slot) (.int .i64 c.tot) (.int .i64 c.lst) v) := by
  have hk : Kp [A + 1] w3 (put7 w3 (A + 1) (.int .i64 c.kind) (.string (bs c.id)) (.string (bs c.lab)) (.int .i64 c.slot) (.int .i64 c.tot) (.int .i64 c.lst) v) := put7_kp (Kp.refl _ w3) (.inl (by simp)) _ _ _ _ _ _ _
  exact ⟨c, v, k', rfl, hx, hv.keep hk.size fun k hkk hq => ⟨hq.1, hk.block k hkk (by simp; exact hq.2)⟩, T3.kp hk (by simp; omega), hk', K3.up hk (by simp; omega)⟩
theorem BoxV.put0 {A : Nat} {v0 v1 v2 v3 v4 v5 v6 : Value} {w : World} (h : BoxV A v0 v1 v2 v3 v4 v5 v6 w) (u : Value) : BoxV A u v1 v2 v3 v4 v5 v6 (w.setCell ⟨A, 0, none⟩ u) := by
  unfold BoxV at h ⊢; simp [World.setCell, Array.getElem?_modify, h]
def sIds : List (List UInt8) := [[], [97, 58, 98], [48, 49, 50, 51, 52, 53, 54, 55, 56, 57, 48, 49, 50, 51, 52, 53, 54], [48, 49, 50, 51, 52, 53, 54, 55, 56, 57, 48, 49, 50, 51, 52, 53]]
def sLabs : List (List UInt8) := [[120], [], [40]]
theorem sIds_len : ∀ x, x ∈ sIds → x.length ≤ 100 := by decide +kernel
theorem sLabs_len : ∀ x, x ∈ sLabs → x.length ≤ 100 := by decide +kernel
/-- What is inside, as pairs with the slices of what is inside them. -/
theorem CRow.pairs {Q : Nat → Prop} {W : World} {b : Nat} : ∀ {l : List Con} {o : Nat}, CRow Q W b o l → ∃ L : List (Con × Value), L.map Prod.fst = l ∧ (∀ (j : Nat) u, (rowC L)[j]? = some u → W.cell? ⟨b, o + j, none⟩ = some u) ∧ ∀ p ∈ L, Tx p.1 ∧ CHas Q W p.2 p.1.inner
  | [], o, _ => ⟨[], rfl, fun j u h => by simp [rowC] at h, fun p hp => by simp at hp⟩
  | c :: l, o, h => by
    unfold CRow at h
    obtain ⟨⟨v, h1, hx, h2⟩, h3⟩ := h
    obtain ⟨L, hL, hc, hp⟩ := CRow.pairs h3
    refine ⟨(c, v) :: L, by rw [List.map_cons, hL], fun j u hj => ?_, fun p hpm => ?_⟩
    · have e : rowC ((c, v) :: L) = conC c v ++ rowC L := rfl
      rw [e] at hj
      rcases Nat.lt_or_ge j 7 with hlt | hge
      · rw [List.getElem?_append_left (by rw [conC_len]; exact hlt)] at hj
        exact h1 j u hj
      · rw [List.getElem?_append_right (by rw [conC_len]; exact hge), conC_len] at hj
        have := hc (j - 7) u hj
        rwa [show o + 7 + (j - 7) = o + j by omega] at this
    · rcases List.mem_cons.1 hpm with rfl | hpm
      · exact ⟨hx, CIn_iff.1 h2⟩
      · exact hp p hpm
theorem row_one {L : List (Con × Value)} (h : ∀ p ∈ L, p.2.oneCell' = true) : ∀ u ∈ rowC L, u.oneCell' = true := fun u hu => by
  unfold rowC at hu
  obtain ⟨p, hp, hu⟩ := List.mem_flatMap.1 hu
  exact conC_one (h p hp) u hu
theorem has_one' {Q : Nat → Prop} {W : World} {v : Value} {l : List Con} (h : CHas Q W v l) : v.oneCell' = true := by
  obtain ⟨a, n, rfl, _⟩ := h.form
  rfl
/-- A row of a call's own of contents, what is inside them elsewhere. -/
def POwn (w : World) (B : Nat) (R : Nat → Prop) (v : Value) (L : List (Con × Value)) : Prop :=
  w.ownsRow B 24 7 v L.length (rowC L) ∧ ∀ p ∈ L, Tx p.1 ∧ CHas (fun b => R b ∧ v.ownBlock ≠ some b) w p.2 p.1.inner
theorem POwn.kp {w w' : World} {B : Nat} {R : Nat → Prop} {v : Value} {L : List (Con × Value)} {S : List Nat} (h : POwn w B R v L) (hk : Kp S w w') (hS : ∀ x ∈ S, x < B) (hR : ∀ x ∈ S, ¬ R x) : POwn w' B R v L := by
  refine ⟨⟨h.1.1, ?_⟩, fun p hp => ⟨(h.2 p hp).1, (h.2 p hp).2.keep hk.size fun k hkk hq => ⟨hq, hk.block k hkk fun hm => hR k hm hq.1⟩⟩⟩
  rcases h.1.2 with hn | ⟨g, cap, cur, hv, hB, hh, rest⟩
  · exact .inl hn
  · exact .inr ⟨g, cap, cur, hv, hB, (hk.block g (block_lt hh) fun hm => by have := hS g hm; omega).trans hh, rest⟩
theorem POwn.copy {w w' : World} {B : Nat} {R : Nat → Prop} {v' : Value} {L : List (Con × Value)} (h : ∀ p ∈ L, Tx p.1 ∧ CHas R w p.2 p.1.inner)
    (ho : w'.ownsRow B 24 7 v' L.length (rowC L)) (hg : w.grownBy w' none) (hB : ∀ b, R b → b < B) : POwn w' B R v' L := by
  refine ⟨ho, fun p hp => ⟨(h p hp).1, (h p hp).2.keep hg.size fun k hkk hq => ⟨⟨hq, fun e => ?_⟩, hg.block k hkk (by simp)⟩⟩⟩
  have := (World.ownsRow.lt ho k e).1
  have := hB k hq
  omega
theorem POwn.snoc {w w' : World} {B : Nat} {R : Nat → Prop} {v v' : Value} {L : List (Con × Value)} {c : Con} {u : Value} (h : POwn w B R v L) (hx : Tx c) (hu : CHas (fun b => R b ∧ v.ownBlock ≠ some b) w u c.inner)
    (ho : w'.ownsRow B 24 7 v' (L.length + 1) (rowC L ++ conC c u)) (hg : w.grownBy w' v.ownBlock) (ha : v'.ownBlock = v.ownBlock ∨ v'.ownBlock = some w.heap.size) : POwn w' B R v' (L ++ [(c, u)]) := by
  have hq : ∀ k, k < w.heap.size → (R k ∧ v.ownBlock ≠ some k) → (R k ∧ v'.ownBlock ≠ some k) ∧ w'.heap[k]? = w.heap[k]? := fun k hk hq => by
    refine ⟨⟨hq.1, ?_⟩, hg.block k hk fun e => hq.2 e.symm⟩
    rcases ha with e | e
    · rw [e]; exact hq.2
    · rw [e]; intro e2; cases e2; omega
  refine ⟨?_, fun p hp => ?_⟩
  · rw [rowC_append, List.length_append]
    simpa [rowC] using ho
  · rw [List.mem_append, List.mem_singleton] at hp
    rcases hp with hp | rfl
    · exact ⟨(h.2 p hp).1, (h.2 p hp).2.keep hg.size hq⟩
    · exact ⟨hx, hu.keep hg.size hq⟩
theorem POwn.has {w : World} {B : Nat} {R R' : Nat → Prop} {v : Value} {L : List (Con × Value)} (h : POwn w B R v L) (h1 : ∀ b, R b → R' b) (h2 : ∀ b, B ≤ b → R' b) : CHas R' w v (L.map Prod.fst) := by
  rcases h.1.2 with ⟨hv, hn⟩ | ⟨g, cap, cur, hv, hB, hh, hc, hm, hz, ht⟩
  · have : L = [] := List.length_eq_zero_iff.1 hn
    subst this
    exact .inl ⟨rfl, none, 0, hv⟩
  · refine .inr ⟨g, 0, cap, by rw [hv, List.length_map], by rw [List.length_map]; exact hc, hm, h2 g hB, block_lt hh, CRow.of fun j c hj => ?_⟩
    rw [List.getElem?_map] at hj
    obtain ⟨p, hp, rfl⟩ := Option.map_eq_some_iff.1 hj
    have hpm := List.mem_of_getElem? hp
    refine ⟨p.2, fun m u hu => ?_, (h.2 p hpm).1, (h.2 p hpm).2.mono fun k _ hq => h1 k hq.1⟩
    have hjl := (List.getElem?_eq_some_iff.1 hp).1
    have hml : m < 7 := (List.getElem?_eq_some_iff.1 hu).1
    have hg := rowC_get L j p m hp hml
    rw [← ht, List.getElem?_take, if_pos (by omega)] at hg
    rw [cell_of_row _ _ _ _ _ _ hh, Nat.zero_add, ← Array.getElem?_toList, hg, hu]
/-- An append of nothing to nothing. -/
theorem run_append_empty {P : Program} {w : World} (t ty e : TypeId) (i : TypeInfo) (ht : P.underlying t = some (.slice e)) (hi : P.info? e = some i) (a : Option Addr) (n : Nat) :
    (Builtin.append_ #[t, t] ty #[.slice none 0 0, .slice a 0 n]).run P w = .ok (.slice none 0 0) w := by
  cases a <;> simp [Builtin.append_, run_underlying ht, sizeOf, typeInfo, hi, Builtin.lenOf, Builtin.firstCells, loadCells, loadCellsFrom]
theorem wpList_append_empty {P : Program} {w : World} {ops : Array Oper} {rest : List Oper} {o : Oper} {a : Act} {Q : Exit → Act → World → Prop} (hgd : o.guard = none) (s x : Operand) (t : TypeId)
    (ho : o.op = .call { callee := .builtin .append, args := #[s, x], argTypes := #[t, t] })
    (e : TypeId) (i : TypeInfo) (ht : P.underlying t = some (.slice e)) (hi : P.info? e = some i) (hs : a.eval s = .slice none 0 0) (ad : Option Addr) (n : Nat) (hx : a.eval x = .slice ad 0 n)
    (h : wpList P ops Q rest (a.put o.dst (.slice none 0 0)) w) : wpList P ops Q (o :: rest) a w := by
  refine wpList_plain hgd fun K hK => ?_
  have hrun := run_append_empty (P := P) (w := w) t o.type e i ht hi ad n
  unfold Oper.wp
  simp [execOp, ho, resolve, invoke, builtin, hs, hx, hrun, Result.andThen]
  exact hK _ _ h
theorem POwn.weak {w : World} {B : Nat} {R R' : Nat → Prop} {v : Value} {L : List (Con × Value)} (h : POwn w B R v L) (hR : ∀ b, R b → R' b) : POwn w B R' v L :=
  ⟨h.1, fun p hp => ⟨(h.2 p hp).1, (h.2 p hp).2.mono fun k _ hq => ⟨hR k hq.1, hq.2⟩⟩⟩
theorem POwn.form {w : World} {B : Nat} {R : Nat → Prop} {v : Value} {L : List (Con × Value)} (h : POwn w B R v L) : ∃ a c, v = .slice a L.length c := by
  rcases h.1.2 with ⟨hv, hn⟩ | ⟨g, cap, cur, hv, _⟩
  · exact ⟨none, 0, by rw [hv, hn]⟩
  · exact ⟨_, _, hv⟩
theorem POwn.form3 {w : World} {B : Nat} {R : Nat → Prop} {v : Value} {L : List (Con × Value)} (h : POwn w B R v L) : ∃ a n c, v = .slice a n c := by
  obtain ⟨a, c, h⟩ := h.form
  exact ⟨a, _, c, h⟩
theorem grown_kpS {w w' : World} {B : Nat} {v : Value} (hg : w.grownBy w' v.ownBlock) (hv : ∀ k, v.ownBlock = some k → B ≤ k) : ∃ S, Kp S w w' ∧ ∀ x ∈ S, B ≤ x := by
  cases e : v.ownBlock with
  | none => exact ⟨[], Kp.of_grown_none (by rwa [e] at hg), by simp⟩
  | some g => exact ⟨[g], Kp.of_grown (by rwa [e] at hg), by simp; exact hv g e⟩
/-- The contents inside a content, put behind nothing. -/
theorem wpList_append_copy {w : World} {ops : Array Oper} {rest : List Oper} {o : Oper} {a : Act} {Q : Exit → Act → World → Prop} (hgd : o.guard = none) (s x : Operand)
    (ho : o.op = .call { callee := .builtin .append, args := #[s, x], argTypes := #[22, 22] }) (hs : a.eval s = .slice none 0 0) {R : Nat → Prop} (B : Nat) (va : Option Addr) (l : List Con) (vn : Nat)
    (hx : a.eval x = .slice va l.length vn) (hh : CHas R w (.slice va l.length vn) l) (hR : ∀ b, R b → b < B) (hB : B ≤ w.heap.size) (hl : l.length ≤ 1000000)
    (h : ∀ v' w' L, L.map Prod.fst = l → POwn w' B R v' L → w.grownBy w' none → wpList Tryd.prog ops Q rest (a.put o.dst v') w') : wpList Tryd.prog ops Q (o :: rest) a w := by
  obtain ⟨i0, hi0, hz0, hz1, hz2⟩ := info_parts info24
  by_cases hne : l = []
  · subst hne
    refine wpList_append_empty hgd s x 22 ho 24 i0 Tryd.underlying22 hi0 hs va vn hx (h _ w [] rfl ⟨World.ownsRow_nil _ _ _ _, fun p hp => by simp at hp⟩ ?_)
    exact World.grownBy.refl _ _
  · obtain ⟨a', n', he, hrow⟩ := hh.form
    cases he
    obtain ⟨b, o', rfl, -, -, -, -, hr⟩ := hrow hne
    obtain ⟨L, hL, hc, hp⟩ := hr.pairs
    have hll : l.length = L.length := by rw [← hL, List.length_map]
    refine wpList_append_own _ hgd s x 22 ho B 24 i0 _ 7 88 Tryd.underlying22 hi0 hz0 hz1 hz2 rfl (by decide) (.slice none 0 0) 0 [] hs (World.ownsRow_nil _ _ _ _) ⟨b, o', none⟩ l.length vn (rowC L) hx (by rw [rowC_len, hll])
      (fun j u hj => ?_) (row_one fun p hpm => has_one' (hp p hpm).2) (by unfold maxLen; omega) (by omega) hB fun v' w' hown hg _ => h v' w' L hL ?_ hg
    · have := hc j u hj
      rwa [show (⟨b, o', none⟩ : Addr).add j = ⟨b, o' + j, none⟩ by unfold Addr.add; split <;> simp_all]
    · rw [Nat.zero_add, List.nil_append, hll] at hown
      exact POwn.copy hp hown hg hR

set_option maxHeartbeats 8000000 in
set_option maxRecDepth 100000 in
theorem spoil_any {tb k : Nat} {w : World} (hT : Tape w tb k) (hk6 : k + tapeN 1 + 4 ≤ 1000000) (c : Con) (va : Option Addr) (vn : Nat) (h16 : c.inner.length ≤ 1000000) (hx : Tx c) (hh : CHas (fun b => tb + 1 ≤ b) w (.slice va c.inner.length vn) c.inner) :
    Calls Tryd.prog 8 #[.pointer (some ⟨tb, 0, none⟩), .agg #[.int .i64 c.kind, .string (bs c.id), .string (bs c.lab), .int .i64 c.slot, .int .i64 c.tot, .int .i64 c.lst, .slice va c.inner.length vn]] w (SpoilPost tb k (tapeN 1 + 4) w) := by
  have htl := hT.lt
  have hkN : k ≤ 1000000 := by omega
  obtain ⟨ck, ci, cl, cs, ct, ce, cn⟩ := c
  simp only [Con.kind, Con.id, Con.lab, Con.slot, Con.tot, Con.lst, Con.inner] at hh h16 ⊢
  have hxi : ci.length ≤ maxLen := hx.1
  have hxl : cl.length ≤ maxLen := hx.2
  obtain ⟨w0, hw0⟩ : ∃ w0, w.alloc (.cells #[.int .i64 ck, .string (bs ci), .string (bs cl), .int .i64 cs, .int .i64 ct, .int .i64 ce, .slice va cn.length vn] 24) = w0 := ⟨_, rfl⟩
  have hk0 : Kp [] w w0 := by rw [← hw0]; exact (Kp.refl [] w).alloc _
  have hb0 : BoxV w.heap.size (.int .i64 ck) (.string (bs ci)) (.string (bs cl)) (.int .i64 cs) (.int .i64 ct) (.int .i64 ce) (.slice va cn.length vn) w0 := by rw [← hw0]; exact al_new _ _
  have hs0 : w0.heap.size = w.heap.size + 1 := by rw [← hw0]; exact al_size _ _
  obtain ⟨w1, hw1⟩ : ∃ w1, w0.alloc (.cells #[.int .i64 0, .string ⟨#[]⟩, .string ⟨#[]⟩, .int .i64 0, .int .i64 0, .int .i64 0, .slice none 0 0] 24) = w1 := ⟨_, rfl⟩
  have hk1 : Kp [] w0 w1 := by rw [← hw1]; exact (Kp.refl [] w0).alloc _
  have hz1 : Zero7 w0.heap.size w1 := by rw [← hw1]; exact al_new _ _
  have hs1 : w1.heap.size = w0.heap.size + 1 := by rw [← hw1]; exact al_size _ _
  obtain ⟨A, hA⟩ : ∃ A, w.heap.size = A := ⟨_, rfl⟩
  rw [hA] at hb0 hs0 htl
  rw [hs0] at hz1 hs1
  have hb1 := hb0.kp hk1 (by simp)
  have hk01 := hk0.trans hk1
  have hh1 : CHas (fun b => tb + 1 ≤ b ∧ b < A) w1 (.slice va cn.length vn) cn := hh.keep hk01.size fun b hb hq => ⟨⟨hq, by omega⟩, hk01.block b hb (by simp)⟩
  have K1 := Lib.hid hk01
  have Z1 := Lib.hid hz1
  have B1 := Lib.hid hb1
  have S1 := Lib.hid hs1
  have H1 := Lib.hid hh1
  have HA := Lib.hid hA
  have HN := Lib.hid (next_kp 10 (by omega) (by omega) hkN (hT.kp hk01 (by simp)))
  clear hk0 hk1 hk01 hz1 hb0 hb1 hs0 hs1 hh1 hh hT hx
  go_enter Tryd.func8, Tryd.ntmps8
  go_wp2_with fail
  subst hw0
  subst hw1
  refine HN.out.mono ?_
  rintro e w2 ⟨r, hr, rfl, hT2, hk2⟩
  have T2 := Lib.hid hT2
  have K2 := Lib.hid ((K1.out.mono (by simp)).trans hk2)
  have hb2 := B1.out.kp hk2 (by simp; omega)
  have B2 := Lib.hid hb2
  have Z2 := Lib.hid (Z1.out.kp hk2 (by simp; omega))
  have H2 := Lib.hid (H1.out.keep hk2.size fun b hb hq => ⟨hq, hk2.block b hb (by simp; omega)⟩)
  have hs2 : A + 2 ≤ w2.heap.size := by have := S1.out; have := hk2.size; omega
  have S2 := Lib.hid hs2
  obtain ⟨c0, c1, c2, c3, c4, c5, c6⟩ := hb2.cells
  have f0 := hb2.frozen 0
  have f1 := hb2.frozen 1
  have f2 := hb2.frozen 2
  have f3 := hb2.frozen 3
  have f4 := hb2.frozen 4
  have f5 := hb2.frozen 5
  have f6 := hb2.frozen 6
  obtain ⟨d0, d1, d2, d3, d4, d5, d6⟩ := BoxV.cells Z2.out
  have g0 := BoxV.frozen Z2.out 0
  have g1 := BoxV.frozen Z2.out 1
  have g2 := BoxV.frozen Z2.out 2
  have g3 := BoxV.frozen Z2.out 3
  have g4 := BoxV.frozen Z2.out 4
  have g5 := BoxV.frozen Z2.out 5
  have g6 := BoxV.frozen Z2.out 6
  clear hT2 hk2 HN B1 Z1 H1 K1 hb2 S1 hs2
  have hr10 : r = 0 ∨ r = 1 ∨ r = 2 ∨ r = 3 ∨ r = 4 ∨ r = 5 ∨ r = 6 ∨ r = 7 ∨ r = 8 ∨ r = 9 := by omega
  rcases hr10 with rfl | rfl | rfl | rfl | rfl | rfl | rfl | rfl | rfl | rfl
  · have HO := Lib.hid (one_new (w := w2) sIds (by decide) (by decide) (by omega) T2.out)
    go_wp2_with fail
    refine HO.out.mono ?_
    rintro e w3 ⟨x, hx, rfl, hT3, hk3⟩
    have hxx := sIds_len x hx
    have HXX := Lib.hid hxx
    clear hx hxx
    have T3 := Lib.hid hT3
    have K3 := Lib.hid (K2.out.trans hk3)
    have B3 := Lib.hid (B2.out.kp hk3 (by simp; omega))
    have Z3 := Lib.hid (Z2.out.kp hk3 (by simp; omega))
    have H3 := Lib.hid (H2.out.keep (Q' := fun b => tb + 1 ≤ b ∧ b < A) hk3.size fun b hb hq => ⟨hq, hk3.block b hb (by simp; omega)⟩)
    clear hT3 hk3 c0 c1 c2 c3 c4 c5 c6 f0 f1 f2 f3 f4 f5 f6 d0 d1 d2 d3 d4 d5 d6 g0 g1 g2 g3 g4 g5 g6
    obtain ⟨c0, c1, c2, c3, c4, c5, c6⟩ := (B3.out).cells
    have f0 := (B3.out).frozen 0
    have f1 := (B3.out).frozen 1
    have f2 := (B3.out).frozen 2
    have f3 := (B3.out).frozen 3
    have f4 := (B3.out).frozen 4
    have f5 := (B3.out).frozen 5
    have f6 := (B3.out).frozen 6
    obtain ⟨d0, d1, d2, d3, d4, d5, d6⟩ := BoxV.cells Z3.out
    have g0 := BoxV.frozen Z3.out 0
    have g1 := BoxV.frozen Z3.out 1
    have g2 := BoxV.frozen Z3.out 2
    have g3 := BoxV.frozen Z3.out 3
    have g4 := BoxV.frozen Z3.out 4
    have g5 := BoxV.frozen Z3.out 5
    have g6 := BoxV.frozen Z3.out 6
    have hks : Kp [A] w3 (w3.setCell ⟨A, 1, none⟩ (.string (bs x))) := (Kp.refl _ w3).setCell (.inl (by simp)) _
    have ZS := Lib.hid (BoxV.kp Z3.out hks (by simp))
    have KS := Lib.hid (K3.out.up hks (by simp; have := HA.out; omega))
    have TS := Lib.hid (T3.out.kp hks (by simp; omega))
    have HS := Lib.hid (H3.out.keep (Q' := fun b => tb + 1 ≤ b ∧ b ≠ A + 1) hks.size fun b hb hq => ⟨⟨hq.1, by omega⟩, hks.block b hb (by simp; omega)⟩)
    clear hks
    go_wp2
    refine bodyPost_ret (res24p Tryd.results8 rfl (put7_box ZS.out _ _ _ _ _ _ _)) rfl ?_
    exact spoil_end (c := .mk (ck) (x) (cl) (cs) (ct) (ce) (cn)) HA.out HS.out ⟨Nat.le_trans HXX.out (by unfold maxLen; omega), hxl⟩ TS.out (by omega) KS.out htl
  · have HO := Lib.hid (one_new (w := w2) sLabs (by decide) (by decide) (by omega) T2.out)
    go_wp2_with fail
    refine HO.out.mono ?_
    rintro e w3 ⟨x, hx, rfl, hT3, hk3⟩
    have hxx := sLabs_len x hx
    have HXX := Lib.hid hxx
    clear hx hxx
    have T3 := Lib.hid hT3
    have K3 := Lib.hid (K2.out.trans hk3)
    have B3 := Lib.hid (B2.out.kp hk3 (by simp; omega))
    have Z3 := Lib.hid (Z2.out.kp hk3 (by simp; omega))
    have H3 := Lib.hid (H2.out.keep (Q' := fun b => tb + 1 ≤ b ∧ b < A) hk3.size fun b hb hq => ⟨hq, hk3.block b hb (by simp; omega)⟩)
    clear hT3 hk3 c0 c1 c2 c3 c4 c5 c6 f0 f1 f2 f3 f4 f5 f6 d0 d1 d2 d3 d4 d5 d6 g0 g1 g2 g3 g4 g5 g6
    obtain ⟨c0, c1, c2, c3, c4, c5, c6⟩ := (B3.out).cells
    have f0 := (B3.out).frozen 0
    have f1 := (B3.out).frozen 1
    have f2 := (B3.out).frozen 2
    have f3 := (B3.out).frozen 3
    have f4 := (B3.out).frozen 4
    have f5 := (B3.out).frozen 5
    have f6 := (B3.out).frozen 6
    obtain ⟨d0, d1, d2, d3, d4, d5, d6⟩ := BoxV.cells Z3.out
    have g0 := BoxV.frozen Z3.out 0
    have g1 := BoxV.frozen Z3.out 1
    have g2 := BoxV.frozen Z3.out 2
    have g3 := BoxV.frozen Z3.out 3
    have g4 := BoxV.frozen Z3.out 4
    have g5 := BoxV.frozen Z3.out 5
    have g6 := BoxV.frozen Z3.out 6
    have hks : Kp [A] w3 (w3.setCell ⟨A, 2, none⟩ (.string (bs x))) := (Kp.refl _ w3).setCell (.inl (by simp)) _
    have ZS := Lib.hid (BoxV.kp Z3.out hks (by simp))
    have KS := Lib.hid (K3.out.up hks (by simp; have := HA.out; omega))
    have TS := Lib.hid (T3.out.kp hks (by simp; omega))
    have HS := Lib.hid (H3.out.keep (Q' := fun b => tb + 1 ≤ b ∧ b ≠ A + 1) hks.size fun b hb hq => ⟨⟨hq.1, by omega⟩, hks.block b hb (by simp; omega)⟩)
    clear hks
    go_wp2
    refine bodyPost_ret (res24p Tryd.results8 rfl (put7_box ZS.out _ _ _ _ _ _ _)) rfl ?_
    exact spoil_end (c := .mk (ck) (ci) (x) (cs) (ct) (ce) (cn)) HA.out HS.out ⟨hxi, Nat.le_trans HXX.out (by unfold maxLen; omega)⟩ TS.out (by omega) KS.out htl
  · have HO := Lib.hid (next_kp 19 (by omega) (by omega) (by omega) T2.out)
    go_wp2_with fail
    refine HO.out.mono ?_
    rintro e w3 ⟨q, hq, rfl, hT3, hk3⟩
    have hwq : IntKind.i64.wrap ((q : Int) - 1) = (q : Int) - 1 := by rw [IntKind.wrap_i64]; omega
    have hwq2 : wrap64 ((q : Int) - 1) = (q : Int) - 1 := by unfold wrap64; omega
    have T3 := Lib.hid hT3
    have K3 := Lib.hid (K2.out.trans hk3)
    have B3 := Lib.hid (B2.out.kp hk3 (by simp; omega))
    have Z3 := Lib.hid (Z2.out.kp hk3 (by simp; omega))
    have H3 := Lib.hid (H2.out.keep (Q' := fun b => tb + 1 ≤ b ∧ b < A) hk3.size fun b hb hq => ⟨hq, hk3.block b hb (by simp; omega)⟩)
    clear hT3 hk3 c0 c1 c2 c3 c4 c5 c6 f0 f1 f2 f3 f4 f5 f6 d0 d1 d2 d3 d4 d5 d6 g0 g1 g2 g3 g4 g5 g6
    obtain ⟨c0, c1, c2, c3, c4, c5, c6⟩ := (B3.out).cells
    have f0 := (B3.out).frozen 0
    have f1 := (B3.out).frozen 1
    have f2 := (B3.out).frozen 2
    have f3 := (B3.out).frozen 3
    have f4 := (B3.out).frozen 4
    have f5 := (B3.out).frozen 5
    have f6 := (B3.out).frozen 6
    obtain ⟨d0, d1, d2, d3, d4, d5, d6⟩ := BoxV.cells Z3.out
    have g0 := BoxV.frozen Z3.out 0
    have g1 := BoxV.frozen Z3.out 1
    have g2 := BoxV.frozen Z3.out 2
    have g3 := BoxV.frozen Z3.out 3
    have g4 := BoxV.frozen Z3.out 4
    have g5 := BoxV.frozen Z3.out 5
    have g6 := BoxV.frozen Z3.out 6
    have hks : Kp [A] w3 (w3.setCell ⟨A, 3, none⟩ (.int .i64 ((q : Int) - 1))) := (Kp.refl _ w3).setCell (.inl (by simp)) _
    have ZS := Lib.hid (BoxV.kp Z3.out hks (by simp))
    have KS := Lib.hid (K3.out.up hks (by simp; have := HA.out; omega))
    have TS := Lib.hid (T3.out.kp hks (by simp; omega))
    have HS := Lib.hid (H3.out.keep (Q' := fun b => tb + 1 ≤ b ∧ b ≠ A + 1) hks.size fun b hb hq => ⟨⟨hq.1, by omega⟩, hks.block b hb (by simp; omega)⟩)
    clear hks
    go_wp2
    refine bodyPost_ret (res24p Tryd.results8 rfl (put7_box ZS.out _ _ _ _ _ _ _)) rfl ?_
    exact spoil_end (c := .mk (ck) (ci) (cl) ((q : Int) - 1) (ct) (ce) (cn)) HA.out HS.out ⟨hxi, hxl⟩ TS.out (by omega) KS.out htl
  · have HO := Lib.hid (next_kp 19 (by omega) (by omega) (by omega) T2.out)
    go_wp2_with fail
    refine HO.out.mono ?_
    rintro e w3 ⟨q, hq, rfl, hT3, hk3⟩
    have hwq : IntKind.i64.wrap ((q : Int) - 1) = (q : Int) - 1 := by rw [IntKind.wrap_i64]; omega
    have hwq2 : wrap64 ((q : Int) - 1) = (q : Int) - 1 := by unfold wrap64; omega
    have T3 := Lib.hid hT3
    have K3 := Lib.hid (K2.out.trans hk3)
    have B3 := Lib.hid (B2.out.kp hk3 (by simp; omega))
    have Z3 := Lib.hid (Z2.out.kp hk3 (by simp; omega))
    have H3 := Lib.hid (H2.out.keep (Q' := fun b => tb + 1 ≤ b ∧ b < A) hk3.size fun b hb hq => ⟨hq, hk3.block b hb (by simp; omega)⟩)
    clear hT3 hk3 c0 c1 c2 c3 c4 c5 c6 f0 f1 f2 f3 f4 f5 f6 d0 d1 d2 d3 d4 d5 d6 g0 g1 g2 g3 g4 g5 g6
    obtain ⟨c0, c1, c2, c3, c4, c5, c6⟩ := (B3.out).cells
    have f0 := (B3.out).frozen 0
    have f1 := (B3.out).frozen 1
    have f2 := (B3.out).frozen 2
    have f3 := (B3.out).frozen 3
    have f4 := (B3.out).frozen 4
    have f5 := (B3.out).frozen 5
    have f6 := (B3.out).frozen 6
    obtain ⟨d0, d1, d2, d3, d4, d5, d6⟩ := BoxV.cells Z3.out
    have g0 := BoxV.frozen Z3.out 0
    have g1 := BoxV.frozen Z3.out 1
    have g2 := BoxV.frozen Z3.out 2
    have g3 := BoxV.frozen Z3.out 3
    have g4 := BoxV.frozen Z3.out 4
    have g5 := BoxV.frozen Z3.out 5
    have g6 := BoxV.frozen Z3.out 6
    have hks : Kp [A] w3 (w3.setCell ⟨A, 4, none⟩ (.int .i64 ((q : Int) - 1))) := (Kp.refl _ w3).setCell (.inl (by simp)) _
    have ZS := Lib.hid (BoxV.kp Z3.out hks (by simp))
    have KS := Lib.hid (K3.out.up hks (by simp; have := HA.out; omega))
    have TS := Lib.hid (T3.out.kp hks (by simp; omega))
    have HS := Lib.hid (H3.out.keep (Q' := fun b => tb + 1 ≤ b ∧ b ≠ A + 1) hks.size fun b hb hq => ⟨⟨hq.1, by omega⟩, hks.block b hb (by simp; omega)⟩)
    clear hks
    go_wp2
    refine bodyPost_ret (res24p Tryd.results8 rfl (put7_box ZS.out _ _ _ _ _ _ _)) rfl ?_
    exact spoil_end (c := .mk (ck) (ci) (cl) (cs) ((q : Int) - 1) (ce) (cn)) HA.out HS.out ⟨hxi, hxl⟩ TS.out (by omega) KS.out htl
  · have HO := Lib.hid (next_kp 19 (by omega) (by omega) (by omega) T2.out)
    go_wp2_with fail
    refine HO.out.mono ?_
    rintro e w3 ⟨q, hq, rfl, hT3, hk3⟩
    have hwq : IntKind.i64.wrap ((q : Int) - 1) = (q : Int) - 1 := by rw [IntKind.wrap_i64]; omega
    have hwq2 : wrap64 ((q : Int) - 1) = (q : Int) - 1 := by unfold wrap64; omega
    have T3 := Lib.hid hT3
    have K3 := Lib.hid (K2.out.trans hk3)
    have B3 := Lib.hid (B2.out.kp hk3 (by simp; omega))
    have Z3 := Lib.hid (Z2.out.kp hk3 (by simp; omega))
    have H3 := Lib.hid (H2.out.keep (Q' := fun b => tb + 1 ≤ b ∧ b < A) hk3.size fun b hb hq => ⟨hq, hk3.block b hb (by simp; omega)⟩)
    clear hT3 hk3 c0 c1 c2 c3 c4 c5 c6 f0 f1 f2 f3 f4 f5 f6 d0 d1 d2 d3 d4 d5 d6 g0 g1 g2 g3 g4 g5 g6
    obtain ⟨c0, c1, c2, c3, c4, c5, c6⟩ := (B3.out).cells
    have f0 := (B3.out).frozen 0
    have f1 := (B3.out).frozen 1
    have f2 := (B3.out).frozen 2
    have f3 := (B3.out).frozen 3
    have f4 := (B3.out).frozen 4
    have f5 := (B3.out).frozen 5
    have f6 := (B3.out).frozen 6
    obtain ⟨d0, d1, d2, d3, d4, d5, d6⟩ := BoxV.cells Z3.out
    have g0 := BoxV.frozen Z3.out 0
    have g1 := BoxV.frozen Z3.out 1
    have g2 := BoxV.frozen Z3.out 2
    have g3 := BoxV.frozen Z3.out 3
    have g4 := BoxV.frozen Z3.out 4
    have g5 := BoxV.frozen Z3.out 5
    have g6 := BoxV.frozen Z3.out 6
    have hks : Kp [A] w3 (w3.setCell ⟨A, 5, none⟩ (.int .i64 ((q : Int) - 1))) := (Kp.refl _ w3).setCell (.inl (by simp)) _
    have ZS := Lib.hid (BoxV.kp Z3.out hks (by simp))
    have KS := Lib.hid (K3.out.up hks (by simp; have := HA.out; omega))
    have TS := Lib.hid (T3.out.kp hks (by simp; omega))
    have HS := Lib.hid (H3.out.keep (Q' := fun b => tb + 1 ≤ b ∧ b ≠ A + 1) hks.size fun b hb hq => ⟨⟨hq.1, by omega⟩, hks.block b hb (by simp; omega)⟩)
    clear hks
    go_wp2
    refine bodyPost_ret (res24p Tryd.results8 rfl (put7_box ZS.out _ _ _ _ _ _ _)) rfl ?_
    exact spoil_end (c := .mk (ck) (ci) (cl) (cs) (ct) ((q : Int) - 1) (cn)) HA.out HS.out ⟨hxi, hxl⟩ TS.out (by omega) KS.out htl
  · have HO := Lib.hid (next_kp 8 (by omega) (by omega) (by omega) T2.out)
    go_wp2_with fail
    refine HO.out.mono ?_
    rintro e w3 ⟨q, hq, rfl, hT3, hk3⟩
    have hwq : IntKind.i64.wrap ((q : Int) - 1) = (q : Int) - 1 := by rw [IntKind.wrap_i64]; omega
    have hwq2 : wrap64 ((q : Int) - 1) = (q : Int) - 1 := by unfold wrap64; omega
    have T3 := Lib.hid hT3
    have K3 := Lib.hid (K2.out.trans hk3)
    have B3 := Lib.hid (B2.out.kp hk3 (by simp; omega))
    have Z3 := Lib.hid (Z2.out.kp hk3 (by simp; omega))
    have H3 := Lib.hid (H2.out.keep (Q' := fun b => tb + 1 ≤ b ∧ b < A) hk3.size fun b hb hq => ⟨hq, hk3.block b hb (by simp; omega)⟩)
    clear hT3 hk3 c0 c1 c2 c3 c4 c5 c6 f0 f1 f2 f3 f4 f5 f6 d0 d1 d2 d3 d4 d5 d6 g0 g1 g2 g3 g4 g5 g6
    obtain ⟨c0, c1, c2, c3, c4, c5, c6⟩ := (B3.out).cells
    have f0 := (B3.out).frozen 0
    have f1 := (B3.out).frozen 1
    have f2 := (B3.out).frozen 2
    have f3 := (B3.out).frozen 3
    have f4 := (B3.out).frozen 4
    have f5 := (B3.out).frozen 5
    have f6 := (B3.out).frozen 6
    obtain ⟨d0, d1, d2, d3, d4, d5, d6⟩ := BoxV.cells Z3.out
    have g0 := BoxV.frozen Z3.out 0
    have g1 := BoxV.frozen Z3.out 1
    have g2 := BoxV.frozen Z3.out 2
    have g3 := BoxV.frozen Z3.out 3
    have g4 := BoxV.frozen Z3.out 4
    have g5 := BoxV.frozen Z3.out 5
    have g6 := BoxV.frozen Z3.out 6
    have hks : Kp [A] w3 (w3.setCell ⟨A, 0, none⟩ (.int .i64 ((q : Int) - 1))) := (Kp.refl _ w3).setCell (.inl (by simp)) _
    have ZS := Lib.hid (BoxV.kp Z3.out hks (by simp))
    have KS := Lib.hid (K3.out.up hks (by simp; have := HA.out; omega))
    have TS := Lib.hid (T3.out.kp hks (by simp; omega))
    have HS := Lib.hid (H3.out.keep (Q' := fun b => tb + 1 ≤ b ∧ b ≠ A + 1) hks.size fun b hb hq => ⟨⟨hq.1, by omega⟩, hks.block b hb (by simp; omega)⟩)
    clear hks
    go_wp2
    refine bodyPost_ret (res24p Tryd.results8 rfl (put7_box ZS.out _ _ _ _ _ _ _)) rfl ?_
    exact spoil_end (c := .mk ((q : Int) - 1) (ci) (cl) (cs) (ct) (ce) (cn)) HA.out HS.out ⟨hxi, hxl⟩ TS.out (by omega) KS.out htl
  · have HR6 : CHas (fun b => tb + 1 ≤ b ∧ b < A) w2 (.slice va cn.length vn) cn := H2.out
    have H26 := Lib.hid HR6
    obtain ⟨i0, hi0, hz0, hz1, hz2⟩ := info_parts info24
    have HS2 := S2
    clear HR6
    go_wp2_with (at_builtin; refine wpList_append_copy rfl _ _ rfl rfl (A + 2) va cn vn rfl H26.out (fun b hb => by omega) HS2.out h16 ?_; intro v3 w3 L hL hP hg; have HL := Lib.hid hL; have P3 := Lib.hid hP; have G3 := Lib.hid hg; clear hL hP hg)
    have hk3 : Kp [] w2 w3 := Kp.of_grown_none G3.out
    have P3' := Lib.hid (P3.out.weak (R' := fun b => tb + 1 ≤ b ∧ b ≠ A ∧ b ≠ A + 1) fun b hb => by omega)
    have T3 := Lib.hid (T2.out.kp hk3 (by simp))
    have K3 := Lib.hid (K2.out.trans (hk3.mono (by simp)))
    have B3 := Lib.hid (B2.out.kp hk3 (by simp))
    have Z3 := Lib.hid (BoxV.kp Z2.out hk3 (by simp))
    have S3 := Lib.hid (show A + 2 ≤ w3.heap.size by have := HS2.out; have := hk3.size; omega)
    have HG := Lib.hid (gen_ok 1 (by omega) tb (k + 1) w3 T3.out (by omega))
    have hLn : L.length = cn.length := by rw [← HL.out, List.length_map]
    have HLN := Lib.hid (show L.length ≤ 1000000 by omega)
    obtain ⟨pa, pc, rfl⟩ := P3.out.form
    clear hk3 P3 G3 hLn
    go_wp2_with fail
    refine HG.out.mono ?_
    rintro e w4 ⟨x, u, k', rfl, hval, hu, hT4, hk', hk4⟩
    have P4 := Lib.hid (P3'.out.kp hk4 (by simp; omega) (by simp; omega))
    have T4 := Lib.hid hT4
    have HK4 := Lib.hid hk'
    have K4 := Lib.hid (K3.out.trans hk4)
    have B4 := Lib.hid (B3.out.kp hk4 (by simp; omega))
    have Z4 := Lib.hid (BoxV.kp Z3.out hk4 (by simp; omega))
    have S4 := Lib.hid (show A + 2 ≤ w4.heap.size by have := S3.out; have := hk4.size; omega)
    have hu' : CHas (fun b => (tb + 1 ≤ b ∧ b ≠ A ∧ b ≠ A + 1) ∧ (Value.slice pa L.length pc).ownBlock ≠ some b) w4 u x.inner := hu.mono fun b hb hq => ⟨by have := S3.out; omega, fun e => by have := (World.ownsRow.lt P3'.out.1 b e).2; omega⟩
    clear hT4 hk' hk4 hu
    have hu := hu'
    clear hu'
    obtain ⟨xa, xn, rfl, -⟩ := hu.form
    have U4 := Lib.hid hu
    have HVX := Lib.hid hval
    have hal : Kp [] w4 (w4.alloc (.cells (conC x (.slice xa x.inner.length xn)).toArray 24)) := (Kp.refl [] w4).alloc _
    have B5 := Lib.hid (B4.out.kp hal (by simp))
    have Z5 := Lib.hid (Z4.out.kp hal (by simp))
    have P5 := Lib.hid (P4.out.kp hal (by simp) (by simp))
    have K5 := Lib.hid (K4.out.trans (hal.mono (by simp)))
    have T5 := Lib.hid (T4.out.kp hal (by simp))
    have U5 := Lib.hid (kp_has U4.out hal)
    have hs5 : A + 2 ≤ (w4.alloc (.cells (conC x (.slice xa x.inner.length xn)).toArray 24)).heap.size := by rw [al_size]; have := S4.out; omega
    have HCX := Lib.hid (cells_new7 w4 (conC x (.slice xa x.inner.length xn)) 24)
    clear hal hu hval c0 c1 c2 c3 c4 c5 c6 f0 f1 f2 f3 f4 f5 f6 d0 d1 d2 d3 d4 d5 d6 g0 g1 g2 g3 g4 g5 g6
    obtain ⟨c0, c1, c2, c3, c4, c5, c6⟩ := (B5.out).cells
    have f0 := (B5.out).frozen 0
    have f1 := (B5.out).frozen 1
    have f2 := (B5.out).frozen 2
    have f3 := (B5.out).frozen 3
    have f4 := (B5.out).frozen 4
    have f5 := (B5.out).frozen 5
    have f6 := (B5.out).frozen 6
    obtain ⟨d0, d1, d2, d3, d4, d5, d6⟩ := BoxV.cells Z5.out
    have g0 := BoxV.frozen Z5.out 0
    have g1 := BoxV.frozen Z5.out 1
    have g2 := BoxV.frozen Z5.out 2
    have g3 := BoxV.frozen Z5.out 3
    have g4 := BoxV.frozen Z5.out 4
    have g5 := BoxV.frozen Z5.out 5
    have g6 := BoxV.frozen Z5.out 6
    go_wp2_with (at_builtin; refine wpList_append_own_at _ rfl _ _ 22 rfl (A + 2) 24 i0 _ 7 88 Tryd.underlying22 hi0 hz0 hz1 hz2 rfl (by decide) _ _ _ rfl P5.out.1 ⟨w4.heap.size, 0, none⟩ 1 1 (conC x (.slice xa x.inner.length xn)) rfl rfl HCX.out (conC_one rfl) (by unfold maxLen; have := HLN.out; omega) (by have := HLN.out; omega) hs5 ?_; intro v9 w9 hown9 hgrow9 _ hwh9; have O9 := Lib.hid hown9; have G9 := Lib.hid hgrow9; have W9 := Lib.hid hwh9; clear hown9 hgrow9 hwh9; obtain ⟨S, hkS, hSS⟩ := grown_kpS G9.out (fun b e => (World.ownsRow.lt P5.out.1 b e).1); have P9 := Lib.hid (P5.out.snoc (tx_of_val HVX.out) U5.out O9.out G9.out W9.out); have B9 := Lib.hid (B5.out.kp hkS (fun h => by have := hSS _ h; omega)); have Z9 := Lib.hid (BoxV.kp Z5.out hkS (fun h => by have := hSS _ h; omega)); have T9 := Lib.hid (T5.out.kp hkS (fun x h => by have := hSS x h; omega)); have K9 := Lib.hid (K5.out.up hkS (fun x h => .inr (by have := hSS x h; have := HA.out; omega))); obtain ⟨qa, qn, qc, rfl⟩ := P9.out.form3; have C9 := Lib.hid (P9.out.has (R' := fun b => tb + 1 ≤ b ∧ b ≠ A ∧ b ≠ A + 1) (fun b hb => hb) (fun b hb => by omega)); have HLX := Lib.hid (show (L ++ [(x, Value.slice xa x.inner.length xn)]).map Prod.fst = cn ++ [x] by rw [List.map_append, HL.out]; rfl); rw [HLX.out] at C9; have hks : Kp [A] w9 (w9.setCell ⟨A, 6, none⟩ (.slice qa qn qc)) := (Kp.refl _ w9).setCell (.inl (by simp)) _; have ZS := Lib.hid (BoxV.kp Z9.out hks (by simp)); have KS := Lib.hid (K9.out.up hks (by simp; have := HA.out; omega)); have TS := Lib.hid (T9.out.kp hks (by simp; omega)); have CS := Lib.hid (C9.out.keep (Q' := fun b => tb + 1 ≤ b ∧ b ≠ A + 1) hks.size fun b hb hq => ⟨⟨hq.1, hq.2.2⟩, hks.block b hb (by simp; exact hq.2.1)⟩); clear hks hkS c0 c1 c2 c3 c4 c5 c6 f0 f1 f2 f3 f4 f5 f6 d0 d1 d2 d3 d4 d5 d6 g0 g1 g2 g3 g4 g5 g6; obtain ⟨c0, c1, c2, c3, c4, c5, c6⟩ := (B9.out).cells; have f6 := (B9.out).frozen 6; obtain ⟨d0, d1, d2, d3, d4, d5, d6⟩ := BoxV.cells Z9.out; have g0 := BoxV.frozen Z9.out 0; have g1 := BoxV.frozen Z9.out 1; have g2 := BoxV.frozen Z9.out 2; have g3 := BoxV.frozen Z9.out 3; have g4 := BoxV.frozen Z9.out 4; have g5 := BoxV.frozen Z9.out 5; have g6 := BoxV.frozen Z9.out 6)
    go_wp2
    refine bodyPost_ret (res24p Tryd.results8 rfl (put7_box ZS.out _ _ _ _ _ _ _)) rfl ?_
    exact spoil_end (c := .mk ck ci cl cs ct ce (cn ++ [x])) HA.out CS.out ⟨hxi, hxl⟩ TS.out (by have := HK4.out; omega) KS.out htl
  · have hks : Kp [A] w2 (w2.setCell ⟨A, 6, none⟩ (.slice none 0 0)) := (Kp.refl _ w2).setCell (.inl (by simp)) _
    have ZS := Lib.hid (BoxV.kp Z2.out hks (by simp))
    have KS := Lib.hid (K2.out.up hks (by simp; have := HA.out; omega))
    have TS := Lib.hid (T2.out.kp hks (by simp; omega))
    clear hks
    go_wp2
    refine bodyPost_ret (res24p Tryd.results8 rfl (put7_box ZS.out _ _ _ _ _ _ _)) rfl ?_
    exact spoil_end (c := .mk ck ci cl cs ct ce []) HA.out (CHas.nil _ _) ⟨hxi, hxl⟩ TS.out (by omega) KS.out htl
  · have HS := Lib.hid (H2.out.mono (Q' := fun b => tb + 1 ≤ b ∧ b ≠ A + 1) fun b hb hq => ⟨hq.1, by omega⟩)
    go_wp2
    refine bodyPost_ret (res24p Tryd.results8 rfl (put7_box Z2.out _ _ _ _ _ _ _)) rfl ?_
    exact spoil_end (c := .mk ck ci cl cs ct ce cn) HA.out HS.out ⟨hxi, hxl⟩ T2.out (by omega) K2.out htl
  · have HS := Lib.hid (H2.out.mono (Q' := fun b => tb + 1 ≤ b ∧ b ≠ A + 1) fun b hb hq => ⟨hq.1, by omega⟩)
    go_wp2
    refine bodyPost_ret (res24p Tryd.results8 rfl (put7_box Z2.out _ _ _ _ _ _ _)) rfl ?_
    exact spoil_end (c := .mk ck ci cl cs ct ce cn) HA.out HS.out ⟨hxi, hxl⟩ T2.out (by omega) K2.out htl
end Go.Proofs.YtoohnjlghjapnaaDoor
