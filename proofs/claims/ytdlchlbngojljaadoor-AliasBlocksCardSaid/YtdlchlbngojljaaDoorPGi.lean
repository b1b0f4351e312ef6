/- firstElement: a byte that stands for itself. compile: the alternatives of a pattern. -/
import Derived.Test.YtdlchlbngojljaaDoorPGg
import Derived.Deep.RegionLaw
namespace Go.Proofs.YtdlchlbngojljaaDoor.Gl
open Go.RowKit
set_option maxHeartbeats 1600000 in
set_option maxRecDepth 100000 in
theorem first_self (s : ByteArray) (c : UInt8) (w : World) (hs : s.size ≤ 4096) (hpos : 0 < s.size) (hc : s[0] = c) (h42 : c ≠ 42) (h63 : c ≠ 63) (h91 : c ≠ 91) :
  Calls Tryd.prog 55 #[.string s] w (Bel (.tuple #[.agg (elV ⟨false, true, fun x => x == c⟩), .int .i64 1]) w) := by
 have hv := (zero_of_info (P := Tryd.prog) info63).1
 have hi := (zero_of_info (P := Tryd.prog) info63).2
 have hv1 := (zero_of_info (P := Tryd.prog) info61).1
 have hi1 := (zero_of_info (P := Tryd.prog) info61).2
 have n42 := byte_ne (x := c) (k := 42) (by omega) h42
 have n63 := byte_ne (x := c) (k := 63) (by omega) h63
 have n91 := byte_ne (x := c) (k := 91) (by omega) h91
 have hposi : (0 : Int) < (s.size : Int) := by omega
 have hset : (fun x => false || rangeB c c x) = fun x => x == c := by
  funext x
  unfold rangeB
  rw [Bool.false_or, Bool.eq_iff_iff]
  simp only [Bool.and_eq_true, decide_eq_true_eq, beq_iff_eq]
  constructor
  ·intro h; apply UInt8.toNat_inj.1; omega
  ·intro h; subst h; exact ⟨Nat.le_refl _, Nat.le_refl _⟩
 have hadd := fun W h => add_any (w.heap.size + 1) (fun _ => false) c c W h
 rw [hset] at hadd
 generalize hR : (fun x : UInt8 => x == c) = R at *
 have Hadd := Lib.hid hadd
 have hci : (c.toNat : Int) < 256 := by have := UInt8.toNat_lt c; omega
 clear hadd hset h42 h63 h91
 have hVE : elV ⟨false, true, R⟩ = #[.int .u64 (wd R 0), .int .u64 (wd R 1), .int .u64 (wd R 2), .int .u64 (wd R 3), .bool false, .bool true] := rfl
 obtain ⟨E, hE⟩ : ∃ E : El, (⟨false, true, R⟩ : El) = E := ⟨_, rfl⟩
 rw [hE] at hVE ⊢
 have HVE := Lib.hid hVE
 clear hVE hE
 go_enter Tryd.func55, Tryd.ntmps55
 go_wp2
 have g2 := box2_0 w (.cells #[.int .u64 0, .int .u64 0, .int .u64 0, .int .u64 0, .bool false, .bool false] 108) (.cells (Array.replicate 4 (.int .u64 0)) 106)
 have g7 := box2_1 w (.cells #[.int .u64 0, .int .u64 0, .int .u64 0, .int .u64 0, .bool false, .bool false] 108) (.cells (Array.replicate 4 (.int .u64 0)) 106)
 have gb := box2_below w (.cells #[.int .u64 0, .int .u64 0, .int .u64 0, .int .u64 0, .bool false, .bool false] 108) (.cells (Array.replicate 4 (.int .u64 0)) 106)
 generalize (w.alloc (.cells #[.int .u64 0, .int .u64 0, .int .u64 0, .int .u64 0, .bool false, .bool false] 108)).alloc (.cells (Array.replicate 4 (.int .u64 0)) 106) = W0 at *
 rw [zero4] at g7
 have G2 := Lib.hid g2
 have G7 := Lib.hid g7
 have Gb := Lib.hid gb
 clear g2 g7 gb
 have Hadd2 := Lib.hid (Hadd.out W0.drew G7.out)
 clear Hadd
 go_region_with (go_at_call 83; refine Hadd2.out.mono ?_; rintro ed W2 ⟨rfl, h1, h2, h3⟩)
 all_goals
  have h0 := (h2.block w.heap.size (Nat.lt_succ_self _)).trans G2.out
  have Hbl := Lib.hid (Gb.out.drew.trans (h2.mono (Nat.le_succ _)))
  unfold setV at h1
  have hVE := HVE.out
  clear h2 h3 hR Hadd2 HVE
  generalize ((wd R 0 : Nat) : Int) = a0 at *
  generalize ((wd R 1 : Nat) : Int) = a1 at *
  generalize ((wd R 2 : Nat) : Int) = a2 at *
  generalize ((wd R 3 : Nat) : Int) = a3 at *
  have HVE := Lib.hid hVE
  clear hVE
  go_wp2_with (first
   | (refine wpList_load_row rfl 106 _ rfl (w.heap.size + 1) rfl 106 _ _ _ h1 Tryd.underlying106 rfl hi1 ?_)
   | (refine wpList_store_row rfl 108 _ _ rfl w.heap.size #[.int .u64 a0, .int .u64 a1, .int .u64 a2, .int .u64 a3, .bool false, .bool true] rfl rfl 108 _ h0 hi rfl (by simp [Value.oneCell']) ?_))
  exact bodyPost_ret (results_fst (e := E) rfl rfl (by rw [HVE.out]; exact setRow_heap W2 w.heap.size _ _ 108 _ h0)) rfl ⟨rfl, below_setRow Hbl.out (Nat.le_refl _) _⟩
theorem firstElement_any (s : ByteArray) (c : UInt8) (r : List UInt8) (w : World) (hs : s.size ≤ 4096) (hsr : s.data.toList = c :: r) : Calls Tryd.prog 55 #[.string s] w (Bel (fstRes (firstEl c r)) w) := by
 have hpos : 0 < s.size := by rw [Lib.size_eq, hsr]; simp
 have hc : s[0] = c := by
  have := Lib.data_getElem? s 0 hpos
  rw [hsr] at this
  simpa using this.symm
 by_cases h42 : c = 42
 ·subst h42
  exact first_text s 42 true w hs hpos hc (Or.inl ⟨rfl, rfl⟩)
 by_cases h63 : c = 63
 ·subst h63
  exact first_text s 63 false w hs hpos hc (Or.inr ⟨rfl, rfl⟩)
 by_cases h91 : c = 91
 ·subst h91
  exact first_set s r w hs hpos hc hsr
 ·have h : firstEl c r = some (⟨false, true, fun x => x == c⟩, 0) := by
   unfold firstEl
   rw [if_neg h42, if_neg h63, if_neg h91]
  rw [h]
  exact first_self s c w hs hpos hc h42 h63 h91
end Go.Proofs.YtdlchlbngojljaaDoor.Gl
namespace Go.Proofs.YtdlchlbngojljaaDoor.Gl
open Go.RowKit
def elVs (l : List El) : List Value := l.flatMap fun e => (elV e).toList
theorem elVs_length (l : List El) : (elVs l).length = l.length * 6 := by
 induction l with
 | nil => rfl
 | cons e r ih =>
  have : elVs (e :: r) = (elV e).toList ++ elVs r := rfl
  rw [this, List.length_append, ih, List.length_cons, Array.length_toList, elV_size]
  omega
theorem elVs_snoc (l : List El) (e : El) : elVs (l ++ [e]) = elVs l ++ (elV e).toList := by
 unfold elVs
 rw [List.flatMap_append]
 simp
theorem elVs_get : ∀ (l : List El) (i : Nat) (e : El) (j : Nat), l[i]? = some e → j < 6 → (elVs l)[i * 6 + j]? = (elV e)[j]?
 | [], i, e, j, h, _ => by simp at h
 | f :: r, 0, e, j, h, hj => by
  have hf : f = e := by simpa using h
  subst hf
  show ((elV f).toList ++ elVs r)[0 * 6 + j]? = _
  rw [List.getElem?_append_left (by rw [Array.length_toList, elV_size]; omega)]
  simp
 | f :: r, i + 1, e, j, h, hj => by
  show ((elV f).toList ++ elVs r)[(i + 1) * 6 + j]? = _
  rw [List.getElem?_append_right (by rw [Array.length_toList, elV_size]; omega), Array.length_toList, elV_size, show (i + 1) * 6 + j - 6 = i * 6 + j from by omega]
  exact elVs_get r i e j (by simpa using h) hj
/-- A row of elements as its owner has it reads so. -/
theorem elsAt_of {w : World} {B g cap : Nat} {l : List El} (h : w.ownsRow B 108 6 (.slice (some ⟨g, 0, none⟩) l.length cap) l.length (elVs l)) : ElsAt w g l := by
 intro i e he
 have hi := (List.getElem?_eq_some_iff.1 he).1
 have key : ∀ j, j < 6 → w.cell? ⟨g, i * 6 + j, none⟩ = (elV e)[j]? := fun j hj => by
  rw [h.cellAt (i * 6 + j) (by omega), elVs_get l i e j he hj]
 refine ⟨fun j hj => ?_, key 4 (by omega), key 5 (by omega)⟩
 rw [key j (by omega)]
 match j, hj with
 | 0, _ => rfl
 | 1, _ => rfl
 | 2, _ => rfl
 | 3, _ => rfl
theorem step_append_own {P : Program} {ops : Array Oper} {o : Oper} {a : Act} {w : World} {K : Act → World → Prop} {Q : Exit → Act → World → Prop} {E : Prop}
  (hg : o.guard = none) (s x : Operand) (t : TypeId) (hop : o.op = Op.call { callee := Callee.builtin Builtin.append, args := #[s, x], argTypes := #[t, t] }) (base : Nat)
  (e : TypeId) (i : TypeInfo) (z : Value) (size bytes : Nat) (h1 : P.underlying t = some (.slice e)) (h2 : P.info? e = some i) (h3 : i.zero = some z) (h4 : i.size = size) (h5 : i.bytes = bytes) (h6 : z.cells.size = size) (h7 : 0 < size)
  (v : Value) (n : Nat) (xs : List Value) (hs : a.eval s = v) (hrow : w.ownsRow base e size v n xs)
  (ad : Addr) (m c : Nat) (news : List Value) (hx : a.eval x = .slice (some ad) m c) (hn : news.length = m * size) (hc : ∀ j u, news[j]? = some u → w.cell? (ad.add j) = some u) (h1c : ∀ u ∈ news, u.oneCell' = true)
  (b1 : n + m ≤ maxLen) (b2 : (n + m) * bytes ≤ 140737488355328) (hb : base ≤ w.heap.size)
  (hK : ∀ v' w', w'.ownsRow base e size v' (n + m) (xs ++ news) → w.grownBy w' v.ownBlock → K (a.put o.dst v') w') :
  if Region.wanted o (yielded ops a.tmps) = true then Oper.wp P o a w K Q else E := by
 have hw : Region.wanted o (yielded ops a.tmps) = true := by simp [Region.wanted, hg]
 rw [if_pos hw]
 obtain ⟨v', w', hrun, r1, r2, _⟩ := run_append_own (P := P) w base t o.type e i z size bytes h1 h2 h3 h4 h5 h6 h7 v n xs hrow ad m c news hn hc h1c b1 b2 hb
 unfold Oper.wp
 simp [execOp, hop, resolve, invoke, builtin, hs, hx, hrun, Result.andThen]
 exact hK v' w' r1 r2
/-- While the pattern is read: the alternatives A, and l, to which elements are appended; its row is younger than the other alternatives'. -/
structure CompInv (w : World) (B' G cap : Nat) (A : List (List El)) (l : List El) (vs : List Value) (vl : Value) (wx : World) : Prop where
 outer : wx.ownsRow w.heap.size 78 1 (.slice (some ⟨G, 0, none⟩) (A.length + 1) cap) (A.length + 1) (vs ++ [vl])
 len : vs.length = A.length
 rows : ∀ (j : Nat) (v : Value) (a : List El), vs[j]? = some v → A[j]? = some a → wx.ownsRow w.heap.size 108 6 v a.length (elVs a) ∧ (∀ b, v.ownBlock = some b → b < B')
 last : wx.ownsRow B' 108 6 vl l.length (elVs l)
 B : w.heap.size ≤ B'
 B2 : B' ≤ wx.heap.size
 below : Below w.heap.size w wx
theorem CompInv.later {w wx w' : World} {B' G cap : Nat} {A : List (List El)} {l : List El} {vs : List Value} {vl : Value} (h : CompInv w B' G cap A l vs vl wx) (hb : Below wx.heap.size wx w') : CompInv w B' G cap A l vs vl w' :=
 ⟨ownsRow_below h.outer hb, h.len, fun j v a hj ha => ⟨ownsRow_below (h.rows j v a hj ha).1 hb, (h.rows j v a hj ha).2⟩, ownsRow_below h.last hb, h.B, Nat.le_trans h.B2 hb.size, h.below.trans (hb.mono h.below.size)⟩
theorem ownsRow_type {w : World} {B C : Nat} {t u : TypeId} {k m n p : Nat} {v x : Value} {xs ys : List Value} (h : w.ownsRow B t k v n xs) (h' : w.ownsRow C u m x p ys) (hne : t ≠ u) (hv : v.ownBlock ≠ none) : v.ownBlock ≠ x.ownBlock := by
 rcases h.2 with ⟨rfl, _⟩ | ⟨g, cap, cur, rfl, _, hg, _⟩
 ·exact absurd rfl hv
 ·rcases h'.2 with ⟨rfl, _⟩ | ⟨g', cap', cur', rfl, _, hg', _⟩
  ·simp [Value.ownBlock]
  ·intro e
   have : g = g' := by simpa [Value.ownBlock] using e
   subst this
   rw [hg] at hg'
   cases hg'
   exact hne rfl
theorem ownsRow_mono {w : World} {B C : Nat} {t : TypeId} {k n : Nat} {v : Value} {xs : List Value} (h : w.ownsRow B t k v n xs) (hC : C ≤ B) : w.ownsRow C t k v n xs := by
 refine ⟨h.1, ?_⟩
 rcases h.2 with h1 | ⟨g, cap, cur, hv, hB, rest⟩
 ·exact Or.inl h1
 ·exact Or.inr ⟨g, cap, cur, hv, Nat.le_trans hC hB, rest⟩
theorem form_some {w : World} {B : Nat} {t : TypeId} {k n : Nat} {v : Value} {xs : List Value} (h : w.ownsRow B t k v n xs) (hn : 0 < n) : ∃ g cap, v = .slice (some ⟨g, 0, none⟩) n cap ∧ B ≤ g ∧ g < w.heap.size := by
 rcases h.2 with ⟨_, h0⟩ | ⟨g, cap, cur, rfl, hB, hg, _⟩
 ·omega
 ·exact ⟨g, cap, rfl, hB, (Array.getElem?_eq_some_iff.1 hg).1⟩
/-- Behind a "|". -/
theorem CompInv.bar {w wx w1 : World} {B' G cap : Nat} {A : List (List El)} {l : List El} {vs : List Value} {vl v' : Value} {tmp : Obj} (h : CompInv w B' G cap A l vs vl wx)
  (hown : w1.ownsRow w.heap.size 78 1 v' (A.length + 1 + 1) ((vs ++ [vl]) ++ [.slice none 0 0])) (hg : (wx.alloc tmp).grownBy w1 (some G)) :
  ∃ G' cap', v' = .slice (some ⟨G', 0, none⟩) ((A ++ [l]).length + 1) cap' ∧ CompInv w w1.heap.size G' cap' (A ++ [l]) [] (vs ++ [vl]) (.slice none 0 0) w1 := by
 obtain ⟨G', cap', hv', _, _⟩ := form_some hown (by omega)
 have hlen : (A ++ [l]).length + 1 = A.length + 1 + 1 := by simp
 rw [hlen]
 refine ⟨G', cap', hv', ?_⟩
 have hsz : wx.heap.size ≤ w1.heap.size := Nat.le_trans (by simp) hg.size
 have hrow : ∀ {C : Nat} {v : Value} {a : List El}, wx.ownsRow C 108 6 v a.length (elVs a) → w1.ownsRow C 108 6 v a.length (elVs a) := by
  intro C v a hr
  refine (hr.alloc tmp).kept hg ?_
  cases hb : v.ownBlock with
  | none => exact Or.inl rfl
  | some b =>
   right
   have := ownsRow_type hr h.outer (by decide) (by rw [hb]; simp)
   rwa [hb] at this
 refine ⟨by rw [hlen, ← hv']; exact hown, by simp [h.len], fun j v a hj ha => ?_, World.ownsRow_nil _ _ _ _, Nat.le_trans h.below.size hsz, Nat.le_refl _, ?_⟩
 ·rcases Nat.lt_or_ge j vs.length with hlt | hge
  ·rw [List.getElem?_append_left hlt] at hj
   rw [List.getElem?_append_left (by rw [← h.len]; exact hlt)] at ha
   obtain ⟨h1, h2⟩ := h.rows j v a hj ha
   exact ⟨hrow h1, fun b hb => Nat.lt_of_lt_of_le (h2 b hb) (Nat.le_trans h.B2 hsz)⟩
  ·rw [List.getElem?_append_right hge] at hj
   rw [List.getElem?_append_right (by rw [← h.len]; exact hge), ← h.len] at ha
   have hj0 : j - vs.length = 0 := by
    rcases Nat.eq_zero_or_pos (j - vs.length) with h0 | h0
    ·exact h0
    ·rw [List.getElem?_eq_none (by simp; omega)] at hj; simp at hj
   rw [hj0] at hj ha
   simp only [List.getElem?_cons_zero, Option.some.injEq] at hj ha
   subst hj
   subst ha
   exact ⟨ownsRow_mono (hrow h.last) h.B, fun b hb => Nat.lt_of_lt_of_le (h.last.lt b hb).2 hsz⟩
 ·have hG : w.heap.size ≤ G := (h.outer.lt G rfl).1
  refine (h.below.alloc h.below.size tmp).grown hg (Nat.le_trans h.below.size (by simp)) fun k hk => ?_
  cases hk
  exact hG
/-- Behind an element. -/
theorem CompInv.elem {w wx w1 : World} {B' G cap : Nat} {A : List (List El)} {l : List El} {vs : List Value} {vl v' : Value} {tmp : Obj} {e : El} (h : CompInv w B' G cap A l vs vl wx)
  (hown : w1.ownsRow B' 108 6 v' (l.length + 1) (elVs l ++ (elV e).toList)) (hg : (wx.alloc tmp).grownBy w1 vl.ownBlock) :
  CompInv w B' G cap A (l ++ [e]) vs v' (w1.setCell ⟨G, A.length, none⟩ v') ∧ w1.cell? ⟨G, A.length, none⟩ = some vl ∧ w1.frozen? ⟨G, A.length, none⟩ = false := by
 have hsz : wx.heap.size ≤ w1.heap.size := Nat.le_trans (by simp) hg.size
 have hout : w1.ownsRow w.heap.size 78 1 (.slice (some ⟨G, 0, none⟩) (A.length + 1) cap) (A.length + 1) (vs ++ [vl]) := by
  refine (h.outer.alloc tmp).kept hg (Or.inr ?_)
  exact ownsRow_type h.outer h.last (by decide) (by simp [Value.ownBlock])
 have hGB : w.heap.size ≤ G := (h.outer.lt G rfl).1
 have hrows : ∀ {C : Nat} {v : Value} {a : List El}, w1.ownsRow C 108 6 v a.length (elVs a) → (w1.setCell ⟨G, A.length, none⟩ v').ownsRow C 108 6 v a.length (elVs a) := by
  intro C v a hr
  refine ownsRow_setCell_other hr ?_ _
  intro he
  have := ownsRow_type hr hout (by decide) (by rw [he]; simp)
  rw [he] at this
  exact this rfl
 have hstored := hout.stored A.length v'
 have hset : (vs ++ [vl]).set A.length v' = vs ++ [v'] := by
  rw [← h.len, List.set_append_right _ _ (Nat.le_refl _), Nat.sub_self]
  rfl
 refine ⟨⟨?_, h.len, fun j v a hj ha => ?_, ?_, h.B, ?_, ?_⟩, ?_, hout.frozenAt _⟩
 ·rw [← hset]
  exact hstored.1
 ·obtain ⟨h1, h2⟩ := h.rows j v a hj ha
  refine ⟨hrows ((h1.alloc tmp).kept hg ?_), h2⟩
  cases hb : v.ownBlock with
  | none => exact Or.inl rfl
  | some b =>
   right
   have hlt := h2 b hb
   intro e2
   have := (h.last.lt b e2.symm).1
   omega
 ·have h0 := hrows (a := l ++ [e]) (v := v') (C := B') (by rw [List.length_append, elVs_snoc]; exact hown)
  exact h0
 ·rw [World.size_setCell]; exact Nat.le_trans h.B2 hsz
 ·refine Below.setCell ?_ hGB _
  refine (h.below.alloc h.below.size tmp).grown hg (Nat.le_trans h.below.size (by simp)) fun k hk => ?_
  exact Nat.le_trans h.B (h.last.lt k hk).1
 ·rw [hout.cellAt A.length (by omega), ← h.len]
  simp
/-- The alternatives L lie behind the slice v. -/
def AltsAt (w : World) (v : Value) (L : List (List El)) : Prop := ∃ G cap, v = .slice (some ⟨G, 0, none⟩) L.length cap ∧ G < w.heap.size ∧ L.length ≤ cap ∧
 ∀ (j : Nat) (a : List El), L[j]? = some a → ∃ aj cj gj, w.cell? ⟨G, j, none⟩ = some (.slice aj a.length cj) ∧ (0 < a.length → aj = some ⟨gj, 0, none⟩) ∧ gj < w.heap.size ∧ ElsAt w gj a
theorem row_read {w : World} {B : Nat} {v : Value} {a : List El} (h : w.ownsRow B 108 6 v a.length (elVs a)) (hpos : 0 < w.heap.size) : ∃ aj cj gj, v = .slice aj a.length cj ∧ (0 < a.length → aj = some ⟨gj, 0, none⟩) ∧ gj < w.heap.size ∧ ElsAt w gj a := by
 rcases h.2 with ⟨rfl, h0⟩ | ⟨g, cap, cur, rfl, hB, hg, _⟩
 ·refine ⟨none, 0, 0, by rw [h0], fun h => by omega, hpos, ?_⟩
  have : a = [] := List.length_eq_zero_iff.1 h0
  subst this
  intro i e he
  simp at he
 ·exact ⟨some ⟨g, 0, none⟩, cap, g, rfl, fun _ => rfl, (Array.getElem?_eq_some_iff.1 hg).1, elsAt_of h⟩
theorem CompInv.alts {w wx : World} {B' G cap : Nat} {A : List (List El)} {l : List El} {vs : List Value} {vl : Value} (h : CompInv w B' G cap A l vs vl wx) : AltsAt wx (.slice (some ⟨G, 0, none⟩) (A.length + 1) cap) (A ++ [l]) := by
 have hG := (h.outer.lt G rfl).2
 have hcap : A.length + 1 ≤ cap := by
  rcases h.outer.2 with ⟨h0, _⟩ | ⟨g, cp, cur, h0, _, _, h1, _⟩
  ·simp at h0
  ·cases h0
   exact h1
 refine ⟨G, cap, by simp, hG, by simpa using hcap, fun j a hj => ?_⟩
 have hjl : j < A.length + 1 := by have := (List.getElem?_eq_some_iff.1 hj).1; simpa using this
 have hc := h.outer.cellAt j (by omega)
 rcases Nat.lt_or_ge j A.length with hlt | hge
 ·rw [List.getElem?_append_left hlt] at hj
  obtain ⟨v, hv⟩ : ∃ v, vs[j]? = some v := ⟨vs[j]'(by rw [h.len]; exact hlt), List.getElem?_eq_getElem _⟩
  rw [List.getElem?_append_left (by rw [h.len]; exact hlt), hv] at hc
  obtain ⟨aj, cj, gj, rfl, h1, h2, h3⟩ := row_read (h.rows j v a hv hj).1 (by omega)
  exact ⟨aj, cj, gj, hc, h1, h2, h3⟩
 ·obtain rfl : j = A.length := by omega
  rw [List.getElem?_append_right (Nat.le_refl _), Nat.sub_self] at hj
  simp only [List.getElem?_cons_zero, Option.some.injEq] at hj
  subst hj
  rw [List.getElem?_append_right (by rw [h.len]; exact Nat.le_refl _), h.len, Nat.sub_self] at hc
  obtain ⟨aj, cj, gj, rfl, h1, h2, h3⟩ := row_read h.last (by omega)
  exact ⟨aj, cj, gj, hc, h1, h2, h3⟩
theorem CompInv.first {w W1 w2 : World} {c : Nat} (hb : Below w.heap.size w W1) (hown : w2.ownsRow W1.heap.size 108 6 (.slice (some ⟨W1.heap.size, 0, none⟩) 0 c) 0 []) (hg : W1.grownBy w2 none) :
  CompInv w W1.heap.size w2.heap.size 1 [] [] [] (.slice (some ⟨W1.heap.size, 0, none⟩) 0 c) (w2.alloc (.cells #[.slice (some ⟨W1.heap.size, 0, none⟩) 0 c] 78)) := by
 have h2 : w.heap.size ≤ w2.heap.size := Nat.le_trans hb.size hg.size
 have hb2 : Below w.heap.size w w2 := hb.grown hg hb.size (fun k hk => by simp at hk)
 refine ⟨?_, rfl, fun j v a hj _ => by simp at hj, hown.alloc _, hb.size, Nat.le_trans hg.size (by simp), hb2.alloc h2 _⟩
 exact ⟨rfl, Or.inr ⟨w2.heap.size, 1, #[.slice (some ⟨W1.heap.size, 0, none⟩) 0 c], rfl, h2, heap_alloc_last w2 _, Nat.le_refl _, by unfold maxLen; omega, rfl, rfl⟩⟩
end Go.Proofs.YtdlchlbngojljaaDoor.Gl
