/- Valid contents off the tape. -/
import Derived.Test.YtoohnjlghjapnaaDoorS
import Derived.Deep.DeepCutAuto
import Derived.Deep.AppendLies
namespace Go.Proofs.YtoohnjlghjapnaaDoor
open Go.RowKit

theorem res24p {fn : Func} {p : Nat} (h : fn.results = #[.cell p 24]) {tmps : Array Value} {A : Nat} {u0 u1 u2 u3 u4 u5 u6 : Value} {w : World} (h2 : tmps.getD p undef = .pointer (some ⟨A, 0, none⟩)) (hb : BoxV A u0 u1 u2 u3 u4 u5 u6 w) :
    (results fn tmps).run Tryd.prog w = .ok (.agg #[u0, u1, u2, u3, u4, u5, u6]) w := by
  obtain ⟨c0, c1, c2, c3, c4, c5, c6⟩ := hb.cells
  rw [Array.getD_eq_getD_getElem?] at h2
  simp only [results, h]
  simp [go_sem, h2, c0, c1, c2, c3, c4, c5, c6]
/-- What the maker of valid contents leaves. -/
def GenPost (tb k N d : Nat) (w : World) (e : Ending) (w' : World) : Prop :=
  ∃ (c : Con) (v : Value) (k' : Nat), e = .returned (.agg #[.int .i64 c.kind, .string (bs c.id), .string (bs c.lab), .int .i64 c.slot, .int .i64 c.tot, .int .i64 c.lst, v]) ∧ valN d c = true ∧ CHas (fun b => w.heap.size ≤ b) w' v c.inner ∧ Tape w' tb k' ∧ k' ≤ k + N ∧ Kp [tb] w w'
def GenOK (d : Nat) : Prop := ∀ (tb k : Nat) (w : World), Tape w tb k → k + tapeN d ≤ 1000000 → Calls Tryd.prog 9 #[.pointer (some ⟨tb, 0, none⟩), .int .i64 (d : Int)] w (GenPost tb k (tapeN d) d w)
theorem tx_of_val {d : Nat} {c : Con} (h : valN d c = true) : Tx c := by
  by_cases hk : c.kind = 0
  · have : c = con0 := by cases d <;> (unfold valN at h; rw [if_pos hk] at h; exact none_eq h hk)
    rw [this]; exact tx0
  · cases d with
    | zero => unfold valN at h; rw [if_neg hk] at h; cases h
    | succ d =>
      unfold valN at h
      rw [if_neg hk] at h
      simp only [Bool.and_eq_true] at h
      exact ⟨Nat.le_trans (isID_len h.1.1) (by unfold maxLen; omega), Nat.le_trans (lab_len h.1.2) (by unfold maxLen; omega)⟩
theorem val0 (d : Nat) : valN d con0 = true := by cases d <;> rfl
def ids : List (List UInt8) := [[97], [114, 49], [120, 46, 121, 45, 122]]
def labs : List (List UInt8) := [[], [114, 111, 111, 116]]
theorem ids_id : ∀ i, i ∈ ids → isID i = true := by decide +kernel
theorem BoxV.put1 {A : Nat} {v0 v1 v2 v3 v4 v5 v6 : Value} {w : World} (h : BoxV A v0 v1 v2 v3 v4 v5 v6 w) (u : Value) : BoxV A v0 u v2 v3 v4 v5 v6 (w.setCell ⟨A, 1, none⟩ u) := by
  unfold BoxV at h ⊢; simp [World.setCell, Array.getElem?_modify, h]
theorem BoxV.put2 {A : Nat} {v0 v1 v2 v3 v4 v5 v6 : Value} {w : World} (h : BoxV A v0 v1 v2 v3 v4 v5 v6 w) (u : Value) : BoxV A v0 v1 u v3 v4 v5 v6 (w.setCell ⟨A, 2, none⟩ u) := by
  unfold BoxV at h ⊢; simp [World.setCell, Array.getElem?_modify, h]
theorem BoxV.put6 {A : Nat} {v0 v1 v2 v3 v4 v5 v6 : Value} {w : World} (h : BoxV A v0 v1 v2 v3 v4 v5 v6 w) (u : Value) : BoxV A v0 v1 v2 v3 v4 v5 u (w.setCell ⟨A, 6, none⟩ u) := by
  unfold BoxV at h ⊢; simp [World.setCell, Array.getElem?_modify, h]
/-- A content is stored into the result's cell. -/
theorem gen_end {tb k N d A : Nat} {c : Con} {w w3 : World} {v : Value} {k' : Nat} (hA : w.heap.size = A) (hv : CHas (fun b => A < b) w3 v c.inner) (hval : valN d c = true) (T3 : Tape w3 tb k') (hk' : k' ≤ k + N) (K3 : Kp [tb] w w3) (htb : tb < A) :
    GenPost tb k N d w (.returned (.agg #[.int .i64 c.kind, .string (bs c.id), .string (bs c.lab), .int .i64 c.slot, .int .i64 c.tot, .int .i64 c.lst, v])) (put7 w3 A (.int .i64 c.kind) (.string (bs c.id)) (.string (bs c.lab)) (.int .i64 c.slot) (.int .i64 c.tot) (.int .i64 c.lst) v) := by
  have hk : Kp [A] w3 (put7 w3 A (.int .i64 c.kind) (.string (bs c.id)) (.string (bs c.lab)) (.int .i64 c.slot) (.int .i64 c.tot) (.int .i64 c.lst) v) := put7_kp (Kp.refl _ w3) (.inl (by simp)) _ _ _ _ _ _ _
  exact ⟨c, v, k', rfl, hval, hv.keep hk.size fun k hkk hq => ⟨by omega, hk.block k hkk (by simp; omega)⟩, T3.kp hk (by simp; exact htb), hk', K3.up hk (by simp; omega)⟩
/-- An append to a row of contents, in a region that draws its order. -/
theorem step_append_con {ops : Array Oper} {o : Oper} {a : Act} {w : World} {K : Act → World → Prop} {Q : Exit → Act → World → Prop} {E : Prop}
    (hg : o.guard = none) (s x : Operand) (hop : o.op = Op.call { callee := Callee.builtin Builtin.append, args := #[s, x], argTypes := #[22, 22] }) (base : Nat)
    (v : Value) (L : List (Con × Value)) (hs : a.eval s = v) (hown : LOwn w base v L) (c : Con) (u : Value) (hu1 : u.oneCell' = true) (g : Nat) (hx : a.eval x = .slice (some ⟨g, 0, none⟩) 1 1)
    (hcells : ∀ j y, (conC c u)[j]? = some y → w.cell? ((⟨g, 0, none⟩ : Addr).add j) = some y) (htx : Tx c) (hu : CHas (fun b => base ≤ b ∧ v.ownBlock ≠ some b) w u c.inner) (hl : L.length ≤ 1000000) (hb : base ≤ w.heap.size)
    (hK : ∀ v' w', LOwn w' base v' (L ++ [(c, u)]) → w.grownBy w' v.ownBlock → K (a.put o.dst v') w') :
    if Region.wanted o (yielded ops a.tmps) = true then Oper.wp Tryd.prog o a w K Q else E := by
  have hw : Region.wanted o (yielded ops a.tmps) = true := by simp [Region.wanted, hg]
  rw [if_pos hw]
  obtain ⟨i0, hi0, hz0, hz1, hz2⟩ := info_parts info24
  obtain ⟨v', w', h1, h2, h3, _, h5⟩ := run_append_own_at (P := Tryd.prog) w base 22 o.type 24 i0 _ 7 88 Tryd.underlying22 hi0 hz0 hz1 hz2 rfl (by decide) v L.length (rowC L) hown.1 ⟨g, 0, none⟩ 1 1 (conC c u) rfl hcells (conC_one hu1) (by unfold maxLen; omega) (by omega) hb
  unfold Oper.wp
  simp [execOp, hop, resolve, invoke, builtin, hs, hx, h1, Result.andThen]
  exact hK v' w' (hown.snoc htx hu h2 h3 h5) h3

theorem own_form {w : World} {B : Nat} {v : Value} {L : List (Con × Value)} (h : LOwn w B v L) : ∃ a n c, v = .slice a n c := by
  obtain ⟨a, c, h⟩ := h.form
  exact ⟨a, _, c, h⟩
/-- Where the loop that puts contents into a content stands. -/
def GLoop (w : World) (tb A C d' k0 : Nat) (kd : Int) (i : List UInt8) (s t e : Int) (m : Nat) (wx : World) : Prop :=
  ∃ (L : List (Con × Value)) (v : Value) (kt : Nat), L.length = m ∧ (∀ p ∈ L, valN d' p.1 = true) ∧ LOwn wx (C + 1) v L ∧ BoxV C (.int .i64 kd) (.string (bs i)) (.string ⟨#[]⟩) (.int .i64 s) (.int .i64 t) (.int .i64 e) v wx ∧ Zero7 A wx ∧ Tape wx tb kt ∧ kt ≤ k0 + m * tapeN d' ∧ Kp [tb] w wx
/-- What the loop knows once the content to put in is there and lies in a row of its own. -/
structure Ready (w : World) (tb A C k' : Nat) (kd : Int) (i : List UInt8) (s t e : Int) (v : Value) (L : List (Con × Value)) (c : Con) (u : Value) (W : World) : Prop where
  own : LOwn W (C + 1) v L
  has : CHas (fun b => C + 1 ≤ b ∧ v.ownBlock ≠ some b) W u c.inner
  box : BoxV C (.int .i64 kd) (.string (bs i)) (.string ⟨#[]⟩) (.int .i64 s) (.int .i64 t) (.int .i64 e) v W
  zer : Zero7 A W
  tape : Tape W tb k'
  kp : Kp [tb] w W
  size : C + 1 ≤ W.heap.size
theorem loop_call {w wr wb : World} {tb A C k' : Nat} {kd : Int} {i : List UInt8} {s t e : Int} {v : Value} {L : List (Con × Value)} {c : Con} {u : Value} (o : Obj) (htb : tb < A) (hAC : A + 1 ≤ C)
    (hLo : LOwn wr (C + 1) v L) (hBx : BoxV C (.int .i64 kd) (.string (bs i)) (.string ⟨#[]⟩) (.int .i64 s) (.int .i64 t) (.int .i64 e) v wr) (hZr : Zero7 A wr) (hKp : Kp [tb] w wr)
    (hk : Kp [tb] wr.drew wb) (hT : Tape wb tb k') (hu : CHas (fun b => wr.drew.heap.size ≤ b) wb u c.inner) :
    Ready w tb A C k' kd i s t e v L c u wb ∧ Ready w tb A C k' kd i s t e v L c u (wb.alloc o) := by
  have hk' : Kp [tb] wr wb := ((Kp.refl [tb] wr).drew 1).trans hk
  have hC := block_lt hBx
  have h1 : Ready w tb A C k' kd i s t e v L c u wb :=
    ⟨hLo.kp hk' (by simp; omega), hu.mono fun b _ hq => ⟨by have : wr.heap.size ≤ b := hq; omega, fun e2 => by have := hLo.1.lt b e2; have : wr.heap.size ≤ b := hq; omega⟩, hBx.kp hk' (by simp; omega), BoxV.kp hZr hk' (by simp; omega), hT, hKp.trans hk', by have := hk'.size; omega⟩
  have hal : Kp [] wb (wb.alloc o) := (Kp.refl [] wb).alloc _
  exact ⟨h1, ⟨h1.own.kp hal (by simp), kp_has h1.has hal, h1.box.kp hal (by simp), BoxV.kp h1.zer hal (by simp), h1.tape.kp hal (by simp), h1.kp.trans (hal.mono (by simp)), by have := h1.size; rw [al_size]; omega⟩⟩
theorem loop_app {w W w8 : World} {tb A C k' : Nat} {kd : Int} {i : List UInt8} {s t e : Int} {v v' : Value} {L : List (Con × Value)} {c : Con} {u : Value} (htb : tb < A) (hAC : A + 1 ≤ C) (hr : Ready w tb A C k' kd i s t e v L c u W) (hA : w.heap.size = A)
    (hg : W.grownBy w8 v.ownBlock) : BoxV C (.int .i64 kd) (.string (bs i)) (.string ⟨#[]⟩) (.int .i64 s) (.int .i64 t) (.int .i64 e) v w8 ∧
      (∀ d' k0 m, L.length = m → (∀ p ∈ L, valN d' p.1 = true) → valN d' c = true → k' ≤ k0 + (m + 1) * tapeN d' → LOwn w8 (C + 1) v' (L ++ [(c, u)]) → GLoop w tb A C d' k0 kd i s t e (m + 1) (w8.setCell ⟨C, 6, none⟩ v')) := by
  have hbig : ∀ k, v.ownBlock = some k → C + 1 ≤ k := fun k hk => (hr.own.1.lt k hk).1
  have hne : ∀ k, k < C + 1 → some k ≠ v.ownBlock := fun k hk e2 => by have := hbig k e2.symm; omega
  have hkp8 : Kp [tb] w w8 := grown_kp (B := C + 1) hg hbig hr.kp (by omega)
  have hB8 : BoxV C (.int .i64 kd) (.string (bs i)) (.string ⟨#[]⟩) (.int .i64 s) (.int .i64 t) (.int .i64 e) v w8 := (hg.block C (block_lt hr.box) (hne C (by omega))).trans hr.box
  have hZ8 : Zero7 A w8 := (hg.block A (block_lt hr.zer) (hne A (by omega))).trans hr.zer
  have hT8 : Tape w8 tb k' := hr.tape.keep fun b hb => hg.block b (Nat.lt_of_le_of_lt hb hr.tape.lt) (hne b (by omega))
  refine ⟨hB8, fun d' k0 m hL hLv hc hk hown => ?_⟩
  have hks : Kp [C] w8 (w8.setCell ⟨C, 6, none⟩ v') := (Kp.refl _ w8).setCell (.inl (by simp)) _
  refine ⟨L ++ [(c, u)], v', k', by rw [List.length_append, hL]; rfl, fun p hp => ?_, hown.kp hks (by simp), hB8.put6 v', BoxV.kp hZ8 hks (by simp; omega), hT8.kp hks (by simp; omega), hk, hkp8.up hks (by simp; omega)⟩
  rw [List.mem_append, List.mem_singleton] at hp
  rcases hp with hp | rfl
  · exact hLv p hp
  · exact hc
theorem next_ready {w X wa : World} {tb A C : Nat} {v0 v1 v2 v3 v4 v5 v6 : Value} (htb : tb < A) (hAC : A + 1 ≤ C) (hB : BoxV C v0 v1 v2 v3 v4 v5 v6 X) (hZ : Zero7 A X) (hK : Kp [tb] w X) (hk : Kp [tb] X wa) : BoxV C v0 v1 v2 v3 v4 v5 v6 wa ∧ Zero7 A wa ∧ Kp [tb] w wa :=
  ⟨hB.kp hk (by simp; omega), BoxV.kp hZ hk (by simp; omega), hK.trans hk⟩
theorem kp_undrew {S : List Nat} {X wa : World} (hk : Kp S X.drew wa) : Kp S X wa := ((Kp.refl S X).drew 1).trans hk
theorem val_in {d' m : Nat} {kd : Int} {i : List UInt8} {s t e : Int} {L : List (Con × Value)} (hi : i ∈ ids) (hL : L.length = m) (hv : ∀ p ∈ L, valN d' p.1 = true) (hh : ∀ l : List Con, l.length = m → kd ≠ 0 ∧ headOK (.mk kd i [] s t e l) = true) :
    valN (d' + 1) (.mk kd i [] s t e (L.map Prod.fst)) = true := by
  obtain ⟨h1, h2⟩ := hh (L.map Prod.fst) (by rw [List.length_map]; exact hL)
  unfold valN
  rw [if_neg (by exact h1), h2]
  simp only [Con.id, Con.inner, ids_id i hi, Bool.true_and, List.all_map, List.all_eq_true]
  exact fun p hp => hv p hp
theorem head3 {i : List UInt8} (l : List Con) (hl : l.length = 1) : (3 : Int) ≠ 0 ∧ headOK (.mk 3 i [] 0 0 0 l) = true := ⟨by decide, by simp [headOK, Con.kind, Con.lab, Con.inner, none0, Con.tot, Con.slot, Con.lst, hl]⟩
theorem head5 {i : List UInt8} (l : List Con) (h1 : 1 ≤ l.length) (h2 : l.length ≤ 16) : (5 : Int) ≠ 0 ∧ headOK (.mk 5 i [] 0 0 0 l) = true := ⟨by decide, by unfold headOK none0; simp [Con.kind, Con.lab, Con.inner, Con.tot, Con.slot, Con.lst, h1, h2]⟩
theorem head4 {i : List UInt8} {s t : Int} (l : List Con) (h1 : 1 ≤ l.length) (h2 : l.length ≤ 16) (h3 : 1 ≤ s) (h4 : s ≤ t) (h5 : t ≤ 16) : (4 : Int) ≠ 0 ∧ headOK (.mk 4 i [] s t 0 l) = true := ⟨by decide, by unfold headOK slotsOK; simp [Con.kind, Con.lab, Con.inner, Con.tot, Con.slot, Con.lst, h1, h2, h3, h4, h5, Int.le_trans h3 h4]⟩
theorem head2 {i : List UInt8} {s t e : Int} (l : List Con) (h1 : l.length = 1) (h3 : 1 ≤ s) (h4 : s ≤ t) (h5 : t ≤ 16) (h6 : 1 ≤ e) (h7 : e ≤ t) : (2 : Int) ≠ 0 ∧ headOK (.mk 2 i [] s t e l) = true := ⟨by decide, by unfold headOK slotsOK; simp [Con.kind, Con.lab, Con.inner, Con.tot, Con.slot, Con.lst, h1, h3, h4, h5, h6, h7, Int.le_trans h3 h4]⟩
theorem val_fs {d : Nat} {i l : List UInt8} (hi : i ∈ ids) (hl : l ∈ labs) : valN (d + 1) (.mk 1 i l 0 0 0 []) = true := by
  have h1 := ids_id i hi
  have h2 : (l.isEmpty || isID l) = true := by
    simp only [labs, List.mem_cons, List.not_mem_nil, or_false] at hl
    rcases hl with rfl | rfl <;> decide +kernel
  simp [valN, Con.kind, Con.id, h1, headOK, Con.lab, h2, none0, Con.tot, Con.slot, Con.lst, Con.inner]
end Go.Proofs.YtoohnjlghjapnaaDoor
