/- The walk of LexerJoins. -/
import Derived.Test.YtccmlodocfpbhaaDoorLLines
namespace Go.Proofs.YtccmlodocfpbhaaDoor
open Go.RowKit

theorem RT.Own.form2 {α : Type} {r : RT α} {w : World} {B : Nat} {v : Value} {l : List α} (h : r.Own w B v l) : (v = .slice none 0 0 ∧ l = []) ∨ ∃ g cap, v = .slice (some ⟨g, 0, none⟩) l.length cap ∧ B ≤ g ∧ g < w.heap.size ∧ l.length ≤ cap ∧ cap ≤ maxLen ∧ r.Row w g 0 l := by
  rcases h.2 with ⟨hv, hn⟩ | ⟨g, cap, cur, hv, hB, hh, hc, hcm, hcz, ht⟩
  · exact .inl ⟨hv, List.length_eq_zero_iff.1 hn⟩
  · exact .inr ⟨g, cap, hv, hB, block_lt hh, hc, hcm, RT.row_of (cur := cur.toList) (by rw [Array.toArray_toList]; exact hh) ht⟩
theorem RT.Row.src {α : Type} {r : RT α} {w : World} {g : Nat} {l : List α} (h : r.Row w g 0 l) : ∀ j u, (r.cells l)[j]? = some u → w.cell? ((⟨g, 0, none⟩ : Addr).add j) = some u := fun j u hj => by
  rw [add_addr, Nat.zero_add]
  have hjl := (List.getElem?_eq_some_iff.1 hj).1
  rw [r.cells_len] at hjl
  have hd : j / r.sz < l.length := Nat.div_lt_of_lt_mul (by rw [Nat.mul_comm]; exact hjl)
  have hm : j % r.sz < r.sz := Nat.mod_lt _ r.pos
  have he : j / r.sz * r.sz + j % r.sz = j := by rw [Nat.mul_comm]; exact Nat.div_add_mod j r.sz
  obtain ⟨x, hx⟩ : ∃ x, l[j / r.sz]? = some x := ⟨_, List.getElem?_eq_getElem hd⟩
  have h1 := r.cells_get l (j / r.sz) x (j % r.sz) hx hm
  rw [he, hj] at h1
  have h2 := h (j / r.sz) x hx (j % r.sz) u h1.symm
  rwa [Nat.zero_add, he] at h2
/-- An own row behind an own row. -/
theorem run_append_rs {α : Type} {r : RT α} {w : World} {base B2 : Nat} {v sv : Value} {xs ys : List α} (ty : TypeId) (hown : r.Own w base v xs) (hy : r.Own w B2 sv ys) (hb1 : xs.length + ys.length ≤ 1000000) (hb : base ≤ w.heap.size) :
    ∃ v' w', (Builtin.append_ #[r.sl, r.sl] ty #[v, sv]).run Tryd.prog w = .ok v' w' ∧ r.Own w' base v' (xs ++ ys) ∧ w.grownBy w' v.ownBlock := by
  obtain ⟨i0, hi0, hz0, hz1, hz2⟩ := info_parts r.info
  rcases hy.form2 with ⟨rfl, rfl⟩ | ⟨g, c, rfl, _, _, _, _, hr⟩
  · exact ⟨v, w, run_append_owned_none w base r.sl ty r.ty i0 r.sz r.und hi0 v xs.length (r.cells xs) hown, by rw [List.append_nil]; exact hown, ⟨rfl, rfl, rfl, Nat.le_refl _, fun _ _ _ => rfl⟩⟩
  · obtain ⟨v', w', h1, h2, h3, _⟩ := run_append_own (P := Tryd.prog) w base r.sl ty r.ty i0 _ r.sz r.bt r.und hi0 hz0 hz1 hz2 r.zs r.pos v xs.length (r.cells xs) hown ⟨g, 0, none⟩ ys.length c (r.cells ys)
      (r.cells_len ys) hr.src (r.cells_one ys) (by unfold maxLen; omega) (by
        have := r.btl
        have : (xs.length + ys.length) * r.bt ≤ 1000001 * 64 := Nat.mul_le_mul (by omega) this
        omega) hb
    refine ⟨v', w', h1, ?_, h3⟩
    unfold RT.Own
    rw [List.length_append, RT.cells_append]
    exact h2
theorem wpList_append_rs {α : Type} {r : RT α} {ops : Array Oper} {rest : List Oper} {o : Oper} {a : Act} {w : World} {Q : Exit → Act → World → Prop} (hg : o.guard = none) (s y : Operand)
    (hop : o.op = Op.call { callee := Callee.builtin Builtin.append, args := #[s, y], argTypes := #[r.sl, r.sl] }) (base B2 : Nat)
    (v sv : Value) (xs ys : List α) (hs : a.eval s = v) (hown : r.Own w base v xs) (hx : a.eval y = sv) (hy : r.Own w B2 sv ys) (hb1 : xs.length + ys.length ≤ 1000000) (hb : base ≤ w.heap.size)
    (hK : ∀ v' w', r.Own w' base v' (xs ++ ys) → w.grownBy w' v.ownBlock → wpList Tryd.prog ops Q rest (a.put o.dst v') w') : wpList Tryd.prog ops Q (o :: rest) a w := by
  refine wpList_plain hg fun K hK' => ?_
  obtain ⟨v', w', h1, h2, h3⟩ := run_append_rs o.type hown hy hb1 hb
  unfold Oper.wp
  simp [execOp, hop, resolve, invoke, builtin, hs, hx, h1, Result.andThen]
  exact hK' _ _ (hK v' w' h2 h3)
/-- A line's number in an own row is written. -/
theorem own_num {w : World} {B g cap i z : Nat} {x : Ln} {l : List Ln} (h : lnT.Own w B (.slice (some ⟨g, 0, none⟩) l.length cap) l) (hx : l[i]? = some x) :
    lnT.Own (w.setCell ⟨g, i * 2, none⟩ (.int .i64 (z : Int))) B (.slice (some ⟨g, 0, none⟩) l.length cap) (l.set i (z, x.2)) ∧ w.frozen? ⟨g, i * 2, none⟩ = false := by
  have hi := (List.getElem?_eq_some_iff.1 hx).1
  rcases h.2 with ⟨hv, _⟩ | ⟨g', cap', cur, hv, hB, hh, hc, hcm, hcz, ht⟩
  · cases hv
  · cases hv
    refine ⟨⟨?_, .inr ⟨g, cap, cur.set! (i * 2) (.int .i64 (z : Int)), by rw [List.length_set], hB, ?_, by rw [List.length_set]; exact hc, hcm, by simpa using hcz, ?_⟩⟩, by simp [World.frozen?, hh]⟩
    · rw [RT.cells_len, List.length_set]
    · simp [World.setCell, Array.getElem?_modify, hh]
    · rw [List.length_set]
      have e : (cur.set! (i * 2) (Value.int .i64 (z : Int))).toList = cur.toList.set (i * 2) (.int .i64 (z : Int)) := by simp
      rw [e]
      have e2 : ∀ (n m : Nat) (u : Value) (q : List Value), m < n → (q.set m u).take n = (q.take n).set m u := fun n m u q hm => by
        apply List.ext_getElem?
        intro k
        by_cases hk : k < n
        · rw [List.getElem?_take_of_lt hk, List.getElem?_set, List.getElem?_set, List.getElem?_take_of_lt hk, List.length_take]
          by_cases hmk : m = k
          · subst hmk
            simp only [if_true]
            by_cases hl : m < q.length
            · rw [if_pos hl, if_pos (by omega)]
            · rw [if_neg hl, if_neg (by omega)]
          · rw [if_neg hmk, if_neg hmk]
        · rw [List.getElem?_eq_none (by rw [List.length_take]; omega), List.getElem?_eq_none (by rw [List.length_set, List.length_take]; omega)]
      rw [show lnT.sz = 2 from rfl] at ht ⊢
      rw [e2 _ _ _ _ (by omega), ht]
      have e3 : ∀ (q : List Ln) (k : Nat) (y : Ln), q[k]? = some y → (lnT.cells q).set (k * 2) (.int .i64 (z : Int)) = lnT.cells (q.set k (z, y.2)) := by
        intro q
        induction q with
        | nil => intro k y hy; simp at hy
        | cons a q ih =>
          intro k y hy
          cases k with
          | zero =>
            simp only [List.getElem?_cons_zero, Option.some.injEq] at hy
            subst hy
            rfl
          | succ k =>
            have := ih k y (by simpa using hy)
            rw [List.set_cons_succ, RT.cells_cons, RT.cells_cons, ← this]
            show ([Value.int .i64 (a.1 : Int), .string (bs a.2)] ++ lnT.cells q).set ((k + 1) * 2) _ = _
            rw [show (k + 1) * 2 = (k * 2 + 1) + 1 by omega]
            rfl
      exact e3 l i x hx
/-- The first i numbers moved on by n. -/
def moved (n i : Nat) (l : List Ln) : List Ln := (l.take i).map (fun x => (x.1 + n, x.2)) ++ l.drop i
theorem moved_zero (n : Nat) (l : List Ln) : moved n 0 l = l := rfl
theorem moved_len (n i : Nat) (l : List Ln) : (moved n i l).length = l.length := by
  unfold moved
  simp
  omega
theorem moved_get {n i : Nat} {l : List Ln} {x : Ln} (h : l[i]? = some x) : (moved n i l)[i]? = some x ∧ (moved n i l).set i (x.1 + n, x.2) = moved n (i + 1) l := by
  have hi := (List.getElem?_eq_some_iff.1 h).1
  have hl : ((l.take i).map (fun x : Ln => (x.1 + n, x.2))).length = i := by simp; omega
  have hd : l.drop i = x :: l.drop (i + 1) := drop_get h
  unfold moved
  constructor
  · rw [List.getElem?_append_right (by omega), hl, Nat.sub_self, hd]
    rfl
  · rw [List.set_append_right _ _ (by omega), hl, Nat.sub_self, hd, List.set_cons_zero, List.take_add_one, h]
    simp
theorem moved_all (n : Nat) (l : List Ln) : moved n l.length l = l.map fun x => (x.1 + n, x.2) := by
  unfold moved
  simp
theorem moved_at {n i : Nat} {l : List Ln} {m : Ln} (h : (moved n i l)[i]? = some m) : l[i]? = some m ∧ (moved n i l).set i (m.1 + n, m.2) = moved n (i + 1) l := by
  have hi : i < l.length := by have := (List.getElem?_eq_some_iff.1 h).1; rwa [moved_len] at this
  obtain ⟨x, hx⟩ : ∃ x, l[i]? = some x := ⟨_, List.getElem?_eq_getElem hi⟩
  obtain ⟨h1, h2⟩ := moved_get (n := n) hx
  rw [h1] at h
  cases h
  exact ⟨hx, h2⟩
theorem count_bs (l : List UInt8) (w : World) : Calls Tryd.prog 25 #[.string (bs l), .string ⟨#[10]⟩] w fun r w' => r = .returned (.int .i64 ((l.count 10 : Nat) : Int)) ∧ w = w' := by
  have h := Tryd.strings_Count_one (bs l) 10 w
  rw [bs_data] at h
  exact h.mono fun _ _ ⟨h1, h2⟩ => ⟨h1, h2.symm⟩
theorem linesN_num : ∀ (m i : Nat) (l : List (List UInt8)), l.length ≤ m → ∀ x ∈ linesN i l, x.1 ≤ i + l.length
  | _, i, [], _, x, hx => by simp [linesN] at hx
  | m + 1, i, a :: r, h, x, hx => by
    have hl := contL_len a r
    rw [linesN_cons, List.mem_append] at hx
    simp only [List.length_cons] at h ⊢
    rcases hx with hx | hx
    · split at hx
      · cases hx
      · rw [List.mem_singleton.1 hx]; simp only; omega
    · have := linesN_num m _ _ (by omega) x hx
      omega
theorem linesL_num (s : List UInt8) : ∀ x ∈ linesL s, x.1 ≤ s.length + 2 := fun x hx => by
  have h1 := (pieces_len s).2
  have h3 : (physL s).length ≤ (piecesL s).length := by
    unfold physL
    split
    · rw [List.length_dropLast]; omega
    · exact Nat.le_refl _
  have := linesN_num _ 1 (physL s) (Nat.le_refl _) x hx
  omega

theorem own_grown {α : Type} {r : RT α} {w w' : World} {B B' : Nat} {u v : Value} {l m : List α} (h : r.Own w B u l) (_h' : r.Own w B' v m) (hg : w.grownBy w' v.ownBlock) (hd : ∀ b c, v.ownBlock = some b → u.ownBlock = some c → c ≠ b) : r.Has w' u l :=
  (h.keep fun b hb hu => hg.block b hb fun e => hd b b e.symm hu rfl).has

set_option maxHeartbeats 4000000 in
set_option maxRecDepth 100000 in
theorem lexerJoins_list (a b : List UInt8) (w : World) (hm : Max w) (ha9 : a.length ≤ 9223372036854775807) : Calls Tryd.prog 8 #[.string (bs a), .string (bs b)] w fun e w' => e = .returned (.bool true) ∧ Below w.heap.size w w' := by
  have HK := Lib.hid fun W (h : Kp [] w W) => known_any W (hm.kp h (by simp))
  have HK0 := Lib.hid (HK.out w (Kp.refl _ _))
  have HSF := Lib.hid ((suf92 a w ha9).mono fun _ _ ⟨h1, h2⟩ => (⟨h1, h2.symm⟩ : _ ∧ w = _))
  by_cases hla : 500 < a.length
  · have hz : (500 : Int) < ((bs a).size : Int) := by rw [bs_size]; omega
    clear hla hm ha9
    go_enter Tryd.func8, Tryd.ntmps8
    go_wp2_with (go_at_call 10; refine Calls.mono (by with_reducible exact HK0.out) ?_; rintro r w4 ⟨rfl, hk⟩; have HK4 := Lib.hid hk; clear hk)
    go_ret
    exact ⟨rfl, HK4.out.toBelowL⟩
  · have hz : ¬ (500 : Int) < ((bs a).size : Int) := by rw [bs_size]; omega
    by_cases hlb : 500 < b.length
    · have hz2 : (500 : Int) < ((bs b).size : Int) := by rw [bs_size]; omega
      clear hla hlb hm ha9
      go_enter Tryd.func8, Tryd.ntmps8
      go_wp2_with (go_at_call 10; refine Calls.mono (by with_reducible exact HK0.out) ?_; rintro r w4 ⟨rfl, hk⟩; have HK4 := Lib.hid hk; clear hk)
      go_ret
      exact ⟨rfl, HK4.out.toBelowL⟩
    · have hz2 : ¬ (500 : Int) < ((bs b).size : Int) := by rw [bs_size]; omega
      cases he : (a.getLast? == some 92) with
      | true =>
        rw [he] at HSF
        clear hla hlb hm ha9 he
        go_enter Tryd.func8, Tryd.ntmps8
        go_wp2_with (first
          | (go_at_call 24; refine Calls.mono (by with_reducible exact HSF.out) ?_; rintro r w4 ⟨rfl, rfl⟩)
          | (go_at_call 10; refine Calls.mono (by with_reducible exact HK0.out) ?_; rintro r w4 ⟨rfl, hk⟩; have HK4 := Lib.hid hk; clear hk))
        go_ret
        exact ⟨rfl, HK4.out.toBelowL⟩
      | false =>
        rw [he] at HSF
        have hjoin := linesL_join (a := a) (b := b) (by simpa using he)
        have s10 : (⟨#[10]⟩ : ByteArray).size = 1 := rfl
        have c1 := fun W => @run_add_strO Tryd.prog W (bs a) ⟨#[10]⟩ (by rw [bs_size, s10]; omega)
        have c2 := fun W => @run_add_strO Tryd.prog W (bs a ++ ⟨#[10]⟩) (bs b) (by rw [ByteArray.size_append, bs_size, bs_size, s10]; omega)
        have e1 : bs a ++ ⟨#[10]⟩ = bs (a ++ [10]) := by rw [show (⟨#[10]⟩ : ByteArray) = bs [10] from rfl, bs_appO]
        have e2 : bs a ++ ⟨#[10]⟩ ++ bs b = bs (a ++ 10 :: b) := by rw [show (⟨#[10]⟩ : ByteArray) = bs [10] from rfl, bs_appO, bs_appO]; simp
        have hx := lines_any (a ++ [10]) w hm (by simp; omega)
        have hy := fun W (h : Kp [] w W) => lines_any b W (hm.kp h (by simp)) (by omega)
        have hzz := fun W (h : Kp [] w W) => lines_any (a ++ 10 :: b) W (hm.kp h (by simp)) (by simp; omega)
        rw [← e1] at hx
        rw [← e2] at hzz
        have HX := Lib.hid hx
        have HY := Lib.hid hy
        have HZ := Lib.hid hzz
        have hnx := linesL_len (a ++ [10])
        have hny := linesL_len b
        have hnz := linesL_len (a ++ 10 :: b)
        have hcnt : a.count 10 ≤ a.length := List.count_le_length
        have hnum := linesL_num b
        rw [List.length_append] at hnx
        simp only [List.length_append, List.length_cons, List.length_nil] at hnx hnz
        obtain ⟨n, hn⟩ : ∃ n, a.count 10 + 1 = n := ⟨_, rfl⟩
        rw [hn] at hjoin
        have hcb := fun W => count_bs a W
        have HC := Lib.hid hcb
        obtain ⟨cn, hcn⟩ : ∃ cn, a.count 10 = cn := ⟨_, rfl⟩
        rw [hcn] at HC
        have hwn : IntKind.i64.wrap ((cn : Int) + 1) = ((n : Nat) : Int) := by rw [IntKind.wrap_i64]; omega
        obtain ⟨lx, hlx⟩ : ∃ lx, linesL (a ++ [10]) = lx := ⟨_, rfl⟩
        obtain ⟨ly, hly⟩ : ∃ ly, linesL b = ly := ⟨_, rfl⟩
        obtain ⟨lz, hlz⟩ : ∃ lz, linesL (a ++ 10 :: b) = lz := ⟨_, rfl⟩
        rw [hlx] at HX hnx hjoin
        rw [hly] at HY hny hjoin hnum
        rw [hlz] at HZ hnz hjoin
        have HJ := Lib.hid hjoin
        have HNM := Lib.hid (show (∀ x ∈ ly, x.1 ≤ 502) ∧ n ≤ 501 ∧ lx.length ≤ 1000 ∧ ly.length ≤ 1000 ∧ lz.length ≤ 2000 from ⟨fun x hx => by have := hnum x hx; omega, by omega, by omega, by omega, by omega⟩)
        have HS := Lib.hid fun W u v => sameLines_any (w := W) (su := u) (sv := v) (l := lz) (by omega)
        clear hla hlb hm ha9 he hjoin hx hy hzz e1 e2 hnx hny hnz hcnt hnum hcb hn hcn hlx hly hlz s10
        go_enter Tryd.func8, Tryd.ntmps8
        go_wp2_with (first
          | (go_at_call 24; refine Calls.mono (by with_reducible exact HSF.out) ?_; rintro r w4 ⟨rfl, rfl⟩)
          | (go_at_call 12; refine Calls.mono (by with_reducible exact HX.out) ?_; rintro r w1 ⟨v1, rfl, ho, hk⟩; have HK1 := Lib.hid hk; have HO1 := Lib.hid ho; clear hk ho)
          | (go_at_call 12; refine Calls.mono (by with_reducible exact HY.out _ HK1.out) ?_; rintro r w2 ⟨v2, rfl, ho, hk⟩; have HK2 := Lib.hid (HK1.out.trans hk); have HK12 := Lib.hid hk.size; have HO2 := Lib.hid ho; have HO12 := Lib.hid (HO1.out.kp0 hk); clear hk ho)
          | (go_at_call 12; refine Calls.mono (by with_reducible exact HZ.out _ HK2.out) ?_; rintro r w3 ⟨v3, rfl, ho, hk⟩; have HK3 := Lib.hid (HK2.out.trans hk); have HO3 := Lib.hid ho; have HO13 := Lib.hid (HO12.out.kp0 hk); have HO23 := Lib.hid (HO2.out.kp0 hk); clear hk ho)
          | (go_at_call 25; refine Calls.mono (by with_reducible exact HC.out _) ?_; rintro r w4 ⟨rfl, rfl⟩))
        have hb1 : ∀ b, v1.ownBlock = some b → b < w1.heap.size := fun b hb => (HO1.out.ge b hb).2
        have hb3 : ∀ b, v3.ownBlock = some b → w2.heap.size ≤ b := fun b hb => (HO3.out.ge b hb).1
        have hb2 : ∀ b, v2.ownBlock = some b → w1.heap.size ≤ b ∧ b < w2.heap.size := fun b hb => HO2.out.ge b hb
        have HB := Lib.hid (show (∀ b c, v2.ownBlock = some b → v1.ownBlock = some c → c ≠ b) ∧ (∀ b c, v2.ownBlock = some b → v3.ownBlock = some c → c ≠ b) ∧ (∀ b, v2.ownBlock = some b → w.heap.size ≤ b) from
          ⟨fun b c h2 h1 => by have := hb1 c h1; have := hb2 b h2; omega, fun b c h2 h3 => by have := hb3 c h3; have := hb2 b h2; omega, fun b h2 => by have := hb2 b h2; have := HK1.out.size; omega⟩)
        obtain ⟨B3, hB3⟩ : ∃ B3, w2.heap.size = B3 := ⟨_, rfl⟩
        obtain ⟨B2, hB2⟩ : ∃ B2, w1.heap.size = B2 := ⟨_, rfl⟩
        rw [hB3] at HO3
        rw [hB2] at HO23
        have hf2 := HO23.out.form2
        have HD := Lib.hid (show ∀ b c, v1.ownBlock = some b → v3.ownBlock = some c → c ≠ b from fun b c h1 h3 => by have := hb1 b h1; have := hb3 c h3; have := HK12.out; omega)
        clear hb1 hb2 hb3 hB3 hB2
        have hv2 : ∃ ad cp, v2 = .slice ad ly.length cp ∧ (∀ i, i < ly.length → ∃ g, ad = some ⟨g, 0, none⟩) := by
          rcases hf2 with ⟨rfl, rfl⟩ | ⟨g, cap, rfl, _⟩
          · exact ⟨none, 0, rfl, fun i hi => absurd hi (Nat.not_lt_zero _)⟩
          · exact ⟨_, _, rfl, fun i _ => ⟨g, rfl⟩⟩
        obtain ⟨ad, cp, rfl, had⟩ := hv2
        have HAD := Lib.hid had
        clear hf2 had
        go_loopg [9] ly.length (fun g s9 wx => ∃ i : Nat, s9 = .int .i64 (i : Int) ∧ i + g = ly.length ∧ lnT.Own wx B2 (.slice ad ly.length cp) (moved n i ly) ∧ lnT.Own wx w.heap.size v1 lx ∧ lnT.Own wx B3 v3 lz ∧ Kp [] w wx)
        case atStart => exact ⟨0, rfl, by omega, by rw [moved_zero]; exact HO23.out, HO13.out, HO3.out, HK3.out⟩
        case round =>
          obtain ⟨i, rfl, hig, ho2, ho1, ho3, hkp⟩ := hrel
          have HP2 := Lib.hid ho2
          have HP1 := Lib.hid ho1
          have HP3 := Lib.hid ho3
          have HKP := Lib.hid hkp
          by_cases hi : i < ly.length
          · obtain ⟨g, rfl⟩ := HAD.out i hi
            obtain ⟨g2, rfl⟩ : ∃ g2, gk = g2 + 1 := ⟨gk - 1, by omega⟩
            have hiz : (i : Int) < (ly.length : Int) := by omega
            obtain ⟨x, hx⟩ : ∃ x, (moved n i ly)[i]? = some x := ⟨_, List.getElem?_eq_getElem (by rw [moved_len]; exact hi)⟩
            obtain ⟨hxl, hset⟩ := moved_at hx
            have hxm : x.1 ≤ 502 := HNM.out.1 x (List.mem_of_getElem? hxl)
            have hnn := HNM.out
            rw [← moved_len n i ly] at ho2
            have hon := own_num (z := x.1 + n) ho2 hx
            rw [hset, moved_len] at hon
            have hrow : ∃ (rr : lnT.Row wr g 0 (moved n i ly)), True := by
              rcases ho2.form2 with ⟨h, _⟩ | ⟨g', cap, h, _, _, _, _, hr⟩
              · cases h
              · cases h
                exact ⟨hr, trivial⟩
            obtain ⟨hr, _⟩ := hrow
            have hcc := (lnRow hr hx).1
            rw [Nat.zero_add] at hcc
            have hfz := hon.2
            have HON := Lib.hid hon.1
            have hwi : IntKind.i64.wrap ((i : Int) + 1) = ((i + 1 : Nat) : Int) := by rw [IntKind.wrap_i64]; omega
            have hwx : IntKind.i64.wrap ((x.1 : Int) + (n : Int)) = ((x.1 + n : Nat) : Int) := by rw [IntKind.wrap_i64]; omega
            have HI := Lib.hid hig
            clear ho1 ho2 ho3 hkp hx hxl hset hxm hnn hon hr hig
            go_wp2
            go_roundg g2
            case measure => omega
            case rel =>
              refine ⟨i + 1, rfl, by have := HI.out; omega, HON.out, ?_, ?_, ?_⟩
              · exact HP1.out.set (fun c hc => HB.out.1 g c rfl hc) _
              · exact HP3.out.set (fun c hc => HB.out.2.1 g c rfl hc) _
              · exact HKP.out.setCell (.inr (HB.out.2.2 g rfl)) _
          · have hie : i = ly.length := by omega
            have hiz : ¬ ((i : Int) < (ly.length : Int)) := by omega
            rw [hie, moved_all] at HP2
            have HNN := HNM.out
            have HLEN := Lib.hid (show lx.length + (ly.map fun x => (x.1 + n, x.2)).length ≤ 1000000 by rw [List.length_map]; omega)
            clear ho1 ho2 ho3 hkp hig hie HNN
            go_wp2_with (first
              | (at_builtin; refine wpList_append_rs (r := lnT) rfl (.tmp 51) (.tmp 52) rfl w.heap.size B2 v1 (.slice ad ly.length cp) lx _ rfl HP1.out rfl HP2.out HLEN.out HKP.out.size ?_; intro v8 w8 hown8 hgr8; have HO8 := Lib.hid (show lnT.Has w8 v8 lz by rw [HJ.out]; exact hown8.has); have HK8 := Lib.hid (kp_grownK HKP.out hgr8 fun b hb => (HP1.out.ge b hb).1); have HO38 := Lib.hid (show lnT.Has w8 v3 lz from own_grown HP3.out HP1.out hgr8 HD.out); clear hown8 hgr8)
              | (go_at_call 11; refine Calls.mono (by with_reducible exact HS.out _ _ _ HO8.out HO38.out) ?_; rintro r w9 ⟨rfl, hk⟩; have HK9 := Lib.hid (HK8.out.trans hk); clear hk)
              | (go_at_call 10; refine Calls.mono (by with_reducible exact HK.out _ HK9.out) ?_; rintro r w10 ⟨rfl, hk⟩; have HK10 := Lib.hid (HK9.out.trans hk); clear hk))
            go_ret
            exact ⟨rfl, HK10.out.toBelowL⟩
theorem lexerJoins_walk (a b : ByteArray) (w : World) (hm : Max w) (ha : a.size ≤ 9223372036854775807) : Calls Tryd.prog 8 #[.string a, .string b] w fun e w' => e = .returned (.bool true) ∧ Below w.heap.size w w' := by
  rw [← bs_of a, ← bs_of b]
  exact lexerJoins_list _ _ w hm (by rw [← Lib.size_eq]; exact ha)
end Go.Proofs.YtccmlodocfpbhaaDoor
