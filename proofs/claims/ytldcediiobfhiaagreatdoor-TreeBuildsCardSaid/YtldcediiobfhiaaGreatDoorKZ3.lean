/- What the building of a tree leans on: lists of devices over steps of the tape and of a box, append of rows, stores in drawn regions. A tree that is being built: what holds between two turns. -/
import Derived.Test.YtldcediiobfhiaaGreatDoorKZ2
import Derived.Test.YtldcediiobfhiaaGreatDoorKX5
import Derived.Test.YtldcediiobfhiaaGreatDoorKV8
namespace Go.Proofs.YtldcediiobfhiaaGreatDoor
open Go.RowKit
theorem hasT2 {W W' : World} {tb k : Nat} {v : Value} {l : List De.Atr} (h : De.Has W v l) (ht : Tp W tb k) (hk : Kp [tb] W W') : De.Has W' v l := by
 refine h.other hk.size (g := tb) (fun hne e => ?_) fun b hb hne => hk.block b hb (by simpa using hne)
 obtain ⟨lv, hh, hi⟩ := ht
 rcases h with ⟨a, c, rfl, h0⟩ | ⟨b, o, c, rfl, hb, hrow⟩
 ·exact hne h0
 ·obtain rfl : b = tb := Option.some.inj e
  cases l with
  | nil => exact hne rfl
  | cons x l =>
   obtain ⟨h1, h2⟩ := hrow 0 x rfl
   rw [cell_of_row _ _ _ _ _ _ hh] at h1 h2
   have ho : o = 0 := by
    have := (List.getElem?_eq_some_iff.1 (by simpa using h2)).1
    simp at this
    omega
   subst ho
   rcases hi with ⟨a, c, rfl⟩ | ⟨b2, o2, n2, c2, rfl, _⟩ <;> simp at h1
theorem dhasT {W W' : World} {tb k : Nat} {v : Value} {l : List De.DV} (h : De.DHas W v l) (ht : Tp W tb k) (hk : Kp [tb] W W') : De.DHas W' v l := by
 rcases h with h | ⟨g, o, c, hv, hc, hg, hr⟩
 ·exact .inl h
 ·refine .inr ⟨g, o, c, hv, hc, Nat.lt_of_lt_of_le hg hk.size, ⟨fun j x hx m u hu => ?_, fun x hx => hasT2 (hr.ats x hx) ht hk⟩⟩
  have h1 := hr.at_ j x hx m u hu
  by_cases e : g = tb
  ·exfalso
   subst e
   have h9 := hr.at_ j x hx 9 x.2 rfl
   obtain ⟨lv, hh, hi⟩ := ht
   rw [cell_of_row _ _ _ _ _ _ hh] at h9
   obtain ⟨h10, -⟩ := Array.getElem?_eq_some_iff.1 h9
   simp at h10
   omega
  ·have := hk.block g hg (by simpa using e)
   simp only [World.cell?, this] at h1 ⊢
   exact h1
theorem dhasR {W W' : World} {R n c : Nat} {a : Option Addr} {v : Value} {l : List De.DV} (h : De.DHas W v l) (hk : Kp [R] W W') (hR : W.heap[R]? = some (.cells #[.slice a n c] 29 (0, 0))) : De.DHas W' v l := by
 rcases h with h | h
 ·exact .inl h
 ·exact (DAny.kpR (.inr h) hk hR).has
/-- append of a list of devices, at the operation. -/
theorem wpList_append_dvs {ops : Array Oper} {rest : List Oper} {o : Oper} {a : Act} {w : World} {Q : Exit → Act → World → Prop} (hg : o.guard = none) (s y : Operand)
  (hop : o.op = Op.call { callee := Callee.builtin Builtin.append, args := #[s, y], argTypes := #[22, 22] }) (base : Nat) (v yv : Value) (xs ys : List De.DV) (hs : a.eval s = v) (hown : w.ownsRow base 34 10 v xs.length (De.dvsC xs)) (hx : a.eval y = yv) (hy : De.DHas w yv ys) (h1 : xs.length + ys.length ≤ 100000) (hb : base ≤ w.heap.size)
  (hK : ∀ v' w', w'.ownsRow base 34 10 v' (xs ++ ys).length (De.dvsC (xs ++ ys)) → w.grownBy w' v.ownBlock → wpList Tryz.prog ops Q rest (a.put o.dst v') w') : wpList Tryz.prog ops Q (o :: rest) a w := by
 refine wpList_plain hg fun K hK' => ?_
 obtain ⟨v', w', hr, h2, h3⟩ := run_append_dvs (ty := o.type) hown hy h1 hb
 unfold Oper.wp
 simp [execOp, hop, resolve, invoke, builtin, hs, hx, hr, Result.andThen]
 exact hK' _ _ (hK v' w' h2 h3)
/-- A store into a block that is known whole, in a drawn region. -/
theorem step_store {ops : Array Oper} {o : Oper} {a : Act} {w : World} {K : Act → World → Prop} {Q : Exit → Act → World → Prop} {E : Prop} (hgd : o.guard = none) (ty : TypeId) (x y : Operand) (ho : o.op = .store ty x y)
  (g : Nat) (cells : Array Value) (hx : a.eval x = .pointer (some ⟨g, 0, none⟩)) (hy : a.eval y = .agg cells) (t : TypeId) (old : Array Value) (hg : w.heap[g]? = some (.cells old t (0, 0))) (hi : (Tryz.prog.info? ty).map (·.size) = some cells.size)
  (hold : old.size = cells.size) (h1 : cells.all (·.oneCell') = true) (hK : K (a.put o.dst undef) (w.setRow g cells)) :
  if Region.wanted o (yielded ops a.tmps) = true then Oper.wp Tryz.prog o a w K Q else E := by
 rw [if_pos (by simp [Region.wanted, hgd])]
 exact wp_store_row ty x y ho g cells hx hy t old hg hi hold h1 hK
/-- A part of a list of devices whose sizes are known. -/
theorem tok_sub {L M : List De.DV} (h : De.TOk L) (hm : ∀ x ∈ M, x.1 ∈ L.map (·.1)) (hn : M.length ≤ 100000) : De.TOk M := by
 have key : ∀ x ∈ M, ∃ y ∈ L, y.1 = x.1 := fun x hx => List.mem_map.1 (hm x hx)
 refine ⟨hn, fun x hx => ?_, fun x hx => ?_, fun x hx => ?_, fun x hx => ?_⟩
 all_goals
  obtain ⟨y, hy, e⟩ := key x hx
  rw [← e]
 ·exact h.wi y hy
 ·exact h.wp y hy
 ·exact h.o y hy
 ·exact h.m y hy
theorem sized_of {W : World} {B n : Nat} {v : Value} {L : List De.DV} (h : TreeAt W B n v L) {d : De.ADev} (hd : d ∈ L.map (·.1)) (u : Value) : De.Sized (De.devOf d u) d.ats ∧ d.ats.length ≤ 1000 := by
 obtain ⟨y, hy, rfl⟩ := List.mem_map.1 hd
 obtain ⟨h1, h2⟩ := h.sml y hy
 have h3 : SmX (De.devOf y.1 u) y.1.ats := ⟨h1.n, h1.o, h1.s, h1.r, h1.i, h1.a⟩
 exact ⟨sized_sml h3, h2⟩
theorem snd_own {d : De.ADev} (h : sndA d = true) : d.par ≠ d.idx := (snd_num h).2
theorem ins_part {X Y left : List De.ADev} (hx : De.Valid sndA clA X) (h : De.Part X Y left) {d : De.ADev} (hd : d ∈ left) (hp : d.par = 0 ∨ ∃ p ∈ Y, p.idx = d.par) : insT Y d = 0 :=
 insT_insE.2 ((De.insE_fits fun _ h => snd_num h).2 (h.fits clA_symm hx hd hp (snd_own (hx.sound d (h.left.subset hd)))))
end Go.Proofs.YtldcediiobfhiaaGreatDoor
namespace Go.Proofs.YtldcediiobfhiaaGreatDoor
open Go.RowKit
/-- The three lists of devices. -/
structure Bx (L LL LY : List De.DV) (x l y : Value) (W : World) : Prop where
 x : De.DHas W x L
 l : De.DHas W l LL
 y : De.DHas W y LY
theorem Bx.kp {L LL LY : List De.DV} {x l y : Value} {W W' : World} (h : Bx L LL LY x l y W) (hk : Kp [] W W') : Bx L LL LY x l y W' := ⟨h.x.below hk.bel, h.l.below hk.bel, h.y.below hk.bel⟩
theorem Bx.kpT {L LL LY : List De.DV} {x l y : Value} {W W' : World} {tb k : Nat} (h : Bx L LL LY x l y W) (ht : Tp W tb k) (hk : Kp [tb] W W') : Bx L LL LY x l y W' := ⟨dhasT h.x ht hk, dhasT h.l ht hk, dhasT h.y ht hk⟩
theorem Bx.kpR {L LL LY : List De.DV} {x l y : Value} {W W' : World} {R n c : Nat} {a : Option Addr} (h : Bx L LL LY x l y W) (hk : Kp [R] W W') (hR : W.heap[R]? = some (.cells #[.slice a n c] 29 (0, 0))) : Bx L LL LY x l y W' := ⟨dhasR h.x hk hR, dhasR h.l hk hR, dhasR h.y hk hR⟩
/-- What holds ahead of a turn. -/
def Bl (L : List De.DV) (x : Value) (tb Y : Nat) (W : World) (la : Option Addr) (m lc : Nat) : Prop := ∃ LL LY ya yn yc k, LL.length = m ∧ Bx L LL LY x (.slice la m lc) (.slice ya yn yc) W ∧ W.heap[Y]? = some (.cells #[.slice ya yn yc] 29 (0, 0)) ∧ De.Part (L.map (·.1)) (LY.map (·.1)) (LL.map (·.1)) ∧ Tp W tb k ∧ k + m ≤ 500 ∧ De.Max W
theorem cap_of {W : World} {v : Value} {l : List De.DV} (h : De.DHas W v l) : ∀ a n c, v = .slice a n c → n ≤ c := by
 rcases h with ⟨a, c, rfl, rfl⟩ | ⟨g, o, c, rfl, hc, -, -⟩
 ·intro a n c e
  injection e with e1 e2 e3
  omega
 ·intro a n c e
  injection e with e1 e2 e3
  omega
theorem part_len {X Y left : List De.ADev} (h : De.Part X Y left) : Y.length + left.length = X.length := by
 have := h.perm.length_eq
 rwa [List.length_append] at this
theorem part_mem {X Y left : List De.ADev} (h : De.Part X Y left) {d : De.ADev} (hd : d ∈ Y) : d ∈ X := h.perm.mem_iff.1 (List.mem_append.2 (Or.inl hd))
/-- Find in the part. -/
theorem find_part {W0 W : World} {B n : Nat} {v u : Value} {L LY LL : List De.DV} (ht : TreeAt W0 B n v L) (hn : n ≤ 100000) (hu : De.DHas W u LY) (hp : De.Part (L.map (·.1)) (LY.map (·.1)) (LL.map (·.1))) (z : Int) (hz : (Lit.int .i64 z).wf = true) :
  Calls Tryz.prog 21 #[.agg #[u], .int .i64 z] W fun e w' => ∃ a m c, e = .returned (.tuple #[.agg (De.dvC (valA (De.fnd (LY.map (·.1)) z)) (.slice a m c)).toArray, .bool (De.fnd (LY.map (·.1)) z).isSome]) ∧ Kp [] W w' := by
 have hlen := part_len hp
 simp only [List.length_map] at hlen
 have hL := ht.len
 have hm : ∀ x ∈ LY, x.1 ∈ L.map (·.1) := fun x hx => part_mem hp (List.mem_map.2 ⟨x, hx, rfl⟩)
 have hal : ∀ x ∈ LY, x.1.ats.length ≤ 1000000 := fun x hx => by
  have := (sized_of ht (hm x hx) (.slice none 0 0)).2
  omega
 have hty := (hp.valid ht.val).tidy
 refine (De.find_any u LY z W (by omega) hal hu (fun x hx => (tok_sub (tree_tok ht hn) hm (by omega)).wi x hx) hz).mono fun e w' h => ?_
 obtain ⟨a, m, c, he, -, hk⟩ := found_form ((got_bind LY z).trans (got_fnd hty z)) h
 exact ⟨a, m, c, he, hk⟩
theorem find_par {LY : List De.ADev} {z : Int} (h : (De.fnd LY z).isSome = true) : ∃ p ∈ LY, p.idx = z := by
 obtain ⟨p, hp⟩ := Option.isSome_iff_exists.1 h
 exact ⟨p, De.fnd_mem hp⟩
/-- Insert into the part. -/
theorem insert_part {W0 W : World} {B n : Nat} {v u : Value} {L LY LL : List De.DV} (ht : TreeAt W0 B n v L) (hn : n ≤ 100000) (hu : De.DHas W u LY) (hp : De.Part (L.map (·.1)) (LY.map (·.1)) (LL.map (·.1))) {r : Nat} {x : De.DV} (hx : LL[r]? = some x) (hx2 : x.1.par = 0 ∨ ∃ p ∈ LY.map (·.1), p.idx = x.1.par) (hh : De.Has W x.2 x.1.ats) (hM : De.Max W) :
  Calls Tryz.prog 40 #[.agg #[u], .agg (De.dvC x.1 x.2).toArray] W fun e w' => ∃ a m c L', e = .returned (.tuple #[.agg #[.slice a m c], .int .i64 0]) ∧ Hid (De.DHas w' (.slice a m c) L') ∧ Hid (De.Part (L.map (·.1)) (L'.map (·.1)) ((LL.take r ++ LL.drop (r + 1)).map (·.1))) ∧ Hid (Kp [] W w') := by
 have hlen := part_len hp
 simp only [List.length_map] at hlen
 have hL := ht.len
 have hm : ∀ x ∈ LY, x.1 ∈ L.map (·.1) := fun x hx => part_mem hp (List.mem_map.2 ⟨x, hx, rfl⟩)
 have hal : ∀ x ∈ LY, x.1.ats.length ≤ 1000000 := fun x hx => by
  have := (sized_of ht (hm x hx) (.slice none 0 0)).2
  omega
 have hxr : (LL.map (·.1))[r]? = some x.1 := by rw [List.getElem?_map, hx]; rfl
 have hxl := List.mem_of_getElem? hxr
 have hxX : x.1 ∈ L.map (·.1) := hp.left.subset hxl
 obtain ⟨hs, hs2⟩ := sized_of ht hxX x.2
 have hT := tree_tok ht hn
 obtain ⟨y, hy, hyx⟩ := List.mem_map.1 hxX
 have ho : x.1.orig.size ≤ 300 := by rw [← hyx]; exact hT.o y hy
 have h0 := ins_part ht.val hp hxl hx2
 refine (insertT_any (De.devOf x.1 x.2) x.1.ats (hp.valid ht.val) (tok_sub hT hm (by omega)) hu (cap_of hu) hh hs ho (by omega) hM (by rw [show (De.devOf x.1 x.2).idx = y.1.idx from by rw [hyx]; rfl]; exact hT.wi y hy) (by rw [show (De.devOf x.1 x.2).par = y.1.par from by rw [hyx]; rfl]; exact hT.wp y hy) hal).mono ?_
 rintro e w' ⟨a, m, c, L', rfl, h1, h2, h3⟩
 have e1 : aOf (De.devOf x.1 x.2) x.1.ats = x.1 := rfl
 rw [e1] at h1 ⊢
 refine ⟨a, m, c, L', by rw [h0], h2, Lib.hid ?_, h3⟩
 have h4 := h1.out
 rw [insR, if_pos h0] at h4
 rw [h4, List.map_append, List.map_take, List.map_drop, ← List.eraseIdx_eq_take_drop_succ]
 exact hp.next ht.val hxr hx2
/-- A part of a row of devices, from its beginning. -/
theorem dhas_take {W : World} {g o m c r : Nat} {l : List De.DV} (h : De.DRow W g o l) (hg : g < W.heap.size) (hl : l.length = m) (hc : m ≤ c) (hr : r ≤ m) : De.DHas W (.slice (some ⟨g, o, none⟩) r c) (l.take r) := by
 have e : (l.take r).length = r := by rw [List.length_take]; omega
 exact .inr ⟨g, o, c, by rw [e], by omega, hg, DRow.take h r⟩
/-- And to its end. -/
theorem dhas_drop {W : World} {g o m c r o2 : Nat} {l : List De.DV} (h : De.DRow W g o l) (hg : g < W.heap.size) (hl : l.length = m) (hc : m ≤ c) (hr : r ≤ m) (ho : (if c = r then o else o + r * 10) = o2) : De.DHas W (.slice (some ⟨g, o2, none⟩) (m - r) (c - r)) (l.drop r) := by
 have e : (l.drop r).length = m - r := by rw [List.length_drop, hl]
 by_cases he : c = r
 ·exact .inl ⟨some ⟨g, o2, none⟩, c - r, by rw [show m - r = 0 by omega], List.length_eq_zero_iff.1 (by rw [e]; omega)⟩
 ·rw [if_neg he] at ho
  subst ho
  exact .inr ⟨g, o + r * 10, c - r, by rw [e], by omega, hg, DRow.drop h r⟩
theorem sl_one (a : Option Addr) (n c : Nat) : (#[Value.slice a n c] : Array Value).all (·.oneCell') = true := by simp [Value.oneCell']
theorem own_form {W : World} {base : Nat} {v : Value} {l : List De.DV} (h : W.ownsRow base 34 10 v l.length (De.dvsC l)) : ∃ a c, v = .slice a l.length c := by
 rcases h.2 with ⟨rfl, hl⟩ | ⟨g, cap, cur, rfl, -⟩
 ·exact ⟨none, 0, by first | rw [hl] | (rw [show l.length = 0 by omega])⟩
 ·exact ⟨_, _, rfl⟩
end Go.Proofs.YtldcediiobfhiaaGreatDoor
