/- Drawing tokens off the tape: Next, One, tokens. -/
import Derived.Test.YtccmlodocfpbhaaDoorG
namespace Go.Proofs.YtccmlodocfpbhaaDoor
open Go.RowKit

theorem next_kp {w : World} {tb k : Nat} (n : Nat) (h1 : 1 ≤ n) (h2 : n ≤ 1000000) (hk : k ≤ 1000000) (h : Tape w tb k) :
    Calls Tryd.prog 20 #[.pointer (some ⟨tb, 0, none⟩), .int .i64 n] w fun e w' => ∃ r : Nat, r < n ∧ e = .returned (.int .i64 r) ∧ Tape w' tb (k + 1) ∧ Kp [tb] w w' :=
  (next_any tb k n w h1 h2 hk h).mono fun _ _ ⟨r, hr, he, ht, hg, _⟩ => ⟨r, hr, he, ht, Kp.of_grown hg⟩
theorem Tape.kp {w w' : World} {tb k : Nat} {S : List Nat} (h : Tape w tb k) (hk : Kp S w w') (hs : ∀ x ∈ S, tb < x) : Tape w' tb k :=
  h.keep fun b hb => hk.block b (Nat.lt_of_le_of_lt hb h.lt) fun e => by have := hs b e; omega
set_option maxHeartbeats 1000000 in
set_option maxRecDepth 100000 in
/-- One: one of these texts. -/
theorem one_any {w : World} {tb k sb c : Nat} (xs : List (List UInt8)) (h1 : 1 ≤ xs.length) (h2 : xs.length ≤ 1000000) (hk : k ≤ 1000000) (h : Tape w tb k) (hne : sb ≠ tb) (hsb : sb < w.heap.size)
    (hx : ∀ (j : Nat) x, xs[j]? = some x → w.cell? ⟨sb, j, none⟩ = some (.string (bs x))) :
    Calls Tryd.prog 23 #[.pointer (some ⟨tb, 0, none⟩), .slice (some ⟨sb, 0, none⟩) xs.length c] w fun e w' =>
      ∃ x, x ∈ xs ∧ e = .returned (.string (bs x)) ∧ Tape w' tb (k + 1) ∧ Kp [tb] w w' := by
  have HN := Lib.hid (next_kp xs.length h1 h2 hk h)
  have HX := Lib.hid hx
  have hz : ¬ ((xs.length : Int) = 0) := by omega
  have hz' : ((xs.length : Int) == 0) = false := beq_false_of_ne hz
  clear hx
  go_enter Tryd.func23, Tryd.ntmps23
  go_wp2_with fail
  refine HN.out.mono ?_
  rintro e W ⟨r, hr, rfl, hT, hg⟩
  obtain ⟨x, hx⟩ : ∃ x, xs[r]? = some x := ⟨_, List.getElem?_eq_getElem hr⟩
  have hb := hg.block sb hsb (by simpa using hne)
  have hc : W.cell? ⟨sb, r, none⟩ = some (.string (bs x)) := by
    have := HX.out r x hx
    simp only [World.cell?, hb] at this ⊢
    exact this
  have hri : (r : Int) < (xs.length : Int) := by omega
  have HT := Lib.hid hT
  have HG := Lib.hid hg
  have Hx := Lib.hid hx
  clear hT hg hx h hb
  go_wp2
  go_ret
  exact ⟨x, List.mem_of_getElem? Hx.out, rfl, HT.out, HG.out⟩
/-- .. in a row that was just made. -/
theorem one_new {w : World} {tb k : Nat} (xs : List (List UInt8)) (h1 : 1 ≤ xs.length) (h2 : xs.length ≤ 1000000) (hk : k ≤ 1000000) (h : Tape w tb k) :
    Calls Tryd.prog 23 #[.pointer (some ⟨tb, 0, none⟩), .slice (some ⟨w.heap.size, 0, none⟩) xs.length xs.length] (w.alloc (.cells (xs.map fun x => Value.string (bs x)).toArray 9)) fun e w' =>
      ∃ x, x ∈ xs ∧ e = .returned (.string (bs x)) ∧ Tape w' tb (k + 1) ∧ Kp [tb] w w' := by
  have hal : Kp [] w (w.alloc (.cells (xs.map fun x => Value.string (bs x)).toArray 9)) := (Kp.refl [] w).alloc _
  have hlt := h.lt
  refine (one_any xs h1 h2 hk (h.kp hal (by simp)) (by omega) (by simp) (fun j x hx => ?_)).mono fun e w' ⟨x, hx, he, ht, hk2⟩ => ⟨x, hx, he, ht, (hal.mono (by simp)).trans hk2⟩
  rw [cell_of_row _ _ j _ _ _ (heap_alloc_last w _), List.getElem?_toArray, List.getElem?_map, hx]
  rfl

def kKeys : List (List UInt8) := [[75, 69, 82, 78, 69, 76], [69, 78, 86], [65]]
def kNames : List (List UInt8) := [[], [73, 68], [97, 46, 98]]
def kOps : List (List UInt8) := [[61, 61], [33, 61], [61], [43, 61], [45, 61], [58, 61]]
def kVals : List (List UInt8) := [[], [115, 100, 42], [97, 32, 98], [113, 34, 114], [92, 34], [97, 44, 98], [37, 107], [92, 120]]
def bKeys : List (List UInt8) := [[], [97], [65, 49]]
def bNames : List (List UInt8) := [[123], [97, 32, 98], [34]]
def bOps : List (List UInt8) := [[], [60], [61, 61, 61]]
def bVals : List (List UInt8) := [[97, 92], [9], [127]]
theorem one_kKeys {w : World} {tb k : Nat} (hk : k ≤ 1000000) (h : Tape w tb k) : Calls Tryd.prog 23 #[.pointer (some ⟨tb, 0, none⟩), .slice (some ⟨w.heap.size, 0, none⟩) 3 3] (w.alloc (.cells #[.string ⟨#[75, 69, 82, 78, 69, 76]⟩, .string ⟨#[69, 78, 86]⟩, .string ⟨#[65]⟩] 9)) fun e w' =>
    ∃ x, x ∈ kKeys ∧ e = .returned (.string (bs x)) ∧ Tape w' tb (k + 1) ∧ Kp [tb] w w' := one_new kKeys (by decide) (by decide) hk h
theorem one_kNames {w : World} {tb k : Nat} (hk : k ≤ 1000000) (h : Tape w tb k) : Calls Tryd.prog 23 #[.pointer (some ⟨tb, 0, none⟩), .slice (some ⟨w.heap.size, 0, none⟩) 3 3] (w.alloc (.cells #[.string ⟨#[]⟩, .string ⟨#[73, 68]⟩, .string ⟨#[97, 46, 98]⟩] 9)) fun e w' =>
    ∃ x, x ∈ kNames ∧ e = .returned (.string (bs x)) ∧ Tape w' tb (k + 1) ∧ Kp [tb] w w' := one_new kNames (by decide) (by decide) hk h
theorem one_kOps {w : World} {tb k : Nat} (hk : k ≤ 1000000) (h : Tape w tb k) : Calls Tryd.prog 23 #[.pointer (some ⟨tb, 0, none⟩), .slice (some ⟨w.heap.size, 0, none⟩) 6 6] (w.alloc (.cells #[.string ⟨#[61, 61]⟩, .string ⟨#[33, 61]⟩, .string ⟨#[61]⟩, .string ⟨#[43, 61]⟩, .string ⟨#[45, 61]⟩, .string ⟨#[58, 61]⟩] 9)) fun e w' =>
    ∃ x, x ∈ kOps ∧ e = .returned (.string (bs x)) ∧ Tape w' tb (k + 1) ∧ Kp [tb] w w' := one_new kOps (by decide) (by decide) hk h
theorem one_kVals {w : World} {tb k : Nat} (hk : k ≤ 1000000) (h : Tape w tb k) : Calls Tryd.prog 23 #[.pointer (some ⟨tb, 0, none⟩), .slice (some ⟨w.heap.size, 0, none⟩) 8 8] (w.alloc (.cells #[.string ⟨#[]⟩, .string ⟨#[115, 100, 42]⟩, .string ⟨#[97, 32, 98]⟩, .string ⟨#[113, 34, 114]⟩, .string ⟨#[92, 34]⟩, .string ⟨#[97, 44, 98]⟩, .string ⟨#[37, 107]⟩, .string ⟨#[92, 120]⟩] 9)) fun e w' =>
    ∃ x, x ∈ kVals ∧ e = .returned (.string (bs x)) ∧ Tape w' tb (k + 1) ∧ Kp [tb] w w' := one_new kVals (by decide) (by decide) hk h
theorem one_bKeys {w : World} {tb k : Nat} (hk : k ≤ 1000000) (h : Tape w tb k) : Calls Tryd.prog 23 #[.pointer (some ⟨tb, 0, none⟩), .slice (some ⟨w.heap.size, 0, none⟩) 3 3] (w.alloc (.cells #[.string ⟨#[]⟩, .string ⟨#[97]⟩, .string ⟨#[65, 49]⟩] 9)) fun e w' =>
    ∃ x, x ∈ bKeys ∧ e = .returned (.string (bs x)) ∧ Tape w' tb (k + 1) ∧ Kp [tb] w w' := one_new bKeys (by decide) (by decide) hk h
theorem one_bNames {w : World} {tb k : Nat} (hk : k ≤ 1000000) (h : Tape w tb k) : Calls Tryd.prog 23 #[.pointer (some ⟨tb, 0, none⟩), .slice (some ⟨w.heap.size, 0, none⟩) 3 3] (w.alloc (.cells #[.string ⟨#[123]⟩, .string ⟨#[97, 32, 98]⟩, .string ⟨#[34]⟩] 9)) fun e w' =>
    ∃ x, x ∈ bNames ∧ e = .returned (.string (bs x)) ∧ Tape w' tb (k + 1) ∧ Kp [tb] w w' := one_new bNames (by decide) (by decide) hk h
theorem one_bOps {w : World} {tb k : Nat} (hk : k ≤ 1000000) (h : Tape w tb k) : Calls Tryd.prog 23 #[.pointer (some ⟨tb, 0, none⟩), .slice (some ⟨w.heap.size, 0, none⟩) 3 3] (w.alloc (.cells #[.string ⟨#[]⟩, .string ⟨#[60]⟩, .string ⟨#[61, 61, 61]⟩] 9)) fun e w' =>
    ∃ x, x ∈ bOps ∧ e = .returned (.string (bs x)) ∧ Tape w' tb (k + 1) ∧ Kp [tb] w w' := one_new bOps (by decide) (by decide) hk h
theorem one_bVals {w : World} {tb k : Nat} (hk : k ≤ 1000000) (h : Tape w tb k) : Calls Tryd.prog 23 #[.pointer (some ⟨tb, 0, none⟩), .slice (some ⟨w.heap.size, 0, none⟩) 3 3] (w.alloc (.cells #[.string ⟨#[97, 92]⟩, .string ⟨#[9]⟩, .string ⟨#[127]⟩] 9)) fun e w' =>
    ∃ x, x ∈ bVals ∧ e = .returned (.string (bs x)) ∧ Tape w' tb (k + 1) ∧ Kp [tb] w w' := one_new bVals (by decide) (by decide) hk h
/-- The texts of a token are short. -/
def Lo (x : Tok) : Prop := x.key.length ≤ 8 ∧ x.name.length ≤ 8 ∧ x.op.length ≤ 8 ∧ x.val.length ≤ 8
theorem drawn_good {k n o v : List UInt8} (hk : k ∈ kKeys) (hn : n ∈ kNames) (ho : o ∈ kOps) (hv : v ∈ kVals) : Good ⟨k, n, o, v⟩ ∧ Lo ⟨k, n, o, v⟩ := by
  have h1 : ∀ k ∈ kKeys, (!k.isEmpty && k.all upCh && decide (k.length ≤ 8)) = true := by decide
  have h2 : ∀ k ∈ kNames, (k.all nmCh && decide (k.length ≤ 8)) = true := by decide
  have h3 : ∀ k ∈ kOps, (opsL.contains k && decide (k.length ≤ 8)) = true := by decide
  have h4 : ∀ k ∈ kVals, (k.all prCh && !(k.getLast? == some 92) && decide (k.length ≤ 8)) = true := by decide
  have a1 := h1 k hk
  have a2 := h2 n hn
  have a3 := h3 o ho
  have a4 := h4 v hv
  rw [Bool.and_eq_true, Bool.and_eq_true, decide_eq_true_eq] at a1
  rw [Bool.and_eq_true, decide_eq_true_eq] at a2 a3
  rw [Bool.and_eq_true, Bool.and_eq_true, decide_eq_true_eq, Bool.not_eq_true', beq_eq_false_iff_ne] at a4
  refine ⟨{ k0 := fun e => ?_, k1 := a1.1.2, n1 := a2.1, o1 := List.contains_iff_mem.1 a3.1, v1 := ⟨a4.1.1, a4.1.2⟩ }, a1.2, a2.2, a3.2, a4.2⟩
  have h0 := a1.1.1
  rw [show k = [] from e] at h0
  cases h0
theorem lo_key {x : Tok} (h : Lo x) {l : List UInt8} (hl : l ∈ bKeys) : Lo { x with key := l } := by
  have h1 : ∀ k ∈ bKeys, k.length ≤ 8 := by decide
  exact ⟨h1 l hl, h.2⟩
theorem lo_name {x : Tok} (h : Lo x) {l : List UInt8} (hl : l ∈ bNames) : Lo { x with name := l } := by
  have h1 : ∀ k ∈ bNames, k.length ≤ 8 := by decide
  exact ⟨h.1, h1 l hl, h.2.2⟩
theorem lo_op {x : Tok} (h : Lo x) {l : List UInt8} (hl : l ∈ bOps) : Lo { x with op := l } := by
  have h1 : ∀ k ∈ bOps, k.length ≤ 8 := by decide
  exact ⟨h.1, h.2.1, h1 l hl, h.2.2.2⟩
theorem lo_val {x : Tok} (h : Lo x) {l : List UInt8} (hl : l ∈ bVals) : Lo { x with val := l } := by
  have h1 : ∀ k ∈ bVals, k.length ≤ 8 := by decide
  exact ⟨h.1, h.2.1, h.2.2.1, h1 l hl⟩
theorem kp_grownT {w W w' : World} {S : List Nat} {v : Value} (h : Kp S w W) (g : W.grownBy w' v.ownBlock) (hv : ∀ b, v.ownBlock = some b → w.heap.size ≤ b) : Kp S w w' := by
  cases hb : v.ownBlock with
  | none =>
    rw [hb] at g
    exact h.up (Kp.of_grown_none g) (by simp)
  | some b =>
    rw [hb] at g
    exact h.up (Kp.of_grown g) (by intro x hx; simp at hx; subst hx; exact .inr (hv x hb))

/-- A drawn token in its box. -/
theorem draw_box {w0 W W6 : World} {tb xb kk : Nat} {x : Tok} {v : Value} {xs : List Tok} (hk : Kp [tb] w0 W) (ho : tokT.Own W w0.heap.size v xs) (hT : Tape W tb kk) (hN : W.heap.size = xb)
    (hW : W.alloc (.cells (tokC x) 43) = W6) : TAt W6 xb x ∧ Kp [tb] w0 W6 ∧ tokT.Own W6 w0.heap.size v xs ∧ Tape W6 tb kk ∧ w0.heap.size ≤ xb ∧ (∀ b, v.ownBlock = some b → b ≠ xb) ∧ tb < xb := by
  have hk1 : Kp [] W W6 := by rw [← hW]; exact (Kp.refl [] W).alloc _
  have hlt := hT.lt
  refine ⟨?_, hk.trans (hk1.mono (by simp)), ho.kp0 hk1, hT.kp hk1 (by simp), by rw [← hN]; exact hk.size, fun b hb => by have := (ho.ge b hb).2; omega, by omega⟩
  have h := heap_alloc_last W (.cells (tokC x) 43)
  rw [hW, hN] at h
  exact h
/-- A boxed token behind an own row: the world up to the append. -/
theorem draw_push {w0 W W7 : World} {tb Nb kk : Nat} {x : Tok} {v : Value} {xs : List Tok} (hk : Kp [tb] w0 W) (ho : tokT.Own W w0.heap.size v xs) (hT : Tape W tb kk) (hN : W.heap.size = Nb)
    (hW : W.alloc (.cells (tokC x) 43) = W7) : Kp [tb] w0 W7 ∧ tokT.Own W7 w0.heap.size v xs ∧ W7.rangeAt Nb 0 (tokT.cf x) ∧ Tape W7 tb kk := by
  obtain ⟨a, b, c, d, _⟩ := draw_box hk ho hT hN hW
  exact ⟨b, c, TAt.range a, d⟩

set_option maxHeartbeats 4000000 in
set_option maxRecDepth 100000 in
theorem drawn_any {w : World} {tb k : Nat} (h : Tape w tb k) (hk : k ≤ 1000) : Calls Tryd.prog 18 #[.pointer (some ⟨tb, 0, none⟩), .bool false] w fun r w' => ∃ v, r = .returned v ∧ ∃ xs, tokT.Own w' w.heap.size v xs ∧ xs.length ≤ 4 ∧ (∀ x ∈ xs, Good x ∧ Lo x) ∧ ∃ k', Tape w' tb k' ∧ k' ≤ k + 25 ∧ Kp [tb] w w' := by
  have HN := Lib.hid (next_kp 5 (by decide) (by decide) (by omega) h)
  have htb := h.lt
  have HTB := Lib.hid htb
  clear h htb
  go_enter Tryd.func18, Tryd.ntmps18
  go_wp2_with (go_at_call 20; refine Calls.mono (by exact HN.out) ?_; rintro r w1 ⟨n, hn, rfl, hT, hg⟩; have HT := Lib.hid hT; have HG := Lib.hid hg; clear hT hg)
  go_loopg [5, 6] n (fun g s5 s6 wx => ∃ v xs kk, v = s5 ∧ s6 = .int .i64 (g : Int) ∧ tokT.Own wx w.heap.size v xs ∧ xs.length + g = n ∧ (∀ x ∈ xs, Good x ∧ Lo x) ∧ Tape wx tb kk ∧ kk + 6 * g ≤ k + 1 + 6 * n ∧ Kp [tb] w wx)
  case atStart => exact ⟨_, [], k + 1, rfl, rfl, RT.Own.nil _ _ _, by simp, (fun x hx => by cases hx), HT.out, by omega, HG.out⟩
  case round =>
    obtain ⟨v, xs, kk, rfl, rfl, hown, hxn, hgood, hT, hkk, hkp⟩ := hrel
    have HO := Lib.hid hown
    have HTp := Lib.hid hT
    have HKp := Lib.hid hkp
    have HGd := Lib.hid hgood
    cases gk with
    | zero =>
      have hz : ¬ ((0 : Int) < ((0 : Nat) : Int)) := by omega
      have HR := Lib.hid (show xs.length ≤ 4 ∧ kk ≤ k + 25 by omega)
      clear hown hxn hgood hT hkk hkp
      go_wp2
      go_ret
      exact ⟨v, rfl, xs, HO.out, HR.out.1, HGd.out, kk, HTp.out, HR.out.2, HKp.out⟩
    | succ g =>
      have hz : (0 : Int) < ((g + 1 : Nat) : Int) := by omega
      have hwr : IntKind.i64.wrap ((g : Int) + 1 - 1) = (g : Int) := by rw [IntKind.wrap_i64]; omega
      have hwr2 : IntKind.i64.wrap (g : Int) = (g : Int) := by rw [IntKind.wrap_i64]; omega
      have HKK := Lib.hid (show kk ≤ 2000 ∧ xs.length + 1 + g = n ∧ kk + 6 + 6 * g ≤ k + 1 + 6 * n ∧ xs.length ≤ 1000000 by omega)
      have HO1 := Lib.hid (one_kKeys (w := wr) (by omega) hT)
      clear hown hxn hgood hT hkk hkp
      go_wp2_with (first
        | (go_at_call 23; refine Calls.mono (by with_reducible exact HO1.out) ?_; rintro r w2 ⟨x1, hx1, rfl, hT2, hg2⟩; have HG2 := Lib.hid (HKp.out.trans hg2); have HOw2 := Lib.hid (HO.out.kp hg2 (fun b hb => by have := (HO.out.ge b hb).1; have := HTB.out; simp; omega)); have HX1 := Lib.hid hx1; have HO2 := Lib.hid (one_kNames (w := w2) (by have := HKK.out; omega) hT2); clear hT2 hg2 hx1)
        | (go_at_call 23; refine Calls.mono (by with_reducible exact HO2.out) ?_; rintro r w3 ⟨x2, hx2, rfl, hT3, hg3⟩; have HG3 := Lib.hid (HG2.out.trans hg3); have HOw3 := Lib.hid (HOw2.out.kp hg3 (fun b hb => by have := (HO.out.ge b hb).1; have := HTB.out; simp; omega)); have HX2 := Lib.hid hx2; have HO3 := Lib.hid (one_kOps (w := w3) (by have := HKK.out; omega) hT3); clear hT3 hg3 hx2)
        | (go_at_call 23; refine Calls.mono (by with_reducible exact HO3.out) ?_; rintro r w4 ⟨x3, hx3, rfl, hT4, hg4⟩; have HG4 := Lib.hid (HG3.out.trans hg4); have HOw4 := Lib.hid (HOw3.out.kp hg4 (fun b hb => by have := (HO.out.ge b hb).1; have := HTB.out; simp; omega)); have HX3 := Lib.hid hx3; have HO4 := Lib.hid (one_kVals (w := w4) (by have := HKK.out; omega) hT4); clear hT4 hg4 hx3)
        | (go_at_call 23; refine Calls.mono (by with_reducible exact HO4.out) ?_; rintro r w5 ⟨x4, hx4, rfl, hT5, hg5⟩; have HT5 := Lib.hid hT5; have HG5 := Lib.hid (HG4.out.trans hg5); have HOw5 := Lib.hid (HOw4.out.kp hg5 (fun b hb => by have := (HO.out.ge b hb).1; have := HTB.out; simp; omega)); have HX4 := Lib.hid hx4; clear hT5 hg5 hx4; obtain ⟨xb, hxb⟩ : ∃ xb, w5.heap.size = xb := ⟨_, rfl⟩; obtain ⟨w6, hw6⟩ : ∃ w6, w5.alloc (.cells #[.string (bs x1), .string (bs x2), .string (bs x3), .string (bs x4)] 43) = w6 := ⟨_, rfl⟩; have H6 := Lib.hid (draw_box (x := ⟨x1, x2, x3, x4⟩) HG5.out HOw5.out HT5.out hxb hw6); obtain ⟨d0, d1, d2, d3⟩ := H6.out.1.cells; have df := fun o => H6.out.1.frz (o := o); obtain ⟨Nb, hNb⟩ : ∃ Nb, w6.heap.size = Nb := ⟨_, rfl⟩; obtain ⟨w7, hw7⟩ : ∃ w7, w6.alloc (.cells #[.string (bs x1), .string (bs x2), .string (bs x3), .string (bs x4)] 43) = w7 := ⟨_, rfl⟩; have H7 := Lib.hid (draw_push (x := ⟨x1, x2, x3, x4⟩) H6.out.2.1 H6.out.2.2.1 H6.out.2.2.2.1 hNb hw7))
        | (at_builtin; refine wpList_append_r (r := tokT) rfl (.tmp 54) (.tmp 56) rfl w.heap.size v xs rfl H7.out.2.1 Nb 1 ⟨x1, x2, x3, x4⟩ rfl H7.out.2.2.1 HKK.out.2.2.2 H7.out.1.size ?_; intro v8 w8 hown8 hgr8; have HO8 := Lib.hid hown8; have HK8 := Lib.hid (kp_grownT H7.out.1 hgr8 fun b hb => (H7.out.2.1.ge b hb).1); have HT8 := Lib.hid (H7.out.2.2.2.keep fun b hb => hgr8.block b (by have := H7.out.2.2.2.lt; omega) (fun e => by have := (H7.out.2.1.ge b e.symm).1; have := HTB.out; omega)); clear hown8 hgr8))
      go_roundg g
      case measure => omega
      case rel =>
        have hkk := HKK.out
        refine ⟨v8, xs ++ [⟨x1, x2, x3, x4⟩], kk + 4, rfl, rfl, HO8.out, by rw [List.length_append, List.length_singleton]; omega, fun x hx => ?_, HT8.out, by omega, HK8.out⟩
        rcases List.mem_append.1 hx with hx | hx
        · exact HGd.out x hx
        · rw [List.mem_singleton.1 hx]
          exact drawn_good HX1.out HX2.out HX3.out HX4.out
end Go.Proofs.YtccmlodocfpbhaaDoor
