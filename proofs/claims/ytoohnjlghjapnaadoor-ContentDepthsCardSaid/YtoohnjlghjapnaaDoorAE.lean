/- The reference: a content and all contents in it. -/
import Derived.Test.YtoohnjlghjapnaaDoorAC
namespace Go.Proofs.YtoohnjlghjapnaaDoor
open Go.RowKit

/-- A row of a call's own of contents; what is inside them lies in blocks of Q. -/
def ROwn (w : World) (B : Nat) (Q : Nat → Prop) (v : Value) (L : List (Con × Value)) : Prop :=
  w.ownsRow B 24 7 v L.length (rowC L) ∧ ∀ p ∈ L, Tx p.1 ∧ CHas Q w p.2 p.1.inner
theorem ROwn.kp {w w' : World} {B : Nat} {Q : Nat → Prop} {v : Value} {L : List (Con × Value)} (h : ROwn w B Q v L) (hk : Kp [] w w') : ROwn w' B Q v L := by
  refine ⟨⟨h.1.1, ?_⟩, fun p hp => ⟨(h.2 p hp).1, kp_has (h.2 p hp).2 hk⟩⟩
  rcases h.1.2 with hn | ⟨g, cap, cur, hv, hB, hh, rest⟩
  · exact .inl hn
  · exact .inr ⟨g, cap, cur, hv, hB, (hk.block g (block_lt hh) (by simp)).trans hh, rest⟩
theorem ROwn.base {w : World} {B B' : Nat} {Q : Nat → Prop} {v : Value} {L : List (Con × Value)} (h : ROwn w B Q v L) (hB : B' ≤ B) : ROwn w B' Q v L := by
  refine ⟨⟨h.1.1, ?_⟩, h.2⟩
  rcases h.1.2 with hn | ⟨g, cap, cur, hv, hB, hh, rest⟩
  · exact .inl hn
  · exact .inr ⟨g, cap, cur, hv, by omega, hh, rest⟩
theorem ROwn.form {w : World} {B : Nat} {Q : Nat → Prop} {v : Value} {L : List (Con × Value)} (h : ROwn w B Q v L) : ∃ a c, v = .slice a L.length c := by
  rcases h.1.2 with ⟨hv, hn⟩ | ⟨g, cap, cur, hv, _⟩
  · exact ⟨none, 0, by rw [hv, hn]⟩
  · exact ⟨_, _, hv⟩
theorem ROwn.adr {w : World} {B : Nat} {Q : Nat → Prop} {v : Value} {L : List (Con × Value)} (h : ROwn w B Q v L) (hL : 0 < L.length) : ∃ g c, v = .slice (some ⟨g, 0, none⟩) L.length c ∧ ∀ (j : Nat) u, (rowC L)[j]? = some u → w.cell? ((⟨g, 0, none⟩ : Addr).add j) = some u := by
  have hc := fun g (hg : v.ownBlock = some g) => World.ownsRow.cells h.1 hg
  rcases h.1.2 with ⟨hv, hn⟩ | ⟨g, cap, cur, hv, _⟩
  · omega
  · exact ⟨g, cap, hv, hc g (by rw [hv]; rfl)⟩
theorem ROwn.one {w : World} {B : Nat} {Q : Nat → Prop} {c : Con} {u : Value} (hB : B ≤ w.heap.size) (hx : Tx c) (hu : CHas Q w u c.inner) :
    ROwn (w.alloc (.cells (conC c u).toArray 24)) B Q (.slice (some ⟨w.heap.size, 0, none⟩) 1 1) [(c, u)] := by
  refine ⟨?_, fun p hp => ?_⟩
  · have := World.ownsRow_lit (base := B) (e := 24) (size := 7) w (conC c u).toArray 1 hB (by unfold maxLen; omega) (by simp [conC_len])
    simpa [rowC] using this
  · rw [List.mem_singleton] at hp
    subst hp
    exact ⟨hx, kp_has hu ((Kp.refl [] w).alloc _)⟩
theorem ROwn.append {w w' : World} {B : Nat} {Q : Nat → Prop} {v v' : Value} {L M : List (Con × Value)} (h : ROwn w B Q v L) (hm : ∀ p ∈ M, Tx p.1 ∧ CHas Q w p.2 p.1.inner) (hQ : ∀ b, Q b → b < B)
    (ho : w'.ownsRow B 24 7 v' (L.length + M.length) (rowC L ++ rowC M)) (hg : w.grownBy w' v.ownBlock) : ROwn w' B Q v' (L ++ M) := by
  have hk : ∀ k, k < w.heap.size → Q k → Q k ∧ w'.heap[k]? = w.heap[k]? := fun k hk hq => ⟨hq, hg.block k hk fun e => by have := (World.ownsRow.lt h.1 k e.symm).1; have := hQ k hq; omega⟩
  refine ⟨by rw [rowC_append, List.length_append]; exact ho, fun p hp => ?_⟩
  rcases List.mem_append.1 hp with hp | hp
  · exact ⟨(h.2 p hp).1, (h.2 p hp).2.keep hg.size hk⟩
  · exact ⟨(hm p hp).1, (hm p hp).2.keep hg.size hk⟩
theorem wl_len {d : Nat} {c : Con} (h : valN d c = true) : c.inner.length ≤ 16 := by
  cases d with
  | zero =>
    unfold valN at h
    split at h
    · rename_i hk
      have := none_eq h hk
      rw [this]; simp [con0, Con.inner]
    · cases h
  | succ d =>
    unfold valN at h
    split at h
    · rename_i hk
      have := none_eq h hk
      rw [this]; simp [con0, Con.inner]
    · simp only [Bool.and_eq_true] at h
      exact inner_len h.1.2
/-- How many contents stand in a walk. -/
def wlen : Nat → Nat
  | 0 => 1
  | d + 1 => 1 + 16 * wlen d
theorem flat_len {m : Nat} : ∀ l : List Con, (∀ x ∈ l, x.walk.length ≤ m) → (l.flatMap Con.walk).length ≤ l.length * m
  | [], _ => by simp
  | x :: l, h => by
    have h1 := h x (by simp)
    have h2 := flat_len l fun y hy => h y (by simp [hy])
    rw [List.flatMap_cons, List.length_append, List.length_cons, Nat.succ_mul]
    omega
theorem walk_len : ∀ (d : Nat) (c : Con), valN d c = true → c.walk.length ≤ wlen d := by
  intro d
  induction d with
  | zero =>
    intro c h
    have : c.inner = [] := by
      cases hc : c.inner with
      | nil => rfl
      | cons x l =>
        obtain ⟨_, e, he, _⟩ := valN_inner h (show x ∈ c.inner by rw [hc]; simp)
        omega
    rw [walk_eq, this]
    simp [wlen]
  | succ d ih =>
    intro c h
    rw [walk_eq, List.length_cons]
    have h1 : c.inner.length ≤ 16 := by
      unfold valN at h
      split at h
      · rename_i hk
        have := none_eq h hk
        rw [this]; simp [con0, Con.inner]
      · simp only [Bool.and_eq_true] at h
        exact inner_len h.1.2
    have h2 := flat_len (m := wlen d) c.inner fun x hx => by
      obtain ⟨_, e, he, hv⟩ := valN_inner h hx
      have : e = d := by omega
      subst this
      exact ih x hv
    have h3 : c.inner.length * wlen d ≤ 16 * wlen d := Nat.mul_le_mul_right _ h1
    unfold wlen
    omega
theorem wlen6 : ∀ d, d ≤ 6 → wlen d ≤ 20000000 := fun d h => by
  have : d = 0 ∨ d = 1 ∨ d = 2 ∨ d = 3 ∨ d = 4 ∨ d = 5 ∨ d = 6 := by omega
  rcases this with rfl | rfl | rfl | rfl | rfl | rfl | rfl <;> decide +kernel
/-- What the reference's walk leaves. -/
def RWalkOK (d : Nat) : Prop := ∀ (Q : Nat → Prop) (c : Con) (a : Option Addr) (n : Nat) (W : World), valN d c = true → CHas Q W (.slice a c.inner.length n) c.inner → (∀ b, Q b → b < W.heap.size) →
  Calls Tryd.prog 19 #[.agg #[.int .i64 c.kind, .string (bs c.id), .string (bs c.lab), .int .i64 c.slot, .int .i64 c.tot, .int .i64 c.lst, .slice a c.inner.length n]] W fun r w' => ∃ v L, r = .returned v ∧ L.map Prod.fst = c.walk ∧ ROwn w' W.heap.size Q v L ∧ Kp [] W w'
theorem walk_pos (c : Con) : 0 < c.walk.length := by rw [walk_eq]; simp

set_option maxHeartbeats 8000000 in
set_option maxRecDepth 100000 in
theorem refWalk_any : ∀ d, d ≤ 6 → RWalkOK d := by
  intro d
  induction d using Nat.strongRecOn with
  | _ d ih =>
  intro hd Q c a n W hv hh hQ
  obtain ⟨i0, hi0, hz0, hz1, hz2⟩ := info_parts info24
  obtain ⟨w1, hw1⟩ : ∃ w1, W.alloc (.cells #[.int .i64 c.kind, .string (bs c.id), .string (bs c.lab), .int .i64 c.slot, .int .i64 c.tot, .int .i64 c.lst, .slice a c.inner.length n] 24) = w1 := ⟨_, rfl⟩
  have hk1 : Kp [] W w1 := by rw [← hw1]; exact (Kp.refl [] W).alloc _
  have hb1 : BoxV W.heap.size (.int .i64 c.kind) (.string (bs c.id)) (.string (bs c.lab)) (.int .i64 c.slot) (.int .i64 c.tot) (.int .i64 c.lst) (.slice a c.inner.length n) w1 := by rw [← hw1]; exact al_new _ _
  have hs1 : w1.heap.size = W.heap.size + 1 := by rw [← hw1]; exact al_size _ _
  obtain ⟨A, hA⟩ : ∃ A, W.heap.size = A := ⟨_, rfl⟩
  rw [hA] at hb1 hs1 hQ
  have h16 := wl_len hv
  have hwl := fun x (hx : x ∈ c.inner) => (show x.walk.length ≤ 20000000 from by
    obtain ⟨_, e, he, hvx⟩ := valN_inner hv hx
    exact Nat.le_trans (walk_len e x hvx) (wlen6 e (by omega)))
  have hown := ROwn.one (B := A + 1) (Q := Q) (w := w1) (c := c) (u := .slice a c.inner.length n) (by omega) (tx_of_val hv) (kp_has hh hk1)
  have hal : Kp [] w1 (w1.alloc (.cells (conC c (.slice a c.inner.length n)).toArray 24)) := (Kp.refl [] w1).alloc _
  obtain ⟨c0, c1, c2, c3, c4, c5, c6⟩ := hb1.cells
  have B1 := Lib.hid hb1
  have K1 := Lib.hid hk1
  have S1 := Lib.hid hs1
  have HA := Lib.hid hA
  have HH := Lib.hid hh
  have HQ := Lib.hid hQ
  have HV := Lib.hid hv
  have IH := Lib.hid ih
  have HW := Lib.hid hwl
  have HO1 := Lib.hid hown
  have HAL := Lib.hid hal
  have hml : c.inner.length ≤ 9223372036854775807 := by omega
  clear hb1 hk1 hh hQ hv ih hwl hown hal
  go_enter Tryd.func19, Tryd.ntmps19
  go_wp2
  clear hw1 c0 c1 c2 c3 c4 c5 c6
  go_loopw [3, 4] (fun s3 s4 wx => ∃ (i : Nat) (L : List (Con × Value)), i ≤ c.inner.length ∧ s4 = .int .i64 (i : Int) ∧ L.map Prod.fst = c :: (c.inner.take i).flatMap Con.walk ∧ ROwn wx (A + 1) Q s3 L ∧ Kp [] w1 wx) (fun _ s4 _ => c.inner.length - (intOf s4).toNat)
  case atStart =>
    refine ⟨0, [(c, .slice a c.inner.length n)], Nat.zero_le _, rfl, rfl, ?_, HAL.out⟩
    have := HO1.out
    rw [S1.out] at this
    first
      | exact this
      | (rw [← S1.out]; exact HO1.out)
  case round =>
    rename_i wr
    obtain ⟨i, L, hi, rfl, hL, hown, hkp⟩ := hrel
    obtain ⟨sa, sc, rfl⟩ := hown.form
    obtain ⟨c0, c1, c2, c3, c4, c5, c6⟩ := (B1.out.kp hkp (by simp)).cells
    have KP := Lib.hid hkp
    have HO := Lib.hid hown
    have HL := Lib.hid hL
    clear hkp hown hL
    by_cases hlt : i < c.inner.length
    · have hiz : (i : Int) < (c.inner.length : Int) := by omega
      obtain ⟨x, hx⟩ : ∃ x, c.inner[i]? = some x := ⟨_, List.getElem?_eq_getElem hlt⟩
      have hne : c.inner ≠ [] := fun e => by rw [e] at hlt; simp at hlt
      obtain ⟨a', n', he, hrow⟩ := HH.out.form
      cases he
      obtain ⟨b, o, rfl, -, -, hq, hb, hr⟩ := hrow hne
      have hkk := K1.out.trans KP.out
      have hroww := CRow.keep hkk.size (fun k hk (hq : Q k) => ⟨hq, hkk.block k hk (by simp)⟩) _ b o hq hb hr
      obtain ⟨v, hvx, htx, e0, e1, e2, e3, e4, e5, e6⟩ := hroww.cells hx
      obtain ⟨a2, n2, rfl, -⟩ := hvx.form
      obtain ⟨_, d', hd', hvalx⟩ := valN_inner HV.out (List.mem_of_getElem? hx)
      have HC := Lib.hid (IH.out d' (by omega) (by omega) Q x a2 n2 wr hvalx hvx (fun b hb => by have := HQ.out b hb; have := hkk.size; have := HA.out; omega))
      have HX := Lib.hid hx
      have hwi : IntKind.i64.wrap ((i : Int) + 1) = ((i + 1 : Nat) : Int) := by rw [IntKind.wrap_i64]; omega
      have hLl : L.length ≤ 1 + 16 * 20000000 := by
        have h1 := congrArg List.length HL.out
        rw [List.length_map, List.length_cons] at h1
        have h2 := flat_len (m := 20000000) (c.inner.take i) fun y hy => HW.out y (List.mem_of_mem_take hy)
        have h3 : (c.inner.take i).length ≤ 16 := by rw [List.length_take]; omega
        have h4 : (c.inner.take i).length * 20000000 ≤ 16 * 20000000 := Nat.mul_le_mul_right _ h3
        omega
      have hXl := HW.out x (List.mem_of_getElem? hx)
      have HLL := Lib.hid hLl
      have HXL := Lib.hid hXl
      clear hx hroww hvx htx hvalx hrow hr hq hkk hne hLl hXl
      go_wp2_with fail
      refine HC.out.mono ?_
      rintro r w3 ⟨v2, M, rfl, hM, hO2, hk3⟩
      have hml2 : M.length = x.walk.length := by rw [← hM, List.length_map]
      obtain ⟨g, gc, rfl, hcell⟩ := hO2.adr (by rw [hml2]; exact walk_pos x)
      have K3 := Lib.hid (KP.out.trans hk3)
      have O3 := Lib.hid (HO.out.kp hk3)
      have M3 := Lib.hid hO2.2
      have HM := Lib.hid hM
      have HC3 := Lib.hid hcell
      have HML := Lib.hid hml2
      have hb3 : A + 1 ≤ w3.heap.size := by have := K3.out.size; have := S1.out; omega
      have h1c := Lib.hid (row_one (L := M) fun p hp => has_one' (hO2.2 p hp).2)
      clear hk3 hO2 hM hcell hml2 e0 e1 e2 e3 e4 e5 e6
      go_wp2_with (at_builtin; refine wpList_append_own _ rfl _ _ 22 rfl (A + 1) 24 i0 _ 7 88 Tryd.underlying22 hi0 hz0 hz1 hz2 rfl (by decide) _ _ _ rfl O3.out.1 ⟨g, 0, none⟩ M.length gc (rowC M) rfl (rowC_len M) HC3.out h1c.out (by unfold maxLen; have := HLL.out; have := HML.out; have := HXL.out; omega) (by have := HLL.out; have := HML.out; have := HXL.out; omega) hb3 ?_; intro v8 w8 hown8 hgrow8 _; have O8 := Lib.hid (O3.out.append M3.out (fun b hb => Nat.lt_succ_of_lt (HQ.out b hb)) hown8 hgrow8); have G8 := Lib.hid hgrow8; clear hown8 hgrow8)
      refine ⟨⟨i + 1, L ++ M, by omega, rfl, ?_, O8.out, grown_kp (B := A + 1) G8.out (fun k e => (World.ownsRow.lt O3.out.1 k e).1) K3.out (by rw [S1.out]; exact Nat.le_refl _)⟩, by simp [intOf]; omega⟩
      rw [List.map_append, HL.out, HM.out, List.take_add_one, HX.out]
      simp
    · have hie : i = c.inner.length := by omega
      subst hie
      have hiz : ¬ ((c.inner.length : Int) < (c.inner.length : Int)) := by omega
      have HF := Lib.hid (show L.map Prod.fst = c.walk by rw [HL.out, List.take_length, ← walk_eq])
      go_wp2
      go_ret
      refine ⟨.slice sa L.length sc, rfl, L, HF.out, HO.out.base ?_, K1.out.trans KP.out⟩
      omega
end Go.Proofs.YtoohnjlghjapnaaDoor
