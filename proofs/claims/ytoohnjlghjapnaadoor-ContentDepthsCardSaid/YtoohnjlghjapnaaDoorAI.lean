/- A content and all contents in it. -/
import Derived.Test.YtoohnjlghjapnaaDoorAH
namespace Go.Proofs.YtoohnjlghjapnaaDoor
open Go.RowKit

/-- What the program's walk leaves. -/
def AllOK (d : Nat) : Prop := ∀ (Q : Nat → Prop) (c : Con) (a : Option Addr) (n B : Nat) (v : Value) (L : List (Con × Value)) (W : World), valN d c = true → CHas Q W (.slice a c.inner.length n) c.inner → (∀ b, Q b → b < B) → B ≤ W.heap.size → LOwn W B v L → L.length + wlen d ≤ 40000000 →
  Calls Tryd.prog 31 #[v, .agg #[.int .i64 c.kind, .string (bs c.id), .string (bs c.lab), .int .i64 c.slot, .int .i64 c.tot, .int .i64 c.lst, .slice a c.inner.length n]] W fun r w' => ∃ v' M, r = .returned v' ∧ M.map Prod.fst = c.walk ∧ LOwn w' B v' (L ++ M) ∧ Below B W w'
theorem walk_take {d : Nat} {c : Con} (hv : valN d c = true) (i : Nat) {x : Con} (hx : c.inner[i]? = some x) : ∃ d', d = d' + 1 ∧ valN d' x = true ∧ (1 + ((c.inner.take i).flatMap Con.walk).length) + wlen d' ≤ wlen d := by
  obtain ⟨_, d', hd, hvx⟩ := valN_inner hv (List.mem_of_getElem? hx)
  refine ⟨d', hd, hvx, ?_⟩
  have h1 := flat_len (m := wlen d') (c.inner.take i) fun y hy => by
    obtain ⟨_, e, he, hvy⟩ := valN_inner hv (List.mem_of_mem_take hy)
    have : e = d' := by omega
    subst this
    exact walk_len e y hvy
  have h2 := wl_len hv
  have h3 := (List.getElem?_eq_some_iff.1 hx).1
  have h4 : (c.inner.take i).length * wlen d' ≤ 15 * wlen d' := Nat.mul_le_mul_right _ (by rw [List.length_take]; omega)
  rw [hd]
  show _ ≤ 1 + 16 * wlen d'
  omega
theorem below_has {Q : Nat → Prop} {B : Nat} {W w : World} {v : Value} {l : List Con} (h : CHas Q W v l) (hb : Below B W w) (hQ : ∀ b, Q b → b < B) : CHas Q w v l := h.keep hb.size fun k _ hq => ⟨hq, hb.block k (hQ k hq)⟩

set_option maxHeartbeats 8000000 in
set_option maxRecDepth 100000 in
theorem all_any : ∀ d, d ≤ 6 → AllOK d := by
  intro d
  induction d using Nat.strongRecOn with
  | _ d ih =>
  intro hd Q c a n B v L W hv hh hQ hB hown hlen
  obtain ⟨va, vc, rfl⟩ := hown.form
  obtain ⟨i0, hi0, hz0, hz1, hz2⟩ := info_parts info24
  have h16 := wl_len hv
  obtain ⟨w1, hw1⟩ : ∃ w1, W.alloc (.cells #[.int .i64 c.kind, .string (bs c.id), .string (bs c.lab), .int .i64 c.slot, .int .i64 c.tot, .int .i64 c.lst, .slice a c.inner.length n] 24) = w1 := ⟨_, rfl⟩
  have hk1 : Kp [] W w1 := by rw [← hw1]; exact (Kp.refl [] W).alloc _
  have hb1 : BoxV W.heap.size (.int .i64 c.kind) (.string (bs c.id)) (.string (bs c.lab)) (.int .i64 c.slot) (.int .i64 c.tot) (.int .i64 c.lst) (.slice a c.inner.length n) w1 := by rw [← hw1]; exact al_new _ _
  have hs1 : w1.heap.size = W.heap.size + 1 := by rw [← hw1]; exact al_size _ _
  obtain ⟨A, hA⟩ : ∃ A, W.heap.size = A := ⟨_, rfl⟩
  have howA : ∀ k, (Value.slice va L.length vc).ownBlock = some k → k < A := fun k e => by have := (World.ownsRow.lt hown.1 k e).2; omega
  rw [hA] at hb1 hs1 hB
  have HC := Lib.hid (copy_any d hd Q c a n w1 hv (kp_has hh hk1) (fun b hb => by have := hQ b hb; omega))
  have B1 := Lib.hid hb1
  have K1 := Lib.hid hk1
  have S1 := Lib.hid hs1
  have HA := Lib.hid hA
  have HH := Lib.hid hh
  have HQ := Lib.hid hQ
  have HV := Lib.hid hv
  have IH := Lib.hid ih
  have HO1 := Lib.hid (hown.kp hk1 (by simp))
  have HOA := Lib.hid howA
  have HB := Lib.hid hB
  have HLEN := Lib.hid hlen
  have hwp : 1 ≤ wlen d := by cases d <;> (unfold wlen; omega)
  have hml : c.inner.length ≤ 9223372036854775807 := by omega
  obtain ⟨c0, c1, c2, c3, c4, c5, c6⟩ := hb1.cells
  clear hb1 hk1 hs1 hh hQ hv ih hown howA
  go_enter Tryd.func31, Tryd.ntmps31
  go_wp2_with fail
  refine HC.out.mono ?_
  rintro r w2 ⟨u, rfl, hu, hk2⟩
  obtain ⟨ua, un, rfl, -⟩ := hu.form
  have hal : Kp [] w2 (w2.alloc (.cells (conC c (.slice ua c.inner.length un)).toArray 24)) := (Kp.refl [] w2).alloc _
  have B3 := Lib.hid ((B1.out.kp hk2 (by simp)).kp hal (by simp))
  have O3 := Lib.hid ((HO1.out.kp hk2 (by simp)).kp hal (by simp))
  have K3 := Lib.hid ((K1.out.trans hk2).trans hal)
  have U3 := Lib.hid (kp_has (hu.mono (Q' := fun b => B ≤ b ∧ (Value.slice va L.length vc).ownBlock ≠ some b) fun b _ hb => ⟨by have := S1.out; have := HB.out; omega, fun e => by have := HOA.out b e; have := S1.out; omega⟩) hal)
  have HCX := Lib.hid (cells_new7 w2 (conC c (.slice ua c.inner.length un)) 24)
  have hs3 : B ≤ (w2.alloc (.cells (conC c (.slice ua c.inner.length un)).toArray 24)).heap.size := by have := K3.out.size; have := HA.out; omega
  clear hal hu hk2 c0 c1 c2 c3 c4 c5 c6 hw1
  go_wp2_with (at_builtin; refine wpList_append_own_at _ rfl _ _ 22 rfl B 24 i0 _ 7 88 Tryd.underlying22 hi0 hz0 hz1 hz2 rfl (by decide) _ _ _ rfl O3.out.1 ⟨w2.heap.size, 0, none⟩ 1 1 (conC c (.slice ua c.inner.length un)) rfl rfl HCX.out (conC_one rfl) (by unfold maxLen; have := HLEN.out; omega) (by have := HLEN.out; omega) hs3 ?_; intro v9 w9 hown9 hgrow9 _ hwh9; have O9 := Lib.hid (O3.out.snoc (tx_of_val HV.out) U3.out hown9 hgrow9 hwh9); obtain ⟨va9, vn9, vc9, rfl⟩ := own_form O9.out; obtain ⟨S, hkS, hSS⟩ := grown_kpS (B := B) hgrow9 (fun b e => (World.ownsRow.lt O3.out.1 b e).1); have B9 := Lib.hid (show BoxV A (.int .i64 c.kind) (.string (bs c.id)) (.string (bs c.lab)) (.int .i64 c.slot) (.int .i64 c.tot) (.int .i64 c.lst) (.slice a c.inner.length n) w9 from (hgrow9.block A (block_lt B3.out) (fun e => by have := HOA.out A e.symm; omega)).trans B3.out); have BL9 := Lib.hid (((K3.out.mono (t := S) (by simp)).trans hkS).below (B := B) (by rw [HA.out]; exact HB.out) hSS); clear hown9 hgrow9 hwh9 hkS hSS; obtain ⟨c0, c1, c2, c3, c4, c5, c6⟩ := B9.out.cells)
  clear c0 c1 c2 c3 c4 c5 c6
  go_loopw [0, 15] (fun s0 s15 wx => ∃ (i : Nat) (M : List (Con × Value)), i ≤ c.inner.length ∧ s15 = .int .i64 (i : Int) ∧ M.map Prod.fst = c :: (c.inner.take i).flatMap Con.walk ∧ LOwn wx B s0 (L ++ M) ∧ Below B W wx) (fun _ s15 _ => c.inner.length - (intOf s15).toNat)
  case atStart => exact ⟨0, [(c, .slice ua c.inner.length un)], Nat.zero_le _, rfl, rfl, O9.out, BL9.out⟩
  case round =>
    rename_i wr
    obtain ⟨i, M, hi, rfl, hM, hown, hbl⟩ := hrel
    obtain ⟨sa, sn, sc, rfl⟩ := own_form hown
    have HO := Lib.hid hown
    have HM := Lib.hid hM
    have HBL := Lib.hid hbl
    clear hown hM hbl
    by_cases hlt : i < c.inner.length
    · have hiz : (i : Int) < (c.inner.length : Int) := by omega
      obtain ⟨x, hx⟩ : ∃ x, c.inner[i]? = some x := ⟨_, List.getElem?_eq_getElem hlt⟩
      obtain ⟨d', hd', hvx, hwl⟩ := walk_take HV.out i hx
      have hne : c.inner ≠ [] := fun e => by rw [e] at hlt; simp at hlt
      have hhw := below_has HH.out HBL.out HQ.out
      obtain ⟨a', n', he, hrow⟩ := hhw.form
      cases he
      obtain ⟨b, o, rfl, -, -, hq, hb, hr⟩ := hrow hne
      obtain ⟨v, hvv, htx, e0, e1, e2, e3, e4, e5, e6⟩ := hr.cells hx
      obtain ⟨a2, n2, rfl, -⟩ := hvv.form
      obtain ⟨wd, hwd⟩ : ∃ wd, wr.alloc (.cells #[.int .i64 x.kind, .string (bs x.id), .string (bs x.lab), .int .i64 x.slot, .int .i64 x.tot, .int .i64 x.lst, .slice a2 x.inner.length n2] 24) = wd := ⟨_, rfl⟩
      have hal : Kp [] wr wd := by rw [← hwd]; exact (Kp.refl [] wr).alloc _
      have hbd : BoxV wr.heap.size (.int .i64 x.kind) (.string (bs x.id)) (.string (bs x.lab)) (.int .i64 x.slot) (.int .i64 x.tot) (.int .i64 x.lst) (.slice a2 x.inner.length n2) wd := by rw [← hwd]; exact al_new _ _
      have hwi : IntKind.i64.wrap ((i : Int) + 1) = ((i + 1 : Nat) : Int) := by rw [IntKind.wrap_i64]; omega
      have hMl : M.length = 1 + ((c.inner.take i).flatMap Con.walk).length := by
        have := congrArg List.length HM.out
        rw [List.length_map, List.length_cons] at this
        omega
      have hBr : B ≤ wd.heap.size := by have := HBL.out.size; have := hal.size; have := HA.out; have := HB.out; omega
      have HC := Lib.hid (IH.out d' (by omega) (by omega) Q x a2 n2 B (.slice sa sn sc) (L ++ M) wd hvx (kp_has hvv hal) HQ.out hBr (HO.out.kp hal (by simp)) (by rw [List.length_append]; have := HLEN.out; omega))
      have HX := Lib.hid hx
      have BLD := Lib.hid (HBL.out.trans (hal.below (B := B) (by have := HBL.out.size; have := HA.out; have := HB.out; omega) (by simp)))
      obtain ⟨b0, b1, b2, b3, b4, b5, b6⟩ := hbd.cells
      clear hx hvx hwl hne hhw hrow hq hb hr hvv htx hal hbd hMl hBr
      go_wp2_with fail
      refine HC.out.mono ?_
      rintro r w5 ⟨v5, M5, rfl, hM5, hO5, hB5⟩
      have O5 := Lib.hid hO5
      have BL5 := Lib.hid (BLD.out.trans hB5)
      have HM5 := Lib.hid hM5
      clear hM5 hO5 hB5
      go_wp2
      refine ⟨⟨i + 1, M ++ M5, by omega, rfl, ?_, by rw [← List.append_assoc]; exact O5.out, BL5.out⟩, by simp [intOf]; omega⟩
      rw [List.map_append, HM.out, HM5.out, List.take_add_one, HX.out]
      simp
    · have hie : i = c.inner.length := by omega
      subst hie
      have hiz : ¬ ((c.inner.length : Int) < (c.inner.length : Int)) := by omega
      have HF := Lib.hid (show M.map Prod.fst = c.walk by rw [HM.out, List.take_length, ← walk_eq])
      go_wp2
      go_ret
      exact ⟨_, rfl, M, HF.out, HO.out, HBL.out⟩
end Go.Proofs.YtoohnjlghjapnaaDoor
