/- Parse. -/
import Derived.Test.YtoohnjlghjapnaaDoorK
namespace Go.Proofs.YtoohnjlghjapnaaDoor
open Go.RowKit

/-- CONTENTS ARE READ AS THE LISTS' PARSER READS THEM. -/
theorem content_any : ∀ n, ContOK n (contP n)
  | 0 => fun _ _ _ _ _ _ _ h => absurd h (Nat.not_lt_zero _)
  | n + 1 => fun _ _ _ h hE hpb hx hxn => content_step (inner_any (content_any n) (cont_len n)) h hE hpb hx hxn
theorem res24b {fn : Func} (h : fn.results = #[.cell 2 24, .tmp 3]) {tmps : Array Value} {A : Nat} {u0 u1 u2 u3 u4 u5 u6 e : Value} {w : World} (h2 : tmps.getD 2 undef = .pointer (some ⟨A, 0, none⟩)) (h3 : tmps.getD 3 undef = e) (hb : BoxV A u0 u1 u2 u3 u4 u5 u6 w) :
    (results fn tmps).run Tryd.prog w = .ok (.tuple #[.agg #[u0, u1, u2, u3, u4, u5, u6], e]) w := by
  obtain ⟨c0, c1, c2, c3, c4, c5, c6⟩ := hb.cells
  rw [Array.getD_eq_getD_getElem?] at h2 h3
  simp only [results, h]
  simp [go_sem, h2, h3, c0, c1, c2, c3, c4, c5, c6]
/-- What Parse answers. -/
def parseR (s : List UInt8) : Con := if s.length ≤ 256 then (parseN 6 s).getD con0 else con0
def parseE (s : List UInt8) : Int := if s.length ≤ 256 then (if (parseN 6 s).isSome then 0 else 70) else 71
def aggV (c : Con) (v : Value) : Value := .agg #[.int .i64 c.kind, .string (bs c.id), .string (bs c.lab), .int .i64 c.slot, .int .i64 c.tot, .int .i64 c.lst, v]
def ParsePost (s : List UInt8) (w : World) (e : Ending) (w' : World) : Prop :=
  ∃ v, e = .returned (.tuple #[aggV (parseR s) v, .int .i64 (parseE s)]) ∧ CHas (fun b => w.heap.size ≤ b) w' v (parseR s).inner ∧ Tx (parseR s) ∧ Kp [] w w'
theorem tx0 : Tx con0 := ⟨by simp [con0, Con.id], by simp [con0, Con.lab]⟩

theorem parse_end {s : List UInt8} {w wk : World} {A : Nat} {v : Value} (hA : w.heap.size = A) (K : Kp [] w wk) (hv : CHas (fun b => A < b) wk v (parseR s).inner) (hx : Tx (parseR s)) :
    ParsePost s w (.returned (.tuple #[aggV (parseR s) v, .int .i64 (parseE s)])) (put7 wk A (.int .i64 (parseR s).kind) (.string (bs (parseR s).id)) (.string (bs (parseR s).lab)) (.int .i64 (parseR s).slot) (.int .i64 (parseR s).tot) (.int .i64 (parseR s).lst) v) := by
  have hk : Kp [A] wk (put7 wk A (.int .i64 (parseR s).kind) (.string (bs (parseR s).id)) (.string (bs (parseR s).lab)) (.int .i64 (parseR s).slot) (.int .i64 (parseR s).tot) (.int .i64 (parseR s).lst) v) := put7_kp (Kp.refl _ wk) (.inl (by simp)) _ _ _ _ _ _ _
  exact ⟨v, rfl, hv.keep hk.size fun k hkk hq => ⟨by omega, hk.block k hkk (by simp; omega)⟩, hx, K.up hk (by simp; omega)⟩
theorem parse_bad {s : List UInt8} {w wk : World} {A : Nat} {e : Int} (hA : w.heap.size = A) (K : Kp [] w wk) (hr : parseR s = con0) (he : parseE s = e) :
    ParsePost s w (.returned (.tuple #[.agg #[.int .i64 0, .string ⟨#[]⟩, .string ⟨#[]⟩, .int .i64 0, .int .i64 0, .int .i64 0, .slice none 0 0], .int .i64 e])) (put7 wk A (.int .i64 0) (.string ⟨#[]⟩) (.string ⟨#[]⟩) (.int .i64 0) (.int .i64 0) (.int .i64 0) (.slice none 0 0)) := by
  have := parse_end (s := s) hA K (v := .slice none 0 0) (by rw [hr]; exact CHas.nil _ _) (by rw [hr]; exact tx0)
  rw [hr, he] at this
  exact this

set_option maxHeartbeats 4000000 in
set_option maxRecDepth 100000 in
/-- Parse. -/
theorem parse_any {w : World} (hE : Env w) (s : List UInt8) : Calls Tryd.prog 15 #[.string (bs s)] w (ParsePost s w) := by
  obtain ⟨w1, hw1⟩ : ∃ w1, w.alloc (.cells #[.int .i64 0, .string ⟨#[]⟩, .string ⟨#[]⟩, .int .i64 0, .int .i64 0, .int .i64 0, .slice none 0 0] 24) = w1 := ⟨_, rfl⟩
  have hk1 : Kp [] w w1 := by rw [← hw1]; exact (Kp.refl [] w).alloc _
  have hz1 : Zero7 w.heap.size w1 := by rw [← hw1]; exact al_new _ _
  have hs1 : w1.heap.size = w.heap.size + 1 := by rw [← hw1]; exact al_size _ _
  obtain ⟨A, hA⟩ : ∃ A, w.heap.size = A := ⟨_, rfl⟩
  rw [hA] at hz1 hs1
  have K1 := Lib.hid hk1
  have S1 := Lib.hid hs1
  have HA := Lib.hid hA
  have H6 := Lib.hid (show 6 ≤ A by rw [← hA]; exact hE.size)
  have E1 := Lib.hid (hE.kp hk1 (by simp))
  by_cases hl : s.length ≤ 256
  · have hl' : ¬ ((bs s).size : Int) > 256 := by rw [bs_size]; omega
    have hl2 : ((bs s).size : Int) ≤ 256 := by rw [bs_size]; omega
    obtain ⟨w2, hw2⟩ : ∃ w2, w1.alloc (.cells #[.string (bs s), .bool false] 57) = w2 := ⟨_, rfl⟩
    have hk2 : Kp [] w1 w2 := by rw [← hw2]; exact (Kp.refl [] w1).alloc _
    have hp2 : Par (A + 1) (s, false) w2 := by rw [← hw2, ← hs1]; exact al_new _ _
    have hs2 : w2.heap.size = A + 2 := by rw [← hw2, al_size, hs1]
    have HC := Lib.hid (content_any (s.length + 7) (A + 1) (s, false) w2 hp2 (E1.out.kp hk2 (by simp)) (by have := H6.out; omega) (by show s.length ≤ _; omega) (by show s.length < _; omega))
    have HPP : Hid (progP (s.length + 7) 6 s = parseN 6 s) := Lib.hid (progP_parse (by omega))
    have HPD : Hid (progP (s.length + 7) 6 s = if (contP (s.length + 7) (s, false)).2.2 = false ∧ (contP (s.length + 7) (s, false)).2.1 = [] ∧ valN 6 (contP (s.length + 7) (s, false)).1 = true then some (contP (s.length + 7) (s, false)).1 else none) := Lib.hid rfl
    have HR : Hid (parseR s = (parseN 6 s).getD con0) := Lib.hid (if_pos hl)
    have HE : Hid (parseE s = if (parseN 6 s).isSome then 0 else 70) := Lib.hid (if_pos hl)
    have K2 := Lib.hid (hk1.trans hk2)
    have Z2 := Lib.hid (BoxV.kp hz1 hk2 (by simp))
    have S2 := Lib.hid hs2
    have E2 := Lib.hid (E1.out.kp hk2 (by simp))
    generalize contP (s.length + 7) (s, false) = ct at *
    obtain ⟨pr, hpr⟩ : ∃ pr, parseR s = pr := ⟨_, rfl⟩
    obtain ⟨pe, hpe⟩ : ∃ pe, parseE s = pe := ⟨_, rfl⟩
    rw [hpr] at HR
    rw [hpe] at HE
    have HPR := Lib.hid hpr
    have HPE := Lib.hid hpe
    clear hpr hpe
    generalize parseN 6 s = pn at *
    generalize progP (s.length + 7) 6 s = pg at *
    clear hk1 hz1 hE hl hk2 hp2 hs2
    subst hw2
    go_enter Tryd.func15, Tryd.ntmps15
    go_wp2_with fail
    refine HC.out.mono ?_
    rintro r w3 ⟨v, rfl, hv, htx, hp3, hk3⟩
    obtain ⟨va, vn, rfl, -⟩ := hv.form
    obtain ⟨C, hC⟩ : ∃ C, w3.heap.size = C := ⟨_, rfl⟩
    obtain ⟨w4, hw4⟩ : ∃ w4, w3.alloc (.cells #[.int .i64 ct.1.kind, .string (bs ct.1.id), .string (bs ct.1.lab), .int .i64 ct.1.slot, .int .i64 ct.1.tot, .int .i64 ct.1.lst, .slice va ct.1.inner.length vn] 24) = w4 := ⟨_, rfl⟩
    have hk4 : Kp [] w3 w4 := by rw [← hw4]; exact (Kp.refl [] w3).alloc _
    have hb4 : BoxV C (.int .i64 ct.1.kind) (.string (bs ct.1.id)) (.string (bs ct.1.lab)) (.int .i64 ct.1.slot) (.int .i64 ct.1.tot) (.int .i64 ct.1.lst) (.slice va ct.1.inner.length vn) w4 := by rw [← hw4, ← hC]; exact al_new _ _
    obtain ⟨c0, c1, c2, c3, c4, c5, c6⟩ := hb4.cells
    have hp4 := hp3.kp hk4 (by simp)
    obtain ⟨p0, p1, -, -⟩ := hp4.cells
    have hz4 := (Z2.out.kp hk3 (by simp)).kp hk4 (by simp)
    have HV4 := Lib.hid (kp_has hv hk4)
    have K4 := Lib.hid ((K2.out.up hk3 (by simp; have := HA.out; omega)).trans hk4)
    have HCH := Lib.hid (check_any ct.1 va vn w4 htx HV4.out)
    have HTX := Lib.hid htx
    have B4 := Lib.hid hb4
    have Z4 := Lib.hid hz4
    have HS4 := Lib.hid (show A + 2 ≤ w4.heap.size by have := S2.out; have := hk3.size; have := hk4.size; omega)
    clear hv htx hp3 hk3 hk4 hb4 hp4 hz4
    obtain ⟨d0, d1, d2, d3, d4, d5, d6⟩ := BoxV.cells Z4.out
    have g0 := BoxV.frozen Z4.out 0
    have g1 := BoxV.frozen Z4.out 1
    have g2 := BoxV.frozen Z4.out 2
    have g3 := BoxV.frozen Z4.out 3
    have g4 := BoxV.frozen Z4.out 4
    have g5 := BoxV.frozen Z4.out 5
    have g6 := BoxV.frozen Z4.out 6
    obtain ⟨cc, rst', wr'⟩ := ct
    simp only at *
    cases wr' with
    | true =>
      have hpn : pn = none := by rw [← HPP.out, HPD.out]; simp
      have HR2 := Lib.hid (show pr = con0 by rw [HR.out, hpn]; rfl)
      have HE2 := Lib.hid (show pe = 70 by rw [HE.out, hpn]; rfl)
      clear hpn
      go_wp2_with fail
      refine bodyPost_ret (res24b Tryd.results15 rfl rfl (put7_box Z4.out _ _ _ _ _ _ _)) rfl ?_
      exact parse_bad HA.out K4.out (HPR.out.trans HR2.out) (HPE.out.trans HE2.out)
    | false =>
    by_cases hr : rst' = []
    · have he : (bs rst').toList.isEmpty = true := by rw [bs_toList, hr]; rfl
      have HRS := Lib.hid hr
      clear hr
      go_wp2_with fail
      refine HCH.out.mono ?_
      rintro r w5 ⟨rfl, hk5⟩
      have K5 := Lib.hid (K4.out.trans hk5)
      have Z5 := Lib.hid (BoxV.kp Z4.out hk5 (by simp))
      have V5 := Lib.hid (kp_has HV4.out hk5)
      obtain ⟨c0, c1, c2, c3, c4, c5, c6⟩ := (B4.out.kp hk5 (by simp)).cells
      clear d0 d1 d2 d3 d4 d5 d6 g0 g1 g2 g3 g4 g5 g6
      obtain ⟨d0, d1, d2, d3, d4, d5, d6⟩ := BoxV.cells Z5.out
      have g0 := BoxV.frozen Z5.out 0
      have g1 := BoxV.frozen Z5.out 1
      have g2 := BoxV.frozen Z5.out 2
      have g3 := BoxV.frozen Z5.out 3
      have g4 := BoxV.frozen Z5.out 4
      have g5 := BoxV.frozen Z5.out 5
      have g6 := BoxV.frozen Z5.out 6
      clear hk5
      cases hval : valN 6 cc with
      | false =>
        have hpn : pn = none := by rw [← HPP.out, HPD.out]; simp [hval]
        have HR2 := Lib.hid (show pr = con0 by rw [HR.out, hpn]; rfl)
        have HE2 := Lib.hid (show pe = 70 by rw [HE.out, hpn]; rfl)
        have hf : formE false = 70 := rfl
        clear hpn hval
        go_wp2_with fail
        refine bodyPost_ret (res24b Tryd.results15 rfl rfl (put7_box Z5.out _ _ _ _ _ _ _)) rfl ?_
        exact parse_bad HA.out K5.out (HPR.out.trans HR2.out) (HPE.out.trans HE2.out)
      | true =>
        have hpn : pn = some cc := by rw [← HPP.out, HPD.out]; simp [hval, HRS.out]
        have HR2 := Lib.hid (show pr = cc by rw [HR.out, hpn]; rfl)
        have HE2 := Lib.hid (show pe = 0 by rw [HE.out, hpn]; rfl)
        have hf : formE true = 0 := rfl
        clear hpn hval
        go_wp2_with fail
        refine bodyPost_ret (res24b Tryd.results15 rfl rfl (put7_box Z5.out _ _ _ _ _ _ _)) rfl ?_
        have h1 := HPR.out.trans HR2.out
        have := parse_end (s := s) HA.out K5.out (v := .slice va cc.inner.length vn) (by rw [h1]; exact V5.out.mono fun k _ hq => by have := S2.out; omega) (by rw [h1]; exact HTX.out)
        rw [h1, HPE.out, HE2.out] at this
        exact this
    · have he : (bs rst').toList.isEmpty = false := by rw [bs_toList]; cases rst' with | nil => exact absurd rfl hr | cons _ _ => rfl
      have hpn : pn = none := by rw [← HPP.out, HPD.out]; simp [hr]
      have HR2 := Lib.hid (show pr = con0 by rw [HR.out, hpn]; rfl)
      have HE2 := Lib.hid (show pe = 70 by rw [HE.out, hpn]; rfl)
      clear hpn hr
      go_wp2_with fail
      refine bodyPost_ret (res24b Tryd.results15 rfl rfl (put7_box Z4.out _ _ _ _ _ _ _)) rfl ?_
      exact parse_bad HA.out K4.out (HPR.out.trans HR2.out) (HPE.out.trans HE2.out)
  · have hl' : ((bs s).size : Int) > 256 := by rw [bs_size]; omega
    have hl2 : (256 : Int) < ((bs s).size : Int) := hl'
    have HR2 := Lib.hid (show parseR s = con0 from if_neg hl)
    have HE2 := Lib.hid (show parseE s = 71 from if_neg hl)
    have Z1 := Lib.hid hz1
    obtain ⟨d0, d1, d2, d3, d4, d5, d6⟩ := BoxV.cells Z1.out
    have g0 := BoxV.frozen Z1.out 0
    have g1 := BoxV.frozen Z1.out 1
    have g2 := BoxV.frozen Z1.out 2
    have g3 := BoxV.frozen Z1.out 3
    have g4 := BoxV.frozen Z1.out 4
    have g5 := BoxV.frozen Z1.out 5
    have g6 := BoxV.frozen Z1.out 6
    clear hk1 hz1 hs1 hE hl
    go_enter Tryd.func15, Tryd.ntmps15
    go_wp2_with fail
    refine bodyPost_ret (res24b Tryd.results15 rfl rfl (put7_box Z1.out _ _ _ _ _ _ _)) rfl ?_
    exact parse_bad HA.out K1.out HR2.out HE2.out
end Go.Proofs.YtoohnjlghjapnaaDoor
