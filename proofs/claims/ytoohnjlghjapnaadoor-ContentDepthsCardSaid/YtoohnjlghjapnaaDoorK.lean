/- Contents are read: the parser's main method, and Parse. -/
import Derived.Test.YtoohnjlghjapnaaDoorJ
namespace Go.Proofs.YtoohnjlghjapnaaDoor
open Go.RowKit

theorem bs_toList (s : List UInt8) : (bs s).toList = s := by rw [Lib.toList_data, bs_data]
/-- A content is stored into the cell of the result. -/
theorem finish {pb A : Nat} {cp : Con × St} {w w3 : World} {v : Value} {z0 z1 z2 z3 z4 z5 z6 : Value} (_Z3 : BoxV A z0 z1 z2 z3 z4 z5 z6 w3) (hA : w.heap.size = A) (hv : CHas (fun b => A < b) w3 v cp.1.inner) (htx : Tx cp.1) (P3 : Par pb cp.2 w3) (K3 : Kp [pb] w w3) (hpl : pb < A) :
    ContPost pb cp w (.returned (.agg #[.int .i64 cp.1.kind, .string (bs cp.1.id), .string (bs cp.1.lab), .int .i64 cp.1.slot, .int .i64 cp.1.tot, .int .i64 cp.1.lst, v])) (put7 w3 A (.int .i64 cp.1.kind) (.string (bs cp.1.id)) (.string (bs cp.1.lab)) (.int .i64 cp.1.slot) (.int .i64 cp.1.tot) (.int .i64 cp.1.lst) v) := by
  have hk : Kp [A] w3 (put7 w3 A (.int .i64 cp.1.kind) (.string (bs cp.1.id)) (.string (bs cp.1.lab)) (.int .i64 cp.1.slot) (.int .i64 cp.1.tot) (.int .i64 cp.1.lst) v) := put7_kp (Kp.refl _ w3) (.inl (by simp)) _ _ _ _ _ _ _
  exact ⟨v, rfl, hv.keep hk.size fun k hkk hq => ⟨by omega, hk.block k hkk (by simp; omega)⟩, htx, P3.kp hk (by simp; omega), K3.up hk (by simp; omega)⟩

set_option maxHeartbeats 4000000 in
set_option maxRecDepth 100000 in
theorem content_step {n : Nat} (hi : InnOK n (contP n)) {pb : Nat} {x : St} {w : World} (h : Par pb x w) (hE : Env w) (hpb : 6 ≤ pb) (hx : x.1.length ≤ 1000000) (hxn : x.1.length < n + 1) : Calls Tryd.prog 30 #[.pointer (some ⟨pb, 0, none⟩)] w (ContPost pb (contP (n + 1) x) w) := by
  have hpl := block_lt h
  obtain ⟨w1, hw1⟩ : ∃ w1, w.alloc (.cells #[.int .i64 0, .string ⟨#[]⟩, .string ⟨#[]⟩, .int .i64 0, .int .i64 0, .int .i64 0, .slice none 0 0] 24) = w1 := ⟨_, rfl⟩
  have hk1 : Kp [] w w1 := by rw [← hw1]; exact (Kp.refl [] w).alloc _
  have hz1 : Zero7 w.heap.size w1 := by rw [← hw1]; exact al_new _ _
  have hs1 : w1.heap.size = w.heap.size + 1 := by rw [← hw1]; exact al_size _ _
  obtain ⟨A, hA⟩ : ∃ A, w.heap.size = A := ⟨_, rfl⟩
  rw [hA] at hz1 hs1 hpl
  have HW := Lib.hid (word_any (h.kp hk1 (by simp)) hx)
  have K1 := Lib.hid hk1
  have Z1 := Lib.hid hz1
  have S1 := Lib.hid hs1
  have HE := Lib.hid (hE.kp hk1 (by simp))
  have HI := Lib.hid hi
  have HA := Lib.hid hA
  have HX := Lib.hid hx
  have HXN := Lib.hid hxn
  have HRL := Lib.hid (rst_len x.1)
  have HRT := Lib.hid (fun h => @rst_lt x.1 h)
  have HCO : Hid (contP (n + 1) x = if wrd x.1 = [] then (con0, rst x.1, x.2)
    else if wrd x.1 = wFs then fileP (rst x.1, x.2)
    else if wrd x.1 = wRaid then raidP (contP n) (rst x.1, x.2)
    else if wrd x.1 = wCrypt then plainP 3 (contP n) (rst x.1, x.2)
    else if wrd x.1 = wPv then groupP (contP n) (rst x.1, x.2)
    else if wrd x.1 = wTable then plainP 5 (contP n) (rst x.1, x.2)
    else (con0, rst x.1, true)) := Lib.hid rfl
  clear h hk1 hz1 hs1 hE hi hx hxn
  generalize contP (n + 1) x = cp at *
  generalize wrd x.1 = wd at *
  obtain ⟨y, hy⟩ : ∃ y : St, (rst x.1, x.2) = y := ⟨_, rfl⟩
  go_enter Tryd.func30, Tryd.ntmps30
  go_wp2_with fail
  subst hw1
  refine HW.out.mono ?_
  rintro r w2 ⟨rfl, hp2, hk2, hs2⟩
  rw [hy] at hp2
  have hz2 := Z1.out.kp hk2 (by simp; omega)
  have K2 := Lib.hid ((K1.out.mono (by simp)).trans hk2)
  have P2 := Lib.hid hp2
  have E2 := Lib.hid (HE.out.kp hk2 (by simp; exact hpb))
  have hA2 : w2.heap.size = A + 1 := by rw [hs2, S1.out]
  obtain ⟨d0, d1, d2, d3, d4, d5, d6⟩ := BoxV.cells hz2
  have g0 := BoxV.frozen hz2 0
  have g1 := BoxV.frozen hz2 1
  have g2 := BoxV.frozen hz2 2
  have g3 := BoxV.frozen hz2 3
  have g4 := BoxV.frozen hz2 4
  have g5 := BoxV.frozen hz2 5
  have g6 := BoxV.frozen hz2 6
  have Z2 := Lib.hid hz2
  clear hz2 hk2 hp2 hs2
  by_cases h0 : wd = []
  · have e0 : (bs wd).toList.isEmpty = true := by rw [bs_toList, h0]; rfl
    have HCP := Lib.hid ((HCO.out.trans (if_pos h0)).trans (by rw [← hy] : (con0, rst x.1, x.2) = (con0, y)))
    clear h0
    go_wp2_with fail
    refine bodyPost_ret (res24 Tryd.results30 rfl (put7_box Z2.out _ _ _ _ _ _ _)) rfl ?_
    rw [HCP.out]
    exact finish (cp := (con0, y)) Z2.out HA.out (CHas.nil _ _) ⟨by simp [con0, Con.id], by simp [con0, Con.lab]⟩ P2.out K2.out hpl
  have e0 : (bs wd).toList.isEmpty = false := by rw [bs_toList]; cases wd with | nil => exact absurd rfl h0 | cons _ _ => rfl
  have hco0 := HCO.out.trans (if_neg h0)
  have HLT := Lib.hid (HRT.out h0)
  have HY := Lib.hid (show y.1.length < n by have := HLT.out; have := HXN.out; rw [← hy]; show (rst x.1).length < n; omega)
  have HY6 := Lib.hid (show y.1.length ≤ 1000000 by have := HRL.out; have := HX.out; rw [← hy]; show (rst x.1).length ≤ _; omega)
  rw [hy, show (con0, rst x.1, true) = (con0, y.1, true) by rw [← hy]] at hco0
  clear h0 hy
  by_cases h1 : wd = wFs
  · have e1 : ((bs wd).toList == [102, 115]) = true := by rw [bs_toList, h1]; rfl
    have HCP := Lib.hid (hco0.trans (if_pos h1))
    have HCA := Lib.hid (file_any P2.out HY6.out)
    rw [← HCP.out] at HCA
    clear h1 hco0
    go_wp2_with fail
    refine HCA.out.mono ?_
    rintro r w3 ⟨v, rfl, hv, htx, hp3, hk3⟩
    have hz3 := Z2.out.kp hk3 (by simp; omega)
    obtain ⟨va, vn, rfl, -⟩ := hv.form
    have HF := Lib.hid (finish hz3 HA.out (hv.mono fun k _ hq => by omega) htx hp3 (K2.out.trans hk3) hpl)
    have HZ := Lib.hid hz3
    clear d0 d1 d2 d3 d4 d5 d6 g0 g1 g2 g3 g4 g5 g6
    obtain ⟨d0, d1, d2, d3, d4, d5, d6⟩ := BoxV.cells hz3
    have g0 := BoxV.frozen hz3 0
    have g1 := BoxV.frozen hz3 1
    have g2 := BoxV.frozen hz3 2
    have g3 := BoxV.frozen hz3 3
    have g4 := BoxV.frozen hz3 4
    have g5 := BoxV.frozen hz3 5
    have g6 := BoxV.frozen hz3 6
    clear hz3 hv htx hp3 hk3
    go_wp2_with fail
    exact bodyPost_ret (res24 Tryd.results30 rfl (put7_box HZ.out _ _ _ _ _ _ _)) rfl HF.out
  have e1 : ((bs wd).toList == [102, 115]) = false := by rw [bs_toList]; exact beq_false_of_ne h1
  have hco1 := hco0.trans (if_neg h1)
  clear h1 hco0
  by_cases h2 : wd = wRaid
  · have e2 : ((bs wd).toList == [114, 97, 105, 100]) = true := by rw [bs_toList, h2]; rfl
    have HCP := Lib.hid (hco1.trans (if_pos h2))
    have HCA := Lib.hid (raid_any HI.out P2.out E2.out hpb HY6.out HY.out)
    rw [← HCP.out] at HCA
    clear h2 hco1
    go_wp2_with fail
    refine HCA.out.mono ?_
    rintro r w3 ⟨v, rfl, hv, htx, hp3, hk3⟩
    have hz3 := Z2.out.kp hk3 (by simp; omega)
    obtain ⟨va, vn, rfl, -⟩ := hv.form
    have HF := Lib.hid (finish hz3 HA.out (hv.mono fun k _ hq => by omega) htx hp3 (K2.out.trans hk3) hpl)
    have HZ := Lib.hid hz3
    clear d0 d1 d2 d3 d4 d5 d6 g0 g1 g2 g3 g4 g5 g6
    obtain ⟨d0, d1, d2, d3, d4, d5, d6⟩ := BoxV.cells hz3
    have g0 := BoxV.frozen hz3 0
    have g1 := BoxV.frozen hz3 1
    have g2 := BoxV.frozen hz3 2
    have g3 := BoxV.frozen hz3 3
    have g4 := BoxV.frozen hz3 4
    have g5 := BoxV.frozen hz3 5
    have g6 := BoxV.frozen hz3 6
    clear hz3 hv htx hp3 hk3
    go_wp2_with fail
    exact bodyPost_ret (res24 Tryd.results30 rfl (put7_box HZ.out _ _ _ _ _ _ _)) rfl HF.out
  have e2 : ((bs wd).toList == [114, 97, 105, 100]) = false := by rw [bs_toList]; exact beq_false_of_ne h2
  have hco2 := hco1.trans (if_neg h2)
  clear h2 hco1
  by_cases h3 : wd = wCrypt
  · have e3 : ((bs wd).toList == [99, 114, 121, 112, 116]) = true := by rw [bs_toList, h3]; rfl
    have HCP := Lib.hid (hco2.trans (if_pos h3))
    have HCA := Lib.hid (id_any P2.out HY6.out)
    have HPL : Hid (plainP 3 (contP n) y = (.mk 3 (idP y).1 [] 0 0 0 (innP (contP n) (idP y).2).1, (innP (contP n) (idP y).2).2)) := Lib.hid rfl
    have HI1 := Lib.hid (Nat.lt_of_le_of_lt (id_len y) HY.out)
    have HI2 := Lib.hid (Nat.le_trans (id_len y) HY6.out)
    have HIL := Lib.hid (show (idP y).1.length ≤ 1000000 from Nat.le_trans (wrd_le _) (Nat.le_trans (take_len 58 y) HY6.out))
    clear h3 hco2
    generalize idP y = iy at *
    have HIN := Lib.hid (fun w h hE => HI.out pb iy.2 w h hE hpb HI2.out HI1.out)
    generalize innP (contP n) iy.2 = inn at *
    have HCP2 := Lib.hid (HCP.out.trans HPL.out)
    go_wp2_with fail
    refine HCA.out.mono ?_
    rintro r w3 ⟨rfl, hp3, hk3, hs3⟩
    have hz3 := Z2.out.kp hk3 (by simp; omega)
    have E3 := E2.out.kp hk3 (by simp; exact hpb)
    have HCB := Lib.hid (HIN.out w3 hp3 E3)
    have HS3 := Lib.hid (show A + 1 ≤ w3.heap.size by omega)
    have K3 := Lib.hid (K2.out.trans hk3)
    have Z3 := Lib.hid hz3
    clear hz3 E3 hp3 hk3 hs3 d0 d1 d2 d3 d4 d5 d6 g0 g1 g2 g3 g4 g5 g6
    go_wp2_with fail
    refine HCB.out.mono ?_
    rintro r w4 ⟨v, rfl, hv, hp4, hk4⟩
    have hz4 := Z3.out.kp hk4 (by simp; omega)
    obtain ⟨va, vn, rfl, -⟩ := hv.form
    have hfi := finish (cp := (.mk 3 iy.1 [] 0 0 0 inn.1, inn.2)) hz4 HA.out (hv.mono fun k _ hq => by have := HS3.out; omega) ⟨by show iy.1.length ≤ _; have := HIL.out; unfold maxLen; omega, by show ([] : List UInt8).length ≤ _; simp⟩ hp4 (K3.out.trans hk4) hpl
    rw [← HCP2.out] at hfi
    have HF := Lib.hid hfi
    have HZ := Lib.hid hz4
    obtain ⟨d0, d1, d2, d3, d4, d5, d6⟩ := BoxV.cells hz4
    have g0 := BoxV.frozen hz4 0
    have g1 := BoxV.frozen hz4 1
    have g2 := BoxV.frozen hz4 2
    have g3 := BoxV.frozen hz4 3
    have g4 := BoxV.frozen hz4 4
    have g5 := BoxV.frozen hz4 5
    have g6 := BoxV.frozen hz4 6
    clear hz4 hv hp4 hk4 hfi
    go_wp2_with fail
    refine bodyPost_ret (res24 Tryd.results30 rfl (put7_box HZ.out _ _ _ _ _ _ _)) rfl ?_
    have := HF.out
    rw [HCP2.out] at this ⊢
    exact this
  have e3 : ((bs wd).toList == [99, 114, 121, 112, 116]) = false := by rw [bs_toList]; exact beq_false_of_ne h3
  have hco3 := hco2.trans (if_neg h3)
  clear h3 hco2
  by_cases h4 : wd = wPv
  · have e4 : ((bs wd).toList == [112, 118]) = true := by rw [bs_toList, h4]; rfl
    have HCP := Lib.hid (hco3.trans (if_pos h4))
    have HCA := Lib.hid (group_any HI.out P2.out E2.out hpb HY6.out HY.out)
    rw [← HCP.out] at HCA
    clear h4 hco3
    go_wp2_with fail
    refine HCA.out.mono ?_
    rintro r w3 ⟨v, rfl, hv, htx, hp3, hk3⟩
    have hz3 := Z2.out.kp hk3 (by simp; omega)
    obtain ⟨va, vn, rfl, -⟩ := hv.form
    have HF := Lib.hid (finish hz3 HA.out (hv.mono fun k _ hq => by omega) htx hp3 (K2.out.trans hk3) hpl)
    have HZ := Lib.hid hz3
    clear d0 d1 d2 d3 d4 d5 d6 g0 g1 g2 g3 g4 g5 g6
    obtain ⟨d0, d1, d2, d3, d4, d5, d6⟩ := BoxV.cells hz3
    have g0 := BoxV.frozen hz3 0
    have g1 := BoxV.frozen hz3 1
    have g2 := BoxV.frozen hz3 2
    have g3 := BoxV.frozen hz3 3
    have g4 := BoxV.frozen hz3 4
    have g5 := BoxV.frozen hz3 5
    have g6 := BoxV.frozen hz3 6
    clear hz3 hv htx hp3 hk3
    go_wp2_with fail
    exact bodyPost_ret (res24 Tryd.results30 rfl (put7_box HZ.out _ _ _ _ _ _ _)) rfl HF.out
  have e4 : ((bs wd).toList == [112, 118]) = false := by rw [bs_toList]; exact beq_false_of_ne h4
  have hco4 := hco3.trans (if_neg h4)
  clear h4 hco3
  by_cases h5 : wd = wTable
  · have e5 : ((bs wd).toList == [116, 97, 98, 108, 101]) = true := by rw [bs_toList, h5]; rfl
    have HCP := Lib.hid (hco4.trans (if_pos h5))
    have HCA := Lib.hid (id_any P2.out HY6.out)
    have HPL : Hid (plainP 5 (contP n) y = (.mk 5 (idP y).1 [] 0 0 0 (innP (contP n) (idP y).2).1, (innP (contP n) (idP y).2).2)) := Lib.hid rfl
    have HI1 := Lib.hid (Nat.lt_of_le_of_lt (id_len y) HY.out)
    have HI2 := Lib.hid (Nat.le_trans (id_len y) HY6.out)
    have HIL := Lib.hid (show (idP y).1.length ≤ 1000000 from Nat.le_trans (wrd_le _) (Nat.le_trans (take_len 58 y) HY6.out))
    clear h5 hco4
    generalize idP y = iy at *
    have HIN := Lib.hid (fun w h hE => HI.out pb iy.2 w h hE hpb HI2.out HI1.out)
    generalize innP (contP n) iy.2 = inn at *
    have HCP2 := Lib.hid (HCP.out.trans HPL.out)
    go_wp2_with fail
    refine HCA.out.mono ?_
    rintro r w3 ⟨rfl, hp3, hk3, hs3⟩
    have hz3 := Z2.out.kp hk3 (by simp; omega)
    have E3 := E2.out.kp hk3 (by simp; exact hpb)
    have HCB := Lib.hid (HIN.out w3 hp3 E3)
    have HS3 := Lib.hid (show A + 1 ≤ w3.heap.size by omega)
    have K3 := Lib.hid (K2.out.trans hk3)
    have Z3 := Lib.hid hz3
    clear hz3 E3 hp3 hk3 hs3 d0 d1 d2 d3 d4 d5 d6 g0 g1 g2 g3 g4 g5 g6
    go_wp2_with fail
    refine HCB.out.mono ?_
    rintro r w4 ⟨v, rfl, hv, hp4, hk4⟩
    have hz4 := Z3.out.kp hk4 (by simp; omega)
    obtain ⟨va, vn, rfl, -⟩ := hv.form
    have hfi := finish (cp := (.mk 5 iy.1 [] 0 0 0 inn.1, inn.2)) hz4 HA.out (hv.mono fun k _ hq => by have := HS3.out; omega) ⟨by show iy.1.length ≤ _; have := HIL.out; unfold maxLen; omega, by show ([] : List UInt8).length ≤ _; simp⟩ hp4 (K3.out.trans hk4) hpl
    rw [← HCP2.out] at hfi
    have HF := Lib.hid hfi
    have HZ := Lib.hid hz4
    obtain ⟨d0, d1, d2, d3, d4, d5, d6⟩ := BoxV.cells hz4
    have g0 := BoxV.frozen hz4 0
    have g1 := BoxV.frozen hz4 1
    have g2 := BoxV.frozen hz4 2
    have g3 := BoxV.frozen hz4 3
    have g4 := BoxV.frozen hz4 4
    have g5 := BoxV.frozen hz4 5
    have g6 := BoxV.frozen hz4 6
    clear hz4 hv hp4 hk4 hfi
    go_wp2_with fail
    refine bodyPost_ret (res24 Tryd.results30 rfl (put7_box HZ.out _ _ _ _ _ _ _)) rfl ?_
    have := HF.out
    rw [HCP2.out] at this ⊢
    exact this
  have e5 : ((bs wd).toList == [116, 97, 98, 108, 101]) = false := by rw [bs_toList]; exact beq_false_of_ne h5
  have hco5 := hco4.trans (if_neg h5)
  clear h5 hco4
  have HCP := Lib.hid hco5
  have hp2 := P2.out
  obtain ⟨c0, c1, f0, f1⟩ := hp2.cells
  have P3 := Lib.hid (hp2.put1 true)
  have hk3 : Kp [pb] w2 (w2.setCell ⟨pb, 1, none⟩ (.bool true)) := (Kp.refl _ w2).setCell (.inl (by simp)) _
  have Z3 := Lib.hid (BoxV.kp Z2.out hk3 (by simp; omega))
  have K3 := Lib.hid (K2.out.trans hk3)
  have hne : (⟨pb, 1, none⟩ : Addr).block ≠ A := by show pb ≠ A; omega
  have hne2 : pb ≠ A := hne
  have hne3 : A ≠ pb := fun e => hne e.symm
  clear hp2 hk3 hco5
  go_wp2_with fail
  refine bodyPost_ret (res24 Tryd.results30 rfl (put7_box Z3.out _ _ _ _ _ _ _)) rfl ?_
  rw [HCP.out]
  exact finish (cp := (con0, y.1, true)) Z3.out HA.out (CHas.nil _ _) ⟨by simp [con0, Con.id], by simp [con0, Con.lab]⟩ P3.out K3.out hpl
end Go.Proofs.YtoohnjlghjapnaaDoor
