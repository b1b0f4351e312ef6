/- A draft that is drawn. -/
import Derived.Test.YthblgkjmjfhkdaaKMg
import Derived.Test.YthblgkjmjfhkdaaKGu
namespace Go.Proofs.Ythblgkjmjfhkdaa
open Go.RowKit

theorem DAt.kpT {W W' : World} {D tb : Nat} {d : Dra} (h : DAt W D d) (hk : Kp [tb] W W') (ht : tb < D) : DAt W' D d := (hk.block D (block_lt h) (by simp; omega)).trans h
theorem DAt.grown {W W' : World} {D : Nat} {d : Dra} {v : Value} (h : DAt W D d) (g : W.grownBy W' v.ownBlock) (hne : ∀ b, v.ownBlock = some b → b ≠ D) : DAt W' D d := (g.block D (block_lt h) (fun e => hne D e.symm rfl)).trans h
theorem DAt.tag {W : World} {D : Nat} {d : Dra} (h : DAt W D d) (s : Sl) : DAt (W.setCell ⟨D, 1, none⟩ (.slice s.a s.n s.c)) D { d with tags := s } := by
  unfold DAt at h ⊢
  simp [World.setCell, Array.getElem?_modify, h, draC]
theorem DAt.prop {W : World} {D : Nat} {d : Dra} (h : DAt W D d) (s : Sl) : DAt (W.setCell ⟨D, 0, none⟩ (.slice s.a s.n s.c)) D { d with props := s } := by
  unfold DAt at h ⊢
  simp [World.setCell, Array.getElem?_modify, h, draC]
theorem hasT {W W' : World} {tb : Nat} {v : Value} {l : List De.Atr} (h : De.Has W v l) (hk : Kp [tb] W W') (hn : ∀ b, v.ownBlock = some b → b ≠ tb) : De.Has W' v l := h.keep hk.size fun b hb e => hk.block b hb (by simpa using hn b e)
theorem hasG {W W' : World} {v t : Value} {l : List De.Atr} (h : De.Has W v l) (g : W.grownBy W' t.ownBlock) (hn : ∀ b, t.ownBlock = some b → v.ownBlock = some b → False) : De.Has W' v l := h.keep g.size fun b hb e => g.block b hb (fun e2 => hn b e2.symm e)
theorem hasS {W : World} {D : Nat} {v : Value} {l : List De.Atr} (h : De.Has W v l) (hn : ∀ b, v.ownBlock = some b → b ≠ D) (o : Nat) (x : Value) : De.Has (W.setCell ⟨D, o, none⟩ x) v l := h.keep (by simp [World.setCell]) fun b _ e => Below.heap_setCell _ _ _ _ (hn b e)
theorem own_setD {W : World} {B D : Nat} {v : Value} {l : List (List UInt8)} (h : stT.Own W B v l) (hD : D < B) (o : Nat) (x : Value) : stT.Own (W.setCell ⟨D, o, none⟩ x) B v l := h.keep fun b _ e => Below.heap_setCell _ _ _ _ (by have := (h.ge b e).1; simp; omega)
theorem Tp.setD {W : World} {tb k D : Nat} (h : Tp W tb k) (hD : tb < D) (o : Nat) (x : Value) : Tp (W.setCell ⟨D, o, none⟩ x) tb k := h.keep fun b hb => Below.heap_setCell _ _ _ _ (by simp; omega)
theorem Tp.grownO {W W' : World} {tb k : Nat} {v : Value} (h : Tp W tb k) (g : W.grownBy W' v.ownBlock) (hn : ∀ b, v.ownBlock = some b → tb < b) : Tp W' tb k := h.keep fun b hb => g.block b (Nat.lt_of_le_of_lt hb h.lt) (fun e => by have := hn b e.symm; omega)
theorem smv_snoc {l : List (List UInt8)} {x : List UInt8} (h : SmV l) (hx : x.length ≤ 300) : SmV (l ++ [x]) := fun y hy => by
  rcases List.mem_append.1 hy with h1 | h1
  · exact h y h1
  · rw [List.mem_singleton.1 h1]
    omega
theorem info43 : (Try.prog.info? 43).map (·.size) = some 14 := by kernel_rfl
theorem draC_one (d : Dra) : (draC d).all (fun v => v.oneCell') = true := by simp [draC, Value.oneCell']
def dd (pr s : Sl) (res : ByteArray) : Dra := ⟨pr, s, ⟨none, 0, 0⟩, ⟨none, 0, 0⟩, ⟨none, 0, 0⟩, ⟨#[]⟩, 0, ⟨#[]⟩, ⟨#[]⟩, 0, res, 0, 0, ⟨none, 0, 0⟩⟩
def DraPost (tb k : Nat) (w : World) (e : Ending) (w' : World) : Prop := ∃ d pl tl, e = .returned (.agg (draC d)) ∧ DrIn w' d pl tl ∧ (∀ act : ByteArray, act.size ≤ 4611686018427387904 → SmR act d pl tl) ∧ Tq w' tb (k + 8) ∧ Kp [tb] w w'
theorem dra_end {fn : Func} {p : Nat} {a : Act} {W : World} {R : Nat} {x : Dra} {Q : Ending → World → Prop} (hr : fn.results = #[.cell p 43]) (h : DAt W R x) (h2 : a.tmps.getD p undef = .pointer (some ⟨R, 0, none⟩)) (hd : a.defers = [])
    (hq : Q (.returned (.agg (draC x))) W) : bodyPost Try.prog fn Q .ret a W :=
  bodyPost_ret (v := .agg (draC x)) (results_cell_row hr _ _ R 43 _ _ _ h2 h Try.underlying43 rfl info43) hd hq
theorem own_at2 (W : World) (a b c d : ByteArray) : De.Has (W.alloc (.cells #[.string a, .string b, .string c, .string d] 50)) (.slice (some ⟨W.heap.size, 0, none⟩) 2 2) [(a, b), (c, d)] := by
  have hh := heap_alloc_last W (.cells #[.string a, .string b, .string c, .string d] 50)
  refine .inr ⟨W.heap.size, 0, 2, rfl, by simp, fun j x hj => ?_⟩
  have hc : j = 0 ∨ j = 1 ∨ 2 ≤ j := by omega
  rcases hc with rfl | rfl | hc
  · cases hj
    exact ⟨by rw [cell_of_row _ _ _ _ _ _ hh]; rfl, by rw [cell_of_row _ _ _ _ _ _ hh]; rfl⟩
  · cases hj
    exact ⟨by rw [cell_of_row _ _ _ _ _ _ hh]; rfl, by rw [cell_of_row _ _ _ _ _ _ hh]; rfl⟩
  · rw [List.getElem?_eq_none (by simp; omega)] at hj
    cases hj
set_option maxRecDepth 100000 in
set_option maxHeartbeats 16000000 in
theorem draw_any {w : World} {tb k : Nat} (hk : k ≤ 900000) (h : Tp w tb k) : Calls Try.prog 16 #[.pointer (some ⟨tb, 0, none⟩)] w (DraPost tb k w) := by
  obtain ⟨r, hr⟩ : ∃ r, w.heap.size = r := ⟨_, rfl⟩
  obtain ⟨W0, hW⟩ : ∃ W0, w.alloc (.cells #[.slice none 0 0, .slice none 0 0, .slice none 0 0, .slice none 0 0, .slice none 0 0, .string ⟨#[]⟩, .int .i64 0, .string ⟨#[]⟩, .string ⟨#[]⟩, .int .i64 0, .string ⟨#[]⟩, .int .i64 0, .int .i64 0, .slice none 0 0] 43) = W0 := ⟨_, rfl⟩
  have hz0 : W0.heap.size = r + 1 := by rw [← hW]; simp [hr]
  have hk0 : Kp [] w W0 := by rw [← hW]; exact (Kp.refl [] w).alloc _
  have htr : tb < r := by rw [← hr]; exact h.lt
  have hT0 : Tp W0 tb k := h.kp hk0 (by simp)
  have hR0 : DAt W0 r (dd ⟨none, 0, 0⟩ ⟨none, 0, 0⟩ ⟨#[]⟩) := by rw [← hW, ← hr]; exact heap_alloc_last w _
  have hK0 : Kp [tb] w W0 := hk0.mono (by simp)
  have H1 := Lib.hid (fun n (hn : W0.heap.size = n) => (show Calls Try.prog 22 #[.pointer (some ⟨tb, 0, none⟩), .slice (some ⟨n, 0, none⟩) 3 3] (W0.alloc (.cells #[.string ⟨#[]⟩, .string ⟨#[111, 110, 101, 32, 116, 119, 111]⟩, .string ⟨#[120]⟩] 9)) fun e w' => ∃ x : List UInt8, x.length ≤ 300 ∧ e = .returned (.string (bs x)) ∧ Tp w' tb (k + 1) ∧ Kp [tb] (W0.alloc (.cells #[.string ⟨#[]⟩, .string ⟨#[111, 110, 101, 32, 116, 119, 111]⟩, .string ⟨#[120]⟩] 9)) w' from by
    subst hn
    exact oneB [[], [111, 110, 101, 32, 116, 119, 111], [120]] 3 rfl (by decide) (by decide) (by decide) (by omega) (hT0.kp ((Kp.refl [] _).alloc _) (by simp)) (by omega) (heap_alloc_last W0 _) rfl))
  have HK0 := Lib.hid hK0
  have HR0 := Lib.hid hR0
  have HTR := Lib.hid htr
  have HZ0 := Lib.hid hz0
  clear hk0 hT0 hR0 hK0 h hz0 htr
  go_enter Try.func16, Try.ntmps16
  go_upto_region 2 with (go_at_call 22; refine Calls.mono (H1.out _ (by first | rfl | exact HZ0.out)) ?_; rintro e w1 ⟨res, hres, rfl, hT1, hk1⟩; have HT1 := Lib.hid hT1; have HK1 := Lib.hid (HK0.out.trans ((((Kp.refl [] W0).alloc _).mono (by simp)).trans hk1)); have HR1 := Lib.hid ((HR0.out.kp0 ((Kp.refl [] W0).alloc _)).kpT hk1 HTR.out); clear hT1 hk1)
  obtain ⟨D, hD⟩ : ∃ D, w1.heap.size = D := ⟨_, rfl⟩
  have hd2 : DAt (w1.alloc (.cells #[.slice none 0 0, .slice none 0 0, .slice none 0 0, .slice none 0 0, .slice none 0 0, .string ⟨#[]⟩, .int .i64 0, .string ⟨#[]⟩, .string ⟨#[]⟩, .int .i64 0, .string (bs res), .int .i64 0, .int .i64 0, .slice none 0 0] 43)) w1.heap.size (dd ⟨none, 0, 0⟩ ⟨none, 0, 0⟩ (bs res)) := heap_alloc_last w1 _
  have hk2 := (Kp.refl [] w1).alloc (.cells #[.slice none 0 0, .slice none 0 0, .slice none 0 0, .slice none 0 0, .slice none 0 0, .string ⟨#[]⟩, .int .i64 0, .string ⟨#[]⟩, .string ⟨#[]⟩, .int .i64 0, .string (bs res), .int .i64 0, .int .i64 0, .slice none 0 0] 43)
  have hrD : r < D := by rw [← hD]; exact block_lt HR1.out
  rw [hD] at hd2 ⊢
  generalize hw2 : w1.alloc (.cells #[.slice none 0 0, .slice none 0 0, .slice none 0 0, .slice none 0 0, .slice none 0 0, .string ⟨#[]⟩, .int .i64 0, .string ⟨#[]⟩, .string ⟨#[]⟩, .int .i64 0, .string (bs res), .int .i64 0, .int .i64 0, .slice none 0 0] 43) = w2 at *
  have HD2 := Lib.hid hd2
  have HT2 := Lib.hid (HT1.out.kp hk2 (by simp))
  have HK2 := Lib.hid (HK1.out.trans (hk2.mono (by simp)))
  have HR2 := Lib.hid (HR1.out.kp0 hk2)
  have HRD := Lib.hid hrD
  have HTD := Lib.hid (show tb < D by have := HTR.out; omega)
  clear hd2 hk2 hw2 hD hrD
  go_upto_if 11 with (go_at_call 23; refine Calls.mono (by with_reducible exact nextL2 (by omega) HT2.out) ?_; rintro e w3 ⟨q, hq, rfl, hT3, hk3⟩; have HT3 := Lib.hid hT3; have HK3 := Lib.hid (HK2.out.trans hk3); have HR3 := Lib.hid (HR2.out.kpT hk3 HTR.out); have HD3 := Lib.hid (HD2.out.kpT hk3 HTD.out); clear hT3 hk3)
  go_cut [11] (fun _ wx => ∃ (pr : Sl) (pl : List De.Atr) (kk : Nat), kk ≤ k + 3 ∧ DAt wx D (dd pr ⟨none, 0, 0⟩ (bs res)) ∧ De.Has wx (.slice pr.a pr.n pr.c) pl ∧ (∀ b, (Value.slice pr.a pr.n pr.c).ownBlock = some b → D < b ∧ b < wx.heap.size) ∧ (∀ x ∈ pl, x.2.size ≤ 4611686018427387904) ∧ pl.length ≤ 2 ∧ Tp wx tb kk ∧ Kp [tb] w wx ∧ DAt wx r (dd ⟨none, 0, 0⟩ ⟨none, 0, 0⟩ ⟨#[]⟩))
  case first =>
    by_cases hq0 : q = 0
    · subst hq0
      have H2 := Lib.hid (fun n (hn : w3.heap.size = n) => (show Calls Try.prog 22 #[.pointer (some ⟨tb, 0, none⟩), .slice (some ⟨n, 0, none⟩) 2 2] (w3.alloc (.cells #[.string ⟨#[49]⟩, .string ⟨#[117, 49]⟩] 9)) fun e w' => ∃ x : List UInt8, x.length ≤ 300 ∧ e = .returned (.string (bs x)) ∧ Tp w' tb (k + 1 + 1 + 1) ∧ Kp [tb] (w3.alloc (.cells #[.string ⟨#[49]⟩, .string ⟨#[117, 49]⟩] 9)) w' from by
        subst hn
        exact oneB [[49], [117, 49]] 2 rfl (by decide) (by decide) (by decide) (by omega) (HT3.out.kp ((Kp.refl [] _).alloc _) (by simp)) (by have := HT3.out.lt; omega) (heap_alloc_last w3 _) rfl))
      go_wp2_with (go_at_call 22; refine Calls.mono (H2.out _ rfl) ?_; rintro e w4 ⟨v, hv, rfl, hT4, hk4⟩; have HT4 := Lib.hid hT4; have HK4 := Lib.hid (HK3.out.trans ((((Kp.refl [] w3).alloc _).mono (by simp)).trans hk4)); have HD4 := Lib.hid ((HD3.out.kp0 ((Kp.refl [] w3).alloc _)).kpT hk4 HTD.out); have HR4 := Lib.hid ((HR3.out.kp0 ((Kp.refl [] w3).alloc _)).kpT hk4 HTR.out); have d0 := HD4.out.cells.1; have df := fun o => HD4.out.frz (o := o); have hlt4 := block_lt HD4.out; clear hT4 hk4)
      go_meet
      have hrD := HRD.out
      have hrw := hr
      have hzS : (w4.setCell ⟨D, 0, none⟩ (.slice (some ⟨w4.heap.size, 0, none⟩) 2 2)).heap.size = w4.heap.size := by simp [World.setCell]
      have hDS := HD4.out.prop ⟨some ⟨w4.heap.size, 0, none⟩, 2, 2⟩
      have hTS := HT4.out.setD HTD.out 0 (.slice (some ⟨w4.heap.size, 0, none⟩) 2 2)
      have hKS := HK4.out.setCell (p := ⟨D, 0, none⟩) (.inr (by show w.heap.size ≤ D; omega)) (.slice (some ⟨w4.heap.size, 0, none⟩) 2 2)
      have hRS : DAt (w4.setCell ⟨D, 0, none⟩ (.slice (some ⟨w4.heap.size, 0, none⟩) 2 2)) r (dd ⟨none, 0, 0⟩ ⟨none, 0, 0⟩ ⟨#[]⟩) := (Below.heap_setCell _ _ _ _ (by simp; omega)).trans HR4.out
      simp only at hDS
      generalize w4.setCell ⟨D, 0, none⟩ (.slice (some ⟨w4.heap.size, 0, none⟩) 2 2) = wS at *
      have hk5 := (Kp.refl [] wS).alloc (.cells #[.string ⟨#[73, 68, 95, 65]⟩, .string (bs v), .string ⟨#[83, 85, 66, 83, 89, 83, 84, 69, 77]⟩, .string ⟨#[98, 108, 111, 99, 107]⟩] 50)
      have hA := own_at2 wS ⟨#[73, 68, 95, 65]⟩ (bs v) ⟨#[83, 85, 66, 83, 89, 83, 84, 69, 77]⟩ ⟨#[98, 108, 111, 99, 107]⟩
      rw [hzS] at hA
      refine ⟨⟨some ⟨w4.heap.size, 0, none⟩, 2, 2⟩, [(⟨#[73, 68, 95, 65]⟩, bs v), (⟨#[83, 85, 66, 83, 89, 83, 84, 69, 77]⟩, ⟨#[98, 108, 111, 99, 107]⟩)], k + 1 + 1 + 1, by omega, hDS.kp0 hk5, hA, fun b hb => by cases hb; exact ⟨hlt4, by simp [hzS]⟩, fun x hx => ?_, by simp, hTS.kp hk5 (by simp), hKS.trans (hk5.mono (by simp)), hRS.kp0 hk5⟩
      simp only [List.mem_cons, List.not_mem_nil, or_false] at hx
      rcases hx with rfl | rfl
      · show v.length ≤ _
        omega
      · decide
    · have hq1 : ¬ ((q : Int) = 0) := by omega
      go_wp2
      go_meet
      exact ⟨⟨none, 0, 0⟩, [], k + 1 + 1, by omega, HD3.out, .inl ⟨none, 0, rfl, rfl⟩, fun b hb => (by cases hb), fun _ h => (by cases h), by simp, HT3.out, HK3.out, HR3.out⟩
  obtain ⟨pr, pl, kk, hkk, hDc, hPc, hPb, hPs, hPl, hTc, hKc, hRc⟩ := hcut
  have HDc := Lib.hid hDc
  have HPc := Lib.hid hPc
  have HPb := Lib.hid hPb
  have HPs := Lib.hid hPs
  have HTc := Lib.hid hTc
  have HKc := Lib.hid hKc
  have HRc := Lib.hid hRc
  have HTRD := Lib.hid (show tb < D from HTD.out)
  clear hDc hPc hPb hPs hTc hKc hRc hq
  go_upto_block 0 with (go_at_call 23; refine Calls.mono (by with_reducible exact nextL3 (by omega) HTc.out) ?_; rintro e w5 ⟨q2, hq2, rfl, hT5, hk5⟩; have HT5 := Lib.hid hT5; have HK5 := Lib.hid (HKc.out.trans hk5); have HR5 := Lib.hid (HRc.out.kpT hk5 HTR.out); have HD5 := Lib.hid (HDc.out.kpT hk5 HTD.out); have HP5 := Lib.hid (hasT HPc.out hk5 (fun b hb => by have := (HPb.out b hb).1; have := HTD.out; omega)); have hk5s := hk5.size; clear hT5 hk5)
  obtain ⟨B, hB⟩ : ∃ B, w5.heap.size = B := ⟨_, rfl⟩
  have HDB := Lib.hid (show D < B by rw [← hB]; exact block_lt HD5.out)
  have HDT := Lib.hid HTD.out
  have HPB := Lib.hid (show ∀ b, (Value.slice pr.a pr.n pr.c).ownBlock = some b → b < B from fun b hb => by have := (HPb.out b hb).2; omega)
  have HPN := Lib.hid (show ∀ b, (Value.slice pr.a pr.n pr.c).ownBlock = some b → b ≠ tb from fun b hb => by have := (HPb.out b hb).1; have := HTD.out; omega)
  have HPD := Lib.hid (show ∀ b, (Value.slice pr.a pr.n pr.c).ownBlock = some b → b ≠ D from fun b hb => by have := (HPb.out b hb).1; omega)
  have HwD := Lib.hid (show w.heap.size ≤ D by have := HRD.out; omega)
  have HwB := Lib.hid (show w.heap.size ≤ B by have := HRD.out; have := HDB.out; omega)
  have HrB := Lib.hid (show r < D from HRD.out)
  have hdlt := HDB.out
  clear hk5s hdlt
  go_wp2
  go_loopw [4] (fun s4 wx => ∃ (j kx : Nat) (s : Sl) (tl : List (List UInt8)), kx + j ≤ k + 6 ∧ tl.length + j ≤ 2 ∧ j ≤ 2 ∧ s4 = .int .i64 (j : Int) ∧ DAt wx D (dd pr s (bs res)) ∧ stT.Own wx B (.slice s.a s.n s.c) tl ∧ De.Has wx (.slice pr.a pr.n pr.c) pl ∧ Tp wx tb kx ∧ Kp [tb] w wx ∧ SmV tl ∧ B ≤ wx.heap.size ∧ DAt wx r (dd ⟨none, 0, 0⟩ ⟨none, 0, 0⟩ ⟨#[]⟩)) (fun s4 _ => (intOf s4).toNat)
  case atStart => exact ⟨q2, kk + 1, ⟨none, 0, 0⟩, [], by omega, by simp; omega, by omega, rfl, HD5.out, RT.Own.nil stT w5 B, HP5.out, HT5.out, HK5.out, fun _ h => (by cases h), by omega, HR5.out⟩
  case round =>
    obtain ⟨j, kx, s, tl, hkj, htl, hj2, rfl, hD, hTg, hP, hT, hK6, hS, hBw, hR⟩ := hrel
    have HD := Lib.hid hD
    have HTg := Lib.hid hTg
    have HP := Lib.hid hP
    have HT := Lib.hid hT
    have HK := Lib.hid hK6
    have HS := Lib.hid hS
    have HBw := Lib.hid hBw
    have HR := Lib.hid hR
    clear hD hTg hP hT hK6 hS hBw hR
    by_cases hj0 : j = 0
    · subst hj0
      obtain ⟨d0, d1, d2, d3, d4, d5, d6, d7, d8, d9, d10, d11, d12, d13⟩ := HD.out.cells
      have hjz : ¬ ((0 : Int) < ((0 : Nat) : Int)) := by omega
      have hrw := hr
      have hW6 : ∀ b, b ≠ r → (wr.setRow r (draC (dd pr s (bs res)))).heap[b]? = wr.heap[b]? := fun b hb => setRow_other wr r b _ hb
      have hS6 : (wr.setRow r (draC (dd pr s (bs res)))).heap.size = wr.heap.size := by simp [World.setRow]
      have HP6 := Lib.hid (HP.out.keep (Nat.le_of_eq hS6.symm) fun b _ e => hW6 b (by have := (HPb.out b e).1; have := HrB.out; omega))
      have HT6 := Lib.hid (HTg.out.keep (w' := wr.setRow r (draC (dd pr s (bs res)))) fun b _ e => hW6 b (by have := (HTg.out.ge b e).1; have := HrB.out; have := HDB.out; omega)).has
      have HTp6 := Lib.hid (HT.out.keep (w' := wr.setRow r (draC (dd pr s (bs res)))) fun b hb => hW6 b (by have := HTR.out; omega))
      have HK6 := Lib.hid (HK.out.setRow (g := r) (.inr (by omega)) (draC (dd pr s (bs res))))
      have HRr := Lib.hid (setRow_heap wr r _ (draC (dd pr s (bs res))) 43 _ HR.out)
      clear hW6 hS6
      go_wp2_with (refine wpList_store_row rfl 43 _ _ rfl r (draC (dd pr s (bs res))) rfl rfl 43 (draC (dd ⟨none, 0, 0⟩ ⟨none, 0, 0⟩ ⟨#[]⟩)) HR.out info43 rfl (draC_one _) ?_)
      exact dra_end Try.results16 HRr.out rfl rfl ⟨_, pl, tl, rfl, ⟨HP6.out, HT6.out⟩, fun act ha => ⟨ha, by show res.length ≤ _; omega, HPs.out, by omega, HS.out, by omega⟩, ⟨_, by omega, HTp6.out⟩, HK6.out⟩
    · obtain ⟨jn, rfl⟩ : ∃ jn, j = jn + 1 := ⟨j - 1, by omega⟩
      have hjp : (0 : Int) < ((jn + 1 : Nat) : Int) := by omega
      have hjw : IntKind.i64.wrap (((jn + 1 : Nat) : Int) - 1) = (jn : Int) := by rw [IntKind.wrap_i64]; omega
      have hdr := (Kp.refl [] wr).drew 1
      have HTB := Lib.hid (show tb < wr.heap.size by have := HBw.out; have := HDB.out; have := HDT.out; omega)
      have HD := Lib.hid (HD.out.kp0 hdr)
      have HR := Lib.hid (HR.out.kp0 hdr)
      have HT := Lib.hid (HT.out.kp hdr (by simp))
      have HTg := Lib.hid (HTg.out.kp0 hdr)
      have HP := Lib.hid (HP.out.below hdr.bel)
      have HK := Lib.hid (HK.out.trans (hdr.mono (by simp)))
      clear hdr
      go_upto_region 7 with fail
      refine wp_region_held_drew (S := fun _ => True) (by kernel_rfl) trivial (fun hHeld => ?_)
      refine wpAnyH_take (i := 0) (oi := { dst := some 25, op := Op.fieldAddr 43 (Operand.tmp 3) 1, type := 0, pos := "law.go:33", after := #[], guard := none }) (v := .pointer (some ⟨D, 1, none⟩)) rfl (by kernel_rfl) (by kernel_rfl) (by kernel_rfl) (fun _ _ _ h => h) (Or.inl ⟨by rfl, fun w hSw => by (try dsimp only at hSw); go_simp⟩) hHeld ?_
      try simp only [Act.put, List.setIfInBounds_toArray, List.set_cons_zero, List.set_cons_succ]
      refine wpAnyH_take (i := 2) (oi := { dst := some 27, op := Op.move (Operand.tmp 0), type := 29, pos := "law.go:33", after := #[], guard := none }) (v := .pointer (some ⟨tb, 0, none⟩)) rfl (by kernel_rfl) (by kernel_rfl) (by kernel_rfl) (fun _ _ _ h => h) (Or.inl ⟨by rfl, fun w hSw => by (try dsimp only at hSw); go_simp⟩) hHeld ?_
      try simp only [Act.put, List.setIfInBounds_toArray, List.set_cons_zero, List.set_cons_succ]
      refine wpAnyH_ready (rs := [1, 3]) (by kernel_rfl) (by simp) ?_
      refine AllReadyH.cons (o := { dst := some 26, op := Op.load 41 (Operand.tmp 25), type := 41, pos := "law.go:33", after := #[{ on := 0, ground := Ground.data }], guard := none }) rfl (fun K hK => ?_) (AllReadyH.cons (o := { dst := some 28, op := Op.buildSlice 41 3 #[(0, Operand.const (Value.string { data := #[115, 101, 97, 116] })), (1, Operand.const (Value.string { data := #[120, 49] })), (2, Operand.const (Value.string { data := #[121] }))], type := 41, pos := "law.go:33", after := #[], guard := none }) rfl (fun K hK => ?_) AllReadyH.nil)
      · skip
        have dl : wr.drew.cell? ⟨D, 1, none⟩ = some (.slice s.a s.n s.c) := HD.out.cells.2.1
        go_simp
        clear dl
        clear hHeld
        refine hK.out _ _ trivial (fun hHeld => ?_)
        try simp only [Act.put, List.setIfInBounds_toArray, List.set_cons_zero, List.set_cons_succ]
        clear hK
        refine wpAnyH_ready (rs := [3]) (by kernel_rfl) (by simp) ?_
        refine AllReadyH.cons (o := { dst := some 28, op := Op.buildSlice 41 3 #[(0, Operand.const (Value.string { data := #[115, 101, 97, 116] })), (1, Operand.const (Value.string { data := #[120, 49] })), (2, Operand.const (Value.string { data := #[121] }))], type := 41, pos := "law.go:33", after := #[], guard := none }) rfl (fun K hK => ?_) AllReadyH.nil
        go_simp
        have hk6 : Kp [] wr.drew (wr.alloc (.cells #[.string ⟨#[115, 101, 97, 116]⟩, .string ⟨#[120, 49]⟩, .string ⟨#[121]⟩] 9)).drew := (Kp.refl [] wr.drew).alloc (.cells #[.string ⟨#[115, 101, 97, 116]⟩, .string ⟨#[120, 49]⟩, .string ⟨#[121]⟩] 9)
        have hg6 : (wr.alloc (.cells #[.string ⟨#[115, 101, 97, 116]⟩, .string ⟨#[120, 49]⟩, .string ⟨#[121]⟩] 9)).drew.heap[wr.heap.size]? = some (.cells #[.string ⟨#[115, 101, 97, 116]⟩, .string ⟨#[120, 49]⟩, .string ⟨#[121]⟩] 9 (0, 0)) := heap_alloc_last wr _
        generalize hwa : (wr.alloc (.cells #[.string ⟨#[115, 101, 97, 116]⟩, .string ⟨#[120, 49]⟩, .string ⟨#[121]⟩] 9)).drew = wa at *
        have HG := Lib.hid hg6
        have HD := Lib.hid (HD.out.kp0 hk6)
        have HR := Lib.hid (HR.out.kp0 hk6)
        have HT := Lib.hid (HT.out.kp hk6 (by simp))
        have HTg := Lib.hid (HTg.out.kp0 hk6)
        have HP := Lib.hid (HP.out.below hk6.bel)
        have HK := Lib.hid (HK.out.trans (hk6.mono (by simp)))
        have HBw := Lib.hid (Nat.le_trans HBw.out hk6.size)
        clear hk6 hg6
        clear hHeld
        refine hK.out _ _ trivial (fun hHeld => ?_)
        try simp only [Act.put, List.setIfInBounds_toArray, List.set_cons_zero, List.set_cons_succ]
        clear hK
        refine wpAnyH_ready (rs := [4]) (by kernel_rfl) (by simp) ?_
        refine AllReadyH.cons (o := { dst := some 29, op := Op.call { callee := Callee.value (Operand.func 22), args := #[Operand.tmp 27, Operand.tmp 28], argTypes := #[29, 41] }, type := 9, pos := "law.go:33", after := #[{ on := 2, ground := Ground.data }, { on := 3, ground := Ground.data }], guard := none }) rfl (fun K hK => ?_) AllReadyH.nil
        go_simp
        go_at_call 22
        refine Calls.mono (oneB [[115, 101, 97, 116], [120, 49], [121]] 3 rfl (by decide) (by decide) (by decide) (by omega) HT.out HTB.out HG.out rfl) ?_
        rintro e wb ⟨x, hxl, rfl, hT, hk6⟩
        dsimp only
        have HD := Lib.hid (HD.out.kpT hk6 HDT.out)
        have HR := Lib.hid (HR.out.kpT hk6 HTR.out)
        have HTg := Lib.hid (HTg.out.kp hk6 (fun b hb => by have := (HTg.out.ge b hb).1; have := HDB.out; have := HDT.out; simp; omega))
        have HP := Lib.hid (hasT HP.out hk6 HPN.out)
        have HK := Lib.hid (HK.out.trans hk6)
        have HT := Lib.hid hT
        have HBw := Lib.hid (Nat.le_trans HBw.out hk6.size)
        clear hk6 hT
        clear hHeld
        refine hK.out _ _ trivial (fun hHeld => ?_)
        try simp only [Act.put, List.setIfInBounds_toArray, List.set_cons_zero, List.set_cons_succ]
        clear hK
        refine wpAnyH_ready (rs := [5]) (by kernel_rfl) (by simp) ?_
        refine AllReadyH.cons (o := { dst := some 30, op := Op.buildSlice 41 1 #[(0, Operand.tmp 29)], type := 41, pos := "law.go:33", after := #[{ on := 4, ground := Ground.data }], guard := none }) rfl (fun K hK => ?_) AllReadyH.nil
        go_simp
        have hk6 := (Kp.refl [] wb).alloc (.cells #[.string (bs x)] 9)
        have hg6 := heap_alloc_last wb (.cells #[.string (bs x)] 9)
        generalize hwc : wb.alloc (.cells #[.string (bs x)] 9) = wc at *
        have HG := Lib.hid hg6
        have HD := Lib.hid (HD.out.kp0 hk6)
        have HR := Lib.hid (HR.out.kp0 hk6)
        have HT := Lib.hid (HT.out.kp hk6 (by simp))
        have HTg := Lib.hid (HTg.out.kp0 hk6)
        have HP := Lib.hid (HP.out.below hk6.bel)
        have HK := Lib.hid (HK.out.trans (hk6.mono (by simp)))
        have HBw := Lib.hid (Nat.le_trans HBw.out hk6.size)
        clear hk6 hg6
        clear hHeld
        refine hK.out _ _ trivial (fun hHeld => ?_)
        try simp only [Act.put, List.setIfInBounds_toArray, List.set_cons_zero, List.set_cons_succ]
        clear hK
        refine wpAnyH_ready (rs := [6]) (by kernel_rfl) (by simp) ?_
        refine AllReadyH.cons (o := { dst := some 31, op := Op.call { callee := Callee.builtin Builtin.append, args := #[Operand.tmp 26, Operand.tmp 30], argTypes := #[41, 41] }, type := 41, pos := "law.go:33", after := #[{ on := 1, ground := Ground.data }, { on := 5, ground := Ground.data }, { on := 4, ground := Ground.chain }], guard := none }) rfl (fun K hK => ?_) AllReadyH.nil
        refine step_append_r (r := stT) rfl _ _ rfl B _ tl rfl HTg.out wb.heap.size 1 x rfl (by intro m v hv; rw [cell_of_row _ _ _ _ _ _ HG.out, Nat.zero_add]; simpa [stT] using hv) (by omega) HBw.out ?_
        intro v6 w6 hown hgr
        obtain ⟨ta, tc, hv6⟩ := hown.form
        subst hv6
        simp only [List.length_append, List.length_cons, List.length_nil, Nat.zero_add] at hown
        have hge := fun b hb => (HTg.out.ge b hb).1
        have hdb := HDB.out
        have hdt := HDT.out
        have HD := Lib.hid (HD.out.grown hgr (fun b hb => by have := hge b hb; omega))
        have HR := Lib.hid (HR.out.grown hgr (fun b hb => by have := hge b hb; have := HrB.out; omega))
        have HT := Lib.hid (HT.out.grownO hgr (fun b hb => by have := hge b hb; omega))
        have HP := Lib.hid (hasG HP.out hgr (fun b hb e => by have h1 := hge b hb; have h2 := HPB.out b e; omega))
        have HK := Lib.hid (kp_grownS HK.out hgr (fun b hb => by have := hge b hb; have := HwB.out; omega))
        have HBw := Lib.hid (Nat.le_trans HBw.out hgr.size)
        have HTg := Lib.hid hown
        clear hown hgr hge hdb hdt
        clear hHeld
        refine hK.out _ _ trivial (fun hHeld => ?_)
        try simp only [Act.put, List.setIfInBounds_toArray, List.set_cons_zero, List.set_cons_succ]
        clear hK
        refine wpAnyH_take (i := 7) (oi := { dst := some 32, op := Op.fieldAddr 43 (Operand.tmp 3) 1, type := 0, pos := "law.go:33", after := #[{ on := 0, ground := Ground.phase }, { on := 1, ground := Ground.phase }, { on := 2, ground := Ground.phase }, { on := 3, ground := Ground.phase }, { on := 4, ground := Ground.phase }, { on := 5, ground := Ground.phase }, { on := 6, ground := Ground.phase }], guard := none }) (v := .pointer (some ⟨D, 1, none⟩)) rfl (by kernel_rfl) (by kernel_rfl) (by kernel_rfl) (fun _ _ _ h => h) (Or.inl ⟨by rfl, fun w hSw => by (try dsimp only at hSw); go_simp⟩) hHeld ?_
        try simp only [Act.put, List.setIfInBounds_toArray, List.set_cons_zero, List.set_cons_succ]
        refine wpAnyH_ready (rs := [8]) (by kernel_rfl) (by simp) ?_
        refine AllReadyH.cons (o := { dst := none, op := Op.store 41 (Operand.tmp 32) (Operand.tmp 31), type := 0, pos := "law.go:33", after := #[{ on := 7, ground := Ground.data }, { on := 6, ground := Ground.data }, { on := 6, ground := Ground.chain }, { on := 0, ground := Ground.phase }, { on := 1, ground := Ground.phase }, { on := 2, ground := Ground.phase }, { on := 3, ground := Ground.phase }, { on := 4, ground := Ground.phase }, { on := 5, ground := Ground.phase }, { on := 6, ground := Ground.phase }], guard := none }) rfl (fun K hK => ?_) AllReadyH.nil
        have dl : w6.cell? ⟨D, 1, none⟩ = some (.slice s.a s.n s.c) := HD.out.cells.2.1
        have df := fun o => HD.out.frz (o := o)
        go_simp
        clear dl df
        clear hHeld
        refine hK.out _ _ trivial (fun hHeld => ?_)
        try simp only [Act.put, List.setIfInBounds_toArray, List.set_cons_zero, List.set_cons_succ]
        clear hK
        refine wpAnyH_done (by kernel_rfl) ?_ _
        clear hHeld
        go_wp2
        exact ⟨⟨jn, kx + 1, ⟨ta, tl.length + 1, tc⟩, tl ++ [x], by omega, by rw [List.length_append]; simp; omega, by omega, rfl, HD.out.tag ⟨ta, tl.length + 1, tc⟩, own_setD HTg.out HDB.out _ _, hasS HP.out HPD.out _ _, HT.out.setD HDT.out _ _, HK.out.setCell (.inr HwD.out) _, smv_snoc HS.out hxl, by simp [World.setCell]; exact HBw.out, (Below.heap_setCell _ _ _ _ (by have := HrB.out; simp; omega)).trans HR.out⟩, by simp [intOf]⟩
      · skip
        go_simp
        have hk6 : Kp [] wr.drew (wr.alloc (.cells #[.string ⟨#[115, 101, 97, 116]⟩, .string ⟨#[120, 49]⟩, .string ⟨#[121]⟩] 9)).drew := (Kp.refl [] wr.drew).alloc (.cells #[.string ⟨#[115, 101, 97, 116]⟩, .string ⟨#[120, 49]⟩, .string ⟨#[121]⟩] 9)
        have hg6 : (wr.alloc (.cells #[.string ⟨#[115, 101, 97, 116]⟩, .string ⟨#[120, 49]⟩, .string ⟨#[121]⟩] 9)).drew.heap[wr.heap.size]? = some (.cells #[.string ⟨#[115, 101, 97, 116]⟩, .string ⟨#[120, 49]⟩, .string ⟨#[121]⟩] 9 (0, 0)) := heap_alloc_last wr _
        generalize hwa : (wr.alloc (.cells #[.string ⟨#[115, 101, 97, 116]⟩, .string ⟨#[120, 49]⟩, .string ⟨#[121]⟩] 9)).drew = wa at *
        have HG := Lib.hid hg6
        have HD := Lib.hid (HD.out.kp0 hk6)
        have HR := Lib.hid (HR.out.kp0 hk6)
        have HT := Lib.hid (HT.out.kp hk6 (by simp))
        have HTg := Lib.hid (HTg.out.kp0 hk6)
        have HP := Lib.hid (HP.out.below hk6.bel)
        have HK := Lib.hid (HK.out.trans (hk6.mono (by simp)))
        have HBw := Lib.hid (Nat.le_trans HBw.out hk6.size)
        clear hk6 hg6
        clear hHeld
        refine hK.out _ _ trivial (fun hHeld => ?_)
        try simp only [Act.put, List.setIfInBounds_toArray, List.set_cons_zero, List.set_cons_succ]
        clear hK
        refine wpAnyH_ready (rs := [1, 4]) (by kernel_rfl) (by simp) ?_
        refine AllReadyH.cons (o := { dst := some 26, op := Op.load 41 (Operand.tmp 25), type := 41, pos := "law.go:33", after := #[{ on := 0, ground := Ground.data }], guard := none }) rfl (fun K hK => ?_) (AllReadyH.cons (o := { dst := some 29, op := Op.call { callee := Callee.value (Operand.func 22), args := #[Operand.tmp 27, Operand.tmp 28], argTypes := #[29, 41] }, type := 9, pos := "law.go:33", after := #[{ on := 2, ground := Ground.data }, { on := 3, ground := Ground.data }], guard := none }) rfl (fun K hK => ?_) AllReadyH.nil)
        · skip
          have dl : wa.cell? ⟨D, 1, none⟩ = some (.slice s.a s.n s.c) := HD.out.cells.2.1
          go_simp
          clear dl
          clear hHeld
          refine hK.out _ _ trivial (fun hHeld => ?_)
          try simp only [Act.put, List.setIfInBounds_toArray, List.set_cons_zero, List.set_cons_succ]
          clear hK
          refine wpAnyH_ready (rs := [4]) (by kernel_rfl) (by simp) ?_
          refine AllReadyH.cons (o := { dst := some 29, op := Op.call { callee := Callee.value (Operand.func 22), args := #[Operand.tmp 27, Operand.tmp 28], argTypes := #[29, 41] }, type := 9, pos := "law.go:33", after := #[{ on := 2, ground := Ground.data }, { on := 3, ground := Ground.data }], guard := none }) rfl (fun K hK => ?_) AllReadyH.nil
          go_simp
          go_at_call 22
          refine Calls.mono (oneB [[115, 101, 97, 116], [120, 49], [121]] 3 rfl (by decide) (by decide) (by decide) (by omega) HT.out HTB.out HG.out rfl) ?_
          rintro e wb ⟨x, hxl, rfl, hT, hk6⟩
          dsimp only
          have HD := Lib.hid (HD.out.kpT hk6 HDT.out)
          have HR := Lib.hid (HR.out.kpT hk6 HTR.out)
          have HTg := Lib.hid (HTg.out.kp hk6 (fun b hb => by have := (HTg.out.ge b hb).1; have := HDB.out; have := HDT.out; simp; omega))
          have HP := Lib.hid (hasT HP.out hk6 HPN.out)
          have HK := Lib.hid (HK.out.trans hk6)
          have HT := Lib.hid hT
          have HBw := Lib.hid (Nat.le_trans HBw.out hk6.size)
          clear hk6 hT
          clear hHeld
          refine hK.out _ _ trivial (fun hHeld => ?_)
          try simp only [Act.put, List.setIfInBounds_toArray, List.set_cons_zero, List.set_cons_succ]
          clear hK
          refine wpAnyH_ready (rs := [5]) (by kernel_rfl) (by simp) ?_
          refine AllReadyH.cons (o := { dst := some 30, op := Op.buildSlice 41 1 #[(0, Operand.tmp 29)], type := 41, pos := "law.go:33", after := #[{ on := 4, ground := Ground.data }], guard := none }) rfl (fun K hK => ?_) AllReadyH.nil
          go_simp
          have hk6 := (Kp.refl [] wb).alloc (.cells #[.string (bs x)] 9)
          have hg6 := heap_alloc_last wb (.cells #[.string (bs x)] 9)
          generalize hwc : wb.alloc (.cells #[.string (bs x)] 9) = wc at *
          have HG := Lib.hid hg6
          have HD := Lib.hid (HD.out.kp0 hk6)
          have HR := Lib.hid (HR.out.kp0 hk6)
          have HT := Lib.hid (HT.out.kp hk6 (by simp))
          have HTg := Lib.hid (HTg.out.kp0 hk6)
          have HP := Lib.hid (HP.out.below hk6.bel)
          have HK := Lib.hid (HK.out.trans (hk6.mono (by simp)))
          have HBw := Lib.hid (Nat.le_trans HBw.out hk6.size)
          clear hk6 hg6
          clear hHeld
          refine hK.out _ _ trivial (fun hHeld => ?_)
          try simp only [Act.put, List.setIfInBounds_toArray, List.set_cons_zero, List.set_cons_succ]
          clear hK
          refine wpAnyH_ready (rs := [6]) (by kernel_rfl) (by simp) ?_
          refine AllReadyH.cons (o := { dst := some 31, op := Op.call { callee := Callee.builtin Builtin.append, args := #[Operand.tmp 26, Operand.tmp 30], argTypes := #[41, 41] }, type := 41, pos := "law.go:33", after := #[{ on := 1, ground := Ground.data }, { on := 5, ground := Ground.data }, { on := 4, ground := Ground.chain }], guard := none }) rfl (fun K hK => ?_) AllReadyH.nil
          refine step_append_r (r := stT) rfl _ _ rfl B _ tl rfl HTg.out wb.heap.size 1 x rfl (by intro m v hv; rw [cell_of_row _ _ _ _ _ _ HG.out, Nat.zero_add]; simpa [stT] using hv) (by omega) HBw.out ?_
          intro v6 w6 hown hgr
          obtain ⟨ta, tc, hv6⟩ := hown.form
          subst hv6
          simp only [List.length_append, List.length_cons, List.length_nil, Nat.zero_add] at hown
          have hge := fun b hb => (HTg.out.ge b hb).1
          have hdb := HDB.out
          have hdt := HDT.out
          have HD := Lib.hid (HD.out.grown hgr (fun b hb => by have := hge b hb; omega))
          have HR := Lib.hid (HR.out.grown hgr (fun b hb => by have := hge b hb; have := HrB.out; omega))
          have HT := Lib.hid (HT.out.grownO hgr (fun b hb => by have := hge b hb; omega))
          have HP := Lib.hid (hasG HP.out hgr (fun b hb e => by have h1 := hge b hb; have h2 := HPB.out b e; omega))
          have HK := Lib.hid (kp_grownS HK.out hgr (fun b hb => by have := hge b hb; have := HwB.out; omega))
          have HBw := Lib.hid (Nat.le_trans HBw.out hgr.size)
          have HTg := Lib.hid hown
          clear hown hgr hge hdb hdt
          clear hHeld
          refine hK.out _ _ trivial (fun hHeld => ?_)
          try simp only [Act.put, List.setIfInBounds_toArray, List.set_cons_zero, List.set_cons_succ]
          clear hK
          refine wpAnyH_take (i := 7) (oi := { dst := some 32, op := Op.fieldAddr 43 (Operand.tmp 3) 1, type := 0, pos := "law.go:33", after := #[{ on := 0, ground := Ground.phase }, { on := 1, ground := Ground.phase }, { on := 2, ground := Ground.phase }, { on := 3, ground := Ground.phase }, { on := 4, ground := Ground.phase }, { on := 5, ground := Ground.phase }, { on := 6, ground := Ground.phase }], guard := none }) (v := .pointer (some ⟨D, 1, none⟩)) rfl (by kernel_rfl) (by kernel_rfl) (by kernel_rfl) (fun _ _ _ h => h) (Or.inl ⟨by rfl, fun w hSw => by (try dsimp only at hSw); go_simp⟩) hHeld ?_
          try simp only [Act.put, List.setIfInBounds_toArray, List.set_cons_zero, List.set_cons_succ]
          refine wpAnyH_ready (rs := [8]) (by kernel_rfl) (by simp) ?_
          refine AllReadyH.cons (o := { dst := none, op := Op.store 41 (Operand.tmp 32) (Operand.tmp 31), type := 0, pos := "law.go:33", after := #[{ on := 7, ground := Ground.data }, { on := 6, ground := Ground.data }, { on := 6, ground := Ground.chain }, { on := 0, ground := Ground.phase }, { on := 1, ground := Ground.phase }, { on := 2, ground := Ground.phase }, { on := 3, ground := Ground.phase }, { on := 4, ground := Ground.phase }, { on := 5, ground := Ground.phase }, { on := 6, ground := Ground.phase }], guard := none }) rfl (fun K hK => ?_) AllReadyH.nil
          have dl : w6.cell? ⟨D, 1, none⟩ = some (.slice s.a s.n s.c) := HD.out.cells.2.1
          have df := fun o => HD.out.frz (o := o)
          go_simp
          clear dl df
          clear hHeld
          refine hK.out _ _ trivial (fun hHeld => ?_)
          try simp only [Act.put, List.setIfInBounds_toArray, List.set_cons_zero, List.set_cons_succ]
          clear hK
          refine wpAnyH_done (by kernel_rfl) ?_ _
          clear hHeld
          go_wp2
          exact ⟨⟨jn, kx + 1, ⟨ta, tl.length + 1, tc⟩, tl ++ [x], by omega, by rw [List.length_append]; simp; omega, by omega, rfl, HD.out.tag ⟨ta, tl.length + 1, tc⟩, own_setD HTg.out HDB.out _ _, hasS HP.out HPD.out _ _, HT.out.setD HDT.out _ _, HK.out.setCell (.inr HwD.out) _, smv_snoc HS.out hxl, by simp [World.setCell]; exact HBw.out, (Below.heap_setCell _ _ _ _ (by have := HrB.out; simp; omega)).trans HR.out⟩, by simp [intOf]⟩
        · skip
          go_simp
          go_at_call 22
          refine Calls.mono (oneB [[115, 101, 97, 116], [120, 49], [121]] 3 rfl (by decide) (by decide) (by decide) (by omega) HT.out HTB.out HG.out rfl) ?_
          rintro e wb ⟨x, hxl, rfl, hT, hk6⟩
          dsimp only
          have HD := Lib.hid (HD.out.kpT hk6 HDT.out)
          have HR := Lib.hid (HR.out.kpT hk6 HTR.out)
          have HTg := Lib.hid (HTg.out.kp hk6 (fun b hb => by have := (HTg.out.ge b hb).1; have := HDB.out; have := HDT.out; simp; omega))
          have HP := Lib.hid (hasT HP.out hk6 HPN.out)
          have HK := Lib.hid (HK.out.trans hk6)
          have HT := Lib.hid hT
          have HBw := Lib.hid (Nat.le_trans HBw.out hk6.size)
          clear hk6 hT
          clear hHeld
          refine hK.out _ _ trivial (fun hHeld => ?_)
          try simp only [Act.put, List.setIfInBounds_toArray, List.set_cons_zero, List.set_cons_succ]
          clear hK
          refine wpAnyH_ready (rs := [1, 5]) (by kernel_rfl) (by simp) ?_
          refine AllReadyH.cons (o := { dst := some 26, op := Op.load 41 (Operand.tmp 25), type := 41, pos := "law.go:33", after := #[{ on := 0, ground := Ground.data }], guard := none }) rfl (fun K hK => ?_) (AllReadyH.cons (o := { dst := some 30, op := Op.buildSlice 41 1 #[(0, Operand.tmp 29)], type := 41, pos := "law.go:33", after := #[{ on := 4, ground := Ground.data }], guard := none }) rfl (fun K hK => ?_) AllReadyH.nil)
          · skip
            have dl : wb.cell? ⟨D, 1, none⟩ = some (.slice s.a s.n s.c) := HD.out.cells.2.1
            go_simp
            clear dl
            clear hHeld
            refine hK.out _ _ trivial (fun hHeld => ?_)
            try simp only [Act.put, List.setIfInBounds_toArray, List.set_cons_zero, List.set_cons_succ]
            clear hK
            refine wpAnyH_ready (rs := [5]) (by kernel_rfl) (by simp) ?_
            refine AllReadyH.cons (o := { dst := some 30, op := Op.buildSlice 41 1 #[(0, Operand.tmp 29)], type := 41, pos := "law.go:33", after := #[{ on := 4, ground := Ground.data }], guard := none }) rfl (fun K hK => ?_) AllReadyH.nil
            go_simp
            have hk6 := (Kp.refl [] wb).alloc (.cells #[.string (bs x)] 9)
            have hg6 := heap_alloc_last wb (.cells #[.string (bs x)] 9)
            generalize hwc : wb.alloc (.cells #[.string (bs x)] 9) = wc at *
            have HG := Lib.hid hg6
            have HD := Lib.hid (HD.out.kp0 hk6)
            have HR := Lib.hid (HR.out.kp0 hk6)
            have HT := Lib.hid (HT.out.kp hk6 (by simp))
            have HTg := Lib.hid (HTg.out.kp0 hk6)
            have HP := Lib.hid (HP.out.below hk6.bel)
            have HK := Lib.hid (HK.out.trans (hk6.mono (by simp)))
            have HBw := Lib.hid (Nat.le_trans HBw.out hk6.size)
            clear hk6 hg6
            clear hHeld
            refine hK.out _ _ trivial (fun hHeld => ?_)
            try simp only [Act.put, List.setIfInBounds_toArray, List.set_cons_zero, List.set_cons_succ]
            clear hK
            refine wpAnyH_ready (rs := [6]) (by kernel_rfl) (by simp) ?_
            refine AllReadyH.cons (o := { dst := some 31, op := Op.call { callee := Callee.builtin Builtin.append, args := #[Operand.tmp 26, Operand.tmp 30], argTypes := #[41, 41] }, type := 41, pos := "law.go:33", after := #[{ on := 1, ground := Ground.data }, { on := 5, ground := Ground.data }, { on := 4, ground := Ground.chain }], guard := none }) rfl (fun K hK => ?_) AllReadyH.nil
            refine step_append_r (r := stT) rfl _ _ rfl B _ tl rfl HTg.out wb.heap.size 1 x rfl (by intro m v hv; rw [cell_of_row _ _ _ _ _ _ HG.out, Nat.zero_add]; simpa [stT] using hv) (by omega) HBw.out ?_
            intro v6 w6 hown hgr
            obtain ⟨ta, tc, hv6⟩ := hown.form
            subst hv6
            simp only [List.length_append, List.length_cons, List.length_nil, Nat.zero_add] at hown
            have hge := fun b hb => (HTg.out.ge b hb).1
            have hdb := HDB.out
            have hdt := HDT.out
            have HD := Lib.hid (HD.out.grown hgr (fun b hb => by have := hge b hb; omega))
            have HR := Lib.hid (HR.out.grown hgr (fun b hb => by have := hge b hb; have := HrB.out; omega))
            have HT := Lib.hid (HT.out.grownO hgr (fun b hb => by have := hge b hb; omega))
            have HP := Lib.hid (hasG HP.out hgr (fun b hb e => by have h1 := hge b hb; have h2 := HPB.out b e; omega))
            have HK := Lib.hid (kp_grownS HK.out hgr (fun b hb => by have := hge b hb; have := HwB.out; omega))
            have HBw := Lib.hid (Nat.le_trans HBw.out hgr.size)
            have HTg := Lib.hid hown
            clear hown hgr hge hdb hdt
            clear hHeld
            refine hK.out _ _ trivial (fun hHeld => ?_)
            try simp only [Act.put, List.setIfInBounds_toArray, List.set_cons_zero, List.set_cons_succ]
            clear hK
            refine wpAnyH_take (i := 7) (oi := { dst := some 32, op := Op.fieldAddr 43 (Operand.tmp 3) 1, type := 0, pos := "law.go:33", after := #[{ on := 0, ground := Ground.phase }, { on := 1, ground := Ground.phase }, { on := 2, ground := Ground.phase }, { on := 3, ground := Ground.phase }, { on := 4, ground := Ground.phase }, { on := 5, ground := Ground.phase }, { on := 6, ground := Ground.phase }], guard := none }) (v := .pointer (some ⟨D, 1, none⟩)) rfl (by kernel_rfl) (by kernel_rfl) (by kernel_rfl) (fun _ _ _ h => h) (Or.inl ⟨by rfl, fun w hSw => by (try dsimp only at hSw); go_simp⟩) hHeld ?_
            try simp only [Act.put, List.setIfInBounds_toArray, List.set_cons_zero, List.set_cons_succ]
            refine wpAnyH_ready (rs := [8]) (by kernel_rfl) (by simp) ?_
            refine AllReadyH.cons (o := { dst := none, op := Op.store 41 (Operand.tmp 32) (Operand.tmp 31), type := 0, pos := "law.go:33", after := #[{ on := 7, ground := Ground.data }, { on := 6, ground := Ground.data }, { on := 6, ground := Ground.chain }, { on := 0, ground := Ground.phase }, { on := 1, ground := Ground.phase }, { on := 2, ground := Ground.phase }, { on := 3, ground := Ground.phase }, { on := 4, ground := Ground.phase }, { on := 5, ground := Ground.phase }, { on := 6, ground := Ground.phase }], guard := none }) rfl (fun K hK => ?_) AllReadyH.nil
            have dl : w6.cell? ⟨D, 1, none⟩ = some (.slice s.a s.n s.c) := HD.out.cells.2.1
            have df := fun o => HD.out.frz (o := o)
            go_simp
            clear dl df
            clear hHeld
            refine hK.out _ _ trivial (fun hHeld => ?_)
            try simp only [Act.put, List.setIfInBounds_toArray, List.set_cons_zero, List.set_cons_succ]
            clear hK
            refine wpAnyH_done (by kernel_rfl) ?_ _
            clear hHeld
            go_wp2
            exact ⟨⟨jn, kx + 1, ⟨ta, tl.length + 1, tc⟩, tl ++ [x], by omega, by rw [List.length_append]; simp; omega, by omega, rfl, HD.out.tag ⟨ta, tl.length + 1, tc⟩, own_setD HTg.out HDB.out _ _, hasS HP.out HPD.out _ _, HT.out.setD HDT.out _ _, HK.out.setCell (.inr HwD.out) _, smv_snoc HS.out hxl, by simp [World.setCell]; exact HBw.out, (Below.heap_setCell _ _ _ _ (by have := HrB.out; simp; omega)).trans HR.out⟩, by simp [intOf]⟩
          · skip
            go_simp
            have hk6 := (Kp.refl [] wb).alloc (.cells #[.string (bs x)] 9)
            have hg6 := heap_alloc_last wb (.cells #[.string (bs x)] 9)
            generalize hwc : wb.alloc (.cells #[.string (bs x)] 9) = wc at *
            have HG := Lib.hid hg6
            have HD := Lib.hid (HD.out.kp0 hk6)
            have HR := Lib.hid (HR.out.kp0 hk6)
            have HT := Lib.hid (HT.out.kp hk6 (by simp))
            have HTg := Lib.hid (HTg.out.kp0 hk6)
            have HP := Lib.hid (HP.out.below hk6.bel)
            have HK := Lib.hid (HK.out.trans (hk6.mono (by simp)))
            have HBw := Lib.hid (Nat.le_trans HBw.out hk6.size)
            clear hk6 hg6
            clear hHeld
            refine hK.out _ _ trivial (fun hHeld => ?_)
            try simp only [Act.put, List.setIfInBounds_toArray, List.set_cons_zero, List.set_cons_succ]
            clear hK
            refine wpAnyH_ready (rs := [1]) (by kernel_rfl) (by simp) ?_
            refine AllReadyH.cons (o := { dst := some 26, op := Op.load 41 (Operand.tmp 25), type := 41, pos := "law.go:33", after := #[{ on := 0, ground := Ground.data }], guard := none }) rfl (fun K hK => ?_) AllReadyH.nil
            have dl : wc.cell? ⟨D, 1, none⟩ = some (.slice s.a s.n s.c) := HD.out.cells.2.1
            go_simp
            clear dl
            clear hHeld
            refine hK.out _ _ trivial (fun hHeld => ?_)
            try simp only [Act.put, List.setIfInBounds_toArray, List.set_cons_zero, List.set_cons_succ]
            clear hK
            refine wpAnyH_ready (rs := [6]) (by kernel_rfl) (by simp) ?_
            refine AllReadyH.cons (o := { dst := some 31, op := Op.call { callee := Callee.builtin Builtin.append, args := #[Operand.tmp 26, Operand.tmp 30], argTypes := #[41, 41] }, type := 41, pos := "law.go:33", after := #[{ on := 1, ground := Ground.data }, { on := 5, ground := Ground.data }, { on := 4, ground := Ground.chain }], guard := none }) rfl (fun K hK => ?_) AllReadyH.nil
            refine step_append_r (r := stT) rfl _ _ rfl B _ tl rfl HTg.out wb.heap.size 1 x rfl (by intro m v hv; rw [cell_of_row _ _ _ _ _ _ HG.out, Nat.zero_add]; simpa [stT] using hv) (by omega) HBw.out ?_
            intro v6 w6 hown hgr
            obtain ⟨ta, tc, hv6⟩ := hown.form
            subst hv6
            simp only [List.length_append, List.length_cons, List.length_nil, Nat.zero_add] at hown
            have hge := fun b hb => (HTg.out.ge b hb).1
            have hdb := HDB.out
            have hdt := HDT.out
            have HD := Lib.hid (HD.out.grown hgr (fun b hb => by have := hge b hb; omega))
            have HR := Lib.hid (HR.out.grown hgr (fun b hb => by have := hge b hb; have := HrB.out; omega))
            have HT := Lib.hid (HT.out.grownO hgr (fun b hb => by have := hge b hb; omega))
            have HP := Lib.hid (hasG HP.out hgr (fun b hb e => by have h1 := hge b hb; have h2 := HPB.out b e; omega))
            have HK := Lib.hid (kp_grownS HK.out hgr (fun b hb => by have := hge b hb; have := HwB.out; omega))
            have HBw := Lib.hid (Nat.le_trans HBw.out hgr.size)
            have HTg := Lib.hid hown
            clear hown hgr hge hdb hdt
            clear hHeld
            refine hK.out _ _ trivial (fun hHeld => ?_)
            try simp only [Act.put, List.setIfInBounds_toArray, List.set_cons_zero, List.set_cons_succ]
            clear hK
            refine wpAnyH_take (i := 7) (oi := { dst := some 32, op := Op.fieldAddr 43 (Operand.tmp 3) 1, type := 0, pos := "law.go:33", after := #[{ on := 0, ground := Ground.phase }, { on := 1, ground := Ground.phase }, { on := 2, ground := Ground.phase }, { on := 3, ground := Ground.phase }, { on := 4, ground := Ground.phase }, { on := 5, ground := Ground.phase }, { on := 6, ground := Ground.phase }], guard := none }) (v := .pointer (some ⟨D, 1, none⟩)) rfl (by kernel_rfl) (by kernel_rfl) (by kernel_rfl) (fun _ _ _ h => h) (Or.inl ⟨by rfl, fun w hSw => by (try dsimp only at hSw); go_simp⟩) hHeld ?_
            try simp only [Act.put, List.setIfInBounds_toArray, List.set_cons_zero, List.set_cons_succ]
            refine wpAnyH_ready (rs := [8]) (by kernel_rfl) (by simp) ?_
            refine AllReadyH.cons (o := { dst := none, op := Op.store 41 (Operand.tmp 32) (Operand.tmp 31), type := 0, pos := "law.go:33", after := #[{ on := 7, ground := Ground.data }, { on := 6, ground := Ground.data }, { on := 6, ground := Ground.chain }, { on := 0, ground := Ground.phase }, { on := 1, ground := Ground.phase }, { on := 2, ground := Ground.phase }, { on := 3, ground := Ground.phase }, { on := 4, ground := Ground.phase }, { on := 5, ground := Ground.phase }, { on := 6, ground := Ground.phase }], guard := none }) rfl (fun K hK => ?_) AllReadyH.nil
            have dl : w6.cell? ⟨D, 1, none⟩ = some (.slice s.a s.n s.c) := HD.out.cells.2.1
            have df := fun o => HD.out.frz (o := o)
            go_simp
            clear dl df
            clear hHeld
            refine hK.out _ _ trivial (fun hHeld => ?_)
            try simp only [Act.put, List.setIfInBounds_toArray, List.set_cons_zero, List.set_cons_succ]
            clear hK
            refine wpAnyH_done (by kernel_rfl) ?_ _
            clear hHeld
            go_wp2
            exact ⟨⟨jn, kx + 1, ⟨ta, tl.length + 1, tc⟩, tl ++ [x], by omega, by rw [List.length_append]; simp; omega, by omega, rfl, HD.out.tag ⟨ta, tl.length + 1, tc⟩, own_setD HTg.out HDB.out _ _, hasS HP.out HPD.out _ _, HT.out.setD HDT.out _ _, HK.out.setCell (.inr HwD.out) _, smv_snoc HS.out hxl, by simp [World.setCell]; exact HBw.out, (Below.heap_setCell _ _ _ _ (by have := HrB.out; simp; omega)).trans HR.out⟩, by simp [intOf]⟩
end Go.Proofs.Ythblgkjmjfhkdaa
