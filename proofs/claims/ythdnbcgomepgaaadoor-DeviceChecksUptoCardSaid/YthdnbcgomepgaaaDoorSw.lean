/- sound: the walk. -/
import Derived.Test.YthdnbcgomepgaaaDoorSo
namespace Go.Proofs.YthdnbcgomepgaaaDoor
open Go.RowKit

theorem ds_new {w0 W : World} {tb R k B : Nat} {u : Value} {l : List Atr} (c : Array Value) (hR : BoxAt W R zeroC) (ho : Owns W B u l) (hB : w0.heap.size ≤ B) (hRB : R < B) (hT : Tape W tb k) (hg : w0.grownBy W (some tb)) (hlt : tb < w0.heap.size) (hwR : w0.heap.size ≤ R) :
    DS w0 tb R W.heap.size ((W.alloc (.cells zeroC 24)).setRow W.heap.size c) k c u l := by
  have h1 := heap_last W (.cells zeroC 24)
  have hRl := block_lt hR
  have hrow : ∀ b, b ≠ W.heap.size → ((W.alloc (.cells zeroC 24)).setRow W.heap.size c).heap[b]? = (W.alloc (.cells zeroC 24)).heap[b]? := fun b hb => by simp [World.setRow, Array.getElem?_modify, hb.symm]
  have hold : ∀ b, b < W.heap.size → ((W.alloc (.cells zeroC 24)).setRow W.heap.size c).heap[b]? = W.heap[b]? := fun b hb => (hrow b (by omega)).trans (Below.heap_alloc W _ b hb)
  refine ⟨setRow_heap _ W.heap.size zeroC c 24 (0, 0) h1, (hold R hRl).trans hR, (ho.mono hB).keep fun b hb _ => hold b hb, ho.ne, fun e => ?_, hT.keep fun b hb => hold b (by have := hT.lt; omega), ⟨hg.os, hg.tape, hg.output, ?_, fun b hb hn => (hold b (by have := hg.size; omega)).trans (hg.block b hb hn)⟩, hlt, hwR, hg.size, by omega⟩
  · rcases ho.form with ⟨hv, _⟩ | ⟨g, cap, hv, hBg, hgl, _⟩
    · rw [hv] at e
      cases e
    · rw [hv] at e
      have h2 : g = R := Option.some.inj e
      omega
  · have := hg.size
    simp [World.setRow]
    omega
theorem owns_slice {w : World} {B : Nat} {v : Value} {l : List Atr} (h : Owns w B v l) : ∃ a n c, v = .slice a n c := by
  rcases h.form with ⟨hv, _⟩ | ⟨g, cap, hv, _⟩
  · exact ⟨_, _, _, hv⟩
  · exact ⟨_, _, _, hv⟩

set_option maxHeartbeats 1000000 in
set_option maxRecDepth 100000 in
theorem sound_any (tb k : Nat) (w : World) (hk : k ≤ 500) (h : Tape w tb k) : Calls Tryd.prog 24 #[.pointer (some ⟨tb, 0, none⟩)] w (DevPost tb k w) := by
  have hv := (zero_of_info (P := Tryd.prog) info24).1
  have hi := (zero_of_info (P := Tryd.prog) info24).2
  have htb := h.lt
  have hT0 := h.below ((Below.refl _ w).alloc (Nat.le_refl _) (.cells zeroC 24))
  have hR0 : BoxAt (w.alloc (.cells zeroC 24)) w.heap.size zeroC := heap_last w _
  have hG0 : w.grownBy (w.alloc (.cells zeroC 24)) (some tb) := World.grownBy_alloc _ _ _
  have HC := Lib.hid (And.intro hR0 (And.intro hT0 hG0))
  have HN := Lib.hid (next_any tb k 9 _ (by omega) (by omega) (by omega) hT0)
  clear h hT0 hR0 hG0
  go_enter Tryd.func24, Tryd.ntmps24
  go_wp2_with fail
  refine HN.out.mono ?_
  rintro e W1 ⟨r1, hr1, rfl, hT1, hg1, hs1⟩
  have S1 := Lib.hid (And.intro (show BoxAt W1 w.heap.size zeroC from (hg1.block _ (block_lt HC.out.1) (fun e => by have := Option.some.inj e; omega)).trans HC.out.1) (And.intro hT1 (HC.out.2.2.trans hg1)))
  obtain ⟨ix, hix⟩ : ∃ ix : Int, IntKind.i64.wrap (1 + (r1 : Int)) = ix := ⟨_, rfl⟩
  clear hT1 hg1 hs1 HC HN
  have HO := Lib.hid (oneO4 tb (k + 1) W1 (by omega) S1.out.2.1)
  go_wp2_with fail
  refine HO.out.mono ?_
  rintro e W2 ⟨x1, hx1, rfl, hT, hg⟩
  have S2 := Lib.hid (And.intro (show BoxAt W2 w.heap.size zeroC from (hg.block _ (block_lt S1.out.1) (fun e => by have := Option.some.inj e; omega)).trans S1.out.1) (And.intro hT (S1.out.2.2.trans hg)))
  clear hT hg HO S1
  have HO := Lib.hid (oneS2 tb (k + 2) W2 (by omega) S2.out.2.1)
  go_wp2_with fail
  refine HO.out.mono ?_
  rintro e W3 ⟨x2, hx2, rfl, hT, hg⟩
  have S3 := Lib.hid (And.intro (show BoxAt W3 w.heap.size zeroC from (hg.block _ (block_lt S2.out.1) (fun e => by have := Option.some.inj e; omega)).trans S2.out.1) (And.intro hT (S2.out.2.2.trans hg)))
  clear hT hg HO S2
  have HO := Lib.hid (oneD2 tb (k + 3) W3 (by omega) S3.out.2.1)
  go_wp2_with fail
  refine HO.out.mono ?_
  rintro e W4 ⟨x3, hx3, rfl, hT, hg⟩
  have S4 := Lib.hid (And.intro (show BoxAt W4 w.heap.size zeroC from (hg.block _ (block_lt S3.out.1) (fun e => by have := Option.some.inj e; omega)).trans S3.out.1) (And.intro hT (S3.out.2.2.trans hg)))
  clear hT hg HO S3
  have HO := Lib.hid (oneA2 tb (k + 4) W4 (by omega) S4.out.2.1)
  go_wp2_with fail
  refine HO.out.mono ?_
  rintro e W5 ⟨x4, hx4, rfl, hT, hg⟩
  have S5 := Lib.hid (And.intro (show BoxAt W5 w.heap.size zeroC from (hg.block _ (block_lt S4.out.1) (fun e => by have := Option.some.inj e; omega)).trans S4.out.1) (And.intro hT (S4.out.2.2.trans hg)))
  clear hT hg HO S4
  have HN := Lib.hid (next_any tb (k + 5) 4 W5 (by omega) (by omega) (by omega) S5.out.2.1)
  go_wp2_with fail
  refine HN.out.mono ?_
  rintro e W6 ⟨r2, hr2, rfl, hT, hg, hs⟩
  have S6 := Lib.hid (And.intro (show BoxAt W6 w.heap.size zeroC from (hg.block _ (block_lt S5.out.1) (fun e => by have := Option.some.inj e; omega)).trans S5.out.1) (And.intro hT (S5.out.2.2.trans hg)))
  obtain ⟨kd, hkd⟩ : ∃ kd : Int, IntKind.i64.wrap (1 + (r2 : Int)) = kd := ⟨_, rfl⟩
  clear hT hg hs HN S5
  have HA := Lib.hid (attrs2_any tb (k + 6) W6 (by omega) S6.out.2.1)
  go_wp2_with fail
  refine HA.out.mono ?_
  rintro e W7 ⟨u, l, k7, rfl, hown, hgood, hlen, hk7, hT, hg⟩
  have hR7 : BoxAt W7 w.heap.size zeroC := (hg.block _ (block_lt S6.out.1) (fun e => by have := Option.some.inj e; omega)).trans S6.out.1
  have hG7 := S6.out.2.2.trans hg
  obtain ⟨ua, un, uc, rfl⟩ := owns_slice hown
  have hDS := ds_new #[.int .i64 ix, .int .i64 0, .string ⟨#[]⟩, .string x1, .string x2, .string x3, .string x4, .int .i64 kd, .int .i64 0, .slice ua un uc] hR7 hown (Nat.le_of_lt (block_lt S6.out.1)) (block_lt S6.out.1) hT hG7 htb (Nat.le_refl _)
  have D0 := Lib.hid hDS
  have hl7 := heap_last W7 (.cells zeroC 24)
  have Hl7 := Lib.hid hl7
  clear hown hT hg hR7 hG7 hDS hl7 HA S6
  go_wp2_with (first
    | (refine wpList_store_row rfl 24 _ _ rfl W7.heap.size #[.int .i64 ix, .int .i64 0, .string ⟨#[]⟩, .string x1, .string x2, .string x3, .string x4, .int .i64 kd, .int .i64 0, .slice ua un uc] rfl rfl 24 _ Hl7.out hi rfl (by simp [Value.oneCell']) ?_))
  generalize (W7.alloc (Obj.cells zeroC 24)).setRow W7.heap.size #[.int .i64 ix, .int .i64 0, .string ⟨#[]⟩, .string x1, .string x2, .string x3, .string x4, .int .i64 kd, .int .i64 0, .slice ua un uc] = W8 at D0 ⊢
  clear Hl7
  generalize W7.heap.size = D at *
  clear hkd hix
  refine (next_any tb k7 4 W8 (by omega) (by omega) (by omega) D0.out.tp).mono ?_
  rintro e W9 ⟨r3, hr3, rfl, hT, hg, hs⟩
  have D1 := Lib.hid (D0.out.tape hT hg)
  have hmul : IntKind.i64.wrap ((r3 : Int) * 100) = (r3 : Int) * 100 := by rw [IntKind.wrap_i64]; omega
  have f1 := D1.out.box.frozen 1
  have c1 := D1.out.box.cell 1
  simp only [List.getElem?_toArray, List.getElem?_cons_zero, List.getElem?_cons_succ] at c1
  have D2 := Lib.hid (show DS w tb w.heap.size D (W9.setCell ⟨D, 1, none⟩ (.int .i64 ((r3 : Int) * 100))) (k7 + 1) #[.int .i64 ix, .int .i64 ((r3 : Int) * 100), .string ⟨#[]⟩, .string x1, .string x2, .string x3, .string x4, .int .i64 kd, .int .i64 0, .slice ua un uc] (.slice ua un uc) l from D1.out.set 1 _)
  have d3 := D2.out.box.cell 3
  have d7 := D2.out.box.cell 7
  have d2 := D2.out.box.cell 2
  simp only [List.getElem?_toArray, List.getElem?_cons_zero, List.getElem?_cons_succ] at d3 d7 d2
  have f2 := D2.out.box.frozen 2
  clear hT hg hs D0
  by_cases hk4 : kd = 4
  · subst hk4
    have hO := oneE2 tb (k7 + 1) _ (by omega) D2.out.tp
    rw [show (W9.setCell ⟨D, 1, none⟩ (.int .i64 ((r3 : Int) * 100))).heap.size = W9.heap.size by simp] at hO
    have HO := Lib.hid hO
    clear hO
    go_wp2_with fail
    refine HO.out.mono ?_
    rintro e Wa ⟨x5, hx5, rfl, hT, hg⟩
    have D3 := Lib.hid (D2.out.tape hT hg)
    have f3 := D3.out.box.frozen 3
    have e3 := D3.out.box.cell 3
    simp only [List.getElem?_toArray, List.getElem?_cons_zero, List.getElem?_cons_succ] at e3
    have D4 := Lib.hid (show DS w tb w.heap.size D (Wa.setCell ⟨D, 3, none⟩ (.string x5)) (k7 + 1 + 1) #[.int .i64 ix, .int .i64 ((r3 : Int) * 100), .string ⟨#[]⟩, .string x5, .string x2, .string x3, .string x4, .int .i64 4, .int .i64 0, .slice ua un uc] (.slice ua un uc) l from D3.out.set 3 _)
    have g3 := D4.out.box.cell 3
    simp only [List.getElem?_toArray, List.getElem?_cons_zero, List.getElem?_cons_succ] at g3
    have hO2 := oneL2 tb (k7 + 1 + 1) x5 hx5 _ (by omega) D4.out.tp
    rw [show (Wa.setCell ⟨D, 3, none⟩ (.string x5)).heap.size = Wa.heap.size by simp] at hO2
    have HO2 := Lib.hid hO2
    clear hO2
    clear hT hg HO c1 d3 d7 d2 f1 f2 D1
    go_wp2_with fail
    refine HO2.out.mono ?_
    rintro e Wb ⟨x6, hx6, rfl, hT, hg⟩
    have D5 := Lib.hid (D4.out.tape hT hg)
    have f4 := D5.out.box.frozen 2
    have c2 := D5.out.box.cell 2
    simp only [List.getElem?_toArray, List.getElem?_cons_zero, List.getElem?_cons_succ] at c2
    have D6 := Lib.hid (show DS w tb w.heap.size D (Wb.setCell ⟨D, 2, none⟩ (.string x6)) (k7 + 1 + 1 + 1) #[.int .i64 ix, .int .i64 ((r3 : Int) * 100), .string x6, .string x5, .string x2, .string x3, .string x4, .int .i64 4, .int .i64 0, .slice ua un uc] (.slice ua un uc) l from D5.out.set 2 _)
    clear hT hg HO2 e3 g3 f3 D2 D3 D4
    go_wp2_with (first
      | (refine wpList_load_row rfl 24 _ rfl D rfl 24 _ _ _ D6.out.box Tryd.underlying24 rfl hi ?_)
      | (refine wpList_store_row rfl 24 _ _ rfl w.heap.size #[.int .i64 ix, .int .i64 ((r3 : Int) * 100), .string x6, .string x5, .string x2, .string x3, .string x4, .int .i64 4, .int .i64 0, .slice ua un uc] rfl rfl 24 _ D6.out.res hi rfl (by simp [Value.oneCell']) ?_))
    obtain ⟨r_1, r_2, r_3, r_4⟩ := D6.out.done
    exact bodyPost_ret (v := devV ⟨ix, (r3 : Int) * 100, x6, x5, x2, x3, x4, 4, 0, .slice ua un uc⟩) (results_cell_row rfl _ _ w.heap.size 24 _ _ _ rfl r_1 Tryd.underlying24 rfl hi) rfl ⟨⟨ix, (r3 : Int) * 100, x6, x5, x2, x3, x4, 4, 0, .slice ua un uc⟩, l, k7 + 1 + 1 + 1, rfl, r_2, hgood, hlen, by omega, r_3, r_4, hx6, hx5, hx2, hx3, hx4⟩
  · have hk4' : (kd == 4) = false := beq_eq_false_iff_ne.2 hk4
    have D3 := Lib.hid (show DS w tb w.heap.size D ((W9.setCell ⟨D, 1, none⟩ (.int .i64 ((r3 : Int) * 100))).setCell ⟨D, 2, none⟩ (.string x1)) (k7 + 1) #[.int .i64 ix, .int .i64 ((r3 : Int) * 100), .string x1, .string x1, .string x2, .string x3, .string x4, .int .i64 kd, .int .i64 0, .slice ua un uc] (.slice ua un uc) l from D2.out.set 2 _)
    have e7 := D3.out.box.cell 7
    simp only [List.getElem?_toArray, List.getElem?_cons_zero, List.getElem?_cons_succ] at e7
    by_cases hk1 : kd = 1
    · subst hk1
      go_wp2_with (first
        | (refine wpList_load_row rfl 24 _ rfl D rfl 24 _ _ _ D3.out.box Tryd.underlying24 rfl hi ?_)
        | (refine wpList_store_row rfl 24 _ _ rfl w.heap.size #[.int .i64 ix, .int .i64 ((r3 : Int) * 100), .string x1, .string x1, .string x2, .string x3, .string x4, .int .i64 1, .int .i64 0, .slice ua un uc] rfl rfl 24 _ D3.out.res hi rfl (by simp [Value.oneCell']) ?_))
      obtain ⟨r_1, r_2, r_3, r_4⟩ := D3.out.done
      exact bodyPost_ret (v := devV ⟨ix, (r3 : Int) * 100, x1, x1, x2, x3, x4, 1, 0, .slice ua un uc⟩) (results_cell_row rfl _ _ w.heap.size 24 _ _ _ rfl r_1 Tryd.underlying24 rfl hi) rfl ⟨⟨ix, (r3 : Int) * 100, x1, x1, x2, x3, x4, 1, 0, .slice ua un uc⟩, l, k7 + 1, rfl, r_2, hgood, hlen, by omega, r_3, r_4, hx1, hx1, hx2, hx3, hx4⟩
    · have hk1' : (kd == 1) = false := beq_eq_false_iff_ne.2 hk1
      have HO := Lib.hid (next_any tb (k7 + 1) 9 _ (by omega) (by omega) (by omega) D3.out.tp)
      go_wp2_with fail
      refine HO.out.mono ?_
      rintro e Wa ⟨r4, hr4, rfl, hT, hg, hs⟩
      obtain ⟨nm, hnm⟩ : ∃ nm : Int, IntKind.i64.wrap (1 + (r4 : Int)) = nm := ⟨_, rfl⟩
      have D4 := Lib.hid (D3.out.tape hT hg)
      have f8 := D4.out.box.frozen 8
      have g8 := D4.out.box.cell 8
      simp only [List.getElem?_toArray, List.getElem?_cons_zero, List.getElem?_cons_succ] at g8
      have D5 := Lib.hid (show DS w tb w.heap.size D (Wa.setCell ⟨D, 8, none⟩ (.int .i64 nm)) (k7 + 1 + 1) #[.int .i64 ix, .int .i64 ((r3 : Int) * 100), .string x1, .string x1, .string x2, .string x3, .string x4, .int .i64 kd, .int .i64 nm, .slice ua un uc] (.slice ua un uc) l from D4.out.set 8 _)
      clear hT hg hs HO c1 d3 d7 d2 f1 f2 e7 D1 D2 D3
      go_wp2_with (first
        | (refine wpList_load_row rfl 24 _ rfl D rfl 24 _ _ _ D5.out.box Tryd.underlying24 rfl hi ?_)
        | (refine wpList_store_row rfl 24 _ _ rfl w.heap.size #[.int .i64 ix, .int .i64 ((r3 : Int) * 100), .string x1, .string x1, .string x2, .string x3, .string x4, .int .i64 kd, .int .i64 nm, .slice ua un uc] rfl rfl 24 _ D5.out.res hi rfl (by simp [Value.oneCell']) ?_))
      obtain ⟨r_1, r_2, r_3, r_4⟩ := D5.out.done
      exact bodyPost_ret (v := devV ⟨ix, (r3 : Int) * 100, x1, x1, x2, x3, x4, kd, nm, .slice ua un uc⟩) (results_cell_row rfl _ _ w.heap.size 24 _ _ _ rfl r_1 Tryd.underlying24 rfl hi) rfl ⟨⟨ix, (r3 : Int) * 100, x1, x1, x2, x3, x4, kd, nm, .slice ua un uc⟩, l, k7 + 1 + 1, rfl, r_2, hgood, hlen, by omega, r_3, r_4, hx1, hx1, hx2, hx3, hx4⟩
end Go.Proofs.YthdnbcgomepgaaaDoor
