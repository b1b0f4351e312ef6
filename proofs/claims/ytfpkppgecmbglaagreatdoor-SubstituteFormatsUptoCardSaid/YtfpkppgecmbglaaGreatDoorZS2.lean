/- The reference's Format: the walk. -/
import Derived.Test.YtfpkppgecmbglaaGreatDoorZR
import Derived.Deep.CutRange
namespace Go.Proofs.YtfpkppgecmbglaaGreatDoor
open Go.RowKit

theorem no_ov {a b : Nat} (ha : a ≤ 1000000000) (hb : b ≤ 1000000000) : ¬ 9223372036854775807 < a + b := by omega
theorem wrap_nat {m : Nat} (h : m ≤ 1000000000) : wrap64 (m : Int) = (m : Int) := by unfold wrap64; omega
theorem wrap_nat2 {m : Nat} (h : m ≤ 1000000000) : IntKind.i64.wrap (m : Int) = (m : Int) := by rw [IntKind.wrap_i64]; omega
theorem wrap_s {m : Nat} (h : m ≤ 1000000000) : wrap64 ((m : Int) + 1) = (m : Int) + 1 := by unfold wrap64; omega
theorem wrap_s2 {m : Nat} (h : m ≤ 1000000000) : IntKind.i64.wrap ((m : Int) + 1) = ((m + 1 : Nat) : Int) := by rw [IntKind.wrap_i64]; omega
theorem acc_b {a i N : Nat} (h : a ≤ 3000000 * i) (hi : i ≤ N) (hN : N ≤ 40) : a ≤ 120000000 := by
  have := Nat.mul_le_mul_left 3000000 (Nat.le_trans hi hN)
  omega
theorem acc_s {a b i : Nat} (h : a ≤ 3000000 * i) (hb : b ≤ 3000000) : a + b ≤ 3000000 * (i + 1) := by omega
theorem good_bad {k n : Int} {t nx : List UInt8} {m pt : Bool} (hk : k ≠ 1) (h : c13 ⟨k, t, n, m⟩ = true ∨ c15 ⟨k, t, n, m⟩ = true ∨ c17 ⟨k, t, n, m⟩ = true ∨ c19 ⟨k, t, n, m⟩ = true ∨ c21 ⟨k, t, n, m⟩ nx = true ∨ (k = 11 ∧ azHead nx = true)) : goodR ⟨k, t, n, m⟩ pt nx = false := by
  unfold goodR
  rw [if_neg hk]
  rcases h with h | h | h | h | h | ⟨h, h2⟩
  · simp [h]
  · simp [h]
  · simp [h]
  · simp [h]
  · simp [h]
  · simp [h, h2]
theorem good_good {k n : Int} {t nx : List UInt8} {m pt : Bool} (hk : k ≠ 1) (h1 : c13 ⟨k, t, n, m⟩ = false) (h2 : c15 ⟨k, t, n, m⟩ = false) (h3 : c17 ⟨k, t, n, m⟩ = false) (h4 : c19 ⟨k, t, n, m⟩ = false) (h5 : c21 ⟨k, t, n, m⟩ nx = false) (h6 : k = 11 → azHead nx = false) : goodR ⟨k, t, n, m⟩ pt nx = true := by
  unfold goodR
  rw [if_neg hk, h1, h2, h3, h4, h5]
  by_cases e : k = 11
  · simp [e, h6 e]
  · simp [e]
theorem ok_all {k n : Int} {t : List UInt8} {m : Bool} (hk : k ≠ 1) (h1 : c13 ⟨k, t, n, m⟩ = false) (h2 : c15 ⟨k, t, n, m⟩ = false) (h3 : c17 ⟨k, t, n, m⟩ = false) (h4 : c19 ⟨k, t, n, m⟩ = false) : okG ⟨k, t, n, m⟩ = true := by
  rw [ok_other (x := ⟨k, t, n, m⟩) hk, h1, h2, h3, h4]
  rfl
theorem tail_len {p : Pc} (h : Well nmB kyB p) : (tailOf p).length ≤ 40 := by
  unfold tailOf
  split
  · rename_i h78
    have ht : p.text.length ≤ 32 := by
      rcases h78 with e | e
      · exact nmB_len (h.t7 e)
      · exact kyB_len (h.t8 e)
    simp only [List.length_cons, List.length_append, List.length_nil]
    omega
  · split
    · have hd : (decN p.word).length ≤ 2 := by unfold decN; split <;> simp
      split <;> (simp only [List.length_cons, List.length_append, List.length_nil]; omega)
    · simp
theorem word_len (k : Nat) : (wordOf k).length ≤ 8 := by unfold wordOf; split <;> simp
theorem ltr_cut {k : Nat} (h2 : 2 ≤ k) (h10 : k ≤ 10) : (⟨#[32, 32, 107, 110, 112, 98, 100, 115, 69, 99, 80, 32]⟩ : ByteArray).extract k (k + 1) = bs [letterOf k] := by
  have hc : k = 2 ∨ k = 3 ∨ k = 4 ∨ k = 5 ∨ k = 6 ∨ k = 7 ∨ k = 8 ∨ k = 9 ∨ k = 10 := by omega
  rcases hc with rfl | rfl | rfl | rfl | rfl | rfl | rfl | rfl | rfl <;> decide +kernel
theorem at_head {b : UInt8} {r : List UInt8} (h : 0 < (bs (b :: r)).size) : (bs (b :: r))[0]'h = b := bs_get (b :: r) 0 (by simp)
set_option maxHeartbeats 32000000 in
set_option maxRecDepth 100000 in
theorem refFormat_any {w : World} (hE : Env w) {sv : Value} {l : List Gp} (hl : l.length ≤ 40) (hh : gpT.Has w sv l) (hs : ∀ x ∈ l, x.text.length ≤ 1048576) : Calls Tryz.prog 19 #[sv] w fun e w' => e = .returned (.tuple #[.string (bs (formatE l).1), .int .i64 (formatE l).2]) ∧ Kp [] w w' := by
  have HBAD := Lib.hid (fun (i : Nat) (x : Gp) (hx : l[i]? = some x) (h : goodR x (prevT l i) (nextG l i) = false) => formatE_bad hx h)
  have HGOOD := Lib.hid (fun (h : ∀ i x, l[i]? = some x → goodR x (prevT l i) (nextG l i) = true) => formatE_ok (adj_of_good h))
  obtain ⟨F, hF⟩ : ∃ F, formatE l = F := ⟨_, rfl⟩
  rw [hF] at HBAD HGOOD ⊢
  obtain ⟨va, vc, rfl, hrow⟩ := hh.form
  have HRow := Lib.hid hrow
  have HE := Lib.hid hE
  have HS := Lib.hid hs
  obtain ⟨N, hN⟩ : ∃ N, l.length = N := ⟨_, rfl⟩
  rw [hN] at hl ⊢
  have HN := Lib.hid hN
  clear hF hrow hh hE hN hs
  go_enter Tryz.func19, Tryz.ntmps19
  go_wp2
  go_loopg [4, 5, 6, 7, 8] N (fun g s4 s5 s6 s7 s8 wx => ∃ (i : Nat) (acc : List UInt8), s4 = .string (bs acc) ∧ s5 = .int .i64 (i : Int) ∧ i + g = N ∧ Hid (acc.length ≤ 3000000 * i) ∧ Hid (fmtAll (l.map pcOf) = acc ++ fmtAll ((l.map pcOf).drop i)) ∧ Hid (∀ j x, j < i → l[j]? = some x → goodR x (prevT l j) (nextG l j) = true) ∧ Hid (Kp [] w wx))
  case atStart => exact ⟨0, [], rfl, rfl, by omega, Lib.hid (Nat.zero_le _), Lib.hid rfl, Lib.hid (fun j x hj => by omega), Lib.hid (Kp.refl _ _)⟩
  case round =>
    obtain ⟨i, acc, rfl, rfl, hig, hal, hfa, hgd, hk⟩ := hrel
    have HAB := Lib.hid (acc_b hal.out (show i ≤ N by omega) hl)
    have HAL := hal
    clear hal
    have hasz : (bs acc).size = acc.length := rfl
    cases gk with
    | zero =>
      have hiN : i = N := by omega
      subst hiN
      have hlt : ¬ ((i : Int) < (i : Int)) := by omega
      have hF2 : F = if 256 < acc.length then ([], 91) else (acc, 0) := by
        have h1 := HGOOD.out (fun j x hx => hgd.out j x (by rw [← HN.out]; exact (List.getElem?_eq_some_iff.1 hx).1) hx)
        have h2 := hfa.out
        rw [List.drop_eq_nil_of_le (by rw [List.length_map, HN.out]; exact Nat.le_refl _), fmtAll, List.append_nil] at h2
        rw [h1, h2]
      have HF2 := Lib.hid hF2
      clear hF2 HGOOD HBAD hfa hgd hig
      by_cases h256 : 256 < acc.length
      · have hz : (256 : Int) < (acc.length : Int) := by omega
        go_wp2
        go_ret2
        rw [HF2.out, if_pos h256]
        exact ⟨rfl, hk.out⟩
      · have hz : ¬ ((256 : Int) < (acc.length : Int)) := by omega
        go_wp2
        go_ret2
        rw [HF2.out, if_neg h256]
        exact ⟨rfl, hk.out⟩
    | succ gk =>
      have hiN : i < N := by omega
      have hlt : (i : Int) < (N : Int) := by omega
      obtain ⟨x, hx⟩ : ∃ x, l[i]? = some x := ⟨_, List.getElem?_eq_getElem (by rw [HN.out]; exact hiN)⟩
      obtain ⟨bl, ol, rfl, hbl, hrw⟩ := HRow.out (by intro e; rw [e] at hx; simp at hx)
      have hrw2 : gpT.Row wr bl ol l := hrw.keep (hk.out.block bl hbl (by simp))
      have HBd := Lib.hid (HBAD.out i x hx)
      have HXS := Lib.hid (HS.out x (List.mem_of_getElem? hx))
      have HFD := Lib.hid (show fmtAll (l.map pcOf) = acc ++ fmtP (pcOf x) (nextG l i) ++ fmtAll ((l.map pcOf).drop (i + 1)) by rw [hfa.out, fmt_drop hx, List.append_assoc])
      have HGD := Lib.hid (show goodR x (prevT l i) (nextG l i) = true → ∀ j y, j < i + 1 → l[j]? = some y → goodR y (prevT l j) (nextG l j) = true from fun h j y hj hy => by
        rcases Nat.lt_succ_iff_lt_or_eq.1 hj with h1 | rfl
        · exact hgd.out j y h1 hy
        · rw [hx] at hy; rw [← Option.some.inj hy]; exact h)
      have HPV := Lib.hid (show (i = 0 ∧ prevT l i = false) ∨ ∃ j y, i = j + 1 ∧ l[j]? = some y ∧ prevT l i = decide (y.kind = 1) from by
        cases i with
        | zero => exact .inl ⟨rfl, rfl⟩
        | succ j =>
          obtain ⟨y, hy⟩ : ∃ y, l[j]? = some y := ⟨_, List.getElem?_eq_getElem (by rw [HN.out]; omega)⟩
          exact .inr ⟨j, y, rfl, hy, by unfold prevT; simp only [hy]⟩)
      have HNX := Lib.hid (show (N ≤ i + 1 ∧ nextG l i = []) ∨ ∃ y, l[i + 1]? = some y ∧ i + 1 < N ∧ nextG l i = if y.kind = 1 then y.text else [] from by
        rcases Nat.lt_or_ge (i + 1) N with h | h
        · obtain ⟨y, hy⟩ : ∃ y, l[i + 1]? = some y := ⟨_, List.getElem?_eq_getElem (by rw [HN.out]; exact h)⟩
          exact .inr ⟨y, hy, h, by unfold nextG; simp only [hy]⟩
        · exact .inl ⟨h, by unfold nextG; rw [List.getElem?_eq_none_iff.2 (by rw [HN.out]; exact h)]⟩)
      have HGO := Lib.hid (fun (h : goodR x (prevT l i) (nextG l i) = true) => ok_pc (good_ok h))
      obtain ⟨pt, hpt⟩ : ∃ b, prevT l i = b := ⟨_, rfl⟩
      obtain ⟨nx, hnx⟩ : ∃ b, nextG l i = b := ⟨_, rfl⟩
      rw [hpt] at HBd HGD HPV HGO
      rw [hnx] at HBd HGD HNX HFD HGO
      obtain ⟨xk, xt, xn, xm⟩ := x
      obtain ⟨d0, d1, d2, d3⟩ := gcell hrw2 hx
      obtain ⟨P, hP⟩ : ∃ P, wr.heap.size = P := ⟨_, rfl⟩
      obtain ⟨W3, hW3⟩ : ∃ W3, wr.alloc (.cells #[.int .i64 xk, .string (bs xt), .int .i64 xn, .bool xm] 61) = W3 := ⟨_, rfl⟩
      have hk3 : Kp [] wr W3 := by rw [← hW3]; exact (Kp.refl [] wr).alloc _
      have HP3 := Lib.hid (show PAt W3 P ⟨xk, xt, xn, xm⟩ by rw [← hW3, ← hP]; exact heap_alloc_last wr _)
      have HK3 := Lib.hid (hk.out.trans hk3)
      have HR3 := Lib.hid (show gpT.Row W3 bl ol l from hrw2.keep (hk3.block bl (Nat.lt_of_lt_of_le hbl hk.out.size) (by simp)))
      have Hbl := Lib.hid (show bl < W3.heap.size from Nat.lt_of_lt_of_le hbl HK3.out.size)
      have HE3 := Lib.hid (show ∀ W, Kp [] W3 W → Env W from fun W h => HE.out.kp0 (HK3.out.trans h))
      have HW3 := Lib.hid hW3
      have HPe := Lib.hid hP
      have hxs : xt.length ≤ 1048576 := HXS.out
      have hxsz : (bs xt).size = xt.length := rfl
      have hse := bs_isEmpty xt
      have HIG := Lib.hid hig
      clear hx hrw hrw2 hk3 hW3 hP hk hfa hgd hpt hnx hbl HBAD HGOOD
      have HWI := Lib.hid (wrap_s2 (m := i) (by omega))
      go_upto_region 6 with fail
      rw [HPe.out, HW3.out]
      clear d0 d1 d2 d3
      go_upto_region 7 with fail
      have HI1 := Lib.hid (wrap_s (m := i) (by omega))
      go_cut [32] from 19 to 32 (fun s32 wx => ∃ b : Bool, s32 = .bool b ∧ Hid (b = true → ∃ y, l[i + 1]? = some y ∧ i + 1 < N ∧ nx = y.text) ∧ Hid (b = false → nx = []) ∧ wx = W3)
      case first =>
        rcases HNX.out with ⟨h1, h2⟩ | ⟨⟨yk, yt, yn, ym⟩, hy, h1, h2⟩
        · have hz : ¬ ((i : Int) + 1 < (N : Int)) := by omega
          have HN2 := Lib.hid h2
          have hi1 := HI1.out
          clear h2
          go_wp2
          go_meet
          exact ⟨false, rfl, Lib.hid (fun e => by cases e), Lib.hid (fun _ => HN2.out), rfl⟩
        · obtain ⟨m, hm⟩ : ∃ m, i + 1 = m := ⟨_, rfl⟩
          have him : (i : Int) + 1 = (m : Int) := by omega
          have hmN : (m : Int) < (N : Int) := by omega
          have hm0 : (0 : Int) ≤ (m : Int) := by omega
          have hwm := wrap_nat (m := m) (by omega)
          have HY := Lib.hid hy
          have H1 := Lib.hid h1
          rw [hm] at hy
          obtain ⟨e0, e1, e2, e3⟩ := gcell HR3.out hy
          clear hy
          simp only at h2
          by_cases hyk : yk = 1
          · rw [if_pos hyk] at h2
            have yy : (yk == 1) = true := by rw [beq_iff_eq]; exact hyk
            have HN2 := Lib.hid h2
            clear h2 hyk
            go_wp2
            go_meet
            exact ⟨true, rfl, Lib.hid (fun _ => ⟨_, HY.out, H1.out, HN2.out⟩), Lib.hid (fun e => by cases e), rfl⟩
          · rw [if_neg hyk] at h2
            have yy : (yk == 1) = false := beq_eq_false_iff_ne.2 hyk
            have HN2 := Lib.hid h2
            clear h2 hyk
            go_wp2
            go_meet
            exact ⟨false, rfl, Lib.hid (fun e => by cases e), Lib.hid (fun _ => HN2.out), rfl⟩
      obtain ⟨b32, rfl, h32t, h32f, hwc⟩ := hcut
      obtain rfl := hwc.symm
      clear HNX
      go_upto_if 32 with fail
      go_cut [7] from 7 to 38 (fun s7 wx => s7 = .string (bs nx) ∧ wx = W3)
      case first =>
        cases b32 with
        | false =>
          have h2 := Lib.hid (h32f.out rfl)
          clear h32t h32f
          go_wp2
          go_meet
          exact ⟨by rw [h2.out]; rfl, rfl⟩
        | true =>
          obtain ⟨⟨yk, yt, yn, ym⟩, hy, h1, h2⟩ := h32t.out rfl
          have HN2 := Lib.hid h2
          obtain ⟨m, hm⟩ : ∃ m, i + 1 = m := ⟨_, rfl⟩
          have him : (i : Int) + 1 = (m : Int) := by omega
          have hmN : (m : Int) < (N : Int) := by omega
          have hm0 : (0 : Int) ≤ (m : Int) := by omega
          have hwm := wrap_nat (m := m) (by omega)
          rw [hm] at hy
          obtain ⟨e0, e1, e2, e3⟩ := gcell HR3.out hy
          clear hy h2 h32t h32f hm
          go_wp2
          go_meet
          exact ⟨by rw [HN2.out], rfl⟩
      obtain ⟨rfl, hwc⟩ := hcut
      obtain rfl := hwc.symm
      clear h32t h32f HI1
      obtain ⟨d0, d1, d2, d3⟩ := pcell HP3.out
      by_cases hk1 : xk = 1
      · subst hk1
        go_upto_region 10 with fail
        obtain ⟨b10, hb10⟩ : ∃ b, c10 ⟨1, xt, xn, xm⟩ pt = b := ⟨_, rfl⟩
        have HB10 := Lib.hid hb10
        have HPr := Lib.hid (fun W => refPr_any xt W (by omega))
        clear hb10
        go_cut [73] from 43 to 73 (fun s73 wx => s73 = .bool b10 ∧ Hid (Kp [] W3 wx))
        case first =>
          cases he : xt.isEmpty with
          | true =>
            rw [he] at hse
            have HEm := Lib.hid he
            clear he
            go_wp2
            go_meet
            exact ⟨by rw [← HB10.out]; simp [c10, HEm.out], Lib.hid (Kp.refl _ _)⟩
          | false =>
            rw [he] at hse
            have HEm := Lib.hid he
            obtain ⟨bp, hbp⟩ : ∃ b, xt.all prCh = b := ⟨_, rfl⟩
            rw [hbp] at HPr
            have HBp := Lib.hid hbp
            clear he hbp
            go_wp2_with fail
            refine Calls.mono (by with_reducible exact HPr.out _) ?_
            rintro e w2 ⟨rfl, hk2⟩
            have HK2 := Lib.hid hk2
            clear d0 d1 d2 d3
            obtain ⟨d0, d1, d2, d3⟩ := pcell (HP3.out.kp hk2 (by simp))
            clear hk2
            cases bp with
            | false =>
              go_wp2
              go_meet
              exact ⟨by rw [← HB10.out]; simp only [c10, HEm.out, HBp.out]; rfl, HK2⟩
            | true =>
              rcases HPV.out with ⟨hi0, hpt⟩ | ⟨j, ⟨yk, yt, yn, ym⟩, hij, hy, hpt⟩
              · have hgz : ¬ ((0 : Int) < (i : Int)) := by omega
                have HPt := Lib.hid hpt
                clear hpt hi0
                by_cases hn : xn = 0
                · have m0 : (xn != 0) = false := by rw [bne, hn]; rfl
                  have HN0 := Lib.hid hn
                  clear hn
                  go_wp2
                  go_meet
                  exact ⟨by rw [← HB10.out]; simp only [c10, HEm.out, HBp.out, HPt.out, HN0.out]; simp, HK2⟩
                · have m0 : (xn != 0) = true := by rw [bne, beq_eq_false_iff_ne.2 hn]; rfl
                  have HN0 := Lib.hid hn
                  clear hn
                  go_wp2
                  go_meet
                  exact ⟨by rw [← HB10.out]; simp only [c10, HEm.out, HBp.out, HPt.out, decide_eq_true HN0.out]; rfl, HK2⟩
              · have hgz : (0 : Int) < (i : Int) := by omega
                have hij1 : (i : Int) - 1 = (j : Int) := by omega
                have hjN : (j : Int) < (N : Int) := by omega
                have hj0 : (0 : Int) ≤ (j : Int) := by omega
                have hwj := wrap_nat (m := j) (by omega)
                obtain ⟨e0, e1, e2, e3⟩ := gcell (HR3.out.keep (HK2.out.block bl Hbl.out (by simp))) hy
                simp only at hpt
                have HPt := Lib.hid hpt
                clear hpt hy hij
                by_cases hyk : yk = 1
                · have yy : (yk == 1) = true := by rw [beq_iff_eq]; exact hyk
                  have HYk := Lib.hid hyk
                  clear hyk
                  go_wp2
                  go_meet
                  exact ⟨by rw [← HB10.out]; simp only [c10, HEm.out, HBp.out, HPt.out, decide_eq_true HYk.out]; rfl, HK2⟩
                · have yy : (yk == 1) = false := beq_eq_false_iff_ne.2 hyk
                  have HYk := Lib.hid hyk
                  clear hyk
                  by_cases hn : xn = 0
                  · have m0 : (xn != 0) = false := by rw [bne, hn]; rfl
                    have HN0 := Lib.hid hn
                    clear hn
                    go_wp2
                    go_meet
                    exact ⟨by rw [← HB10.out]; simp only [c10, HEm.out, HBp.out, HPt.out, decide_eq_false HYk.out, HN0.out]; simp, HK2⟩
                  · have m0 : (xn != 0) = true := by rw [bne, beq_eq_false_iff_ne.2 hn]; rfl
                    have HN0 := Lib.hid hn
                    clear hn
                    go_wp2
                    go_meet
                    exact ⟨by rw [← HB10.out]; simp only [c10, HEm.out, HBp.out, HPt.out, decide_eq_false HYk.out, decide_eq_true HN0.out]; rfl, HK2⟩
        obtain ⟨rfl, hkc⟩ := hcut
        have HKc := Lib.hid (HK3.out.trans hkc.out)
        cases b10 with
        | true =>
          have HF3 := Lib.hid (HBd.out (by unfold goodR; rw [if_pos rfl, HB10.out]; rfl))
          clear d0 d1 d2 d3 hkc
          go_wp2
          go_ret2
          rw [HF3.out]
          exact ⟨rfl, HKc.out⟩
        | false =>
          have HGN := Lib.hid (HGD.out (by unfold goodR; rw [if_pos rfl, HB10.out]; rfl))
          have HC1 := Lib.hid (fun W (h : Kp [] wc W) => repl_any xt 36 W (by omega) (HE3.out W (hkc.out.trans h)))
          have HC2 := Lib.hid (fun W (h : Kp [] wc W) => repl_any (dblL 36 xt) 37 W (by have := (dbl_len 36 xt).1; omega) (HE3.out W (hkc.out.trans h)))
          have hfin : fmtP (pcOf ⟨1, xt, xn, xm⟩) nx = dblL 37 (dblL 36 xt) := by rw [dbl_esc]; rfl
          have hel : (dblL 37 (dblL 36 xt)).length ≤ 4 * 1048576 := by have h1 := (dbl_len 36 xt).1; have h2 := (dbl_len 37 (dblL 36 xt)).1; omega
          have hel2 : (dblL 37 (dblL 36 xt)).length ≤ 2 * 1048576 := by rw [dbl_esc]; have := escL_len2 xt; omega
          have HFI := Lib.hid hfin
          clear d0 d1 d2 d3
          obtain ⟨d0, d1, d2, d3⟩ := pcell (HP3.out.kp hkc.out (by simp))
          generalize dblL 37 (dblL 36 xt) = ex at *
          have hex : (bs ex).size = ex.length := rfl
          have hov := no_ov (a := (bs acc).size) (b := (bs ex).size) (by have := HAB.out; omega) (by omega)
          have HEL := Lib.hid hel2
          clear hfin hel hel2
          have hwi := HWI.out
          go_wp2_with (first
            | (go_at_call 23; refine Calls.mono (by with_reducible exact HC1.out _ (Kp.refl _ _)) ?_; rintro e w4 ⟨rfl, hk4⟩; have HK4 := Lib.hid hk4; clear hk4)
            | (go_at_call 23; refine Calls.mono (by with_reducible exact HC2.out _ HK4.out) ?_; rintro e w5 ⟨rfl, hk5⟩; have HK5 := Lib.hid (HK4.out.trans hk5); clear hk5))
          clear hov hwi
          rw [bs_app]
          go_roundg gk
          case measure => omega
          case rel => exact ⟨i + 1, acc ++ ex, rfl, rfl, by have := HIG.out; omega, Lib.hid (by rw [List.length_append]; exact acc_s HAL.out (Nat.le_trans HEL.out (by decide))), Lib.hid (by rw [HFD.out, HFI.out]), HGN, Lib.hid (HKc.out.trans HK5.out)⟩
      · have n1 : (xk == 1) = false := beq_eq_false_iff_ne.2 hk1
        have HK1 := Lib.hid hk1
        clear hk1
        go_upto_region 13 with fail
        obtain ⟨b13, hb13⟩ : ∃ b, c13 ⟨xk, xt, xn, xm⟩ = b := ⟨_, rfl⟩
        have HB13 := Lib.hid hb13
        clear hb13
        go_cut [80] from 80 to 88 (fun s80 wx => s80 = .bool b13 ∧ wx = W3)
        case first =>
          by_cases h2 : xk < 2
          · have HH := Lib.hid h2
            go_wp2
            go_meet
            exact ⟨by rw [← HB13.out]; simp only [c13, decide_eq_true HH.out]; rfl, rfl⟩
          · have HH := Lib.hid h2
            by_cases h11 : 11 < xk
            · have HH2 := Lib.hid h11
              go_wp2
              go_meet
              exact ⟨by rw [← HB13.out]; simp only [c13, decide_eq_true HH2.out, Bool.or_true], rfl⟩
            · have HH2 := Lib.hid h11
              go_wp2
              go_meet
              exact ⟨by rw [← HB13.out]; simp only [c13, decide_eq_false (p := xk < 2) (by have := HH.out; omega), decide_eq_false (p := 11 < xk) (by have := HH2.out; omega)]; rfl, rfl⟩
        obtain ⟨rfl, hwc⟩ := hcut
        obtain rfl := hwc.symm
        cases b13 with
        | true =>
          have HF3 := Lib.hid (HBd.out (good_bad HK1.out (.inl HB13.out)))
          go_wp2
          go_ret2
          rw [HF3.out]
          exact ⟨rfl, HK3.out⟩
        | false =>
          obtain ⟨b15, hb15⟩ : ∃ b, c15 ⟨xk, xt, xn, xm⟩ = b := ⟨_, rfl⟩
          have HB15 := Lib.hid hb15
          clear hb15
          go_upto_region 15 with fail
          go_cut [89] from 89 to 109 (fun s89 wx => s89 = .bool b15 ∧ Hid (Kp [] W3 wx))
          case first =>
            by_cases h7 : xk = 7
            · have y7 : (xk == 7) = true := by rw [beq_iff_eq]; exact h7
              have n8 : (xk == 8) = false := by rw [beq_eq_false_iff_ne]; omega
              have H8 := Lib.hid (show xk ≠ 8 by omega)
              have H7 := Lib.hid h7
              have HNm := Lib.hid (fun W => refNm_any xt W (by omega))
              obtain ⟨bn, hbn⟩ : ∃ b, nmB xt = b := ⟨_, rfl⟩
              rw [hbn] at HNm
              have HBn := Lib.hid hbn
              clear hbn h7
              go_wp2_with fail
              refine Calls.mono (by with_reducible exact HNm.out _) ?_
              rintro e w2 ⟨rfl, hk2⟩
              have HK2 := Lib.hid hk2
              clear d0 d1 d2 d3
              obtain ⟨d0, d1, d2, d3⟩ := pcell (HP3.out.kp hk2 (by simp))
              clear hk2
              cases bn with
              | true =>
                go_wp2
                go_meet
                exact ⟨by rw [← HB15.out]; simp only [c15, decide_eq_true H7.out, decide_eq_false H8.out, HBn.out]; rfl, HK2⟩
              | false =>
                go_wp2
                go_meet
                exact ⟨by rw [← HB15.out]; simp only [c15, decide_eq_true H7.out, decide_eq_false H8.out, HBn.out]; rfl, HK2⟩
            have n7 : (xk == 7) = false := beq_eq_false_iff_ne.2 h7
            have H7 := Lib.hid h7
            clear h7
            by_cases h8 : xk = 8
            · have y8 : (xk == 8) = true := by rw [beq_iff_eq]; exact h8
              have H8 := Lib.hid h8
              have HNm := Lib.hid (fun W => refKy_any xt W (by omega))
              obtain ⟨bn, hbn⟩ : ∃ b, kyB xt = b := ⟨_, rfl⟩
              rw [hbn] at HNm
              have HBn := Lib.hid hbn
              clear hbn h8
              go_wp2_with fail
              refine Calls.mono (by with_reducible exact HNm.out _) ?_
              rintro e w2 ⟨rfl, hk2⟩
              have HK2 := Lib.hid hk2
              clear d0 d1 d2 d3
              obtain ⟨d0, d1, d2, d3⟩ := pcell (HP3.out.kp hk2 (by simp))
              clear hk2
              cases bn with
              | true =>
                go_wp2
                go_meet
                exact ⟨by rw [← HB15.out]; simp only [c15, decide_eq_true H8.out, decide_eq_false H7.out, HBn.out]; rfl, HK2⟩
              | false =>
                go_wp2
                go_meet
                exact ⟨by rw [← HB15.out]; simp only [c15, decide_eq_true H8.out, decide_eq_false H7.out, HBn.out]; rfl, HK2⟩
            have n8 : (xk == 8) = false := beq_eq_false_iff_ne.2 h8
            have H8 := Lib.hid h8
            clear h8
            go_wp2
            go_meet
            exact ⟨by rw [← HB15.out]; simp only [c15, decide_eq_false H7.out, decide_eq_false H8.out]; rfl, Lib.hid (Kp.refl _ _)⟩
          obtain ⟨rfl, hkc⟩ := hcut
          rename World => W4
          have HKc := Lib.hid (HK3.out.trans hkc.out)
          cases b15 with
          | true =>
            clear d0 d1 d2 d3
            have HF3 := Lib.hid (HBd.out (good_bad HK1.out (.inr (.inl HB15.out))))
            go_wp2
            go_ret2
            rw [HF3.out]
            exact ⟨rfl, HKc.out⟩
          | false =>
            clear d0 d1 d2 d3
            obtain ⟨d0, d1, d2, d3⟩ := pcell (HP3.out.kp hkc.out (by simp))
            obtain ⟨b17, hb17⟩ : ∃ b, c17 ⟨xk, xt, xn, xm⟩ = b := ⟨_, rfl⟩
            have HB17 := Lib.hid hb17
            clear hb17
            go_upto_region 17 with fail
            go_cut [110] from 110 to 123 (fun s110 wx => s110 = .bool b17 ∧ wx = W4)
            case first =>
              by_cases h7 : xk = 7
              · have e7 : (xk == 7) = true := by rw [beq_iff_eq]; exact h7
                have f7 : (xk != 7) = false := by rw [bne, e7]; rfl
                have H7 := Lib.hid h7
                clear h7
                go_wp2
                go_meet
                exact ⟨by rw [← HB17.out]; simp only [c17, H7.out]; rfl, rfl⟩
              · have e7 : (xk == 7) = false := beq_eq_false_iff_ne.2 h7
                have f7 : (xk != 7) = true := by rw [bne, e7]; rfl
                have H7 := Lib.hid h7
                clear h7
                by_cases h8 : xk = 8
                · have e8 : (xk == 8) = true := by rw [beq_iff_eq]; exact h8
                  have f8 : (xk != 8) = false := by rw [bne, e8]; rfl
                  have H8 := Lib.hid h8
                  clear h8
                  go_wp2
                  go_meet
                  exact ⟨by rw [← HB17.out]; simp only [c17, H8.out]; rfl, rfl⟩
                · have e8 : (xk == 8) = false := beq_eq_false_iff_ne.2 h8
                  have f8 : (xk != 8) = true := by rw [bne, e8]; rfl
                  have H8 := Lib.hid h8
                  clear h8
                  cases he : xt.isEmpty with
                  | true =>
                    rw [he] at hse
                    have HEm := Lib.hid he
                    clear he
                    go_wp2
                    go_meet
                    exact ⟨by rw [← HB17.out]; simp only [c17, decide_eq_true H7.out, decide_eq_true H8.out, HEm.out]; rfl, rfl⟩
                  | false =>
                    rw [he] at hse
                    have HEm := Lib.hid he
                    clear he
                    go_wp2
                    go_meet
                    exact ⟨by rw [← HB17.out]; simp only [c17, decide_eq_true H7.out, decide_eq_true H8.out, HEm.out]; rfl, rfl⟩
            obtain ⟨rfl, hwc⟩ := hcut
            obtain rfl := hwc.symm
            cases b17 with
            | true =>
              have HF3 := Lib.hid (HBd.out (good_bad HK1.out (.inr (.inr (.inl HB17.out)))))
              go_wp2
              go_ret2
              rw [HF3.out]
              exact ⟨rfl, HKc.out⟩
            | false =>
              obtain ⟨b19, hb19⟩ : ∃ b, c19 ⟨xk, xt, xn, xm⟩ = b := ⟨_, rfl⟩
              have HB19 := Lib.hid hb19
              clear hb19
              go_upto_region 19 with fail
              go_cut [124] from 124 to 155 (fun s124 wx => s124 = .bool b19 ∧ wx = W4)
              case first =>
                by_cases h9 : xk = 9
                · have e9 : (xk == 9) = true := by rw [beq_iff_eq]; exact h9
                  have f9 : (xk != 9) = false := by rw [bne, e9]; rfl
                  have H9 := Lib.hid h9
                  clear h9
                  by_cases hl0 : xn < 0
                  · have HL := Lib.hid hl0
                    go_wp2
                    go_meet
                    exact ⟨by rw [← HB19.out]; simp only [c19, decide_eq_true HL.out, Bool.true_or, Bool.or_true], rfl⟩
                  · have HL := Lib.hid hl0
                    by_cases hg9 : 99 < xn
                    · have HG := Lib.hid hg9
                      go_wp2
                      go_meet
                      exact ⟨by rw [← HB19.out]; simp only [c19, decide_eq_true HG.out, Bool.true_or, Bool.or_true], rfl⟩
                    · have HG := Lib.hid hg9
                      by_cases h0 : xn = 0
                      · have e0 : (xn == 0) = true := by rw [beq_iff_eq]; exact h0
                        have H0 := Lib.hid h0
                        clear h0
                        go_wp2
                        go_meet
                        exact ⟨by rw [← HB19.out]; simp only [c19, H9.out, decide_eq_false (p := xn < 0) (by have := HL.out; omega), decide_eq_false (p := 99 < xn) (by have := HG.out; omega), decide_eq_true H0.out]; simp, rfl⟩
                      · have e0 : (xn == 0) = false := beq_eq_false_iff_ne.2 h0
                        have H0 := Lib.hid h0
                        clear h0
                        go_wp2
                        go_meet
                        exact ⟨by rw [← HB19.out]; simp only [c19, H9.out, decide_eq_false (p := xn < 0) (by have := HL.out; omega), decide_eq_false (p := 99 < xn) (by have := HG.out; omega), decide_eq_false H0.out]; simp, rfl⟩
                · have e9 : (xk == 9) = false := beq_eq_false_iff_ne.2 h9
                  have f9 : (xk != 9) = true := by rw [bne, e9]; rfl
                  have H9 := Lib.hid h9
                  clear h9
                  by_cases h0 : xn = 0
                  · have e0 : (xn == 0) = true := by rw [beq_iff_eq]; exact h0
                    have f0 : (xn != 0) = false := by rw [bne, e0]; rfl
                    have hl0 : ¬ xn < 0 := by omega
                    have hg9 : ¬ 99 < xn := by omega
                    have HL := Lib.hid hl0
                    have HG := Lib.hid hg9
                    have H0 := Lib.hid h0
                    clear h0
                    cases xm with
                    | true =>
                      go_wp2
                      go_meet
                      exact ⟨by rw [← HB19.out]; simp only [c19, decide_eq_true H9.out, H0.out]; simp, rfl⟩
                    | false =>
                      go_wp2
                      go_meet
                      exact ⟨by rw [← HB19.out]; simp only [c19, decide_eq_true H9.out, H0.out]; simp, rfl⟩
                  · have e0 : (xn == 0) = false := beq_eq_false_iff_ne.2 h0
                    have f0 : (xn != 0) = true := by rw [bne, e0]; rfl
                    have H0 := Lib.hid h0
                    clear h0
                    go_wp2
                    go_meet
                    exact ⟨by rw [← HB19.out]; simp only [c19, decide_eq_true H9.out, decide_eq_true H0.out, Bool.true_or, Bool.true_and], rfl⟩
              obtain ⟨rfl, hwc⟩ := hcut
              obtain rfl := hwc.symm
              cases b19 with
              | true =>
                have HF3 := Lib.hid (HBd.out (good_bad HK1.out (.inr (.inr (.inr (.inl HB19.out))))))
                go_wp2
                go_ret2
                rw [HF3.out]
                exact ⟨rfl, HKc.out⟩
              | false =>
                obtain ⟨b21, hb21⟩ : ∃ b, c21 ⟨xk, xt, xn, xm⟩ nx = b := ⟨_, rfl⟩
                have HB21 := Lib.hid hb21
                clear hb21
                go_upto_region 21 with fail
                go_cut [156] from 156 to 168 (fun s156 wx => s156 = .bool b21 ∧ wx = W4)
                case first =>
                  by_cases h9 : xk = 9
                  · have e9 : (xk == 9) = true := by rw [beq_iff_eq]; exact h9
                    have f9 : (xk != 9) = false := by rw [bne, e9]; rfl
                    have H9 := Lib.hid h9
                    clear h9
                    by_cases h0 : xn = 0
                    · have e0 : (xn == 0) = true := by rw [beq_iff_eq]; exact h0
                      have H0 := Lib.hid h0
                      have HPx := Lib.hid (fun W => pre_any nx 123 W)
                      clear h0
                      obtain ⟨bh, hbh⟩ : ∃ b, (nx.head? == some 123) = b := ⟨_, rfl⟩
                      rw [hbh] at HPx
                      have HBh := Lib.hid hbh
                      clear hbh
                      go_wp2_with (go_at_call 44; refine Calls.mono (by with_reducible exact HPx.out _) ?_; rintro e w6 ⟨rfl, rfl⟩)
                      go_meet
                      exact ⟨by rw [← HB21.out]; simp only [c21, decide_eq_true H9.out, decide_eq_true H0.out, HBh.out, Bool.true_and], rfl⟩
                    · have e0 : (xn == 0) = false := beq_eq_false_iff_ne.2 h0
                      have H0 := Lib.hid h0
                      clear h0
                      go_wp2
                      go_meet
                      exact ⟨by rw [← HB21.out]; simp only [c21, decide_eq_false H0.out, Bool.false_and, Bool.and_false], rfl⟩
                  · have e9 : (xk == 9) = false := beq_eq_false_iff_ne.2 h9
                    have f9 : (xk != 9) = true := by rw [bne, e9]; rfl
                    have H9 := Lib.hid h9
                    clear h9
                    go_wp2
                    go_meet
                    exact ⟨by rw [← HB21.out]; simp only [c21, decide_eq_false H9.out, Bool.false_and], rfl⟩
                obtain ⟨rfl, hwc⟩ := hcut
                obtain rfl := hwc.symm
                cases b21 with
                | true =>
                  have HF3 := Lib.hid (HBd.out (good_bad HK1.out (.inr (.inr (.inr (.inr (.inl HB21.out)))))))
                  go_wp2
                  go_ret2
                  rw [HF3.out]
                  exact ⟨rfl, HKc.out⟩
                | false =>
                  have hok := ok_all HK1.out HB13.out HB15.out HB17.out HB19.out
                  obtain ⟨⟨pk, pt', pw, pm⟩, hpx, hp1, hp11, -, -, hwell⟩ := ok_pc hok
                  simp only [Pc.g, Gp.mk.injEq] at hpx
                  obtain ⟨rfl, rfl, rfl, rfl⟩ := hpx
                  simp only at hp1 hp11
                  have hwl := hwell (by have := HK1.out; simp only; omega)
                  have hpk2 : 2 ≤ pk := hwl.k1
                  have hpc : pcOf ⟨(pk : Int), xt, (pw : Int), xm⟩ = ⟨pk, xt, pw, xm⟩ := pcOf_g ⟨pk, xt, pw, xm⟩
                  obtain ⟨TL, hTL⟩ : ∃ L, tailOf ⟨pk, xt, pw, xm⟩ = L := ⟨_, rfl⟩
                  have htl : TL.length ≤ 40 := by rw [← hTL]; exact tail_len hwl
                  have HTa := Lib.hid (show ∀ W, Kp [] W3 W → Calls Tryz.prog 45 #[.agg #[.int .i64 (pk : Int), .string (bs xt), .int .i64 (pw : Int), .bool xm]] W (fun e w' => e = .returned (.string (bs TL)) ∧ Kp [] W w') from fun W h => by rw [← hTL]; exact refTail_any ⟨pk, xt, pw, xm⟩ W (HE3.out W h) hwl)
                  have HFM := Lib.hid (show fmtP (pcOf ⟨(pk : Int), xt, (pw : Int), xm⟩) nx = if TL = [] ∧ azHead nx = true then [37, letterOf pk] else 36 :: (wordOf pk ++ TL) from by
                    rw [hpc, ← hTL]
                    unfold fmtP
                    rw [if_neg (by show ¬ pk = 1; omega)])
                  have HT11 := Lib.hid (show pk = 11 → TL = [] from fun e => by subst e; rw [← hTL]; rfl)
                  clear hok hwell hpc hTL hse hxsz
                  go_upto_region 24 with (go_at_call 45; refine Calls.mono (by with_reducible exact HTa.out _ hkc.out) ?_; rintro e w5 ⟨rfl, hk5⟩; have HK5 := Lib.hid (hkc.out.trans hk5); clear hk5)
                  clear d0 d1 d2 d3
                  obtain ⟨d0, d1, d2, d3⟩ := pcell (HP3.out.kp HK5.out (by simp))
                  have HK5w := Lib.hid (HK3.out.trans HK5.out)
                  go_cut [186] from 171 to 186 (fun s186 wx => s186 = .bool (TL.isEmpty && azHead nx) ∧ wx = w5)
                  case first =>
                    have hte := bs_isEmpty TL
                    have hne := bs_isEmpty nx
                    cases TL with
                    | cons tb tr =>
                      have hte2 : (bs (tb :: tr)).toList.isEmpty = false := hte
                      clear hte hne HTa HFM HT11
                      go_wp2
                      go_meet
                      exact ⟨rfl, rfl⟩
                    | nil =>
                      have hte2 : (bs []).toList.isEmpty = true := hte
                      clear hte HTa HFM HT11
                      cases nx with
                      | nil =>
                        clear hne
                        go_wp2
                        go_meet
                        exact ⟨rfl, rfl⟩
                      | cons b r =>
                        have hne2 : (bs (b :: r)).toList.isEmpty = false := hne
                        have hsz0 : 0 < (bs (b :: r)).size := by rw [bs_size]; simp
                        have hsz1 : (0 : Int) < ((bs (b :: r)).size : Int) := by omega
                        have hb0 := at_head hsz0
                        have haz := az_iff b
                        have HAZ := Lib.hid haz
                        clear hne haz
                        by_cases h97 : (97 : Int) ≤ (b.toNat : Int)
                        · by_cases h122 : (b.toNat : Int) ≤ 122
                          · have HA := Lib.hid h97
                            have HB := Lib.hid h122
                            go_wp2
                            go_meet
                            exact ⟨by show Value.bool true = Value.bool (true && azCh b); rw [HAZ.out, decide_eq_true HA.out, decide_eq_true HB.out]; rfl, rfl⟩
                          · have HB := Lib.hid h122
                            go_wp2
                            go_meet
                            exact ⟨by show Value.bool false = Value.bool (true && azCh b); rw [HAZ.out, decide_eq_false (p := (b.toNat : Int) ≤ 122) (by have := HB.out; omega), Bool.and_false]; rfl, rfl⟩
                        · have HA := Lib.hid h97
                          go_wp2
                          go_meet
                          exact ⟨by show Value.bool false = Value.bool (true && azCh b); rw [HAZ.out, decide_eq_false (p := (97 : Int) ≤ (b.toNat : Int)) (by have := HA.out; omega), Bool.false_and]; rfl, rfl⟩
                  obtain ⟨rfl, hwc⟩ := hcut
                  obtain rfl := hwc.symm
                  clear HTa
                  obtain ⟨b24, hb24⟩ : ∃ b, (TL.isEmpty && azHead nx) = b := ⟨_, rfl⟩
                  rw [hb24]
                  cases b24 with
                  | true =>
                    rw [Bool.and_eq_true, List.isEmpty_iff] at hb24
                    by_cases h11 : pk = 11
                    · subst h11
                      have HF3 := Lib.hid (HBd.out (good_bad HK1.out (.inr (.inr (.inr (.inr (.inr ⟨rfl, hb24.2⟩)))))))
                      have dk : w5.cell? ⟨P, 0, none⟩ = some (.int .i64 11) := d0
                      clear d0 hb24
                      go_wp2
                      go_ret2
                      rw [HF3.out]
                      exact ⟨rfl, HK5w.out⟩
                    · have HGN := Lib.hid (HGD.out (good_good HK1.out HB13.out HB15.out HB17.out HB19.out HB21.out (fun e => absurd (show pk = 11 by omega) h11)))
                      have HFo := Lib.hid (HFM.out.trans (if_pos hb24))
                      have n11 : ((pk : Int) == 11) = false := by rw [beq_eq_false_iff_ne]; omega
                      have hex := ltr_cut hpk2 (show pk ≤ 10 by omega)
                      obtain ⟨q, hq⟩ : ∃ q, pk + 1 = q := ⟨_, rfl⟩
                      rw [hq] at hex
                      have hpq : (pk : Int) + 1 = (q : Int) := by omega
                      have HWQ := Lib.hid (wrap_nat (m := q) (by omega))
                      have HWQ2 := Lib.hid (wrap_nat2 (m := q) (by omega))
                      have hp0 : (0 : Int) ≤ (pk : Int) := by omega
                      have hpqi : (pk : Int) ≤ (q : Int) := by omega
                      have hq12 : (q : Int) ≤ 12 := by omega
                      have hpqn : pk ≤ q := by omega
                      have hq12n : q ≤ 12 := by omega
                      have hls : (bs [letterOf pk]).size = 1 := rfl
                      have hov := no_ov (a := (bs acc).size) (b := 2) (by have := HAB.out; omega) (by omega)
                      clear hb24 h11 hq htl hpk2 hp1 hp11
                      have hwq := HWQ.out
                      have hwq2 := HWQ2.out
                      have hwi := HWI.out
                      go_wp2
                      clear hov hwq hwq2 hwi
                      rw [show bs acc ++ ((⟨#[37]⟩ : ByteArray) ++ bs [letterOf pk]) = bs (acc ++ [37, letterOf pk]) from by show bs acc ++ (bs [37] ++ bs [letterOf pk]) = _; rw [bs_app, bs_app]; rfl]
                      go_roundg gk
                      case measure => omega
                      case rel => exact ⟨i + 1, acc ++ [37, letterOf pk], rfl, rfl, by have := HIG.out; omega, Lib.hid (by rw [List.length_append]; exact acc_s HAL.out (by simp)), Lib.hid (by rw [HFD.out, HFo.out]), HGN, HK5w⟩
                  | false =>
                    have HGN := Lib.hid (HGD.out (good_good HK1.out HB13.out HB15.out HB17.out HB19.out HB21.out (fun e => by
                      rw [HT11.out (by omega)] at hb24
                      exact hb24)))
                    have HFo := Lib.hid (HFM.out.trans (if_neg (fun h => by rw [h.1, h.2] at hb24; cases hb24)))
                    have hwz : (bs (wordOf pk)).size ≤ 8 := word_len pk
                    have htz : (bs TL).size ≤ 40 := htl
                    have HOV1 := Lib.hid (no_ov (a := 1) (b := (bs (wordOf pk)).size) (by omega) (by omega))
                    have HOV2 := Lib.hid (no_ov (a := 1 + (bs (wordOf pk)).size) (b := (bs TL).size) (by omega) (by omega))
                    have HOV3 := Lib.hid (no_ov (a := acc.length) (b := 1 + (bs (wordOf pk)).size + (bs TL).size) (by have := HAB.out; omega) (by omega))
                    have HLL := Lib.hid (show (36 :: (wordOf pk ++ TL)).length ≤ 60 by simp only [List.length_cons, List.length_append]; have h1 : (wordOf pk).length ≤ 8 := word_len pk; omega)
                    have hp0 : (0 : Int) ≤ (pk : Int) := by omega
                    have hp12 : (pk : Int) < 12 := by omega
                    have hp12n : pk < 12 := by omega
                    clear hb24 HFM HT11
                    go_upto_region 28 with fail
                    clear d0 d1 d2 d3
                    refine wp_region_held_drew (S := fun W => Kp [] w5 W) (by kernel_rfl) (show Kp [] w5 w5.drew from (Kp.refl [] w5).drew 1) (fun hHeld => ?_)
                    have HPd := Lib.hid (show ∀ W, Kp [] w5 W → PAt W P ⟨(pk : Int), xt, (pw : Int), xm⟩ from fun W h => HP3.out.kp (HK5.out.trans h) (by simp))
                    generalize hwd : w5.drew = wd at *
                    clear hwd
                    refine wpAnyH_take (i := 0) (oi := { dst := some 199, op := Op.move (Operand.tmp 4), type := 9, pos := "ref.go:181", after := #[], guard := none }) (v := .string (bs acc)) rfl (by kernel_rfl) (by kernel_rfl) (by kernel_rfl) (fun _ _ _ h => h) (Or.inl ⟨by rfl, fun w hSw => by (try dsimp only at hSw); go_simp⟩) hHeld ?_
                    try simp only [Act.put, List.setIfInBounds_toArray, List.set_cons_zero, List.set_cons_succ]
                    refine wpAnyH_take (i := 2) (oi := { dst := some 201, op := Op.fieldAddr 61 (Operand.tmp 6) 0, type := 0, pos := "ref.go:181", after := #[], guard := none }) (v := .pointer (some ⟨P, 0, none⟩)) rfl (by kernel_rfl) (by kernel_rfl) (by kernel_rfl) (fun _ _ _ h => h) (Or.inl ⟨by rfl, fun w hSw => by (try dsimp only at hSw); go_simp⟩) hHeld ?_
                    try simp only [Act.put, List.setIfInBounds_toArray, List.set_cons_zero, List.set_cons_succ]
                    refine wpAnyH_take (i := 3) (oi := { dst := some 202, op := Op.load 3 (Operand.tmp 201), type := 3, pos := "ref.go:181", after := #[{ on := 2, ground := Ground.data }], guard := none }) (v := .int .i64 (pk : Int)) rfl (by kernel_rfl) (by kernel_rfl) (by kernel_rfl) (fun _ _ _ h => h) (Or.inl ⟨by rfl, fun w hSw => by (try dsimp only at hSw); obtain ⟨c0, c1, c2, c3⟩ := pcell (HPd.out _ hSw); go_simp⟩) hHeld ?_
                    try simp only [Act.put, List.setIfInBounds_toArray, List.set_cons_zero, List.set_cons_succ]
                    refine wpAnyH_take (i := 7) (oi := { dst := some 206, op := Op.move (Operand.tmp 8), type := 9, pos := "ref.go:181", after := #[], guard := none }) (v := .string (bs TL)) rfl (by kernel_rfl) (by kernel_rfl) (by kernel_rfl) (fun _ _ _ h => h) (Or.inl ⟨by rfl, fun w hSw => by (try dsimp only at hSw); go_simp⟩) hHeld ?_
                    try simp only [Act.put, List.setIfInBounds_toArray, List.set_cons_zero, List.set_cons_succ]
                    obtain ⟨Wb, hWb⟩ : ∃ b, wd.heap.size = b := ⟨_, rfl⟩
                    refine wpAnyH_ready (rs := [1]) (by kernel_rfl) (by simp) ?_
                    refine AllReadyH.cons (o := { dst := some 200, op := Op.call { callee := Callee.value (Operand.func 46), args := #[], argTypes := #[] }, type := 28, pos := "ref.go:181", after := #[], guard := none }) rfl (fun K hK => ?_) AllReadyH.nil
                    go_simp
                    go_at_call 46
                    refine Calls.mono (by with_reducible exact refWds_any _) ?_
                    rintro e V1 ⟨rfl, hV⟩
                    dsimp only
                    have hkv : Kp [] wd V1 := by rw [hV]; exact (Kp.refl [] wd).alloc _
                    have hS := hHeld.trans hkv
                    have HWc := Lib.hid (show V1.cell? ⟨Wb, pk, none⟩ = some (.string (bs (wordOf pk))) from by rw [← hWb]; exact words_cell (by rw [hV]; exact Kp.refl _ _) hp12n)
                    rw [hWb]
                    clear hkv hV hWb
                    clear hHeld
                    refine hK.out _ _ hS (fun hHeld => ?_)
                    try simp only [Act.put, List.setIfInBounds_toArray, List.set_cons_zero, List.set_cons_succ]
                    clear hK
                    clear hS
                    refine wpAnyH_take (i := 4) (oi := { dst := some 203, op := Op.indexAddr 28 (Operand.tmp 200) (Operand.tmp 202), type := 0, pos := "ref.go:181", after := #[{ on := 1, ground := Ground.data }, { on := 3, ground := Ground.data }], guard := none }) (v := .pointer (some ⟨Wb, pk, none⟩)) rfl (by kernel_rfl) (by kernel_rfl) (by kernel_rfl) (fun _ _ _ h => h) (Or.inl ⟨by rfl, fun w hSw => by (try dsimp only at hSw); go_simp⟩) hHeld ?_
                    try simp only [Act.put, List.setIfInBounds_toArray, List.set_cons_zero, List.set_cons_succ]
                    refine wpAnyH_ready (rs := [5]) (by kernel_rfl) (by simp) ?_
                    refine AllReadyH.cons (o := { dst := some 204, op := Op.load 9 (Operand.tmp 203), type := 9, pos := "ref.go:181", after := #[{ on := 4, ground := Ground.data }], guard := none }) rfl (fun K hK => ?_) AllReadyH.nil
                    have hc := HWc.out
                    go_simp
                    refine hK.out _ _ hHeld (fun hHeld => ?_)
                    try simp only [Act.put, List.setIfInBounds_toArray, List.set_cons_zero, List.set_cons_succ]
                    clear hK
                    refine wpAnyH_take (i := 6) (oi := { dst := some 205, op := Op.binOp BinOp.add 9 (Operand.const (Value.string { data := #[36] })) (Operand.tmp 204) 9, type := 9, pos := "ref.go:181", after := #[{ on := 5, ground := Ground.data }], guard := none }) (v := .string ((⟨#[36]⟩ : ByteArray) ++ bs (wordOf pk))) rfl (by kernel_rfl) (by kernel_rfl) (by kernel_rfl) (fun _ _ _ h => h) (Or.inl ⟨by rfl, fun w hSw => by (try dsimp only at hSw); have hov := HOV1.out; go_simp⟩) hHeld ?_
                    try simp only [Act.put, List.setIfInBounds_toArray, List.set_cons_zero, List.set_cons_succ]
                    refine wpAnyH_take (i := 8) (oi := { dst := some 207, op := Op.binOp BinOp.add 9 (Operand.tmp 205) (Operand.tmp 206) 9, type := 9, pos := "ref.go:181", after := #[{ on := 6, ground := Ground.data }, { on := 7, ground := Ground.data }], guard := none }) (v := .string ((⟨#[36]⟩ : ByteArray) ++ bs (wordOf pk) ++ bs TL)) rfl (by kernel_rfl) (by kernel_rfl) (by kernel_rfl) (fun _ _ _ h => h) (Or.inl ⟨by rfl, fun w hSw => by (try dsimp only at hSw); have hov := HOV2.out; go_simp⟩) hHeld ?_
                    try simp only [Act.put, List.setIfInBounds_toArray, List.set_cons_zero, List.set_cons_succ]
                    refine wpAnyH_take (i := 9) (oi := { dst := some 208, op := Op.binOp BinOp.add 9 (Operand.tmp 199) (Operand.tmp 207) 9, type := 9, pos := "ref.go:181", after := #[{ on := 0, ground := Ground.data }, { on := 8, ground := Ground.data }], guard := none }) (v := .string (bs acc ++ ((⟨#[36]⟩ : ByteArray) ++ bs (wordOf pk) ++ bs TL))) rfl (by kernel_rfl) (by kernel_rfl) (by kernel_rfl) (fun _ _ _ h => h) (Or.inl ⟨by rfl, fun w hSw => by (try dsimp only at hSw); have hov := HOV3.out; go_simp⟩) hHeld ?_
                    try simp only [Act.put, List.setIfInBounds_toArray, List.set_cons_zero, List.set_cons_succ]
                    refine wpAnyH_take (i := 10) (oi := { dst := some 4, op := Op.assign (Operand.tmp 208), type := 9, pos := "ref.go:181", after := #[{ on := 9, ground := Ground.data }, { on := 1, ground := Ground.chain }, { on := 0, ground := Ground.phase }, { on := 1, ground := Ground.phase }, { on := 2, ground := Ground.phase }, { on := 3, ground := Ground.phase }, { on := 4, ground := Ground.phase }, { on := 5, ground := Ground.phase }, { on := 6, ground := Ground.phase }, { on := 7, ground := Ground.phase }, { on := 8, ground := Ground.phase }, { on := 9, ground := Ground.phase }], guard := none }) (v := .string (bs acc ++ ((⟨#[36]⟩ : ByteArray) ++ bs (wordOf pk) ++ bs TL))) rfl (by kernel_rfl) (by kernel_rfl) (by kernel_rfl) (fun _ _ _ h => h) (Or.inl ⟨by rfl, fun w hSw => by (try dsimp only at hSw); go_simp⟩) hHeld ?_
                    try simp only [Act.put, List.setIfInBounds_toArray, List.set_cons_zero, List.set_cons_succ]
                    have HSe := Lib.hid hHeld
                    refine wpAnyH_done (by kernel_rfl) ?_ _
                    clear hHeld
                    rw [show bs acc ++ ((⟨#[36]⟩ : ByteArray) ++ bs (wordOf pk) ++ bs TL) = bs (acc ++ 36 :: (wordOf pk ++ TL)) from by show bs acc ++ (bs [36] ++ bs (wordOf pk) ++ bs TL) = _; rw [bs_app, bs_app, bs_app]; rfl]
                    have hwi := HWI.out
                    go_wp2
                    clear hwi
                    go_roundg gk
                    case measure => omega
                    case rel => exact ⟨i + 1, acc ++ 36 :: (wordOf pk ++ TL), rfl, rfl, by have := HIG.out; omega, Lib.hid (by rw [List.length_append]; exact acc_s HAL.out (Nat.le_trans HLL.out (by decide))), Lib.hid (by rw [HFD.out, HFo.out]), HGN, Lib.hid (HK5w.out.trans HSe.out)⟩
end Go.Proofs.YtfpkppgecmbglaaGreatDoor
