/- Terms. -/
import Derived.Test.YtkkibibecgcbmaaGreatDoorKGu
namespace Go.Proofs.YtkkibibecgcbmaaGreatDoor
open Go.RowKit
theorem nextQ2 {w : World} {tb n : Nat} (hn : n ≤ 900000) (h : Tq w tb n) : Calls Tryz.prog 35 #[.pointer (some ⟨tb, 0, none⟩), .int .i64 2] w fun e w' => ∃ r : Nat, r < 2 ∧ e = .returned (.int .i64 r) ∧ Tq w' tb (n + 1) ∧ Kp [tb] w w' := by
 obtain ⟨k, hk, h⟩ := h
 exact (nextL2 (by omega) h).mono fun _ _ ⟨r, h1, h2, h3, h4⟩ => ⟨r, h1, h2, ⟨_, by omega, h3⟩, h4⟩
theorem nextQ8 {w : World} {tb n : Nat} (hn : n ≤ 900000) (h : Tq w tb n) : Calls Tryz.prog 35 #[.pointer (some ⟨tb, 0, none⟩), .int .i64 8] w fun e w' => ∃ r : Nat, r < 8 ∧ e = .returned (.int .i64 r) ∧ Tq w' tb (n + 1) ∧ Kp [tb] w w' := by
 obtain ⟨k, hk, h⟩ := h
 exact (nextL8 (by omega) h).mono fun _ _ ⟨r, h1, h2, h3, h4⟩ => ⟨r, h1, h2, ⟨_, by omega, h3⟩, h4⟩
theorem nextQ3 {w : World} {tb n : Nat} (hn : n ≤ 900000) (h : Tq w tb n) : Calls Tryz.prog 35 #[.pointer (some ⟨tb, 0, none⟩), .int .i64 3] w fun e w' => ∃ r : Nat, r < 3 ∧ e = .returned (.int .i64 r) ∧ Tq w' tb (n + 1) ∧ Kp [tb] w w' := by
 obtain ⟨k, hk, h⟩ := h
 exact (nextL3 (by omega) h).mono fun _ _ ⟨r, h1, h2, h3, h4⟩ => ⟨r, h1, h2, ⟨_, by omega, h3⟩, h4⟩
theorem matchesQ {w : World} {tb n : Nat} (hn : n ≤ 900000) (h : Tq w tb n) : Calls Tryz.prog 58 #[.pointer (some ⟨tb, 0, none⟩)] w fun e w' => ∃ t : Tm, e = .returned (.agg #[.int .i64 t.key, .string (bs t.name), .int .i64 t.op, .string (bs t.val)]) ∧ GoodT t ∧ Tq w' tb (n + 10) ∧ Kp [tb] w w' := by
 obtain ⟨k, hk, h⟩ := h
 exact (matches_any (by omega) h).mono fun _ _ ⟨t, h1, h2, ⟨k', h3, h4⟩, h5⟩ => ⟨t, h1, h2, ⟨k', by omega, h4⟩, h5⟩
theorem assignsQ {w : World} {tb n : Nat} (hn : n ≤ 900000) (h : Tq w tb n) : Calls Tryz.prog 37 #[.pointer (some ⟨tb, 0, none⟩)] w fun e w' => ∃ t : Tm, e = .returned (.agg #[.int .i64 t.key, .string (bs t.name), .int .i64 t.op, .string (bs t.val)]) ∧ GoodT t ∧ Tq w' tb (n + 10) ∧ Kp [tb] w w' := by
 obtain ⟨k, hk, h⟩ := h
 exact (assigns_any (by omega) h).mono fun _ _ ⟨t, h1, h2, ⟨k', h3, h4⟩, h5⟩ => ⟨t, h1, h2, ⟨k', by omega, h4⟩, h5⟩
theorem jumpQ {w : World} {tb n : Nat} (hn : n ≤ 900000) (h : Tq w tb n) (m : Nat) (hm : w.heap.size = m) : Calls Tryz.prog 36 #[.pointer (some ⟨tb, 0, none⟩), .slice (some ⟨m, 0, none⟩) 2 2] (w.alloc (.cells #[.string ⟨#[101, 110, 100]⟩, .string ⟨#[109, 105, 100]⟩] 9)) fun e w' => ∃ x : List UInt8, x.length ≤ 300 ∧ e = .returned (.string (bs x)) ∧ Tq w' tb (n + 1) ∧ Kp [tb] w w' := by
 obtain ⟨k, hk, h⟩ := h
 exact (oneM29 (by omega) h m hm).mono fun _ _ ⟨r, h1, h2, h3, h4⟩ => ⟨r, h1, h2, ⟨_, by omega, h3⟩, h4⟩
/-- What Terms draws. -/
def TermsOk (l : List Tm) : Prop := l ≠ [] ∧ l.length ≤ 6 ∧ (∀ x ∈ l, SmT x ∧ 1 ≤ x.key ∧ x.key ≤ 24) ∧ cntK l 23 + cntK l 24 ≤ 1
theorem termsOk_good {l : List Tm} (h0 : l ≠ []) (h1 : l.length ≤ 6) (h : ∀ x ∈ l, GoodT x) : TermsOk l := by
 obtain ⟨c1, c2⟩ := cntK_good h
 exact ⟨h0, h1, fun x hx => ⟨(h x hx).1, (h x hx).2.1, by have := (h x hx).2.2; omega⟩, by omega⟩
theorem termsOk_jump {l : List Tm} {K : Int} {xb : List UInt8} (h1 : l.length ≤ 5) (h : ∀ x ∈ l, GoodT x) (hK : K = 23 ∨ K = 24) (hx : xb.length ≤ 300) : TermsOk (l ++ [⟨K, [], 3, xb⟩]) := by
 obtain ⟨c1, c2⟩ := cntK_good h
 refine ⟨by simp, by simp; omega, fun x hx' => ?_, ?_⟩
 ·rcases List.mem_append.1 hx' with hx' | hx'
  ·exact ⟨(h x hx').1, (h x hx').2.1, by have := (h x hx').2.2; omega⟩
  ·simp only [List.mem_singleton] at hx'
   subst hx'
   exact ⟨⟨Nat.zero_le _, by show xb.length ≤ _; omega⟩, by show 1 ≤ K; omega, by show K ≤ 24; omega⟩
 ·rw [cntK_snoc, cntK_snoc, c1, c2]
  rcases hK with rfl | rfl <;> simp
theorem own_single {W : World} {B : Nat} (x : Tm) (hB : B ≤ W.heap.size) (c : Nat) (hc : c = 1) : tmT.Own (W.alloc (.cells (tmC x) 31)) B (.slice (some ⟨W.heap.size, 0, none⟩) 1 c) [x] := by
 subst hc
 exact ⟨rfl, .inr ⟨_, 1, tmC x, rfl, hB, heap_alloc_last _ _, Nat.le_refl _, by unfold maxLen; omega, rfl, rfl⟩⟩
theorem own_row {W : World} {B g n c : Nat} {l : List Tm} (h : tmT.Own W B (.slice (some ⟨g, 0, none⟩) n c) l) : tmT.Row W g 0 l := by
 rcases h.form2 with ⟨hv, _⟩ | ⟨g', cap, hv, _, _, _, _, hr⟩
 ·cases hv
 ·cases hv
  exact hr
set_option maxRecDepth 100000 in
set_option maxHeartbeats 16000000 in
theorem terms_any {w : World} {tb n : Nat} (hn : n ≤ 800000) (htb : tb < w.heap.size) (h : Tq w tb n) : Calls Tryz.prog 34 #[.pointer (some ⟨tb, 0, none⟩)] w fun e w' => ∃ v l, e = .returned v ∧ tmT.Own w' w.heap.size v l ∧ TermsOk l ∧ Tq w' tb (n + 80) ∧ Kp [tb] w w' := by
 have HTB := Lib.hid htb
 have HQ0 := Lib.hid h
 have HK0 := Lib.hid (Kp.refl [tb] w)
 clear htb h
 go_enter Tryz.func34, Tryz.ntmps34
 go_wp2_with (go_at_call 35; refine Calls.mono (by with_reducible exact nextQ3 (by omega) HQ0.out) ?_; rintro e w2 ⟨r, hr, rfl, htq, hkp⟩; have HQ := Lib.hid htq; have HK := Lib.hid hkp; clear htq hkp)
 go_loopg [3, 4] r (fun g s3 s4 wx => ∃ (v : Value) (l : List Tm), v = s3 ∧ s4 = .int .i64 (g : Int) ∧ tmT.Own wx w.heap.size v l ∧ l.length + g = r ∧ (∀ x ∈ l, GoodT x) ∧ Tq wx tb (n + 1 + 10 * l.length) ∧ Kp [tb] w wx)
 case atStart => exact ⟨_, [], rfl, rfl, RT.Own.nil _ _ _, by simp, (fun x hx => by cases hx), HQ.out, HK.out⟩
 case round =>
  obtain ⟨v, l, rfl, rfl, hov, hlr, hgl, htq, hkp⟩ := hrel
  have HK := Lib.hid hkp
  have HO := Lib.hid hov
  have HGL := Lib.hid hgl
  clear hkp hov hgl
  by_cases hg0 : gk = 0
  ·subst hg0
   have HQ := Lib.hid htq
   clear htq
   go_wp2_with (go_at_call 35; refine Calls.mono (by with_reducible exact nextQ2 (by omega) HQ.out) ?_; rintro e w2 ⟨r2, hr2, rfl, htq, hkp⟩; have HQ := Lib.hid htq; have HKb := Lib.hid (HK.out.trans hkp); have HOb := Lib.hid (own_tb HO.out HTB.out hkp); clear htq hkp; have hw1 : IntKind.i64.wrap ((1 : Int) + r2) = ((1 + r2 : Nat) : Int) := (by rw [IntKind.wrap_i64]; omega))
   go_loopg [3, 5] (1 + r2) (fun g s3 s5 wx => ∃ (v : Value) (l : List Tm), v = s3 ∧ s5 = .int .i64 (g : Int) ∧ tmT.Own wx w.heap.size v l ∧ l.length + g = r + (1 + r2) ∧ (∀ x ∈ l, GoodT x) ∧ Tq wx tb (n + 2 + 10 * l.length) ∧ Kp [tb] w wx)
   case atStart => exact ⟨_, l, rfl, by first | rfl | (congr 1; omega), HOb.out, by omega, HGL.out, by have := HQ.out; exact ⟨this.choose, by have := this.choose_spec.1; omega, this.choose_spec.2⟩, HKb.out⟩
   case round =>
    clear HK HO HGL HQ HKb HOb
    rename_i l0 _ _
    obtain ⟨v, l, rfl, rfl, hov, hlr2, hgl, htq, hkp⟩ := hrel
    have HK := Lib.hid hkp
    have HO := Lib.hid hov
    have HGL := Lib.hid hgl
    have HQ := Lib.hid htq
    clear hkp hov hgl htq
    by_cases hg1 : gk = 0
    ·subst hg1
     have HL0 := Lib.hid (show l ≠ [] by intro hl; rw [hl] at hlr2; simp at hlr2; omega)
     obtain ⟨vg, vcap, rfl⟩ : ∃ g c, v = .slice (some ⟨g, 0, none⟩) l.length c := by
      rcases HO.out.form2 with ⟨_, hn⟩ | ⟨g', cap, hv, _⟩
      ·exact absurd hn HL0.out
      ·exact ⟨g', cap, hv⟩
     have hll : l.length ≤ 4 := by omega
     have HXS := Lib.hid (show l.length ≤ 1000000 by omega)
     have HLL := Lib.hid hll
     clear hll
     go_upto_region 11 with (go_at_call 35; refine Calls.mono (by with_reducible exact nextQ8 (by have := HLL.out; omega) HQ.out) ?_; rintro e w2 ⟨q, hq, rfl, htq, hkp⟩; have HQ := Lib.hid htq; have HK := Lib.hid (HK.out.trans hkp); have HO := Lib.hid (own_tb HO.out HTB.out hkp); clear htq hkp)
     by_cases q0 : q = 0
     ·subst q0
      go_wp2_with (first
       | (go_at_call 36; refine Calls.mono (by with_reducible exact jumpQ (by have := HLL.out; omega) HQ.out _ rfl) ?_; rintro e w5 ⟨xb, hxb, rfl, htq, hkp⟩; have HXB := Lib.hid hxb; have HQ5 := Lib.hid htq; have HK5 := Lib.hid (HK.out.trans hkp); have HO5 := Lib.hid (own_tb HO.out HTB.out hkp); clear hxb htq hkp; obtain ⟨Nb, hNb⟩ : ∃ Nb, w5.heap.size = Nb := ⟨_, rfl⟩; obtain ⟨w7, hw7⟩ : ∃ w7, w5.alloc (.cells #[.int .i64 23, .string ⟨#[]⟩, .int .i64 3, .string (bs xb)] 31) = w7 := ⟨_, rfl⟩; have H7 := Lib.hid (tm_pushS (x := ⟨23, [], 3, xb⟩) HO5.out hNb hw7); have HK7 := Lib.hid (HK5.out.upT H7.out.1); have HQ7 := Lib.hid (HQ5.out.kp0 H7.out.1))
       | (at_builtin; refine wpList_append_r (r := tmT) rfl (.tmp 33) (.tmp 38) rfl w.heap.size (.slice (some ⟨vg, 0, none⟩) l.length vcap) l rfl H7.out.2.1 Nb 1 ⟨23, [], 3, xb⟩ rfl H7.out.2.2 HXS.out HK7.out.size ?_; intro v8 w8 hown8 hgr8; have HO8 := Lib.hid hown8; have HK8 := Lib.hid (kp_grownS HK7.out hgr8 fun b hb => (H7.out.2.1.ge b hb).1); have HQ8 := Lib.hid (tq_grown HQ7.out HTB.out hgr8 fun b hb => (H7.out.2.1.ge b hb).1); clear hown8 hgr8))
      go_ret
      exact ⟨_, _, rfl, HO8.out, termsOk_jump (by have := HLL.out; omega) HGL.out (.inl rfl) HXB.out, ⟨HQ8.out.choose, by have := HQ8.out.choose_spec.1; have := HLL.out; omega, HQ8.out.choose_spec.2⟩, HK8.out⟩
     by_cases q1 : q = 1
     ·subst q1
      go_wp2_with (first
       | (go_at_call 36; refine Calls.mono (by with_reducible exact jumpQ (by have := HLL.out; omega) HQ.out _ rfl) ?_; rintro e w5 ⟨xb, hxb, rfl, htq, hkp⟩; have HXB := Lib.hid hxb; have HQ5 := Lib.hid htq; have HK5 := Lib.hid (HK.out.trans hkp); have HO5 := Lib.hid (own_tb HO.out HTB.out hkp); clear hxb htq hkp; obtain ⟨Nb, hNb⟩ : ∃ Nb, w5.heap.size = Nb := ⟨_, rfl⟩; obtain ⟨w7, hw7⟩ : ∃ w7, w5.alloc (.cells #[.int .i64 24, .string ⟨#[]⟩, .int .i64 3, .string (bs xb)] 31) = w7 := ⟨_, rfl⟩; have H7 := Lib.hid (tm_pushS (x := ⟨24, [], 3, xb⟩) HO5.out hNb hw7); have HK7 := Lib.hid (HK5.out.upT H7.out.1); have HQ7 := Lib.hid (HQ5.out.kp0 H7.out.1))
       | (at_builtin; refine wpList_append_r (r := tmT) rfl (.tmp 42) (.tmp 47) rfl w.heap.size (.slice (some ⟨vg, 0, none⟩) l.length vcap) l rfl H7.out.2.1 Nb 1 ⟨24, [], 3, xb⟩ rfl H7.out.2.2 HXS.out HK7.out.size ?_; intro v8 w8 hown8 hgr8; have HO8 := Lib.hid hown8; have HK8 := Lib.hid (kp_grownS HK7.out hgr8 fun b hb => (H7.out.2.1.ge b hb).1); have HQ8 := Lib.hid (tq_grown HQ7.out HTB.out hgr8 fun b hb => (H7.out.2.1.ge b hb).1); clear hown8 hgr8))
      go_ret
      exact ⟨_, _, rfl, HO8.out, termsOk_jump (by have := HLL.out; omega) HGL.out (.inr rfl) HXB.out, ⟨HQ8.out.choose, by have := HQ8.out.choose_spec.1; have := HLL.out; omega, HQ8.out.choose_spec.2⟩, HK8.out⟩
     by_cases q2 : q = 2
     ·subst q2
      go_wp2_with (first
       | (go_at_call 37; refine Calls.mono (by with_reducible exact assignsQ (by have := HLL.out; omega) HQ.out) ?_; rintro e w5 ⟨t, rfl, hgt, htq, hkp⟩; have HG := Lib.hid hgt; have HQ5 := Lib.hid htq; have HK5 := Lib.hid (HK.out.trans hkp); have HO5 := Lib.hid (own_tb HO.out HTB.out hkp); clear hgt htq hkp; obtain ⟨Nb, hNb⟩ : ∃ Nb, w5.heap.size = Nb := ⟨_, rfl⟩; obtain ⟨w7, hw7⟩ : ∃ w7, w5.alloc (.cells #[.int .i64 t.key, .string (bs t.name), .int .i64 t.op, .string (bs t.val)] 31) = w7 := ⟨_, rfl⟩; have H7 := Lib.hid (tm_pushS (x := t) HO5.out hNb hw7); have HK7 := Lib.hid (HK5.out.upT H7.out.1); have HQ7 := Lib.hid (HQ5.out.kp0 H7.out.1); have HS7 := Lib.hid (show tmT.Own w7 w.heap.size (.slice (some ⟨Nb, 0, none⟩) 1 1) [t] by have := own_single (W := w5) t HK5.out.size 1 rfl; rw [hNb] at this; unfold tmC at this; rw [hw7] at this; exact this))
       | (at_builtin; refine wpList_append_rs (r := tmT) rfl (.tmp 53) (.tmp 54) rfl w.heap.size (.slice (some ⟨Nb, 0, none⟩) 1 1) [t] l rfl HS7.out vg 0 vcap rfl (own_row H7.out.2.1) (by have := HLL.out; simp only [List.length_singleton]; omega) HK7.out.size ?_; intro v8 w8 hown8 hgr8; have HO8 := Lib.hid hown8; have HK8 := Lib.hid (kp_grownS HK7.out hgr8 fun b hb => (HS7.out.ge b hb).1); have HQ8 := Lib.hid (tq_grown HQ7.out HTB.out hgr8 fun b hb => (HS7.out.ge b hb).1); clear hown8 hgr8))
      go_ret
      exact ⟨_, _, rfl, HO8.out, termsOk_good (by simp) (by have := HLL.out; simp; omega) (fun x hx => by rcases List.mem_append.1 hx with hx | hx; simp only [List.mem_singleton] at hx; rw [hx]; exact HG.out; exact HGL.out x hx), ⟨HQ8.out.choose, by have := HQ8.out.choose_spec.1; have := HLL.out; omega, HQ8.out.choose_spec.2⟩, HK8.out⟩
     ·have z0 : ¬ (q : Int) = 0 := by omega
      have z1 : ¬ (q : Int) = 1 := by omega
      have z2 : ¬ (q : Int) = 2 := by omega
      clear q0 q1 q2
      go_wp2
      go_ret
      exact ⟨_, _, rfl, HO.out, termsOk_good HL0.out (by have := HLL.out; omega) HGL.out, ⟨HQ.out.choose, by have := HQ.out.choose_spec.1; have := HLL.out; omega, HQ.out.choose_spec.2⟩, HK.out⟩
    ·obtain ⟨g, rfl⟩ : ∃ g, gk = g + 1 := ⟨gk - 1, by omega⟩
     have hgz : (0 : Int) < ((g + 1 : Nat) : Int) := by omega
     have hws : IntKind.i64.wrap (((g + 1 : Nat) : Int) - 1) = (g : Int) := by rw [IntKind.wrap_i64]; omega
     have HXS := Lib.hid (show l.length ≤ 1000000 by omega)
     go_wp2_with (first
      | (go_at_call 37; refine Calls.mono (by with_reducible exact assignsQ (by omega) HQ.out) ?_; rintro e w5 ⟨t, rfl, hgt, htq, hkp⟩; have HG := Lib.hid hgt; have HQ5 := Lib.hid htq; have HK5 := Lib.hid (HK.out.trans hkp); have HO5 := Lib.hid (own_tb HO.out HTB.out hkp); clear hgt htq hkp; obtain ⟨Nb, hNb⟩ : ∃ Nb, w5.heap.size = Nb := ⟨_, rfl⟩; obtain ⟨w7, hw7⟩ : ∃ w7, w5.alloc (.cells #[.int .i64 t.key, .string (bs t.name), .int .i64 t.op, .string (bs t.val)] 31) = w7 := ⟨_, rfl⟩; have H7 := Lib.hid (tm_pushS (x := t) HO5.out hNb hw7); have HK7 := Lib.hid (HK5.out.upT H7.out.1); have HQ7 := Lib.hid (HQ5.out.kp0 H7.out.1))
      | (at_builtin; refine wpList_append_r (r := tmT) rfl (.tmp 24) (.tmp 27) rfl w.heap.size v l rfl H7.out.2.1 Nb 1 t rfl H7.out.2.2 HXS.out HK7.out.size ?_; intro v8 w8 hown8 hgr8; have HO8 := Lib.hid hown8; have HK8 := Lib.hid (kp_grownS HK7.out hgr8 fun b hb => (H7.out.2.1.ge b hb).1); have HQ8 := Lib.hid (tq_grown HQ7.out HTB.out hgr8 fun b hb => (H7.out.2.1.ge b hb).1); clear hown8 hgr8))
     go_roundg g
     case measure => omega
     case rel => exact ⟨v8, l ++ [t], rfl, by first | rfl | (congr 1; omega), HO8.out, by rw [List.length_append, List.length_singleton]; omega, (fun x hx => by rcases List.mem_append.1 hx with hx | hx; exact HGL.out x hx; simp only [List.mem_singleton] at hx; rw [hx]; exact HG.out), by rw [List.length_append, List.length_singleton]; exact ⟨HQ8.out.choose, by have := HQ8.out.choose_spec.1; omega, HQ8.out.choose_spec.2⟩, HK8.out⟩
  ·obtain ⟨g, rfl⟩ : ∃ g, gk = g + 1 := ⟨gk - 1, by omega⟩
   have HQ := Lib.hid htq
   have hgz : (0 : Int) < ((g + 1 : Nat) : Int) := by omega
   have hws : IntKind.i64.wrap (((g + 1 : Nat) : Int) - 1) = (g : Int) := by rw [IntKind.wrap_i64]; omega
   have HXS := Lib.hid (show l.length ≤ 1000000 by omega)
   clear htq
   go_wp2_with (first
    | (go_at_call 58; refine Calls.mono (by with_reducible exact matchesQ (by omega) HQ.out) ?_; rintro e w5 ⟨t, rfl, hgt, htq, hkp⟩; have HG := Lib.hid hgt; have HQ5 := Lib.hid htq; have HK5 := Lib.hid (HK.out.trans hkp); have HO5 := Lib.hid (own_tb HO.out HTB.out hkp); clear hgt htq hkp; obtain ⟨Nb, hNb⟩ : ∃ Nb, w5.heap.size = Nb := ⟨_, rfl⟩; obtain ⟨w7, hw7⟩ : ∃ w7, w5.alloc (.cells #[.int .i64 t.key, .string (bs t.name), .int .i64 t.op, .string (bs t.val)] 31) = w7 := ⟨_, rfl⟩; have H7 := Lib.hid (tm_pushS (x := t) HO5.out hNb hw7); have HK7 := Lib.hid (HK5.out.upT H7.out.1); have HQ7 := Lib.hid (HQ5.out.kp0 H7.out.1))
    | (at_builtin; refine wpList_append_r (r := tmT) rfl (.tmp 12) (.tmp 15) rfl w.heap.size v l rfl H7.out.2.1 Nb 1 t rfl H7.out.2.2 HXS.out HK7.out.size ?_; intro v8 w8 hown8 hgr8; have HO8 := Lib.hid hown8; have HK8 := Lib.hid (kp_grownS HK7.out hgr8 fun b hb => (H7.out.2.1.ge b hb).1); have HQ8 := Lib.hid (tq_grown HQ7.out HTB.out hgr8 fun b hb => (H7.out.2.1.ge b hb).1); clear hown8 hgr8))
   go_roundg g
   case measure => omega
   case rel => exact ⟨v8, l ++ [t], rfl, by first | rfl | (congr 1; omega), HO8.out, by rw [List.length_append, List.length_singleton]; omega, (fun x hx => by rcases List.mem_append.1 hx with hx | hx; exact HGL.out x hx; simp only [List.mem_singleton] at hx; rw [hx]; exact HG.out), by rw [List.length_append, List.length_singleton]; exact ⟨HQ8.out.choose, by have := HQ8.out.choose_spec.1; omega, HQ8.out.choose_spec.2⟩, HK8.out⟩
end Go.Proofs.YtkkibibecgcbmaaGreatDoor
