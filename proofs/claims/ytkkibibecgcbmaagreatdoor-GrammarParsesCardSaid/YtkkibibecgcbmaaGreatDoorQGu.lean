/- Gu -/
import Derived.Test.YtkkibibecgcbmaaGreatDoorQGt
open Go.Lib renaming hid → qH
open Go.Calls renaming mono → cM
set_option maxRecDepth 100000
set_option maxHeartbeats 16000000
namespace Go.Proofs.YtkkibibecgcbmaaGreatDoor
open Go.RowKit
theorem Tq.kp0 {w w' : World} {tb n : Nat} (h : Tq w tb n) (hk : Kp [] w w') : Tq w' tb n := by
 obtain ⟨k, hk1, h⟩ := h
 exact ⟨k, hk1, h.kp hk (by simp)⟩
theorem own_tb {W W' : World} {B tb : Nat} {v : Value} {l : List Tm} (h : tmT.Own W B v l) (hB : tb < B) (hk : Kp [tb] W W') : tmT.Own W' B v l := h.kp hk fun b hb => by
 have := (h.ge b hb).1
 simp
 omega
theorem tm_pushS {W W7 : World} {Nb B : Nat} {x : Tm} {v : Value} {xs : List Tm} (ho : tmT.Own W B v xs) (hN : W.heap.size = Nb) (hW : W.alloc (.cells (tmC x) 31) = W7) : Kp [] W W7 ∧ tmT.Own W7 B v xs ∧ W7.rangeAt Nb 0 (tmT.cf x) := by
 have hk1 : Kp [] W W7 := by rw [← hW]; exact (Kp.refl [] _).alloc _
 refine ⟨hk1, ho.kp0 hk1, ?_⟩
 have h := MAt.new W x
 rw [hW, hN] at h
 exact h.range
theorem kp_grownS {w W w' : World} {v : Value} {S : List Nat} (h : Kp S w W) (g : W.grownBy w' v.ownBlock) (hv : ∀ b, v.ownBlock = some b → w.heap.size ≤ b) : Kp S w w' := by
 cases hb : v.ownBlock with
 | none =>
  rw [hb] at g
  exact h.trans ((Kp.of_grown_none g).mono (by simp))
 | some b =>
  rw [hb] at g
  exact h.up (Kp.of_grown g) (by intro x hx; simp at hx; subst hx; exact .inr (hv x hb))
theorem tq_grown {W w' : World} {tb n B : Nat} {v : Value} (h : Tq W tb n) (hB : tb < B) (g : W.grownBy w' v.ownBlock) (hv : ∀ b, v.ownBlock = some b → B ≤ b) : Tq w' tb n := by
 obtain ⟨k, hk1, h⟩ := h
 refine ⟨k, hk1, h.keep fun b hb => ?_⟩
 exact g.block b (Nat.lt_of_le_of_lt hb h.lt) fun e => by have := hv b e.symm; omega
theorem RT.Row.all {α : Type} {r : RT α} {w : World} {b : Nat} : ∀ {l : List α} {o : Nat}, r.Row w b o l → ∀ (j : Nat) u, (r.cells l)[j]? = some u → w.cell? ⟨b, o + j, none⟩ = some u
 | [], o, _, j, u, hj => by simp [RT.cells] at hj
 | x :: l, o, h, j, u, hj => by
  rw [RT.cells_cons] at hj
  by_cases hl : j < r.sz
  ·rw [List.getElem?_append_left (by rw [r.len]; exact hl)] at hj
   have := h 0 x rfl j u hj
   simpa using this
  ·rw [List.getElem?_append_right (by rw [r.len]; omega), r.len] at hj
   have h2 : r.Row w b (o + r.sz) l := fun q y hy m v hv => by
    have := h (q + 1) y (by simpa using hy) m v hv
    rw [Nat.add_mul, Nat.one_mul] at this
    rw [show o + r.sz + q * r.sz + m = o + (q * r.sz + r.sz) + m by omega]
    exact this
   have := RT.Row.all h2 (j - r.sz) u hj
   rwa [show o + r.sz + (j - r.sz) = o + j by omega] at this
theorem wpList_append_rs {α : Type} {r : RT α} {ops : Array Oper} {rest : List Oper} {o : Oper} {a : Act} {w : World} {Q : Exit → Act → World → Prop} (hg : o.guard = none) (s y : Operand)
  (hop : o.op = Op.call { callee := Callee.builtin Builtin.append, args := #[s, y], argTypes := #[r.sl, r.sl] }) (base : Nat)
  (v : Value) (xs ys : List α) (hs : a.eval s = v) (hown : r.Own w base v xs) (b p c : Nat) (hx : a.eval y = .slice (some ⟨b, p, none⟩) ys.length c) (hrow : r.Row w b p ys) (hb1 : xs.length + ys.length ≤ 1000000) (hb : base ≤ w.heap.size)
  (hK : ∀ v' w', r.Own w' base v' (xs ++ ys) → w.grownBy w' v.ownBlock → wpList Tryz.prog ops Q rest (a.put o.dst v') w') : wpList Tryz.prog ops Q (o :: rest) a w := by
 refine wpList_plain hg fun K hK' => ?_
 obtain ⟨i0, hi0, hz0, hz1, hz2⟩ := info_parts r.info
 obtain ⟨v', w', h1, h2, h3, _⟩ := run_append_own (P := Tryz.prog) w base r.sl o.type r.ty i0 _ r.sz r.bt r.und hi0 hz0 hz1 hz2 r.zs r.pos v xs.length (r.cells xs) hown ⟨b, p, none⟩ ys.length c (r.cells ys)
  (r.cells_len ys) (fun j u hj => by
   rw [show (⟨b, p, none⟩ : Addr).add j = ⟨b, p + j, none⟩ from add_addr b p j]
   exact hrow.all j u hj) (r.cells_one ys) (by unfold maxLen; omega) (by
   have := r.btl
   have : (xs.length + ys.length) * r.bt ≤ 1000000 * 64 := Nat.mul_le_mul (by omega) this
   omega) hb
 unfold Oper.wp
 simp [execOp, hop, resolve, invoke, builtin, hs, hx, h1, Result.andThen]
 refine hK' _ _ (hK v' w' ?_ h3)
 unfold RT.Own
 rw [List.length_append, RT.cells_append]
 exact h2
theorem cntK_good : ∀ {l : List Tm}, (∀ x ∈ l, GoodT x) → cntK l 23 = 0 ∧ cntK l 24 = 0
 | [], _ => ⟨rfl, rfl⟩
 | x :: l, h => by
  obtain ⟨h1, h2⟩ := cntK_good (l := l) fun y hy => h y (by simp [hy])
  have h3 := (h x (by simp)).2
  have h4 : ¬ x.key = 23 := by omega
  have h5 : ¬ x.key = 24 := by omega
  unfold cntK at h1 h2 ⊢
  simp [h4, h5, h1, h2]
end Go.Proofs.YtkkibibecgcbmaaGreatDoor
namespace Go.Proofs.YtkkibibecgcbmaaGreatDoor
open Go.RowKit
theorem nextQ2 {w : World} {tb n : Nat} (hn : n ≤ 900000) (h : Tq w tb n) : Calls Tryz.prog 35 #[.pointer (some ⟨tb, 0, none⟩), .int .i64 2] w fun e w' => ∃ r : Nat, r < 2 ∧ e = .returned (.int .i64 r) ∧ Tq w' tb (n + 1) ∧ Kp [tb] w w' := by
 obtain ⟨k, hk, h⟩ := h
 exact (nextL2 (by omega) h).mono fun _ _ ⟨r, h1, h2, h3, h4⟩ => ⟨r, h1, h2, ⟨_, by omega, h3⟩, h4⟩
theorem nextQ8 {w : World} {tb n : Nat} (hn : n ≤ 900000) (h : Tq w tb n) : Calls Tryz.prog 35 #[.pointer (some ⟨tb, 0, none⟩), .int .i64 8] w fun e w' => ∃ r : Nat, r < 8 ∧ e = .returned (.int .i64 r) ∧ Tq w' tb (n + 1) ∧ Kp [tb] w w' := by
 obtain ⟨k, hk, h⟩ := h
 exact (nextL8 (by omega) h).mono fun _ _ ⟨r, h1, h2, h3, h4⟩ => ⟨r, h1, h2, ⟨_, by omega, h3⟩, h4⟩
theorem nextQ3 {w : World} {tb n : Nat} (hn : n ≤ 900000) (h : Tq w tb n) : Calls Tryz.prog 35 #[.pointer (some ⟨tb, 0, none⟩), .int .i64 3] w fun e w' => ∃ r : Nat, r < 3 ∧ e = .returned (.int .i64 r) ∧ Tq w' tb (n + 1) ∧ Kp [tb] w w' := by
 obtain ⟨k, hk, h⟩ := h
 exact (nextL3 (by omega) h).mono fun _ _ ⟨r, h1, h2, h3, h4⟩ => ⟨r, h1, h2, ⟨_, by omega, h3⟩, h4⟩
theorem matchesQ {w : World} {tb n : Nat} (hn : n ≤ 900000) (h : Tq w tb n) : Calls Tryz.prog 58 #[.pointer (some ⟨tb, 0, none⟩)] w fun e w' => ∃ t : Tm, e = .returned (.agg #[.int .i64 t.key, .string (bs t.name), .int .i64 t.op, .string (bs t.val)]) ∧ GoodT t ∧ Tq w' tb (n + 10) ∧ Kp [tb] w w' := by
 obtain ⟨k, hk, h⟩ := h
 exact (matches_any (by omega) h).mono fun _ _ ⟨t, h1, h2, ⟨k', h3, h4⟩, h5⟩ => ⟨t, h1, h2, ⟨k', by omega, h4⟩, h5⟩
theorem assignsQ {w : World} {tb n : Nat} (hn : n ≤ 900000) (h : Tq w tb n) : Calls Tryz.prog 37 #[.pointer (some ⟨tb, 0, none⟩)] w fun e w' => ∃ t : Tm, e = .returned (.agg #[.int .i64 t.key, .string (bs t.name), .int .i64 t.op, .string (bs t.val)]) ∧ GoodT t ∧ Tq w' tb (n + 10) ∧ Kp [tb] w w' := by
 obtain ⟨k, hk, h⟩ := h
 exact (assigns_any (by omega) h).mono fun _ _ ⟨t, h1, h2, ⟨k', h3, h4⟩, h5⟩ => ⟨t, h1, h2, ⟨k', by omega, h4⟩, h5⟩
theorem jumpQ {w : World} {tb n : Nat} (hn : n ≤ 900000) (h : Tq w tb n) (m : Nat) (hm : w.heap.size = m) : Calls Tryz.prog 36 #[.pointer (some ⟨tb, 0, none⟩), .slice (some ⟨m, 0, none⟩) 2 2] (w.alloc (.cells #[.string ⟨#[101, 110, 100]⟩, .string ⟨#[109, 105, 100]⟩] 9)) fun e w' => ∃ x : List UInt8, x.length ≤ 300 ∧ e = .returned (.string (bs x)) ∧ Tq w' tb (n + 1) ∧ Kp [tb] w w' := by
 obtain ⟨k, hk, h⟩ := h
 exact (oneM29 (by omega) h m hm).mono fun _ _ ⟨r, h1, h2, h3, h4⟩ => ⟨r, h1, h2, ⟨_, by omega, h3⟩, h4⟩
def TermsOk (l : List Tm) : Prop := l ≠ [] ∧ l.length ≤ 6 ∧ (∀ x ∈ l, SmT x ∧ 1 ≤ x.key ∧ x.key ≤ 24) ∧ cntK l 23 + cntK l 24 ≤ 1
theorem termsOk_good {l : List Tm} (h0 : l ≠ []) (h1 : l.length ≤ 6) (h : ∀ x ∈ l, GoodT x) : TermsOk l := by
 obtain ⟨c1, c2⟩ := cntK_good h
 exact ⟨h0, h1, fun x hx => ⟨(h x hx).1, (h x hx).2.1, by have := (h x hx).2.2; omega⟩, by omega⟩
theorem termsOk_jump {l : List Tm} {K : Int} {xb : List UInt8} (h1 : l.length ≤ 5) (h : ∀ x ∈ l, GoodT x) (hK : K = 23 ∨ K = 24) (hx : xb.length ≤ 300) : TermsOk (l ++ [⟨K, [], 3, xb⟩]) := by
 obtain ⟨c1, c2⟩ := cntK_good h
 refine ⟨by simp, by simp; omega, fun x hx' => ?_, ?_⟩
 ·rcases List.mem_append.1 hx' with hx' | hx'
  ·exact ⟨(h x hx').1, (h x hx').2.1, by have := (h x hx').2.2; omega⟩
  ·simp only [List.mem_singleton] at hx'
   subst hx'
   exact ⟨⟨Nat.zero_le _, by show xb.length ≤ _; omega⟩, by show 1 ≤ K; omega, by show K ≤ 24; omega⟩
 ·rw [cntK_snoc, cntK_snoc, c1, c2]
  rcases hK with rfl | rfl <;> simp
theorem own_single {W : World} {B : Nat} (x : Tm) (hB : B ≤ W.heap.size) (c : Nat) (hc : c = 1) : tmT.Own (W.alloc (.cells (tmC x) 31)) B (.slice (some ⟨W.heap.size, 0, none⟩) 1 c) [x] := by
 subst hc
 exact ⟨rfl, .inr ⟨_, 1, tmC x, rfl, hB, heap_alloc_last _ _, Nat.le_refl _, by unfold maxLen; omega, rfl, rfl⟩⟩
theorem own_row {W : World} {B g n c : Nat} {l : List Tm} (h : tmT.Own W B (.slice (some ⟨g, 0, none⟩) n c) l) : tmT.Row W g 0 l := by
 rcases h.form2 with ⟨hv, _⟩ | ⟨g', cap, hv, _, _, _, _, hr⟩
 ·cases hv
 ·cases hv
  exact hr
theorem terms_any {w : World} {tb n : Nat} (hn : n ≤ 800000) (htb : tb < w.heap.size) (h : Tq w tb n) : Calls Tryz.prog 34 #[.pointer (some ⟨tb, 0, none⟩)] w fun e w' => ∃ v l, e = .returned v ∧ tmT.Own w' w.heap.size v l ∧ TermsOk l ∧ Tq w' tb (n + 80) ∧ Kp [tb] w w' := by
 have HTB := qH htb
 have HQ0 := qH h
 have HK0 := qH (Kp.refl [tb] w)
 clear htb h
 go_enter Tryz.func34, Tryz.ntmps34
 go_wp2_with (go_at_call 35; refine cM (by with_reducible exact nextQ3 (by omega) HQ0.out) ?_; rintro e w2 ⟨r, hr, rfl, htq, hkp⟩; have HQ := qH htq; have HK := qH hkp; clear htq hkp)
 go_loopg [3, 4] r (fun g s3 s4 wx => ∃ (v : Value) (l : List Tm), v = s3 ∧ s4 = .int .i64 (g : Int) ∧ tmT.Own wx w.heap.size v l ∧ l.length + g = r ∧ (∀ x ∈ l, GoodT x) ∧ Tq wx tb (n + 1 + 10 * l.length) ∧ Kp [tb] w wx)
 case atStart => exact ⟨_, [], rfl, rfl, RT.Own.nil _ _ _, by simp, (fun x hx => by cases hx), HQ.out, HK.out⟩
 case round =>
  obtain ⟨v, l, rfl, rfl, hov, hlr, hgl, htq, hkp⟩ := hrel
  have HK := qH hkp
  have HO := qH hov
  have HGL := qH hgl
  clear hkp hov hgl
  by_cases hg0 : gk = 0
  ·subst hg0
   have HQ := qH htq
   clear htq
   go_wp2_with (go_at_call 35; refine cM (by with_reducible exact nextQ2 (by omega) HQ.out) ?_; rintro e w2 ⟨r2, hr2, rfl, htq, hkp⟩; have HQ := qH htq; have HKb := qH (HK.out.trans hkp); have HOb := qH (own_tb HO.out HTB.out hkp); clear htq hkp; have hw1 : IntKind.i64.wrap ((1 : Int) + r2) = ((1 + r2 : Nat) : Int) := (by rw [IntKind.wrap_i64]; omega))
   go_loopg [3, 5] (1 + r2) (fun g s3 s5 wx => ∃ (v : Value) (l : List Tm), v = s3 ∧ s5 = .int .i64 (g : Int) ∧ tmT.Own wx w.heap.size v l ∧ l.length + g = r + (1 + r2) ∧ (∀ x ∈ l, GoodT x) ∧ Tq wx tb (n + 2 + 10 * l.length) ∧ Kp [tb] w wx)
   case atStart => exact ⟨_, l, rfl, by first | rfl | (congr 1; omega), HOb.out, by omega, HGL.out, by have := HQ.out; exact ⟨this.choose, by have := this.choose_spec.1; omega, this.choose_spec.2⟩, HKb.out⟩
   case round =>
    clear HK HO HGL HQ HKb HOb
    rename_i l0 _ _
    obtain ⟨v, l, rfl, rfl, hov, hlr2, hgl, htq, hkp⟩ := hrel
    have HK := qH hkp
    have HO := qH hov
    have HGL := qH hgl
    have HQ := qH htq
    clear hkp hov hgl htq
    by_cases hg1 : gk = 0
    ·subst hg1
     have HL0 := qH (show l ≠ [] by intro hl; rw [hl] at hlr2; simp at hlr2; omega)
     obtain ⟨vg, vcap, rfl⟩ : ∃ g c, v = .slice (some ⟨g, 0, none⟩) l.length c := by
      rcases HO.out.form2 with ⟨_, hn⟩ | ⟨g', cap, hv, _⟩
      ·exact absurd hn HL0.out
      ·exact ⟨g', cap, hv⟩
     have hll : l.length ≤ 4 := by omega
     have HXS := qH (show l.length ≤ 1000000 by omega)
     have HLL := qH hll
     clear hll
     go_upto_region 11 with (go_at_call 35; refine cM (by with_reducible exact nextQ8 (by have := HLL.out; omega) HQ.out) ?_; rintro e w2 ⟨q, hq, rfl, htq, hkp⟩; have HQ := qH htq; have HK := qH (HK.out.trans hkp); have HO := qH (own_tb HO.out HTB.out hkp); clear htq hkp)
     by_cases q0 : q = 0
     ·subst q0
      go_wp2_with (first
       | (go_at_call 36; refine cM (by with_reducible exact jumpQ (by have := HLL.out; omega) HQ.out _ rfl) ?_; rintro e w5 ⟨xb, hxb, rfl, htq, hkp⟩; have HXB := qH hxb; have HQ5 := qH htq; have HK5 := qH (HK.out.trans hkp); have HO5 := qH (own_tb HO.out HTB.out hkp); clear hxb htq hkp; obtain ⟨Nb, hNb⟩ : ∃ Nb, w5.heap.size = Nb := ⟨_, rfl⟩; obtain ⟨w7, hw7⟩ : ∃ w7, w5.alloc (.cells #[.int .i64 23, .string ⟨#[]⟩, .int .i64 3, .string (bs xb)] 31) = w7 := ⟨_, rfl⟩; have H7 := qH (tm_pushS (x := ⟨23, [], 3, xb⟩) HO5.out hNb hw7); have HK7 := qH (HK5.out.upT H7.out.1); have HQ7 := qH (HQ5.out.kp0 H7.out.1))
       | (at_builtin; refine wpList_append_r (r := tmT) rfl (.tmp 33) (.tmp 38) rfl w.heap.size (.slice (some ⟨vg, 0, none⟩) l.length vcap) l rfl H7.out.2.1 Nb 1 ⟨23, [], 3, xb⟩ rfl H7.out.2.2 HXS.out HK7.out.size ?_; intro v8 w8 hown8 hgr8; have HO8 := qH hown8; have HK8 := qH (kp_grownS HK7.out hgr8 fun b hb => (H7.out.2.1.ge b hb).1); have HQ8 := qH (tq_grown HQ7.out HTB.out hgr8 fun b hb => (H7.out.2.1.ge b hb).1); clear hown8 hgr8))
      go_ret
      exact ⟨_, _, rfl, HO8.out, termsOk_jump (by have := HLL.out; omega) HGL.out (.inl rfl) HXB.out, ⟨HQ8.out.choose, by have := HQ8.out.choose_spec.1; have := HLL.out; omega, HQ8.out.choose_spec.2⟩, HK8.out⟩
     by_cases q1 : q = 1
     ·subst q1
      go_wp2_with (first
       | (go_at_call 36; refine cM (by with_reducible exact jumpQ (by have := HLL.out; omega) HQ.out _ rfl) ?_; rintro e w5 ⟨xb, hxb, rfl, htq, hkp⟩; have HXB := qH hxb; have HQ5 := qH htq; have HK5 := qH (HK.out.trans hkp); have HO5 := qH (own_tb HO.out HTB.out hkp); clear hxb htq hkp; obtain ⟨Nb, hNb⟩ : ∃ Nb, w5.heap.size = Nb := ⟨_, rfl⟩; obtain ⟨w7, hw7⟩ : ∃ w7, w5.alloc (.cells #[.int .i64 24, .string ⟨#[]⟩, .int .i64 3, .string (bs xb)] 31) = w7 := ⟨_, rfl⟩; have H7 := qH (tm_pushS (x := ⟨24, [], 3, xb⟩) HO5.out hNb hw7); have HK7 := qH (HK5.out.upT H7.out.1); have HQ7 := qH (HQ5.out.kp0 H7.out.1))
       | (at_builtin; refine wpList_append_r (r := tmT) rfl (.tmp 42) (.tmp 47) rfl w.heap.size (.slice (some ⟨vg, 0, none⟩) l.length vcap) l rfl H7.out.2.1 Nb 1 ⟨24, [], 3, xb⟩ rfl H7.out.2.2 HXS.out HK7.out.size ?_; intro v8 w8 hown8 hgr8; have HO8 := qH hown8; have HK8 := qH (kp_grownS HK7.out hgr8 fun b hb => (H7.out.2.1.ge b hb).1); have HQ8 := qH (tq_grown HQ7.out HTB.out hgr8 fun b hb => (H7.out.2.1.ge b hb).1); clear hown8 hgr8))
      go_ret
      exact ⟨_, _, rfl, HO8.out, termsOk_jump (by have := HLL.out; omega) HGL.out (.inr rfl) HXB.out, ⟨HQ8.out.choose, by have := HQ8.out.choose_spec.1; have := HLL.out; omega, HQ8.out.choose_spec.2⟩, HK8.out⟩
     by_cases q2 : q = 2
     ·subst q2
      go_wp2_with (first
       | (go_at_call 37; refine cM (by with_reducible exact assignsQ (by have := HLL.out; omega) HQ.out) ?_; rintro e w5 ⟨t, rfl, hgt, htq, hkp⟩; have HG := qH hgt; have HQ5 := qH htq; have HK5 := qH (HK.out.trans hkp); have HO5 := qH (own_tb HO.out HTB.out hkp); clear hgt htq hkp; obtain ⟨Nb, hNb⟩ : ∃ Nb, w5.heap.size = Nb := ⟨_, rfl⟩; obtain ⟨w7, hw7⟩ : ∃ w7, w5.alloc (.cells #[.int .i64 t.key, .string (bs t.name), .int .i64 t.op, .string (bs t.val)] 31) = w7 := ⟨_, rfl⟩; have H7 := qH (tm_pushS (x := t) HO5.out hNb hw7); have HK7 := qH (HK5.out.upT H7.out.1); have HQ7 := qH (HQ5.out.kp0 H7.out.1); have HS7 := qH (show tmT.Own w7 w.heap.size (.slice (some ⟨Nb, 0, none⟩) 1 1) [t] by have := own_single (W := w5) t HK5.out.size 1 rfl; rw [hNb] at this; unfold tmC at this; rw [hw7] at this; exact this))
       | (at_builtin; refine wpList_append_rs (r := tmT) rfl (.tmp 53) (.tmp 54) rfl w.heap.size (.slice (some ⟨Nb, 0, none⟩) 1 1) [t] l rfl HS7.out vg 0 vcap rfl (own_row H7.out.2.1) (by have := HLL.out; simp only [List.length_singleton]; omega) HK7.out.size ?_; intro v8 w8 hown8 hgr8; have HO8 := qH hown8; have HK8 := qH (kp_grownS HK7.out hgr8 fun b hb => (HS7.out.ge b hb).1); have HQ8 := qH (tq_grown HQ7.out HTB.out hgr8 fun b hb => (HS7.out.ge b hb).1); clear hown8 hgr8))
      go_ret
      exact ⟨_, _, rfl, HO8.out, termsOk_good (by simp) (by have := HLL.out; simp; omega) (fun x hx => by rcases List.mem_append.1 hx with hx | hx; simp only [List.mem_singleton] at hx; rw [hx]; exact HG.out; exact HGL.out x hx), ⟨HQ8.out.choose, by have := HQ8.out.choose_spec.1; have := HLL.out; omega, HQ8.out.choose_spec.2⟩, HK8.out⟩
     ·have z0 : ¬ (q : Int) = 0 := by omega
      have z1 : ¬ (q : Int) = 1 := by omega
      have z2 : ¬ (q : Int) = 2 := by omega
      clear q0 q1 q2
      go_wp2
      go_ret
      exact ⟨_, _, rfl, HO.out, termsOk_good HL0.out (by have := HLL.out; omega) HGL.out, ⟨HQ.out.choose, by have := HQ.out.choose_spec.1; have := HLL.out; omega, HQ.out.choose_spec.2⟩, HK.out⟩
    ·obtain ⟨g, rfl⟩ : ∃ g, gk = g + 1 := ⟨gk - 1, by omega⟩
     have hgz : (0 : Int) < ((g + 1 : Nat) : Int) := by omega
     have hws : IntKind.i64.wrap (((g + 1 : Nat) : Int) - 1) = (g : Int) := by rw [IntKind.wrap_i64]; omega
     have HXS := qH (show l.length ≤ 1000000 by omega)
     go_wp2_with (first
      | (go_at_call 37; refine cM (by with_reducible exact assignsQ (by omega) HQ.out) ?_; rintro e w5 ⟨t, rfl, hgt, htq, hkp⟩; have HG := qH hgt; have HQ5 := qH htq; have HK5 := qH (HK.out.trans hkp); have HO5 := qH (own_tb HO.out HTB.out hkp); clear hgt htq hkp; obtain ⟨Nb, hNb⟩ : ∃ Nb, w5.heap.size = Nb := ⟨_, rfl⟩; obtain ⟨w7, hw7⟩ : ∃ w7, w5.alloc (.cells #[.int .i64 t.key, .string (bs t.name), .int .i64 t.op, .string (bs t.val)] 31) = w7 := ⟨_, rfl⟩; have H7 := qH (tm_pushS (x := t) HO5.out hNb hw7); have HK7 := qH (HK5.out.upT H7.out.1); have HQ7 := qH (HQ5.out.kp0 H7.out.1))
      | (at_builtin; refine wpList_append_r (r := tmT) rfl (.tmp 24) (.tmp 27) rfl w.heap.size v l rfl H7.out.2.1 Nb 1 t rfl H7.out.2.2 HXS.out HK7.out.size ?_; intro v8 w8 hown8 hgr8; have HO8 := qH hown8; have HK8 := qH (kp_grownS HK7.out hgr8 fun b hb => (H7.out.2.1.ge b hb).1); have HQ8 := qH (tq_grown HQ7.out HTB.out hgr8 fun b hb => (H7.out.2.1.ge b hb).1); clear hown8 hgr8))
     go_roundg g
     case measure => omega
     case rel => exact ⟨v8, l ++ [t], rfl, by first | rfl | (congr 1; omega), HO8.out, by rw [List.length_append, List.length_singleton]; omega, (fun x hx => by rcases List.mem_append.1 hx with hx | hx; exact HGL.out x hx; simp only [List.mem_singleton] at hx; rw [hx]; exact HG.out), by rw [List.length_append, List.length_singleton]; exact ⟨HQ8.out.choose, by have := HQ8.out.choose_spec.1; omega, HQ8.out.choose_spec.2⟩, HK8.out⟩
  ·obtain ⟨g, rfl⟩ : ∃ g, gk = g + 1 := ⟨gk - 1, by omega⟩
   have HQ := qH htq
   have hgz : (0 : Int) < ((g + 1 : Nat) : Int) := by omega
   have hws : IntKind.i64.wrap (((g + 1 : Nat) : Int) - 1) = (g : Int) := by rw [IntKind.wrap_i64]; omega
   have HXS := qH (show l.length ≤ 1000000 by omega)
   clear htq
   go_wp2_with (first
    | (go_at_call 58; refine cM (by with_reducible exact matchesQ (by omega) HQ.out) ?_; rintro e w5 ⟨t, rfl, hgt, htq, hkp⟩; have HG := qH hgt; have HQ5 := qH htq; have HK5 := qH (HK.out.trans hkp); have HO5 := qH (own_tb HO.out HTB.out hkp); clear hgt htq hkp; obtain ⟨Nb, hNb⟩ : ∃ Nb, w5.heap.size = Nb := ⟨_, rfl⟩; obtain ⟨w7, hw7⟩ : ∃ w7, w5.alloc (.cells #[.int .i64 t.key, .string (bs t.name), .int .i64 t.op, .string (bs t.val)] 31) = w7 := ⟨_, rfl⟩; have H7 := qH (tm_pushS (x := t) HO5.out hNb hw7); have HK7 := qH (HK5.out.upT H7.out.1); have HQ7 := qH (HQ5.out.kp0 H7.out.1))
    | (at_builtin; refine wpList_append_r (r := tmT) rfl (.tmp 12) (.tmp 15) rfl w.heap.size v l rfl H7.out.2.1 Nb 1 t rfl H7.out.2.2 HXS.out HK7.out.size ?_; intro v8 w8 hown8 hgr8; have HO8 := qH hown8; have HK8 := qH (kp_grownS HK7.out hgr8 fun b hb => (H7.out.2.1.ge b hb).1); have HQ8 := qH (tq_grown HQ7.out HTB.out hgr8 fun b hb => (H7.out.2.1.ge b hb).1); clear hown8 hgr8))
   go_roundg g
   case measure => omega
   case rel => exact ⟨v8, l ++ [t], rfl, by first | rfl | (congr 1; omega), HO8.out, by rw [List.length_append, List.length_singleton]; omega, (fun x hx => by rcases List.mem_append.1 hx with hx | hx; exact HGL.out x hx; simp only [List.mem_singleton] at hx; rw [hx]; exact HG.out), by rw [List.length_append, List.length_singleton]; exact ⟨HQ8.out.choose, by have := HQ8.out.choose_spec.1; omega, HQ8.out.choose_spec.2⟩, HK8.out⟩
end Go.Proofs.YtkkibibecgcbmaaGreatDoor
namespace Go.Proofs.YtkkibibecgcbmaaGreatDoor
open Go.RowKit
theorem RT.cells_set {α : Type} {r : RT α} {m : Nat} {u : Value} {x x' : α} (hm : m < r.sz) (hx' : r.cf x' = (r.cf x).set m u) : ∀ {l : List α} {k : Nat}, l[k]? = some x → r.cells (l.set k x') = (r.cells l).set (k * r.sz + m) u
 | [], k, h => by simp at h
 | y :: l, 0, h => by
  simp only [List.getElem?_cons_zero, Option.some.injEq] at h
  subst h
  rw [List.set_cons_zero, RT.cells_cons, RT.cells_cons, hx', Nat.zero_mul, Nat.zero_add, List.set_append_left _ _ (by rw [r.len]; exact hm)]
 | y :: l, k + 1, h => by
  rw [List.set_cons_succ, RT.cells_cons, RT.cells_cons, RT.cells_set hm hx' (l := l) (k := k) (by simpa using h), List.set_append_right _ _ (by rw [r.len, Nat.add_mul, Nat.one_mul]; omega), r.len]
  congr 2
  rw [Nat.add_mul, Nat.one_mul]
  omega
theorem RT.Own.setc {α : Type} {r : RT α} {W : World} {B g n c k : Nat} {l : List α} {x : α} (h : r.Own W B (.slice (some ⟨g, 0, none⟩) n c) l) (hx : l[k]? = some x) {m : Nat} (hm : m < r.sz) {u : Value} {x' : α} (hx' : r.cf x' = (r.cf x).set m u) {p : Addr} (hp : p = ⟨g, k * r.sz + m, none⟩) : r.Own (W.setCell p u) B (.slice (some ⟨g, 0, none⟩) n c) (l.set k x') := by
 subst hp
 obtain ⟨h1, h2⟩ := h
 refine ⟨by rw [RT.cells_len, List.length_set], ?_⟩
 rcases h2 with ⟨hv, _⟩ | ⟨g', cap, cur, hv, hB, hh, hle, hmx, hsz, htk⟩
 ·cases hv
 ·cases hv
  refine .inr ⟨g, c, cur.setIfInBounds (k * r.sz + m) u, by rw [List.length_set], hB, by simp [World.setCell, Array.getElem?_modify, hh], by rw [List.length_set]; exact hle, hmx, by rw [Array.size_setIfInBounds]; exact hsz, ?_⟩
  rw [List.length_set, RT.cells_set hm hx' hx, ← htk, Array.toList_setIfInBounds, List.take_set]
theorem own_frz {W : World} {B g n c o : Nat} {l : List Tm} (h : tmT.Own W B (.slice (some ⟨g, 0, none⟩) n c) l) : W.frozen? ⟨g, o, none⟩ = false := by
 rcases h.2 with ⟨hv, _⟩ | ⟨g', cap, cur, hv, hB, hh, _⟩
 ·cases hv
 ·cases hv
  simp [World.frozen?, hh]
theorem sm_set {l : List Tm} {k : Nat} {x x' : Tm} (h : ∀ y ∈ l, SmT y) (_hx : l[k]? = some x) (h' : SmT x') : ∀ y ∈ l.set k x', SmT y := fun y hy => by
 rcases List.mem_or_eq_of_mem_set hy with hy | rfl
 ·exact h y hy
 ·exact h'
theorem tp_set {w : World} {tb k g o : Nat} {u : Value} (h : Tp w tb k) (hg : tb < g) : Tp (w.setCell ⟨g, o, none⟩ u) tb k := h.keep fun b hb => Below.heap_setCell _ _ _ _ (by simp only; omega)
theorem two_new {W w7 : World} {B Nb : Nat} {v : Value} {l : List Tm} {a b : Tm} (ho : tmT.Own W B v l) (hN : W.heap.size = Nb) (hW : W.alloc (.cells (tmC a ++ tmC b) 31) = w7) : tmT.Own w7 B v l ∧ tmT.Row w7 Nb 0 [a, b] ∧ Kp [] W w7 := by
 have hk1 : Kp [] W w7 := by rw [← hW]; exact (Kp.refl [] _).alloc _
 refine ⟨ho.kp0 hk1, ?_, hk1⟩
 have h := heap_alloc_last W (.cells (tmC a ++ tmC b) 31)
 rw [hW, hN] at h
 exact tmT.row_of (cur := (tmC a ++ tmC b).toList) (by rw [Array.toArray_toList]; exact h) rfl
theorem nextQn {w : World} {tb n : Nat} (m : Nat) (h1 : 1 ≤ m) (h2 : m ≤ 1000000) (hn : n ≤ 900000) (h : Tq w tb n) : Calls Tryz.prog 35 #[.pointer (some ⟨tb, 0, none⟩), .int .i64 (m : Int)] w fun e w' => ∃ r : Nat, r < m ∧ e = .returned (.int .i64 r) ∧ Tq w' tb (n + 1) ∧ Kp [tb] w w' := by
 obtain ⟨k, hk, h⟩ := h
 exact (next_kp m h1 h2 (by omega) h).mono fun _ _ ⟨r, h1, h2, h3, h4⟩ => ⟨r, h1, h2, ⟨_, by omega, h3⟩, h4⟩
theorem nextQ9 {w : World} {tb n : Nat} (hn : n ≤ 900000) (h : Tq w tb n) : Calls Tryz.prog 35 #[.pointer (some ⟨tb, 0, none⟩), .int .i64 9] w fun e w' => ∃ r : Nat, r < 9 ∧ e = .returned (.int .i64 r) ∧ Tq w' tb (n + 1) ∧ Kp [tb] w w' := nextQn 9 (by decide) (by decide) hn h
theorem nextQ12 {w : World} {tb n : Nat} (hn : n ≤ 900000) (h : Tq w tb n) : Calls Tryz.prog 35 #[.pointer (some ⟨tb, 0, none⟩), .int .i64 12] w fun e w' => ∃ r : Nat, r < 12 ∧ e = .returned (.int .i64 r) ∧ Tq w' tb (n + 1) ∧ Kp [tb] w w' := nextQn 12 (by decide) (by decide) hn h
theorem nextQ28 {w : World} {tb n : Nat} (hn : n ≤ 900000) (h : Tq w tb n) : Calls Tryz.prog 35 #[.pointer (some ⟨tb, 0, none⟩), .int .i64 28] w fun e w' => ∃ r : Nat, r < 28 ∧ e = .returned (.int .i64 r) ∧ Tq w' tb (n + 1) ∧ Kp [tb] w w' := nextQn 28 (by decide) (by decide) hn h
theorem oneQ30 {w : World} {tb n : Nat} (hn : n ≤ 900000) (h : Tq w tb n) (m : Nat) (hm : w.heap.size = m) : Calls Tryz.prog 36 #[.pointer (some ⟨tb, 0, none⟩), .slice (some ⟨m, 0, none⟩) 7 7] (w.alloc (.cells #[.string ⟨#[]⟩, .string ⟨#[97, 32, 98]⟩, .string ⟨#[105, 100]⟩, .string ⟨#[73, 68]⟩, .string ⟨#[112, 114, 111, 103, 114, 97, 109]⟩, .string ⟨#[112, 97, 114, 101, 110, 116]⟩, .string ⟨#[98, 117, 105, 108, 116, 105, 110]⟩] 9)) fun e w' => ∃ x : List UInt8, x.length ≤ 300 ∧ e = .returned (.string (bs x)) ∧ Tq w' tb (n + 1) ∧ Kp [tb] w w' := by
 obtain ⟨k, hk, h⟩ := h
 exact (oneM30 (by omega) h m hm).mono fun _ _ ⟨r, h1, h2, h3, h4⟩ => ⟨r, h1, h2, ⟨_, by omega, h3⟩, h4⟩
theorem oneQ31 {w : World} {tb n : Nat} (hn : n ≤ 900000) (h : Tq w tb n) (m : Nat) (hm : w.heap.size = m) : Calls Tryz.prog 36 #[.pointer (some ⟨tb, 0, none⟩), .slice (some ⟨m, 0, none⟩) 8 8] (w.alloc (.cells #[.string ⟨#[91]⟩, .string ⟨#[36, 120]⟩, .string ⟨#[]⟩, .string ⟨#[45, 49, 48, 48, 49]⟩, .string ⟨#[49, 48, 48, 48]⟩, .string ⟨#[112, 97, 116, 104]⟩, .string ⟨#[37, 107]⟩, .string ⟨#[97, 32, 98]⟩] 9)) fun e w' => ∃ x : List UInt8, x.length ≤ 300 ∧ e = .returned (.string (bs x)) ∧ Tq w' tb (n + 1) ∧ Kp [tb] w w' := by
 obtain ⟨k, hk, h⟩ := h
 exact (oneM31 (by omega) h m hm).mono fun _ _ ⟨r, h1, h2, h3, h4⟩ => ⟨r, h1, h2, ⟨_, by omega, h3⟩, h4⟩
theorem spoilt_any {w : World} {tb n : Nat} (hn : n ≤ 700000) (htb : tb < w.heap.size) (h : Tq w tb n) : Calls Tryz.prog 12 #[.pointer (some ⟨tb, 0, none⟩)] w fun e w' => ∃ v l, e = .returned v ∧ tmT.Own w' w.heap.size v l ∧ l.length ≤ 40 ∧ (∀ x ∈ l, SmT x) ∧ Tq w' tb (n + 600) ∧ Kp [tb] w w' := by
 have HTM := qH (terms_any (by omega) htb h)
 have HTB := qH htb
 clear htb h
 go_enter Tryz.func12, Tryz.ntmps12
 go_upto_region 2 with (go_at_call 34; refine cM (by with_reducible exact HTM.out) ?_; rintro e w2 ⟨v, l, rfl, hov, hok, htq, hkp⟩)
 obtain ⟨hl0, hl6, hlx, -⟩ := hok
 obtain ⟨g, cp, rfl⟩ : ∃ g c, v = .slice (some ⟨g, 0, none⟩) l.length c := by
  rcases hov.form2 with ⟨_, hn⟩ | ⟨g', cap, hv, _⟩
  ·exact absurd hn hl0
  ·exact ⟨g', cap, hv⟩
 have hg := (hov.ge g rfl).1
 have HTG := qH (show tb < g by have := HTB.out; omega)
 have HGW := qH (show w.heap.size ≤ g from hg)
 have HSM := qH (show ∀ x ∈ l, SmT x from fun x hx => (hlx x hx).1)
 have HQ := qH htq
 have HK := qH hkp
 have HO := qH hov
 have hlp : 1 ≤ l.length := List.length_pos_iff.2 hl0
 clear hlx hov htq hkp hg hl0
 go_upto_region 4 with (first
  | (go_at_call 35; refine cM (by with_reducible exact nextQn l.length hlp (by omega) (by omega) HQ.out) ?_; rintro e w3 ⟨kk, hkk, rfl, htq, hkp⟩; have HQ := qH htq; have HK := qH (HK.out.trans hkp); have HO := qH (own_tb HO.out HTB.out hkp); clear htq hkp)
  | (go_at_call 35; refine cM (by with_reducible exact nextQ12 (by omega) HQ.out) ?_; rintro e w4 ⟨q, hq, rfl, htq, hkp⟩; have HQ := qH htq; have HK := qH (HK.out.trans hkp); have HO := qH (own_tb HO.out HTB.out hkp); clear htq hkp))
 obtain ⟨x, hx⟩ : ∃ x, l[kk]? = some x := ⟨_, List.getElem?_eq_getElem hkk⟩
 have HX := qH hx
 have hkz : (kk : Int) < (l.length : Int) := by omega
 have hsx := HSM.out x (List.mem_of_getElem? hx)
 have HSX := qH hsx
 clear hx hsx
 have hc : q = 0 ∨ q = 1 ∨ q = 2 ∨ q = 3 ∨ q = 4 ∨ q = 5 ∨ q = 6 ∨ q = 7 ∨ q = 8 ∨ q = 9 ∨ q = 10 ∨ q = 11 := by omega
 clear hq
 rcases hc with rfl | rfl | rfl | rfl | rfl | rfl | rfl | rfl | rfl | rfl | rfl | rfl
 ·go_wp2_with (first
   | (go_at_call 35; refine cM (by with_reducible exact nextQ28 (by omega) HQ.out) ?_; rintro e w5 ⟨z, hz, rfl, htq, hkp⟩; have HQ := qH htq; have HK := qH (HK.out.trans hkp); have HO := qH (own_tb HO.out HTB.out hkp); clear htq hkp; obtain ⟨c0, c1, c2, c3⟩ := tmRow (own_row HO.out) HX.out; simp only [Nat.zero_add] at c0 c1 c2 c3; have fz := fun o => own_frz HO.out (o := o); have hwz : IntKind.i64.wrap ((z : Int) - 1) = (z : Int) - 1 := (by rw [IntKind.wrap_i64]; omega)))
  go_ret
  exact ⟨_, _, rfl, RT.Own.setc HO.out HX.out (m := 0) (by decide) (x' := ⟨(z : Int) - 1, x.name, x.op, x.val⟩) rfl rfl, by simp only [List.length_set]; omega, sm_set HSM.out HX.out HSX.out, ⟨HQ.out.choose, by have := HQ.out.choose_spec.1; omega, tp_set HQ.out.choose_spec.2 HTG.out⟩, HK.out.setCell (.inr HGW.out) _⟩
 ·go_wp2_with (first
   | (go_at_call 36; refine cM (by with_reducible exact oneQ30 (by omega) HQ.out _ rfl) ?_; rintro e w5 ⟨z, hz, rfl, htq, hkp⟩; have HQ := qH htq; have HK := qH (HK.out.trans hkp); have HO := qH (own_tb HO.out HTB.out hkp); clear htq hkp; obtain ⟨c0, c1, c2, c3⟩ := tmRow (own_row HO.out) HX.out; simp only [Nat.zero_add] at c0 c1 c2 c3; have fz := fun o => own_frz HO.out (o := o)))
  go_ret
  exact ⟨_, _, rfl, RT.Own.setc HO.out HX.out (m := 1) (by decide) (x' := ⟨x.key, z, x.op, x.val⟩) rfl rfl, by simp only [List.length_set]; omega, sm_set HSM.out HX.out ⟨by show z.length ≤ _; omega, HSX.out.2⟩, ⟨HQ.out.choose, by have := HQ.out.choose_spec.1; omega, tp_set HQ.out.choose_spec.2 HTG.out⟩, HK.out.setCell (.inr HGW.out) _⟩
 ·go_wp2_with (first
   | (go_at_call 35; refine cM (by with_reducible exact nextQ9 (by omega) HQ.out) ?_; rintro e w5 ⟨z, hz, rfl, htq, hkp⟩; have HQ := qH htq; have HK := qH (HK.out.trans hkp); have HO := qH (own_tb HO.out HTB.out hkp); clear htq hkp; obtain ⟨c0, c1, c2, c3⟩ := tmRow (own_row HO.out) HX.out; simp only [Nat.zero_add] at c0 c1 c2 c3; have fz := fun o => own_frz HO.out (o := o); have hwz : IntKind.i64.wrap ((z : Int) - 1) = (z : Int) - 1 := (by rw [IntKind.wrap_i64]; omega)))
  go_ret
  exact ⟨_, _, rfl, RT.Own.setc HO.out HX.out (m := 2) (by decide) (x' := ⟨x.key, x.name, (z : Int) - 1, x.val⟩) rfl rfl, by simp only [List.length_set]; omega, sm_set HSM.out HX.out HSX.out, ⟨HQ.out.choose, by have := HQ.out.choose_spec.1; omega, tp_set HQ.out.choose_spec.2 HTG.out⟩, HK.out.setCell (.inr HGW.out) _⟩
 ·go_wp2_with (first
   | (go_at_call 36; refine cM (by with_reducible exact oneQ31 (by omega) HQ.out _ rfl) ?_; rintro e w5 ⟨z, hz, rfl, htq, hkp⟩; have HQ := qH htq; have HK := qH (HK.out.trans hkp); have HO := qH (own_tb HO.out HTB.out hkp); clear htq hkp; obtain ⟨c0, c1, c2, c3⟩ := tmRow (own_row HO.out) HX.out; simp only [Nat.zero_add] at c0 c1 c2 c3; have fz := fun o => own_frz HO.out (o := o)))
  go_ret
  exact ⟨_, _, rfl, RT.Own.setc HO.out HX.out (m := 3) (by decide) (x' := ⟨x.key, x.name, x.op, z⟩) rfl rfl, by simp only [List.length_set]; omega, sm_set HSM.out HX.out ⟨HSX.out.1, by show z.length ≤ _; omega⟩, ⟨HQ.out.choose, by have := HQ.out.choose_spec.1; omega, tp_set HQ.out.choose_spec.2 HTG.out⟩, HK.out.setCell (.inr HGW.out) _⟩
 ·obtain ⟨Nb, hNb⟩ : ∃ Nb, w4.heap.size = Nb := ⟨_, rfl⟩
  obtain ⟨w7, hw7⟩ : ∃ w7, w4.alloc (.cells #[.int .i64 23, .string ⟨#[]⟩, .int .i64 3, .string ⟨#[97]⟩, .int .i64 24, .string ⟨#[]⟩, .int .i64 3, .string ⟨#[98]⟩] 31) = w7 := ⟨_, rfl⟩
  have H7 := qH (two_new (a := ⟨23, [], 3, [97]⟩) (b := ⟨24, [], 3, [98]⟩) HO.out hNb hw7)
  have HK7 := qH (HK.out.upT H7.out.2.2)
  have HQ7 := qH (HQ.out.kp0 H7.out.2.2)
  go_wp2_with (first
   | (at_builtin; refine wpList_append_rs (r := tmT) rfl (.tmp 51) (.tmp 54) rfl w.heap.size (.slice (some ⟨g, 0, none⟩) l.length cp) l [⟨23, [], 3, [97]⟩, ⟨24, [], 3, [98]⟩] rfl H7.out.1 Nb 0 2 rfl H7.out.2.1 (by simp only [List.length_cons, List.length_nil]; omega) HK7.out.size ?_; intro v8 w8 hown8 hgr8; have HO8 := qH hown8; have HK8 := qH (kp_grownS HK7.out hgr8 fun b hb => (H7.out.1.ge b hb).1); have HQ8 := qH (tq_grown HQ7.out HTB.out hgr8 fun b hb => (H7.out.1.ge b hb).1); clear hown8 hgr8))
  go_ret
  exact ⟨_, _, rfl, HO8.out, by simp only [List.length_append, List.length_cons, List.length_nil]; omega, (fun x hx => by rcases List.mem_append.1 hx with hx | hx; exact HSM.out x hx; simp only [List.mem_cons, List.not_mem_nil, or_false] at hx; rcases hx with rfl | rfl <;> exact ⟨by decide, by decide⟩), ⟨HQ8.out.choose, by have := HQ8.out.choose_spec.1; omega, HQ8.out.choose_spec.2⟩, HK8.out⟩
 ·obtain ⟨Nb, hNb⟩ : ∃ Nb, w4.heap.size = Nb := ⟨_, rfl⟩
  obtain ⟨w7, hw7⟩ : ∃ w7, w4.alloc (.cells #[.int .i64 23, .string ⟨#[]⟩, .int .i64 3, .string ⟨#[97]⟩, .int .i64 23, .string ⟨#[]⟩, .int .i64 3, .string ⟨#[98]⟩] 31) = w7 := ⟨_, rfl⟩
  have H7 := qH (two_new (a := ⟨23, [], 3, [97]⟩) (b := ⟨23, [], 3, [98]⟩) HO.out hNb hw7)
  have HK7 := qH (HK.out.upT H7.out.2.2)
  have HQ7 := qH (HQ.out.kp0 H7.out.2.2)
  go_wp2_with (first
   | (at_builtin; refine wpList_append_rs (r := tmT) rfl (.tmp 58) (.tmp 61) rfl w.heap.size (.slice (some ⟨g, 0, none⟩) l.length cp) l [⟨23, [], 3, [97]⟩, ⟨23, [], 3, [98]⟩] rfl H7.out.1 Nb 0 2 rfl H7.out.2.1 (by simp only [List.length_cons, List.length_nil]; omega) HK7.out.size ?_; intro v8 w8 hown8 hgr8; have HO8 := qH hown8; have HK8 := qH (kp_grownS HK7.out hgr8 fun b hb => (H7.out.1.ge b hb).1); have HQ8 := qH (tq_grown HQ7.out HTB.out hgr8 fun b hb => (H7.out.1.ge b hb).1); clear hown8 hgr8))
  go_ret
  exact ⟨_, _, rfl, HO8.out, by simp only [List.length_append, List.length_cons, List.length_nil]; omega, (fun x hx => by rcases List.mem_append.1 hx with hx | hx; exact HSM.out x hx; simp only [List.mem_cons, List.not_mem_nil, or_false] at hx; rcases hx with rfl | rfl <;> exact ⟨by decide, by decide⟩), ⟨HQ8.out.choose, by have := HQ8.out.choose_spec.1; omega, HQ8.out.choose_spec.2⟩, HK8.out⟩
 ·go_wp2
  go_loopg [3] 20 (fun gg s3 wx => ∃ (v : Value) (m : List Tm), v = s3 ∧ tmT.Own wx w.heap.size v m ∧ m.length + gg = l.length + 20 ∧ m.length ≤ 17 ∧ (∀ x ∈ m, SmT x) ∧ Tq wx tb (n + 90 + 20 * m.length) ∧ Kp [tb] w wx)
  case atStart => exact ⟨_, l, rfl, HO.out, by omega, by omega, HSM.out, ⟨HQ.out.choose, by have := HQ.out.choose_spec.1; omega, HQ.out.choose_spec.2⟩, HK.out⟩
  case round =>
   clear HQ HK HO
   obtain ⟨v, m, rfl, hov, hmg, hm17, hsm, htq, hkp⟩ := hrel
   obtain ⟨va, vc, hv⟩ := hov.form
   subst hv
   have HQ := qH htq
   have HK := qH hkp
   have HO := qH hov
   have HSM2 := qH hsm
   clear htq hkp hov hsm
   go_upto_if 70 with (go_at_call 35; refine cM (by with_reducible exact nextQ2 (by omega) HQ.out) ?_; rintro e w5 ⟨r2, hr2, rfl, htq, hkp⟩; have HQ := qH htq; have HK := qH (HK.out.trans hkp); have HO := qH (own_tb HO.out HTB.out hkp); clear htq hkp; have hw6 : IntKind.i64.wrap ((16 : Int) + r2) = (16 : Int) + r2 := (by rw [IntKind.wrap_i64]; omega))
   by_cases hlt : (m.length : Int) < (16 : Int) + r2
   ·obtain ⟨gg, rfl⟩ : ∃ gg, gk = gg + 1 := ⟨gk - 1, by omega⟩
    have HXS := qH (show m.length ≤ 1000000 by omega)
    go_wp2_with (first
     | (go_at_call 37; refine cM (by with_reducible exact assignsQ (by omega) HQ.out) ?_; rintro e w5 ⟨t, rfl, hgt, htq, hkp⟩; have HG := qH hgt; have HQ5 := qH htq; have HK5 := qH (HK.out.trans hkp); have HO5 := qH (own_tb HO.out HTB.out hkp); clear hgt htq hkp; obtain ⟨Nb, hNb⟩ : ∃ Nb, w5.heap.size = Nb := ⟨_, rfl⟩; obtain ⟨w7, hw7⟩ : ∃ w7, w5.alloc (.cells #[.int .i64 t.key, .string (bs t.name), .int .i64 t.op, .string (bs t.val)] 31) = w7 := ⟨_, rfl⟩; have H7 := qH (tm_pushS (x := t) HO5.out hNb hw7); have HK7 := qH (HK5.out.upT H7.out.1); have HQ7 := qH (HQ5.out.kp0 H7.out.1))
     | (at_builtin; refine wpList_append_r (r := tmT) rfl (.tmp 71) (.tmp 74) rfl w.heap.size (.slice va m.length vc) m rfl H7.out.2.1 Nb 1 t rfl H7.out.2.2 HXS.out HK7.out.size ?_; intro v8 w8 hown8 hgr8; have HO8 := qH hown8; have HK8 := qH (kp_grownS HK7.out hgr8 fun b hb => (H7.out.2.1.ge b hb).1); have HQ8 := qH (tq_grown HQ7.out HTB.out hgr8 fun b hb => (H7.out.2.1.ge b hb).1); clear hown8 hgr8))
    go_roundg gg
    case measure => omega
    case rel => exact ⟨v8, m ++ [t], rfl, HO8.out, by rw [List.length_append, List.length_singleton]; omega, by rw [List.length_append, List.length_singleton]; omega, (fun x hx => by rcases List.mem_append.1 hx with hx | hx; exact HSM2.out x hx; simp only [List.mem_singleton] at hx; rw [hx]; exact HG.out.1), by rw [List.length_append, List.length_singleton]; exact ⟨HQ8.out.choose, by have := HQ8.out.choose_spec.1; omega, HQ8.out.choose_spec.2⟩, HK8.out⟩
   ·go_wp2
    go_ret
    exact ⟨_, rfl, m, HO.out, by omega, HSM2.out, ⟨HQ.out.choose, by have := HQ.out.choose_spec.1; omega, HQ.out.choose_spec.2⟩, HK.out⟩
 ·go_wp2
  go_ret
  exact ⟨_, [], rfl, RT.Own.nil _ _ _, by simp, (fun x hx => by cases hx), ⟨HQ.out.choose, by have := HQ.out.choose_spec.1; omega, HQ.out.choose_spec.2⟩, HK.out⟩
 ·go_wp2
  go_ret
  exact ⟨_, _, rfl, HO.out, by omega, HSM.out, ⟨HQ.out.choose, by have := HQ.out.choose_spec.1; omega, HQ.out.choose_spec.2⟩, HK.out⟩
 ·go_wp2
  go_ret
  exact ⟨_, _, rfl, HO.out, by omega, HSM.out, ⟨HQ.out.choose, by have := HQ.out.choose_spec.1; omega, HQ.out.choose_spec.2⟩, HK.out⟩
 ·go_wp2
  go_ret
  exact ⟨_, _, rfl, HO.out, by omega, HSM.out, ⟨HQ.out.choose, by have := HQ.out.choose_spec.1; omega, HQ.out.choose_spec.2⟩, HK.out⟩
 ·go_wp2
  go_ret
  exact ⟨_, _, rfl, HO.out, by omega, HSM.out, ⟨HQ.out.choose, by have := HQ.out.choose_spec.1; omega, HQ.out.choose_spec.2⟩, HK.out⟩
end Go.Proofs.YtkkibibecgcbmaaGreatDoor
