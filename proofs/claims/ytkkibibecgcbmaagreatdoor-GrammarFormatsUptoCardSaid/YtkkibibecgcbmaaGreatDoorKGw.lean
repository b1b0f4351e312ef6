/- Terms with at most one fault. -/
import Derived.Test.YtkkibibecgcbmaaGreatDoorKGv
namespace Go.Proofs.YtkkibibecgcbmaaGreatDoor
open Go.RowKit
theorem RT.cells_set {α : Type} {r : RT α} {m : Nat} {u : Value} {x x' : α} (hm : m < r.sz) (hx' : r.cf x' = (r.cf x).set m u) : ∀ {l : List α} {k : Nat}, l[k]? = some x → r.cells (l.set k x') = (r.cells l).set (k * r.sz + m) u
 | [], k, h => by simp at h
 | y :: l, 0, h => by
  simp only [List.getElem?_cons_zero, Option.some.injEq] at h
  subst h
  rw [List.set_cons_zero, RT.cells_cons, RT.cells_cons, hx', Nat.zero_mul, Nat.zero_add, List.set_append_left _ _ (by rw [r.len]; exact hm)]
 | y :: l, k + 1, h => by
  rw [List.set_cons_succ, RT.cells_cons, RT.cells_cons, RT.cells_set hm hx' (l := l) (k := k) (by simpa using h), List.set_append_right _ _ (by rw [r.len, Nat.add_mul, Nat.one_mul]; omega), r.len]
  congr 2
  rw [Nat.add_mul, Nat.one_mul]
  omega
theorem RT.Own.setc {α : Type} {r : RT α} {W : World} {B g n c k : Nat} {l : List α} {x : α} (h : r.Own W B (.slice (some ⟨g, 0, none⟩) n c) l) (hx : l[k]? = some x) {m : Nat} (hm : m < r.sz) {u : Value} {x' : α} (hx' : r.cf x' = (r.cf x).set m u) {p : Addr} (hp : p = ⟨g, k * r.sz + m, none⟩) : r.Own (W.setCell p u) B (.slice (some ⟨g, 0, none⟩) n c) (l.set k x') := by
 subst hp
 obtain ⟨h1, h2⟩ := h
 refine ⟨by rw [RT.cells_len, List.length_set], ?_⟩
 rcases h2 with ⟨hv, _⟩ | ⟨g', cap, cur, hv, hB, hh, hle, hmx, hsz, htk⟩
 ·cases hv
 ·cases hv
  refine .inr ⟨g, c, cur.setIfInBounds (k * r.sz + m) u, by rw [List.length_set], hB, by simp [World.setCell, Array.getElem?_modify, hh], by rw [List.length_set]; exact hle, hmx, by rw [Array.size_setIfInBounds]; exact hsz, ?_⟩
  rw [List.length_set, RT.cells_set hm hx' hx, ← htk, Array.toList_setIfInBounds, List.take_set]
theorem own_frz {W : World} {B g n c o : Nat} {l : List Tm} (h : tmT.Own W B (.slice (some ⟨g, 0, none⟩) n c) l) : W.frozen? ⟨g, o, none⟩ = false := by
 rcases h.2 with ⟨hv, _⟩ | ⟨g', cap, cur, hv, hB, hh, _⟩
 ·cases hv
 ·cases hv
  simp [World.frozen?, hh]
theorem sm_set {l : List Tm} {k : Nat} {x x' : Tm} (h : ∀ y ∈ l, SmT y) (_hx : l[k]? = some x) (h' : SmT x') : ∀ y ∈ l.set k x', SmT y := fun y hy => by
 rcases List.mem_or_eq_of_mem_set hy with hy | rfl
 ·exact h y hy
 ·exact h'
theorem tp_set {w : World} {tb k g o : Nat} {u : Value} (h : Tp w tb k) (hg : tb < g) : Tp (w.setCell ⟨g, o, none⟩ u) tb k := h.keep fun b hb => Below.heap_setCell _ _ _ _ (by simp only; omega)
theorem two_new {W w7 : World} {B Nb : Nat} {v : Value} {l : List Tm} {a b : Tm} (ho : tmT.Own W B v l) (hN : W.heap.size = Nb) (hW : W.alloc (.cells (tmC a ++ tmC b) 31) = w7) : tmT.Own w7 B v l ∧ tmT.Row w7 Nb 0 [a, b] ∧ Kp [] W w7 := by
 have hk1 : Kp [] W w7 := by rw [← hW]; exact (Kp.refl [] _).alloc _
 refine ⟨ho.kp0 hk1, ?_, hk1⟩
 have h := heap_alloc_last W (.cells (tmC a ++ tmC b) 31)
 rw [hW, hN] at h
 exact tmT.row_of (cur := (tmC a ++ tmC b).toList) (by rw [Array.toArray_toList]; exact h) rfl
theorem nextQn {w : World} {tb n : Nat} (m : Nat) (h1 : 1 ≤ m) (h2 : m ≤ 1000000) (hn : n ≤ 900000) (h : Tq w tb n) : Calls Tryz.prog 35 #[.pointer (some ⟨tb, 0, none⟩), .int .i64 (m : Int)] w fun e w' => ∃ r : Nat, r < m ∧ e = .returned (.int .i64 r) ∧ Tq w' tb (n + 1) ∧ Kp [tb] w w' := by
 obtain ⟨k, hk, h⟩ := h
 exact (next_kp m h1 h2 (by omega) h).mono fun _ _ ⟨r, h1, h2, h3, h4⟩ => ⟨r, h1, h2, ⟨_, by omega, h3⟩, h4⟩
theorem nextQ9 {w : World} {tb n : Nat} (hn : n ≤ 900000) (h : Tq w tb n) : Calls Tryz.prog 35 #[.pointer (some ⟨tb, 0, none⟩), .int .i64 9] w fun e w' => ∃ r : Nat, r < 9 ∧ e = .returned (.int .i64 r) ∧ Tq w' tb (n + 1) ∧ Kp [tb] w w' := nextQn 9 (by decide) (by decide) hn h
theorem nextQ12 {w : World} {tb n : Nat} (hn : n ≤ 900000) (h : Tq w tb n) : Calls Tryz.prog 35 #[.pointer (some ⟨tb, 0, none⟩), .int .i64 12] w fun e w' => ∃ r : Nat, r < 12 ∧ e = .returned (.int .i64 r) ∧ Tq w' tb (n + 1) ∧ Kp [tb] w w' := nextQn 12 (by decide) (by decide) hn h
theorem nextQ28 {w : World} {tb n : Nat} (hn : n ≤ 900000) (h : Tq w tb n) : Calls Tryz.prog 35 #[.pointer (some ⟨tb, 0, none⟩), .int .i64 28] w fun e w' => ∃ r : Nat, r < 28 ∧ e = .returned (.int .i64 r) ∧ Tq w' tb (n + 1) ∧ Kp [tb] w w' := nextQn 28 (by decide) (by decide) hn h
theorem oneQ30 {w : World} {tb n : Nat} (hn : n ≤ 900000) (h : Tq w tb n) (m : Nat) (hm : w.heap.size = m) : Calls Tryz.prog 36 #[.pointer (some ⟨tb, 0, none⟩), .slice (some ⟨m, 0, none⟩) 7 7] (w.alloc (.cells #[.string ⟨#[]⟩, .string ⟨#[97, 32, 98]⟩, .string ⟨#[105, 100]⟩, .string ⟨#[73, 68]⟩, .string ⟨#[112, 114, 111, 103, 114, 97, 109]⟩, .string ⟨#[112, 97, 114, 101, 110, 116]⟩, .string ⟨#[98, 117, 105, 108, 116, 105, 110]⟩] 9)) fun e w' => ∃ x : List UInt8, x.length ≤ 300 ∧ e = .returned (.string (bs x)) ∧ Tq w' tb (n + 1) ∧ Kp [tb] w w' := by
 obtain ⟨k, hk, h⟩ := h
 exact (oneM30 (by omega) h m hm).mono fun _ _ ⟨r, h1, h2, h3, h4⟩ => ⟨r, h1, h2, ⟨_, by omega, h3⟩, h4⟩
theorem oneQ31 {w : World} {tb n : Nat} (hn : n ≤ 900000) (h : Tq w tb n) (m : Nat) (hm : w.heap.size = m) : Calls Tryz.prog 36 #[.pointer (some ⟨tb, 0, none⟩), .slice (some ⟨m, 0, none⟩) 8 8] (w.alloc (.cells #[.string ⟨#[91]⟩, .string ⟨#[36, 120]⟩, .string ⟨#[]⟩, .string ⟨#[45, 49, 48, 48, 49]⟩, .string ⟨#[49, 48, 48, 48]⟩, .string ⟨#[112, 97, 116, 104]⟩, .string ⟨#[37, 107]⟩, .string ⟨#[97, 32, 98]⟩] 9)) fun e w' => ∃ x : List UInt8, x.length ≤ 300 ∧ e = .returned (.string (bs x)) ∧ Tq w' tb (n + 1) ∧ Kp [tb] w w' := by
 obtain ⟨k, hk, h⟩ := h
 exact (oneM31 (by omega) h m hm).mono fun _ _ ⟨r, h1, h2, h3, h4⟩ => ⟨r, h1, h2, ⟨_, by omega, h3⟩, h4⟩
set_option maxRecDepth 100000 in
set_option maxHeartbeats 16000000 in
theorem spoilt_any {w : World} {tb n : Nat} (hn : n ≤ 700000) (htb : tb < w.heap.size) (h : Tq w tb n) : Calls Tryz.prog 12 #[.pointer (some ⟨tb, 0, none⟩)] w fun e w' => ∃ v l, e = .returned v ∧ tmT.Own w' w.heap.size v l ∧ l.length ≤ 40 ∧ (∀ x ∈ l, SmT x) ∧ Tq w' tb (n + 600) ∧ Kp [tb] w w' := by
 have HTM := Lib.hid (terms_any (by omega) htb h)
 have HTB := Lib.hid htb
 clear htb h
 go_enter Tryz.func12, Tryz.ntmps12
 go_upto_region 2 with (go_at_call 34; refine Calls.mono (by with_reducible exact HTM.out) ?_; rintro e w2 ⟨v, l, rfl, hov, hok, htq, hkp⟩)
 obtain ⟨hl0, hl6, hlx, -⟩ := hok
 obtain ⟨g, cp, rfl⟩ : ∃ g c, v = .slice (some ⟨g, 0, none⟩) l.length c := by
  rcases hov.form2 with ⟨_, hn⟩ | ⟨g', cap, hv, _⟩
  ·exact absurd hn hl0
  ·exact ⟨g', cap, hv⟩
 have hg := (hov.ge g rfl).1
 have HTG := Lib.hid (show tb < g by have := HTB.out; omega)
 have HGW := Lib.hid (show w.heap.size ≤ g from hg)
 have HSM := Lib.hid (show ∀ x ∈ l, SmT x from fun x hx => (hlx x hx).1)
 have HQ := Lib.hid htq
 have HK := Lib.hid hkp
 have HO := Lib.hid hov
 have hlp : 1 ≤ l.length := List.length_pos_iff.2 hl0
 clear hlx hov htq hkp hg hl0
 go_upto_region 4 with (first
  | (go_at_call 35; refine Calls.mono (by with_reducible exact nextQn l.length hlp (by omega) (by omega) HQ.out) ?_; rintro e w3 ⟨kk, hkk, rfl, htq, hkp⟩; have HQ := Lib.hid htq; have HK := Lib.hid (HK.out.trans hkp); have HO := Lib.hid (own_tb HO.out HTB.out hkp); clear htq hkp)
  | (go_at_call 35; refine Calls.mono (by with_reducible exact nextQ12 (by omega) HQ.out) ?_; rintro e w4 ⟨q, hq, rfl, htq, hkp⟩; have HQ := Lib.hid htq; have HK := Lib.hid (HK.out.trans hkp); have HO := Lib.hid (own_tb HO.out HTB.out hkp); clear htq hkp))
 obtain ⟨x, hx⟩ : ∃ x, l[kk]? = some x := ⟨_, List.getElem?_eq_getElem hkk⟩
 have HX := Lib.hid hx
 have hkz : (kk : Int) < (l.length : Int) := by omega
 have hsx := HSM.out x (List.mem_of_getElem? hx)
 have HSX := Lib.hid hsx
 clear hx hsx
 have hc : q = 0 ∨ q = 1 ∨ q = 2 ∨ q = 3 ∨ q = 4 ∨ q = 5 ∨ q = 6 ∨ q = 7 ∨ q = 8 ∨ q = 9 ∨ q = 10 ∨ q = 11 := by omega
 clear hq
 rcases hc with rfl | rfl | rfl | rfl | rfl | rfl | rfl | rfl | rfl | rfl | rfl | rfl
 ·go_wp2_with (first
   | (go_at_call 35; refine Calls.mono (by with_reducible exact nextQ28 (by omega) HQ.out) ?_; rintro e w5 ⟨z, hz, rfl, htq, hkp⟩; have HQ := Lib.hid htq; have HK := Lib.hid (HK.out.trans hkp); have HO := Lib.hid (own_tb HO.out HTB.out hkp); clear htq hkp; obtain ⟨c0, c1, c2, c3⟩ := tmRow (own_row HO.out) HX.out; simp only [Nat.zero_add] at c0 c1 c2 c3; have fz := fun o => own_frz HO.out (o := o); have hwz : IntKind.i64.wrap ((z : Int) - 1) = (z : Int) - 1 := (by rw [IntKind.wrap_i64]; omega)))
  go_ret
  exact ⟨_, _, rfl, RT.Own.setc HO.out HX.out (m := 0) (by decide) (x' := ⟨(z : Int) - 1, x.name, x.op, x.val⟩) rfl rfl, by simp only [List.length_set]; omega, sm_set HSM.out HX.out HSX.out, ⟨HQ.out.choose, by have := HQ.out.choose_spec.1; omega, tp_set HQ.out.choose_spec.2 HTG.out⟩, HK.out.setCell (.inr HGW.out) _⟩
 ·go_wp2_with (first
   | (go_at_call 36; refine Calls.mono (by with_reducible exact oneQ30 (by omega) HQ.out _ rfl) ?_; rintro e w5 ⟨z, hz, rfl, htq, hkp⟩; have HQ := Lib.hid htq; have HK := Lib.hid (HK.out.trans hkp); have HO := Lib.hid (own_tb HO.out HTB.out hkp); clear htq hkp; obtain ⟨c0, c1, c2, c3⟩ := tmRow (own_row HO.out) HX.out; simp only [Nat.zero_add] at c0 c1 c2 c3; have fz := fun o => own_frz HO.out (o := o)))
  go_ret
  exact ⟨_, _, rfl, RT.Own.setc HO.out HX.out (m := 1) (by decide) (x' := ⟨x.key, z, x.op, x.val⟩) rfl rfl, by simp only [List.length_set]; omega, sm_set HSM.out HX.out ⟨by show z.length ≤ _; omega, HSX.out.2⟩, ⟨HQ.out.choose, by have := HQ.out.choose_spec.1; omega, tp_set HQ.out.choose_spec.2 HTG.out⟩, HK.out.setCell (.inr HGW.out) _⟩
 ·go_wp2_with (first
   | (go_at_call 35; refine Calls.mono (by with_reducible exact nextQ9 (by omega) HQ.out) ?_; rintro e w5 ⟨z, hz, rfl, htq, hkp⟩; have HQ := Lib.hid htq; have HK := Lib.hid (HK.out.trans hkp); have HO := Lib.hid (own_tb HO.out HTB.out hkp); clear htq hkp; obtain ⟨c0, c1, c2, c3⟩ := tmRow (own_row HO.out) HX.out; simp only [Nat.zero_add] at c0 c1 c2 c3; have fz := fun o => own_frz HO.out (o := o); have hwz : IntKind.i64.wrap ((z : Int) - 1) = (z : Int) - 1 := (by rw [IntKind.wrap_i64]; omega)))
  go_ret
  exact ⟨_, _, rfl, RT.Own.setc HO.out HX.out (m := 2) (by decide) (x' := ⟨x.key, x.name, (z : Int) - 1, x.val⟩) rfl rfl, by simp only [List.length_set]; omega, sm_set HSM.out HX.out HSX.out, ⟨HQ.out.choose, by have := HQ.out.choose_spec.1; omega, tp_set HQ.out.choose_spec.2 HTG.out⟩, HK.out.setCell (.inr HGW.out) _⟩
 ·go_wp2_with (first
   | (go_at_call 36; refine Calls.mono (by with_reducible exact oneQ31 (by omega) HQ.out _ rfl) ?_; rintro e w5 ⟨z, hz, rfl, htq, hkp⟩; have HQ := Lib.hid htq; have HK := Lib.hid (HK.out.trans hkp); have HO := Lib.hid (own_tb HO.out HTB.out hkp); clear htq hkp; obtain ⟨c0, c1, c2, c3⟩ := tmRow (own_row HO.out) HX.out; simp only [Nat.zero_add] at c0 c1 c2 c3; have fz := fun o => own_frz HO.out (o := o)))
  go_ret
  exact ⟨_, _, rfl, RT.Own.setc HO.out HX.out (m := 3) (by decide) (x' := ⟨x.key, x.name, x.op, z⟩) rfl rfl, by simp only [List.length_set]; omega, sm_set HSM.out HX.out ⟨HSX.out.1, by show z.length ≤ _; omega⟩, ⟨HQ.out.choose, by have := HQ.out.choose_spec.1; omega, tp_set HQ.out.choose_spec.2 HTG.out⟩, HK.out.setCell (.inr HGW.out) _⟩
 ·obtain ⟨Nb, hNb⟩ : ∃ Nb, w4.heap.size = Nb := ⟨_, rfl⟩
  obtain ⟨w7, hw7⟩ : ∃ w7, w4.alloc (.cells #[.int .i64 23, .string ⟨#[]⟩, .int .i64 3, .string ⟨#[97]⟩, .int .i64 24, .string ⟨#[]⟩, .int .i64 3, .string ⟨#[98]⟩] 31) = w7 := ⟨_, rfl⟩
  have H7 := Lib.hid (two_new (a := ⟨23, [], 3, [97]⟩) (b := ⟨24, [], 3, [98]⟩) HO.out hNb hw7)
  have HK7 := Lib.hid (HK.out.upT H7.out.2.2)
  have HQ7 := Lib.hid (HQ.out.kp0 H7.out.2.2)
  go_wp2_with (first
   | (at_builtin; refine wpList_append_rs (r := tmT) rfl (.tmp 51) (.tmp 54) rfl w.heap.size (.slice (some ⟨g, 0, none⟩) l.length cp) l [⟨23, [], 3, [97]⟩, ⟨24, [], 3, [98]⟩] rfl H7.out.1 Nb 0 2 rfl H7.out.2.1 (by simp only [List.length_cons, List.length_nil]; omega) HK7.out.size ?_; intro v8 w8 hown8 hgr8; have HO8 := Lib.hid hown8; have HK8 := Lib.hid (kp_grownS HK7.out hgr8 fun b hb => (H7.out.1.ge b hb).1); have HQ8 := Lib.hid (tq_grown HQ7.out HTB.out hgr8 fun b hb => (H7.out.1.ge b hb).1); clear hown8 hgr8))
  go_ret
  exact ⟨_, _, rfl, HO8.out, by simp only [List.length_append, List.length_cons, List.length_nil]; omega, (fun x hx => by rcases List.mem_append.1 hx with hx | hx; exact HSM.out x hx; simp only [List.mem_cons, List.not_mem_nil, or_false] at hx; rcases hx with rfl | rfl <;> exact ⟨by decide, by decide⟩), ⟨HQ8.out.choose, by have := HQ8.out.choose_spec.1; omega, HQ8.out.choose_spec.2⟩, HK8.out⟩
 ·obtain ⟨Nb, hNb⟩ : ∃ Nb, w4.heap.size = Nb := ⟨_, rfl⟩
  obtain ⟨w7, hw7⟩ : ∃ w7, w4.alloc (.cells #[.int .i64 23, .string ⟨#[]⟩, .int .i64 3, .string ⟨#[97]⟩, .int .i64 23, .string ⟨#[]⟩, .int .i64 3, .string ⟨#[98]⟩] 31) = w7 := ⟨_, rfl⟩
  have H7 := Lib.hid (two_new (a := ⟨23, [], 3, [97]⟩) (b := ⟨23, [], 3, [98]⟩) HO.out hNb hw7)
  have HK7 := Lib.hid (HK.out.upT H7.out.2.2)
  have HQ7 := Lib.hid (HQ.out.kp0 H7.out.2.2)
  go_wp2_with (first
   | (at_builtin; refine wpList_append_rs (r := tmT) rfl (.tmp 58) (.tmp 61) rfl w.heap.size (.slice (some ⟨g, 0, none⟩) l.length cp) l [⟨23, [], 3, [97]⟩, ⟨23, [], 3, [98]⟩] rfl H7.out.1 Nb 0 2 rfl H7.out.2.1 (by simp only [List.length_cons, List.length_nil]; omega) HK7.out.size ?_; intro v8 w8 hown8 hgr8; have HO8 := Lib.hid hown8; have HK8 := Lib.hid (kp_grownS HK7.out hgr8 fun b hb => (H7.out.1.ge b hb).1); have HQ8 := Lib.hid (tq_grown HQ7.out HTB.out hgr8 fun b hb => (H7.out.1.ge b hb).1); clear hown8 hgr8))
  go_ret
  exact ⟨_, _, rfl, HO8.out, by simp only [List.length_append, List.length_cons, List.length_nil]; omega, (fun x hx => by rcases List.mem_append.1 hx with hx | hx; exact HSM.out x hx; simp only [List.mem_cons, List.not_mem_nil, or_false] at hx; rcases hx with rfl | rfl <;> exact ⟨by decide, by decide⟩), ⟨HQ8.out.choose, by have := HQ8.out.choose_spec.1; omega, HQ8.out.choose_spec.2⟩, HK8.out⟩
 ·go_wp2
  go_loopg [3] 20 (fun gg s3 wx => ∃ (v : Value) (m : List Tm), v = s3 ∧ tmT.Own wx w.heap.size v m ∧ m.length + gg = l.length + 20 ∧ m.length ≤ 17 ∧ (∀ x ∈ m, SmT x) ∧ Tq wx tb (n + 90 + 20 * m.length) ∧ Kp [tb] w wx)
  case atStart => exact ⟨_, l, rfl, HO.out, by omega, by omega, HSM.out, ⟨HQ.out.choose, by have := HQ.out.choose_spec.1; omega, HQ.out.choose_spec.2⟩, HK.out⟩
  case round =>
   clear HQ HK HO
   obtain ⟨v, m, rfl, hov, hmg, hm17, hsm, htq, hkp⟩ := hrel
   obtain ⟨va, vc, hv⟩ := hov.form
   subst hv
   have HQ := Lib.hid htq
   have HK := Lib.hid hkp
   have HO := Lib.hid hov
   have HSM2 := Lib.hid hsm
   clear htq hkp hov hsm
   go_upto_if 70 with (go_at_call 35; refine Calls.mono (by with_reducible exact nextQ2 (by omega) HQ.out) ?_; rintro e w5 ⟨r2, hr2, rfl, htq, hkp⟩; have HQ := Lib.hid htq; have HK := Lib.hid (HK.out.trans hkp); have HO := Lib.hid (own_tb HO.out HTB.out hkp); clear htq hkp; have hw6 : IntKind.i64.wrap ((16 : Int) + r2) = (16 : Int) + r2 := (by rw [IntKind.wrap_i64]; omega))
   by_cases hlt : (m.length : Int) < (16 : Int) + r2
   ·obtain ⟨gg, rfl⟩ : ∃ gg, gk = gg + 1 := ⟨gk - 1, by omega⟩
    have HXS := Lib.hid (show m.length ≤ 1000000 by omega)
    go_wp2_with (first
     | (go_at_call 37; refine Calls.mono (by with_reducible exact assignsQ (by omega) HQ.out) ?_; rintro e w5 ⟨t, rfl, hgt, htq, hkp⟩; have HG := Lib.hid hgt; have HQ5 := Lib.hid htq; have HK5 := Lib.hid (HK.out.trans hkp); have HO5 := Lib.hid (own_tb HO.out HTB.out hkp); clear hgt htq hkp; obtain ⟨Nb, hNb⟩ : ∃ Nb, w5.heap.size = Nb := ⟨_, rfl⟩; obtain ⟨w7, hw7⟩ : ∃ w7, w5.alloc (.cells #[.int .i64 t.key, .string (bs t.name), .int .i64 t.op, .string (bs t.val)] 31) = w7 := ⟨_, rfl⟩; have H7 := Lib.hid (tm_pushS (x := t) HO5.out hNb hw7); have HK7 := Lib.hid (HK5.out.upT H7.out.1); have HQ7 := Lib.hid (HQ5.out.kp0 H7.out.1))
     | (at_builtin; refine wpList_append_r (r := tmT) rfl (.tmp 71) (.tmp 74) rfl w.heap.size (.slice va m.length vc) m rfl H7.out.2.1 Nb 1 t rfl H7.out.2.2 HXS.out HK7.out.size ?_; intro v8 w8 hown8 hgr8; have HO8 := Lib.hid hown8; have HK8 := Lib.hid (kp_grownS HK7.out hgr8 fun b hb => (H7.out.2.1.ge b hb).1); have HQ8 := Lib.hid (tq_grown HQ7.out HTB.out hgr8 fun b hb => (H7.out.2.1.ge b hb).1); clear hown8 hgr8))
    go_roundg gg
    case measure => omega
    case rel => exact ⟨v8, m ++ [t], rfl, HO8.out, by rw [List.length_append, List.length_singleton]; omega, by rw [List.length_append, List.length_singleton]; omega, (fun x hx => by rcases List.mem_append.1 hx with hx | hx; exact HSM2.out x hx; simp only [List.mem_singleton] at hx; rw [hx]; exact HG.out.1), by rw [List.length_append, List.length_singleton]; exact ⟨HQ8.out.choose, by have := HQ8.out.choose_spec.1; omega, HQ8.out.choose_spec.2⟩, HK8.out⟩
   ·go_wp2
    go_ret
    exact ⟨_, rfl, m, HO.out, by omega, HSM2.out, ⟨HQ.out.choose, by have := HQ.out.choose_spec.1; omega, HQ.out.choose_spec.2⟩, HK.out⟩
 ·go_wp2
  go_ret
  exact ⟨_, [], rfl, RT.Own.nil _ _ _, by simp, (fun x hx => by cases hx), ⟨HQ.out.choose, by have := HQ.out.choose_spec.1; omega, HQ.out.choose_spec.2⟩, HK.out⟩
 ·go_wp2
  go_ret
  exact ⟨_, _, rfl, HO.out, by omega, HSM.out, ⟨HQ.out.choose, by have := HQ.out.choose_spec.1; omega, HQ.out.choose_spec.2⟩, HK.out⟩
 ·go_wp2
  go_ret
  exact ⟨_, _, rfl, HO.out, by omega, HSM.out, ⟨HQ.out.choose, by have := HQ.out.choose_spec.1; omega, HQ.out.choose_spec.2⟩, HK.out⟩
 ·go_wp2
  go_ret
  exact ⟨_, _, rfl, HO.out, by omega, HSM.out, ⟨HQ.out.choose, by have := HQ.out.choose_spec.1; omega, HQ.out.choose_spec.2⟩, HK.out⟩
 ·go_wp2
  go_ret
  exact ⟨_, _, rfl, HO.out, by omega, HSM.out, ⟨HQ.out.choose, by have := HQ.out.choose_spec.1; omega, HQ.out.choose_spec.2⟩, HK.out⟩
end Go.Proofs.YtkkibibecgcbmaaGreatDoor
