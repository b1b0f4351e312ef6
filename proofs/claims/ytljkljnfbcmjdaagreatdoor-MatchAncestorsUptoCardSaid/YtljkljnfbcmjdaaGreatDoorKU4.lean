/- A tree that is drawn. An Index of a drawn tree, or another number; terms that are drawn, most of them upward. Terms that are drawn, most of them upward. -/
import Derived.Test.YtljkljnfbcmjdaaGreatDoorKU3
import Derived.Test.YtljkljnfbcmjdaaGreatDoorKU2
import Derived.Test.YtljkljnfbcmjdaaGreatDoorKTe
open Go.Lib renaming hid → qH
open Go.Calls renaming mono → cM
open Go.Act renaming put → aP
open List renaming setIfInBounds_toArray → lA, set_cons_zero → lB, set_cons_succ → lC
set_option maxRecDepth 100000
set_option maxHeartbeats 16000000
namespace Go.Proofs.YtljkljnfbcmjdaaGreatDoor
open Go.RowKit
def Sml (x : De.DV) : Prop := SmX (De.devOf x.1 x.2) x.1.ats ∧ x.1.ats.length ≤ 1000
structure Off (B : Nat) (v : Value) (L : List De.DV) : Prop where
 v : ∀ b, v.ownBlock = some b → B ≤ b
 x : ∀ x ∈ L, ∀ b, x.2.ownBlock = some b → B ≤ b
theorem DAny.kpT {W W' : World} {t B : Nat} {v : Value} {l : List De.DV} (h : DAny W v l) (hk : Kp [t] W W') (ho : Off B v l) (hB : t < B) : DAny W' v l := by
 rcases h with h | ⟨g, o, c, hv, hc, hg, hr⟩
 ·exact .inl h
 ·refine .inr ⟨g, o, c, hv, hc, Nat.lt_of_lt_of_le hg hk.size, hr.keep (hk.block g hg ?_) fun x hx => hasT (hr.ats x hx) hk fun b hb => ?_⟩
  ·have := ho.v g (by rw [hv]; rfl)
   simp
   omega
  ·have := ho.x x hx b hb
   omega
theorem one_sl {W : World} {R n c i : Nat} {a : Option Addr} {v : Value} (hR : W.heap[R]? = some (.cells #[.slice a n c] 30 (0, 0))) (h : W.cell? ⟨R, i, none⟩ = some v) : v = .slice a n c := by
 rw [cell_of_row _ _ _ _ _ _ hR] at h
 cases i with
 | zero => simpa using h.symm
 | succ i => simp at h
theorem hasR {W W' : World} {R n c : Nat} {a : Option Addr} {v : Value} {l : List De.Atr} (h : De.Has W v l) (hk : Kp [R] W W') (hR : W.heap[R]? = some (.cells #[.slice a n c] 30 (0, 0))) : De.Has W' v l := by
 rcases h with h | ⟨b, o, c', rfl, hb, hr⟩
 ·exact .inl h
 ·refine .inr ⟨b, o, c', rfl, Nat.lt_of_lt_of_le hb hk.size, fun j x hx => ?_⟩
  have h1 := hr j x hx
  by_cases e : b = R
  ·subst e
   have := one_sl hR h1.1
   cases this
  ·exact ⟨cell_kpT hk hb (by simpa using e) h1.1, cell_kpT hk hb (by simpa using e) h1.2⟩
theorem DAny.kpR {W W' : World} {R n c : Nat} {a : Option Addr} {v : Value} {l : List De.DV} (h : DAny W v l) (hk : Kp [R] W W') (hR : W.heap[R]? = some (.cells #[.slice a n c] 30 (0, 0))) : DAny W' v l := by
 rcases h with h | ⟨g, o, c', hv, hc, hg, hr⟩
 ·exact .inl h
 ·refine .inr ⟨g, o, c', hv, hc, Nat.lt_of_lt_of_le hg hk.size, ⟨fun j x hx m u hu => ?_, fun x hx => hasR (hr.ats x hx) hk hR⟩⟩
  have h1 := hr.at_ j x hx
  by_cases e : g = R
  ·subst e
   have := one_sl hR (h1 0 _ rfl)
   cases this
  ·exact cell_kpT hk hg (by simpa using e) (h1 m u hu)
theorem MaxT {W W' : World} {tb : Nat} (h : De.Max W) (h0 : 0 ≠ tb) (hk : Kp [tb] W W') : De.Max W' := by
 obtain ⟨m, hm⟩ := h
 exact ⟨m, cell_kpT hk (World.block_lt_of_cell? _ _ hm) (by simpa using h0) hm⟩
theorem max_tp {W : World} {tb k : Nat} (h : De.Max W) (ht : Tp W tb k) : 0 ≠ tb := fun e => by
 subst e
 obtain ⟨m, hm⟩ := h
 obtain ⟨lv, hl, hi⟩ := ht
 rw [cell_of_row _ _ _ _ _ _ hl] at hm
 have : lv = .int .i64 m := by simpa using hm
 rcases hi with ⟨a, c, e⟩ | ⟨b, o, n, c, e, _⟩ <;> rw [e] at this <;> cases this
theorem DAny.wform {W : World} {v : Value} {l : List De.DV} (h : DAny W v l) : ∃ a c, v = .slice a l.length c ∧ l.length ≤ c ∧ ∀ (i : Nat) (x : De.DV), l[i]? = some x → ∃ g o, a = some ⟨g, o, none⟩ ∧ g < W.heap.size ∧ ∀ (j : Nat) (y : De.DV), l[j]? = some y → W.cell? ⟨g, o + j * 10, none⟩ = some (.int .i64 y.1.idx) := by
 rcases h with ⟨hv, hl⟩ | ⟨g, o, c, hv, hc, hg, hr⟩
 ·exact ⟨none, 0, by rw [hv, hl]; rfl, by rw [hl]; exact Nat.le_refl _, fun i x hx => by rw [hl] at hx; simp at hx⟩
 ·exact ⟨_, c, hv, hc, fun i x hx => ⟨g, o, rfl, hg, fun j y hy => (De.dvC_cells (hr.at_ j y hy)).1⟩⟩
theorem sml_new {d : De.Dev} {la : List De.Atr} (h : SmX d la) (hl : la.length ≤ 1000) : Sml (aOf d la, d.av) := ⟨h, hl⟩
theorem sized_sml {d : De.Dev} {la : List De.Atr} (h : SmX d la) : De.Sized d la :=
 ⟨Nat.le_trans h.n (by decide), Nat.le_trans h.o (by decide), Nat.le_trans h.s (by decide), Nat.le_trans h.r (by decide), Nat.le_trans h.i (by decide), fun a ha => ⟨Nat.le_trans (h.a a ha).1 (by decide), Nat.le_trans (h.a a ha).2 (by decide)⟩⟩
theorem mem_insD {l : List De.DV} {x y : De.DV} (h : y ∈ insD l x) : y ∈ l ∨ y = x := by
 unfold insD at h
 rcases List.mem_append.1 h with h | h
 ·exact .inl (List.mem_of_mem_take h)
 ·rcases List.mem_cons.1 h with h | h
  ·exact .inr h
  ·exact .inl (List.mem_of_mem_drop h)
theorem insD_len (l : List De.DV) (x : De.DV) : (insD l x).length = l.length + 1 := by
 unfold insD
 rw [List.length_append, List.length_cons, List.length_take, List.length_drop]
 omega
structure TreeAt (W : World) (B n : Nat) (v : Value) (L : List De.DV) : Prop where
 any : DAny W v L
 val : De.Valid sndA clA (L.map (·.1))
 len : L.length ≤ n
 sml : ∀ x ∈ L, Sml x
 off : Off B v L
theorem TreeAt.nil (W : World) (B n : Nat) : TreeAt W B n (.slice none 0 0) [] := ⟨.inl ⟨rfl, rfl⟩, De.Valid.nil _ _, Nat.zero_le _, fun _ h => (by cases h), ⟨fun b h => (by cases h), fun _ h => (by cases h)⟩⟩
theorem TreeAt.kp {W W' : World} {B n : Nat} {v : Value} {L : List De.DV} (h : TreeAt W B n v L) (hk : Kp [] W W') : TreeAt W' B n v L := ⟨h.any.kp hk, h.val, h.len, h.sml, h.off⟩
theorem TreeAt.kpT {W W' : World} {t B n : Nat} {v : Value} {L : List De.DV} (h : TreeAt W B n v L) (hk : Kp [t] W W') (hB : t < B) : TreeAt W' B n v L := ⟨h.any.kpT hk h.off hB, h.val, h.len, h.sml, h.off⟩
theorem TreeAt.kpR {W W' : World} {B n R m c : Nat} {a : Option Addr} {v : Value} {L : List De.DV} (h : TreeAt W B n v L) (hk : Kp [R] W W') (hR : W.heap[R]? = some (.cells #[.slice a m c] 30 (0, 0))) : TreeAt W' B n v L := ⟨h.any.kpR hk hR, h.val, h.len, h.sml, h.off⟩
theorem TreeAt.up {W : World} {B C n m : Nat} {v : Value} {L : List De.DV} (h : TreeAt W B n v L) (hm : n ≤ m) (hC : C ≤ B) : TreeAt W C m v L := ⟨h.any, h.val, Nat.le_trans h.len hm, h.sml, ⟨fun b e => Nat.le_trans hC (h.off.v b e), fun x hx b e => Nat.le_trans hC (h.off.x x hx b e)⟩⟩
def TreePost (tb k n : Nat) (w : World) (e : Ending) (w' : World) : Prop := ∃ v L, e = .returned (.agg #[v]) ∧ TreeAt w' w.heap.size n v L ∧ Tq w' tb (k + 1 + 40 * n) ∧ Kp [tb] w w'
theorem insert_tree {w5 : World} {B n : Nat} {v : Value} {L : List De.DV} {d : De.Dev} {la : List De.Atr} (ht : TreeAt w5 B n v L) (hd : De.Has w5 d.av la) (hs : SmX d la) (hl : la.length ≤ 1000) (ho : ∀ b, d.av.ownBlock = some b → B ≤ b) (hm : De.Max w5) (hB : B ≤ w5.heap.size) :
  Calls Tryz.prog 17 #[.agg #[v], De.devV d] w5 fun e w6 => Kp [] w5 w6 ∧ ∃ a m c er, e = .returned (.tuple #[.agg #[.slice a m c], .int .i64 er]) ∧ ∃ L', L'.length = m ∧ (er = 0 → TreeAt w6 B (n + 1) (.slice a m c) L') := by
 refine (refInsert_any L v d la w5 ht.any hd (sized_sml hs) (by omega) (fun x hx => Nat.lt_of_le_of_lt (ht.sml x hx).1.o (by decide)) (Nat.lt_of_le_of_lt hs.o (by decide)) hm ht.val).mono ?_
 rintro e w6 ⟨hk, v', L', rfl, hany, hor, hfr⟩
 obtain ⟨a, c, rfl, -, -⟩ := hany.wform
 refine ⟨hk, a, _, c, _, rfl, L', rfl, fun h0 => ?_⟩
 rcases hor with ⟨hne, -⟩ | ⟨-, hL'⟩
 ·exact absurd h0 hne
 refine ⟨hany, ?_, ?_, ?_, ⟨fun b h => by have := hfr b h; omega, ?_⟩⟩
 ·rw [hL', insD_fst]
  exact insT_valid ht.val h0
 ·rw [hL', insD_len]
  have := ht.len
  omega
 ·intro x hx
  rw [hL'] at hx
  rcases mem_insD hx with h | rfl
  ·exact ht.sml x h
  ·exact sml_new hs hl
 ·intro x hx
  rw [hL'] at hx
  rcases mem_insD hx with h | rfl
  ·exact ht.off.x x h
  ·exact ho
theorem tree_any {w : World} {tb k : Nat} (n : Nat) (hn : n ≤ 20) (hk : k + 40 * n ≤ 850) (h : Tp w tb k) (hm : De.Max w) : Calls Tryz.prog 6 #[.pointer (some ⟨tb, 0, none⟩), .int .i64 (n : Int)] w (TreePost tb k n w) := by
 have h0 := max_tp hm h
 have H0 := qH h0
 have HM := qH hm
 obtain ⟨Bt, hBt⟩ : ∃ Bt, w.heap.size = Bt := ⟨_, rfl⟩
 obtain ⟨W0, hW⟩ : ∃ W0, (w.alloc (.cells #[.slice none 0 0] 30)).alloc (.cells #[.slice none 0 0] 30) = W0 := ⟨_, rfl⟩
 have hk0 : Kp [] w W0 := by rw [← hW]; exact ((Kp.refl [] w).alloc _).alloc _
 have hs0 : W0.heap.size = Bt + 2 := by rw [← hW, World.size_alloc, World.size_alloc, hBt]
 have hA : W0.heap[Bt]? = some (.cells #[.slice none 0 0] 30 (0, 0)) := by rw [← hW, ← hBt]; exact heap_alloc2_old w _ _
 have hB : W0.heap[Bt + 1]? = some (.cells #[.slice none 0 0] 30 (0, 0)) := by
  have := heap_alloc_last (w.alloc (.cells #[.slice none 0 0] 30)) (.cells #[.slice none 0 0] 30)
  rw [hW, World.size_alloc, hBt] at this
  exact this
 have HA := qH hA
 have HB := qH hB
 have HS0 := qH hs0
 have HK0 := qH (show Kp [tb] w W0 from hk0.mono (by simp))
 have HT0 := qH (h.kp hk0 (by simp))
 have Htb := qH (show tb < Bt from by rw [← hBt]; exact h.lt)
 have hwn : IntKind.i64.wrap ((n : Int) + 1) = (n : Int) + 1 := by rw [IntKind.wrap_i64]; omega
 have HN := qH (fun W (ht : Tp W tb k) => (show Calls Tryz.prog 16 #[.pointer (some ⟨tb, 0, none⟩), .int .i64 ((n : Int) + 1)] W fun e w' => ∃ r : Nat, r < n + 1 ∧ e = .returned (.int .i64 r) ∧ Tp w' tb (k + 1) ∧ Kp [tb] W w' from next_kp (n + 1) (by omega) (by omega) (by omega) ht))
 clear hA hB hs0 hk0 h0 hm h
 go_enter Tryz.func6, Tryz.ntmps6
 go_upto_region 3 with (go_at_call 16; refine cM (by with_reducible exact HN.out _ HT0.out) ?_; rintro e W1 ⟨M, hM, rfl, hT, hk1⟩; have HT1 := qH hT; have HK1 := qH (HK0.out.trans hk1); have HA1 := qH ((hk1.block Bt (block_lt HA.out) (by have := Htb.out; simp; omega)).trans HA.out); have HB1 := qH ((hk1.block (Bt + 1) (block_lt HB.out) (by have := Htb.out; simp; omega)).trans HB.out); clear hT hk1)
 have HBt := qH hBt
 clear hW hBt hwn
 have HMn := qH (show M ≤ n from by omega)
 have Hs1 := qH (show Bt + 2 ≤ W1.heap.size from by have := block_lt HB1.out; omega)
 go_loopw [6, 7, 8] (fun s6 _ _ wx => ∃ (m kt : Nat) (v : Value) (L : List De.DV), m ≤ M ∧ s6 = .int .i64 (m : Int) ∧ kt + 40 * m ≤ k + 1 + 40 * M ∧ Hid (TreeAt wx (Bt + 2) (M - m) v L) ∧ Hid (Tp wx tb kt) ∧ Hid (Kp [tb] w wx) ∧ Hid (wx.heap[Bt]? = some (.cells #[.slice none 0 0] 30 (0, 0))) ∧ Hid (wx.heap[Bt + 1]? = some (.cells #[v] 30 (0, 0)))) (fun s6 _ _ _ => (intOf s6).toNat)
 case atStart => exact ⟨M, k + 1, .slice none 0 0, [], Nat.le_refl _, rfl, by omega, qH (TreeAt.nil _ _ _), HT1, HK1, HA1, HB1⟩
 case round =>
  clear HT1 HK1 HA1 HB1 HN HT0 HK0 HA HB
  obtain ⟨m, kt, v, L, hm, rfl, hkt, HTr, HT, HK, HA, HB⟩ := hrel
  cases m with
  | zero =>
   have hz : ¬ (0 : Int) < ((0 : Nat) : Int) := by omega
   obtain ⟨va, vc, hvf, -, -⟩ := HTr.out.any.wform
   have H1 := qH (show (#[v] : Array Value).all (·.oneCell') = true from by rw [hvf]; simp [Value.oneCell'])
   clear hvf
   go_wp2_with (first
    | (refine wpList_load_row rfl 30 _ rfl (Bt + 1) rfl 30 #[v] (0, 0) _ HB.out Tryz.underlying30 rfl info30b ?_)
    | (refine wpList_store_row rfl 30 _ _ rfl Bt #[v] rfl rfl 30 #[.slice none 0 0] HA.out info30b rfl H1.out ?_))
   have hkS : Kp [Bt] wr (wr.setRow Bt #[v]) := (Kp.refl _ _).setRow (.inl (by simp)) _
   have ht := (HTr.out.kpT hkS (by omega)).up (show M - 0 ≤ n by have := HMn.out; omega) (show w.heap.size ≤ Bt + 2 by have := HBt.out; omega)
   have htq : Tp (wr.setRow Bt #[v]) tb kt := HT.out.keep fun b hb => hkS.block b (Nat.lt_of_le_of_lt hb HT.out.lt) (by have := Htb.out; simp; omega)
   exact bodyPost_ret (v := .agg #[v]) (results_cell_row Tryz.results6 _ _ Bt 30 #[v] _ _ rfl (setRow_heap _ _ _ _ _ _ HA.out) Tryz.underlying30 rfl info30b) rfl ⟨v, L, rfl, ht, ⟨kt, by have := HMn.out; omega, htq⟩, HK.out.setRow (.inr (by have := HBt.out; omega)) _⟩
  | succ m =>
   have hz : (0 : Int) < ((m + 1 : Nat) : Int) := by omega
   obtain ⟨va, vc, hvf, hvc, hvr⟩ := HTr.out.any.wform
   have hL : L.length ≤ 20 := by have := HTr.out.len; have := HMn.out; omega
   have HLl := qH hL
   have HVR := qH hvr
   obtain ⟨N, hN⟩ : ∃ N, L.length = N := ⟨_, rfl⟩
   rw [hN] at hvf hvc
   have HNn := qH hN
   subst hvf
   have HDV := qH (fun W (hk : Kp [] wr W) => wdev_any (k := kt) (by have := HMn.out; omega) (HT.out.kp hk (by simp)) L va vc (by have := HLl.out; omega) (fun i x hx => by
    obtain ⟨g, o, e, hg, hc⟩ := HVR.out i x hx
    exact ⟨g, o, e, Nat.lt_of_lt_of_le hg hk.size, by
     have := HTr.out.off.v g (by rw [e]; rfl)
     have := Htb.out
     omega, fun j y hy => cell_kp hk (hc j y hy)⟩))
   rw [hN] at HDV
   clear hN hL hvr
   go_upto_region 5 with fail
   have hdr := (Kp.refl [] wr).drew 1
   go_cut [7, 8] (fun s7 s8 wx => ∃ (R : Nat) (a : Option Addr) (q c : Nat) (er : Int) (kt' : Nat), s7 = .pointer (some ⟨R, 0, none⟩) ∧ s8 = .int .i64 er ∧ kt' ≤ kt + 40 ∧ Hid (wx.heap[R]? = some (.cells #[.slice a q c] 30 (0, 0))) ∧ Hid (∃ L', er = 0 → TreeAt wx (Bt + 2) (M - m) (.slice a q c) L') ∧ Hid (TreeAt wx (Bt + 2) (M - m) (.slice va N vc) L) ∧ Hid (Tp wx tb kt') ∧ Hid (Kp [tb] w wx) ∧ Hid (wx.heap[Bt]? = some (.cells #[.slice none 0 0] 30 (0, 0))) ∧ Hid (wx.heap[Bt + 1]? = some (.cells #[.slice va N vc] 30 (0, 0))))
   case first =>
    refine wp_region_held_drew (S := fun W => W.heap[Bt + 1]? = some (.cells #[.slice va N vc] 30 (0, 0))) (by kernel_rfl) (show wr.drew.heap[Bt + 1]? = some (.cells #[.slice va N vc] 30 (0, 0)) from HB.out) (fun hHeld => ?_)
    generalize hwd : wr.drew = wd at *
    have HKd := qH (show Kp [] wr wd from by rw [← hwd]; exact hdr)
    clear hwd
    refine wpAnyH_take (i := 0) (oi := ⟨some 18, .load 30 (.tmp 5), 30, "tree.go:59", #[], none⟩) (v := .agg #[.slice va N vc]) rfl (by kernel_rfl) (by kernel_rfl) (by kernel_rfl) (fun _ _ _ h => h) (Or.inl ⟨by rfl, fun w hSw => by (try dsimp only at hSw); have t0 := cell_one hSw; go_simp⟩) hHeld ?_
    try simp only [aP, lA, lB, lC]
    refine wpAnyH_take (i := 1) (oi := ⟨some 19, .move (.tmp 0), 25, "tree.go:59", #[], none⟩) (v := .pointer (some ⟨tb, 0, none⟩)) rfl (by kernel_rfl) (by kernel_rfl) (by kernel_rfl) (fun _ _ _ h => h) (Or.inl ⟨by rfl, fun w hSw => by (try dsimp only at hSw); go_simp⟩) hHeld ?_
    try simp only [aP, lA, lB, lC]
    refine wpAnyH_take (i := 2) (oi := ⟨some 20, .load 30 (.tmp 5), 30, "tree.go:59", #[], none⟩) (v := .agg #[.slice va N vc]) rfl (by kernel_rfl) (by kernel_rfl) (by kernel_rfl) (fun _ _ _ h => h) (Or.inl ⟨by rfl, fun w hSw => by (try dsimp only at hSw); have t0 := cell_one hSw; go_simp⟩) hHeld ?_
    try simp only [aP, lA, lB, lC]
    refine wpAnyH_ready (rs := [3, 8]) (by kernel_rfl) (by simp) ?_
    refine AllReadyH.cons (o := ⟨some 21, .call { callee := .value (.func 18), args := #[.tmp 19, .tmp 20], argTypes := #[25, 30] }, 40, "tree.go:59", #[⟨1, .data⟩, ⟨2, .data⟩], none⟩) rfl (fun K hK => ?_) (AllReadyH.cons (o := ⟨some 7, .alloc 30, 0, "tree.go:59", #[], none⟩) rfl (fun K hK => ?_) AllReadyH.nil)
    ·skip
     go_simp
     go_at_call 18
     refine cM (by with_reducible exact HDV.out _ HKd.out) ?_
     rintro e wd3 ⟨d, la, rfl, hat, hsx, hll, ⟨kd, hkd, htp⟩, hkp, hfr⟩
     dsimp only
     have HAd := qH hat
     have HSX := qH hsx
     have HLL := qH hll
     have HTd := qH htp
     have HKT := qH ((HKd.out.mono (by simp)).trans hkp)
     have HFr := qH (show ∀ b, d.av.ownBlock = some b → Bt + 2 ≤ b from fun b hb => by have := hfr b hb; have := HKd.out.size; have := block_lt HB.out; omega)
     have hS := (hkp.block (Bt + 1) (block_lt hHeld) (by have := Htb.out; simp; omega)).trans hHeld
     clear hat hsx hll htp hkp hfr
     clear hHeld
     refine hK.out _ _ hS (fun hHeld => ?_)
     try simp only [aP, lA, lB, lC]
     clear hK
     refine wpAnyH_ready (rs := [4, 8]) (by kernel_rfl) (by simp) ?_
     refine AllReadyH.cons (o := ⟨some 22, .call { callee := .value (.func 17), args := #[.tmp 18, .tmp 21], argTypes := #[30, 40] }, 57, "tree.go:59", #[⟨0, .data⟩, ⟨3, .data⟩, ⟨3, .chain⟩], none⟩) rfl (fun K hK => ?_) (AllReadyH.cons (o := ⟨some 7, .alloc 30, 0, "tree.go:59", #[], none⟩) rfl (fun K hK => ?_) AllReadyH.nil)
     ·skip
      go_simp
      go_at_call 17
      refine cM (by with_reducible exact insert_tree (HTr.out.kpT HKT.out (by have := Htb.out; omega)) HAd.out HSX.out HLL.out HFr.out (MaxT HM.out H0.out (HK.out.trans HKT.out)) (by have := HKT.out.size; have := block_lt HB.out; omega)) ?_
      rintro e w6 ⟨hk6, a6, m6, c6, er, rfl, L6, hl6, hi6⟩
      dsimp only
      have HI := qH hi6
      have HT6 := qH (HTd.out.kp hk6 (by simp))
      have HK6 := qH (HKT.out.trans (hk6.mono (by simp)))
      have hS := (hk6.block (Bt + 1) (block_lt hHeld) (by simp)).trans hHeld
      clear hk6 hi6 hl6
      clear hHeld
      refine hK.out _ _ hS (fun hHeld => ?_)
      try simp only [aP, lA, lB, lC]
      clear hK
      refine wpAnyH_take (i := 5) (oi := ⟨some 17, .move (.tmp 22), 57, "tree.go:59", #[⟨4, .data⟩], none⟩) (v := .tuple #[.agg #[.slice a6 m6 c6], .int .i64 er]) rfl (by kernel_rfl) (by kernel_rfl) (by kernel_rfl) (fun _ _ _ h => h) (Or.inl ⟨by rfl, fun w hSw => by (try dsimp only at hSw); go_simp⟩) hHeld ?_
      try simp only [aP, lA, lB, lC]
      refine wpAnyH_take (i := 6) (oi := ⟨some 23, .extract (.tmp 17) 0, 30, "tree.go:59", #[⟨5, .data⟩], none⟩) (v := .agg #[.slice a6 m6 c6]) rfl (by kernel_rfl) (by kernel_rfl) (by kernel_rfl) (fun _ _ _ h => h) (Or.inl ⟨by rfl, fun w hSw => by (try dsimp only at hSw); go_simp⟩) hHeld ?_
      try simp only [aP, lA, lB, lC]
      refine wpAnyH_take (i := 7) (oi := ⟨some 24, .extract (.tmp 17) 1, 56, "tree.go:59", #[⟨5, .data⟩, { on := 9, ground := .gcOnly Departure.lateStores }], none⟩) (v := .int .i64 er) rfl (by kernel_rfl) (by kernel_rfl) (by kernel_rfl) (fun _ _ _ h => h) (Or.inl ⟨by rfl, fun w hSw => by (try dsimp only at hSw); go_simp⟩) hHeld ?_
      try simp only [aP, lA, lB, lC]
      refine wpAnyH_ready (rs := [8]) (by kernel_rfl) (by simp) ?_
      refine AllReadyH.cons (o := ⟨some 7, .alloc 30, 0, "tree.go:59", #[], none⟩) rfl (fun K hK => ?_) AllReadyH.nil
      go_simp
      have hkn := (Kp.refl [] w6).alloc (.cells #[.slice none 0 0] 30)
      have hr8 := heap_alloc_last w6 (.cells #[.slice none 0 0] 30)
      obtain ⟨R8, hR8⟩ : ∃ R, w6.heap.size = R := ⟨_, rfl⟩
      generalize w6.alloc (.cells #[.slice none 0 0] 30) = w8 at *
      rw [hR8] at hr8 ⊢
      have HRr := qH hr8
      have HRge := qH (show wr.heap.size ≤ R8 from by rw [← hR8]; exact HK6.out.size)
      have hS := (hkn.block (Bt + 1) (block_lt hHeld) (by simp)).trans hHeld
      have HK8 := qH (HK6.out.trans (hkn.mono (by simp)))
      have HT8 := qH (HT6.out.kp hkn (by simp))
      have HI8 := qH (fun h => (HI.out h).kp hkn)
      clear hkn hr8 hR8
      clear hHeld
      refine hK.out _ _ hS (fun hHeld => ?_)
      try simp only [aP, lA, lB, lC]
      clear hK
      refine wpAnyH_ready (rs := [9]) (by kernel_rfl) (by simp) ?_
      refine AllReadyH.cons (o := ⟨none, .store 30 (.tmp 7) (.tmp 23), 0, "tree.go:59", #[⟨8, .data⟩, ⟨6, .data⟩, ⟨4, .chain⟩, ⟨0, .phase⟩, ⟨1, .phase⟩, ⟨2, .phase⟩, ⟨3, .phase⟩, ⟨4, .phase⟩, ⟨5, .phase⟩, ⟨6, .phase⟩, { on := 7, ground := .textOnly Departure.lateStores }, ⟨8, .phase⟩], none⟩) rfl (fun K hK => ?_) AllReadyH.nil
      have q0 := cell_one HRr.out
      have qf := frz_one HRr.out
      go_simp
      have HRr0 := HRr
      have HRe := qH (set_one (v := .slice a6 m6 c6) HRr.out)
      have HRB := qH (show Bt + 2 ≤ R8 from by have := HRge.out; have := block_lt HB.out; omega)
      have hkR : Kp [R8] w8 (w8.setCell ⟨R8, 0, none⟩ (.slice a6 m6 c6)) := (Kp.refl _ _).setCell (p := ⟨R8, 0, none⟩) (.inl (by simp)) _
      generalize w8.setCell ⟨R8, 0, none⟩ (.slice a6 m6 c6) = we at *
      clear q0 qf
      have hS := (hkR.block (Bt + 1) (block_lt hHeld) (by have := HRB.out; simp; omega)).trans hHeld
      have HkR := qH hkR
      have HKe := qH (show Kp [tb] wr we from HK8.out.up hkR (by intro x hx; simp at hx; subst hx; exact .inr HRge.out))
      clear hkR
      clear hHeld
      refine hK.out _ _ hS (fun hHeld => ?_)
      try simp only [aP, lA, lB, lC]
      clear hK
      refine wpAnyH_ready (rs := [10]) (by kernel_rfl) (by simp) ?_
      refine AllReadyH.cons (o := ⟨some 8, .assign (.tmp 24), 56, "tree.go:59", #[⟨7, .data⟩, ⟨9, .chain⟩, ⟨0, .phase⟩, ⟨1, .phase⟩, ⟨2, .phase⟩, ⟨3, .phase⟩, ⟨4, .phase⟩, ⟨5, .phase⟩, ⟨6, .phase⟩, ⟨7, .phase⟩, ⟨8, .phase⟩, ⟨9, .phase⟩], none⟩) rfl (fun K hK => ?_) AllReadyH.nil
      have HBf := qH hHeld
      go_simp
      clear hHeld
      refine hK.out _ _ HBf.out (fun hHeld => ?_)
      try simp only [aP, lA, lB, lC]
      clear hK
      refine wpAnyH_done (by kernel_rfl) ?_ _
      clear hHeld
      have HKa := qH (show Kp [tb] w we from HK.out.trans HKe.out)
      go_wp2
      go_meet
      exact ⟨R8, a6, m6, c6, er, kd, rfl, rfl, by omega, HRe, qH ⟨L6, fun h => (show M - (m + 1) + 1 = M - m from by omega) ▸ (HI8.out h).kpR HkR.out HRr0.out⟩, qH ((((HTr.out.kpT HK8.out (by have := Htb.out; omega))).kpR HkR.out HRr0.out).up (by omega) (Nat.le_refl _)), qH (HT8.out.keep fun b hb => HkR.out.block b (Nat.lt_of_le_of_lt hb HT8.out.lt) (by have := Htb.out; have := HRB.out; simp; omega)), HKa, qH ((HKe.out.block Bt (block_lt HA.out) (by have := Htb.out; simp; omega)).trans HA.out), HBf⟩
     ·skip
      go_simp
      have hkn := (Kp.refl [] wd3).alloc (.cells #[.slice none 0 0] 30)
      have hr8 := heap_alloc_last wd3 (.cells #[.slice none 0 0] 30)
      obtain ⟨R8, hR8⟩ : ∃ R, wd3.heap.size = R := ⟨_, rfl⟩
      generalize wd3.alloc (.cells #[.slice none 0 0] 30) = w8 at *
      rw [hR8] at hr8 ⊢
      have HRr := qH hr8
      have HRge := qH (show wr.heap.size ≤ R8 from by rw [← hR8]; exact HKT.out.size)
      have hS := (hkn.block (Bt + 1) (block_lt hHeld) (by simp)).trans hHeld
      have HK8 := qH (HKT.out.trans (hkn.mono (by simp)))
      have HT8 := qH (HTd.out.kp hkn (by simp))
      have HA8 := qH (HAd.out.keep hkn.size fun b hb _ => hkn.block b hb (by simp))
      clear hkn hr8 hR8
      clear hHeld
      refine hK.out _ _ hS (fun hHeld => ?_)
      try simp only [aP, lA, lB, lC]
      clear hK
      refine wpAnyH_ready (rs := [4]) (by kernel_rfl) (by simp) ?_
      refine AllReadyH.cons (o := ⟨some 22, .call { callee := .value (.func 17), args := #[.tmp 18, .tmp 21], argTypes := #[30, 40] }, 57, "tree.go:59", #[⟨0, .data⟩, ⟨3, .data⟩, ⟨3, .chain⟩], none⟩) rfl (fun K hK => ?_) AllReadyH.nil
      go_simp
      go_at_call 17
      refine cM (by with_reducible exact insert_tree (HTr.out.kpT HK8.out (by have := Htb.out; omega)) HA8.out HSX.out HLL.out HFr.out (MaxT HM.out H0.out (HK.out.trans HK8.out)) (by have := HK8.out.size; have := block_lt HB.out; omega)) ?_
      rintro e w6 ⟨hk6, a6, m6, c6, er, rfl, L6, hl6, hi6⟩
      dsimp only
      have HI := qH hi6
      have HT6 := qH (HT8.out.kp hk6 (by simp))
      have HK6 := qH (HK8.out.trans (hk6.mono (by simp)))
      have hS := (hk6.block (Bt + 1) (block_lt hHeld) (by simp)).trans hHeld
      have HRr := qH ((hk6.block _ (block_lt HRr.out) (by simp)).trans HRr.out)
      clear hk6 hi6 hl6
      clear hHeld
      refine hK.out _ _ hS (fun hHeld => ?_)
      try simp only [aP, lA, lB, lC]
      clear hK
      refine wpAnyH_take (i := 5) (oi := ⟨some 17, .move (.tmp 22), 57, "tree.go:59", #[⟨4, .data⟩], none⟩) (v := .tuple #[.agg #[.slice a6 m6 c6], .int .i64 er]) rfl (by kernel_rfl) (by kernel_rfl) (by kernel_rfl) (fun _ _ _ h => h) (Or.inl ⟨by rfl, fun w hSw => by (try dsimp only at hSw); go_simp⟩) hHeld ?_
      try simp only [aP, lA, lB, lC]
      refine wpAnyH_take (i := 6) (oi := ⟨some 23, .extract (.tmp 17) 0, 30, "tree.go:59", #[⟨5, .data⟩], none⟩) (v := .agg #[.slice a6 m6 c6]) rfl (by kernel_rfl) (by kernel_rfl) (by kernel_rfl) (fun _ _ _ h => h) (Or.inl ⟨by rfl, fun w hSw => by (try dsimp only at hSw); go_simp⟩) hHeld ?_
      try simp only [aP, lA, lB, lC]
      refine wpAnyH_take (i := 7) (oi := ⟨some 24, .extract (.tmp 17) 1, 56, "tree.go:59", #[⟨5, .data⟩, { on := 9, ground := .gcOnly Departure.lateStores }], none⟩) (v := .int .i64 er) rfl (by kernel_rfl) (by kernel_rfl) (by kernel_rfl) (fun _ _ _ h => h) (Or.inl ⟨by rfl, fun w hSw => by (try dsimp only at hSw); go_simp⟩) hHeld ?_
      try simp only [aP, lA, lB, lC]
      refine wpAnyH_ready (rs := [9]) (by kernel_rfl) (by simp) ?_
      refine AllReadyH.cons (o := ⟨none, .store 30 (.tmp 7) (.tmp 23), 0, "tree.go:59", #[⟨8, .data⟩, ⟨6, .data⟩, ⟨4, .chain⟩, ⟨0, .phase⟩, ⟨1, .phase⟩, ⟨2, .phase⟩, ⟨3, .phase⟩, ⟨4, .phase⟩, ⟨5, .phase⟩, ⟨6, .phase⟩, { on := 7, ground := .textOnly Departure.lateStores }, ⟨8, .phase⟩], none⟩) rfl (fun K hK => ?_) AllReadyH.nil
      have q0 := cell_one HRr.out
      have qf := frz_one HRr.out
      go_simp
      have HRr0 := HRr
      have HRe := qH (set_one (v := .slice a6 m6 c6) HRr.out)
      have HRB := qH (show Bt + 2 ≤ R8 from by have := HRge.out; have := block_lt HB.out; omega)
      have hkR : Kp [R8] w6 (w6.setCell ⟨R8, 0, none⟩ (.slice a6 m6 c6)) := (Kp.refl _ _).setCell (p := ⟨R8, 0, none⟩) (.inl (by simp)) _
      generalize w6.setCell ⟨R8, 0, none⟩ (.slice a6 m6 c6) = we at *
      clear q0 qf
      have hS := (hkR.block (Bt + 1) (block_lt hHeld) (by have := HRB.out; simp; omega)).trans hHeld
      have HkR := qH hkR
      have HKe := qH (show Kp [tb] wr we from HK6.out.up hkR (by intro x hx; simp at hx; subst hx; exact .inr HRge.out))
      clear hkR
      clear hHeld
      refine hK.out _ _ hS (fun hHeld => ?_)
      try simp only [aP, lA, lB, lC]
      clear hK
      refine wpAnyH_ready (rs := [10]) (by kernel_rfl) (by simp) ?_
      refine AllReadyH.cons (o := ⟨some 8, .assign (.tmp 24), 56, "tree.go:59", #[⟨7, .data⟩, ⟨9, .chain⟩, ⟨0, .phase⟩, ⟨1, .phase⟩, ⟨2, .phase⟩, ⟨3, .phase⟩, ⟨4, .phase⟩, ⟨5, .phase⟩, ⟨6, .phase⟩, ⟨7, .phase⟩, ⟨8, .phase⟩, ⟨9, .phase⟩], none⟩) rfl (fun K hK => ?_) AllReadyH.nil
      have HBf := qH hHeld
      go_simp
      clear hHeld
      refine hK.out _ _ HBf.out (fun hHeld => ?_)
      try simp only [aP, lA, lB, lC]
      clear hK
      refine wpAnyH_done (by kernel_rfl) ?_ _
      clear hHeld
      have HKa := qH (show Kp [tb] w we from HK.out.trans HKe.out)
      go_wp2
      go_meet
      exact ⟨R8, a6, m6, c6, er, kd, rfl, rfl, by omega, HRe, qH ⟨L6, fun h => (show M - (m + 1) + 1 = M - m from by omega) ▸ (HI.out h).kpR HkR.out HRr0.out⟩, qH ((((HTr.out.kpT HK6.out (by have := Htb.out; omega))).kpR HkR.out HRr0.out).up (by omega) (Nat.le_refl _)), qH (HT6.out.keep fun b hb => HkR.out.block b (Nat.lt_of_le_of_lt hb HT6.out.lt) (by have := Htb.out; have := HRB.out; simp; omega)), HKa, qH ((HKe.out.block Bt (block_lt HA.out) (by have := Htb.out; simp; omega)).trans HA.out), HBf⟩
    ·skip
     go_simp
     have hkn := (Kp.refl [] wd).alloc (.cells #[.slice none 0 0] 30)
     have hr8 := heap_alloc_last wd (.cells #[.slice none 0 0] 30)
     obtain ⟨R8, hR8⟩ : ∃ R, wd.heap.size = R := ⟨_, rfl⟩
     generalize wd.alloc (.cells #[.slice none 0 0] 30) = w8 at *
     rw [hR8] at hr8 ⊢
     have HRr := qH hr8
     have HRge := qH (show wr.heap.size ≤ R8 from by rw [← hR8]; exact HKd.out.size)
     have hS := (hkn.block (Bt + 1) (block_lt hHeld) (by simp)).trans hHeld
     have HK8 := qH (HKd.out.trans hkn)
     clear hkn hr8 hR8
     clear hHeld
     refine hK.out _ _ hS (fun hHeld => ?_)
     try simp only [aP, lA, lB, lC]
     clear hK
     refine wpAnyH_ready (rs := [3]) (by kernel_rfl) (by simp) ?_
     refine AllReadyH.cons (o := ⟨some 21, .call { callee := .value (.func 18), args := #[.tmp 19, .tmp 20], argTypes := #[25, 30] }, 40, "tree.go:59", #[⟨1, .data⟩, ⟨2, .data⟩], none⟩) rfl (fun K hK => ?_) AllReadyH.nil
     go_simp
     go_at_call 18
     refine cM (by with_reducible exact HDV.out _ HK8.out) ?_
     rintro e wd3 ⟨d, la, rfl, hat, hsx, hll, ⟨kd, hkd, htp⟩, hkp, hfr⟩
     dsimp only
     have HAd := qH hat
     have HSX := qH hsx
     have HLL := qH hll
     have HTd := qH htp
     have HKT := qH ((HK8.out.mono (by simp)).trans hkp)
     have HFr := qH (show ∀ b, d.av.ownBlock = some b → Bt + 2 ≤ b from fun b hb => by have := hfr b hb; have := HK8.out.size; have := block_lt HB.out; omega)
     have hS := (hkp.block (Bt + 1) (block_lt hHeld) (by have := Htb.out; simp; omega)).trans hHeld
     have HRr := qH ((hkp.block _ (block_lt HRr.out) (by have := HRge.out; have := HT.out.lt; simp; omega)).trans HRr.out)
     clear hat hsx hll htp hkp hfr
     clear hHeld
     refine hK.out _ _ hS (fun hHeld => ?_)
     try simp only [aP, lA, lB, lC]
     clear hK
     refine wpAnyH_ready (rs := [4]) (by kernel_rfl) (by simp) ?_
     refine AllReadyH.cons (o := ⟨some 22, .call { callee := .value (.func 17), args := #[.tmp 18, .tmp 21], argTypes := #[30, 40] }, 57, "tree.go:59", #[⟨0, .data⟩, ⟨3, .data⟩, ⟨3, .chain⟩], none⟩) rfl (fun K hK => ?_) AllReadyH.nil
     go_simp
     go_at_call 17
     refine cM (by with_reducible exact insert_tree (HTr.out.kpT HKT.out (by have := Htb.out; omega)) HAd.out HSX.out HLL.out HFr.out (MaxT HM.out H0.out (HK.out.trans HKT.out)) (by have := HKT.out.size; have := block_lt HB.out; omega)) ?_
     rintro e w6 ⟨hk6, a6, m6, c6, er, rfl, L6, hl6, hi6⟩
     dsimp only
     have HI := qH hi6
     have HT6 := qH (HTd.out.kp hk6 (by simp))
     have HK6 := qH (HKT.out.trans (hk6.mono (by simp)))
     have hS := (hk6.block (Bt + 1) (block_lt hHeld) (by simp)).trans hHeld
     have HRr := qH ((hk6.block _ (block_lt HRr.out) (by simp)).trans HRr.out)
     clear hk6 hi6 hl6
     clear hHeld
     refine hK.out _ _ hS (fun hHeld => ?_)
     try simp only [aP, lA, lB, lC]
     clear hK
     refine wpAnyH_take (i := 5) (oi := ⟨some 17, .move (.tmp 22), 57, "tree.go:59", #[⟨4, .data⟩], none⟩) (v := .tuple #[.agg #[.slice a6 m6 c6], .int .i64 er]) rfl (by kernel_rfl) (by kernel_rfl) (by kernel_rfl) (fun _ _ _ h => h) (Or.inl ⟨by rfl, fun w hSw => by (try dsimp only at hSw); go_simp⟩) hHeld ?_
     try simp only [aP, lA, lB, lC]
     refine wpAnyH_take (i := 6) (oi := ⟨some 23, .extract (.tmp 17) 0, 30, "tree.go:59", #[⟨5, .data⟩], none⟩) (v := .agg #[.slice a6 m6 c6]) rfl (by kernel_rfl) (by kernel_rfl) (by kernel_rfl) (fun _ _ _ h => h) (Or.inl ⟨by rfl, fun w hSw => by (try dsimp only at hSw); go_simp⟩) hHeld ?_
     try simp only [aP, lA, lB, lC]
     refine wpAnyH_take (i := 7) (oi := ⟨some 24, .extract (.tmp 17) 1, 56, "tree.go:59", #[⟨5, .data⟩, { on := 9, ground := .gcOnly Departure.lateStores }], none⟩) (v := .int .i64 er) rfl (by kernel_rfl) (by kernel_rfl) (by kernel_rfl) (fun _ _ _ h => h) (Or.inl ⟨by rfl, fun w hSw => by (try dsimp only at hSw); go_simp⟩) hHeld ?_
     try simp only [aP, lA, lB, lC]
     refine wpAnyH_ready (rs := [9]) (by kernel_rfl) (by simp) ?_
     refine AllReadyH.cons (o := ⟨none, .store 30 (.tmp 7) (.tmp 23), 0, "tree.go:59", #[⟨8, .data⟩, ⟨6, .data⟩, ⟨4, .chain⟩, ⟨0, .phase⟩, ⟨1, .phase⟩, ⟨2, .phase⟩, ⟨3, .phase⟩, ⟨4, .phase⟩, ⟨5, .phase⟩, ⟨6, .phase⟩, { on := 7, ground := .textOnly Departure.lateStores }, ⟨8, .phase⟩], none⟩) rfl (fun K hK => ?_) AllReadyH.nil
     have q0 := cell_one HRr.out
     have qf := frz_one HRr.out
     go_simp
     have HRr0 := HRr
     have HRe := qH (set_one (v := .slice a6 m6 c6) HRr.out)
     have HRB := qH (show Bt + 2 ≤ R8 from by have := HRge.out; have := block_lt HB.out; omega)
     have hkR : Kp [R8] w6 (w6.setCell ⟨R8, 0, none⟩ (.slice a6 m6 c6)) := (Kp.refl _ _).setCell (p := ⟨R8, 0, none⟩) (.inl (by simp)) _
     generalize w6.setCell ⟨R8, 0, none⟩ (.slice a6 m6 c6) = we at *
     clear q0 qf
     have hS := (hkR.block (Bt + 1) (block_lt hHeld) (by have := HRB.out; simp; omega)).trans hHeld
     have HkR := qH hkR
     have HKe := qH (show Kp [tb] wr we from HK6.out.up hkR (by intro x hx; simp at hx; subst hx; exact .inr HRge.out))
     clear hkR
     clear hHeld
     refine hK.out _ _ hS (fun hHeld => ?_)
     try simp only [aP, lA, lB, lC]
     clear hK
     refine wpAnyH_ready (rs := [10]) (by kernel_rfl) (by simp) ?_
     refine AllReadyH.cons (o := ⟨some 8, .assign (.tmp 24), 56, "tree.go:59", #[⟨7, .data⟩, ⟨9, .chain⟩, ⟨0, .phase⟩, ⟨1, .phase⟩, ⟨2, .phase⟩, ⟨3, .phase⟩, ⟨4, .phase⟩, ⟨5, .phase⟩, ⟨6, .phase⟩, ⟨7, .phase⟩, ⟨8, .phase⟩, ⟨9, .phase⟩], none⟩) rfl (fun K hK => ?_) AllReadyH.nil
     have HBf := qH hHeld
     go_simp
     clear hHeld
     refine hK.out _ _ HBf.out (fun hHeld => ?_)
     try simp only [aP, lA, lB, lC]
     clear hK
     refine wpAnyH_done (by kernel_rfl) ?_ _
     clear hHeld
     have HKa := qH (show Kp [tb] w we from HK.out.trans HKe.out)
     go_wp2
     go_meet
     exact ⟨R8, a6, m6, c6, er, kd, rfl, rfl, by omega, HRe, qH ⟨L6, fun h => (show M - (m + 1) + 1 = M - m from by omega) ▸ (HI.out h).kpR HkR.out HRr0.out⟩, qH ((((HTr.out.kpT HK6.out (by have := Htb.out; omega))).kpR HkR.out HRr0.out).up (by omega) (Nat.le_refl _)), qH (HT6.out.keep fun b hb => HkR.out.block b (Nat.lt_of_le_of_lt hb HT6.out.lt) (by have := Htb.out; have := HRB.out; simp; omega)), HKa, qH ((HKe.out.block Bt (block_lt HA.out) (by have := Htb.out; simp; omega)).trans HA.out), HBf⟩
   case rest =>
    obtain ⟨R, a, q, c, er, kt', rfl, rfl, hk', HR, HL', HTr, HT, HK, HA, HB⟩ := hcut
    by_cases he : er = 0
    ·subst he
     obtain ⟨L', hL'⟩ := HL'.out
     have HL2 := qH (hL' rfl)
     have H1 := qH (show (#[.slice a q c] : Array Value).all (·.oneCell') = true from by simp [Value.oneCell'])
     clear hL'
     go_wp2_with (first
      | (refine wpList_load_row rfl 30 _ rfl R rfl 30 #[.slice a q c] (0, 0) _ HR.out Tryz.underlying30 rfl info30b ?_)
      | (refine wpList_store_row rfl 30 _ _ rfl (Bt + 1) #[.slice a q c] rfl rfl 30 #[.slice va N vc] HB.out info30b rfl H1.out ?_))
     have hkS : Kp [Bt + 1] wc (wc.setRow (Bt + 1) #[.slice a q c]) := (Kp.refl _ _).setRow (.inl (by simp)) _
     exact ⟨⟨m, kt', .slice a q c, L', by omega, by go_num, by omega, qH (HL2.out.kpT hkS (by omega)), qH (HT.out.keep fun b hb => hkS.block b (Nat.lt_of_le_of_lt hb HT.out.lt) (by have := Htb.out; simp; omega)), qH (HK.out.setRow (.inr (by have := HBt.out; omega)) _), qH ((hkS.block Bt (block_lt HA.out) (by simp)).trans HA.out), qH (setRow_heap _ _ _ _ _ _ HB.out)⟩, by (simp [intOf] <;> omega)⟩
    ·have hen : (er == 0) = false := beq_eq_false_iff_ne.2 he
     go_wp2
     exact ⟨⟨m, kt', .slice va N vc, L, by omega, by go_num, by omega, HTr, HT, HK, HA, HB⟩, by (simp [intOf] <;> omega)⟩
end Go.Proofs.YtljkljnfbcmjdaaGreatDoor
namespace Go.Proofs.YtljkljnfbcmjdaaGreatDoor
open Go.RowKit
theorem wf_num {q : Int} (h0 : -1 ≤ q) (h1 : q ≤ 1073741824) : (Lit.int .i64 q).wf = true := by
 have h2 : IntKind.i64.min = -9223372036854775808 := rfl
 have h3 : IntKind.i64.max = 9223372036854775807 := rfl
 simp [Lit.wf, h2, h3]
 omega
theorem sml_idx {x : De.ADev} (h : sndA x = true) : (1 ≤ x.idx ∧ x.idx ≤ 1073741824) ∧ 0 ≤ x.par ∧ x.par ≤ 1073741824 := by
 have hc : De.checkE (vDev x) x.ats = 0 := of_decide_eq_true h
 unfold De.checkE at hc
 split at hc
 ·cases hc
 ·rename_i h1
  have h1 : De.placeB (vDev x) = true := by simpa using h1
  unfold De.placeB De.isNum at h1
  simp only [Bool.and_eq_true, Bool.or_eq_true, decide_eq_true_eq, beq_iff_eq] at h1
  have e1 : (vDev x).idx = x.idx := rfl
  have e2 : (vDev x).par = x.par := rfl
  rw [e1, e2] at h1
  refine ⟨h1.1, ?_⟩
  rcases h1.2.1 with h | h <;> omega
theorem tree_ok {W : World} {B n : Nat} {v : Value} {L : List De.DV} (h : TreeAt W B n v L) (hn : n ≤ 1000000) : TrOk L := by
 have hsd : ∀ x ∈ L, sndA x.1 = true := fun x hx => h.val.sound _ (List.mem_map.2 ⟨x, hx, rfl⟩)
 refine ⟨Nat.le_trans h.len hn, fun x hx => ?_, fun x hx => ?_, fun x hx => ?_⟩
 ·obtain ⟨h1, h2⟩ := h.sml x hx
  exact ⟨Nat.le_trans h1.o (by decide), Nat.le_trans h1.s (by decide), Nat.le_trans h1.r (by decide), fun y hy => Nat.le_trans (h1.a y hy).2 (by decide), by omega⟩
 ·have := (sml_idx (hsd x hx)).1
  exact wf_num (by omega) (by omega)
 ·have := (sml_idx (hsd x hx)).2
  exact wf_num (by omega) (by omega)
theorem some_any {w : World} {tb k n : Nat} {v : Value} {L : List De.DV} (hk : k ≤ 900000) (h : Tp w tb k) (ht : TreeAt w (tb + 1) n v L) (hn : n ≤ 1000) : Calls Tryz.prog 7 #[.pointer (some ⟨tb, 0, none⟩), .agg #[v]] w fun e w' => ∃ q : Int, e = .returned (.int .i64 q) ∧ (Lit.int .i64 q).wf = true ∧ Tq w' tb (k + 2) ∧ Kp [tb] w w' := by
 obtain ⟨va, vc, rfl, hvc, hvr⟩ := ht.any.wform
 have HWF := qH (tree_ok ht (by omega)).wi
 obtain ⟨N, hN⟩ : ∃ N, L.length = N := ⟨_, rfl⟩
 have hNn : N ≤ 1000 := by have := ht.len; omega
 have HOff := qH ht.off.v
 have HVR := qH hvr
 have HN := qH hN
 rw [hN] at hvc HOff ⊢
 clear hN ht hvr
 obtain ⟨R, hR⟩ : ∃ R, w.heap.size = R := ⟨_, rfl⟩
 obtain ⟨W0, hW⟩ : ∃ W0, w.alloc (.cells #[.slice va N vc] 30) = W0 := ⟨_, rfl⟩
 have hk0 : Kp [] w W0 := by rw [← hW]; exact (Kp.refl [] w).alloc _
 have hA : W0.heap[R]? = some (.cells #[.slice va N vc] 30 (0, 0)) := by rw [← hW, ← hR]; exact heap_alloc_last w _
 have HA := qH hA
 have t0 := cell_one hA
 have HK0 := qH hk0
 have HT0 := qH (h.kp hk0 (by simp))
 have Htb := qH (show tb < R from by rw [← hR]; exact h.lt)
 have H8 := qH (fun W (ht : Tp W tb k) => nextL8 (by omega) ht)
 have H40 := qH (fun W k' (hk' : k' ≤ k + 1) (ht : Tp W tb k') => (show Calls Tryz.prog 16 #[.pointer (some ⟨tb, 0, none⟩), .int .i64 40] W fun e w' => ∃ r : Nat, r < 40 ∧ e = .returned (.int .i64 r) ∧ Tp w' tb (k' + 1) ∧ Kp [tb] W w' from next_kp 40 (by omega) (by omega) (by omega) ht))
 clear hA hk0 h
 by_cases hp : 0 < N
 ·have hpi : (0 : Int) < (N : Int) := by omega
  go_enter Tryz.func7, Tryz.ntmps7
  go_upto_if 15 with (go_at_call 16; refine cM (by with_reducible exact H8.out _ HT0.out) ?_; rintro e w1 ⟨r, hr, rfl, hT, hk1⟩; have HT1 := qH hT; have HK1 := qH ((HK0.out.mono (by simp)).trans hk1); have HA1 := qH ((hk1.block R (block_lt HA.out) (by have := Htb.out; simp; omega)).trans HA.out); clear hT hk1 t0)
  have t0 := cell_one HA1.out
  by_cases hr0 : 0 < r
  ·have hr0i : (0 : Int) < (r : Int) := by omega
   go_upto_region 3 with fail
   have hdr := HA1.out
   have HNx := qH (next_kp N (by omega) (by omega) (by omega) HT1.out)
   refine wp_region_held_drew (S := fun W => Kp [tb] w1 W ∧ W.heap[R]? = some (.cells #[.slice va N vc] 30 (0, 0))) (by kernel_rfl) ⟨(Kp.refl [tb] w1).drew 1, (show w1.drew.heap[R]? = some (.cells #[.slice va N vc] 30 (0, 0)) from hdr)⟩ (fun hHeld => ?_)
   generalize hwd : w1.drew = wd at *
   have HTd := qH (show Tp wd tb (k + 1) from by rw [← hwd]; exact HT1.out.kp ((Kp.refl [] w1).drew 1) (by simp))
   clear hwd
   refine wpAnyH_take (i := 0) (oi := ⟨some 16, .fieldAddr 30 (.tmp 3) 0, 0, "tree.go:69", #[], none⟩) (v := .pointer (some ⟨R, 0, none⟩)) rfl (by kernel_rfl) (by kernel_rfl) (by kernel_rfl) (fun _ _ _ h => h) (Or.inl ⟨by rfl, fun w hSw => by (try dsimp only at hSw); go_simp⟩) hHeld ?_
   try simp only [aP, lA, lB, lC]
   refine wpAnyH_take (i := 1) (oi := ⟨some 17, .load 28 (.tmp 16), 28, "tree.go:69", #[⟨0, .data⟩], none⟩) (v := .slice va N vc) rfl (by kernel_rfl) (by kernel_rfl) (by kernel_rfl) (fun _ _ _ h => h) (Or.inl ⟨by rfl, fun w hSw => by (try dsimp only at hSw); have t0 := cell_one hSw.2; go_simp⟩) hHeld ?_
   try simp only [aP, lA, lB, lC]
   refine wpAnyH_take (i := 2) (oi := ⟨some 18, .move (.tmp 0), 25, "tree.go:69", #[], none⟩) (v := .pointer (some ⟨tb, 0, none⟩)) rfl (by kernel_rfl) (by kernel_rfl) (by kernel_rfl) (fun _ _ _ h => h) (Or.inl ⟨by rfl, fun w hSw => by (try dsimp only at hSw); go_simp⟩) hHeld ?_
   try simp only [aP, lA, lB, lC]
   refine wpAnyH_take (i := 3) (oi := ⟨some 19, .move (.tmp 5), 3, "tree.go:69", #[], none⟩) (v := .int .i64 (N : Int)) rfl (by kernel_rfl) (by kernel_rfl) (by kernel_rfl) (fun _ _ _ h => h) (Or.inl ⟨by rfl, fun w hSw => by (try dsimp only at hSw); go_simp⟩) hHeld ?_
   try simp only [aP, lA, lB, lC]
   refine wpAnyH_ready (rs := [4]) (by kernel_rfl) (by simp) ?_
   refine AllReadyH.cons (o := ⟨some 20, .call { callee := .value (.func 16), args := #[.tmp 18, .tmp 19], argTypes := #[25, 3] }, 3, "tree.go:69", #[⟨2, .data⟩, ⟨3, .data⟩], none⟩) rfl (fun K hK => ?_) AllReadyH.nil
   go_simp
   go_at_call 16
   refine cM (by with_reducible exact next_kp N (by omega) (by omega) (by omega) HTd.out) ?_
   rintro e w2 ⟨q, hq, rfl, hT, hk2⟩
   dsimp only
   have HT2 := qH hT
   have hH : _ ∧ _ := ⟨hHeld.1.trans hk2, (hk2.block R (block_lt hHeld.2) (by have := Htb.out; simp; omega)).trans hHeld.2⟩
   have HK2 := qH (HK1.out.trans hH.1)
   obtain ⟨x, hx⟩ : ∃ x, L[q]? = some x := ⟨L[q]'(by rw [HN.out]; exact hq), List.getElem?_eq_getElem _⟩
   obtain ⟨g, o, rfl, hg, hc⟩ := HVR.out q x hx
   have Hx := qH hx
   have Hgc := qH (hc q x hx)
   have Hg := qH hg
   have Hgt := qH (HOff.out g rfl)
   have hqi : (q : Int) < (N : Int) := by omega
   have hq0 : (0 : Int) ≤ (q : Int) := by omega
   clear hT hk2 hx hg hc
   clear hHeld
   refine hK.out _ _ hH (fun hHeld => ?_)
   try simp only [aP, lA, lB, lC]
   clear hK
   refine wpAnyH_take (i := 5) (oi := ⟨some 21, .indexAddr 28 (.tmp 17) (.tmp 20), 0, "tree.go:69", #[⟨1, .data⟩, ⟨4, .data⟩], none⟩) (v := .pointer (some ⟨g, o + q * 10, none⟩)) rfl (by kernel_rfl) (by kernel_rfl) (by kernel_rfl) (fun _ _ _ h => h) (Or.inl ⟨by rfl, fun w hSw => by (try dsimp only at hSw); go_simp⟩) hHeld ?_
   try simp only [aP, lA, lB, lC]
   refine wpAnyH_take (i := 6) (oi := ⟨some 22, .fieldAddr 40 (.tmp 21) 0, 0, "tree.go:69", #[⟨5, .data⟩], none⟩) (v := .pointer (some ⟨g, o + q * 10, none⟩)) rfl (by kernel_rfl) (by kernel_rfl) (by kernel_rfl) (fun _ _ _ h => h) (Or.inl ⟨by rfl, fun w hSw => by (try dsimp only at hSw); go_simp⟩) hHeld ?_
   try simp only [aP, lA, lB, lC]
   refine wpAnyH_take (i := 7) (oi := ⟨some 23, .load 3 (.tmp 22), 3, "tree.go:69", #[⟨6, .data⟩], none⟩) (v := .int .i64 x.1.idx) rfl (by kernel_rfl) (by kernel_rfl) (by kernel_rfl) (fun _ _ _ h => h) (Or.inl ⟨by rfl, fun w hSw => by (try dsimp only at hSw); have d0 := cell_kpT (HK1.out.trans hSw.1) Hg.out (by have := Hgt.out; simp; omega) Hgc.out; go_simp⟩) hHeld ?_
   try simp only [aP, lA, lB, lC]
   refine wpAnyH_ready (rs := [8]) (by kernel_rfl) (by simp) ?_
   refine AllReadyH.cons (o := ⟨some 4, .assign (.tmp 23), 3, "tree.go:69", #[⟨7, .data⟩, ⟨4, .chain⟩, ⟨0, .phase⟩, ⟨1, .phase⟩, ⟨2, .phase⟩, ⟨3, .phase⟩, ⟨4, .phase⟩, ⟨5, .phase⟩, ⟨6, .phase⟩, ⟨7, .phase⟩], none⟩) rfl (fun K hK => ?_) AllReadyH.nil
   have HSf := qH hHeld
   go_simp
   clear hHeld
   refine hK.out _ _ HSf.out (fun hHeld => ?_)
   try simp only [aP, lA, lB, lC]
   clear hK
   refine wpAnyH_done (by kernel_rfl) ?_ _
   clear hHeld
   go_wp2
   go_ret
   exact ⟨x.1.idx, rfl, HWF.out x (List.mem_of_getElem? Hx.out), ⟨k + 2, by omega, HT2.out⟩, HK2.out⟩
  ·have hr0i : ¬ (0 : Int) < (r : Int) := by omega
   obtain rfl : r = 0 := by omega
   go_wp2_with (go_at_call 16; refine cM (by with_reducible exact H40.out _ (k + 1) (by omega) HT1.out) ?_; rintro e w2 ⟨q, hq, rfl, hT, hk2⟩; have HT2 := qH hT; have HK2 := qH (HK1.out.trans hk2); have hwq : IntKind.i64.wrap ((q : Int) - 1) = (q : Int) - 1 := (by rw [IntKind.wrap_i64]; omega); clear hT hk2)
   go_ret
   exact ⟨(q : Int) - 1, rfl, wf_num (by omega) (by omega), ⟨k + 2, by omega, HT2.out⟩, HK2.out⟩
 ·have hpi : ¬ (0 : Int) < (N : Int) := by omega
  obtain rfl : N = 0 := by omega
  go_enter Tryz.func7, Tryz.ntmps7
  go_wp2_with (go_at_call 16; refine cM (by with_reducible exact H40.out _ k (by omega) HT0.out) ?_; rintro e w2 ⟨q, hq, rfl, hT, hk2⟩; have HT2 := qH hT; have HK2 := qH ((HK0.out.mono (by simp)).trans hk2); have hwq : IntKind.i64.wrap ((q : Int) - 1) = (q : Int) - 1 := (by rw [IntKind.wrap_i64]; omega); clear hT hk2)
  go_ret
  exact ⟨(q : Int) - 1, rfl, wf_num (by omega) (by omega), ⟨k + 1, by omega, HT2.out⟩, HK2.out⟩
end Go.Proofs.YtljkljnfbcmjdaaGreatDoor
namespace Go.Proofs.YtljkljnfbcmjdaaGreatDoor
open Go.RowKit
theorem info46b : (Tryz.prog.info? 46).map (·.size) = some 4 := by kernel_rfl
theorem info46c : (Tryz.prog.info? 46).map (fun i => (i.zero, i.size, i.bytes)) = some (some (.agg #[.int .i64 0, .string ⟨#[]⟩, .int .i64 0, .string ⟨#[]⟩]), 4, 48) := by kernel_rfl
theorem tmC_one (t : Tm) : (tmC t).all (·.oneCell') = true := by simp [tmC, Value.oneCell']
structure UW (w : World) (tb kk R : Nat) (t : Tm) (v : Value) (l : List Tm) (W : World) : Prop where
 bx : W.heap[R]? = some (.cells (tmC t) 46 (0, 0))
 tp : Tp W tb kk
 kp : Kp [tb] w W
 own : tmT.Own W w.heap.size v l
 nb : ∀ b, v.ownBlock = some b → b ≠ R
 ge : w.heap.size ≤ R
theorem UW.next {w W W' : World} {tb kk kk' R : Nat} {t : Tm} {v : Value} {l : List Tm} (h : UW w tb kk R t v l W) (hk : Kp [tb] W W') (ht : Tp W' tb kk') (hb : tb < w.heap.size) : UW w tb kk' R t v l W' :=
 ⟨(hk.block R (block_lt h.bx) (by have := h.ge; simp; omega)).trans h.bx, ht, h.kp.trans hk, own_tb h.own hb hk, h.nb, h.ge⟩
theorem UW.set {w W : World} {tb kk R : Nat} {t t' : Tm} {v : Value} {l : List Tm} (h : UW w tb kk R t v l W) (hb : tb < w.heap.size) : UW w tb kk R t' v l (W.setRow R (tmC t')) := by
 have ho : ∀ b, b ≠ R → (W.setRow R (tmC t')).heap[b]? = W.heap[b]? := fun b hb => setRow_other W R b _ hb
 exact ⟨setRow_heap _ _ _ _ _ _ h.bx, h.tp.keep fun b hb' => ho b (by have := h.ge; omega), h.kp.setRow (.inr h.ge) _, h.own.keep fun b _ e => ho b (h.nb b e), h.nb, h.ge⟩
theorem UW.new {w W : World} {tb kk : Nat} (t : Tm) {v : Value} {l : List Tm} (ht : Tp W tb kk) (hk : Kp [tb] w W) (ho : tmT.Own W w.heap.size v l) : UW w tb kk W.heap.size t v l (W.alloc (.cells (tmC t) 46)) := by
 have hka := (Kp.refl [] W).alloc (.cells (tmC t) 46)
 exact ⟨heap_alloc_last W _, ht.kp hka (by simp), hk.trans (hka.mono (by simp)), ho.kp0 hka, fun b e => by have := (ho.ge b e).2; omega, hk.size⟩
def UwPost (tb k : Nat) (w : World) (e : Ending) (w' : World) : Prop := ∃ u lt, e = .returned u ∧ tmT.Own w' w.heap.size u lt ∧ lt.length ≤ 3 ∧ (∀ t ∈ lt, SmT t) ∧ Tq w' tb (k + 1 + 15 * 3) ∧ Kp [tb] w w'
theorem upw_any {w : World} {tb k : Nat} (hk : k ≤ 700000) (h : Tp w tb k) : Calls Tryz.prog 8 #[.pointer (some ⟨tb, 0, none⟩)] w (UwPost tb k w) := by
 obtain ⟨i0, hi0, hz0, hz1, hz2⟩ := info_parts info46c
 have Hb := qH h.lt
 have H4 := qH (nextL4 (by omega) h)
 clear h
 go_enter Tryz.func8, Tryz.ntmps8
 go_upto_region 3 with (go_at_call 16; refine cM (by with_reducible exact H4.out) ?_; rintro e w1 ⟨M, hM, rfl, hT, hk1⟩; have HT := qH hT; have HK := qH hk1; clear hT hk1)
 go_loopw [3, 4, 5] (fun s3 s4 _ wx => ∃ (m kt : Nat) (v : Value) (l : List Tm), m ≤ M ∧ s4 = .int .i64 (m : Int) ∧ s3 = v ∧ l.length + m ≤ 3 ∧ kt + 15 * m ≤ k + 1 + 15 * M ∧ Hid (tmT.Own wx w.heap.size v l) ∧ Hid (∀ t ∈ l, SmT t) ∧ Hid (Tp wx tb kt) ∧ Hid (Kp [tb] w wx)) (fun _ s4 _ _ => (intOf s4).toNat)
 case atStart => exact ⟨M, k + 1, _, [], Nat.le_refl _, rfl, rfl, by simp; omega, by omega, qH (RT.Own.nil tmT _ _), qH (fun _ h => (by cases h)), HT, HK⟩
 case round =>
  clear HT HK H4
  obtain ⟨m, kt, v, l, hm, rfl, rfl, hl, hkt, HO, HS, HT, HK⟩ := hrel
  have HM := qH hM
  cases m with
  | zero =>
   have hz : ¬ (0 : Int) < ((0 : Nat) : Int) := by omega
   obtain ⟨va, vc, hv⟩ := HO.out.form
   go_wp2
   go_ret
   exact ⟨_, l, rfl, by
    show tmT.Own wr w.heap.size (.slice va l.length vc) l
    rw [← hv]
    exact HO.out, by omega, HS.out, ⟨kt, by omega, HT.out⟩, HK.out⟩
  | succ m =>
   have hz : (0 : Int) < ((m + 1 : Nat) : Int) := by omega
   have HTm := qH (term_any (by omega) HT.out)
   obtain ⟨va, vc, hv⟩ := HO.out.form
   obtain ⟨n, hn⟩ : ∃ n, l.length = n := ⟨_, rfl⟩
   rw [hn] at hv hl
   have Hn := qH hn
   subst hv
   clear hn
   go_upto_region 6 with (first
    | (go_at_call 19; refine cM (by with_reducible exact HTm.out) ?_; rintro e w2 ⟨t, rfl, hg, ⟨k2, hk2, hT2⟩, hkp2⟩; have HSt := qH hg.1; have Hnew := qH (UW.new t hT2 (HK.out.trans hkp2) (own_tb HO.out Hb.out hkp2)); have Hone := qH (tmC_one t); clear hg hT2 hkp2)
    | (refine wpList_store_new w2 46 _ (tmC t) rfl _ _ rfl rfl rfl info46b rfl Hone.out ?_))
   obtain ⟨R, hR⟩ : ∃ R, w2.heap.size = R := ⟨_, rfl⟩
   generalize hw3 : w2.alloc (.cells (tmC t) 46) = w3 at *
   rw [hR] at Hnew ⊢
   clear hw3 hR
   have HU := Hnew
   clear Hnew
   go_upto_region 7 with (go_at_call 16; refine cM (by with_reducible exact nextL3 (by omega) HU.out.tp) ?_; rintro e w4 ⟨q, hq, rfl, hT, hk4⟩; have HU := qH (HU.out.next hk4 hT Hb.out); clear hT hk4)
   have hq3 : q = 0 ∨ q = 1 ∨ q = 2 := by omega
   rcases hq3 with rfl | rfl | rfl
   ·skip
    go_upto_region 11 with (first
     | (go_at_call 16; refine cM (by with_reducible exact nextL2 (by omega) HU.out.tp) ?_; rintro e w5 ⟨p, hp, rfl, hT, hk5⟩; have HU := qH (HU.out.next hk5 hT Hb.out); have hwp := wrap1 (show p < 100 by omega); clear hT hk5)
     | (go_at_call 20; refine cM (oneW [[117, 115, 98], [98, 108, 111, 99, 107], [112, 99, 105], [42]] 4 rfl (by decide) (by decide) (by decide) (by omega) HU.out.tp _ (by first | rfl | exact Hwz.out) rfl) ?_; rintro e w6 ⟨y, hy, rfl, hT, hk6⟩; have HU := qH (HU.out.next hk6 hT Hb.out); clear hT hk6)
     | (refine wpList_store_row rfl 46 _ _ rfl R (tmC ⟨9, [], 1 + (p : Int), y⟩) rfl rfl 46 (tmC t) HU.out.bx info46b rfl (tmC_one _) ?_; have HU := qH (HU.out.set (t' := ⟨9, [], 1 + (p : Int), y⟩) Hb.out)))
    have HSx := qH (show SmT ⟨9, [], 1 + (p : Int), y⟩ from ⟨by show (0 : Nat) ≤ _; omega, by show y.length ≤ _; omega⟩)
    generalize hx : (⟨9, [], 1 + (p : Int), y⟩ : Tm) = x at *
    generalize w6.setRow R (tmC x) = w7 at *
    have H8 := qH (tm_pushS (x := x) HU.out.own (rfl : w7.heap.size = w7.heap.size) rfl)
    have H1x := qH (tmC_one x)
    go_wp2_with (first
     | (refine wpList_load_row rfl 46 _ rfl R rfl 46 (tmC x) (0, 0) _ HU.out.bx Tryz.underlying46 rfl info46b ?_)
     | (refine De.wpList_build_row rfl 23 46 _ rfl (tmC x) i0 _ rfl Tryz.underlying23 hi0 hz0 (by rw [hz1]; rfl) (by show 0 < 4; omega) (by show (4 : Nat) ≤ 2 ^ 24; omega) ?_)
     | (at_builtin; refine wpList_append_r (r := tmT) rfl (.tmp 34) (.tmp 36) rfl w.heap.size _ l rfl H8.out.2.1 w7.heap.size 1 x rfl H8.out.2.2 (by have := Hn.out; omega) (by have := H8.out.1.size; have := HU.out.kp.size; omega) ?_; intro v9 w9 hown9 hgr9; have HO9 := qH hown9; have HKb := qH (show Kp [tb] w w9 from kp_grownS (HU.out.kp.trans (H8.out.1.mono (by simp))) hgr9 fun b hb => (H8.out.2.1.ge b hb).1); have HT9 := qH (show Tp w9 tb _ from (HU.out.tp.kp H8.out.1 (by simp)).keep fun b hb => hgr9.block b (by have := (HU.out.tp.kp H8.out.1 (by simp)).lt; omega) fun e => by have := (H8.out.2.1.ge b e.symm).1; have := Hb.out; omega); clear hown9 hgr9))
    exact ⟨⟨m, _, _, l ++ [x], by omega, by go_num, rfl, by simp; have := Hn.out; omega, by omega, HO9, qH (fun y hy => by
     rcases List.mem_append.1 hy with hy | hy
     ·exact HS.out y hy
     ·rw [List.mem_singleton.1 hy]; exact HSx.out), HT9, HKb⟩, by (simp [intOf] <;> omega)⟩
   ·skip
    go_upto_region 11 with (first
     | (go_at_call 16; refine cM (by with_reducible exact nextL2 (by omega) HU.out.tp) ?_; rintro e w5 ⟨p, hp, rfl, hT, hk5⟩; have HU := qH (HU.out.next hk5 hT Hb.out); have hwp := wrap1 (show p < 100 by omega); clear hT hk5)
     | (go_at_call 20; refine cM (oneW [[115, 100, 42], [112, 99, 105, 48], [117, 115, 98, 63], [112, 111, 114, 116]] 4 rfl (by decide) (by decide) (by decide) (by omega) HU.out.tp _ (by first | rfl | exact Hwz.out) rfl) ?_; rintro e w6 ⟨y, hy, rfl, hT, hk6⟩; have HU := qH (HU.out.next hk6 hT Hb.out); clear hT hk6)
     | (refine wpList_store_row rfl 46 _ _ rfl R (tmC ⟨8, [], 1 + (p : Int), y⟩) rfl rfl 46 (tmC t) HU.out.bx info46b rfl (tmC_one _) ?_; have HU := qH (HU.out.set (t' := ⟨8, [], 1 + (p : Int), y⟩) Hb.out)))
    have HSx := qH (show SmT ⟨8, [], 1 + (p : Int), y⟩ from ⟨by show (0 : Nat) ≤ _; omega, by show y.length ≤ _; omega⟩)
    generalize hx : (⟨8, [], 1 + (p : Int), y⟩ : Tm) = x at *
    generalize w6.setRow R (tmC x) = w7 at *
    have H8 := qH (tm_pushS (x := x) HU.out.own (rfl : w7.heap.size = w7.heap.size) rfl)
    have H1x := qH (tmC_one x)
    go_wp2_with (first
     | (refine wpList_load_row rfl 46 _ rfl R rfl 46 (tmC x) (0, 0) _ HU.out.bx Tryz.underlying46 rfl info46b ?_)
     | (refine De.wpList_build_row rfl 23 46 _ rfl (tmC x) i0 _ rfl Tryz.underlying23 hi0 hz0 (by rw [hz1]; rfl) (by show 0 < 4; omega) (by show (4 : Nat) ≤ 2 ^ 24; omega) ?_)
     | (at_builtin; refine wpList_append_r (r := tmT) rfl (.tmp 34) (.tmp 36) rfl w.heap.size _ l rfl H8.out.2.1 w7.heap.size 1 x rfl H8.out.2.2 (by have := Hn.out; omega) (by have := H8.out.1.size; have := HU.out.kp.size; omega) ?_; intro v9 w9 hown9 hgr9; have HO9 := qH hown9; have HKb := qH (show Kp [tb] w w9 from kp_grownS (HU.out.kp.trans (H8.out.1.mono (by simp))) hgr9 fun b hb => (H8.out.2.1.ge b hb).1); have HT9 := qH (show Tp w9 tb _ from (HU.out.tp.kp H8.out.1 (by simp)).keep fun b hb => hgr9.block b (by have := (HU.out.tp.kp H8.out.1 (by simp)).lt; omega) fun e => by have := (H8.out.2.1.ge b e.symm).1; have := Hb.out; omega); clear hown9 hgr9))
    exact ⟨⟨m, _, _, l ++ [x], by omega, by go_num, rfl, by simp; have := Hn.out; omega, by omega, HO9, qH (fun y hy => by
     rcases List.mem_append.1 hy with hy | hy
     ·exact HS.out y hy
     ·rw [List.mem_singleton.1 hy]; exact HSx.out), HT9, HKb⟩, by (simp [intOf] <;> omega)⟩
   ·skip
    have HSx := HSt
    have H8 := qH (tm_pushS (x := t) HU.out.own (rfl : w4.heap.size = w4.heap.size) rfl)
    have H1x := qH (tmC_one t)
    go_wp2_with (first
     | (refine wpList_load_row rfl 46 _ rfl R rfl 46 (tmC t) (0, 0) _ HU.out.bx Tryz.underlying46 rfl info46b ?_)
     | (refine De.wpList_build_row rfl 23 46 _ rfl (tmC t) i0 _ rfl Tryz.underlying23 hi0 hz0 (by rw [hz1]; rfl) (by show 0 < 4; omega) (by show (4 : Nat) ≤ 2 ^ 24; omega) ?_)
     | (at_builtin; refine wpList_append_r (r := tmT) rfl (.tmp 34) (.tmp 36) rfl w.heap.size _ l rfl H8.out.2.1 w4.heap.size 1 t rfl H8.out.2.2 (by have := Hn.out; omega) (by have := H8.out.1.size; have := HU.out.kp.size; omega) ?_; intro v9 w9 hown9 hgr9; have HO9 := qH hown9; have HKb := qH (show Kp [tb] w w9 from kp_grownS (HU.out.kp.trans (H8.out.1.mono (by simp))) hgr9 fun b hb => (H8.out.2.1.ge b hb).1); have HT9 := qH (show Tp w9 tb _ from (HU.out.tp.kp H8.out.1 (by simp)).keep fun b hb => hgr9.block b (by have := (HU.out.tp.kp H8.out.1 (by simp)).lt; omega) fun e => by have := (H8.out.2.1.ge b e.symm).1; have := Hb.out; omega); clear hown9 hgr9))
    exact ⟨⟨m, _, _, l ++ [t], by omega, by go_num, rfl, by simp; have := Hn.out; omega, by omega, HO9, qH (fun y hy => by
     rcases List.mem_append.1 hy with hy | hy
     ·exact HS.out y hy
     ·rw [List.mem_singleton.1 hy]; exact HSx.out), HT9, HKb⟩, by (simp [intOf] <;> omega)⟩
end Go.Proofs.YtljkljnfbcmjdaaGreatDoor
