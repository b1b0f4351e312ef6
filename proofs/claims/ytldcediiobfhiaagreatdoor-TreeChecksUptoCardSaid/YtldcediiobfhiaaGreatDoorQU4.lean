/- A tree that is drawn. An Index of a drawn tree, or another number; terms that are drawn, most of them upward. -/
import Derived.Test.YtldcediiobfhiaaGreatDoorQU3
import Derived.Test.YtldcediiobfhiaaGreatDoorQU2
namespace Go.Proofs.YtldcediiobfhiaaGreatDoor
open Go.RowKit
/-- What is known of a device of a drawn tree. -/
def Sml (x : De.DV) : Prop := SmX (De.devOf x.1 x.2) x.1.ats ∧ x.1.ats.length ≤ 1000
/-- A list of devices whose blocks are not below B. -/
structure Off (B : Nat) (v : Value) (L : List De.DV) : Prop where
 v : ∀ b, v.ownBlock = some b → B ≤ b
 x : ∀ x ∈ L, ∀ b, x.2.ownBlock = some b → B ≤ b
theorem DAny.kpT {W W' : World} {t B : Nat} {v : Value} {l : List De.DV} (h : DAny W v l) (hk : Kp [t] W W') (ho : Off B v l) (hB : t < B) : DAny W' v l := by
 rcases h with h | ⟨g, o, c, hv, hc, hg, hr⟩
 ·exact .inl h
 ·refine .inr ⟨g, o, c, hv, hc, Nat.lt_of_lt_of_le hg hk.size, hr.keep (hk.block g hg ?_) fun x hx => hasT (hr.ats x hx) hk fun b hb => ?_⟩
  ·have := ho.v g (by rw [hv]; rfl)
   simp
   omega
  ·have := ho.x x hx b hb
   omega
theorem one_sl {W : World} {R n c i : Nat} {a : Option Addr} {v : Value} (hR : W.heap[R]? = some (.cells #[.slice a n c] 29 (0, 0))) (h : W.cell? ⟨R, i, none⟩ = some v) : v = .slice a n c := by
 rw [cell_of_row _ _ _ _ _ _ hR] at h
 cases i with
 | zero => simpa using h.symm
 | succ i => simp at h
theorem hasR {W W' : World} {R n c : Nat} {a : Option Addr} {v : Value} {l : List De.Atr} (h : De.Has W v l) (hk : Kp [R] W W') (hR : W.heap[R]? = some (.cells #[.slice a n c] 29 (0, 0))) : De.Has W' v l := by
 rcases h with h | ⟨b, o, c', rfl, hb, hr⟩
 ·exact .inl h
 ·refine .inr ⟨b, o, c', rfl, Nat.lt_of_lt_of_le hb hk.size, fun j x hx => ?_⟩
  have h1 := hr j x hx
  by_cases e : b = R
  ·subst e
   have := one_sl hR h1.1
   cases this
  ·exact ⟨cell_kpT hk hb (by simpa using e) h1.1, cell_kpT hk hb (by simpa using e) h1.2⟩
theorem DAny.kpR {W W' : World} {R n c : Nat} {a : Option Addr} {v : Value} {l : List De.DV} (h : DAny W v l) (hk : Kp [R] W W') (hR : W.heap[R]? = some (.cells #[.slice a n c] 29 (0, 0))) : DAny W' v l := by
 rcases h with h | ⟨g, o, c', hv, hc, hg, hr⟩
 ·exact .inl h
 ·refine .inr ⟨g, o, c', hv, hc, Nat.lt_of_lt_of_le hg hk.size, ⟨fun j x hx m u hu => ?_, fun x hx => hasR (hr.ats x hx) hk hR⟩⟩
  have h1 := hr.at_ j x hx
  by_cases e : g = R
  ·subst e
   have := one_sl hR (h1 0 _ rfl)
   cases this
  ·exact cell_kpT hk hg (by simpa using e) (h1 m u hu)
theorem MaxT {W W' : World} {tb : Nat} (h : De.Max W) (h0 : 0 ≠ tb) (hk : Kp [tb] W W') : De.Max W' := by
 obtain ⟨m, hm⟩ := h
 exact ⟨m, cell_kpT hk (World.block_lt_of_cell? _ _ hm) (by simpa using h0) hm⟩
theorem max_tp {W : World} {tb k : Nat} (h : De.Max W) (ht : Tp W tb k) : 0 ≠ tb := fun e => by
 subst e
 obtain ⟨m, hm⟩ := h
 obtain ⟨lv, hl, hi⟩ := ht
 rw [cell_of_row _ _ _ _ _ _ hl] at hm
 have : lv = .int .i64 m := by simpa using hm
 rcases hi with ⟨a, c, e⟩ | ⟨b, o, n, c, e, _⟩ <;> rw [e] at this <;> cases this
theorem DAny.wform {W : World} {v : Value} {l : List De.DV} (h : DAny W v l) : ∃ a c, v = .slice a l.length c ∧ l.length ≤ c ∧ ∀ (i : Nat) (x : De.DV), l[i]? = some x → ∃ g o, a = some ⟨g, o, none⟩ ∧ g < W.heap.size ∧ ∀ (j : Nat) (y : De.DV), l[j]? = some y → W.cell? ⟨g, o + j * 10, none⟩ = some (.int .i64 y.1.idx) := by
 rcases h with ⟨hv, hl⟩ | ⟨g, o, c, hv, hc, hg, hr⟩
 ·exact ⟨none, 0, by rw [hv, hl]; rfl, by rw [hl]; exact Nat.le_refl _, fun i x hx => by rw [hl] at hx; simp at hx⟩
 ·exact ⟨_, c, hv, hc, fun i x hx => ⟨g, o, rfl, hg, fun j y hy => (De.dvC_cells (hr.at_ j y hy)).1⟩⟩
theorem sml_new {d : De.Dev} {la : List De.Atr} (h : SmX d la) (hl : la.length ≤ 1000) : Sml (aOf d la, d.av) := ⟨h, hl⟩
theorem sized_sml {d : De.Dev} {la : List De.Atr} (h : SmX d la) : De.Sized d la :=
 ⟨Nat.le_trans h.n (by decide), Nat.le_trans h.o (by decide), Nat.le_trans h.s (by decide), Nat.le_trans h.r (by decide), Nat.le_trans h.i (by decide), fun a ha => ⟨Nat.le_trans (h.a a ha).1 (by decide), Nat.le_trans (h.a a ha).2 (by decide)⟩⟩
theorem mem_insD {l : List De.DV} {x y : De.DV} (h : y ∈ insD l x) : y ∈ l ∨ y = x := by
 unfold insD at h
 rcases List.mem_append.1 h with h | h
 ·exact .inl (List.mem_of_mem_take h)
 ·rcases List.mem_cons.1 h with h | h
  ·exact .inr h
  ·exact .inl (List.mem_of_mem_drop h)
theorem insD_len (l : List De.DV) (x : De.DV) : (insD l x).length = l.length + 1 := by
 unfold insD
 rw [List.length_append, List.length_cons, List.length_take, List.length_drop]
 omega
/-- A tree, as it comes of the tape. -/
structure TreeAt (W : World) (B n : Nat) (v : Value) (L : List De.DV) : Prop where
 any : DAny W v L
 val : De.Valid sndA clA (L.map (·.1))
 len : L.length ≤ n
 sml : ∀ x ∈ L, Sml x
 off : Off B v L
theorem TreeAt.nil (W : World) (B n : Nat) : TreeAt W B n (.slice none 0 0) [] := ⟨.inl ⟨rfl, rfl⟩, De.Valid.nil _ _, Nat.zero_le _, fun _ h => (by cases h), ⟨fun b h => (by cases h), fun _ h => (by cases h)⟩⟩
theorem TreeAt.kp {W W' : World} {B n : Nat} {v : Value} {L : List De.DV} (h : TreeAt W B n v L) (hk : Kp [] W W') : TreeAt W' B n v L := ⟨h.any.kp hk, h.val, h.len, h.sml, h.off⟩
theorem TreeAt.kpT {W W' : World} {t B n : Nat} {v : Value} {L : List De.DV} (h : TreeAt W B n v L) (hk : Kp [t] W W') (hB : t < B) : TreeAt W' B n v L := ⟨h.any.kpT hk h.off hB, h.val, h.len, h.sml, h.off⟩
theorem TreeAt.kpR {W W' : World} {B n R m c : Nat} {a : Option Addr} {v : Value} {L : List De.DV} (h : TreeAt W B n v L) (hk : Kp [R] W W') (hR : W.heap[R]? = some (.cells #[.slice a m c] 29 (0, 0))) : TreeAt W' B n v L := ⟨h.any.kpR hk hR, h.val, h.len, h.sml, h.off⟩
theorem TreeAt.up {W : World} {B C n m : Nat} {v : Value} {L : List De.DV} (h : TreeAt W B n v L) (hm : n ≤ m) (hC : C ≤ B) : TreeAt W C m v L := ⟨h.any, h.val, Nat.le_trans h.len hm, h.sml, ⟨fun b e => Nat.le_trans hC (h.off.v b e), fun x hx b e => Nat.le_trans hC (h.off.x x hx b e)⟩⟩
/-- What Tree returns. -/
def TreePost (tb k n : Nat) (w : World) (e : Ending) (w' : World) : Prop := ∃ v L, e = .returned (.agg #[v]) ∧ TreeAt w' w.heap.size n v L ∧ Tq w' tb (k + 1 + 40 * n) ∧ Kp [tb] w w'
/-- Insert, on a tree as it comes of the tape. -/
theorem insert_tree {w5 : World} {B n : Nat} {v : Value} {L : List De.DV} {d : De.Dev} {la : List De.Atr} (ht : TreeAt w5 B n v L) (hd : De.Has w5 d.av la) (hs : SmX d la) (hl : la.length ≤ 1000) (ho : ∀ b, d.av.ownBlock = some b → B ≤ b) (hm : De.Max w5) (hB : B ≤ w5.heap.size) :
  Calls Tryz.prog 41 #[.agg #[v], De.devV d] w5 fun e w6 => Kp [] w5 w6 ∧ ∃ a m c er, e = .returned (.tuple #[.agg #[.slice a m c], .int .i64 er]) ∧ ∃ L', L'.length = m ∧ (er = 0 → TreeAt w6 B (n + 1) (.slice a m c) L') := by
 refine (refInsert_any L v d la w5 ht.any hd (sized_sml hs) (by omega) (fun x hx => Nat.lt_of_le_of_lt (ht.sml x hx).1.o (by decide)) (Nat.lt_of_le_of_lt hs.o (by decide)) hm ht.val).mono ?_
 rintro e w6 ⟨hk, v', L', rfl, hany, hor, hfr⟩
 obtain ⟨a, c, rfl, -, -⟩ := hany.wform
 refine ⟨hk, a, _, c, _, rfl, L', rfl, fun h0 => ?_⟩
 rcases hor with ⟨hne, -⟩ | ⟨-, hL'⟩
 ·exact absurd h0 hne
 refine ⟨hany, ?_, ?_, ?_, ⟨fun b h => by have := hfr b h; omega, ?_⟩⟩
 ·rw [hL', insD_fst]
  exact insT_valid ht.val h0
 ·rw [hL', insD_len]
  have := ht.len
  omega
 ·intro x hx
  rw [hL'] at hx
  rcases mem_insD hx with h | rfl
  ·exact ht.sml x h
  ·exact sml_new hs hl
 ·intro x hx
  rw [hL'] at hx
  rcases mem_insD hx with h | rfl
  ·exact ht.off.x x h
  ·exact ho
set_option maxHeartbeats 8000000 in
set_option maxRecDepth 100000 in
theorem tree_any {w : World} {tb k : Nat} (n : Nat) (hn : n ≤ 20) (hk : k + 40 * n ≤ 850) (h : Tp w tb k) (hm : De.Max w) : Calls Tryz.prog 13 #[.pointer (some ⟨tb, 0, none⟩), .int .i64 (n : Int)] w (TreePost tb k n w) := by
 have h0 := max_tp hm h
 have H0 := Lib.hid h0
 have HM := Lib.hid hm
 obtain ⟨Bt, hBt⟩ : ∃ Bt, w.heap.size = Bt := ⟨_, rfl⟩
 obtain ⟨W0, hW⟩ : ∃ W0, (w.alloc (.cells #[.slice none 0 0] 29)).alloc (.cells #[.slice none 0 0] 29) = W0 := ⟨_, rfl⟩
 have hk0 : Kp [] w W0 := by rw [← hW]; exact ((Kp.refl [] w).alloc _).alloc _
 have hs0 : W0.heap.size = Bt + 2 := by rw [← hW, World.size_alloc, World.size_alloc, hBt]
 have hA : W0.heap[Bt]? = some (.cells #[.slice none 0 0] 29 (0, 0)) := by rw [← hW, ← hBt]; exact heap_alloc2_old w _ _
 have hB : W0.heap[Bt + 1]? = some (.cells #[.slice none 0 0] 29 (0, 0)) := by
  have := heap_alloc_last (w.alloc (.cells #[.slice none 0 0] 29)) (.cells #[.slice none 0 0] 29)
  rw [hW, World.size_alloc, hBt] at this
  exact this
 have HA := Lib.hid hA
 have HB := Lib.hid hB
 have HS0 := Lib.hid hs0
 have HK0 := Lib.hid (show Kp [tb] w W0 from hk0.mono (by simp))
 have HT0 := Lib.hid (h.kp hk0 (by simp))
 have Htb := Lib.hid (show tb < Bt from by rw [← hBt]; exact h.lt)
 have hwn : IntKind.i64.wrap ((n : Int) + 1) = (n : Int) + 1 := by rw [IntKind.wrap_i64]; omega
 have HN := Lib.hid (fun W (ht : Tp W tb k) => (show Calls Tryz.prog 14 #[.pointer (some ⟨tb, 0, none⟩), .int .i64 ((n : Int) + 1)] W fun e w' => ∃ r : Nat, r < n + 1 ∧ e = .returned (.int .i64 r) ∧ Tp w' tb (k + 1) ∧ Kp [tb] W w' from next_kp (n + 1) (by omega) (by omega) (by omega) ht))
 clear hA hB hs0 hk0 h0 hm h
 go_enter Tryz.func13, Tryz.ntmps13
 go_upto_region 3 with (go_at_call 14; refine Calls.mono (by with_reducible exact HN.out _ HT0.out) ?_; rintro e W1 ⟨M, hM, rfl, hT, hk1⟩; have HT1 := Lib.hid hT; have HK1 := Lib.hid (HK0.out.trans hk1); have HA1 := Lib.hid ((hk1.block Bt (block_lt HA.out) (by have := Htb.out; simp; omega)).trans HA.out); have HB1 := Lib.hid ((hk1.block (Bt + 1) (block_lt HB.out) (by have := Htb.out; simp; omega)).trans HB.out); clear hT hk1)
 have HBt := Lib.hid hBt
 clear hW hBt hwn
 have HMn := Lib.hid (show M ≤ n from by omega)
 have Hs1 := Lib.hid (show Bt + 2 ≤ W1.heap.size from by have := block_lt HB1.out; omega)
 go_loopw [6, 7, 8] (fun s6 _ _ wx => ∃ (m kt : Nat) (v : Value) (L : List De.DV), m ≤ M ∧ s6 = .int .i64 (m : Int) ∧ kt + 40 * m ≤ k + 1 + 40 * M ∧ Hid (TreeAt wx (Bt + 2) (M - m) v L) ∧ Hid (Tp wx tb kt) ∧ Hid (Kp [tb] w wx) ∧ Hid (wx.heap[Bt]? = some (.cells #[.slice none 0 0] 29 (0, 0))) ∧ Hid (wx.heap[Bt + 1]? = some (.cells #[v] 29 (0, 0)))) (fun s6 _ _ _ => (intOf s6).toNat)
 case atStart => exact ⟨M, k + 1, .slice none 0 0, [], Nat.le_refl _, rfl, by omega, Lib.hid (TreeAt.nil _ _ _), HT1, HK1, HA1, HB1⟩
 case round =>
  clear HT1 HK1 HA1 HB1 HN HT0 HK0 HA HB
  obtain ⟨m, kt, v, L, hm, rfl, hkt, HTr, HT, HK, HA, HB⟩ := hrel
  cases m with
  | zero =>
   have hz : ¬ (0 : Int) < ((0 : Nat) : Int) := by omega
   obtain ⟨va, vc, hvf, -, -⟩ := HTr.out.any.wform
   have H1 := Lib.hid (show (#[v] : Array Value).all (·.oneCell') = true from by rw [hvf]; simp [Value.oneCell'])
   clear hvf
   go_wp2_with (first
    | (refine wpList_load_row rfl 29 _ rfl (Bt + 1) rfl 29 #[v] (0, 0) _ HB.out Tryz.underlying29 rfl info30b ?_)
    | (refine wpList_store_row rfl 29 _ _ rfl Bt #[v] rfl rfl 29 #[.slice none 0 0] HA.out info30b rfl H1.out ?_))
   have hkS : Kp [Bt] wr (wr.setRow Bt #[v]) := (Kp.refl _ _).setRow (.inl (by simp)) _
   have ht := (HTr.out.kpT hkS (by omega)).up (show M - 0 ≤ n by have := HMn.out; omega) (show w.heap.size ≤ Bt + 2 by have := HBt.out; omega)
   have htq : Tp (wr.setRow Bt #[v]) tb kt := HT.out.keep fun b hb => hkS.block b (Nat.lt_of_le_of_lt hb HT.out.lt) (by have := Htb.out; simp; omega)
   exact bodyPost_ret (v := .agg #[v]) (results_cell_row Tryz.results13 _ _ Bt 29 #[v] _ _ rfl (setRow_heap _ _ _ _ _ _ HA.out) Tryz.underlying29 rfl info30b) rfl ⟨v, L, rfl, ht, ⟨kt, by have := HMn.out; omega, htq⟩, HK.out.setRow (.inr (by have := HBt.out; omega)) _⟩
  | succ m =>
   have hz : (0 : Int) < ((m + 1 : Nat) : Int) := by omega
   obtain ⟨va, vc, hvf, hvc, hvr⟩ := HTr.out.any.wform
   have hL : L.length ≤ 20 := by have := HTr.out.len; have := HMn.out; omega
   have HLl := Lib.hid hL
   have HVR := Lib.hid hvr
   obtain ⟨N, hN⟩ : ∃ N, L.length = N := ⟨_, rfl⟩
   rw [hN] at hvf hvc
   have HNn := Lib.hid hN
   subst hvf
   have HDV := Lib.hid (fun W (hk : Kp [] wr W) => wdev_any (k := kt) (by have := HMn.out; omega) (HT.out.kp hk (by simp)) L va vc (by have := HLl.out; omega) (fun i x hx => by
    obtain ⟨g, o, e, hg, hc⟩ := HVR.out i x hx
    exact ⟨g, o, e, Nat.lt_of_lt_of_le hg hk.size, by
     have := HTr.out.off.v g (by rw [e]; rfl)
     have := Htb.out
     omega, fun j y hy => cell_kp hk (hc j y hy)⟩))
   rw [hN] at HDV
   clear hN hL hvr
   go_upto_region 5 with fail
   have hdr := (Kp.refl [] wr).drew 1
   go_cut [7, 8] (fun s7 s8 wx => ∃ (R : Nat) (a : Option Addr) (q c : Nat) (er : Int) (kt' : Nat), s7 = .pointer (some ⟨R, 0, none⟩) ∧ s8 = .int .i64 er ∧ kt' ≤ kt + 40 ∧ Hid (wx.heap[R]? = some (.cells #[.slice a q c] 29 (0, 0))) ∧ Hid (∃ L', er = 0 → TreeAt wx (Bt + 2) (M - m) (.slice a q c) L') ∧ Hid (TreeAt wx (Bt + 2) (M - m) (.slice va N vc) L) ∧ Hid (Tp wx tb kt') ∧ Hid (Kp [tb] w wx) ∧ Hid (wx.heap[Bt]? = some (.cells #[.slice none 0 0] 29 (0, 0))) ∧ Hid (wx.heap[Bt + 1]? = some (.cells #[.slice va N vc] 29 (0, 0))))
   case first =>
    refine wp_region_held_drew (S := fun W => W.heap[Bt + 1]? = some (.cells #[.slice va N vc] 29 (0, 0))) (by kernel_rfl) (show wr.drew.heap[Bt + 1]? = some (.cells #[.slice va N vc] 29 (0, 0)) from HB.out) (fun hHeld => ?_)
    generalize hwd : wr.drew = wd at *
    have HKd := Lib.hid (show Kp [] wr wd from by rw [← hwd]; exact hdr)
    clear hwd
    refine wpAnyH_take (i := 0) (oi := { dst := some 18, op := Op.load 29 (Operand.tmp 5), type := 29, pos := "tree.go:59", after := #[], guard := none }) (v := .agg #[.slice va N vc]) rfl (by kernel_rfl) (by kernel_rfl) (by kernel_rfl) (fun _ _ _ h => h) (Or.inl ⟨by rfl, fun w hSw => by (try dsimp only at hSw); have t0 := cell_one hSw; go_simp⟩) hHeld ?_
    try simp only [Act.put, List.setIfInBounds_toArray, List.set_cons_zero, List.set_cons_succ]
    refine wpAnyH_take (i := 1) (oi := { dst := some 19, op := Op.move (Operand.tmp 0), type := 25, pos := "tree.go:59", after := #[], guard := none }) (v := .pointer (some ⟨tb, 0, none⟩)) rfl (by kernel_rfl) (by kernel_rfl) (by kernel_rfl) (fun _ _ _ h => h) (Or.inl ⟨by rfl, fun w hSw => by (try dsimp only at hSw); go_simp⟩) hHeld ?_
    try simp only [Act.put, List.setIfInBounds_toArray, List.set_cons_zero, List.set_cons_succ]
    refine wpAnyH_take (i := 2) (oi := { dst := some 20, op := Op.load 29 (Operand.tmp 5), type := 29, pos := "tree.go:59", after := #[], guard := none }) (v := .agg #[.slice va N vc]) rfl (by kernel_rfl) (by kernel_rfl) (by kernel_rfl) (fun _ _ _ h => h) (Or.inl ⟨by rfl, fun w hSw => by (try dsimp only at hSw); have t0 := cell_one hSw; go_simp⟩) hHeld ?_
    try simp only [Act.put, List.setIfInBounds_toArray, List.set_cons_zero, List.set_cons_succ]
    refine wpAnyH_ready (rs := [3, 8]) (by kernel_rfl) (by simp) ?_
    refine AllReadyH.cons (o := { dst := some 21, op := Op.call { callee := Callee.value (Operand.func 15), args := #[Operand.tmp 19, Operand.tmp 20], argTypes := #[25, 29] }, type := 34, pos := "tree.go:59", after := #[{ on := 1, ground := Ground.data }, { on := 2, ground := Ground.data }], guard := none }) rfl (fun K hK => ?_) (AllReadyH.cons (o := { dst := some 7, op := Op.alloc 29, type := 0, pos := "tree.go:59", after := #[], guard := none }) rfl (fun K hK => ?_) AllReadyH.nil)
    ·skip
     go_simp
     go_at_call 15
     refine Calls.mono (by with_reducible exact HDV.out _ HKd.out) ?_
     rintro e wd3 ⟨d, la, rfl, hat, hsx, hll, ⟨kd, hkd, htp⟩, hkp, hfr⟩
     dsimp only
     have HAd := Lib.hid hat
     have HSX := Lib.hid hsx
     have HLL := Lib.hid hll
     have HTd := Lib.hid htp
     have HKT := Lib.hid ((HKd.out.mono (by simp)).trans hkp)
     have HFr := Lib.hid (show ∀ b, d.av.ownBlock = some b → Bt + 2 ≤ b from fun b hb => by have := hfr b hb; have := HKd.out.size; have := block_lt HB.out; omega)
     have hS := (hkp.block (Bt + 1) (block_lt hHeld) (by have := Htb.out; simp; omega)).trans hHeld
     clear hat hsx hll htp hkp hfr
     clear hHeld
     refine hK.out _ _ hS (fun hHeld => ?_)
     try simp only [Act.put, List.setIfInBounds_toArray, List.set_cons_zero, List.set_cons_succ]
     clear hK
     refine wpAnyH_ready (rs := [4, 8]) (by kernel_rfl) (by simp) ?_
     refine AllReadyH.cons (o := { dst := some 22, op := Op.call { callee := Callee.value (Operand.func 41), args := #[Operand.tmp 18, Operand.tmp 21], argTypes := #[29, 34] }, type := 52, pos := "tree.go:59", after := #[{ on := 0, ground := Ground.data }, { on := 3, ground := Ground.data }, { on := 3, ground := Ground.chain }], guard := none }) rfl (fun K hK => ?_) (AllReadyH.cons (o := { dst := some 7, op := Op.alloc 29, type := 0, pos := "tree.go:59", after := #[], guard := none }) rfl (fun K hK => ?_) AllReadyH.nil)
     ·skip
      go_simp
      go_at_call 41
      refine Calls.mono (by with_reducible exact insert_tree (HTr.out.kpT HKT.out (by have := Htb.out; omega)) HAd.out HSX.out HLL.out HFr.out (MaxT HM.out H0.out (HK.out.trans HKT.out)) (by have := HKT.out.size; have := block_lt HB.out; omega)) ?_
      rintro e w6 ⟨hk6, a6, m6, c6, er, rfl, L6, hl6, hi6⟩
      dsimp only
      have HI := Lib.hid hi6
      have HT6 := Lib.hid (HTd.out.kp hk6 (by simp))
      have HK6 := Lib.hid (HKT.out.trans (hk6.mono (by simp)))
      have hS := (hk6.block (Bt + 1) (block_lt hHeld) (by simp)).trans hHeld
      clear hk6 hi6 hl6
      clear hHeld
      refine hK.out _ _ hS (fun hHeld => ?_)
      try simp only [Act.put, List.setIfInBounds_toArray, List.set_cons_zero, List.set_cons_succ]
      clear hK
      refine wpAnyH_take (i := 5) (oi := { dst := some 17, op := Op.move (Operand.tmp 22), type := 52, pos := "tree.go:59", after := #[{ on := 4, ground := Ground.data }], guard := none }) (v := .tuple #[.agg #[.slice a6 m6 c6], .int .i64 er]) rfl (by kernel_rfl) (by kernel_rfl) (by kernel_rfl) (fun _ _ _ h => h) (Or.inl ⟨by rfl, fun w hSw => by (try dsimp only at hSw); go_simp⟩) hHeld ?_
      try simp only [Act.put, List.setIfInBounds_toArray, List.set_cons_zero, List.set_cons_succ]
      refine wpAnyH_take (i := 6) (oi := { dst := some 23, op := Op.extract (Operand.tmp 17) 0, type := 29, pos := "tree.go:59", after := #[{ on := 5, ground := Ground.data }], guard := none }) (v := .agg #[.slice a6 m6 c6]) rfl (by kernel_rfl) (by kernel_rfl) (by kernel_rfl) (fun _ _ _ h => h) (Or.inl ⟨by rfl, fun w hSw => by (try dsimp only at hSw); go_simp⟩) hHeld ?_
      try simp only [Act.put, List.setIfInBounds_toArray, List.set_cons_zero, List.set_cons_succ]
      refine wpAnyH_take (i := 7) (oi := { dst := some 24, op := Op.extract (Operand.tmp 17) 1, type := 36, pos := "tree.go:59", after := #[{ on := 5, ground := Ground.data }, { on := 9, ground := Ground.gcOnly Departure.lateStores }], guard := none }) (v := .int .i64 er) rfl (by kernel_rfl) (by kernel_rfl) (by kernel_rfl) (fun _ _ _ h => h) (Or.inl ⟨by rfl, fun w hSw => by (try dsimp only at hSw); go_simp⟩) hHeld ?_
      try simp only [Act.put, List.setIfInBounds_toArray, List.set_cons_zero, List.set_cons_succ]
      refine wpAnyH_ready (rs := [8]) (by kernel_rfl) (by simp) ?_
      refine AllReadyH.cons (o := { dst := some 7, op := Op.alloc 29, type := 0, pos := "tree.go:59", after := #[], guard := none }) rfl (fun K hK => ?_) AllReadyH.nil
      go_simp
      have hkn := (Kp.refl [] w6).alloc (.cells #[.slice none 0 0] 29)
      have hr8 := heap_alloc_last w6 (.cells #[.slice none 0 0] 29)
      obtain ⟨R8, hR8⟩ : ∃ R, w6.heap.size = R := ⟨_, rfl⟩
      generalize w6.alloc (.cells #[.slice none 0 0] 29) = w8 at *
      rw [hR8] at hr8 ⊢
      have HRr := Lib.hid hr8
      have HRge := Lib.hid (show wr.heap.size ≤ R8 from by rw [← hR8]; exact HK6.out.size)
      have hS := (hkn.block (Bt + 1) (block_lt hHeld) (by simp)).trans hHeld
      have HK8 := Lib.hid (HK6.out.trans (hkn.mono (by simp)))
      have HT8 := Lib.hid (HT6.out.kp hkn (by simp))
      have HI8 := Lib.hid (fun h => (HI.out h).kp hkn)
      clear hkn hr8 hR8
      clear hHeld
      refine hK.out _ _ hS (fun hHeld => ?_)
      try simp only [Act.put, List.setIfInBounds_toArray, List.set_cons_zero, List.set_cons_succ]
      clear hK
      refine wpAnyH_ready (rs := [9]) (by kernel_rfl) (by simp) ?_
      refine AllReadyH.cons (o := { dst := none, op := Op.store 29 (Operand.tmp 7) (Operand.tmp 23), type := 0, pos := "tree.go:59", after := #[{ on := 8, ground := Ground.data }, { on := 6, ground := Ground.data }, { on := 4, ground := Ground.chain }, { on := 0, ground := Ground.phase }, { on := 1, ground := Ground.phase }, { on := 2, ground := Ground.phase }, { on := 3, ground := Ground.phase }, { on := 4, ground := Ground.phase }, { on := 5, ground := Ground.phase }, { on := 6, ground := Ground.phase }, { on := 7, ground := Ground.textOnly Departure.lateStores }, { on := 8, ground := Ground.phase }], guard := none }) rfl (fun K hK => ?_) AllReadyH.nil
      have q0 := cell_one HRr.out
      have qf := frz_one HRr.out
      go_simp
      have HRr0 := HRr
      have HRe := Lib.hid (set_one (v := .slice a6 m6 c6) HRr.out)
      have HRB := Lib.hid (show Bt + 2 ≤ R8 from by have := HRge.out; have := block_lt HB.out; omega)
      have hkR : Kp [R8] w8 (w8.setCell ⟨R8, 0, none⟩ (.slice a6 m6 c6)) := (Kp.refl _ _).setCell (p := ⟨R8, 0, none⟩) (.inl (by simp)) _
      generalize w8.setCell ⟨R8, 0, none⟩ (.slice a6 m6 c6) = we at *
      clear q0 qf
      have hS := (hkR.block (Bt + 1) (block_lt hHeld) (by have := HRB.out; simp; omega)).trans hHeld
      have HkR := Lib.hid hkR
      have HKe := Lib.hid (show Kp [tb] wr we from HK8.out.up hkR (by intro x hx; simp at hx; subst hx; exact .inr HRge.out))
      clear hkR
      clear hHeld
      refine hK.out _ _ hS (fun hHeld => ?_)
      try simp only [Act.put, List.setIfInBounds_toArray, List.set_cons_zero, List.set_cons_succ]
      clear hK
      refine wpAnyH_ready (rs := [10]) (by kernel_rfl) (by simp) ?_
      refine AllReadyH.cons (o := { dst := some 8, op := Op.assign (Operand.tmp 24), type := 36, pos := "tree.go:59", after := #[{ on := 7, ground := Ground.data }, { on := 9, ground := Ground.chain }, { on := 0, ground := Ground.phase }, { on := 1, ground := Ground.phase }, { on := 2, ground := Ground.phase }, { on := 3, ground := Ground.phase }, { on := 4, ground := Ground.phase }, { on := 5, ground := Ground.phase }, { on := 6, ground := Ground.phase }, { on := 7, ground := Ground.phase }, { on := 8, ground := Ground.phase }, { on := 9, ground := Ground.phase }], guard := none }) rfl (fun K hK => ?_) AllReadyH.nil
      have HBf := Lib.hid hHeld
      go_simp
      clear hHeld
      refine hK.out _ _ HBf.out (fun hHeld => ?_)
      try simp only [Act.put, List.setIfInBounds_toArray, List.set_cons_zero, List.set_cons_succ]
      clear hK
      refine wpAnyH_done (by kernel_rfl) ?_ _
      clear hHeld
      have HKa := Lib.hid (show Kp [tb] w we from HK.out.trans HKe.out)
      go_wp2
      go_meet
      exact ⟨R8, a6, m6, c6, er, kd, rfl, rfl, by omega, HRe, Lib.hid ⟨L6, fun h => (show M - (m + 1) + 1 = M - m from by omega) ▸ (HI8.out h).kpR HkR.out HRr0.out⟩, Lib.hid ((((HTr.out.kpT HK8.out (by have := Htb.out; omega))).kpR HkR.out HRr0.out).up (by omega) (Nat.le_refl _)), Lib.hid (HT8.out.keep fun b hb => HkR.out.block b (Nat.lt_of_le_of_lt hb HT8.out.lt) (by have := Htb.out; have := HRB.out; simp; omega)), HKa, Lib.hid ((HKe.out.block Bt (block_lt HA.out) (by have := Htb.out; simp; omega)).trans HA.out), HBf⟩
     ·skip
      go_simp
      have hkn := (Kp.refl [] wd3).alloc (.cells #[.slice none 0 0] 29)
      have hr8 := heap_alloc_last wd3 (.cells #[.slice none 0 0] 29)
      obtain ⟨R8, hR8⟩ : ∃ R, wd3.heap.size = R := ⟨_, rfl⟩
      generalize wd3.alloc (.cells #[.slice none 0 0] 29) = w8 at *
      rw [hR8] at hr8 ⊢
      have HRr := Lib.hid hr8
      have HRge := Lib.hid (show wr.heap.size ≤ R8 from by rw [← hR8]; exact HKT.out.size)
      have hS := (hkn.block (Bt + 1) (block_lt hHeld) (by simp)).trans hHeld
      have HK8 := Lib.hid (HKT.out.trans (hkn.mono (by simp)))
      have HT8 := Lib.hid (HTd.out.kp hkn (by simp))
      have HA8 := Lib.hid (HAd.out.keep hkn.size fun b hb _ => hkn.block b hb (by simp))
      clear hkn hr8 hR8
      clear hHeld
      refine hK.out _ _ hS (fun hHeld => ?_)
      try simp only [Act.put, List.setIfInBounds_toArray, List.set_cons_zero, List.set_cons_succ]
      clear hK
      refine wpAnyH_ready (rs := [4]) (by kernel_rfl) (by simp) ?_
      refine AllReadyH.cons (o := { dst := some 22, op := Op.call { callee := Callee.value (Operand.func 41), args := #[Operand.tmp 18, Operand.tmp 21], argTypes := #[29, 34] }, type := 52, pos := "tree.go:59", after := #[{ on := 0, ground := Ground.data }, { on := 3, ground := Ground.data }, { on := 3, ground := Ground.chain }], guard := none }) rfl (fun K hK => ?_) AllReadyH.nil
      go_simp
      go_at_call 41
      refine Calls.mono (by with_reducible exact insert_tree (HTr.out.kpT HK8.out (by have := Htb.out; omega)) HA8.out HSX.out HLL.out HFr.out (MaxT HM.out H0.out (HK.out.trans HK8.out)) (by have := HK8.out.size; have := block_lt HB.out; omega)) ?_
      rintro e w6 ⟨hk6, a6, m6, c6, er, rfl, L6, hl6, hi6⟩
      dsimp only
      have HI := Lib.hid hi6
      have HT6 := Lib.hid (HT8.out.kp hk6 (by simp))
      have HK6 := Lib.hid (HK8.out.trans (hk6.mono (by simp)))
      have hS := (hk6.block (Bt + 1) (block_lt hHeld) (by simp)).trans hHeld
      have HRr := Lib.hid ((hk6.block _ (block_lt HRr.out) (by simp)).trans HRr.out)
      clear hk6 hi6 hl6
      clear hHeld
      refine hK.out _ _ hS (fun hHeld => ?_)
      try simp only [Act.put, List.setIfInBounds_toArray, List.set_cons_zero, List.set_cons_succ]
      clear hK
      refine wpAnyH_take (i := 5) (oi := { dst := some 17, op := Op.move (Operand.tmp 22), type := 52, pos := "tree.go:59", after := #[{ on := 4, ground := Ground.data }], guard := none }) (v := .tuple #[.agg #[.slice a6 m6 c6], .int .i64 er]) rfl (by kernel_rfl) (by kernel_rfl) (by kernel_rfl) (fun _ _ _ h => h) (Or.inl ⟨by rfl, fun w hSw => by (try dsimp only at hSw); go_simp⟩) hHeld ?_
      try simp only [Act.put, List.setIfInBounds_toArray, List.set_cons_zero, List.set_cons_succ]
      refine wpAnyH_take (i := 6) (oi := { dst := some 23, op := Op.extract (Operand.tmp 17) 0, type := 29, pos := "tree.go:59", after := #[{ on := 5, ground := Ground.data }], guard := none }) (v := .agg #[.slice a6 m6 c6]) rfl (by kernel_rfl) (by kernel_rfl) (by kernel_rfl) (fun _ _ _ h => h) (Or.inl ⟨by rfl, fun w hSw => by (try dsimp only at hSw); go_simp⟩) hHeld ?_
      try simp only [Act.put, List.setIfInBounds_toArray, List.set_cons_zero, List.set_cons_succ]
      refine wpAnyH_take (i := 7) (oi := { dst := some 24, op := Op.extract (Operand.tmp 17) 1, type := 36, pos := "tree.go:59", after := #[{ on := 5, ground := Ground.data }, { on := 9, ground := Ground.gcOnly Departure.lateStores }], guard := none }) (v := .int .i64 er) rfl (by kernel_rfl) (by kernel_rfl) (by kernel_rfl) (fun _ _ _ h => h) (Or.inl ⟨by rfl, fun w hSw => by (try dsimp only at hSw); go_simp⟩) hHeld ?_
      try simp only [Act.put, List.setIfInBounds_toArray, List.set_cons_zero, List.set_cons_succ]
      refine wpAnyH_ready (rs := [9]) (by kernel_rfl) (by simp) ?_
      refine AllReadyH.cons (o := { dst := none, op := Op.store 29 (Operand.tmp 7) (Operand.tmp 23), type := 0, pos := "tree.go:59", after := #[{ on := 8, ground := Ground.data }, { on := 6, ground := Ground.data }, { on := 4, ground := Ground.chain }, { on := 0, ground := Ground.phase }, { on := 1, ground := Ground.phase }, { on := 2, ground := Ground.phase }, { on := 3, ground := Ground.phase }, { on := 4, ground := Ground.phase }, { on := 5, ground := Ground.phase }, { on := 6, ground := Ground.phase }, { on := 7, ground := Ground.textOnly Departure.lateStores }, { on := 8, ground := Ground.phase }], guard := none }) rfl (fun K hK => ?_) AllReadyH.nil
      have q0 := cell_one HRr.out
      have qf := frz_one HRr.out
      go_simp
      have HRr0 := HRr
      have HRe := Lib.hid (set_one (v := .slice a6 m6 c6) HRr.out)
      have HRB := Lib.hid (show Bt + 2 ≤ R8 from by have := HRge.out; have := block_lt HB.out; omega)
      have hkR : Kp [R8] w6 (w6.setCell ⟨R8, 0, none⟩ (.slice a6 m6 c6)) := (Kp.refl _ _).setCell (p := ⟨R8, 0, none⟩) (.inl (by simp)) _
      generalize w6.setCell ⟨R8, 0, none⟩ (.slice a6 m6 c6) = we at *
      clear q0 qf
      have hS := (hkR.block (Bt + 1) (block_lt hHeld) (by have := HRB.out; simp; omega)).trans hHeld
      have HkR := Lib.hid hkR
      have HKe := Lib.hid (show Kp [tb] wr we from HK6.out.up hkR (by intro x hx; simp at hx; subst hx; exact .inr HRge.out))
      clear hkR
      clear hHeld
      refine hK.out _ _ hS (fun hHeld => ?_)
      try simp only [Act.put, List.setIfInBounds_toArray, List.set_cons_zero, List.set_cons_succ]
      clear hK
      refine wpAnyH_ready (rs := [10]) (by kernel_rfl) (by simp) ?_
      refine AllReadyH.cons (o := { dst := some 8, op := Op.assign (Operand.tmp 24), type := 36, pos := "tree.go:59", after := #[{ on := 7, ground := Ground.data }, { on := 9, ground := Ground.chain }, { on := 0, ground := Ground.phase }, { on := 1, ground := Ground.phase }, { on := 2, ground := Ground.phase }, { on := 3, ground := Ground.phase }, { on := 4, ground := Ground.phase }, { on := 5, ground := Ground.phase }, { on := 6, ground := Ground.phase }, { on := 7, ground := Ground.phase }, { on := 8, ground := Ground.phase }, { on := 9, ground := Ground.phase }], guard := none }) rfl (fun K hK => ?_) AllReadyH.nil
      have HBf := Lib.hid hHeld
      go_simp
      clear hHeld
      refine hK.out _ _ HBf.out (fun hHeld => ?_)
      try simp only [Act.put, List.setIfInBounds_toArray, List.set_cons_zero, List.set_cons_succ]
      clear hK
      refine wpAnyH_done (by kernel_rfl) ?_ _
      clear hHeld
      have HKa := Lib.hid (show Kp [tb] w we from HK.out.trans HKe.out)
      go_wp2
      go_meet
      exact ⟨R8, a6, m6, c6, er, kd, rfl, rfl, by omega, HRe, Lib.hid ⟨L6, fun h => (show M - (m + 1) + 1 = M - m from by omega) ▸ (HI.out h).kpR HkR.out HRr0.out⟩, Lib.hid ((((HTr.out.kpT HK6.out (by have := Htb.out; omega))).kpR HkR.out HRr0.out).up (by omega) (Nat.le_refl _)), Lib.hid (HT6.out.keep fun b hb => HkR.out.block b (Nat.lt_of_le_of_lt hb HT6.out.lt) (by have := Htb.out; have := HRB.out; simp; omega)), HKa, Lib.hid ((HKe.out.block Bt (block_lt HA.out) (by have := Htb.out; simp; omega)).trans HA.out), HBf⟩
    ·skip
     go_simp
     have hkn := (Kp.refl [] wd).alloc (.cells #[.slice none 0 0] 29)
     have hr8 := heap_alloc_last wd (.cells #[.slice none 0 0] 29)
     obtain ⟨R8, hR8⟩ : ∃ R, wd.heap.size = R := ⟨_, rfl⟩
     generalize wd.alloc (.cells #[.slice none 0 0] 29) = w8 at *
     rw [hR8] at hr8 ⊢
     have HRr := Lib.hid hr8
     have HRge := Lib.hid (show wr.heap.size ≤ R8 from by rw [← hR8]; exact HKd.out.size)
     have hS := (hkn.block (Bt + 1) (block_lt hHeld) (by simp)).trans hHeld
     have HK8 := Lib.hid (HKd.out.trans hkn)
     clear hkn hr8 hR8
     clear hHeld
     refine hK.out _ _ hS (fun hHeld => ?_)
     try simp only [Act.put, List.setIfInBounds_toArray, List.set_cons_zero, List.set_cons_succ]
     clear hK
     refine wpAnyH_ready (rs := [3]) (by kernel_rfl) (by simp) ?_
     refine AllReadyH.cons (o := { dst := some 21, op := Op.call { callee := Callee.value (Operand.func 15), args := #[Operand.tmp 19, Operand.tmp 20], argTypes := #[25, 29] }, type := 34, pos := "tree.go:59", after := #[{ on := 1, ground := Ground.data }, { on := 2, ground := Ground.data }], guard := none }) rfl (fun K hK => ?_) AllReadyH.nil
     go_simp
     go_at_call 15
     refine Calls.mono (by with_reducible exact HDV.out _ HK8.out) ?_
     rintro e wd3 ⟨d, la, rfl, hat, hsx, hll, ⟨kd, hkd, htp⟩, hkp, hfr⟩
     dsimp only
     have HAd := Lib.hid hat
     have HSX := Lib.hid hsx
     have HLL := Lib.hid hll
     have HTd := Lib.hid htp
     have HKT := Lib.hid ((HK8.out.mono (by simp)).trans hkp)
     have HFr := Lib.hid (show ∀ b, d.av.ownBlock = some b → Bt + 2 ≤ b from fun b hb => by have := hfr b hb; have := HK8.out.size; have := block_lt HB.out; omega)
     have hS := (hkp.block (Bt + 1) (block_lt hHeld) (by have := Htb.out; simp; omega)).trans hHeld
     have HRr := Lib.hid ((hkp.block _ (block_lt HRr.out) (by have := HRge.out; have := HT.out.lt; simp; omega)).trans HRr.out)
     clear hat hsx hll htp hkp hfr
     clear hHeld
     refine hK.out _ _ hS (fun hHeld => ?_)
     try simp only [Act.put, List.setIfInBounds_toArray, List.set_cons_zero, List.set_cons_succ]
     clear hK
     refine wpAnyH_ready (rs := [4]) (by kernel_rfl) (by simp) ?_
     refine AllReadyH.cons (o := { dst := some 22, op := Op.call { callee := Callee.value (Operand.func 41), args := #[Operand.tmp 18, Operand.tmp 21], argTypes := #[29, 34] }, type := 52, pos := "tree.go:59", after := #[{ on := 0, ground := Ground.data }, { on := 3, ground := Ground.data }, { on := 3, ground := Ground.chain }], guard := none }) rfl (fun K hK => ?_) AllReadyH.nil
     go_simp
     go_at_call 41
     refine Calls.mono (by with_reducible exact insert_tree (HTr.out.kpT HKT.out (by have := Htb.out; omega)) HAd.out HSX.out HLL.out HFr.out (MaxT HM.out H0.out (HK.out.trans HKT.out)) (by have := HKT.out.size; have := block_lt HB.out; omega)) ?_
     rintro e w6 ⟨hk6, a6, m6, c6, er, rfl, L6, hl6, hi6⟩
     dsimp only
     have HI := Lib.hid hi6
     have HT6 := Lib.hid (HTd.out.kp hk6 (by simp))
     have HK6 := Lib.hid (HKT.out.trans (hk6.mono (by simp)))
     have hS := (hk6.block (Bt + 1) (block_lt hHeld) (by simp)).trans hHeld
     have HRr := Lib.hid ((hk6.block _ (block_lt HRr.out) (by simp)).trans HRr.out)
     clear hk6 hi6 hl6
     clear hHeld
     refine hK.out _ _ hS (fun hHeld => ?_)
     try simp only [Act.put, List.setIfInBounds_toArray, List.set_cons_zero, List.set_cons_succ]
     clear hK
     refine wpAnyH_take (i := 5) (oi := { dst := some 17, op := Op.move (Operand.tmp 22), type := 52, pos := "tree.go:59", after := #[{ on := 4, ground := Ground.data }], guard := none }) (v := .tuple #[.agg #[.slice a6 m6 c6], .int .i64 er]) rfl (by kernel_rfl) (by kernel_rfl) (by kernel_rfl) (fun _ _ _ h => h) (Or.inl ⟨by rfl, fun w hSw => by (try dsimp only at hSw); go_simp⟩) hHeld ?_
     try simp only [Act.put, List.setIfInBounds_toArray, List.set_cons_zero, List.set_cons_succ]
     refine wpAnyH_take (i := 6) (oi := { dst := some 23, op := Op.extract (Operand.tmp 17) 0, type := 29, pos := "tree.go:59", after := #[{ on := 5, ground := Ground.data }], guard := none }) (v := .agg #[.slice a6 m6 c6]) rfl (by kernel_rfl) (by kernel_rfl) (by kernel_rfl) (fun _ _ _ h => h) (Or.inl ⟨by rfl, fun w hSw => by (try dsimp only at hSw); go_simp⟩) hHeld ?_
     try simp only [Act.put, List.setIfInBounds_toArray, List.set_cons_zero, List.set_cons_succ]
     refine wpAnyH_take (i := 7) (oi := { dst := some 24, op := Op.extract (Operand.tmp 17) 1, type := 36, pos := "tree.go:59", after := #[{ on := 5, ground := Ground.data }, { on := 9, ground := Ground.gcOnly Departure.lateStores }], guard := none }) (v := .int .i64 er) rfl (by kernel_rfl) (by kernel_rfl) (by kernel_rfl) (fun _ _ _ h => h) (Or.inl ⟨by rfl, fun w hSw => by (try dsimp only at hSw); go_simp⟩) hHeld ?_
     try simp only [Act.put, List.setIfInBounds_toArray, List.set_cons_zero, List.set_cons_succ]
     refine wpAnyH_ready (rs := [9]) (by kernel_rfl) (by simp) ?_
     refine AllReadyH.cons (o := { dst := none, op := Op.store 29 (Operand.tmp 7) (Operand.tmp 23), type := 0, pos := "tree.go:59", after := #[{ on := 8, ground := Ground.data }, { on := 6, ground := Ground.data }, { on := 4, ground := Ground.chain }, { on := 0, ground := Ground.phase }, { on := 1, ground := Ground.phase }, { on := 2, ground := Ground.phase }, { on := 3, ground := Ground.phase }, { on := 4, ground := Ground.phase }, { on := 5, ground := Ground.phase }, { on := 6, ground := Ground.phase }, { on := 7, ground := Ground.textOnly Departure.lateStores }, { on := 8, ground := Ground.phase }], guard := none }) rfl (fun K hK => ?_) AllReadyH.nil
     have q0 := cell_one HRr.out
     have qf := frz_one HRr.out
     go_simp
     have HRr0 := HRr
     have HRe := Lib.hid (set_one (v := .slice a6 m6 c6) HRr.out)
     have HRB := Lib.hid (show Bt + 2 ≤ R8 from by have := HRge.out; have := block_lt HB.out; omega)
     have hkR : Kp [R8] w6 (w6.setCell ⟨R8, 0, none⟩ (.slice a6 m6 c6)) := (Kp.refl _ _).setCell (p := ⟨R8, 0, none⟩) (.inl (by simp)) _
     generalize w6.setCell ⟨R8, 0, none⟩ (.slice a6 m6 c6) = we at *
     clear q0 qf
     have hS := (hkR.block (Bt + 1) (block_lt hHeld) (by have := HRB.out; simp; omega)).trans hHeld
     have HkR := Lib.hid hkR
     have HKe := Lib.hid (show Kp [tb] wr we from HK6.out.up hkR (by intro x hx; simp at hx; subst hx; exact .inr HRge.out))
     clear hkR
     clear hHeld
     refine hK.out _ _ hS (fun hHeld => ?_)
     try simp only [Act.put, List.setIfInBounds_toArray, List.set_cons_zero, List.set_cons_succ]
     clear hK
     refine wpAnyH_ready (rs := [10]) (by kernel_rfl) (by simp) ?_
     refine AllReadyH.cons (o := { dst := some 8, op := Op.assign (Operand.tmp 24), type := 36, pos := "tree.go:59", after := #[{ on := 7, ground := Ground.data }, { on := 9, ground := Ground.chain }, { on := 0, ground := Ground.phase }, { on := 1, ground := Ground.phase }, { on := 2, ground := Ground.phase }, { on := 3, ground := Ground.phase }, { on := 4, ground := Ground.phase }, { on := 5, ground := Ground.phase }, { on := 6, ground := Ground.phase }, { on := 7, ground := Ground.phase }, { on := 8, ground := Ground.phase }, { on := 9, ground := Ground.phase }], guard := none }) rfl (fun K hK => ?_) AllReadyH.nil
     have HBf := Lib.hid hHeld
     go_simp
     clear hHeld
     refine hK.out _ _ HBf.out (fun hHeld => ?_)
     try simp only [Act.put, List.setIfInBounds_toArray, List.set_cons_zero, List.set_cons_succ]
     clear hK
     refine wpAnyH_done (by kernel_rfl) ?_ _
     clear hHeld
     have HKa := Lib.hid (show Kp [tb] w we from HK.out.trans HKe.out)
     go_wp2
     go_meet
     exact ⟨R8, a6, m6, c6, er, kd, rfl, rfl, by omega, HRe, Lib.hid ⟨L6, fun h => (show M - (m + 1) + 1 = M - m from by omega) ▸ (HI.out h).kpR HkR.out HRr0.out⟩, Lib.hid ((((HTr.out.kpT HK6.out (by have := Htb.out; omega))).kpR HkR.out HRr0.out).up (by omega) (Nat.le_refl _)), Lib.hid (HT6.out.keep fun b hb => HkR.out.block b (Nat.lt_of_le_of_lt hb HT6.out.lt) (by have := Htb.out; have := HRB.out; simp; omega)), HKa, Lib.hid ((HKe.out.block Bt (block_lt HA.out) (by have := Htb.out; simp; omega)).trans HA.out), HBf⟩
   case rest =>
    obtain ⟨R, a, q, c, er, kt', rfl, rfl, hk', HR, HL', HTr, HT, HK, HA, HB⟩ := hcut
    by_cases he : er = 0
    ·subst he
     obtain ⟨L', hL'⟩ := HL'.out
     have HL2 := Lib.hid (hL' rfl)
     have H1 := Lib.hid (show (#[.slice a q c] : Array Value).all (·.oneCell') = true from by simp [Value.oneCell'])
     clear hL'
     go_wp2_with (first
      | (refine wpList_load_row rfl 29 _ rfl R rfl 29 #[.slice a q c] (0, 0) _ HR.out Tryz.underlying29 rfl info30b ?_)
      | (refine wpList_store_row rfl 29 _ _ rfl (Bt + 1) #[.slice a q c] rfl rfl 29 #[.slice va N vc] HB.out info30b rfl H1.out ?_))
     have hkS : Kp [Bt + 1] wc (wc.setRow (Bt + 1) #[.slice a q c]) := (Kp.refl _ _).setRow (.inl (by simp)) _
     exact ⟨⟨m, kt', .slice a q c, L', by omega, by go_num, by omega, Lib.hid (HL2.out.kpT hkS (by omega)), Lib.hid (HT.out.keep fun b hb => hkS.block b (Nat.lt_of_le_of_lt hb HT.out.lt) (by have := Htb.out; simp; omega)), Lib.hid (HK.out.setRow (.inr (by have := HBt.out; omega)) _), Lib.hid ((hkS.block Bt (block_lt HA.out) (by simp)).trans HA.out), Lib.hid (setRow_heap _ _ _ _ _ _ HB.out)⟩, by (simp [intOf] <;> omega)⟩
    ·have hen : (er == 0) = false := beq_eq_false_iff_ne.2 he
     go_wp2
     exact ⟨⟨m, kt', .slice va N vc, L, by omega, by go_num, by omega, HTr, HT, HK, HA, HB⟩, by (simp [intOf] <;> omega)⟩
end Go.Proofs.YtldcediiobfhiaaGreatDoor
namespace Go.Proofs.YtldcediiobfhiaaGreatDoor
open Go.RowKit
theorem wf_num {q : Int} (h0 : -1 ≤ q) (h1 : q ≤ 1073741824) : (Lit.int .i64 q).wf = true := by
 have h2 : IntKind.i64.min = -9223372036854775808 := rfl
 have h3 : IntKind.i64.max = 9223372036854775807 := rfl
 simp [Lit.wf, h2, h3]
 omega
theorem sml_idx {x : De.ADev} (h : sndA x = true) : (1 ≤ x.idx ∧ x.idx ≤ 1073741824) ∧ 0 ≤ x.par ∧ x.par ≤ 1073741824 := by
 have hc : De.checkE (vDev x) x.ats = 0 := of_decide_eq_true h
 unfold De.checkE at hc
 split at hc
 ·cases hc
 ·rename_i h1
  have h1 : De.placeB (vDev x) = true := by simpa using h1
  unfold De.placeB De.isNum at h1
  simp only [Bool.and_eq_true, Bool.or_eq_true, decide_eq_true_eq, beq_iff_eq] at h1
  have e1 : (vDev x).idx = x.idx := rfl
  have e2 : (vDev x).par = x.par := rfl
  rw [e1, e2] at h1
  refine ⟨h1.1, ?_⟩
  rcases h1.2.1 with h | h <;> omega
/-- What is asked of the devices of a tree. -/
structure TrOk (l : List De.DV) : Prop where
 n : l.length ≤ 1000000
 wi : ∀ x ∈ l, (Lit.int .i64 x.1.idx).wf = true
 wp : ∀ x ∈ l, (Lit.int .i64 x.1.par).wf = true
theorem tree_ok {W : World} {B n : Nat} {v : Value} {L : List De.DV} (h : TreeAt W B n v L) (hn : n ≤ 1000000) : TrOk L := by
 have hsd : ∀ x ∈ L, sndA x.1 = true := fun x hx => h.val.sound _ (List.mem_map.2 ⟨x, hx, rfl⟩)
 refine ⟨Nat.le_trans h.len hn, fun x hx => ?_, fun x hx => ?_⟩
 ·have := (sml_idx (hsd x hx)).1
  exact wf_num (by omega) (by omega)
 ·have := (sml_idx (hsd x hx)).2
  exact wf_num (by omega) (by omega)
end Go.Proofs.YtldcediiobfhiaaGreatDoor
