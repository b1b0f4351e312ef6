/- The index of a configuration. -/
import Derived.Test.YtdlchlbngojljaaDoorPM2
namespace Go.Proofs.YtdlchlbngojljaaDoor
open Go.RowKit Go.Maps
/-- A configuration's bounds. -/
structure CTy (C : Cf) : Prop where
 ms : C.mods.length ≤ 20
 al : ∀ m ∈ C.mods, m.al.length ≤ 100
 nm : ∀ m ∈ C.mods, m.name.length ≤ 1000
 pt : ∀ m ∈ C.mods, ∀ p ∈ m.al, p.length ≤ 16
 bl : C.bl.length ≤ 1000
 bt : ∀ s ∈ C.bl, s.length ≤ 1000
 ex : C.ex.length ≤ 1000
 xt : ∀ e ∈ C.ex, e.1.length ≤ 1000 ∧ e.2.length ≤ 1000
/-- An index in memory. -/
def IxAt (B : Nat) (w : World) (v : Value) (E : List (Tx × Tx × Tx)) : Prop :=
 ∃ (X M K : Nat) (f : Tx → Hd) (D : DataW Unit), v = .pointer (some ⟨X, 0, none⟩) ∧ B ≤ X ∧ B ≤ M ∧ w.heap[X]? = some (.cells #[.map (some M)] 57 (0, 0)) ∧ IxM w B M K f D E
theorem IxAt.kp {B : Nat} {w w' : World} {v : Value} {E : List (Tx × Tx × Tx)} {S : List Nat} (h : IxAt B w v E) (hk : Kp S w w') (hS : ∀ x ∈ S, x < B) : IxAt B w' v E := by
 obtain ⟨X, M, K, f, D, h1, h2, h3, h4, h5⟩ := h
 exact ⟨X, M, K, f, D, h1, h2, h3, (hk.block X (block_lt h4) (fun e => by have := hS X e; omega)).trans h4, h5.kp hk (fun e => by have := hS M e; omega) hS⟩
theorem IxM.down {w : World} {B M N : Nat} {f : Tx → Hd} {D : DataW Unit} {E : List (Tx × Tx × Tx)} (h : IxM w B M N f D E) {C : Nat} (hC : C ≤ B) : IxM w C M N f D E := ⟨h.own, h.val, fun s => (h.row s).down hC, h.ne, h.apart⟩
def zMd : Array Value := #[.string ⟨#[]⟩, .slice none 0 0, .slice none 0 0, .slice none 0 0, .slice none 0 0, .bool false]
def zAt : Array Value := #[.string ⟨#[]⟩, .string ⟨#[]⟩]
theorem info48b : (Tryd.prog.info? 48).map (·.size) = some (2 : Nat) := by kernel_rfl
theorem twC_one (x : Tx × Tx) : (twC x).all (·.oneCell') = true := by
 rw [Array.all_eq_true_iff_forall_mem]
 intro v hv
 exact atT.one x v (by simpa [atT] using hv)
/-- The blocks that New makes first. -/
structure NewB (w wx : World) (b0 M X Mb Mk B : Nat) (cv : Array Value) : Prop where
 c : wx.heap[b0]? = some (.cells cv 31 (0, 0))
 x : wx.heap[X]? = some (.cells #[.map (some M)] 57 (0, 0))
 k : Kp [] w wx
 o1 : w.heap.size = b0
 o2 : b0 + 1 = M
 o3 : b0 + 2 = X
 o4 : b0 + 3 = Mb
 o5 : Mb < Mk
 o6 : Mk < B
 s : B ≤ wx.heap.size
theorem NewB.fr {w wx wy : World} {b0 M X Mb Mk B : Nat} {cv : Array Value} (h : NewB w wx b0 M X Mb Mk B cv) (hk : Kp [] w wy) (hb : wy.heap[b0]? = wx.heap[b0]?) (hx : wy.heap[X]? = wx.heap[X]?) (hs : wx.heap.size ≤ wy.heap.size) : NewB w wy b0 M X Mb Mk B cv :=
 ⟨hb.trans h.c, hx.trans h.x, hk, h.o1, h.o2, h.o3, h.o4, h.o5, h.o6, Nat.le_trans h.s hs⟩
theorem ents_mods {pre : Tx → Option Tx} {bl : List Tx} {l : List Md} {i : Nat} {m : Md} (hm : l[i]? = some m) : (l.take (i + 1)).flatMap (entM pre bl) = (l.take i).flatMap (entM pre bl) ++ entM pre bl m := by
 rw [List.take_add_one, hm, List.flatMap_append]
 simp
theorem ents_exs {pre : Tx → Option Tx} {ms : List Md} {l : List (Tx × Tx)} {i : Nat} {m : Tx × Tx} (hm : l[i]? = some m) : (l.take (i + 1)).flatMap (entX pre ms) = (l.take i).flatMap (entX pre ms) ++ entX pre ms m := by
 rw [List.take_add_one, hm, List.flatMap_append]
 simp
theorem entM_len {pre : Tx → Option Tx} {bl : List Tx} (l : List Md) (h : ∀ m ∈ l, m.al.length ≤ 100) : (l.flatMap (entM pre bl)).length ≤ l.length * 100 := by
 induction l with
 | nil => simp
 | cons m l ih =>
  have h1 := ih fun k hk => h k (by simp [hk])
  have h2 : (entM pre bl m).length ≤ 100 := by
   unfold entM
   split
   ·simp
   ·exact Nat.le_trans (ents_len pre m.name m.al) (h m (by simp))
  rw [List.flatMap_cons, List.length_append, List.length_cons, Nat.add_mul]
  omega
theorem entX_len {pre : Tx → Option Tx} {ms : List Md} (l : List (Tx × Tx)) : (l.flatMap (entX pre ms)).length ≤ l.length := by
 induction l with
 | nil => simp
 | cons m l ih =>
  have h2 : (entX pre ms m).length ≤ 1 := by
   unfold entX
   split
   ·exact entP_len pre m.1 m.2
   ·simp
  rw [List.flatMap_cons, List.length_append, List.length_cons]
  omega
theorem has_lt {α : Type} {r : RT α} {w : World} {v : Value} {l : List α} (h : r.Has w v l) (hl : 0 < l.length) {b : Nat} (hb : v.ownBlock = some b) : b < w.heap.size := by
 rcases h with ⟨a, c, rfl, rfl⟩ | ⟨b', o, c, rfl, hb', _⟩
 ·simp at hl
 ·cases hb
  exact hb'
theorem set_take2 {l : List Md} {i : Nat} {x : Md} (hx : l[i]? = some x) : (fun y => y == x.name || ((l.take i).map (·.name)).contains y) = fun y => ((l.take (i + 1)).map (·.name)).contains y := by
 funext y
 rw [List.take_add_one, hx, List.map_append]
 rw [Bool.eq_iff_iff]
 simp [or_comm]
def NewPost (pre : Tx → Option Tx) (w : World) (C : Cf) (e : Ending) (w' : World) : Prop := ∃ v, Hid (IxAt w.heap.size w' v (ents pre C)) ∧ e = .returned v ∧ Kp [] w w'
set_option maxHeartbeats 8000000 in
set_option maxRecDepth 100000 in
theorem new_any {pre : Tx → Option Tx} {er : Tx → Int} (her : ∀ p, (er p == 0) = (pre p).isSome) (hpl : ∀ p b, pre p = some b → b.length ≤ 1000000) {w : World} {A : Nat} {mv bv ov kv xv : Value} {l : List Mx} {C : Cf} (hC : CAt A w mv bv xv l C) (hT : CTy C) (h0 : 0 < w.heap.size)
  (hP : ∀ p W, p.length ≤ 1000000 → W.heap[0]? = w.heap[0]? → PfxC pre er W p) :
  Calls Tryd.prog 9 #[.agg #[mv, bv, ov, kv, xv]] w (NewPost pre w C) := by
 unfold NewPost
 obtain ⟨ma, mc, rfl, hmr⟩ := hC.ms.has.form
 obtain ⟨xa, xc, rfl, hxr⟩ := hC.ex.form
 obtain ⟨b0, hb0⟩ : ∃ b, w.heap.size = b := ⟨_, rfl⟩
 have Hcfg := Lib.hid hC
 have HT := Lib.hid hT
 obtain ⟨cv, hcv⟩ : ∃ cv, cv = #[.slice ma l.length mc, bv, ov, kv, .slice xa C.ex.length xc] := ⟨_, rfl⟩
 obtain ⟨W1, hW1⟩ : ∃ W, w.alloc (.cells cv 31) = W := ⟨_, rfl⟩
 obtain ⟨W2, hW2⟩ : ∃ W, W1.alloc (.map #[] 0) = W := ⟨_, rfl⟩
 obtain ⟨W3, hW3⟩ : ∃ W, W2.alloc (.cells #[.map (some (b0 + 1))] 57) = W := ⟨_, rfl⟩
 have s1 : W1.heap.size = b0 + 1 := by rw [← hW1, World.size_alloc, hb0]
 have s2 : W2.heap.size = b0 + 2 := by rw [← hW2, World.size_alloc, s1]
 have s3 : W3.heap.size = b0 + 3 := by rw [← hW3, World.size_alloc, s2]
 have r1 := heap_alloc_last w (.cells cv 31)
 rw [hW1, hb0] at r1
 have m2 := SetM.made W1
 have k1 : Kp [] w W1 := by rw [← hW1]; exact (Kp.refl [] w).alloc _
 have k2 : Kp [] W1 W2 := by rw [← hW2]; exact (Kp.refl [] W1).alloc _
 have k3 : Kp [] W2 W3 := by rw [← hW3]; exact (Kp.refl [] W2).alloc _
 have r3 := heap_alloc_last W2 (.cells #[.map (some (b0 + 1))] 57)
 rw [hW3, s2] at r3
 have r1' : W3.heap[b0]? = some (.cells cv 31 (0, 0)) := (k3.block b0 (by omega) (by simp)).trans ((k2.block b0 (by omega) (by simp)).trans r1)
 have HW1 := Lib.hid hW1
 have HW2 := Lib.hid hW2
 have HW3 := Lib.hid hW3
 have HS1 := Lib.hid s1
 have HS2 := Lib.hid s2
 have HB0 := Lib.hid hb0
 have hset := setOf_any (w := W3) (by have := hT.bl; omega) (fun s hs => by have := hT.bt s hs; omega) (hC.bl.kp ((k1.trans k2).trans k3) (by simp))
 have HSet := Lib.hid hset
 have hmm := @run_makeMap Tryd.prog
 have HR1 := Lib.hid r1'
 have HR3 := Lib.hid r3
 have HK3 := Lib.hid ((k1.trans k2).trans k3)
 have HS3 := Lib.hid s3
 have Hcv := Lib.hid hcv
 have d0 : W3.cell? ⟨b0, 1, none⟩ = some bv := by rw [cell_of_row _ _ _ _ _ _ r1', hcv]; rfl
 have HMr := Lib.hid hmr
 have HXr := Lib.hid hxr
 have HEr := Lib.hid her
 have HPl := Lib.hid hpl
 have HPx := Lib.hid hP
 clear her hpl hP hmr hxr hC hT hcv hW1 hW2 hW3 s1 s2 s3 r1 m2 k1 k2 k3 r3 r1' hb0 hset
 go_enter Tryd.func9, Tryd.ntmps9
 go_upto_region 2 with fail
 rw [← Hcv.out, HW1.out, HB0.out, HW2.out, HW3.out, show b0 + 1 + 1 = b0 + 2 from rfl]
 go_wp2_with fail
 refine Calls.mono (by with_reducible exact HSet.out) ?_
 unfold SetPost
 rintro e W4 ⟨rfl, DB, hmB, hk4⟩
 rw [HS3.out] at hmB ⊢
 obtain ⟨Mk, hMk⟩ : ∃ M, W4.heap.size = M := ⟨_, rfl⟩
 obtain ⟨W5, hW5⟩ : ∃ W, W4.alloc (.map #[] 0) = W := ⟨_, rfl⟩
 have k5 : Kp [] W4 W5 := by rw [← hW5]; exact (Kp.refl [] W4).alloc _
 have s5 : W5.heap.size = Mk + 1 := by rw [← hW5, World.size_alloc, hMk]
 have m5 := SetM.made W4
 rw [hW5, hMk] at m5
 have lB := hmB.lt
 have k35 : Kp [] W3 W5 := hk4.trans k5
 have mB5 := hmB.kp k5 (by simp)
 have hNB : NewB w W5 b0 (b0 + 1) (b0 + 2) (b0 + 3) Mk (Mk + 1) cv :=
  ⟨(k35.block b0 (by rw [HS3.out]; omega) (by simp)).trans HR1.out, (k35.block (b0 + 2) (by rw [HS3.out]; omega) (by simp)).trans HR3.out, HK3.out.trans k35, HB0.out, rfl, rfl, rfl, by omega, by omega, by omega⟩
 have hI5 : IxM W5 (Mk + 1) (b0 + 1) 0 (fun _ => none) (.map []) [] := by
  have hh := IxM.made W1 (Mk + 1)
  rw [HS1.out, HW2.out] at hh
  have k23 : Kp [] W2 W3 := by rw [← HW3.out]; exact (Kp.refl [] W2).alloc _
  exact (hh.kp k23 (by simp) (by simp)).kp k35 (by simp) (by simp)
 have HNB := Lib.hid hNB
 have HI5 := Lib.hid hI5
 have HmB := Lib.hid mB5
 have Hm5 := Lib.hid m5
 have HMk := Lib.hid hMk
 have HW5 := Lib.hid hW5
 have d1 : W5.cell? ⟨b0, 0, none⟩ = some (.slice ma l.length mc) := by rw [cell_of_row _ _ _ _ _ _ hNB.c, Hcv.out]; rfl
 obtain ⟨N, hN⟩ : ∃ N, l.length = N := ⟨_, rfl⟩
 rw [hN] at d1
 have HN := Lib.hid hN
 have hN100 : N ≤ 100 := by rw [← hN]; have := HT.out.ms; rw [Hcfg.out.eq, List.length_map] at this; omega
 clear hmB hk4 k5 s5 m5 lB k35 mB5 hNB hI5 hMk hW5 d0 HSet HR1 HR3 hN
 go_upto_region 3 with fail
 rw [HMk.out, HW5.out]
 go_wp2
 go_loopw [20] (fun s20 wx => ∃ (i K : Nat) (f : Tx → Hd) (D DK : DataW Unit), i ≤ N ∧ s20 = .int .i64 (i : Int) ∧ Hid (K ≤ i * 100) ∧ Hid (NewB w wx b0 (b0 + 1) (b0 + 2) (b0 + 3) Mk (Mk + 1) cv) ∧ Hid (IxM wx (Mk + 1) (b0 + 1) K f D ((C.mods.take i).flatMap (entM pre C.bl))) ∧ Hid (SetM wx (b0 + 3) C.bl.length (fun s => C.bl.contains s) DB) ∧ Hid (SetM wx Mk i (fun s => ((C.mods.take i).map (·.name)).contains s) DK)) (fun s20 _ => N - (intOf s20).toNat)
 case atStart => exact ⟨0, 0, _, _, _, by omega, rfl, Lib.hid (by omega), HNB, HI5, HmB, Lib.hid (by simpa using Hm5.out)⟩
 case round =>
  obtain ⟨i, K, f, D, DK, hi, rfl, hK, hNx, hIx, hBx, hKx⟩ := hrel
  by_cases hlt : i < N
  ·have hiz : (i : Int) < (N : Int) := by omega
   have hmods : ∀ m, m ∈ l.map (·.2) → m ∈ C.mods := fun m hm => by rw [Hcfg.out.eq]; exact hm
   obtain ⟨x, hx⟩ : ∃ x, l[i]? = some x := ⟨_, List.getElem?_eq_getElem (by rw [HN.out]; exact hlt)⟩
   have hxm : C.mods[i]? = some x.2 := by rw [Hcfg.out.eq, List.getElem?_map, hx]; rfl
   have hxM := List.mem_of_getElem? hxm
   obtain ⟨g, o, rfl, hgl, _, hr⟩ := HMr.out (fun e => by rw [e] at hx; simp at hx)
   have hr2 : mdT.Row wr g o l := hr.keep (hNx.out.k.block g hgl (by simp))
   have HRow := Lib.hid (row_at hr2 hx)
   have hok := Hcfg.out.ms.ok x (List.mem_of_getElem? hx)
   have hra := heap_alloc_last wr (.cells (meC x.1) 51)
   have hka := (Kp.refl [] wr).alloc (.cells (meC x.1) 51)
   obtain ⟨Ra, hRa⟩ : ∃ R, wr.heap.size = R := ⟨_, rfl⟩
   obtain ⟨Wa, hWa⟩ : ∃ W, wr.alloc (.cells (meC x.1) 51) = W := ⟨_, rfl⟩
   rw [hRa, hWa] at hra
   rw [hWa] at hka
   have c0 : Wa.cell? ⟨Ra, 0, none⟩ = some (.string (bs x.2.name)) := by rw [cell_of_row _ _ _ _ _ _ hra, ← hok.1]; rfl
   have HRa := Lib.hid hRa
   have HWa := Lib.hid hWa
   have Hra := Lib.hid hra
   have Hka := Lib.hid hka
   have hKa := Lib.hid (hKx.out.kp hka (by simp))
   have Hok := Lib.hid hok
   have HXm := Lib.hid hxm
   have hnl := HT.out.nm x.2 hxM
   have hal := HT.out.al x.2 hxM
   have hpt := Lib.hid (HT.out.pt x.2 hxM)
   have hRB : Mk + 1 ≤ Ra := by rw [← hRa]; exact hNx.out.s
   clear hra hka hRa hWa hr hr2 hx hok hxm
   go_upto_region 6 with (first | (refine wpList_load_mid rfl 51 _ rfl g (o + i * 6) rfl (meC x.1).toList _ HRow.out Tryd.underlying51 rfl info51 ?_) | (refine Gl.wpList_store_new wr 51 zMd (meC x.1) rfl _ _ rfl rfl rfl info51b rfl (meC_one x.1) ?_))
   rw [HRa.out, HWa.out]
   go_upto_region 7 with (refine wpList_mapUpdate_own _ rfl _ _ _ 58 rfl 9 4 lawS Tryd.underlying58 _ Mk i DK rfl hKa.out.own (by unfold maxLen; omega) _ _ (.string x.2.name) rfl rfl (keyS (by omega)) (.lit (.bool true)) [] (plainElem_bool Tryd.underlying4 true) ?_; intro w1 hown1 hgrow1)
   have hra1 : w1.heap[Ra]? = some (.cells (meC x.1) 51 (0, 0)) := (hgrow1.block Ra (block_lt Hra.out) (fun e => by have := Option.some.inj e; omega)).trans Hra.out
   have hk1 : Kp [] w w1 := (hNx.out.k.trans Hka.out).up (Kp.of_grown hgrow1) (by intro z hz; simp at hz; subst hz; exact .inr (by have := hNx.out.o1; have := hNx.out.o4; have := hNx.out.o5; omega))
   have hkr1 : Kp [Mk] wr w1 := (Hka.out.mono (by simp)).trans (Kp.of_grown hgrow1)
   have hNl := hNx.out
   have o1 := hNl.o1
   have o4 := hNl.o4
   have o5 := hNl.o5
   have hb01 : w1.heap[b0]? = wr.heap[b0]? := hkr1.block b0 (block_lt hNl.c) (by simp; omega)
   have hX1 : w1.heap[b0 + 2]? = wr.heap[b0 + 2]? := hkr1.block (b0 + 2) (block_lt hNl.x) (by simp; omega)
   have hN1 := hNl.fr hk1 hb01 hX1 hkr1.size
   have hI1 := hIx.out.kp hkr1 (by simp; omega) (by intro z hz; simp at hz; omega)
   have hB1 := hBx.out.kp hkr1 (by simp; omega)
   have hK1 := (hKa.out.put (by omega) hown1)
   rw [set_take2 HXm.out] at hK1
   have c0 : w1.cell? ⟨Ra, 0, none⟩ = some (.string (bs x.2.name)) := by rw [cell_of_row _ _ _ _ _ _ hra1, ← Hok.out.1]; rfl
   have c1 : w1.cell? ⟨Ra, 1, none⟩ = some (.slice x.1.al.a x.1.al.n x.1.al.c) := by rw [cell_of_row _ _ _ _ _ _ hra1]; rfl
   have hlk := hB1.look x.2.name (by omega)
   have HN1 := Lib.hid hN1
   have HI1 := Lib.hid hI1
   have HB1 := Lib.hid hB1
   have HK1 := Lib.hid hK1
   have Hk1 := Lib.hid hk1
   have Htk := Lib.hid (ents_mods (pre := pre) (bl := C.bl) HXm.out)
   have HKb := Lib.hid hK.out
   clear hra1 hk1 hkr1 hNl hb01 hX1 hN1 hI1 hB1 hK1 hown1 hgrow1 hKa hmods
   cases hcb : C.bl.contains x.2.name with
   | true =>
    rw [hcb] at hlk
    have Hen := Lib.hid (show entM pre C.bl x.2 = [] by unfold entM; rw [if_pos hcb])
    clear hcb
    go_wp2
    refine ⟨⟨i + 1, K, f, D, _, by omega, by go_num, Lib.hid (by have := HKb.out; omega), HN1, Lib.hid (by rw [Htk.out, Hen.out, List.append_nil]; exact HI1.out), HB1, HK1⟩, by simp [intOf]; omega⟩
   | false =>
    rw [hcb] at hlk
    have Hen := Lib.hid (show entM pre C.bl x.2 = x.2.al.flatMap (fun p => entP pre p x.2.name) by unfold entM; rw [if_neg (by rw [hcb]; simp)])
    have hu := Hok.out.2.kp Hk1.out (by simp)
    have hub := Hok.out.2.1
    have hadd := add_any HEr.out HPl.out x.2.name HN1.out.s (show b0 + 2 < Mk + 1 by omega) (show b0 + 2 ≠ b0 + 1 by omega) HN1.out.x HI1.out (by have := HKb.out; omega) (by
      have h1 := entM_len (pre := pre) (bl := C.bl) (C.mods.take i) (fun m hm => HT.out.al m (List.mem_of_mem_take hm))
      rw [List.length_take] at h1
      omega) hu (by omega) (fun hpos b hb => by
      have hbw : b < w.heap.size := has_lt hub hpos hb
      refine ⟨by omega, fun s e => ?_⟩
      have := ((HI1.out.row s).ge b (by rw [hdV_own]; exact e)).1
      omega) (fun p hp W hW => HPx.out p W (by have := hpt.out p hp; omega) ((hW.block 0 (by omega) (by have := Hk1.out.size; omega) (by omega)).trans (Hk1.out.block 0 (by omega) (by simp))))
    have HAdd := Lib.hid hadd
    unfold AddPost Sl.v at HAdd
    clear hcb hu hub hadd
    go_wp2_with fail
    refine Calls.mono (by with_reducible exact HAdd.out) ?_
    rintro e w2 ⟨rfl, hF, hX2, f2, D2, hI2⟩
    have HF2 := Lib.hid hF
    have HX2 := Lib.hid hX2
    have HI2 := Lib.hid hI2
    clear hF hX2 hI2
    go_wp2
    have hk2 : Kp [] w w2 := ⟨HF2.out.os.trans Hk1.out.os, HF2.out.tape.trans Hk1.out.tape, HF2.out.output.trans Hk1.out.output, Nat.le_trans Hk1.out.size HF2.out.size, fun k hk _ => (HF2.out.block k (by omega) (by have := Hk1.out.size; omega) (by omega)).trans (Hk1.out.block k hk (by simp))⟩
    refine ⟨⟨i + 1, K + x.2.al.length, f2, D2, _, by omega, by go_num, Lib.hid (by have := HKb.out; omega), Lib.hid (HN1.out.fr hk2 (HF2.out.block b0 (by omega) (block_lt HN1.out.c) (by omega)) HX2.out HF2.out.size), Lib.hid (by rw [Htk.out, Hen.out]; exact HI2.out), Lib.hid (HB1.out.kept (HF2.out.block (b0 + 3) (by omega) HB1.out.lt (by omega))), Lib.hid (HK1.out.kept (HF2.out.block Mk (by omega) HK1.out.lt (by omega)))⟩, by simp [intOf]; omega⟩
  ·have hiz : ¬ ((i : Int) < (N : Int)) := by omega
   obtain rfl : i = N := by omega
   have hal : C.mods.take i = C.mods := List.take_of_length_le (by rw [Hcfg.out.eq, List.length_map, HN.out]; omega)
   have hi0 := hIx.out
   have hk0 := hKx.out
   rw [hal] at hi0 hk0
   have HI0 := Lib.hid hi0
   have HK0 := Lib.hid hk0
   have HN0 := hNx
   have HKb := Lib.hid (show K ≤ 10000 from by have := hK.out; omega)
   have d4 : wr.cell? ⟨b0, 4, none⟩ = some (.slice xa C.ex.length xc) := by rw [cell_of_row _ _ _ _ _ _ hNx.out.c, Hcv.out]; rfl
   obtain ⟨N2, hN2⟩ : ∃ N, C.ex.length = N := ⟨_, rfl⟩
   rw [hN2] at d4
   have HN2 := Lib.hid hN2
   have hN2b : N2 ≤ 1000 := by rw [← hN2]; exact HT.out.ex
   clear hIx hKx hNx hBx hK hal hN2 hi0 hk0
   go_wp2
   go_loopw [42] (fun s42 wx => ∃ (j K2 : Nat) (f2 : Tx → Hd) (D2 : DataW Unit), j ≤ N2 ∧ s42 = .int .i64 (j : Int) ∧ Hid (K2 ≤ 10000 + j) ∧ Hid (NewB w wx b0 (b0 + 1) (b0 + 2) (b0 + 3) Mk (Mk + 1) cv) ∧ Hid (IxM wx (Mk + 1) (b0 + 1) K2 f2 D2 (C.mods.flatMap (entM pre C.bl) ++ (C.ex.take j).flatMap (entX pre C.mods))) ∧ Hid (SetM wx Mk i (fun s => (C.mods.map (·.name)).contains s) DK)) (fun s42 _ => N2 - (intOf s42).toNat)
   case atStart => exact ⟨0, K, f, D, by omega, rfl, Lib.hid (by have := HKb.out; omega), HN0, Lib.hid (by simpa using HI0.out), HK0⟩
   case round =>
    clear d4
    obtain ⟨j, K, f, D, hj, rfl, hK, hNx, hIx, hKx⟩ := hrel
    by_cases hjlt : j < N2
    ·have hjz : (j : Int) < (N2 : Int) := by omega
     obtain ⟨x, hx⟩ : ∃ x, C.ex[j]? = some x := ⟨_, List.getElem?_eq_getElem (by rw [HN2.out]; exact hjlt)⟩
     have hxM := List.mem_of_getElem? hx
     obtain ⟨g, o, rfl, hgl, _, hr⟩ := HXr.out (fun e => by rw [e] at hx; simp at hx)
     have hr2 : atT.Row wr g o C.ex := hr.keep (hNx.out.k.block g hgl (by simp))
     have HRow := Lib.hid (show wr.rangeAt g (o + j * 2) (twC x).toList from hr2 j x hx)
     have hra := heap_alloc_last wr (.cells (twC x) 48)
     have hka := (Kp.refl [] wr).alloc (.cells (twC x) 48)
     obtain ⟨Ra, hRa⟩ : ∃ R, wr.heap.size = R := ⟨_, rfl⟩
     obtain ⟨Wa, hWa⟩ : ∃ W, wr.alloc (.cells (twC x) 48) = W := ⟨_, rfl⟩
     have hsa : Wa.heap.size = Ra + 1 := by rw [← hWa, World.size_alloc, hRa]
     rw [hRa, hWa] at hra
     rw [hWa] at hka
     have c0 : Wa.cell? ⟨Ra, 0, none⟩ = some (.string (bs x.1)) := by rw [cell_of_row _ _ _ _ _ _ hra]; rfl
     have c1 : Wa.cell? ⟨Ra, 1, none⟩ = some (.string (bs x.2)) := by rw [cell_of_row _ _ _ _ _ _ hra]; rfl
     have hxs := HT.out.xt x hxM
     have hKa := hKx.out.kp hka (by simp)
     have hlk := hKa.look x.2 (by omega)
     have hNl := hNx.out
     have hk1 : Kp [] w Wa := hNl.k.trans hka
     have hN1 := hNl.fr hk1 (hka.block b0 (block_lt hNl.c) (by simp)) (hka.block (b0 + 2) (block_lt hNl.x) (by simp)) hka.size
     have o1 := hNl.o1
     have o4 := hNl.o4
     have o5 := hNl.o5
     have hI1 := hIx.out.kp hka (by simp) (by simp)
     have HRa := Lib.hid hRa
     have HWa := Lib.hid hWa
     have HI1 := Lib.hid hI1
     have HK1 := Lib.hid hKa
     have HN1 := Lib.hid hN1
     have Hk1 := Lib.hid hk1
     have Htk := Lib.hid (ents_exs (pre := pre) (ms := C.mods) hx)
     have HKb := Lib.hid hK.out
     clear hra hka hRa hWa hr hr2 hx hNl hk1 hN1 hI1 hKa
     cases hcb : (C.mods.map (·.name)).contains x.2 with
     | false =>
      rw [hcb] at hlk
      have Hen := Lib.hid (show entX pre C.mods x = [] by unfold entX; rw [if_neg (by rw [hcb]; simp)])
      clear hcb
      go_upto_region 13 with (first | (refine wpList_load_mid rfl 48 _ rfl g (o + j * 2) rfl (twC x).toList _ HRow.out Tryd.underlying48 rfl info48b ?_) | (refine Gl.wpList_store_new wr 48 zAt (twC x) rfl _ _ rfl rfl rfl info48b rfl (twC_one x) ?_))
      rw [HRa.out, HWa.out]
      go_wp2
      refine ⟨⟨j + 1, K, f, D, by omega, by go_num, Lib.hid (by have := HKb.out; omega), HN1, Lib.hid (by rw [Htk.out, Hen.out, List.append_nil]; exact HI1.out), HK1⟩, by simp [intOf]; omega⟩
     | true =>
      rw [hcb] at hlk
      have Hen := Lib.hid (show entX pre C.mods x = [x.1].flatMap (fun p => entP pre p x.2) by unfold entX; rw [if_pos hcb]; simp)
      have hb1 := heap_alloc_last Wa (.cells #[.string (bs x.1)] 9)
      have hkb := (Kp.refl [] Wa).alloc (.cells #[.string (bs x.1)] 9)
      rw [hsa] at hb1
      obtain ⟨Wb, hWb⟩ : ∃ W, Wa.alloc (.cells #[.string (bs x.1)] 9) = W := ⟨_, rfl⟩
      rw [hWb] at hb1 hkb
      have hu : stT.HasB 0 Wb (.slice (some ⟨Ra + 1, 0, none⟩) 1 1) [x.1] := ⟨.inr ⟨Ra + 1, 0, 1, rfl, block_lt hb1, RT.row_of (r := stT) (cur := [.string (bs x.1)]) hb1 rfl⟩, fun _ _ => Nat.zero_le _⟩
      have hIb := HI1.out.kp hkb (by simp) (by simp)
      have hNb := HN1.out.fr (Hk1.out.trans hkb) (hkb.block b0 (block_lt HN1.out.c) (by simp)) (hkb.block (b0 + 2) (block_lt HN1.out.x) (by simp)) hkb.size
      have hKb := HK1.out.kp hkb (by simp)
      have hadd := add_any HEr.out HPl.out x.2 hNb.s (show b0 + 2 < Mk + 1 by omega) (show b0 + 2 ≠ b0 + 1 by omega) hNb.x hIb (by have := HKb.out; omega) (by
        have h1 := entM_len (pre := pre) (bl := C.bl) C.mods HT.out.al
        have h2 := entX_len (pre := pre) (ms := C.mods) (C.ex.take j)
        have h3 := HT.out.ms
        rw [List.length_take] at h2
        rw [List.length_append]
        omega) hu (by simp) (fun hpos b hb => by
        have hbe : b = Ra + 1 := by cases hb; rfl
        refine ⟨by have := HN1.out.s; omega, fun s e => ?_⟩
        have := ((HI1.out.row s).ge b (by rw [hdV_own]; exact e)).2
        omega) (fun p hp W hW => HPx.out p W (by rw [List.mem_singleton.1 hp]; omega) ((hW.block 0 (by omega) (by have := (Hk1.out.trans hkb).size; omega) (by omega)).trans ((Hk1.out.trans hkb).block 0 (by omega) (by simp))))
      have HAdd := Lib.hid hadd
      have HWb := Lib.hid hWb
      have HNb := Lib.hid hNb
      have HKc := Lib.hid hKb
      have Hkb := Lib.hid (Hk1.out.trans hkb)
      have Hsa := Lib.hid hsa
      unfold AddPost at HAdd
      clear hcb hb1 hkb hWb hu hIb hNb hKb hadd
      go_upto_region 13 with (first | (refine wpList_load_mid rfl 48 _ rfl g (o + j * 2) rfl (twC x).toList _ HRow.out Tryd.underlying48 rfl info48b ?_) | (refine Gl.wpList_store_new wr 48 zAt (twC x) rfl _ _ rfl rfl rfl info48b rfl (twC_one x) ?_))
      rw [HRa.out, HWa.out]
      go_wp2_with fail
      rw [HWb.out]
      refine Calls.mono (by with_reducible exact HAdd.out) ?_
      rintro e w2 ⟨rfl, hF, hX2, f2, D2, hI2⟩
      have HF2 := Lib.hid hF
      have HX2 := Lib.hid hX2
      have HI2 := Lib.hid hI2
      clear hF hX2 hI2
      go_wp2
      have hk2 : Kp [] w w2 := ⟨HF2.out.os.trans Hkb.out.os, HF2.out.tape.trans Hkb.out.tape, HF2.out.output.trans Hkb.out.output, Nat.le_trans Hkb.out.size HF2.out.size, fun k hk _ => (HF2.out.block k (by omega) (by have := Hkb.out.size; omega) (by omega)).trans (Hkb.out.block k hk (by simp))⟩
      refine ⟨⟨j + 1, K + 1, f2, D2, by omega, by go_num, Lib.hid (by have := HKb.out; omega), Lib.hid (HNb.out.fr hk2 (HF2.out.block b0 (by omega) (block_lt HNb.out.c) (by omega)) HX2.out HF2.out.size), Lib.hid (by rw [Htk.out, Hen.out, ← List.append_assoc]; exact HI2.out), Lib.hid (HKc.out.kept (HF2.out.block Mk (by omega) HKc.out.lt (by omega)))⟩, by simp [intOf]; omega⟩
    ·have hjz : ¬ ((j : Int) < (N2 : Int)) := by omega
     obtain rfl : j = N2 := by omega
     have hal : C.ex.take j = C.ex := List.take_of_length_le (by rw [HN2.out]; omega)
     have HI9 := hIx.out
     rw [hal] at HI9
     have HI9 := Lib.hid HI9
     have o1 := hNx.out.o1
     have o4 := hNx.out.o4
     have o5 := hNx.out.o5
     go_wp2
     go_ret
     exact ⟨_, Lib.hid ⟨b0 + 2, b0 + 1, K, f, D, rfl, by omega, by omega, hNx.out.x, HI9.out.down (by omega)⟩, rfl, hNx.out.k⟩
end Go.Proofs.YtdlchlbngojljaaDoor
