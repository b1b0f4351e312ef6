/- Maps from texts: sets, and slices of entries. -/
import Derived.Test.YtdlchlbngojljaaDoorPVV
namespace Go.Proofs.YtdlchlbngojljaaDoor
open Go.RowKit Go.Maps
theorem lawS : Keyed Tryd.prog 9 := Maps.string_keyed Tryd.underlying9
theorem keyS {s : Tx} (h : s.length ≤ 4611686018427387904) : keyOf Tryd.prog 9 (.string (bs s)) = some (.string s) := WideMaps.keyOf_string_mk (P := Tryd.prog) (k := 9) Tryd.underlying9 (s := bs s) (by rw [bs_size]; unfold maxLen; omega)
noncomputable abbrev bE : Value → Option (DataW Unit × List MemPlace) := plainElem Tryd.prog 4
set_option maxRecDepth 100000 in
theorem bE_inv {v : Value} {b : Bool} {ps : List MemPlace} (h : bE v = some (.lit (.bool b), ps)) : v = .bool b := by
 have hu := Tryd.underlying4
 unfold bE plainElem at h
 generalize Tryd.prog.underlying 4 = u at h hu
 subst hu
 cases v with
 | bool x =>
  simp only [Option.some.injEq, Prod.mk.injEq, DataW.lit.injEq, Lit.bool.injEq] at h
  rw [h.1]
 | _ => simp at h
/-- Block M is a set of texts. -/
structure SetM (w : World) (M N : Nat) (f : Tx → Bool) (D : DataW Unit) : Prop where
 own : w.ownsMap Tryd.prog 9 bE M N D
 val : ∀ s, D.atKey (.string s) (.lit (.bool false)) = .lit (.bool (f s))
theorem SetM.made (w : World) : SetM (w.alloc (.map #[] 0)) w.heap.size 0 (fun _ => false) (.map []) :=
 ⟨World.ownsMap_made _ _ _ _, fun s => by simp [DataW.atKey]⟩
theorem SetM.kept {w w' : World} {M N : Nat} {f : Tx → Bool} {D : DataW Unit} (h : SetM w M N f D) (hb : w'.heap[M]? = w.heap[M]?) : SetM w' M N f D := by
 obtain ⟨⟨es, clock, h1, h2⟩, h3⟩ := h
 exact ⟨⟨es, clock, hb.trans h1, h2⟩, h3⟩
theorem SetM.lt {w : World} {M N : Nat} {f : Tx → Bool} {D : DataW Unit} (h : SetM w M N f D) : M < w.heap.size := h.own.lt
theorem SetM.kp {w w' : World} {M N : Nat} {f : Tx → Bool} {D : DataW Unit} {s : List Nat} (h : SetM w M N f D) (hk : Kp s w w') (hs : M ∉ s) : SetM w' M N f D := h.kept (hk.block M h.lt hs)
theorem SetM.look {w : World} {M N : Nat} {f : Tx → Bool} {D : DataW Unit} (h : SetM w M N f D) (s : Tx) (hs : s.length ≤ 4611686018427387904) : (Instr.lookup 58 (.map (some M)) (.string (bs s)) false).run Tryd.prog w = .ok (.bool (f s)) w := by
 obtain ⟨v, ps, h1, h2⟩ := h.own.lookup (t := 58) (e := 4) lawS Tryd.underlying58 (z := .bool false) (Tryd.zeroValue4 w) (plainElem_bool Tryd.underlying4 false) (keyS hs)
 rw [h.val] at h2
 rw [h1, bE_inv h2]
theorem SetM.put {w w' : World} {M N : Nat} {f : Tx → Bool} {D : DataW Unit} {s : Tx} (h : SetM w M N f D) (hs : s.length ≤ 4611686018427387904) (hown : w'.ownsMap Tryd.prog 9 bE M (N + 1) (D.put (.string s) (.lit (.bool true)))) : SetM w' M (N + 1) (fun x => x == s || f x) (D.put (.string s) (.lit (.bool true))) := by
 have hkey := lawS.key (keyS hs)
 refine ⟨hown, fun y => ?_⟩
 by_cases e : y = s
 ·subst e
  rw [Maps.atKey_put_same h.own.isMap hkey]
  simp
 ·rw [Maps.atKey_put_other (fun e' => e (by cases e'; rfl)), h.val]
  simp [e]
theorem set_take {l : List Tx} {i : Nat} {x : Tx} (hx : l[i]? = some x) : (fun y => y == x || (l.take i).contains y) = fun y => (l.take (i + 1)).contains y := by
 funext y
 rw [List.take_add_one, hx]
 rw [Bool.eq_iff_iff]
 simp [or_comm]
def SetPost (a : List Tx) (w : World) (e : Ending) (w' : World) : Prop := e = .returned (.map (some w.heap.size)) ∧ ∃ D, SetM w' w.heap.size a.length (fun s => a.contains s) D ∧ Kp [] w w'
set_option maxHeartbeats 2000000 in
set_option maxRecDepth 100000 in
theorem setOf_any {B : Nat} {u : Value} {a : List Tx} {w : World} (ha : a.length ≤ 1000000) (hat : ∀ s ∈ a, s.length ≤ 1000000) (hu : stT.HasB B w u a) :
  Calls Tryd.prog 23 #[u] w (SetPost a w) := by
 obtain ⟨ua, uc, rfl, hur⟩ := hu.form
 obtain ⟨N, hN⟩ : ∃ N, a.length = N := ⟨_, rfl⟩
 have HA := Lib.hid hur
 rw [hN] at ha ⊢
 have HN := Lib.hid hN
 have HT := Lib.hid hat
 unfold SetPost
 obtain ⟨P, hP⟩ : ∃ P, w.heap.size = P := ⟨_, rfl⟩
 have hk0 := (Kp.refl [] w).alloc (.map #[] 0)
 have hm0 := SetM.made w
 rw [hP] at hm0 ⊢
 obtain ⟨W0, hW0⟩ : ∃ W0, w.alloc (.map #[] 0) = W0 := ⟨_, rfl⟩
 rw [hW0] at hk0 hm0
 have HW0 := Lib.hid hW0
 have HP := Lib.hid hP
 have HK0 := Lib.hid hk0
 have HM0 := Lib.hid hm0
 have hmm := @run_makeMap Tryd.prog
 clear hur hu hN hat hP hk0 hm0 hW0
 go_enter Tryd.func23, Tryd.ntmps23
 go_upto_region 2 with fail
 rw [HW0.out, HP.out]
 go_wp2
 go_loopw [9] (fun s9 wx => ∃ (i : Nat) (D : DataW Unit), i ≤ N ∧ s9 = .int .i64 (i : Int) ∧ Hid (SetM wx P i (fun s => (a.take i).contains s) D) ∧ Hid (Kp [] w wx)) (fun s9 _ => N - (intOf s9).toNat)
 case atStart => exact ⟨0, _, by omega, rfl, Lib.hid (by simpa using HM0.out), HK0⟩
 case round =>
  obtain ⟨i, D, hi, rfl, hm, hkx⟩ := hrel
  by_cases hlt : i < N
  ·have hiz : (i : Int) < (N : Int) := by omega
   obtain ⟨x, hx⟩ : ∃ x, a[i]? = some x := ⟨_, List.getElem?_eq_getElem (by rw [HN.out]; exact hlt)⟩
   obtain ⟨g, o, rfl, hgl, _, hr⟩ := HA.out (fun e => by rw [e] at hx; simp at hx)
   have hr2 : stT.Row wr g o a := hr.keep (hkx.out.block g hgl (by simp))
   have h1 := st_cell hr2 hx
   have hxs := HT.out x (List.mem_of_getElem? hx)
   have Hst := Lib.hid (set_take hx)
   clear hr hr2 hx
   go_wp2_with (refine wpList_mapUpdate_own _ rfl _ _ _ 58 rfl 9 4 lawS Tryd.underlying58 _ P i D rfl hm.out.own (by unfold maxLen; omega) _ _ (.string x) rfl rfl (keyS (by omega)) (.lit (.bool true)) [] (plainElem_bool Tryd.underlying4 true) ?_; intro w1 hown1 hgrow1)
   have hm2 := hm.out.put (by omega) hown1
   rw [Hst.out] at hm2
   refine ⟨⟨i + 1, _, by omega, by go_num, Lib.hid hm2, Lib.hid ?_⟩, by simp [intOf]; omega⟩
   exact hkx.out.up (Kp.of_grown hgrow1) (by intro z hz; simp at hz; subst hz; exact .inr (by have := HP.out; omega))
  ·have hiz : ¬ ((i : Int) < (N : Int)) := by omega
   have hiN : i = N := by omega
   subst hiN
   have hm2 := hm.out
   rw [List.take_of_length_le (by rw [HN.out]; omega)] at hm2
   have HM2 := Lib.hid hm2
   clear hm2 hm
   go_wp2
   go_ret
   exact ⟨rfl, ⟨D, by have h9 := HM2.out; rw [← HN.out] at h9; simpa using h9⟩, hkx.out⟩
/-- How a slice that stands in a map is written down. -/
def encS : Value → Option (DataW Unit × List MemPlace)
 | .slice none 0 0 => some (.nil, [])
 | .slice (some ⟨b, 0, none⟩) n c => some (.agg [.lit (.int .i64 b), .lit (.int .i64 n), .lit (.int .i64 c)], [])
 | _ => none
theorem encS_nil {v : Value} {ps : List MemPlace} (h : encS v = some (.nil, ps)) : v = .slice none 0 0 := by
 unfold encS at h
 split at h
 ·rfl
 ·simp at h
 ·simp at h
theorem encS_row {v : Value} {b n c : Nat} {ps : List MemPlace} (h : encS v = some (.agg [.lit (.int .i64 b), .lit (.int .i64 n), .lit (.int .i64 c)], ps)) : v = .slice (some ⟨b, 0, none⟩) n c := by
 unfold encS at h
 split at h
 ·simp at h
 ·simp only [Option.some.injEq, Prod.mk.injEq, DataW.agg.injEq, List.cons.injEq, DataW.lit.injEq, Lit.int.injEq, true_and, and_true] at h
  obtain ⟨⟨h1, h2, h3⟩, _⟩ := h
  rw [Int.ofNat_inj.1 h1, Int.ofNat_inj.1 h2, Int.ofNat_inj.1 h3]
 ·simp at h
/-- Where a key's row lies: block, length, capacity. -/
abbrev Hd := Option (Nat × Nat × Nat)
def hdV : Hd → Value
 | none => .slice none 0 0
 | some (b, n, c) => .slice (some ⟨b, 0, none⟩) n c
def hdD : Hd → DataW Unit
 | none => .nil
 | some (b, n, c) => .agg [.lit (.int .i64 b), .lit (.int .i64 n), .lit (.int .i64 c)]
theorem encS_hd (h : Hd) : encS (hdV h) = some (hdD h, []) := by
 cases h with
 | none => rfl
 | some x => rfl
theorem encS_inv {v : Value} {h : Hd} {ps : List MemPlace} (e : encS v = some (hdD h, ps)) : v = hdV h := by
 cases h with
 | none => exact encS_nil e
 | some x => exact encS_row e
def hdB (h : Hd) : Option Nat := h.map (·.1)
theorem hdV_own (h : Hd) : (hdV h).ownBlock = hdB h := by cases h <;> rfl
/-- Block M is an index of the entries E: each beginning's row is an own one, of the entries with that beginning; no two lie in one block. -/
structure IxM (w : World) (B M N : Nat) (f : Tx → Hd) (D : DataW Unit) (E : List (Tx × Tx × Tx)) : Prop where
 own : w.ownsMap Tryd.prog 9 encS M N D
 val : ∀ s, D.atKey (.string s) .nil = hdD (f s)
 row : ∀ s, enT.Own w B (hdV (f s)) (atK E s)
 ne : ∀ s b, hdB (f s) = some b → b ≠ M
 apart : ∀ s t b, s ≠ t → hdB (f s) = some b → hdB (f t) ≠ some b
theorem IxM.made (w : World) (B : Nat) : IxM (w.alloc (.map #[] 0)) B w.heap.size 0 (fun _ => none) (.map []) [] :=
 ⟨World.ownsMap_made _ _ _ _, fun s => by simp [DataW.atKey, hdD], fun s => RT.Own.nil enT _ _, fun s b h => (by cases h), fun s t b _ h => (by cases h)⟩
theorem IxM.lt {w : World} {B M N : Nat} {f : Tx → Hd} {D : DataW Unit} {E : List (Tx × Tx × Tx)} (h : IxM w B M N f D E) : M < w.heap.size := h.own.lt
theorem IxM.kp {w w' : World} {B M N : Nat} {f : Tx → Hd} {D : DataW Unit} {E : List (Tx × Tx × Tx)} {S : List Nat} (h : IxM w B M N f D E) (hk : Kp S w w') (hM : M ∉ S) (hB : ∀ x ∈ S, x < B) : IxM w' B M N f D E := by
 obtain ⟨⟨es, clock, h1, h2⟩, h3, h4, h5, h6⟩ := h
 exact ⟨⟨es, clock, (hk.block M (block_lt h1) hM).trans h1, h2⟩, h3, fun s => (h4 s).kp hk fun b hb hm => by have := ((h4 s).ge b hb).1; have := hB b hm; omega, h5, h6⟩
theorem IxM.look {w : World} {B M N : Nat} {f : Tx → Hd} {D : DataW Unit} {E : List (Tx × Tx × Tx)} (h : IxM w B M N f D E) (s : Tx) (hs : s.length ≤ 4611686018427387904) : (Instr.lookup 55 (.map (some M)) (.string (bs s)) false).run Tryd.prog w = .ok (hdV (f s)) w := by
 obtain ⟨v, ps, h1, h2⟩ := h.own.lookup (t := 55) (e := 63) lawS Tryd.underlying55 (z := .slice none 0 0) (Tryd.zeroValue63 w) (zd := .nil) (zp := []) rfl (keyS hs)
 rw [h.val] at h2
 rw [h1, encS_inv h2]
theorem atK_snoc (E : List (Tx × Tx × Tx)) (x : Tx × Tx × Tx) (s : Tx) : atK (E ++ [x]) s = if x.1 = s then atK E s ++ [x.2] else atK E s := by
 unfold atK
 rw [List.filter_append, List.map_append]
 by_cases h : x.1 = s
 ·rw [if_pos h]; simp [h]
 ·rw [if_neg h]; simp [h]
/-- One more entry: its row has been lengthened or made anew. -/
theorem IxM.put {w w1 w2 : World} {B M N : Nat} {f : Tx → Hd} {D : DataW Unit} {E : List (Tx × Tx × Tx)} (h : IxM w B M N f D E) (b : Tx) (x : Tx × Tx) (hb : b.length ≤ 4611686018427387904) (v' : Value)
  (hown : enT.Own w1 B v' (atK E b ++ [x])) (hg : w.grownBy w1 (hdV (f b)).ownBlock) (hv : v'.ownBlock = (hdV (f b)).ownBlock ∨ ∃ g, v'.ownBlock = some g ∧ w.heap.size ≤ g) {h' : Hd} (hh : v' = hdV h')
  (hm : w2.ownsMap Tryd.prog 9 encS M (N + 1) (D.put (.string b) (hdD h'))) (hg2 : w1.grownBy w2 (some M)) :
  IxM w2 B M (N + 1) (fun s => if s = b then h' else f s) (D.put (.string b) (hdD h')) (E ++ [(b, x)]) := by
 have hkey := lawS.key (keyS hb)
 have hM := h.lt
 have hlt : ∀ s c, hdB (f s) = some c → c < w.heap.size := fun s c hc => ((h.row s).ge c (by rw [hdV_own]; exact hc)).2
 have hne : ∀ c, hdB h' = some c → c ≠ M := fun c hc e => by
  rw [hh, hdV_own] at hv
  rcases hv with hv | ⟨g, hv, hgg⟩
  ·rw [hdV_own] at hv
   exact h.ne b c (by rw [← hv]; exact hc) e
  ·rw [hv] at hc
   cases hc
   omega
 have hap : ∀ t c, t ≠ b → hdB h' = some c → hdB (f t) ≠ some c := fun t c htb hc hcc => by
  rw [hh, hdV_own] at hv
  rcases hv with hv | ⟨g, hv, hgg⟩
  ·rw [hdV_own] at hv
   exact h.apart b t c (fun e => htb e.symm) (by rw [← hv]; exact hc) hcc
  ·rw [hv] at hc
   cases hc
   have := hlt t _ hcc
   omega
 refine ⟨hm, fun s => ?_, fun s => ?_, fun s c hc => ?_, fun s t c hst hc hcc => ?_⟩
 ·by_cases e : s = b
  ·subst e
   rw [Maps.atKey_put_same h.own.isMap hkey, if_pos rfl]
  ·rw [Maps.atKey_put_other (fun e' => e (by cases e'; rfl)), h.val, if_neg e]
 ·rw [atK_snoc]
  by_cases e : s = b
  ·subst e
   rw [if_pos rfl, if_pos rfl, ← hh]
   exact hown.keep fun c hc hvc => hg2.block c hc (by
    rw [hh, hdV_own] at hvc
    intro e'
    exact hne c hvc (Option.some.inj e'))
  ·rw [if_neg e, if_neg (fun e' => e e'.symm)]
   refine ((h.row s).keep fun c hc hvc => hg.block c hc ?_).keep fun c hc hvc => hg2.block c hc ?_
   ·rw [hdV_own] at hvc ⊢
    intro e'
    exact h.apart s b c e hvc e'.symm
   ·rw [hdV_own] at hvc
    intro e'
    exact h.ne s c hvc (Option.some.inj e')
 ·by_cases e : s = b
  ·rw [if_pos e] at hc
   exact hne c hc
  ·rw [if_neg e] at hc
   exact h.ne s c hc
 ·by_cases e : s = b
  ·rw [if_pos e] at hc
   have : ¬ t = b := fun e' => hst (e.trans e'.symm)
   rw [if_neg this] at hcc
   exact hap t c this hc hcc
  ·rw [if_neg e] at hc
   by_cases e2 : t = b
   ·rw [if_pos e2] at hcc
    exact hap s c e hcc hc
   ·rw [if_neg e2] at hcc
    exact h.apart s t c hst hc hcc
end Go.Proofs.YtdlchlbngojljaaDoor
