/- Find of a configuration; the contracts of package glob as this package wants them. The least text that two modules share. known, the sanity check of the statements: the example of the chapter. -/
import Derived.Test.YtdlchlbngojljaaDoorPM4
import Derived.Test.YtdlchlbngojljaaDoorPGl
import Derived.Deep.DeepCutAuto
import Derived.Deep.CutBlock
import Derived.KernelRfl
namespace Go.Proofs.YtdlchlbngojljaaDoor
open Go.RowKit Go.Maps
abbrev hitG (p s : Tx) : Bool := Gl.patB p s
def preG (p : Tx) : Option Tx := (Gl.altsP p).map Gl.prefB
abbrev erG (p : Tx) : Int := Gl.errP p
def comG (p q : Tx) : Option Tx := match Gl.altsP p with
 | none => none
 | some x => match Gl.altsP q with
  | none => none
  | some y => Gl.commonB x y
theorem her_G (p : Tx) : (erG p == 0) = (preG p).isSome := by
 unfold preG
 cases h : Gl.altsP p with
 | none => rcases Gl.errP_none h with e | e <;> (unfold erG; rw [e]; rfl)
 | some x => unfold erG; rw [Gl.errP_some h]; rfl
theorem pre_len {p b : Tx} (h : preG p = some b) : b.length ≤ 256 := by
 unfold preG at h
 cases hx : Gl.altsP p with
 | none => rw [hx] at h; cases h
 | some x =>
  rw [hx] at h
  have h := Option.some.inj h
  obtain ⟨hne, _, hg⟩ := Gl.altsP_good hx
  cases x with
  | nil => exact absurd rfl hne
  | cons a r =>
   have h1 := (Gl.pref_prefix (L := a :: r) (a := a) (by simp)).length_le
   have h2 := Gl.begB_len a
   have h3 := (hg a (by simp)).1
   rw [← h]
   omega
theorem hpl_G : ∀ p b, preG p = some b → b.length ≤ 1000000 := fun p b h => by have := pre_len h; omega
theorem hpre_G (p s : Tx) (h : hitG p s = true) : ∃ b, preG p = some b ∧ b <+: s ∧ b.length ≤ 256 := by
 cases hx : Gl.altsP p with
 | none =>
  unfold hitG Gl.patB at h
  rw [hx] at h
  cases h
 | some x =>
  have hp : preG p = some (Gl.prefB x) := by unfold preG; rw [hx]; rfl
  refine ⟨_, hp, ?_, pre_len hp⟩
  have := Gl.begins_prefix hx h
  unfold Lib.hasPrefix at this
  exact List.isPrefixOf_iff_prefix.1 this
theorem tab_keep {w w' : World} (h : Gl.TabAt w) (hb : w'.heap[0]? = w.heap[0]?) : Gl.TabAt w' := fun k hk => by
 have := h k hk
 simp only [World.cell?, hb] at this ⊢
 exact this
theorem pfx_G (p : Tx) (w : World) (hp : p.length ≤ 1000000) (hT : Gl.TabAt w) : PfxC preG erG w p := by
 refine (Gl.prefix_any (bs p) w (by rw [bs_size]; omega) hT).mono fun e w' h => ⟨?_, Kp.of_bel h.2⟩
 rw [h.1, bs_data]
 unfold preG
 cases Gl.altsP p <;> rfl
theorem mat_G (p s : Tx) (w : World) (hp : p.length ≤ 1000000) (hs : s.length ≤ 4611686018427387000) : MatC hitG w p s :=
 (Gl.match_any (bs p) (bs s) w (by rw [bs_size]; omega) (by rw [bs_size]; omega)).mono fun e w' h => ⟨by rw [h.1, bs_data, bs_data], Kp.of_bel h.2⟩
theorem ents_le {C : Cf} (h : CTy C) : (ents preG C).length ≤ 3000 := by
 have h1 := entM_len (pre := preG) (bl := C.bl) C.mods h.al
 have h2 := entX_len (pre := preG) (ms := C.mods) C.ex
 have h3 := h.ms
 have h4 := h.ex
 unfold ents
 rw [List.length_append]
 omega
theorem ents_pat {C : Cf} (h : CTy C) {x : Tx × Tx × Tx} (hx : x ∈ ents preG C) : x.2.1.length ≤ 1000000 := by
 obtain ⟨b, p, n⟩ := x
 obtain ⟨_, ⟨m, hm, _, hp, _⟩ | ⟨he, _⟩⟩ := (ents_mem preG C b p n).1 hx
 ·have := h.pt m hm p hp
  show p.length ≤ 1000000
  omega
 ·have := (h.xt _ he).1
  show p.length ≤ 1000000
  have h2 : p.length ≤ 1000 := this
  omega
theorem newG_any {w : World} {A : Nat} {mv bv ov kv xv : Value} {l : List Mx} {C : Cf} (hC : CAt A w mv bv xv l C) (hT : CTy C) (hTb : Gl.TabAt w) : Calls Tryd.prog 9 #[.agg #[mv, bv, ov, kv, xv]] w (NewPost preG w C) :=
 new_any her_G hpl_G hC hT hTb.lt fun p W hp hW => pfx_G p W hp (tab_keep hTb hW)
theorem ixG_any {w : World} {A : Nat} {xv : Value} {C : Cf} (s : Tx) (hs : s.length ≤ 4611686018427387000) (hT : CTy C) (hI : IxAt A w xv (ents preG C)) : Calls Tryd.prog 14 #[xv, .string (bs s)] w (IFPost (findR hitG C s) w) := by
 rw [← find_eq hitG preG hpre_G C s]
 exact ixFind_any s hs hI (ents_le hT) fun x hx W _ => mat_G _ _ W (ents_pat hT hx) hs
def cfV (mv bv ov kv xv : Value) : Array Value := #[mv, bv, ov, kv, xv]
theorem info31b : (Tryd.prog.info? 31).map (·.size) = some (5 : Nat) := by kernel_rfl
set_option maxHeartbeats 2000000 in
set_option maxRecDepth 100000 in
theorem find_any {w : World} {A : Nat} {mv bv ov kv xv : Value} {l : List Mx} {C : Cf} (s : Tx) (hs : s.length ≤ 4611686018427387000) (hC : CAt A w mv bv xv l C) (hT : CTy C) (hTb : Gl.TabAt w) :
  Calls Tryd.prog 13 #[.agg (cfV mv bv ov kv xv), .string (bs s)] w (IFPost (findR hitG C s) w) := by
 have hra := heap_alloc_last w (.cells (cfV mv bv ov kv xv) 31)
 have hka := (Kp.refl [] w).alloc (.cells (cfV mv bv ov kv xv) 31)
 obtain ⟨R, hR⟩ : ∃ R, w.heap.size = R := ⟨_, rfl⟩
 obtain ⟨W, hW⟩ : ∃ W, w.alloc (.cells (cfV mv bv ov kv xv) 31) = W := ⟨_, rfl⟩
 rw [hR, hW] at hra
 rw [hW] at hka
 unfold IFPost
 rw [hR]
 have HN := Lib.hid (newG_any (ov := ov) (kv := kv) (hC.kp hka (by simp)) hT (tab_keep hTb (hka.block 0 hTb.lt (by simp))))
 have Hra := Lib.hid hra
 have Hka := Lib.hid hka
 have HW := Lib.hid hW
 have HR := Lib.hid hR
 obtain ⟨cv, hcv⟩ : ∃ cv, cfV mv bv ov kv xv = cv := ⟨_, rfl⟩
 have hc5 : cv.size = 5 := by rw [← hcv]; rfl
 have e5 : #[mv, bv, ov, kv, xv] = cv := hcv
 rw [e5] at HN
 rw [hcv] at Hra HW ⊢
 have Hc5 := Lib.hid (show (Tryd.prog.info? 31).map (·.size) = some cv.size by rw [hc5]; exact info31b)
 have HT := Lib.hid hT
 clear hra hka hR hW hC hTb hcv hc5 e5 hT
 go_enter Tryd.func13, Tryd.ntmps13
 go_upto_region 1 with fail
 rw [HW.out, HR.out]
 go_wp2_with (refine wpList_load_row rfl 31 _ rfl R rfl 31 cv _ _ Hra.out Tryd.underlying31 rfl Hc5.out ?_)
 refine Calls.mono (by with_reducible exact HN.out) ?_
 unfold NewPost
 rintro e w1 ⟨v, hI, rfl, hk1⟩
 have hsz := hk1.size
 have HF := Lib.hid (ixG_any s hs HT.out hI.out)
 have Hk1 := Lib.hid (Hka.out.trans hk1)
 unfold IFPost at HF
 clear hk1 hI
 go_wp2_with fail
 refine Calls.mono (by with_reducible exact HF.out) ?_
 rintro e w2 ⟨u, hu, rfl, hk2⟩
 have HU := Lib.hid (hu.out.low (show R ≤ w1.heap.size from by have := Hk1.out.size; have := HR.out; omega))
 have Hk2 := Lib.hid (Hk1.out.trans hk2)
 clear hk2 hu
 go_wp2
 go_ret
 exact ⟨u, HU, rfl, Hk2.out⟩
end Go.Proofs.YtdlchlbngojljaaDoor
namespace Go.Proofs.YtdlchlbngojljaaDoor
open Go.RowKit Go.Maps
open Gl (lessB)
/-- What Common answers. -/
def ComC (f : Nat) (w : World) (p q : Tx) : Prop := Calls (Tryd.prog) f #[.string (bs p), .string (bs q)] w fun e w' => (∃ er : Int, e = .returned (.tuple #[.string (bs ((comG p q).getD [])), .bool (comG p q).isSome, .int .i64 er])) ∧ Kp [] w w'
theorem comRes_eq (p q : Tx) : ∃ er : Int, Gl.comRes p q = .tuple #[.string (bs ((comG p q).getD [])), .bool (comG p q).isSome, .int .i64 er] := by
 unfold Gl.comRes comG
 cases Gl.altsP p with
 | none => exact ⟨_, rfl⟩
 | some x =>
  cases Gl.altsP q with
  | none => exact ⟨_, rfl⟩
  | some y => exact ⟨_, rfl⟩
theorem com_G (p q : Tx) (w : World) (hp : p.length ≤ 1000000) (hq : q.length ≤ 1000000) (hT : Gl.TabAt w) : ComC 31 w p q :=
 (Gl.common_any (bs p) (bs q) w (by rw [bs_size]; omega) (by rw [bs_size]; omega) hT).mono fun e w' h => by
  obtain ⟨er, he⟩ := comRes_eq p q
  exact ⟨⟨er, by rw [h.1, bs_data, bs_data, he]⟩, Kp.of_bel h.2⟩
theorem shrRow_take {le : Tx → Tx → Bool} {com : Tx → Tx → Option Tx} {ys : List Tx} {j : Nat} {y : Tx} (h : ys[j]? = some y) (st : Option Tx) (p : Tx) : shrRow le com (ys.take (j + 1)) st p = updS le (shrRow le com (ys.take j) st p) (com p y) := by
 unfold shrRow
 rw [List.take_add_one, h, List.foldl_append]
 rfl
theorem shrL_take {le : Tx → Tx → Bool} {com : Tx → Tx → Option Tx} {xs ys : List Tx} {i : Nat} {x : Tx} (h : xs[i]? = some x) : (xs.take (i + 1)).foldl (shrRow le com ys) none = shrRow le com ys ((xs.take i).foldl (shrRow le com ys) none) x := by
 rw [List.take_add_one, h, List.foldl_append]
 rfl
/-- What Shared answers. -/
def ShPost (C : Cf) (a b : Tx) (w : World) (e : Ending) (w' : World) : Prop := e = .returned (.tuple #[.string (bs ((shrL lessB comG (aliN C.mods a) (aliN C.mods b)).getD [])), .bool (shrL lessB comG (aliN C.mods a) (aliN C.mods b)).isSome]) ∧ Kp [] w w'
theorem ali_al {C : Cf} (h : CTy C) (n : Tx) : (aliN C.mods n).length ≤ 100 ∧ ∀ p ∈ aliN C.mods n, p.length ≤ 16 := by
 unfold aliN
 cases hm : modN C.mods n with
 | none => simp
 | some m =>
  have := List.mem_of_find?_eq_some hm
  exact ⟨h.al m this, h.pt m this⟩
set_option maxHeartbeats 8000000 in
set_option maxRecDepth 100000 in
theorem shared_any {w : World} {A : Nat} {mv bv ov kv xv : Value} {l : List Mx} {C : Cf} (a b : Tx) (hC : CAt A w mv bv xv l C) (hT : CTy C) (hTb : Gl.TabAt w) :
  Calls Tryd.prog 17 #[.agg (cfV mv bv ov kv xv), .string (bs a), .string (bs b)] w (ShPost C a b w) := by
 have hra := heap_alloc_last w (.cells (cfV mv bv ov kv xv) 31)
 have hka := (Kp.refl [] w).alloc (.cells (cfV mv bv ov kv xv) 31)
 obtain ⟨R, hR⟩ : ∃ R, w.heap.size = R := ⟨_, rfl⟩
 obtain ⟨W, hW⟩ : ∃ W, w.alloc (.cells (cfV mv bv ov kv xv) 31) = W := ⟨_, rfl⟩
 rw [hR, hW] at hra
 rw [hW] at hka
 have hCW := hC.kp hka (by simp)
 have hml : l.length ≤ 1000000 := by have := hT.ms; rw [hC.eq, List.length_map] at this; omega
 have HAl := Lib.hid (show ∀ V, Kp [] W V → Calls Tryd.prog 30 #[mv, .string (bs a)] V (fun e w' => ∃ u, Hid (stT.HasB A w' u (aliN C.mods a)) ∧ e = .returned u ∧ Kp [] V w') from fun V hV => by rw [hC.eq]; exact aliasesOf_any a hml (hCW.ms.kp hV (by simp)))
 have HBl := Lib.hid (show ∀ V, Kp [] W V → Calls Tryd.prog 30 #[mv, .string (bs b)] V (fun e w' => ∃ u, Hid (stT.HasB A w' u (aliN C.mods b)) ∧ e = .returned u ∧ Kp [] V w') from fun V hV => by rw [hC.eq]; exact aliasesOf_any b hml (hCW.ms.kp hV (by simp)))
 have HC0 := Lib.hid (show ∀ V, Kp [] W V → V.cell? ⟨R, 0, none⟩ = some mv from fun V hV => by rw [cell_of_row _ _ _ _ _ _ ((hV.block R (block_lt hra) (by simp)).trans hra)]; rfl)
 have HTb := Lib.hid (show ∀ V, Kp [] W V → Gl.TabAt V from fun V hV => tab_keep hTb ((hka.trans hV).block 0 hTb.lt (by simp)))
 have Hka := Lib.hid hka
 have HW := Lib.hid hW
 have HR := Lib.hid hR
 obtain ⟨xa, hxa⟩ : ∃ x, aliN C.mods a = x := ⟨_, rfl⟩
 obtain ⟨xb, hxb⟩ : ∃ x, aliN C.mods b = x := ⟨_, rfl⟩
 have h1 := ali_al hT a
 have h2 := ali_al hT b
 rw [hxa] at h1
 rw [hxb] at h2
 obtain ⟨RS, hRS⟩ : ∃ r, shrL lessB comG xa xb = r := ⟨_, rfl⟩
 unfold ShPost
 rw [hxa, hxb, hRS]
 rw [hxa] at HAl
 rw [hxb] at HBl
 have HRS := Lib.hid hRS
 have Hpa := Lib.hid h1.2
 have Hpb := Lib.hid h2.2
 have hla := h1.1
 have hlb := h2.1
 obtain ⟨cv, hcv⟩ : ∃ cv, cfV mv bv ov kv xv = cv := ⟨_, rfl⟩
 rw [hcv] at HW ⊢
 clear hra hka hR hW hC hTb hcv hT hCW hml hxa hxb hRS h1 h2
 go_enter Tryd.func17, Tryd.ntmps17
 go_upto_region 1 with fail
 rw [HW.out, HR.out]
 refine wp_region_held_drew (S := fun X => Kp [] W X) (by kernel_rfl) ((Kp.refl [] W).drew 1) (fun hHeld => ?_)
 generalize hwd : W.drew = wd at *
 clear hwd
 refine wpAnyH_take (i := 0) (oi := ⟨some 19, .fieldAddr 31 (.tmp 3) 0, 0, "alias.go:71", #[], none⟩) (v := .pointer (some ⟨R, 0, none⟩)) rfl (by kernel_rfl) (by kernel_rfl) (by kernel_rfl) (fun _ _ _ h => h) (Or.inl ⟨by rfl, fun w hSw => by (try dsimp only at hSw); go_simp⟩) hHeld ?_
 try simp only [Act.put, List.setIfInBounds_toArray, List.set_cons_zero, List.set_cons_succ]
 refine wpAnyH_take (i := 1) (oi := ⟨some 20, .load 27 (.tmp 19), 27, "alias.go:71", #[⟨0, .data⟩], none⟩) (v := mv) rfl (by kernel_rfl) (by kernel_rfl) (by kernel_rfl) (fun _ _ _ h => h) (Or.inl ⟨by rfl, fun w hSw => by (try dsimp only at hSw); have t0 := HC0.out _ hSw; go_simp⟩) hHeld ?_
 try simp only [Act.put, List.setIfInBounds_toArray, List.set_cons_zero, List.set_cons_succ]
 refine wpAnyH_take (i := 2) (oi := ⟨some 21, .move (.tmp 1), 9, "alias.go:71", #[], none⟩) (v := .string (bs a)) rfl (by kernel_rfl) (by kernel_rfl) (by kernel_rfl) (fun _ _ _ h => h) (Or.inl ⟨by rfl, fun w hSw => by (try dsimp only at hSw); go_simp⟩) hHeld ?_
 try simp only [Act.put, List.setIfInBounds_toArray, List.set_cons_zero, List.set_cons_succ]
 refine wpAnyH_take (i := 4) (oi := ⟨some 23, .fieldAddr 31 (.tmp 3) 0, 0, "alias.go:71", #[], none⟩) (v := .pointer (some ⟨R, 0, none⟩)) rfl (by kernel_rfl) (by kernel_rfl) (by kernel_rfl) (fun _ _ _ h => h) (Or.inl ⟨by rfl, fun w hSw => by (try dsimp only at hSw); go_simp⟩) hHeld ?_
 try simp only [Act.put, List.setIfInBounds_toArray, List.set_cons_zero, List.set_cons_succ]
 refine wpAnyH_take (i := 5) (oi := ⟨some 24, .load 27 (.tmp 23), 27, "alias.go:71", #[⟨4, .data⟩], none⟩) (v := mv) rfl (by kernel_rfl) (by kernel_rfl) (by kernel_rfl) (fun _ _ _ h => h) (Or.inl ⟨by rfl, fun w hSw => by (try dsimp only at hSw); have t0 := HC0.out _ hSw; go_simp⟩) hHeld ?_
 try simp only [Act.put, List.setIfInBounds_toArray, List.set_cons_zero, List.set_cons_succ]
 refine wpAnyH_take (i := 6) (oi := ⟨some 25, .move (.tmp 2), 9, "alias.go:71", #[], none⟩) (v := .string (bs b)) rfl (by kernel_rfl) (by kernel_rfl) (by kernel_rfl) (fun _ _ _ h => h) (Or.inl ⟨by rfl, fun w hSw => by (try dsimp only at hSw); go_simp⟩) hHeld ?_
 try simp only [Act.put, List.setIfInBounds_toArray, List.set_cons_zero, List.set_cons_succ]
 refine wpAnyH_ready (rs := [3]) (by kernel_rfl) (by simp) ?_
 refine AllReadyH.cons (o := ⟨some 22, .call { callee := .value (.func 30), args := #[.tmp 20, .tmp 21], argTypes := #[27, 9] }, 28, "alias.go:71", #[⟨1, .data⟩, ⟨2, .data⟩], none⟩) rfl (fun K hK => ?_) AllReadyH.nil
 go_simp
 go_at_call 30
 refine Calls.mono (by with_reducible exact HAl.out _ hHeld) ?_
 rintro e Va ⟨ua, hua, rfl, hka⟩
 dsimp only
 have hS := hHeld.trans hka
 have HUa := hua
 clear hua hka
 clear hHeld
 refine hK.out _ _ hS (fun hHeld => ?_)
 try simp only [Act.put, List.setIfInBounds_toArray, List.set_cons_zero, List.set_cons_succ]
 clear hK
 clear hS
 refine wpAnyH_ready (rs := [7]) (by kernel_rfl) (by simp) ?_
 refine AllReadyH.cons (o := ⟨some 26, .call { callee := .value (.func 30), args := #[.tmp 24, .tmp 25], argTypes := #[27, 9] }, 28, "alias.go:71", #[⟨5, .data⟩, ⟨6, .data⟩, ⟨3, .chain⟩], none⟩) rfl (fun K hK => ?_) AllReadyH.nil
 go_simp
 go_at_call 30
 refine Calls.mono (by with_reducible exact HBl.out _ hHeld) ?_
 rintro e Vb ⟨ub, hub, rfl, hkb⟩
 dsimp only
 have hS := hHeld.trans hkb
 have HUa := Lib.hid (HUa.out.kp hkb (by simp))
 have HUb := hub
 clear hub hkb
 clear hHeld
 refine hK.out _ _ hS (fun hHeld => ?_)
 try simp only [Act.put, List.setIfInBounds_toArray, List.set_cons_zero, List.set_cons_succ]
 clear hK
 clear hS
 refine wpAnyH_take (i := 8) (oi := ⟨some 8, .assign (.tmp 22), 28, "alias.go:71", #[⟨3, .data⟩, ⟨7, .chain⟩, ⟨0, .phase⟩, ⟨1, .phase⟩, ⟨2, .phase⟩, ⟨3, .phase⟩, { on := 4, ground := .textOnly Departure.lateStores }, { on := 5, ground := .textOnly Departure.lateStores }, { on := 6, ground := .textOnly Departure.lateStores }, { on := 7, ground := .textOnly Departure.lateStoresUnsure }], none⟩) (v := ua) rfl (by kernel_rfl) (by kernel_rfl) (by kernel_rfl) (fun _ _ _ h => h) (Or.inl ⟨by rfl, fun w hSw => by (try dsimp only at hSw); go_simp⟩) hHeld ?_
 try simp only [Act.put, List.setIfInBounds_toArray, List.set_cons_zero, List.set_cons_succ]
 refine wpAnyH_take (i := 9) (oi := ⟨some 9, .assign (.tmp 26), 28, "alias.go:71", #[⟨7, .data⟩, ⟨8, .chain⟩, ⟨0, .phase⟩, ⟨1, .phase⟩, ⟨2, .phase⟩, ⟨3, .phase⟩, ⟨4, .phase⟩, ⟨5, .phase⟩, ⟨6, .phase⟩, ⟨7, .phase⟩, ⟨8, .phase⟩], none⟩) (v := ub) rfl (by kernel_rfl) (by kernel_rfl) (by kernel_rfl) (fun _ _ _ h => h) (Or.inl ⟨by rfl, fun w hSw => by (try dsimp only at hSw); go_simp⟩) hHeld ?_
 try simp only [Act.put, List.setIfInBounds_toArray, List.set_cons_zero, List.set_cons_succ]
 have HSe := Lib.hid hHeld
 refine wpAnyH_done (by kernel_rfl) ?_ _
 clear hHeld
 obtain ⟨aa, ca, rfl, har⟩ := HUa.out.form
 obtain ⟨ab, cb, rfl, hbr⟩ := HUb.out.form
 obtain ⟨N1, hN1⟩ : ∃ n, xa.length = n := ⟨_, rfl⟩
 obtain ⟨N2, hN2⟩ : ∃ n, xb.length = n := ⟨_, rfl⟩
 rw [hN1] at hla HUa ⊢
 rw [hN2] at hlb HUb ⊢
 have HN1 := Lib.hid hN1
 have HN2 := Lib.hid hN2
 have HAr := Lib.hid har
 have HBr := Lib.hid hbr
 clear hN1 hN2 har hbr HUa HUb
 go_wp2
 go_loopw [10, 11, 29] (fun s10 s11 s29 wx => ∃ (i : Nat) (st : Option Tx), i ≤ N1 ∧ s29 = .int .i64 (i : Int) ∧ s10 = .string (bs (st.getD [])) ∧ s11 = .bool st.isSome ∧ Hid (st = (xa.take i).foldl (shrRow lessB comG xb) none) ∧ Hid (Kp [] Vb wx)) (fun _ _ s29 _ => N1 - (intOf s29).toNat)
 case atStart => exact ⟨0, none, by omega, rfl, rfl, rfl, Lib.hid rfl, Lib.hid (Kp.refl [] Vb)⟩
 case round =>
  obtain ⟨i, st0, hi, rfl, rfl, rfl, hst, hK⟩ := hrel
  by_cases hlt : i < N1
  ·have hiz : (i : Int) < (N1 : Int) := by omega
   obtain ⟨p, hp⟩ : ∃ p, xa[i]? = some p := ⟨_, List.getElem?_eq_getElem (by rw [HN1.out]; exact hlt)⟩
   obtain ⟨g, o, rfl, hgl, _, hr⟩ := HAr.out (fun e => by rw [e] at hp; simp at hp)
   have hr2 : stT.Row wr g o xa := hr.keep (hK.out.block g hgl (by simp))
   have c0 := st_cell hr2 hp
   have hpl := Hpa.out p (List.mem_of_getElem? hp)
   have Htk := Lib.hid (shrL_take (le := lessB) (com := comG) (ys := xb) hp)
   clear hr hr2 hp
   go_wp2
   go_loopw [10, 11, 35] (fun s10 s11 s35 wx => ∃ (j : Nat) (st : Option Tx), j ≤ N2 ∧ s35 = .int .i64 (j : Int) ∧ s10 = .string (bs (st.getD [])) ∧ s11 = .bool st.isSome ∧ Hid (st = shrRow lessB comG (xb.take j) st0 p) ∧ Hid (Kp [] Vb wx)) (fun _ _ s35 _ => N2 - (intOf s35).toNat)
   case atStart => exact ⟨0, st0, by omega, rfl, rfl, rfl, Lib.hid rfl, hK⟩
   case round =>
    clear c0 hK
    obtain ⟨j, st, hj, rfl, rfl, rfl, hst2, hK⟩ := hrel
    by_cases hjl : j < N2
    ·have hjz : (j : Int) < (N2 : Int) := by omega
     obtain ⟨q, hq⟩ : ∃ q, xb[j]? = some q := ⟨_, List.getElem?_eq_getElem (by rw [HN2.out]; exact hjl)⟩
     obtain ⟨g2, o2, rfl, hgl2, _, hr⟩ := HBr.out (fun e => by rw [e] at hq; simp at hq)
     have hr2 : stT.Row wr g2 o2 xb := hr.keep (hK.out.block g2 hgl2 (by simp))
     have c0 := st_cell hr2 hq
     have hql := Hpb.out q (List.mem_of_getElem? hq)
     have Htk2 := Lib.hid (shrRow_take (le := lessB) (com := comG) hq st0 p)
     have HCm := Lib.hid (com_G p q wr (by omega) (by omega) (HTb.out wr (HSe.out.trans hK.out)))
     unfold ComC at HCm
     clear hr hr2 hq
     cases hcm : comG p q with
     | none =>
      have Hcm := Lib.hid hcm
      rw [hcm] at HCm
      clear hcm
      go_wp2_with fail
      refine Calls.mono (by with_reducible exact HCm.out) ?_
      rintro e w3 ⟨⟨er, rfl⟩, hk3⟩
      have HK3 := Lib.hid (hK.out.trans hk3)
      rw [Option.isSome_none]
      clear hk3
      go_wp2
      refine ⟨⟨j + 1, st, by omega, by go_num, rfl, rfl, Lib.hid (by rw [Htk2.out, Hcm.out, ← hst2.out]; rfl), HK3⟩, by simp [intOf]; omega⟩
     | some t =>
      have Hcm := Lib.hid hcm
      rw [hcm] at HCm
      clear hcm
      cases st with
      | none =>
       rw [Option.isSome_none]
       go_wp2_with fail
       refine Calls.mono (by with_reducible exact HCm.out) ?_
       rintro e w3 ⟨⟨er, rfl⟩, hk3⟩
       have HK3 := Lib.hid (hK.out.trans hk3)
       rw [Option.isSome_some, Option.getD_some]
       clear hk3
       go_wp2
       refine ⟨⟨j + 1, some t, by omega, by go_num, rfl, rfl, Lib.hid (by rw [Htk2.out, Hcm.out, ← hst2.out]; rfl), HK3⟩, by simp [intOf]; omega⟩
      | some l0 =>
       rw [Option.isSome_some, Option.getD_some]
       have HLs := Lib.hid fun V => less32_any t l0 V
       cases hle : lessB t l0 with
       | true =>
        have Hle := Lib.hid hle
        rw [hle] at HLs
        clear hle
        go_wp2_with fail
        refine Calls.mono (by with_reducible exact HCm.out) ?_
        rintro e w3 ⟨⟨er, rfl⟩, hk3⟩
        have HK3 := Lib.hid (hK.out.trans hk3)
        rw [Option.isSome_some, Option.getD_some]
        clear hk3
        go_wp2_with fail
        refine Calls.mono (by with_reducible exact HLs.out _) ?_
        rintro e w4 ⟨rfl, rfl⟩
        go_wp2
        refine ⟨⟨j + 1, some t, by omega, by go_num, rfl, rfl, Lib.hid (by rw [Htk2.out, Hcm.out, ← hst2.out]; simp [updS, Hle.out]), HK3⟩, by simp [intOf]; omega⟩
       | false =>
        have Hle := Lib.hid hle
        rw [hle] at HLs
        clear hle
        go_wp2_with fail
        refine Calls.mono (by with_reducible exact HCm.out) ?_
        rintro e w3 ⟨⟨er, rfl⟩, hk3⟩
        have HK3 := Lib.hid (hK.out.trans hk3)
        rw [Option.isSome_some, Option.getD_some]
        clear hk3
        go_wp2_with fail
        refine Calls.mono (by with_reducible exact HLs.out _) ?_
        rintro e w4 ⟨rfl, rfl⟩
        go_wp2
        refine ⟨⟨j + 1, some l0, by omega, by go_num, rfl, rfl, Lib.hid (by rw [Htk2.out, Hcm.out, ← hst2.out]; simp [updS, Hle.out]), HK3⟩, by simp [intOf]; omega⟩
    ·have hjz : ¬ ((j : Int) < (N2 : Int)) := by omega
     have hfin := hst2.out
     rw [List.take_of_length_le (by rw [HN2.out]; omega), hst.out, ← Htk.out] at hfin
     have Hfin := Lib.hid hfin
     clear hfin
     go_wp2
     refine ⟨⟨i + 1, st, by omega, by go_num, rfl, rfl, Hfin, hK⟩, by simp [intOf]; omega⟩
  ·have hiz : ¬ ((i : Int) < (N1 : Int)) := by omega
   have hfin := hst.out
   rw [List.take_of_length_le (by rw [HN1.out]; omega)] at hfin
   have hfin2 : st0 = RS := hfin.trans HRS.out
   subst hfin2
   go_wp2
   go_ret2
   exact ⟨rfl, Hka.out.trans (HSe.out.trans hK.out)⟩
end Go.Proofs.YtdlchlbngojljaaDoor
namespace Go.Proofs.YtdlchlbngojljaaDoor
open Go.RowKit Go.Maps
open Gl (lessB)
def kC : Cf := ⟨[⟨[97], [[117, 115, 98, 58, 118, 49, 42]]⟩, ⟨[98], [[117, 115, 98, 58, 42]]⟩, ⟨[99], []⟩], [[98]], [([112, 99, 105, 58, 42], [99])]⟩
set_option maxRecDepth 100000 in
theorem k1 : shrL lessB comG (aliN kC.mods [97]) (aliN kC.mods [98]) = some [117, 115, 98, 58, 118, 49] := by kernel_rfl
set_option maxRecDepth 100000 in
theorem k2 : shrL lessB comG (aliN kC.mods [97]) (aliN kC.mods [99]) = none := by kernel_rfl
set_option maxRecDepth 100000 in
theorem k3 : findR hitG kC [117, 115, 98, 58, 118, 49] = [[97]] := by kernel_rfl
set_option maxRecDepth 100000 in
theorem k4 : findR hitG kC [112, 99, 105, 58, 120] = [[99]] := by kernel_rfl
set_option maxRecDepth 100000 in
theorem k5 : findR hitG kC [] = [] := by kernel_rfl
def kO1 : Obj := .cells #[.string ⟨#[117, 115, 98, 58, 118, 49, 42]⟩] 9
def kO2 : Obj := .cells #[.string ⟨#[117, 115, 98, 58, 42]⟩] 9
def kMs (B : Nat) : List Mx := [(⟨[97], ⟨some ⟨B, 0, none⟩, 1, 1⟩, ⟨none, 0, 0⟩, ⟨none, 0, 0⟩, ⟨none, 0, 0⟩, false⟩, ⟨[97], [[117, 115, 98, 58, 118, 49, 42]]⟩), (⟨[98], ⟨some ⟨B + 1, 0, none⟩, 1, 1⟩, ⟨none, 0, 0⟩, ⟨none, 0, 0⟩, ⟨none, 0, 0⟩, false⟩, ⟨[98], [[117, 115, 98, 58, 42]]⟩), (⟨[99], ⟨none, 0, 0⟩, ⟨none, 0, 0⟩, ⟨none, 0, 0⟩, ⟨none, 0, 0⟩, false⟩, ⟨[99], []⟩)]
def kO3 (B : Nat) : Obj := .cells #[.string ⟨#[97]⟩, .slice (some ⟨B, 0, none⟩) 1 1, .slice none 0 0, .slice none 0 0, .slice none 0 0, .bool false, .string ⟨#[98]⟩, .slice (some ⟨B + 1, 0, none⟩) 1 1, .slice none 0 0, .slice none 0 0, .slice none 0 0, .bool false, .string ⟨#[99]⟩, .slice none 0 0, .slice none 0 0, .slice none 0 0, .slice none 0 0, .bool false] 51
def kO4 : Obj := .cells #[.string ⟨#[98]⟩] 9
def kO5 : Obj := .cells #[.string ⟨#[112, 99, 105, 58, 42]⟩, .string ⟨#[99]⟩] 48
def kV (B : Nat) : Array Value := #[.slice (some ⟨B + 1 + 1, 0, none⟩) 3 3, .slice (some ⟨B + 1 + 1 + 1, 0, none⟩) 1 1, .slice none 0 0, .slice none 0 0, .slice (some ⟨B + 1 + 1 + 1 + 1, 0, none⟩) 1 1]
def kW (w : World) (B : Nat) : World := (((((w.alloc kO1).alloc kO2).alloc (kO3 B)).alloc kO4).alloc kO5).alloc (.cells (kV B) 31)
theorem kp_kW (w : World) (B : Nat) : Kp [] w (kW w B) := ((((((Kp.refl [] w).alloc _).alloc _).alloc _).alloc _).alloc _).alloc _
theorem heap_push_last (w : World) (o : Obj) : (w.alloc o).heap[w.heap.size]? = some o := by
 show (w.heap.push o)[w.heap.size]? = some o
 simp
theorem al6 (w : World) (a b c d e f : Obj) {B : Nat} (hB : w.heap.size = B) : ((((((w.alloc a).alloc b).alloc c).alloc d).alloc e).alloc f).heap[B]? = some a ∧ ((((((w.alloc a).alloc b).alloc c).alloc d).alloc e).alloc f).heap[B + 1]? = some b ∧ ((((((w.alloc a).alloc b).alloc c).alloc d).alloc e).alloc f).heap[B + 1 + 1]? = some c ∧ ((((((w.alloc a).alloc b).alloc c).alloc d).alloc e).alloc f).heap[B + 1 + 1 + 1]? = some d ∧ ((((((w.alloc a).alloc b).alloc c).alloc d).alloc e).alloc f).heap[B + 1 + 1 + 1 + 1]? = some e ∧ ((((((w.alloc a).alloc b).alloc c).alloc d).alloc e).alloc f).heap[B + 1 + 1 + 1 + 1 + 1]? = some f := by
 have k : ∀ (v : World) (o : Obj) (i : Nat), i < v.heap.size → (v.alloc o).heap[i]? = v.heap[i]? := fun v o i h => ((Kp.refl [] v).alloc o).block i h (by simp)
 have z : ∀ (v : World) (o : Obj) (n : Nat), v.heap.size = n → (v.alloc o).heap.size = n + 1 := fun v o n h => by rw [World.size_alloc, h]
 have l : ∀ (v : World) (o : Obj) (n : Nat), v.heap.size = n → (v.alloc o).heap[n]? = some o := fun v o n h => by subst h; exact heap_push_last v o
 have s1 := z _ a _ hB
 have s2 := z _ b _ s1
 have s3 := z _ c _ s2
 have s4 := z _ d _ s3
 have s5 := z _ e _ s4
 refine ⟨?_, ?_, ?_, ?_, ?_, l _ f _ s5⟩
 ·rw [k _ f _ (by omega), k _ e _ (by omega), k _ d _ (by omega), k _ c _ (by omega), k _ b _ (by omega)]; exact l _ a _ hB
 ·rw [k _ f _ (by omega), k _ e _ (by omega), k _ d _ (by omega), k _ c _ (by omega)]; exact l _ b _ s1
 ·rw [k _ f _ (by omega), k _ e _ (by omega), k _ d _ (by omega)]; exact l _ c _ s2
 ·rw [k _ f _ (by omega), k _ e _ (by omega)]; exact l _ d _ s3
 ·rw [k _ f _ (by omega)]; exact l _ e _ s4
theorem heap_kW {w : World} {B : Nat} (hB : w.heap.size = B) : (kW w B).heap[B]? = some kO1 ∧ (kW w B).heap[B + 1]? = some kO2 ∧ (kW w B).heap[B + 1 + 1]? = some (kO3 B) ∧ (kW w B).heap[B + 1 + 1 + 1]? = some kO4 ∧ (kW w B).heap[B + 1 + 1 + 1 + 1]? = some kO5 ∧ (kW w B).heap[B + 1 + 1 + 1 + 1 + 1]? = some (.cells (kV B) 31) := by
 exact al6 w kO1 kO2 (kO3 B) kO4 kO5 _ hB
set_option maxRecDepth 100000 in
theorem kW_at {w : World} {B : Nat} (hB : w.heap.size = B) : CAt B (kW w B) (.slice (some ⟨B + 1 + 1, 0, none⟩) 3 3) (.slice (some ⟨B + 1 + 1 + 1, 0, none⟩) 1 1) (.slice (some ⟨B + 1 + 1 + 1 + 1, 0, none⟩) 1 1) (kMs B) kC := by
 obtain ⟨h1, h2, h3, h4, h5, _⟩ := heap_kW hB
 refine ⟨⟨⟨.inr ⟨_, 0, 3, rfl, block_lt h3, RT.row_of (r := mdT) (cur := mdT.cells (kMs B)) h3 rfl⟩, fun b hb => (by cases hb; dsimp only; omega)⟩, fun x hx => ?_⟩, rfl, ⟨.inr ⟨_, 0, 1, rfl, block_lt h4, RT.row_of (r := stT) (cur := [.string (bs [98])]) h4 rfl⟩, fun b hb => (by cases hb; dsimp only; omega)⟩,
  ⟨.inr ⟨_, 0, 1, rfl, block_lt h5, RT.row_of (r := atT) (cur := [.string (bs [112, 99, 105, 58, 42]), .string (bs [99])]) h5 rfl⟩, fun b hb => (by cases hb; dsimp only; omega)⟩⟩
 simp only [kMs, List.mem_cons, List.not_mem_nil, or_false] at hx
 rcases hx with rfl | rfl | rfl
 ·exact ⟨rfl, .inr ⟨_, 0, 1, rfl, block_lt h1, RT.row_of (r := stT) (cur := [.string (bs [117, 115, 98, 58, 118, 49, 42])]) h1 rfl⟩, fun b hb => (by cases hb; dsimp only; omega)⟩
 ·exact ⟨rfl, .inr ⟨_, 0, 1, rfl, block_lt h2, RT.row_of (r := stT) (cur := [.string (bs [117, 115, 98, 58, 42])]) h2 rfl⟩, fun b hb => (by cases hb; dsimp only; omega)⟩
 ·exact ⟨rfl, .inl ⟨none, 0, rfl, rfl⟩, fun b hb => by cases hb⟩
theorem kC_ty : CTy kC := ⟨by decide, by decide, by decide, by decide, by decide, by decide, by decide, by decide⟩
def FKn (s : Tx) (w : World) (e : Ending) (w' : World) : Prop := ∃ v, Hid (stT.HasB 0 w' v (findR hitG kC s)) ∧ e = .returned v ∧ Kp [] w w'
theorem one_has (W : World) (x : Tx) : stT.HasB 0 (W.alloc (.cells #[.string (bs x)] 9)) (.slice (some ⟨W.heap.size, 0, none⟩) 1 1) [x] :=
 ⟨.inr ⟨_, 0, 1, rfl, by simp, RT.row_of (r := stT) (cur := [.string (bs x)]) (heap_alloc_last W _) rfl⟩, fun _ _ => Nat.zero_le _⟩
theorem same_one {W : World} {u : Value} {x : Tx} (h : stT.HasB 0 W u [x]) : Calls Tryd.prog 12 #[u, .slice (some ⟨W.heap.size, 0, none⟩) 1 1] (W.alloc (.cells #[.string (bs x)] 9)) fun e w' => e = .returned (.bool true) ∧ Kp [] W w' := by
 have hk := (Kp.refl [] W).alloc (.cells #[.string (bs x)] 9)
 refine (sameTexts_any (by simp) (h.kp hk (by simp)) (one_has W x)).mono fun e w' h => ⟨?_, hk.trans h.2⟩
 rw [h.1]
 simp
set_option maxHeartbeats 8000000 in
set_option maxRecDepth 100000 in
theorem known_any (w : World) (hT : Gl.TabAt w) : Calls Tryd.prog 7 #[] w fun e w' => e = .returned (.bool true) ∧ Kp [] w w' := by
 obtain ⟨B, hB⟩ : ∃ B, w.heap.size = B := ⟨_, rfl⟩
 obtain ⟨W, hW⟩ : ∃ W, kW w B = W := ⟨_, rfl⟩
 have hat := kW_at hB
 have hkw := kp_kW w B
 have hcf := (heap_kW hB).2.2.2.2.2
 rw [hW] at hat hkw hcf
 have hTW := fun V (hV : Kp [] W V) => tab_keep hT ((hkw.trans hV).block 0 hT.lt (by simp))
 obtain ⟨cv, hcv⟩ : ∃ cv, kV B = cv := ⟨_, rfl⟩
 rw [hcv] at hcf
 have hc5 : (Tryd.prog.info? 31).map (·.size) = some cv.size := by rw [← hcv]; exact info31b
 have HS1 := Lib.hid (show ∀ V, Kp [] W V → Calls Tryd.prog 17 #[.agg cv, .string ⟨#[97]⟩, .string ⟨#[98]⟩] V (fun e w' => e = .returned (.tuple #[.string ⟨#[117, 115, 98, 58, 118, 49]⟩, .bool true]) ∧ Kp [] V w') from fun V hV => by
  have h := shared_any (ov := .slice none 0 0) (kv := .slice none 0 0) [97] [98] (hat.kp hV (by simp)) kC_ty (hTW V hV)
  unfold ShPost at h
  rw [k1] at h
  rw [← hcv]
  exact h)
 have HS2 := Lib.hid (show ∀ V, Kp [] W V → Calls Tryd.prog 17 #[.agg cv, .string ⟨#[97]⟩, .string ⟨#[99]⟩] V (fun e w' => e = .returned (.tuple #[.string ⟨#[]⟩, .bool false]) ∧ Kp [] V w') from fun V hV => by
  have h := shared_any (ov := .slice none 0 0) (kv := .slice none 0 0) [97] [99] (hat.kp hV (by simp)) kC_ty (hTW V hV)
  unfold ShPost at h
  rw [k2] at h
  rw [← hcv]
  exact h)
 have hF : ∀ (s : Tx), s.length ≤ 1000000 → ∀ V, Kp [] W V → Calls Tryd.prog 13 #[.agg cv, .string (bs s)] V (FKn s V) := fun s hs V hV => by
  rw [← hcv]
  exact (find_any (ov := .slice none 0 0) (kv := .slice none 0 0) s (by omega) (hat.kp hV (by simp)) kC_ty (hTW V hV)).mono fun e w' h => by
   obtain ⟨v, h1, h2, h3⟩ := h
   exact ⟨v, Lib.hid (h1.out.low (Nat.zero_le _)), h2, h3⟩
 have hFl : ∀ (s : Tx), s.length ≤ 1000000 → ∀ V, Kp [] W V → Calls Tryd.prog 13 #[.agg (kV B), .string (bs s)] V (FKn s V) := fun s hs V hV => by rw [hcv]; exact hF s hs V hV
 have HF1 := Lib.hid (show ∀ V, Kp [] W V → Calls Tryd.prog 13 #[.agg cv, .string ⟨#[117, 115, 98, 58, 118, 49]⟩] V (FKn [117, 115, 98, 58, 118, 49] V) from hF [117, 115, 98, 58, 118, 49] (by decide))
 have HF2 := Lib.hid (show ∀ V, Kp [] W V → Calls Tryd.prog 13 #[.agg #[.slice (some ⟨B + 1 + 1, 0, none⟩) 3 3, .slice (some ⟨B + 1 + 1 + 1, 0, none⟩) 1 1, .slice none 0 0, .slice none 0 0, .slice (some ⟨B + 1 + 1 + 1 + 1, 0, none⟩) 1 1], .string ⟨#[112, 99, 105, 58, 120]⟩] V (FKn [112, 99, 105, 58, 120] V) from hFl [112, 99, 105, 58, 120] (by decide))
 have HF3 := Lib.hid (show ∀ V, Kp [] W V → Calls Tryd.prog 13 #[.agg #[.slice (some ⟨B + 1 + 1, 0, none⟩) 3 3, .slice (some ⟨B + 1 + 1 + 1, 0, none⟩) 1 1, .slice none 0 0, .slice none 0 0, .slice (some ⟨B + 1 + 1 + 1 + 1, 0, none⟩) 1 1], .string ⟨#[]⟩] V (FKn [] V) from hFl [] (by decide))
 have HE1 := Lib.hid (show ∀ V u, stT.HasB 0 V u [[97]] → Calls Tryd.prog 12 #[u, .slice (some ⟨V.heap.size, 0, none⟩) 1 1] (V.alloc (.cells #[.string ⟨#[97]⟩] 9)) (fun e w' => e = .returned (.bool true) ∧ Kp [] V w') from fun V u h => same_one h)
 have HE2 := Lib.hid (show ∀ V u, stT.HasB 0 V u [[99]] → Calls Tryd.prog 12 #[u, .slice (some ⟨V.heap.size, 0, none⟩) 1 1] (V.alloc (.cells #[.string ⟨#[99]⟩] 9)) (fun e w' => e = .returned (.bool true) ∧ Kp [] V w') from fun V u h => same_one h)
 have HB := Lib.hid hB
 have HW := Lib.hid hW
 have Hcv := Lib.hid hcv
 have Hc5 := Lib.hid hc5
 have Hkw := Lib.hid hkw
 have Hld := Lib.hid (show ∀ V, Kp [] W V → V.heap[B + 1 + 1 + 1 + 1 + 1]? = some (.cells cv 31 (0, 0)) from fun V hV => (hV.block _ (block_lt hcf) (by simp)).trans hcf)
 have HK0 := Lib.hid (Kp.refl [] W)
 have Hcl := Lib.hid (show ∀ V, Kp [] W V → V.cell? ⟨B + 1 + 1 + 1 + 1 + 1, 0, none⟩ = some (.slice (some ⟨B + 1 + 1, 0, none⟩) 3 3) ∧ V.cell? ⟨B + 1 + 1 + 1 + 1 + 1, 1, none⟩ = some (.slice (some ⟨B + 1 + 1 + 1, 0, none⟩) 1 1) ∧ V.cell? ⟨B + 1 + 1 + 1 + 1 + 1, 2, none⟩ = some (.slice none 0 0) ∧ V.cell? ⟨B + 1 + 1 + 1 + 1 + 1, 3, none⟩ = some (.slice none 0 0) ∧ V.cell? ⟨B + 1 + 1 + 1 + 1 + 1, 4, none⟩ = some (.slice (some ⟨B + 1 + 1 + 1 + 1, 0, none⟩) 1 1) from fun V hV => by
  have h := (hV.block _ (block_lt hcf) (by simp)).trans hcf
  rw [← hcv] at h
  refine ⟨?_, ?_, ?_, ?_, ?_⟩ <;> (rw [cell_of_row _ _ _ _ _ _ h]; rfl))
 clear hB hW hat hkw hcf hTW hcv hc5 hF hT
 simp only [kW, kO1, kO2, kO3, kO4, kO5, kV] at HW Hcv
 unfold FKn at HF1 HF2 HF3
 rw [k3] at HF1
 rw [k4] at HF2
 rw [k5] at HF3
 go_enter Tryd.func7, Tryd.ntmps7
 go_upto_region 2 with (refine Gl.wpList_store_new _ 31 _ (kV w.heap.size) rfl _ _ rfl rfl rfl info31b rfl rfl ?_)
 rw [HB.out, Hcv.out]
 rw [Hcv.out] at HW
 rw [HW.out]
 go_wp2_with (refine wpList_load_row rfl 31 _ rfl (B + 1 + 1 + 1 + 1 + 1) rfl 31 cv _ _ (Hld.out _ HK0.out) Tryd.underlying31 rfl Hc5.out ?_)
 refine Calls.mono (by with_reducible exact HS1.out _ HK0.out) ?_
 rintro e W1 ⟨rfl, hk⟩
 have HK1 := Lib.hid hk
 clear hk
 go_upto_region 3 with fail
 go_wp2_with (refine wpList_load_row rfl 31 _ rfl (B + 1 + 1 + 1 + 1 + 1) rfl 31 cv _ _ (Hld.out _ HK1.out) Tryd.underlying31 rfl Hc5.out ?_)
 refine Calls.mono (by with_reducible exact HS2.out _ HK1.out) ?_
 rintro e W2 ⟨rfl, hk⟩
 have HK2 := Lib.hid (HK1.out.trans hk)
 clear hk
 go_upto_region 4 with fail
 go_wp2_with (refine wpList_load_row rfl 31 _ rfl (B + 1 + 1 + 1 + 1 + 1) rfl 31 cv _ _ (Hld.out _ HK2.out) Tryd.underlying31 rfl Hc5.out ?_)
 refine Calls.mono (by with_reducible exact HF1.out _ HK2.out) ?_
 rintro e W3 ⟨u1, hu1, rfl, hk⟩
 have HK3 := Lib.hid (HK2.out.trans hk)
 clear hk
 go_wp2_with fail
 refine Calls.mono (by with_reducible exact HE1.out _ _ hu1.out) ?_
 rintro e W4 ⟨rfl, hk⟩
 have HK4 := Lib.hid (HK3.out.trans hk)
 clear hk
 obtain ⟨e0, e1, e2, e3, e4⟩ := Hcl.out W4 HK4.out
 go_wp2_with fail
 refine Calls.mono (by with_reducible exact HF2.out _ HK4.out) ?_
 rintro e W5 ⟨u2, hu2, rfl, hk⟩
 have HK5 := Lib.hid (HK4.out.trans hk)
 clear hk
 go_wp2_with fail
 refine Calls.mono (by with_reducible exact HE2.out _ _ hu2.out) ?_
 rintro e W6 ⟨rfl, hk⟩
 have HK6 := Lib.hid (HK5.out.trans hk)
 clear hk
 clear e0 e1 e2 e3 e4
 obtain ⟨e0, e1, e2, e3, e4⟩ := Hcl.out W6 HK6.out
 go_wp2_with fail
 refine Calls.mono (by with_reducible exact HF3.out _ HK6.out) ?_
 rintro e W7 ⟨u3, hu3, rfl, hk⟩
 obtain ⟨a3, c3, rfl, _⟩ := hu3.out.form
 have HK7 := Lib.hid (Hkw.out.trans (HK6.out.trans hk))
 clear hk
 go_wp2
 go_ret
 exact ⟨rfl, HK7.out⟩
end Go.Proofs.YtdlchlbngojljaaDoor
