/- Find of a configuration; the contracts of package glob as this package wants them. -/
import Derived.Test.YtdlchlbngojljaaDoorKM4
import Derived.Test.YtdlchlbngojljaaDoorKLc
namespace Go.Proofs.YtdlchlbngojljaaDoor
open Go.RowKit Go.Maps

abbrev hitG (p s : Tx) : Bool := Gl.patB p s
def preG (p : Tx) : Option Tx := (Gl.altsP p).map Gl.prefB
abbrev erG (p : Tx) : Int := Gl.errP p
def comG (p q : Tx) : Option Tx := match Gl.altsP p with
  | none => none
  | some x => match Gl.altsP q with
    | none => none
    | some y => Gl.commonB x y
theorem her_G (p : Tx) : (erG p == 0) = (preG p).isSome := by
  unfold preG
  cases h : Gl.altsP p with
  | none => rcases Gl.errP_none h with e | e <;> (unfold erG; rw [e]; rfl)
  | some x => unfold erG; rw [Gl.errP_some h]; rfl
theorem pre_len {p b : Tx} (h : preG p = some b) : b.length ≤ 256 := by
  unfold preG at h
  cases hx : Gl.altsP p with
  | none => rw [hx] at h; cases h
  | some x =>
    rw [hx] at h
    have h := Option.some.inj h
    obtain ⟨hne, _, hg⟩ := Gl.altsP_good hx
    cases x with
    | nil => exact absurd rfl hne
    | cons a r =>
      have h1 := (Gl.pref_prefix (L := a :: r) (a := a) (by simp)).length_le
      have h2 := Gl.begB_len a
      have h3 := (hg a (by simp)).1
      rw [← h]
      omega
theorem hpl_G : ∀ p b, preG p = some b → b.length ≤ 1000000 := fun p b h => by have := pre_len h; omega
theorem hpre_G (p s : Tx) (h : hitG p s = true) : ∃ b, preG p = some b ∧ b <+: s ∧ b.length ≤ 256 := by
  cases hx : Gl.altsP p with
  | none =>
    unfold hitG Gl.patB at h
    rw [hx] at h
    cases h
  | some x =>
    have hp : preG p = some (Gl.prefB x) := by unfold preG; rw [hx]; rfl
    refine ⟨_, hp, ?_, pre_len hp⟩
    have := Gl.begins_prefix hx h
    unfold Lib.hasPrefix at this
    exact List.isPrefixOf_iff_prefix.1 this
theorem tab_keep {w w' : World} (h : Gl.TabAt w) (hb : w'.heap[0]? = w.heap[0]?) : Gl.TabAt w' := fun k hk => by
  have := h k hk
  simp only [World.cell?, hb] at this ⊢
  exact this
theorem pfx_G (p : Tx) (w : World) (hp : p.length ≤ 1000000) (hT : Gl.TabAt w) : PfxC preG erG w p := by
  refine (Gl.prefix_any (bs p) w (by rw [bs_size]; omega) hT).mono fun e w' h => ⟨?_, Kp.of_bel h.2⟩
  rw [h.1, bs_data]
  unfold preG
  cases Gl.altsP p <;> rfl
theorem mat_G (p s : Tx) (w : World) (hp : p.length ≤ 1000000) (hs : s.length ≤ 4611686018427387000) : MatC hitG w p s :=
  (Gl.match_any (bs p) (bs s) w (by rw [bs_size]; omega) (by rw [bs_size]; omega)).mono fun e w' h => ⟨by rw [h.1, bs_data, bs_data], Kp.of_bel h.2⟩

theorem ents_le {C : Cf} (h : CTy C) : (ents preG C).length ≤ 3000 := by
  have h1 := entM_len (pre := preG) (bl := C.bl) C.mods h.al
  have h2 := entX_len (pre := preG) (ms := C.mods) C.ex
  have h3 := h.ms
  have h4 := h.ex
  unfold ents
  rw [List.length_append]
  omega
theorem ents_pat {C : Cf} (h : CTy C) {x : Tx × Tx × Tx} (hx : x ∈ ents preG C) : x.2.1.length ≤ 1000000 := by
  obtain ⟨b, p, n⟩ := x
  obtain ⟨_, ⟨m, hm, _, hp, _⟩ | ⟨he, _⟩⟩ := (ents_mem preG C b p n).1 hx
  · have := h.pt m hm p hp
    show p.length ≤ 1000000
    omega
  · have := (h.xt _ he).1
    show p.length ≤ 1000000
    have h2 : p.length ≤ 1000 := this
    omega
theorem newG_any {w : World} {A : Nat} {mv bv ov kv xv : Value} {l : List Mx} {C : Cf} (hC : CAt A w mv bv xv l C) (hT : CTy C) (hTb : Gl.TabAt w) : Calls Tryd.prog 9 #[.agg #[mv, bv, ov, kv, xv]] w (NewPost preG w C) :=
  new_any her_G hpl_G hC hT hTb.lt fun p W hp hW => pfx_G p W hp (tab_keep hTb hW)
theorem ixG_any {w : World} {A : Nat} {xv : Value} {C : Cf} (s : Tx) (hs : s.length ≤ 4611686018427387000) (hT : CTy C) (hI : IxAt A w xv (ents preG C)) : Calls Tryd.prog 14 #[xv, .string (bs s)] w (IFPost (findR hitG C s) w) := by
  rw [← find_eq hitG preG hpre_G C s]
  exact ixFind_any s hs hI (ents_le hT) fun x hx W _ => mat_G _ _ W (ents_pat hT hx) hs

def cfV (mv bv ov kv xv : Value) : Array Value := #[mv, bv, ov, kv, xv]
theorem info31b : (Tryd.prog.info? 31).map (·.size) = some (5 : Nat) := by kernel_rfl
set_option maxHeartbeats 2000000 in
set_option maxRecDepth 100000 in
theorem find_any {w : World} {A : Nat} {mv bv ov kv xv : Value} {l : List Mx} {C : Cf} (s : Tx) (hs : s.length ≤ 4611686018427387000) (hC : CAt A w mv bv xv l C) (hT : CTy C) (hTb : Gl.TabAt w) :
    Calls Tryd.prog 13 #[.agg (cfV mv bv ov kv xv), .string (bs s)] w (IFPost (findR hitG C s) w) := by
  have hra := heap_alloc_last w (.cells (cfV mv bv ov kv xv) 31)
  have hka := (Kp.refl [] w).alloc (.cells (cfV mv bv ov kv xv) 31)
  obtain ⟨R, hR⟩ : ∃ R, w.heap.size = R := ⟨_, rfl⟩
  obtain ⟨W, hW⟩ : ∃ W, w.alloc (.cells (cfV mv bv ov kv xv) 31) = W := ⟨_, rfl⟩
  rw [hR, hW] at hra
  rw [hW] at hka
  unfold IFPost
  rw [hR]
  have HN := Lib.hid (newG_any (ov := ov) (kv := kv) (hC.kp hka (by simp)) hT (tab_keep hTb (hka.block 0 hTb.lt (by simp))))
  have Hra := Lib.hid hra
  have Hka := Lib.hid hka
  have HW := Lib.hid hW
  have HR := Lib.hid hR
  obtain ⟨cv, hcv⟩ : ∃ cv, cfV mv bv ov kv xv = cv := ⟨_, rfl⟩
  have hc5 : cv.size = 5 := by rw [← hcv]; rfl
  have e5 : #[mv, bv, ov, kv, xv] = cv := hcv
  rw [e5] at HN
  rw [hcv] at Hra HW ⊢
  have Hc5 := Lib.hid (show (Tryd.prog.info? 31).map (·.size) = some cv.size by rw [hc5]; exact info31b)
  have HT := Lib.hid hT
  clear hra hka hR hW hC hTb hcv hc5 e5 hT
  go_enter Tryd.func13, Tryd.ntmps13
  go_upto_region 1 with fail
  rw [HW.out, HR.out]
  go_wp2_with (refine wpList_load_row rfl 31 _ rfl R rfl 31 cv _ _ Hra.out Tryd.underlying31 rfl Hc5.out ?_)
  refine Calls.mono (by with_reducible exact HN.out) ?_
  unfold NewPost
  rintro e w1 ⟨v, hI, rfl, hk1⟩
  have hsz := hk1.size
  have HF := Lib.hid (ixG_any s hs HT.out hI.out)
  have Hk1 := Lib.hid (Hka.out.trans hk1)
  unfold IFPost at HF
  clear hk1 hI
  go_wp2_with fail
  refine Calls.mono (by with_reducible exact HF.out) ?_
  rintro e w2 ⟨u, hu, rfl, hk2⟩
  have HU := Lib.hid (hu.out.low (show R ≤ w1.heap.size from by have := Hk1.out.size; have := HR.out; omega))
  have Hk2 := Lib.hid (Hk1.out.trans hk2)
  clear hk2 hu
  go_wp2
  go_ret
  exact ⟨u, HU, rfl, Hk2.out⟩
end Go.Proofs.YtdlchlbngojljaaDoor
