/- Values; the expanders of plain fields; device.Get; attribute, property. -/
import Derived.Test.YtfpkppgecmbglaaGreatDoorN
namespace Go.Proofs.YtfpkppgecmbglaaGreatDoor
open Go.RowKit

/-- The values of a device. -/
structure Vs where
  kernel : List UInt8
  devpath : List UInt8
  id : List UInt8
  driver : List UInt8
  parent : List UInt8
  name : List UInt8
  result : List UInt8
  attrs : List Atb
  above : List Atb
  env : List Atb
def vsC (v : Vs) (a b c : Value) : Array Value := #[.string (bs v.kernel), .string (bs v.devpath), .string (bs v.id), .string (bs v.driver), .string (bs v.parent), .string (bs v.name), .string (bs v.result), a, b, c]
/-- The lists of the values lie in memory; no text is beyond reach. -/
structure VsIn (w : World) (v : Vs) (a b c : Value) : Prop where
  ha : atT.Has w a v.attrs
  hb : atT.Has w b v.above
  hc : atT.Has w c v.env
  la : v.attrs.length ≤ 1000000000000
  lb : v.above.length ≤ 1000000000000
  lc : v.env.length ≤ 1000000000000
  lk : v.kernel.length ≤ 1000000000000
  lr : v.result.length ≤ 4000000000
theorem VsIn.kp0 {w w' : World} {v : Vs} {a b c : Value} (h : VsIn w v a b c) (hk : Kp [] w w') : VsIn w' v a b c :=
  ⟨h.ha.kp0 hk, h.hb.kp0 hk, h.hc.kp0 hk, h.la, h.lb, h.lc, h.lk, h.lr⟩
/-- The value of the first attribute with a name. -/
def getL (n : List UInt8) : List Atb → Option (List UInt8)
  | [] => none
  | x :: l => if x.1 = n then some x.2 else getL n l
theorem getL_step (n : List UInt8) (l : List Atb) (i : Nat) (x : Atb) (hx : l[i]? = some x) : getL n (l.drop i) = if x.1 = n then some x.2 else getL n (l.drop (i + 1)) := by
  obtain ⟨h1, h2⟩ := List.getElem?_eq_some_iff.1 hx
  rw [List.drop_eq_getElem_cons h1, h2, getL]
def getV (n : List UInt8) (l : List Atb) : Value := .tuple #[.string (bs ((getL n l).getD [])), .bool (getL n l).isSome]
theorem str_neb {a b : List UInt8} (h : a ≠ b) : ((bs a).toList == (bs b).toList) = false := by rw [str_eq]; simpa using h
set_option maxHeartbeats 1000000 in
set_option maxRecDepth 100000 in
theorem get_any (n : List UInt8) (sv : Value) (l : List Atb) (w : World) (hl : l.length ≤ 1000000000000) (h : atT.Has w sv l) : Calls Tryz.prog 115 #[sv, .string (bs n)] w fun e w' => e = .returned (getV n l) ∧ Kp [] w w' := by
  rcases h with ⟨ad, c, rfl, rfl⟩ | ⟨b, o, c, rfl, hb, hrow⟩
  · have hz : ¬ ((0 : Int) < ((0 : Nat) : Int)) := by omega
    have HV := Lib.hid (show Value.tuple #[.string (bs []), .bool false] = getV n [] from rfl)
    go_enter Tryz.func115, Tryz.ntmps115
    go_wp2
    go_loopw [10] (fun s3 wx => s3 = .int .i64 0 ∧ w = wx) (fun _ _ => 0)
    case atStart => exact ⟨rfl, rfl⟩
    case round =>
      obtain ⟨rfl, rfl⟩ := hrel
      go_wp2
      go_ret2
      exact ⟨congrArg Ending.returned HV.out, Kp.refl _ _⟩
  · have HW := Lib.hid hrow
    clear hrow
    obtain ⟨R, hR⟩ : ∃ R, getV n l = R := ⟨_, rfl⟩
    rw [hR]
    have hfin : ∀ g, getL n l = g → Value.tuple #[.string (bs (g.getD [])), .bool g.isSome] = R := fun g h => by rw [← hR, ← h]; rfl
    have HR := Lib.hid hfin
    clear hfin hR
    go_enter Tryz.func115, Tryz.ntmps115
    go_wp2
    go_loopw [10] (fun s3 wx => ∃ i : Nat, i ≤ l.length ∧ s3 = .int .i64 (i : Int) ∧ getL n l = getL n (l.drop i) ∧ Kp [] w wx) (fun s3 _ => l.length - (intOf s3).toNat)
    case atStart => exact ⟨0, by omega, rfl, by rw [List.drop_zero], Kp.refl _ _⟩
    case round =>
      obtain ⟨i, hi, rfl, hinv, hbl⟩ := hrel
      have Hbl := Lib.hid hbl
      by_cases hlt : i < l.length
      · have hiz : (i : Int) < (l.length : Int) := by omega
        obtain ⟨x, hx⟩ : ∃ x, l[i]? = some x := ⟨_, List.getElem?_eq_getElem (by omega)⟩
        have hrow2 : atT.Row wr b o l := HW.out.keep (hbl.block b hb (by simp))
        obtain ⟨hc0, hc1⟩ := atRow hrow2 hx
        rw [getL_step n l i x hx] at hinv
        obtain ⟨x1, x2⟩ := x
        simp only at hc0 hc1 hinv
        have hwr : IntKind.i64.wrap ((i : Int) + 1) = ((i + 1 : Nat) : Int) := by rw [IntKind.wrap_i64]; omega
        clear hbl hx hrow2
        by_cases hq : x1 = n
        · subst hq
          rw [if_pos rfl] at hinv
          have HE := Lib.hid (HR.out _ hinv)
          clear hinv HR
          go_wp2
          go_ret2
          exact ⟨congrArg Ending.returned HE.out, Hbl.out.alloc _⟩
        · have hq' := str_neb hq
          rw [if_neg hq] at hinv
          have HE := Lib.hid hinv
          clear hinv hq
          go_wp2
          exact ⟨⟨i + 1, by omega, rfl, HE.out, Hbl.out.alloc _⟩, by simp [intOf]; omega⟩
      · have hiz : ¬ ((i : Int) < (l.length : Int)) := by omega
        rw [List.drop_eq_nil_iff.2 (by omega)] at hinv
        have HE := Lib.hid (HR.out _ hinv)
        clear hinv HR hbl
        go_wp2
        go_ret2
        exact ⟨congrArg Ending.returned HE.out, Hbl.out⟩
theorem exp75_any (p : Gp) (v : Vs) (a b c : Value) (w : World) : Calls Tryz.prog 75 #[.agg (gpC p), .agg (vsC v a b c)] w fun e w' => e = .returned (.string (bs p.text)) ∧ Kp [] w w' := by
  have hk := ((Kp.refl [] w).alloc (.cells (gpC p) 61)).alloc (.cells (vsC v a b c) 43)
  unfold gpC vsC at hk ⊢
  have HK := Lib.hid hk
  clear hk
  go_enter Tryz.func75, Tryz.ntmps75
  go_wp2
  go_ret
  exact ⟨rfl, HK.out⟩
theorem exp76_any (p : Gp) (v : Vs) (a b c : Value) (w : World) : Calls Tryz.prog 76 #[.agg (gpC p), .agg (vsC v a b c)] w fun e w' => e = .returned (.string (bs v.kernel)) ∧ Kp [] w w' := by
  have hk := ((Kp.refl [] w).alloc (.cells (gpC p) 61)).alloc (.cells (vsC v a b c) 43)
  unfold gpC vsC at hk ⊢
  have HK := Lib.hid hk
  clear hk
  go_enter Tryz.func76, Tryz.ntmps76
  go_wp2
  go_ret
  exact ⟨rfl, HK.out⟩
theorem exp79_any (p : Gp) (v : Vs) (a b c : Value) (w : World) : Calls Tryz.prog 79 #[.agg (gpC p), .agg (vsC v a b c)] w fun e w' => e = .returned (.string (bs v.devpath)) ∧ Kp [] w w' := by
  have hk := ((Kp.refl [] w).alloc (.cells (gpC p) 61)).alloc (.cells (vsC v a b c) 43)
  unfold gpC vsC at hk ⊢
  have HK := Lib.hid hk
  clear hk
  go_enter Tryz.func79, Tryz.ntmps79
  go_wp2
  go_ret
  exact ⟨rfl, HK.out⟩
theorem exp80_any (p : Gp) (v : Vs) (a b c : Value) (w : World) : Calls Tryz.prog 80 #[.agg (gpC p), .agg (vsC v a b c)] w fun e w' => e = .returned (.string (bs v.id)) ∧ Kp [] w w' := by
  have hk := ((Kp.refl [] w).alloc (.cells (gpC p) 61)).alloc (.cells (vsC v a b c) 43)
  unfold gpC vsC at hk ⊢
  have HK := Lib.hid hk
  clear hk
  go_enter Tryz.func80, Tryz.ntmps80
  go_wp2
  go_ret
  exact ⟨rfl, HK.out⟩
theorem exp81_any (p : Gp) (v : Vs) (a b c : Value) (w : World) : Calls Tryz.prog 81 #[.agg (gpC p), .agg (vsC v a b c)] w fun e w' => e = .returned (.string (bs v.driver)) ∧ Kp [] w w' := by
  have hk := ((Kp.refl [] w).alloc (.cells (gpC p) 61)).alloc (.cells (vsC v a b c) 43)
  unfold gpC vsC at hk ⊢
  have HK := Lib.hid hk
  clear hk
  go_enter Tryz.func81, Tryz.ntmps81
  go_wp2
  go_ret
  exact ⟨rfl, HK.out⟩
theorem exp85_any (p : Gp) (v : Vs) (a b c : Value) (w : World) : Calls Tryz.prog 85 #[.agg (gpC p), .agg (vsC v a b c)] w fun e w' => e = .returned (.string (bs v.parent)) ∧ Kp [] w w' := by
  have hk := ((Kp.refl [] w).alloc (.cells (gpC p) 61)).alloc (.cells (vsC v a b c) 43)
  unfold gpC vsC at hk ⊢
  have HK := Lib.hid hk
  clear hk
  go_enter Tryz.func85, Tryz.ntmps85
  go_wp2
  go_ret
  exact ⟨rfl, HK.out⟩
theorem exp86_any (p : Gp) (v : Vs) (a b c : Value) (w : World) : Calls Tryz.prog 86 #[.agg (gpC p), .agg (vsC v a b c)] w fun e w' => e = .returned (.string (bs v.name)) ∧ Kp [] w w' := by
  have hk := ((Kp.refl [] w).alloc (.cells (gpC p) 61)).alloc (.cells (vsC v a b c) 43)
  unfold gpC vsC at hk ⊢
  have HK := Lib.hid hk
  clear hk
  go_enter Tryz.func86, Tryz.ntmps86
  go_wp2
  go_ret
  exact ⟨rfl, HK.out⟩
/-- The digits at the end. -/
def numT (s : List UInt8) : List UInt8 := s.drop (Nm.numAt s s.length)
theorem number_any (s : List UInt8) (w : World) (hs : s.length ≤ 1000000000000) : Calls Tryz.prog 78 #[.string (bs s)] w fun e w' => e = .returned (.string (bs (numT s))) ∧ w = w' := by
  have h := Nm.number_any (bs s) w (by rw [bs_size]; omega)
  rw [bs_drop, bs_data, bs_size] at h
  exact h.mono fun _ _ ⟨h1, h2⟩ => ⟨h1, h2.symm⟩
theorem exp77_any (p : Gp) (v : Vs) (a b c : Value) (w : World) (hl : v.kernel.length ≤ 1000000000000) : Calls Tryz.prog 77 #[.agg (gpC p), .agg (vsC v a b c)] w fun e w' => e = .returned (.string (bs (numT v.kernel))) ∧ Kp [] w w' := by
  have hk := ((Kp.refl [] w).alloc (.cells (gpC p) 61)).alloc (.cells (vsC v a b c) 43)
  unfold gpC vsC at hk ⊢
  have HK := Lib.hid hk
  have HN := Lib.hid fun W => number_any v.kernel W hl
  clear hk
  go_enter Tryz.func77, Tryz.ntmps77
  go_wp2_with (go_at_call 78; refine Calls.mono (by with_reducible exact HN.out _) ?_; rintro e w1 ⟨rfl, rfl⟩)
  go_ret
  exact ⟨rfl, HK.out⟩
def VsIn2 (w : World) (v : Vs) (a b c : Value) : Prop := ∀ W, Kp [] w W → VsIn W v a b c
set_option maxHeartbeats 1000000 in
theorem exp83_any (p : Gp) (v : Vs) (a b c : Value) (w : World) (hv : VsIn w v a b c) : Calls Tryz.prog 83 #[.agg (gpC p), .agg (vsC v a b c)] w fun e w' => e = .returned (.string (bs ((getL p.text v.env).getD []))) ∧ Kp [] w w' := by
  have hk := ((Kp.refl [] w).alloc (.cells (gpC p) 61)).alloc (.cells (vsC v a b c) 43)
  have HG := Lib.hid fun (W : World) (h : Kp [] w W) => get_any p.text c v.env W hv.lc (hv.kp0 h).hc
  unfold getV at HG
  unfold gpC vsC at hk ⊢
  have HK := Lib.hid hk
  clear hk hv
  go_enter Tryz.func83, Tryz.ntmps83
  go_wp2_with (go_at_call 115; refine Calls.mono (by with_reducible exact HG.out _ HK.out) ?_; rintro e w1 ⟨rfl, hk1⟩)
  go_ret
  exact ⟨rfl, HK.out.trans hk1⟩
set_option maxHeartbeats 1000000 in
theorem exp82_any (p : Gp) (v : Vs) (a b c : Value) (w : World) (hv : VsIn w v a b c) : Calls Tryz.prog 82 #[.agg (gpC p), .agg (vsC v a b c)] w fun e w' => e = .returned (.string (bs (((getL p.text v.attrs).or (getL p.text v.above)).getD []))) ∧ Kp [] w w' := by
  obtain ⟨W, hW⟩ : ∃ W, (w.alloc (.cells (gpC p) 61)).alloc (.cells (vsC v a b c) 43) = W := ⟨_, rfl⟩
  have hk : Kp [] w W := by rw [← hW]; exact ((Kp.refl [] w).alloc _).alloc _
  have HG := Lib.hid fun (W : World) (h : Kp [] w W) => get_any p.text a v.attrs W hv.la (hv.kp0 h).ha
  have HH := Lib.hid fun (W : World) (h : Kp [] w W) => get_any p.text b v.above W hv.lb (hv.kp0 h).hb
  have c1 : W.cell? ⟨w.heap.size, 1, none⟩ = some (.string (bs p.text)) := by
    rw [← hW]
    exact ((PAt.new w p).kp ((Kp.refl [] _).alloc _) (by simp)).cells.2.1
  have c8 : W.cell? ⟨w.heap.size + 1, 8, none⟩ = some b := by
    have := heap_alloc_last (w.alloc (.cells (gpC p) 61)) (.cells (vsC v a b c) 43)
    rw [hW, World.size_alloc] at this
    rw [cell_of_row _ _ _ _ _ _ this]
    rfl
  have hlt1 : w.heap.size < W.heap.size := by rw [← hW]; simp; omega
  have hlt2 : w.heap.size + 1 < W.heap.size := by rw [← hW]; simp
  have HC := Lib.hid fun (W' : World) (h : Kp [] W W') => (show W'.cell? ⟨w.heap.size, 1, none⟩ = some (.string (bs p.text)) ∧ W'.cell? ⟨w.heap.size + 1, 8, none⟩ = some b from ⟨by
    simp only [World.cell?, h.block _ hlt1 (by simp)] at c1 ⊢
    exact c1, by
    simp only [World.cell?, h.block _ hlt2 (by simp)] at c8 ⊢
    exact c8⟩)
  have HW := Lib.hid hW
  unfold getV at HG HH
  unfold gpC vsC at HW ⊢
  have HK := Lib.hid hk
  clear hk hv c1 c8 hW
  cases hg : getL p.text v.attrs with
  | some x =>
    rw [hg] at HG
    simp only [Option.getD_some, Option.isSome_some, Option.some_or] at HG ⊢
    clear hg
    go_enter Tryz.func82, Tryz.ntmps82
    go_wp2_with (go_at_call 115; rw [HW.out]; refine Calls.mono (by with_reducible exact HG.out _ HK.out) ?_; rintro e w1 ⟨rfl, hk1⟩)
    go_ret
    exact ⟨rfl, HK.out.trans hk1⟩
  | none =>
    rw [hg] at HG
    simp only [Option.getD_none, Option.isSome_none, Option.none_or] at HG ⊢
    clear hg
    go_enter Tryz.func82, Tryz.ntmps82
    go_wp2_with (first
      | (go_at_call 115; rw [HW.out]; refine Calls.mono (by with_reducible exact HG.out _ HK.out) ?_; clear HG; rintro e w1 ⟨rfl, hk1⟩; obtain ⟨x1, x2⟩ := HC.out _ hk1)
      | (go_at_call 115; refine Calls.mono (by with_reducible exact HH.out _ (HK.out.trans hk1)) ?_; rintro e w2 ⟨rfl, hk2⟩))
    go_ret
    exact ⟨rfl, (HK.out.trans hk1).trans hk2⟩
end Go.Proofs.YtfpkppgecmbglaaGreatDoor
