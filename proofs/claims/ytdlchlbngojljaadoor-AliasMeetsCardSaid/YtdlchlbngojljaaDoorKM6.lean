/- The least text that two modules share. -/
import Derived.Test.YtdlchlbngojljaaDoorKM5
import Derived.Deep.DeepCutAuto
import Derived.Deep.CutBlock
namespace Go.Proofs.YtdlchlbngojljaaDoor
open Go.RowKit Go.Maps
open Gl (lessB)

/-- What Common answers. -/
def ComC (f : Nat) (w : World) (p q : Tx) : Prop := Calls (Tryd.prog) f #[.string (bs p), .string (bs q)] w fun e w' => (∃ er : Int, e = .returned (.tuple #[.string (bs ((comG p q).getD [])), .bool (comG p q).isSome, .int .i64 er])) ∧ Kp [] w w'
theorem comRes_eq (p q : Tx) : ∃ er : Int, Gl.comRes p q = .tuple #[.string (bs ((comG p q).getD [])), .bool (comG p q).isSome, .int .i64 er] := by
  unfold Gl.comRes comG
  cases Gl.altsP p with
  | none => exact ⟨_, rfl⟩
  | some x =>
    cases Gl.altsP q with
    | none => exact ⟨_, rfl⟩
    | some y => exact ⟨_, rfl⟩
theorem com_G (p q : Tx) (w : World) (hp : p.length ≤ 1000000) (hq : q.length ≤ 1000000) (hT : Gl.TabAt w) : ComC 31 w p q :=
  (Gl.common_any (bs p) (bs q) w (by rw [bs_size]; omega) (by rw [bs_size]; omega) hT).mono fun e w' h => by
    obtain ⟨er, he⟩ := comRes_eq p q
    exact ⟨⟨er, by rw [h.1, bs_data, bs_data, he]⟩, Kp.of_bel h.2⟩

theorem shrRow_take {le : Tx → Tx → Bool} {com : Tx → Tx → Option Tx} {ys : List Tx} {j : Nat} {y : Tx} (h : ys[j]? = some y) (st : Option Tx) (p : Tx) : shrRow le com (ys.take (j + 1)) st p = updS le (shrRow le com (ys.take j) st p) (com p y) := by
  unfold shrRow
  rw [List.take_add_one, h, List.foldl_append]
  rfl
theorem shrL_take {le : Tx → Tx → Bool} {com : Tx → Tx → Option Tx} {xs ys : List Tx} {i : Nat} {x : Tx} (h : xs[i]? = some x) : (xs.take (i + 1)).foldl (shrRow le com ys) none = shrRow le com ys ((xs.take i).foldl (shrRow le com ys) none) x := by
  rw [List.take_add_one, h, List.foldl_append]
  rfl
/-- What Shared answers. -/
def ShPost (C : Cf) (a b : Tx) (w : World) (e : Ending) (w' : World) : Prop := e = .returned (.tuple #[.string (bs ((shrL lessB comG (aliN C.mods a) (aliN C.mods b)).getD [])), .bool (shrL lessB comG (aliN C.mods a) (aliN C.mods b)).isSome]) ∧ Kp [] w w'
theorem ali_al {C : Cf} (h : CTy C) (n : Tx) : (aliN C.mods n).length ≤ 100 ∧ ∀ p ∈ aliN C.mods n, p.length ≤ 16 := by
  unfold aliN
  cases hm : modN C.mods n with
  | none => simp
  | some m =>
    have := List.mem_of_find?_eq_some hm
    exact ⟨h.al m this, h.pt m this⟩
set_option maxHeartbeats 8000000 in
set_option maxRecDepth 100000 in
theorem shared_any {w : World} {A : Nat} {mv bv ov kv xv : Value} {l : List Mx} {C : Cf} (a b : Tx) (hC : CAt A w mv bv xv l C) (hT : CTy C) (hTb : Gl.TabAt w) :
    Calls Tryd.prog 17 #[.agg (cfV mv bv ov kv xv), .string (bs a), .string (bs b)] w (ShPost C a b w) := by
  have hra := heap_alloc_last w (.cells (cfV mv bv ov kv xv) 31)
  have hka := (Kp.refl [] w).alloc (.cells (cfV mv bv ov kv xv) 31)
  obtain ⟨R, hR⟩ : ∃ R, w.heap.size = R := ⟨_, rfl⟩
  obtain ⟨W, hW⟩ : ∃ W, w.alloc (.cells (cfV mv bv ov kv xv) 31) = W := ⟨_, rfl⟩
  rw [hR, hW] at hra
  rw [hW] at hka
  have hCW := hC.kp hka (by simp)
  have hml : l.length ≤ 1000000 := by have := hT.ms; rw [hC.eq, List.length_map] at this; omega
  have HAl := Lib.hid (show ∀ V, Kp [] W V → Calls Tryd.prog 30 #[mv, .string (bs a)] V (fun e w' => ∃ u, Hid (stT.HasB A w' u (aliN C.mods a)) ∧ e = .returned u ∧ Kp [] V w') from fun V hV => by rw [hC.eq]; exact aliasesOf_any a hml (hCW.ms.kp hV (by simp)))
  have HBl := Lib.hid (show ∀ V, Kp [] W V → Calls Tryd.prog 30 #[mv, .string (bs b)] V (fun e w' => ∃ u, Hid (stT.HasB A w' u (aliN C.mods b)) ∧ e = .returned u ∧ Kp [] V w') from fun V hV => by rw [hC.eq]; exact aliasesOf_any b hml (hCW.ms.kp hV (by simp)))
  have HC0 := Lib.hid (show ∀ V, Kp [] W V → V.cell? ⟨R, 0, none⟩ = some mv from fun V hV => by rw [cell_of_row _ _ _ _ _ _ ((hV.block R (block_lt hra) (by simp)).trans hra)]; rfl)
  have HTb := Lib.hid (show ∀ V, Kp [] W V → Gl.TabAt V from fun V hV => tab_keep hTb ((hka.trans hV).block 0 hTb.lt (by simp)))
  have Hka := Lib.hid hka
  have HW := Lib.hid hW
  have HR := Lib.hid hR
  obtain ⟨xa, hxa⟩ : ∃ x, aliN C.mods a = x := ⟨_, rfl⟩
  obtain ⟨xb, hxb⟩ : ∃ x, aliN C.mods b = x := ⟨_, rfl⟩
  have h1 := ali_al hT a
  have h2 := ali_al hT b
  rw [hxa] at h1
  rw [hxb] at h2
  obtain ⟨RS, hRS⟩ : ∃ r, shrL lessB comG xa xb = r := ⟨_, rfl⟩
  unfold ShPost
  rw [hxa, hxb, hRS]
  rw [hxa] at HAl
  rw [hxb] at HBl
  have HRS := Lib.hid hRS
  have Hpa := Lib.hid h1.2
  have Hpb := Lib.hid h2.2
  have hla := h1.1
  have hlb := h2.1
  obtain ⟨cv, hcv⟩ : ∃ cv, cfV mv bv ov kv xv = cv := ⟨_, rfl⟩
  rw [hcv] at HW ⊢
  clear hra hka hR hW hC hTb hcv hT hCW hml hxa hxb hRS h1 h2
  go_enter Tryd.func17, Tryd.ntmps17
  go_upto_region 1 with fail
  rw [HW.out, HR.out]
  refine wp_region_held_drew (S := fun X => Kp [] W X) (by kernel_rfl) ((Kp.refl [] W).drew 1) (fun hHeld => ?_)
  generalize hwd : W.drew = wd at *
  clear hwd
  refine wpAnyH_take (i := 0) (oi := { dst := some 19, op := Op.fieldAddr 31 (Operand.tmp 3) 0, type := 0, pos := "alias.go:71", after := #[], guard := none }) (v := .pointer (some ⟨R, 0, none⟩)) rfl (by kernel_rfl) (by kernel_rfl) (by kernel_rfl) (fun _ _ _ h => h) (Or.inl ⟨by rfl, fun w hSw => by (try dsimp only at hSw); go_simp⟩) hHeld ?_
  try simp only [Act.put, List.setIfInBounds_toArray, List.set_cons_zero, List.set_cons_succ]
  refine wpAnyH_take (i := 1) (oi := { dst := some 20, op := Op.load 27 (Operand.tmp 19), type := 27, pos := "alias.go:71", after := #[{ on := 0, ground := Ground.data }], guard := none }) (v := mv) rfl (by kernel_rfl) (by kernel_rfl) (by kernel_rfl) (fun _ _ _ h => h) (Or.inl ⟨by rfl, fun w hSw => by (try dsimp only at hSw); have t0 := HC0.out _ hSw; go_simp⟩) hHeld ?_
  try simp only [Act.put, List.setIfInBounds_toArray, List.set_cons_zero, List.set_cons_succ]
  refine wpAnyH_take (i := 2) (oi := { dst := some 21, op := Op.move (Operand.tmp 1), type := 9, pos := "alias.go:71", after := #[], guard := none }) (v := .string (bs a)) rfl (by kernel_rfl) (by kernel_rfl) (by kernel_rfl) (fun _ _ _ h => h) (Or.inl ⟨by rfl, fun w hSw => by (try dsimp only at hSw); go_simp⟩) hHeld ?_
  try simp only [Act.put, List.setIfInBounds_toArray, List.set_cons_zero, List.set_cons_succ]
  refine wpAnyH_take (i := 4) (oi := { dst := some 23, op := Op.fieldAddr 31 (Operand.tmp 3) 0, type := 0, pos := "alias.go:71", after := #[], guard := none }) (v := .pointer (some ⟨R, 0, none⟩)) rfl (by kernel_rfl) (by kernel_rfl) (by kernel_rfl) (fun _ _ _ h => h) (Or.inl ⟨by rfl, fun w hSw => by (try dsimp only at hSw); go_simp⟩) hHeld ?_
  try simp only [Act.put, List.setIfInBounds_toArray, List.set_cons_zero, List.set_cons_succ]
  refine wpAnyH_take (i := 5) (oi := { dst := some 24, op := Op.load 27 (Operand.tmp 23), type := 27, pos := "alias.go:71", after := #[{ on := 4, ground := Ground.data }], guard := none }) (v := mv) rfl (by kernel_rfl) (by kernel_rfl) (by kernel_rfl) (fun _ _ _ h => h) (Or.inl ⟨by rfl, fun w hSw => by (try dsimp only at hSw); have t0 := HC0.out _ hSw; go_simp⟩) hHeld ?_
  try simp only [Act.put, List.setIfInBounds_toArray, List.set_cons_zero, List.set_cons_succ]
  refine wpAnyH_take (i := 6) (oi := { dst := some 25, op := Op.move (Operand.tmp 2), type := 9, pos := "alias.go:71", after := #[], guard := none }) (v := .string (bs b)) rfl (by kernel_rfl) (by kernel_rfl) (by kernel_rfl) (fun _ _ _ h => h) (Or.inl ⟨by rfl, fun w hSw => by (try dsimp only at hSw); go_simp⟩) hHeld ?_
  try simp only [Act.put, List.setIfInBounds_toArray, List.set_cons_zero, List.set_cons_succ]
  refine wpAnyH_ready (rs := [3]) (by kernel_rfl) (by simp) ?_
  refine AllReadyH.cons (o := { dst := some 22, op := Op.call { callee := Callee.value (Operand.func 30), args := #[Operand.tmp 20, Operand.tmp 21], argTypes := #[27, 9] }, type := 28, pos := "alias.go:71", after := #[{ on := 1, ground := Ground.data }, { on := 2, ground := Ground.data }], guard := none }) rfl (fun K hK => ?_) AllReadyH.nil
  go_simp
  go_at_call 30
  refine Calls.mono (by with_reducible exact HAl.out _ hHeld) ?_
  rintro e Va ⟨ua, hua, rfl, hka⟩
  dsimp only
  have hS := hHeld.trans hka
  have HUa := hua
  clear hua hka
  clear hHeld
  refine hK.out _ _ hS (fun hHeld => ?_)
  try simp only [Act.put, List.setIfInBounds_toArray, List.set_cons_zero, List.set_cons_succ]
  clear hK
  clear hS
  refine wpAnyH_ready (rs := [7]) (by kernel_rfl) (by simp) ?_
  refine AllReadyH.cons (o := { dst := some 26, op := Op.call { callee := Callee.value (Operand.func 30), args := #[Operand.tmp 24, Operand.tmp 25], argTypes := #[27, 9] }, type := 28, pos := "alias.go:71", after := #[{ on := 5, ground := Ground.data }, { on := 6, ground := Ground.data }, { on := 3, ground := Ground.chain }], guard := none }) rfl (fun K hK => ?_) AllReadyH.nil
  go_simp
  go_at_call 30
  refine Calls.mono (by with_reducible exact HBl.out _ hHeld) ?_
  rintro e Vb ⟨ub, hub, rfl, hkb⟩
  dsimp only
  have hS := hHeld.trans hkb
  have HUa := Lib.hid (HUa.out.kp hkb (by simp))
  have HUb := hub
  clear hub hkb
  clear hHeld
  refine hK.out _ _ hS (fun hHeld => ?_)
  try simp only [Act.put, List.setIfInBounds_toArray, List.set_cons_zero, List.set_cons_succ]
  clear hK
  clear hS
  refine wpAnyH_take (i := 8) (oi := { dst := some 8, op := Op.assign (Operand.tmp 22), type := 28, pos := "alias.go:71", after := #[{ on := 3, ground := Ground.data }, { on := 7, ground := Ground.chain }, { on := 0, ground := Ground.phase }, { on := 1, ground := Ground.phase }, { on := 2, ground := Ground.phase }, { on := 3, ground := Ground.phase }, { on := 4, ground := Ground.textOnly Departure.lateStores }, { on := 5, ground := Ground.textOnly Departure.lateStores }, { on := 6, ground := Ground.textOnly Departure.lateStores }, { on := 7, ground := Ground.textOnly Departure.lateStoresUnsure }], guard := none }) (v := ua) rfl (by kernel_rfl) (by kernel_rfl) (by kernel_rfl) (fun _ _ _ h => h) (Or.inl ⟨by rfl, fun w hSw => by (try dsimp only at hSw); go_simp⟩) hHeld ?_
  try simp only [Act.put, List.setIfInBounds_toArray, List.set_cons_zero, List.set_cons_succ]
  refine wpAnyH_take (i := 9) (oi := { dst := some 9, op := Op.assign (Operand.tmp 26), type := 28, pos := "alias.go:71", after := #[{ on := 7, ground := Ground.data }, { on := 8, ground := Ground.chain }, { on := 0, ground := Ground.phase }, { on := 1, ground := Ground.phase }, { on := 2, ground := Ground.phase }, { on := 3, ground := Ground.phase }, { on := 4, ground := Ground.phase }, { on := 5, ground := Ground.phase }, { on := 6, ground := Ground.phase }, { on := 7, ground := Ground.phase }, { on := 8, ground := Ground.phase }], guard := none }) (v := ub) rfl (by kernel_rfl) (by kernel_rfl) (by kernel_rfl) (fun _ _ _ h => h) (Or.inl ⟨by rfl, fun w hSw => by (try dsimp only at hSw); go_simp⟩) hHeld ?_
  try simp only [Act.put, List.setIfInBounds_toArray, List.set_cons_zero, List.set_cons_succ]
  have HSe := Lib.hid hHeld
  refine wpAnyH_done (by kernel_rfl) ?_ _
  clear hHeld
  obtain ⟨aa, ca, rfl, har⟩ := HUa.out.form
  obtain ⟨ab, cb, rfl, hbr⟩ := HUb.out.form
  obtain ⟨N1, hN1⟩ : ∃ n, xa.length = n := ⟨_, rfl⟩
  obtain ⟨N2, hN2⟩ : ∃ n, xb.length = n := ⟨_, rfl⟩
  rw [hN1] at hla HUa ⊢
  rw [hN2] at hlb HUb ⊢
  have HN1 := Lib.hid hN1
  have HN2 := Lib.hid hN2
  have HAr := Lib.hid har
  have HBr := Lib.hid hbr
  clear hN1 hN2 har hbr HUa HUb
  go_wp2
  go_loopw [10, 11, 29] (fun s10 s11 s29 wx => ∃ (i : Nat) (st : Option Tx), i ≤ N1 ∧ s29 = .int .i64 (i : Int) ∧ s10 = .string (bs (st.getD [])) ∧ s11 = .bool st.isSome ∧ Hid (st = (xa.take i).foldl (shrRow lessB comG xb) none) ∧ Hid (Kp [] Vb wx)) (fun _ _ s29 _ => N1 - (intOf s29).toNat)
  case atStart => exact ⟨0, none, by omega, rfl, rfl, rfl, Lib.hid rfl, Lib.hid (Kp.refl [] Vb)⟩
  case round =>
    obtain ⟨i, st0, hi, rfl, rfl, rfl, hst, hK⟩ := hrel
    by_cases hlt : i < N1
    · have hiz : (i : Int) < (N1 : Int) := by omega
      obtain ⟨p, hp⟩ : ∃ p, xa[i]? = some p := ⟨_, List.getElem?_eq_getElem (by rw [HN1.out]; exact hlt)⟩
      obtain ⟨g, o, rfl, hgl, _, hr⟩ := HAr.out (fun e => by rw [e] at hp; simp at hp)
      have hr2 : stT.Row wr g o xa := hr.keep (hK.out.block g hgl (by simp))
      have c0 := st_cell hr2 hp
      have hpl := Hpa.out p (List.mem_of_getElem? hp)
      have Htk := Lib.hid (shrL_take (le := lessB) (com := comG) (ys := xb) hp)
      clear hr hr2 hp
      go_wp2
      go_loopw [10, 11, 35] (fun s10 s11 s35 wx => ∃ (j : Nat) (st : Option Tx), j ≤ N2 ∧ s35 = .int .i64 (j : Int) ∧ s10 = .string (bs (st.getD [])) ∧ s11 = .bool st.isSome ∧ Hid (st = shrRow lessB comG (xb.take j) st0 p) ∧ Hid (Kp [] Vb wx)) (fun _ _ s35 _ => N2 - (intOf s35).toNat)
      case atStart => exact ⟨0, st0, by omega, rfl, rfl, rfl, Lib.hid rfl, hK⟩
      case round =>
        clear c0 hK
        obtain ⟨j, st, hj, rfl, rfl, rfl, hst2, hK⟩ := hrel
        by_cases hjl : j < N2
        · have hjz : (j : Int) < (N2 : Int) := by omega
          obtain ⟨q, hq⟩ : ∃ q, xb[j]? = some q := ⟨_, List.getElem?_eq_getElem (by rw [HN2.out]; exact hjl)⟩
          obtain ⟨g2, o2, rfl, hgl2, _, hr⟩ := HBr.out (fun e => by rw [e] at hq; simp at hq)
          have hr2 : stT.Row wr g2 o2 xb := hr.keep (hK.out.block g2 hgl2 (by simp))
          have c0 := st_cell hr2 hq
          have hql := Hpb.out q (List.mem_of_getElem? hq)
          have Htk2 := Lib.hid (shrRow_take (le := lessB) (com := comG) hq st0 p)
          have HCm := Lib.hid (com_G p q wr (by omega) (by omega) (HTb.out wr (HSe.out.trans hK.out)))
          unfold ComC at HCm
          clear hr hr2 hq
          cases hcm : comG p q with
          | none =>
            have Hcm := Lib.hid hcm
            rw [hcm] at HCm
            clear hcm
            go_wp2_with fail
            refine Calls.mono (by with_reducible exact HCm.out) ?_
            rintro e w3 ⟨⟨er, rfl⟩, hk3⟩
            have HK3 := Lib.hid (hK.out.trans hk3)
            rw [Option.isSome_none]
            clear hk3
            go_wp2
            refine ⟨⟨j + 1, st, by omega, by go_num, rfl, rfl, Lib.hid (by rw [Htk2.out, Hcm.out, ← hst2.out]; rfl), HK3⟩, by simp [intOf]; omega⟩
          | some t =>
            have Hcm := Lib.hid hcm
            rw [hcm] at HCm
            clear hcm
            cases st with
            | none =>
              rw [Option.isSome_none]
              go_wp2_with fail
              refine Calls.mono (by with_reducible exact HCm.out) ?_
              rintro e w3 ⟨⟨er, rfl⟩, hk3⟩
              have HK3 := Lib.hid (hK.out.trans hk3)
              rw [Option.isSome_some, Option.getD_some]
              clear hk3
              go_wp2
              refine ⟨⟨j + 1, some t, by omega, by go_num, rfl, rfl, Lib.hid (by rw [Htk2.out, Hcm.out, ← hst2.out]; rfl), HK3⟩, by simp [intOf]; omega⟩
            | some l0 =>
              rw [Option.isSome_some, Option.getD_some]
              have HLs := Lib.hid fun V => less32_any t l0 V
              cases hle : lessB t l0 with
              | true =>
                have Hle := Lib.hid hle
                rw [hle] at HLs
                clear hle
                go_wp2_with fail
                refine Calls.mono (by with_reducible exact HCm.out) ?_
                rintro e w3 ⟨⟨er, rfl⟩, hk3⟩
                have HK3 := Lib.hid (hK.out.trans hk3)
                rw [Option.isSome_some, Option.getD_some]
                clear hk3
                go_wp2_with fail
                refine Calls.mono (by with_reducible exact HLs.out _) ?_
                rintro e w4 ⟨rfl, rfl⟩
                go_wp2
                refine ⟨⟨j + 1, some t, by omega, by go_num, rfl, rfl, Lib.hid (by rw [Htk2.out, Hcm.out, ← hst2.out]; simp [updS, Hle.out]), HK3⟩, by simp [intOf]; omega⟩
              | false =>
                have Hle := Lib.hid hle
                rw [hle] at HLs
                clear hle
                go_wp2_with fail
                refine Calls.mono (by with_reducible exact HCm.out) ?_
                rintro e w3 ⟨⟨er, rfl⟩, hk3⟩
                have HK3 := Lib.hid (hK.out.trans hk3)
                rw [Option.isSome_some, Option.getD_some]
                clear hk3
                go_wp2_with fail
                refine Calls.mono (by with_reducible exact HLs.out _) ?_
                rintro e w4 ⟨rfl, rfl⟩
                go_wp2
                refine ⟨⟨j + 1, some l0, by omega, by go_num, rfl, rfl, Lib.hid (by rw [Htk2.out, Hcm.out, ← hst2.out]; simp [updS, Hle.out]), HK3⟩, by simp [intOf]; omega⟩
        · have hjz : ¬ ((j : Int) < (N2 : Int)) := by omega
          have hfin := hst2.out
          rw [List.take_of_length_le (by rw [HN2.out]; omega), hst.out, ← Htk.out] at hfin
          have Hfin := Lib.hid hfin
          clear hfin
          go_wp2
          refine ⟨⟨i + 1, st, by omega, by go_num, rfl, rfl, Hfin, hK⟩, by simp [intOf]; omega⟩
    · have hiz : ¬ ((i : Int) < (N1 : Int)) := by omega
      have hfin := hst.out
      rw [List.take_of_length_le (by rw [HN1.out]; omega)] at hfin
      have hfin2 : st0 = RS := hfin.trans HRS.out
      subst hfin2
      go_wp2
      go_ret2
      exact ⟨rfl, Hka.out.trans (HSe.out.trans hK.out)⟩
end Go.Proofs.YtdlchlbngojljaaDoor
