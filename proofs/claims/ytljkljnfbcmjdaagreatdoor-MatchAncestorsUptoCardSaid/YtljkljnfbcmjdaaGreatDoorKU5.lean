/- The rule's ancestor, of both, on the way to the root. What the two laws of trees begin with. -/
import Derived.Test.YtljkljnfbcmjdaaGreatDoorKU4
import Derived.Test.YtljkljnfbcmjdaaGreatDoorKTu
import Derived.Test.YtljkljnfbcmjdaaGreatDoorKKn
open Go.Lib renaming hid → qH
open Go.Calls renaming mono → cM
open Go.Act renaming put → aP
open List renaming setIfInBounds_toArray → lA, set_cons_zero → lB, set_cons_succ → lC
namespace Go.Proofs.YtljkljnfbcmjdaaGreatDoor
open Go.RowKit
theorem ancL_fst {L : List De.DV} (ht : De.Tidy (L.map (·.1))) : ∀ (k : Nat) (n : Int), (De.ancL L k n).map (·.1) = De.up (L.map (·.1)) k n
 | 0, _ => rfl
 | k + 1, n => by
  unfold De.up
  rw [De.lastI_fnd ht n]
  cases hp : De.lastI (L.map (·.1)) n with
  | none => rw [De.ancL_none hp]; rfl
  | some p =>
   obtain ⟨a, ha, -⟩ := De.lastI_some hp
   have ha' := ha
   rw [List.getElem?_map, Option.map_eq_some_iff] at ha
   obtain ⟨x, hx, rfl⟩ := ha
   rw [De.ancL_some hp hx, List.map_cons, ancL_fst ht k x.1.par]
   simp only [Option.bind_some, ha']
theorem wayA_ups {L : List De.DV} (hv : De.Valid sndA clA (L.map (·.1))) (q : Int) : wayA L q = match De.ups (L.map (·.1)) q with
  | [] => none
  | c => some c := by
 have ht := hv.tidy
 unfold wayA
 have hf := De.lastI_fnd ht q
 cases hp : De.lastI (L.map (·.1)) q with
 | none =>
  rw [hp] at hf
  rw [De.ups_none hf]
  rfl
 | some p =>
  obtain ⟨a, ha, hai⟩ := De.lastI_some hp
  have ha' := ha
  rw [List.getElem?_map, Option.map_eq_some_iff] at ha
  obtain ⟨x, hx, rfl⟩ := ha
  have hup := De.ups_of ht ha'
  rw [hai] at hup
  rw [hup]
  have h7 : De.up (L.map (·.1)) 7 x.1.par = De.ups (L.map (·.1)) x.1.par := hv.up7 (ht.parent (List.mem_of_getElem? ha'))
  have hanc : De.ancOf L q = De.ancL L 7 x.1.par := by
   unfold De.ancOf
   rw [hp]
   simp only [hx]
  simp only [Option.bind_some, hx, hanc, ancL_fst ht, h7]
def ancU (lt : List Tm) (c : List De.ADev) : Int × Bool := match c.find? (holdA lt) with
 | none => (0, false)
 | some a => (a.idx, true)
theorem ancE_ups {L : List De.DV} (hv : De.Valid sndA clA (L.map (·.1))) (lt : List Tm) (q : Int) : ancE lt L q = ancU lt (De.ups (L.map (·.1)) q) := by
 unfold ancE ancU
 rw [wayA_ups hv]
 cases De.ups (L.map (·.1)) q <;> rfl
theorem ancU_none {lt : List Tm} {c : List De.ADev} (h : ∀ a ∈ c, holdA lt a = false) : ancU lt c = (0, false) := by
 unfold ancU
 rw [List.find?_eq_none.2 (fun a ha => by rw [h a ha]; simp)]
theorem ancU_some {lt : List Tm} {c : List De.ADev} {i : Nat} {a : De.ADev} (h : ∀ y ∈ c.take i, holdA lt y = false) (ha : c[i]? = some a) (hh : holdA lt a = true) : ancU lt c = (a.idx, true) := by
 have : c.find? (holdA lt) = some a := by
  obtain ⟨hi, rfl⟩ := List.getElem?_eq_some_iff.1 ha
  have e : c = c.take i ++ c[i] :: c.drop (i + 1) := by
   rw [← List.drop_eq_getElem_cons hi, List.take_append_drop]
  have e2 : (c.take i ++ c[i] :: c.drop (i + 1)).find? (holdA lt) = some c[i] := by
   rw [List.find?_append, List.find?_eq_none.2 (fun y hy => by rw [h y hy]; simp), List.find?_cons]
   simp [hh]
  rw [← e] at e2
  exact e2
 unfold ancU
 rw [this]
theorem tm_all {W : World} {g o : Nat} {t : Tm} (h : W.rangeAt g o (tmT.cf t)) : W.cell? ⟨g, o, none⟩ = some (.int .i64 t.key) ∧ W.cell? ⟨g, o + 1, none⟩ = some (.string (bs t.name)) ∧ W.cell? ⟨g, o + 2, none⟩ = some (.int .i64 t.op) ∧ W.cell? ⟨g, o + 3, none⟩ = some (.string (bs t.val)) :=
 ⟨h 0 _ rfl, h 1 _ rfl, h 2 _ rfl, h 3 _ rfl⟩
theorem up_call (t : Tm) (w : World) (f : FuncId) {b : Bool} (hc : Calls Tryz.prog f #[.agg (tmC t)] w fun e w' => e = .returned (.bool b) ∧ Kp [] w w') : Calls Tryz.prog f #[.agg #[.int .i64 t.key, .string (bs t.name), .int .i64 t.op, .string (bs t.val)]] w fun e w' => e = .returned (.bool b) ∧ Kp [] w w' := hc
def allA (lt : List Tm) (a : De.ADev) : Bool := lt.all fun t => !missA a t
theorem allA_hold (lt : List Tm) (a : De.ADev) : allA lt a = holdA lt a := by
 unfold allA holdA
 rw [List.all_eq_not_any_not]
 simp
theorem allA_snoc {lt : List Tm} {k : Nat} {t : Tm} (a : De.ADev) (h : lt[k]? = some t) : allA (lt.take (k + 1)) a = (allA (lt.take k) a && !missA a t) := by
 unfold allA
 rw [List.take_add_one, h, List.all_append]
 simp
theorem dev_call (t : Tm) (x : De.DV) (w : World) (f : FuncId) (hc : Calls Tryz.prog f #[.agg (tmC t), De.devV (De.devOf x.1 x.2)] w fun e w' => e = .returned (.bool (devB t (De.devOf x.1 x.2) x.1.ats)) ∧ Kp [] w w') : Calls Tryz.prog f #[.agg #[.int .i64 t.key, .string (bs t.name), .int .i64 t.op, .string (bs t.val)], .agg #[.int .i64 x.1.idx, .int .i64 x.1.par, .string x.1.name, .string x.1.orig, .string x.1.sub, .string x.1.drv, .string x.1.ali, .int .i64 x.1.kind, .int .i64 x.1.num, x.2]] w fun e w' => e = .returned (.bool (devA t x.1)) ∧ Kp [] w w' := hc
theorem up_mem {l : List De.ADev} : ∀ {k : Nat} {n : Int} {a : De.ADev}, a ∈ De.up l k n → a ∈ l
 | 0, _, _, h => by cases h
 | k + 1, n, a, h => by
  unfold De.up at h
  cases hf : De.fnd l n with
  | none => rw [hf] at h; cases h
  | some d =>
   rw [hf] at h
   rcases List.mem_cons.1 h with rfl | h
   ·exact (De.fnd_mem hf).1
   ·exact up_mem h
set_option maxHeartbeats 8000000 in
set_option maxRecDepth 100000 in
theorem refAnc_any (lt : List Tm) (ad : Option Addr) (cp : Nat) (L : List De.DV) (sv : Value) (q : Int) (w : World) (hlt : lt.length ≤ 1000000) (hsl : SmL lt) (hv : tmT.Has w (.slice ad lt.length cp) lt) (ho : TrOk L) (hd : De.DHas w sv L) :
  Calls Tryz.prog 10 #[.slice ad lt.length cp, .agg #[sv], .int .i64 q] w fun e w' => e = .returned (.tuple #[.int .i64 (ancU lt (De.ups (L.map (·.1)) q)).1, .bool (ancU lt (De.ups (L.map (·.1)) q)).2]) ∧ Kp [] w w' := by
 obtain ⟨a, c, hsv, _⟩ := hd.form
 have HC := qH (fun W (hW : Kp [] w W) => De.refChain_any sv L q W ho.n (hd.below hW.bel))
 obtain ⟨N, hN⟩ : ∃ N, L.length = N := ⟨_, rfl⟩
 rw [hN] at hsv
 subst hsv
 obtain ⟨Bz, hBz⟩ : ∃ Bz, w.heap.size = Bz := ⟨_, rfl⟩
 have hcf := De.upD_fst L L.length q
 have hcl : (De.upD L L.length q).length ≤ 1000000 := by
  have h := De.up_len (L.map (·.1)) L.length q
  rw [← De.upD_fst, List.length_map] at h
  have := ho.n
  omega
 have hcm : ∀ x ∈ De.upD L L.length q, SmA x.1 := fun x hx => by
  have : x.1 ∈ De.up (L.map (·.1)) L.length q := by rw [← hcf]; exact List.mem_map_of_mem hx
  obtain ⟨y, hy, he⟩ := List.mem_map.1 (up_mem this)
  rw [← he]
  exact ho.sm y hy
 generalize hC : De.upD L L.length q = C at *
 have hups : C.map (·.1) = De.ups (L.map (·.1)) q := by
  unfold De.ups
  rw [hcf, List.length_map]
 rw [← hups]
 have HCm := qH hcm
 have HV := qH hv
 have HSl := qH hsl
 obtain ⟨T, hT⟩ : ∃ T, lt.length = T := ⟨_, rfl⟩
 rw [hT] at hlt ⊢
 have HTl := qH hT
 obtain ⟨an, ok, hao⟩ : ∃ an ok, ancU lt (C.map (·.1)) = (an, ok) := ⟨_, _, rfl⟩
 rw [hao]
 have HAO := qH hao
 obtain ⟨-, -, htf⟩ : True ∧ True ∧ ∀ (k : Nat) (t : Tm), lt[k]? = some t → ∃ b o, ad = some ⟨b, o, none⟩ ∧ tmT.Row w b o lt := ⟨trivial, trivial, fun k t ht => by
  obtain ⟨a', c', he, hr⟩ := hv.form
  obtain ⟨b, o, hb, _, hrow⟩ := hr (fun e => by rw [e] at ht; simp at ht)
  injection he with e1 e2 e3
  exact ⟨b, o, by rw [e1, hb], hrow⟩⟩
 have HTf := qH htf
 have h0 := heap_alloc_last w (.cells #[.slice a N c] 30)
 rw [hBz] at h0
 have c0 := cell_one h0
 have Hk0 := qH (show Kp [] w (w.alloc (.cells #[.slice a N c] 30)) from (Kp.refl [] w).alloc _)
 clear h0 hd hv ho hsl hcf hcm hups hao hT htf hN hC
 go_enter Tryz.func10, Tryz.ntmps10
 go_upto_region 2 with (go_at_call 24; refine cM (by with_reducible exact HC.out _ Hk0.out) ?_; rintro e W1 ⟨u, rfl, hown, hb1⟩; have HO := qH hown; have HK1 := qH (Hk0.out.trans (Kp.of_bel hb1)); clear hown hb1 c0)
 obtain ⟨ua, uc, hu, hrow⟩ := HO.out.has.form
 have HRow := qH hrow
 obtain ⟨M, hM⟩ : ∃ M, C.length = M := ⟨_, rfl⟩
 rw [hM] at hu hcl
 have HM := qH hM
 clear hrow hM hBz
 subst hu
 go_wp2
 go_loopw [9, 10, 11] (fun s9 _ _ wx => ∃ i : Nat, i ≤ M ∧ s9 = .int .i64 (i : Int) ∧ Hid (∀ x ∈ C.take i, holdA lt x.1 = false) ∧ Hid (Kp [] W1 wx)) (fun s9 _ _ _ => M - (intOf s9).toNat)
 case atStart => exact ⟨0, by omega, rfl, qH (by simp), qH (Kp.refl [] _)⟩
 case round =>
  obtain ⟨i, hi, rfl, Hall, HKi⟩ := hrel
  rename World => WO
  by_cases hlti : i < M
  ·have hii : (i : Int) < (M : Int) := by omega
   have hi0 : (0 : Int) ≤ (i : Int) := by omega
   obtain ⟨x, hx⟩ : ∃ x, C[i]? = some x := ⟨C[i]'(by rw [HM.out]; exact hlti), List.getElem?_eq_getElem _⟩
   obtain ⟨g, o, rfl, -, hg, hr⟩ := HRow.out (fun e => by rw [e] at hx; simp at hx)
   have Hran := qH (range_kp (hr.at_ i x hx) HKi.out)
   have Hats := qH ((hr.ats x (List.mem_of_getElem? hx)).below HKi.out.bel)
   have Hx := qH hx
   have Hsm := qH (HCm.out x (List.mem_of_getElem? hx))
   clear hx hr hg
   go_wp2
   go_loopw [10, 11] (fun s10 s11 wx => ∃ j : Nat, j ≤ T ∧ s11 = .int .i64 (j : Int) ∧ s10 = .bool (allA (lt.take j) x.1) ∧ Kp [] WO wx) (fun _ s11 _ => T - (intOf s11).toNat)
   case atStart => exact ⟨0, by omega, rfl, rfl, Kp.refl [] _⟩
   case round =>
    obtain ⟨j, hj, rfl, rfl, hkx⟩ := hrel
    have Hkx := qH hkx
    clear hkx
    obtain ⟨ba, hba⟩ : ∃ b, allA (lt.take j) x.1 = b := ⟨_, rfl⟩
    rw [hba]
    have Hba := qH hba
    clear hba
    by_cases hltj : j < T
    ·have hjj : (j : Int) < (T : Int) := by omega
     have hj0 : (0 : Int) ≤ (j : Int) := by omega
     obtain ⟨t, ht⟩ : ∃ t, lt[j]? = some t := ⟨lt[j]'(by rw [HTl.out]; exact hltj), List.getElem?_eq_getElem _⟩
     obtain ⟨gt, ot, rfl, hrt⟩ := HTf.out j t ht
     have Htm := qH (range_kp (show w.rangeAt gt (ot + j * 4) (tmT.cf t) from hrt j t ht) (HK1.out.trans HKi.out))
     have Ht := qH ht
     have HUp := qH (fun W => up_call t W 25 (refUpward_any t W))
     have HDv := qH (fun W (hk : Kp [] WO W) => dev_call t x W 26 (refDevice_any t (De.devOf x.1 x.2) x.1.ats W (HSl.out t (List.mem_of_getElem? Ht.out)) (Hsm.out.d' x.2) (by have := Hsm.out.n; omega) (Hats.out.below hk.bel)))
     clear ht hrt
     go_upto_region 9 with fail
     cases ba with
     | false =>
      have Hnx := qH (show allA (lt.take (j + 1)) x.1 = false from by rw [allA_snoc x.1 Ht.out, Hba.out]; rfl)
      refine wp_region_held_drew (S := fun W => Kp [] wr W) (by kernel_rfl) ((Kp.refl [] wr).drew 1) (fun hHeld => ?_)
      refine wpAnyH_take (i := 0) (oi := ⟨some 27, .move (.tmp 10), 4, "ref.go:74", #[], none⟩) (v := .bool false) rfl (by kernel_rfl) (by kernel_rfl) (by kernel_rfl) (fun _ _ _ h => h) (Or.inl ⟨by rfl, fun w hSw => by (try dsimp only at hSw); go_simp⟩) hHeld ?_
      try simp only [aP, lA, lB, lC]
      refine wpAnyH_take (i := 1) (oi := ⟨some 28, .move (.tmp 27), 4, "ref.go:74", #[⟨0, .data⟩], none⟩) (v := .bool false) rfl (by kernel_rfl) (by kernel_rfl) (by kernel_rfl) (fun _ _ _ h => h) (Or.inl ⟨by rfl, fun w hSw => by (try dsimp only at hSw); go_simp⟩) hHeld ?_
      try simp only [aP, lA, lB, lC]
      refine wpAnyH_take (i := 2) (oi := ⟨some 29, .move (.tmp 0), 23, "ref.go:74", #[⟨1, .guard⟩], some (1, true)⟩) (v := undef) rfl (by kernel_rfl) (by kernel_rfl) (by kernel_rfl) (fun _ _ _ h => h) (Or.inr ⟨by rfl, rfl⟩) hHeld ?_
      try simp only [aP, lA, lB, lC]
      refine wpAnyH_take (i := 3) (oi := ⟨some 30, .move (.tmp 11), 3, "ref.go:74", #[⟨1, .guard⟩], some (1, true)⟩) (v := undef) rfl (by kernel_rfl) (by kernel_rfl) (by kernel_rfl) (fun _ _ _ h => h) (Or.inr ⟨by rfl, rfl⟩) hHeld ?_
      try simp only [aP, lA, lB, lC]
      refine wpAnyH_take (i := 4) (oi := ⟨some 31, .indexAddr 23 (.tmp 29) (.tmp 30), 0, "ref.go:74", #[⟨2, .data⟩, ⟨3, .data⟩, ⟨1, .guard⟩], some (1, true)⟩) (v := undef) rfl (by kernel_rfl) (by kernel_rfl) (by kernel_rfl) (fun _ _ _ h => h) (Or.inr ⟨by rfl, rfl⟩) hHeld ?_
      try simp only [aP, lA, lB, lC]
      refine wpAnyH_take (i := 5) (oi := ⟨some 32, .load 46 (.tmp 31), 46, "ref.go:74", #[⟨4, .data⟩, ⟨1, .guard⟩], some (1, true)⟩) (v := undef) rfl (by kernel_rfl) (by kernel_rfl) (by kernel_rfl) (fun _ _ _ h => h) (Or.inr ⟨by rfl, rfl⟩) hHeld ?_
      try simp only [aP, lA, lB, lC]
      refine wpAnyH_take (i := 6) (oi := ⟨some 33, .call { callee := .value (.func 25), args := #[.tmp 32], argTypes := #[46] }, 4, "ref.go:74", #[⟨5, .data⟩, ⟨1, .chain⟩, ⟨1, .guard⟩], some (1, true)⟩) (v := undef) rfl (by kernel_rfl) (by kernel_rfl) (by kernel_rfl) (fun _ _ _ h => h) (Or.inr ⟨by rfl, rfl⟩) hHeld ?_
      try simp only [aP, lA, lB, lC]
      refine wpAnyH_take (i := 7) (oi := ⟨some 34, .unOp .not 4 (.tmp 33), 4, "ref.go:74", #[⟨6, .data⟩, ⟨1, .guard⟩], some (1, true)⟩) (v := undef) rfl (by kernel_rfl) (by kernel_rfl) (by kernel_rfl) (fun _ _ _ h => h) (Or.inr ⟨by rfl, rfl⟩) hHeld ?_
      try simp only [aP, lA, lB, lC]
      refine wpAnyH_take (i := 8) (oi := ⟨some 35, .move (.tmp 34), 4, "ref.go:74", #[⟨7, .data⟩, ⟨6, .chain⟩, ⟨1, .guard⟩], some (1, true)⟩) (v := undef) rfl (by kernel_rfl) (by kernel_rfl) (by kernel_rfl) (fun _ _ _ h => h) (Or.inr ⟨by rfl, rfl⟩) hHeld ?_
      try simp only [aP, lA, lB, lC]
      refine wpAnyH_take (i := 9) (oi := ⟨some 36, .move (.tmp 0), 23, "ref.go:74", #[⟨8, .guard⟩], some (8, false)⟩) (v := undef) rfl (by kernel_rfl) (by kernel_rfl) (by kernel_rfl) (fun _ _ _ h => h) (Or.inr ⟨by rfl, rfl⟩) hHeld ?_
      try simp only [aP, lA, lB, lC]
      refine wpAnyH_take (i := 10) (oi := ⟨some 37, .move (.tmp 11), 3, "ref.go:74", #[⟨8, .guard⟩], some (8, false)⟩) (v := undef) rfl (by kernel_rfl) (by kernel_rfl) (by kernel_rfl) (fun _ _ _ h => h) (Or.inr ⟨by rfl, rfl⟩) hHeld ?_
      try simp only [aP, lA, lB, lC]
      refine wpAnyH_take (i := 11) (oi := ⟨some 38, .indexAddr 23 (.tmp 36) (.tmp 37), 0, "ref.go:74", #[⟨9, .data⟩, ⟨10, .data⟩, ⟨8, .guard⟩], some (8, false)⟩) (v := undef) rfl (by kernel_rfl) (by kernel_rfl) (by kernel_rfl) (fun _ _ _ h => h) (Or.inr ⟨by rfl, rfl⟩) hHeld ?_
      try simp only [aP, lA, lB, lC]
      refine wpAnyH_take (i := 12) (oi := ⟨some 39, .load 46 (.tmp 38), 46, "ref.go:74", #[⟨11, .data⟩, ⟨8, .guard⟩], some (8, false)⟩) (v := undef) rfl (by kernel_rfl) (by kernel_rfl) (by kernel_rfl) (fun _ _ _ h => h) (Or.inr ⟨by rfl, rfl⟩) hHeld ?_
      try simp only [aP, lA, lB, lC]
      refine wpAnyH_take (i := 13) (oi := ⟨some 40, .move (.tmp 8), 28, "ref.go:74", #[⟨8, .guard⟩], some (8, false)⟩) (v := undef) rfl (by kernel_rfl) (by kernel_rfl) (by kernel_rfl) (fun _ _ _ h => h) (Or.inr ⟨by rfl, rfl⟩) hHeld ?_
      try simp only [aP, lA, lB, lC]
      refine wpAnyH_take (i := 14) (oi := ⟨some 41, .move (.tmp 9), 3, "ref.go:74", #[⟨8, .guard⟩], some (8, false)⟩) (v := undef) rfl (by kernel_rfl) (by kernel_rfl) (by kernel_rfl) (fun _ _ _ h => h) (Or.inr ⟨by rfl, rfl⟩) hHeld ?_
      try simp only [aP, lA, lB, lC]
      refine wpAnyH_take (i := 15) (oi := ⟨some 42, .indexAddr 28 (.tmp 40) (.tmp 41), 0, "ref.go:74", #[⟨13, .data⟩, ⟨14, .data⟩, ⟨8, .guard⟩], some (8, false)⟩) (v := undef) rfl (by kernel_rfl) (by kernel_rfl) (by kernel_rfl) (fun _ _ _ h => h) (Or.inr ⟨by rfl, rfl⟩) hHeld ?_
      try simp only [aP, lA, lB, lC]
      refine wpAnyH_take (i := 16) (oi := ⟨some 43, .load 40 (.tmp 42), 40, "ref.go:74", #[⟨15, .data⟩, ⟨8, .guard⟩], some (8, false)⟩) (v := undef) rfl (by kernel_rfl) (by kernel_rfl) (by kernel_rfl) (fun _ _ _ h => h) (Or.inr ⟨by rfl, rfl⟩) hHeld ?_
      try simp only [aP, lA, lB, lC]
      refine wpAnyH_take (i := 17) (oi := ⟨some 44, .call { callee := .value (.func 26), args := #[.tmp 39, .tmp 43], argTypes := #[46, 40] }, 4, "ref.go:74", #[⟨12, .data⟩, ⟨16, .data⟩, ⟨8, .chain⟩, ⟨8, .guard⟩], some (8, false)⟩) (v := undef) rfl (by kernel_rfl) (by kernel_rfl) (by kernel_rfl) (fun _ _ _ h => h) (Or.inr ⟨by rfl, rfl⟩) hHeld ?_
      try simp only [aP, lA, lB, lC]
      refine wpAnyH_take (i := 18) (oi := ⟨some 45, .pick (.tmp 35) (.const (.bool true)) (.tmp 44), 4, "ref.go:74", #[⟨8, .data⟩, ⟨17, .data⟩, ⟨1, .guard⟩], some (1, true)⟩) (v := undef) rfl (by kernel_rfl) (by kernel_rfl) (by kernel_rfl) (fun _ _ _ h => h) (Or.inr ⟨by rfl, rfl⟩) hHeld ?_
      try simp only [aP, lA, lB, lC]
      refine wpAnyH_take (i := 19) (oi := ⟨some 46, .pick (.tmp 28) (.tmp 45) (.const (.bool false)), 4, "ref.go:74", #[⟨1, .data⟩, ⟨18, .data⟩], none⟩) (v := .bool false) rfl (by kernel_rfl) (by kernel_rfl) (by kernel_rfl) (fun _ _ _ h => h) (Or.inl ⟨by rfl, fun w hSw => by (try dsimp only at hSw); go_simp⟩) hHeld ?_
      try simp only [aP, lA, lB, lC]
      refine wpAnyH_ready (rs := [20]) (by kernel_rfl) (by simp) ?_
      refine AllReadyH.cons (o := ⟨some 10, .assign (.tmp 46), 4, "ref.go:74", #[⟨19, .data⟩, ⟨17, .chain⟩, ⟨0, .phase⟩, ⟨1, .phase⟩, ⟨2, .phase⟩, ⟨3, .phase⟩, ⟨4, .phase⟩, ⟨5, .phase⟩, ⟨6, .phase⟩, ⟨7, .phase⟩, ⟨8, .phase⟩, ⟨9, .phase⟩, ⟨10, .phase⟩, ⟨11, .phase⟩, ⟨12, .phase⟩, ⟨13, .phase⟩, ⟨14, .phase⟩, ⟨15, .phase⟩, ⟨16, .phase⟩, ⟨17, .phase⟩, ⟨18, .phase⟩, ⟨19, .phase⟩], none⟩) rfl (fun K hK => ?_) AllReadyH.nil
      have HSf := qH hHeld
      go_simp
      clear hHeld
      refine hK.out _ _ HSf.out (fun hHeld => ?_)
      try simp only [aP, lA, lB, lC]
      clear hK
      refine wpAnyH_done (by kernel_rfl) ?_ _
      clear hHeld
      go_wp2
      exact ⟨⟨j + 1, by omega, by go_num, by rw [Hnx.out], Hkx.out.trans HSf.out⟩, by (simp [intOf] <;> omega)⟩
     | true =>
      cases hu : upB t with
      | false =>
       rw [hu] at HUp
       have Hnx := qH (show allA (lt.take (j + 1)) x.1 = true from by rw [allA_snoc x.1 Ht.out, Hba.out]; unfold missA; rw [hu]; rfl)
       clear hu
       refine wp_region_held_drew (S := fun W => Kp [] wr W) (by kernel_rfl) ((Kp.refl [] wr).drew 1) (fun hHeld => ?_)
       refine wpAnyH_take (i := 0) (oi := ⟨some 27, .move (.tmp 10), 4, "ref.go:74", #[], none⟩) (v := .bool true) rfl (by kernel_rfl) (by kernel_rfl) (by kernel_rfl) (fun _ _ _ h => h) (Or.inl ⟨by rfl, fun w hSw => by (try dsimp only at hSw); go_simp⟩) hHeld ?_
       try simp only [aP, lA, lB, lC]
       refine wpAnyH_take (i := 1) (oi := ⟨some 28, .move (.tmp 27), 4, "ref.go:74", #[⟨0, .data⟩], none⟩) (v := .bool true) rfl (by kernel_rfl) (by kernel_rfl) (by kernel_rfl) (fun _ _ _ h => h) (Or.inl ⟨by rfl, fun w hSw => by (try dsimp only at hSw); go_simp⟩) hHeld ?_
       try simp only [aP, lA, lB, lC]
       refine wpAnyH_take (i := 2) (oi := ⟨some 29, .move (.tmp 0), 23, "ref.go:74", #[⟨1, .guard⟩], some (1, true)⟩) (v := .slice (some ⟨gt, ot, none⟩) T cp) rfl (by kernel_rfl) (by kernel_rfl) (by kernel_rfl) (fun _ _ _ h => h) (Or.inl ⟨by rfl, fun w hSw => by (try dsimp only at hSw); go_simp⟩) hHeld ?_
       try simp only [aP, lA, lB, lC]
       refine wpAnyH_take (i := 3) (oi := ⟨some 30, .move (.tmp 11), 3, "ref.go:74", #[⟨1, .guard⟩], some (1, true)⟩) (v := .int .i64 (j : Int)) rfl (by kernel_rfl) (by kernel_rfl) (by kernel_rfl) (fun _ _ _ h => h) (Or.inl ⟨by rfl, fun w hSw => by (try dsimp only at hSw); go_simp⟩) hHeld ?_
       try simp only [aP, lA, lB, lC]
       refine wpAnyH_take (i := 4) (oi := ⟨some 31, .indexAddr 23 (.tmp 29) (.tmp 30), 0, "ref.go:74", #[⟨2, .data⟩, ⟨3, .data⟩, ⟨1, .guard⟩], some (1, true)⟩) (v := .pointer (some ⟨gt, ot + j * 4, none⟩)) rfl (by kernel_rfl) (by kernel_rfl) (by kernel_rfl) (fun _ _ _ h => h) (Or.inl ⟨by rfl, fun w hSw => by (try dsimp only at hSw); go_simp⟩) hHeld ?_
       try simp only [aP, lA, lB, lC]
       refine wpAnyH_take (i := 5) (oi := ⟨some 32, .load 46 (.tmp 31), 46, "ref.go:74", #[⟨4, .data⟩, ⟨1, .guard⟩], some (1, true)⟩) (v := .agg #[.int .i64 t.key, .string (bs t.name), .int .i64 t.op, .string (bs t.val)]) rfl (by kernel_rfl) (by kernel_rfl) (by kernel_rfl) (fun _ _ _ h => h) (Or.inl ⟨by rfl, fun w hSw => by (try dsimp only at hSw); obtain ⟨e0, e1, e2, e3⟩ := tm_all (range_kp Htm.out (Hkx.out.trans hSw)); go_simp⟩) hHeld ?_
       try simp only [aP, lA, lB, lC]
       refine wpAnyH_ready (rs := [6]) (by kernel_rfl) (by simp) ?_
       refine AllReadyH.cons (o := ⟨some 33, .call { callee := .value (.func 25), args := #[.tmp 32], argTypes := #[46] }, 4, "ref.go:74", #[⟨5, .data⟩, ⟨1, .chain⟩, ⟨1, .guard⟩], some (1, true)⟩) rfl (fun K hK => ?_) AllReadyH.nil
       go_simp
       go_at_call 25
       refine cM (by with_reducible exact HUp.out _) ?_
       rintro e w5 ⟨rfl, hk5⟩
       dsimp only
       have hH := hHeld.trans hk5
       clear hk5
       clear hHeld
       refine hK.out _ _ hH (fun hHeld => ?_)
       try simp only [aP, lA, lB, lC]
       clear hK
       refine wpAnyH_take (i := 7) (oi := ⟨some 34, .unOp .not 4 (.tmp 33), 4, "ref.go:74", #[⟨6, .data⟩, ⟨1, .guard⟩], some (1, true)⟩) (v := .bool true) rfl (by kernel_rfl) (by kernel_rfl) (by kernel_rfl) (fun _ _ _ h => h) (Or.inl ⟨by rfl, fun w hSw => by (try dsimp only at hSw); go_simp⟩) hHeld ?_
       try simp only [aP, lA, lB, lC]
       refine wpAnyH_take (i := 8) (oi := ⟨some 35, .move (.tmp 34), 4, "ref.go:74", #[⟨7, .data⟩, ⟨6, .chain⟩, ⟨1, .guard⟩], some (1, true)⟩) (v := .bool true) rfl (by kernel_rfl) (by kernel_rfl) (by kernel_rfl) (fun _ _ _ h => h) (Or.inl ⟨by rfl, fun w hSw => by (try dsimp only at hSw); go_simp⟩) hHeld ?_
       try simp only [aP, lA, lB, lC]
       refine wpAnyH_take (i := 9) (oi := ⟨some 36, .move (.tmp 0), 23, "ref.go:74", #[⟨8, .guard⟩], some (8, false)⟩) (v := undef) rfl (by kernel_rfl) (by kernel_rfl) (by kernel_rfl) (fun _ _ _ h => h) (Or.inr ⟨by rfl, rfl⟩) hHeld ?_
       try simp only [aP, lA, lB, lC]
       refine wpAnyH_take (i := 10) (oi := ⟨some 37, .move (.tmp 11), 3, "ref.go:74", #[⟨8, .guard⟩], some (8, false)⟩) (v := undef) rfl (by kernel_rfl) (by kernel_rfl) (by kernel_rfl) (fun _ _ _ h => h) (Or.inr ⟨by rfl, rfl⟩) hHeld ?_
       try simp only [aP, lA, lB, lC]
       refine wpAnyH_take (i := 11) (oi := ⟨some 38, .indexAddr 23 (.tmp 36) (.tmp 37), 0, "ref.go:74", #[⟨9, .data⟩, ⟨10, .data⟩, ⟨8, .guard⟩], some (8, false)⟩) (v := undef) rfl (by kernel_rfl) (by kernel_rfl) (by kernel_rfl) (fun _ _ _ h => h) (Or.inr ⟨by rfl, rfl⟩) hHeld ?_
       try simp only [aP, lA, lB, lC]
       refine wpAnyH_take (i := 12) (oi := ⟨some 39, .load 46 (.tmp 38), 46, "ref.go:74", #[⟨11, .data⟩, ⟨8, .guard⟩], some (8, false)⟩) (v := undef) rfl (by kernel_rfl) (by kernel_rfl) (by kernel_rfl) (fun _ _ _ h => h) (Or.inr ⟨by rfl, rfl⟩) hHeld ?_
       try simp only [aP, lA, lB, lC]
       refine wpAnyH_take (i := 13) (oi := ⟨some 40, .move (.tmp 8), 28, "ref.go:74", #[⟨8, .guard⟩], some (8, false)⟩) (v := undef) rfl (by kernel_rfl) (by kernel_rfl) (by kernel_rfl) (fun _ _ _ h => h) (Or.inr ⟨by rfl, rfl⟩) hHeld ?_
       try simp only [aP, lA, lB, lC]
       refine wpAnyH_take (i := 14) (oi := ⟨some 41, .move (.tmp 9), 3, "ref.go:74", #[⟨8, .guard⟩], some (8, false)⟩) (v := undef) rfl (by kernel_rfl) (by kernel_rfl) (by kernel_rfl) (fun _ _ _ h => h) (Or.inr ⟨by rfl, rfl⟩) hHeld ?_
       try simp only [aP, lA, lB, lC]
       refine wpAnyH_take (i := 15) (oi := ⟨some 42, .indexAddr 28 (.tmp 40) (.tmp 41), 0, "ref.go:74", #[⟨13, .data⟩, ⟨14, .data⟩, ⟨8, .guard⟩], some (8, false)⟩) (v := undef) rfl (by kernel_rfl) (by kernel_rfl) (by kernel_rfl) (fun _ _ _ h => h) (Or.inr ⟨by rfl, rfl⟩) hHeld ?_
       try simp only [aP, lA, lB, lC]
       refine wpAnyH_take (i := 16) (oi := ⟨some 43, .load 40 (.tmp 42), 40, "ref.go:74", #[⟨15, .data⟩, ⟨8, .guard⟩], some (8, false)⟩) (v := undef) rfl (by kernel_rfl) (by kernel_rfl) (by kernel_rfl) (fun _ _ _ h => h) (Or.inr ⟨by rfl, rfl⟩) hHeld ?_
       try simp only [aP, lA, lB, lC]
       refine wpAnyH_take (i := 17) (oi := ⟨some 44, .call { callee := .value (.func 26), args := #[.tmp 39, .tmp 43], argTypes := #[46, 40] }, 4, "ref.go:74", #[⟨12, .data⟩, ⟨16, .data⟩, ⟨8, .chain⟩, ⟨8, .guard⟩], some (8, false)⟩) (v := undef) rfl (by kernel_rfl) (by kernel_rfl) (by kernel_rfl) (fun _ _ _ h => h) (Or.inr ⟨by rfl, rfl⟩) hHeld ?_
       try simp only [aP, lA, lB, lC]
       refine wpAnyH_take (i := 18) (oi := ⟨some 45, .pick (.tmp 35) (.const (.bool true)) (.tmp 44), 4, "ref.go:74", #[⟨8, .data⟩, ⟨17, .data⟩, ⟨1, .guard⟩], some (1, true)⟩) (v := .bool true) rfl (by kernel_rfl) (by kernel_rfl) (by kernel_rfl) (fun _ _ _ h => h) (Or.inl ⟨by rfl, fun w hSw => by (try dsimp only at hSw); go_simp⟩) hHeld ?_
       try simp only [aP, lA, lB, lC]
       refine wpAnyH_take (i := 19) (oi := ⟨some 46, .pick (.tmp 28) (.tmp 45) (.const (.bool false)), 4, "ref.go:74", #[⟨1, .data⟩, ⟨18, .data⟩], none⟩) (v := .bool true) rfl (by kernel_rfl) (by kernel_rfl) (by kernel_rfl) (fun _ _ _ h => h) (Or.inl ⟨by rfl, fun w hSw => by (try dsimp only at hSw); go_simp⟩) hHeld ?_
       try simp only [aP, lA, lB, lC]
       refine wpAnyH_ready (rs := [20]) (by kernel_rfl) (by simp) ?_
       refine AllReadyH.cons (o := ⟨some 10, .assign (.tmp 46), 4, "ref.go:74", #[⟨19, .data⟩, ⟨17, .chain⟩, ⟨0, .phase⟩, ⟨1, .phase⟩, ⟨2, .phase⟩, ⟨3, .phase⟩, ⟨4, .phase⟩, ⟨5, .phase⟩, ⟨6, .phase⟩, ⟨7, .phase⟩, ⟨8, .phase⟩, ⟨9, .phase⟩, ⟨10, .phase⟩, ⟨11, .phase⟩, ⟨12, .phase⟩, ⟨13, .phase⟩, ⟨14, .phase⟩, ⟨15, .phase⟩, ⟨16, .phase⟩, ⟨17, .phase⟩, ⟨18, .phase⟩, ⟨19, .phase⟩], none⟩) rfl (fun K hK => ?_) AllReadyH.nil
       have HSf := qH hHeld
       go_simp
       clear hHeld
       refine hK.out _ _ HSf.out (fun hHeld => ?_)
       try simp only [aP, lA, lB, lC]
       clear hK
       refine wpAnyH_done (by kernel_rfl) ?_ _
       clear hHeld
       go_wp2
       exact ⟨⟨j + 1, by omega, by go_num, by rw [Hnx.out], Hkx.out.trans HSf.out⟩, by (simp [intOf] <;> omega)⟩
      | true =>
       rw [hu] at HUp
       obtain ⟨dv, hdv⟩ : ∃ b, devA t x.1 = b := ⟨_, rfl⟩
       rw [hdv] at HDv
       have Hnx := qH (show allA (lt.take (j + 1)) x.1 = dv from by rw [allA_snoc x.1 Ht.out, Hba.out, ← hdv]; unfold missA; rw [hu]; simp)
       clear hu hdv
       refine wp_region_held_drew (S := fun W => Kp [] wr W) (by kernel_rfl) ((Kp.refl [] wr).drew 1) (fun hHeld => ?_)
       refine wpAnyH_take (i := 0) (oi := ⟨some 27, .move (.tmp 10), 4, "ref.go:74", #[], none⟩) (v := .bool true) rfl (by kernel_rfl) (by kernel_rfl) (by kernel_rfl) (fun _ _ _ h => h) (Or.inl ⟨by rfl, fun w hSw => by (try dsimp only at hSw); go_simp⟩) hHeld ?_
       try simp only [aP, lA, lB, lC]
       refine wpAnyH_take (i := 1) (oi := ⟨some 28, .move (.tmp 27), 4, "ref.go:74", #[⟨0, .data⟩], none⟩) (v := .bool true) rfl (by kernel_rfl) (by kernel_rfl) (by kernel_rfl) (fun _ _ _ h => h) (Or.inl ⟨by rfl, fun w hSw => by (try dsimp only at hSw); go_simp⟩) hHeld ?_
       try simp only [aP, lA, lB, lC]
       refine wpAnyH_take (i := 2) (oi := ⟨some 29, .move (.tmp 0), 23, "ref.go:74", #[⟨1, .guard⟩], some (1, true)⟩) (v := .slice (some ⟨gt, ot, none⟩) T cp) rfl (by kernel_rfl) (by kernel_rfl) (by kernel_rfl) (fun _ _ _ h => h) (Or.inl ⟨by rfl, fun w hSw => by (try dsimp only at hSw); go_simp⟩) hHeld ?_
       try simp only [aP, lA, lB, lC]
       refine wpAnyH_take (i := 3) (oi := ⟨some 30, .move (.tmp 11), 3, "ref.go:74", #[⟨1, .guard⟩], some (1, true)⟩) (v := .int .i64 (j : Int)) rfl (by kernel_rfl) (by kernel_rfl) (by kernel_rfl) (fun _ _ _ h => h) (Or.inl ⟨by rfl, fun w hSw => by (try dsimp only at hSw); go_simp⟩) hHeld ?_
       try simp only [aP, lA, lB, lC]
       refine wpAnyH_take (i := 4) (oi := ⟨some 31, .indexAddr 23 (.tmp 29) (.tmp 30), 0, "ref.go:74", #[⟨2, .data⟩, ⟨3, .data⟩, ⟨1, .guard⟩], some (1, true)⟩) (v := .pointer (some ⟨gt, ot + j * 4, none⟩)) rfl (by kernel_rfl) (by kernel_rfl) (by kernel_rfl) (fun _ _ _ h => h) (Or.inl ⟨by rfl, fun w hSw => by (try dsimp only at hSw); go_simp⟩) hHeld ?_
       try simp only [aP, lA, lB, lC]
       refine wpAnyH_take (i := 5) (oi := ⟨some 32, .load 46 (.tmp 31), 46, "ref.go:74", #[⟨4, .data⟩, ⟨1, .guard⟩], some (1, true)⟩) (v := .agg #[.int .i64 t.key, .string (bs t.name), .int .i64 t.op, .string (bs t.val)]) rfl (by kernel_rfl) (by kernel_rfl) (by kernel_rfl) (fun _ _ _ h => h) (Or.inl ⟨by rfl, fun w hSw => by (try dsimp only at hSw); obtain ⟨e0, e1, e2, e3⟩ := tm_all (range_kp Htm.out (Hkx.out.trans hSw)); go_simp⟩) hHeld ?_
       try simp only [aP, lA, lB, lC]
       refine wpAnyH_ready (rs := [6]) (by kernel_rfl) (by simp) ?_
       refine AllReadyH.cons (o := ⟨some 33, .call { callee := .value (.func 25), args := #[.tmp 32], argTypes := #[46] }, 4, "ref.go:74", #[⟨5, .data⟩, ⟨1, .chain⟩, ⟨1, .guard⟩], some (1, true)⟩) rfl (fun K hK => ?_) AllReadyH.nil
       go_simp
       go_at_call 25
       refine cM (by with_reducible exact HUp.out _) ?_
       rintro e w5 ⟨rfl, hk5⟩
       dsimp only
       have hH := hHeld.trans hk5
       clear hk5
       clear hHeld
       refine hK.out _ _ hH (fun hHeld => ?_)
       try simp only [aP, lA, lB, lC]
       clear hK
       refine wpAnyH_take (i := 7) (oi := ⟨some 34, .unOp .not 4 (.tmp 33), 4, "ref.go:74", #[⟨6, .data⟩, ⟨1, .guard⟩], some (1, true)⟩) (v := .bool false) rfl (by kernel_rfl) (by kernel_rfl) (by kernel_rfl) (fun _ _ _ h => h) (Or.inl ⟨by rfl, fun w hSw => by (try dsimp only at hSw); go_simp⟩) hHeld ?_
       try simp only [aP, lA, lB, lC]
       refine wpAnyH_take (i := 8) (oi := ⟨some 35, .move (.tmp 34), 4, "ref.go:74", #[⟨7, .data⟩, ⟨6, .chain⟩, ⟨1, .guard⟩], some (1, true)⟩) (v := .bool false) rfl (by kernel_rfl) (by kernel_rfl) (by kernel_rfl) (fun _ _ _ h => h) (Or.inl ⟨by rfl, fun w hSw => by (try dsimp only at hSw); go_simp⟩) hHeld ?_
       try simp only [aP, lA, lB, lC]
       refine wpAnyH_take (i := 9) (oi := ⟨some 36, .move (.tmp 0), 23, "ref.go:74", #[⟨8, .guard⟩], some (8, false)⟩) (v := .slice (some ⟨gt, ot, none⟩) T cp) rfl (by kernel_rfl) (by kernel_rfl) (by kernel_rfl) (fun _ _ _ h => h) (Or.inl ⟨by rfl, fun w hSw => by (try dsimp only at hSw); go_simp⟩) hHeld ?_
       try simp only [aP, lA, lB, lC]
       refine wpAnyH_take (i := 10) (oi := ⟨some 37, .move (.tmp 11), 3, "ref.go:74", #[⟨8, .guard⟩], some (8, false)⟩) (v := .int .i64 (j : Int)) rfl (by kernel_rfl) (by kernel_rfl) (by kernel_rfl) (fun _ _ _ h => h) (Or.inl ⟨by rfl, fun w hSw => by (try dsimp only at hSw); go_simp⟩) hHeld ?_
       try simp only [aP, lA, lB, lC]
       refine wpAnyH_take (i := 11) (oi := ⟨some 38, .indexAddr 23 (.tmp 36) (.tmp 37), 0, "ref.go:74", #[⟨9, .data⟩, ⟨10, .data⟩, ⟨8, .guard⟩], some (8, false)⟩) (v := .pointer (some ⟨gt, ot + j * 4, none⟩)) rfl (by kernel_rfl) (by kernel_rfl) (by kernel_rfl) (fun _ _ _ h => h) (Or.inl ⟨by rfl, fun w hSw => by (try dsimp only at hSw); go_simp⟩) hHeld ?_
       try simp only [aP, lA, lB, lC]
       refine wpAnyH_take (i := 12) (oi := ⟨some 39, .load 46 (.tmp 38), 46, "ref.go:74", #[⟨11, .data⟩, ⟨8, .guard⟩], some (8, false)⟩) (v := .agg #[.int .i64 t.key, .string (bs t.name), .int .i64 t.op, .string (bs t.val)]) rfl (by kernel_rfl) (by kernel_rfl) (by kernel_rfl) (fun _ _ _ h => h) (Or.inl ⟨by rfl, fun w hSw => by (try dsimp only at hSw); obtain ⟨e0, e1, e2, e3⟩ := tm_all (range_kp Htm.out (Hkx.out.trans hSw)); go_simp⟩) hHeld ?_
       try simp only [aP, lA, lB, lC]
       refine wpAnyH_take (i := 13) (oi := ⟨some 40, .move (.tmp 8), 28, "ref.go:74", #[⟨8, .guard⟩], some (8, false)⟩) (v := .slice (some ⟨g, o, none⟩) M uc) rfl (by kernel_rfl) (by kernel_rfl) (by kernel_rfl) (fun _ _ _ h => h) (Or.inl ⟨by rfl, fun w hSw => by (try dsimp only at hSw); go_simp⟩) hHeld ?_
       try simp only [aP, lA, lB, lC]
       refine wpAnyH_take (i := 14) (oi := ⟨some 41, .move (.tmp 9), 3, "ref.go:74", #[⟨8, .guard⟩], some (8, false)⟩) (v := .int .i64 (i : Int)) rfl (by kernel_rfl) (by kernel_rfl) (by kernel_rfl) (fun _ _ _ h => h) (Or.inl ⟨by rfl, fun w hSw => by (try dsimp only at hSw); go_simp⟩) hHeld ?_
       try simp only [aP, lA, lB, lC]
       refine wpAnyH_take (i := 15) (oi := ⟨some 42, .indexAddr 28 (.tmp 40) (.tmp 41), 0, "ref.go:74", #[⟨13, .data⟩, ⟨14, .data⟩, ⟨8, .guard⟩], some (8, false)⟩) (v := .pointer (some ⟨g, o + i * 10, none⟩)) rfl (by kernel_rfl) (by kernel_rfl) (by kernel_rfl) (fun _ _ _ h => h) (Or.inl ⟨by rfl, fun w hSw => by (try dsimp only at hSw); go_simp⟩) hHeld ?_
       try simp only [aP, lA, lB, lC]
       refine wpAnyH_take (i := 16) (oi := ⟨some 43, .load 40 (.tmp 42), 40, "ref.go:74", #[⟨15, .data⟩, ⟨8, .guard⟩], some (8, false)⟩) (v := .agg #[.int .i64 x.1.idx, .int .i64 x.1.par, .string x.1.name, .string x.1.orig, .string x.1.sub, .string x.1.drv, .string x.1.ali, .int .i64 x.1.kind, .int .i64 x.1.num, x.2]) rfl (by kernel_rfl) (by kernel_rfl) (by kernel_rfl) (fun _ _ _ h => h) (Or.inl ⟨by rfl, fun w hSw => by (try dsimp only at hSw); obtain ⟨d0, d1, d2, d3, d4, d5, d6, d7, d8, d9⟩ := dvC_all (range_kp Hran.out (Hkx.out.trans hSw)); go_simp⟩) hHeld ?_
       try simp only [aP, lA, lB, lC]
       refine wpAnyH_ready (rs := [17]) (by kernel_rfl) (by simp) ?_
       refine AllReadyH.cons (o := ⟨some 44, .call { callee := .value (.func 26), args := #[.tmp 39, .tmp 43], argTypes := #[46, 40] }, 4, "ref.go:74", #[⟨12, .data⟩, ⟨16, .data⟩, ⟨8, .chain⟩, ⟨8, .guard⟩], some (8, false)⟩) rfl (fun K hK => ?_) AllReadyH.nil
       go_simp
       go_at_call 26
       refine cM (by with_reducible exact HDv.out _ (Hkx.out.trans hHeld)) ?_
       rintro e w6 ⟨rfl, hk6⟩
       dsimp only
       have hH := hHeld.trans hk6
       clear hk6
       clear hHeld
       refine hK.out _ _ hH (fun hHeld => ?_)
       try simp only [aP, lA, lB, lC]
       clear hK
       refine wpAnyH_take (i := 18) (oi := ⟨some 45, .pick (.tmp 35) (.const (.bool true)) (.tmp 44), 4, "ref.go:74", #[⟨8, .data⟩, ⟨17, .data⟩, ⟨1, .guard⟩], some (1, true)⟩) (v := .bool dv) rfl (by kernel_rfl) (by kernel_rfl) (by kernel_rfl) (fun _ _ _ h => h) (Or.inl ⟨by rfl, fun w hSw => by (try dsimp only at hSw); go_simp⟩) hHeld ?_
       try simp only [aP, lA, lB, lC]
       refine wpAnyH_take (i := 19) (oi := ⟨some 46, .pick (.tmp 28) (.tmp 45) (.const (.bool false)), 4, "ref.go:74", #[⟨1, .data⟩, ⟨18, .data⟩], none⟩) (v := .bool dv) rfl (by kernel_rfl) (by kernel_rfl) (by kernel_rfl) (fun _ _ _ h => h) (Or.inl ⟨by rfl, fun w hSw => by (try dsimp only at hSw); go_simp⟩) hHeld ?_
       try simp only [aP, lA, lB, lC]
       refine wpAnyH_ready (rs := [20]) (by kernel_rfl) (by simp) ?_
       refine AllReadyH.cons (o := ⟨some 10, .assign (.tmp 46), 4, "ref.go:74", #[⟨19, .data⟩, ⟨17, .chain⟩, ⟨0, .phase⟩, ⟨1, .phase⟩, ⟨2, .phase⟩, ⟨3, .phase⟩, ⟨4, .phase⟩, ⟨5, .phase⟩, ⟨6, .phase⟩, ⟨7, .phase⟩, ⟨8, .phase⟩, ⟨9, .phase⟩, ⟨10, .phase⟩, ⟨11, .phase⟩, ⟨12, .phase⟩, ⟨13, .phase⟩, ⟨14, .phase⟩, ⟨15, .phase⟩, ⟨16, .phase⟩, ⟨17, .phase⟩, ⟨18, .phase⟩, ⟨19, .phase⟩], none⟩) rfl (fun K hK => ?_) AllReadyH.nil
       have HSf := qH hHeld
       go_simp
       clear hHeld
       refine hK.out _ _ HSf.out (fun hHeld => ?_)
       try simp only [aP, lA, lB, lC]
       clear hK
       refine wpAnyH_done (by kernel_rfl) ?_ _
       clear hHeld
       go_wp2
       exact ⟨⟨j + 1, by omega, by go_num, by rw [Hnx.out], Hkx.out.trans HSf.out⟩, by (simp [intOf] <;> omega)⟩
    ·obtain rfl : j = T := by omega
     have hjj : ¬ (j : Int) < (j : Int) := by omega
     have Hh := qH (show holdA lt x.1 = ba from by rw [← Hba.out, ← allA_hold, List.take_of_length_le (by rw [HTl.out]; exact Nat.le_refl _)])
     cases ba with
     | true =>
      have Hfin := qH (show an = x.1.idx ∧ ok = true from by
       have h1 := ancU_some (lt := lt) (c := C.map (·.1)) (i := i) (a := x.1) (fun y hy => by
        rw [← List.map_take] at hy
        obtain ⟨z, hz, rfl⟩ := List.mem_map.1 hy
        exact Hall.out z hz) (by rw [List.getElem?_map, Hx.out]; rfl) Hh.out
       rw [HAO.out] at h1
       injection h1 with h1 h2
       exact ⟨h1, h2⟩)
      obtain ⟨d0, -, -, -, -, -⟩ := De.dvC_cells (range_kp Hran.out Hkx.out)
      go_wp2
      go_ret2
      exact ⟨by rw [Hfin.out.1, Hfin.out.2]; rfl, HK1.out.trans (HKi.out.trans Hkx.out)⟩
     | false =>
      have Hall2 := qH (show ∀ y ∈ C.take (i + 1), holdA lt y.1 = false from fun y hy => by
       rw [List.take_add_one, Hx.out] at hy
       rcases List.mem_append.1 hy with hy | hy
       ·exact Hall.out y hy
       ·rw [show y = x by simpa using hy]
        exact Hh.out)
      go_wp2
      exact ⟨⟨i + 1, by omega, by go_num, Hall2, qH (HKi.out.trans Hkx.out)⟩, by (simp [intOf] <;> omega)⟩
  ·obtain rfl : i = M := by omega
   have hii : ¬ (i : Int) < (i : Int) := by omega
   have Hfin := qH (show an = 0 ∧ ok = false from by
    have h1 := ancU_none (lt := lt) (c := C.map (·.1)) (fun y hy => by
     obtain ⟨z, hz, rfl⟩ := List.mem_map.1 hy
     exact Hall.out z (by rw [List.take_of_length_le (by rw [HM.out]; exact Nat.le_refl _)]; exact hz))
    rw [HAO.out] at h1
    injection h1 with h1 h2
    exact ⟨h1, h2⟩)
   go_wp2
   go_ret2
   exact ⟨by rw [Hfin.out.1, Hfin.out.2]; rfl, HK1.out.trans HKi.out⟩
end Go.Proofs.YtljkljnfbcmjdaaGreatDoor
namespace Go.Proofs.YtljkljnfbcmjdaaGreatDoor
open Go.RowKit
theorem tape_new {w : World} {lv : Value} (hi : Ints w w.heap.size lv) : Tp (w.alloc (.cells #[lv, .int .i64 0] 27)) w.heap.size 0 :=
 ⟨lv, heap_alloc_last _ _, hi.keep fun b hb => by have := ((Kp.refl [] w).alloc (.cells #[lv, .int .i64 0] 27)).block b hb (by simp); exact this⟩
theorem tree9 {w : World} {tb k : Nat} (hk : k ≤ 400) (h : Tp w tb k) (hm : De.Max w) : Calls Tryz.prog 6 #[.pointer (some ⟨tb, 0, none⟩), .int .i64 9] w fun e w' => ∃ va N vc L, e = .returned (.agg #[.slice va N vc]) ∧ Hid (L.length = N) ∧ N ≤ vc ∧ N ≤ 9 ∧ Hid (TreeAt w' (tb + 1) 9 (.slice va N vc) L) ∧ ∃ k', k' ≤ k + 361 ∧ Hid (Tp w' tb k') ∧ Hid (Kp [tb] w w') := by
 refine (show Calls Tryz.prog 6 #[.pointer (some ⟨tb, 0, none⟩), .int .i64 ((9 : Nat) : Int)] w (TreePost tb k 9 w) from tree_any 9 (by omega) (by omega) h hm).mono ?_
 rintro e w' ⟨v, L, rfl, ht, ⟨k', hk', hT⟩, hkp⟩
 obtain ⟨va, vc, rfl, hvc, -⟩ := ht.any.wform
 exact ⟨va, L.length, vc, L, rfl, qH rfl, hvc, ht.len, qH (ht.up (Nat.le_refl _) h.lt), k', by omega, qH hT, qH hkp⟩
theorem ancestor_all (lt : List Tm) (ad : Option Addr) (cp : Nat) (L : List De.DV) (a0 : Option Addr) (c0 : Nat) (q : Int) (w : World) (hlt : lt.length ≤ 1000000) (hsl : SmL lt) (hv : tmT.Has w (.slice ad lt.length cp) lt) (ho : TrOk L) (hd : De.DHas w (.slice a0 L.length c0) L) (hc0 : L.length ≤ c0) (hq : (Lit.int .i64 q).wf = true) (hval : De.Valid sndA clA (L.map (·.1))) :
  Calls Tryz.prog 9 #[.slice ad lt.length cp, .agg #[.slice a0 L.length c0], .int .i64 q] w fun e w' => e = .returned (.tuple #[.int .i64 (ancU lt (De.ups (L.map (·.1)) q)).1, .bool (ancU lt (De.ups (L.map (·.1)) q)).2]) ∧ Kp [] w w' := by
 rw [← ancE_ups hval]
 cases hf : (De.lastI (L.map (·.1)) q).bind (fun p => L[p]?) with
 | none =>
  have : ancE lt L q = (0, false) := by unfold ancE wayA; rw [hf]
  rw [this]
  exact ancestor_none lt ad cp L a0 c0 q w ho hd hq hf
 | some x => exact ancestor_some lt ad cp L a0 c0 q w (by omega) hsl hv ho hd hc0 hq x.1 x.2 hf
end Go.Proofs.YtljkljnfbcmjdaaGreatDoor
