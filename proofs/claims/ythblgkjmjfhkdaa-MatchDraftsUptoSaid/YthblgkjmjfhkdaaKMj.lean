/- Ancestor. -/
import Derived.Test.YthblgkjmjfhkdaaKMi
namespace Go.Proofs.Ythblgkjmjfhkdaa
open Go.RowKit

/-- A device in a block of its own, and more behind it. -/
theorem run_append_dv {w : World} {G : Nat} {C : Array Value} {x : De.DV} {y : Value} {L : List De.DV} {ty : TypeId} (hg : w.heap[G]? = some (.cells C 26 (0, 0))) (hC : C = (De.dvC x.1 x.2).toArray) (hy : De.DHas w y L) (hl : L.length ≤ 1000) :
    ∃ v' w', (Builtin.append_ #[33, 33] ty #[.slice (some ⟨G, 0, none⟩) 1 1, y]).run Try.prog w = .ok v' w' ∧ w'.ownsRow G 26 10 v' (1 + L.length) (De.dvsC (x :: L)) ∧ w.grownBy w' (some G) := by
  obtain ⟨i0, hi0, hz0, hz1, hz2⟩ := info_parts De.info34
  have hown : w.ownsRow G 26 10 (.slice (some ⟨G, 0, none⟩) 1 1) 1 (De.dvC x.1 x.2) := by
    subst hC
    exact ⟨rfl, .inr ⟨G, 1, _, rfl, Nat.le_refl _, hg, Nat.le_refl _, by unfold maxLen; omega, rfl, rfl⟩⟩
  have hgl := block_lt hg
  have hcat : De.dvsC (x :: L) = De.dvC x.1 x.2 ++ De.dvsC L := by simp [De.dvsC]
  rw [hcat]
  have hsome : ∀ (ad : Addr) (c : Nat), (∀ j u, (De.dvsC L)[j]? = some u → w.cell? (ad.add j) = some u) → (∀ u ∈ De.dvsC L, u.oneCell' = true) → ∃ v' w', (Builtin.append_ #[33, 33] ty #[.slice (some ⟨G, 0, none⟩) 1 1, .slice (some ad) L.length c]).run Try.prog w = .ok v' w' ∧ w'.ownsRow G 26 10 v' (1 + L.length) (De.dvC x.1 x.2 ++ De.dvsC L) ∧ w.grownBy w' (some G) := fun ad c hc h1 => by
    obtain ⟨v', w', r0, r1, r2, _⟩ := run_append_own (P := Try.prog) w G 33 ty 26 i0 _ 10 136 Try.underlying33 hi0 hz0 hz1 hz2 rfl (by decide) _ 1 _ hown ad L.length c (De.dvsC L) (De.dvsC_len L) hc h1 (by unfold maxLen; omega) (by omega) (Nat.le_of_lt hgl)
    exact ⟨v', w', r0, r1, r2⟩
  rcases hy with ⟨ad, c, rfl, rfl⟩ | ⟨g, o, c, rfl, hcap, hgb, hr⟩
  · cases ad with
    | none =>
      refine ⟨_, w, run_append_nothing w 33 33 ty 26 i0 Try.underlying33 hi0 _ _ _ (Nat.le_refl _) _ (Src.ofNil w Try.underlying33 c), ?_, World.grownBy.refl _ _⟩
      have : De.dvC x.1 x.2 ++ De.dvsC [] = De.dvC x.1 x.2 := by simp [De.dvsC]
      rw [this]
      exact hown
    | some ad => exact hsome ad c (fun j u hj => by simp [De.dvsC] at hj) (fun u hu => by simp [De.dvsC] at hu)
  · exact hsome _ c (fun j u hj => hr.cells j u hj) (De.dvsC_one hr.ats)
theorem dh_ats {W : World} {v : Value} {L : List De.DV} (h : De.DHas W v L) : ∀ x ∈ L, De.Has W x.2 x.1.ats := fun x hx => by
  rcases h with ⟨a, c, hv, rfl⟩ | ⟨g, o, c, hv, _, _, hr⟩
  · cases hx
  · exact hr.ats x hx
theorem step_append_run {ops : Array Oper} {o : Oper} {a : Act} {w w' : World} {K : Act → World → Prop} {Q : Exit → Act → World → Prop} {E : Prop} (hg : o.guard = none) (s y : Operand)
    (hop : o.op = Op.call { callee := Callee.builtin Builtin.append, args := #[s, y], argTypes := #[33, 33] }) (v yv v' : Value) (hs : a.eval s = v) (hx : a.eval y = yv)
    (h1 : (Builtin.append_ #[33, 33] o.type #[v, yv]).run Try.prog w = .ok v' w') (hK : K (a.put o.dst v') w') :
    if Region.wanted o (yielded ops a.tmps) = true then Oper.wp Try.prog o a w K Q else E := by
  have hw : Region.wanted o (yielded ops a.tmps) = true := by simp [Region.wanted, hg]
  rw [if_pos hw]
  unfold Oper.wp
  simp [execOp, hop, resolve, invoke, builtin, hs, hx, h1, Result.andThen]
  exact hK
/-- The rule's ancestor. -/
def wayA (l : List De.DV) (q : Int) : Option (List De.ADev) := match (De.lastI (l.map (·.1)) q).bind fun p => l[p]? with
  | none => none
  | some x => some (x.1 :: (De.ancOf l q).map (·.1))
def ancE (lt : List Tm) (l : List De.DV) (q : Int) : Int × Bool := match wayA l q with
  | none => (0, false)
  | some w => match w.find? (holdA lt) with
    | none => (0, false)
    | some a => (a.idx, true)
theorem find_of_idx {α : Type} {f : α → Bool} : ∀ {L : List α} {i : Nat}, L.findIdx? f = some i → ∃ x, L[i]? = some x ∧ L.find? f = some x
  | [], _, h => by simp at h
  | y :: l, i, h => by
    rw [List.findIdx?_cons] at h
    cases hy : f y with
    | true =>
      rw [hy] at h
      simp at h
      subst h
      exact ⟨y, rfl, by simp [hy]⟩
    | false =>
      rw [hy] at h
      simp only [Bool.false_eq_true, if_false, Option.map_eq_some_iff] at h
      obtain ⟨j, hj, rfl⟩ := h
      obtain ⟨x, h1, h2⟩ := find_of_idx hj
      exact ⟨x, by simpa using h1, by rw [List.find?_cons, hy]; exact h2⟩
theorem find_no_idx {α : Type} {f : α → Bool} {L : List α} (h : L.findIdx? f = none) : L.find? f = none := by
  rw [List.findIdx?_eq_none_iff] at h
  rw [List.find?_eq_none]
  intro x hx
  simpa using h x hx
theorem find_map {lt : List Tm} {L : List De.DV} : (L.map (·.1)).find? (holdA lt) = (L.find? fun x => holdA lt x.1).map (·.1) := by
  rw [List.find?_map]
  rfl
/-- What is asked of the devices of a tree. -/
structure TrOk (l : List De.DV) : Prop where
  n : l.length ≤ 1000000
  sm : ∀ x ∈ l, SmA x.1
  wi : ∀ x ∈ l, (Lit.int .i64 x.1.idx).wf = true
  wp : ∀ x ∈ l, (Lit.int .i64 x.1.par).wf = true
set_option maxRecDepth 100000 in
set_option maxHeartbeats 8000000 in
theorem ancestor_some (lt : List Tm) (ad : Option Addr) (cp : Nat) (l : List De.DV) (a0 : Option Addr) (c0 : Nat) (q : Int) (w : World) (hlt : lt.length ≤ 4611686018427387904) (hsl : SmL lt) (hv : tmT.Has w (.slice ad lt.length cp) lt) (ho : TrOk l) (hd : De.DHas w (.slice a0 l.length c0) l) (hc0 : l.length ≤ c0) (hq : (Lit.int .i64 q).wf = true)
    (a : De.ADev) (ov : Value) (hf : (De.lastI (l.map (·.1)) q).bind (fun p => l[p]?) = some (a, ov)) :
    Calls Try.prog 21 #[.slice ad lt.length cp, .agg #[.slice a0 l.length c0], .int .i64 q] w fun e w' => e = .returned (.tuple #[.int .i64 (ancE lt l q).1, .bool (ancE lt l q).2]) ∧ Kp [] w w' := by
  obtain ⟨W0, hW⟩ : ∃ W0, (w.alloc (.cells #[.slice ad lt.length cp] 37)).alloc (.cells #[.slice a0 l.length c0] 35) = W0 := ⟨_, rfl⟩
  obtain ⟨Bt, hBt⟩ : ∃ Bt, w.heap.size = Bt := ⟨_, rfl⟩
  have hk0 : Kp [] w W0 := by rw [← hW]; exact ((Kp.refl [] w).alloc _).alloc _
  have ht0 : W0.heap[Bt]? = some (.cells #[.slice ad lt.length cp] 37 (0, 0)) := by rw [← hW, ← hBt]; exact heap_alloc2_old w _ _
  have ht1 : W0.heap[Bt + 1]? = some (.cells #[.slice a0 l.length c0] 35 (0, 0)) := by
    have := heap_alloc_last (w.alloc (.cells #[.slice ad lt.length cp] 37)) (.cells #[.slice a0 l.length c0] 35)
    rw [hW] at this
    rw [← hBt]
    simpa using this
  have t0 : W0.cell? ⟨Bt, 0, none⟩ = some (.slice ad lt.length cp) := by rw [cell_of_row _ _ _ _ _ _ ht0]; rfl
  have t1 : W0.cell? ⟨Bt + 1, 0, none⟩ = some (.slice a0 l.length c0) := by rw [cell_of_row _ _ _ _ _ _ ht1]; rfl
  have hHow : wayA l q = some (a :: (De.ancOf l q).map (·.1)) := by unfold wayA; rw [hf]
  have hsa : SmA a ∧ ∃ x ∈ l, x = (a, ov) := by
    obtain ⟨p, -, hp⟩ := Option.bind_eq_some_iff.1 hf
    have := List.mem_of_getElem? hp
    exact ⟨ho.sm _ this, _, this, rfl⟩
  have HF := Lib.hid (show Calls Try.prog 41 #[.agg #[.slice a0 l.length c0], .int .i64 q] W0 fun e w' => ∃ b c, e = .returned (.tuple #[.agg #[.int .i64 a.idx, .int .i64 a.par, .string a.name, .string a.orig, .string a.sub, .string a.drv, .string a.ali, .int .i64 a.kind, .int .i64 a.num, .slice b a.ats.length c], .bool true]) ∧ De.Has w' (.slice b a.ats.length c) a.ats ∧ Kp [] W0 w' from by
    have := De.find_any (.slice a0 l.length c0) l q W0 ho.n (fun x hx => (ho.sm x hx).n) (hd.below hk0.bel) ho.wi hq
    rw [hf] at this
    refine this.mono fun e w' ⟨h1, u, h2, h3⟩ => ?_
    obtain ⟨b, c, rfl, -⟩ := h3.has.form
    exact ⟨b, c, h2, h3.has, Kp.of_bel h1⟩)
  have hANC := fun W (hk : Kp [] W0 W) => De.ancestors_any (.slice a0 l.length c0) l q W ho.n (fun x hx => (ho.sm x hx).n) ((hd.below hk0.bel).below hk.bel) (fun a' n' c' e => by cases e; exact hc0) ho.wi ho.wp hq
  have HAN0 := Lib.hid hANC
  have HLn := Lib.hid (show (De.ancOf l q).length ≤ 1000 by
    unfold De.ancOf
    split
    · simp
    · split
      · simp
      · exact Nat.le_trans (De.ancL_len _ _) (by omega))
  have HSmW := Lib.hid (show ∀ x ∈ De.ancOf l q, SmA x.1 from fun x hx => ho.sm x (De.ancOf_mem hx))
  have HK := Lib.hid hk0
  have HT0 := Lib.hid t0
  have HT1 := Lib.hid t1
  have HV := Lib.hid (hv.kp0 hk0)
  have HOW := Lib.hid hHow
  have HSA := Lib.hid hsa.1
  clear hd hf ht0 ht1 hk0 ho hANC hv hHow hsa
  generalize hnn : a.ats.length = n at *
  go_enter Try.func21, Try.ntmps21
  go_upto_region 2 with (go_at_call 41; refine Calls.mono (by with_reducible exact HF.out) ?_; rintro e w2 ⟨b, c, rfl, hb2, hk2⟩; have HK2 := Lib.hid hk2; have HB2 := Lib.hid hb2; clear hk2 hb2)
  obtain ⟨Bd, hBd⟩ : ∃ B, w2.heap.size = B := ⟨_, rfl⟩
  have hbx2 := heap_alloc_last w2 (.cells #[.int .i64 a.idx, .int .i64 a.par, .string a.name, .string a.orig, .string a.sub, .string a.drv, .string a.ali, .int .i64 a.kind, .int .i64 a.num, .slice b n c] 26)
  have hk23 := (Kp.refl [] w2).alloc (.cells #[.int .i64 a.idx, .int .i64 a.par, .string a.name, .string a.orig, .string a.sub, .string a.drv, .string a.ali, .int .i64 a.kind, .int .i64 a.num, .slice b n c] 26)
  generalize hw3 : w2.alloc (.cells #[.int .i64 a.idx, .int .i64 a.par, .string a.name, .string a.orig, .string a.sub, .string a.drv, .string a.ali, .int .i64 a.kind, .int .i64 a.num, .slice b n c] 26) = w3 at *
  rw [hBd] at hbx2 ⊢
  have HBX := Lib.hid (show DBox w3 Bd a b n c from ⟨hbx2, HB2.out.below hk23.bel⟩)
  have HK3 := Lib.hid (HK2.out.trans hk23)
  have HTR := Lib.hid (cell_kp HK3.out HT1.out)
  have HAN := Lib.hid (fun W (hk : Kp [] w3 W) => HAN0.out W (HK3.out.trans hk))
  have hdr := (Kp.refl [] w3).drew 1
  have HST := Lib.hid (show DBox w3.drew Bd a b n c ∧ w3.drew.cell? ⟨Bt + 1, 0, none⟩ = some (.slice a0 l.length c0) ∧ Kp [] w3 w3.drew from ⟨HBX.out.kp0 hdr, cell_kp hdr HTR.out, hdr⟩)
  clear hbx2 hk23 hdr hw3
  go_upto_region 4 with fail
  refine wp_region_held_drew (S := fun W => DBox W Bd a b n c ∧ W.cell? ⟨Bt + 1, 0, none⟩ = some (.slice a0 l.length c0) ∧ Kp [] w3 W) (by kernel_rfl) HST.out (fun hHeld => ?_)
  refine wpAnyH_take (i := 0) (oi := { dst := some 20, op := Op.load 26 (Operand.tmp 8), type := 26, pos := "match.go:55", after := #[], guard := none }) (v := .agg #[.int .i64 a.idx, .int .i64 a.par, .string a.name, .string a.orig, .string a.sub, .string a.drv, .string a.ali, .int .i64 a.kind, .int .i64 a.num, .slice b n c]) rfl (by kernel_rfl) (by kernel_rfl) (by kernel_rfl) (fun _ _ _ h => h) (Or.inl ⟨by rfl, fun w hSw => by (try dsimp only at hSw); obtain ⟨d0, d1, d2, d3, d4, d5, d6, d7, d8, d9⟩ := hSw.1.cells; go_simp⟩) hHeld ?_
  try simp only [Act.put, List.setIfInBounds_toArray, List.set_cons_zero, List.set_cons_succ]
  refine wpAnyH_take (i := 2) (oi := { dst := some 22, op := Op.load 35 (Operand.tmp 4), type := 35, pos := "match.go:55", after := #[], guard := none }) (v := .agg #[.slice a0 l.length c0]) rfl (by kernel_rfl) (by kernel_rfl) (by kernel_rfl) (fun _ _ _ h => h) (Or.inl ⟨by rfl, fun w hSw => by (try dsimp only at hSw); have t0 := hSw.2.1; go_simp⟩) hHeld ?_
  try simp only [Act.put, List.setIfInBounds_toArray, List.set_cons_zero, List.set_cons_succ]
  refine wpAnyH_take (i := 3) (oi := { dst := some 23, op := Op.move (Operand.tmp 2), type := 3, pos := "match.go:55", after := #[], guard := none }) (v := .int .i64 q) rfl (by kernel_rfl) (by kernel_rfl) (by kernel_rfl) (fun _ _ _ h => h) (Or.inl ⟨by rfl, fun w hSw => by (try dsimp only at hSw); go_simp⟩) hHeld ?_
  try simp only [Act.put, List.setIfInBounds_toArray, List.set_cons_zero, List.set_cons_succ]
  refine wpAnyH_ready (rs := [1, 4]) (by kernel_rfl) (by simp) ?_
  refine AllReadyH.cons (o := { dst := some 21, op := Op.buildSlice 33 1 #[(0, Operand.tmp 20)], type := 33, pos := "match.go:55", after := #[{ on := 0, ground := Ground.data }], guard := none }) rfl (fun K hK => ?_) (AllReadyH.cons (o := { dst := some 24, op := Op.call { callee := Callee.value (Operand.func 42), args := #[Operand.tmp 22, Operand.tmp 23], argTypes := #[35, 3] }, type := 33, pos := "match.go:55", after := #[{ on := 2, ground := Ground.data }, { on := 3, ground := Ground.data }], guard := none }) rfl (fun K hK => ?_) AllReadyH.nil)
  · skip
    go_simp
    have hk6 : Kp [] w3.drew (w3.alloc (.cells #[.int .i64 a.idx, .int .i64 a.par, .string a.name, .string a.orig, .string a.sub, .string a.drv, .string a.ali, .int .i64 a.kind, .int .i64 a.num, .slice b n c] 26)).drew := (Kp.refl [] w3.drew).alloc (.cells #[.int .i64 a.idx, .int .i64 a.par, .string a.name, .string a.orig, .string a.sub, .string a.drv, .string a.ali, .int .i64 a.kind, .int .i64 a.num, .slice b n c] 26)
    have hg6 : (w3.alloc (.cells #[.int .i64 a.idx, .int .i64 a.par, .string a.name, .string a.orig, .string a.sub, .string a.drv, .string a.ali, .int .i64 a.kind, .int .i64 a.num, .slice b n c] 26)).drew.heap[w3.heap.size]? = some (.cells #[.int .i64 a.idx, .int .i64 a.par, .string a.name, .string a.orig, .string a.sub, .string a.drv, .string a.ali, .int .i64 a.kind, .int .i64 a.num, .slice b n c] 26 (0, 0)) := heap_alloc_last w3 (.cells #[.int .i64 a.idx, .int .i64 a.par, .string a.name, .string a.orig, .string a.sub, .string a.drv, .string a.ali, .int .i64 a.kind, .int .i64 a.num, .slice b n c] 26)
    generalize hw4 : (w3.alloc (.cells #[.int .i64 a.idx, .int .i64 a.par, .string a.name, .string a.orig, .string a.sub, .string a.drv, .string a.ali, .int .i64 a.kind, .int .i64 a.num, .slice b n c] 26)).drew = w4 at *
    have hH := (show DBox w4 Bd a b n c ∧ w4.cell? ⟨Bt + 1, 0, none⟩ = some (.slice a0 l.length c0) ∧ Kp [] w3 w4 from ⟨hHeld.1.kp0 hk6, cell_kp hk6 hHeld.2.1, hHeld.2.2.trans hk6⟩)
    have HG4 := Lib.hid (show w4.heap[w3.heap.size]? = some (.cells #[.int .i64 a.idx, .int .i64 a.par, .string a.name, .string a.orig, .string a.sub, .string a.drv, .string a.ali, .int .i64 a.kind, .int .i64 a.num, .slice b n c] 26 (0, 0)) from hg6)
    clear hHeld hk6 hg6
    refine hK.out _ _ hH (fun hHeld => ?_)
    try simp only [Act.put, List.setIfInBounds_toArray, List.set_cons_zero, List.set_cons_succ]
    clear hK
    refine wpAnyH_ready (rs := [4]) (by kernel_rfl) (by simp) ?_
    refine AllReadyH.cons (o := { dst := some 24, op := Op.call { callee := Callee.value (Operand.func 42), args := #[Operand.tmp 22, Operand.tmp 23], argTypes := #[35, 3] }, type := 33, pos := "match.go:55", after := #[{ on := 2, ground := Ground.data }, { on := 3, ground := Ground.data }], guard := none }) rfl (fun K hK => ?_) AllReadyH.nil
    go_simp
    go_at_call 42
    refine Calls.mono (by with_reducible exact HAN.out _ hHeld.2.2) ?_
    rintro e w5 ⟨u, L, rfl, hL, hD, hfr, hb⟩
    dsimp only
    have hk := Kp.of_bel hb
    have hH := (show DBox w5 Bd a b n c ∧ w5.cell? ⟨Bt + 1, 0, none⟩ = some (.slice a0 l.length c0) ∧ Kp [] w3 w5 from ⟨hHeld.1.kp0 hk, cell_kp hk hHeld.2.1, hHeld.2.2.trans hk⟩)
    have HG5 := Lib.hid ((hk.block _ (block_lt HG4.out) (by simp)).trans HG4.out)
    have HL := Lib.hid hL
    have HD := Lib.hid hD
    have HNe := Lib.hid (show ∀ x ∈ L, x.1.ats ≠ [] → x.2.ownBlock ≠ some w3.heap.size from fun x hx hne e => absurd (Nat.lt_of_lt_of_le (block_lt HG4.out) (hfr x hx hne _ e)) (Nat.lt_irrefl _))
    have HGe := Lib.hid (Nat.le_refl w3.heap.size)
    clear hL hD hb hk hfr
    clear hHeld
    refine hK.out _ _ hH (fun hHeld => ?_)
    try simp only [Act.put, List.setIfInBounds_toArray, List.set_cons_zero, List.set_cons_succ]
    clear hK
    refine wpAnyH_ready (rs := [5]) (by kernel_rfl) (by simp) ?_
    refine AllReadyH.cons (o := { dst := some 25, op := Op.call { callee := Callee.builtin Builtin.append, args := #[Operand.tmp 21, Operand.tmp 24], argTypes := #[33, 33] }, type := 33, pos := "match.go:55", after := #[{ on := 1, ground := Ground.data }, { on := 4, ground := Ground.data }, { on := 4, ground := Ground.chain }], guard := none }) rfl (fun K hK => ?_) AllReadyH.nil
    obtain ⟨v6, w6, hrun, how, hgr⟩ := run_append_dv (x := (a, .slice b n c)) HG5.out rfl HD.out (by rw [← List.length_map (f := (·.1)), HL.out, List.length_map]; exact HLn.out)
    have HR := Lib.hid hrun
    have HOw := Lib.hid how
    have HGr := Lib.hid hgr
    have hk56 : Kp [] w3 w6 := hHeld.2.2.up (Kp.of_grown hgr) (fun x hx => by simp at hx; subst hx; exact .inr HGe.out)
    have hH := (show DBox w6 Bd a b n c ∧ w6.cell? ⟨Bt + 1, 0, none⟩ = some (.slice a0 l.length c0) ∧ Kp [] w3 w6 from ⟨HBX.out.kp0 hk56, cell_kp hk56 HTR.out, hk56⟩)
    have HK6 := Lib.hid hk56
    clear how hgr hrun hk56
    refine step_append_run rfl _ _ rfl _ _ _ rfl rfl HR.out ?_
    clear hHeld
    refine hK.out _ _ hH (fun hHeld => ?_)
    try simp only [Act.put, List.setIfInBounds_toArray, List.set_cons_zero, List.set_cons_succ]
    clear hK
    refine wpAnyH_ready (rs := [6]) (by kernel_rfl) (by simp) ?_
    refine AllReadyH.cons (o := { dst := some 10, op := Op.assign (Operand.tmp 25), type := 33, pos := "match.go:55", after := #[{ on := 5, ground := Ground.data }, { on := 5, ground := Ground.chain }, { on := 0, ground := Ground.phase }, { on := 1, ground := Ground.phase }, { on := 2, ground := Ground.phase }, { on := 3, ground := Ground.phase }, { on := 4, ground := Ground.phase }, { on := 5, ground := Ground.phase }], guard := none }) rfl (fun K hK => ?_) AllReadyH.nil
    have HF := Lib.hid hHeld
    go_simp
    clear hHeld
    refine hK.out _ _ HF.out (fun hHeld => ?_)
    try simp only [Act.put, List.setIfInBounds_toArray, List.set_cons_zero, List.set_cons_succ]
    clear hK
    refine wpAnyH_done (by kernel_rfl) ?_ _
    clear hHeld
    have HTm := Lib.hid (cell_kp (HK3.out.trans HK6.out) HT0.out)
    have hHas6 : De.DHas w6 v6 ((a, .slice b n c) :: L) := by
      refine De.DOwn.has (B := w3.heap.size) ⟨?_, fun x hx => ?_⟩
      · have := HOw.out
        rw [Nat.add_comm] at this
        exact this
      · rcases List.mem_cons.1 hx with rfl | hx
        · exact (HBX.out.kp0 HK6.out).2
        · exact (dh_ats HD.out x hx).other HGr.out.size (g := w3.heap.size) (fun hne e => HNe.out x hx hne e) (fun b' hb' hne => HGr.out.block b' hb' (by intro e; cases e; exact hne rfl))
    have hlen : ((a, Value.slice b n c) :: L).length ≤ 1000000 := by
      have h1 : L.length = (De.ancOf l q).length := by rw [← List.length_map (f := (·.1)), HL.out, List.length_map]
      have := HLn.out
      simp only [List.length_cons]
      omega
    have hsm : ∀ x ∈ (a, Value.slice b n c) :: L, SmA x.1 := fun x hx => by
      rcases List.mem_cons.1 hx with rfl | hx
      · exact HSA.out
      · have : x.1 ∈ (De.ancOf l q).map (·.1) := by rw [← HL.out]; exact List.mem_map_of_mem hx
        obtain ⟨y, hy, he⟩ := List.mem_map.1 this
        rw [← he]
        exact HSmW.out y hy
    have HI := Lib.hid (indexD_any lt ad cp Bt ((a, .slice b n c) :: L) v6 w6 hlt hsl hlen hsm (HV.out.kp0 (HK3.out.trans HK6.out)) HTm.out hHas6)
    have HHas := Lib.hid hHas6
    have hway : wayA l q = some (((a, Value.slice b n c) :: L).map (·.1)) := by rw [HOW.out, List.map_cons, HL.out]
    have hE1 : ancE lt l q = match (((a, Value.slice b n c) :: L).find? fun x => holdA lt x.1).map (·.1) with
        | none => (0, false)
        | some a => (a.idx, true) := by
      unfold ancE
      rw [hway]
      simp only [find_map]
    obtain ⟨X, hX⟩ : ∃ X, (a, Value.slice b n c) :: L = X := ⟨_, rfl⟩
    rw [hX] at hE1 HI HHas
    have HE1 := Lib.hid hE1
    clear hHas6 hlen hsm hway hE1 hX
    obtain ⟨v6a, v6c, hv6, hv6r⟩ := HHas.out.form
    subst hv6
    cases hix : X.findIdx? (fun x => holdA lt x.1) with
    | none =>
      have hi : idxR lt X = -1 := by unfold idxR; rw [hix]
      rw [hi] at HI
      have HE := Lib.hid (show ancE lt l q = (0, false) by rw [HE1.out, find_no_idx hix]; rfl)
      clear hi hix hv6r
      go_wp2_with (go_at_call 43; refine Calls.mono (by with_reducible exact HI.out) ?_; rintro e w7 ⟨rfl, hk7⟩)
      go_ret2
      exact ⟨by rw [HE.out] <;> rfl, HK.out.trans (HK3.out.trans (HK6.out.trans hk7))⟩
    | some i =>
      have hi : idxR lt X = (i : Int) := by unfold idxR; rw [hix]
      rw [hi] at HI
      obtain ⟨⟨y, yv⟩, hy, hfy⟩ := find_of_idx hix
      have HE := Lib.hid (show ancE lt l q = (y.idx, true) by rw [HE1.out, hfy]; rfl)
      have hiX := (List.getElem?_eq_some_iff.1 hy).1
      obtain ⟨g, o, rfl, hcap, hg, hr⟩ := hv6r (by rintro rfl; simp at hy)
      have hc7 := hr.at_ i _ hy 0 _ rfl
      have HC7 := Lib.hid (show ∀ W, Kp [] w6 W → W.cell? ⟨g, o + i * 10, none⟩ = some (.int .i64 y.idx) from fun W hk => cell_kp hk (by simpa using hc7))
      have hin : ¬ ((i : Int) < 0) := by omega
      have hi2 : (i : Int) < (X.length : Int) := by omega
      clear hi hix hy hfy hr hc7
      go_wp2_with (go_at_call 43; refine Calls.mono (by with_reducible exact HI.out) ?_; rintro e w7 ⟨rfl, hk7⟩; have e7 := HC7.out _ hk7)
      go_ret2
      exact ⟨by rw [HE.out] <;> rfl, HK.out.trans (HK3.out.trans (HK6.out.trans hk7))⟩
  · skip
    go_simp
    go_at_call 42
    refine Calls.mono (by with_reducible exact HAN.out _ hHeld.2.2) ?_
    rintro e w5 ⟨u, L, rfl, hL, hD, hfr, hb⟩
    dsimp only
    have hk := Kp.of_bel hb
    have hH := (show DBox w5 Bd a b n c ∧ w5.cell? ⟨Bt + 1, 0, none⟩ = some (.slice a0 l.length c0) ∧ Kp [] w3 w5 from ⟨hHeld.1.kp0 hk, cell_kp hk hHeld.2.1, hHeld.2.2.trans hk⟩)
    have HL := Lib.hid hL
    have HD5 := Lib.hid hD
    clear hL hD hb hk hfr
    clear hHeld
    refine hK.out _ _ hH (fun hHeld => ?_)
    try simp only [Act.put, List.setIfInBounds_toArray, List.set_cons_zero, List.set_cons_succ]
    clear hK
    refine wpAnyH_ready (rs := [1]) (by kernel_rfl) (by simp) ?_
    refine AllReadyH.cons (o := { dst := some 21, op := Op.buildSlice 33 1 #[(0, Operand.tmp 20)], type := 33, pos := "match.go:55", after := #[{ on := 0, ground := Ground.data }], guard := none }) rfl (fun K hK => ?_) AllReadyH.nil
    go_simp
    have hk6 := (Kp.refl [] w5).alloc (.cells #[.int .i64 a.idx, .int .i64 a.par, .string a.name, .string a.orig, .string a.sub, .string a.drv, .string a.ali, .int .i64 a.kind, .int .i64 a.num, .slice b n c] 26)
    have hg6 := heap_alloc_last w5 (.cells #[.int .i64 a.idx, .int .i64 a.par, .string a.name, .string a.orig, .string a.sub, .string a.drv, .string a.ali, .int .i64 a.kind, .int .i64 a.num, .slice b n c] 26)
    generalize hw4 : w5.alloc (.cells #[.int .i64 a.idx, .int .i64 a.par, .string a.name, .string a.orig, .string a.sub, .string a.drv, .string a.ali, .int .i64 a.kind, .int .i64 a.num, .slice b n c] 26) = w4 at *
    have hH := (show DBox w4 Bd a b n c ∧ w4.cell? ⟨Bt + 1, 0, none⟩ = some (.slice a0 l.length c0) ∧ Kp [] w3 w4 from ⟨hHeld.1.kp0 hk6, cell_kp hk6 hHeld.2.1, hHeld.2.2.trans hk6⟩)
    have HG5 := Lib.hid hg6
    have HD := Lib.hid (HD5.out.below hk6.bel)
    have HGe := Lib.hid hHeld.2.2.size
    have HNe := Lib.hid (show ∀ x ∈ L, x.1.ats ≠ [] → x.2.ownBlock ≠ some w5.heap.size from fun x hx hne e => absurd ((dh_ats HD5.out x hx).lt hne _ e) (Nat.lt_irrefl _))
    clear hHeld hk6 hg6
    refine hK.out _ _ hH (fun hHeld => ?_)
    try simp only [Act.put, List.setIfInBounds_toArray, List.set_cons_zero, List.set_cons_succ]
    clear hK
    refine wpAnyH_ready (rs := [5]) (by kernel_rfl) (by simp) ?_
    refine AllReadyH.cons (o := { dst := some 25, op := Op.call { callee := Callee.builtin Builtin.append, args := #[Operand.tmp 21, Operand.tmp 24], argTypes := #[33, 33] }, type := 33, pos := "match.go:55", after := #[{ on := 1, ground := Ground.data }, { on := 4, ground := Ground.data }, { on := 4, ground := Ground.chain }], guard := none }) rfl (fun K hK => ?_) AllReadyH.nil
    obtain ⟨v6, w6, hrun, how, hgr⟩ := run_append_dv (x := (a, .slice b n c)) HG5.out rfl HD.out (by rw [← List.length_map (f := (·.1)), HL.out, List.length_map]; exact HLn.out)
    have HR := Lib.hid hrun
    have HOw := Lib.hid how
    have HGr := Lib.hid hgr
    have hk56 : Kp [] w3 w6 := hHeld.2.2.up (Kp.of_grown hgr) (fun x hx => by simp at hx; subst hx; exact .inr HGe.out)
    have hH := (show DBox w6 Bd a b n c ∧ w6.cell? ⟨Bt + 1, 0, none⟩ = some (.slice a0 l.length c0) ∧ Kp [] w3 w6 from ⟨HBX.out.kp0 hk56, cell_kp hk56 HTR.out, hk56⟩)
    have HK6 := Lib.hid hk56
    clear how hgr hrun hk56
    refine step_append_run rfl _ _ rfl _ _ _ rfl rfl HR.out ?_
    clear hHeld
    refine hK.out _ _ hH (fun hHeld => ?_)
    try simp only [Act.put, List.setIfInBounds_toArray, List.set_cons_zero, List.set_cons_succ]
    clear hK
    refine wpAnyH_ready (rs := [6]) (by kernel_rfl) (by simp) ?_
    refine AllReadyH.cons (o := { dst := some 10, op := Op.assign (Operand.tmp 25), type := 33, pos := "match.go:55", after := #[{ on := 5, ground := Ground.data }, { on := 5, ground := Ground.chain }, { on := 0, ground := Ground.phase }, { on := 1, ground := Ground.phase }, { on := 2, ground := Ground.phase }, { on := 3, ground := Ground.phase }, { on := 4, ground := Ground.phase }, { on := 5, ground := Ground.phase }], guard := none }) rfl (fun K hK => ?_) AllReadyH.nil
    have HF := Lib.hid hHeld
    go_simp
    clear hHeld
    refine hK.out _ _ HF.out (fun hHeld => ?_)
    try simp only [Act.put, List.setIfInBounds_toArray, List.set_cons_zero, List.set_cons_succ]
    clear hK
    refine wpAnyH_done (by kernel_rfl) ?_ _
    clear hHeld
    have HTm := Lib.hid (cell_kp (HK3.out.trans HK6.out) HT0.out)
    have hHas6 : De.DHas w6 v6 ((a, .slice b n c) :: L) := by
      refine De.DOwn.has (B := w5.heap.size) ⟨?_, fun x hx => ?_⟩
      · have := HOw.out
        rw [Nat.add_comm] at this
        exact this
      · rcases List.mem_cons.1 hx with rfl | hx
        · exact (HBX.out.kp0 HK6.out).2
        · exact (dh_ats HD.out x hx).other HGr.out.size (g := w5.heap.size) (fun hne e => HNe.out x hx hne e) (fun b' hb' hne => HGr.out.block b' hb' (by intro e; cases e; exact hne rfl))
    have hlen : ((a, Value.slice b n c) :: L).length ≤ 1000000 := by
      have h1 : L.length = (De.ancOf l q).length := by rw [← List.length_map (f := (·.1)), HL.out, List.length_map]
      have := HLn.out
      simp only [List.length_cons]
      omega
    have hsm : ∀ x ∈ (a, Value.slice b n c) :: L, SmA x.1 := fun x hx => by
      rcases List.mem_cons.1 hx with rfl | hx
      · exact HSA.out
      · have : x.1 ∈ (De.ancOf l q).map (·.1) := by rw [← HL.out]; exact List.mem_map_of_mem hx
        obtain ⟨y, hy, he⟩ := List.mem_map.1 this
        rw [← he]
        exact HSmW.out y hy
    have HI := Lib.hid (indexD_any lt ad cp Bt ((a, .slice b n c) :: L) v6 w6 hlt hsl hlen hsm (HV.out.kp0 (HK3.out.trans HK6.out)) HTm.out hHas6)
    have HHas := Lib.hid hHas6
    have hway : wayA l q = some (((a, Value.slice b n c) :: L).map (·.1)) := by rw [HOW.out, List.map_cons, HL.out]
    have hE1 : ancE lt l q = match (((a, Value.slice b n c) :: L).find? fun x => holdA lt x.1).map (·.1) with
        | none => (0, false)
        | some a => (a.idx, true) := by
      unfold ancE
      rw [hway]
      simp only [find_map]
    obtain ⟨X, hX⟩ : ∃ X, (a, Value.slice b n c) :: L = X := ⟨_, rfl⟩
    rw [hX] at hE1 HI HHas
    have HE1 := Lib.hid hE1
    clear hHas6 hlen hsm hway hE1 hX
    obtain ⟨v6a, v6c, hv6, hv6r⟩ := HHas.out.form
    subst hv6
    cases hix : X.findIdx? (fun x => holdA lt x.1) with
    | none =>
      have hi : idxR lt X = -1 := by unfold idxR; rw [hix]
      rw [hi] at HI
      have HE := Lib.hid (show ancE lt l q = (0, false) by rw [HE1.out, find_no_idx hix]; rfl)
      clear hi hix hv6r
      go_wp2_with (go_at_call 43; refine Calls.mono (by with_reducible exact HI.out) ?_; rintro e w7 ⟨rfl, hk7⟩)
      go_ret2
      exact ⟨by rw [HE.out] <;> rfl, HK.out.trans (HK3.out.trans (HK6.out.trans hk7))⟩
    | some i =>
      have hi : idxR lt X = (i : Int) := by unfold idxR; rw [hix]
      rw [hi] at HI
      obtain ⟨⟨y, yv⟩, hy, hfy⟩ := find_of_idx hix
      have HE := Lib.hid (show ancE lt l q = (y.idx, true) by rw [HE1.out, hfy]; rfl)
      have hiX := (List.getElem?_eq_some_iff.1 hy).1
      obtain ⟨g, o, rfl, hcap, hg, hr⟩ := hv6r (by rintro rfl; simp at hy)
      have hc7 := hr.at_ i _ hy 0 _ rfl
      have HC7 := Lib.hid (show ∀ W, Kp [] w6 W → W.cell? ⟨g, o + i * 10, none⟩ = some (.int .i64 y.idx) from fun W hk => cell_kp hk (by simpa using hc7))
      have hin : ¬ ((i : Int) < 0) := by omega
      have hi2 : (i : Int) < (X.length : Int) := by omega
      clear hi hix hy hfy hr hc7
      go_wp2_with (go_at_call 43; refine Calls.mono (by with_reducible exact HI.out) ?_; rintro e w7 ⟨rfl, hk7⟩; have e7 := HC7.out _ hk7)
      go_ret2
      exact ⟨by rw [HE.out] <;> rfl, HK.out.trans (HK3.out.trans (HK6.out.trans hk7))⟩
end Go.Proofs.Ythblgkjmjfhkdaa
