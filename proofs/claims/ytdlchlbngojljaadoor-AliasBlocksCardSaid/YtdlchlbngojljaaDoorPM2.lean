/- A pattern goes into the index. -/
import Derived.Test.YtdlchlbngojljaaDoorPM1
import Derived.Maps.AppendAt
import Derived.Deep.RegionHeld
import Derived.Deep.RegionHeld3
namespace Go.Proofs.YtdlchlbngojljaaDoor
open Go.RowKit Go.Maps
theorem block_lt2 {w w' : World} {X : Nat} (h : w.heap[X]? = w'.heap[X]?) (hX : X < w'.heap.size) : X < w.heap.size := by
 rw [Array.getElem?_eq_getElem hX] at h
 exact (Array.getElem?_eq_some_iff.1 h).1
/-- What changes: the block M, the blocks from B on. -/
structure Fr (B M : Nat) (w w' : World) : Prop where
 os : w'.os = w.os
 tape : w'.tape = w.tape
 output : w'.output = w.output
 size : w.heap.size ≤ w'.heap.size
 block : ∀ k, k < B → k < w.heap.size → k ≠ M → w'.heap[k]? = w.heap[k]?
section
variable {B M : Nat} {a b c : World}
theorem Fr.refl (B M : Nat) (w : World) : Fr B M w w := ⟨rfl, rfl, rfl, Nat.le_refl _, fun _ _ _ _ => rfl⟩
theorem Fr.trans (h : Fr B M a b) (g : Fr B M b c) : Fr B M a c := ⟨g.os.trans h.os, g.tape.trans h.tape, g.output.trans h.output, Nat.le_trans h.size g.size, fun k hk hl hn => (g.block k hk (Nat.lt_of_lt_of_le hl h.size) hn).trans (h.block k hk hl hn)⟩
theorem Kp.fr {s : List Nat} (h : Kp s a b) (hs : ∀ x ∈ s, B ≤ x ∨ x = M) : Fr B M a b := ⟨h.os, h.tape, h.output, h.size, fun k hk hl hn => h.block k hl fun e => by rcases hs k e with q | q; omega; exact hn q⟩
theorem Fr.drew (h : Fr B M a b) (n : Nat) : Fr B M a (b.drewN n) := ⟨h.os, h.tape, h.output, h.size, h.block⟩
theorem Fr.step0 (h : Fr B M a b) (g : Kp [] b c) : Fr B M a c := h.trans (g.fr (by simp))
theorem Fr.stepOwn (h : Fr B M a b) {r : Option Nat} (g : b.grownBy c r) (hr : ∀ x, r = some x → B ≤ x) : Fr B M a c :=
 h.trans ⟨g.os, g.tape, g.output, g.size, fun k hk hl _ => g.block k hl fun e => by have := hr k e.symm; omega⟩
theorem Fr.stepM (h : Fr B M a b) (g : b.grownBy c (some M)) : Fr B M a c :=
 h.trans ⟨g.os, g.tape, g.output, g.size, fun k _ hl hn => g.block k hl fun e => hn (Option.some.inj e)⟩
end
theorem IxM.offX {w : World} {B M N : Nat} {f : Tx → Hd} {D : DataW Unit} {E : List (Tx × Tx × Tx)} (h : IxM w B M N f D E) {b : Tx} {X : Nat} (hX : X < B) : some X ≠ (hdV (f b)).ownBlock := fun e => by
 have := ((h.row b).ge X e.symm).1
 omega
theorem IxM.offM {w : World} {B M N : Nat} {f : Tx → Hd} {D : DataW Unit} {E : List (Tx × Tx × Tx)} (h : IxM w B M N f D E) (b : Tx) : some M ≠ (hdV (f b)).ownBlock := fun e => by
 rw [hdV_own] at e
 exact h.ne b M e.symm rfl
theorem own_hd {w : World} {B : Nat} {v : Value} {l : List (Tx × Tx)} (h : enT.Own w B v l) : ∃ hd, v = hdV hd := by
 rcases h.form2 with ⟨rfl, _⟩ | ⟨g, cap, rfl, _⟩
 ·exact ⟨none, rfl⟩
 ·exact ⟨some (g, l.length, cap), rfl⟩
theorem append_en {w : World} {base b : Nat} {v : Value} {xs : List (Tx × Tx)} (x : Tx × Tx) (ty : TypeId) (hown : enT.Own w base v xs) (hcell : w.heap[b]? = some (.cells #[.string (bs x.1), .string (bs x.2)] 65 (0, 0))) (hb1 : xs.length ≤ 1000000) (hb : base ≤ w.heap.size) :
  ∃ v' w', (Builtin.append_ #[63, 63] ty #[v, .slice (some ⟨b, 0, none⟩) 1 1]).run Tryd.prog w = .ok v' w' ∧ enT.Own w' base v' (xs ++ [x]) ∧ w.grownBy w' v.ownBlock ∧ (v'.ownBlock = v.ownBlock ∨ ∃ g, v'.ownBlock = some g ∧ w.heap.size ≤ g) := by
 obtain ⟨i0, hi0, hz0, hz1, hz2⟩ := info_parts enT.info
 obtain ⟨v', w', h1, h2, h3, _, h5⟩ := run_append_own_at (P := Tryd.prog) w base 63 ty 65 i0 _ 2 32 enT.und hi0 hz0 hz1 hz2 enT.zs enT.pos v xs.length (enT.cells xs) hown ⟨b, 0, none⟩ 1 1 (enT.cells [x])
  (enT.cells_len [x]) (fun j u hj => by
   rw [add_addr, cell_of_row _ _ _ _ _ _ hcell]
   have e : enT.cells [x] = [.string (bs x.1), .string (bs x.2)] := rfl
   rw [e] at hj
   rw [Nat.zero_add, List.getElem?_toArray]
   exact hj) (enT.cells_one [x]) (by unfold maxLen; omega) (by omega) hb
 refine ⟨v', w', h1, ?_, h3, ?_⟩
 ·unfold RT.Own
  rw [List.length_append, RT.cells_append]
  exact h2
 ·rcases h5 with h5 | h5
  ·exact .inl h5
  ·exact .inr ⟨_, h5, Nat.le_refl _⟩
theorem step_append_run {ops : Array Oper} {o : Oper} {a : Act} {w w' : World} {K : Act → World → Prop} {Q : Exit → Act → World → Prop} {E : Prop} (hg : o.guard = none) (sl : TypeId) (s y : Operand)
  (hop : o.op = Op.call { callee := Callee.builtin Builtin.append, args := #[s, y], argTypes := #[sl, sl] }) (v yv v' : Value) (hs : a.eval s = v) (hx : a.eval y = yv)
  (h1 : (Builtin.append_ #[sl, sl] o.type #[v, yv]).run Tryd.prog w = .ok v' w') (hK : K (a.put o.dst v') w') :
  if Region.wanted o (yielded ops a.tmps) = true then Oper.wp Tryd.prog o a w K Q else E := by
 have hw : Region.wanted o (yielded ops a.tmps) = true := by simp [Region.wanted, hg]
 rw [if_pos hw]
 unfold Oper.wp
 simp [execOp, hop, resolve, invoke, builtin, hs, hx, h1, Result.andThen]
 exact hK
theorem step_map_run {ops : Array Oper} {o : Oper} {a : Act} {w w' : World} {K : Act → World → Prop} {Q : Exit → Act → World → Prop} {E : Prop} (hg : o.guard = none) (t : TypeId) (m x v : Operand)
  (hop : o.op = Op.mapUpdate t m x v) (mv kv vv : Value) (hm : a.eval m = mv) (hx : a.eval x = kv) (hv : a.eval v = vv)
  (h1 : (Instr.mapUpdate t mv kv vv).run Tryd.prog w = .ok () w') (hK : K (a.put o.dst undef) w') :
  if Region.wanted o (yielded ops a.tmps) = true then Oper.wp Tryd.prog o a w K Q else E := by
 have hw : Region.wanted o (yielded ops a.tmps) = true := by simp [Region.wanted, hg]
 rw [if_pos hw]
 unfold Oper.wp
 simp [execOp, hop, hm, hx, hv, h1, Result.andThen]
 exact hK
theorem loc_ne {o o' : Option Nat} {c n : Nat} (h : o = o' ∨ ∃ g, o = some g ∧ n ≤ g) (h1 : o' ≠ some c) (h2 : c < n) : o ≠ some c := fun e => by
 rcases h with q | ⟨g, q, hg⟩
 ·exact h1 (q ▸ e)
 ·rw [q] at e
  cases e
  omega
theorem hd_ne {f : Tx → Hd} {b : Tx} {h9 : Hd} {c : Nat} (h1 : hdB h9 ≠ some c) (h2 : ∀ s, hdB (f s) ≠ some c) (s : Tx) : hdB (if s = b then h9 else f s) ≠ some c := by
 by_cases e : s = b
 ·rw [if_pos e]; exact h1
 ·rw [if_neg e]; exact h2 s
/-- What the contract of Prefix gives. -/
def PfxC (pre : Tx → Option Tx) (er : Tx → Int) (w : World) (p : Tx) : Prop := Calls Tryd.prog 39 #[.string (bs p)] w fun e w' => e = .returned (.tuple #[.string (bs ((pre p).getD [])), .int .i64 (er p)]) ∧ Kp [] w w'
theorem ents_take {pre : Tx → Option Tx} {l : List Tx} {i : Nat} {x : Tx} (n : Tx) (hx : l[i]? = some x) : (l.take (i + 1)).flatMap (fun p => entP pre p n) = (l.take i).flatMap (fun p => entP pre p n) ++ entP pre x n := by
 rw [List.take_add_one, hx, List.flatMap_append]
 simp
/-- The index behind add. -/
def AddPost (pre : Tx → Option Tx) (w : World) (B X M K : Nat) (E : List (Tx × Tx × Tx)) (nm : Tx) (ps : List Tx) (e : Ending) (w' : World) : Prop := e = .returned (.tuple #[]) ∧ Fr B M w w' ∧ w'.heap[X]? = w.heap[X]? ∧ ∃ f D, IxM w' B M (K + ps.length) f D (E ++ ps.flatMap fun p => entP pre p nm)
theorem IxM.ltX {w : World} {B M N : Nat} {f : Tx → Hd} {D : DataW Unit} {E : List (Tx × Tx × Tx)} (h : IxM w B M N f D E) : M < w.heap.size := h.lt
theorem IxM.more {w : World} {B M N : Nat} {f : Tx → Hd} {D : DataW Unit} {E : List (Tx × Tx × Tx)} (h : IxM w B M N f D E) : IxM w B M (N + 1) f D E := ⟨h.own.mono (Nat.le_succ N), h.val, h.row, h.ne, h.apart⟩
theorem atK_len (E : List (Tx × Tx × Tx)) (s : Tx) : (atK E s).length ≤ E.length := by
 unfold atK
 rw [List.length_map]
 exact List.length_filter_le _ _
theorem entP_len (pre : Tx → Option Tx) (p n : Tx) : (entP pre p n).length ≤ 1 := by
 unfold entP; split <;> simp
theorem ents_len (pre : Tx → Option Tx) (n : Tx) : ∀ l : List Tx, (l.flatMap fun p => entP pre p n).length ≤ l.length
 | [] => by simp
 | x :: l => by
  have := ents_len pre n l
  have := entP_len pre x n
  rw [List.flatMap_cons, List.length_append, List.length_cons]
  omega
set_option maxHeartbeats 4000000 in
set_option maxRecDepth 100000 in
theorem add_any {pre : Tx → Option Tx} {er : Tx → Int} (her : ∀ p, (er p == 0) = (pre p).isSome) (hpl : ∀ p b, pre p = some b → b.length ≤ 1000000) {w : World} {B X M K : Nat} {f : Tx → Hd} {D : DataW Unit} {E : List (Tx × Tx × Tx)} {u : Value} {ps : List Tx} (nm : Tx) {C : Nat}
  (hB : B ≤ w.heap.size) (hXB : X < B) (hXM : X ≠ M) (hX : w.heap[X]? = some (.cells #[.map (some M)] 57 (0, 0))) (hI : IxM w B M K f D E) (hK : K ≤ 100000) (hE : E.length ≤ 100000)
  (hu : stT.HasB C w u ps) (hul : ps.length ≤ 1000) (huo : 0 < ps.length → ∀ b, u.ownBlock = some b → b ≠ M ∧ ∀ s, hdB (f s) ≠ some b)
  (hP : ∀ p ∈ ps, ∀ W, Fr B M w W → PfxC pre er W p) :
  Calls Tryd.prog 24 #[.pointer (some ⟨X, 0, none⟩), .string (bs nm), u] w (AddPost pre w B X M K E nm ps) := by
 obtain ⟨ua, uc, rfl, hur⟩ := hu.form
 unfold AddPost
 obtain ⟨L, hL⟩ : ∃ L, ps.length = L := ⟨_, rfl⟩
 rw [hL] at hul huo ⊢
 have HA := Lib.hid hur
 have HO := Lib.hid huo
 have HL := Lib.hid hL
 have HPx := Lib.hid hP
 have HX := Lib.hid hX
 have HB := Lib.hid hB
 have HXB := Lib.hid hXB
 have HXM := Lib.hid hXM
 have HXl := Lib.hid (show X < w.heap.size from block_lt hX)
 have HI := Lib.hid hI
 have HE := Lib.hid hE
 have HK := Lib.hid hK
 have HEr := Lib.hid her
 have HPl := Lib.hid hpl
 clear hur hu hL huo hP hX hB hXB hXM hI hE hK her hpl
 go_enter Tryd.func24, Tryd.ntmps24
 go_wp2
 go_loopw [12] (fun s12 wx => ∃ (i : Nat) (f' : Tx → Hd) (D' : DataW Unit), i ≤ L ∧ s12 = .int .i64 (i : Int) ∧ Hid (IxM wx B M (K + i) f' D' (E ++ (ps.take i).flatMap fun p => entP pre p nm)) ∧ Hid (Fr B M w wx) ∧ Hid (wx.heap[X]? = w.heap[X]?) ∧ Hid (∀ b o, ua = some ⟨b, o, none⟩ → b < w.heap.size → 0 < L → wx.heap[b]? = w.heap[b]? ∧ b ≠ M ∧ ∀ s, hdB (f' s) ≠ some b)) (fun s12 _ => L - (intOf s12).toNat)
 case atStart => exact ⟨0, f, D, by omega, rfl, Lib.hid (by simpa using HI.out), Lib.hid (Fr.refl B M w), Lib.hid rfl, Lib.hid fun b o e _ hL => ⟨rfl, HO.out hL b (by rw [e]; rfl)⟩⟩
 case round =>
  obtain ⟨i, f', D', hi, rfl, hI', hF, hX', hR⟩ := hrel
  by_cases hlt : i < L
  ·have hiz : (i : Int) < (L : Int) := by omega
   obtain ⟨p, hp⟩ : ∃ p, ps[i]? = some p := ⟨_, List.getElem?_eq_getElem (by rw [HL.out]; exact hlt)⟩
   obtain ⟨g, o, rfl, hgl, _, hr⟩ := HA.out (fun e => by rw [e] at hp; simp at hp)
   have hr0 := hR.out g o rfl hgl (by omega)
   have hr2 : stT.Row wr g o ps := hr.keep hr0.1
   have h1 := st_cell hr2 hp
   have HPc := Lib.hid (HPx.out p (List.mem_of_getElem? hp) wr hF.out)
   have Htk := Lib.hid (ents_take (pre := pre) nm hp)
   have HElen := Lib.hid (ents_len pre nm (ps.take i))
   have hpe := HEr.out p
   have Hpl := Lib.hid (HPl.out p)
   unfold PfxC at HPc
   clear hr hr2 hp
   cases hpp : pre p with
   | none =>
    rw [hpp] at hpe HPc
    have hz : (er p == 0) = false := hpe
    have Hen := Lib.hid (show entP pre p nm = [] by unfold entP; rw [hpp])
    clear hpp hpe
    go_wp2_with fail
    refine Calls.mono (by with_reducible exact HPc.out) ?_
    rintro e w3 ⟨rfl, hk3⟩
    have HK3 := Lib.hid hk3
    clear hk3
    go_wp2
    refine ⟨⟨i + 1, f', D', by omega, by go_num, Lib.hid ?_, Lib.hid (hF.out.step0 HK3.out), Lib.hid ((HK3.out.block X (Nat.lt_of_lt_of_le HXl.out hF.out.size) (by simp)).trans hX'.out), Lib.hid fun b o' e hb hL => ⟨(HK3.out.block b (Nat.lt_of_lt_of_le hb hF.out.size) (by simp)).trans (hR.out b o' e hb hL).1, (hR.out b o' e hb hL).2⟩⟩, by simp [intOf]; omega⟩
    rw [Htk.out, Hen.out, List.append_nil]
    exact (hI'.out.kp HK3.out (by simp) (by simp)).more
   | some b =>
    rw [hpp] at hpe HPc
    have hz : (er p == 0) = true := hpe
    have Hbl := Lib.hid (Hpl.out b hpp)
    have Hen := Lib.hid (show entP pre p nm = [(b, p, nm)] by unfold entP; rw [hpp])
    clear hpp hpe
    go_wp2_with fail
    refine Calls.mono (by with_reducible exact HPc.out) ?_
    rintro e w3 ⟨rfl, hk3⟩
    rw [Option.getD_some]
    have HI3 := Lib.hid (hI'.out.kp hk3 (by simp) (by simp))
    have HK3 := Lib.hid (hF.out.step0 hk3)
    have hX3 : w3.heap[X]? = w.heap[X]? := (hk3.block X (Nat.lt_of_lt_of_le HXl.out hF.out.size) (by simp)).trans hX'.out
    have HX3 := Lib.hid hX3
    have hXl0 := HXl.out
    clear HXl
    have HXl := Lib.hid (show X < w3.heap.size from Nat.lt_of_lt_of_le hXl0 HK3.out.size)
    have HXw := Lib.hid (show X < w.heap.size from hXl0)
    have HXc := Lib.hid (show ∀ W : World, W.heap[X]? = w3.heap[X]? → W.cell? ⟨X, 0, none⟩ = some (.map (some M)) from fun W hW => by
     have := hW.trans (hX3.trans HX.out)
     rw [cell_of_row _ _ _ _ _ _ this]; rfl)
    have HC3 := Lib.hid (show ∀ c, c < w.heap.size → wr.heap[c]? = w.heap[c]? → w3.heap[c]? = w.heap[c]? from fun c hc h => (hk3.block c (Nat.lt_of_lt_of_le hc hF.out.size) (by simp)).trans h)
    have HBd := Lib.hid (show B ≤ w3.heap.size from Nat.le_trans HB.out HK3.out.size)
    have HNl := Lib.hid (show K + i ≤ 200000 from by have := HK.out; omega)
    have HEl := Lib.hid (show (atK (E ++ (ps.take i).flatMap fun p => entP pre p nm) b).length ≤ 1000000 from by
     have h1 := atK_len (E ++ (ps.take i).flatMap fun p => entP pre p nm) b
     have h2 := HElen.out
     have h3 := HE.out
     rw [List.length_append] at h1
     rw [List.length_take] at h2
     omega)
    have hbl : b.length ≤ 1000000 := Hbl.out
    clear hk3 hX3 hXl0 h1
    go_wp2
    refine wp_region_held_drew (S := fun W => W.heap[X]? = w3.heap[X]?) (by kernel_rfl) rfl (fun hHeld => ?_)
    have HId := Lib.hid (show IxM w3.drew B M (K + i) f' D' (E ++ (ps.take i).flatMap fun p => entP pre p nm) from HI3.out.kp ((Kp.refl [] w3).drew 1) (by simp) (by simp))
    have HKd := Lib.hid (show Fr B M w w3.drew from HK3.out.drew 1)
    have HSd := Lib.hid (show w3.drew.heap.size = w3.heap.size from rfl)
    have HCd := Lib.hid (show ∀ c, c < w.heap.size → wr.heap[c]? = w.heap[c]? → w3.drew.heap[c]? = w.heap[c]? from HC3.out)
    generalize hwd : w3.drew = wd at *
    clear hwd
    refine wpAnyH_take (i := 0) (oi := ⟨some 23, .move (.tmp 0), 33, "entry.go:18", #[], none⟩) (v := .pointer (some ⟨X, 0, none⟩)) rfl (by kernel_rfl) (by kernel_rfl) (by kernel_rfl) (fun _ _ _ h => h) (Or.inl ⟨by rfl, fun w hSw => by (try dsimp only at hSw); go_simp⟩) hHeld ?_
    try simp only [Act.put, List.setIfInBounds_toArray, List.set_cons_zero, List.set_cons_succ]
    refine wpAnyH_take (i := 1) (oi := ⟨some 24, .nilCheck (.tmp 23), 0, "entry.go:18", #[⟨0, .data⟩], none⟩) (v := .pointer (some ⟨X, 0, none⟩)) rfl (by kernel_rfl) (by kernel_rfl) (by kernel_rfl) (fun _ _ _ h => h) (Or.inl ⟨by rfl, fun w hSw => by (try dsimp only at hSw); go_simp⟩) hHeld ?_
    try simp only [Act.put, List.setIfInBounds_toArray, List.set_cons_zero, List.set_cons_succ]
    refine wpAnyH_take (i := 2) (oi := ⟨some 25, .fieldAddr 57 (.tmp 24) 0, 0, "entry.go:18", #[⟨1, .data⟩], none⟩) (v := .pointer (some ⟨X, 0, none⟩)) rfl (by kernel_rfl) (by kernel_rfl) (by kernel_rfl) (fun _ _ _ h => h) (Or.inl ⟨by rfl, fun w hSw => by (try dsimp only at hSw); go_simp⟩) hHeld ?_
    try simp only [Act.put, List.setIfInBounds_toArray, List.set_cons_zero, List.set_cons_succ]
    refine wpAnyH_take (i := 3) (oi := ⟨some 26, .load 55 (.tmp 25), 55, "entry.go:18", #[⟨2, .data⟩], none⟩) (v := .map (some M)) rfl (by kernel_rfl) (by kernel_rfl) (by kernel_rfl) (fun _ _ _ h => h) (Or.inl ⟨by rfl, fun w hSw => by (try dsimp only at hSw); have t0 := HXc.out _ hSw; go_simp⟩) hHeld ?_
    try simp only [Act.put, List.setIfInBounds_toArray, List.set_cons_zero, List.set_cons_succ]
    refine wpAnyH_take (i := 4) (oi := ⟨some 27, .move (.tmp 8), 9, "entry.go:18", #[], none⟩) (v := .string (bs b)) rfl (by kernel_rfl) (by kernel_rfl) (by kernel_rfl) (fun _ _ _ h => h) (Or.inl ⟨by rfl, fun w hSw => by (try dsimp only at hSw); go_simp⟩) hHeld ?_
    try simp only [Act.put, List.setIfInBounds_toArray, List.set_cons_zero, List.set_cons_succ]
    refine wpAnyH_take (i := 5) (oi := ⟨some 28, .move (.tmp 0), 33, "entry.go:18", #[], none⟩) (v := .pointer (some ⟨X, 0, none⟩)) rfl (by kernel_rfl) (by kernel_rfl) (by kernel_rfl) (fun _ _ _ h => h) (Or.inl ⟨by rfl, fun w hSw => by (try dsimp only at hSw); go_simp⟩) hHeld ?_
    try simp only [Act.put, List.setIfInBounds_toArray, List.set_cons_zero, List.set_cons_succ]
    refine wpAnyH_take (i := 6) (oi := ⟨some 29, .nilCheck (.tmp 28), 0, "entry.go:18", #[⟨5, .data⟩], none⟩) (v := .pointer (some ⟨X, 0, none⟩)) rfl (by kernel_rfl) (by kernel_rfl) (by kernel_rfl) (fun _ _ _ h => h) (Or.inl ⟨by rfl, fun w hSw => by (try dsimp only at hSw); go_simp⟩) hHeld ?_
    try simp only [Act.put, List.setIfInBounds_toArray, List.set_cons_zero, List.set_cons_succ]
    refine wpAnyH_take (i := 7) (oi := ⟨some 30, .fieldAddr 57 (.tmp 29) 0, 0, "entry.go:18", #[⟨6, .data⟩], none⟩) (v := .pointer (some ⟨X, 0, none⟩)) rfl (by kernel_rfl) (by kernel_rfl) (by kernel_rfl) (fun _ _ _ h => h) (Or.inl ⟨by rfl, fun w hSw => by (try dsimp only at hSw); go_simp⟩) hHeld ?_
    try simp only [Act.put, List.setIfInBounds_toArray, List.set_cons_zero, List.set_cons_succ]
    refine wpAnyH_take (i := 8) (oi := ⟨some 31, .load 55 (.tmp 30), 55, "entry.go:18", #[⟨7, .data⟩], none⟩) (v := .map (some M)) rfl (by kernel_rfl) (by kernel_rfl) (by kernel_rfl) (fun _ _ _ h => h) (Or.inl ⟨by rfl, fun w hSw => by (try dsimp only at hSw); have t0 := HXc.out _ hSw; go_simp⟩) hHeld ?_
    try simp only [Act.put, List.setIfInBounds_toArray, List.set_cons_zero, List.set_cons_succ]
    refine wpAnyH_take (i := 9) (oi := ⟨some 32, .move (.tmp 8), 9, "entry.go:18", #[], none⟩) (v := .string (bs b)) rfl (by kernel_rfl) (by kernel_rfl) (by kernel_rfl) (fun _ _ _ h => h) (Or.inl ⟨by rfl, fun w hSw => by (try dsimp only at hSw); go_simp⟩) hHeld ?_
    try simp only [Act.put, List.setIfInBounds_toArray, List.set_cons_zero, List.set_cons_succ]
    refine wpAnyH_take (i := 11) (oi := ⟨some 34, .move (.tmp 7), 9, "entry.go:18", #[], none⟩) (v := .string (bs p)) rfl (by kernel_rfl) (by kernel_rfl) (by kernel_rfl) (fun _ _ _ h => h) (Or.inl ⟨by rfl, fun w hSw => by (try dsimp only at hSw); go_simp⟩) hHeld ?_
    try simp only [Act.put, List.setIfInBounds_toArray, List.set_cons_zero, List.set_cons_succ]
    refine wpAnyH_take (i := 12) (oi := ⟨some 35, .move (.tmp 1), 9, "entry.go:18", #[], none⟩) (v := .string (bs nm)) rfl (by kernel_rfl) (by kernel_rfl) (by kernel_rfl) (fun _ _ _ h => h) (Or.inl ⟨by rfl, fun w hSw => by (try dsimp only at hSw); go_simp⟩) hHeld ?_
    try simp only [Act.put, List.setIfInBounds_toArray, List.set_cons_zero, List.set_cons_succ]
    refine wpAnyH_take (i := 13) (oi := ⟨some 36, .build 65 #[(0, .tmp 34), (1, .tmp 35)], 65, "entry.go:18", #[⟨11, .data⟩, ⟨12, .data⟩], none⟩) (v := .agg #[.string (bs p), .string (bs nm)]) rfl (by kernel_rfl) (by kernel_rfl) (by kernel_rfl) (fun _ _ _ h => h) (Or.inl ⟨by rfl, fun w hSw => by (try dsimp only at hSw); go_simp⟩) hHeld ?_
    try simp only [Act.put, List.setIfInBounds_toArray, List.set_cons_zero, List.set_cons_succ]
    refine wpAnyH_ready (rs := [10, 14]) (by kernel_rfl) (by simp) ?_
    refine AllReadyH.cons (o := ⟨some 33, .lookup 55 (.tmp 31) (.tmp 32) false, 63, "entry.go:18", #[⟨8, .data⟩, ⟨9, .data⟩], none⟩) rfl (fun K hK => ?_) (AllReadyH.cons (o := ⟨some 37, .buildSlice 63 1 #[(0, .tmp 36)], 63, "entry.go:18", #[⟨13, .data⟩], none⟩) rfl (fun K hK => ?_) AllReadyH.nil)
    ·skip
     have hlk := HId.out.look b (by omega)
     go_simp
     clear hlk
     have hH2 := hHeld
     clear hHeld
     refine hK.out _ _ hH2 (fun hHeld => ?_)
     try simp only [Act.put, List.setIfInBounds_toArray, List.set_cons_zero, List.set_cons_succ]
     clear hK
     clear hH2
     refine wpAnyH_ready (rs := [14]) (by kernel_rfl) (by simp) ?_
     refine AllReadyH.cons (o := ⟨some 37, .buildSlice 63 1 #[(0, .tmp 36)], 63, "entry.go:18", #[⟨13, .data⟩], none⟩) rfl (fun K hK => ?_) AllReadyH.nil
     go_simp
     have hr8 := heap_alloc_last wd (.cells #[.string (bs p), .string (bs nm)] 65)
     have hk8 := (Kp.refl [] wd).alloc (.cells #[.string (bs p), .string (bs nm)] 65)
     have hI8 := HId.out.kp hk8 (by simp) (by simp)
     have hK8 := HKd.out.step0 hk8
     have HBw := Lib.hid (show B ≤ (wd.alloc (.cells #[.string (bs p), .string (bs nm)] 65)).heap.size from Nat.le_trans (by rw [HSd.out]; exact HBd.out) hk8.size)
     have HC8 := Lib.hid (show ∀ c, c < w.heap.size → wr.heap[c]? = w.heap[c]? → (wd.alloc (.cells #[.string (bs p), .string (bs nm)] 65)).heap[c]? = w.heap[c]? from fun c hc h => (hk8.block c (Nat.lt_of_lt_of_le hc HKd.out.size) (by simp)).trans (HCd.out c hc h))
     obtain ⟨R8, hR8⟩ : ∃ R, wd.heap.size = R := ⟨_, rfl⟩
     have hX8 : (wd.alloc (.cells #[.string (bs p), .string (bs nm)] 65)).heap[X]? = w3.heap[X]? := (hk8.block X (block_lt2 hHeld HXl.out) (by simp)).trans hHeld
     generalize wd.alloc (.cells #[.string (bs p), .string (bs nm)] 65) = w8 at *
     rw [hR8] at hr8 ⊢
     have HR8 := Lib.hid hr8
     have HI8 := Lib.hid hI8
     have HK8 := Lib.hid hK8
     clear hr8 hk8 hI8 hK8 hR8
     clear hHeld
     refine hK.out _ _ hX8 (fun hHeld => ?_)
     try simp only [Act.put, List.setIfInBounds_toArray, List.set_cons_zero, List.set_cons_succ]
     clear hK
     clear hX8
     refine wpAnyH_ready (rs := [15]) (by kernel_rfl) (by simp) ?_
     refine AllReadyH.cons (o := ⟨some 38, .call { callee := .builtin .append, args := #[.tmp 33, .tmp 37], argTypes := #[63, 63] }, 63, "entry.go:18", #[⟨10, .data⟩, ⟨14, .data⟩], none⟩) rfl (fun K hK => ?_) AllReadyH.nil
     obtain ⟨v9, w9, hrun, how, hgr, hloc⟩ := append_en (p, nm) 63 (HI8.out.row b) HR8.out HEl.out HBw.out
     have hI9 := HI8.out
     have HR := Lib.hid hrun
     have hX9 : w9.heap[X]? = w3.heap[X]? := (hgr.block X (block_lt2 hHeld HXl.out) (HI8.out.offX HXB.out)).trans hHeld
     have hK9 := HK8.out.stepOwn hgr (fun c hc => ((HI8.out.row b).ge c hc).1)
     have HW9 := Lib.hid (And.intro how (And.intro hgr hloc))
     have HK9 := Lib.hid hK9
     have HC9 := Lib.hid (show ∀ c, c < w.heap.size → (wr.heap[c]? = w.heap[c]? ∧ c ≠ M ∧ ∀ s, hdB (f' s) ≠ some c) → w9.heap[c]? = w.heap[c]? ∧ v9.ownBlock ≠ some c from fun c hc h => ⟨(hgr.block c (Nat.lt_of_lt_of_le hc HK8.out.size) (by rw [hdV_own]; exact fun e => h.2.2 b e.symm)).trans (HC8.out c hc h.1), loc_ne hloc (by rw [hdV_own]; exact h.2.2 b) (Nat.lt_of_lt_of_le hc HK8.out.size)⟩)
     clear hrun hI9 hgr hK9 how hloc
     refine step_append_run rfl 63 _ _ rfl _ _ _ rfl rfl HR.out ?_
     clear hHeld
     refine hK.out _ _ hX9 (fun hHeld => ?_)
     try simp only [Act.put, List.setIfInBounds_toArray, List.set_cons_zero, List.set_cons_succ]
     clear hK
     clear HR
     clear hX9
     refine wpAnyH_ready (rs := [16]) (by kernel_rfl) (by simp) ?_
     refine AllReadyH.cons (o := ⟨none, .mapUpdate 55 (.tmp 26) (.tmp 27) (.tmp 38), 0, "entry.go:18", #[⟨3, .data⟩, ⟨4, .data⟩, ⟨15, .data⟩, ⟨15, .chain⟩, ⟨0, .phase⟩, ⟨1, .phase⟩, ⟨2, .phase⟩, ⟨3, .phase⟩, ⟨4, .phase⟩, ⟨5, .phase⟩, ⟨6, .phase⟩, ⟨7, .phase⟩, ⟨8, .phase⟩, ⟨9, .phase⟩, ⟨10, .phase⟩, ⟨11, .phase⟩, ⟨12, .phase⟩, ⟨13, .phase⟩, ⟨14, .phase⟩, ⟨15, .phase⟩], none⟩) rfl (fun K hK => ?_) AllReadyH.nil
     obtain ⟨h9, hh9⟩ := own_hd HW9.out.1
     obtain ⟨w10, hrun, hm10, hg10⟩ := (HI8.out.own.kept HW9.out.2.1 (HI8.out.offM b)).update (t := 55) (e := 63) (val := v9) (d := hdD h9) (ps := []) lawS Tryd.underlying55 (by have := HNl.out; unfold maxLen; omega) (keyS (s := b) (by omega)) (by rw [hh9]; exact encS_hd h9)
     have HR := Lib.hid hrun
     have hX10 : w10.heap[X]? = w3.heap[X]? := (hg10.block X (block_lt2 hHeld HXl.out) (by intro e; exact HXM.out (Option.some.inj e))).trans hHeld
     have HIe := Lib.hid (HI8.out.put b (p, nm) (by omega) v9 HW9.out.1 HW9.out.2.1 HW9.out.2.2 hh9 hm10 hg10)
     have HKe := Lib.hid (HK9.out.stepM hg10)
     have HRt : ∀ c, c < w.heap.size → (wr.heap[c]? = w.heap[c]? ∧ c ≠ M ∧ ∀ s, hdB (f' s) ≠ some c) → (w10.heap[c]? = w.heap[c]? ∧ c ≠ M ∧ ∀ s, hdB (if s = b then h9 else f' s) ≠ some c) := fun c hc h => ⟨(hg10.block c (Nat.lt_of_lt_of_le hc HK9.out.size) (fun e => h.2.1 (Option.some.inj e))).trans (HC9.out c hc h).1, h.2.1, hd_ne (by have h8 := (HC9.out c hc h).2; rw [hh9, hdV_own] at h8; exact h8) h.2.2⟩
     have HRt := Lib.hid HRt
     clear hrun hm10 hg10 hh9
     refine step_map_run rfl 55 _ _ _ rfl _ _ _ rfl rfl rfl HR.out ?_
     clear hHeld
     refine hK.out _ _ hX10 (fun hHeld => ?_)
     try simp only [Act.put]
     clear hK
     clear HR
     clear hX10
     have HXe := Lib.hid hHeld
     refine wpAnyH_done (by kernel_rfl) ?_ _
     clear hHeld
     go_wp2
     refine ⟨⟨i + 1, _, _, by omega, by go_num, Lib.hid (by rw [Htk.out, Hen.out, ← List.append_assoc]; exact HIe.out), HKe, Lib.hid (HXe.out.trans HX3.out), Lib.hid fun c o' e hc hL => ?_⟩, by simp [intOf]; omega⟩
     have hq := hR.out c o' e hc hL
     exact HRt.out c hc hq
    ·skip
     go_simp
     have hr8 := heap_alloc_last wd (.cells #[.string (bs p), .string (bs nm)] 65)
     have hk8 := (Kp.refl [] wd).alloc (.cells #[.string (bs p), .string (bs nm)] 65)
     have hI8 := HId.out.kp hk8 (by simp) (by simp)
     have hK8 := HKd.out.step0 hk8
     have HBw := Lib.hid (show B ≤ (wd.alloc (.cells #[.string (bs p), .string (bs nm)] 65)).heap.size from Nat.le_trans (by rw [HSd.out]; exact HBd.out) hk8.size)
     have HC8 := Lib.hid (show ∀ c, c < w.heap.size → wr.heap[c]? = w.heap[c]? → (wd.alloc (.cells #[.string (bs p), .string (bs nm)] 65)).heap[c]? = w.heap[c]? from fun c hc h => (hk8.block c (Nat.lt_of_lt_of_le hc HKd.out.size) (by simp)).trans (HCd.out c hc h))
     obtain ⟨R8, hR8⟩ : ∃ R, wd.heap.size = R := ⟨_, rfl⟩
     have hX8 : (wd.alloc (.cells #[.string (bs p), .string (bs nm)] 65)).heap[X]? = w3.heap[X]? := (hk8.block X (block_lt2 hHeld HXl.out) (by simp)).trans hHeld
     generalize wd.alloc (.cells #[.string (bs p), .string (bs nm)] 65) = w8 at *
     rw [hR8] at hr8 ⊢
     have HR8 := Lib.hid hr8
     have HI8 := Lib.hid hI8
     have HK8 := Lib.hid hK8
     clear hr8 hk8 hI8 hK8 hR8
     clear hHeld
     refine hK.out _ _ hX8 (fun hHeld => ?_)
     try simp only [Act.put, List.setIfInBounds_toArray, List.set_cons_zero, List.set_cons_succ]
     clear hK
     clear hX8
     refine wpAnyH_ready (rs := [10]) (by kernel_rfl) (by simp) ?_
     refine AllReadyH.cons (o := ⟨some 33, .lookup 55 (.tmp 31) (.tmp 32) false, 63, "entry.go:18", #[⟨8, .data⟩, ⟨9, .data⟩], none⟩) rfl (fun K hK => ?_) AllReadyH.nil
     have hlk := HI8.out.look b (by omega)
     go_simp
     clear hlk
     have hH2 := hHeld
     clear hHeld
     refine hK.out _ _ hH2 (fun hHeld => ?_)
     try simp only [Act.put, List.setIfInBounds_toArray, List.set_cons_zero, List.set_cons_succ]
     clear hK
     clear hH2
     refine wpAnyH_ready (rs := [15]) (by kernel_rfl) (by simp) ?_
     refine AllReadyH.cons (o := ⟨some 38, .call { callee := .builtin .append, args := #[.tmp 33, .tmp 37], argTypes := #[63, 63] }, 63, "entry.go:18", #[⟨10, .data⟩, ⟨14, .data⟩], none⟩) rfl (fun K hK => ?_) AllReadyH.nil
     obtain ⟨v9, w9, hrun, how, hgr, hloc⟩ := append_en (p, nm) 63 (HI8.out.row b) HR8.out HEl.out HBw.out
     have hI9 := HI8.out
     have HR := Lib.hid hrun
     have hX9 : w9.heap[X]? = w3.heap[X]? := (hgr.block X (block_lt2 hHeld HXl.out) (HI8.out.offX HXB.out)).trans hHeld
     have hK9 := HK8.out.stepOwn hgr (fun c hc => ((HI8.out.row b).ge c hc).1)
     have HW9 := Lib.hid (And.intro how (And.intro hgr hloc))
     have HK9 := Lib.hid hK9
     have HC9 := Lib.hid (show ∀ c, c < w.heap.size → (wr.heap[c]? = w.heap[c]? ∧ c ≠ M ∧ ∀ s, hdB (f' s) ≠ some c) → w9.heap[c]? = w.heap[c]? ∧ v9.ownBlock ≠ some c from fun c hc h => ⟨(hgr.block c (Nat.lt_of_lt_of_le hc HK8.out.size) (by rw [hdV_own]; exact fun e => h.2.2 b e.symm)).trans (HC8.out c hc h.1), loc_ne hloc (by rw [hdV_own]; exact h.2.2 b) (Nat.lt_of_lt_of_le hc HK8.out.size)⟩)
     clear hrun hI9 hgr hK9 how hloc
     refine step_append_run rfl 63 _ _ rfl _ _ _ rfl rfl HR.out ?_
     clear hHeld
     refine hK.out _ _ hX9 (fun hHeld => ?_)
     try simp only [Act.put, List.setIfInBounds_toArray, List.set_cons_zero, List.set_cons_succ]
     clear hK
     clear HR
     clear hX9
     refine wpAnyH_ready (rs := [16]) (by kernel_rfl) (by simp) ?_
     refine AllReadyH.cons (o := ⟨none, .mapUpdate 55 (.tmp 26) (.tmp 27) (.tmp 38), 0, "entry.go:18", #[⟨3, .data⟩, ⟨4, .data⟩, ⟨15, .data⟩, ⟨15, .chain⟩, ⟨0, .phase⟩, ⟨1, .phase⟩, ⟨2, .phase⟩, ⟨3, .phase⟩, ⟨4, .phase⟩, ⟨5, .phase⟩, ⟨6, .phase⟩, ⟨7, .phase⟩, ⟨8, .phase⟩, ⟨9, .phase⟩, ⟨10, .phase⟩, ⟨11, .phase⟩, ⟨12, .phase⟩, ⟨13, .phase⟩, ⟨14, .phase⟩, ⟨15, .phase⟩], none⟩) rfl (fun K hK => ?_) AllReadyH.nil
     obtain ⟨h9, hh9⟩ := own_hd HW9.out.1
     obtain ⟨w10, hrun, hm10, hg10⟩ := (HI8.out.own.kept HW9.out.2.1 (HI8.out.offM b)).update (t := 55) (e := 63) (val := v9) (d := hdD h9) (ps := []) lawS Tryd.underlying55 (by have := HNl.out; unfold maxLen; omega) (keyS (s := b) (by omega)) (by rw [hh9]; exact encS_hd h9)
     have HR := Lib.hid hrun
     have hX10 : w10.heap[X]? = w3.heap[X]? := (hg10.block X (block_lt2 hHeld HXl.out) (by intro e; exact HXM.out (Option.some.inj e))).trans hHeld
     have HIe := Lib.hid (HI8.out.put b (p, nm) (by omega) v9 HW9.out.1 HW9.out.2.1 HW9.out.2.2 hh9 hm10 hg10)
     have HKe := Lib.hid (HK9.out.stepM hg10)
     have HRt : ∀ c, c < w.heap.size → (wr.heap[c]? = w.heap[c]? ∧ c ≠ M ∧ ∀ s, hdB (f' s) ≠ some c) → (w10.heap[c]? = w.heap[c]? ∧ c ≠ M ∧ ∀ s, hdB (if s = b then h9 else f' s) ≠ some c) := fun c hc h => ⟨(hg10.block c (Nat.lt_of_lt_of_le hc HK9.out.size) (fun e => h.2.1 (Option.some.inj e))).trans (HC9.out c hc h).1, h.2.1, hd_ne (by have h8 := (HC9.out c hc h).2; rw [hh9, hdV_own] at h8; exact h8) h.2.2⟩
     have HRt := Lib.hid HRt
     clear hrun hm10 hg10 hh9
     refine step_map_run rfl 55 _ _ _ rfl _ _ _ rfl rfl rfl HR.out ?_
     clear hHeld
     refine hK.out _ _ hX10 (fun hHeld => ?_)
     try simp only [Act.put]
     clear hK
     clear HR
     clear hX10
     have HXe := Lib.hid hHeld
     refine wpAnyH_done (by kernel_rfl) ?_ _
     clear hHeld
     go_wp2
     refine ⟨⟨i + 1, _, _, by omega, by go_num, Lib.hid (by rw [Htk.out, Hen.out, ← List.append_assoc]; exact HIe.out), HKe, Lib.hid (HXe.out.trans HX3.out), Lib.hid fun c o' e hc hL => ?_⟩, by simp [intOf]; omega⟩
     have hq := hR.out c o' e hc hL
     exact HRt.out c hc hq
  ·have hiz : ¬ ((i : Int) < (L : Int)) := by omega
   have hiL : i = L := by omega
   subst hiL
   have HI9 := hI'.out
   rw [List.take_of_length_le (by rw [HL.out]; omega)] at HI9
   have HI9 := Lib.hid HI9
   go_wp2
   go_end0
   exact ⟨rfl, hF.out, hX'.out, f', D', by first | exact HI9.out | (rw [HL.out]; exact HI9.out)⟩
end Go.Proofs.YtdlchlbngojljaaDoor
