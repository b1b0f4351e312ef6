/- Which text is less; the module of a name; the set of a list. The patterns of the module of a name. -/
import Derived.Test.YtdlchlbngojljaaDoorPV
import Derived.Test.YtdlchlbngojljaaDoorPGlM
import Derived.Deep.MidRow
import Derived.StringKeys
import Derived.Laws.ResultCell
import Derived.Maps.Own
namespace Go.Proofs.YtdlchlbngojljaaDoor
open Go.RowKit Go.Maps
open Gl (lessB)
theorem info51 : (Tryd.prog.info? 51).map (·.size) = some 6 := by kernel_rfl
theorem row_at {w : World} {b o : Nat} {l : List Mx} (h : mdT.Row w b o l) {i : Nat} {x : Mx} (hx : l[i]? = some x) : w.rangeAt b (o + i * 6) (meC x.1).toList := h i x hx
set_option maxHeartbeats 400000 in
set_option maxRecDepth 100000 in
theorem less32_any (a b : Tx) (w : World) : Calls Tryd.prog 32 #[.string (bs a), .string (bs b)] w (fun e w' => e = .returned (.bool (lessB a b)) ∧ w' = w) := by
 have hv : lessB a b = (decide ((bs a).size < (bs b).size) || (decide ((bs a).size = (bs b).size) && Op.bytesLess (bs a).toList (bs b).toList)) := by
  unfold lessB
  rw [bs_size, bs_size, toL, toL]
 rw [hv]
 generalize bs a = a at *
 generalize bs b = b at *
 clear hv
 by_cases h1 : (a.size : Int) < (b.size : Int)
 ·have hd : decide (a.size < b.size) = true := decide_eq_true (by omega)
  rw [hd]
  clear hd
  go_enter Tryd.func32, Tryd.ntmps32
  go_wp2
  go_ret
  exact ⟨rfl, rfl⟩
 ·have hd : decide (a.size < b.size) = false := decide_eq_false (by omega)
  rw [hd]
  clear hd
  by_cases h2 : (a.size : Int) = (b.size : Int)
  ·have h3 : ((a.size : Int) == (b.size : Int)) = true := by simp [h2]
   have hd : decide (a.size = b.size) = true := decide_eq_true (by omega)
   rw [hd, Bool.false_or, Bool.true_and]
   clear hd
   go_enter Tryd.func32, Tryd.ntmps32
   go_wp2
   go_ret
   exact ⟨rfl, rfl⟩
  ·have h3 : ((a.size : Int) == (b.size : Int)) = false := beq_eq_false_iff_ne.2 h2
   have hd : decide (a.size = b.size) = false := decide_eq_false (by omega)
   rw [hd, Bool.false_or, Bool.false_and]
   clear hd
   go_enter Tryd.func32, Tryd.ntmps32
   go_wp2
   go_ret
   exact ⟨rfl, rfl⟩
set_option maxHeartbeats 400000 in
set_option maxRecDepth 100000 in
theorem less34_any (a b : Tx) (w : World) : Calls Tryd.prog 34 #[.string (bs a), .string (bs b)] w (fun e w' => e = .returned (.bool (lessB a b)) ∧ w' = w) := by
 have hv : lessB a b = (decide ((bs a).size < (bs b).size) || (decide ((bs a).size = (bs b).size) && Op.bytesLess (bs a).toList (bs b).toList)) := by
  unfold lessB
  rw [bs_size, bs_size, toL, toL]
 rw [hv]
 generalize bs a = a at *
 generalize bs b = b at *
 clear hv
 by_cases h1 : (a.size : Int) < (b.size : Int)
 ·have hd : decide (a.size < b.size) = true := decide_eq_true (by omega)
  rw [hd]
  clear hd
  go_enter Tryd.func34, Tryd.ntmps34
  go_wp2
  go_ret
  exact ⟨rfl, rfl⟩
 ·have hd : decide (a.size < b.size) = false := decide_eq_false (by omega)
  rw [hd]
  clear hd
  by_cases h2 : (a.size : Int) = (b.size : Int)
  ·have h3 : ((a.size : Int) == (b.size : Int)) = true := by simp [h2]
   have hd : decide (a.size = b.size) = true := decide_eq_true (by omega)
   rw [hd, Bool.false_or, Bool.true_and]
   clear hd
   go_enter Tryd.func34, Tryd.ntmps34
   go_wp2
   go_ret
   exact ⟨rfl, rfl⟩
  ·have h3 : ((a.size : Int) == (b.size : Int)) = false := beq_eq_false_iff_ne.2 h2
   have hd : decide (a.size = b.size) = false := decide_eq_false (by omega)
   rw [hd, Bool.false_or, Bool.false_and]
   clear hd
   go_enter Tryd.func34, Tryd.ntmps34
   go_wp2
   go_ret
   exact ⟨rfl, rfl⟩
/-- The place of the first module of a name. -/
theorem modN_at {ms : List Md} {n : Tx} {i : Nat} {m : Md} (hm : ms[i]? = some m) (hp : ∀ k ∈ ms.take i, ¬ k.name = n) (e : m.name = n) : modN ms n = some m := by
 unfold modN
 have hs : ms = ms.take i ++ m :: ms.drop (i + 1) := by
  have h1 := (List.getElem?_eq_some_iff.1 hm)
  obtain ⟨h1, h2⟩ := h1
  rw [← h2]
  simp
 rw [hs, List.find?_append]
 have h0 : (ms.take i).find? (fun m => m.name == n) = none := List.find?_eq_none.2 fun k hk => by simpa using hp k hk
 rw [h0, List.find?_cons]
 have : (m.name == n) = true := by simpa using e
 rw [this]
 rfl
theorem modN_no {ms : List Md} {n : Tx} (hp : ∀ k ∈ ms, ¬ k.name = n) : modN ms n = none := List.find?_eq_none.2 fun k hk => by simpa using hp k hk
theorem take_no {ms : List Md} {n : Tx} {i : Nat} {m : Md} (hm : ms[i]? = some m) (hp : ∀ k ∈ ms.take i, ¬ k.name = n) (e : ¬ m.name = n) : ∀ k ∈ ms.take (i + 1), ¬ k.name = n := by
 rw [List.take_add_one, hm]
 intro k hk
 rcases List.mem_append.1 hk with h | h
 ·exact hp k h
 ·simp only [Option.toList, List.mem_singleton] at h
  rw [h]; exact e
theorem info51b : (Tryd.prog.info? 51).map (·.size) = some (6 : Nat) := by kernel_rfl
theorem meC_one (m : Me) : (meC m).all (·.oneCell') = true := by
 rw [Array.all_eq_true_iff_forall_mem]
 intro v hv
 exact mdT.one (m, ⟨[], []⟩) v (by simpa [mdT] using hv)
theorem results_row_tmp {P : Program} {fn : Func} {p u : Tmp} {ty : TypeId} (h : fn.results = #[.cell p ty, .tmp u]) (tmps : Array Value) (w : World) (g : Nat) (t : TypeId) (cs : Array Value) (fr : Nat × Nat) (d : TypeDesc) (v : Value)
  (hp : tmps.getD p undef = .pointer (some ⟨g, 0, none⟩)) (hv : tmps.getD u undef = v) (hg : w.heap[g]? = some (.cells cs t fr))
  (hu : P.underlying ty = some d) (hd : (match d with | .struct _ | .array _ _ => true | _ => false) = true) (hi : (P.info? ty).map (·.size) = some cs.size) :
  (results fn tmps).run P w = .ok (.tuple #[.agg cs, v]) w := by
 rw [results_cell_tmp h, hp, hv]
 simp [asAddr, run_loadVar_row w g t ty cs fr d hg hu hd hi, Result.andThen]
/-- What Module answers: the module of that name in memory, or the zero module. -/
def zMe : Me := ⟨[], ⟨none, 0, 0⟩, ⟨none, 0, 0⟩, ⟨none, 0, 0⟩, ⟨none, 0, 0⟩, false⟩
def ModAns (B : Nat) (ms : List Md) (n : Tx) (w' : World) (e : Ending) : Prop :=
 ∃ (x : Me), Hid (stT.HasB B w' x.al.v (aliN ms n)) ∧ e = .returned (.tuple #[.agg (meC x), .bool (modN ms n).isSome])
set_option maxHeartbeats 2000000 in
set_option maxRecDepth 100000 in
theorem module_any {B : Nat} {v : Value} {l : List Mx} {w : World} (n : Tx) (hl : l.length ≤ 1000000) (h : Ms B w v l) :
  Calls Tryd.prog 21 #[v, .string (bs n)] w fun e w' => ModAns B (l.map (·.2)) n w' e ∧ Kp [] w w' := by
 obtain ⟨ua, uc, rfl, hur⟩ := h.has.form
 obtain ⟨N, hN⟩ : ∃ N, l.length = N := ⟨_, rfl⟩
 have HA := Lib.hid hur
 have HM := Lib.hid h
 rw [hN] at hl HM ⊢
 have HN := Lib.hid hN
 have hk := (Kp.refl [] w).alloc (.cells (meC zMe) 51)
 have hr := heap_alloc_last w (.cells (meC zMe) 51)
 obtain ⟨P, hP⟩ : ∃ P, w.heap.size = P := ⟨_, rfl⟩
 rw [hP] at hr
 obtain ⟨W0, hW0⟩ : ∃ W0, w.alloc (.cells (meC zMe) 51) = W0 := ⟨_, rfl⟩
 rw [hW0] at hr hk
 have HP := Lib.hid hP
 have HW0 := Lib.hid hW0
 have HR := Lib.hid hr
 have HK := Lib.hid hk
 have HKs := Lib.hid (show ∀ (y : Me) (m : Nat), Kp [] w ((W0.drewN m).setRow P (meC y)) from fun y m => (hk.drew m).setRow (.inr (by omega)) _)
 clear hur h hN hP hW0 hr hk
 go_enter Tryd.func21, Tryd.ntmps21
 go_upto_block 0 with fail
 simp only [meC, zMe, Sl.v, bs] at HW0
 rw [HP.out, HW0.out]
 clear HP HW0
 go_wp2
 go_loopw [6] (fun s6 wx => ∃ i : Nat, i ≤ N ∧ s6 = .int .i64 (i : Int) ∧ Hid (∀ k ∈ (l.map (·.2)).take i, ¬ k.name = n) ∧ ∃ m, wx = W0.drewN m) (fun s6 _ => N - (intOf s6).toNat)
 case atStart => exact ⟨0, by omega, rfl, Lib.hid (by simp), 0, rfl⟩
 case round =>
  obtain ⟨i, hi, rfl, hno, m, rfl⟩ := hrel
  by_cases hlt : i < N
  ·have hiz : (i : Int) < (N : Int) := by omega
   obtain ⟨x, hx⟩ : ∃ x, l[i]? = some x := ⟨_, List.getElem?_eq_getElem (by rw [HN.out]; exact hlt)⟩
   obtain ⟨g, o, rfl, hgl, _, hr⟩ := HA.out (fun e => by rw [e] at hx; simp at hx)
   have hr2 : mdT.Row (W0.drewN m) g o l := hr.keep (by show W0.heap[g]? = _; exact HK.out.block g hgl (by simp))
   have h1 := (md_cell hr2 hx).1
   have HRow := Lib.hid (row_at hr2 hx)
   have hok := HM.out.ok x (List.mem_of_getElem? hx)
   have he := bs_eq x.1.nm n
   have hxm : (l.map (·.2))[i]? = some x.2 := by rw [List.getElem?_map, hx]; rfl
   have Hok := Lib.hid hok
   have HX := Lib.hid hxm
   clear hr hr2 hx hok hxm
   cases hxy : x.1.nm == n with
   | true =>
    rw [hxy] at he
    have hname : x.2.name = n := by rw [← Hok.out.1]; simpa using hxy
    have Hans := Lib.hid (modN_at HX.out hno.out hname)
    clear hxy hname
    go_wp2_with (first | (refine wpList_load_mid rfl 51 _ rfl g (o + i * 6) rfl (meC x.1).toList _ HRow.out Tryd.underlying51 rfl info51 ?_) | (refine wpList_store_row rfl 51 _ _ rfl P (meC x.1) rfl rfl 51 (meC zMe) HR.out info51b rfl (meC_one x.1) ?_))
    refine bodyPost_ret (v := .tuple #[.agg (meC x.1), .bool true]) (results_row_tmp rfl _ _ P 51 (meC x.1) _ _ _ rfl rfl (setRow_heap _ _ _ _ _ _ HR.out) Tryd.underlying51 rfl info51b) rfl ⟨⟨x.1, Lib.hid ?_, by rw [Hans.out]; rfl⟩, HKs.out x.1 m⟩
    unfold aliN
    rw [Hans.out]
    exact Hok.out.2.kp (HKs.out x.1 m) (by simp)
   | false =>
    rw [hxy] at he
    have hname : ¬ x.2.name = n := by rw [← Hok.out.1]; simpa using hxy
    have Hno2 := Lib.hid (take_no HX.out hno.out hname)
    clear hxy hname
    go_wp2
    exact ⟨⟨i + 1, by omega, by go_num, Hno2, _, rfl⟩, by simp [intOf]; omega⟩
  ·have hiz : ¬ ((i : Int) < (N : Int)) := by omega
   have Hans := Lib.hid (modN_no (ms := l.map (·.2)) (n := n) (by have h3 := hno.out; rwa [List.take_of_length_le (by rw [List.length_map, HN.out]; omega)] at h3))
   go_wp2_with (refine wpList_store_row rfl 51 _ _ rfl P (meC zMe) rfl rfl 51 (meC zMe) HR.out info51b rfl (meC_one zMe) ?_)
   refine bodyPost_ret (v := .tuple #[.agg (meC zMe), .bool false]) (results_row_tmp rfl _ _ P 51 (meC zMe) _ _ _ rfl rfl (setRow_heap _ _ _ _ _ _ HR.out) Tryd.underlying51 rfl info51b) rfl ⟨⟨zMe, Lib.hid ?_, by rw [Hans.out]; rfl⟩, HKs.out zMe m⟩
   unfold aliN
   rw [Hans.out]
   exact ⟨.inl ⟨none, 0, rfl, rfl⟩, fun b hb => by cases hb⟩
end Go.Proofs.YtdlchlbngojljaaDoor
namespace Go.Proofs.YtdlchlbngojljaaDoor
open Go.RowKit Go.Maps
theorem bcell {w : World} {b : Nat} {v : Value} {t : TypeId} (h : w.heap[b]? = some (.cells #[v] t (0, 0))) : w.cell? ⟨b, 0, none⟩ = some v := by
 rw [cell_of_row _ _ _ _ _ _ h]; rfl
set_option maxHeartbeats 400000 in
set_option maxRecDepth 100000 in
theorem clo45_any (x : Me) (n : Tx) (P : Nat) (w : World) (hP : P < w.heap.size) (h : w.cell? ⟨P, 0, none⟩ = some (.string (bs n))) :
  Calls Tryd.prog 45 #[.agg (meC x), .pointer (some ⟨P, 0, none⟩)] w fun e w' => e = .returned (.bool (x.nm == n)) ∧ Kp [] w w' := by
 have hne : P ≠ w.heap.size := by omega
 have h2 : (w.alloc (.cells (meC x) 51)).cell? ⟨P, 0, none⟩ = some (.string (bs n)) := by rw [World.cell?_alloc_lt _ _ _ hP]; exact h
 have h3 : (w.alloc (.cells (meC x) 51)).cell? ⟨w.heap.size, 0, none⟩ = some (.string (bs x.nm)) := by rw [cell_of_row _ _ _ _ _ _ (heap_alloc_last w _)]; rfl
 have hk := (Kp.refl [] w).alloc (.cells (meC x) 51)
 have HK := Lib.hid hk
 have he := bs_eq x.nm n
 obtain ⟨R, hR⟩ : ∃ R, (x.nm == n) = R := ⟨_, rfl⟩
 rw [hR] at he ⊢
 obtain ⟨W0, hW0⟩ : ∃ W0, w.alloc (.cells (meC x) 51) = W0 := ⟨_, rfl⟩
 rw [hW0] at h2 h3 HK
 have HW0 := Lib.hid hW0
 obtain ⟨Q, hQ⟩ : ∃ Q, w.heap.size = Q := ⟨_, rfl⟩
 rw [hQ] at h3
 have HQ := Lib.hid hQ
 clear hk hR hW0 hne h hQ
 unfold meC at HW0 ⊢
 go_enter Tryd.func45, Tryd.ntmps45
 go_upto_region 1 with fail
 rw [HW0.out, HQ.out]
 go_wp2
 go_ret
 exact ⟨rfl, HK.out⟩
/-- The place of the first module of a name, or -1. -/
def IdxP (ms : List Md) (n : Tx) (v : Int) : Prop := (v = -1 ∧ modN ms n = none) ∨ ∃ (i : Nat) (m : Md), v = i ∧ ms[i]? = some m ∧ modN ms n = some m
set_option maxHeartbeats 2000000 in
set_option maxRecDepth 100000 in
theorem idx44_any {B : Nat} {v : Value} {l : List Mx} {w : World} (n : Tx) (P : Nat) (hl : l.length ≤ 1000000) (h : Ms B w v l) (hP : P < w.heap.size) (hc : w.cell? ⟨P, 0, none⟩ = some (.string (bs n))) :
  Calls Tryd.prog 44 #[v, .func (.func 45) #[] #[.pointer (some ⟨P, 0, none⟩)]] w fun e w' => ∃ z, IdxP (l.map (·.2)) n z ∧ e = .returned (.int .i64 z) ∧ Kp [] w w' := by
 obtain ⟨ua, uc, rfl, hur⟩ := h.has.form
 obtain ⟨N, hN⟩ : ∃ N, l.length = N := ⟨_, rfl⟩
 have HA := Lib.hid hur
 have HM := Lib.hid h.ok
 rw [hN] at hl ⊢
 have HN := Lib.hid hN
 have HC := Lib.hid hc
 clear hur h hN hc
 go_enter Tryd.func44, Tryd.ntmps44
 go_wp2
 go_loopw [8] (fun s8 wx => ∃ i : Nat, i ≤ N ∧ s8 = .int .i64 (i : Int) ∧ Hid (∀ k ∈ (l.map (·.2)).take i, ¬ k.name = n) ∧ Hid (Kp [] w wx)) (fun s8 _ => N - (intOf s8).toNat)
 case atStart => exact ⟨0, by omega, rfl, Lib.hid (by simp), Lib.hid (Kp.refl [] w)⟩
 case round =>
  obtain ⟨i, hi, rfl, hno, hkx⟩ := hrel
  by_cases hlt : i < N
  ·have hiz : (i : Int) < (N : Int) := by omega
   obtain ⟨x, hx⟩ : ∃ x, l[i]? = some x := ⟨_, List.getElem?_eq_getElem (by rw [HN.out]; exact hlt)⟩
   obtain ⟨g, o, rfl, hgl, _, hr⟩ := HA.out (fun e => by rw [e] at hx; simp at hx)
   have hr2 : mdT.Row wr g o l := hr.keep (hkx.out.block g hgl (by simp))
   have HRow := Lib.hid (row_at hr2 hx)
   have hok := HM.out x (List.mem_of_getElem? hx)
   have hxm : (l.map (·.2))[i]? = some x.2 := by rw [List.getElem?_map, hx]; rfl
   have HX := Lib.hid hxm
   have Hcall := Lib.hid (clo45_any x.1 n P wr (Nat.lt_of_lt_of_le hP hkx.out.size) (by
    have := hkx.out.block P hP (by simp)
    have hc := HC.out
    simp only [World.cell?, this] at hc ⊢
    exact hc))
   have Hnm := Lib.hid hok.1
   clear hr hr2 hx hok hxm
   cases hxy : x.1.nm == n with
   | true =>
    rw [hxy] at Hcall
    have hname : x.2.name = n := by rw [← Hnm.out]; simpa using hxy
    have Hans := Lib.hid (modN_at HX.out hno.out hname)
    clear hxy hname
    go_wp2_with (first | (refine wpList_load_mid rfl 51 _ rfl g (o + i * 6) rfl (meC x.1).toList _ HRow.out Tryd.underlying51 rfl info51 ?_) | (go_at_call 45; refine Calls.mono (by with_reducible exact Hcall.out) ?_; rintro e w' ⟨rfl, hk2⟩))
    go_ret
    exact ⟨(i : Int), .inr ⟨i, x.2, rfl, HX.out, Hans.out⟩, rfl, hkx.out.trans hk2⟩
   | false =>
    rw [hxy] at Hcall
    have hname : ¬ x.2.name = n := by rw [← Hnm.out]; simpa using hxy
    have Hno2 := Lib.hid (take_no HX.out hno.out hname)
    clear hxy hname
    go_wp2_with (first | (refine wpList_load_mid rfl 51 _ rfl g (o + i * 6) rfl (meC x.1).toList _ HRow.out Tryd.underlying51 rfl info51 ?_) | (go_at_call 45; refine Calls.mono (by with_reducible exact Hcall.out) ?_; rintro e w' ⟨rfl, hk2⟩))
    exact ⟨⟨i + 1, by omega, by go_num, Hno2, Lib.hid (hkx.out.trans hk2)⟩, by simp [intOf]; omega⟩
  ·have hiz : ¬ ((i : Int) < (N : Int)) := by omega
   have Hans := Lib.hid (modN_no (ms := l.map (·.2)) (n := n) (by have h3 := hno.out; rwa [List.take_of_length_le (by rw [List.length_map, HN.out]; omega)] at h3))
   go_wp2
   go_ret
   exact ⟨-1, .inl ⟨rfl, Hans.out⟩, rfl, hkx.out⟩
set_option maxHeartbeats 2000000 in
set_option maxRecDepth 100000 in
theorem aliasesOf_any {B : Nat} {v : Value} {l : List Mx} {w : World} (n : Tx) (hl : l.length ≤ 1000000) (h : Ms B w v l) :
  Calls Tryd.prog 30 #[v, .string (bs n)] w fun e w' => ∃ u, Hid (stT.HasB B w' u (aliN (l.map (·.2)) n)) ∧ e = .returned u ∧ Kp [] w w' := by
 obtain ⟨P, hP⟩ : ∃ P, w.heap.size = P := ⟨_, rfl⟩
 have hk0 := (Kp.refl [] w).alloc (.cells #[.string (bs n)] 9)
 have hr0 := heap_alloc_last w (.cells #[.string (bs n)] 9)
 have hs0 : (w.alloc (.cells #[.string (bs n)] 9)).heap.size = P + 1 := by rw [World.size_alloc, hP]
 rw [hP] at hr0
 obtain ⟨W0, hW0⟩ : ∃ W0, w.alloc (.cells #[.string (bs n)] 9) = W0 := ⟨_, rfl⟩
 rw [hW0] at hk0 hr0 hs0
 have hm0 := h.kp hk0 (by simp)
 have Hcall := Lib.hid (idx44_any n P hl hm0 (by omega) (bcell hr0))
 obtain ⟨ua, uc, rfl, hur⟩ := hm0.has.form
 obtain ⟨N, hN⟩ : ∃ N, l.length = N := ⟨_, rfl⟩
 have HA := Lib.hid hur
 have HM := Lib.hid hm0.ok
 rw [hN] at hl Hcall ⊢
 have HN := Lib.hid hN
 have HW0 := Lib.hid hW0
 have HP := Lib.hid hP
 have HK0 := Lib.hid hk0
 clear hur h hN hW0 hP hk0 hr0 hs0 hm0
 go_enter Tryd.func30, Tryd.ntmps30
 go_upto_region 1 with fail
 rw [HW0.out, HP.out]
 go_wp2_with fail
 refine Calls.mono (by with_reducible exact Hcall.out) ?_
 rintro e w' ⟨z, hz, rfl, hk2⟩
 have HK2 := Lib.hid hk2
 rcases hz with ⟨rfl, hno⟩ | ⟨i, m, rfl, hm, hmod⟩
 ·have Hno := Lib.hid hno
  clear hno hk2
  go_wp2
  go_ret
  refine ⟨_, Lib.hid ?_, rfl, HK0.out.trans HK2.out⟩
  unfold aliN
  rw [Hno.out]
  exact ⟨.inl ⟨none, 0, rfl, rfl⟩, fun b hb => by cases hb⟩
 ·have hiN : i < N := by
   have := (List.getElem?_eq_some_iff.1 hm).1
   rw [List.length_map, HN.out] at this
   exact this
  have hiz : ¬ ((i : Int) < 0) := by omega
  have hiz2 : (i : Int) < (N : Int) := by omega
  obtain ⟨x, hx⟩ : ∃ x, l[i]? = some x := ⟨_, List.getElem?_eq_getElem (by rw [HN.out]; exact hiN)⟩
  obtain ⟨g, o, rfl, hgl, _, hr⟩ := HA.out (fun e => by rw [e] at hx; simp at hx)
  have hr2 : mdT.Row w' g o l := hr.keep (hk2.block g hgl (by simp))
  have h1 := (md_cell hr2 hx).2.1
  have hok := ((HM.out x (List.mem_of_getElem? hx)).2).kp hk2 (by simp)
  have hmx : x.2 = m := by rw [List.getElem?_map, hx] at hm; exact Option.some.inj hm
  have hal : aliN (l.map (·.2)) n = x.2.al := by
   unfold aliN
   rw [hmod, hmx]
   rfl
  have Hok := Lib.hid hok
  have Hal := Lib.hid hal
  clear hr hr2 hx hok hal hm hmod hk2 hmx
  unfold Sl.v at h1
  go_wp2
  go_ret
  exact ⟨_, Lib.hid (by rw [Hal.out]; exact Hok.out), rfl, HK0.out.trans HK2.out⟩
end Go.Proofs.YtdlchlbngojljaaDoor
