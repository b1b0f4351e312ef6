/- Sockets in memory: where a place lies, New, Len, Lost. -/
import Derived.Test.YtikjbhjdpamceaaA
import Derived.Laws.NewBlocks
namespace Go.Proofs.Ytikjbhjdpamceaa
open Go.RowKit

theorem al_size (w : World) (o : Obj) : (w.alloc o).heap.size = w.heap.size + 1 := by unfold World.alloc; exact Array.size_push ..
theorem al_new (w : World) (o : Obj) : (w.alloc o).heap[w.heap.size]? = some o := by unfold World.alloc; exact Array.getElem?_push_size ..
theorem al_old (w : World) (o : Obj) {k : Nat} (h : k < w.heap.size) : (w.alloc o).heap[k]? = w.heap[k]? := by unfold World.alloc; exact Array.getElem?_push_lt h |>.trans (Array.getElem?_eq_getElem h).symm

/-- The cells of a socket. -/
def skC (rb cap cc f n : Nat) (lost : Bool) : Array Value := #[.slice (some ⟨rb, 0, none⟩) cap cc, .int .i64 (f : Int), .int .i64 (n : Int), .bool lost]
/-- A socket in block sb, its ring in block rb; behind the ring there may be spare places. -/
structure Sk (w : World) (sb rb cap cc f : Nat) (ring : List Ev) (sp : List Value) (n : Nat) (lost : Bool) : Prop where
  hs : w.heap[sb]? = some (.cells (skC rb cap cc f n lost) 52 (0, 0))
  hr : w.heap[rb]? = some (.cells (evsC ring ++ sp).toArray 42 (0, 0))
  cc1 : cap ≤ cc
  cc2 : cc ≤ 9223372036854775807
  len : ring.length = cap
  cap1 : 1 ≤ cap
  cap2 : cap ≤ 256
  hf : f < cap
  hn : n ≤ cap
  ne : sb ≠ rb
/-- The events that wait, oldest first. -/
def Que (w : World) (sb rb cap : Nat) (l : List Ev) (lost : Bool) : Prop :=
  ∃ cc f ring sp, Sk w sb rb cap cc f ring sp l.length lost ∧ ∀ (i : Nat) x, l[i]? = some x → ring[(f + i) % cap]? = some x

theorem Sk.keep {w w' : World} {sb rb cap cc f : Nat} {ring : List Ev} {sp : List Value} {n : Nat} {lost : Bool} (h : Sk w sb rb cap cc f ring sp n lost) (h1 : w'.heap[sb]? = w.heap[sb]?) (h2 : w'.heap[rb]? = w.heap[rb]?) : Sk w' sb rb cap cc f ring sp n lost :=
  ⟨h1.trans h.hs, h2.trans h.hr, h.cc1, h.cc2, h.len, h.cap1, h.cap2, h.hf, h.hn, h.ne⟩
theorem Que.keep {w w' : World} {sb rb cap : Nat} {l : List Ev} {lost : Bool} (h : Que w sb rb cap l lost) (h1 : w'.heap[sb]? = w.heap[sb]?) (h2 : w'.heap[rb]? = w.heap[rb]?) : Que w' sb rb cap l lost := by
  obtain ⟨cc, f, ring, sp, hk, hx⟩ := h
  exact ⟨cc, f, ring, sp, hk.keep h1 h2, hx⟩
theorem Que.lt {w : World} {sb rb cap : Nat} {l : List Ev} {lost : Bool} (h : Que w sb rb cap l lost) : sb < w.heap.size ∧ rb < w.heap.size ∧ sb ≠ rb ∧ l.length ≤ cap := by
  obtain ⟨cc, f, ring, sp, hk, hx⟩ := h
  exact ⟨block_lt hk.hs, block_lt hk.hr, hk.ne, hk.hn⟩
theorem Que.kp {w w' : World} {s : List Nat} {sb rb cap : Nat} {l : List Ev} {lost : Bool} (h : Que w sb rb cap l lost) (hk : Kp s w w') (h1 : sb ∉ s) (h2 : rb ∉ s) : Que w' sb rb cap l lost :=
  h.keep (hk.block sb h.lt.1 h1) (hk.block rb h.lt.2.1 h2)

theorem skCells {w : World} {sb rb cap cc f n : Nat} {lost : Bool} (h : w.heap[sb]? = some (.cells (skC rb cap cc f n lost) 52 (0, 0))) :
    w.cell? ⟨sb, 0, none⟩ = some (.slice (some ⟨rb, 0, none⟩) cap cc) ∧ w.cell? ⟨sb, 1, none⟩ = some (.int .i64 (f : Int)) ∧ w.cell? ⟨sb, 2, none⟩ = some (.int .i64 (n : Int)) ∧ w.cell? ⟨sb, 3, none⟩ = some (.bool lost) := by
  rw [cell_of_row _ _ _ _ _ _ h, cell_of_row _ _ _ _ _ _ h, cell_of_row _ _ _ _ _ _ h, cell_of_row _ _ _ _ _ _ h]
  exact ⟨rfl, rfl, rfl, rfl⟩
theorem skFrozen {w : World} {sb rb cap cc f n : Nat} {lost : Bool} (h : w.heap[sb]? = some (.cells (skC rb cap cc f n lost) 52 (0, 0))) (o : Nat) : w.frozen? ⟨sb, o, none⟩ = false := by
  simp [World.frozen?, h]

set_option maxHeartbeats 1000000 in
set_option maxRecDepth 100000 in
/-- place: the place of the i-th event. -/
theorem place_any {w : World} {sb rb cap cc f n : Nat} {lost : Bool} (i : Nat) (h : w.heap[sb]? = some (.cells (skC rb cap cc f n lost) 52 (0, 0))) (h1 : 1 ≤ cap) (h2 : cap ≤ 256) (hf : f < cap) (hi : i ≤ 256) :
    Calls Try.prog 20 #[.pointer (some ⟨sb, 0, none⟩), .int .i64 i] w fun e w' => e = .returned (.int .i64 (((f + i) % cap : Nat) : Int)) ∧ ∃ m, w' = w.drewN m := by
  obtain ⟨c0, c1, _, _⟩ := skCells h
  have hne : ¬ ((cap : Int) = 0) := by omega
  have hm : ((f : Int) + (i : Int)).tmod (cap : Int) = (((f + i) % cap : Nat) : Int) := by
    rw [Int.tmod_eq_emod_of_nonneg (by omega), Int.natCast_emod, Int.natCast_add]
  have hw1 : IntKind.i64.wrap ((f : Int) + (i : Int)) = (f : Int) + (i : Int) := by rw [IntKind.wrap_i64]; omega
  obtain ⟨q, hq⟩ : ∃ q : Nat, (f + i) % cap = q := ⟨_, rfl⟩
  have hql : q < cap := by rw [← hq]; exact Nat.mod_lt _ (by omega)
  rw [hq] at hm ⊢
  have hw2 : IntKind.i64.wrap (q : Int) = (q : Int) := by rw [IntKind.wrap_i64]; omega
  clear h hq
  go_enter Try.func20, Try.ntmps20
  go_wp2
  go_quiet (fail)
  go_wp2
  go_ret
  exact ⟨rfl, _, rfl⟩

set_option maxHeartbeats 1000000 in
set_option maxRecDepth 100000 in
/-- Len. -/
theorem len_any {w : World} {sb rb cap : Nat} {l : List Ev} {lost : Bool} (h : Que w sb rb cap l lost) :
    Calls Try.prog 17 #[.pointer (some ⟨sb, 0, none⟩)] w fun e w' => e = .returned (.int .i64 (l.length : Int)) ∧ w = w' := by
  obtain ⟨cc, f, ring, sp, hk, _⟩ := h
  obtain ⟨_, _, c2, _⟩ := skCells hk.hs
  clear hk
  go_enter Try.func17, Try.ntmps17
  go_wp2
  go_ret
  exact ⟨rfl, rfl⟩

theorem Sk.setLost {w : World} {sb rb cap cc f : Nat} {ring : List Ev} {sp : List Value} {n : Nat} {lost : Bool} (h : Sk w sb rb cap cc f ring sp n lost) (b : Bool) : Sk (w.setCell ⟨sb, 3, none⟩ (.bool b)) sb rb cap cc f ring sp n b :=
  ⟨by simp [World.setCell, Array.getElem?_modify, h.hs, skC], by simp [World.setCell, Array.getElem?_modify, h.hr, h.ne], h.cc1, h.cc2, h.len, h.cap1, h.cap2, h.hf, h.hn, h.ne⟩
theorem Que.setLost {w : World} {sb rb cap : Nat} {l : List Ev} {lost : Bool} (h : Que w sb rb cap l lost) (b : Bool) : Que (w.setCell ⟨sb, 3, none⟩ (.bool b)) sb rb cap l b := by
  obtain ⟨cc, f, ring, sp, hk, hx⟩ := h
  exact ⟨cc, f, ring, sp, hk.setLost b, hx⟩

set_option maxHeartbeats 1000000 in
set_option maxRecDepth 100000 in
/-- Lost: whether events were lost; then none was. -/
theorem lost_any {w : World} {sb rb cap : Nat} {l : List Ev} {lost : Bool} (h : Que w sb rb cap l lost) :
    Calls Try.prog 14 #[.pointer (some ⟨sb, 0, none⟩)] w fun e w' => e = .returned (.bool lost) ∧ Que w' sb rb cap l false ∧ Kp [sb] w w' ∧ w'.heap.size = w.heap.size := by
  have hl := h.setLost false
  obtain ⟨cc, f, ring, sp, hk, _⟩ := h
  obtain ⟨_, _, _, c3⟩ := skCells hk.hs
  have f3 := skFrozen hk.hs 3
  have HL := Lib.hid hl
  clear hk hl
  go_enter Try.func14, Try.ntmps14
  go_wp2
  go_ret
  exact ⟨rfl, HL.out, (Kp.refl [sb] w).setCell (.inl (by simp)) _, by simp [World.setCell]⟩

theorem replicate_get {n j : Nat} {x : Ev} (h : (List.replicate n ev0)[j]? = some x) : x = ev0 := by
  rw [List.getElem?_replicate] at h
  split at h
  · exact (Option.some.inj h).symm
  · cases h

theorem info42 : (Try.prog.info? 42).map (fun i => (i.zero, i.size, i.bytes)) = some (some (.agg (evC ev0).toArray), 5, 56) := by kernel_rfl
theorem made_zero (n : Nat) : madeCells (Value.agg (evC ev0).toArray).cells (n * 5) = (evsC (List.replicate n ev0)).toArray := by
  apply Array.ext'
  refine List.ext_getElem? fun j => ?_
  by_cases hj : j < n * 5
  · have e1 : j = j / 5 * 5 + j % 5 := by omega
    have hlt : j / 5 < n := by omega
    have h5 : j % 5 < 5 := by omega
    have h := evsC_get (List.replicate n ev0) (j / 5) ev0 (j % 5) (by rw [List.getElem?_replicate, if_pos hlt]) h5
    rw [← e1] at h
    rw [show (evsC (List.replicate n ev0)).toArray.toList = evsC (List.replicate n ev0) from rfl, h]
    simp only [madeCells, Value.cells, Array.toList_map, Array.toList_range, List.getElem?_map, List.getElem?_range hj, Option.map_some]
    rw [show (evC ev0).toArray.size = 5 from rfl]
    generalize j % 5 = r at h5
    match r, h5 with
    | 0, _ => rfl
    | 1, _ => rfl
    | 2, _ => rfl
    | 3, _ => rfl
    | 4, _ => rfl
  · rw [List.getElem?_eq_none (by simp [size_madeCells]; omega), List.getElem?_eq_none (by simp [evsC_len]; omega)]

/-- A new row of zero events. -/
theorem make_events (w : World) (n : Nat) (hn : n ≤ 1000000) : (Instr.makeSlice 23 (.int .i64 (n : Int)) (.int .i64 (n : Int))).run Try.prog w =
    .ok (.slice (some ⟨w.heap.size, 0, none⟩) n n) (w.alloc (.cells (evsC (List.replicate n ev0)).toArray 42)) := by
  obtain ⟨i, hi, h0, h1, h2⟩ := info_parts info42
  have := run_make (P := Try.prog) w 23 42 i _ Try.underlying23 hi h0 .i64 .i64 n n (by omega) (Int.le_refl _) (by rw [h2]; omega) (by omega)
  rw [this, h1, Int.toNat_natCast, made_zero]

set_option maxHeartbeats 1000000 in
set_option maxRecDepth 100000 in
/-- New of a capacity that is not from 1 to MaxQueue. -/
theorem new_bad (z : Int) (w : World) (h : z < 1 ∨ 256 < z) : Calls Try.prog 8 #[.int .i64 z] w fun e w' => e = .returned (.tuple #[.pointer none, .int .i64 60]) ∧ w = w' := by
  by_cases h1 : z < 1
  · have h1' : decide (z < 1) = true := by simpa using h1
    go_enter Try.func8, Try.ntmps8
    go_wp2
    go_ret2
    exact ⟨rfl, rfl⟩
  · have h2 : 256 < z := by omega
    have h1' : decide (z < 1) = false := by simpa using h1
    have h2' : decide (256 < z) = true := by simpa using h2
    go_enter Try.func8, Try.ntmps8
    go_wp2
    go_ret2
    exact ⟨rfl, rfl⟩

set_option maxHeartbeats 1000000 in
set_option maxRecDepth 100000 in
/-- New of a capacity from 1 to MaxQueue. -/
theorem new_any (n : Nat) (w : World) (h1 : 1 ≤ n) (h2 : n ≤ 256) : Calls Try.prog 8 #[.int .i64 n] w fun e w' => ∃ sb rb, e = .returned (.tuple #[.pointer (some ⟨sb, 0, none⟩), .int .i64 0]) ∧ Que w' sb rb n [] false ∧ w.heap.size ≤ sb ∧ w.heap.size ≤ rb ∧ Kp [] w w' := by
  have hm := fun W => make_events W n (by omega)
  have a1 : ¬ ((n : Int) < 1) := by omega
  have a2 : ¬ (256 < (n : Int)) := by omega
  obtain ⟨zs, hz⟩ : ∃ zs, (evsC (List.replicate n ev0)).toArray = zs := ⟨_, rfl⟩
  rw [hz] at hm
  have HZ := Lib.hid hz
  clear hz
  go_enter Try.func8, Try.ntmps8
  go_wp2
  go_ret2
  obtain rfl := HZ.out
  refine ⟨_, rfl, w.heap.size, ⟨n, 0, List.replicate n ev0, [], ⟨?_, ?_, Nat.le_refl _, by omega, List.length_replicate .., h1, h2, h1, Nat.zero_le _, by omega⟩, fun i x hx => by simp at hx⟩, by omega, Nat.le_refl _, ((Kp.refl [] w).alloc _).alloc _⟩
  · have := al_new (w.alloc (.cells (evsC (List.replicate n ev0)).toArray 42)) (.cells (skC w.heap.size n n 0 0 false) 52)
    rwa [al_size] at this
  · rw [al_old _ _ (by rw [al_size]; omega), al_new, List.append_nil]
end Go.Proofs.Ytikjbhjdpamceaa
