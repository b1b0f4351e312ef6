/- Send. -/
import Derived.Test.YtikjbhjdpamceaaB
namespace Go.Proofs.Ytikjbhjdpamceaa
open Go.RowKit

theorem size42 : (Try.prog.info? 42).map (·.size) = some 5 := by kernel_rfl

theorem evsC_set5 : ∀ (l : List Ev) (p : Nat) (e : Ev), p < l.length → ((((((evsC l).set (p * 5) (.int .i64 e.seq)).set (p * 5 + 1) (.int .i64 e.act)).set (p * 5 + 2) (.int .i64 e.idx)).set (p * 5 + 3) (.string e.path)).set (p * 5 + 4) (.string e.old)) = evsC (l.set p e)
  | [], p, e, h => absurd h (Nat.not_lt_zero _)
  | x :: l, 0, e, _ => rfl
  | x :: l, p + 1, e, h => by
    have ih := evsC_set5 l p e (by simpa using h)
    have e1 : ∀ y : Ev, ∀ l : List Ev, evsC (y :: l) = .int .i64 y.seq :: .int .i64 y.act :: .int .i64 y.idx :: .string y.path :: .string y.old :: evsC l := fun _ _ => rfl
    rw [List.set_cons_succ, e1, e1, ← ih]
    rw [show (p + 1) * 5 = p * 5 + 1 + 1 + 1 + 1 + 1 by omega, show p * 5 + 1 + 1 + 1 + 1 + 1 + 1 = p * 5 + 1 + 1 + 1 + 1 + 1 + 1 from rfl, show p * 5 + 1 + 1 + 1 + 1 + 1 + 2 = p * 5 + 2 + 1 + 1 + 1 + 1 + 1 by omega,
      show p * 5 + 1 + 1 + 1 + 1 + 1 + 3 = p * 5 + 3 + 1 + 1 + 1 + 1 + 1 by omega, show p * 5 + 1 + 1 + 1 + 1 + 1 + 4 = p * 5 + 4 + 1 + 1 + 1 + 1 + 1 by omega]
    simp only [List.set_cons_succ]

/-- An event stored cell by cell. -/
def put5 (w : World) (rb p : Nat) (e : Ev) : World :=
  ((((w.setCell ⟨rb, p * 5, none⟩ (.int .i64 e.seq)).setCell ⟨rb, p * 5 + 1, none⟩ (.int .i64 e.act)).setCell ⟨rb, p * 5 + 2, none⟩ (.int .i64 e.idx)).setCell ⟨rb, p * 5 + 3, none⟩ (.string e.path)).setCell ⟨rb, p * 5 + 4, none⟩ (.string e.old)
theorem put5_heap {w : World} {rb p : Nat} {ring : List Ev} {sp : List Value} (e : Ev) (h : w.heap[rb]? = some (.cells (evsC ring ++ sp).toArray 42 (0, 0))) (hp : p < ring.length) :
    (put5 w rb p e).heap[rb]? = some (.cells (evsC (ring.set p e) ++ sp).toArray 42 (0, 0)) := by
  have hl := evsC_len ring
  rw [← evsC_set5 ring p e hp, ← List.set_append_left _ _ (by simp [hl]; omega), ← List.set_append_left _ _ (by simp [hl]; omega), ← List.set_append_left _ _ (by simp [hl]; omega), ← List.set_append_left _ _ (by simp [hl]; omega), ← List.set_append_left _ _ (by rw [hl]; omega)]
  simp [put5, World.setCell, Array.getElem?_modify, h]
theorem put5_other (w : World) (rb p : Nat) (e : Ev) {k : Nat} (hk : k ≠ rb) : (put5 w rb p e).heap[k]? = w.heap[k]? := by
  have h := fun (W : World) (o : Nat) (v : Value) => Below.heap_setCell (k := k) W ⟨rb, o, none⟩ v hk
  simp only [put5, h]
theorem put5_kp {s : List Nat} {a w : World} (h : Kp s a w) {rb : Nat} (hr : rb ∈ s ∨ a.heap.size ≤ rb) (p : Nat) (e : Ev) : Kp s a (put5 w rb p e) :=
  ((((h.setCell hr _).setCell hr _).setCell hr _).setCell hr _).setCell hr _
/-- The cells of an event in a row; they may be written. -/
theorem row5 {w : World} {rb p : Nat} {ring : List Ev} {sp : List Value} {y : Ev} (h : w.heap[rb]? = some (.cells (evsC ring ++ sp).toArray 42 (0, 0))) (hy : ring[p]? = some y) :
    w.cell? ⟨rb, p * 5, none⟩ = some (.int .i64 y.seq) ∧ w.cell? ⟨rb, p * 5 + 1, none⟩ = some (.int .i64 y.act) ∧ w.cell? ⟨rb, p * 5 + 2, none⟩ = some (.int .i64 y.idx) ∧ w.cell? ⟨rb, p * 5 + 3, none⟩ = some (.string y.path) ∧ w.cell? ⟨rb, p * 5 + 4, none⟩ = some (.string y.old) := by
  have hp := (List.getElem?_eq_some_iff.1 hy).1
  have hl := evsC_len ring
  have g : ∀ m, m < 5 → (evsC ring ++ sp)[p * 5 + m]? = (evC y)[m]? := fun m hm => by
    rw [List.getElem?_append_left (by omega)]
    exact evsC_get ring p y m hy hm
  have c := fun o => cell_of_row w rb o _ _ _ h
  refine ⟨?_, ?_, ?_, ?_, ?_⟩
  all_goals
    rw [c, List.getElem?_toArray]
    first
      | exact g 0 (by omega)
      | exact g 1 (by omega)
      | exact g 2 (by omega)
      | exact g 3 (by omega)
      | exact g 4 (by omega)
theorem row5f {w : World} {rb : Nat} {ring : List Ev} {sp : List Value} (h : w.heap[rb]? = some (.cells (evsC ring ++ sp).toArray 42 (0, 0))) (o : Nat) : w.frozen? ⟨rb, o, none⟩ = false := by simp [World.frozen?, h]

/-- What Send does to the ring. -/
theorem Que.sent {w : World} {sb rb cap cc f : Nat} {ring l : List Ev} {sp : List Value} {lost : Bool} (e : Ev) (hk : Sk w sb rb cap cc f ring sp l.length lost) (hx : ∀ (i : Nat) x, l[i]? = some x → ring[(f + i) % cap]? = some x) (hl : l.length < cap)
    {w' : World} (h1 : w'.heap[sb]? = some (.cells (skC rb cap cc f (l.length + 1) lost) 52 (0, 0))) (h2 : w'.heap[rb]? = some (.cells (evsC (ring.set ((f + l.length) % cap) e) ++ sp).toArray 42 (0, 0))) : Que w' sb rb cap (l ++ [e]) lost := by
  have hp : (f + l.length) % cap < ring.length := by rw [hk.len]; exact Nat.mod_lt _ (by omega)
  refine ⟨cc, f, ring.set ((f + l.length) % cap) e, sp, ⟨by simpa using h1, h2, hk.cc1, hk.cc2, by simp [hk.len], hk.cap1, hk.cap2, hk.hf, by simp; omega, hk.ne⟩, fun i x hi => ?_⟩
  by_cases e1 : i = l.length
  · subst e1
    simp at hi
    subst hi
    rw [List.getElem?_set_self hp]
  · have hil : i < l.length := by
      have := (List.getElem?_eq_some_iff.1 hi).1
      simp at this
      omega
    rw [List.getElem?_append_left hil] at hi
    have hf := hk.hf
    have : (f + l.length) % cap ≠ (f + i) % cap := fun h => by
      have e3 : (f + l.length) - (f + i) = l.length - i := by omega
      have h4 := Nat.sub_mod_eq_zero_of_mod_eq h
      rw [e3, Nat.mod_eq_of_lt (by omega)] at h4
      omega
    rw [List.getElem?_set_ne this]
    exact hx i x hi

set_option maxHeartbeats 1000000 in
set_option maxRecDepth 100000 in
/-- Send to a full socket. -/
theorem send_full {w : World} {sb rb cap : Nat} {l : List Ev} {lost : Bool} (e : Ev) (h : Que w sb rb cap l lost) (hl : l.length = cap) :
    Calls Try.prog 16 #[.pointer (some ⟨sb, 0, none⟩), .agg (evC e).toArray] w fun r w' => r = .returned (.int .i64 61) ∧ Que w' sb rb cap l true ∧ Kp [sb] w w' := by
  obtain ⟨cc, f, ring, sp, hk, hx⟩ := h
  have hk1 : Sk (w.alloc (.cells (evC e).toArray 42)) sb rb cap cc f ring sp l.length lost := hk.keep (al_old _ _ (block_lt hk.hs)) (al_old _ _ (block_lt hk.hr))
  have hfin : ∀ n, Que ((((w.alloc (.cells (evC e).toArray 42))).drewN n).setCell ⟨sb, 3, none⟩ (.bool true)) sb rb cap l true := fun n => Que.setLost (w := (w.alloc (.cells (evC e).toArray 42)).drewN n) (lost := lost) ⟨cc, f, ring, sp, hk1.keep (w' := (w.alloc (.cells (evC e).toArray 42)).drewN n) rfl rfl, hx⟩ true
  obtain ⟨c0, c1, c2, c3⟩ := skCells hk.hs
  have f3 := skFrozen hk.hs 3
  have hsl := block_lt hk.hs
  have HF := Lib.hid hfin
  have hc2 := hk.cap2
  have hnl : (((l.length : Nat) : Int) == ((cap : Nat) : Int)) = true := by simp [hl]
  rw [hl] at c2 hnl
  have ec : (evC e).toArray = #[.int .i64 e.seq, .int .i64 e.act, .int .i64 e.idx, .string e.path, .string e.old] := rfl
  rw [ec] at HF ⊢
  clear hk hk1 hfin hx hl ec
  go_enter Try.func16, Try.ntmps16
  go_wp2
  go_quiet (fail)
  go_wp2
  go_ret
  exact ⟨rfl, HF.out _, (((Kp.refl [sb] w).alloc _).drew _).setCell (.inl (by simp)) _⟩

set_option maxHeartbeats 1000000 in
set_option maxRecDepth 100000 in
/-- Send to a socket with room. -/
theorem send_any {w : World} {sb rb cap : Nat} {l : List Ev} {lost : Bool} (e : Ev) (h : Que w sb rb cap l lost) (hl : l.length < cap) :
    Calls Try.prog 16 #[.pointer (some ⟨sb, 0, none⟩), .agg (evC e).toArray] w fun r w' => r = .returned (.int .i64 0) ∧ Que w' sb rb cap (l ++ [e]) lost ∧ Kp [sb, rb] w w' := by
  obtain ⟨cc, f, ring, sp, hk, hx⟩ := h
  have hk1 : Sk (w.alloc (.cells (evC e).toArray 42)) sb rb cap cc f ring sp l.length lost := hk.keep (al_old _ _ (block_lt hk.hs)) (al_old _ _ (block_lt hk.hr))
  have hp : (f + l.length) % cap < ring.length := by rw [hk.len]; exact Nat.mod_lt _ (by omega)
  have hc2 := hk.cap2
  have hpl := fun n => place_any (w := (w.alloc (.cells (evC e).toArray 42)).drewN n) l.length hk1.hs hk.cap1 hk.cap2 hk.hf (by omega)
  obtain ⟨c0, c1, c2, c3⟩ := skCells hk.hs
  have f2 := skFrozen hk.hs 2
  have hsl := block_lt hk.hs
  have hrl := block_lt hk.hr
  have hne : decide ((l.length : Int) = (cap : Int)) = false := by simp; omega
  have hnl : (((l.length : Nat) : Int) == ((cap : Nat) : Int)) = false := by simp; omega
  have hwr : IntKind.i64.wrap ((l.length : Int) + 1) = ((l.length + 1 : Nat) : Int) := by rw [IntKind.wrap_i64]; omega
  obtain ⟨y, hy⟩ : ∃ y, ring[(f + l.length) % cap]? = some y := ⟨_, List.getElem?_eq_getElem hp⟩
  obtain ⟨r0, r1, r2, r3, r4⟩ := row5 hk.hr hy
  have g0 := row5f hk.hr ((f + l.length) % cap * 5)
  have g1 := row5f hk.hr ((f + l.length) % cap * 5 + 1)
  have g2 := row5f hk.hr ((f + l.length) % cap * 5 + 2)
  have g3 := row5f hk.hr ((f + l.length) % cap * 5 + 3)
  have g4 := row5f hk.hr ((f + l.length) % cap * 5 + 4)
  have hsr := hk.ne
  have hfin : ∀ n, Que ((put5 ((w.alloc (.cells (evC e).toArray 42)).drewN n) rb ((f + l.length) % cap) e).setCell ⟨sb, 2, none⟩ (.int .i64 ((l.length + 1 : Nat) : Int))) sb rb cap (l ++ [e]) lost := fun n =>
    Que.sent e hk hx hl
      (by simp [World.setCell, Array.getElem?_modify, put5_other _ _ _ _ hsr, hk1.hs, skC])
      ((Below.heap_setCell _ _ _ _ hsr.symm).trans (put5_heap (w := (w.alloc (.cells (evC e).toArray 42)).drewN n) e hk1.hr hp))
  obtain ⟨p, hpe⟩ : ∃ p, (f + l.length) % cap = p := ⟨_, rfl⟩
  rw [hpe] at hpl hp hfin r0 r1 r2 r3 r4 g0 g1 g2 g3 g4
  rw [hk.len] at hp
  have ec : (evC e).toArray = #[.int .i64 e.seq, .int .i64 e.act, .int .i64 e.idx, .string e.path, .string e.old] := rfl
  rw [ec] at hpl hk1 hfin ⊢
  have HP := Lib.hid hpl
  have HF := Lib.hid hfin
  have HE := Lib.hid hpe
  have hpi : (p : Int) < (cap : Int) := by omega
  have hp0 : (0 : Int) ≤ (p : Int) := by omega
  clear hk hk1 hx hpe hpl ec hfin hy
  go_enter Try.func16, Try.ntmps16
  go_wp2
  go_quiet (fail)
  go_wp2
  go_region_with (go_at_call 20; refine (HP.out _).mono ?_; rintro r W2 ⟨rfl, m, rfl⟩)
  all_goals
    go_wp2
    go_ret
    exact ⟨rfl, HF.out _, (put5_kp (((Kp.refl [sb, rb] w).alloc _).drew _) (.inl (by simp)) p e).setCell (.inl (by simp)) _⟩
end Go.Proofs.Ytikjbhjdpamceaa
