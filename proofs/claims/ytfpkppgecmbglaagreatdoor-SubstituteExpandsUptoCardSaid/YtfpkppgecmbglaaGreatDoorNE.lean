
/- Which texts are paths: a walk through a range over strings.SplitSeq. -/
import Derived.Test.YtfpkppgecmbglaaGreatDoorNB
import Derived.Test.YtfpkppgecmbglaaGreatDoorNSplit
import Derived.RangeFuncBox
namespace Go.Proofs.YtfpkppgecmbglaaGreatDoor.Nm
open Go.RowKit Go.Shelf

attribute [local go_sem] Oper.semAt_some

def splitWorld (w : World) (s sep : ByteArray) : World := ((w.alloc (.cells #[.string s] 9)).alloc (.cells #[.string sep] 9)).alloc (.cells #[.int .i64 0] 3)
def splitFn (n0 : Nat) : Value := .func (.func 157) #[] #[.pointer (some ⟨n0 + 1, 0, none⟩), .pointer (some ⟨n0, 0, none⟩), .pointer (some ⟨n0 + 2, 0, none⟩)]

set_option maxHeartbeats 400000 in
theorem splitSeq0_any (s sep : ByteArray) (w : World) :
    Calls Tryz.prog 145 #[.string s, .string sep, .int .i64 0] w fun e w' => e = .returned (splitFn w.heap.size) ∧ w' = splitWorld w s sep := by
  go_enter Tryz.func145, Tryz.ntmps145
  go_wp2
  go_ret
  exact ⟨rfl, rfl⟩

set_option maxHeartbeats 400000 in
theorem splitSeq_any (s sep : ByteArray) (w : World) :
    Calls Tryz.prog 136 #[.string s, .string sep] w fun e w' => e = .returned (splitFn w.heap.size) ∧ w' = splitWorld w s sep := by
  go_enter Tryz.func136, Tryz.ntmps136
  go_wp2_with (go_at_call 145; refine (splitSeq0_any _ _ _).mono ?_; rintro e w' ⟨rfl, rfl⟩)
  go_ret
  exact ⟨rfl, rfl⟩

theorem splitWorld_size (w : World) (s sep : ByteArray) : (splitWorld w s sep).heap.size = w.heap.size + 3 := by simp [splitWorld]
theorem splitWorld_below (w : World) (s sep : ByteArray) : Below w.heap.size w (splitWorld w s sep) :=
  (((Below.refl _ w).alloc (Nat.le_refl _) _).alloc (by simp) _).alloc (by simp; omega) _
theorem splitWorld_boxes (w : World) (s : ByteArray) (c : UInt8) : Boxes w.heap.size c s (splitWorld w s ⟨#[c]⟩) := by
  have h1 : (splitWorld w s ⟨#[c]⟩).heap[w.heap.size]? = some (.cells #[.string s] 9) := by
    unfold splitWorld
    rw [heap_alloc_old _ _ (by simp; omega), heap_alloc_old _ _ (by simp), heap_alloc_new]
  have h2 : (splitWorld w s ⟨#[c]⟩).heap[w.heap.size + 1]? = some (.cells #[.string ⟨#[c]⟩] 9) := by
    unfold splitWorld
    rw [heap_alloc_old _ _ (by simp)]
    exact heap_alloc2_new w _ _
  have h3 : (splitWorld w s ⟨#[c]⟩).heap[w.heap.size + 2]? = some (.cells #[.int .i64 0] 3) := by
    unfold splitWorld
    have := heap_alloc_new ((w.alloc (.cells #[.string s] 9)).alloc (.cells #[.string ⟨#[c]⟩] 9)) (.cells #[.int .i64 0] 3)
    simpa using this
  exact ⟨(cell_of_row _ _ _ _ _ _ h1).trans rfl, frozen_of_row _ _ _ _ _ h1, (cell_of_row _ _ _ _ _ _ h2).trans rfl, (cell_of_row _ _ _ _ _ _ h3).trans rfl⟩

theorem results_cell_one {fn : Func} {p : Tmp} {ty : TypeId} {tmps : Array Value} {w : World} {a : Addr} {v : Value} (h : fn.results = #[.cell p ty]) (hp : tmps.getD p undef = .pointer (some a))
    (hl : (loadVar ty a).run Tryz.prog w = .ok v w) : (results fn tmps).run Tryz.prog w = .ok v w := by
  have hp' : tmps[p]?.getD undef = .pointer (some a) := by simpa using hp
  simp [results, h, hp', asAddr, hl]

theorem load_bool {w : World} {a : Addr} {v : Bool} (hc : w.cell? a = some (.bool v)) : (loadVar 4 a).run Tryz.prog w = .ok (.bool v) w := by
  simp [go_sem, hc]

/-- A range over strings.SplitSeq at a separator of one byte. -/
theorem wp_rangeSplit {g : Operand} {ps : Array Tmp} {assign body : Code} {Q : Exit → Act → World → Prop} {a : Act} {n : Nat} (h1 : 1 ≤ n) (w : World) (s : ByteArray) (c : UInt8) (hs : s.size ≤ 4611686018427387904)
    (hg : a.eval g = splitFn w.heap.size) (hps : ps.size = 1)
    (I : List ByteArray → World → Prop) (Ix : Code → List ByteArray → World → Prop) (hI : OwnFrom (w.heap.size + 3) I) (hIx : ∀ c, OwnFrom (w.heap.size + 3) (Ix c))
    (hIR : ∀ pre A v, I pre A → I pre (A.setCell ⟨w.heap.size, 0, none⟩ v)) (hIxR : ∀ c pre A v, Ix c pre A → Ix c pre (A.setCell ⟨w.heap.size, 0, none⟩ v)) (h0 : I [] (splitWorld w s ⟨#[c]⟩)) (a₁ : ByteArray → Act)
    (hassign : ∀ (l : Nat) (x : ByteArray) (W : World) (K : Act → World → Prop), K (a₁ x) W →
      assign.wpIn (Fence.wide.inRound l) (n - 1 - 1) Tryz.prog (Exit.then K (fun _ _ _ => False)) { tmps := (ps.zip #[.string x]).foldl (fun t (p, v) => t.setIfInBounds p v) a.tmps, defers := [] } W)
    (hbody : ∀ (l : Nat) (pre : List ByteArray) (x : ByteArray) (W : World), I pre W → (∃ r, piecesB c s = pre ++ x :: r) →
      body.wpIn (Fence.wide.inRound l) (n - 1 - 1) Tryz.prog (ownPostG (w.heap.size + 3) (KpBox w.heap.size) I Ix (pre ++ [x]) W) (a₁ x) W)
    (hdone : ∀ (D : Nat) (W : World), w.heap.size + 3 ≤ D → I (piecesB c s) W → W.heap[D]? = some (.deferred (some [])) → Q .normal { a with defers := { target := .collected D, args := #[] } :: a.defers } W)
    (hstop : ∀ (D : Nat) (cd : Code) (pre : List ByteArray) (W : World), w.heap.size + 3 ≤ D → pre <+: piecesB c s → Ix cd pre W → W.heap[D]? = some (.deferred (some [])) →
      cd.wp Tryz.prog Q { a with defers := { target := .collected D, args := #[] } :: a.defers } W) :
    (Code.rangeFunc g ps assign body).wp Tryz.prog Q a (splitWorld w s ⟨#[c]⟩) := by
  have hsz := splitWorld_size w s ⟨#[c]⟩
  refine (wpIn_wide (n := n)).1 (wpIn_rangeSteps rfl h1 (gf := 157) (encs := fun x : ByteArray => #[.string x]) (R := StBox w.heap.size) (Kp := KpBox w.heap.size) (m := 0) (xs := piecesB c s) hg trivial (enters_of Tryz.func157 (by kernel_rfl) rfl)
    ?_ ?_ ?_ ?_ (fun x => by rw [hps]; rfl) I Ix (by rw [hsz]; exact hI) (by rw [hsz]; exact hIx) ?_ ?_ h0 a₁ hassign ?_ ?_ ?_)
  · intro W1 hb _
    have hb' := splitWorld_boxes w s c
    refine split_steps _ _ _ _ hs _ (hb'.kept fun k _ h2 => hb.block k (by rw [hsz]; exact h2))
  · intro A B C h k j h2 h3
    exact (k j h2 h3).trans (h j h2 h3)
  · intro W o j h2 h3
    exact World.putObj_heap_other (by omega)
  · rintro A B k o hk _ ⟨v, rfl⟩ ho
    exact (Below.heap_setCell _ _ _ _ (by show k ≠ w.heap.size; omega)).trans ho
  · rintro pre A B hA ⟨v, rfl⟩
    exact hIR pre A v hA
  · rintro c pre A B hA ⟨v, rfl⟩
    exact hIxR c pre A v hA
  · rw [hsz]; exact fun l pre x W h1 h2 _ => hbody l pre x W h1 h2
  · rw [hsz]; exact hdone
  · rw [hsz]
    intro D cd pre W hD hp hx hd
    exact (wpIn_wide (n := n)).2 (hstop D cd pre W hD hp hx hd)

/-- All blocks of ws but block m lie as they lay. -/
structure Around (m : Nat) (ws W : World) : Prop where
  os : W.os = ws.os
  tape : W.tape = ws.tape
  output : W.output = ws.output
  size : ws.heap.size ≤ W.heap.size
  block : ∀ k, k < ws.heap.size → k ≠ m → W.heap[k]? = ws.heap[k]?
theorem Around.refl (m : Nat) (ws : World) : Around m ws ws := ⟨rfl, rfl, rfl, Nat.le_refl _, fun _ _ _ => rfl⟩
theorem Around.set {m : Nat} {ws W : World} (h : Around m ws W) (v : Value) : Around m ws (W.setCell ⟨m, 0, none⟩ v) :=
  ⟨h.os, h.tape, h.output, by simpa [World.setCell] using h.size, fun k hk hm => (Below.heap_setCell _ _ _ _ (by exact hm)).trans (h.block k hk hm)⟩
theorem Around.drewN {m : Nat} {ws W : World} (h : Around m ws W) (n : Nat) : Around m ws (W.drewN n) := ⟨h.os, h.tape, h.output, h.size, h.block⟩
theorem Around.own {β : Type} {B : Nat} (p : β → Prop) (m : Nat) (ws : World) (hB : ws.heap.size ≤ B) : OwnFrom B (fun s W => p s ∧ Around m ws W) := by
  rintro s A C row ⟨hp, hA⟩ hg hr
  exact ⟨hp, hg.os.trans hA.os, hg.tape.trans hA.tape, hg.output.trans hA.output, Nat.le_trans hA.size hg.size, fun k hk hm =>
    (hg.block k (Nat.lt_of_lt_of_le hk hA.size) (fun e => by have := (hr k e.symm).1; omega)).trans (hA.block k hk hm)⟩
theorem Around.below {m B : Nat} {ws W : World} (h : Around m ws W) (hm : B ≤ m) (hB : B ≤ ws.heap.size) : Below B ws W :=
  ⟨h.os, h.tape, h.output, h.size, fun k hk => h.block k (by omega) (by omega)⟩
theorem Around.cell {m : Nat} {ws W : World} (h : Around m ws W) {a : Addr} (hk : a.block < ws.heap.size) (hm : a.block ≠ m) : W.cell? a = ws.cell? a := World.cell?_of_block (h.block _ hk hm)
theorem Around.frozen {m : Nat} {ws W : World} (h : Around m ws W) {a : Addr} (hk : a.block < ws.heap.size) (hm : a.block ≠ m) : W.frozen? a = ws.frozen? a := World.frozen?_of_block (h.block _ hk hm)

theorem pieces_len (c : UInt8) : ∀ l, ∀ p ∈ pieces c l, p.length ≤ l.length
  | [], p, h => by simp [pieces] at h; subst h; simp
  | x :: r, p, h => by
    have ih := pieces_len c r
    unfold pieces at h
    split at h
    · simp only [List.mem_cons] at h
      rcases h with rfl | h
      · simp
      · have := ih p h; simp; omega
    · split at h
      · simp at h; subst h; simp
      · rename_i q qs hq
        rw [hq] at ih
        simp only [List.mem_cons] at h
        rcases h with rfl | h
        · have := ih q (List.mem_cons_self ..); simp; omega
        · have := ih p (List.mem_cons_of_mem _ h); simp; omega

theorem piecesB_size {c : UInt8} {s x : ByteArray} (h : x ∈ piecesB c s) : x.size ≤ s.size := by
  obtain ⟨p, hp, rfl⟩ := List.mem_map.1 h
  have := pieces_len c _ p hp
  rw [← Lib.size_eq] at this
  show p.toArray.size ≤ s.size
  rw [List.size_toArray]
  exact this
theorem piecesB_size' {c : UInt8} {s x : ByteArray} {pre : List ByteArray} (h : ∃ r, piecesB c s = pre ++ x :: r) : x.size ≤ s.size := by
  obtain ⟨r, hr⟩ := h
  exact piecesB_size (c := c) (by rw [hr]; simp)

theorem cell_putObj {W : World} {k : Nat} (o : Obj) {a : Addr} (h : a.block ≠ k) : (W.putObj k o).cell? a = W.cell? a := World.cell?_of_block (World.putObj_heap_other h)
theorem frozen_putObj {W : World} {k : Nat} (o : Obj) {a : Addr} (h : a.block ≠ k) : (W.putObj k o).frozen? a = W.frozen? a := World.frozen?_of_block (World.putObj_heap_other h)
theorem below_putObj {B : Nat} {w0 W : World} (h : Below B w0 W) {k : Nat} (hk : B ≤ k) (o : Obj) : Below B w0 (W.putObj k o) :=
  h.trans ⟨rfl, rfl, rfl, by simp, fun j hj => World.putObj_heap_other (by omega)⟩
theorem ownFrom_cell {β : Type} {B : Nat} (p : β → Prop) {w0 : World} {n0 : Nat} {a : Addr} {v : Value} (ha : a.block < B) (hn : n0 ≤ w0.heap.size) (hB : n0 ≤ B) :
    OwnFrom B (fun (s : β) W => p s ∧ W.cell? a = some v ∧ Below n0 w0 W) := by
  rintro s A C row ⟨hp, hc, hb⟩ hg hr
  refine ⟨hp, (World.cell?_of_block (hg.block _ (block_lt_of_cell hc) fun e => ?_)).trans hc, ownFrom_below (β := Unit) hn hB () A C row hb hg hr⟩
  have := (hr _ e.symm).1
  omega

theorem piecesB_all (c : UInt8) (s : ByteArray) (f : List UInt8 → Bool) : ((piecesB c s).all fun x => f x.data.toList) = (pieces c s.data.toList).all f := by
  simp [piecesB, List.all_map, Function.comp_def]
theorem all_prefix {α : Type} {f : α → Bool} {p l : List α} (h : p <+: l) (hf : p.all f = false) : l.all f = false := by
  obtain ⟨r, rfl⟩ := h
  rw [List.all_append, hf, Bool.false_and]

end Go.Proofs.YtfpkppgecmbglaaGreatDoor.Nm
