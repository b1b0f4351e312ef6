/- A range over an iterator that keeps its own state in a boxed variable: the law for the caller. Written for strings.SplitSeq. strings.SplitSeq at a separator of one byte: what its iterator hands out. -/
import Derived.RangeFuncNested
import Derived.RangeFuncBound
import Derived.RangeFuncCalls
import Derived.RangeFuncLeaves
import Derived.Test.YtldcediiobfhiaaGreatDoorQNa
import Derived.Test.YtldcediiobfhiaaGreatDoorQSh
import Derived.WalkKit
import Derived.OwnWalkIn
import Derived.TacticsIn
import Derived.TacticsInMore
import Derived.LoopNIn
import Derived.LoopIn
import Derived.RegionIn
import Derived.Shelf.RegionOpen
namespace Go.Proofs.YtldcediiobfhiaaGreatDoor.Nm
open Go.RowKit
/-- The iterator g hands the elements xs to its body, one behind the other; between two rounds it makes steps R of its own; the body keeps Kp. -/
def SeqSteps {α : Type} (F : Fence) (n : Nat) (P : Program) (g : Nat) (lb : Array Value) (encs : α → Array Value) (R Kp : World → World → Prop) (xs : List α) (W : World) : Prop :=
 ∀ (l : Nat) (J Jx : List α → World → Prop), (∀ pre A B, J pre A → R A B → J pre B) →
  (∀ pre x W1, J pre W1 → (∃ r, xs = pre ++ x :: r) → YieldAt F (n - 1) P l (encs x) W1 fun e W' =>
   (e = .returned (.bool true) ∧ J (pre ++ [x]) W' ∧ Kp W1 W') ∨ (e = .returned (.bool false) ∧ Jx (pre ++ [x]) W')) →
  J [] W →
  CallsIn F n P g (#[.func (.yield l) #[] #[]] ++ lb) W fun e W' => (∃ v, e = .returned v) ∧ (J xs W' ∨ ∃ pre, pre <+: xs ∧ Jx pre W')
variable {F : Fence} {n : Nat} {P : Program}
theorem wpIn_rangeSteps {α : Type} {g : Operand} {ps : Array Tmp} {assign body : Code} {Q : Exit → Act → World → Prop} {a : Act} {w : World}
  (hro : F.round = none) (h1 : 1 ≤ n) {gf : Nat} {lb : Array Value} (hg : a.eval g = .func (.func gf) #[] lb) (hFg : F.fn gf) (eg : ∀ args w, (callFunc gf args).run P w = .ok (.enter gf args) w)
  {encs : α → Array Value} {R Kp : World → World → Prop} {xs : List α}
  (hseq : ∀ W1, Below w.heap.size w W1 → SeqSteps F (n - 1) P gf lb encs R Kp xs W1)
  (hKt : ∀ {A B C : World}, Kp A B → Kp B C → Kp A C) (hKb : ∀ (W : World) (k : Nat) (o : Obj), w.heap.size ≤ k → Kp W (W.putObj k o))
  (hRk : ∀ A B k, w.heap.size ≤ k → R A B → B.heap[k]? = A.heap[k]?) (hps : ∀ x, (encs x).size = ps.size)
  (I : List α → World → Prop) (Ix : Code → List α → World → Prop) (hI : OwnFrom w.heap.size I) (hIx : ∀ c, OwnFrom w.heap.size (Ix c)) (hIR : ∀ pre A B, I pre A → R A B → I pre B) (h0 : I [] w) (a₁ : α → Act)
  (hassign : ∀ (l : Nat) (x : α) (W : World) (K : Act → World → Prop), K (a₁ x) W →
   assign.wpIn (F.inRound l) (n - 1 - 1) P (Exit.then K (fun _ _ _ => False)) { tmps := (ps.zip (encs x)).foldl (fun t (p, v) => t.setIfInBounds p v) a.tmps, defers := [] } W)
  (hbody : ∀ (l : Nat) (pre : List α) (x : α) (W : World), I pre W → (∃ r, xs = pre ++ x :: r) → body.wpIn (F.inRound l) (n - 1 - 1) P (ownPostG w.heap.size Kp I Ix (pre ++ [x]) W) (a₁ x) W)
  (hdone : ∀ (D : Nat) (W : World), w.heap.size ≤ D → I xs W → W.heap[D]? = some (.deferred (some [])) → Q .normal { a with defers := { target := .collected D, args := #[] } :: a.defers } W)
  (hstop : ∀ (D : Nat) (c : Code) (pre : List α) (W : World), w.heap.size ≤ D → pre <+: xs → Ix c pre W → W.heap[D]? = some (.deferred (some [])) → c.wpIn F n P Q { a with defers := { target := .collected D, args := #[] } :: a.defers } W) :
  (Code.rangeFunc g ps assign body).wpIn F n P Q a w := by
 refine wpIn_rangeFunc fun fn hfn => ?_
 rw [hro]
 obtain ⟨rec, hrec⟩ : ∃ rec : LoopState → Option Code → Loop, rec = fun st pe => { state := st, pending := pe, fn, tmps := a.tmps, params := ps, assign, body, defers := w.heap.size } := ⟨_, rfl⟩
 obtain ⟨W1, hW1⟩ : ∃ W1, (w.alloc (.deferred (some []))).alloc (.loop (rec .ready none)) = W1 := ⟨_, rfl⟩
 have hL1 : W1.heap[w.heap.size + 1]? = some (.loop (rec .ready none)) := by
  have := World.alloc_heap_new (w.alloc (.deferred (some []))) (.loop (rec .ready none))
  rw [World.size_alloc] at this
  rw [← hW1]; exact this
 have hD1 : W1.heap[w.heap.size]? = some (.deferred (some [])) := by
  rw [← hW1]; exact (Below.heap_alloc _ _ _ (by simp)).trans (World.alloc_heap_new w _)
 have hI1 : I [] W1 := by rw [← hW1]; exact hI.alloc _ (hI.alloc _ h0)
 have hb1 : Below w.heap.size w W1 := by rw [← hW1]; exact ((Below.refl _ w).alloc (Nat.le_refl _) _).alloc (by simp) _
 refine ⟨w.heap.size + 1, [{ target := .collected w.heap.size, args := #[] }], W1, { target := .fn (.func gf) lb, args := #[.func (.yield (w.heap.size + 1)) #[] #[]] }, W1, gf,
  #[.func (.yield (w.heap.size + 1)) #[] #[]] ++ lb, W1, ?_, ?_, ?_, ?_, fun _ => h1, ?_⟩
 ·rw [← hW1, hrec]; exact run_enterLoop_outer _ _ _ _ _
 ·simp only [resolve, hg]
  simp [go_sem]
 ·intro f' hf'; simp [Target.leads] at hf'; subst hf'; exact hFg
 ·simp [invoke, go_sem, eg]
 ·refine (hseq W1 hb1 (w.heap.size + 1)
   (fun pre W => I pre W ∧ W.heap[w.heap.size + 1]? = some (.loop (rec .ready none)) ∧ W.heap[w.heap.size]? = some (.deferred (some [])))
   (fun pre W => ∃ c, Ix c pre W ∧ W.heap[w.heap.size + 1]? = some (.loop (rec .done (some c))) ∧ W.heap[w.heap.size]? = some (.deferred (some [])))
   (fun pre A B hA hR => ⟨hIR pre A B hA.1 hR, (hRk A B _ (by omega) hR).trans hA.2.1, (hRk A B _ (Nat.le_refl _) hR).trans hA.2.2⟩) ?_ ⟨hI1, hL1, hD1⟩).mono ?_
  ·rintro pre x W ⟨hi, hl, hd⟩ hx
   have hlt : w.heap.size + 1 < W.heap.size := (Array.getElem?_eq_some_iff.1 hl).1
   have hy := run_yield (P := P) (args := encs x) hl (by rw [hrec]; exact hps x)
   rw [hrec] at hy
   refine ⟨fn, _, assign, body, hy, roundIn_of_wpIn hfn (hassign _ x W _ ⟨_, run_beginRound hl (by rw [hrec]), ?_⟩)⟩
   clear hy
   obtain ⟨W2, hW2⟩ : ∃ W2, W.putObj (w.heap.size + 1) (.loop { rec .ready none with state := .busy }) = W2 := ⟨_, rfl⟩
   have hl2 : W2.heap[w.heap.size + 1]? = some (.loop { rec .ready none with state := .busy }) := by rw [← hW2]; exact World.putObj_heap_same hlt
   have hd2 : W2.heap[w.heap.size]? = some (.deferred (some [])) := by rw [← hW2]; exact (World.putObj_heap_other (by omega)).trans hd
   have hi2 : I pre W2 := by rw [← hW2]; exact hI.putObj _ hi (by omega) hl rfl
   have hk2 : Kp W W2 := by rw [← hW2]; exact hKb _ _ _ (by omega)
   rw [hW2]
   refine wpIn_mono (hbody _ pre x W2 hi2 hx) ?_
   have fin : ∀ (jump : Option Code) (W3 : World), KeepsFrom w.heap.size W2 W3 →
     ∃ W4, (Instr.endRound (w.heap.size + 1) jump).run P W3 = .ok (.bool jump.isNone) W4 ∧ W4 = W3.putObj (w.heap.size + 1) (.loop (rec (if jump.isNone then .ready else .done) jump)) ∧
      W3.heap[w.heap.size + 1]? = some (.loop { rec .ready none with state := .busy }) ∧
      W4.heap[w.heap.size + 1]? = some (.loop (rec (if jump.isNone then .ready else .done) jump)) ∧ W4.heap[w.heap.size]? = some (.deferred (some [])) := by
    intro jump W3 hk3
    have hl3 := hk3.same _ _ (by omega) hl2 rfl
    have hd3 := hk3.same _ _ (Nat.le_refl _) hd2 rfl
    have hr := run_endRound (P := P) jump hl3
    subst hrec
    exact ⟨_, hr, rfl, hl3, World.putObj_heap_same (Array.getElem?_eq_some_iff.1 hl3).1, (World.putObj_heap_other (by omega)).trans hd3⟩
   have leave : ∀ (c : Code) (W3 : World), KeepsFrom w.heap.size W2 W3 → Ix c (pre ++ [x]) W3 →
     ∃ v W4, (Instr.endRound (w.heap.size + 1) (some c)).run P W3 = .ok v W4 ∧
      (((Ending.returned v) = .returned (.bool true) ∧ (I (pre ++ [x]) W4 ∧ W4.heap[w.heap.size + 1]? = some (.loop (rec .ready none)) ∧ W4.heap[w.heap.size]? = some (.deferred (some []))) ∧ Kp W W4) ∨
       ((Ending.returned v) = .returned (.bool false) ∧ ∃ c, Ix c (pre ++ [x]) W4 ∧ W4.heap[w.heap.size + 1]? = some (.loop (rec .done (some c))) ∧ W4.heap[w.heap.size]? = some (.deferred (some [])))) := by
    intro c W3 hk3 hx3
    obtain ⟨W4, hr, hW4, hl3, hl4, hd4⟩ := fin (some c) W3 hk3
    exact ⟨_, W4, hr, .inr ⟨rfl, c, by rw [hW4]; exact (hIx c).putObj _ hx3 (by omega) hl3 rfl, hl4, hd4⟩⟩
   rintro e a3 W3 hp
   cases e with
   | normal =>
    obtain ⟨hk3, hkp3, hi3⟩ := hp
    obtain ⟨W4, hr, hW4, hl3, hl4, hd4⟩ := fin none W3 hk3
    exact ⟨_, W4, hr, .inl ⟨rfl, ⟨by rw [hW4]; exact hI.putObj _ hi3 (by omega) hl3 rfl, hl4, hd4⟩, by rw [hW4]; exact hKt (hKt hk2 hkp3) (hKb _ _ _ (by omega))⟩⟩
   | ret => exact leave .ret W3 hp.1 hp.2
   | exit id => exact leave (.exit id) W3 hp.1 hp.2
   | goto t => exact leave (.goto t) W3 hp.1 hp.2
   | panic ch => exact hp.elim
   | outgrown => exact hp.elim
  ·rintro e W2 ⟨⟨v, rfl⟩, (⟨hi, hl, hd⟩ | ⟨pre, hpre, c, hi, hl, hd⟩)⟩
   ·refine ⟨none, _, by have := run_endLoop (P := P) hl (by rw [hrec]; simp); rw [hrec] at this; exact this, ?_⟩
    exact hdone _ _ (Nat.le_refl _) (hI.putObj _ hi (by omega) hl rfl) ((World.putObj_heap_other (by omega)).trans hd)
   ·refine ⟨some c, _, by have := run_endLoop (P := P) hl (by rw [hrec]; simp); rw [hrec] at this; exact this, ?_⟩
    exact hstop _ c pre _ (Nat.le_refl _) hpre ((hIx c).putObj _ hi (by omega) hl rfl) ((World.putObj_heap_other (by omega)).trans hd)
end Go.Proofs.YtldcediiobfhiaaGreatDoor.Nm
namespace Go.Proofs.YtldcediiobfhiaaGreatDoor.Nm
open Go.RowKit Go.Shelf
attribute [local go_sem] Oper.semAt_some
/-- The pieces of l between the bytes c. -/
def pieces (c : UInt8) : List UInt8 → List (List UInt8)
 | [] => [[]]
 | x :: r => if x = c then [] :: pieces c r else
  match pieces c r with
  | [] => [[x]]
  | p :: ps => (x :: p) :: ps
theorem pieces_ne (c : UInt8) : ∀ l, pieces c l ≠ []
 | [] => by simp [pieces]
 | x :: r => by
  unfold pieces
  split
  ·simp
  ·split <;> simp
theorem pieces_none (c : UInt8) : ∀ l, Lib.indexByte l c < 0 → pieces c l = [l]
 | [], _ => rfl
 | x :: r, h => by
  by_cases hx : x = c
  ·subst hx; simp [Lib.indexByte] at h
  ·have hr : Lib.indexByte r c < 0 := by
    unfold Lib.indexByte at h
    rw [if_neg (by simpa using hx)] at h
    split at h
    ·rename_i h1; have := eq_of_beq h1; omega
    ·have := Lib.indexByte_ge r c; omega
   rw [pieces, if_neg hx, pieces_none c r hr]
theorem pieces_some (c : UInt8) : ∀ l (o : Nat), Lib.indexByte l c = (o : Int) → pieces c l = l.take o :: pieces c (l.drop (o + 1))
 | [], o, h => by simp [Lib.indexByte] at h
 | x :: r, o, h => by
  by_cases hx : x = c
  ·subst hx
   simp [Lib.indexByte] at h
   obtain rfl : o = 0 := by omega
   simp [pieces]
  ·unfold Lib.indexByte at h
   rw [if_neg (by simpa using hx)] at h
   split at h
   ·omega
   ·rename_i h1
    have h2 := Lib.indexByte_ge r c
    have h3 : Lib.indexByte r c ≠ -1 := by simpa using h1
    obtain ⟨k, rfl⟩ : ∃ k, o = k + 1 := ⟨o - 1, by omega⟩
    rw [pieces, if_neg hx, pieces_some c r k (by omega)]
    simp
theorem index_lt {l : List UInt8} {c : UInt8} {o : Nat} (h : Lib.indexByte l c = (o : Int)) : o < l.length := by
 have := (Lib.indexByte_some h).1
 exact (List.getElem?_eq_some_iff.1 this).1
def piecesB (c : UInt8) (s : ByteArray) : List ByteArray := (pieces c s.data.toList).map fun p => ⟨p.toArray⟩
theorem toArray_toList (s : ByteArray) : (⟨s.data.toList.toArray⟩ : ByteArray) = s := by cases s; simp
theorem piecesB_none (c : UInt8) (s : ByteArray) (h : Lib.indexByte s.data.toList c < 0) : piecesB c s = [s] := by
 unfold piecesB
 rw [pieces_none c _ h]
 simp only [List.map_cons, List.map_nil, toArray_toList]
theorem piecesB_some (c : UInt8) (s : ByteArray) (o : Nat) (h : Lib.indexByte s.data.toList c = (o : Int)) : piecesB c s = s.extract 0 o :: piecesB c (s.extract (o + 1) s.size) := by
 unfold piecesB
 rw [pieces_some c _ o h, Lib.extract_to_end, Lib.extract_eq s 0 o]
 simp
/-- The three boxes of an iterator of SplitSeq, laid at n0. -/
structure Boxes (n0 : Nat) (c : UInt8) (r : ByteArray) (W : World) : Prop where
 s : W.cell? ⟨n0, 0, none⟩ = some (.string r)
 f : W.frozen? ⟨n0, 0, none⟩ = false
 sep : W.cell? ⟨n0 + 1, 0, none⟩ = some (.string ⟨#[c]⟩)
 save : W.cell? ⟨n0 + 2, 0, none⟩ = some (.int .i64 0)
def KpBox (n0 : Nat) (A B : World) : Prop := ∀ k, n0 ≤ k → k < n0 + 3 → B.heap[k]? = A.heap[k]?
def StBox (n0 : Nat) (A B : World) : Prop := ∃ v, B = A.setCell ⟨n0, 0, none⟩ v
theorem Boxes.kept {n0 : Nat} {c : UInt8} {r : ByteArray} {A B : World} (h : Boxes n0 c r A) (k : KpBox n0 A B) : Boxes n0 c r B :=
 ⟨(World.cell?_of_block (k n0 (by omega) (by omega))).trans h.s, (World.frozen?_of_block (k n0 (by omega) (by omega))).trans h.f,
  (World.cell?_of_block (k (n0 + 1) (by omega) (by omega))).trans h.sep, (World.cell?_of_block (k (n0 + 2) (by omega) (by omega))).trans h.save⟩
theorem Boxes.set {n0 : Nat} {c : UInt8} {r : ByteArray} {A : World} (h : Boxes n0 c r A) (r' : ByteArray) : Boxes n0 c r' (A.setCell ⟨n0, 0, none⟩ (.string r')) := by
 refine ⟨World.cell?_setCell_same' _ _ _ (by rw [h.s]; rfl), by rw [World.frozen?_setCell]; exact h.f, ?_, ?_⟩
 ·exact (World.cell?_of_block (Below.heap_setCell _ _ _ _ (by simp))).trans h.sep
 ·exact (World.cell?_of_block (Below.heap_setCell _ _ _ _ (by simp))).trans h.save
def boxLen (n0 : Nat) (W : World) : Nat := match W.cell? ⟨n0, 0, none⟩ with
 | some (.string r) => r.size
 | _ => 0
theorem boxLen_eq {n0 : Nat} {c : UInt8} {r : ByteArray} {W : World} (h : Boxes n0 c r W) : boxLen n0 W = r.size := by unfold boxLen; rw [h.s]
set_option maxRecDepth 100000 in
set_option maxHeartbeats 1000000 in
theorem split_steps (n n0 : Nat) (c : UInt8) (s : ByteArray) (hs : s.size ≤ 4611686018427387904) (W : World) (hW : Boxes n0 c s W) :
  SeqSteps Fence.wide n Tryz.prog 171 #[.pointer (some ⟨n0 + 1, 0, none⟩), .pointer (some ⟨n0, 0, none⟩), .pointer (some ⟨n0 + 2, 0, none⟩)] (fun x : ByteArray => #[.string x])
   (StBox n0) (KpBox n0) (piecesB c s) W := by
 intro l J Jx hJR hY h0
 refine callsIn_of_wp Tryz.func171 rfl trivial ?_ rfl
 simp only [Tryz.ntmps171, List.size_toArray, List.length_cons, List.length_nil, Nat.reduceAdd, Nat.reduceSub, Array.replicate_succ, Array.replicate_zero, List.push_toArray, List.append_toArray, List.nil_append, List.cons_append]
 have hsep := hW.sep
 gi_wp2
 gi_loopw [7] (fun _ wr => ∃ (pre : List ByteArray) (r : ByteArray), r.size ≤ 4611686018427387904 ∧ piecesB c s = pre ++ piecesB c r ∧ Boxes n0 c r wr ∧ J pre wr) (fun _ wr => boxLen n0 wr)
 case atStart => exact ⟨[], s, hs, rfl, hW, h0⟩
 case round =>
  obtain ⟨pre, r, hr, hx, hb, hJ⟩ := hrel
  have Hx := Lib.hid hx
  clear hx
  have h1 := hb.s
  have h2 := hb.sep
  have h3 := hb.save
  by_cases hneg : Lib.indexByte r.data.toList c < 0
  ·have hi : Lib.indexByte r.data.toList c = -1 := by have := Lib.indexByte_ge r.data.toList c; omega
   have hidx : ∀ W', Calls Tryz.prog 142 #[.string r, .string ⟨#[c]⟩] W' fun e w' => e = .returned (.int .i64 (-1)) ∧ w' = W' := fun W' => by rw [← hi]; exact Tryz.strings_Index_one r c W'
   obtain ⟨fn, tmps, assign, body, hy, hR⟩ := hY pre r wr hJ ⟨[], by rw [Hx.out, piecesB_none c r hneg]⟩
   have Hn := Lib.hid (piecesB_none c r hneg)
   clear hi hneg
   have Hidx := Lib.hid hidx
   clear hidx
   gi_wp2_with fail
   refine ⟨trivial, fun h => (by cases h), (callsIn_wide.2 (Hidx.out _)).mono ?_⟩
   rintro e w' ⟨rfl, rfl⟩
   gi_wp2
   refine ⟨fun h => (by cases h), hR.mono ?_⟩
   rintro e W3 (⟨rfl, hJ3, hk3⟩ | ⟨rfl, hJx3⟩)
   ·gi_wp2
    go_end0
    exact ⟨⟨_, rfl⟩, .inl (by rw [Hx.out, Hn.out]; exact hJ3)⟩
   ·gi_wp2
    go_end0
    exact ⟨⟨_, rfl⟩, .inr ⟨_, by rw [Hx.out, Hn.out]; exact List.prefix_refl _, hJx3⟩⟩
  ·obtain ⟨o, ho⟩ : ∃ o : Nat, Lib.indexByte r.data.toList c = (o : Int) := ⟨(Lib.indexByte r.data.toList c).toNat, by omega⟩
   have hidx : ∀ W', Calls Tryz.prog 142 #[.string r, .string ⟨#[c]⟩] W' fun e w' => e = .returned (.int .i64 (o : Int)) ∧ w' = W' := fun W' => by rw [← ho]; exact Tryz.strings_Index_one r c W'
   have Hs := Lib.hid (piecesB_some c r o ho)
   have hlt : o < r.size := by have := index_lt ho; rwa [← Lib.size_eq] at this
   have hlt' : (o : Int) < (r.size : Int) := by omega
   obtain ⟨fn, tmps, assign, body, hy, hR⟩ := hY pre (r.extract 0 o) wr hJ ⟨piecesB c (r.extract (o + 1) r.size), by rw [Hx.out, Hs.out]⟩
   clear ho hneg
   have Hidx := Lib.hid hidx
   clear hidx
   gi_wp2_with fail
   refine ⟨trivial, fun h => (by cases h), (callsIn_wide.2 (Hidx.out _)).mono ?_⟩
   rintro e w' ⟨rfl, rfl⟩
   gi_wp2
   refine ⟨fun h => (by cases h), hR.mono ?_⟩
   rintro e W3 (⟨rfl, hJ3, hk3⟩ | ⟨rfl, hJx3⟩)
   ·have hb3 := hb.kept hk3
    have g1 := hb3.s
    have g2 := hb3.sep
    have g3 := hb3.save
    have g4 := hb3.f
    gi_wp2
    go_roundw
    case rel => exact ⟨pre ++ [r.extract 0 o], r.extract (o + 1) r.size, by simp; omega, by rw [Hx.out, Hs.out]; simp, hb3.set _, hJR _ _ _ hJ3 ⟨_, rfl⟩⟩
    case measure => rw [boxLen_eq (hb3.set _), boxLen_eq hb]; simp; omega
   ·gi_wp2
    refine bodyPost_ret (results_none rfl _ _ _) rfl ?_
    exact ⟨⟨_, rfl⟩, .inr ⟨_, by rw [Hx.out, Hs.out]; exact ⟨piecesB c (r.extract (o + 1) r.size), by simp⟩, hJx3⟩⟩
end Go.Proofs.YtldcediiobfhiaaGreatDoor.Nm
