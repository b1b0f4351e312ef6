/- The iterator over the words of a text. -/
import Derived.Test.YtfpkppgecmbglaaGreatDoorO
import Derived.Test.YtfpkppgecmbglaaGreatDoorNE
namespace Go.Proofs.YtfpkppgecmbglaaGreatDoor
open Go.RowKit Go.Shelf

attribute [local go_sem] Oper.semAt_some

/-- A step of the iterator over words, whose own blocks are n to n + 3: what lies below stays, and all other cells. -/
structure Rw (n : Nat) (A B : World) : Prop where
  os : B.os = A.os
  tape : B.tape = A.tape
  output : B.output = A.output
  size : A.heap.size ≤ B.heap.size
  low : ∀ k, k < A.heap.size → k < n → B.heap[k]? = A.heap[k]?
  high : ∀ k o, n + 4 ≤ k → A.heap[k]? = some o → o.isCells = true → B.heap[k]? = some o
theorem Rw.alloc (n : Nat) (A : World) (o : Obj) : Rw n A (A.alloc o) :=
  ⟨rfl, rfl, rfl, by simp, fun k hk _ => Below.heap_alloc _ _ _ hk, fun k o' _ h _ => (Below.heap_alloc _ _ _ (block_lt h)).trans h⟩
theorem Rw.of_grown {n : Nat} {A B : World} {row : Option Nat} (hg : A.grownBy B row) (hr : ∀ r, row = some r → n + 4 ≤ r ∧ ∃ o : Obj, A.heap[r]? = some o ∧ o.isCells = false) : Rw n A B :=
  ⟨hg.os, hg.tape, hg.output, hg.size, fun k hk hn => hg.block k hk fun e => by have := (hr k e.symm).1; omega, fun k o hn h ho => (hg.block k (block_lt h) fun e => by
    obtain ⟨_, o', h1, h2⟩ := hr k e.symm
    rw [h1] at h
    cases h
    rw [ho] at h2
    cases h2).trans h⟩
theorem Rw.setCell (n : Nat) (A : World) (m : Nat) (v : Value) (h1 : n ≤ m) (h2 : m < n + 4) : Rw n A (A.setCell ⟨m, 0, none⟩ v) :=
  ⟨rfl, rfl, rfl, by simp [World.setCell], fun k _ hn => Below.heap_setCell _ _ _ _ (by show k ≠ m; omega), fun k o hn h _ => (Below.heap_setCell _ _ _ _ (by show k ≠ m; omega)).trans h⟩
/-- What a round keeps for the iterator over words. -/
structure Kw (n : Nat) (A B : World) : Prop where
  size : A.heap.size ≤ B.heap.size
  mid : ∀ k, n ≤ k → k < n + 4 → k < A.heap.size → B.heap[k]? = A.heap[k]?
  recs : ∀ k o, n + 4 ≤ k → A.heap[k]? = some o → o.isCells = false → B.heap[k]? = some o
theorem Kw.trans {n : Nat} {A B C : World} (h : Kw n A B) (g : Kw n B C) : Kw n A C :=
  ⟨Nat.le_trans h.size g.size, fun k h1 h2 h3 => (g.mid k h1 h2 (Nat.lt_of_lt_of_le h3 h.size)).trans (h.mid k h1 h2 h3), fun k o h1 h2 h3 => g.recs k o h1 (h.recs k o h1 h2 h3) h3⟩
/-- The words, as texts. -/
def wordsB (s : ByteArray) : List ByteArray := (Nm.piecesB 32 s).filter fun x => !x.toList.isEmpty
theorem pieces_split (c : UInt8) : ∀ l : List UInt8, Nm.pieces c l = splitL c l
  | [] => rfl
  | b :: l => by
    rw [Nm.pieces, splitL, pieces_split c l]
    by_cases h : b = c
    · rw [if_pos h, if_pos h]
    · rw [if_neg h, if_neg h]
      cases splitL c l <;> rfl
theorem wordsB_eq (s : List UInt8) : wordsB (bs s) = (wordsL s).map bs := by
  unfold wordsB wordsL Nm.piecesB
  rw [bs_data, pieces_split, List.filter_map]
  congr 1
  apply List.filter_congr
  intro x _
  show (!(bs x).toList.isEmpty) = _
  rw [bs_isEmpty]
theorem YieldAt.wide_any {m m' l' : Nat} {P : Program} {l : Nat} {args : Array Value} {W : World} {R : Ending → World → Prop} (h : YieldAt Fence.wide m P l args W R) : YieldAt (Fence.wide.inRound l') m' P l args W R := by
  obtain ⟨fn, tmps, assign, body, hy, hf, hr⟩ := h
  exact ⟨fn, tmps, assign, body, hy, hf, fun c cs _ => hr c cs (room_wide _)⟩
theorem filter_snoc_yes {p : ByteArray → Bool} {l : List ByteArray} {x : ByteArray} (h : p x = true) : (l ++ [x]).filter p = l.filter p ++ [x] := by simp [h]
theorem filter_snoc_no {p : ByteArray → Bool} {l : List ByteArray} {x : ByteArray} (h : p x = false) : (l ++ [x]).filter p = l.filter p := by simp [h]

set_option maxHeartbeats 4000000 in
set_option maxRecDepth 100000 in
theorem words_steps (n bx N0 : Nat) (s : ByteArray) (hs : s.size ≤ 4611686018427387904) (w : World) (hN : w.heap.size = N0) (hbx : bx < N0) (hc : w.cell? ⟨bx, 0, none⟩ = some (.string s)) :
    Nm.SeqSteps Fence.wide n Tryz.prog 135 #[.pointer (some ⟨bx, 0, none⟩)] (fun x : ByteArray => #[.string x]) (Rw N0) (Kw N0) (N0 + 4) (wordsB s) w := by
  intro l J Jx hJR hJxR hY h0
  refine callsIn_of_wp_marks Tryz.func135 rfl trivial (wpIn_wide.2 ?_) rfl
  simp only [Tryz.ntmps135, List.size_toArray, List.length_cons, List.length_nil, Nat.reduceAdd, Nat.reduceSub, Array.replicate_succ, Array.replicate_zero, List.push_toArray, List.append_toArray, List.nil_append, List.cons_append]
  go_wp2_with (first | (go_at_call 136; refine (Nm.splitSeq_any _ _ _).mono ?_; rintro e w' ⟨rfl, rfl⟩))
  obtain ⟨p, hp⟩ : ∃ p : ByteArray → Bool, (fun x => !x.toList.isEmpty) = p := ⟨_, rfl⟩
  have hwd : wordsB s = (Nm.piecesB 32 s).filter p := by rw [← hp]; rfl
  obtain ⟨w2, hw2⟩ : ∃ w2, w.alloc (.cells #[.func (.yield l) #[] #[]] 59) = w2 := ⟨_, rfl⟩
  have hz2 : w2.heap.size = N0 + 1 := by rw [← hw2]; simp; exact hN
  have hy2 : w2.cell? ⟨N0, 0, none⟩ = some (.func (.yield l) #[] #[]) := by
    rw [← hw2, ← hN, cell_of_row _ _ _ _ _ _ (heap_alloc_last w _)]
    rfl
  have hRw2 : Rw N0 w w2 := by rw [← hw2]; exact Rw.alloc _ _ _
  have hJ2 : J [] w2 := hJR _ _ _ h0 hRw2
  rw [hw2, ← hz2]
  clear hw2 hRw2 h0
  have hnn : ∀ x : ByteArray, p x = !x.toList.isEmpty := fun x => by rw [← hp]
  refine Nm.wp_rangeSplit (n := 5) (by omega) w2 s 32 hs rfl rfl
    (fun pre W => J (pre.filter p) W ∧ W.cell? ⟨N0, 0, none⟩ = some (.func (.yield l) #[] #[]) ∧ N0 + 4 ≤ W.heap.size)
    (fun cd pre W => cd = .ret ∧ ∃ q, q <+: wordsB s ∧ Jx q W)
    ?hI ?hIx ?hIR ?hIxR ?h0
    (fun x => { tmps := #[.func (.yield l) #[] #[], .pointer (some ⟨bx, 0, none⟩), .pointer (some ⟨N0, 0, none⟩), .string x, .string s, Nm.splitFn (N0 + 1), .string x, undef, undef, undef, undef, undef, undef, undef, undef], defers := [] }) ?assign ?body ?done ?stop
  case hI =>
    rintro pre A B row ⟨h1, h2, h3z⟩ hg hr
    have hR : Rw N0 A B := Rw.of_grown hg fun r hr' => by have := hr r hr'; exact ⟨by omega, this.2⟩
    refine ⟨hJR _ _ _ h1 hR, ?_, Nat.le_trans h3z hg.size⟩
    exact (World.cell?_of_block (hg.block _ (World.block_lt_of_cell? _ _ h2) fun e => by have h3 : w2.heap.size + 3 ≤ N0 := (hr _ e.symm).1; omega)).trans h2
  case hIx =>
    rintro cd pre A B row ⟨h1, q, h2, h3⟩ hg hr
    have hR : Rw N0 A B := Rw.of_grown hg fun r hr' => by have := hr r hr'; exact ⟨by omega, this.2⟩
    exact ⟨h1, q, h2, hJxR _ _ _ h3 hR⟩
  case hIR =>
    rintro pre A v ⟨h1, h2, h3z⟩
    refine ⟨hJR _ _ _ h1 (Rw.setCell N0 A _ v (by omega) (by omega)), ?_, by simpa [World.setCell] using h3z⟩
    exact (World.cell?_of_block (Below.heap_setCell _ _ _ _ (by show N0 ≠ w2.heap.size; omega))).trans h2
  case hIxR =>
    rintro cd pre A v ⟨h1, q, h2, h3⟩
    exact ⟨h1, q, h2, hJxR _ _ _ h3 (Rw.setCell N0 A _ v (by omega) (by omega))⟩
  case h0 =>
    refine ⟨hJR _ _ _ (hJR _ _ _ (hJR _ _ _ hJ2 (Rw.alloc _ _ _)) (Rw.alloc _ _ _)) (Rw.alloc _ _ _), ?_, by rw [Nm.splitWorld_size]; omega⟩
    exact (World.cell?_of_block ((Nm.splitWorld_below w2 s ⟨#[32]⟩).block _ (by show N0 < _; omega))).trans hy2
  case assign =>
    intro l' x W K hK
    gi_wp2
    exact hK
  case body =>
    rintro l' pre x W ⟨hJ, hy0, hz0⟩ ⟨r, hr⟩
    have hpx := hnn x
    cases hx : x.toList.isEmpty with
    | true =>
      rw [hx] at hpx
      have HJ := Lib.hid hJ
      have HY0 := Lib.hid hy0
      clear hJ hy0 hY
      gi_wp2
      refine ⟨fun _ h => (by cases h), ?_⟩
      gi_wp2
      exact ⟨KeepsFrom.refl _ _, fun k _ _ => rfl, by rw [filter_snoc_no (by rw [hpx]; rfl)]; exact HJ.out, HY0.out, hz0⟩
    | false =>
      rw [hx] at hpx
      have hww : ∃ r', wordsB s = pre.filter p ++ x :: r' := ⟨r.filter p, by rw [hwd, hr]; simp [hpx]⟩
      obtain ⟨fn, tmps, assign, body, hy, hR⟩ := YieldAt.wide_any (l' := l') (m' := 5 - 1 - 1 - 1) (hY (pre.filter p) x W hJ hww hz0)
      have hpre : pre.filter p ++ [x] <+: wordsB s := by obtain ⟨r', e⟩ := hww; exact ⟨r', by rw [e]; simp⟩
      have HPR := Lib.hid hpre
      have hsn : (pre ++ [x]).filter p = pre.filter p ++ [x] := filter_snoc_yes (by rw [hpx]; rfl)
      have HSN := Lib.hid hsn
      have HY0 := Lib.hid (World.block_lt_of_cell? _ _ hy0)
      have HYC := Lib.hid hy0
      clear hY hJ hww hpre hsn hr
      gi_wp2
      refine hR.mono ?_
      rintro e W3 (⟨rfl, hJ3, hk3⟩ | ⟨rfl, hJx3, hk3⟩)
      · gi_wp2
        refine ⟨⟨hk3.size, fun k o hk h ho => hk3.recs k o (by omega) h ho⟩, fun k h1 h2 => ?_, by rw [HSN.out]; exact hJ3, ?_, Nat.le_trans hz0 hk3.size⟩
        · exact hk3.mid k (by omega) (by omega) (by omega)
        · exact (World.cell?_of_block (hk3.mid N0 (Nat.le_refl _) (by omega) HY0.out)).trans HYC.out
      · gi_wp2
        exact ⟨⟨hk3.size, fun k o hk h ho => hk3.same k o (by omega) h ho⟩, rfl, _, HPR.out, hJx3⟩
  case done =>
    rintro D W hD ⟨hJ, _, _⟩ hK
    go_wp2
    refine ⟨by simp, .inl ⟨_, _, rfl, run_takeDeferred hK, ?_⟩⟩
    have hR : Rw N0 W (W.putObj D (.deferred none)) := Rw.of_grown (grownBy_putObj' W D _) fun r e => by cases e; exact ⟨by omega, _, hK, rfl⟩
    exact ⟨_, results_none rfl _ _ _, ⟨_, rfl⟩, .inl (by rw [hwd]; exact hJR _ _ _ hJ hR)⟩
  case stop =>
    rintro D cd pre W hD hpp ⟨rfl, q, hq, hJx⟩ hK
    go_wp2
    refine ⟨by simp, .inl ⟨_, _, rfl, run_takeDeferred hK, ?_⟩⟩
    have hR : Rw N0 W (W.putObj D (.deferred none)) := Rw.of_grown (grownBy_putObj' W D _) fun r e => by cases e; exact ⟨by omega, _, hK, rfl⟩
    exact ⟨_, results_none rfl _ _ _, ⟨_, rfl⟩, .inr ⟨q, hq, hJxR _ _ _ hJx hR⟩⟩
end Go.Proofs.YtfpkppgecmbglaaGreatDoor
