/- without: an attribute is cut out of a list. -/
import Derived.Test.YthdnbcgomepgaaaDoorD
import Derived.Shelf.Spec.SlicesInsert
import Derived.Lib.AppendZerosOnto
import Derived.Laws.NewBlocks
namespace Go.Proofs.YthdnbcgomepgaaaDoor
open Go.RowKit

theorem size55 : (Tryd.prog.info? 55).map (·.size) = some 2 := by kernel_rfl

/-- A copy of attributes within memory. -/
theorem run_copy_two (w : World) (ty : TypeId) (g o dLen dCap : Nat) (a : Addr) (sLen sCap : Nat) (cur : Array Value) (t : TypeId) (m : Nat) (cs : List Value)
    (hg : w.heap[g]? = some (.cells cur t (0, 0))) (hn : m = Nat.min sLen dLen) (hl : cs.length = m * 2)
    (hsrc : ∀ j v, cs[j]? = some v → w.cell? (a.add j) = some v) (hfit : o + cs.length ≤ cur.size) (h1 : ∀ v ∈ cs, v.oneCell' = true) :
    (Builtin.copy_ #[22, 22] ty #[.slice (some ⟨g, o, none⟩) dLen dCap, .slice (some a) sLen sCap]).run Tryd.prog w =
      .ok (goInt m) (w.setRow g (cur.toList.take o ++ cs ++ cur.toList.drop (o + cs.length)).toArray) := by
  have hl' := run_firstCells_some (P := Tryd.prog) w 2 m a sLen sCap cs hl hsrc
  have hst := run_storeCells_at Tryd.prog g o t cs 0 cur w hg (by simpa using hfit) h1
  obtain ⟨i, hq, hi⟩ := Option.map_eq_some_iff.1 size55
  simp [Builtin.copy_, run_underlying Tryd.underlying22, Builtin.lenOf, sizeOf, typeInfo, hq, hi, ← hn, hl', hst]

theorem cellsP_take (l : List Atr) (i : Nat) : (cellsP l).take (i * 2) = cellsP (l.take i) := by
  induction l generalizing i with
  | nil => simp [cellsP]
  | cons x l ih =>
    cases i with
    | zero => simp [cellsP]
    | succ i =>
      have e : cellsP (x :: l) = .string x.1 :: .string x.2 :: cellsP l := rfl
      rw [e, show (i + 1) * 2 = (i * 2 + 1) + 1 by omega, List.take_succ_cons, List.take_succ_cons, ih, List.take_succ_cons]
      rfl
theorem cellsP_drop (l : List Atr) (i : Nat) : (cellsP l).drop (i * 2) = cellsP (l.drop i) := by
  induction l generalizing i with
  | nil => simp [cellsP]
  | cons x l ih =>
    cases i with
    | zero => simp [cellsP]
    | succ i =>
      have e : cellsP (x :: l) = .string x.1 :: .string x.2 :: cellsP l := rfl
      rw [e, show (i + 1) * 2 = (i * 2 + 1) + 1 by omega, List.drop_succ_cons, List.drop_succ_cons, ih, List.drop_succ_cons]

theorem row_of_heap {w : World} {g : Nat} {cur : Array Value} {l : List Atr} (hh : w.heap[g]? = some (.cells cur 55 (0, 0))) (ht : cur.toList.take (l.length * 2) = cellsP l) : Row w g 0 l := fun j x hx => by
  have hj : j < l.length := (List.getElem?_eq_some_iff.1 hx).1
  have := cellsP_get l j x hx
  rw [← ht] at this
  rw [cell_of_row _ _ _ _ _ _ hh, cell_of_row _ _ _ _ _ _ hh]
  simp only [List.getElem?_take, Nat.zero_add] at this ⊢
  rw [if_pos (by omega), if_pos (by omega)] at this
  simpa using this

/-- The cells of a list in a row, read from there. -/
theorem row_src {w : World} {g : Nat} {cur : Array Value} (hh : w.heap[g]? = some (.cells cur 55 (0, 0))) (k : Nat) (cs : List Value) (h : ∃ m, (cur.toList.take m).drop k = cs) : ∀ j v, cs[j]? = some v → w.cell? ((⟨g, k, none⟩ : Addr).add j) = some v := fun j v hj => by
  obtain ⟨m, hm⟩ := h
  have hadd : (⟨g, k, none⟩ : Addr).add j = ⟨g, k + j, none⟩ := by unfold Addr.add; split <;> simp_all
  rw [hadd, cell_of_row _ _ _ _ _ _ hh]
  rw [← hm, List.getElem?_drop, List.getElem?_take] at hj
  split at hj
  · simpa using hj
  · cases hj

set_option maxHeartbeats 1000000 in
set_option maxRecDepth 100000 in
theorem without_any (B i : Nat) (sv : Value) (l : List Atr) (w : World) (hl : l.length ≤ 1000000) (hi : i < l.length) (h : Owns w B sv l) :
    Calls Tryd.prog 46 #[sv, .int .i64 i] w fun e w' => ∃ u, e = .returned u ∧ Has w' u (l.take i ++ l.drop (i + 1)) ∧ Below B w w' := by
  rcases h.2 with ⟨_, hn⟩ | ⟨g, cap, cur, rfl, hB, hh, hc, hcm, hcs, ht⟩
  · omega
  have hlen := cellsP_len l
  have hml : (l.take i ++ l.drop (i + 1)).length = l.length - 1 := by simp; omega
  obtain ⟨cs, hcs'⟩ : ∃ cs, cellsP (l.drop (i + 1)) = cs := ⟨_, rfl⟩
  have hcl : cs.length = (l.length - (i + 1)) * 2 := by rw [← hcs', cellsP_len, List.length_drop]
  have hdr : (cur.toList.take (l.length * 2)).drop ((i + 1) * 2) = cs := by rw [ht, cellsP_drop, hcs']
  have hone : ∀ v ∈ cs, v.oneCell' = true := by rw [← hcs']; exact cellsP_one _
  obtain ⟨row, hrow⟩ : ∃ row : Array Value, (cur.toList.take (i * 2) ++ cs ++ cur.toList.drop (i * 2 + cs.length)).toArray = row := ⟨_, rfl⟩
  have hcopy : ∀ ty dc sc (a : Addr), (i + 1 < cap → a = ⟨g, (i + 1) * 2, none⟩) → (Builtin.copy_ #[22, 22] ty #[.slice (some ⟨g, i * 2, none⟩) (l.length - i) dc, .slice (some a) (l.length - (i + 1)) sc]).run Tryd.prog w.drew = .ok (.int .i64 ((l.length - (i + 1) : Nat) : Int)) (w.drew.setRow g row) := fun ty dc sc a ha => by
    rw [← hrow]
    refine run_copy_two w.drew ty g (i * 2) (l.length - i) dc a (l.length - (i + 1)) sc cur 55 (l.length - (i + 1)) cs hh (by simp only [Nat.min_def]; split <;> omega) hcl (fun j v hj => ?_) (by rw [hcs, hcl]; omega) hone
    have hj' := (List.getElem?_eq_some_iff.1 hj).1
    rw [ha (by omega)]
    exact row_src (w := w.drew) hh _ cs ⟨_, hdr⟩ j v hj
  have hpost : Has (w.drew.setRow g row) (.slice (some ⟨g, 0, none⟩) (l.length - 1) (l.length - 1)) (l.take i ++ l.drop (i + 1)) ∧ Below B w (w.drew.setRow g row) := by
    refine ⟨.inr ⟨g, 0, l.length - 1, by rw [hml], ?_, row_of_heap (setRow_heap w.drew g cur row 55 (0, 0) hh) ?_⟩, below_setRow (Below.refl _ w).drew hB _⟩
    · have := (below_setRow (Below.refl B w).drew hB row).size
      have := block_lt hh
      omega
    · rw [← hrow, hml, cellsP_append, hcs', ← cellsP_take, ← ht]
      have e1 : (l.length - 1) * 2 = i * 2 + cs.length := by rw [hcl]; omega
      have e2 : (cur.toList.take (l.length * 2)).take (i * 2) = cur.toList.take (i * 2) := by rw [List.take_take, Nat.min_eq_left (by omega)]
      have e3 : (cur.toList.take (i * 2)).length = i * 2 := by simp; omega
      rw [e2, e1, List.take_append_of_le_length (by rw [List.length_append, e3]; exact Nat.le_refl _), List.take_of_length_le (by rw [List.length_append, e3]; exact Nat.le_refl _)]
  have HC := Lib.hid hcopy
  have HP := Lib.hid hpost
  have hi1 : (i : Int) ≤ (l.length : Int) := by omega
  have hi2 : (i : Int) + 1 ≤ (l.length : Int) := by omega
  have hi3 : ¬ (cap = i) := by omega
  have hc63 : cap ≤ 9223372036854775807 := by unfold maxLen at hcm; omega
  have hlc : (l.length : Int) ≤ (cap : Int) := by omega
  have hwe : IntKind.i64.wrap ((i : Int) + ((l.length - (i + 1) : Nat) : Int)) = ((l.length - 1 : Nat) : Int) := by rw [IntKind.wrap_i64]; omega
  clear hcopy hpost hrow hdr hone hcl hcs' hml hlen h hh ht hcs
  have htn : ((i : Int) + 1).toNat = i + 1 := by omega
  have h0i : (0 : Int) ≤ (i : Int) + 1 := by omega
  have hwr : IntKind.i64.wrap ((i : Int) + 1) = (i : Int) + 1 := by rw [IntKind.wrap_i64]; omega
  have mixed : Tryd.prog.follows Departure.mixedOrders = true := by kernel_rfl
  by_cases hcap : cap = i + 1
  · have hrun := HC.out 3 1 0 ⟨g, 0, none⟩ (fun h => by omega)
    have hz : l.length - (i + 1) = 0 := by omega
    rw [hz] at hrun hwe
    clear HC
    subst hcap
    go_enter Tryd.func46, Tryd.ntmps46
    go_wp2
    go_region
    all_goals
      clear hrun
      go_wp2
      have hi' : l.length - 1 = i := by omega
      have := HP.out
      rw [hi'] at this
      go_ret
      exact ⟨_, rfl, this⟩
  · have hrun := HC.out 3 (cap - i) (cap - (i + 1)) ⟨g, (i + 1) * 2, none⟩ (fun _ => rfl)
    clear HC
    go_enter Tryd.func46, Tryd.ntmps46
    go_wp2
    go_region
    all_goals
      clear hrun
      go_wp2
      go_ret
      exact ⟨_, rfl, HP.out⟩
end Go.Proofs.YthdnbcgomepgaaaDoor
