/- slices.Insert: an attribute is put into a list. -/
import Derived.Test.YthdnbcgomepgaaaDoorE
namespace Go.Proofs.YthdnbcgomepgaaaDoor
open Go.RowKit

/-- The slice of one attribute that a call of Insert lays. -/
def OneAt (w : World) (vb : Nat) (n x : ByteArray) : Prop := w.heap[vb]? = some (.cells #[.string n, .string x] 55 (0, 0))

def InsPost (B : Nat) (w : World) (L : List Atr) (e : Ending) (w' : World) : Prop := ∃ u, e = .returned u ∧ Has w' u L ∧ Below B w w'

theorem one_cells {w : World} {vb : Nat} {n x : ByteArray} (h : OneAt w vb n x) : ∀ j u, [Value.string n, Value.string x][j]? = some u → w.cell? ((⟨vb, 0, none⟩ : Addr).add j) = some u := fun j u hj => by
  have hadd : (⟨vb, 0, none⟩ : Addr).add j = ⟨vb, j, none⟩ := by unfold Addr.add; split <;> simp_all
  rw [hadd, cell_of_row _ _ _ _ _ _ h]
  simpa using hj

set_option maxHeartbeats 1000000 in
set_option maxRecDepth 100000 in
theorem insert_end (B vb : Nat) (n x : ByteArray) (sv : Value) (l : List Atr) (w : World) (hl : l.length ≤ 1000000) (h : Owns w B sv l) (hB : B ≤ w.heap.size) (hv : OneAt w vb n x) :
    Calls Tryd.prog 47 #[sv, .int .i64 l.length, .slice (some ⟨vb, 0, none⟩) 1 1] w (InsPost B w (l ++ [(n, x)])) := by
  obtain ⟨i0, hi0, hz0, hz1, hz2⟩ := info_parts info55
  have HV := Lib.hid (one_cells hv)
  have HO := Lib.hid h
  have hfin : ∀ w1, w.grownBy w1 sv.ownBlock → Below B w w1 := fun w1 hg => (Below.refl B w).grown hg hB fun k hk => by
    rcases h.form with ⟨rfl, _⟩ | ⟨g, cap, rfl, hBg, _⟩
    · cases hk
    · cases hk; exact hBg
  have HF := Lib.hid hfin
  have hform := h.form
  clear hfin h hv
  rcases hform with ⟨rfl, rfl⟩ | ⟨g, cap, rfl, hBg, hg, hcap, hrow⟩
  · go_enter Tryd.func47, Tryd.ntmps47
    go_wp2_with (at_builtin; refine wpList_append_own _ rfl _ _ 22 rfl B 55 i0 _ 2 32 Tryd.underlying22 hi0 hz0 hz1 hz2 rfl (by decide) _ _ _ rfl HO.out ⟨vb, 0, none⟩ 1 1 [.string n, .string x] rfl rfl HV.out (by simp [Value.oneCell']) (by unfold maxLen; first | (simp; done) | omega) (by first | (simp; done) | omega) hB ?_; intro v1 w1 hown1 hgrow1 _; have Hown1 := Lib.hid (Owns.append hown1); have Hgrow1 := Lib.hid hgrow1; clear hown1 hgrow1)
    all_goals
      go_ret
      exact ⟨_, rfl, Hown1.out.has, HF.out _ Hgrow1.out⟩
  · have hlc : (l.length : Int) ≤ (cap : Int) := by omega
    clear hrow
    go_enter Tryd.func47, Tryd.ntmps47
    go_wp2_with (at_builtin; refine wpList_append_own _ rfl _ _ 22 rfl B 55 i0 _ 2 32 Tryd.underlying22 hi0 hz0 hz1 hz2 rfl (by decide) _ _ _ rfl HO.out ⟨vb, 0, none⟩ 1 1 [.string n, .string x] rfl rfl HV.out (by simp [Value.oneCell']) (by unfold maxLen; first | (simp; done) | omega) (by first | (simp; done) | omega) hB ?_; intro v1 w1 hown1 hgrow1 _; have Hown1 := Lib.hid (Owns.append hown1); have Hgrow1 := Lib.hid hgrow1; clear hown1 hgrow1)
    all_goals
      go_ret
      exact ⟨_, rfl, Hown1.out.has, HF.out _ Hgrow1.out⟩

theorem hov (w : World) (vb g cap k lb cb : Nat) (n x : ByteArray) (cur : Array Value) (hv : OneAt w vb n x) (hg : w.heap[g]? = some (.cells cur 55 (0, 0))) (hcur : cur.size = cap * 2) (hcap : 0 < cap) (hne : vb ≠ g) :
    (callFunc 70 #[.slice (some ⟨vb, 0, none⟩) 1 1, .slice (some ⟨g, k, none⟩) lb cb]).run Tryd.prog w = .ok (.value (.bool false)) w := by
  have hz : ∀ w, (Go.sizeOf 55).run Tryd.prog w = .ok 2 w := fun w => by
    obtain ⟨i, hq, hi⟩ := Option.map_eq_some_iff.1 size55
    simp [Go.sizeOf, typeInfo, hq, hi]
  unfold OneAt at hv
  rw [run_callFunc_extern (P := Tryd.prog) (f := 70) (fn := (Tryd.prog.funcs[70]?).get (by kernel_rfl)) (Option.some_get _).symm (by kernel_rfl) (by kernel_rfl) (by kernel_rfl) (e := Extern.SlicesOverlaps.overlaps #[22, 22] #[4]) (by kernel_rfl),
    Lib.run_overlaps_apart w 22 4 55 Tryd.underlying22 2 hz ⟨vb, 0, none⟩ ⟨g, k, none⟩ 1 1 lb cb hne 55 55 2 (cap * 2) (by simp [World.shape?, hv]) (by simp [World.shape?, hg, hcur]) (by omega) (by simp [World.frozen?, hv]) (by simp [World.frozen?, hv])]
  rfl

set_option maxHeartbeats 1000000 in
set_option maxRecDepth 100000 in
/-- There is room: in place. -/
theorem insert_room (B vb i g cap : Nat) (n x : ByteArray) (l : List Atr) (cur : Array Value) (w : World) (hl : l.length ≤ 1000000) (hi : i < l.length) (hroom : l.length + 1 ≤ cap) (hcm : cap ≤ maxLen) (hB : B ≤ g)
    (hh : w.heap[g]? = some (.cells cur 55 (0, 0))) (hcs : cur.size = cap * 2) (ht : cur.toList.take (l.length * 2) = cellsP l) (hv : OneAt w vb n x) (hne : vb ≠ g) :
    Calls Tryd.prog 47 #[.slice (some ⟨g, 0, none⟩) l.length cap, .int .i64 i, .slice (some ⟨vb, 0, none⟩) 1 1] w (InsPost B w (l.take i ++ ((n, x) :: l.drop i))) := by
  have hov1 := fun lb cb => hov w vb g cap ((i + 1) * 2) lb cb n x cur hv hh hcs (by omega) hne
  have hlen := cellsP_len l
  obtain ⟨ds, hds⟩ : ∃ ds, cellsP (l.drop i) = ds := ⟨_, rfl⟩
  have hdl : ds.length = (l.length - i) * 2 := by rw [← hds, cellsP_len, List.length_drop]
  have hdr : (cur.toList.take (l.length * 2)).drop (i * 2) = ds := by rw [ht, cellsP_drop, hds]
  have hone : ∀ v ∈ ds, v.oneCell' = true := by rw [← hds]; exact cellsP_one _
  have hcul : cur.toList.length = cap * 2 := by simpa using hcs
  obtain ⟨row1, hrow1⟩ : ∃ row : Array Value, (cur.toList.take ((i + 1) * 2) ++ ds ++ cur.toList.drop ((i + 1) * 2 + ds.length)).toArray = row := ⟨_, rfl⟩
  have hrl1 : row1.size = cap * 2 := by rw [← hrow1]; simp [hcs]; omega
  have hrun1 : ∀ ty dc sc, (Builtin.copy_ #[22, 22] ty #[.slice (some ⟨g, (i + 1) * 2, none⟩) (l.length - i) dc, .slice (some ⟨g, i * 2, none⟩) (l.length + 1 - i) sc]).run Tryd.prog w.drew = .ok (.int .i64 ((l.length - i : Nat) : Int)) (w.drew.setRow g row1) := fun ty dc sc => by
    rw [← hrow1]
    exact run_copy_two w.drew ty g ((i + 1) * 2) (l.length - i) dc ⟨g, i * 2, none⟩ (l.length + 1 - i) sc cur 55 (l.length - i) ds hh (by simp only [Nat.min_def]; split <;> omega) hdl (row_src (w := w.drew) hh _ ds ⟨_, hdr⟩) (by rw [hcs, hdl]; omega) hone
  obtain ⟨row2, hrow2⟩ : ∃ row : Array Value, (row1.toList.take (i * 2) ++ [Value.string n, Value.string x] ++ row1.toList.drop (i * 2 + 2)).toArray = row := ⟨_, rfl⟩
  have hh1 : (w.drew.setRow g row1).heap[g]? = some (.cells row1 55 (0, 0)) := setRow_heap w.drew g cur row1 55 (0, 0) hh
  have hv1 : OneAt (w.drew.setRow g row1) vb n x := by
    have hb : (w.drew.setRow g row1).heap[vb]? = w.heap[vb]? := by simp [World.setRow, Array.getElem?_modify, Ne.symm hne]; rfl
    exact hb.trans hv
  have hrun2 : ∀ ty dc, (Builtin.copy_ #[22, 22] ty #[.slice (some ⟨g, i * 2, none⟩) (l.length + 1 - i) dc, .slice (some ⟨vb, 0, none⟩) 1 1]).run Tryd.prog (w.drew.setRow g row1) = .ok (.int .i64 ((1 : Nat) : Int)) ((w.drew.setRow g row1).setRow g row2) := fun ty dc => by
    rw [← hrow2]
    exact run_copy_two _ ty g (i * 2) (l.length + 1 - i) dc ⟨vb, 0, none⟩ 1 1 row1 55 1 [.string n, .string x] hh1 (by simp only [Nat.min_def]; split <;> omega) rfl (one_cells hv1) (by simp [hrl1]; omega) (by simp [Value.oneCell'])
  have hpost : InsPost B w (l.take i ++ ((n, x) :: l.drop i)) (.returned (.slice (some ⟨g, 0, none⟩) (l.length + 1) cap)) ((w.drew.setRow g row1).setRow g row2) := by
    have hml : (l.take i ++ ((n, x) :: l.drop i)).length = l.length + 1 := by simp; omega
    have hbel : Below B w ((w.drew.setRow g row1).setRow g row2) := below_setRow (below_setRow (Below.refl _ w).drew hB _) hB _
    refine ⟨_, rfl, .inr ⟨g, 0, cap, by rw [hml], Nat.lt_of_lt_of_le (block_lt hh) hbel.size, row_of_heap (setRow_heap _ g row1 row2 55 (0, 0) hh1) ?_⟩, hbel⟩
    have e : cellsP (l.take i ++ ((n, x) :: l.drop i)) = cellsP (l.take i) ++ ([.string n, .string x] ++ ds) := by rw [cellsP_append, ← hds]; rfl
    have e1 : row1.toList.take (i * 2) = cellsP (l.take i) := by
      rw [← hrow1, ← cellsP_take, ← ht]
      simp only [List.append_assoc]
      rw [List.take_append_of_le_length (by simp [hcs]; omega), List.take_take, List.take_take, Nat.min_eq_left (by omega), Nat.min_eq_left (by omega)]
    have e2 : (row1.toList.drop (i * 2 + 2)).take ds.length = ds := by
      have e3 : (cur.toList.take ((i + 1) * 2)).length = i * 2 + 2 := by simp [hcs]; omega
      rw [← hrow1]
      simp only [List.append_assoc]
      rw [List.drop_append_of_le_length (by rw [e3]; exact Nat.le_refl _), List.drop_of_length_le (by rw [e3]; exact Nat.le_refl _), List.nil_append, List.take_append_of_le_length (Nat.le_refl _), List.take_of_length_le (Nat.le_refl _)]
    rw [e, ← hrow2, e1, hml]
    have e4 : (cellsP (l.take i)).length = i * 2 := by rw [cellsP_len, List.length_take]; omega
    have e5 : (l.length + 1) * 2 = i * 2 + (2 + ds.length) := by rw [hdl]; omega
    simp only [List.append_assoc]
    rw [e5, ← e4, List.take_length_add_append, show 2 + ds.length = [Value.string n, Value.string x].length + ds.length from rfl, List.take_length_add_append, e4, e2]
  have HP := Lib.hid hpost
  have H1 := Lib.hid hrun1
  have H2 := Lib.hid hrun2
  have hz2 : ¬ ((i : Int) = (l.length : Int)) := by omega
  have hz3 : ¬ ((cap : Int) < (l.length : Int) + 1) := by omega
  have hw1 : IntKind.i64.wrap ((l.length : Int) + 1) = (l.length : Int) + 1 := by rw [IntKind.wrap_i64]; omega
  have hw2 : IntKind.i64.wrap ((i : Int) + 1) = (i : Int) + 1 := by rw [IntKind.wrap_i64]; omega
  have htn : ((i : Int) + 1).toNat = i + 1 := by omega
  have htn2 : ((l.length : Int) + 1).toNat = l.length + 1 := by omega
  have h0i : (0 : Int) ≤ (i : Int) + 1 := by omega
  have h0l : (0 : Int) ≤ (l.length : Int) + 1 := by omega
  have hi1 : (i : Int) ≤ (l.length : Int) := by omega
  have hi2 : (i : Int) ≤ (l.length : Int) + 1 := by omega
  have hi3 : (i : Int) + 1 ≤ (l.length : Int) + 1 := by omega
  have hc1 : ¬ (cap = i) := by omega
  have hc2 : ¬ (cap = i + 1) := by omega
  have hc3 : (l.length : Int) + 1 ≤ (cap : Int) := by omega
  have hc63 : cap ≤ 9223372036854775807 := by unfold maxLen at hcm; omega
  have mixed : Tryd.prog.follows Departure.mixedOrders = true := by kernel_rfl
  clear hrun1 hrun2 hpost hv hv1 hh hh1 hrow1 hrow2 hrl1 hcul hone hdr hdl hds hlen ht hcs
  go_enter Tryd.func47, Tryd.ntmps47
  go_wp2_with (simp only [hov1])
  have hr := H1.out 3 (cap - (i + 1)) (cap - i)
  go_region
  all_goals
    clear hr
    have hr2 := H2.out 3 (cap - i)
    go_wp2
    go_ret
    exact HP.out

theorem zero_size (k : Nat) : (Builtin.zeroCells #[Value.string ⟨#[]⟩, Value.string ⟨#[]⟩] k).size = k * 2 := by
  induction k with
  | zero => simp [Builtin.zeroCells]
  | succ k ih =>
    simp [Builtin.zeroCells] at ih ⊢
    try omega

set_option maxHeartbeats 1000000 in
set_option maxRecDepth 100000 in
/-- There is no room: a new row. -/
theorem insert_grow (B vb i g : Nat) (n x : ByteArray) (l : List Atr) (cur : Array Value) (w : World) (hl : l.length ≤ 1000000) (hi : i < l.length) (hB : B ≤ w.heap.size)
    (hh : w.heap[g]? = some (.cells cur 55 (0, 0))) (ht : cur.toList.take (l.length * 2) = cellsP l) (hv : OneAt w vb n x) :
    Calls Tryd.prog 47 #[.slice (some ⟨g, 0, none⟩) l.length l.length, .int .i64 i, .slice (some ⟨vb, 0, none⟩) 1 1] w (InsPost B w (l.take i ++ ((n, x) :: l.drop i))) := by
  obtain ⟨i0, hi0, hz0, hz1, hz2⟩ := info_parts info55
  have hlen := cellsP_len l
  obtain ⟨ds, hds⟩ : ∃ ds, cellsP (l.drop i) = ds := ⟨_, rfl⟩
  have hdl : ds.length = (l.length - i) * 2 := by rw [← hds, cellsP_len, List.length_drop]
  have hdr : (cur.toList.take (l.length * 2)).drop (i * 2) = ds := by rw [ht, cellsP_drop, hds]
  have hone : ∀ v ∈ ds, v.oneCell' = true := by rw [← hds]; exact cellsP_one _
  have hal : (cellsP (l.take i)).length = i * 2 := by rw [cellsP_len, List.length_take]; omega
  have hold : (Builtin.firstCells i0.size i (.slice (some ⟨g, 0, none⟩) i l.length)).run Tryd.prog w.drew = .ok (cellsP (l.take i)).toArray w.drew := by
    rw [hz1]
    refine run_firstCells_some w.drew 2 i ⟨g, 0, none⟩ i l.length _ hal fun j v hj => ?_
    exact row_src (w := w.drew) hh 0 _ ⟨i * 2, by rw [List.drop_zero, ← cellsP_take, ← ht, List.take_take, Nat.min_eq_left (by omega)]⟩ j v hj
  have happ := fun ty => Lib.run_append_grow_zeros (P := Tryd.prog) w 22 3 ty 55 i0 _ .i64 .i64 Tryd.underlying22 Tryd.underlying3 hi0 hz0 (some ⟨g, 0, none⟩) i l.length (cellsP (l.take i)) hold (l.length + 1 - i) (by omega) (by omega) (by omega) (by omega) (by rw [hz2]; omega)
    (by rw [hz2]; exact growslice_fits (by omega) (by omega))
  rw [show i + (l.length + 1 - i) = l.length + 1 by omega] at happ
  obtain ⟨G, hG⟩ : ∃ G, grownCap w (l.length + 1) l.length 55 = G := ⟨_, rfl⟩
  have hG1 : l.length + 1 ≤ G := by rw [← hG]; exact grownCap_ge w _ _ _
  have hG2 : G ≤ maxLen := by rw [← hG]; exact grownCap_le_maxLen w _ _ _ (by unfold maxLen; omega)
  rw [hG] at happ
  obtain ⟨row0, hrow0⟩ : ∃ row : Array Value, (cellsP (l.take i)).toArray ++ Builtin.zeroCells (Value.agg #[Value.string ⟨#[]⟩, Value.string ⟨#[]⟩]).cells (l.length + 1 - i) ++ Builtin.zeroCells (Value.agg #[Value.string ⟨#[]⟩, Value.string ⟨#[]⟩]).cells (G - (l.length + 1)) = row := ⟨_, rfl⟩
  rw [hrow0] at happ
  have hrs0 : row0.size = G * 2 := by
    rw [← hrow0]
    have e : (Value.agg #[Value.string ⟨#[]⟩, Value.string ⟨#[]⟩]).cells = #[Value.string ⟨#[]⟩, Value.string ⟨#[]⟩] := rfl
    rw [e, Array.size_append, Array.size_append, zero_size, zero_size, List.size_toArray, hal]
    omega
  have hr0 : row0.toList.take (i * 2) = cellsP (l.take i) := by
    rw [← hrow0]
    simp only [Array.toList_append, List.append_assoc]
    rw [List.take_append_of_le_length (by rw [hal]; exact Nat.le_refl _), List.take_of_length_le (by rw [hal]; exact Nat.le_refl _)]
  obtain ⟨W1, hW1⟩ : ∃ W1, w.drew.alloc (.cells row0 55) = W1 := ⟨_, rfl⟩
  rw [hW1] at happ
  have hb1 : Below w.heap.size w W1 := by rw [← hW1]; exact (Below.refl _ w).drew.alloc (Nat.le_refl _) _
  have hn1 : W1.heap[w.heap.size]? = some (.cells row0 55 (0, 0)) := by rw [← hW1]; exact heap_last w.drew _
  clear hW1 hrow0 hold
  have hgw := block_lt hh
  have hvw := block_lt hv
  have hv1 : OneAt W1 vb n x := (hb1.block vb hvw).trans hv
  obtain ⟨row1, hrow1⟩ : ∃ row : Array Value, (row0.toList.take (i * 2) ++ [Value.string n, Value.string x] ++ row0.toList.drop (i * 2 + 2)).toArray = row := ⟨_, rfl⟩
  have hrun1 : ∀ ty dc, (Builtin.copy_ #[22, 22] ty #[.slice (some ⟨w.heap.size, i * 2, none⟩) (l.length + 1 - i) dc, .slice (some ⟨vb, 0, none⟩) 1 1]).run Tryd.prog W1 = .ok (.int .i64 ((1 : Nat) : Int)) (W1.setRow w.heap.size row1) := fun ty dc => by
    rw [← hrow1]
    exact run_copy_two _ ty w.heap.size (i * 2) (l.length + 1 - i) dc ⟨vb, 0, none⟩ 1 1 row0 55 1 [.string n, .string x] hn1 (by simp only [Nat.min_def]; split <;> omega) rfl (one_cells hv1) (by simp [hrs0]; omega) (by simp [Value.oneCell'])
  have hn2 : (W1.setRow w.heap.size row1).heap[w.heap.size]? = some (.cells row1 55 (0, 0)) := setRow_heap W1 w.heap.size row0 row1 55 (0, 0) hn1
  have hb2 : Below w.heap.size w (W1.setRow w.heap.size row1) := below_setRow hb1 (Nat.le_refl _) _
  have hh2 : (W1.setRow w.heap.size row1).heap[g]? = some (.cells cur 55 (0, 0)) := (hb2.block g hgw).trans hh
  have hrs1 : row1.size = G * 2 := by rw [← hrow1]; simp [hrs0]; omega
  obtain ⟨row2, hrow2⟩ : ∃ row : Array Value, (row1.toList.take ((i + 1) * 2) ++ ds ++ row1.toList.drop ((i + 1) * 2 + ds.length)).toArray = row := ⟨_, rfl⟩
  have hrun2 : ∀ ty dc sc, (Builtin.copy_ #[22, 22] ty #[.slice (some ⟨w.heap.size, (i + 1) * 2, none⟩) (l.length - i) dc, .slice (some ⟨g, i * 2, none⟩) (l.length - i) sc]).run Tryd.prog (W1.setRow w.heap.size row1).drew = .ok (.int .i64 ((l.length - i : Nat) : Int)) ((W1.setRow w.heap.size row1).drew.setRow w.heap.size row2) := fun ty dc sc => by
    rw [← hrow2]
    exact run_copy_two _ ty w.heap.size ((i + 1) * 2) (l.length - i) dc ⟨g, i * 2, none⟩ (l.length - i) sc row1 55 (l.length - i) ds hn2 (by simp only [Nat.min_def]; split <;> omega) hdl (row_src (w := (W1.setRow w.heap.size row1).drew) hh2 _ ds ⟨_, hdr⟩) (by rw [hrs1, hdl]; omega) hone
  have hpost : InsPost B w (l.take i ++ ((n, x) :: l.drop i)) (.returned (.slice (some ⟨w.heap.size, 0, none⟩) (l.length + 1) G)) ((W1.setRow w.heap.size row1).drew.setRow w.heap.size row2) := by
    have hml : (l.take i ++ ((n, x) :: l.drop i)).length = l.length + 1 := by simp; omega
    have hbel : Below w.heap.size w ((W1.setRow w.heap.size row1).drew.setRow w.heap.size row2) := below_setRow hb2.drew (Nat.le_refl _) _
    have hn3 : ((W1.setRow w.heap.size row1).drew.setRow w.heap.size row2).heap[w.heap.size]? = some (.cells row2 55 (0, 0)) := setRow_heap _ w.heap.size row1 row2 55 (0, 0) hn2
    refine ⟨_, rfl, .inr ⟨w.heap.size, 0, G, by rw [hml], block_lt hn3, row_of_heap hn3 ?_⟩, hbel.mono hB⟩
    have e : cellsP (l.take i ++ ((n, x) :: l.drop i)) = (cellsP (l.take i) ++ [.string n, .string x]) ++ ds := by rw [cellsP_append, ← hds, List.append_assoc]; rfl
    have e1 : row1.toList.take ((i + 1) * 2) = cellsP (l.take i) ++ [.string n, .string x] := by
      rw [← hrow1, hr0]
      have : (i + 1) * 2 = (cellsP (l.take i) ++ [Value.string n, Value.string x]).length := by simp [hal]; omega
      simp only []
      rw [this, List.take_append_of_le_length (Nat.le_refl _), List.take_of_length_le (Nat.le_refl _)]
    have e5 : (l.length + 1) * 2 = (cellsP (l.take i) ++ [Value.string n, Value.string x] ++ ds).length := by simp [hal, hdl]; omega
    rw [e, ← hrow2, e1, hml, e5]
    simp only []
    rw [List.take_append_of_le_length (Nat.le_refl _), List.take_of_length_le (Nat.le_refl _)]
  have HP := Lib.hid hpost
  have H1 := Lib.hid hrun1
  have H2 := Lib.hid hrun2
  have hz2' : ¬ ((i : Int) = (l.length : Int)) := by omega
  have hz3 : (l.length : Int) < (l.length : Int) + 1 := by omega
  have hw1 : IntKind.i64.wrap ((l.length : Int) + 1) = (l.length : Int) + 1 := by rw [IntKind.wrap_i64]; omega
  have hw2 : IntKind.i64.wrap ((i : Int) + 1) = (i : Int) + 1 := by rw [IntKind.wrap_i64]; omega
  have hw3 : IntKind.i64.wrap ((l.length : Int) + 1 - (i : Int)) = ((l.length + 1 - i : Nat) : Int) := by rw [IntKind.wrap_i64]; omega
  have htn : ((i : Int) + 1).toNat = i + 1 := by omega
  have h0i : (0 : Int) ≤ (i : Int) + 1 := by omega
  have hi1 : (i : Int) ≤ (l.length : Int) := by omega
  have hi2 : (i : Int) ≤ (l.length : Int) + 1 := by omega
  have hi3 : (i : Int) + 1 ≤ (l.length : Int) + 1 := by omega
  have hc0 : ¬ (l.length = i) := by omega
  have hc1 : ¬ (G = i) := by omega
  have hc2 : ¬ (G = i + 1) := by omega
  have hc3 : (l.length : Int) + 1 ≤ (G : Int) := by omega
  have hc63 : G ≤ 9223372036854775807 := by unfold maxLen at hG2; omega
  have mixed : Tryd.prog.follows Departure.mixedOrders = true := by kernel_rfl
  have Hap := Lib.hid (happ 22)
  clear happ hrun1 hrun2 hpost hv hv1 hh hh2 hn1 hn2 hb1 hb2 hrow1 hrow2 hrs0 hrs1 hr0 hal hone hdr hdl hds hlen ht hi0 hz0 hz1 hz2 hG hG1
  go_enter Tryd.func47, Tryd.ntmps47
  have hr1 := H1.out 3 (G - i)
  go_wp2_with (at_builtin; refine Lib.wpList_append_run _ rfl _ _ 22 3 rfl _ _ rfl rfl _ _ Hap.out ?_)
  have hr2 := H2.out 3 (G - (i + 1)) (l.length - i)
  clear hr1
  go_region
  all_goals
    clear hr2
    go_wp2
    go_ret
    exact HP.out

theorem insert_any (B vb i : Nat) (n x : ByteArray) (sv : Value) (l : List Atr) (w : World) (hl : l.length ≤ 1000000) (hi : i ≤ l.length) (h : Owns w B sv l) (hB : B ≤ w.heap.size) (hv : OneAt w vb n x) (hne : sv.ownBlock ≠ some vb) :
    Calls Tryd.prog 47 #[sv, .int .i64 i, .slice (some ⟨vb, 0, none⟩) 1 1] w (InsPost B w (l.take i ++ ((n, x) :: l.drop i))) := by
  by_cases he : i = l.length
  · subst he
    rw [List.take_length, List.drop_length]
    exact insert_end B vb n x sv l w hl h hB hv
  · rcases h.2 with ⟨_, hn⟩ | ⟨g, cap, cur, rfl, hBg, hh, hc, hcm, hcs, ht⟩
    · omega
    · have hne' : vb ≠ g := fun e => hne (by rw [e]; rfl)
      by_cases hroom : l.length + 1 ≤ cap
      · exact insert_room B vb i g cap n x l cur w hl (by omega) hroom hcm hBg hh hcs ht hv hne'
      · obtain rfl : cap = l.length := by omega
        exact insert_grow B vb i g n x l cur w hl (by omega) hB hh ht hv
end Go.Proofs.YthdnbcgomepgaaaDoor
