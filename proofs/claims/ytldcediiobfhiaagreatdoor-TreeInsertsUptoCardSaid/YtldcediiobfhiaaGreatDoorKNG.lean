/- Which texts are names of links. -/
import Derived.Test.YtldcediiobfhiaaGreatDoorKNE
namespace Go.Proofs.YtldcediiobfhiaaGreatDoor.Nm
open Go.RowKit Go.Shelf
attribute [local go_sem] Oper.semAt_some
def linkPart (l : List UInt8) : Bool := !l.isEmpty && !isDotsB l && allIn LinkSet l
def linkB (l : List UInt8) : Bool := decide (l.length ≤ 256) && (pieces 47 l).all linkPart
set_option maxHeartbeats 1000000 in
set_option maxRecDepth 100000 in
theorem link_any (s : ByteArray) (w : World) (hs : s.size ≤ 4611686018427387904) :
  Calls Tryz.prog 152 #[.string s] w (Bel (.bool (linkB s.data.toList)) w) := by
 have hsz := Lib.size_eq s
 refine (callsIn_wide (n := 5)).1 ?_
 refine callsIn_of_wp_marks Tryz.func152 rfl trivial (wpIn_wide.2 ?_) rfl
 simp only [Tryz.ntmps152, List.size_toArray, List.length_cons, List.length_nil, Nat.reduceAdd, Nat.reduceSub, Array.replicate_succ, Array.replicate_zero, List.push_toArray, List.append_toArray, List.nil_append, List.cons_append]
 by_cases hlong : s.size ≤ 256
 ·have hlong' : (s.size : Int) ≤ 256 := by omega
  have hdl : decide (256 < (s.size : Int)) = false := decide_eq_false (by omega)
  have hlk : linkB s.data.toList = (pieces 47 s.data.toList).all linkPart := by
   unfold linkB
   rw [decide_eq_true (by rw [← hsz]; exact hlong), Bool.true_and]
  have Hlk := Lib.hid hlk
  clear hlk hsz
  go_wp2_with fail
  refine (linkBytes_any _).mono ?_
  rintro e W1 ⟨rfl, hb⟩
  have hi' : (Tryz.prog.info? 120).map (·.size) = some (Lib.setCells LinkSet).size := by rw [Lib.setCells_size]; exact (zero_of_info (P := Tryz.prog) info46).2
  have hv := (zero_of_info (P := Tryz.prog) info46).1
  have Hi := Lib.hid hi'
  clear hi'
  go_wp2_with (first
   | (refine wpList_store_new W1 120 _ (Lib.setCells LinkSet) rfl _ _ rfl rfl rfl Hi.out (sizes_ok _) (Lib.setCells_one _) ?_)
   | (go_at_call 126; refine (splitSeq_any _ _ _).mono ?_; rintro e w' ⟨rfl, rfl⟩))
  have hz2 : (W1.alloc (.cells (Lib.setCells LinkSet) 120)).heap.size = W1.heap.size + 1 := World.size_alloc ..
  have hset := setAt_cells (heap_alloc_last W1 (.cells (Lib.setCells LinkSet) 120))
  have hbel : Below w.heap.size w (W1.alloc (.cells (Lib.setCells LinkSet) 120)) := (below_new hb).alloc (below_new hb).size _
  have hlt1 : w.heap.size < W1.heap.size := by have := hb.size; simp at this; omega
  have hc0' : (W1.alloc (.cells (Lib.setCells LinkSet) 120)).heap[w.heap.size]? = some (.cells #[.bool false] 4) := (Below.heap_alloc _ _ _ hlt1).trans (heap_new_below hb)
  clear hb Hi hv
  rw [← hz2]
  generalize W1.alloc (.cells (Lib.setCells LinkSet) 120) = W2 at *
  have hb0 : w.heap.size < W2.heap.size := by omega
  have hb1 : W1.heap.size < W2.heap.size := by omega
  clear hz2
  have hbs := splitWorld_below W2 s ⟨#[47]⟩
  refine wp_rangeSplit (n := 5) (by omega) W2 s 47 hs rfl rfl
   (fun pre W => (pre.all fun x => linkPart x.data.toList) = true ∧ Around W2.heap.size (splitWorld W2 s ⟨#[47]⟩) W)
   (fun cd pre W => (cd = .ret ∧ (pre.all fun x => linkPart x.data.toList) = false) ∧ W.cell? ⟨w.heap.size, 0, none⟩ = some (.bool false) ∧ Below w.heap.size w W)
   (Around.own _ _ _ (by rw [splitWorld_size]; exact Nat.le_refl _)) (fun cd => ownFrom_cell _ (by simp; omega) (Nat.le_refl _) (by omega))
   (fun pre A v h => ⟨h.1, h.2.set v⟩) ⟨rfl, Around.refl _ _⟩
   (fun x => { tmps := #[.string s, undef, .pointer (some ⟨w.heap.size, 0, none⟩), .pointer (some ⟨W1.heap.size, 0, none⟩), .string x, .string s, .int .i64 s.size, .bool false,
    .agg (Lib.setCells LinkSet), .string s, splitFn W2.heap.size, .string x, undef, undef, undef, undef, undef, undef, undef, undef, undef, undef, undef], defers := [] }) ?assign ?body ?done ?stop
  case assign =>
   intro l x W K hK
   gi_wp2
   exact hK
  case body =>
   rintro l pre x W ⟨hall, hA⟩ hx
   have hxs : x.size ≤ 4611686018427387904 := by have := piecesB_size' hx; omega
   have hsA : SetAt W W1.heap.size LinkSet := fun z => by
    rw [hA.cell (by simp [splitWorld_size]; omega) (by simp; omega)]
    exact (hbs.cell (p := ⟨W1.heap.size, z.toNat, none⟩) hb1).trans (hset z)
   have hcA : W.cell? ⟨w.heap.size, 0, none⟩ = some (.bool false) := by
    rw [hA.cell (by simp [splitWorld_size]; omega) (by simp; omega)]
    exact (hbs.cell (p := ⟨w.heap.size, 0, none⟩) hb0).trans ((cell_of_row _ _ _ _ _ _ hc0').trans rfl)
   have hfA : W.frozen? ⟨w.heap.size, 0, none⟩ = false := by
    rw [hA.frozen (by simp [splitWorld_size]; omega) (by simp; omega)]
    exact (hbs.frozen (p := ⟨w.heap.size, 0, none⟩) hb0).trans (frozen_of_row _ _ _ _ _ hc0')
   have hn := consists_any x W1.heap.size LinkSet W hxs hsA
   have hd := isDots_any x W
   have hbel2 : Below w.heap.size w W := hbel.trans ((hbs.mono (by omega)).trans (hA.below (by omega) (by rw [splitWorld_size]; omega)))
   have Hall := Lib.hid hall
   have HA := Lib.hid hA
   clear hall hA hsA hset hc0' hbs hbel
   by_cases he : x.data.toList = []
   ·have hq : linkPart x.data.toList = false := by simp [linkPart, he]
    have he' := empty_form he
    have Hq := Lib.hid hq
    clear hn hq he hd
    gi_wp2
    refine ⟨trivial, ?_⟩
    gi_wp2
    refine ⟨trivial, ?_⟩
    gi_wp2
    refine ⟨(KeepsOthers.setCell W _ _).from _ |> fun h => ⟨h.size, h.same⟩, ⟨rfl, by rw [List.all_append]; simp [Hq.out]⟩, World.cell?_setCell_same' _ _ _ (by simp [hcA]), ?_⟩
    exact hbel2.setCell (Nat.le_refl _) _
   ·have he' := nonempty_form he
    cases hdd : isDotsB x.data.toList with
    | true =>
     rw [hdd] at hd
     have hq : linkPart x.data.toList = false := by simp [linkPart, hdd]
     have Hq := Lib.hid hq
     have Hd := Lib.hid hd
     clear hn hq he hd hdd
     gi_wp2_with fail
     refine ⟨trivial, (CallsIn.inRound l (callsIn_wide.2 Hd.out)).mono ?_⟩
     rintro e w' ⟨rfl, rfl⟩
     gi_wp2
     refine ⟨trivial, ?_⟩
     gi_wp2
     refine ⟨(KeepsOthers.setCell w' _ _).from _ |> fun h => ⟨h.size, h.same⟩, ⟨rfl, by rw [List.all_append]; simp [Hq.out]⟩, World.cell?_setCell_same' _ _ _ (by simp [hcA]), ?_⟩
     exact hbel2.setCell (Nat.le_refl _) _
    | false =>
     rw [hdd] at hd
     have hq : linkPart x.data.toList = allIn LinkSet x.data.toList := by
      have hle : x.data.toList.isEmpty = false := by rw [← Lib.toList_data]; exact he'
      unfold linkPart
      rw [hdd, hle]
      rfl
     have Hd := Lib.hid hd
     clear hd hdd he
     cases hal : allIn LinkSet x.data.toList with
     | true =>
      rw [hal] at hn hq
      have Hq := Lib.hid hq
      have Hn := Lib.hid hn
      clear hq hn hal
      gi_wp2_with fail
      refine ⟨trivial, (CallsIn.inRound l (callsIn_wide.2 Hd.out)).mono ?_⟩
      rintro e w' ⟨rfl, rfl⟩
      gi_wp2_with fail
      refine ⟨trivial, (CallsIn.inRound l (callsIn_wide.2 Hn.out)).mono ?_⟩
      rintro e w'' ⟨rfl, n, rfl⟩
      gi_wp2
      exact ⟨⟨Nat.le_refl _, fun k o _ h _ => h⟩, fun k _ _ => rfl, by rw [List.all_append, Hall.out]; simp [Hq.out], HA.out.drewN n⟩
     | false =>
      rw [hal] at hn hq
      have Hq := Lib.hid hq
      have Hn := Lib.hid hn
      clear hq hn hal
      gi_wp2_with fail
      refine ⟨trivial, (CallsIn.inRound l (callsIn_wide.2 Hd.out)).mono ?_⟩
      rintro e w' ⟨rfl, rfl⟩
      gi_wp2_with fail
      refine ⟨trivial, (CallsIn.inRound l (callsIn_wide.2 Hn.out)).mono ?_⟩
      rintro e w'' ⟨rfl, n, rfl⟩
      gi_wp2
      refine ⟨(KeepsOthers.setCell (w'.drewN n) _ _).from _ |> fun h => ⟨h.size, h.same⟩, ⟨rfl, by rw [List.all_append]; simp [Hq.out]⟩, World.cell?_setCell_same' _ _ _ (by simp [hcA]), ?_⟩
      exact (drewN_below hbel2 n).setCell (Nat.le_refl _) _
  case done =>
   rintro D W hD ⟨hall, hA⟩ hK
   have hv : linkB s.data.toList = true := by rw [Hlk.out, ← piecesB_all, hall]
   have hcA : W.cell? ⟨w.heap.size, 0, none⟩ = some (.bool false) := by
    rw [hA.cell (by simp [splitWorld_size]; omega) (by simp; omega)]
    exact (hbs.cell (p := ⟨w.heap.size, 0, none⟩) hb0).trans ((cell_of_row _ _ _ _ _ _ hc0').trans rfl)
   have hfA : W.frozen? ⟨w.heap.size, 0, none⟩ = false := by
    rw [hA.frozen (by simp [splitWorld_size]; omega) (by simp; omega)]
    exact (hbs.frozen (p := ⟨w.heap.size, 0, none⟩) hb0).trans (frozen_of_row _ _ _ _ _ hc0')
   have hbel2 : Below w.heap.size w W := hbel.trans ((hbs.mono (by omega)).trans (hA.below (by omega) (by rw [splitWorld_size]; omega)))
   have Hv := Lib.hid hv
   clear hall hA hset hc0' hbs hbel hv
   have hK2 : (W.setCell ⟨w.heap.size, 0, none⟩ (.bool true)).heap[D]? = some (.deferred (some [])) := (Below.heap_setCell _ _ _ _ (by show D ≠ w.heap.size; omega)).trans hK
   have hcB : (W.setCell ⟨w.heap.size, 0, none⟩ (.bool true)).cell? ⟨w.heap.size, 0, none⟩ = some (.bool true) := World.cell?_setCell_same' _ _ _ (by rw [hcA]; rfl)
   have hbel3 : Below w.heap.size w (W.setCell ⟨w.heap.size, 0, none⟩ (.bool true)) := hbel2.setCell (Nat.le_refl _) _
   have HK := Lib.hid hK2
   have HC := Lib.hid hcB
   clear hK2 hcB hK
   go_wp2
   refine ⟨by simp, .inl ⟨_, _, rfl, run_takeDeferred HK.out, ?_⟩⟩
   exact ⟨.bool true, results_cell_one rfl rfl (load_bool (by rw [cell_putObj _ (by show w.heap.size ≠ D; omega)]; exact HC.out)), by rw [Hv.out], below_putObj hbel3 (by omega) _⟩
  case stop =>
   rintro D cd pre W hD hp ⟨⟨rfl, hbad⟩, hc, hbel2⟩ hK
   have hv : linkB s.data.toList = false := by rw [Hlk.out, ← piecesB_all, all_prefix hp hbad]
   have Hv := Lib.hid hv
   clear hset hc0' hbs hbel hv
   have HK := Lib.hid hK
   have HC := Lib.hid hc
   clear hK hc
   go_wp2
   refine ⟨by simp, .inl ⟨_, _, rfl, run_takeDeferred HK.out, ?_⟩⟩
   exact ⟨.bool false, results_cell_one rfl rfl (load_bool (by rw [cell_putObj _ (by show w.heap.size ≠ D; omega)]; exact HC.out)), by rw [Hv.out], below_putObj hbel2 (by omega) _⟩
 ·have hlong' : ¬ (s.size : Int) ≤ 256 := by omega
  have hv : linkB s.data.toList = false := by
   unfold linkB
   rw [decide_eq_false (by rw [← hsz]; exact hlong), Bool.false_and]
  have Hv := Lib.hid hv
  clear hsz hv
  go_wp2
  exact ⟨.bool false, results_cell_one rfl rfl (load_bool (by simp)), by rw [Hv.out], (Below.refl _ w).alloc (Nat.le_refl _) _⟩
end Go.Proofs.YtldcediiobfhiaaGreatDoor.Nm
