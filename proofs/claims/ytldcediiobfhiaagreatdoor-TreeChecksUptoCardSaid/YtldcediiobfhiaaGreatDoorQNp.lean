/- Contracts of package name, the second part: texts, numbers, beneath, the rank of a byte. Beneath: one text begins with another one and a slash. Which texts are paths: a walk through a range over strings.SplitSeq. Compare and Under: the contracts. -/
import Derived.Test.YtldcediiobfhiaaGreatDoorQNE
import Derived.RangeFuncBox
namespace Go.Proofs.YtldcediiobfhiaaGreatDoor.Nm
open Go.RowKit
def rankI (c : UInt8) : Int := if c = 47 then -1 else c.toNat
set_option maxHeartbeats 400000 in
theorem rank_any (c : UInt8) (w : World) : Calls Tryz.prog 138 #[.int .u8 (c.toNat : Int)] w fun e w' => e = .returned (.int .i64 (rankI c)) ∧ w' = w := by
 by_cases h : c = 47
 ·subst h
  go_enter Tryz.func138, Tryz.ntmps138
  go_wp2
  go_ret
  exact ⟨rfl, rfl⟩
 ·have hn : ((c.toNat : Int) == 47) = false := beq_eq_false_iff_ne.2 fun e => h (UInt8.toNat_inj.1 (by simpa using (by omega : c.toNat = 47)))
  rw [rankI, if_neg h]
  have h1 := UInt8.toNat_lt c
  clear h
  go_enter Tryz.func138, Tryz.ntmps138
  go_wp2
  go_ret
  exact ⟨rfl, rfl⟩
end Go.Proofs.YtldcediiobfhiaaGreatDoor.Nm
namespace Go.Proofs.YtldcediiobfhiaaGreatDoor.Nm
open Go.RowKit
/-- b begins with a and "/". -/
def benB (a b : List UInt8) : Bool := (a ++ [47]).isPrefixOf b
theorem benB_iff (a b : List UInt8) : benB a b = true ↔ ∃ r, b = a ++ 47 :: r := by
 unfold benB
 rw [List.isPrefixOf_iff_prefix]
 constructor
 ·rintro ⟨r, rfl⟩; exact ⟨r, by simp⟩
 ·rintro ⟨r, rfl⟩; exact ⟨r, by simp⟩
set_option maxHeartbeats 400000 in
set_option maxRecDepth 100000 in
theorem beneath_any (a b : ByteArray) (w : World) (ha : a.size ≤ 4611686018427387904) (_hb : b.size ≤ 4611686018427387904) :
  Calls Tryz.prog 88 #[.string a, .string b] w fun e w' => e = .returned (.bool (benB a.data.toList b.data.toList)) ∧ w' = w := by
 have hsa := Lib.size_eq a
 have hsb := Lib.size_eq b
 by_cases hlt : a.size < b.size
 ·have hlt' : (a.size : Int) < (b.size : Int) := by omega
  obtain ⟨x, hx⟩ : ∃ x : UInt8, b[a.size]'hlt = x := ⟨_, rfl⟩
  have hxl : b.data.toList[a.size]? = some x := by rw [← hx]; exact Lib.data_getElem? b _ hlt
  by_cases h47 : x = 47
  ·subst h47
   have hex : (b.extract 0 a.size).toList = b.data.toList.take a.size := by rw [Lib.extract_toList]; simp
   have hsplit : b.data.toList = b.data.toList.take a.size ++ 47 :: b.data.toList.drop (a.size + 1) := by
    have h1 := (List.take_append_drop a.size b.data.toList).symm
    rw [List.drop_eq_getElem_cons (i := a.size) (by rw [← hsb]; exact hlt)] at h1
    have h2 : b.data.toList[a.size]'(by rw [← hsb]; exact hlt) = 47 := by
     rw [List.getElem?_eq_getElem (by rw [← hsb]; exact hlt)] at hxl
     exact Option.some.inj hxl
    rw [h2] at h1
    exact h1
   by_cases hq : b.data.toList.take a.size = a.data.toList
   ·have hv : benB a.data.toList b.data.toList = true := by
     rw [benB_iff]
     refine ⟨b.data.toList.drop (a.size + 1), ?_⟩
     rw [← hq]
     exact hsplit
    have he : (b.extract 0 a.size).toList = a.toList := by rw [hex, hq, Lib.toList_data]
    rw [hv]
    clear hv hxl hsa hsb hq hex hsplit
    go_enter Tryz.func88, Tryz.ntmps88
    go_wp2
    go_ret
    exact ⟨rfl, rfl⟩
   ·have hv : benB a.data.toList b.data.toList = false := by
     rw [Bool.eq_false_iff]
     intro h
     obtain ⟨r, hr⟩ := (benB_iff _ _).1 h
     rw [hr, hsa] at hq
     simp at hq
    have he : ((b.extract 0 a.size).toList == a.toList) = false := by
     rw [hex, Lib.toList_data]
     exact beq_eq_false_iff_ne.2 hq
    rw [hv]
    clear hv hxl hsa hsb hq hex hsplit
    go_enter Tryz.func88, Tryz.ntmps88
    go_wp2
    go_ret
    exact ⟨rfl, rfl⟩
  ·have hv : benB a.data.toList b.data.toList = false := by
    rw [Bool.eq_false_iff]
    intro h
    obtain ⟨r, hr⟩ := (benB_iff _ _).1 h
    rw [hr, hsa] at hxl
    simp at hxl
    exact h47 hxl.symm
   have hn : ((x.toNat : Int) == 47) = false := beq_eq_false_iff_ne.2 fun e => h47 (UInt8.toNat_inj.1 (by simpa using (by omega : x.toNat = 47)))
   rw [hv]
   clear hv hxl hsa hsb h47
   go_enter Tryz.func88, Tryz.ntmps88
   go_wp2
   go_ret
   exact ⟨rfl, rfl⟩
 ·have hv : benB a.data.toList b.data.toList = false := by
   rw [Bool.eq_false_iff]
   intro h
   obtain ⟨r, hr⟩ := (benB_iff _ _).1 h
   rw [hr] at hsb
   simp at hsb
   simp at hsa
   omega
  have hlt' : ¬ (a.size : Int) < (b.size : Int) := by omega
  rw [hv]
  clear hv hsa hsb
  go_enter Tryz.func88, Tryz.ntmps88
  go_wp2
  go_ret
  exact ⟨rfl, rfl⟩
end Go.Proofs.YtldcediiobfhiaaGreatDoor.Nm
namespace Go.Proofs.YtldcediiobfhiaaGreatDoor.Nm
open Go.RowKit Go.Shelf
attribute [local go_sem] Oper.semAt_some
set_option maxHeartbeats 1000000 in
set_option maxRecDepth 100000 in
theorem isPath_any (s : ByteArray) (w : World) (hs : s.size ≤ 4611686018427387904) :
  Calls Tryz.prog 87 #[.string s] w (Bel (.bool (isPathB s.data.toList)) w) := by
 have hsz := Lib.size_eq s
 refine (callsIn_wide (n := 5)).1 ?_
 refine callsIn_of_wp_marks Tryz.func87 rfl trivial (wpIn_wide.2 ?_) rfl
 simp only [Tryz.ntmps87, List.size_toArray, List.length_cons, List.length_nil, Nat.reduceAdd, Nat.reduceSub, Array.replicate_succ, Array.replicate_zero, List.push_toArray, List.append_toArray, List.nil_append, List.cons_append]
 cases hl : s.data.toList with
 | nil =>
  have he := empty_form hl
  clear hsz hl
  go_wp2
  exact ⟨.bool false, results_cell_one rfl rfl (load_bool (by simp)), rfl, (Below.refl _ w).alloc (Nat.le_refl _) _⟩
 | cons c r =>
  have he := nonempty_form (s := s) (by rw [hl]; simp)
  have hpos : 0 < s.size := by rw [hsz, hl]; simp
  have hpos' : (0 : Int) < (s.size : Int) := by omega
  have hc0 : s[0]'hpos = c := by
   have := Lib.data_getElem? s 0 hpos
   rw [hl] at this
   simp at this
   exact this.symm
  by_cases h47 : c = 47
  ·subst h47
   have hr : (s.extract 1 s.size).data.toList = r := by rw [Lib.extract_to_end, hl]; rfl
   have Hr := Lib.hid hr
   clear hr hl hsz
   go_wp2_with fail
   refine (nameBytes_any _).mono ?_
   rintro e W1 ⟨rfl, hb⟩
   have hi' : (Tryz.prog.info? 120).map (·.size) = some (Lib.setCells NameSet).size := by rw [Lib.setCells_size]; exact (zero_of_info (P := Tryz.prog) info46).2
   have hv := (zero_of_info (P := Tryz.prog) info46).1
   have Hi := Lib.hid hi'
   clear hi'
   go_wp2_with (first
    | (refine wpList_store_new W1 120 _ (Lib.setCells NameSet) rfl _ _ rfl rfl rfl Hi.out (sizes_ok _) (Lib.setCells_one _) ?_)
    | (go_at_call 126; refine (splitSeq_any _ _ _).mono ?_; rintro e w' ⟨rfl, rfl⟩))
   have hz2 : (W1.alloc (.cells (Lib.setCells NameSet) 120)).heap.size = W1.heap.size + 1 := World.size_alloc ..
   have hset := setAt_cells (heap_alloc_last W1 (.cells (Lib.setCells NameSet) 120))
   have hbel : Below w.heap.size w (W1.alloc (.cells (Lib.setCells NameSet) 120)) := (below_new hb).alloc (below_new hb).size _
   have hlt1 : w.heap.size < W1.heap.size := by have := hb.size; simp at this; omega
   have hc0' : (W1.alloc (.cells (Lib.setCells NameSet) 120)).heap[w.heap.size]? = some (.cells #[.bool false] 4) := (Below.heap_alloc _ _ _ hlt1).trans (heap_new_below hb)
   clear hb Hi hv
   rw [← hz2]
   generalize W1.alloc (.cells (Lib.setCells NameSet) 120) = W2 at *
   have hb0 : w.heap.size < W2.heap.size := by omega
   have hb1 : W1.heap.size < W2.heap.size := by omega
   clear hz2
   have hbs := splitWorld_below W2 (s.extract 1 s.size) ⟨#[47]⟩
   refine wp_rangeSplit (n := 5) (by omega) W2 (s.extract 1 s.size) 47 (by simp; omega) rfl rfl
    (fun pre W => (pre.all fun x => nameB NameSet x.data.toList) = true ∧ Around W2.heap.size (splitWorld W2 (s.extract 1 s.size) ⟨#[47]⟩) W)
    (fun cd pre W => (cd = .ret ∧ (pre.all fun x => nameB NameSet x.data.toList) = false) ∧ W.cell? ⟨w.heap.size, 0, none⟩ = some (.bool false) ∧ Below w.heap.size w W)
    (Around.own _ _ _ (by rw [splitWorld_size]; exact Nat.le_refl _)) (fun cd => ownFrom_cell _ (by simp; omega) (Nat.le_refl _) (by omega))
    (fun pre A v h => ⟨h.1, h.2.set v⟩) ⟨rfl, Around.refl _ _⟩
    (fun x => { tmps := #[.string s, undef, .pointer (some ⟨w.heap.size, 0, none⟩), .pointer (some ⟨W1.heap.size, 0, none⟩), .string x, .string s, .bool false, .bool false, .string s, .int .u8 47, .bool false, .bool false,
     .agg (Lib.setCells NameSet), .string s, .string (s.extract 1 s.size), splitFn W2.heap.size, .string x, undef, undef, undef], defers := [] }) ?assign ?body ?done ?stop
   case assign =>
    intro l x W K hK
    gi_wp2
    exact hK
   case body =>
    rintro l pre x W ⟨hall, hA⟩ hx
    have hxs : x.size ≤ 4611686018427387904 := by have := piecesB_size' hx; simp at this; omega
    have hsA : SetAt W W1.heap.size NameSet := fun z => by
     rw [hA.cell (by simp [splitWorld_size]; omega) (by simp; omega)]
     exact (hbs.cell (p := ⟨W1.heap.size, z.toNat, none⟩) hb1).trans (hset z)
    have hcA : W.cell? ⟨w.heap.size, 0, none⟩ = some (.bool false) := by
     rw [hA.cell (by simp [splitWorld_size]; omega) (by simp; omega)]
     exact (hbs.cell (p := ⟨w.heap.size, 0, none⟩) hb0).trans ((cell_of_row _ _ _ _ _ _ hc0').trans rfl)
    have hfA : W.frozen? ⟨w.heap.size, 0, none⟩ = false := by
     rw [hA.frozen (by simp [splitWorld_size]; omega) (by simp; omega)]
     exact (hbs.frozen (p := ⟨w.heap.size, 0, none⟩) hb0).trans (frozen_of_row _ _ _ _ _ hc0')
    have hn := isName_any x W1.heap.size NameSet W hxs hsA
    have hbel2 : Below w.heap.size w W := hbel.trans ((hbs.mono (by omega)).trans (hA.below (by omega) (by rw [splitWorld_size]; omega)))
    have Hall := Lib.hid hall
    have HA := Lib.hid hA
    clear hall hA hsA hset hc0' hbs hbel
    cases hq : nameB NameSet x.data.toList with
    | true =>
     rw [hq] at hn
     have Hn := Lib.hid hn
     have Hq := Lib.hid hq
     clear hn hq
     gi_wp2_with fail
     refine ⟨trivial, (CallsIn.inRound l (callsIn_wide.2 Hn.out)).mono ?_⟩
     rintro e w' ⟨rfl, n, rfl⟩
     gi_wp2
     exact ⟨⟨Nat.le_refl _, fun k o _ h _ => h⟩, fun k _ _ => rfl, by rw [List.all_append, Hall.out]; simp [Hq.out], HA.out.drewN n⟩
    | false =>
     rw [hq] at hn
     have Hn := Lib.hid hn
     have Hq := Lib.hid hq
     clear hn hq
     gi_wp2_with fail
     refine ⟨trivial, (CallsIn.inRound l (callsIn_wide.2 Hn.out)).mono ?_⟩
     rintro e w' ⟨rfl, n, rfl⟩
     gi_wp2
     refine ⟨(KeepsOthers.setCell (W.drewN n) _ _).from _ |> fun h => ⟨h.size, h.same⟩, ⟨rfl, by rw [List.all_append]; simp [Hq.out]⟩, World.cell?_setCell_same' _ _ _ (by simp [hcA]), ?_⟩
     exact (drewN_below hbel2 n).setCell (Nat.le_refl _) _
   case done =>
    rintro D W hD ⟨hall, hA⟩ hK
    have hv : isPathB (47 :: r) = true := by
     rw [isPathB, ← Hr.out, ← piecesB_all, hall]
     rfl
    have hcA : W.cell? ⟨w.heap.size, 0, none⟩ = some (.bool false) := by
     rw [hA.cell (by simp [splitWorld_size]; omega) (by simp; omega)]
     exact (hbs.cell (p := ⟨w.heap.size, 0, none⟩) hb0).trans ((cell_of_row _ _ _ _ _ _ hc0').trans rfl)
    have hfA : W.frozen? ⟨w.heap.size, 0, none⟩ = false := by
     rw [hA.frozen (by simp [splitWorld_size]; omega) (by simp; omega)]
     exact (hbs.frozen (p := ⟨w.heap.size, 0, none⟩) hb0).trans (frozen_of_row _ _ _ _ _ hc0')
    have hbel2 : Below w.heap.size w W := hbel.trans ((hbs.mono (by omega)).trans (hA.below (by omega) (by rw [splitWorld_size]; omega)))
    have Hv := Lib.hid hv
    clear hall hA hset hc0' hbs hbel hv
    have hK2 : (W.setCell ⟨w.heap.size, 0, none⟩ (.bool true)).heap[D]? = some (.deferred (some [])) := (Below.heap_setCell _ _ _ _ (by show D ≠ w.heap.size; omega)).trans hK
    have hcB : (W.setCell ⟨w.heap.size, 0, none⟩ (.bool true)).cell? ⟨w.heap.size, 0, none⟩ = some (.bool true) := World.cell?_setCell_same' _ _ _ (by rw [hcA]; rfl)
    have hbel3 : Below w.heap.size w (W.setCell ⟨w.heap.size, 0, none⟩ (.bool true)) := hbel2.setCell (Nat.le_refl _) _
    have HK := Lib.hid hK2
    have HC := Lib.hid hcB
    clear hK2 hcB hK
    go_wp2
    refine ⟨by simp, .inl ⟨_, _, rfl, run_takeDeferred HK.out, ?_⟩⟩
    exact ⟨.bool true, results_cell_one rfl rfl (load_bool (by rw [cell_putObj _ (by show w.heap.size ≠ D; omega)]; exact HC.out)), by rw [Hv.out], below_putObj hbel3 (by omega) _⟩
   case stop =>
    rintro D cd pre W hD hp ⟨⟨rfl, hbad⟩, hc, hbel2⟩ hK
    have hv : isPathB (47 :: r) = false := by
     rw [isPathB, ← Hr.out, ← piecesB_all, all_prefix hp hbad]
     rfl
    have Hv := Lib.hid hv
    clear hset hc0' hbs hbel hv
    have HK := Lib.hid hK
    have HC := Lib.hid hc
    clear hK hc
    go_wp2
    refine ⟨by simp, .inl ⟨_, _, rfl, run_takeDeferred HK.out, ?_⟩⟩
    exact ⟨.bool false, results_cell_one rfl rfl (load_bool (by rw [cell_putObj _ (by show w.heap.size ≠ D; omega)]; exact HC.out)), by rw [Hv.out], below_putObj hbel2 (by omega) _⟩
  ·have hn : ((c.toNat : Int) != 47) = true := bne_iff_ne.2 fun e => h47 (UInt8.toNat_inj.1 (by simpa using (by omega : c.toNat = 47)))
   have hv : isPathB (c :: r) = false := by simp [isPathB, h47]
   rw [hv]
   clear hsz hl h47 hv
   go_wp2
   exact ⟨.bool false, results_cell_one rfl rfl (load_bool (by simp)), rfl, (Below.refl _ w).alloc (Nat.le_refl _) _⟩
end Go.Proofs.YtldcediiobfhiaaGreatDoor.Nm
namespace Go.Proofs.YtldcediiobfhiaaGreatDoor.Nm
open Go.RowKit
/-- The order of two paths, byte by byte. -/
def cmpL : List UInt8 → List UInt8 → Int
 | [], [] => 0
 | [], _ :: _ => -1
 | _ :: _, [] => 1
 | x :: a, y :: b => if x = y then cmpL a b else Lib.compareInt (rankI x) (rankI y)
theorem cmpL_step (a b : List UInt8) (i : Nat) (x : UInt8) (ha : a[i]? = some x) (hb : b[i]? = some x) : cmpL (a.drop i) (b.drop i) = cmpL (a.drop (i + 1)) (b.drop (i + 1)) := by
 obtain ⟨h1, rfl⟩ := List.getElem?_eq_some_iff.1 ha
 obtain ⟨h2, h3⟩ := List.getElem?_eq_some_iff.1 hb
 rw [List.drop_eq_getElem_cons h1, List.drop_eq_getElem_cons h2, cmpL, if_pos h3.symm]
theorem cmpL_diff (a b : List UInt8) (i : Nat) (x y : UInt8) (ha : a[i]? = some x) (hb : b[i]? = some y) (hne : x ≠ y) : cmpL (a.drop i) (b.drop i) = Lib.compareInt (rankI x) (rankI y) := by
 obtain ⟨h1, rfl⟩ := List.getElem?_eq_some_iff.1 ha
 obtain ⟨h2, rfl⟩ := List.getElem?_eq_some_iff.1 hb
 rw [List.drop_eq_getElem_cons h1, List.drop_eq_getElem_cons h2, cmpL, if_neg hne]
theorem cmpL_end (a b : List UInt8) (i : Nat) (h : a.length ≤ i ∨ b.length ≤ i) (ha : i ≤ a.length) (hb : i ≤ b.length) : cmpL (a.drop i) (b.drop i) = Lib.compareInt a.length b.length := by
 rcases Nat.lt_or_ge i a.length with h1 | h1
 ·have h2 : i = b.length := by omega
  subst h2
  rw [List.drop_length, List.drop_eq_getElem_cons h1, cmpL]
  simp [Lib.compareInt]; omega
 ·have h2 : i = a.length := by omega
  subst h2
  rw [List.drop_length]
  rcases Nat.lt_or_ge a.length b.length with h3 | h3
  ·rw [List.drop_eq_getElem_cons h3, cmpL]
   simp [Lib.compareInt]; omega
  ·rw [List.drop_of_length_le h3, cmpL]
   have : a.length = b.length := by omega
   simp [Lib.compareInt, this]
def cmpB (a b : List UInt8) : Int × Int := if isPathB a && isPathB b then (cmpL a b, 0) else (0, 10)
theorem quiet_add_same {P : Program} {f : FuncId} {args : Array Value} {w : World} {a n : Nat} {v : Value}
  (h : Calls P f args (w.drewN (a + n)) fun e w' => e = .returned v ∧ w' = w.drewN (a + n)) :
  Calls P f args (w.drewN (a + n)) fun e w'' => e = .returned v ∧ ∃ m, w'' = w.drewN (a + m) :=
 h.mono fun _ _ ⟨he, hm⟩ => ⟨he, n, hm⟩
set_option maxHeartbeats 1000000 in
set_option maxRecDepth 100000 in
theorem compare_any (a b : ByteArray) (w : World) (ha : a.size ≤ 4611686018427387904) (hb : b.size ≤ 4611686018427387904) :
  Calls Tryz.prog 102 #[.string a, .string b] w (Bel (.tuple #[.int .i64 (cmpB a.data.toList b.data.toList).1, .int .i64 (cmpB a.data.toList b.data.toList).2]) w) := by
 have hpa := isPath_any a w ha
 have hpb := fun W => isPath_any b W hb
 cases ka : isPathB a.data.toList with
 | false =>
  have hv : cmpB a.data.toList b.data.toList = (0, 10) := by simp [cmpB, ka]
  rw [ka] at hpa
  rw [hv]
  have HA := Lib.hid hpa
  clear hpa hpb hv ka
  go_enter Tryz.func102, Tryz.ntmps102
  go_wp2_with (go_at_call 87; refine HA.out.mono ?_; rintro e w' ⟨rfl, hb1⟩)
  go_ret2
  exact ⟨rfl, hb1⟩
 | true =>
  rw [ka] at hpa
  have HA := Lib.hid hpa
  clear hpa
  cases kb : isPathB b.data.toList with
  | false =>
   have hv : cmpB a.data.toList b.data.toList = (0, 10) := by simp [cmpB, kb]
   have hpb' := hpb
   rw [kb] at hpb
   rw [hv]
   have HB := Lib.hid hpb
   clear hpb hpb' hv ka kb
   go_enter Tryz.func102, Tryz.ntmps102
   go_wp2_with fail
   refine HA.out.mono ?_
   rintro e W1 ⟨rfl, hb1⟩
   go_wp2_with fail
   refine (HB.out _).mono ?_
   rintro e W2 ⟨rfl, hb2⟩
   go_wp2
   go_ret2
   exact ⟨rfl, hb1.trans (hb2.mono hb1.size)⟩
  | true =>
   have hv : cmpB a.data.toList b.data.toList = (cmpL a.data.toList b.data.toList, 0) := by simp [cmpB, ka, kb]
   rw [kb] at hpb
   rw [hv]
   have hsa := Lib.size_eq a
   have hsb := Lib.size_eq b
   have HB := Lib.hid hpb
   clear hpb hv ka kb
   have Hsa := Lib.hid hsa
   have Hsb := Lib.hid hsb
   clear hsa hsb
   go_enter Tryz.func102, Tryz.ntmps102
   go_wp2_with fail
   refine HA.out.mono ?_
   rintro e W1 ⟨rfl, hb1⟩
   go_wp2_with fail
   refine (HB.out _).mono ?_
   rintro e W2 ⟨rfl, hb2⟩
   have hb3 := hb1.trans (hb2.mono hb1.size)
   clear hb1 hb2
   go_wp2
   go_loopw [6, 20] (fun s6 s20 wx => ∃ i : Nat, i ≤ a.size ∧ i ≤ b.size ∧ s20 = .int .i64 i ∧ cmpL a.data.toList b.data.toList = cmpL (a.data.toList.drop i) (b.data.toList.drop i) ∧ ∃ n, wx = W2.drewN n) (fun _ s20 _ => a.size - (intOf s20).toNat)
   case atStart => exact ⟨0, by omega, by omega, rfl, rfl, 0, rfl⟩
   case round =>
    obtain ⟨i, hia, hib, rfl, hcmp, n, rfl⟩ := hrel
    have Hcmp := Lib.hid hcmp
    clear hcmp
    by_cases hlt : i < a.size ∧ i < b.size
    ·obtain ⟨hla, hlb⟩ := hlt
     have hla' : (i : Int) < (a.size : Int) := by omega
     have hlb' : (i : Int) < (b.size : Int) := by omega
     obtain ⟨x, hx⟩ : ∃ x : UInt8, a[i]'hla = x := ⟨_, rfl⟩
     obtain ⟨y, hy⟩ : ∃ y : UInt8, b[i]'hlb = y := ⟨_, rfl⟩
     have hxl : a.data.toList[i]? = some x := by rw [← hx]; exact Lib.data_getElem? a i hla
     have hyl : b.data.toList[i]? = some y := by rw [← hy]; exact Lib.data_getElem? b i hlb
     by_cases hxy : x = y
     ·subst hxy
      have Hstep := Lib.hid (cmpL_step _ _ i x hxl hyl)
      clear hxl hyl
      go_wp2
      go_quiet (fail)
      go_wp2
      exact ⟨⟨i + 1, by omega, by omega, by go_num, by rw [Hcmp.out, Hstep.out], _, rfl⟩, by simp [intOf]; omega⟩
     ·have hne : ((x.toNat : Int) != (y.toNat : Int)) = true := bne_iff_ne.2 fun e => hxy (UInt8.toNat_inj.1 (by omega))
      have Hd := Lib.hid (cmpL_diff _ _ i x y hxl hyl hxy)
      clear hxl hyl hxy
      have hr1 := rank_any x
      have hr2 := rank_any y
      have hcc := fun W => Tryz.cmp_Compare_int (rankI x) (rankI y) W
      have Hr1 := Lib.hid hr1
      have Hr2 := Lib.hid hr2
      have Hcc := Lib.hid hcc
      clear hr1 hr2 hcc
      go_wp2
      go_quiet (fail)
      go_wp2
      go_quiet ((first
       | (go_at_call 138; exact quiet_add_same (Hr1.out _))
       | (go_at_call 138; exact quiet_add_same (Hr2.out _))
       | (go_at_call 137; exact quiet_add_same (Hcc.out _))))
      go_wp2
      go_ret2
      exact ⟨by rw [Hcmp.out, Hd.out]; rfl, drewN_below (drewN_below (drewN_below hb3 _) _) _⟩
    ·have he := cmpL_end a.data.toList b.data.toList i (by rw [← Hsa.out, ← Hsb.out]; omega) (by rw [← Hsa.out]; exact hia) (by rw [← Hsb.out]; exact hib)
     rw [← Hsa.out, ← Hsb.out] at he
     have He := Lib.hid he
     clear he
     have hmin : ¬ (i : Int) < min (a.size : Int) (b.size : Int) := by omega
     go_wp2_with (go_at_call 137; refine (Tryz.cmp_Compare_int _ _ _).mono ?_; rintro e w' ⟨rfl, rfl⟩)
     go_ret2
     exact ⟨by rw [Hcmp.out, He.out]; rfl, drewN_below hb3 _⟩
end Go.Proofs.YtldcediiobfhiaaGreatDoor.Nm
