/- name.Text: the contract, as in the first stage. -/
import Derived.Test.YtdlchlbngojljaaDoorPGlB
namespace Go.Proofs.YtdlchlbngojljaaDoor.Gl
open Go.RowKit
theorem info46 : (Tryd.prog.info? 143).map (fun i => (i.zero, i.size)) = some (some (.agg (Array.replicate 256 (.bool false))), 256) := by kernel_rfl
/-- All bytes of l stand in S. -/
def allIn (S l : List UInt8) : Bool := l.all fun c => S.contains c
theorem allIn_nil (S : List UInt8) : allIn S [] = true := rfl
theorem allIn_snoc (S l : List UInt8) (x : UInt8) : allIn S (l ++ [x]) = (allIn S l && S.contains x) := by simp [allIn]
theorem allIn_false (S l : List UInt8) (i : Nat) (x : UInt8) (h : l[i]? = some x) (hx : S.contains x = false) : allIn S l = false := by
 unfold allIn
 rw [List.all_eq_false]
 exact ⟨x, List.mem_of_getElem? h, by rw [hx]; exact Bool.false_ne_true⟩
def SetAt (w : World) (b : Nat) (S : List UInt8) : Prop := ∀ x : UInt8, w.cell? ⟨b, x.toNat, none⟩ = some (.bool (S.contains x))
def Draws (v : Value) (w : World) (e : Ending) (w' : World) : Prop := e = .returned v ∧ ∃ n, w' = w.drewN n
set_option maxHeartbeats 400000 in
set_option maxRecDepth 100000 in
theorem consists_any (s : ByteArray) (b : Nat) (S : List UInt8) (w : World) (hs : s.size ≤ 4611686018427387904) (hS : SetAt w b S) :
  Calls Tryd.prog 79 #[.string s, .pointer (some ⟨b, 0, none⟩)] w (Draws (.bool (allIn S s.data.toList)) w) := by
 go_enter Tryd.func79, Tryd.ntmps79
 go_wp2
 go_loopw [5, 8] (fun s5 s8 wx => ∃ i : Nat, i ≤ s.size ∧ s8 = .int .i64 i ∧ allIn S (s.data.toList.take i) = true ∧ ∃ n, wx = w.drewN n) (fun _ s8 _ => s.size - (intOf s8).toNat)
 case atStart => exact ⟨0, by omega, rfl, rfl, 0, rfl⟩
 case round =>
  obtain ⟨i, hi, rfl, hall, n, rfl⟩ := hrel
  have Hall := Lib.hid hall
  clear hall
  by_cases hlt : i < s.size
  ·have hiz : (i : Int) < (s.size : Int) := by omega
   obtain ⟨x, hx⟩ : ∃ x : UInt8, s[i]'hlt = x := ⟨_, rfl⟩
   have hxl : s.data.toList[i]? = some x := by rw [← hx]; exact Lib.data_getElem? s i hlt
   have hx256 : (x.toNat : Int) < 256 := by have := UInt8.toNat_lt x; omega
   have hcell := hS x
   have Hx := Lib.hid hxl
   clear hxl
   cases hc : S.contains x with
   | false =>
    rw [hc] at hcell
    have hf := allIn_false S s.data.toList i x Hx.out hc
    clear hc
    have Hf := Lib.hid hf
    clear hf
    go_wp2
    go_quiet (fail)
    go_wp2
    go_ret
    exact ⟨by rw [Hf.out]; rfl, n + nq, by rw [World.drewN_drewN]⟩
   | true =>
    rw [hc] at hcell
    have ht : allIn S (s.data.toList.take (i + 1)) = true := by
     rw [List.take_add_one, Hx.out]
     simp only [Option.toList]
     rw [allIn_snoc, Hall.out, hc]
     rfl
    clear hc
    have Ht := Lib.hid ht
    clear ht
    go_wp2
    go_quiet (fail)
    go_wp2
    exact ⟨⟨i + 1, by omega, by go_num, Ht.out, _, rfl⟩, by simp [intOf]; omega⟩
  ·go_wp2
   go_ret
   refine ⟨?_, _, rfl⟩
   have h : s.data.toList.take i = s.data.toList := List.take_of_length_le (by rw [← Lib.size_eq]; omega)
   rw [h] at Hall
   rw [Hall.out]
   rfl
theorem drewN_below {a w : World} {B : Nat} (h : Below B a w) (n : Nat) : Below B a (w.drewN n) := ⟨h.os, h.tape, h.output, h.size, h.block⟩
theorem heap_new_below {w W1 : World} {o : Obj} (hb : Below (w.alloc o).heap.size (w.alloc o) W1) : W1.heap[w.heap.size]? = some o :=
 (hb.block _ (by simp)).trans (heap_alloc_last w o)
theorem below_new {w W1 : World} {o : Obj} (hb : Below (w.alloc o).heap.size (w.alloc o) W1) : Below w.heap.size w W1 :=
 ((Below.refl _ w).alloc (Nat.le_refl _) o).trans (hb.mono (by simp))
theorem empty_form {s : ByteArray} (h : s.data.toList = []) : s.toList.isEmpty = true := by rw [Lib.toList_data, h]; rfl
theorem nonempty_form {s : ByteArray} (h : s.data.toList ≠ []) : s.toList.isEmpty = false := by
 rw [Lib.toList_data]
 cases hl : s.data.toList with
 | nil => exact absurd hl h
 | cons _ _ => rfl
theorem setAt_cells {w : World} {b : Nat} {S : List UInt8} {t : TypeId} {fr : Nat × Nat} (h : w.heap[b]? = some (.cells (Lib.setCells S) t fr)) : SetAt w b S := by
 intro x
 rw [cell_of_row w b _ _ t fr h, Lib.setCells_at]
theorem SetAt.below {w W : World} {b : Nat} {S : List UInt8} (h : SetAt w b S) {B : Nat} (hb : Below B w W) (hB : b < B) : SetAt W b S := fun x =>
 (hb.cell (p := ⟨b, x.toNat, none⟩) hB).trans (h x)
/-- A whole array stored into the block that was made last. -/
theorem wpList_store_new {P : Program} {ops : Array Oper} {rest : List Oper} {o : Oper} {a : Act} {Q : Exit → Act → World → Prop} (w : World) (t : TypeId) (c c' : Array Value) (hgd : o.guard = none) (x y : Operand) (ho : o.op = .store t x y)
  (hx : a.eval x = .pointer (some ⟨w.heap.size, 0, none⟩)) (hy : a.eval y = .agg c') (hi : (P.info? t).map (·.size) = some c'.size) (hc : c.size = c'.size) (h1 : c'.all (·.oneCell') = true)
  (h : wpList P ops Q rest (a.put o.dst undef) (w.alloc (.cells c' t))) : wpList P ops Q (o :: rest) a (w.alloc (.cells c t)) := by
 refine wpList_store_row hgd t x y ho w.heap.size c' hx hy t c (heap_alloc_last w _) hi hc h1 ?_
 rw [World.setRow_alloc_new]
 exact h
theorem sizes_ok (S : List UInt8) : (Array.replicate 256 (Value.bool false)).size = (Lib.setCells S).size := by rw [Lib.setCells_size, Array.size_replicate]
theorem forall_u8 {p : UInt8 → Bool} (h : (List.range 256).all (fun n => p (UInt8.ofNat n)) = true) (b : UInt8) : p b = true := by
 have := List.all_eq_true.1 h b.toNat (List.mem_range.2 (UInt8.toNat_lt b))
 simpa using this
def TextSet : List UInt8 := (List.range 95).map fun i => UInt8.ofNat (i + 32)
theorem textSet_len : TextSet.length = 95 := by simp [TextSet]
theorem textSet_get (i : Nat) (h : i < 95) : TextSet[i]? = some (UInt8.ofNat (i + 32)) := by simp [TextSet, h]
set_option maxHeartbeats 400000 in
set_option maxRecDepth 1000000 in
theorem nameTextBytes_any (w : World) : Calls Tryd.prog 78 #[] w (Bel (.agg (Lib.setCells TextSet)) w) := by
 have hv := (zero_of_info (P := Tryd.prog) info46).1
 have hi := (zero_of_info (P := Tryd.prog) info46).2
 go_enter Tryd.func78, Tryd.ntmps78
 go_wp2
 rw [← Lib.setCells_nil]
 go_loopg [2] 95 (fun g s2 wx => ∃ i : Nat, i + g = 95 ∧ s2 = .int .i64 ((i + 32 : Nat) : Int) ∧ wx = (w.alloc (.cells (Lib.setCells []) 143)).alloc (.cells (Lib.setCells (TextSet.take i)) 143))
 case atStart => exact ⟨0, by omega, rfl, rfl⟩
 case round =>
  obtain ⟨i, hig, rfl, rfl⟩ := hrel
  cases gk with
  | zero =>
   obtain rfl : i = 95 := by omega
   rw [show TextSet.take 95 = TextSet from List.take_of_length_le (by rw [textSet_len]; exact Nat.le_refl _)]
   have hsz := Lib.setCells_size TextSet
   have h1 := heap_alloc2_new w (.cells (Lib.setCells []) 143) (.cells (Lib.setCells TextSet) 143)
   have h0 := heap_alloc2_old w (.cells (Lib.setCells []) 143) (.cells (Lib.setCells TextSet) 143)
   have hb : Below w.heap.size w ((w.alloc (.cells (Lib.setCells []) 143)).alloc (.cells (Lib.setCells TextSet) 143)) := ((Below.refl _ w).alloc (Nat.le_refl _) _).alloc (by simp) _
   have hi' : (Tryd.prog.info? 143).map (·.size) = some (Lib.setCells TextSet).size := by rw [hsz]; exact hi
   generalize (w.alloc (.cells (Lib.setCells []) 143)).alloc (.cells (Lib.setCells TextSet) 143) = W at *
   go_wp2_with (first
    | (refine wpList_load_row rfl 143 _ rfl (w.heap.size + 1) rfl 143 _ _ _ h1 Tryd.underlying143 rfl hi' ?_)
    | (refine wpList_store_row rfl 143 _ _ rfl w.heap.size _ rfl rfl 143 _ h0 hi' (by rw [Lib.setCells_size, Lib.setCells_size]) (Lib.setCells_one _) ?_))
   refine bodyPost_ret (v := .agg (Lib.setCells TextSet)) (results_cell_row rfl _ _ w.heap.size 143 _ _ _ rfl (setRow_heap _ _ _ _ _ _ h0) Tryd.underlying143 rfl hi') rfl ⟨rfl, below_setRow hb (Nat.le_refl _) _⟩
  | succ g =>
   have hx : (UInt8.ofNat (i + 32)).toNat = i + 32 := by simp; omega
   have hlt : ((i + 32 : Nat) : Int) ≤ 126 := by omega
   have hlt2 : ((i + 32 : Nat) : Int) < 256 := by omega
   have hcell := Lib.setCells_at (TextSet.take i) (UInt8.ofNat (i + 32))
   rw [hx] at hcell
   have Hs := Lib.hid (Lib.setCells_snoc (TextSet.take i) (UInt8.ofNat (i + 32)))
   have Hx := Lib.hid hx
   clear hx
   go_wp2
   go_roundg g
   case measure => omega
   case rel => exact ⟨i + 1, by omega, congrArg (Value.int IntKind.i64) (by omega), by rw [List.take_add_one, textSet_get i (by omega)]; simp only [Option.toList]; rw [Hs.out, Hx.out]⟩
def textB (l : List UInt8) : Bool := decide (l.length ≤ 256) && allIn TextSet l
set_option maxHeartbeats 400000 in
set_option maxRecDepth 100000 in
theorem text_any (s : ByteArray) (w : World) (hs : s.size ≤ 4611686018427387904) :
  Calls Tryd.prog 54 #[.string s] w (Bel (.bool (textB s.data.toList)) w) := by
 have hv := (zero_of_info (P := Tryd.prog) info46).1
 have hi := (zero_of_info (P := Tryd.prog) info46).2
 have hi' : (Tryd.prog.info? 143).map (·.size) = some (Lib.setCells TextSet).size := by rw [Lib.setCells_size]; exact hi
 have Hi := Lib.hid hi'
 clear hi'
 have hsz := Lib.size_eq s
 have hk : textB s.data.toList = (decide (s.size ≤ 256) && allIn TextSet s.data.toList) := by unfold textB; rw [← hsz]
 clear hsz
 by_cases h : (s.size : Int) ≤ 256
 ·rw [decide_eq_true (by omega)] at hk
  have Hk := Lib.hid hk
  clear hk
  go_enter Tryd.func54, Tryd.ntmps54
  go_wp2_with fail
  refine (nameTextBytes_any _).mono ?_
  rintro e W1 ⟨rfl, hb⟩
  have Hn := Lib.hid (consists_any s W1.heap.size TextSet (W1.alloc (.cells (Lib.setCells TextSet) 143)) hs (setAt_cells (heap_alloc_last W1 _)))
  go_wp2_with (first
   | (refine wpList_store_new W1 143 _ (Lib.setCells TextSet) rfl _ _ rfl rfl rfl Hi.out (sizes_ok _) (Lib.setCells_one _) ?_)
   | (go_at_call 79; refine Hn.out.mono ?_; rintro e w' ⟨rfl, n, rfl⟩))
  go_ret
  exact ⟨by rw [Hk.out]; rfl, drewN_below (hb.alloc hb.size _) n⟩
 ·rw [decide_eq_false (by omega)] at hk
  have Hk := Lib.hid hk
  clear hk
  go_enter Tryd.func54, Tryd.ntmps54
  go_wp2_with fail
  refine (nameTextBytes_any _).mono ?_
  rintro e W1 ⟨rfl, hb⟩
  go_wp2_with (refine wpList_store_new W1 143 _ (Lib.setCells TextSet) rfl _ _ rfl rfl rfl Hi.out (sizes_ok _) (Lib.setCells_one _) ?_)
  go_ret
  exact ⟨by rw [Hk.out]; rfl, hb.alloc hb.size _⟩
end Go.Proofs.YtdlchlbngojljaaDoor.Gl
