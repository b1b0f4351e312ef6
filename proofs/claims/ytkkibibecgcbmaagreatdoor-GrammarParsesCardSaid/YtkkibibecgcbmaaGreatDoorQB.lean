/- B -/
import Derived.Test.YtkkibibecgcbmaaGreatDoorProg
import Derived.WalkKit
import Derived.WalkSpells
import Derived.WalkLawsBesides
import Derived.Lib.Walk
import Derived.Lib.Strings
import Derived.Lib.IndexBytes
import Derived.Lib.AsciiSet
import Derived.Lib.Hide
import Derived.Laws.Strings3
import Derived.Laws.ResultCell
import Derived.Laws.CopyOwn
import Derived.Deep.LoopGhost
import Derived.Deep.WholeRow
import Derived.Deep.QuietTactic
import Derived.BigQuiet
import Derived.Test.YtkkibibecgcbmaaGreatDoorQA
import Derived.Test.YtkkibibecgcbmaaGreatDoorQShelf
import Derived.Lib.OthersKept
import Derived.Lib.LaidTab
import Derived.Lib.AppendIntMem
import Derived.Lib.ConvBytes
import Derived.Laws.RangeAny
import Derived.Laws.IdiomStrings
import Derived.Laws.BytesArg
import Derived.Deep.DeepCutAuto
import Derived.Deep.CutBlock
import Derived.Lib.IndexAny
open Go.Lib renaming hid → qH
open Go.Calls renaming mono → cM
set_option maxRecDepth 100000
set_option maxHeartbeats 16000000
namespace Go.Proofs.YtkkibibecgcbmaaGreatDoor.Nm
open Go.RowKit
theorem info46 : (Tryz.prog.info? 192).map (fun i => (i.zero, i.size)) = some (some (.agg (Array.replicate 256 (.bool false))), 256) := by kernel_rfl
theorem setOf_any (m : ByteArray) (w : World) (hs : m.size ≤ 4611686018427387904) :
  Calls Tryz.prog 184 #[.string m] w fun e w' => e = .returned (.agg (Lib.setCells m.data.toList)) ∧ Below w.heap.size w w' := by
 have hv := (zero_of_info (P := Tryz.prog) info46).1
 have hi := (zero_of_info (P := Tryz.prog) info46).2
 go_enter Tryz.func184, Tryz.ntmps184
 go_wp2
 rw [← Lib.setCells_nil]
 go_loopg [4, 7] m.size (fun g s4 s7 wx => ∃ i : Nat, i + g = m.size ∧ s7 = .int .i64 i ∧ wx = (w.alloc (.cells (Lib.setCells []) 192)).alloc (.cells (Lib.setCells (m.data.toList.take i)) 192))
 case atStart => exact ⟨0, by omega, rfl, rfl⟩
 case round =>
  obtain ⟨i, hig, rfl, rfl⟩ := hrel
  cases gk with
  | zero =>
   obtain rfl : i = m.size := by omega
   have hiz : ¬ ((m.size : Int) < (m.size : Int)) := by omega
   rw [show m.data.toList.take m.size = m.data.toList from List.take_of_length_le (by rw [← Lib.size_eq]; exact Nat.le_refl _)]
   have hsz := Lib.setCells_size m.data.toList
   have h1 := heap_alloc2_new w (.cells (Lib.setCells []) 192) (.cells (Lib.setCells m.data.toList) 192)
   have h0 := heap_alloc2_old w (.cells (Lib.setCells []) 192) (.cells (Lib.setCells m.data.toList) 192)
   have hb : Below w.heap.size w ((w.alloc (.cells (Lib.setCells []) 192)).alloc (.cells (Lib.setCells m.data.toList) 192)) := ((Below.refl _ w).alloc (Nat.le_refl _) _).alloc (by simp) _
   have hi' : (Tryz.prog.info? 192).map (·.size) = some (Lib.setCells m.data.toList).size := by rw [hsz]; exact hi
   generalize (w.alloc (.cells (Lib.setCells []) 192)).alloc (.cells (Lib.setCells m.data.toList) 192) = W at *
   go_wp2_with (first
    | (refine wpList_load_row rfl 192 _ rfl (w.heap.size + 1) rfl 192 _ _ _ h1 Tryz.underlying192 rfl hi' ?_)
    | (refine wpList_store_row rfl 192 _ _ rfl w.heap.size _ rfl rfl 192 _ h0 hi' (by rw [Lib.setCells_size, Lib.setCells_size]) (Lib.setCells_one _) ?_))
   refine bodyPost_ret (v := .agg (Lib.setCells m.data.toList)) (results_cell_row rfl _ _ w.heap.size 192 _ _ _ rfl (setRow_heap _ _ _ _ _ _ h0) Tryz.underlying192 rfl hi') rfl ⟨rfl, below_setRow hb (Nat.le_refl _) _⟩
  | succ g =>
   have hi' : i < m.size := by omega
   have hiz : (i : Int) < (m.size : Int) := by omega
   obtain ⟨x, hx⟩ : ∃ x : UInt8, m[i]'hi' = x := ⟨_, rfl⟩
   have hxl : m.data.toList[i]? = some x := by rw [← hx]; exact Lib.data_getElem? m i hi'
   have hx256 : (x.toNat : Int) < 256 := by have := UInt8.toNat_lt x; omega
   have hcell := Lib.setCells_at (m.data.toList.take i) x
   have Hx := qH hxl
   clear hxl
   go_wp2
   go_roundg g
   case measure => omega
   case rel => exact ⟨i + 1, by omega, by first | rfl | simp, by rw [List.take_add_one, Hx.out]; simp only [Option.toList]; rw [Lib.setCells_snoc]⟩
def UpSet : List UInt8 := [65, 66, 67, 68, 69, 70, 71, 72, 73, 74, 75, 76, 77, 78, 79, 80, 81, 82, 83, 84, 85, 86, 87, 88, 89, 90]
def LowSet : List UInt8 := [97, 98, 99, 100, 101, 102, 103, 104, 105, 106, 107, 108, 109, 110, 111, 112, 113, 114, 115, 116, 117, 118, 119, 120, 121, 122]
def DigSet : List UInt8 := [48, 49, 50, 51, 52, 53, 54, 55, 56, 57]
def NameSet : List UInt8 := UpSet ++ LowSet ++ DigSet ++ [95, 46, 58, 43, 45, 33]
def KeySet : List UInt8 := UpSet ++ DigSet ++ [95]
def allIn (S l : List UInt8) : Bool := l.all fun c => S.contains c
theorem allIn_snoc (S l : List UInt8) (x : UInt8) : allIn S (l ++ [x]) = (allIn S l && S.contains x) := by simp [allIn]
theorem allIn_false (S l : List UInt8) (i : Nat) (x : UInt8) (h : l[i]? = some x) (hx : S.contains x = false) : allIn S l = false := by
 unfold allIn
 rw [List.all_eq_false]
 exact ⟨x, List.mem_of_getElem? h, by rw [hx]; exact Bool.false_ne_true⟩
def SetAt (w : World) (b : Nat) (S : List UInt8) : Prop := ∀ x : UInt8, w.cell? ⟨b, x.toNat, none⟩ = some (.bool (S.contains x))
def Draws (v : Value) (w : World) (e : Ending) (w' : World) : Prop := e = .returned v ∧ ∃ n, w' = w.drewN n
def Bel (v : Value) (w : World) (e : Ending) (w' : World) : Prop := e = .returned v ∧ Below w.heap.size w w'
theorem consists_any (s : ByteArray) (b : Nat) (S : List UInt8) (w : World) (hs : s.size ≤ 4611686018427387904) (hS : SetAt w b S) :
  Calls Tryz.prog 163 #[.string s, .pointer (some ⟨b, 0, none⟩)] w (Draws (.bool (allIn S s.data.toList)) w) := by
 go_enter Tryz.func163, Tryz.ntmps163
 go_wp2
 go_loopw [5, 8] (fun s5 s8 wx => ∃ i : Nat, i ≤ s.size ∧ s8 = .int .i64 i ∧ allIn S (s.data.toList.take i) = true ∧ ∃ n, wx = w.drewN n) (fun _ s8 _ => s.size - (intOf s8).toNat)
 case atStart => exact ⟨0, by omega, rfl, rfl, 0, rfl⟩
 case round =>
  obtain ⟨i, hi, rfl, hall, n, rfl⟩ := hrel
  have Hall := qH hall
  clear hall
  by_cases hlt : i < s.size
  ·have hiz : (i : Int) < (s.size : Int) := by omega
   obtain ⟨x, hx⟩ : ∃ x : UInt8, s[i]'hlt = x := ⟨_, rfl⟩
   have hxl : s.data.toList[i]? = some x := by rw [← hx]; exact Lib.data_getElem? s i hlt
   have hx256 : (x.toNat : Int) < 256 := by have := UInt8.toNat_lt x; omega
   have hcell := hS x
   have Hx := qH hxl
   clear hxl
   cases hc : S.contains x with
   | false =>
    rw [hc] at hcell
    have hf := allIn_false S s.data.toList i x Hx.out hc
    clear hc
    have Hf := qH hf
    clear hf
    go_wp2
    go_quiet (fail)
    go_wp2
    go_ret
    exact ⟨by rw [Hf.out]; rfl, n + nq, by rw [World.drewN_drewN]⟩
   | true =>
    rw [hc] at hcell
    have ht : allIn S (s.data.toList.take (i + 1)) = true := by
     rw [List.take_add_one, Hx.out]
     simp only [Option.toList]
     rw [allIn_snoc, Hall.out, hc]
     rfl
    clear hc
    have Ht := qH ht
    clear ht
    go_wp2
    go_quiet (fail)
    go_wp2
    exact ⟨⟨i + 1, by omega, by go_num, Ht.out, _, rfl⟩, by simp [intOf]; omega⟩
  ·go_wp2
   go_ret
   refine ⟨?_, _, rfl⟩
   have h : s.data.toList.take i = s.data.toList := List.take_of_length_le (by rw [← Lib.size_eq]; omega)
   rw [h] at Hall
   rw [Hall.out]
   rfl
theorem drewN_below {a w : World} {B : Nat} (h : Below B a w) (n : Nat) : Below B a (w.drewN n) := ⟨h.os, h.tape, h.output, h.size, h.block⟩
theorem heap_new_below {w W1 : World} {o : Obj} (hb : Below (w.alloc o).heap.size (w.alloc o) W1) : W1.heap[w.heap.size]? = some o :=
 (hb.block _ (by simp)).trans (heap_alloc_last w o)
theorem below_new {w W1 : World} {o : Obj} (hb : Below (w.alloc o).heap.size (w.alloc o) W1) : Below w.heap.size w W1 :=
 ((Below.refl _ w).alloc (Nat.le_refl _) o).trans (hb.mono (by simp))
theorem nameBytes_any (w : World) : Calls Tryz.prog 159 #[] w (Bel (.agg (Lib.setCells NameSet)) w) := by
 have hv := (zero_of_info (P := Tryz.prog) info46).1
 have hi := (zero_of_info (P := Tryz.prog) info46).2
 go_enter Tryz.func159, Tryz.ntmps159
 go_wp2_with fail
 refine (setOf_any _ _ (by simp [ByteArray.size])).mono ?_
 rintro e W1 ⟨rfl, hb⟩
 rw [show Lib.setCells (ByteArray.data _).toList = Lib.setCells NameSet from congrArg Lib.setCells (by rfl)]
 have h0 := heap_new_below hb
 have hi' : (Tryz.prog.info? 192).map (·.size) = some (Lib.setCells NameSet).size := by rw [Lib.setCells_size]; exact hi
 go_wp2_with (refine wpList_store_row rfl 192 _ _ rfl w.heap.size _ rfl rfl 192 _ h0 hi' (by rw [Lib.setCells_size, Array.size_replicate]) (Lib.setCells_one _) ?_)
 exact bodyPost_ret (v := .agg (Lib.setCells NameSet)) (results_cell_row rfl _ _ w.heap.size 192 _ _ _ rfl (setRow_heap _ _ _ _ _ _ h0) Tryz.underlying192 rfl hi') rfl ⟨rfl, below_setRow (below_new hb) (Nat.le_refl _) _⟩
theorem keyBytes_any (w : World) : Calls Tryz.prog 161 #[] w (Bel (.agg (Lib.setCells KeySet)) w) := by
 have hv := (zero_of_info (P := Tryz.prog) info46).1
 have hi := (zero_of_info (P := Tryz.prog) info46).2
 go_enter Tryz.func161, Tryz.ntmps161
 go_wp2_with fail
 refine (setOf_any _ _ (by simp [ByteArray.size])).mono ?_
 rintro e W1 ⟨rfl, hb⟩
 rw [show Lib.setCells (ByteArray.data _).toList = Lib.setCells KeySet from congrArg Lib.setCells (by rfl)]
 have h0 := heap_new_below hb
 have hi' : (Tryz.prog.info? 192).map (·.size) = some (Lib.setCells KeySet).size := by rw [Lib.setCells_size]; exact hi
 go_wp2_with (refine wpList_store_row rfl 192 _ _ rfl w.heap.size _ rfl rfl 192 _ h0 hi' (by rw [Lib.setCells_size, Array.size_replicate]) (Lib.setCells_one _) ?_)
 exact bodyPost_ret (v := .agg (Lib.setCells KeySet)) (results_cell_row rfl _ _ w.heap.size 192 _ _ _ rfl (setRow_heap _ _ _ _ _ _ h0) Tryz.underlying192 rfl hi') rfl ⟨rfl, below_setRow (below_new hb) (Nat.le_refl _) _⟩
end Go.Proofs.YtkkibibecgcbmaaGreatDoor.Nm
namespace Go.Proofs.YtkkibibecgcbmaaGreatDoor.Nm
open Go.RowKit
def isDotsB (l : List UInt8) : Bool := l == [46] || l == [46, 46]
theorem isDots_any (s : ByteArray) (w : World) : Calls Tryz.prog 185 #[.string s] w fun e w' => e = .returned (.bool (isDotsB s.data.toList)) ∧ w' = w := by
 go_enter Tryz.func185, Tryz.ntmps185
 go_wp2
 ·have h : s.toList = [46] := by assumption
  rw [Lib.toList_data] at h
  go_ret
  exact ⟨by simp [isDotsB, h], rfl⟩
 ·go_ret
  exact ⟨by simp [isDotsB, Lib.toList_data], rfl⟩
def nameB (S l : List UInt8) : Bool := !l.isEmpty && decide (l.length ≤ 32) && !isDotsB l && allIn S l
theorem empty_form {s : ByteArray} (h : s.data.toList = []) : s.toList.isEmpty = true := by rw [Lib.toList_data, h]; rfl
theorem nonempty_form {s : ByteArray} (h : s.data.toList ≠ []) : s.toList.isEmpty = false := by
 rw [Lib.toList_data]
 cases hl : s.data.toList with
 | nil => exact absurd hl h
 | cons _ _ => rfl
theorem isName_any (s : ByteArray) (b : Nat) (S : List UInt8) (w : World) (hs : s.size ≤ 4611686018427387904) (hS : SetAt w b S) :
  Calls Tryz.prog 160 #[.string s, .pointer (some ⟨b, 0, none⟩)] w (Draws (.bool (nameB S s.data.toList)) w) := by
 have hsz := Lib.size_eq s
 by_cases h0 : s.data.toList = []
 ·have hv : nameB S s.data.toList = false := by simp [nameB, h0]
  have he := empty_form h0
  clear h0 hsz
  have Hv := qH hv
  clear hv
  go_enter Tryz.func160, Tryz.ntmps160
  go_wp2
  go_ret
  exact ⟨by rw [Hv.out]; rfl, 0, rfl⟩
 ·have he := nonempty_form h0
  by_cases hl : s.size ≤ 32
  ·have hl' : (s.size : Int) ≤ 32 := by omega
   have hd := isDots_any s w
   cases hq : isDotsB s.data.toList with
   | true =>
    have hv : nameB S s.data.toList = false := by simp [nameB, hq]
    rw [hq] at hd
    clear h0 hsz hq
    have Hv := qH hv
    clear hv
    go_enter Tryz.func160, Tryz.ntmps160
    go_wp2_with (go_at_call 185; refine hd.mono ?_; rintro e w' ⟨rfl, rfl⟩)
    go_ret
    exact ⟨by rw [Hv.out]; rfl, 0, rfl⟩
   | false =>
    have hv : nameB S s.data.toList = allIn S s.data.toList := by
     have hll : s.data.toList.length ≤ 32 := by rw [← hsz]; exact hl
     have hle : s.data.toList.isEmpty = false := by rw [← Lib.toList_data]; exact he
     unfold nameB
     rw [hq, hle, decide_eq_true hll]
     rfl
    rw [hq] at hd
    clear h0 hsz hq
    have Hv := qH hv
    clear hv
    have hc := consists_any s b S w hs hS
    have Hc := qH hc
    clear hc
    have Hd := qH hd
    clear hd
    go_enter Tryz.func160, Tryz.ntmps160
    go_wp2_with (first
     | (go_at_call 185; refine Hd.out.mono ?_; rintro e w' ⟨rfl, rfl⟩)
     | (go_at_call 163; refine Hc.out.mono ?_; rintro e w' ⟨rfl, n, rfl⟩))
    go_ret
    exact ⟨by rw [Hv.out]; rfl, n, rfl⟩
  ·have hl' : ¬ (s.size : Int) ≤ 32 := by omega
   have hv : nameB S s.data.toList = false := by simp [nameB]; intro; omega
   clear h0 hsz
   have Hv := qH hv
   clear hv
   go_enter Tryz.func160, Tryz.ntmps160
   go_wp2
   go_ret
   exact ⟨by rw [Hv.out]; rfl, 0, rfl⟩
theorem setAt_cells {w : World} {b : Nat} {S : List UInt8} {t : TypeId} {fr : Nat × Nat} (h : w.heap[b]? = some (.cells (Lib.setCells S) t fr)) : SetAt w b S := by
 intro x
 rw [cell_of_row w b _ _ t fr h, Lib.setCells_at]
theorem wpList_store_new {P : Program} {ops : Array Oper} {rest : List Oper} {o : Oper} {a : Act} {Q : Exit → Act → World → Prop} (w : World) (t : TypeId) (c c' : Array Value) (hgd : o.guard = none) (x y : Operand) (ho : o.op = .store t x y)
  (hx : a.eval x = .pointer (some ⟨w.heap.size, 0, none⟩)) (hy : a.eval y = .agg c') (hi : (P.info? t).map (·.size) = some c'.size) (hc : c.size = c'.size) (h1 : c'.all (·.oneCell') = true)
  (h : wpList P ops Q rest (a.put o.dst undef) (w.alloc (.cells c' t))) : wpList P ops Q (o :: rest) a (w.alloc (.cells c t)) := by
 refine wpList_store_row hgd t x y ho w.heap.size c' hx hy t c (heap_alloc_last w _) hi hc h1 ?_
 rw [World.setRow_alloc_new]
 exact h
theorem sizes_ok (S : List UInt8) : (Array.replicate 256 (Value.bool false)).size = (Lib.setCells S).size := by rw [Lib.setCells_size, Array.size_replicate]
theorem valid_any (s : ByteArray) (w : World) (hs : s.size ≤ 4611686018427387904) :
  Calls Tryz.prog 125 #[.string s] w (Bel (.bool (nameB NameSet s.data.toList)) w) := by
 have hv := (zero_of_info (P := Tryz.prog) info46).1
 have hi := (zero_of_info (P := Tryz.prog) info46).2
 have hi' : (Tryz.prog.info? 192).map (·.size) = some (Lib.setCells NameSet).size := by rw [Lib.setCells_size]; exact hi
 have Hi := qH hi'
 clear hi'
 go_enter Tryz.func125, Tryz.ntmps125
 go_wp2_with fail
 refine (nameBytes_any _).mono ?_
 rintro e W1 ⟨rfl, hb⟩
 have hn := isName_any s W1.heap.size NameSet (W1.alloc (.cells (Lib.setCells NameSet) 192)) hs (setAt_cells (heap_alloc_last W1 _))
 have Hn := qH hn
 clear hn
 go_wp2_with (first
  | (refine wpList_store_new W1 192 _ (Lib.setCells NameSet) rfl _ _ rfl rfl rfl Hi.out (sizes_ok _) (Lib.setCells_one _) ?_)
  | (go_at_call 160; refine Hn.out.mono ?_; rintro e w' ⟨rfl, n, rfl⟩))
 go_ret
 exact ⟨rfl, drewN_below (hb.alloc hb.size _) n⟩
theorem forall_u8 {p : UInt8 → Bool} (h : (List.range 256).all (fun n => p (UInt8.ofNat n)) = true) (b : UInt8) : p b = true := by
 have := List.all_eq_true.1 h b.toNat (List.mem_range.2 (UInt8.toNat_lt b))
 simpa using this
theorem cap_iff (b : UInt8) : UpSet.contains b = (decide (65 ≤ (b.toNat : Int)) && decide ((b.toNat : Int) ≤ 90)) := by
 have := forall_u8 (p := fun b => UpSet.contains b == (decide (65 ≤ (b.toNat : Int)) && decide ((b.toNat : Int) ≤ 90))) (by decide +kernel) b
 simpa using this
theorem isCapital_any (b : UInt8) (w : World) : Calls Tryz.prog 162 #[.int .u8 (b.toNat : Int)] w fun e w' => e = .returned (.bool (UpSet.contains b)) ∧ w' = w := by
 have hv := cap_iff b
 by_cases h1 : 65 ≤ (b.toNat : Int)
 ·by_cases h2 : (b.toNat : Int) ≤ 90
  ·rw [hv, decide_eq_true h1, decide_eq_true h2]
   clear hv
   go_enter Tryz.func162, Tryz.ntmps162
   go_wp2
   go_ret
   exact ⟨rfl, rfl⟩
  ·rw [hv, decide_eq_true h1, decide_eq_false h2]
   clear hv
   go_enter Tryz.func162, Tryz.ntmps162
   go_wp2
   go_ret
   exact ⟨rfl, rfl⟩
 ·rw [hv, decide_eq_false h1, Bool.false_and]
  clear hv
  go_enter Tryz.func162, Tryz.ntmps162
  go_wp2
  go_ret
  exact ⟨rfl, rfl⟩
def keyB : List UInt8 → Bool
 | [] => false
 | c :: r => decide ((c :: r).length ≤ 32) && UpSet.contains c && allIn KeySet (c :: r)
theorem key_any (s : ByteArray) (w : World) (hs : s.size ≤ 4611686018427387904) :
  Calls Tryz.prog 126 #[.string s] w (Bel (.bool (keyB s.data.toList)) w) := by
 have hv := (zero_of_info (P := Tryz.prog) info46).1
 have hi := (zero_of_info (P := Tryz.prog) info46).2
 have hi' : (Tryz.prog.info? 192).map (·.size) = some (Lib.setCells KeySet).size := by rw [Lib.setCells_size]; exact hi
 have Hi := qH hi'
 clear hi'
 have hsz := Lib.size_eq s
 cases hl : s.data.toList with
 | nil =>
  have he := empty_form hl
  clear hsz hl
  go_enter Tryz.func126, Tryz.ntmps126
  go_wp2_with fail
  refine (keyBytes_any _).mono ?_
  rintro e W1 ⟨rfl, hb⟩
  go_wp2_with (refine wpList_store_new W1 192 _ (Lib.setCells KeySet) rfl _ _ rfl rfl rfl Hi.out (sizes_ok _) (Lib.setCells_one _) ?_)
  go_ret
  exact ⟨rfl, hb.alloc hb.size _⟩
 | cons c r =>
  have he := nonempty_form (s := s) (by rw [hl]; simp)
  have hpos : 0 < s.size := by rw [hsz, hl]; simp
  have hc0 : s[0]'hpos = c := by
   have := Lib.data_getElem? s 0 hpos
   rw [hl] at this
   simp at this
   exact this.symm
  have hkey : keyB (c :: r) = (decide ((c :: r).length ≤ 32) && UpSet.contains c && allIn KeySet (c :: r)) := rfl
  rw [← hl, ← hsz] at hkey
  rw [← hl]
  rw [show keyB s.data.toList = keyB s.data.toList from rfl]
  have hpos' : (0 : Int) < (s.size : Int) := by omega
  have Hl := qH hl
  clear hl hsz
  by_cases h32 : (s.size : Int) ≤ 32
  ·rw [decide_eq_true (by omega)] at hkey
   have hcap := isCapital_any c
   cases hq : UpSet.contains c with
   | false =>
    rw [hq] at hkey hcap
    have Hk := qH hkey
    clear hkey hq
    have Hcap := qH hcap
    clear hcap
    go_enter Tryz.func126, Tryz.ntmps126
    go_wp2_with fail
    refine (keyBytes_any _).mono ?_
    rintro e W1 ⟨rfl, hb⟩
    go_wp2_with (first
     | (refine wpList_store_new W1 192 _ (Lib.setCells KeySet) rfl _ _ rfl rfl rfl Hi.out (sizes_ok _) (Lib.setCells_one _) ?_)
     | (go_at_call 162; refine (Hcap.out _).mono ?_; rintro e w' ⟨rfl, rfl⟩))
    go_ret
    exact ⟨by rw [Hk.out]; rfl, hb.alloc hb.size _⟩
   | true =>
    rw [hq] at hkey hcap
    have Hk := qH hkey
    clear hkey hq
    have Hcap := qH hcap
    clear hcap
    go_enter Tryz.func126, Tryz.ntmps126
    go_wp2_with fail
    refine (keyBytes_any _).mono ?_
    rintro e W1 ⟨rfl, hb⟩
    have Hn := qH (consists_any s W1.heap.size KeySet (W1.alloc (.cells (Lib.setCells KeySet) 192)) hs (setAt_cells (heap_alloc_last W1 _)))
    go_wp2_with (first
     | (refine wpList_store_new W1 192 _ (Lib.setCells KeySet) rfl _ _ rfl rfl rfl Hi.out (sizes_ok _) (Lib.setCells_one _) ?_)
     | (go_at_call 162; refine (Hcap.out _).mono ?_; rintro e w' ⟨rfl, rfl⟩)
     | (go_at_call 163; refine Hn.out.mono ?_; rintro e w' ⟨rfl, n, rfl⟩))
    go_ret
    exact ⟨by rw [Hk.out]; rfl, drewN_below (hb.alloc hb.size _) n⟩
  ·rw [decide_eq_false (by omega)] at hkey
   have Hk := qH hkey
   clear hkey
   go_enter Tryz.func126, Tryz.ntmps126
   go_wp2_with fail
   refine (keyBytes_any _).mono ?_
   rintro e W1 ⟨rfl, hb⟩
   go_wp2_with (refine wpList_store_new W1 192 _ (Lib.setCells KeySet) rfl _ _ rfl rfl rfl Hi.out (sizes_ok _) (Lib.setCells_one _) ?_)
   go_ret
   exact ⟨by rw [Hk.out]; rfl, hb.alloc hb.size _⟩
end Go.Proofs.YtkkibibecgcbmaaGreatDoor.Nm
namespace Go.Proofs.YtkkibibecgcbmaaGreatDoor.Nm
open Go.RowKit
def TextSet : List UInt8 := (List.range 95).map fun i => UInt8.ofNat (i + 32)
theorem textSet_len : TextSet.length = 95 := by simp [TextSet]
theorem textSet_get (i : Nat) (h : i < 95) : TextSet[i]? = some (UInt8.ofNat (i + 32)) := by simp [TextSet, h]
theorem textBytes_any (w : World) : Calls Tryz.prog 207 #[] w (Bel (.agg (Lib.setCells TextSet)) w) := by
 have hv := (zero_of_info (P := Tryz.prog) info46).1
 have hi := (zero_of_info (P := Tryz.prog) info46).2
 go_enter Tryz.func207, Tryz.ntmps207
 go_wp2
 rw [← Lib.setCells_nil]
 go_loopg [2] 95 (fun g s2 wx => ∃ i : Nat, i + g = 95 ∧ s2 = .int .i64 ((i + 32 : Nat) : Int) ∧ wx = (w.alloc (.cells (Lib.setCells []) 192)).alloc (.cells (Lib.setCells (TextSet.take i)) 192))
 case atStart => exact ⟨0, by omega, rfl, rfl⟩
 case round =>
  obtain ⟨i, hig, rfl, rfl⟩ := hrel
  cases gk with
  | zero =>
   obtain rfl : i = 95 := by omega
   rw [show TextSet.take 95 = TextSet from List.take_of_length_le (by rw [textSet_len]; exact Nat.le_refl _)]
   have hsz := Lib.setCells_size TextSet
   have h1 := heap_alloc2_new w (.cells (Lib.setCells []) 192) (.cells (Lib.setCells TextSet) 192)
   have h0 := heap_alloc2_old w (.cells (Lib.setCells []) 192) (.cells (Lib.setCells TextSet) 192)
   have hb : Below w.heap.size w ((w.alloc (.cells (Lib.setCells []) 192)).alloc (.cells (Lib.setCells TextSet) 192)) := ((Below.refl _ w).alloc (Nat.le_refl _) _).alloc (by simp) _
   have hi' : (Tryz.prog.info? 192).map (·.size) = some (Lib.setCells TextSet).size := by rw [hsz]; exact hi
   generalize (w.alloc (.cells (Lib.setCells []) 192)).alloc (.cells (Lib.setCells TextSet) 192) = W at *
   go_wp2_with (first
    | (refine wpList_load_row rfl 192 _ rfl (w.heap.size + 1) rfl 192 _ _ _ h1 Tryz.underlying192 rfl hi' ?_)
    | (refine wpList_store_row rfl 192 _ _ rfl w.heap.size _ rfl rfl 192 _ h0 hi' (by rw [Lib.setCells_size, Lib.setCells_size]) (Lib.setCells_one _) ?_))
   refine bodyPost_ret (v := .agg (Lib.setCells TextSet)) (results_cell_row rfl _ _ w.heap.size 192 _ _ _ rfl (setRow_heap _ _ _ _ _ _ h0) Tryz.underlying192 rfl hi') rfl ⟨rfl, below_setRow hb (Nat.le_refl _) _⟩
  | succ g =>
   have hx : (UInt8.ofNat (i + 32)).toNat = i + 32 := by simp; omega
   have hlt : ((i + 32 : Nat) : Int) ≤ 126 := by omega
   have hlt2 : ((i + 32 : Nat) : Int) < 256 := by omega
   have hcell := Lib.setCells_at (TextSet.take i) (UInt8.ofNat (i + 32))
   rw [hx] at hcell
   have Hs := qH (Lib.setCells_snoc (TextSet.take i) (UInt8.ofNat (i + 32)))
   have Hx := qH hx
   clear hx
   go_wp2
   go_roundg g
   case measure => omega
   case rel => exact ⟨i + 1, by omega, congrArg (Value.int IntKind.i64) (by omega), by rw [List.take_add_one, textSet_get i (by omega)]; simp only [Option.toList]; rw [Hs.out, Hx.out]⟩
def textB (l : List UInt8) : Bool := decide (l.length ≤ 256) && allIn TextSet l
theorem text_any (s : ByteArray) (w : World) (hs : s.size ≤ 4611686018427387904) :
  Calls Tryz.prog 197 #[.string s] w (Bel (.bool (textB s.data.toList)) w) := by
 have hv := (zero_of_info (P := Tryz.prog) info46).1
 have hi := (zero_of_info (P := Tryz.prog) info46).2
 have hi' : (Tryz.prog.info? 192).map (·.size) = some (Lib.setCells TextSet).size := by rw [Lib.setCells_size]; exact hi
 have Hi := qH hi'
 clear hi'
 have hsz := Lib.size_eq s
 have hk : textB s.data.toList = (decide (s.size ≤ 256) && allIn TextSet s.data.toList) := by unfold textB; rw [← hsz]
 clear hsz
 by_cases h : (s.size : Int) ≤ 256
 ·rw [decide_eq_true (by omega)] at hk
  have Hk := qH hk
  clear hk
  go_enter Tryz.func197, Tryz.ntmps197
  go_wp2_with fail
  refine (textBytes_any _).mono ?_
  rintro e W1 ⟨rfl, hb⟩
  have Hn := qH (consists_any s W1.heap.size TextSet (W1.alloc (.cells (Lib.setCells TextSet) 192)) hs (setAt_cells (heap_alloc_last W1 _)))
  go_wp2_with (first
   | (refine wpList_store_new W1 192 _ (Lib.setCells TextSet) rfl _ _ rfl rfl rfl Hi.out (sizes_ok _) (Lib.setCells_one _) ?_)
   | (go_at_call 163; refine Hn.out.mono ?_; rintro e w' ⟨rfl, n, rfl⟩))
  go_ret
  exact ⟨by rw [Hk.out]; rfl, drewN_below (hb.alloc hb.size _) n⟩
 ·rw [decide_eq_false (by omega)] at hk
  have Hk := qH hk
  clear hk
  go_enter Tryz.func197, Tryz.ntmps197
  go_wp2_with fail
  refine (textBytes_any _).mono ?_
  rintro e W1 ⟨rfl, hb⟩
  go_wp2_with (refine wpList_store_new W1 192 _ (Lib.setCells TextSet) rfl _ _ rfl rfl rfl Hi.out (sizes_ok _) (Lib.setCells_one _) ?_)
  go_ret
  exact ⟨by rw [Hk.out]; rfl, hb.alloc hb.size _⟩
end Go.Proofs.YtkkibibecgcbmaaGreatDoor.Nm
namespace Go.Proofs.YtkkibibecgcbmaaGreatDoor
open Go.RowKit
def bs (s : List UInt8) : ByteArray := ⟨s.toArray⟩
theorem bs_data (s : List UInt8) : (bs s).data.toList = s := rfl
theorem bs_of (s : ByteArray) : bs s.data.toList = s := by
 unfold bs
 rw [Array.toArray_toList]
theorem bs_size (s : List UInt8) : (bs s).size = s.length := rfl
theorem bs_isEmpty (r : List UInt8) : (bs r).toList.isEmpty = r.isEmpty := by rw [Lib.toList_data, bs_data]
theorem bs_drop (l : List UInt8) (k : Nat) : (bs l).extract k (bs l).size = bs (l.drop k) := by
 apply ByteArray.ext
 rw [ByteArray.data_extract, bs_size]
 apply Array.ext'
 simp [bs]
 rw [List.take_of_length_le (by simp)]
theorem bs_take (l : List UInt8) (k : Nat) : (bs l).extract 0 k = bs (l.take k) := by
 apply ByteArray.ext
 rw [ByteArray.data_extract]
 apply Array.ext'
 simp [bs]
theorem bs_mid (l : List UInt8) (i j : Nat) : (bs l).extract i j = bs ((l.take j).drop i) := by
 apply ByteArray.ext
 apply Array.ext'
 rw [ByteArray.data_extract, Array.toList_extract]
 simp [bs, List.extract, List.drop_take]
theorem bs_inj {a b : List UInt8} (h : bs a = bs b) : a = b := by
 have := congrArg (fun s : ByteArray => s.data.toList) h
 simpa [bs_data] using this
theorem bs_app (a b : List UInt8) : bs a ++ bs b = bs (a ++ b) := by
 apply ByteArray.ext
 rw [ByteArray.data_append]
 simp [bs]
theorem bs_get (l : List UInt8) (k : Nat) (h : k < l.length) : (bs l)[k]'h = l[k] := by
 show (bs l).data[k]'h = _
 simp [bs]
structure RT (α : Type) where
 sz : Nat
 ty : TypeId
 sl : TypeId
 bt : Nat
 z : Value
 cf : α → List Value
 pos : 0 < sz
 len : ∀ x, (cf x).length = sz
 one : ∀ x, ∀ v ∈ cf x, v.oneCell' = true
 und : Tryz.prog.underlying sl = some (.slice ty)
 info : (Tryz.prog.info? ty).map (fun i => (i.zero, i.size, i.bytes)) = some (some z, sz, bt)
 zs : z.cells.size = sz
 btl : bt ≤ 64
variable {α : Type} (r : RT α)
def RT.cells (l : List α) : List Value := l.flatMap r.cf
theorem RT.cells_cons (x : α) (l : List α) : r.cells (x :: l) = r.cf x ++ r.cells l := rfl
theorem RT.cells_len (l : List α) : (r.cells l).length = l.length * r.sz := by
 induction l with
 | nil => simp [RT.cells]
 | cons x l ih => rw [RT.cells_cons, List.length_append, ih, r.len, List.length_cons, Nat.add_mul, Nat.one_mul, Nat.add_comm]
theorem RT.cells_append (a b : List α) : r.cells (a ++ b) = r.cells a ++ r.cells b := List.flatMap_append
theorem RT.cells_one (l : List α) : ∀ v ∈ r.cells l, v.oneCell' = true := fun v hv => by
 obtain ⟨x, _, h⟩ := List.mem_flatMap.1 hv
 exact r.one x v h
theorem RT.cells_get : ∀ (l : List α) (j : Nat) (x : α) (m : Nat), l[j]? = some x → m < r.sz → (r.cells l)[j * r.sz + m]? = (r.cf x)[m]?
 | [], j, x, m, h, _ => by simp at h
 | y :: l, 0, x, m, h, hm => by
  simp only [List.getElem?_cons_zero, Option.some.injEq] at h
  subst h
  rw [RT.cells_cons, List.getElem?_append_left (by rw [r.len]; omega), Nat.zero_mul, Nat.zero_add]
 | y :: l, j + 1, x, m, h, hm => by
  have := RT.cells_get l j x m (by simpa using h) hm
  have e : (j + 1) * r.sz = j * r.sz + r.sz := by rw [Nat.add_mul, Nat.one_mul]
  rw [RT.cells_cons, List.getElem?_append_right (by rw [r.len]; omega), r.len, show (j + 1) * r.sz + m - r.sz = j * r.sz + m by omega]
  exact this
def RT.Row (w : World) (b o : Nat) (l : List α) : Prop := ∀ (j : Nat) (x : α), l[j]? = some x → w.rangeAt b (o + j * r.sz) (r.cf x)
def RT.Has (w : World) (v : Value) (l : List α) : Prop := (∃ a c, v = .slice a 0 c ∧ l = []) ∨ ∃ b o c, v = .slice (some ⟨b, o, none⟩) l.length c ∧ b < w.heap.size ∧ r.Row w b o l
variable {r}
theorem RT.row_of {w : World} {b : Nat} {l : List α} {cur : List Value} (h : w.heap[b]? = some (.cells cur.toArray r.ty (0, 0))) (hc : cur.take (l.length * r.sz) = r.cells l) : r.Row w b 0 l := fun j x hx m v hv => by
 have hj := (List.getElem?_eq_some_iff.1 hx).1
 have hm : m < r.sz := by have := (List.getElem?_eq_some_iff.1 hv).1; rwa [r.len] at this
 have hlt : j * r.sz + m < l.length * r.sz := by
  have : (j + 1) * r.sz ≤ l.length * r.sz := Nat.mul_le_mul_right _ hj
  rw [Nat.add_mul, Nat.one_mul] at this
  omega
 rw [cell_of_row _ _ _ _ _ _ h, List.getElem?_toArray, Nat.zero_add]
 have := r.cells_get l j x m hx hm
 rw [← hc, List.getElem?_take, if_pos hlt] at this
 rw [this, hv]
theorem RT.Row.keep {w w' : World} {b o : Nat} {l : List α} (h : r.Row w b o l) (hb : w'.heap[b]? = w.heap[b]?) : r.Row w' b o l := fun j x hx m v hv => by
 have := h j x hx m v hv
 simp only [World.cell?, hb] at this ⊢
 exact this
theorem RT.Has.form {w : World} {v : Value} {l : List α} (h : r.Has w v l) : ∃ a c, v = .slice a l.length c ∧ (l ≠ [] → ∃ b o, a = some ⟨b, o, none⟩ ∧ b < w.heap.size ∧ r.Row w b o l) := by
 rcases h with ⟨a, c, rfl, rfl⟩ | ⟨b, o, c, rfl, hb, hr⟩
 ·exact ⟨a, c, rfl, fun h => absurd rfl h⟩
 ·exact ⟨some ⟨b, o, none⟩, c, rfl, fun _ => ⟨b, o, rfl, hb, hr⟩⟩
theorem RT.Has.kp {w w' : World} {s : List Nat} {v : Value} {l : List α} (h : r.Has w v l) (hk : Kp s w w') (hs : ∀ b, v.ownBlock = some b → b ∉ s) : r.Has w' v l := by
 rcases h with h | ⟨b, o, c, rfl, hb, hr⟩
 ·exact .inl h
 ·exact .inr ⟨b, o, c, rfl, Nat.lt_of_lt_of_le hb hk.size, hr.keep (hk.block b hb (hs b rfl))⟩
theorem RT.Has.kp0 {w w' : World} {v : Value} {l : List α} (h : r.Has w v l) (hk : Kp [] w w') : r.Has w' v l := h.kp hk fun _ _ => by simp
variable (r)
def RT.Own (w : World) (B : Nat) (v : Value) (l : List α) : Prop := w.ownsRow B r.ty r.sz v l.length (r.cells l)
theorem RT.Own.nil (w : World) (B : Nat) : r.Own w B (.slice none 0 0) [] := World.ownsRow_nil _ _ _ _
variable {r}
theorem RT.Own.has {w : World} {B : Nat} {v : Value} {l : List α} (h : r.Own w B v l) : r.Has w v l := by
 rcases h.2 with ⟨hv, hn⟩ | ⟨g, cap, cur, hv, hB, hh, hc, hcm, hcz, ht⟩
 ·exact .inl ⟨none, 0, hv, List.length_eq_zero_iff.1 hn⟩
 ·exact .inr ⟨g, 0, cap, hv, block_lt hh, RT.row_of (cur := cur.toList) (by rw [Array.toArray_toList]; exact hh) ht⟩
theorem RT.Own.form {w : World} {B : Nat} {v : Value} {l : List α} (h : r.Own w B v l) : ∃ a c, v = .slice a l.length c := by
 rcases h.2 with ⟨hv, hn⟩ | ⟨g, cap, cur, hv, _⟩
 ·exact ⟨none, 0, by rw [hv, hn]⟩
 ·exact ⟨_, _, hv⟩
theorem RT.Own.keep {w w' : World} {B : Nat} {v : Value} {l : List α} (h : r.Own w B v l) (hk : ∀ b, b < w.heap.size → v.ownBlock = some b → w'.heap[b]? = w.heap[b]?) : r.Own w' B v l := by
 refine ⟨h.1, ?_⟩
 rcases h.2 with hn | ⟨g, cap, cur, hv, hB, hh, rest⟩
 ·exact .inl hn
 ·exact .inr ⟨g, cap, cur, hv, hB, (hk g (block_lt hh) (by rw [hv]; rfl)).trans hh, rest⟩
theorem RT.Own.kp {w w' : World} {B : Nat} {s : List Nat} {v : Value} {l : List α} (h : r.Own w B v l) (hk : Kp s w w') (hs : ∀ b, v.ownBlock = some b → b ∉ s) : r.Own w' B v l := h.keep fun b hb hv => hk.block b hb (hs b hv)
theorem RT.Own.kp0 {w w' : World} {B : Nat} {v : Value} {l : List α} (h : r.Own w B v l) (hk : Kp [] w w') : r.Own w' B v l := h.kp hk fun _ _ => by simp
theorem RT.Own.ge {w : World} {B : Nat} {v : Value} {l : List α} (h : r.Own w B v l) : ∀ b, v.ownBlock = some b → B ≤ b ∧ b < w.heap.size := fun b hb => by
 rcases h.2 with ⟨hv, _⟩ | ⟨g, cap, cur, hv, hB, hh, _⟩
 ·rw [hv] at hb
  cases hb
 ·rw [hv] at hb
  have : g = b := by simpa [Value.ownBlock] using hb
  exact ⟨by omega, by rw [← this]; exact block_lt hh⟩
theorem RT.Own.down {w : World} {B B' : Nat} {v : Value} {l : List α} (h : r.Own w B v l) (hB : B' ≤ B) : r.Own w B' v l := by
 refine ⟨h.1, ?_⟩
 rcases h.2 with hn | ⟨g, cap', cur, hv, hg, rest⟩
 ·exact .inl hn
 ·exact .inr ⟨g, cap', cur, hv, by omega, rest⟩
theorem RT.Own.set {w : World} {B : Nat} {v : Value} {l : List α} (h : r.Own w B v l) {p : Addr} (hp : ∀ b, v.ownBlock = some b → b ≠ p.block) (u : Value) : r.Own (w.setCell p u) B v l :=
 h.keep fun b _ hv => Below.heap_setCell _ _ _ _ (hp b hv)
theorem add_addr (b o j : Nat) : (⟨b, o, none⟩ : Addr).add j = ⟨b, o + j, none⟩ := by unfold Addr.add; split <;> simp_all
theorem run_append_r {w : World} {base b c : Nat} {v : Value} {xs : List α} (x : α) (ty : TypeId) (hown : r.Own w base v xs) (hcell : w.rangeAt b 0 (r.cf x)) (hb1 : xs.length ≤ 1000000) (hb : base ≤ w.heap.size) :
  ∃ v' w', (Builtin.append_ #[r.sl, r.sl] ty #[v, .slice (some ⟨b, 0, none⟩) 1 c]).run Tryz.prog w = .ok v' w' ∧ r.Own w' base v' (xs ++ [x]) ∧ w.grownBy w' v.ownBlock := by
 obtain ⟨i0, hi0, hz0, hz1, hz2⟩ := info_parts r.info
 obtain ⟨v', w', h1, h2, h3, _⟩ := run_append_own (P := Tryz.prog) w base r.sl ty r.ty i0 _ r.sz r.bt r.und hi0 hz0 hz1 hz2 r.zs r.pos v xs.length (r.cells xs) hown ⟨b, 0, none⟩ 1 c (r.cells [x])
  (r.cells_len [x]) (fun j u hj => by
   rw [add_addr]
   have e : r.cells [x] = r.cf x := by simp [RT.cells]
   rw [e] at hj
   exact hcell j u hj) (r.cells_one [x]) (by unfold maxLen; omega) (by
   have := r.btl
   have : (xs.length + 1) * r.bt ≤ 1000001 * 64 := Nat.mul_le_mul (by omega) this
   omega) hb
 refine ⟨v', w', h1, ?_, h3⟩
 unfold RT.Own
 rw [List.length_append, RT.cells_append]
 exact h2
theorem wpList_append_r {ops : Array Oper} {rest : List Oper} {o : Oper} {a : Act} {w : World} {Q : Exit → Act → World → Prop} (hg : o.guard = none) (s y : Operand)
  (hop : o.op = Op.call { callee := Callee.builtin Builtin.append, args := #[s, y], argTypes := #[r.sl, r.sl] }) (base : Nat)
  (v : Value) (xs : List α) (hs : a.eval s = v) (hown : r.Own w base v xs) (b c : Nat) (x : α) (hx : a.eval y = .slice (some ⟨b, 0, none⟩) 1 c) (hcell : w.rangeAt b 0 (r.cf x)) (hb1 : xs.length ≤ 1000000) (hb : base ≤ w.heap.size)
  (hK : ∀ v' w', r.Own w' base v' (xs ++ [x]) → w.grownBy w' v.ownBlock → wpList Tryz.prog ops Q rest (a.put o.dst v') w') : wpList Tryz.prog ops Q (o :: rest) a w := by
 refine wpList_plain hg fun K hK' => ?_
 obtain ⟨v', w', h1, h2, h3⟩ := run_append_r (c := c) x o.type hown hcell hb1 hb
 unfold Oper.wp
 simp [execOp, hop, resolve, invoke, builtin, hs, hx, h1, Result.andThen]
 exact hK' _ _ (hK v' w' h2 h3)
theorem RT.Own.form2 {α : Type} {r : RT α} {w : World} {B : Nat} {v : Value} {l : List α} (h : r.Own w B v l) : (v = .slice none 0 0 ∧ l = []) ∨ ∃ g cap, v = .slice (some ⟨g, 0, none⟩) l.length cap ∧ B ≤ g ∧ g < w.heap.size ∧ l.length ≤ cap ∧ w.frozen? ⟨g, 0, none⟩ = false ∧ r.Row w g 0 l := by
 rcases h.2 with ⟨hv, hn⟩ | ⟨g, cap, cur, hv, hB, hh, hc, hcm, hcz, ht⟩
 ·exact .inl ⟨hv, List.length_eq_zero_iff.1 hn⟩
 ·exact .inr ⟨g, cap, hv, hB, block_lt hh, hc, by simp [World.frozen?, hh], RT.row_of (cur := cur.toList) (by rw [Array.toArray_toList]; exact hh) ht⟩
structure Gp where
 kind : Int
 text : List UInt8
 word : Int
 more : Bool
def Pc.g (p : Pc) : Gp := ⟨(p.kind : Int), p.text, (p.word : Int), p.more⟩
def gpC (x : Gp) : Array Value := #[.int .i64 x.kind, .string (bs x.text), .int .i64 x.word, .bool x.more]
def PAt (w : World) (b : Nat) (x : Gp) : Prop := w.heap[b]? = some (.cells (gpC x) 172 (0, 0))
theorem PAt.cells {w : World} {b : Nat} {x : Gp} (h : PAt w b x) : w.cell? ⟨b, 0, none⟩ = some (.int .i64 x.kind) ∧ w.cell? ⟨b, 1, none⟩ = some (.string (bs x.text)) ∧ w.cell? ⟨b, 2, none⟩ = some (.int .i64 x.word) ∧ w.cell? ⟨b, 3, none⟩ = some (.bool x.more) := by
 refine ⟨?_, ?_, ?_, ?_⟩ <;> (rw [cell_of_row _ _ _ _ _ _ h]; rfl)
theorem PAt.kp {w w' : World} {b : Nat} {x : Gp} {s : List Nat} (h : PAt w b x) (hk : Kp s w w') (hs : b ∉ s) : PAt w' b x := (hk.block b (block_lt h) hs).trans h
noncomputable def gpT : RT Gp where
 sz := 4
 ty := 172
 sl := 138
 bt := 40
 z := .agg #[.int .i64 0, .string ⟨#[]⟩, .int .i64 0, .bool false]
 cf := fun x => (gpC x).toList
 pos := by decide
 len := fun _ => rfl
 one := fun x v hv => by
  simp only [gpC, List.mem_cons, List.not_mem_nil, or_false] at hv
  rcases hv with rfl | rfl | rfl | rfl <;> rfl
 und := Tryz.underlying138
 info := by kernel_rfl
 zs := rfl
 btl := by decide
theorem gpRow {w : World} {b o : Nat} {l : List Gp} (h : gpT.Row w b o l) {j : Nat} {x : Gp} (hx : l[j]? = some x) :
  w.cell? ⟨b, o + j * 4, none⟩ = some (.int .i64 x.kind) ∧ w.cell? ⟨b, o + j * 4 + 1, none⟩ = some (.string (bs x.text)) ∧ w.cell? ⟨b, o + j * 4 + 2, none⟩ = some (.int .i64 x.word) ∧ w.cell? ⟨b, o + j * 4 + 3, none⟩ = some (.bool x.more) :=
 ⟨h j x hx 0 _ rfl, h j x hx 1 _ rfl, h j x hx 2 _ rfl, h j x hx 3 _ rfl⟩
theorem PAt.range {w : World} {b : Nat} {x : Gp} (h : PAt w b x) : w.rangeAt b 0 (gpT.cf x) := fun m v hv => by
 rw [cell_of_row _ _ _ _ _ _ h, Nat.zero_add]
 simpa [gpT] using hv
noncomputable def byT : RT UInt8 where
 sz := 1
 ty := 5
 sl := 67
 bt := 1
 z := .int .u8 0
 cf := fun b => [.int .u8 (b.toNat : Int)]
 pos := by decide
 len := fun _ => rfl
 one := fun x v hv => by rw [List.mem_singleton.1 hv]; rfl
 und := Tryz.underlying67
 info := by kernel_rfl
 zs := rfl
 btl := by decide
theorem by_conv {w : World} {B : Nat} {v : Value} {l : List UInt8} (h : byT.Own w B v l) : (convert 67 9 v).run Tryz.prog w = .ok (.string (bs l)) w := by
 rcases h.form2 with ⟨rfl, rfl⟩ | ⟨g, cap, rfl, _, _, _, _, hr⟩
 ·exact run_convert_bytes_nil w 67 5 Tryz.underlying67 Tryz.underlying5 0 0 9 Tryz.underlying9
 ·exact run_convert_bytes_back w 67 9 5 ⟨g, 0, none⟩ cap l Tryz.underlying67 Tryz.underlying5 Tryz.underlying9 (fun j hj => by
   have := hr j l[j] (List.getElem?_eq_getElem hj) 0 _ rfl
   rw [add_addr, Nat.zero_add]
   rw [show byT.sz = 1 from rfl] at this
   simpa using this)
structure Env (w : World) : Prop where
 tab : Lib.TabIs Tryz.prog w "internal/strconv.uint64pow10" .u64 Lib.pow10Tab
 e4 : ∃ te pe, w.cell? ⟨8, 0, none⟩ = some (.iface te pe)
 e5 : ∃ te pe, w.cell? ⟨9, 0, none⟩ = some (.iface te pe)
 max : ∃ m : Int, w.cell? ⟨2, 0, none⟩ = some (.int .i64 m)
 sp : Lib.TabIs Tryz.prog w "strings.asciiSpace" .u8 Lib.asciiSpaceTab
 size : 11 ≤ w.heap.size
theorem Env.keep {w w' : World} (h : Env w) (hb : ∀ b, b < 11 → w'.heap[b]? = w.heap[b]?) (hs : w.heap.size ≤ w'.heap.size) : Env w' := by
 have hg : Tryz.prog.globalNamed "internal/strconv.uint64pow10" = some 5 := by kernel_rfl
 have hg2 : Tryz.prog.globalNamed "strings.asciiSpace" = some 0 := by kernel_rfl
 obtain ⟨ht, ⟨a, b, ha⟩, ⟨c, d, hc⟩, ⟨m, hm⟩, hsp, hz⟩ := h
 refine ⟨?_, ⟨a, b, ?_⟩, ⟨c, d, ?_⟩, ⟨m, ?_⟩, ?_, by omega⟩
 ·unfold Lib.TabIs World.var? at ht ⊢
  rw [hg] at ht ⊢
  simp only [Option.bind_some, hb 5 (by omega)] at ht ⊢
  exact ht
 ·simp only [World.cell?, hb 8 (by omega)] at ha ⊢
  exact ha
 ·simp only [World.cell?, hb 9 (by omega)] at hc ⊢
  exact hc
 ·simp only [World.cell?, hb 2 (by omega)] at hm ⊢
  exact hm
 ·unfold Lib.TabIs World.var? at hsp ⊢
  rw [hg2] at hsp ⊢
  simp only [Option.bind_some, hb 0 (by omega)] at hsp ⊢
  exact hsp
theorem Env.kp {w w' : World} {S : List Nat} (h : Env w) (hk : Kp S w w') (hS : ∀ x ∈ S, 11 ≤ x) : Env w' := by
 have hz := h.size
 exact h.keep (fun b hb => hk.block b (by omega) fun hm => by have := hS b hm; omega) hk.size
theorem Env.kp0 {w w' : World} (h : Env w) (hk : Kp [] w w') : Env w' := h.kp hk (by simp)
theorem itoa_any {w : World} (h : Env w) (n : Int) (h0 : -9223372036854775808 ≤ n) (h1 : n ≤ 9223372036854775807) : Calls Tryz.prog 57 #[.int .i64 n] w fun e w' => e = .returned (.string (bs (Lib.itoa n))) ∧ Kp [] w w' :=
 (Tryz.strconv_Itoa n h0 h1 w h.tab).mono fun _ _ ⟨he, k, os, hw⟩ => ⟨he, hw ▸ Kp.of_below (Lib.below_grow _ w (Nat.le_refl _) k os)⟩
theorem atoi_ok {w : World} (s : List UInt8) (hs : s.length ≤ 1000000) (v : Int) (h : Lib.atoiAll s = .ok v) : Calls Tryz.prog 165 #[.string (bs s)] w fun e w' => e = .returned (.tuple #[.int .i64 v, .nilIface]) ∧ Kp [] w w' :=
 (Tryz.strconv_Atoi_ok (bs s) (by rw [bs_size]; omega) v h w).mono fun e w' ⟨he, hw⟩ => ⟨he, by
  rcases hw with rfl | ⟨t, rfl⟩
  ·exact Kp.refl _ _
  ·exact Kp.of_below (Lib.bytesWorld_below _ _ _)⟩
theorem atoi_bad {w : World} (hE : Env w) (s : List UInt8) (hs : s.length ≤ 1000000) (h : ∀ v, Lib.atoiAll s ≠ .ok v) : Calls Tryz.prog 165 #[.string (bs s)] w fun e w' => ∃ v N, e = .returned (.tuple #[.int .i64 v, .iface 245 (.pointer (some ⟨N, 0, none⟩))]) ∧ Kp [] w w' := by
 have hl : (bs s).size ≤ 281474976710656 := by rw [bs_size]; omega
 cases hv : Lib.atoiAll s with
 | ok v => exact absurd hv (h v)
 | «syntax» =>
  obtain ⟨te, pe, he⟩ := hE.e4
  exact (Tryz.strconv_Atoi_syntax (bs s) hl hv _ w he (.inr ⟨te, pe, rfl⟩)).mono fun _ _ ⟨N, h1, _, _, h2⟩ => ⟨_, N, h1, Kp.of_below h2⟩
 | range =>
  obtain ⟨te, pe, he⟩ := hE.e5
  exact (Tryz.strconv_Atoi_range (bs s) hl hv _ w he (.inr ⟨te, pe, rfl⟩)).mono fun _ _ ⟨N, h1, _, _, h2⟩ => ⟨_, N, h1, Kp.of_below h2⟩
end Go.Proofs.YtkkibibecgcbmaaGreatDoor
namespace Go.Proofs.YtkkibibecgcbmaaGreatDoor
open Go.RowKit
theorem index_plain : ∀ s : List UInt8, Lib.indexAny s [36, 37] = if (spanL plainCh s).2 = [] then -1 else ((spanL plainCh s).1.length : Int)
 | [] => rfl
 | b :: l => by
  have ih := index_plain l
  by_cases h : plainCh b = true
  ·have hc : ([36, 37] : List UInt8).contains b = false := by
    simp only [plainCh, Bool.and_eq_true, bne_iff_ne] at h
    simp [h.1, h.2]
   have hs : spanL plainCh (b :: l) = (b :: (spanL plainCh l).1, (spanL plainCh l).2) := by rw [spanL, if_pos h]
   rw [Lib.indexAny, hc, hs, ih]
   simp only [Bool.false_eq_true, if_false, List.length_cons]
   split
   ·rfl
   ·rw [if_neg (by simp)]
    push_cast
    rfl
  ·have hc : ([36, 37] : List UInt8).contains b = true := by
    simp only [plainCh, Bool.and_eq_true, bne_iff_ne] at h
    simp
    by_cases h1 : b = 36
    ·exact .inl h1
    ·right; by_cases h2 : b = 37
     ·exact h2
     ·exact absurd ⟨h1, h2⟩ h
   have hs : spanL plainCh (b :: l) = ([], b :: l) := by rw [spanL, if_neg h]
   rw [Lib.indexAny, hc, hs]
   simp
def noBr (b : UInt8) : Bool := b != 125
theorem index_brace : ∀ s : List UInt8, Lib.index s [125] = if (spanL noBr s).2 = [] then -1 else ((spanL noBr s).1.length : Int)
 | [] => rfl
 | b :: l => by
  have ih := index_brace l
  by_cases h : noBr b = true
  ·have hc : List.isPrefixOf [125] (b :: l) = false := by
    simp only [List.isPrefixOf, Bool.and_true]
    simp only [noBr, bne_iff_ne] at h
    exact beq_eq_false_iff_ne.2 (Ne.symm h)
   have hs : spanL noBr (b :: l) = (b :: (spanL noBr l).1, (spanL noBr l).2) := by rw [spanL, if_pos h]
   rw [Lib.index, hc, hs, ih]
   simp only [Bool.false_eq_true, if_false, List.length_cons]
   split
   ·rfl
   ·rw [if_neg (by simp)]
    push_cast
    rfl
  ·have hb : b = 125 := by simpa [noBr] using h
   subst hb
   rfl
theorem cut_brace (s : List UInt8) : Lib.cut s [125] = match (spanL noBr s).2 with
  | [] => (s, [], false)
  | _ :: r => ((spanL noBr s).1, r, true) := by
 have hi := index_brace s
 have he := (spanL_eq noBr s).1
 unfold Lib.cut
 cases h : (spanL noBr s).2 with
 | nil =>
  rw [h, if_pos rfl] at hi
  simp [hi]
 | cons b r =>
  rw [h, if_neg (by simp)] at hi
  rw [h] at he
  simp only [hi]
  rw [if_pos (by omega)]
  have e1 : s.take (spanL noBr s).1.length = (spanL noBr s).1 := by
   generalize (spanL noBr s).1 = x at he
   rw [← he, List.take_left' rfl]
  have e2 : s.drop ((spanL noBr s).1.length + 1) = r := by
   generalize (spanL noBr s).1 = x at he
   rw [← he, ← List.drop_drop, List.drop_left' rfl]
   rfl
  simp [e1, e2]
theorem braceL_cut (s : List UInt8) : braceL (123 :: s) = if (Lib.cut s [125]).2.2 then some ((Lib.cut s [125]).1, (Lib.cut s [125]).2.1) else none := by
 have e : (fun b : UInt8 => b != 125) = noBr := rfl
 rw [cut_brace, braceL, e]
 cases h : (spanL noBr s).2 <;> simp
theorem braceL_no {s : List UInt8} (h : s.head? ≠ some 123) : braceL s = none := by
 match s with
 | [] => rfl
 | b :: s =>
  have hb : b ≠ 123 := fun e => h (by rw [e]; rfl)
  unfold braceL
  split
  ·rename_i e
   cases e
   exact absurd rfl hb
  ·rfl
theorem itoa_dec : ∀ n : Nat, n < 99 → Lib.itoa ((n + 1 : Nat) : Int) = decN (n + 1) ∧ Lib.atoiAll (decN (n + 1)) = .ok ((n + 1 : Nat) : Int) := by
 intro n hn
 have h := List.all_eq_true.1 (show ((List.range 99).all fun n => decide (Lib.itoa ((n + 1 : Nat) : Int) = decN (n + 1)) && (match Lib.atoiAll (decN (n + 1)) with | .ok v => decide (v = ((n + 1 : Nat) : Int)) | _ => false)) = true by decide +kernel) n (List.mem_range.2 hn)
 rw [Bool.and_eq_true] at h
 refine ⟨by simpa using h.1, ?_⟩
 have h2 := h.2
 split at h2
 ·rename_i v hv
  have : v = ((n + 1 : Nat) : Int) := by simpa using h2
  rw [hv, this]
 ·cases h2
theorem numN_inv {s : List UInt8} {n : Nat} (h : numN s = some n) : s = decN n := by
 have u : ∀ (a : UInt8) (k : Nat), a.toNat = k → a = UInt8.ofNat k := fun a k e => by rw [← e]; simp
 unfold numN at h
 split at h
 ·rename_i a
  split at h
  ·rename_i hc
   cases h
   unfold decN
   rw [if_pos (by omega), show 48 + (a.toNat - 48) = a.toNat by omega]
   simp
  ·cases h
 ·rename_i a b
  split at h
  ·rename_i hc
   cases h
   unfold decN
   rw [if_neg (by omega), show 48 + (10 * (a.toNat - 48) + (b.toNat - 48)) / 10 = a.toNat by omega, show 48 + (10 * (a.toNat - 48) + (b.toNat - 48)) % 10 = b.toNat by omega]
   simp
  ·cases h
 ·cases h
def wnum (s : List UInt8) : Int := match Lib.atoiAll s with
 | .ok v => if Lib.itoa v = s then v else 0
 | _ => 0
theorem wnum_some {s : List UInt8} {n : Nat} (h : numN s = some n) : wnum s = n := by
 have hl := numN_le h
 have e := numN_inv h
 obtain ⟨k, rfl⟩ : ∃ k, n = k + 1 := ⟨n - 1, by omega⟩
 obtain ⟨h1, h2⟩ := itoa_dec k (by omega)
 subst e
 unfold wnum
 rw [h2]
 simp only
 rw [if_pos h1]
theorem wnum_none {s : List UInt8} (h : numN s = none) : ¬ (0 < wnum s ∧ wnum s ≤ 99) := by
 rintro ⟨h1, h2⟩
 unfold wnum at h1 h2
 split at h1
 ·rename_i v hv
  split at h1
  ·rename_i hi
   rw [hv] at h2
   simp only [if_pos hi] at h2
   obtain ⟨k, rfl⟩ : ∃ k : Nat, v = ((k + 1 : Nat) : Int) := ⟨v.toNat - 1, by omega⟩
   rw [(itoa_dec k (by omega)).1] at hi
   rw [← hi, numN_decN (by omega) (by omega)] at h
   cases h
  ·omega
 ·omega
def nmB (s : List UInt8) : Bool := Nm.nameB Nm.NameSet s
def kyB (s : List UInt8) : Bool := Nm.keyB s
def txB (s : List UInt8) : Bool := Nm.textB s
theorem text_ch : (fun c : UInt8 => Nm.TextSet.contains c) = prCh := funext fun b => by
 have := List.all_eq_true.1 (show ((List.range 256).all fun n => Nm.TextSet.contains (UInt8.ofNat n) == prCh (UInt8.ofNat n)) = true by decide +kernel) b.toNat (List.mem_range.2 (UInt8.toNat_lt b))
 simpa using this
theorem txB_eq (s : List UInt8) : txB s = (decide (s.length ≤ 256) && s.all prCh) := by
 unfold txB Nm.textB Nm.allIn
 rw [text_ch]
theorem pr_lt {b : UInt8} (h : prCh b = true) : b.toNat < 128 := by
 have := List.all_eq_true.1 (show ((List.range 256).all fun n => !prCh (UInt8.ofNat n) || decide (n < 128)) = true by decide +kernel) b.toNat (List.mem_range.2 (UInt8.toNat_lt b))
 simp [h] at this
 exact this
theorem text_any (s : List UInt8) (w : World) (hs : s.length ≤ 1000000000000) : Calls Tryz.prog 197 #[.string (bs s)] w fun e w' => e = .returned (.bool (txB s)) ∧ Kp [] w w' :=
 (Nm.text_any (bs s) w (by rw [bs_size]; omega)).mono fun _ _ ⟨h1, h2⟩ => ⟨h1, Kp.of_below h2⟩
theorem valid_any (s : List UInt8) (w : World) (hs : s.length ≤ 1000000000000) : Calls Tryz.prog 125 #[.string (bs s)] w fun e w' => e = .returned (.bool (nmB s)) ∧ Kp [] w w' :=
 (Nm.valid_any (bs s) w (by rw [bs_size]; omega)).mono fun _ _ ⟨h1, h2⟩ => ⟨h1, Kp.of_below h2⟩
theorem key_any (s : List UInt8) (w : World) (hs : s.length ≤ 1000000000000) : Calls Tryz.prog 126 #[.string (bs s)] w fun e w' => e = .returned (.bool (kyB s)) ∧ Kp [] w w' :=
 (Nm.key_any (bs s) w (by rw [bs_size]; omega)).mono fun _ _ ⟨h1, h2⟩ => ⟨h1, Kp.of_below h2⟩
end Go.Proofs.YtkkibibecgcbmaaGreatDoor
namespace Go.Proofs.YtkkibibecgcbmaaGreatDoor
open Go.RowKit
theorem az_iff (b : UInt8) : azCh b = (decide (97 ≤ (b.toNat : Int)) && decide ((b.toNat : Int) ≤ 122)) := by
 have := List.all_eq_true.1 (show ((List.range 256).all fun n => azCh (UInt8.ofNat n) == (decide (97 ≤ ((UInt8.ofNat n).toNat : Int)) && decide (((UInt8.ofNat n).toNat : Int) ≤ 122))) = true by decide +kernel) b.toNat (List.mem_range.2 (UInt8.toNat_lt b))
 simpa using this
theorem isSmall_any (b : UInt8) (w : World) : Calls Tryz.prog 221 #[.int .u8 (b.toNat : Int)] w fun e w' => e = .returned (.bool (azCh b)) ∧ w = w' := by
 have hv := az_iff b
 by_cases h1 : 97 ≤ (b.toNat : Int)
 ·by_cases h2 : (b.toNat : Int) ≤ 122
  ·rw [hv, decide_eq_true h1, decide_eq_true h2]
   clear hv
   go_enter Tryz.func221, Tryz.ntmps221
   go_wp2
   go_ret
   exact ⟨rfl, rfl⟩
  ·rw [hv, decide_eq_true h1, decide_eq_false h2]
   clear hv
   go_enter Tryz.func221, Tryz.ntmps221
   go_wp2
   go_ret
   exact ⟨rfl, rfl⟩
 ·rw [hv, decide_eq_false h1, Bool.false_and]
  clear hv
  go_enter Tryz.func221, Tryz.ntmps221
  go_wp2
  go_ret
  exact ⟨rfl, rfl⟩
def brK (k : Int) : Bool := decide (k = 7) || (decide (k = 8) || decide (k = 9))
theorem knowsBraces_any (k : Int) (w : World) : Calls Tryz.prog 222 #[.int .i64 k] w fun e w' => e = .returned (.bool (brK k)) ∧ w = w' := by
 by_cases h7 : k = 7
 ·subst h7
  go_enter Tryz.func222, Tryz.ntmps222
  go_wp2
  go_ret
  exact ⟨rfl, rfl⟩
 by_cases h8 : k = 8
 ·subst h8
  go_enter Tryz.func222, Tryz.ntmps222
  go_wp2
  go_ret
  exact ⟨rfl, rfl⟩
 by_cases h9 : k = 9
 ·subst h9
  go_enter Tryz.func222, Tryz.ntmps222
  go_wp2
  go_ret
  exact ⟨rfl, rfl⟩
 have h7' : (k == 7) = false := by simpa using h7
 have h8' : (k == 8) = false := by simpa using h8
 have h9' : (k == 9) = false := by simpa using h9
 have hb : brK k = false := by simp [brK, h7, h8, h9]
 rw [hb]
 go_enter Tryz.func222, Tryz.ntmps222
 go_wp2
 go_ret
 exact ⟨rfl, rfl⟩
theorem isPrintable_any (l : List UInt8) (w : World) (hl : l.length ≤ 1000000000000) : Calls Tryz.prog 228 #[.string (bs l)] w fun e w' => e = .returned (.bool (l.all prCh)) ∧ w = w' := by
 have hpr : ∀ x : UInt8, prCh x = (decide (32 ≤ (x.toNat : Int)) && decide ((x.toNat : Int) ≤ 126)) := fun x => by
  have := List.all_eq_true.1 (show ((List.range 256).all fun n => prCh (UInt8.ofNat n) == (decide (32 ≤ ((UInt8.ofNat n).toNat : Int)) && decide (((UInt8.ofNat n).toNat : Int) ≤ 126))) = true by decide +kernel) x.toNat (List.mem_range.2 (UInt8.toNat_lt x))
  simpa using this
 have HPR := qH hpr
 clear hpr
 have hsz : (bs l).size = l.length := rfl
 obtain ⟨res, hres⟩ : ∃ res, l.all prCh = res := ⟨_, rfl⟩
 rw [hres]
 have Hres := qH hres
 clear hres
 go_enter Tryz.func228, Tryz.ntmps228
 go_wp2
 go_loop [6] (fun s6 => ∃ i : Nat, i ≤ l.length ∧ s6 = .int .i64 i ∧ (l.take i).all prCh = true) (fun s6 => l.length - (intOf s6).toNat)
 case atStart => exact ⟨0, by omega, rfl, rfl⟩
 case round =>
  obtain ⟨i, hi, rfl, hall⟩ := hrel
  have Hall := qH hall
  clear hall
  by_cases hlt : i < l.length
  ·have hiz : (i : Int) < ((bs l).size : Int) := by omega
   have hlt' : i < (bs l).size := by omega
   obtain ⟨x, hx⟩ : ∃ x : UInt8, l[i] = x := ⟨_, rfl⟩
   have hxl : l[i]? = some x := by rw [← hx]; exact List.getElem?_eq_getElem hlt
   have hg : (bs l)[i]'hlt' = x := (bs_get l i hlt).trans hx
   have hd := HPR.out x
   have hfalse : prCh x = false → res = false := fun h => by
    rw [← Hres.out]
    refine Bool.eq_false_iff.2 fun h' => ?_
    have := List.all_eq_true.1 h' x (List.mem_of_getElem? hxl)
    rw [h] at this
    cases this
   by_cases h1 : 32 ≤ (x.toNat : Int)
   ·by_cases h2 : (x.toNat : Int) ≤ 126
    ·rw [decide_eq_true h1, decide_eq_true h2] at hd
     have ht : (l.take (i + 1)).all prCh = true := by
      rw [List.take_add_one, hxl]
      simp only [Option.toList, List.all_append, Hall.out, List.all_cons, hd, List.all_nil]
      rfl
     have Ht := qH ht
     clear ht hxl hd hfalse hx
     go_wp2
     go_round
     case rel => exact ⟨i + 1, by omega, by go_num, Ht.out⟩
     case measure => simp [intOf]; omega
    ·rw [decide_eq_true h1, decide_eq_false h2] at hd
     obtain rfl := hfalse hd
     clear hd hxl hfalse hx
     go_wp2
     go_ret
     exact ⟨rfl, rfl⟩
   ·rw [decide_eq_false h1, Bool.false_and] at hd
    obtain rfl := hfalse hd
    clear hd hxl hfalse hx
    go_wp2
    go_ret
    exact ⟨rfl, rfl⟩
  ·have hiz : ¬ ((i : Int) < ((bs l).size : Int)) := by omega
   have hr : res = true := by rw [← Hres.out, ← Hall.out, List.take_of_length_le (by omega)]
   subst hr
   go_wp2
   go_ret
   exact ⟨rfl, rfl⟩
theorem PAt.put0 {w : World} {b : Nat} {x : Gp} (h : PAt w b x) (k : Int) : PAt (w.setCell ⟨b, 0, none⟩ (.int .i64 k)) b { x with kind := k } := by
 unfold PAt gpC at h ⊢
 simp [World.setCell, Array.getElem?_modify, h]
theorem PAt.put1 {w : World} {b : Nat} {x : Gp} (h : PAt w b x) (l : List UInt8) : PAt (w.setCell ⟨b, 1, none⟩ (.string (bs l))) b { x with text := l } := by
 unfold PAt gpC at h ⊢
 simp [World.setCell, Array.getElem?_modify, h]
theorem PAt.put2 {w : World} {b : Nat} {x : Gp} (h : PAt w b x) (k : Int) : PAt (w.setCell ⟨b, 2, none⟩ (.int .i64 k)) b { x with word := k } := by
 unfold PAt gpC at h ⊢
 simp [World.setCell, Array.getElem?_modify, h]
theorem PAt.put3 {w : World} {b : Nat} {x : Gp} (h : PAt w b x) (k : Bool) : PAt (w.setCell ⟨b, 3, none⟩ (.bool k)) b { x with more := k } := by
 unfold PAt gpC at h ⊢
 simp [World.setCell, Array.getElem?_modify, h]
theorem PAt.frz {w : World} {b o : Nat} {x : Gp} (h : PAt w b x) : w.frozen? ⟨b, o, none⟩ = false := by simp [World.frozen?, show w.heap[b]? = _ from h]
theorem PAt.other {w : World} {b : Nat} {x : Gp} (h : PAt w b x) {p : Addr} (hp : b ≠ p.block) (v : Value) : PAt (w.setCell p v) b x := (Below.heap_setCell _ _ _ _ hp).trans h
theorem PAt.all {w : World} {b : Nat} {x : Gp} (h : PAt w b x) (y : Gp) : PAt ((((w.setCell ⟨b, 0, none⟩ (.int .i64 y.kind)).setCell ⟨b, 1, none⟩ (.string (bs y.text))).setCell ⟨b, 2, none⟩ (.int .i64 y.word)).setCell ⟨b, 3, none⟩ (.bool y.more)) b y :=
 (((h.put0 y.kind).put1 y.text).put2 y.word).put3 y.more
theorem Kp.setAll {S : List Nat} {w W : World} (h : Kp S w W) {b : Nat} (hb : w.heap.size ≤ b) (x y z u : Value) : Kp S w ((((W.setCell ⟨b, 0, none⟩ x).setCell ⟨b, 1, none⟩ y).setCell ⟨b, 2, none⟩ z).setCell ⟨b, 3, none⟩ u) :=
 (((h.setCell (p := ⟨b, 0, none⟩) (.inr hb) x).setCell (p := ⟨b, 1, none⟩) (.inr hb) y).setCell (p := ⟨b, 2, none⟩) (.inr hb) z).setCell (p := ⟨b, 3, none⟩) (.inr hb) u
def gp0 : Gp := ⟨0, [], 0, false⟩
theorem PAt.new (w : World) (x : Gp) : PAt (w.alloc (.cells (gpC x) 172)) w.heap.size x := heap_alloc_last w _
theorem pc_end1 {fn : Func} {p : Nat} {a : Act} {W : World} {R : Nat} {x : Gp} {Q : Ending → World → Prop} (hr : fn.results = #[.cell p 172]) (h : PAt W R x) (h2 : a.tmps.getD p undef = .pointer (some ⟨R, 0, none⟩)) (hd : a.defers = [])
  (hq : Q (.returned (.agg (gpC x))) W) : bodyPost Tryz.prog fn Q .ret a W := by
 obtain ⟨z0, z1, z2, z3⟩ := h.cells
 refine bodyPost_ret (v := .agg (gpC x)) ?_ hd hq
 rw [Array.getD_eq_getD_getElem?] at h2
 simp [results, hr, go_sem, h2, z0, z1, z2, z3]
 rfl
theorem pc_end3 {fn : Func} {p q r : Nat} {a : Act} {W : World} {R : Nat} {x : Gp} {b e : Value} {Q : Ending → World → Prop} (hr : fn.results = #[.cell p 172, .tmp q, .tmp r]) (h : PAt W R x) (h2 : a.tmps.getD p undef = .pointer (some ⟨R, 0, none⟩)) (h3 : a.tmps.getD q undef = b) (h4 : a.tmps.getD r undef = e) (hd : a.defers = [])
  (hq : Q (.returned (.tuple #[.agg (gpC x), b, e])) W) : bodyPost Tryz.prog fn Q .ret a W := by
 obtain ⟨z0, z1, z2, z3⟩ := h.cells
 refine bodyPost_ret (v := .tuple #[.agg (gpC x), b, e]) ?_ hd hq
 rw [Array.getD_eq_getD_getElem?] at h2 h3 h4
 simp [results, hr, go_sem, h2, h3, h4, z0, z1, z2, z3]
 rfl
theorem textPiece_any (s : List UInt8) (w : World) : Calls Tryz.prog 212 #[.string (bs s)] w fun e w' => e = .returned (.agg (gpC ⟨1, s, 0, false⟩)) ∧ Kp [] w w' := by
 have H1 := qH (PAt.new w ⟨1, s, 0, false⟩)
 go_enter Tryz.func212, Tryz.ntmps212
 go_wp2
 exact pc_end1 rfl H1.out rfl rfl ⟨rfl, (Kp.refl [] w).alloc _⟩
theorem wordNumber_any {w : World} (hE : Env w) (s : List UInt8) (hs : s.length ≤ 1000000) : Calls Tryz.prog 224 #[.string (bs s)] w fun e w' => e = .returned (.int .i64 (wnum s)) ∧ Kp [] w w' := by
 have HE := qH hE
 by_cases hv : ∃ v, Lib.atoiAll s = .ok v
 ·obtain ⟨v, hv⟩ := hv
  have hb := Lib.atoiAll_bounds hv
  have HA := qH fun W => atoi_ok (w := W) s hs v hv
  have HI := qH fun (W : World) (h : Kp [] w W) => itoa_any (hE.kp0 h) v (by omega) (by omega)
  by_cases hi : Lib.itoa v = s
  ·have hr : wnum s = v := by unfold wnum; rw [hv]; simp only; rw [if_pos hi]
   rw [hr]
   rw [hi] at HI
   clear hv hb hr hi hE
   go_enter Tryz.func224, Tryz.ntmps224
   go_wp2_with (first
    | (go_at_call 165; refine cM (by with_reducible exact HA.out _) ?_; rintro e w1 ⟨rfl, hk1⟩)
    | (go_at_call 57; refine cM (by with_reducible exact HI.out _ (by assumption)) ?_; rintro e w2 ⟨rfl, hk2⟩))
   go_ret
   exact ⟨rfl, hk1.trans hk2⟩
  ·have hr : wnum s = 0 := by unfold wnum; rw [hv]; simp only; rw [if_neg hi]
   rw [hr]
   have hne : ((bs (Lib.itoa v)).toList == (bs s).toList) = false := by
    rw [Lib.toList_data, Lib.toList_data, bs_data, bs_data]
    simpa using hi
   have hne2 : ¬ ((bs (Lib.itoa v)).toList = (bs s).toList) := by simpa using hne
   clear hv hb hr hi hE
   go_enter Tryz.func224, Tryz.ntmps224
   go_wp2_with (first
    | (go_at_call 165; refine cM (by with_reducible exact HA.out _) ?_; rintro e w1 ⟨rfl, hk1⟩)
    | (go_at_call 57; refine cM (by with_reducible exact HI.out _ (by assumption)) ?_; rintro e w2 ⟨rfl, hk2⟩))
   go_ret
   exact ⟨rfl, hk1.trans hk2⟩
 ·have hr : wnum s = 0 := by
   unfold wnum
   split
   ·rename_i v hv'
    exact absurd ⟨v, hv'⟩ hv
   ·rfl
  rw [hr]
  have HB := qH fun (W : World) (h : Kp [] w W) => atoi_bad (hE.kp0 h) s hs (fun v h => hv ⟨v, h⟩)
  have hk0 := Kp.refl [] w
  clear hv hr hE
  go_enter Tryz.func224, Tryz.ntmps224
  go_wp2_with (first
   | (go_at_call 165; refine cM (by with_reducible exact HB.out _ (by assumption)) ?_; rintro e w1 ⟨v, N, rfl, hk1⟩))
  go_ret
  exact ⟨rfl, hk1⟩
end Go.Proofs.YtkkibibecgcbmaaGreatDoor
namespace Go.Proofs.YtkkibibecgcbmaaGreatDoor
open Go.RowKit
def okG (x : Gp) : Bool :=
 if x.kind = 9 then x.text.isEmpty && (decide (0 ≤ x.word) && (decide (x.word ≤ 99) && (decide (0 < x.word) || !x.more)))
 else if x.word ≠ 0 ∨ x.more = true then false
 else if x.kind = 1 then !x.text.isEmpty && x.text.all prCh
 else if x.kind = 7 then nmB x.text
 else if x.kind = 8 then kyB x.text
 else decide (1 < x.kind) && (decide (x.kind ≤ 11) && x.text.isEmpty)
theorem isPiece_any (x : Gp) (w : World) (hl : x.text.length ≤ 1000000000000) : Calls Tryz.prog 223 #[.agg (gpC x)] w fun e w' => e = .returned (.bool (okG x)) ∧ Kp [] w w' := by
 obtain ⟨k, t, n, m⟩ := x
 simp only at hl
 have he := bs_isEmpty t
 have HK := qH ((Kp.refl [] w).alloc (.cells #[.int .i64 k, .string (bs t), .int .i64 n, .bool m] 172))
 have hA := PAt.new w ⟨k, t, n, m⟩
 obtain ⟨d0, d1, d2, d3⟩ := hA.cells
 unfold gpC at d0 d1 d2 d3 hA
 simp only at d0 d1 d2 d3 hA
 unfold gpC
 simp only
 by_cases h9 : k = 9
 ·subst h9
  have hb : okG ⟨9, t, n, m⟩ = (t.isEmpty && (decide (0 ≤ n) && (decide (n ≤ 99) && (decide (0 < n) || !m)))) := rfl
  rw [hb]
  clear hb hA
  cases hte : t.isEmpty <;> rw [hte] at he <;> clear hte
  ·go_enter Tryz.func223, Tryz.ntmps223
   go_wp2
   go_ret
   exact ⟨rfl, HK.out⟩
  ·by_cases h0 : 0 ≤ n
   ·rw [decide_eq_true h0]
    by_cases h1 : n ≤ 99
    ·rw [decide_eq_true h1]
     by_cases h2 : 0 < n
     ·rw [decide_eq_true h2]
      go_enter Tryz.func223, Tryz.ntmps223
      go_wp2
      go_ret
      exact ⟨rfl, HK.out⟩
     ·rw [decide_eq_false h2]
      go_enter Tryz.func223, Tryz.ntmps223
      go_wp2
      go_ret
      exact ⟨rfl, HK.out⟩
    ·rw [decide_eq_false h1]
     go_enter Tryz.func223, Tryz.ntmps223
     go_wp2
     go_ret
     exact ⟨rfl, HK.out⟩
   ·rw [decide_eq_false h0]
    go_enter Tryz.func223, Tryz.ntmps223
    go_wp2
    go_ret
    exact ⟨rfl, HK.out⟩
 have h9' : (k == 9) = false := by simpa using h9
 by_cases hn : n ≠ 0 ∨ m = true
 ·have hb : okG ⟨k, t, n, m⟩ = false := by unfold okG; simp only; rw [if_neg h9, if_pos hn]
  rw [hb]
  clear hb hA
  by_cases h0 : n = 0
  ·have hm : m = true := by rcases hn with h | h; exact absurd h0 h; exact h
   subst hm
   subst h0
   go_enter Tryz.func223, Tryz.ntmps223
   go_wp2
   go_ret
   exact ⟨rfl, HK.out⟩
  ·have h0' : (n != 0) = true := by simpa using h0
   go_enter Tryz.func223, Tryz.ntmps223
   go_wp2
   go_ret
   exact ⟨rfl, HK.out⟩
 obtain rfl : n = 0 := by
  rcases Int.lt_trichotomy n 0 with h | h | h
  ·exact absurd (.inl (by omega)) hn
  ·exact h
  ·exact absurd (.inl (by omega)) hn
 obtain rfl : m = false := by cases m with | false => rfl | true => exact absurd (.inr rfl) hn
 by_cases h1 : k = 1
 ·subst h1
  have hb : okG ⟨1, t, 0, false⟩ = (!t.isEmpty && t.all prCh) := rfl
  rw [hb]
  have HP := qH fun W => isPrintable_any t W hl
  clear hb hA
  cases hte : t.isEmpty <;> rw [hte] at he <;> clear hte
  ·go_enter Tryz.func223, Tryz.ntmps223
   go_wp2_with (go_at_call 228; refine cM (by with_reducible exact HP.out _) ?_; rintro e w1 ⟨rfl, rfl⟩)
   go_ret
   exact ⟨rfl, HK.out⟩
  ·go_enter Tryz.func223, Tryz.ntmps223
   go_wp2
   go_ret
   exact ⟨rfl, HK.out⟩
 have h1' : (k == 1) = false := by simpa using h1
 by_cases h7 : k = 7
 ·subst h7
  have hb : okG ⟨7, t, 0, false⟩ = nmB t := rfl
  rw [hb]
  have HP := qH fun W => valid_any t W hl
  clear hb hA he
  go_enter Tryz.func223, Tryz.ntmps223
  go_wp2_with (go_at_call 125; refine cM (by with_reducible exact HP.out _) ?_; rintro e w1 ⟨rfl, hk1⟩)
  go_ret
  exact ⟨rfl, HK.out.trans hk1⟩
 have h7' : (k == 7) = false := by simpa using h7
 by_cases h8 : k = 8
 ·subst h8
  have hb : okG ⟨8, t, 0, false⟩ = kyB t := rfl
  rw [hb]
  have HP := qH fun W => key_any t W hl
  clear hb hA he
  go_enter Tryz.func223, Tryz.ntmps223
  go_wp2_with (go_at_call 126; refine cM (by with_reducible exact HP.out _) ?_; rintro e w1 ⟨rfl, hk1⟩)
  go_ret
  exact ⟨rfl, HK.out.trans hk1⟩
 have h8' : (k == 8) = false := by simpa using h8
 have hb : okG ⟨k, t, 0, false⟩ = (decide (1 < k) && (decide (k ≤ 11) && t.isEmpty)) := by
  unfold okG
  simp only
  rw [if_neg h9, if_neg (by simp), if_neg h1, if_neg h7, if_neg h8]
 rw [hb]
 clear hb hA
 by_cases h2 : 1 < k
 ·rw [decide_eq_true h2]
  by_cases h3 : k ≤ 11
  ·rw [decide_eq_true h3]
   cases hte : t.isEmpty <;> rw [hte] at he <;> clear hte
   ·go_enter Tryz.func223, Tryz.ntmps223
    go_wp2
    go_ret
    exact ⟨rfl, HK.out⟩
   ·go_enter Tryz.func223, Tryz.ntmps223
    go_wp2
    go_ret
    exact ⟨rfl, HK.out⟩
  ·rw [decide_eq_false h3]
   go_enter Tryz.func223, Tryz.ntmps223
   go_wp2
   go_ret
   exact ⟨rfl, HK.out⟩
 ·rw [decide_eq_false h2]
  go_enter Tryz.func223, Tryz.ntmps223
  go_wp2
  go_ret
  exact ⟨rfl, HK.out⟩
end Go.Proofs.YtkkibibecgcbmaaGreatDoor
namespace Go.Proofs.YtkkibibecgcbmaaGreatDoor
open Go.RowKit
def spL : List (List UInt8 × List UInt8) := [([], []), ([], [])] ++ ([2, 3, 4, 5, 6, 7, 8, 9, 10].map fun k => (36 :: wordOf k, [37, letterOf k])) ++ [(36 :: wordOf 11, [])]
def spA : Array Value := #[.string ⟨#[]⟩, .string ⟨#[]⟩, .string ⟨#[]⟩, .string ⟨#[]⟩, .string ⟨#[36, 107, 101, 114, 110, 101, 108]⟩, .string ⟨#[37, 107]⟩, .string ⟨#[36, 110, 117, 109, 98, 101, 114]⟩, .string ⟨#[37, 110]⟩, .string ⟨#[36, 100, 101, 118, 112, 97, 116, 104]⟩, .string ⟨#[37, 112]⟩, .string ⟨#[36, 105, 100]⟩, .string ⟨#[37, 98]⟩, .string ⟨#[36, 100, 114, 105, 118, 101, 114]⟩, .string ⟨#[37, 100]⟩, .string ⟨#[36, 97, 116, 116, 114]⟩, .string ⟨#[37, 115]⟩, .string ⟨#[36, 101, 110, 118]⟩, .string ⟨#[37, 69]⟩, .string ⟨#[36, 114, 101, 115, 117, 108, 116]⟩, .string ⟨#[37, 99]⟩, .string ⟨#[36, 112, 97, 114, 101, 110, 116]⟩, .string ⟨#[37, 80]⟩, .string ⟨#[36, 110, 97, 109, 101]⟩, .string ⟨#[]⟩]
theorem sp_hi : (Tryz.prog.info? 267).map (·.size) = some spA.size := by kernel_rfl
theorem sp_one : spA.all (fun v => v.oneCell') = true := by kernel_rfl
theorem spellings_any (w : World) : Calls Tryz.prog 225 #[] w fun e w' => e = .returned (.agg spA) ∧ w' = w.alloc (.cells spA 267) := by
 have HI := qH sp_hi
 have HO := qH sp_one
 go_enter Tryz.func225, Tryz.ntmps225
 go_wp2_with (refine Nm.wpList_store_new w 267 _ spA rfl _ _ rfl ?_ ?_ ?_ ?_ ?_ ?_; (case refine_1 => simp [Act.eval]); (case refine_2 => simp [Act.eval, spA]); (case refine_3 => exact HI.out); (case refine_4 => simp [spA]); (case refine_5 => exact HO.out))
 exact bodyPost_ret (v := .agg spA) (results_cell_row rfl _ _ w.heap.size 267 _ _ _ rfl (heap_alloc_last w _) Tryz.underlying267 rfl HI.out) rfl ⟨rfl, rfl⟩
def mS (s : List UInt8) (i : Nat) : Bool := match spL[i]? with
 | some x => s == x.1 || s == x.2
 | none => false
def kindS (s : List UInt8) : Nat := ((List.range 12).find? (mS s)).getD 0
theorem kindS_at {s : List UInt8} {i : Nat} (hi : i < 12) (h : mS s i = true) (hn : ∀ j, j < i → mS s j = false) : kindS s = i := by
 have e : (List.range 12).find? (mS s) = some i := by
  rw [List.find?_eq_some_iff_getElem]
  refine ⟨h, i, by simpa using hi, by simp, fun j hj => ?_⟩
  simp [hn j hj]
 unfold kindS
 rw [e]
 rfl
theorem kindS_no {s : List UInt8} (hn : ∀ j, j < 12 → mS s j = false) : kindS s = 0 := by
 have e : (List.range 12).find? (mS s) = none := by
  rw [List.find?_eq_none]
  intro j hj
  simp [hn j (List.mem_range.1 hj)]
 unfold kindS
 rw [e]
 rfl
theorem find_congr {p q : Nat → Bool} : ∀ {l : List Nat}, (∀ k ∈ l, p k = q k) → l.find? p = l.find? q
 | [], _ => rfl
 | a :: l, h => by
  rw [List.find?_cons, List.find?_cons, h a (by simp), find_congr fun k hk => h k (by simp [hk])]
theorem kindS_word (w : List UInt8) : kindS (36 :: w) = kindOfWord w := by
 unfold kindS kindOfWord
 have h0 : mS (36 :: w) 0 = false := by simp [mS, spL]
 have h1 : mS (36 :: w) 1 = false := by simp [mS, spL]
 rw [show List.range 12 = 0 :: 1 :: [2, 3, 4, 5, 6, 7, 8, 9, 10, 11] from rfl, List.find?_cons, h0, List.find?_cons, h1]
 simp only
 congr 1
 refine find_congr fun k hk => ?_
 have e : ∀ v : List UInt8, ((36 :: w : List UInt8) == 36 :: v) = (v == w) := fun v => by
  rw [Bool.eq_iff_iff, beq_iff_eq, beq_iff_eq]
  simp [eq_comm]
 simp only [List.mem_cons, List.not_mem_nil, or_false] at hk
 rcases hk with rfl | rfl | rfl | rfl | rfl | rfl | rfl | rfl | rfl | rfl <;> (simp only [mS, spL]; simp [e, letterOf, wordOf]; try rw [eq_comm])
theorem kindS_letter (c : UInt8) : kindS [37, c] = kindOfLetter c := by
 unfold kindS kindOfLetter
 have h0 : mS [37, c] 0 = false := by simp [mS, spL]
 have h1 : mS [37, c] 1 = false := by simp [mS, spL]
 have h2 : mS [37, c] 11 = false := by simp [mS, spL]
 rw [show List.range 12 = 0 :: 1 :: ([2, 3, 4, 5, 6, 7, 8, 9, 10] ++ [11]) from rfl, List.find?_cons, h0, List.find?_cons, h1]
 simp only
 rw [List.find?_append, show [11].find? (mS [37, c]) = none by simp [h2], Option.or_none]
 congr 1
 refine find_congr fun k hk => ?_
 simp only [List.mem_cons, List.not_mem_nil, or_false] at hk
 rcases hk with rfl | rfl | rfl | rfl | rfl | rfl | rfl | rfl | rfl <;> (simp [mS, spL, letterOf, wordOf]; exact Bool.eq_iff_iff.2 (by rw [beq_iff_eq, beq_iff_eq]; exact eq_comm))
theorem kindS_one : kindS [37] = 0 := by decide +kernel
end Go.Proofs.YtkkibibecgcbmaaGreatDoor
namespace Go.Proofs.YtkkibibecgcbmaaGreatDoor
open Go.RowKit
theorem idx_sp (i : Nat) (hi : i < 12) (W : World) : ∃ a b, spL[i]? = some (a, b) ∧ (Instr.index 267 (.agg spA) (.int .i64 (i : Int))).run Tryz.prog W = .ok (.agg #[.string (bs a), .string (bs b)]) W := by
 have hc : i = 0 ∨ i = 1 ∨ i = 2 ∨ i = 3 ∨ i = 4 ∨ i = 5 ∨ i = 6 ∨ i = 7 ∨ i = 8 ∨ i = 9 ∨ i = 10 ∨ i = 11 := by omega
 rcases hc with rfl | rfl | rfl | rfl | rfl | rfl | rfl | rfl | rfl | rfl | rfl | rfl <;> exact ⟨_, _, rfl, by kernel_rfl⟩
theorem str_eq (a b : List UInt8) : ((bs a).toList == (bs b).toList) = (a == b) := by rw [Lib.toList_data, Lib.toList_data, bs_data, bs_data]
theorem kindOf_any (s : List UInt8) (w : World) : Calls Tryz.prog 215 #[.string (bs s)] w fun e w' => e = .returned (.int .i64 (kindS s : Int)) ∧ Kp [] w w' := by
 obtain ⟨K, hK⟩ : ∃ K, kindS s = K := ⟨_, rfl⟩
 have hA := fun i (hi : i < 12) (h : mS s i = true) (hn : ∀ j, j < i → mS s j = false) => (kindS_at hi h hn).symm.trans hK
 have hB := fun (hn : ∀ j, j < 12 → mS s j = false) => (kindS_no hn).symm.trans hK
 rw [hK]
 clear hK
 have HA := qH hA
 have HB := qH hB
 have HS := qH fun W => spellings_any W
 clear hA hB
 go_enter Tryz.func215, Tryz.ntmps215
 go_wp2_with (go_at_call 225; refine cM (by with_reducible exact HS.out _) ?_; rintro e w1 ⟨rfl, rfl⟩)
 go_loopw [6] (fun s6 wx => ∃ i : Nat, i ≤ 12 ∧ s6 = .int .i64 i ∧ (∀ j, j < i → mS s j = false) ∧ Kp [] w wx) (fun s6 _ => 12 - (intOf s6).toNat)
 case atStart => exact ⟨0, by omega, rfl, fun j hj => absurd hj (Nat.not_lt_zero _), (Kp.refl [] w).alloc _⟩
 case round =>
  obtain ⟨i, hi, rfl, hn, hk⟩ := hrel
  have HN := qH hn
  have HK := qH hk
  clear hn hk
  by_cases hc : i = 12
  ·subst hc
   obtain rfl := HB.out HN.out
   go_wp2
   go_ret
   exact ⟨rfl, HK.out⟩
  have hi2 : i < 12 := by omega
  have hi3 : (i : Int) < 12 := by omega
  obtain ⟨a, b, hab, hrun⟩ := idx_sp i hi2 wr
  have hm : mS s i = ((s == a) || (s == b)) := by unfold mS; rw [hab]
  have h1 := str_eq s a
  have h2 := str_eq s b
  have hA := HA.out i hi2
  rw [hm] at hA
  have hstep : (s == a) = false → (s == b) = false → ∀ j, j < i + 1 → mS s j = false := fun e1 e2 j hj => by
   by_cases e : j = i
   ·subst e
    rw [hm, e1, e2]
    rfl
   ·exact HN.out j (by omega)
  have HST := qH hstep
  have HAA := qH hA
  clear hA hstep hm hab
  cases e1 : (s == a) with
  | true =>
   rw [e1] at h1
   obtain rfl := HAA.out (by rw [e1]; rfl) HN.out
   clear e1
   go_wp2
   go_ret
   exact ⟨rfl, HK.out.alloc _⟩
  | false =>
   rw [e1] at h1
   cases e2 : (s == b) with
   | true =>
    rw [e2] at h2
    obtain rfl := HAA.out (by rw [e2, Bool.or_true]) HN.out
    clear e1 e2
    go_wp2
    go_ret
    exact ⟨rfl, HK.out.alloc _⟩
   | false =>
    rw [e2] at h2
    have HX := qH (HST.out e1 e2)
    clear e1 e2
    go_wp2
    go_roundw
    case rel => exact ⟨i + 1, by omega, by go_num, HX.out, HK.out.alloc _⟩
    case measure => simp [intOf]; omega
end Go.Proofs.YtkkibibecgcbmaaGreatDoor
