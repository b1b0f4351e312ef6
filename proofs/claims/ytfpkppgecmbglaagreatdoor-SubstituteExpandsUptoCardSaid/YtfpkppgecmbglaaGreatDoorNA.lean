
/- The contracts of the small functions of package name: sets of bytes, and what consists of them. -/
import Derived.Test.YtfpkppgecmbglaaGreatDoorProg
import Derived.WalkKit
import Derived.WalkSpells
import Derived.WalkLawsBesides
import Derived.Lib.Walk
import Derived.Lib.Strings
import Derived.Lib.IndexBytes
import Derived.Lib.AsciiSet
import Derived.Lib.Hide
import Derived.Laws.Strings3
import Derived.Laws.ResultCell
import Derived.Laws.CopyOwn
import Derived.Deep.LoopGhost
import Derived.Deep.WholeRow
import Derived.Deep.QuietTactic
import Derived.BigQuiet
namespace Go.Proofs.YtfpkppgecmbglaaGreatDoor.Nm
open Go.RowKit

theorem info46 : (Tryz.prog.info? 95).map (fun i => (i.zero, i.size)) = some (some (.agg (Array.replicate 256 (.bool false))), 256) := by kernel_rfl

set_option maxHeartbeats 400000 in
set_option maxRecDepth 1000000 in
theorem setOf_any (m : ByteArray) (w : World) (hs : m.size ≤ 4611686018427387904) :
    Calls Tryz.prog 132 #[.string m] w fun e w' => e = .returned (.agg (Lib.setCells m.data.toList)) ∧ Below w.heap.size w w' := by
  have hv := (zero_of_info (P := Tryz.prog) info46).1
  have hi := (zero_of_info (P := Tryz.prog) info46).2
  go_enter Tryz.func132, Tryz.ntmps132
  go_wp2
  rw [← Lib.setCells_nil]
  go_loopg [4, 7] m.size (fun g s4 s7 wx => ∃ i : Nat, i + g = m.size ∧ s7 = .int .i64 i ∧ wx = (w.alloc (.cells (Lib.setCells []) 95)).alloc (.cells (Lib.setCells (m.data.toList.take i)) 95))
  case atStart => exact ⟨0, by omega, rfl, rfl⟩
  case round =>
    obtain ⟨i, hig, rfl, rfl⟩ := hrel
    cases gk with
    | zero =>
      obtain rfl : i = m.size := by omega
      have hiz : ¬ ((m.size : Int) < (m.size : Int)) := by omega
      rw [show m.data.toList.take m.size = m.data.toList from List.take_of_length_le (by rw [← Lib.size_eq]; exact Nat.le_refl _)]
      have hsz := Lib.setCells_size m.data.toList
      have h1 := heap_alloc2_new w (.cells (Lib.setCells []) 95) (.cells (Lib.setCells m.data.toList) 95)
      have h0 := heap_alloc2_old w (.cells (Lib.setCells []) 95) (.cells (Lib.setCells m.data.toList) 95)
      have hb : Below w.heap.size w ((w.alloc (.cells (Lib.setCells []) 95)).alloc (.cells (Lib.setCells m.data.toList) 95)) := ((Below.refl _ w).alloc (Nat.le_refl _) _).alloc (by simp) _
      have hi' : (Tryz.prog.info? 95).map (·.size) = some (Lib.setCells m.data.toList).size := by rw [hsz]; exact hi
      generalize (w.alloc (.cells (Lib.setCells []) 95)).alloc (.cells (Lib.setCells m.data.toList) 95) = W at *
      go_wp2_with (first
        | (refine wpList_load_row rfl 95 _ rfl (w.heap.size + 1) rfl 95 _ _ _ h1 Tryz.underlying95 rfl hi' ?_)
        | (refine wpList_store_row rfl 95 _ _ rfl w.heap.size _ rfl rfl 95 _ h0 hi' (by rw [Lib.setCells_size, Lib.setCells_size]) (Lib.setCells_one _) ?_))
      refine bodyPost_ret (v := .agg (Lib.setCells m.data.toList)) (results_cell_row rfl _ _ w.heap.size 95 _ _ _ rfl (setRow_heap _ _ _ _ _ _ h0) Tryz.underlying95 rfl hi') rfl ⟨rfl, below_setRow hb (Nat.le_refl _) _⟩
    | succ g =>
      have hi' : i < m.size := by omega
      have hiz : (i : Int) < (m.size : Int) := by omega
      obtain ⟨x, hx⟩ : ∃ x : UInt8, m[i]'hi' = x := ⟨_, rfl⟩
      have hxl : m.data.toList[i]? = some x := by rw [← hx]; exact Lib.data_getElem? m i hi'
      have hx256 : (x.toNat : Int) < 256 := by have := UInt8.toNat_lt x; omega
      have hcell := Lib.setCells_at (m.data.toList.take i) x
      have Hx := Lib.hid hxl
      clear hxl
      go_wp2
      go_roundg g
      case measure => omega
      case rel => exact ⟨i + 1, by omega, by first | rfl | simp, by rw [List.take_add_one, Hx.out]; simp only [Option.toList]; rw [Lib.setCells_snoc]⟩

def UpSet : List UInt8 := [65, 66, 67, 68, 69, 70, 71, 72, 73, 74, 75, 76, 77, 78, 79, 80, 81, 82, 83, 84, 85, 86, 87, 88, 89, 90]
def LowSet : List UInt8 := [97, 98, 99, 100, 101, 102, 103, 104, 105, 106, 107, 108, 109, 110, 111, 112, 113, 114, 115, 116, 117, 118, 119, 120, 121, 122]
def DigSet : List UInt8 := [48, 49, 50, 51, 52, 53, 54, 55, 56, 57]
def NameSet : List UInt8 := UpSet ++ LowSet ++ DigSet ++ [95, 46, 58, 43, 45, 33]
def KeySet : List UInt8 := UpSet ++ DigSet ++ [95]
def LinkSet : List UInt8 := UpSet ++ LowSet ++ DigSet ++ [95, 46, 58, 43, 45, 64, 35, 61, 37]
/-- All bytes of l stand in S. -/
def allIn (S l : List UInt8) : Bool := l.all fun c => S.contains c
theorem allIn_nil (S : List UInt8) : allIn S [] = true := rfl
theorem allIn_snoc (S l : List UInt8) (x : UInt8) : allIn S (l ++ [x]) = (allIn S l && S.contains x) := by simp [allIn]
theorem allIn_false (S l : List UInt8) (i : Nat) (x : UInt8) (h : l[i]? = some x) (hx : S.contains x = false) : allIn S l = false := by
  unfold allIn
  rw [List.all_eq_false]
  exact ⟨x, List.mem_of_getElem? h, by rw [hx]; exact Bool.false_ne_true⟩

def SetAt (w : World) (b : Nat) (S : List UInt8) : Prop := ∀ x : UInt8, w.cell? ⟨b, x.toNat, none⟩ = some (.bool (S.contains x))
def Draws (v : Value) (w : World) (e : Ending) (w' : World) : Prop := e = .returned v ∧ ∃ n, w' = w.drewN n
def Bel (v : Value) (w : World) (e : Ending) (w' : World) : Prop := e = .returned v ∧ Below w.heap.size w w'

set_option maxHeartbeats 400000 in
set_option maxRecDepth 100000 in
theorem consists_any (s : ByteArray) (b : Nat) (S : List UInt8) (w : World) (hs : s.size ≤ 4611686018427387904) (hS : SetAt w b S) :
    Calls Tryz.prog 58 #[.string s, .pointer (some ⟨b, 0, none⟩)] w (Draws (.bool (allIn S s.data.toList)) w) := by
  go_enter Tryz.func58, Tryz.ntmps58
  go_wp2
  go_loopw [5, 8] (fun s5 s8 wx => ∃ i : Nat, i ≤ s.size ∧ s8 = .int .i64 i ∧ allIn S (s.data.toList.take i) = true ∧ ∃ n, wx = w.drewN n) (fun _ s8 _ => s.size - (intOf s8).toNat)
  case atStart => exact ⟨0, by omega, rfl, rfl, 0, rfl⟩
  case round =>
    obtain ⟨i, hi, rfl, hall, n, rfl⟩ := hrel
    have Hall := Lib.hid hall
    clear hall
    by_cases hlt : i < s.size
    · have hiz : (i : Int) < (s.size : Int) := by omega
      obtain ⟨x, hx⟩ : ∃ x : UInt8, s[i]'hlt = x := ⟨_, rfl⟩
      have hxl : s.data.toList[i]? = some x := by rw [← hx]; exact Lib.data_getElem? s i hlt
      have hx256 : (x.toNat : Int) < 256 := by have := UInt8.toNat_lt x; omega
      have hcell := hS x
      have Hx := Lib.hid hxl
      clear hxl
      cases hc : S.contains x with
      | false =>
        rw [hc] at hcell
        have hf := allIn_false S s.data.toList i x Hx.out hc
        clear hc
        have Hf := Lib.hid hf
        clear hf
        go_wp2
        go_quiet (fail)
        go_wp2
        go_ret
        exact ⟨by rw [Hf.out]; rfl, n + nq, by rw [World.drewN_drewN]⟩
      | true =>
        rw [hc] at hcell
        have ht : allIn S (s.data.toList.take (i + 1)) = true := by
          rw [List.take_add_one, Hx.out]
          simp only [Option.toList]
          rw [allIn_snoc, Hall.out, hc]
          rfl
        clear hc
        have Ht := Lib.hid ht
        clear ht
        go_wp2
        go_quiet (fail)
        go_wp2
        exact ⟨⟨i + 1, by omega, by go_num, Ht.out, _, rfl⟩, by simp [intOf]; omega⟩
    · go_wp2
      go_ret
      refine ⟨?_, _, rfl⟩
      have h : s.data.toList.take i = s.data.toList := List.take_of_length_le (by rw [← Lib.size_eq]; omega)
      rw [h] at Hall
      rw [Hall.out]
      rfl

theorem drewN_below {a w : World} {B : Nat} (h : Below B a w) (n : Nat) : Below B a (w.drewN n) := ⟨h.os, h.tape, h.output, h.size, h.block⟩


theorem heap_new_below {w W1 : World} {o : Obj} (hb : Below (w.alloc o).heap.size (w.alloc o) W1) : W1.heap[w.heap.size]? = some o :=
  (hb.block _ (by simp)).trans (heap_alloc_last w o)
theorem below_new {w W1 : World} {o : Obj} (hb : Below (w.alloc o).heap.size (w.alloc o) W1) : Below w.heap.size w W1 :=
  ((Below.refl _ w).alloc (Nat.le_refl _) o).trans (hb.mono (by simp))

set_option maxHeartbeats 400000 in
set_option maxRecDepth 100000 in
theorem nameBytes_any (w : World) : Calls Tryz.prog 109 #[] w (Bel (.agg (Lib.setCells NameSet)) w) := by
  have hv := (zero_of_info (P := Tryz.prog) info46).1
  have hi := (zero_of_info (P := Tryz.prog) info46).2
  go_enter Tryz.func109, Tryz.ntmps109
  go_wp2_with fail
  refine (setOf_any _ _ (by simp [ByteArray.size])).mono ?_
  rintro e W1 ⟨rfl, hb⟩
  rw [show Lib.setCells (ByteArray.data _).toList = Lib.setCells NameSet from congrArg Lib.setCells (by rfl)]
  have h0 := heap_new_below hb
  have hi' : (Tryz.prog.info? 95).map (·.size) = some (Lib.setCells NameSet).size := by rw [Lib.setCells_size]; exact hi
  go_wp2_with (refine wpList_store_row rfl 95 _ _ rfl w.heap.size _ rfl rfl 95 _ h0 hi' (by rw [Lib.setCells_size, Array.size_replicate]) (Lib.setCells_one _) ?_)
  exact bodyPost_ret (v := .agg (Lib.setCells NameSet)) (results_cell_row rfl _ _ w.heap.size 95 _ _ _ rfl (setRow_heap _ _ _ _ _ _ h0) Tryz.underlying95 rfl hi') rfl ⟨rfl, below_setRow (below_new hb) (Nat.le_refl _) _⟩

set_option maxHeartbeats 400000 in
set_option maxRecDepth 100000 in
theorem keyBytes_any (w : World) : Calls Tryz.prog 111 #[] w (Bel (.agg (Lib.setCells KeySet)) w) := by
  have hv := (zero_of_info (P := Tryz.prog) info46).1
  have hi := (zero_of_info (P := Tryz.prog) info46).2
  go_enter Tryz.func111, Tryz.ntmps111
  go_wp2_with fail
  refine (setOf_any _ _ (by simp [ByteArray.size])).mono ?_
  rintro e W1 ⟨rfl, hb⟩
  rw [show Lib.setCells (ByteArray.data _).toList = Lib.setCells KeySet from congrArg Lib.setCells (by rfl)]
  have h0 := heap_new_below hb
  have hi' : (Tryz.prog.info? 95).map (·.size) = some (Lib.setCells KeySet).size := by rw [Lib.setCells_size]; exact hi
  go_wp2_with (refine wpList_store_row rfl 95 _ _ rfl w.heap.size _ rfl rfl 95 _ h0 hi' (by rw [Lib.setCells_size, Array.size_replicate]) (Lib.setCells_one _) ?_)
  exact bodyPost_ret (v := .agg (Lib.setCells KeySet)) (results_cell_row rfl _ _ w.heap.size 95 _ _ _ rfl (setRow_heap _ _ _ _ _ _ h0) Tryz.underlying95 rfl hi') rfl ⟨rfl, below_setRow (below_new hb) (Nat.le_refl _) _⟩

end Go.Proofs.YtfpkppgecmbglaaGreatDoor.Nm
