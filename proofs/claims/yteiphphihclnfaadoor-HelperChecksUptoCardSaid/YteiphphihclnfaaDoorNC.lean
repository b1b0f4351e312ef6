
/- Contracts of package name, the second part: texts, numbers, beneath, the rank of a byte. -/
import Derived.Test.YteiphphihclnfaaDoorNB
namespace Go.Proofs.YteiphphihclnfaaDoor.Nm
open Go.RowKit

def TextSet : List UInt8 := (List.range 95).map fun i => UInt8.ofNat (i + 32)
theorem textSet_len : TextSet.length = 95 := by simp [TextSet]
theorem textSet_get (i : Nat) (h : i < 95) : TextSet[i]? = some (UInt8.ofNat (i + 32)) := by simp [TextSet, h]

set_option maxHeartbeats 400000 in
set_option maxRecDepth 1000000 in
theorem textBytes_any (w : World) : Calls Tryd.prog 57 #[] w (Bel (.agg (Lib.setCells TextSet)) w) := by
  have hv := (zero_of_info (P := Tryd.prog) info46).1
  have hi := (zero_of_info (P := Tryd.prog) info46).2
  go_enter Tryd.func57, Tryd.ntmps57
  go_wp2
  rw [← Lib.setCells_nil]
  go_loopg [2] 95 (fun g s2 wx => ∃ i : Nat, i + g = 95 ∧ s2 = .int .i64 ((i + 32 : Nat) : Int) ∧ wx = (w.alloc (.cells (Lib.setCells []) 71)).alloc (.cells (Lib.setCells (TextSet.take i)) 71))
  case atStart => exact ⟨0, by omega, rfl, rfl⟩
  case round =>
    obtain ⟨i, hig, rfl, rfl⟩ := hrel
    cases gk with
    | zero =>
      obtain rfl : i = 95 := by omega
      rw [show TextSet.take 95 = TextSet from List.take_of_length_le (by rw [textSet_len]; exact Nat.le_refl _)]
      have hsz := Lib.setCells_size TextSet
      have h1 := heap_alloc2_new w (.cells (Lib.setCells []) 71) (.cells (Lib.setCells TextSet) 71)
      have h0 := heap_alloc2_old w (.cells (Lib.setCells []) 71) (.cells (Lib.setCells TextSet) 71)
      have hb : Below w.heap.size w ((w.alloc (.cells (Lib.setCells []) 71)).alloc (.cells (Lib.setCells TextSet) 71)) := ((Below.refl _ w).alloc (Nat.le_refl _) _).alloc (by simp) _
      have hi' : (Tryd.prog.info? 71).map (·.size) = some (Lib.setCells TextSet).size := by rw [hsz]; exact hi
      generalize (w.alloc (.cells (Lib.setCells []) 71)).alloc (.cells (Lib.setCells TextSet) 71) = W at *
      go_wp2_with (first
        | (refine wpList_load_row rfl 71 _ rfl (w.heap.size + 1) rfl 71 _ _ _ h1 Tryd.underlying71 rfl hi' ?_)
        | (refine wpList_store_row rfl 71 _ _ rfl w.heap.size _ rfl rfl 71 _ h0 hi' (by rw [Lib.setCells_size, Lib.setCells_size]) (Lib.setCells_one _) ?_))
      refine bodyPost_ret (v := .agg (Lib.setCells TextSet)) (results_cell_row rfl _ _ w.heap.size 71 _ _ _ rfl (setRow_heap _ _ _ _ _ _ h0) Tryd.underlying71 rfl hi') rfl ⟨rfl, below_setRow hb (Nat.le_refl _) _⟩
    | succ g =>
      have hx : (UInt8.ofNat (i + 32)).toNat = i + 32 := by simp; omega
      have hlt : ((i + 32 : Nat) : Int) ≤ 126 := by omega
      have hlt2 : ((i + 32 : Nat) : Int) < 256 := by omega
      have hcell := Lib.setCells_at (TextSet.take i) (UInt8.ofNat (i + 32))
      rw [hx] at hcell
      have Hs := Lib.hid (Lib.setCells_snoc (TextSet.take i) (UInt8.ofNat (i + 32)))
      have Hx := Lib.hid hx
      clear hx
      go_wp2
      go_roundg g
      case measure => omega
      case rel => exact ⟨i + 1, by omega, congrArg (Value.int IntKind.i64) (by omega), by rw [List.take_add_one, textSet_get i (by omega)]; simp only [Option.toList]; rw [Hs.out, Hx.out]⟩

def textB (l : List UInt8) : Bool := decide (l.length ≤ 256) && allIn TextSet l

set_option maxHeartbeats 400000 in
set_option maxRecDepth 100000 in
theorem text_any (s : ByteArray) (w : World) (hs : s.size ≤ 4611686018427387904) :
    Calls Tryd.prog 41 #[.string s] w (Bel (.bool (textB s.data.toList)) w) := by
  have hv := (zero_of_info (P := Tryd.prog) info46).1
  have hi := (zero_of_info (P := Tryd.prog) info46).2
  have hi' : (Tryd.prog.info? 71).map (·.size) = some (Lib.setCells TextSet).size := by rw [Lib.setCells_size]; exact hi
  have Hi := Lib.hid hi'
  clear hi'
  have hsz := Lib.size_eq s
  have hk : textB s.data.toList = (decide (s.size ≤ 256) && allIn TextSet s.data.toList) := by unfold textB; rw [← hsz]
  clear hsz
  by_cases h : (s.size : Int) ≤ 256
  · rw [decide_eq_true (by omega)] at hk
    have Hk := Lib.hid hk
    clear hk
    go_enter Tryd.func41, Tryd.ntmps41
    go_wp2_with fail
    refine (textBytes_any _).mono ?_
    rintro e W1 ⟨rfl, hb⟩
    have Hn := Lib.hid (consists_any s W1.heap.size TextSet (W1.alloc (.cells (Lib.setCells TextSet) 71)) hs (setAt_cells (heap_alloc_last W1 _)))
    go_wp2_with (first
      | (refine wpList_store_new W1 71 _ (Lib.setCells TextSet) rfl _ _ rfl rfl rfl Hi.out (sizes_ok _) (Lib.setCells_one _) ?_)
      | (go_at_call 39; refine Hn.out.mono ?_; rintro e w' ⟨rfl, n, rfl⟩))
    go_ret
    exact ⟨by rw [Hk.out]; rfl, drewN_below (hb.alloc hb.size _) n⟩
  · rw [decide_eq_false (by omega)] at hk
    have Hk := Lib.hid hk
    clear hk
    go_enter Tryd.func41, Tryd.ntmps41
    go_wp2_with fail
    refine (textBytes_any _).mono ?_
    rintro e W1 ⟨rfl, hb⟩
    go_wp2_with (refine wpList_store_new W1 71 _ (Lib.setCells TextSet) rfl _ _ rfl rfl rfl Hi.out (sizes_ok _) (Lib.setCells_one _) ?_)
    go_ret
    exact ⟨by rw [Hk.out]; rfl, hb.alloc hb.size _⟩

theorem dig_iff (b : UInt8) : DigSet.contains b = (decide (48 ≤ (b.toNat : Int)) && decide ((b.toNat : Int) ≤ 57)) := by
  have := forall_u8 (p := fun b => DigSet.contains b == (decide (48 ≤ (b.toNat : Int)) && decide ((b.toNat : Int) ≤ 57))) (by decide +kernel) b
  simpa using this

/-- Where the digits at the end of the first k bytes begin. -/
def numAt (l : List UInt8) : Nat → Nat
  | 0 => 0
  | k + 1 => if (l[k]?.map DigSet.contains).getD false then numAt l k else k + 1

end Go.Proofs.YteiphphihclnfaaDoor.Nm
