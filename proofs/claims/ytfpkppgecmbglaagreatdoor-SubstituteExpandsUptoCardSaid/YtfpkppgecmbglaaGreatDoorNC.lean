
/- Contracts of package name, the second part: texts, numbers, beneath, the rank of a byte. -/
import Derived.Test.YtfpkppgecmbglaaGreatDoorNB
namespace Go.Proofs.YtfpkppgecmbglaaGreatDoor.Nm
open Go.RowKit

def TextSet : List UInt8 := (List.range 95).map fun i => UInt8.ofNat (i + 32)
theorem textSet_len : TextSet.length = 95 := by simp [TextSet]
theorem textSet_get (i : Nat) (h : i < 95) : TextSet[i]? = some (UInt8.ofNat (i + 32)) := by simp [TextSet, h]

set_option maxHeartbeats 400000 in
set_option maxRecDepth 1000000 in
theorem textBytes_any (w : World) : Calls Tryz.prog 57 #[] w (Bel (.agg (Lib.setCells TextSet)) w) := by
  have hv := (zero_of_info (P := Tryz.prog) info46).1
  have hi := (zero_of_info (P := Tryz.prog) info46).2
  go_enter Tryz.func57, Tryz.ntmps57
  go_wp2
  rw [← Lib.setCells_nil]
  go_loopg [2] 95 (fun g s2 wx => ∃ i : Nat, i + g = 95 ∧ s2 = .int .i64 ((i + 32 : Nat) : Int) ∧ wx = (w.alloc (.cells (Lib.setCells []) 95)).alloc (.cells (Lib.setCells (TextSet.take i)) 95))
  case atStart => exact ⟨0, by omega, rfl, rfl⟩
  case round =>
    obtain ⟨i, hig, rfl, rfl⟩ := hrel
    cases gk with
    | zero =>
      obtain rfl : i = 95 := by omega
      rw [show TextSet.take 95 = TextSet from List.take_of_length_le (by rw [textSet_len]; exact Nat.le_refl _)]
      have hsz := Lib.setCells_size TextSet
      have h1 := heap_alloc2_new w (.cells (Lib.setCells []) 95) (.cells (Lib.setCells TextSet) 95)
      have h0 := heap_alloc2_old w (.cells (Lib.setCells []) 95) (.cells (Lib.setCells TextSet) 95)
      have hb : Below w.heap.size w ((w.alloc (.cells (Lib.setCells []) 95)).alloc (.cells (Lib.setCells TextSet) 95)) := ((Below.refl _ w).alloc (Nat.le_refl _) _).alloc (by simp) _
      have hi' : (Tryz.prog.info? 95).map (·.size) = some (Lib.setCells TextSet).size := by rw [hsz]; exact hi
      generalize (w.alloc (.cells (Lib.setCells []) 95)).alloc (.cells (Lib.setCells TextSet) 95) = W at *
      go_wp2_with (first
        | (refine wpList_load_row rfl 95 _ rfl (w.heap.size + 1) rfl 95 _ _ _ h1 Tryz.underlying95 rfl hi' ?_)
        | (refine wpList_store_row rfl 95 _ _ rfl w.heap.size _ rfl rfl 95 _ h0 hi' (by rw [Lib.setCells_size, Lib.setCells_size]) (Lib.setCells_one _) ?_))
      refine bodyPost_ret (v := .agg (Lib.setCells TextSet)) (results_cell_row rfl _ _ w.heap.size 95 _ _ _ rfl (setRow_heap _ _ _ _ _ _ h0) Tryz.underlying95 rfl hi') rfl ⟨rfl, below_setRow hb (Nat.le_refl _) _⟩
    | succ g =>
      have hx : (UInt8.ofNat (i + 32)).toNat = i + 32 := by simp; omega
      have hlt : ((i + 32 : Nat) : Int) ≤ 126 := by omega
      have hlt2 : ((i + 32 : Nat) : Int) < 256 := by omega
      have hcell := Lib.setCells_at (TextSet.take i) (UInt8.ofNat (i + 32))
      rw [hx] at hcell
      have Hs := Lib.hid (Lib.setCells_snoc (TextSet.take i) (UInt8.ofNat (i + 32)))
      have Hx := Lib.hid hx
      clear hx
      go_wp2
      go_roundg g
      case measure => omega
      case rel => exact ⟨i + 1, by omega, congrArg (Value.int IntKind.i64) (by omega), by rw [List.take_add_one, textSet_get i (by omega)]; simp only [Option.toList]; rw [Hs.out, Hx.out]⟩

def textB (l : List UInt8) : Bool := decide (l.length ≤ 256) && allIn TextSet l

set_option maxHeartbeats 400000 in
set_option maxRecDepth 100000 in
theorem text_any (s : ByteArray) (w : World) (hs : s.size ≤ 4611686018427387904) :
    Calls Tryz.prog 29 #[.string s] w (Bel (.bool (textB s.data.toList)) w) := by
  have hv := (zero_of_info (P := Tryz.prog) info46).1
  have hi := (zero_of_info (P := Tryz.prog) info46).2
  have hi' : (Tryz.prog.info? 95).map (·.size) = some (Lib.setCells TextSet).size := by rw [Lib.setCells_size]; exact hi
  have Hi := Lib.hid hi'
  clear hi'
  have hsz := Lib.size_eq s
  have hk : textB s.data.toList = (decide (s.size ≤ 256) && allIn TextSet s.data.toList) := by unfold textB; rw [← hsz]
  clear hsz
  by_cases h : (s.size : Int) ≤ 256
  · rw [decide_eq_true (by omega)] at hk
    have Hk := Lib.hid hk
    clear hk
    go_enter Tryz.func29, Tryz.ntmps29
    go_wp2_with fail
    refine (textBytes_any _).mono ?_
    rintro e W1 ⟨rfl, hb⟩
    have Hn := Lib.hid (consists_any s W1.heap.size TextSet (W1.alloc (.cells (Lib.setCells TextSet) 95)) hs (setAt_cells (heap_alloc_last W1 _)))
    go_wp2_with (first
      | (refine wpList_store_new W1 95 _ (Lib.setCells TextSet) rfl _ _ rfl rfl rfl Hi.out (sizes_ok _) (Lib.setCells_one _) ?_)
      | (go_at_call 58; refine Hn.out.mono ?_; rintro e w' ⟨rfl, n, rfl⟩))
    go_ret
    exact ⟨by rw [Hk.out]; rfl, drewN_below (hb.alloc hb.size _) n⟩
  · rw [decide_eq_false (by omega)] at hk
    have Hk := Lib.hid hk
    clear hk
    go_enter Tryz.func29, Tryz.ntmps29
    go_wp2_with fail
    refine (textBytes_any _).mono ?_
    rintro e W1 ⟨rfl, hb⟩
    go_wp2_with (refine wpList_store_new W1 95 _ (Lib.setCells TextSet) rfl _ _ rfl rfl rfl Hi.out (sizes_ok _) (Lib.setCells_one _) ?_)
    go_ret
    exact ⟨by rw [Hk.out]; rfl, hb.alloc hb.size _⟩

theorem dig_iff (b : UInt8) : DigSet.contains b = (decide (48 ≤ (b.toNat : Int)) && decide ((b.toNat : Int) ≤ 57)) := by
  have := forall_u8 (p := fun b => DigSet.contains b == (decide (48 ≤ (b.toNat : Int)) && decide ((b.toNat : Int) ≤ 57))) (by decide +kernel) b
  simpa using this

set_option maxHeartbeats 400000 in
theorem isDigit_any (b : UInt8) (w : World) : Calls Tryz.prog 114 #[.int .u8 (b.toNat : Int)] w fun e w' => e = .returned (.bool (DigSet.contains b)) ∧ w' = w := by
  have hv := dig_iff b
  by_cases h1 : 48 ≤ (b.toNat : Int)
  · by_cases h2 : (b.toNat : Int) ≤ 57
    · rw [hv, decide_eq_true h1, decide_eq_true h2]
      clear hv
      go_enter Tryz.func114, Tryz.ntmps114
      go_wp2
      go_ret
      exact ⟨rfl, rfl⟩
    · rw [hv, decide_eq_true h1, decide_eq_false h2]
      clear hv
      go_enter Tryz.func114, Tryz.ntmps114
      go_wp2
      go_ret
      exact ⟨rfl, rfl⟩
  · rw [hv, decide_eq_false h1, Bool.false_and]
    clear hv
    go_enter Tryz.func114, Tryz.ntmps114
    go_wp2
    go_ret
    exact ⟨rfl, rfl⟩

/-- Where the digits at the end of the first k bytes begin. -/
def numAt (l : List UInt8) : Nat → Nat
  | 0 => 0
  | k + 1 => if (l[k]?.map DigSet.contains).getD false then numAt l k else k + 1

set_option maxHeartbeats 400000 in
set_option maxRecDepth 100000 in
theorem number_any (s : ByteArray) (w : World) (hs : s.size ≤ 4611686018427387904) :
    Calls Tryz.prog 78 #[.string s] w fun e w' => e = .returned (.string (s.extract (numAt s.data.toList s.size) s.size)) ∧ w' = w := by
  go_enter Tryz.func78, Tryz.ntmps78
  go_wp2
  go_loop [3] (fun s3 => ∃ k : Nat, k ≤ s.size ∧ s3 = .int .i64 k ∧ numAt s.data.toList k = numAt s.data.toList s.size) (fun s3 => (intOf s3).toNat)
  case atStart => exact ⟨_, Nat.le_refl _, rfl, rfl⟩
  case round =>
    obtain ⟨k, hk, rfl, hn⟩ := hrel
    cases k with
    | zero =>
      have Hn := Lib.hid hn
      clear hn
      go_wp2
      go_ret
      exact ⟨by rw [← Hn.out]; simp [numAt], rfl⟩
    | succ k =>
      have hlt : k < s.size := by omega
      obtain ⟨x, hx⟩ : ∃ x : UInt8, s[k]'hlt = x := ⟨_, rfl⟩
      have hxl : s.data.toList[k]? = some x := by rw [← hx]; exact Lib.data_getElem? s k hlt
      have hd := isDigit_any x
      rw [numAt, hxl] at hn
      simp only [Option.map_some, Option.getD_some] at hn
      clear hxl
      cases hc : DigSet.contains x with
      | true =>
        rw [hc] at hd
        rw [if_pos hc] at hn
        clear hc
        have Hn := Lib.hid hn
        clear hn
        have Hd := Lib.hid hd
        clear hd
        go_wp2_with (go_at_call 114; refine (Hd.out _).mono ?_; rintro e w' ⟨rfl, rfl⟩)
        go_round
        case rel => exact ⟨k, by omega, rfl, Hn.out⟩
        case measure => simp [intOf]
      | false =>
        rw [hc] at hd
        rw [if_neg (by rw [hc]; exact Bool.false_ne_true)] at hn
        clear hc
        have Hn := Lib.hid hn
        clear hn
        have Hd := Lib.hid hd
        clear hd
        go_wp2_with (go_at_call 114; refine (Hd.out _).mono ?_; rintro e w' ⟨rfl, rfl⟩)
        go_ret
        exact ⟨by rw [← Hn.out]; rfl, rfl⟩

end Go.Proofs.YtfpkppgecmbglaaGreatDoor.Nm
