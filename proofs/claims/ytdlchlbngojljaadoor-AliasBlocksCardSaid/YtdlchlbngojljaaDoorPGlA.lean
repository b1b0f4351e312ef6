/- The contracts of the sets of bytes of package glob. -/
import Derived.Test.YtdlchlbngojljaaDoorProg
import Derived.Test.YtdlchlbngojljaaDoorPGlW
import Derived.WalkKit
import Derived.WalkSpells
import Derived.WalkLawsBesides
import Derived.Lib.Walk
import Derived.Lib.Strings
import Derived.Lib.IndexBytes
import Derived.Lib.AsciiSet
import Derived.Lib.Hide
import Derived.Laws.Strings3
import Derived.Laws.ResultCell
import Derived.Laws.CopyOwn
import Derived.Deep.LoopGhost
import Derived.Deep.WholeRow
import Derived.Deep.QuietTactic
import Derived.BigQuiet
import Derived.StillTailTactics
namespace Go.Proofs.YtdlchlbngojljaaDoor.Gl
open Go.RowKit
/-- The set lies as four words from the cell o of the block b on. -/
def SetAt4 (w : World) (b o : Nat) (S : UInt8 → Bool) : Prop := ∀ i, i < 4 → w.cell? ⟨b, o + i, none⟩ = some (.int .u64 (wd S i))
theorem bit_int (x k : Nat) : ((((x : Int) / 2 ^ k).toNat &&& 1 : Nat) : Int) = if x.testBit k then 1 else 0 := by
 have h : ((x : Int) / 2 ^ k).toNat = x / 2 ^ k := by
  have : ((x : Int) / 2 ^ k) = ((x / 2 ^ k : Nat) : Int) := by simp
  rw [this, Int.toNat_natCast]
 rw [h, Nat.and_one_is_mod, Nat.testBit_eq_decide_div_mod_eq]
 have : x / 2 ^ k % 2 < 2 := Nat.mod_lt _ (by decide)
 by_cases h1 : x / 2 ^ k % 2 = 1
 ·simp [h1]
 ·have : x / 2 ^ k % 2 = 0 := by omega
  simp [this]
theorem u64_bit (x k : Nat) (hx : x < 18446744073709551616) : (bits .and .u64 ((x : Int) / 2 ^ k) 1 == 1) = x.testBit k := by
 have h0 : ((x : Int) / 2 ^ k) = ((x / 2 ^ k : Nat) : Int) := by simp
 have h1 : x / 2 ^ k ≤ x := Nat.div_le_self _ _
 have h := bit_int x k
 have h2 : (0 : Int) ≤ (x : Int) / 2 ^ k := by rw [h0]; exact Int.natCast_nonneg _
 have h3 : (x : Int) / 2 ^ k < 18446744073709551616 := by rw [h0]; omega
 rw [u64_and _ _ h2 h3 (by decide) (by decide)]
 rw [show (1 : Int).toNat = 1 from rfl, h]
 cases x.testBit k <;> rfl
set_option maxHeartbeats 400000 in
set_option maxRecDepth 100000 in
theorem has_any (b o : Nat) (S : UInt8 → Bool) (c : UInt8) (w : World) (hS : SetAt4 w b o S) :
  Calls Tryd.prog 57 #[.pointer (some ⟨b, o, none⟩), .int .u8 (c.toNat : Int)] w fun e w' => e = .returned (.bool (S c)) ∧ w' = w := by
 have hc := UInt8.toNat_lt c
 have hcell := hS (c.toNat / 64) (by omega)
 have hbit := wd_has S c
 have hw := wd_lt S (c.toNat / 64)
 generalize wd S (c.toNat / 64) = x at *
 have hci : (c.toNat : Int) < 256 := by omega
 have hxi : (x : Int) < 18446744073709551616 := by omega
 have hr64 : c.toNat % 64 < 64 := Nat.mod_lt _ (by decide)
 go_enter Tryd.func57, Tryd.ntmps57
 go_wp2
 go_ret
 refine ⟨?_, rfl⟩
 rw [u64_bit x _ hw, hbit]
 rfl
/-- The four cells of a set. -/
def setV (S : UInt8 → Bool) : Array Value := #[.int .u64 (wd S 0), .int .u64 (wd S 1), .int .u64 (wd S 2), .int .u64 (wd S 3)]
theorem setV_size (S : UInt8 → Bool) : (setV S).size = 4 := rfl
theorem sizes4 (S : UInt8 → Bool) : (Array.replicate 4 (Value.int .u64 0)).size = (setV S).size := by rw [Array.size_replicate, setV_size]
theorem setV_one (S : UInt8 → Bool) : (setV S).all (·.oneCell') = true := by simp [setV, Value.oneCell']
theorem setV_get (S : UInt8 → Bool) (i : Nat) (hi : i < 4) : (setV S)[i]? = some (.int .u64 (wd S i)) := by
 match i, hi with
 | 0, _ => rfl
 | 1, _ => rfl
 | 2, _ => rfl
 | 3, _ => rfl
theorem setAt4_of {w : World} {b : Nat} {S : UInt8 → Bool} {t : TypeId} {fr : Nat × Nat} (h : w.heap[b]? = some (.cells (setV S) t fr)) : SetAt4 w b 0 S := by
 intro i hi
 rw [Nat.zero_add, cell_of_row w b _ _ t fr h, setV_get S i hi]
theorem setV_add (S : UInt8 → Bool) (b : Nat) (hb : b < 256) : (setV S).setIfInBounds (b / 64) (.int .u64 ((wd S (b / 64) ||| 2 ^ (b % 64) : Nat) : Int)) = setV (fun x => S x || x == UInt8.ofNat b) := by
 have hi : b / 64 < 4 := by omega
 rw [wd_add S b hb]
 apply Array.ext_getElem?
 intro j
 rw [Array.getElem?_setIfInBounds]
 by_cases hj : j < 4
 ·rw [setV_get _ j hj]
  by_cases he : b / 64 = j
  ·subst he
   rw [if_pos rfl, if_pos (by rw [setV_size]; exact hi), setV_get _ _ hi]
  ·rw [if_neg he, setV_get _ j hj, wd_other S b j hb hj (fun h => he h.symm)]
 ·rw [if_neg (by omega), Array.getElem?_eq_none (by rw [setV_size]; omega), Array.getElem?_eq_none (by rw [setV_size]; omega)]
/-- S and the bytes from f on, k of them. -/
def addN (S : UInt8 → Bool) (f k : Nat) (x : UInt8) : Bool := S x || (decide (f ≤ x.toNat) && decide (x.toNat < f + k))
theorem addN_zero (S : UInt8 → Bool) (f : Nat) : addN S f 0 = S := by
 funext x
 unfold addN
 cases S x <;> simp
theorem addN_succ (S : UInt8 → Bool) (f k : Nat) (h : f + k < 256) : addN S f (k + 1) = fun x => addN S f k x || x == UInt8.ofNat (f + k) := by
 funext x
 have hx : (x == UInt8.ofNat (f + k)) = decide (x.toNat = f + k) := by
  rw [Bool.eq_iff_iff]
  simp only [beq_iff_eq, decide_eq_true_eq]
  constructor
  ·intro e; rw [e]; simp; omega
  ·intro e; apply UInt8.toNat_inj.1; rw [e]; simp; omega
 unfold addN
 rw [hx]
 cases S x with
 | true => rfl
 | false =>
  rw [Bool.eq_iff_iff]
  simp
  omega
theorem addN_range (S : UInt8 → Bool) (f l : UInt8) : addN S f.toNat (l.toNat + 1 - f.toNat) = fun x => S x || rangeB f l x := by
 funext x
 unfold addN rangeB
 cases S x with
 | true => rfl
 | false =>
  rw [Bool.eq_iff_iff]
  simp
  omega
theorem two_pow_cast (k : Nat) : ((2 : Int) ^ k) = ((2 ^ k : Nat) : Int) := by simp
theorem or_u64 (x k : Nat) (hx : x < 18446744073709551616) (hk : k < 64) : bits .or .u64 (x : Int) ((2 : Int) ^ k) = ((x ||| 2 ^ k : Nat) : Int) := by
 have h : ((2 : Int) ^ k) = ((2 ^ k : Nat) : Int) := by simp
 have h2 : 2 ^ k < 2 ^ 64 := Nat.pow_lt_pow_right (by decide) hk
 rw [h, u64_or_nat x (2 ^ k) hx (by omega)]
theorem block_setCell4 {w : World} {g i : Nat} {cs : Array Value} {t : TypeId} {fr : Nat × Nat} (h : w.heap[g]? = some (.cells cs t fr)) (v : Value) : (w.setCell ⟨g, i, none⟩ v).heap[g]? = some (.cells (cs.setIfInBounds i v) t fr) := by
 simp only [World.setCell, Array.getElem?_modify, h]
 simp
def AddPost (b : Nat) (S : UInt8 → Bool) (w : World) (e : Ending) (w' : World) : Prop := e = .returned (.tuple #[]) ∧ w'.heap[b]? = some (.cells (setV S) 106 (0, 0)) ∧ Below b w w' ∧ w'.heap.size = w.heap.size
set_option maxHeartbeats 1000000 in
set_option maxRecDepth 100000 in
theorem add_any (b : Nat) (S : UInt8 → Bool) (f l : UInt8) (w : World) (hS : w.heap[b]? = some (.cells (setV S) 106 (0, 0))) :
  Calls Tryd.prog 83 #[.pointer (some ⟨b, 0, none⟩), .int .u8 (f.toNat : Int), .int .u8 (l.toNat : Int)] w (AddPost b (fun x => S x || rangeB f l x) w) := by
 have hf := UInt8.toNat_lt f
 have hl := UInt8.toNat_lt l
 rw [← addN_range]
 generalize f.toNat = F at *
 generalize l.toNat = L at *
 have hfi : (F : Int) < 256 := by omega
 have hli : (L : Int) < 256 := by omega
 go_enter Tryd.func83, Tryd.ntmps83
 go_wp2
 go_loopw [6] (fun s6 wx => ∃ j : Nat, F ≤ j ∧ (j ≤ L + 1 ∨ j = F) ∧ s6 = .int .i64 j ∧ wx.heap[b]? = some (.cells (setV (addN S F (j - F))) 106 (0, 0)) ∧ Below b w wx ∧ wx.heap.size = w.heap.size) (fun s6 _ => L + 1 - (intOf s6).toNat)
 case atStart => exact ⟨F, Nat.le_refl _, Or.inr rfl, rfl, by rw [Nat.sub_self, addN_zero]; exact hS, Below.refl _ _, rfl⟩
 case round =>
  obtain ⟨j, hFj, hjL, rfl, hcells, hbel, hsize⟩ := hrel
  by_cases hlt : (j : Int) ≤ (L : Int)
  ·have hj : F + (j - F) = j := by omega
   have hadd := addN_succ S F (j - F) (by omega)
   have hset := setV_add (addN S F (j - F)) j (by omega)
   rw [hj] at hadd
   rw [← hadd, show j - F + 1 = j + 1 - F from by omega] at hset
   have hq : j / 64 < 4 := by omega
   have hcell := setAt4_of hcells (j / 64) hq
   rw [Nat.zero_add] at hcell
   have hw := wd_lt (addN S F (j - F)) (j / 64)
   clear hadd hjL hj
   generalize wd (addN S F (j - F)) (j / 64) = x at hset hcell hw
   have hxi : (x : Int) < 18446744073709551616 := by omega
   have hq1 : (j : Int) / 64 < 4 := by omega
   have hq0 : 0 ≤ (j : Int) / 64 := by omega
   have hr1 : (j : Int) % 64 < 64 := by omega
   have hr0 : 0 ≤ (j : Int) % 64 := by omega
   have hfz := frozen_of_row wr b (j / 64) _ _ hcells
   have Hset := Lib.hid hset
   have Hcells := Lib.hid hcells
   have Hbel := Lib.hid hbel
   have Hsize := Lib.hid hsize
   clear hset hcells hbel hsize hS
   go_wp2
   go_region
   all_goals go_wp2
   have hor : bits BinOp.or IntKind.u64 (x : Int) (IntKind.u64.wrap (2 ^ (j % 64))) = ((x ||| 2 ^ (j % 64) : Nat) : Int) := by
    have hp : 2 ^ (j % 64) < 2 ^ 64 := Nat.pow_lt_pow_right (by decide) (Nat.mod_lt _ (by decide))
    have he : IntKind.u64.wrap (2 ^ (j % 64)) = ((2 ^ (j % 64) : Nat) : Int) := by
     rw [IntKind.wrap_u64, two_pow_cast]
     exact Int.emod_eq_of_lt (Int.natCast_nonneg _) (Int.ofNat_lt.2 hp)
    rw [he, u64_or_nat x _ hw (by omega)]
   rw [hor]
   refine ⟨⟨j + 1, by omega, by omega, rfl, ?_, ?_, ?_⟩, by simp [intOf]; omega⟩
   ·show (wr.setCell _ _).heap[b]? = _
    rw [block_setCell4 Hcells.out, Hset.out]
   ·exact ((Hbel.out.setCell (Nat.le_refl _) _).trans ⟨rfl, rfl, rfl, Nat.le_refl _, fun _ _ => rfl⟩)
   ·show (wr.setCell _ _).heap.size = _
    rw [World.size_setCell]
    exact Hsize.out
  ·obtain rfl | rfl : j = L + 1 ∨ j = F := by omega
   ·go_wp2
    go_end0
    exact ⟨rfl, hcells, hbel, hsize⟩
   ·go_wp2
    go_end0
    rw [Nat.sub_self] at hcells
    rw [show L + 1 - j = 0 from by omega]
    exact ⟨rfl, hcells, hbel, hsize⟩
/-- Word i of the walk: the first n words are B's, the rest A's. -/
def mixV (A B : UInt8 → Bool) (n : Nat) : Array Value := #[.int .u64 (wd (if 0 < n then B else A) 0), .int .u64 (wd (if 1 < n then B else A) 1), .int .u64 (wd (if 2 < n then B else A) 2), .int .u64 (wd (if 3 < n then B else A) 3)]
theorem mixV_zero (A B : UInt8 → Bool) : mixV A B 0 = setV A := rfl
theorem mixV_four (A B : UInt8 → Bool) : mixV A B 4 = setV B := rfl
theorem mixV_succ (A B : UInt8 → Bool) (n : Nat) (hn : n < 4) : (mixV A B n).setIfInBounds n (.int .u64 (wd B n)) = mixV A B (n + 1) := by
 match n, hn with
 | 0, _ => rfl
 | 1, _ => rfl
 | 2, _ => rfl
 | 3, _ => rfl
theorem mixV_at (A B : UInt8 → Bool) (n : Nat) (hn : n < 4) : (mixV A B n)[n]? = some (.int .u64 (wd A n)) := by
 match n, hn with
 | 0, _ => rfl
 | 1, _ => rfl
 | 2, _ => rfl
 | 3, _ => rfl
def Bel (v : Value) (w : World) (e : Ending) (w' : World) : Prop := e = .returned v ∧ Below w.heap.size w w'
theorem info61 : (Tryd.prog.info? 106).map (fun i => (i.zero, i.size)) = some (some (.agg (Array.replicate 4 (.int .u64 0))), 4) := by kernel_rfl
section
variable (w : World) (o1 o2 o3 : Obj)
theorem box3_0 : (((w.alloc o1).alloc o2).alloc o3).heap[w.heap.size]? = some o1 := by
 rw [Below.heap_alloc _ _ _ (by simp; omega), Below.heap_alloc _ _ _ (by simp)]
 exact heap_alloc_last w o1
theorem box3_1 : (((w.alloc o1).alloc o2).alloc o3).heap[w.heap.size + 1]? = some o2 := by
 rw [Below.heap_alloc _ _ _ (by simp)]
 have := heap_alloc_last (w.alloc o1) o2
 rwa [show (w.alloc o1).heap.size = w.heap.size + 1 from by simp] at this
theorem box3_2 : (((w.alloc o1).alloc o2).alloc o3).heap[w.heap.size + 2]? = some o3 := by
 have := heap_alloc_last ((w.alloc o1).alloc o2) o3
 rwa [show ((w.alloc o1).alloc o2).heap.size = w.heap.size + 2 from by simp] at this
theorem box3_below : Below w.heap.size w (((w.alloc o1).alloc o2).alloc o3) := (((Below.refl _ w).alloc (Nat.le_refl _) _).alloc (by simp) _).alloc (by simp; omega) _
end
set_option maxHeartbeats 400000 in
set_option maxRecDepth 100000 in
theorem both_gen (S T R : UInt8 → Bool) (hR : ∀ i, wd S i &&& wd T i = wd R i) (w : World) : Calls Tryd.prog 101 #[.agg (setV S), .agg (setV T)] w (Bel (.agg (setV R)) w) := by
 have hv := (zero_of_info (P := Tryd.prog) info61).1
 have hi := (zero_of_info (P := Tryd.prog) info61).2
 go_enter Tryd.func101, Tryd.ntmps101
 go_wp2
 go_loopw [6] (fun s6 wx => ∃ i : Nat, i ≤ 4 ∧ s6 = .int .i64 i ∧ wx.heap[w.heap.size]? = some (.cells (mixV S (R) i) 106 (0, 0)) ∧ wx.heap[w.heap.size + 1]? = some (.cells (setV T) 106 (0, 0)) ∧ wx.heap[w.heap.size + 2]? = some (.cells (Array.replicate 4 (.int .u64 0)) 106 (0, 0)) ∧ Below w.heap.size w wx) (fun s6 _ => 4 - (intOf s6).toNat)
 case atStart => exact ⟨0, by omega, rfl, box3_0 w _ _ _, box3_1 w _ _ _, box3_2 w _ _ _, box3_below w _ _ _⟩
 case round =>
  obtain ⟨i, hi4, rfl, h0, h1, h2, hbel⟩ := hrel
  have Hbel := Lib.hid hbel
  clear hbel
  by_cases hlt : i < 4
  ·have hlt' : (i : Int) < 4 := by omega
   have hc0 := cell_of_row wr w.heap.size i _ _ _ h0
   rw [mixV_at S (R) i hlt] at hc0
   have hc1 := cell_of_row wr (w.heap.size + 1) i _ _ _ h1
   rw [setV_get T i hlt] at hc1
   have hfz := frozen_of_row wr w.heap.size i _ _ h0
   have hset := mixV_succ S (R) i hlt
   have hbits := u64_and_nat (wd S i) (wd T i) (wd_lt S i) (wd_lt T i)
   rw [hR i] at hbits
   generalize wd S i = x at hc0 hbits
   generalize wd T i = y at hc1 hbits
   have Hset := Lib.hid hset
   have Hbits := Lib.hid hbits
   have H0 := Lib.hid h0
   have H1 := Lib.hid h1
   have H2 := Lib.hid h2
   clear hset hbits h0 h1 h2
   go_wp2
   go_region
   all_goals go_wp2
   rw [Hbits.out]
   refine ⟨⟨i + 1, by omega, rfl, ?_, ?_, ?_, ?_⟩, by simp [intOf]; omega⟩
   ·show (wr.setCell _ _).heap[_]? = _
    rw [block_setCell4 H0.out, Hset.out]
   ·show (wr.setCell _ _).heap[_]? = _
    rw [Below.heap_setCell _ _ _ _ (by simp)]
    exact H1.out
   ·show (wr.setCell _ _).heap[_]? = _
    rw [Below.heap_setCell _ _ _ _ (by simp)]
    exact H2.out
   ·exact ((Hbel.out.setCell (Nat.le_refl _) _).trans ⟨rfl, rfl, rfl, Nat.le_refl _, fun _ _ => rfl⟩)
  ·obtain rfl : i = 4 := by omega
   rw [mixV_four] at h0
   have hi' : (Tryd.prog.info? 106).map (·.size) = some (setV (R)).size := hi
   clear hv
   generalize (R) = R at *
   go_wp2_with (first
    | (refine wpList_load_row rfl 106 _ rfl w.heap.size rfl 106 _ _ _ h0 Tryd.underlying106 rfl hi' ?_)
    | (refine wpList_store_row rfl 106 _ _ rfl (w.heap.size + 2) (setV R) rfl rfl 106 _ h2 hi' (sizes4 R) (setV_one R) ?_))
   exact bodyPost_ret (v := .agg (setV R)) (results_cell_row rfl _ _ (w.heap.size + 2) 106 (setV R) _ _ rfl (setRow_heap wr (w.heap.size + 2) _ (setV R) 106 _ h2) Tryd.underlying106 rfl hi') rfl ⟨rfl, below_setRow Hbel.out (by omega) _⟩
theorem both_any (S T : UInt8 → Bool) (w : World) : Calls Tryd.prog 101 #[.agg (setV S), .agg (setV T)] w (Bel (.agg (setV (fun x => S x && T x))) w) := both_gen S T _ (wd_both S T) w
set_option maxHeartbeats 400000 in
set_option maxRecDepth 100000 in
theorem without_gen (S T R : UInt8 → Bool) (hR : ∀ i, wd S i &&& (18446744073709551615 - wd T i) = wd R i) (w : World) : Calls Tryd.prog 98 #[.agg (setV S), .agg (setV T)] w (Bel (.agg (setV R)) w) := by
 have hv := (zero_of_info (P := Tryd.prog) info61).1
 have hi := (zero_of_info (P := Tryd.prog) info61).2
 go_enter Tryd.func98, Tryd.ntmps98
 go_wp2
 go_loopw [6] (fun s6 wx => ∃ i : Nat, i ≤ 4 ∧ s6 = .int .i64 i ∧ wx.heap[w.heap.size]? = some (.cells (mixV S (R) i) 106 (0, 0)) ∧ wx.heap[w.heap.size + 1]? = some (.cells (setV T) 106 (0, 0)) ∧ wx.heap[w.heap.size + 2]? = some (.cells (Array.replicate 4 (.int .u64 0)) 106 (0, 0)) ∧ Below w.heap.size w wx) (fun s6 _ => 4 - (intOf s6).toNat)
 case atStart => exact ⟨0, by omega, rfl, box3_0 w _ _ _, box3_1 w _ _ _, box3_2 w _ _ _, box3_below w _ _ _⟩
 case round =>
  obtain ⟨i, hi4, rfl, h0, h1, h2, hbel⟩ := hrel
  have Hbel := Lib.hid hbel
  clear hbel
  by_cases hlt : i < 4
  ·have hlt' : (i : Int) < 4 := by omega
   have hc0 := cell_of_row wr w.heap.size i _ _ _ h0
   rw [mixV_at S (R) i hlt] at hc0
   have hc1 := cell_of_row wr (w.heap.size + 1) i _ _ _ h1
   rw [setV_get T i hlt] at hc1
   have hfz := frozen_of_row wr w.heap.size i _ _ h0
   have hset := mixV_succ S (R) i hlt
   have hbits := u64_andNot_nat (wd S i) (wd T i) (wd_lt S i) (wd_lt T i)
   rw [hR i] at hbits
   generalize wd S i = x at hc0 hbits
   generalize wd T i = y at hc1 hbits
   have Hset := Lib.hid hset
   have Hbits := Lib.hid hbits
   have H0 := Lib.hid h0
   have H1 := Lib.hid h1
   have H2 := Lib.hid h2
   clear hset hbits h0 h1 h2
   go_wp2
   go_region
   all_goals go_wp2
   rw [Hbits.out]
   refine ⟨⟨i + 1, by omega, rfl, ?_, ?_, ?_, ?_⟩, by simp [intOf]; omega⟩
   ·show (wr.setCell _ _).heap[_]? = _
    rw [block_setCell4 H0.out, Hset.out]
   ·show (wr.setCell _ _).heap[_]? = _
    rw [Below.heap_setCell _ _ _ _ (by simp)]
    exact H1.out
   ·show (wr.setCell _ _).heap[_]? = _
    rw [Below.heap_setCell _ _ _ _ (by simp)]
    exact H2.out
   ·exact ((Hbel.out.setCell (Nat.le_refl _) _).trans ⟨rfl, rfl, rfl, Nat.le_refl _, fun _ _ => rfl⟩)
  ·obtain rfl : i = 4 := by omega
   rw [mixV_four] at h0
   have hi' : (Tryd.prog.info? 106).map (·.size) = some (setV (R)).size := hi
   clear hv
   generalize (R) = R at *
   go_wp2_with (first
    | (refine wpList_load_row rfl 106 _ rfl w.heap.size rfl 106 _ _ _ h0 Tryd.underlying106 rfl hi' ?_)
    | (refine wpList_store_row rfl 106 _ _ rfl (w.heap.size + 2) (setV R) rfl rfl 106 _ h2 hi' (sizes4 R) (setV_one R) ?_))
   exact bodyPost_ret (v := .agg (setV R)) (results_cell_row rfl _ _ (w.heap.size + 2) 106 (setV R) _ _ rfl (setRow_heap wr (w.heap.size + 2) _ (setV R) 106 _ h2) Tryd.underlying106 rfl hi') rfl ⟨rfl, below_setRow Hbel.out (by omega) _⟩
theorem without_any (S T : UInt8 → Bool) (w : World) : Calls Tryd.prog 98 #[.agg (setV S), .agg (setV T)] w (Bel (.agg (setV (fun x => S x && !T x))) w) := without_gen S T _ (wd_without S T) w
end Go.Proofs.YtdlchlbngojljaaDoor.Gl
