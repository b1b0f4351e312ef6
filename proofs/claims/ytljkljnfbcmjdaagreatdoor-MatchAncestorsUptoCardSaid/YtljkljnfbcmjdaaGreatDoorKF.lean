/- Sets of bytes as four words of 64 bits. The contracts of the sets of bytes of package glob. The contracts of package glob's textBytes and least, and of TrailingZeros64. name.Text: the contract, as in the first stage. Rows of elements, and matches. Rows of bytes; beginning. -/
import Derived.Test.YtljkljnfbcmjdaaGreatDoorKP
import Derived.Test.YtljkljnfbcmjdaaGreatDoorRows
import Derived.WalkKit
import Derived.WalkSpells
import Derived.WalkLawsBesides
import Derived.Lib.Walk
import Derived.Lib.Strings
import Derived.Lib.IndexBytes
import Derived.Lib.AsciiSet
import Derived.Lib.Hide
import Derived.Laws.Strings3
import Derived.Laws.ResultCell
import Derived.Laws.CopyOwn
import Derived.Deep.LoopGhost
import Derived.Deep.WholeRow
import Derived.Deep.QuietTactic
import Derived.BigQuiet
import Derived.StillTailTactics
import Derived.Maps.AppendAt
import Derived.Laws.BytesString
import Derived.Laws.BytesArg
namespace Go.Proofs.YtljkljnfbcmjdaaGreatDoor.Gl
def bitsN : Nat → (Nat → Bool) → Nat
 | 0, _ => 0
 | n + 1, f => (f 0).toNat + 2 * bitsN n fun k => f (k + 1)
theorem bitsN_lt : ∀ n f, bitsN n f < 2 ^ n
 | 0, _ => by simp [bitsN]
 | n + 1, f => by
  have := bitsN_lt n fun k => f (k + 1)
  have h : (f 0).toNat ≤ 1 := Bool.toNat_le (f 0)
  rw [bitsN, Nat.pow_succ]
  omega
theorem testBit_bitsN : ∀ n f k, (bitsN n f).testBit k = (decide (k < n) && f k)
 | 0, f, k => by simp [bitsN]
 | n + 1, f, 0 => by
  rw [bitsN]
  cases h : f 0 <;> simp [Nat.testBit_zero, Nat.add_mod]
 | n + 1, f, k + 1 => by
  rw [bitsN, Nat.testBit_succ, show ((f 0).toNat + 2 * bitsN n fun k => f (k + 1)) / 2 = bitsN n fun k => f (k + 1) from by
   have h : (f 0).toNat ≤ 1 := Bool.toNat_le (f 0)
   omega]
  rw [testBit_bitsN n _ k]
  simp
/-- The word i of a set. -/
def wd (S : UInt8 → Bool) (i : Nat) : Nat := bitsN 64 fun k => S (UInt8.ofNat (64 * i + k))
theorem wd_lt (S : UInt8 → Bool) (i : Nat) : wd S i < 18446744073709551616 := bitsN_lt 64 _
theorem wd_bit (S : UInt8 → Bool) (i k : Nat) : (wd S i).testBit k = (decide (k < 64) && S (UInt8.ofNat (64 * i + k))) := testBit_bitsN 64 _ k
theorem wd_has (S : UInt8 → Bool) (c : UInt8) : (wd S (c.toNat / 64)).testBit (c.toNat % 64) = S c := by
 rw [wd_bit, decide_eq_true (Nat.mod_lt _ (by decide)), Nat.div_add_mod]
 simp
theorem wd_ext {S : UInt8 → Bool} {i n : Nat} (h : n < 2 ^ 64) (hb : ∀ k, k < 64 → n.testBit k = S (UInt8.ofNat (64 * i + k))) : n = wd S i := by
 apply Nat.eq_of_testBit_eq
 intro k
 rw [wd_bit]
 by_cases hk : k < 64
 ·rw [hb k hk, decide_eq_true hk, Bool.true_and]
 ·rw [decide_eq_false hk, Bool.false_and]
  exact Nat.testBit_lt_two_pow (Nat.lt_of_lt_of_le h (Nat.pow_le_pow_right (by decide) (by omega)))
theorem ofNat_inj8 {x y : Nat} (hx : x < 256) (hy : y < 256) (h : UInt8.ofNat x = UInt8.ofNat y) : x = y := by
 have := congrArg UInt8.toNat h
 simp at this
 omega
theorem wd_add (S : UInt8 → Bool) (b : Nat) (hb : b < 256) : wd S (b / 64) ||| 2 ^ (b % 64) = wd (fun x => S x || x == UInt8.ofNat b) (b / 64) := by
 refine wd_ext (Nat.or_lt_two_pow (wd_lt S _) (Nat.pow_lt_pow_right (by decide) (Nat.mod_lt _ (by decide)))) fun k hk => ?_
 rw [Nat.testBit_or, wd_bit, Nat.testBit_two_pow, decide_eq_true hk, Bool.true_and]
 congr 1
 rw [show (UInt8.ofNat (64 * (b / 64) + k) == UInt8.ofNat b) = decide (b % 64 = k) from ?_]
 rw [Bool.eq_iff_iff]
 simp only [beq_iff_eq, decide_eq_true_eq]
 constructor
 ·intro h
  have := ofNat_inj8 (by omega) hb h
  omega
 ·intro h
  congr 1
  omega
theorem wd_other (S : UInt8 → Bool) (b i : Nat) (hb : b < 256) (hi : i < 4) (h : i ≠ b / 64) : wd (fun x => S x || x == UInt8.ofNat b) i = wd S i := by
 refine wd_ext (wd_lt _ _) fun k hk => ?_
 rw [wd_bit, decide_eq_true hk, Bool.true_and]
 rw [show (UInt8.ofNat (64 * i + k) == UInt8.ofNat b) = false from ?_, Bool.or_false]
 rw [beq_eq_false_iff_ne]
 intro h'
 have := ofNat_inj8 (by omega) hb h'
 omega
theorem wd_without (S T : UInt8 → Bool) (i : Nat) : wd S i &&& (18446744073709551615 - wd T i) = wd (fun x => S x && !T x) i := by
 have hT := wd_lt T i
 refine wd_ext (Nat.and_lt_two_pow _ (by omega)) fun k hk => ?_
 rw [Nat.testBit_and, show 18446744073709551615 - wd T i = 2 ^ 64 - (wd T i + 1) from by omega, Nat.testBit_two_pow_sub_succ hT, wd_bit, wd_bit, decide_eq_true hk, Bool.true_and, Bool.true_and, Bool.true_and]
theorem wd_none : ∀ i, wd (fun _ => false) i = 0 := fun i => (wd_ext (S := fun _ => false) (n := 0) (by decide) (by simp)).symm
theorem wd_text0 : wd isText 0 = 18446744069414584320 := by decide +kernel
theorem wd_text1 : wd isText 1 = 9223372036854775807 := by decide +kernel
theorem wd_text2 : wd isText 2 = 0 := by decide +kernel
theorem wd_text3 : wd isText 3 = 0 := by decide +kernel
end Go.Proofs.YtljkljnfbcmjdaaGreatDoor.Gl
namespace Go.Proofs.YtljkljnfbcmjdaaGreatDoor.Gl
open Go.RowKit
/-- The set lies as four words from the cell o of the block b on. -/
def SetAt4 (w : World) (b o : Nat) (S : UInt8 → Bool) : Prop := ∀ i, i < 4 → w.cell? ⟨b, o + i, none⟩ = some (.int .u64 (wd S i))
theorem bit_int (x k : Nat) : ((((x : Int) / 2 ^ k).toNat &&& 1 : Nat) : Int) = if x.testBit k then 1 else 0 := by
 have h : ((x : Int) / 2 ^ k).toNat = x / 2 ^ k := by
  have : ((x : Int) / 2 ^ k) = ((x / 2 ^ k : Nat) : Int) := by simp
  rw [this, Int.toNat_natCast]
 rw [h, Nat.and_one_is_mod, Nat.testBit_eq_decide_div_mod_eq]
 have : x / 2 ^ k % 2 < 2 := Nat.mod_lt _ (by decide)
 by_cases h1 : x / 2 ^ k % 2 = 1
 ·simp [h1]
 ·have : x / 2 ^ k % 2 = 0 := by omega
  simp [this]
theorem u64_bit (x k : Nat) (hx : x < 18446744073709551616) : (bits .and .u64 ((x : Int) / 2 ^ k) 1 == 1) = x.testBit k := by
 have h0 : ((x : Int) / 2 ^ k) = ((x / 2 ^ k : Nat) : Int) := by simp
 have h1 : x / 2 ^ k ≤ x := Nat.div_le_self _ _
 have h := bit_int x k
 have h2 : (0 : Int) ≤ (x : Int) / 2 ^ k := by rw [h0]; exact Int.natCast_nonneg _
 have h3 : (x : Int) / 2 ^ k < 18446744073709551616 := by rw [h0]; omega
 rw [u64_and _ _ h2 h3 (by decide) (by decide)]
 rw [show (1 : Int).toNat = 1 from rfl, h]
 cases x.testBit k <;> rfl
set_option maxHeartbeats 400000 in
set_option maxRecDepth 100000 in
theorem has_any (b o : Nat) (S : UInt8 → Bool) (c : UInt8) (w : World) (hS : SetAt4 w b o S) :
  Calls Tryz.prog 106 #[.pointer (some ⟨b, o, none⟩), .int .u8 (c.toNat : Int)] w fun e w' => e = .returned (.bool (S c)) ∧ w' = w := by
 have hc := UInt8.toNat_lt c
 have hcell := hS (c.toNat / 64) (by omega)
 have hbit := wd_has S c
 have hw := wd_lt S (c.toNat / 64)
 generalize wd S (c.toNat / 64) = x at *
 have hci : (c.toNat : Int) < 256 := by omega
 have hxi : (x : Int) < 18446744073709551616 := by omega
 have hr64 : c.toNat % 64 < 64 := Nat.mod_lt _ (by decide)
 go_enter Tryz.func106, Tryz.ntmps106
 go_wp2
 go_ret
 refine ⟨?_, rfl⟩
 rw [u64_bit x _ hw, hbit]
 rfl
/-- The four cells of a set. -/
def setV (S : UInt8 → Bool) : Array Value := #[.int .u64 (wd S 0), .int .u64 (wd S 1), .int .u64 (wd S 2), .int .u64 (wd S 3)]
theorem setV_size (S : UInt8 → Bool) : (setV S).size = 4 := rfl
theorem sizes4 (S : UInt8 → Bool) : (Array.replicate 4 (Value.int .u64 0)).size = (setV S).size := by rw [Array.size_replicate, setV_size]
theorem setV_one (S : UInt8 → Bool) : (setV S).all (·.oneCell') = true := by simp [setV, Value.oneCell']
theorem setV_get (S : UInt8 → Bool) (i : Nat) (hi : i < 4) : (setV S)[i]? = some (.int .u64 (wd S i)) := by
 match i, hi with
 | 0, _ => rfl
 | 1, _ => rfl
 | 2, _ => rfl
 | 3, _ => rfl
theorem setAt4_of {w : World} {b : Nat} {S : UInt8 → Bool} {t : TypeId} {fr : Nat × Nat} (h : w.heap[b]? = some (.cells (setV S) t fr)) : SetAt4 w b 0 S := by
 intro i hi
 rw [Nat.zero_add, cell_of_row w b _ _ t fr h, setV_get S i hi]
theorem setV_add (S : UInt8 → Bool) (b : Nat) (hb : b < 256) : (setV S).setIfInBounds (b / 64) (.int .u64 ((wd S (b / 64) ||| 2 ^ (b % 64) : Nat) : Int)) = setV (fun x => S x || x == UInt8.ofNat b) := by
 have hi : b / 64 < 4 := by omega
 rw [wd_add S b hb]
 apply Array.ext_getElem?
 intro j
 rw [Array.getElem?_setIfInBounds]
 by_cases hj : j < 4
 ·rw [setV_get _ j hj]
  by_cases he : b / 64 = j
  ·subst he
   rw [if_pos rfl, if_pos (by rw [setV_size]; exact hi), setV_get _ _ hi]
  ·rw [if_neg he, setV_get _ j hj, wd_other S b j hb hj (fun h => he h.symm)]
 ·rw [if_neg (by omega), Array.getElem?_eq_none (by rw [setV_size]; omega), Array.getElem?_eq_none (by rw [setV_size]; omega)]
/-- S and the bytes from f on, k of them. -/
def addN (S : UInt8 → Bool) (f k : Nat) (x : UInt8) : Bool := S x || (decide (f ≤ x.toNat) && decide (x.toNat < f + k))
theorem addN_zero (S : UInt8 → Bool) (f : Nat) : addN S f 0 = S := by
 funext x
 unfold addN
 cases S x <;> simp
theorem addN_succ (S : UInt8 → Bool) (f k : Nat) (h : f + k < 256) : addN S f (k + 1) = fun x => addN S f k x || x == UInt8.ofNat (f + k) := by
 funext x
 have hx : (x == UInt8.ofNat (f + k)) = decide (x.toNat = f + k) := by
  rw [Bool.eq_iff_iff]
  simp only [beq_iff_eq, decide_eq_true_eq]
  constructor
  ·intro e; rw [e]; simp; omega
  ·intro e; apply UInt8.toNat_inj.1; rw [e]; simp; omega
 unfold addN
 rw [hx]
 cases S x with
 | true => rfl
 | false =>
  rw [Bool.eq_iff_iff]
  simp
  omega
theorem addN_range (S : UInt8 → Bool) (f l : UInt8) : addN S f.toNat (l.toNat + 1 - f.toNat) = fun x => S x || rangeB f l x := by
 funext x
 unfold addN rangeB
 cases S x with
 | true => rfl
 | false =>
  rw [Bool.eq_iff_iff]
  simp
  omega
theorem two_pow_cast (k : Nat) : ((2 : Int) ^ k) = ((2 ^ k : Nat) : Int) := by simp
theorem block_setCell4 {w : World} {g i : Nat} {cs : Array Value} {t : TypeId} {fr : Nat × Nat} (h : w.heap[g]? = some (.cells cs t fr)) (v : Value) : (w.setCell ⟨g, i, none⟩ v).heap[g]? = some (.cells (cs.setIfInBounds i v) t fr) := by
 simp only [World.setCell, Array.getElem?_modify, h]
 simp
def AddPost (b : Nat) (S : UInt8 → Bool) (w : World) (e : Ending) (w' : World) : Prop := e = .returned (.tuple #[]) ∧ w'.heap[b]? = some (.cells (setV S) 129 (0, 0)) ∧ Below b w w' ∧ w'.heap.size = w.heap.size
set_option maxHeartbeats 1000000 in
set_option maxRecDepth 100000 in
theorem add_any (b : Nat) (S : UInt8 → Bool) (f l : UInt8) (w : World) (hS : w.heap[b]? = some (.cells (setV S) 129 (0, 0))) :
  Calls Tryz.prog 120 #[.pointer (some ⟨b, 0, none⟩), .int .u8 (f.toNat : Int), .int .u8 (l.toNat : Int)] w (AddPost b (fun x => S x || rangeB f l x) w) := by
 have hf := UInt8.toNat_lt f
 have hl := UInt8.toNat_lt l
 rw [← addN_range]
 generalize f.toNat = F at *
 generalize l.toNat = L at *
 have hfi : (F : Int) < 256 := by omega
 have hli : (L : Int) < 256 := by omega
 go_enter Tryz.func120, Tryz.ntmps120
 go_wp2
 go_loopw [6] (fun s6 wx => ∃ j : Nat, F ≤ j ∧ (j ≤ L + 1 ∨ j = F) ∧ s6 = .int .i64 j ∧ wx.heap[b]? = some (.cells (setV (addN S F (j - F))) 129 (0, 0)) ∧ Below b w wx ∧ wx.heap.size = w.heap.size) (fun s6 _ => L + 1 - (intOf s6).toNat)
 case atStart => exact ⟨F, Nat.le_refl _, Or.inr rfl, rfl, by rw [Nat.sub_self, addN_zero]; exact hS, Below.refl _ _, rfl⟩
 case round =>
  obtain ⟨j, hFj, hjL, rfl, hcells, hbel, hsize⟩ := hrel
  by_cases hlt : (j : Int) ≤ (L : Int)
  ·have hj : F + (j - F) = j := by omega
   have hadd := addN_succ S F (j - F) (by omega)
   have hset := setV_add (addN S F (j - F)) j (by omega)
   rw [hj] at hadd
   rw [← hadd, show j - F + 1 = j + 1 - F from by omega] at hset
   have hq : j / 64 < 4 := by omega
   have hcell := setAt4_of hcells (j / 64) hq
   rw [Nat.zero_add] at hcell
   have hw := wd_lt (addN S F (j - F)) (j / 64)
   clear hadd hjL hj
   generalize wd (addN S F (j - F)) (j / 64) = x at hset hcell hw
   have hxi : (x : Int) < 18446744073709551616 := by omega
   have hq1 : (j : Int) / 64 < 4 := by omega
   have hq0 : 0 ≤ (j : Int) / 64 := by omega
   have hr1 : (j : Int) % 64 < 64 := by omega
   have hr0 : 0 ≤ (j : Int) % 64 := by omega
   have hfz := frozen_of_row wr b (j / 64) _ _ hcells
   have Hset := Lib.hid hset
   have Hcells := Lib.hid hcells
   have Hbel := Lib.hid hbel
   have Hsize := Lib.hid hsize
   clear hset hcells hbel hsize hS
   go_wp2
   go_region
   all_goals go_wp2
   have hor : bits BinOp.or IntKind.u64 (x : Int) (IntKind.u64.wrap (2 ^ (j % 64))) = ((x ||| 2 ^ (j % 64) : Nat) : Int) := by
    have hp : 2 ^ (j % 64) < 2 ^ 64 := Nat.pow_lt_pow_right (by decide) (Nat.mod_lt _ (by decide))
    have he : IntKind.u64.wrap (2 ^ (j % 64)) = ((2 ^ (j % 64) : Nat) : Int) := by
     rw [IntKind.wrap_u64, two_pow_cast]
     exact Int.emod_eq_of_lt (Int.natCast_nonneg _) (Int.ofNat_lt.2 hp)
    rw [he, u64_or_nat x _ hw (by omega)]
   rw [hor]
   refine ⟨⟨j + 1, by omega, by omega, rfl, ?_, ?_, ?_⟩, by simp [intOf]; omega⟩
   ·show (wr.setCell _ _).heap[b]? = _
    rw [block_setCell4 Hcells.out, Hset.out]
   ·exact ((Hbel.out.setCell (Nat.le_refl _) _).trans ⟨rfl, rfl, rfl, Nat.le_refl _, fun _ _ => rfl⟩)
   ·show (wr.setCell _ _).heap.size = _
    rw [World.size_setCell]
    exact Hsize.out
  ·obtain rfl | rfl : j = L + 1 ∨ j = F := by omega
   ·go_wp2
    go_end0
    exact ⟨rfl, hcells, hbel, hsize⟩
   ·go_wp2
    go_end0
    rw [Nat.sub_self] at hcells
    rw [show L + 1 - j = 0 from by omega]
    exact ⟨rfl, hcells, hbel, hsize⟩
/-- Word i of the walk: the first n words are B's, the rest A's. -/
def mixV (A B : UInt8 → Bool) (n : Nat) : Array Value := #[.int .u64 (wd (if 0 < n then B else A) 0), .int .u64 (wd (if 1 < n then B else A) 1), .int .u64 (wd (if 2 < n then B else A) 2), .int .u64 (wd (if 3 < n then B else A) 3)]
theorem mixV_four (A B : UInt8 → Bool) : mixV A B 4 = setV B := rfl
theorem mixV_succ (A B : UInt8 → Bool) (n : Nat) (hn : n < 4) : (mixV A B n).setIfInBounds n (.int .u64 (wd B n)) = mixV A B (n + 1) := by
 match n, hn with
 | 0, _ => rfl
 | 1, _ => rfl
 | 2, _ => rfl
 | 3, _ => rfl
theorem mixV_at (A B : UInt8 → Bool) (n : Nat) (hn : n < 4) : (mixV A B n)[n]? = some (.int .u64 (wd A n)) := by
 match n, hn with
 | 0, _ => rfl
 | 1, _ => rfl
 | 2, _ => rfl
 | 3, _ => rfl
def Bel (v : Value) (w : World) (e : Ending) (w' : World) : Prop := e = .returned v ∧ Below w.heap.size w w'
theorem info61 : (Tryz.prog.info? 129).map (fun i => (i.zero, i.size)) = some (some (.agg (Array.replicate 4 (.int .u64 0))), 4) := by kernel_rfl
section
variable (w : World) (o1 o2 o3 : Obj)
theorem box3_0 : (((w.alloc o1).alloc o2).alloc o3).heap[w.heap.size]? = some o1 := by
 rw [Below.heap_alloc _ _ _ (by simp; omega), Below.heap_alloc _ _ _ (by simp)]
 exact heap_alloc_last w o1
theorem box3_1 : (((w.alloc o1).alloc o2).alloc o3).heap[w.heap.size + 1]? = some o2 := by
 rw [Below.heap_alloc _ _ _ (by simp)]
 have := heap_alloc_last (w.alloc o1) o2
 rwa [show (w.alloc o1).heap.size = w.heap.size + 1 from by simp] at this
theorem box3_2 : (((w.alloc o1).alloc o2).alloc o3).heap[w.heap.size + 2]? = some o3 := by
 have := heap_alloc_last ((w.alloc o1).alloc o2) o3
 rwa [show ((w.alloc o1).alloc o2).heap.size = w.heap.size + 2 from by simp] at this
theorem box3_below : Below w.heap.size w (((w.alloc o1).alloc o2).alloc o3) := (((Below.refl _ w).alloc (Nat.le_refl _) _).alloc (by simp) _).alloc (by simp; omega) _
end
set_option maxHeartbeats 400000 in
set_option maxRecDepth 100000 in
theorem without_gen (S T R : UInt8 → Bool) (hR : ∀ i, wd S i &&& (18446744073709551615 - wd T i) = wd R i) (w : World) : Calls Tryz.prog 130 #[.agg (setV S), .agg (setV T)] w (Bel (.agg (setV R)) w) := by
 have hv := (zero_of_info (P := Tryz.prog) info61).1
 have hi := (zero_of_info (P := Tryz.prog) info61).2
 go_enter Tryz.func130, Tryz.ntmps130
 go_wp2
 go_loopw [6] (fun s6 wx => ∃ i : Nat, i ≤ 4 ∧ s6 = .int .i64 i ∧ wx.heap[w.heap.size]? = some (.cells (mixV S (R) i) 129 (0, 0)) ∧ wx.heap[w.heap.size + 1]? = some (.cells (setV T) 129 (0, 0)) ∧ wx.heap[w.heap.size + 2]? = some (.cells (Array.replicate 4 (.int .u64 0)) 129 (0, 0)) ∧ Below w.heap.size w wx) (fun s6 _ => 4 - (intOf s6).toNat)
 case atStart => exact ⟨0, by omega, rfl, box3_0 w _ _ _, box3_1 w _ _ _, box3_2 w _ _ _, box3_below w _ _ _⟩
 case round =>
  obtain ⟨i, hi4, rfl, h0, h1, h2, hbel⟩ := hrel
  have Hbel := Lib.hid hbel
  clear hbel
  by_cases hlt : i < 4
  ·have hlt' : (i : Int) < 4 := by omega
   have hc0 := cell_of_row wr w.heap.size i _ _ _ h0
   rw [mixV_at S (R) i hlt] at hc0
   have hc1 := cell_of_row wr (w.heap.size + 1) i _ _ _ h1
   rw [setV_get T i hlt] at hc1
   have hfz := frozen_of_row wr w.heap.size i _ _ h0
   have hset := mixV_succ S (R) i hlt
   have hbits := u64_andNot_nat (wd S i) (wd T i) (wd_lt S i) (wd_lt T i)
   rw [hR i] at hbits
   generalize wd S i = x at hc0 hbits
   generalize wd T i = y at hc1 hbits
   have Hset := Lib.hid hset
   have Hbits := Lib.hid hbits
   have H0 := Lib.hid h0
   have H1 := Lib.hid h1
   have H2 := Lib.hid h2
   clear hset hbits h0 h1 h2
   go_wp2
   go_region
   all_goals go_wp2
   rw [Hbits.out]
   refine ⟨⟨i + 1, by omega, rfl, ?_, ?_, ?_, ?_⟩, by simp [intOf]; omega⟩
   ·show (wr.setCell _ _).heap[_]? = _
    rw [block_setCell4 H0.out, Hset.out]
   ·show (wr.setCell _ _).heap[_]? = _
    rw [Below.heap_setCell _ _ _ _ (by simp)]
    exact H1.out
   ·show (wr.setCell _ _).heap[_]? = _
    rw [Below.heap_setCell _ _ _ _ (by simp)]
    exact H2.out
   ·exact ((Hbel.out.setCell (Nat.le_refl _) _).trans ⟨rfl, rfl, rfl, Nat.le_refl _, fun _ _ => rfl⟩)
  ·obtain rfl : i = 4 := by omega
   rw [mixV_four] at h0
   have hi' : (Tryz.prog.info? 129).map (·.size) = some (setV (R)).size := hi
   clear hv
   generalize (R) = R at *
   go_wp2_with (first
    | (refine wpList_load_row rfl 129 _ rfl w.heap.size rfl 129 _ _ _ h0 Tryz.underlying129 rfl hi' ?_)
    | (refine wpList_store_row rfl 129 _ _ rfl (w.heap.size + 2) (setV R) rfl rfl 129 _ h2 hi' (sizes4 R) (setV_one R) ?_))
   exact bodyPost_ret (v := .agg (setV R)) (results_cell_row rfl _ _ (w.heap.size + 2) 129 (setV R) _ _ rfl (setRow_heap wr (w.heap.size + 2) _ (setV R) 129 _ h2) Tryz.underlying129 rfl hi') rfl ⟨rfl, below_setRow Hbel.out (by omega) _⟩
theorem without_any (S T : UInt8 → Bool) (w : World) : Calls Tryz.prog 130 #[.agg (setV S), .agg (setV T)] w (Bel (.agg (setV (fun x => S x && !T x))) w) := without_gen S T _ (wd_without S T) w
end Go.Proofs.YtljkljnfbcmjdaaGreatDoor.Gl
namespace Go.Proofs.YtljkljnfbcmjdaaGreatDoor.Gl
open Go.RowKit
theorem textV : (setV isText) = #[.int .u64 18446744069414584320, .int .u64 9223372036854775807, .int .u64 0, .int .u64 0] := by
 unfold setV
 rw [wd_text0, wd_text1, wd_text2, wd_text3]
 rfl
set_option maxHeartbeats 400000 in
set_option maxRecDepth 100000 in
theorem textBytes_gen (R : UInt8 → Bool) (hR : setV R = #[.int .u64 18446744069414584320, .int .u64 9223372036854775807, .int .u64 0, .int .u64 0]) (w : World) : Calls Tryz.prog 118 #[] w (Bel (.agg (setV R)) w) := by
 have hv := (zero_of_info (P := Tryz.prog) info61).1
 have hi := (zero_of_info (P := Tryz.prog) info61).2
 have hi' : (Tryz.prog.info? 129).map (·.size) = some (setV R).size := hi
 go_enter Tryz.func118, Tryz.ntmps118
 go_wp2
 refine bodyPost_ret (v := .agg (setV R)) (results_cell_row rfl _ _ w.heap.size 129 (setV R) _ _ rfl (by rw [hR]; exact heap_alloc_last w _) Tryz.underlying129 rfl hi') rfl ⟨rfl, ?_⟩
 exact (Below.refl _ w).alloc (Nat.le_refl _) _
theorem textBytes_any (w : World) : Calls Tryz.prog 118 #[] w (Bel (.agg (setV isText)) w) := textBytes_gen isText textV w
end Go.Proofs.YtljkljnfbcmjdaaGreatDoor.Gl
namespace Go.Proofs.YtljkljnfbcmjdaaGreatDoor.Gl
open Go.RowKit
theorem info46 : (Tryz.prog.info? 147).map (fun i => (i.zero, i.size)) = some (some (.agg (Array.replicate 256 (.bool false))), 256) := by kernel_rfl
/-- All bytes of l stand in S. -/
def allIn (S l : List UInt8) : Bool := l.all fun c => S.contains c
theorem allIn_snoc (S l : List UInt8) (x : UInt8) : allIn S (l ++ [x]) = (allIn S l && S.contains x) := by simp [allIn]
theorem allIn_false (S l : List UInt8) (i : Nat) (x : UInt8) (h : l[i]? = some x) (hx : S.contains x = false) : allIn S l = false := by
 unfold allIn
 rw [List.all_eq_false]
 exact ⟨x, List.mem_of_getElem? h, by rw [hx]; exact Bool.false_ne_true⟩
def SetAt (w : World) (b : Nat) (S : List UInt8) : Prop := ∀ x : UInt8, w.cell? ⟨b, x.toNat, none⟩ = some (.bool (S.contains x))
def Draws (v : Value) (w : World) (e : Ending) (w' : World) : Prop := e = .returned v ∧ ∃ n, w' = w.drewN n
set_option maxHeartbeats 400000 in
set_option maxRecDepth 100000 in
theorem consists_any (s : ByteArray) (b : Nat) (S : List UInt8) (w : World) (hs : s.size ≤ 4611686018427387904) (hS : SetAt w b S) :
  Calls Tryz.prog 117 #[.string s, .pointer (some ⟨b, 0, none⟩)] w (Draws (.bool (allIn S s.data.toList)) w) := by
 go_enter Tryz.func117, Tryz.ntmps117
 go_wp2
 go_loopw [5, 8] (fun s5 s8 wx => ∃ i : Nat, i ≤ s.size ∧ s8 = .int .i64 i ∧ allIn S (s.data.toList.take i) = true ∧ ∃ n, wx = w.drewN n) (fun _ s8 _ => s.size - (intOf s8).toNat)
 case atStart => exact ⟨0, by omega, rfl, rfl, 0, rfl⟩
 case round =>
  obtain ⟨i, hi, rfl, hall, n, rfl⟩ := hrel
  have Hall := Lib.hid hall
  clear hall
  by_cases hlt : i < s.size
  ·have hiz : (i : Int) < (s.size : Int) := by omega
   obtain ⟨x, hx⟩ : ∃ x : UInt8, s[i]'hlt = x := ⟨_, rfl⟩
   have hxl : s.data.toList[i]? = some x := by rw [← hx]; exact Lib.data_getElem? s i hlt
   have hx256 : (x.toNat : Int) < 256 := by have := UInt8.toNat_lt x; omega
   have hcell := hS x
   have Hx := Lib.hid hxl
   clear hxl
   cases hc : S.contains x with
   | false =>
    rw [hc] at hcell
    have hf := allIn_false S s.data.toList i x Hx.out hc
    clear hc
    have Hf := Lib.hid hf
    clear hf
    go_wp2
    go_quiet (fail)
    go_wp2
    go_ret
    exact ⟨by rw [Hf.out]; rfl, n + nq, by rw [World.drewN_drewN]⟩
   | true =>
    rw [hc] at hcell
    have ht : allIn S (s.data.toList.take (i + 1)) = true := by
     rw [List.take_add_one, Hx.out]
     simp only [Option.toList]
     rw [allIn_snoc, Hall.out, hc]
     rfl
    clear hc
    have Ht := Lib.hid ht
    clear ht
    go_wp2
    go_quiet (fail)
    go_wp2
    exact ⟨⟨i + 1, by omega, by go_num, Ht.out, _, rfl⟩, by simp [intOf]; omega⟩
  ·go_wp2
   go_ret
   refine ⟨?_, _, rfl⟩
   have h : s.data.toList.take i = s.data.toList := List.take_of_length_le (by rw [← Lib.size_eq]; omega)
   rw [h] at Hall
   rw [Hall.out]
   rfl
theorem drewN_below {a w : World} {B : Nat} (h : Below B a w) (n : Nat) : Below B a (w.drewN n) := ⟨h.os, h.tape, h.output, h.size, h.block⟩
theorem heap_new_below {w W1 : World} {o : Obj} (hb : Below (w.alloc o).heap.size (w.alloc o) W1) : W1.heap[w.heap.size]? = some o :=
 (hb.block _ (by simp)).trans (heap_alloc_last w o)
theorem below_new {w W1 : World} {o : Obj} (hb : Below (w.alloc o).heap.size (w.alloc o) W1) : Below w.heap.size w W1 :=
 ((Below.refl _ w).alloc (Nat.le_refl _) o).trans (hb.mono (by simp))
theorem empty_form {s : ByteArray} (h : s.data.toList = []) : s.toList.isEmpty = true := by rw [Lib.toList_data, h]; rfl
theorem nonempty_form {s : ByteArray} (h : s.data.toList ≠ []) : s.toList.isEmpty = false := by
 rw [Lib.toList_data]
 cases hl : s.data.toList with
 | nil => exact absurd hl h
 | cons _ _ => rfl
theorem setAt_cells {w : World} {b : Nat} {S : List UInt8} {t : TypeId} {fr : Nat × Nat} (h : w.heap[b]? = some (.cells (Lib.setCells S) t fr)) : SetAt w b S := by
 intro x
 rw [cell_of_row w b _ _ t fr h, Lib.setCells_at]
theorem SetAt.below {w W : World} {b : Nat} {S : List UInt8} (h : SetAt w b S) {B : Nat} (hb : Below B w W) (hB : b < B) : SetAt W b S := fun x =>
 (hb.cell (p := ⟨b, x.toNat, none⟩) hB).trans (h x)
/-- A whole array stored into the block that was made last. -/
theorem wpList_store_new {P : Program} {ops : Array Oper} {rest : List Oper} {o : Oper} {a : Act} {Q : Exit → Act → World → Prop} (w : World) (t : TypeId) (c c' : Array Value) (hgd : o.guard = none) (x y : Operand) (ho : o.op = .store t x y)
  (hx : a.eval x = .pointer (some ⟨w.heap.size, 0, none⟩)) (hy : a.eval y = .agg c') (hi : (P.info? t).map (·.size) = some c'.size) (hc : c.size = c'.size) (h1 : c'.all (·.oneCell') = true)
  (h : wpList P ops Q rest (a.put o.dst undef) (w.alloc (.cells c' t))) : wpList P ops Q (o :: rest) a (w.alloc (.cells c t)) := by
 refine wpList_store_row hgd t x y ho w.heap.size c' hx hy t c (heap_alloc_last w _) hi hc h1 ?_
 rw [World.setRow_alloc_new]
 exact h
theorem sizes_ok (S : List UInt8) : (Array.replicate 256 (Value.bool false)).size = (Lib.setCells S).size := by rw [Lib.setCells_size, Array.size_replicate]
theorem forall_u8 {p : UInt8 → Bool} (h : (List.range 256).all (fun n => p (UInt8.ofNat n)) = true) (b : UInt8) : p b = true := by
 have := List.all_eq_true.1 h b.toNat (List.mem_range.2 (UInt8.toNat_lt b))
 simpa using this
def TextSet : List UInt8 := (List.range 95).map fun i => UInt8.ofNat (i + 32)
theorem textSet_len : TextSet.length = 95 := by simp [TextSet]
theorem textSet_get (i : Nat) (h : i < 95) : TextSet[i]? = some (UInt8.ofNat (i + 32)) := by simp [TextSet, h]
set_option maxHeartbeats 400000 in
set_option maxRecDepth 1000000 in
theorem nameTextBytes_any (w : World) : Calls Tryz.prog 116 #[] w (Bel (.agg (Lib.setCells TextSet)) w) := by
 have hv := (zero_of_info (P := Tryz.prog) info46).1
 have hi := (zero_of_info (P := Tryz.prog) info46).2
 go_enter Tryz.func116, Tryz.ntmps116
 go_wp2
 rw [← Lib.setCells_nil]
 go_loopg [2] 95 (fun g s2 wx => ∃ i : Nat, i + g = 95 ∧ s2 = .int .i64 ((i + 32 : Nat) : Int) ∧ wx = (w.alloc (.cells (Lib.setCells []) 147)).alloc (.cells (Lib.setCells (TextSet.take i)) 147))
 case atStart => exact ⟨0, by omega, rfl, rfl⟩
 case round =>
  obtain ⟨i, hig, rfl, rfl⟩ := hrel
  cases gk with
  | zero =>
   obtain rfl : i = 95 := by omega
   rw [show TextSet.take 95 = TextSet from List.take_of_length_le (by rw [textSet_len]; exact Nat.le_refl _)]
   have hsz := Lib.setCells_size TextSet
   have h1 := heap_alloc2_new w (.cells (Lib.setCells []) 147) (.cells (Lib.setCells TextSet) 147)
   have h0 := heap_alloc2_old w (.cells (Lib.setCells []) 147) (.cells (Lib.setCells TextSet) 147)
   have hb : Below w.heap.size w ((w.alloc (.cells (Lib.setCells []) 147)).alloc (.cells (Lib.setCells TextSet) 147)) := ((Below.refl _ w).alloc (Nat.le_refl _) _).alloc (by simp) _
   have hi' : (Tryz.prog.info? 147).map (·.size) = some (Lib.setCells TextSet).size := by rw [hsz]; exact hi
   generalize (w.alloc (.cells (Lib.setCells []) 147)).alloc (.cells (Lib.setCells TextSet) 147) = W at *
   go_wp2_with (first
    | (refine wpList_load_row rfl 147 _ rfl (w.heap.size + 1) rfl 147 _ _ _ h1 Tryz.underlying147 rfl hi' ?_)
    | (refine wpList_store_row rfl 147 _ _ rfl w.heap.size _ rfl rfl 147 _ h0 hi' (by rw [Lib.setCells_size, Lib.setCells_size]) (Lib.setCells_one _) ?_))
   refine bodyPost_ret (v := .agg (Lib.setCells TextSet)) (results_cell_row rfl _ _ w.heap.size 147 _ _ _ rfl (setRow_heap _ _ _ _ _ _ h0) Tryz.underlying147 rfl hi') rfl ⟨rfl, below_setRow hb (Nat.le_refl _) _⟩
  | succ g =>
   have hx : (UInt8.ofNat (i + 32)).toNat = i + 32 := by simp; omega
   have hlt : ((i + 32 : Nat) : Int) ≤ 126 := by omega
   have hlt2 : ((i + 32 : Nat) : Int) < 256 := by omega
   have hcell := Lib.setCells_at (TextSet.take i) (UInt8.ofNat (i + 32))
   rw [hx] at hcell
   have Hs := Lib.hid (Lib.setCells_snoc (TextSet.take i) (UInt8.ofNat (i + 32)))
   have Hx := Lib.hid hx
   clear hx
   go_wp2
   go_roundg g
   case measure => omega
   case rel => exact ⟨i + 1, by omega, congrArg (Value.int IntKind.i64) (by omega), by rw [List.take_add_one, textSet_get i (by omega)]; simp only [Option.toList]; rw [Hs.out, Hx.out]⟩
def textB (l : List UInt8) : Bool := decide (l.length ≤ 256) && allIn TextSet l
set_option maxHeartbeats 400000 in
set_option maxRecDepth 100000 in
theorem text_any (s : ByteArray) (w : World) (hs : s.size ≤ 4611686018427387904) :
  Calls Tryz.prog 103 #[.string s] w (Bel (.bool (textB s.data.toList)) w) := by
 have hv := (zero_of_info (P := Tryz.prog) info46).1
 have hi := (zero_of_info (P := Tryz.prog) info46).2
 have hi' : (Tryz.prog.info? 147).map (·.size) = some (Lib.setCells TextSet).size := by rw [Lib.setCells_size]; exact hi
 have Hi := Lib.hid hi'
 clear hi'
 have hsz := Lib.size_eq s
 have hk : textB s.data.toList = (decide (s.size ≤ 256) && allIn TextSet s.data.toList) := by unfold textB; rw [← hsz]
 clear hsz
 by_cases h : (s.size : Int) ≤ 256
 ·rw [decide_eq_true (by omega)] at hk
  have Hk := Lib.hid hk
  clear hk
  go_enter Tryz.func103, Tryz.ntmps103
  go_wp2_with fail
  refine (nameTextBytes_any _).mono ?_
  rintro e W1 ⟨rfl, hb⟩
  have Hn := Lib.hid (consists_any s W1.heap.size TextSet (W1.alloc (.cells (Lib.setCells TextSet) 147)) hs (setAt_cells (heap_alloc_last W1 _)))
  go_wp2_with (first
   | (refine wpList_store_new W1 147 _ (Lib.setCells TextSet) rfl _ _ rfl rfl rfl Hi.out (sizes_ok _) (Lib.setCells_one _) ?_)
   | (go_at_call 117; refine Hn.out.mono ?_; rintro e w' ⟨rfl, n, rfl⟩))
  go_ret
  exact ⟨by rw [Hk.out]; rfl, drewN_below (hb.alloc hb.size _) n⟩
 ·rw [decide_eq_false (by omega)] at hk
  have Hk := Lib.hid hk
  clear hk
  go_enter Tryz.func103, Tryz.ntmps103
  go_wp2_with fail
  refine (nameTextBytes_any _).mono ?_
  rintro e W1 ⟨rfl, hb⟩
  go_wp2_with (refine wpList_store_new W1 147 _ (Lib.setCells TextSet) rfl _ _ rfl rfl rfl Hi.out (sizes_ok _) (Lib.setCells_one _) ?_)
  go_ret
  exact ⟨by rw [Hk.out]; rfl, hb.alloc hb.size _⟩
end Go.Proofs.YtljkljnfbcmjdaaGreatDoor.Gl
namespace Go.Proofs.YtljkljnfbcmjdaaGreatDoor.Gl
open Go.RowKit
/-- The elements l lie in the block g, one behind the other. -/
def ElsAt (w : World) (g : Nat) (l : List El) : Prop := ∀ i e, l[i]? = some e → SetAt4 w g (i * 6) e.set ∧ w.cell? ⟨g, i * 6 + 4, none⟩ = some (.bool e.star) ∧ w.cell? ⟨g, i * 6 + 5, none⟩ = some (.bool e.self)
def stV : Option Nat → Int
 | none => -1
 | some k => k
/-- Nothing but draws lies between two worlds. -/
def Dr (w w' : World) : Prop := ∃ n, w' = w.drewN n
theorem Dr.refl (w : World) : Dr w w := ⟨0, rfl⟩
theorem Dr.drewN {w w' : World} (h : Dr w w') (k : Nat) : Dr w (w'.drewN k) := by
 obtain ⟨n, rfl⟩ := h
 exact ⟨n + k, by rw [World.drewN_drewN]⟩
theorem Dr.els {w w' : World} (h : Dr w w') {g : Nat} {l : List El} (hE : ElsAt w g l) : ElsAt w' g l := by
 obtain ⟨n, rfl⟩ := h
 exact hE
def Drw (v : Value) (w : World) (e : Ending) (w' : World) : Prop := e = .returned v ∧ Dr w w'
def measN (L N st pos read kept : Nat) : Nat := ((L - st) * (N + 1) + (N - kept)) * (L + N + 1) + (L - pos + (N - read))
def meas (L N : Nat) (s5 s6 s7 s8 : Value) : Nat := measN L N (intOf s6 + 1).toNat (intOf s5).toNat (intOf s7).toNat (intOf s8).toNat
theorem meas_at (L N pos read kept : Nat) (st : Option Nat) : meas L N (.int .i64 pos) (.int .i64 (stV st)) (.int .i64 read) (.int .i64 kept) = measN L N (stV st + 1).toNat pos read kept := by simp [meas, intOf]
theorem lex_top {X' X M C' C : Nat} (h : X' < X) (hc : C' ≤ M) : X' * (M + 1) + C' < X * (M + 1) + C := by
 have h1 : (X' + 1) * (M + 1) ≤ X * (M + 1) := Nat.mul_le_mul_right _ h
 rw [Nat.add_mul] at h1
 omega
theorem meas_star {L N st st' pos pos' read read' kept kept' : Nat} (h : st < st') (h' : st' ≤ L) : measN L N st' pos' read' kept' < measN L N st pos read kept :=
 lex_top (lex_top (by omega) (by omega)) (by omega)
theorem meas_kept {L N st pos pos' read read' kept kept' : Nat} (h : kept < kept') (h' : kept' ≤ N) : measN L N st pos' read' kept' < measN L N st pos read kept :=
 lex_top (by omega) (by omega)
theorem meas_byte {L N st pos pos' read read' kept : Nat} (h : pos < pos') (h' : pos' ≤ L) (hr : read ≤ read') : measN L N st pos' read' kept < measN L N st pos read kept := by
 unfold measN
 omega
theorem meas_onStar {l : List El} {t : List UInt8} {pos read kept : Nat} {st : Option Nat} {L N : Nat} (h : MInv l t pos st read kept) (hp : pos < L) : meas L N (.int .i64 ((pos : Int) + 1)) (.int .i64 (pos : Int)) (.int .i64 read) (.int .i64 read) < meas L N (.int .i64 pos) (.int .i64 (stV st)) (.int .i64 read) (.int .i64 kept) := by
 have e : meas L N (.int .i64 ((pos : Int) + 1)) (.int .i64 (pos : Int)) (.int .i64 read) (.int .i64 read) = measN L N (pos + 1) (pos + 1) read read := by simp only [meas, intOf]; congr 1
 rw [e, meas_at]
 refine meas_star ?_ hp
 cases st with
 | none => simp [stV]
 | some k => have := (h.star k rfl).1; simp [stV]; omega
theorem meas_onByte {pos read kept : Nat} {st : Option Nat} {L N : Nat} (hp : pos < L) : meas L N (.int .i64 ((pos : Int) + 1)) (.int .i64 (stV st)) (.int .i64 ((read : Int) + 1)) (.int .i64 kept) < meas L N (.int .i64 pos) (.int .i64 (stV st)) (.int .i64 read) (.int .i64 kept) := by
 have e := meas_at L N (pos + 1) (read + 1) kept st
 rw [Int.natCast_add, Int.natCast_add] at e
 rw [show ((pos : Int) + 1) = ((pos : Int) + ((1 : Nat) : Int)) from rfl, show ((read : Int) + 1) = ((read : Int) + ((1 : Nat) : Int)) from rfl, e, meas_at]
 exact meas_byte (Nat.lt_succ_self _) hp (Nat.le_succ _)
theorem meas_onBack {pos read kept k : Nat} {L N : Nat} (hp : kept < N) : meas L N (.int .i64 ((k : Int) + 1)) (.int .i64 (k : Int)) (.int .i64 ((kept : Int) + 1)) (.int .i64 ((kept : Int) + 1)) < meas L N (.int .i64 pos) (.int .i64 (k : Int)) (.int .i64 read) (.int .i64 kept) := by
 have e := meas_at L N (k + 1) (kept + 1) (kept + 1) (some k)
 rw [Int.natCast_add, Int.natCast_add] at e
 have e2 := meas_at L N pos read kept (some k)
 rw [show ((k : Int) + 1) = ((k : Int) + ((1 : Nat) : Int)) from rfl, show ((kept : Int) + 1) = ((kept : Int) + ((1 : Nat) : Int)) from rfl]
 show meas L N _ (.int .i64 (stV (some k))) _ _ < meas L N _ (.int .i64 (stV (some k))) _ _
 rw [e, e2]
 exact meas_kept (Nat.lt_succ_self _) hp
set_option maxHeartbeats 400000 in
set_option maxRecDepth 100000 in
theorem matches_any (a : Option Addr) (cap g : Nat) (l : List El) (s : ByteArray) (w : World) (hok : ∀ e ∈ l, e.ok) (ha : 0 < l.length → a = some ⟨g, 0, none⟩) (hE : ElsAt w g l) (hl : l.length ≤ 4096) (hs : s.size ≤ 4611686018427387904) :
  Calls Tryz.prog 90 #[.slice a l.length cap, .string s] w (Drw (.bool (mB l s.data.toList)) w) := by
 obtain ⟨L, hL⟩ : ∃ L, l.length = L := ⟨_, rfl⟩
 have hsz := Lib.size_eq s
 obtain ⟨t, ht⟩ : ∃ t, s.data.toList = t := ⟨_, rfl⟩
 have hget : ∀ i (hi : i < s.size), t[i]? = some s[i] := fun i hi => by rw [← ht]; exact Lib.data_getElem? s i hi
 have Hok := Lib.hid hok
 have HE := Lib.hid hE
 have Hget := Lib.hid hget
 have HL := Lib.hid hL
 have hLs : (L : Int) ≤ 4096 := by omega
 rw [hL] at ha ⊢
 rw [ht] at hsz ⊢
 have Ha := Lib.hid ha
 have Hsz := Lib.hid hsz
 have hss : (s.size : Int) ≤ 4611686018427387904 := by omega
 clear hok hE hget hL ht hl ha hsz
 go_enter Tryz.func90, Tryz.ntmps90
 go_wp2
 go_loopw [5, 6, 7, 8] (fun s5 s6 s7 s8 wx => ∃ (pos : Nat) (st : Option Nat) (read kept : Nat), s5 = .int .i64 pos ∧ s6 = .int .i64 (stV st) ∧ s7 = .int .i64 read ∧ s8 = .int .i64 kept ∧ MInv l t pos st read kept ∧ Dr w wx) (fun s5 s6 s7 s8 _ => meas L s.size s5 s6 s7 s8)
 case atStart => exact ⟨0, none, 0, 0, rfl, rfl, rfl, rfl, MInv.start l t, Dr.refl w⟩
 case round =>
  obtain ⟨pos, st, read, kept, rfl, rfl, rfl, rfl, hinv, hdr⟩ := hrel
  have Hdr := Lib.hid hdr
  clear hdr
  by_cases hread : (read : Int) < (s.size : Int)
  ·have hc := Hget.out read (by omega)
   have hrd : read < s.size := by omega
   obtain ⟨x, hx⟩ : ∃ x, s[read]'hrd = x := ⟨_, rfl⟩
   rw [hx] at hc
   by_cases hpos : (pos : Int) < (L : Int)
   ·have hposL : pos < l.length := by rw [HL.out]; omega
    obtain ⟨e, he⟩ : ∃ e, l[pos]? = some e := ⟨l[pos], List.getElem?_eq_getElem hposL⟩
    obtain rfl := Ha.out (by omega)
    obtain ⟨hset, hstar, _⟩ := Hdr.out.els HE.out pos e he
    cases hes : e.star with
    | true =>
     rw [hes] at hstar
     have Hnext := Lib.hid (hinv.onStar Hok.out he hes)
     have Hm := Lib.hid (meas_onStar (L := L) (N := s.size) hinv (by omega))
     clear hinv hset hc
     go_wp2
     exact ⟨⟨pos + 1, some pos, read, read, rfl, rfl, rfl, rfl, Hnext.out, Hdr.out⟩, Hm.out⟩
    | false =>
     rw [hes] at hstar
     have Hhas := Lib.hid (fun W h => has_any g (pos * 6) e.set x W h)
     have Hset := Lib.hid hset
     clear hset
     cases hex : e.set x with
     | true =>
      have Hnext := Lib.hid (hinv.onByte he hes hc hex)
      have Hm := Lib.hid (meas_onByte (read := read) (kept := kept) (st := st) (N := s.size) (show pos < L by omega))
      rw [hex] at Hhas
      clear hinv hc hex hes
      go_wp2
      go_quiet (first | (go_at_call 106; exact Calls.quiet_of_same (Hhas.out _ Hset.out)))
      go_wp2
      exact ⟨⟨pos + 1, st, read + 1, kept, rfl, rfl, rfl, rfl, Hnext.out, Hdr.out.drewN nq⟩, Hm.out⟩
     | false =>
      have hstuck : stuckAt l t pos read := Or.inr ⟨e, x, he, hes, hc, hex⟩
      rw [hex] at Hhas
      cases st with
      | none =>
       have Hv := Lib.hid (hinv.onFail hc hstuck (Or.inl rfl))
       have hst : stV none = -1 := rfl
       rw [hst]
       clear hinv hc hex hes hstuck
       go_wp2
       go_quiet (first | (go_at_call 106; exact Calls.quiet_of_same (Hhas.out _ Hset.out)))
       obtain ⟨w2, hw2⟩ : ∃ w2, wr.drewN nq = w2 := ⟨_, rfl⟩
       have Hdr2 := Lib.hid (Hdr.out.drewN nq)
       rw [hw2] at Hdr2 ⊢
       clear hw2
       go_wp2
       go_quiet (first | (go_at_call 106; exact Calls.quiet_of_same (Hhas.out _ Hset.out)))
       go_wp2
       go_ret
       exact ⟨by rw [Hv.out]; rfl, Hdr2.out.drewN _⟩
      | some k =>
       obtain ⟨hkp, ⟨f, hf, hfs⟩, _, hrk⟩ := hinv.star k rfl
       have hkr : kept < s.size := by have := hinv.kept_le; omega
       have hd := Hget.out kept hkr
       obtain ⟨y, hy⟩ : ∃ y, s[kept]'hkr = y := ⟨_, rfl⟩
       rw [hy] at hd
       have hstV : stV (some k) = (k : Int) := rfl
       rw [hstV]
       have hkL : (k : Int) < (L : Int) := by omega
       have hkri : (kept : Int) < (s.size : Int) := by omega
       have Hhas2 := Lib.hid (fun W h => has_any g (k * 6) f.set y W h)
       cases hfy : f.set y with
       | true =>
        rw [hfy] at Hhas2
        have Hnext := Lib.hid (hinv.onBack hc hstuck hf hd hfy)
        have Hm := Lib.hid (meas_onBack (pos := pos) (read := read) (k := k) (L := L) hkr)
        clear hinv hc hex hes hstuck hd hrk hfs
        go_wp2
        go_quiet (first | (go_at_call 106; exact Calls.quiet_of_same (Hhas.out _ Hset.out)))
        obtain ⟨w2, hw2⟩ : ∃ w2, wr.drewN nq = w2 := ⟨_, rfl⟩
        have Hdr2 := Lib.hid (Hdr.out.drewN nq)
        rw [hw2] at Hdr2 ⊢
        have Hset2 := Lib.hid (Hdr2.out.els HE.out k f hf).1
        clear hw2
        go_wp2
        go_quiet (first | (go_at_call 106; exact Calls.quiet_of_same (Hhas2.out _ Hset2.out)))
        go_wp2
        exact ⟨⟨k + 1, some k, kept + 1, kept + 1, rfl, rfl, rfl, rfl, Hnext.out, Hdr2.out.drewN _⟩, Hm.out⟩
       | false =>
        rw [hfy] at Hhas2
        have Hv := Lib.hid (hinv.onFail hc hstuck (Or.inr ⟨k, f, y, rfl, hf, hd, hfy⟩))
        clear hinv hc hex hes hstuck hd hrk hfs
        go_wp2
        go_quiet (first | (go_at_call 106; exact Calls.quiet_of_same (Hhas.out _ Hset.out)))
        obtain ⟨w2, hw2⟩ : ∃ w2, wr.drewN nq = w2 := ⟨_, rfl⟩
        have Hdr2 := Lib.hid (Hdr.out.drewN nq)
        rw [hw2] at Hdr2 ⊢
        have Hset2 := Lib.hid (Hdr2.out.els HE.out k f hf).1
        clear hw2
        go_wp2
        go_quiet (first | (go_at_call 106; exact Calls.quiet_of_same (Hhas2.out _ Hset2.out)))
        go_wp2
        go_ret
        exact ⟨by rw [Hv.out]; rfl, Hdr2.out.drewN _⟩
   ·have hstuck : stuckAt l t pos read := Or.inl (List.getElem?_eq_none (by rw [HL.out]; omega))
    cases st with
    | none =>
     have Hv := Lib.hid (hinv.onFail hc hstuck (Or.inl rfl))
     have hst : stV none = -1 := rfl
     rw [hst]
     clear hinv hc hstuck
     go_wp2
     have hpd : decide (pos < L) = false := decide_eq_false (by omega)
     go_quiet (fail)
     obtain ⟨w2, hw2⟩ : ∃ w2, wr.drewN nq = w2 := ⟨_, rfl⟩
     have Hdr2 := Lib.hid (Hdr.out.drewN nq)
     rw [hw2] at Hdr2 ⊢
     clear hw2
     go_wp2
     go_quiet (fail)
     go_wp2
     go_ret
     exact ⟨by rw [Hv.out]; rfl, Hdr2.out.drewN _⟩
    | some k =>
     obtain ⟨hkp, ⟨f, hf, hfs⟩, _, hrk⟩ := hinv.star k rfl
     have hkr : kept < s.size := by have := hinv.kept_le; omega
     have hd := Hget.out kept hkr
     obtain ⟨y, hy⟩ : ∃ y, s[kept]'hkr = y := ⟨_, rfl⟩
     rw [hy] at hd
     have hstV : stV (some k) = (k : Int) := rfl
     rw [hstV]
     have hkl := (List.getElem?_eq_some_iff.1 hf).1
     rw [HL.out] at hkl
     obtain rfl := Ha.out (by omega)
     have hkL : (k : Int) < (L : Int) := by omega
     have hkri : (kept : Int) < (s.size : Int) := by omega
     have Hhas2 := Lib.hid (fun W h => has_any g (k * 6) f.set y W h)
     cases hfy : f.set y with
     | true =>
      rw [hfy] at Hhas2
      have Hnext := Lib.hid (hinv.onBack hc hstuck hf hd hfy)
      have Hm := Lib.hid (meas_onBack (pos := pos) (read := read) (k := k) (L := L) hkr)
      clear hinv hc hstuck hd hrk hfs
      go_wp2
      have hpd : decide (pos < L) = false := decide_eq_false (by omega)
      go_quiet (fail)
      obtain ⟨w2, hw2⟩ : ∃ w2, wr.drewN nq = w2 := ⟨_, rfl⟩
      have Hdr2 := Lib.hid (Hdr.out.drewN nq)
      rw [hw2] at Hdr2 ⊢
      have Hset2 := Lib.hid (Hdr2.out.els HE.out k f hf).1
      clear hw2
      go_wp2
      go_quiet (first | (go_at_call 106; exact Calls.quiet_of_same (Hhas2.out _ Hset2.out)))
      go_wp2
      exact ⟨⟨k + 1, some k, kept + 1, kept + 1, rfl, rfl, rfl, rfl, Hnext.out, Hdr2.out.drewN _⟩, Hm.out⟩
     | false =>
      rw [hfy] at Hhas2
      have Hv := Lib.hid (hinv.onFail hc hstuck (Or.inr ⟨k, f, y, rfl, hf, hd, hfy⟩))
      clear hinv hc hstuck hd hrk hfs
      go_wp2
      have hpd : decide (pos < L) = false := decide_eq_false (by omega)
      go_quiet (fail)
      obtain ⟨w2, hw2⟩ : ∃ w2, wr.drewN nq = w2 := ⟨_, rfl⟩
      have Hdr2 := Lib.hid (Hdr.out.drewN nq)
      rw [hw2] at Hdr2 ⊢
      have Hset2 := Lib.hid (Hdr2.out.els HE.out k f hf).1
      clear hw2
      go_wp2
      go_quiet (first | (go_at_call 106; exact Calls.quiet_of_same (Hhas2.out _ Hset2.out)))
      go_wp2
      go_ret
      exact ⟨by rw [Hv.out]; rfl, Hdr2.out.drewN _⟩
  ·have hrs : read = s.size := by have := hinv.read_le; have := Hsz.out; omega
   have hend : mB l t = mB (l.drop pos) [] := by
    rw [hrs, Hsz.out] at hinv
    exact hinv.onEnd
   have hpl : pos ≤ L := by rw [← HL.out]; exact hinv.pos_le
   have Hend := Lib.hid hend
   clear hinv hend
   go_wp2
   go_loop [5] (fun s5 => ∃ p : Nat, p ≤ L ∧ s5 = .int .i64 p ∧ mB l t = mB (l.drop p) []) (fun s5 => L - (intOf s5).toNat)
   case atStart => exact ⟨pos, hpl, rfl, Hend.out⟩
   case round =>
    obtain ⟨p, hp, rfl, hm⟩ := hrel
    have Hm := Lib.hid hm
    clear hm
    by_cases hlt : (p : Int) < (L : Int)
    ·have hpL : p < l.length := by rw [HL.out]; omega
     obtain ⟨e, he⟩ : ∃ e, l[p]? = some e := ⟨l[p], List.getElem?_eq_getElem hpL⟩
     obtain rfl := Ha.out (by omega)
     obtain ⟨_, hstar, _⟩ := Hdr.out.els HE.out p e he
     cases hes : e.star with
     | true =>
      rw [hes] at hstar
      have Hn := Lib.hid (mB_end_star he hes)
      go_wp2
      go_round
      case rel => exact ⟨p + 1, by omega, rfl, by rw [Hm.out, Hn.out]⟩
      case measure => simp [intOf]; omega
     | false =>
      rw [hes] at hstar
      have hv : mB l t = false := by rw [Hm.out]; exact mB_end_one he hes
      have Hv := Lib.hid hv
      have hne : ((p : Int) == (L : Int)) = false := by rw [beq_eq_false_iff_ne]; omega
      clear hv
      go_wp2
      go_ret
      exact ⟨by rw [Hv.out]; rfl, Hdr.out⟩
    ·obtain rfl : p = L := by omega
     have hv : mB l t = true := by rw [Hm.out, ← HL.out]; exact mB_end
     have Hv := Lib.hid hv
     clear hv
     go_wp2
     go_ret
     exact ⟨by rw [Hv.out]; rfl, Hdr.out⟩
end Go.Proofs.YtljkljnfbcmjdaaGreatDoor.Gl
namespace Go.Proofs.YtljkljnfbcmjdaaGreatDoor.Gl
open Go.RowKit
theorem ownsRow_below {w w' : World} {B : Nat} {t : TypeId} {k n : Nat} {v : Value} {xs : List Value} (h : w.ownsRow B t k v n xs) (hb : Below w.heap.size w w') : w'.ownsRow B t k v n xs := by
 refine ⟨h.1, ?_⟩
 rcases h.2 with h1 | ⟨g, cap, cur, hv, hB, hg, rest⟩
 ·exact Or.inl h1
 ·refine Or.inr ⟨g, cap, cur, hv, hB, ?_, rest⟩
  rw [hb.block g, hg]
  exact (Array.getElem?_eq_some_iff.1 hg).1
end Go.Proofs.YtljkljnfbcmjdaaGreatDoor.Gl
