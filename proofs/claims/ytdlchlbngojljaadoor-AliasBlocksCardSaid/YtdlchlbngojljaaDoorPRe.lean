/- The reference's set. The reference's set, whole; its rows of elements. The reference's Parse. -/
import Derived.Test.YtdlchlbngojljaaDoorPRa
import Derived.Great.BuildSlice
import Derived.OrdersHeld
import Derived.Deep.DeepCutAuto
import Derived.Deep.CutBlock
import Derived.Deep.RegionHeld
namespace Go.Proofs.YtdlchlbngojljaaDoor.Gl
open Go.RowKit
theorem info66 : (Tryd.prog.info? 137).map (fun i => (i.zero, i.size)) = some (some (.agg (Array.replicate 128 (.bool false))), 128) := by kernel_rfl
theorem zero128 : Array.replicate 128 (Value.bool false) = boolRow fun _ => false := by
 apply Array.ext_getElem?
 intro i
 by_cases hi : i < 128
 ·rw [boolRow_get _ i hi]
  simp [hi]
 ·rw [Array.getElem?_eq_none (by simp; omega), Array.getElem?_eq_none (by rw [boolRow_size]; omega)]
/-- An element's row: star, literal, the set. -/
def elRow (st li : Bool) (S : UInt8 → Bool) : Array Value := #[.bool st, .bool li] ++ boolRow S
theorem elRow_size (st li : Bool) (S : UInt8 → Bool) : (elRow st li S).size = 130 := by simp [elRow, boolRow_size]
theorem low_none (S : UInt8 → Bool) (N : Bool) : (fun x : UInt8 => decide (32 ≤ x.toNat) && decide (x.toNat < 32) && (S x != N)) = fun _ => false := by
 funext x
 have : (decide (32 ≤ x.toNat) && decide (x.toNat < 32)) = false := by
  rw [Bool.and_eq_false_iff, decide_eq_false_iff_not, decide_eq_false_iff_not]
  omega
 rw [this, Bool.false_and]
theorem low_succ (S : UInt8 → Bool) (N : Bool) (c : Nat) (h : 32 ≤ c) (h2 : c < 128) : (fun x : UInt8 => if x = UInt8.ofNat c then (S (UInt8.ofNat c) != N) else decide (32 ≤ x.toNat) && decide (x.toNat < c) && (S x != N)) = fun x : UInt8 => decide (32 ≤ x.toNat) && decide (x.toNat < c + 1) && (S x != N) := by
 funext x
 by_cases hx : x = UInt8.ofNat c
 ·have hn : x.toNat = c := by rw [hx]; simp; omega
  rw [if_pos hx, ← hx, decide_eq_true (by omega : 32 ≤ x.toNat), decide_eq_true (by omega : x.toNat < c + 1)]
  rfl
 ·have hn : x.toNat ≠ c := fun e => hx (UInt8.toNat_inj.1 (by rw [e]; simp; omega))
  rw [if_neg hx]
  congr 2
  rw [decide_eq_decide]
  omega
theorem boolRow_put (S : UInt8 → Bool) (c : Nat) (b : Bool) (h : c < 128) : (boolRow S).setIfInBounds c (.bool b) = boolRow (fun x => if x = UInt8.ofNat c then b else S x) := by
 apply Array.ext_getElem?
 intro i
 rw [Array.getElem?_setIfInBounds]
 by_cases hi : i < 128
 ·rw [boolRow_get (fun x => if x = UInt8.ofNat c then b else S x) i hi]
  by_cases hc : c = i
  ·subst hc
   rw [if_pos rfl, if_pos (by rw [boolRow_size]; exact h), if_pos rfl]
  ·rw [if_neg hc, boolRow_get _ i hi, if_neg]
   intro e
   have := congrArg UInt8.toNat e
   simp at this
   omega
 ·have hn : ∀ T : UInt8 → Bool, (boolRow T)[i]? = none := fun T => Array.getElem?_eq_none (by rw [boolRow_size]; omega)
  rw [hn, if_neg (by omega), hn]
theorem elRow_put (st li : Bool) (S : UInt8 → Bool) (c : Nat) (b : Bool) (h : c < 128) : (elRow st li S).setIfInBounds (2 + c) (.bool b) = elRow st li (fun x => if x = UInt8.ofNat c then b else S x) := by
 unfold elRow
 rw [Array.setIfInBounds_append_right (by simp), ← boolRow_put S c b h]
 congr 2
 simp
theorem elRow_get (st li : Bool) (S : UInt8 → Bool) (c : Nat) (h : c < 128) : (elRow st li S)[2 + c]? = some (.bool (S (UInt8.ofNat c))) := by
 unfold elRow
 rw [Array.getElem?_append_right (by simp), ← boolRow_get S c h]
 congr 1
 simp
theorem rangeB_self (a : UInt8) : rangeB a a = fun x => x == a := by
 funext x
 unfold rangeB
 rw [Bool.eq_iff_iff]
 simp only [Bool.and_eq_true, decide_eq_true_eq, beq_iff_eq]
 constructor
 ·intro h
  exact UInt8.toNat_inj.1 (by omega)
 ·rintro rfl
  omega
theorem row_one (S : UInt8 → Bool) (a : UInt8) (h : a.toNat < 128) : (boolRow S).setIfInBounds a.toNat (.bool true) = boolRow (fun x => S x || rangeB a a x) := by
 rw [boolRow_set S a.toNat h, rangeB_self]
 simp
theorem low_range (S : UInt8 → Bool) (a : UInt8) : (fun x : UInt8 => S x || (decide (a.toNat ≤ x.toNat) && decide (x.toNat < a.toNat))) = S := by
 funext x
 have : (decide (a.toNat ≤ x.toNat) && decide (x.toNat < a.toNat)) = false := by
  rw [Bool.and_eq_false_iff, decide_eq_false_iff_not, decide_eq_false_iff_not]
  omega
 rw [this, Bool.or_false]
theorem low_range_succ (S : UInt8 → Bool) (a : UInt8) (j : Nat) (h : a.toNat ≤ j) (h2 : j < 128) : (boolRow fun x : UInt8 => S x || (decide (a.toNat ≤ x.toNat) && decide (x.toNat < j))).setIfInBounds j (.bool true) = boolRow fun x : UInt8 => S x || (decide (a.toNat ≤ x.toNat) && decide (x.toNat < j + 1)) := by
 rw [boolRow_set _ j h2]
 congr 1
 funext x
 by_cases hx : x = UInt8.ofNat j
 ·have hn : x.toNat = j := by rw [hx]; simp; omega
  rw [beq_iff_eq.2 hx, decide_eq_true (by omega : a.toNat ≤ x.toNat), decide_eq_true (by omega : x.toNat < j + 1)]
  simp
 ·have hn : x.toNat ≠ j := fun e => hx (UInt8.toNat_inj.1 (by rw [e]; simp; omega))
  rw [beq_eq_false_iff_ne.2 hx, Bool.or_false]
  congr 2
  rw [decide_eq_decide]
  omega
theorem high_range (S : UInt8 → Bool) (a c : UInt8) : (fun x : UInt8 => S x || (decide (a.toNat ≤ x.toNat) && decide (x.toNat < c.toNat + 1))) = fun x => S x || rangeB a c x := by
 funext x
 unfold rangeB
 congr 2
 rw [decide_eq_decide]
 omega
def SetPost (E : Nat) (r : List UInt8) (i : Nat) (w : World) (e : Ending) (w' : World) : Prop := Below E w w' ∧ match setR r with
 | none => e = .returned (.tuple #[.int .i64 0, .bool false])
 | some (S, k) => e = .returned (.tuple #[.int .i64 ((i + k : Nat) : Int), .bool true]) ∧ w'.heap[E]? = some (.cells (elRow false false S) 139 (0, 0))
set_option maxHeartbeats 1000000 in
set_option maxRecDepth 100000 in
theorem set_nil (p : ByteArray) (i E : Nat) (w : World) (hi : i = p.size) (hE : E < w.heap.size) :
  Calls Tryd.prog 76 #[.string p, .int .i64 (i : Int), .pointer (some ⟨E, 0, none⟩)] w (SetPost E (p.data.toList.drop i) i w) := by
 have hv := (zero_of_info (P := Tryd.prog) info66).1
 subst hi
 have hpost : ∀ w', Below E w w' → SetPost E (p.data.toList.drop p.size) p.size w (.returned (.tuple #[.int .i64 0, .bool false])) w' := fun w' hb => by
  have : p.data.toList.drop p.size = [] := by rw [Lib.size_eq, List.drop_length]
  rw [this]
  exact ⟨hb, rfl⟩
 have Hp := Lib.hid hpost
 clear hpost
 go_enter Tryd.func76, Tryd.ntmps76
 go_wp2
 go_loopw [1, 11] (fun s1 s11 wx => s1 = .int .i64 (p.size : Int) ∧ Below E w wx) (fun _ _ _ => 0)
 case atStart => exact ⟨rfl, (Below.refl E w).alloc (by omega) _⟩
 case round =>
  obtain ⟨rfl, hb⟩ := hrel
  have Hb := Lib.hid hb
  clear hb
  go_wp2
  go_ret2
  exact Hp.out _ Hb.out
set_option maxHeartbeats 4000000 in
set_option maxRecDepth 100000 in
theorem set_bang (p : ByteArray) (i E : Nat) (w : World) (hp : p.size ≤ 600) (ht : p.data.toList.all isText = true) (hi : i < p.size) (hE : E < w.heap.size) (hEb : w.heap[E]? = some (.cells (elRow false false fun _ => false) 139 (0, 0)))
  (c : UInt8) (hc : p[i]'hi = c) (hN : (c == 33) = true) (Q : Ending → World → Prop) (T : Option (UInt8 → Bool)) (D : Nat) (hT : memR (fun _ => false) (p.data.toList.drop (i + 1)) = T) (hD : (p.data.toList.drop (i + 1)).contains 93 = true → D = (i + 1) + (p.data.toList.drop (i + 1)).idxOf 93)
  (q1 : T = none ∨ (p.data.toList.drop (i + 1))[0]? = some 93 → ∀ w', Below E w w' → Q (.returned (.tuple #[.int .i64 0, .bool false])) w')
  (q2 : ∀ S, T = some S → (p.data.toList.drop (i + 1))[0]? ≠ some 93 → ∀ w', Below E w w' → w'.heap[E]? = some (.cells (elRow false false fun x => isText x && (S x != true)) 139 (0, 0)) → Q (.returned (.tuple #[.int .i64 (D : Int), .bool true])) w') :
  Calls Tryd.prog 76 #[.string p, .int .i64 (i : Int), .pointer (some ⟨E, 0, none⟩)] w Q := by
 have hv := (zero_of_info (P := Tryd.prog) info66).1
 have hii : (i : Int) < (p.size : Int) := by omega
 have hpi : (p.size : Int) ≤ 600 := by omega
 have hcq : ((c.toNat : Int) == 33) = true := by
  rw [← hN, Bool.eq_iff_iff]
  simp only [beq_iff_eq]
  constructor
  ·intro h
   apply UInt8.toNat_inj.1
   show c.toNat = 33
   omega
  ·rintro rfl
   rfl
 have Q1 := Lib.hid q1
 have Q2 := Lib.hid q2
 have HT := Lib.hid hT
 have HD := Lib.hid hD
 have Ht := Lib.hid ht
 have HEb := Lib.hid hEb
 clear q1 q2 hT hD ht hEb hN
 go_enter Tryd.func76, Tryd.ntmps76
 go_wp2
 go_loopw [1, 11] (fun s1 s11 wx => ∃ (k : Nat) (S : UInt8 → Bool), k ≤ p.size ∧ (i + 1) ≤ k ∧ s1 = .int .i64 k ∧ memR S (p.data.toList.drop k) = T ∧ ((p.data.toList.drop k).contains 93 = true → D = k + (p.data.toList.drop k).idxOf 93) ∧ ((p.data.toList.drop (i + 1)).contains 93 = (p.data.toList.drop k).contains 93) ∧ (k = (i + 1) ∨ (p.data.toList.drop (i + 1))[0]? ≠ some 93) ∧ wx.heap[w.heap.size]? = some (.cells (boolRow S) 137 (0, 0)) ∧ Below w.heap.size w wx ∧ wx.heap.size = w.heap.size + 1) (fun s1 _ _ => p.size - (intOf s1).toNat)
 case atStart => exact ⟨(i + 1), fun _ => false, by omega, Nat.le_refl _, rfl, HT.out, HD.out, rfl, Or.inl rfl, by rw [← zero128]; exact heap_alloc_last w _, (Below.refl _ _).alloc (Nat.le_refl _) _, by simp⟩
 case round =>
  obtain ⟨k, S, hk, hFk, rfl, hmem, hidx, hcon, hfst, hrow, hbel, hsize⟩ := hrel
  have Hmem := Lib.hid hmem
  have Hidx := Lib.hid hidx
  have Hcon := Lib.hid hcon
  have Hfst := Lib.hid hfst
  have Hrow := Lib.hid hrow
  have Hbel := Lib.hid hbel
  have Hsize := Lib.hid hsize
  clear hmem hidx hcon hfst hrow hbel hsize
  by_cases hlt : (k : Int) < (p.size : Int)
  ·obtain ⟨a, ha⟩ : ∃ a : UInt8, p[k]'(by omega) = a := ⟨_, rfl⟩
   have hal : p.data.toList[k]? = some a := by rw [← ha]; exact Lib.data_getElem? p k (by omega)
   have hdr := drop_at8 hal
   have hat : isText a = true := List.all_eq_true.1 Ht.out a (List.mem_of_getElem? hal)
   have Hal := Lib.hid hal
   have Hdr := Lib.hid hdr
   have Hat := Lib.hid hat
   clear hal hdr hat
   by_cases h93 : a = 93
   ·have hq : ((a.toNat : Int) != 93) = false := by rw [h93]; rfl
    subst h93
    have hTS : T = some S := by rw [← Hmem.out, Hdr.out, memR_end]
    have hDk : D = k := by
     have := Hidx.out (by rw [Hdr.out]; simp)
     rw [Hdr.out, List.idxOf_cons_self] at this
     exact this
    have HTS := Lib.hid hTS
    have HDk := Lib.hid hDk
    clear hTS hDk
    by_cases hkF : k = (i + 1)
    ·have hq1 := Q1.out (Or.inr (by rw [← hkF, Hdr.out]; rfl))
     have Hq := Lib.hid hq1
     have Hb := Lib.hid (Hbel.out.mono (Nat.le_of_lt hE))
     have hkq : ((k : Int) == (((i + 1) : Nat) : Int)) = true := by rw [hkF]; simp
     push_cast at hkq
     clear hq1 hkF
     go_wp2
     exact Hq.out _ Hb.out
    ·have hf : (p.data.toList.drop (i + 1))[0]? ≠ some 93 := by
      rcases Hfst.out with h | h
      ·exact absurd h hkF
      ·exact h
     have hkq : ((k : Int) == (((i + 1) : Nat) : Int)) = false := by
      rw [beq_eq_false_iff_ne]
      intro h
      exact hkF (by omega)
     push_cast at hkq
     have hdk : decide (p.size ≤ k) = false := decide_eq_false (by omega)
     have Hq := Lib.hid (Q2.out S HTS.out hf)
     clear hf
     go_wp2
     go_loopw [12] (fun s12 wx => ∃ c : Nat, 32 ≤ c ∧ c ≤ 127 ∧ s12 = .int .i64 c ∧ wx.heap[E]? = some (.cells (elRow false false fun x => decide (32 ≤ x.toNat) && decide (x.toNat < c) && (S x != true)) 139 (0, 0)) ∧ wx.heap[w.heap.size]? = some (.cells (boolRow S) 137 (0, 0)) ∧ Below E w wx) (fun s12 _ => 127 - (intOf s12).toNat)
     case atStart => exact ⟨32, Nat.le_refl _, by omega, rfl, by rw [Hbel.out.block E hE, HEb.out, low_none], Hrow.out, Hbel.out.mono (Nat.le_of_lt hE)⟩
     case round =>
      obtain ⟨x, hx1, hx2, rfl, hEr, hBr, hb⟩ := hrel
      have HEr := Lib.hid hEr
      have HBr := Lib.hid hBr
      have Hb := Lib.hid hb
      clear hEr hBr hb
      by_cases hle : (x : Int) ≤ 126
      ·have hxi : (x : Int) < 128 := by omega
       have hcell := cell_of_row _ w.heap.size x _ _ _ HBr.out
       rw [boolRow_get S x (by omega)] at hcell
       have hfz := frozen_of_row _ E (2 + x) _ _ HEr.out
       have hcellE := cell_of_row _ E (2 + x) _ _ _ HEr.out
       rw [elRow_get _ _ _ x (by omega)] at hcellE
       have hset := elRow_put false false (fun y => decide (32 ≤ y.toNat) && decide (y.toNat < x) && (S y != true)) x (S (UInt8.ofNat x) != true) (by omega)
       rw [low_succ S true x hx1 (by omega)] at hset
       have Hset := Lib.hid hset
       have hxn : ¬ (x : Int) < 0 := by omega
       have hBE : E ≠ w.heap.size := by omega
       clear hset
       generalize S (UInt8.ofNat x) = b at *
       go_wp2
       go_region
       all_goals
        go_wp2
        refine ⟨⟨x + 1, by omega, by omega, rfl, ?_, ?_, ?_⟩, by simp [intOf]; omega⟩
        ·have e := block_setCell4 (i := 2 + x) HEr.out (.bool (b != true))
         rw [Hset.out] at e
         cases b <;> exact e
        ·show (wr.setCell _ _).heap[w.heap.size]? = _
         simp only [World.setCell, Array.getElem?_modify]
         rw [if_neg hBE]
         exact HBr.out
        ·exact ((Hb.out.setCell (Nat.le_refl _) _).trans ⟨rfl, rfl, rfl, Nat.le_refl _, fun _ _ => rfl⟩)
      ·obtain rfl : x = 127 := by omega
       have hrowE : wr.heap[E]? = some (.cells (elRow false false fun x => isText x && (S x != true)) 139 (0, 0)) := by
        rw [HEr.out]
        congr 3
        funext x
        unfold isText
        congr 2
        rw [decide_eq_decide]
        omega
       have Hfin := Lib.hid (Hq.out _ Hb.out hrowE)
       rw [HDk.out] at Hfin
       clear hrowE
       go_wp2
       exact Hfin.out
   ·have hq : ((a.toNat : Int) != 93) = true := by
     rw [bne_iff_ne]
     intro h
     exact h93 (UInt8.toNat_inj.1 (by show a.toNat = 93; omega))
    have ha127 : a.toNat ≤ 126 := by
     have := Hat.out
     unfold isText at this
     simp only [Bool.and_eq_true, decide_eq_true_eq] at this
     exact this.2
    have hai : (a.toNat : Int) < 128 := by omega
    have hn : ((p.data.toList.drop (k + 1)).contains 93 = true → D = k + 1 + (p.data.toList.drop (k + 1)).idxOf 93) ∧ ((p.data.toList.drop (i + 1)).contains 93 = (p.data.toList.drop (k + 1)).contains 93) ∧ (k + 1 = (i + 1) ∨ (p.data.toList.drop (i + 1))[0]? ≠ some 93) := by
     refine ⟨fun h => ?_, ?_, ?_⟩
     ·have := Hidx.out (by rw [Hdr.out, contains_cons_ne h93]; exact h)
      rw [Hdr.out, idx_cons_ne h93] at this
      omega
     ·rw [Hcon.out, Hdr.out, contains_cons_ne h93]
     ·rcases Hfst.out with h | h
      ·right
       rw [← h, Hdr.out]
       simpa using h93
      ·exact Or.inr h
    have Hn := Lib.hid hn
    have hcell := cell_of_row _ w.heap.size a.toNat _ _ _ Hrow.out
    rw [boolRow_get S a.toNat (by omega)] at hcell
    have hfz := frozen_of_row _ w.heap.size a.toNat _ _ Hrow.out
    clear hn
    by_cases h2 : (k : Int) + 2 < (p.size : Int)
    ·obtain ⟨b, hb1⟩ : ∃ b : UInt8, p[k + 1]'(by omega) = b := ⟨_, rfl⟩
     obtain ⟨c2, hc2⟩ : ∃ c2 : UInt8, p[k + 2]'(by omega) = c2 := ⟨_, rfl⟩
     have hbl : p.data.toList[k + 1]? = some b := by rw [← hb1]; exact Lib.data_getElem? p (k + 1) (by omega)
     have hcl : p.data.toList[k + 2]? = some c2 := by rw [← hc2]; exact Lib.data_getElem? p (k + 2) (by omega)
     have hd1 := drop_at8 hbl
     have hd2 := drop_at8 hcl
     rw [show k + 1 + 1 = k + 2 from rfl] at hd1
     rw [show k + 2 + 1 = k + 3 from rfl] at hd2
     have hct : isText c2 = true := List.all_eq_true.1 Ht.out c2 (List.mem_of_getElem? hcl)
     have hc126 : c2.toNat ≤ 126 := by
      unfold isText at hct
      simp only [Bool.and_eq_true, decide_eq_true_eq] at hct
      exact hct.2
     have Hd1 := Lib.hid hd1
     have Hd2 := Lib.hid hd2
     have h1i : (k : Int) + 1 < (p.size : Int) := by omega
     clear hbl hcl hd1 hd2 hct
     by_cases h45 : b = 45
     ·have hq45 : ((b.toNat : Int) == 45) = true := by rw [h45]; rfl
      by_cases hc93 : c2 = 93
      ·have hqc : ((c2.toNat : Int) != 93) = false := by rw [hc93]; rfl
       have Hone := Lib.hid (memR_one S h93 (p.data.toList.drop (k + 1)) (fun h => h.2.2 (by rw [Hd1.out, Hd2.out, hc93]; rfl)))
       clear h45 hc93 h93
       go_wp2
       refine ⟨⟨k + 1, fun x => S x || rangeB a a x, by omega, by omega, rfl, by rw [← Hone.out, ← Hdr.out]; exact Hmem.out, Hn.out.1, Hn.out.2.1, Hn.out.2.2, ?_, Hbel.out.setCell (Nat.le_refl _) _, by rw [World.size_setCell]; exact Hsize.out⟩, by simp [intOf]; omega⟩
       have e := block_setCell4 (i := a.toNat) Hrow.out (.bool true)
       rw [row_one S a (by omega)] at e
       exact e
      ·have hqc : ((c2.toNat : Int) != 93) = true := by
        rw [bne_iff_ne]
        intro h
        exact hc93 (UInt8.toNat_inj.1 (by show c2.toNat = 93; omega))
       have hrg := memR_range S h93 hc93 (p.data.toList.drop (k + 3))
       rw [← Hd2.out, ← h45, ← Hd1.out, ← Hdr.out, Hmem.out] at hrg
       by_cases hgt : (c2.toNat : Int) < (a.toNat : Int)
       ·rw [if_pos (by omega)] at hrg
        have Hq := Lib.hid (Q1.out (Or.inl hrg))
        have Hb := Lib.hid (Hbel.out.mono (Nat.le_of_lt hE))
        clear hrg h45 hc93 h93 hcell hfz
        go_wp2
        go_quiet (fail)
        go_wp2
        exact Hq.out _ ⟨Hb.out.os, Hb.out.tape, Hb.out.output, Hb.out.size, Hb.out.block⟩
       ·rw [if_neg (by omega)] at hrg
        have hn3 : ((p.data.toList.drop (k + 3)).contains 93 = true → D = k + 3 + (p.data.toList.drop (k + 3)).idxOf 93) ∧ ((p.data.toList.drop (i + 1)).contains 93 = (p.data.toList.drop (k + 3)).contains 93) ∧ (k + 3 = (i + 1) ∨ (p.data.toList.drop (i + 1))[0]? ≠ some 93) := by
         obtain ⟨n1, n2, n3⟩ := Hn.out
         have hb93 : b ≠ 93 := by rw [h45]; decide
         refine ⟨fun h => ?_, ?_, ?_⟩
         ·have := n1 (by rw [Hd1.out, contains_cons_ne hb93, Hd2.out, contains_cons_ne hc93]; exact h)
          rw [Hd1.out, idx_cons_ne hb93, Hd2.out, idx_cons_ne hc93] at this
          omega
         ·rw [n2, Hd1.out, contains_cons_ne hb93, Hd2.out, contains_cons_ne hc93]
         ·rcases n3 with h | h
          ·rcases Hfst.out with h' | h'
           ·omega
           ·exact Or.inr h'
          ·exact Or.inr h
        have Hn3 := Lib.hid hn3
        have Hrg := Lib.hid hrg
        have hle : (a.toNat : Int) ≤ (c2.toNat : Int) := by omega
        clear hrg hn3 h45 hc93 h93 hcell hfz
        go_wp2
        go_quiet (fail)
        go_wp2
        go_loopw [11] (fun s11 wx => ∃ j : Nat, a.toNat ≤ j ∧ j ≤ c2.toNat + 1 ∧ s11 = .int .i64 j ∧ wx.heap[w.heap.size]? = some (.cells (boolRow fun x => S x || (decide (a.toNat ≤ x.toNat) && decide (x.toNat < j))) 137 (0, 0)) ∧ Below w.heap.size w wx ∧ wx.heap.size = w.heap.size + 1) (fun s11 _ => c2.toNat + 1 - (intOf s11).toNat)
        case atStart => exact ⟨a.toNat, Nat.le_refl _, by omega, rfl, by rw [low_range]; exact Hrow.out, ⟨Hbel.out.os, Hbel.out.tape, Hbel.out.output, Hbel.out.size, Hbel.out.block⟩, Hsize.out⟩
        case round =>
         obtain ⟨j, hj1, hj2, rfl, hjr, hjb, hjs⟩ := hrel
         have Hjr := Lib.hid hjr
         have Hjb := Lib.hid hjb
         have Hjs := Lib.hid hjs
         clear hjr hjb hjs
         by_cases hjle : (j : Int) ≤ (c2.toNat : Int)
         ·have hj128 : (j : Int) < 128 := by omega
          have hcell := cell_of_row _ w.heap.size j _ _ _ Hjr.out
          rw [boolRow_get _ j (by omega)] at hcell
          have hfz := frozen_of_row _ w.heap.size j _ _ Hjr.out
          go_wp2
          refine ⟨⟨j + 1, by omega, by omega, rfl, ?_, Hjb.out.setCell (Nat.le_refl _) _, by rw [World.size_setCell]; exact Hjs.out⟩, by simp [intOf]; omega⟩
          have e := block_setCell4 (i := j) Hjr.out (.bool true)
          rw [low_range_succ S a j hj1 (by omega)] at e
          exact e
         ·obtain rfl : j = c2.toNat + 1 := by omega
          have hjr := Hjr.out
          rw [high_range] at hjr
          have Hjr := Lib.hid hjr
          clear hjr
          go_wp2
          exact ⟨⟨k + 3, fun x => S x || rangeB a c2 x, by omega, by omega, rfl, Hrg.out.symm, Hn3.out.1, Hn3.out.2.1, Hn3.out.2.2, Hjr.out, Hjb.out, Hjs.out⟩, by simp [intOf]; omega⟩
     ·have hq45 : ((b.toNat : Int) == 45) = false := byte_ne (x := b) (k := 45) (by omega) h45
      have Hone := Lib.hid (memR_one S h93 (p.data.toList.drop (k + 1)) (fun h => h45 (by have := h.2.1; rw [Hd1.out] at this; simpa using this)))
      clear h45 h93
      go_wp2
      refine ⟨⟨k + 1, fun x => S x || rangeB a a x, by omega, by omega, rfl, by rw [← Hone.out, ← Hdr.out]; exact Hmem.out, Hn.out.1, Hn.out.2.1, Hn.out.2.2, ?_, Hbel.out.setCell (Nat.le_refl _) _, by rw [World.size_setCell]; exact Hsize.out⟩, by simp [intOf]; omega⟩
      have e := block_setCell4 (i := a.toNat) Hrow.out (.bool true)
      rw [row_one S a (by omega)] at e
      exact e
    ·have hlen : ¬ 2 ≤ (p.data.toList.drop (k + 1)).length := by rw [List.length_drop, ← Lib.size_eq]; omega
     have Hone := Lib.hid (memR_one S h93 (p.data.toList.drop (k + 1)) (fun h => hlen h.1))
     clear hlen h93
     go_wp2
     refine ⟨⟨k + 1, fun x => S x || rangeB a a x, by omega, by omega, rfl, by rw [← Hone.out, ← Hdr.out]; exact Hmem.out, Hn.out.1, Hn.out.2.1, Hn.out.2.2, ?_, Hbel.out.setCell (Nat.le_refl _) _, by rw [World.size_setCell]; exact Hsize.out⟩, by simp [intOf]; omega⟩
     have e := block_setCell4 (i := a.toNat) Hrow.out (.bool true)
     rw [row_one S a (by omega)] at e
     exact e
  ·obtain rfl : k = p.size := by omega
   have hnone : T = none := by rw [← Hmem.out, Lib.size_eq, List.drop_length]; rfl
   have Hq := Lib.hid (Q1.out (Or.inl hnone))
   have hb : Below E w wr := Hbel.out.mono (by omega)
   have Hb := Lib.hid hb
   clear hb hnone
   go_wp2
   exact Hq.out _ Hb.out
set_option maxHeartbeats 4000000 in
set_option maxRecDepth 100000 in
theorem set_plain (p : ByteArray) (i E : Nat) (w : World) (hp : p.size ≤ 600) (ht : p.data.toList.all isText = true) (hi : i < p.size) (hE : E < w.heap.size) (hEb : w.heap[E]? = some (.cells (elRow false false fun _ => false) 139 (0, 0)))
  (c : UInt8) (hc : p[i]'hi = c) (hN : (c == 33) = false) (Q : Ending → World → Prop) (T : Option (UInt8 → Bool)) (D : Nat) (hT : memR (fun _ => false) (p.data.toList.drop i) = T) (hD : (p.data.toList.drop i).contains 93 = true → D = i + (p.data.toList.drop i).idxOf 93)
  (q1 : T = none ∨ (p.data.toList.drop i)[0]? = some 93 → ∀ w', Below E w w' → Q (.returned (.tuple #[.int .i64 0, .bool false])) w')
  (q2 : ∀ S, T = some S → (p.data.toList.drop i)[0]? ≠ some 93 → ∀ w', Below E w w' → w'.heap[E]? = some (.cells (elRow false false fun x => isText x && (S x != false)) 139 (0, 0)) → Q (.returned (.tuple #[.int .i64 (D : Int), .bool true])) w') :
  Calls Tryd.prog 76 #[.string p, .int .i64 (i : Int), .pointer (some ⟨E, 0, none⟩)] w Q := by
 have hv := (zero_of_info (P := Tryd.prog) info66).1
 have hii : (i : Int) < (p.size : Int) := by omega
 have hpi : (p.size : Int) ≤ 600 := by omega
 have hcq : ((c.toNat : Int) == 33) = false := by
  rw [← hN, Bool.eq_iff_iff]
  simp only [beq_iff_eq]
  constructor
  ·intro h
   apply UInt8.toNat_inj.1
   show c.toNat = 33
   omega
  ·rintro rfl
   rfl
 have Q1 := Lib.hid q1
 have Q2 := Lib.hid q2
 have HT := Lib.hid hT
 have HD := Lib.hid hD
 have Ht := Lib.hid ht
 have HEb := Lib.hid hEb
 clear q1 q2 hT hD ht hEb hN
 go_enter Tryd.func76, Tryd.ntmps76
 go_wp2
 go_loopw [1, 11] (fun s1 s11 wx => ∃ (k : Nat) (S : UInt8 → Bool), k ≤ p.size ∧ i ≤ k ∧ s1 = .int .i64 k ∧ memR S (p.data.toList.drop k) = T ∧ ((p.data.toList.drop k).contains 93 = true → D = k + (p.data.toList.drop k).idxOf 93) ∧ ((p.data.toList.drop i).contains 93 = (p.data.toList.drop k).contains 93) ∧ (k = i ∨ (p.data.toList.drop i)[0]? ≠ some 93) ∧ wx.heap[w.heap.size]? = some (.cells (boolRow S) 137 (0, 0)) ∧ Below w.heap.size w wx ∧ wx.heap.size = w.heap.size + 1) (fun s1 _ _ => p.size - (intOf s1).toNat)
 case atStart => exact ⟨i, fun _ => false, by omega, Nat.le_refl _, rfl, HT.out, HD.out, rfl, Or.inl rfl, by rw [← zero128]; exact heap_alloc_last w _, (Below.refl _ _).alloc (Nat.le_refl _) _, by simp⟩
 case round =>
  obtain ⟨k, S, hk, hFk, rfl, hmem, hidx, hcon, hfst, hrow, hbel, hsize⟩ := hrel
  have Hmem := Lib.hid hmem
  have Hidx := Lib.hid hidx
  have Hcon := Lib.hid hcon
  have Hfst := Lib.hid hfst
  have Hrow := Lib.hid hrow
  have Hbel := Lib.hid hbel
  have Hsize := Lib.hid hsize
  clear hmem hidx hcon hfst hrow hbel hsize
  by_cases hlt : (k : Int) < (p.size : Int)
  ·obtain ⟨a, ha⟩ : ∃ a : UInt8, p[k]'(by omega) = a := ⟨_, rfl⟩
   have hal : p.data.toList[k]? = some a := by rw [← ha]; exact Lib.data_getElem? p k (by omega)
   have hdr := drop_at8 hal
   have hat : isText a = true := List.all_eq_true.1 Ht.out a (List.mem_of_getElem? hal)
   have Hal := Lib.hid hal
   have Hdr := Lib.hid hdr
   have Hat := Lib.hid hat
   clear hal hdr hat
   by_cases h93 : a = 93
   ·have hq : ((a.toNat : Int) != 93) = false := by rw [h93]; rfl
    subst h93
    have hTS : T = some S := by rw [← Hmem.out, Hdr.out, memR_end]
    have hDk : D = k := by
     have := Hidx.out (by rw [Hdr.out]; simp)
     rw [Hdr.out, List.idxOf_cons_self] at this
     exact this
    have HTS := Lib.hid hTS
    have HDk := Lib.hid hDk
    clear hTS hDk
    by_cases hkF : k = i
    ·have hq1 := Q1.out (Or.inr (by rw [← hkF, Hdr.out]; rfl))
     have Hq := Lib.hid hq1
     have Hb := Lib.hid (Hbel.out.mono (Nat.le_of_lt hE))
     have hkq : ((k : Int) == ((i : Nat) : Int)) = true := by rw [hkF]; simp
     push_cast at hkq
     clear hq1 hkF
     go_wp2
     exact Hq.out _ Hb.out
    ·have hf : (p.data.toList.drop i)[0]? ≠ some 93 := by
      rcases Hfst.out with h | h
      ·exact absurd h hkF
      ·exact h
     have hkq : ((k : Int) == ((i : Nat) : Int)) = false := by
      rw [beq_eq_false_iff_ne]
      intro h
      exact hkF (by omega)
     push_cast at hkq
     have hdk : decide (p.size ≤ k) = false := decide_eq_false (by omega)
     have Hq := Lib.hid (Q2.out S HTS.out hf)
     clear hf
     go_wp2
     go_loopw [12] (fun s12 wx => ∃ c : Nat, 32 ≤ c ∧ c ≤ 127 ∧ s12 = .int .i64 c ∧ wx.heap[E]? = some (.cells (elRow false false fun x => decide (32 ≤ x.toNat) && decide (x.toNat < c) && (S x != false)) 139 (0, 0)) ∧ wx.heap[w.heap.size]? = some (.cells (boolRow S) 137 (0, 0)) ∧ Below E w wx) (fun s12 _ => 127 - (intOf s12).toNat)
     case atStart => exact ⟨32, Nat.le_refl _, by omega, rfl, by rw [Hbel.out.block E hE, HEb.out, low_none], Hrow.out, Hbel.out.mono (Nat.le_of_lt hE)⟩
     case round =>
      obtain ⟨x, hx1, hx2, rfl, hEr, hBr, hb⟩ := hrel
      have HEr := Lib.hid hEr
      have HBr := Lib.hid hBr
      have Hb := Lib.hid hb
      clear hEr hBr hb
      by_cases hle : (x : Int) ≤ 126
      ·have hxi : (x : Int) < 128 := by omega
       have hcell := cell_of_row _ w.heap.size x _ _ _ HBr.out
       rw [boolRow_get S x (by omega)] at hcell
       have hfz := frozen_of_row _ E (2 + x) _ _ HEr.out
       have hcellE := cell_of_row _ E (2 + x) _ _ _ HEr.out
       rw [elRow_get _ _ _ x (by omega)] at hcellE
       have hset := elRow_put false false (fun y => decide (32 ≤ y.toNat) && decide (y.toNat < x) && (S y != false)) x (S (UInt8.ofNat x) != false) (by omega)
       rw [low_succ S false x hx1 (by omega)] at hset
       have Hset := Lib.hid hset
       have hxn : ¬ (x : Int) < 0 := by omega
       have hBE : E ≠ w.heap.size := by omega
       clear hset
       generalize S (UInt8.ofNat x) = b at *
       go_wp2
       go_region
       all_goals
        go_wp2
        refine ⟨⟨x + 1, by omega, by omega, rfl, ?_, ?_, ?_⟩, by simp [intOf]; omega⟩
        ·have e := block_setCell4 (i := 2 + x) HEr.out (.bool (b != false))
         rw [Hset.out] at e
         cases b <;> exact e
        ·show (wr.setCell _ _).heap[w.heap.size]? = _
         simp only [World.setCell, Array.getElem?_modify]
         rw [if_neg hBE]
         exact HBr.out
        ·exact ((Hb.out.setCell (Nat.le_refl _) _).trans ⟨rfl, rfl, rfl, Nat.le_refl _, fun _ _ => rfl⟩)
      ·obtain rfl : x = 127 := by omega
       have hrowE : wr.heap[E]? = some (.cells (elRow false false fun x => isText x && (S x != false)) 139 (0, 0)) := by
        rw [HEr.out]
        congr 3
        funext x
        unfold isText
        congr 2
        rw [decide_eq_decide]
        omega
       have Hfin := Lib.hid (Hq.out _ Hb.out hrowE)
       rw [HDk.out] at Hfin
       clear hrowE
       go_wp2
       exact Hfin.out
   ·have hq : ((a.toNat : Int) != 93) = true := by
     rw [bne_iff_ne]
     intro h
     exact h93 (UInt8.toNat_inj.1 (by show a.toNat = 93; omega))
    have ha127 : a.toNat ≤ 126 := by
     have := Hat.out
     unfold isText at this
     simp only [Bool.and_eq_true, decide_eq_true_eq] at this
     exact this.2
    have hai : (a.toNat : Int) < 128 := by omega
    have hn : ((p.data.toList.drop (k + 1)).contains 93 = true → D = k + 1 + (p.data.toList.drop (k + 1)).idxOf 93) ∧ ((p.data.toList.drop i).contains 93 = (p.data.toList.drop (k + 1)).contains 93) ∧ (k + 1 = i ∨ (p.data.toList.drop i)[0]? ≠ some 93) := by
     refine ⟨fun h => ?_, ?_, ?_⟩
     ·have := Hidx.out (by rw [Hdr.out, contains_cons_ne h93]; exact h)
      rw [Hdr.out, idx_cons_ne h93] at this
      omega
     ·rw [Hcon.out, Hdr.out, contains_cons_ne h93]
     ·rcases Hfst.out with h | h
      ·right
       rw [← h, Hdr.out]
       simpa using h93
      ·exact Or.inr h
    have Hn := Lib.hid hn
    have hcell := cell_of_row _ w.heap.size a.toNat _ _ _ Hrow.out
    rw [boolRow_get S a.toNat (by omega)] at hcell
    have hfz := frozen_of_row _ w.heap.size a.toNat _ _ Hrow.out
    clear hn
    by_cases h2 : (k : Int) + 2 < (p.size : Int)
    ·obtain ⟨b, hb1⟩ : ∃ b : UInt8, p[k + 1]'(by omega) = b := ⟨_, rfl⟩
     obtain ⟨c2, hc2⟩ : ∃ c2 : UInt8, p[k + 2]'(by omega) = c2 := ⟨_, rfl⟩
     have hbl : p.data.toList[k + 1]? = some b := by rw [← hb1]; exact Lib.data_getElem? p (k + 1) (by omega)
     have hcl : p.data.toList[k + 2]? = some c2 := by rw [← hc2]; exact Lib.data_getElem? p (k + 2) (by omega)
     have hd1 := drop_at8 hbl
     have hd2 := drop_at8 hcl
     rw [show k + 1 + 1 = k + 2 from rfl] at hd1
     rw [show k + 2 + 1 = k + 3 from rfl] at hd2
     have hct : isText c2 = true := List.all_eq_true.1 Ht.out c2 (List.mem_of_getElem? hcl)
     have hc126 : c2.toNat ≤ 126 := by
      unfold isText at hct
      simp only [Bool.and_eq_true, decide_eq_true_eq] at hct
      exact hct.2
     have Hd1 := Lib.hid hd1
     have Hd2 := Lib.hid hd2
     have h1i : (k : Int) + 1 < (p.size : Int) := by omega
     clear hbl hcl hd1 hd2 hct
     by_cases h45 : b = 45
     ·have hq45 : ((b.toNat : Int) == 45) = true := by rw [h45]; rfl
      by_cases hc93 : c2 = 93
      ·have hqc : ((c2.toNat : Int) != 93) = false := by rw [hc93]; rfl
       have Hone := Lib.hid (memR_one S h93 (p.data.toList.drop (k + 1)) (fun h => h.2.2 (by rw [Hd1.out, Hd2.out, hc93]; rfl)))
       clear h45 hc93 h93
       go_wp2
       refine ⟨⟨k + 1, fun x => S x || rangeB a a x, by omega, by omega, rfl, by rw [← Hone.out, ← Hdr.out]; exact Hmem.out, Hn.out.1, Hn.out.2.1, Hn.out.2.2, ?_, Hbel.out.setCell (Nat.le_refl _) _, by rw [World.size_setCell]; exact Hsize.out⟩, by simp [intOf]; omega⟩
       have e := block_setCell4 (i := a.toNat) Hrow.out (.bool true)
       rw [row_one S a (by omega)] at e
       exact e
      ·have hqc : ((c2.toNat : Int) != 93) = true := by
        rw [bne_iff_ne]
        intro h
        exact hc93 (UInt8.toNat_inj.1 (by show c2.toNat = 93; omega))
       have hrg := memR_range S h93 hc93 (p.data.toList.drop (k + 3))
       rw [← Hd2.out, ← h45, ← Hd1.out, ← Hdr.out, Hmem.out] at hrg
       by_cases hgt : (c2.toNat : Int) < (a.toNat : Int)
       ·rw [if_pos (by omega)] at hrg
        have Hq := Lib.hid (Q1.out (Or.inl hrg))
        have Hb := Lib.hid (Hbel.out.mono (Nat.le_of_lt hE))
        clear hrg h45 hc93 h93 hcell hfz
        go_wp2
        go_quiet (fail)
        go_wp2
        exact Hq.out _ ⟨Hb.out.os, Hb.out.tape, Hb.out.output, Hb.out.size, Hb.out.block⟩
       ·rw [if_neg (by omega)] at hrg
        have hn3 : ((p.data.toList.drop (k + 3)).contains 93 = true → D = k + 3 + (p.data.toList.drop (k + 3)).idxOf 93) ∧ ((p.data.toList.drop i).contains 93 = (p.data.toList.drop (k + 3)).contains 93) ∧ (k + 3 = i ∨ (p.data.toList.drop i)[0]? ≠ some 93) := by
         obtain ⟨n1, n2, n3⟩ := Hn.out
         have hb93 : b ≠ 93 := by rw [h45]; decide
         refine ⟨fun h => ?_, ?_, ?_⟩
         ·have := n1 (by rw [Hd1.out, contains_cons_ne hb93, Hd2.out, contains_cons_ne hc93]; exact h)
          rw [Hd1.out, idx_cons_ne hb93, Hd2.out, idx_cons_ne hc93] at this
          omega
         ·rw [n2, Hd1.out, contains_cons_ne hb93, Hd2.out, contains_cons_ne hc93]
         ·rcases n3 with h | h
          ·rcases Hfst.out with h' | h'
           ·omega
           ·exact Or.inr h'
          ·exact Or.inr h
        have Hn3 := Lib.hid hn3
        have Hrg := Lib.hid hrg
        have hle : (a.toNat : Int) ≤ (c2.toNat : Int) := by omega
        clear hrg hn3 h45 hc93 h93 hcell hfz
        go_wp2
        go_quiet (fail)
        go_wp2
        go_loopw [11] (fun s11 wx => ∃ j : Nat, a.toNat ≤ j ∧ j ≤ c2.toNat + 1 ∧ s11 = .int .i64 j ∧ wx.heap[w.heap.size]? = some (.cells (boolRow fun x => S x || (decide (a.toNat ≤ x.toNat) && decide (x.toNat < j))) 137 (0, 0)) ∧ Below w.heap.size w wx ∧ wx.heap.size = w.heap.size + 1) (fun s11 _ => c2.toNat + 1 - (intOf s11).toNat)
        case atStart => exact ⟨a.toNat, Nat.le_refl _, by omega, rfl, by rw [low_range]; exact Hrow.out, ⟨Hbel.out.os, Hbel.out.tape, Hbel.out.output, Hbel.out.size, Hbel.out.block⟩, Hsize.out⟩
        case round =>
         obtain ⟨j, hj1, hj2, rfl, hjr, hjb, hjs⟩ := hrel
         have Hjr := Lib.hid hjr
         have Hjb := Lib.hid hjb
         have Hjs := Lib.hid hjs
         clear hjr hjb hjs
         by_cases hjle : (j : Int) ≤ (c2.toNat : Int)
         ·have hj128 : (j : Int) < 128 := by omega
          have hcell := cell_of_row _ w.heap.size j _ _ _ Hjr.out
          rw [boolRow_get _ j (by omega)] at hcell
          have hfz := frozen_of_row _ w.heap.size j _ _ Hjr.out
          go_wp2
          refine ⟨⟨j + 1, by omega, by omega, rfl, ?_, Hjb.out.setCell (Nat.le_refl _) _, by rw [World.size_setCell]; exact Hjs.out⟩, by simp [intOf]; omega⟩
          have e := block_setCell4 (i := j) Hjr.out (.bool true)
          rw [low_range_succ S a j hj1 (by omega)] at e
          exact e
         ·obtain rfl : j = c2.toNat + 1 := by omega
          have hjr := Hjr.out
          rw [high_range] at hjr
          have Hjr := Lib.hid hjr
          clear hjr
          go_wp2
          exact ⟨⟨k + 3, fun x => S x || rangeB a c2 x, by omega, by omega, rfl, Hrg.out.symm, Hn3.out.1, Hn3.out.2.1, Hn3.out.2.2, Hjr.out, Hjb.out, Hjs.out⟩, by simp [intOf]; omega⟩
     ·have hq45 : ((b.toNat : Int) == 45) = false := byte_ne (x := b) (k := 45) (by omega) h45
      have Hone := Lib.hid (memR_one S h93 (p.data.toList.drop (k + 1)) (fun h => h45 (by have := h.2.1; rw [Hd1.out] at this; simpa using this)))
      clear h45 h93
      go_wp2
      refine ⟨⟨k + 1, fun x => S x || rangeB a a x, by omega, by omega, rfl, by rw [← Hone.out, ← Hdr.out]; exact Hmem.out, Hn.out.1, Hn.out.2.1, Hn.out.2.2, ?_, Hbel.out.setCell (Nat.le_refl _) _, by rw [World.size_setCell]; exact Hsize.out⟩, by simp [intOf]; omega⟩
      have e := block_setCell4 (i := a.toNat) Hrow.out (.bool true)
      rw [row_one S a (by omega)] at e
      exact e
    ·have hlen : ¬ 2 ≤ (p.data.toList.drop (k + 1)).length := by rw [List.length_drop, ← Lib.size_eq]; omega
     have Hone := Lib.hid (memR_one S h93 (p.data.toList.drop (k + 1)) (fun h => hlen h.1))
     clear hlen h93
     go_wp2
     refine ⟨⟨k + 1, fun x => S x || rangeB a a x, by omega, by omega, rfl, by rw [← Hone.out, ← Hdr.out]; exact Hmem.out, Hn.out.1, Hn.out.2.1, Hn.out.2.2, ?_, Hbel.out.setCell (Nat.le_refl _) _, by rw [World.size_setCell]; exact Hsize.out⟩, by simp [intOf]; omega⟩
     have e := block_setCell4 (i := a.toNat) Hrow.out (.bool true)
     rw [row_one S a (by omega)] at e
     exact e
  ·obtain rfl : k = p.size := by omega
   have hnone : T = none := by rw [← Hmem.out, Lib.size_eq, List.drop_length]; rfl
   have Hq := Lib.hid (Q1.out (Or.inl hnone))
   have hb : Below E w wr := Hbel.out.mono (by omega)
   have Hb := Lib.hid hb
   clear hb hnone
   go_wp2
   exact Hq.out _ Hb.out
end Go.Proofs.YtdlchlbngojljaaDoor.Gl
namespace Go.Proofs.YtdlchlbngojljaaDoor.Gl
open Go.RowKit
theorem memR_ok {r : List UInt8} {S : UInt8 → Bool} (ht : r.all isText = true) (h : memR (fun _ => false) r = some S) : okSet S := by
 unfold memR at h
 split at h
 ·exact memB_ok _ _ _ S (Nat.le_refl _) (List.all_eq_true.2 fun x hx => List.all_eq_true.1 ht x (List.mem_of_mem_take hx)) (fun _ h => by simp at h) h
 ·cases h
theorem row_text (S : UInt8 → Bool) (h : okSet S) : (fun x => isText x && (S x != false)) = S := by
 funext x
 cases hs : S x with
 | false => simp
 | true => simp [h x hs]
theorem row_not (S : UInt8 → Bool) : (fun x => isText x && (S x != true)) = fun x => isText x && !S x := by
 funext x
 cases S x <;> rfl
theorem drop_text {l : List UInt8} (h : l.all isText = true) (i : Nat) : (l.drop i).all isText = true := List.all_eq_true.2 fun x hx => List.all_eq_true.1 h x (List.mem_of_mem_drop hx)
/-- The reference's set. -/
theorem set_any (p : ByteArray) (i E : Nat) (w : World) (hp : p.size ≤ 600) (ht : p.data.toList.all isText = true) (hi : i ≤ p.size) (hE : E < w.heap.size) (hEb : w.heap[E]? = some (.cells (elRow false false fun _ => false) 139 (0, 0))) :
  Calls Tryd.prog 76 #[.string p, .int .i64 (i : Int), .pointer (some ⟨E, 0, none⟩)] w (SetPost E (p.data.toList.drop i) i w) := by
 rcases Nat.lt_or_ge i p.size with hlt | hge
 ·obtain ⟨c, hc⟩ : ∃ c : UInt8, p[i]'hlt = c := ⟨_, rfl⟩
  have hcl : p.data.toList[i]? = some c := by rw [← hc]; exact Lib.data_getElem? p i hlt
  have hd := drop_at8 hcl
  have hdt := drop_text ht (i + 1)
  by_cases h33 : c = 33
  ·have hset := setR_not (p.data.toList.drop (i + 1))
   rw [← h33, ← hd] at hset
   refine set_bang p i E w hp ht hlt hE hEb c hc (by rw [h33]; rfl) _ (memR (fun _ => false) (p.data.toList.drop (i + 1))) (i + 1 + (p.data.toList.drop (i + 1)).idxOf 93) rfl (fun _ => rfl) (fun h w' hb => ⟨hb, ?_⟩) (fun S hS h0 w' hb hr => ⟨hb, ?_⟩)
   ·have hn : setR (p.data.toList.drop i) = none := by
     rw [hset]
     rcases h with h | h
     ·rw [h]
      split <;> rfl
     ·rw [if_pos h]
    rw [hn]
   ·rw [hset, if_neg h0, hS]
    refine ⟨?_, ?_⟩
    ·rw [show i + 1 + (p.data.toList.drop (i + 1)).idxOf 93 = i + ((p.data.toList.drop (i + 1)).idxOf 93 + 1) from by omega]
    ·rw [hr, row_not]
  ·have hset := setR_plain h33 (p.data.toList.drop (i + 1))
   rw [← hd] at hset
   have h0d : (p.data.toList.drop i)[0]? = some c := by rw [hd]; rfl
   refine set_plain p i E w hp ht hlt hE hEb c hc (beq_eq_false_iff_ne.2 h33) _ (memR (fun _ => false) (p.data.toList.drop i)) (i + (p.data.toList.drop i).idxOf 93) rfl (fun _ => rfl) (fun h w' hb => ⟨hb, ?_⟩) (fun S hS h0 w' hb hr => ⟨hb, ?_⟩)
   ·have hn : setR (p.data.toList.drop i) = none := by
     rw [hset]
     rcases h with h | h
     ·rw [h]
      split <;> rfl
     ·rw [h0d] at h
      rw [if_pos (by simpa using h)]
    rw [hn]
   ·rw [h0d] at h0
    rw [hset, if_neg (fun e => h0 (by rw [e])), hS]
    refine ⟨rfl, ?_⟩
    rw [hr, row_text S (memR_ok (drop_text ht i) hS)]
 ·obtain rfl : i = p.size := by omega
  exact set_nil p p.size E w rfl hE
/-- The first element, as the reference asks. -/
theorem firstEl_set {r : List UInt8} : firstEl 91 r = (setR r).map fun x => (⟨false, false, x.1⟩, x.2 + 1) := by
 unfold firstEl setR
 rw [if_neg (by decide), if_neg (by decide), if_pos rfl]
 split
 ·cases setB (r.take (r.idxOf 93)) <;> rfl
 ·rfl
def setOfE (e : El) : UInt8 → Bool := if e.star then fun _ => false else e.set
def rowOf (e : El) : Array Value := elRow e.star e.self (setOfE e)
theorem rowOf_size (e : El) : (rowOf e).size = 130 := elRow_size _ _ _
theorem rowOf_one (e : El) : ∀ u ∈ (rowOf e).toList, u.oneCell' = true := by
 intro u hu
 unfold rowOf elRow boolRow at hu
 simp only [Array.toList_append, List.mem_append, List.mem_cons, List.not_mem_nil, or_false, List.mem_map] at hu
 rcases hu with (rfl | rfl) | ⟨c, _, rfl⟩ <;> rfl
theorem rowOf_0 (e : El) : (rowOf e)[0]? = some (.bool e.star) := by
 unfold rowOf elRow
 rw [Array.getElem?_append_left (by simp)]
 rfl
theorem rowOf_1 (e : El) : (rowOf e)[1]? = some (.bool e.self) := by
 unfold rowOf elRow
 rw [Array.getElem?_append_left (by simp)]
 rfl
def pVs (l : List El) : List Value := l.flatMap fun e => (rowOf e).toList
theorem pVs_length (l : List El) : (pVs l).length = l.length * 130 := by
 induction l with
 | nil => rfl
 | cons e r ih =>
  have : pVs (e :: r) = (rowOf e).toList ++ pVs r := rfl
  rw [this, List.length_append, ih, List.length_cons, Array.length_toList, rowOf_size]
  omega
theorem pVs_snoc (l : List El) (e : El) : pVs (l ++ [e]) = pVs l ++ (rowOf e).toList := by
 unfold pVs
 rw [List.flatMap_append]
 simp
theorem pVs_get : ∀ (l : List El) (i : Nat) (e : El) (j : Nat), l[i]? = some e → j < 130 → (pVs l)[i * 130 + j]? = (rowOf e)[j]?
 | [], i, e, j, h, _ => by simp at h
 | f :: r, 0, e, j, h, hj => by
  have hf : f = e := by simpa using h
  subst hf
  show ((rowOf f).toList ++ pVs r)[0 * 130 + j]? = _
  rw [List.getElem?_append_left (by rw [Array.length_toList, rowOf_size]; omega)]
  simp
 | f :: r, i + 1, e, j, h, hj => by
  show ((rowOf f).toList ++ pVs r)[(i + 1) * 130 + j]? = _
  rw [List.getElem?_append_right (by rw [Array.length_toList, rowOf_size]; omega), Array.length_toList, rowOf_size, show (i + 1) * 130 + j - 130 = i * 130 + j from by omega]
  exact pVs_get r i e j (by simpa using h) hj
/-- The elements l lie in the block g. -/
def PElsAt (w : World) (g : Nat) (l : List El) : Prop := ∀ (i : Nat) (e : El), l[i]? = some e → w.cell? ⟨g, i * 130, none⟩ = some (.bool e.star) ∧ w.cell? ⟨g, i * 130 + 1, none⟩ = some (.bool e.self) ∧ ∀ c : Nat, c < 128 → w.cell? ⟨g, i * 130 + (2 + c), none⟩ = some (.bool (setOfE e (UInt8.ofNat c)))
theorem pElsAt_of {w : World} {B g cap : Nat} {l : List El} (h : w.ownsRow B 139 130 (.slice (some ⟨g, 0, none⟩) l.length cap) l.length (pVs l)) : PElsAt w g l := by
 intro i e he
 have hi := (List.getElem?_eq_some_iff.1 he).1
 have key : ∀ j, j < 130 → w.cell? ⟨g, i * 130 + j, none⟩ = (rowOf e)[j]? := fun j hj => by
  rw [h.cellAt (i * 130 + j) (by omega), pVs_get l i e j he hj]
 refine ⟨(key 0 (by omega)).trans (rowOf_0 e), (key 1 (by omega)).trans (rowOf_1 e), fun c hc => (key (2 + c) (by omega)).trans (elRow_get _ _ _ c hc)⟩
/-- While the pattern is read: the alternatives A, and l, to which elements are appended; its row is younger than the other alternatives'. -/
structure PInv (w : World) (B' G cap : Nat) (A : List (List El)) (l : List El) (vs : List Value) (vl : Value) (wx : World) : Prop where
 outer : wx.ownsRow w.heap.size 98 1 (.slice (some ⟨G, 0, none⟩) (A.length + 1) cap) (A.length + 1) (vs ++ [vl])
 len : vs.length = A.length
 rows : ∀ (j : Nat) (v : Value) (a : List El), vs[j]? = some v → A[j]? = some a → wx.ownsRow w.heap.size 139 130 v a.length (pVs a) ∧ (∀ b, v.ownBlock = some b → b < B')
 last : wx.ownsRow B' 139 130 vl l.length (pVs l)
 B : w.heap.size ≤ B'
 B2 : B' ≤ wx.heap.size
 below : Below w.heap.size w wx
theorem PInv.later {w wx w' : World} {B' G cap : Nat} {A : List (List El)} {l : List El} {vs : List Value} {vl : Value} (h : PInv w B' G cap A l vs vl wx) (hb : Below wx.heap.size wx w') : PInv w B' G cap A l vs vl w' :=
 ⟨ownsRow_below h.outer hb, h.len, fun j v a hj ha => ⟨ownsRow_below (h.rows j v a hj ha).1 hb, (h.rows j v a hj ha).2⟩, ownsRow_below h.last hb, h.B, Nat.le_trans h.B2 hb.size, h.below.trans (hb.mono h.below.size)⟩
/-- Behind a "|". -/
theorem PInv.bar {w wx w1 : World} {B' G cap : Nat} {A : List (List El)} {l : List El} {vs : List Value} {vl v' : Value} {tmp : Obj} (h : PInv w B' G cap A l vs vl wx)
  (hown : w1.ownsRow w.heap.size 98 1 v' (A.length + 1 + 1) ((vs ++ [vl]) ++ [.slice none 0 0])) (hg : (wx.alloc tmp).grownBy w1 (some G)) :
  ∃ G' cap', v' = .slice (some ⟨G', 0, none⟩) ((A ++ [l]).length + 1) cap' ∧ PInv w w1.heap.size G' cap' (A ++ [l]) [] (vs ++ [vl]) (.slice none 0 0) w1 := by
 obtain ⟨G', cap', hv', _, _⟩ := form_some hown (by omega)
 have hlen : (A ++ [l]).length + 1 = A.length + 1 + 1 := by simp
 rw [hlen]
 refine ⟨G', cap', hv', ?_⟩
 have hsz : wx.heap.size ≤ w1.heap.size := Nat.le_trans (by simp) hg.size
 have hrow : ∀ {C : Nat} {v : Value} {a : List El}, wx.ownsRow C 139 130 v a.length (pVs a) → w1.ownsRow C 139 130 v a.length (pVs a) := by
  intro C v a hr
  refine (hr.alloc tmp).kept hg ?_
  cases hb : v.ownBlock with
  | none => exact Or.inl rfl
  | some b =>
   right
   have := ownsRow_type hr h.outer (by decide) (by rw [hb]; simp)
   rwa [hb] at this
 refine ⟨by rw [hlen, ← hv']; exact hown, by simp [h.len], fun j v a hj ha => ?_, World.ownsRow_nil _ _ _ _, Nat.le_trans h.below.size hsz, Nat.le_refl _, ?_⟩
 ·rcases Nat.lt_or_ge j vs.length with hlt | hge
  ·rw [List.getElem?_append_left hlt] at hj
   rw [List.getElem?_append_left (by rw [← h.len]; exact hlt)] at ha
   obtain ⟨h1, h2⟩ := h.rows j v a hj ha
   exact ⟨hrow h1, fun b hb => Nat.lt_of_lt_of_le (h2 b hb) (Nat.le_trans h.B2 hsz)⟩
  ·rw [List.getElem?_append_right hge] at hj
   rw [List.getElem?_append_right (by rw [← h.len]; exact hge), ← h.len] at ha
   have hj0 : j - vs.length = 0 := by
    rcases Nat.eq_zero_or_pos (j - vs.length) with h0 | h0
    ·exact h0
    ·rw [List.getElem?_eq_none (by simp; omega)] at hj; simp at hj
   rw [hj0] at hj ha
   simp only [List.getElem?_cons_zero, Option.some.injEq] at hj ha
   subst hj
   subst ha
   exact ⟨ownsRow_mono (hrow h.last) h.B, fun b hb => Nat.lt_of_lt_of_le (h.last.lt b hb).2 hsz⟩
 ·have hG : w.heap.size ≤ G := (h.outer.lt G rfl).1
  refine (h.below.alloc h.below.size tmp).grown hg (Nat.le_trans h.below.size (by simp)) fun k hk => ?_
  cases hk
  exact hG
/-- Behind an element. -/
theorem PInv.elem {w wx w1 : World} {B' G cap : Nat} {A : List (List El)} {l : List El} {vs : List Value} {vl v' : Value} {tmp : Obj} {e : El} (h : PInv w B' G cap A l vs vl wx)
  (hown : w1.ownsRow B' 139 130 v' (l.length + 1) (pVs l ++ (rowOf e).toList)) (hg : (wx.alloc tmp).grownBy w1 vl.ownBlock) :
  PInv w B' G cap A (l ++ [e]) vs v' (w1.setCell ⟨G, A.length, none⟩ v') ∧ w1.cell? ⟨G, A.length, none⟩ = some vl ∧ w1.frozen? ⟨G, A.length, none⟩ = false := by
 have hsz : wx.heap.size ≤ w1.heap.size := Nat.le_trans (by simp) hg.size
 have hout : w1.ownsRow w.heap.size 98 1 (.slice (some ⟨G, 0, none⟩) (A.length + 1) cap) (A.length + 1) (vs ++ [vl]) := by
  refine (h.outer.alloc tmp).kept hg (Or.inr ?_)
  exact ownsRow_type h.outer h.last (by decide) (by simp [Value.ownBlock])
 have hGB : w.heap.size ≤ G := (h.outer.lt G rfl).1
 have hrows : ∀ {C : Nat} {v : Value} {a : List El}, w1.ownsRow C 139 130 v a.length (pVs a) → (w1.setCell ⟨G, A.length, none⟩ v').ownsRow C 139 130 v a.length (pVs a) := by
  intro C v a hr
  refine ownsRow_setCell_other hr ?_ _
  intro he
  have := ownsRow_type hr hout (by decide) (by rw [he]; simp)
  rw [he] at this
  exact this rfl
 have hstored := hout.stored A.length v'
 have hset : (vs ++ [vl]).set A.length v' = vs ++ [v'] := by
  rw [← h.len, List.set_append_right _ _ (Nat.le_refl _), Nat.sub_self]
  rfl
 refine ⟨⟨?_, h.len, fun j v a hj ha => ?_, ?_, h.B, ?_, ?_⟩, ?_, hout.frozenAt _⟩
 ·rw [← hset]
  exact hstored.1
 ·obtain ⟨h1, h2⟩ := h.rows j v a hj ha
  refine ⟨hrows ((h1.alloc tmp).kept hg ?_), h2⟩
  cases hb : v.ownBlock with
  | none => exact Or.inl rfl
  | some b =>
   right
   have hlt := h2 b hb
   intro e2
   have := (h.last.lt b e2.symm).1
   omega
 ·have h0 := hrows (a := l ++ [e]) (v := v') (C := B') (by rw [List.length_append, pVs_snoc]; exact hown)
  exact h0
 ·rw [World.size_setCell]; exact Nat.le_trans h.B2 hsz
 ·refine Below.setCell ?_ hGB _
  refine (h.below.alloc h.below.size tmp).grown hg (Nat.le_trans h.below.size (by simp)) fun k hk => ?_
  exact Nat.le_trans h.B (h.last.lt k hk).1
 ·rw [hout.cellAt A.length (by omega), ← h.len]
  simp
/-- The alternatives L lie behind the slice v. -/
def PAltsAt (w : World) (v : Value) (L : List (List El)) : Prop := ∃ G cap, v = .slice (some ⟨G, 0, none⟩) L.length cap ∧ G < w.heap.size ∧ L.length ≤ cap ∧
 ∀ (j : Nat) (a : List El), L[j]? = some a → ∃ aj cj gj, w.cell? ⟨G, j, none⟩ = some (.slice aj a.length cj) ∧ (0 < a.length → aj = some ⟨gj, 0, none⟩) ∧ gj < w.heap.size ∧ PElsAt w gj a
theorem pRow_read {w : World} {B : Nat} {v : Value} {a : List El} (h : w.ownsRow B 139 130 v a.length (pVs a)) (hpos : 0 < w.heap.size) : ∃ aj cj gj, v = .slice aj a.length cj ∧ (0 < a.length → aj = some ⟨gj, 0, none⟩) ∧ gj < w.heap.size ∧ PElsAt w gj a := by
 rcases h.2 with ⟨rfl, h0⟩ | ⟨g, cap, cur, rfl, hB, hg, _⟩
 ·refine ⟨none, 0, 0, by rw [h0], fun h => by omega, hpos, ?_⟩
  have : a = [] := List.length_eq_zero_iff.1 h0
  subst this
  intro i e he
  simp at he
 ·exact ⟨some ⟨g, 0, none⟩, cap, g, rfl, fun _ => rfl, (Array.getElem?_eq_some_iff.1 hg).1, pElsAt_of h⟩
theorem PInv.alts {w wx : World} {B' G cap : Nat} {A : List (List El)} {l : List El} {vs : List Value} {vl : Value} (h : PInv w B' G cap A l vs vl wx) : PAltsAt wx (.slice (some ⟨G, 0, none⟩) (A.length + 1) cap) (A ++ [l]) := by
 have hG := (h.outer.lt G rfl).2
 have hcap : A.length + 1 ≤ cap := by
  rcases h.outer.2 with ⟨h0, _⟩ | ⟨g, cp, cur, h0, _, _, h1, _⟩
  ·simp at h0
  ·cases h0
   exact h1
 refine ⟨G, cap, by simp, hG, by simpa using hcap, fun j a hj => ?_⟩
 have hjl : j < A.length + 1 := by have := (List.getElem?_eq_some_iff.1 hj).1; simpa using this
 have hc := h.outer.cellAt j (by omega)
 rcases Nat.lt_or_ge j A.length with hlt | hge
 ·rw [List.getElem?_append_left hlt] at hj
  obtain ⟨v, hv⟩ : ∃ v, vs[j]? = some v := ⟨vs[j]'(by rw [h.len]; exact hlt), List.getElem?_eq_getElem _⟩
  rw [List.getElem?_append_left (by rw [h.len]; exact hlt), hv] at hc
  obtain ⟨aj, cj, gj, rfl, h1, h2, h3⟩ := pRow_read (h.rows j v a hv hj).1 (by omega)
  exact ⟨aj, cj, gj, hc, h1, h2, h3⟩
 ·obtain rfl : j = A.length := by omega
  rw [List.getElem?_append_right (Nat.le_refl _), Nat.sub_self] at hj
  simp only [List.getElem?_cons_zero, Option.some.injEq] at hj
  subst hj
  rw [List.getElem?_append_right (by rw [h.len]; exact Nat.le_refl _), h.len, Nat.sub_self] at hc
  obtain ⟨aj, cj, gj, rfl, h1, h2, h3⟩ := pRow_read h.last (by omega)
  exact ⟨aj, cj, gj, hc, h1, h2, h3⟩
theorem PInv.first {w : World} : PInv w (w.alloc (.cells #[.slice none 0 0] 98)).heap.size w.heap.size 1 [] [] [] (.slice none 0 0) (w.alloc (.cells #[.slice none 0 0] 98)) := by
 refine ⟨?_, rfl, fun j v a hj _ => by simp at hj, World.ownsRow_nil _ _ _ _, by simp, Nat.le_refl _, (Below.refl _ w).alloc (Nat.le_refl _) _⟩
 exact ⟨rfl, Or.inr ⟨w.heap.size, 1, #[.slice none 0 0], rfl, Nat.le_refl _, heap_alloc_last w _, Nat.le_refl _, by unfold maxLen; omega, rfl, rfl⟩⟩
/-- A load of a whole row yields in every world in which the row lies. -/
theorem yieldsIf_load_row {P : Program} {ops : Array Oper} {S : World → Prop} {op : Oper} {a : Act} (hw : Region.wanted op (yielded ops a.tmps) = true) (ty : TypeId) (x : Operand) (ho : op.op = .load ty x)
  (g : Nat) (hx : a.eval x = .pointer (some ⟨g, 0, none⟩)) (t : TypeId) (cs : Array Value) (fr : Nat × Nat) (d : TypeDesc) (hS : ∀ w, S w → w.heap[g]? = some (.cells cs t fr))
  (hu : P.underlying ty = some d) (hd : (match d with | .struct _ | .array _ _ => true | _ => false) = true) (hi : (P.info? ty).map (·.size) = some cs.size) : YieldsIf P ops S op (.agg cs) a :=
 .inl ⟨hw, fun w hw' => by
  unfold execOp
  simp only [ho, hx, Instr.loadAt, Instr.sureAddr, Sem.run_bind, Sem.run_pure, Result.andThen_ok, run_loadVar_row w g t ty cs fr d (hS w hw') hu hd hi]⟩
/-- A slice literal of one element that is a row. -/
theorem step_build_row {P : Program} {ops : Array Oper} {o : Oper} {a : Act} {w : World} {K : Act → World → Prop} {Q : Exit → Act → World → Prop} {E : Prop} (hg : o.guard = none) (t e : TypeId) (x : Operand) (ho : o.op = .buildSlice t 1 #[(0, x)])
  (cs : Array Value) (ie : TypeInfo) (z : Value) (hx : a.eval x = .agg cs)
  (hu : P.underlying t = some (.slice e)) (hie : P.info? e = some ie) (hz : ie.zero = some z) (hs : ie.size = cs.size) (hpos : 0 < cs.size) (hsmall : cs.size ≤ 2 ^ 24)
  (h : K (a.put o.dst (.slice (some ⟨w.heap.size, 0, none⟩) 1 1)) (w.alloc (.cells cs e))) : if Region.wanted o (yielded ops a.tmps) = true then Oper.wp P o a w K Q else E := by
 have hw : Region.wanted o (yielded ops a.tmps) = true := by simp [Region.wanted, hg]
 rw [if_pos hw]
 refine wp_buildSlice t e 1 #[(0, x)] ho cs ie z hu hie hz (by rw [hs]; omega) (by rw [hs]; omega) ?_ h
 have hp : ((#[(0, x)] : Array (Nat × Operand)).map fun (i, x) => (i, a.eval x)).toList = (([Value.agg cs].zipIdx 0).map fun x => (x.2, x.1)) := by
  simp [hx]
 rw [hp, hs]
 have hf := Great.fill_whole hpos [Value.agg cs] ((Array.range (1 * cs.size)).map (z.cells[· % z.cells.size]!)) (fun v hv => by rw [List.mem_singleton.1 hv]; rfl) (by simp)
 rw [hf]
 congr 1
 simp [Value.cells]
end Go.Proofs.YtdlchlbngojljaaDoor.Gl
namespace Go.Proofs.YtdlchlbngojljaaDoor.Gl
open Go.RowKit
def ZR : Array Value := elRow false false fun _ => false
theorem info68 : (Tryd.prog.info? 139).map (fun i => (i.zero, i.size)) = some (some (.agg ZR), 130) := by kernel_rfl
theorem info68b : (Tryd.prog.info? 139).map (fun i => (i.zero, i.size, i.bytes)) = some (some (.agg ZR), 130, 130) := by kernel_rfl
theorem info45b : (Tryd.prog.info? 98).map (fun i => (i.zero, i.size, i.bytes)) = some (some (.slice none 0 0), 1, 24) := by kernel_rfl
theorem ZR_get0 : ZR[0]? = some (.bool false) := rowOf_0 ⟨false, false, fun _ => false⟩
theorem ZR_get1 : ZR[1]? = some (.bool false) := rowOf_1 ⟨false, false, fun _ => false⟩
theorem ZR_get (c : Nat) (h : c < 128) : ZR[2 + c]? = some (.bool false) := elRow_get _ _ _ c h
theorem map_nil_app {P : Option (List (Option El))} : P.map (([] : List (Option El)) ++ ·) = P := by cases P <;> rfl
theorem next_el {P : Option (List (Option El))} {l : List UInt8} {i k : Nat} {x : UInt8} {e : El} {T : List (Option El)} (hd : l.drop i = x :: l.drop (i + 1)) (hb : x ≠ 124) (hf : firstEl x (l.drop (i + 1)) = some (e, k)) (ht : (toks (l.drop i)).map (T ++ ·) = P) :
  (toks (l.drop (i + k + 1))).map ((T ++ [some e]) ++ ·) = P := by
 rw [hd, toks_cons, if_neg hb, hf] at ht
 simp only [List.drop_drop] at ht
 rw [← ht, show i + k + 1 = i + 1 + k from by omega]
 cases toks (l.drop (i + 1 + k)) <;> simp
theorem next_bar {P : Option (List (Option El))} {l : List UInt8} {i : Nat} {T : List (Option El)} (hd : l.drop i = 124 :: l.drop (i + 1)) (ht : (toks (l.drop i)).map (T ++ ·) = P) :
  (toks (l.drop (i + 1))).map ((T ++ [none]) ++ ·) = P := by
 rw [hd, toks_cons, if_pos rfl] at ht
 rw [← ht]
 cases toks (l.drop (i + 1)) <;> simp
theorem next_none {P : Option (List (Option El))} {l : List UInt8} {i : Nat} {x : UInt8} {T : List (Option El)} (hd : l.drop i = x :: l.drop (i + 1)) (hb : x ≠ 124) (hf : firstEl x (l.drop (i + 1)) = none) (ht : (toks (l.drop i)).map (T ++ ·) = P) : P = none := by
 rw [hd, toks_cons, if_neg hb, hf] at ht
 exact ht.symm
theorem setR_lt {r : List UInt8} {S : UInt8 → Bool} {k : Nat} (h : setR r = some (S, k)) : k < r.length := by
 unfold setR at h
 split at h
 ·rename_i hc
  simp only [Option.map_eq_some_iff, Prod.mk.injEq] at h
  obtain ⟨_, _, _, rfl⟩ := h
  exact List.idxOf_lt_length_iff.2 (by simpa using hc)
 ·cases h
theorem row_star : ZR.setIfInBounds 0 (.bool true) = rowOf ⟨true, false, isText⟩ := by
 unfold ZR rowOf elRow setOfE
 rw [Array.setIfInBounds_append_left (by simp)]
 rfl
theorem row_lit (x : UInt8) (h : x.toNat < 128) : (ZR.setIfInBounds 1 (.bool true)).setIfInBounds (2 + x.toNat) (.bool true) = rowOf ⟨false, true, fun y => y == x⟩ := by
 have h1 : ZR.setIfInBounds 1 (.bool true) = elRow false true fun _ => false := by
  unfold ZR elRow
  rw [Array.setIfInBounds_append_left (by simp)]
  rfl
 rw [h1, elRow_put _ _ _ x.toNat true h]
 refine congrArg (elRow false true) (funext fun y => ?_)
 simp only [UInt8.ofNat_toNat]
 by_cases hy : y = x
 ·simp [hy, setOfE]
 ·simp [hy, setOfE]
theorem row_lit' (x : UInt8) (h : x.toNat < 128) : (ZR.setIfInBounds (2 + x.toNat) (.bool true)).setIfInBounds 1 (.bool true) = rowOf ⟨false, true, fun y => y == x⟩ := by
 rw [← row_lit x h]
 apply Array.ext_getElem?
 intro i
 simp only [Array.getElem?_setIfInBounds, Array.size_setIfInBounds]
 by_cases h1 : 1 = i
 ·subst h1
  by_cases h2 : 2 + x.toNat = 1
  ·omega
  ·simp [h2]
 ·simp [h1]
theorem low_start : elRow false false (fun y : UInt8 => decide (32 ≤ y.toNat) && decide (y.toNat < 32)) = ZR := by
 have : (fun y : UInt8 => decide (32 ≤ y.toNat) && decide (y.toNat < 32)) = fun _ => false := by
  funext y
  rw [Bool.and_eq_false_iff, decide_eq_false_iff_not, decide_eq_false_iff_not]
  omega
 rw [this]
 rfl
theorem low_next (c : Nat) (h : 32 ≤ c) (h2 : c < 128) : (elRow false false fun y : UInt8 => decide (32 ≤ y.toNat) && decide (y.toNat < c)).setIfInBounds (2 + c) (.bool true) = elRow false false fun y : UInt8 => decide (32 ≤ y.toNat) && decide (y.toNat < c + 1) := by
 rw [elRow_put _ _ _ c true h2]
 congr 1
 funext y
 by_cases hy : y = UInt8.ofNat c
 ·have hn : y.toNat = c := by rw [hy]; simp; omega
  rw [if_pos hy, decide_eq_true (by omega : 32 ≤ y.toNat), decide_eq_true (by omega : y.toNat < c + 1)]
  rfl
 ·have hn : y.toNat ≠ c := fun e => hy (UInt8.toNat_inj.1 (by rw [e]; simp; omega))
  rw [if_neg hy]
  congr 1
  rw [decide_eq_decide]
  omega
theorem low_end : (elRow false false fun y : UInt8 => decide (32 ≤ y.toNat) && decide (y.toNat < 127)) = rowOf ⟨false, false, isText⟩ := by
 show _ = elRow false false isText
 congr 1
 funext y
 unfold isText
 congr 1
 rw [decide_eq_decide]
 omega
/-- What Parse answers. -/
def ParsePost (p : List UInt8) (w : World) (e : Ending) (w' : World) : Prop := Below w.heap.size w w' ∧
 if p.all isText = false then e = .returned (.tuple #[.slice none 0 0, .bool false])
 else match toks p with
  | none => e = .returned (.tuple #[.slice none 0 0, .bool false])
  | some T => ∃ v, e = .returned (.tuple #[v, .bool true]) ∧ PAltsAt w' v (altsOf T)
set_option maxHeartbeats 4000000 in
set_option maxRecDepth 100000 in
theorem parse_any (p : ByteArray) (w : World) (hp : p.size ≤ 256) : Calls Tryd.prog 49 #[.string p] w (ParsePost p.data.toList w) := by
 have hsz := Lib.size_eq p
 have hpr := fun W => printable_any p W (by omega)
 cases hall : p.data.toList.all isText with
 | false =>
  have hv : ∀ e w', Below w.heap.size w w' → e = .returned (.tuple #[.slice none 0 0, .bool false]) → ParsePost p.data.toList w e w' := fun e w' h1 h2 => ⟨h1, by rw [if_pos hall]; exact h2⟩
  rw [hall] at hpr
  have Hv := Lib.hid hv
  have Hpr := Lib.hid hpr
  clear hv hsz hpr hall
  go_enter Tryd.func49, Tryd.ntmps49
  go_wp2_with fail
  refine (Hpr.out _).mono ?_
  rintro ed W1 ⟨rfl, rfl⟩
  go_wp2
  go_ret2
  exact Hv.out _ _ (Below.refl _ _) rfl
 | true =>
  have hv : ∀ e w', Below w.heap.size w w' → (match toks p.data.toList with | none => e = .returned (.tuple #[.slice none 0 0, .bool false]) | some T => ∃ v, e = .returned (.tuple #[v, .bool true]) ∧ PAltsAt w' v (altsOf T)) → ParsePost p.data.toList w e w' := fun e w' h1 h2 => ⟨h1, by rw [if_neg (by rw [hall]; simp)]; exact h2⟩
  rw [hall] at hpr
  have Hv := Lib.hid hv
  have Hpr := Lib.hid hpr
  have Hall := Lib.hid hall
  clear hv hsz hpr hall
  obtain ⟨i0, hi0, hz0, hz1, hz2⟩ := info_parts info45b
  obtain ⟨i3, hi3, hy0, hy1, hy2⟩ := info_parts info68b
  have hv68 := (zero_of_info (P := Tryd.prog) info68).1
  have Hfirst := Lib.hid (PInv.first (w := w))
  go_enter Tryd.func49, Tryd.ntmps49
  go_wp2_with fail
  refine (Hpr.out _).mono ?_
  rintro ed W1 ⟨rfl, hw1⟩
  have hw2 := hw1.symm
  subst hw2
  clear hw1
  go_wp2
  go_loopw [4, 5] (fun s4 s5 wx => ∃ (i : Nat) (T : List (Option El)) (A : List (List El)) (l : List El) (vs : List Value) (vl : Value) (B' G cap : Nat), s5 = .int .i64 (i : Int) ∧ s4 = .slice (some ⟨G, 0, none⟩) (A.length + 1) cap ∧ altsOf T = A ++ [l] ∧ PInv w B' G cap A l vs vl wx ∧ (toks (p.data.toList.drop i)).map (T ++ ·) = toks p.data.toList ∧ i ≤ p.size ∧ A.length ≤ i ∧ l.length ≤ i) (fun _ s5 _ => p.size - (intOf s5).toNat)
  case atStart => exact ⟨0, [], [], [], [], _, _, _, 1, rfl, rfl, rfl, Hfirst.out, by rw [List.drop_zero]; exact map_nil_app, by omega, by simp, by simp⟩
  case round =>
   obtain ⟨i, T, A, l, vs, vl, B', G, cap, rfl, rfl, halts, hinv, htoks, hi, hA, hl⟩ := hrel
   have Hinv := Lib.hid hinv
   have Halts := Lib.hid halts
   have Htoks := Lib.hid htoks
   clear hinv halts htoks
   by_cases hlt : (i : Int) < (p.size : Int)
   ·obtain ⟨x, hx⟩ : ∃ x : UInt8, p[i]'(by omega) = x := ⟨_, rfl⟩
    have hxl : p.data.toList[i]? = some x := by rw [← hx]; exact Lib.data_getElem? p i (by omega)
    have hd := drop_at8 hxl
    have hxt : isText x = true := List.all_eq_true.1 Hall.out x (List.mem_of_getElem? hxl)
    have hx127 : x.toNat ≤ 126 := by
     unfold isText at hxt
     simp only [Bool.and_eq_true, decide_eq_true_eq] at hxt
     exact hxt.2
    have Hd := Lib.hid hd
    have hsz := Lib.size_eq p
    have Hsz := Lib.hid hsz
    clear hxl hd hxt hsz
    go_upto_block 2 with fail
    have hrow := heap_alloc_last wr (.cells ZR 139)
    have hbel : Below wr.heap.size wr (wr.alloc (.cells ZR 139)) := (Below.refl _ _).alloc (Nat.le_refl _) _
    have hsa : (wr.alloc (.cells ZR 139)).heap.size = wr.heap.size + 1 := by simp
    obtain ⟨E, hE⟩ : ∃ E, wr.heap.size = E := ⟨_, rfl⟩
    rw [hE] at hrow hbel hsa ⊢
    generalize wr.alloc (.cells ZR 139) = Wa at *
    have HE := Lib.hid hE
    have Hrow := Lib.hid hrow
    have Hbel := Lib.hid hbel
    have Hsa := Lib.hid hsa
    clear hE hrow hbel hsa
    go_cut [4, 5] (fun s4 s5 wx => s4 = .slice (some ⟨G, 0, none⟩) (A.length + 1) cap ∧ ∃ (e : El) (j : Nat), s5 = .int .i64 (j : Int) ∧ wx.heap[E]? = some (.cells (rowOf e) 139 (0, 0)) ∧ Below E wr wx ∧ (toks (p.data.toList.drop (j + 1))).map ((T ++ [some e]) ++ ·) = toks p.data.toList ∧ i ≤ j ∧ j < p.size)
    case first =>
     by_cases h124 : x = 124
     ·subst h124
      have hnext := next_bar Hd.out Htoks.out
      have halts2 : altsOf (T ++ [none]) = (A ++ [l]) ++ [[]] := by rw [altsOf_none, Halts.out]; rfl
      have hinv2 : PInv w B' G cap A l vs vl Wa := Hinv.out.later (by rw [HE.out]; exact Hbel.out)
      have Hnext := Lib.hid hnext
      have Halts2 := Lib.hid halts2
      have Hinv2 := Lib.hid hinv2
      have hA2 : A.length + 1 + 1 ≤ 1000 := by omega
      clear hnext halts2 hinv2
      go_wp2_with (at_builtin; refine wpList_append_own _ rfl _ _ 91 rfl w.heap.size 98 i0 _ 1 24 Tryd.underlying91 hi0 hz0 hz1 hz2 rfl (by decide) _ _ _ rfl (Hinv2.out.outer.alloc _) ⟨Wa.heap.size, 0, none⟩ 1 1 [.slice none 0 0] rfl rfl (cell_one_new _ _ _) (by simp [Value.oneCell']) (by unfold maxLen; omega) (by omega) (Nat.le_trans Hinv2.out.below.size (by simp)) ?_; intro v' w1 hown' hgrow _; have Hbar := Lib.hid (Hinv2.out.bar hown' hgrow); clear hown' hgrow)
      obtain ⟨G', cap', rfl, hinv'⟩ := Hbar.out
      exact ⟨⟨i + 1, T ++ [none], A ++ [l], [], vs ++ [vl], .slice none 0 0, _, G', cap', rfl, rfl, Halts2.out, hinv', Hnext.out, by omega, by simp; omega, by simp⟩, by simp [intOf]; omega⟩
     ·have n124 := byte_ne (x := x) (k := 124) (by omega) h124
      by_cases h42 : x = 42
      ·subst h42
       have hnext := next_el (T := T) (e := ⟨true, false, isText⟩) (k := 0) Hd.out h124 (by unfold firstEl; rw [if_pos rfl]) Htoks.out
       have hc0 := cell_of_row _ E 0 _ _ _ Hrow.out
       rw [ZR_get0] at hc0
       have hf0 := frozen_of_row _ E 0 _ _ Hrow.out
       have hr := block_setCell4 (i := 0) Hrow.out (.bool true)
       rw [row_star] at hr
       have HF := Lib.hid (And.intro hr (And.intro (Hbel.out.setCell (p := ⟨E, 0, none⟩) (Nat.le_refl _) (.bool true)) hnext))
       clear hnext hr
       go_wp2
       go_meet
       exact ⟨rfl, _, i, rfl, HF.out.1, HF.out.2.1, HF.out.2.2, Nat.le_refl _, by omega⟩
      ·have n42 := byte_ne (x := x) (k := 42) (by omega) h42
       by_cases h63 : x = 63
       ·subst h63
        have hnext := next_el (T := T) (e := ⟨false, false, isText⟩) (k := 0) Hd.out h124 (by unfold firstEl; rw [if_neg h42, if_pos rfl]) Htoks.out
        have Hnext := Lib.hid hnext
        clear hnext
        go_wp2
        go_loopw [7] (fun s7 wx => ∃ c : Nat, 32 ≤ c ∧ c ≤ 127 ∧ s7 = .int .i64 (c : Int) ∧ wx.heap[E]? = some (.cells (elRow false false fun y => decide (32 ≤ y.toNat) && decide (y.toNat < c)) 139 (0, 0)) ∧ Below E wr wx) (fun s7 _ => 127 - (intOf s7).toNat)
        case atStart => exact ⟨32, Nat.le_refl _, by omega, rfl, by rw [low_start]; exact Hrow.out, Hbel.out⟩
        case round =>
         obtain ⟨c, hc1, hc2, rfl, hEr, hb⟩ := hrel
         have HEr := Lib.hid hEr
         have Hb := Lib.hid hb
         clear hEr hb
         by_cases hle : (c : Int) ≤ 126
         ·have hci : (c : Int) < 128 := by omega
          have hcell := cell_of_row _ E (2 + c) _ _ _ HEr.out
          rw [elRow_get _ _ _ c (by omega)] at hcell
          have hfz := frozen_of_row _ E (2 + c) _ _ HEr.out
          have hset := block_setCell4 (i := 2 + c) HEr.out (.bool true)
          rw [low_next c hc1 (by omega)] at hset
          have Hset := Lib.hid hset
          clear hset
          go_wp2
          exact ⟨⟨c + 1, by omega, by omega, rfl, Hset.out, Hb.out.setCell (Nat.le_refl _) _⟩, by simp [intOf]; omega⟩
         ·obtain rfl : c = 127 := by omega
          have hr := HEr.out
          rw [low_end] at hr
          have Hr := Lib.hid hr
          clear hr
          go_wp2
          go_meet
          exact ⟨rfl, _, i, rfl, Hr.out, Hb.out, Hnext.out, Nat.le_refl _, by omega⟩
       ·have n63 := byte_ne (x := x) (k := 63) (by omega) h63
        by_cases h91 : x = 91
        ·subst h91
         have hcall := set_any p (i + 1) E Wa (by omega) Hall.out (by omega) (by rw [Hsa.out]; omega) Hrow.out
         unfold SetPost at hcall
         cases hset : setR (p.data.toList.drop (i + 1)) with
         | none =>
          rw [hset] at hcall
          simp only at hcall
          have hnone := next_none Hd.out h124 (by rw [firstEl_set, hset]; rfl) Htoks.out
          have Hq := Lib.hid (fun w' (hb : Below w.heap.size w w') => Hv.out _ w' hb (by rw [hnone]))
          have Hcall := Lib.hid hcall
          have Hwb := Lib.hid (show Below w.heap.size w Wa from Hinv.out.below.trans (Hbel.out.mono (by rw [← HE.out]; exact Hinv.out.below.size)))
          have Hle := Lib.hid (show w.heap.size ≤ E by rw [← HE.out]; exact Hinv.out.below.size)
          clear hcall hnone hset
          go_wp2_with fail
          refine Hcall.out.mono ?_
          rintro ed W2 ⟨hb2, rfl⟩
          have Hb2 := Lib.hid (Hwb.out.trans (hb2.mono Hle.out))
          clear hb2
          go_wp2
          go_ret2
          exact Hq.out _ Hb2.out
         | some Sk =>
          obtain ⟨S, k⟩ := Sk
          rw [hset] at hcall
          simp only at hcall
          have hklt := setR_lt hset
          have hnext := next_el (T := T) (e := ⟨false, false, S⟩) (k := k + 1) Hd.out h124 (by rw [firstEl_set, hset]; rfl) Htoks.out
          rw [show i + (k + 1) + 1 = i + 1 + k + 1 from by omega] at hnext
          rw [List.length_drop, ← Hsz.out] at hklt
          have Hnext := Lib.hid hnext
          have Hcall := Lib.hid hcall
          clear hcall hnext hset
          go_wp2_with fail
          refine Hcall.out.mono ?_
          rintro ed W2 ⟨hb2, rfl, hr2⟩
          have HF := Lib.hid (And.intro hr2 (Hbel.out.trans hb2))
          clear hb2 hr2
          go_wp2
          go_meet
          exact ⟨rfl, ⟨false, false, S⟩, i + 1 + k, rfl, HF.out.1, HF.out.2, Hnext.out, by omega, by omega⟩
        ·have n91 := byte_ne (x := x) (k := 91) (by omega) h91
         have hnext := next_el (T := T) (e := ⟨false, true, fun y => y == x⟩) (k := 0) Hd.out h124 (by unfold firstEl; rw [if_neg h42, if_neg h63, if_neg h91]) Htoks.out
         have hc1 := cell_of_row _ E 1 _ _ _ Hrow.out
         rw [ZR_get1] at hc1
         have hcx := cell_of_row _ E (2 + x.toNat) _ _ _ Hrow.out
         rw [ZR_get x.toNat (by omega)] at hcx
         have hf1 := frozen_of_row _ E 1 _ _ Hrow.out
         have hfx := frozen_of_row _ E (2 + x.toNat) _ _ Hrow.out
         have hr := block_setCell4 (i := 2 + x.toNat) (block_setCell4 (i := 1) Hrow.out (.bool true)) (.bool true)
         rw [row_lit x (by omega)] at hr
         have hr' := block_setCell4 (i := 1) (block_setCell4 (i := 2 + x.toNat) Hrow.out (.bool true)) (.bool true)
         rw [row_lit' x (by omega)] at hr'
         have HF := Lib.hid (And.intro hr (And.intro hr' hnext))
         have hxi : (x.toNat : Int) < 128 := by omega
         have hne : ¬ 2 + x.toNat = 1 := by omega
         clear hnext hr hr' h124 h42 h63 h91
         go_wp2
         go_region
         all_goals
          go_wp2
          go_meet
          first
           | exact ⟨rfl, _, i, rfl, HF.out.1, ((Hbel.out.setCell (p := ⟨E, 1, none⟩) (Nat.le_refl _) (.bool true)).setCell (p := ⟨E, 2 + x.toNat, none⟩) (Nat.le_refl _) (.bool true)).drew, HF.out.2.2, Nat.le_refl _, by omega⟩
           | exact ⟨rfl, _, i, rfl, HF.out.2.1, ((Hbel.out.setCell (p := ⟨E, 2 + x.toNat, none⟩) (Nat.le_refl _) (.bool true)).setCell (p := ⟨E, 1, none⟩) (Nat.le_refl _) (.bool true)).drew, HF.out.2.2, Nat.le_refl _, by omega⟩
    case rest =>
    obtain ⟨rfl, e, j, rfl, hrow, hbel, htoks, hij, hjp⟩ := hcut
    have hinv2 : PInv w B' G cap A l vs vl wc := Hinv.out.later (by rw [HE.out]; exact hbel)
    have hinvd : PInv w B' G cap A l vs vl wc.drew := hinv2.later (Below.refl _ _).drew
    have halts2 : altsOf (T ++ [some e]) = A ++ [l ++ [e]] := by
     rw [altsOf_some, Halts.out]
     simp [snocLast]
    have Halts2 := Lib.hid halts2
    have Htoks2 := Lib.hid htoks
    have Hinvd := Lib.hid hinvd
    have Hrow2 := Lib.hid hrow
    have hGlt : G < wc.heap.size := (hinv2.outer.lt G rfl).2
    have dG : wc.cell? ⟨G, A.length, none⟩ = some vl := by
     rw [hinv2.outer.cellAt A.length (by omega), ← hinv2.len]; simp
    have dGd : (wc.drew.alloc (.cells (rowOf e) 139)).cell? ⟨G, A.length, none⟩ = some vl := ((Below.refl _ wc.drew).alloc (Nat.le_refl _) (.cells (rowOf e) 139)).cell (p := ⟨G, A.length, none⟩) hGlt |>.trans dG
    have hElo : ¬ some E = vl.ownBlock := fun h => by
     have := (Hinv.out.last.lt E h.symm).2
     rw [HE.out] at this
     omega
    have hGlo : G < E := by
     have := (Hinv.out.outer.lt G rfl).2
     rwa [HE.out] at this
    have hlA : (A.length : Int) < (A.length : Int) + 1 := by omega
    have hlA0 : ¬ (A.length : Int) < 0 := by omega
    have hA2 : (A.length : Int) ≤ 256 := by omega
    clear hrow hbel htoks hinv2 hinvd halts2 Hrow Hbel Hsa Hinv Halts Htoks Hd
    go_upto_region 25 with fail
    have hl3 : l.length + 1 ≤ maxLen := by unfold maxLen; omega
    have hB3 : B' ≤ (wc.drew.alloc (.cells (rowOf e) 139)).heap.size := Nat.le_trans Hinvd.out.B2 (by simp)
    have hEl : E < wc.drew.heap.size := (Array.getElem?_eq_some_iff.1 Hrow2.out).1
    have hAlc : wc.drew.heap.size ≤ (wc.drew.alloc (.cells (rowOf e) 139)).heap.size := ((Below.refl _ wc.drew).alloc (Nat.le_refl _) _).size
    have hEne : some E ≠ vl.ownBlock := fun h => hElo h
    have hGE : E ≠ G := fun h => by rw [← h] at hGlo; omega
    refine wp_region_held_drew (S := fun wx => wx.heap[E]? = some (.cells (rowOf e) 139 (0, 0))) (by kernel_rfl) Hrow2.out (fun hHeld => ?_)
    refine wpAnyH_take (i := 0) (oi := _) (v := .slice (some ⟨G, 0, none⟩) (A.length + 1) cap) rfl (by kernel_rfl) (by kernel_rfl) (by kernel_rfl) (fun _ _ _ h => h) (Or.inl ⟨by rfl, fun w hSw => by go_simp⟩) hHeld ?_
    try simp only [Act.put, List.setIfInBounds_toArray]
    refine wpAnyH_take (i := 1) (oi := _) (v := .int .i64 (A.length : Int)) rfl (by kernel_rfl) (by kernel_rfl) (by kernel_rfl) (fun _ _ _ h => h) (Or.inl ⟨by rfl, fun w hSw => by go_simp⟩) hHeld ?_
    try simp only [Act.put]
    refine wpAnyH_take (i := 2) (oi := _) (v := .slice (some ⟨G, 0, none⟩) (A.length + 1) cap) rfl (by kernel_rfl) (by kernel_rfl) (by kernel_rfl) (fun _ _ _ h => h) (Or.inl ⟨by rfl, fun w hSw => by go_simp⟩) hHeld ?_
    try simp only [Act.put]
    refine wpAnyH_take (i := 3) (oi := _) (v := .int .i64 (A.length : Int)) rfl (by kernel_rfl) (by kernel_rfl) (by kernel_rfl) (fun _ _ _ h => h) (Or.inl ⟨by rfl, fun w hSw => by go_simp⟩) hHeld ?_
    try simp only [Act.put]
    refine wpAnyH_take (i := 4) (oi := _) (v := .pointer (some ⟨G, A.length, none⟩)) rfl (by kernel_rfl) (by kernel_rfl) (by kernel_rfl) (fun _ _ _ h => h) (Or.inl ⟨by rfl, fun w hSw => by go_simp⟩) hHeld ?_
    try simp only [Act.put]
    refine wpAnyH_take (i := 6) (oi := _) (v := .agg (rowOf e)) rfl (by kernel_rfl) (by kernel_rfl) (by kernel_rfl) (fun _ _ _ h => h) (yieldsIf_load_row (by rfl) 139 (.tmp 6) rfl E rfl 139 (rowOf e) (0, 0) _ (fun w h => h) Tryd.underlying139 rfl (by rw [hi3]; simp [hy1, rowOf_size])) hHeld ?_
    try simp only [Act.put]
    refine wpAnyH_ready (rs := [5, 7]) (by kernel_rfl) (by simp) ?_
    refine AllReadyH.cons (o := ⟨some 67, .load 98 (.tmp 66), 98, "ref.go:53", #[⟨4, .data⟩], none⟩) rfl (fun K hK => ?_) (AllReadyH.cons (o := ⟨some 69, .buildSlice 98 1 #[(0, .tmp 68)], 98, "ref.go:53", #[⟨6, .data⟩], none⟩) rfl (fun K hK => ?_) AllReadyH.nil)
    ·go_simp
     refine hK.out _ _ Hrow2.out (fun hHeld => ?_)
     try simp only [Act.put, List.setIfInBounds_toArray, List.set_cons_zero, List.set_cons_succ]
     clear hK
     refine wpAnyH_ready (rs := [7]) (by kernel_rfl) (by simp) ?_
     refine AllReadyH.cons (o := ⟨some 69, .buildSlice 98 1 #[(0, .tmp 68)], 98, "ref.go:53", #[⟨6, .data⟩], none⟩) rfl (fun K hK => ?_) AllReadyH.nil
     refine step_build_row rfl 98 139 (.tmp 68) rfl (rowOf e) i3 _ rfl Tryd.underlying98 hi3 hy0 (by rw [hy1, rowOf_size]) (by rw [rowOf_size]; omega) (by rw [rowOf_size]; omega) ?_
     refine hK.out _ _ ((Below.heap_alloc wc.drew _ E hEl).trans Hrow2.out) (fun hHeld => ?_)
     try simp only [Act.put, List.setIfInBounds_toArray, List.set_cons_zero, List.set_cons_succ]
     clear hK
     refine wpAnyH_ready (rs := [8]) (by kernel_rfl) (by simp) ?_
     refine AllReadyH.cons (o := ⟨some 70, .call { callee := .builtin .append, args := #[.tmp 67, .tmp 69], argTypes := #[98, 98] }, 98, "ref.go:53", #[⟨5, .data⟩, ⟨7, .data⟩], none⟩) rfl (fun K hK => ?_) AllReadyH.nil
     refine step_append_own rfl (.tmp 67) (.tmp 69) 98 rfl B' 139 i3 _ 130 130 Tryd.underlying98 hi3 hy0 hy1 hy2 (elRow_size _ _ _) (by decide) vl l.length (pVs l) rfl (Hinvd.out.last.alloc _) ⟨wc.drew.heap.size, 0, none⟩ 1 1 (rowOf e).toList rfl (by rw [Array.length_toList, rowOf_size]) (cell_six_new wc.drew (rowOf e) 139) (rowOf_one e) hl3 (by omega) hB3 ?_
     intro v' w' hown hgrow
     obtain ⟨gn, capn, hvn, _, _⟩ := form_some hown (Nat.succ_pos _)
     subst hvn
     have hel := Hinvd.out.elem hown hgrow
     have hSE : w'.heap[E]? = some (.cells (rowOf e) 139 (0, 0)) := (hgrow.block E (Nat.lt_of_lt_of_le hEl hAlc) hEne).trans ((Below.heap_alloc wc.drew _ E hEl).trans Hrow2.out)
     refine hK.out _ _ hSE (fun hHeld => ?_)
     try simp only [Act.put, List.setIfInBounds_toArray, List.set_cons_zero, List.set_cons_succ]
     obtain ⟨hel1, hel2, hel3⟩ := hel
     have Hel1 := Lib.hid hel1
     have Hown := Lib.hid hown
     have Hgrow := Lib.hid hgrow
     clear hel1 hown hgrow hK
     refine wpAnyH_take (i := 9) (oi := _) (v := .pointer (some ⟨G, A.length, none⟩)) rfl (by kernel_rfl) (by kernel_rfl) (by kernel_rfl) (fun _ _ _ h => h) (Or.inl ⟨by rfl, fun w hSw => by go_simp⟩) hHeld ?_
     try simp only [Act.put, List.setIfInBounds_toArray]
     refine wpAnyH_ready (rs := [10]) (by kernel_rfl) (by simp) ?_
     refine AllReadyH.cons (o := ⟨none, .store 98 (.tmp 71) (.tmp 70), 0, "ref.go:53", #[⟨9, .data⟩, ⟨8, .data⟩, ⟨8, .chain⟩, ⟨0, .phase⟩, ⟨1, .phase⟩, ⟨2, .phase⟩, ⟨3, .phase⟩, ⟨4, .phase⟩, ⟨5, .phase⟩, ⟨6, .phase⟩, ⟨7, .phase⟩, ⟨8, .phase⟩], none⟩) rfl (fun K hK => ?_) AllReadyH.nil
     go_simp
     refine hK.out _ _ ((Below.heap_setCell w' ⟨G, A.length, none⟩ (.slice (some ⟨gn, 0, none⟩) (l.length + 1) capn) E hGE).trans hSE) (fun hHeld => ?_)
     refine wpAnyH_done (by kernel_rfl) ?_ _
     clear hK hel2 hel3 hHeld hSE
     go_wp2
     exact ⟨⟨j + 1, T ++ [some e], A, l ++ [e], vs, _, _, G, cap, rfl, rfl, Halts2.out, Hel1.out, Htoks2.out, by omega, by omega, by simp; omega⟩, by simp [intOf]; omega⟩
    ·refine step_build_row rfl 98 139 (.tmp 68) rfl (rowOf e) i3 _ rfl Tryd.underlying98 hi3 hy0 (by rw [hy1, rowOf_size]) (by rw [rowOf_size]; omega) (by rw [rowOf_size]; omega) ?_
     refine hK.out _ _ ((Below.heap_alloc wc.drew _ E hEl).trans Hrow2.out) (fun hHeld => ?_)
     try simp only [Act.put]
     clear hK
     refine wpAnyH_ready (rs := [5]) (by kernel_rfl) (by simp) ?_
     refine AllReadyH.cons (o := ⟨some 67, .load 98 (.tmp 66), 98, "ref.go:53", #[⟨4, .data⟩], none⟩) rfl (fun K hK => ?_) AllReadyH.nil
     go_simp
     refine hK.out _ _ ((Below.heap_alloc wc.drew _ E hEl).trans Hrow2.out) (fun hHeld => ?_)
     try simp only [Act.put, List.setIfInBounds_toArray, List.set_cons_zero, List.set_cons_succ]
     clear hK
     refine wpAnyH_ready (rs := [8]) (by kernel_rfl) (by simp) ?_
     refine AllReadyH.cons (o := ⟨some 70, .call { callee := .builtin .append, args := #[.tmp 67, .tmp 69], argTypes := #[98, 98] }, 98, "ref.go:53", #[⟨5, .data⟩, ⟨7, .data⟩], none⟩) rfl (fun K hK => ?_) AllReadyH.nil
     refine step_append_own rfl (.tmp 67) (.tmp 69) 98 rfl B' 139 i3 _ 130 130 Tryd.underlying98 hi3 hy0 hy1 hy2 (elRow_size _ _ _) (by decide) vl l.length (pVs l) rfl (Hinvd.out.last.alloc _) ⟨wc.drew.heap.size, 0, none⟩ 1 1 (rowOf e).toList rfl (by rw [Array.length_toList, rowOf_size]) (cell_six_new wc.drew (rowOf e) 139) (rowOf_one e) hl3 (by omega) hB3 ?_
     intro v' w' hown hgrow
     obtain ⟨gn, capn, hvn, _, _⟩ := form_some hown (Nat.succ_pos _)
     subst hvn
     have hel := Hinvd.out.elem hown hgrow
     have hSE : w'.heap[E]? = some (.cells (rowOf e) 139 (0, 0)) := (hgrow.block E (Nat.lt_of_lt_of_le hEl hAlc) hEne).trans ((Below.heap_alloc wc.drew _ E hEl).trans Hrow2.out)
     refine hK.out _ _ hSE (fun hHeld => ?_)
     try simp only [Act.put, List.setIfInBounds_toArray, List.set_cons_zero, List.set_cons_succ]
     obtain ⟨hel1, hel2, hel3⟩ := hel
     have Hel1 := Lib.hid hel1
     have Hown := Lib.hid hown
     have Hgrow := Lib.hid hgrow
     clear hel1 hown hgrow hK
     refine wpAnyH_take (i := 9) (oi := _) (v := .pointer (some ⟨G, A.length, none⟩)) rfl (by kernel_rfl) (by kernel_rfl) (by kernel_rfl) (fun _ _ _ h => h) (Or.inl ⟨by rfl, fun w hSw => by go_simp⟩) hHeld ?_
     try simp only [Act.put, List.setIfInBounds_toArray]
     refine wpAnyH_ready (rs := [10]) (by kernel_rfl) (by simp) ?_
     refine AllReadyH.cons (o := ⟨none, .store 98 (.tmp 71) (.tmp 70), 0, "ref.go:53", #[⟨9, .data⟩, ⟨8, .data⟩, ⟨8, .chain⟩, ⟨0, .phase⟩, ⟨1, .phase⟩, ⟨2, .phase⟩, ⟨3, .phase⟩, ⟨4, .phase⟩, ⟨5, .phase⟩, ⟨6, .phase⟩, ⟨7, .phase⟩, ⟨8, .phase⟩], none⟩) rfl (fun K hK => ?_) AllReadyH.nil
     go_simp
     refine hK.out _ _ ((Below.heap_setCell w' ⟨G, A.length, none⟩ (.slice (some ⟨gn, 0, none⟩) (l.length + 1) capn) E hGE).trans hSE) (fun hHeld => ?_)
     refine wpAnyH_done (by kernel_rfl) ?_ _
     clear hK hel2 hel3 hHeld hSE
     go_wp2
     exact ⟨⟨j + 1, T ++ [some e], A, l ++ [e], vs, _, _, G, cap, rfl, rfl, Halts2.out, Hel1.out, Htoks2.out, by omega, by omega, by simp; omega⟩, by simp [intOf]; omega⟩
   ·obtain rfl : i = p.size := by omega
    have hT : toks p.data.toList = some T := by
     have h := Htoks.out
     rw [Lib.size_eq, List.drop_length] at h
     rw [← h]
     show (some ([] : List (Option El))).map _ = _
     simp
    have hfin : ParsePost p.data.toList w (.returned (.tuple #[.slice (some ⟨G, 0, none⟩) (A.length + 1) cap, .bool true])) wr := Hv.out _ _ Hinv.out.below (by rw [hT]; exact ⟨_, rfl, by rw [Halts.out]; exact Hinv.out.alts⟩)
    have Hfin := Lib.hid hfin
    clear hT hfin
    go_wp2
    go_ret2
    exact Hfin.out
end Go.Proofs.YtdlchlbngojljaaDoor.Gl
