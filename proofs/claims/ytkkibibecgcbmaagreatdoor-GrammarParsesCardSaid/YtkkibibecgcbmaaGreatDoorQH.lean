/- H -/
import Derived.Test.YtkkibibecgcbmaaGreatDoorQC
import Derived.Test.YtkkibibecgcbmaaGreatDoorQE
import Derived.Test.YtkkibibecgcbmaaGreatDoorQG
import Derived.Deep.RegionHeld3
open Go.Lib renaming hid → qH
open Go.Calls renaming mono → cM
set_option maxRecDepth 100000
set_option maxHeartbeats 16000000
namespace Go.Proofs.YtkkibibecgcbmaaGreatDoor
open Lx (tokensE fmtE goodB Sm Good fmtL)
structure Tm where
 key : Int
 name : List UInt8
 op : Int
 val : List UInt8
 deriving DecidableEq
def keysG : List (List UInt8) := [[], [65, 67, 84, 73, 79, 78], [75, 69, 82, 78, 69, 76], [83, 85, 66, 83, 89, 83, 84, 69, 77], [68, 82, 73, 86, 69, 82], [65, 84, 84, 82], [69, 78, 86], [84, 65, 71], [75, 69, 82, 78, 69, 76, 83], [83, 85, 66, 83, 89, 83, 84, 69, 77, 83], [68, 82, 73, 86, 69, 82, 83], [65, 84, 84, 82, 83], [80, 82, 79, 71, 82, 65, 77], [82, 69, 83, 85, 76, 84], [73, 77, 80, 79, 82, 84], [78, 65, 77, 69], [83, 89, 77, 76, 73, 78, 75], [79, 87, 78, 69, 82], [71, 82, 79, 85, 80], [77, 79, 68, 69], [82, 85, 78], [76, 79, 65, 68], [80, 82, 73, 79, 82, 73, 84, 89], [76, 65, 66, 69, 76], [71, 79, 84, 79]]
def opsG : List (List UInt8) := [[], [61, 61], [33, 61], [61], [43, 61], [45, 61], [58, 61]]
def posI (l : List (List UInt8)) (s : List UInt8) : Int := match l.findIdx? (fun x => x == s) with
 | some i => i
 | none => -1
def wrK (k : Int) : List UInt8 := (keysG[k.toNat]?).getD []
def wrO (o : Int) : List UInt8 := (opsG[o.toNat]?).getD []
def tokOf (t : Tm) : Lx.Tok := ⟨wrK t.key, t.name, wrO t.op, t.val⟩
def termOf (x : Lx.Tok) : Tm := ⟨posI keysG x.key, x.name, posI opsG x.op, x.val⟩
def srcL : List (List UInt8) := [[112, 114, 111, 103, 114, 97, 109], [112, 97, 114, 101, 110, 116], [98, 117, 105, 108, 116, 105, 110]]
def bltL : List (List UInt8) := [[112, 97, 116, 104], [99, 111, 110, 116, 101, 110, 116], [110, 101, 116]]
def globOk (v : List UInt8) : Bool := Gl.errP v == 0
def tmplOk (v : List UInt8) : Bool := (parseE v).2 == 0
def matchB (o : Int) : Bool := o == 1 || o == 2
def prioOk (v : List UInt8) : Bool := match Lib.atoiAll v with
 | .ok n => Lib.itoa n == v && decide (-1000 ≤ n) && decide (n ≤ 1000)
 | _ => false
def nmT (k : Int) (s : List UInt8) : Bool := if k = 5 ∨ k = 11 then nmB s else if k = 6 then kyB s else if k = 14 then srcL.contains s else s == []
def opT (k : Int) : List Int :=
 if k = 6 then [1, 2, 3, 4] else if k = 7 then [1, 2, 3, 4, 5] else if k ≤ 14 then [1, 2] else if k = 16 then [3, 4, 5, 6] else if k = 20 then [3, 4, 6] else if k = 21 then [4] else if k ≤ 19 then [3, 6] else [3]
def impOk (t : Tm) : Bool := if t.name = [112, 114, 111, 103, 114, 97, 109] then tmplOk t.val else if t.name = [112, 97, 114, 101, 110, 116] then globOk t.val else bltL.contains t.val
def gotOk (t : Tm) : Bool := if matchB t.op then globOk t.val else tmplOk t.val
def vlT (t : Tm) : Bool :=
 if t.key = 6 ∨ t.key = 7 then gotOk t else if t.key = 14 then impOk t else if t.key = 22 then prioOk t.val else if t.key = 23 ∨ t.key = 24 then nmB t.val
 else if t.key = 12 ∨ 15 ≤ t.key then tmplOk t.val else globOk t.val
def termE (t : Tm) : Int :=
 if t.key < 1 ∨ 24 < t.key then 100 else if nmT t.key t.name = false then 101 else if (opT t.key).contains t.op = false then 102 else if vlT t = false then 103 else 0
def cntK (l : List Tm) (k : Int) : Nat := (l.filter fun t => t.key == k).length
def firstE : List Tm → Int
 | [] => 0
 | t :: l => if termE t = 0 then firstE l else termE t
def checkE (l : List Tm) : Int :=
 if l = [] then 106 else if 16 < l.length then 104 else if firstE l ≠ 0 then firstE l else if 1 < cntK l 23 ∨ 1 < cntK l 24 then 105 else 0
def parseG (s : List UInt8) : List Tm × Int :=
 if (tokensE s).2 ≠ 0 then ([], (tokensE s).2) else if checkE ((tokensE s).1.map termOf) ≠ 0 then ([], checkE ((tokensE s).1.map termOf)) else ((tokensE s).1.map termOf, 0)
def formatG (l : List Tm) : List UInt8 × Int := if checkE l ≠ 0 then ([], checkE l) else ((fmtE (l.map tokOf)).1, (fmtE (l.map tokOf)).2)
theorem firstE_ok : ∀ {l : List Tm}, firstE l = 0 → ∀ t ∈ l, termE t = 0
 | [], _, t, ht => by cases ht
 | a :: l, h, t, ht => by
  rw [firstE] at h
  split at h
  ·rename_i ha
   rcases List.mem_cons.1 ht with rfl | ht
   ·exact ha
   ·exact firstE_ok h t ht
  ·rename_i ha
   exact absurd h ha
theorem opT_in (k : Int) : ∀ o ∈ opT k, 1 ≤ o ∧ o ≤ 6 := by
 unfold opT
 repeat' split
 all_goals decide
theorem pos_ops : ∀ k : Fin 7, posI opsG ((opsG[k.val]?).getD []) = (k.val : Int) := by decide
theorem posO {k : Int} (h1 : 1 ≤ k) (h2 : k ≤ 6) : posI opsG (wrO k) = k := by
 have := pos_ops ⟨k.toNat, by omega⟩
 unfold wrO
 simp only at this
 rw [this]
 omega
end Go.Proofs.YtkkibibecgcbmaaGreatDoor
namespace Go.Proofs.YtkkibibecgcbmaaGreatDoor
open Go.RowKit
def tmC (t : Tm) : Array Value := #[.int .i64 t.key, .string (bs t.name), .int .i64 t.op, .string (bs t.val)]
def SmT (t : Tm) : Prop := t.name.length ≤ 100000000 ∧ t.val.length ≤ 100000000
def MAt (w : World) (b : Nat) (t : Tm) : Prop := w.heap[b]? = some (.cells (tmC t) 31 (0, 0))
theorem MAt.new (w : World) (t : Tm) : MAt (w.alloc (.cells (tmC t) 31)) w.heap.size t := heap_alloc_last _ _
theorem MAt.cells {w : World} {b : Nat} {t : Tm} (h : MAt w b t) : w.cell? ⟨b, 0, none⟩ = some (.int .i64 t.key) ∧ w.cell? ⟨b, 1, none⟩ = some (.string (bs t.name)) ∧ w.cell? ⟨b, 2, none⟩ = some (.int .i64 t.op) ∧ w.cell? ⟨b, 3, none⟩ = some (.string (bs t.val)) := by
 refine ⟨?_, ?_, ?_, ?_⟩ <;> rw [cell_of_row _ _ _ _ _ _ h] <;> rfl
theorem MAt.kp {w w' : World} {b : Nat} {t : Tm} {s : List Nat} (h : MAt w b t) (hk : Kp s w w') (hs : b ∉ s) : MAt w' b t := (hk.block b (block_lt h) hs).trans h
theorem toL (s : List UInt8) : (bs s).toList = s := by rw [Lib.toList_data, bs_data]
theorem emptyB (s : List UInt8) : s.isEmpty = (s == []) := by cases s <;> rfl
theorem isEmpty_any (s : List UInt8) (w : World) : Calls Tryz.prog 123 #[.string (bs s)] w fun e w' => e = .returned (.bool (s == [])) ∧ Kp [] w w' := by
 have e : (bs s).toList.isEmpty = (s == []) := by rw [toL, emptyB]
 have E := qH e
 clear e
 go_enter Tryz.func123, Tryz.ntmps123
 go_wp2
 go_ret
 exact ⟨by rw [← E.out]; rfl, Kp.refl _ _⟩
theorem srcL_eq (s : List UInt8) : srcL.contains s = (s == [112, 114, 111, 103, 114, 97, 109] || (s == [112, 97, 114, 101, 110, 116] || s == [98, 117, 105, 108, 116, 105, 110])) := by
 unfold srcL
 simp only [List.contains_cons, List.contains_nil, Bool.or_false]
theorem isSource_any (s : List UInt8) (w : World) : Calls Tryz.prog 129 #[.string (bs s)] w fun e w' => e = .returned (.bool (srcL.contains s)) ∧ Kp [] w w' := by
 have e0 : ((bs s).toList == [112, 114, 111, 103, 114, 97, 109]) = (s == [112, 114, 111, 103, 114, 97, 109]) := by rw [toL]
 have e1 : ((bs s).toList == [112, 97, 114, 101, 110, 116]) = (s == [112, 97, 114, 101, 110, 116]) := by rw [toL]
 have e2 : ((bs s).toList == [98, 117, 105, 108, 116, 105, 110]) = (s == [98, 117, 105, 108, 116, 105, 110]) := by rw [toL]
 have HE := qH (srcL_eq s)
 generalize (s == [112, 114, 111, 103, 114, 97, 109]) = b0 at *
 generalize (s == [112, 97, 114, 101, 110, 116]) = b1 at *
 generalize (s == [98, 117, 105, 108, 116, 105, 110]) = b2 at *
 cases b0
 ·cases b1
  ·cases b2 <;>
   ·go_enter Tryz.func129, Tryz.ntmps129
    go_wp2
    go_ret
    exact ⟨by rw [HE.out]; rfl, Kp.refl _ _⟩
  ·go_enter Tryz.func129, Tryz.ntmps129
   go_wp2
   go_ret
   exact ⟨by rw [HE.out]; rfl, Kp.refl _ _⟩
 ·go_enter Tryz.func129, Tryz.ntmps129
  go_wp2
  go_ret
  exact ⟨by rw [HE.out]; rfl, Kp.refl _ _⟩
theorem match_any (t : Tm) (w : World) : Calls Tryz.prog 13 #[.agg (tmC t)] w fun e w' => e = .returned (.bool (matchB t.op)) ∧ Kp [] w w' := by
 obtain ⟨k, n, o, v⟩ := t
 have hk := fun y => (Kp.refl [] w).alloc (.cells (tmC ⟨k, n, y, v⟩) 31)
 have HK := qH hk
 clear hk
 unfold matchB
 unfold tmC at HK ⊢
 simp only at HK ⊢
 by_cases h1 : o = 1
 ·subst h1
  go_enter Tryz.func13, Tryz.ntmps13
  go_wp2
  go_ret
  exact ⟨rfl, HK.out _⟩
 ·by_cases h2 : o = 2
  ·subst h2
   go_enter Tryz.func13, Tryz.ntmps13
   go_wp2
   go_ret
   exact ⟨rfl, HK.out _⟩
  ·have HB := qH (show (o == 1 || o == 2) = false by simp [h1, h2])
   go_enter Tryz.func13, Tryz.ntmps13
   go_wp2
   go_ret
   exact ⟨by rw [HB.out]; rfl, HK.out _⟩
theorem isGlob_any (t : Tm) (w : World) (ht : SmT t) : Calls Tryz.prog 124 #[.agg (tmC t)] w fun e w' => e = .returned (.bool (globOk t.val)) ∧ Kp [] w w' := by
 have hk := qH ((Kp.refl [] w).alloc (.cells (tmC t) 31))
 have hg := qH fun W => Gl.check_any (bs t.val) W (by rw [bs_size]; have := ht.2; omega)
 unfold tmC at hk ⊢
 unfold globOk
 generalize hn : Gl.errP t.val = n
 have HN := qH hn
 clear hn ht
 go_enter Tryz.func124, Tryz.ntmps124
 go_wp2_with (go_at_call 158; refine cM (by with_reducible exact hg.out _) ?_; rintro e w1 ⟨rfl, hb⟩; have HB := qH (hk.out.trans (Kp.of_bel hb)); clear hb; rw [bs_data, HN.out])
 go_ret
 exact ⟨rfl, HB.out⟩
theorem isTemplate_any (t : Tm) {w : World} (hE : Env w) (ht : SmT t) : Calls Tryz.prog 128 #[.agg (tmC t)] w fun e w' => e = .returned (.bool (tmplOk t.val)) ∧ Kp [] w w' := by
 have hk := qH ((Kp.refl [] w).alloc (.cells (tmC t) 31))
 have hg := qH fun W (h : Kp [] w W) => check_any (hE.kp0 h) t.val (by have := ht.2; omega)
 unfold tmC at hk ⊢
 unfold tmplOk
 generalize hn : (parseE t.val).2 = n at hg
 clear hn ht hE
 go_enter Tryz.func128, Tryz.ntmps128
 go_wp2_with (go_at_call 164; refine cM (by with_reducible exact hg.out _ hk.out) ?_; rintro e w1 ⟨rfl, hb⟩; have HB := qH (hk.out.trans hb); clear hb)
 go_ret
 exact ⟨rfl, HB.out⟩
theorem isLabel_any (t : Tm) (w : World) (ht : SmT t) : Calls Tryz.prog 132 #[.agg (tmC t)] w fun e w' => e = .returned (.bool (nmB t.val)) ∧ Kp [] w w' := by
 have hk := qH ((Kp.refl [] w).alloc (.cells (tmC t) 31))
 have hg := qH fun W => valid_any t.val W (by have := ht.2; omega)
 unfold tmC at hk ⊢
 generalize nmB t.val = n at *
 clear ht
 go_enter Tryz.func132, Tryz.ntmps132
 go_wp2_with (go_at_call 125; refine cM (by with_reducible exact hg.out _) ?_; rintro e w1 ⟨rfl, hb⟩; have HB := qH (hk.out.trans hb); clear hb)
 go_ret
 exact ⟨rfl, HB.out⟩
theorem isGot_any (t : Tm) {w : World} (hE : Env w) (ht : SmT t) : Calls Tryz.prog 127 #[.agg (tmC t)] w fun e w' => e = .returned (.bool (gotOk t)) ∧ Kp [] w w' := by
 obtain ⟨W0, hW⟩ : ∃ W0, w.alloc (.cells (tmC t) 31) = W0 := ⟨_, rfl⟩
 have hk0 : Kp [] w W0 := by rw [← hW]; exact (Kp.refl [] w).alloc _
 have hb0 : MAt W0 w.heap.size t := by rw [← hW]; exact MAt.new w t
 have HC := qH fun W (h : Kp [] W0 W) => (hb0.kp h (by simp)).cells
 obtain ⟨c0, c1, c2, c3⟩ := hb0.cells
 have hm := qH fun W => match_any t W
 have hg := qH fun W => isGlob_any t W ht
 have ht := qH fun W (h : Kp [] W0 W) => isTemplate_any t (hE.kp0 (hk0.trans h)) ht
 have HK := qH hk0
 clear hb0 hk0 hE
 unfold gotOk
 unfold tmC at *
 generalize matchB t.op = m at *
 generalize globOk t.val = a at *
 generalize tmplOk t.val = b at *
 cases m
 ·go_enter Tryz.func127, Tryz.ntmps127
  go_wp2_with (first
   | (go_at_call 13; refine cM (by with_reducible exact hm.out _) ?_; rintro e w1 ⟨rfl, hb⟩; obtain ⟨d0, d1, d2, d3⟩ := HC.out _ hb; have HB := qH hb; clear hb)
   | (go_at_call 128; refine cM (by with_reducible exact ht.out _ HB.out) ?_; rintro e w2 ⟨rfl, hb⟩; have HB2 := qH (HK.out.trans (HB.out.trans hb)); clear hb))
  go_ret
  exact ⟨rfl, HB2.out⟩
 ·go_enter Tryz.func127, Tryz.ntmps127
  go_wp2_with (first
   | (go_at_call 13; refine cM (by with_reducible exact hm.out _) ?_; rintro e w1 ⟨rfl, hb⟩; obtain ⟨d0, d1, d2, d3⟩ := HC.out _ hb; have HB := qH hb; clear hb)
   | (go_at_call 124; refine cM (by with_reducible exact hg.out _) ?_; rintro e w2 ⟨rfl, hb⟩; have HB2 := qH (HK.out.trans (HB.out.trans hb)); clear hb))
  go_ret
  exact ⟨rfl, HB2.out⟩
end Go.Proofs.YtkkibibecgcbmaaGreatDoor
namespace Go.Proofs.YtkkibibecgcbmaaGreatDoor
open Go.RowKit
def opS : List (List UInt8) := [[], [61, 61, 32, 33, 61], [61, 61, 32, 33, 61], [61, 61, 32, 33, 61], [61, 61, 32, 33, 61], [61, 61, 32, 33, 61], [61, 61, 32, 33, 61, 32, 61, 32, 43, 61], [61, 61, 32, 33, 61, 32, 61, 32, 43, 61, 32, 45, 61], [61, 61, 32, 33, 61], [61, 61, 32, 33, 61], [61, 61, 32, 33, 61], [61, 61, 32, 33, 61], [61, 61, 32, 33, 61], [61, 61, 32, 33, 61], [61, 61, 32, 33, 61], [61, 32, 58, 61], [61, 32, 43, 61, 32, 45, 61, 32, 58, 61], [61, 32, 58, 61], [61, 32, 58, 61], [61, 32, 58, 61], [61, 32, 43, 61, 32, 58, 61], [43, 61], [61], [61], [61]]
def opsK (k : Int) : List UInt8 := (opS[k.toNat]?).getD []
def nmF : Nat → Nat
 | 5 => 125 | 11 => 125 | 6 => 126 | 14 => 129 | _ => 123
def vlF : Nat → Nat
 | 6 => 127 | 7 => 127 | 12 => 128 | 14 => 130 | 15 => 128 | 16 => 128 | 17 => 128 | 18 => 128 | 19 => 128 | 20 => 128 | 21 => 128 | 22 => 131 | 23 => 132 | 24 => 132 | _ => 124
def dsA : Array Value := #[.string ⟨#[]⟩, .nilFunc, .string ⟨#[]⟩, .nilFunc, .string ⟨#[65, 67, 84, 73, 79, 78]⟩, .func (.func 123) #[] #[], .string ⟨#[61, 61, 32, 33, 61]⟩, .func (.func 124) #[] #[], .string ⟨#[75, 69, 82, 78, 69, 76]⟩, .func (.func 123) #[] #[], .string ⟨#[61, 61, 32, 33, 61]⟩, .func (.func 124) #[] #[], .string ⟨#[83, 85, 66, 83, 89, 83, 84, 69, 77]⟩, .func (.func 123) #[] #[], .string ⟨#[61, 61, 32, 33, 61]⟩, .func (.func 124) #[] #[], .string ⟨#[68, 82, 73, 86, 69, 82]⟩, .func (.func 123) #[] #[], .string ⟨#[61, 61, 32, 33, 61]⟩, .func (.func 124) #[] #[], .string ⟨#[65, 84, 84, 82]⟩, .func (.func 125) #[] #[], .string ⟨#[61, 61, 32, 33, 61]⟩, .func (.func 124) #[] #[], .string ⟨#[69, 78, 86]⟩, .func (.func 126) #[] #[], .string ⟨#[61, 61, 32, 33, 61, 32, 61, 32, 43, 61]⟩, .func (.func 127) #[] #[], .string ⟨#[84, 65, 71]⟩, .func (.func 123) #[] #[], .string ⟨#[61, 61, 32, 33, 61, 32, 61, 32, 43, 61, 32, 45, 61]⟩, .func (.func 127) #[] #[], .string ⟨#[75, 69, 82, 78, 69, 76, 83]⟩, .func (.func 123) #[] #[], .string ⟨#[61, 61, 32, 33, 61]⟩, .func (.func 124) #[] #[], .string ⟨#[83, 85, 66, 83, 89, 83, 84, 69, 77, 83]⟩, .func (.func 123) #[] #[], .string ⟨#[61, 61, 32, 33, 61]⟩, .func (.func 124) #[] #[], .string ⟨#[68, 82, 73, 86, 69, 82, 83]⟩, .func (.func 123) #[] #[], .string ⟨#[61, 61, 32, 33, 61]⟩, .func (.func 124) #[] #[], .string ⟨#[65, 84, 84, 82, 83]⟩, .func (.func 125) #[] #[], .string ⟨#[61, 61, 32, 33, 61]⟩, .func (.func 124) #[] #[], .string ⟨#[80, 82, 79, 71, 82, 65, 77]⟩, .func (.func 123) #[] #[], .string ⟨#[61, 61, 32, 33, 61]⟩, .func (.func 128) #[] #[], .string ⟨#[82, 69, 83, 85, 76, 84]⟩, .func (.func 123) #[] #[], .string ⟨#[61, 61, 32, 33, 61]⟩, .func (.func 124) #[] #[], .string ⟨#[73, 77, 80, 79, 82, 84]⟩, .func (.func 129) #[] #[], .string ⟨#[61, 61, 32, 33, 61]⟩, .func (.func 130) #[] #[], .string ⟨#[78, 65, 77, 69]⟩, .func (.func 123) #[] #[], .string ⟨#[61, 32, 58, 61]⟩, .func (.func 128) #[] #[], .string ⟨#[83, 89, 77, 76, 73, 78, 75]⟩, .func (.func 123) #[] #[], .string ⟨#[61, 32, 43, 61, 32, 45, 61, 32, 58, 61]⟩, .func (.func 128) #[] #[], .string ⟨#[79, 87, 78, 69, 82]⟩, .func (.func 123) #[] #[], .string ⟨#[61, 32, 58, 61]⟩, .func (.func 128) #[] #[], .string ⟨#[71, 82, 79, 85, 80]⟩, .func (.func 123) #[] #[], .string ⟨#[61, 32, 58, 61]⟩, .func (.func 128) #[] #[], .string ⟨#[77, 79, 68, 69]⟩, .func (.func 123) #[] #[], .string ⟨#[61, 32, 58, 61]⟩, .func (.func 128) #[] #[], .string ⟨#[82, 85, 78]⟩, .func (.func 123) #[] #[], .string ⟨#[61, 32, 43, 61, 32, 58, 61]⟩, .func (.func 128) #[] #[], .string ⟨#[76, 79, 65, 68]⟩, .func (.func 123) #[] #[], .string ⟨#[43, 61]⟩, .func (.func 128) #[] #[], .string ⟨#[80, 82, 73, 79, 82, 73, 84, 89]⟩, .func (.func 123) #[] #[], .string ⟨#[61]⟩, .func (.func 131) #[] #[], .string ⟨#[76, 65, 66, 69, 76]⟩, .func (.func 123) #[] #[], .string ⟨#[61]⟩, .func (.func 132) #[] #[], .string ⟨#[71, 79, 84, 79]⟩, .func (.func 123) #[] #[], .string ⟨#[61]⟩, .func (.func 132) #[] #[]]
def dsC (k : Nat) : Array Value := #[.string (bs (wrK k)), .func (.func (nmF k)) #[] #[], .string (bs (opsK k)), .func (.func (vlF k)) #[] #[]]
theorem ds_hi : (Tryz.prog.info? 134).map (·.size) = some dsA.size := by kernel_rfl
theorem ds_one : dsA.all (fun v => v.oneCell') = true := by kernel_rfl
theorem descriptions_any (w : World) : Calls Tryz.prog 92 #[] w fun e w' => e = .returned (.agg dsA) ∧ w' = w.alloc (.cells dsA 134) := by
 have HI := qH ds_hi
 have HO := qH ds_one
 go_enter Tryz.func92, Tryz.ntmps92
 go_wp2_with (refine Nm.wpList_store_new w 134 _ dsA rfl _ _ rfl ?_ ?_ ?_ ?_ ?_ ?_; (case refine_1 => simp [Act.eval]); (case refine_2 => rfl); (case refine_3 => exact HI.out); (case refine_4 => rfl); (case refine_5 => exact HO.out))
 exact bodyPost_ret (v := .agg dsA) (results_cell_row rfl _ _ w.heap.size 134 _ _ _ rfl (heap_alloc_last w _) Tryz.underlying134 rfl HI.out) rfl ⟨rfl, rfl⟩
theorem idx_ds (k : Nat) (h1 : 1 ≤ k) (h2 : k ≤ 24) (W : World) : ∃ v, v = dsC k ∧ (Instr.index 134 (.agg dsA) (.int .i64 (k : Int))).run Tryz.prog W = .ok (.agg v) W := by
 have hc : k = 1 ∨ k = 2 ∨ k = 3 ∨ k = 4 ∨ k = 5 ∨ k = 6 ∨ k = 7 ∨ k = 8 ∨ k = 9 ∨ k = 10 ∨ k = 11 ∨ k = 12 ∨ k = 13 ∨ k = 14 ∨ k = 15 ∨ k = 16 ∨ k = 17 ∨ k = 18 ∨ k = 19 ∨ k = 20 ∨ k = 21 ∨ k = 22 ∨ k = 23 ∨ k = 24 := by omega
 rcases hc with rfl | rfl | rfl | rfl | rfl | rfl | rfl | rfl | rfl | rfl | rfl | rfl | rfl | rfl | rfl | rfl | rfl | rfl | rfl | rfl | rfl | rfl | rfl | rfl <;> exact ⟨_, rfl, by kernel_rfl⟩
theorem info94 : (Tryz.prog.info? 94).map (·.size) = some 4 := by kernel_rfl
theorem ds_end {fn : Func} {p q : Nat} {a : Act} {W : World} {R : Nat} {v0 v1 v2 v3 b : Value} {Q : Ending → World → Prop} (hr : fn.results = #[.cell p 94, .tmp q]) (h : W.heap[R]? = some (.cells #[v0, v1, v2, v3] 94 (0, 0)))
  (h2 : a.tmps.getD p undef = .pointer (some ⟨R, 0, none⟩)) (h3 : a.tmps.getD q undef = b) (hd : a.defers = [])
  (hq : Q (.returned (.tuple #[.agg #[v0, v1, v2, v3], b])) W) : bodyPost Tryz.prog fn Q .ret a W := by
 have z0 : W.cell? ⟨R, 0, none⟩ = some v0 := by rw [cell_of_row _ _ _ _ _ _ h]; rfl
 have z1 : W.cell? ⟨R, 1, none⟩ = some v1 := by rw [cell_of_row _ _ _ _ _ _ h]; rfl
 have z2 : W.cell? ⟨R, 2, none⟩ = some v2 := by rw [cell_of_row _ _ _ _ _ _ h]; rfl
 have z3 : W.cell? ⟨R, 3, none⟩ = some v3 := by rw [cell_of_row _ _ _ _ _ _ h]; rfl
 refine bodyPost_ret (v := .tuple #[.agg #[v0, v1, v2, v3], b]) ?_ hd hq
 rw [Array.getD_eq_getD_getElem?] at h2 h3
 simp [results, hr, go_sem, h2, h3, z0, z1, z2, z3]
end Go.Proofs.YtkkibibecgcbmaaGreatDoor
namespace Go.Proofs.YtkkibibecgcbmaaGreatDoor
open Go.RowKit
theorem describe_in (n : Nat) (h1 : 1 ≤ n) (h2 : n ≤ 24) (w : World) : Calls Tryz.prog 59 #[.int .i64 (n : Int)] w fun e w' => e = .returned (.tuple #[.agg (dsC n), .bool true]) ∧ Kp [] w w' := by
 have HD := qH fun W => descriptions_any W
 have HI := qH fun W => (show (Instr.index 134 (.agg dsA) (.int .i64 (n : Int))).run Tryz.prog W = .ok (.agg (dsC n)) W by obtain ⟨v, hv, hr⟩ := idx_ds n h1 h2 W; rw [hr, hv])
 have g1 : ¬ (n : Int) < 1 := by omega
 have g2 : ¬ (24 : Int) < n := by omega
 have HK := qH (((Kp.refl [] w).alloc (.cells #[.string ⟨#[]⟩, .nilFunc, .string ⟨#[]⟩, .nilFunc] 94)).alloc (.cells dsA 134))
 clear h1 h2
 unfold dsC at *
 generalize bs (wrK n) = s1 at *
 generalize bs (opsK n) = s2 at *
 generalize nmF n = f1 at *
 generalize vlF n = f2 at *
 have HB := qH (heap_alloc2_old w (.cells #[.string ⟨#[]⟩, .nilFunc, .string ⟨#[]⟩, .nilFunc] 94) (.cells dsA 134))
 have HI4 := qH (show (Tryz.prog.info? 94).map (·.size) = some (#[Value.string s1, .func (.func f1) #[] #[], .string s2, .func (.func f2) #[] #[]]).size from info94)
 have HO4 := qH (show (#[Value.string s1, .func (.func f1) #[] #[], .string s2, .func (.func f2) #[] #[]]).all (fun v => v.oneCell') = true by kernel_rfl)
 go_enter Tryz.func59, Tryz.ntmps59
 go_wp2_with (first
  | (go_at_call 92; refine cM (by with_reducible exact HD.out _) ?_; rintro e w1 ⟨rfl, rfl⟩)
  | (rw [HI.out])
  | (refine wpList_store_row rfl 94 _ _ rfl w.heap.size #[.string s1, .func (.func f1) #[] #[], .string s2, .func (.func f2) #[] #[]] rfl rfl 94 _ HB.out HI4.out rfl HO4.out ?_))
 exact ds_end Tryz.results59 (setRow_heap _ w.heap.size _ _ 94 _ HB.out) rfl rfl rfl ⟨rfl, HK.out.setRow (.inr (Nat.le_refl _)) _⟩
theorem describe_out (k : Int) (h : k < 1 ∨ 24 < k) (w : World) : Calls Tryz.prog 59 #[.int .i64 k] w fun e w' => e = .returned (.tuple #[.agg #[.string ⟨#[]⟩, .nilFunc, .string ⟨#[]⟩, .nilFunc], .bool false]) ∧ Kp [] w w' := by
 have HK := qH ((Kp.refl [] w).alloc (.cells #[.string ⟨#[]⟩, .nilFunc, .string ⟨#[]⟩, .nilFunc] 94))
 have HN := qH (heap_alloc_last w (.cells #[.string ⟨#[]⟩, .nilFunc, .string ⟨#[]⟩, .nilFunc] 94))
 have HI4 := qH (show (Tryz.prog.info? 94).map (·.size) = some (#[Value.string ⟨#[]⟩, .nilFunc, .string ⟨#[]⟩, .nilFunc]).size from info94)
 have HO4 := qH (show (#[Value.string ⟨#[]⟩, .nilFunc, .string ⟨#[]⟩, .nilFunc]).all (fun v => v.oneCell') = true by kernel_rfl)
 by_cases h1 : k < 1
 ·clear h
  go_enter Tryz.func59, Tryz.ntmps59
  go_wp2_with (refine Nm.wpList_store_new w 94 _ #[.string ⟨#[]⟩, .nilFunc, .string ⟨#[]⟩, .nilFunc] rfl _ _ rfl rfl rfl HI4.out rfl HO4.out ?_)
  exact ds_end Tryz.results59 HN.out rfl rfl rfl ⟨rfl, HK.out⟩
 ·have h2 : 24 < k := by omega
  clear h
  go_enter Tryz.func59, Tryz.ntmps59
  go_wp2_with (refine Nm.wpList_store_new w 94 _ #[.string ⟨#[]⟩, .nilFunc, .string ⟨#[]⟩, .nilFunc] rfl _ _ rfl rfl rfl HI4.out rfl HO4.out ?_)
  exact ds_end Tryz.results59 HN.out rfl rfl rfl ⟨rfl, HK.out⟩
end Go.Proofs.YtkkibibecgcbmaaGreatDoor
namespace Go.Proofs.YtkkibibecgcbmaaGreatDoor
open Go.RowKit
def opA : Array Value := #[.string ⟨#[]⟩, .string ⟨#[61, 61]⟩, .string ⟨#[33, 61]⟩, .string ⟨#[61]⟩, .string ⟨#[43, 61]⟩, .string ⟨#[45, 61]⟩, .string ⟨#[58, 61]⟩]
theorem op_hi : (Tryz.prog.info? 156).map (·.size) = some opA.size := by kernel_rfl
theorem op_one : opA.all (fun v => v.oneCell') = true := by kernel_rfl
theorem opTexts_any (w : World) : Calls Tryz.prog 109 #[] w fun e w' => e = .returned (.agg opA) ∧ w' = w.alloc (.cells opA 156) := by
 have HI := qH op_hi
 have HO := qH op_one
 go_enter Tryz.func109, Tryz.ntmps109
 go_wp2_with (refine Nm.wpList_store_new w 156 _ opA rfl _ _ rfl ?_ ?_ ?_ ?_ ?_ ?_; (case refine_1 => simp [Act.eval]); (case refine_2 => rfl); (case refine_3 => exact HI.out); (case refine_4 => rfl); (case refine_5 => exact HO.out))
 exact bodyPost_ret (v := .agg opA) (results_cell_row rfl _ _ w.heap.size 156 _ _ _ rfl (heap_alloc_last w _) Tryz.underlying156 rfl HI.out) rfl ⟨rfl, rfl⟩
theorem idx_op (k : Nat) (h1 : 1 ≤ k) (h2 : k ≤ 6) (W : World) : ∃ v, v = .string (bs (wrO k)) ∧ (Instr.index 156 (.agg opA) (.int .i64 (k : Int))).run Tryz.prog W = .ok v W := by
 have hc : k = 1 ∨ k = 2 ∨ k = 3 ∨ k = 4 ∨ k = 5 ∨ k = 6 := by omega
 rcases hc with rfl | rfl | rfl | rfl | rfl | rfl <;> exact ⟨_, rfl, by kernel_rfl⟩
theorem wrO_out {o : Int} (h : o < 1 ∨ 6 < o) : wrO o = [] := by
 unfold wrO
 rcases h with h | h
 ·rw [show o.toNat = 0 by omega]
  rfl
 ·rw [List.getElem?_eq_none (by show opsG.length ≤ _; have : opsG.length = 7 := rfl; omega)]
  rfl
theorem opWritten_any (o : Int) (w : World) : Calls Tryz.prog 79 #[.int .i64 o] w fun e w' => e = .returned (.string (bs (wrO o))) ∧ Kp [] w w' := by
 have HT := qH fun W => opTexts_any W
 have HK := qH ((Kp.refl [] w).alloc (.cells opA 156))
 by_cases h1 : o < 1
 ·have HW := qH (wrO_out (.inl h1))
  go_enter Tryz.func79, Tryz.ntmps79
  go_wp2
  go_ret
  exact ⟨by rw [HW.out]; rfl, Kp.refl _ _⟩
 ·by_cases h2 : 6 < o
  ·have HW := qH (wrO_out (.inr h2))
   go_enter Tryz.func79, Tryz.ntmps79
   go_wp2
   go_ret
   exact ⟨by rw [HW.out]; rfl, Kp.refl _ _⟩
  ·obtain ⟨n, rfl⟩ : ∃ n : Nat, o = n := ⟨o.toNat, by omega⟩
   have HI := qH fun W => (show (Instr.index 156 (.agg opA) (.int .i64 (n : Int))).run Tryz.prog W = .ok (.string (bs (wrO n))) W by obtain ⟨v, hv, hr⟩ := idx_op n (by omega) (by omega) W; rw [hr, hv])
   generalize bs (wrO n) = s at *
   go_enter Tryz.func79, Tryz.ntmps79
   go_wp2_with (first
    | (go_at_call 109; refine cM (by with_reducible exact HT.out _) ?_; rintro e w1 ⟨rfl, rfl⟩)
    | (rw [HI.out]))
   go_ret
   exact ⟨rfl, HK.out⟩
theorem idxFrom_pos (s : List UInt8) : ∀ (l : List (List UInt8)) (i : Nat), Lib.idxFromS (l.map bs) (bs s) i = match l.findIdx? (fun x => x == s) with
  | some k => ((i + k : Nat) : Int)
  | none => -1
 | [], i => rfl
 | a :: l, i => by
  rw [List.map_cons, Lib.idxFromS, List.findIdx?_cons]
  by_cases h : a = s
  ·subst h
   simp
  ·rw [if_neg (fun e => h (bs_inj e)), idxFrom_pos s l (i + 1)]
   have h' : (a == s) = false := by simpa using h
   rw [h']
   simp only [Bool.false_eq_true, if_false]
   cases l.findIdx? (fun x => x == s) with
   | none => rfl
   | some k => simp only [Option.map_some]; rw [show i + 1 + k = i + (k + 1) by omega]
theorem idx_pos (l : List (List UInt8)) (s : List UInt8) : Lib.idxOfS (l.map bs) (bs s) = posI l s := by
 unfold Lib.idxOfS posI
 rw [idxFrom_pos]
 cases l.findIdx? (fun x => x == s) with
 | none => rfl
 | some k => simp
theorem opA_get (j : Nat) (h : j < 7) : opA[j]? = some (.string ((opsG.map bs).getD j ByteArray.empty)) := by
 have hc : j = 0 ∨ j = 1 ∨ j = 2 ∨ j = 3 ∨ j = 4 ∨ j = 5 ∨ j = 6 := by omega
 rcases hc with rfl | rfl | rfl | rfl | rfl | rfl | rfl <;> rfl
theorem cells_idx (W0 : World) (A : Array Value) (t : TypeId) (zs : List ByteArray) (hA : ∀ j, j < zs.length → A[j]? = some (.string (zs.getD j ByteArray.empty))) (j : Nat) (hj : j < zs.length) : (W0.alloc (.cells A t)).cell? ⟨W0.heap.size, 0 + j, none⟩ = some (.string (zs.getD j ByteArray.empty)) := by
 rw [Nat.zero_add, cell_of_row _ _ _ _ _ _ (heap_alloc_last W0 (.cells A t))]
 exact hA j hj
theorem ops_len : (opsG.map bs).length = 7 := by rw [List.length_map]; rfl
theorem opOf_any (s : List UInt8) (w : World) : Calls Tryz.prog 77 #[.string (bs s)] w fun e w' => e = .returned (.int .i64 (posI opsG s)) ∧ Kp [] w w' := by
 have HT := qH fun W => opTexts_any W
 have HI := qH op_hi
 have HO := qH op_one
 have hx := Tryz.slices_Index_string ((w.alloc (.cells opA 156)).heap.size) 0 7 7 (opsG.map bs) (bs s) ((w.alloc (.cells opA 156)).alloc (.cells opA 156)) (by rw [ops_len]; exact Nat.le_refl _) (by decide) (cells_idx _ _ _ _ fun j hj => opA_get j (by rw [ops_len] at hj; exact hj))
 rw [show (opsG.map bs).take 7 = opsG.map bs from List.take_of_length_le (by rw [ops_len]; exact Nat.le_refl _), idx_pos] at hx
 rw [show (w.alloc (.cells opA 156)).heap.size = w.heap.size + 1 by simp] at hx
 generalize posI opsG s = r at *
 have HX := qH hx
 have HK := qH (((Kp.refl [] w).alloc (.cells opA 156)).alloc (.cells opA 156))
 clear hx
 go_enter Tryz.func77, Tryz.ntmps77
 go_wp2_with (first
  | (go_at_call 109; refine cM (by with_reducible exact HT.out _) ?_; rintro e w1 ⟨rfl, rfl⟩)
  | (go_at_call 110; refine cM (by with_reducible exact HX.out) ?_; rintro e w1 ⟨rfl, rfl⟩)
  | (refine Nm.wpList_store_new (w.alloc (.cells opA 156)) 156 _ opA rfl _ _ rfl ?_ ?_ ?_ ?_ ?_ ?_; (case refine_1 => simp [Act.eval]); (case refine_2 => rfl); (case refine_3 => exact HI.out); (case refine_4 => rfl); (case refine_5 => exact HO.out)))
 go_ret
 exact ⟨rfl, HK.out⟩
end Go.Proofs.YtkkibibecgcbmaaGreatDoor
namespace Go.Proofs.YtkkibibecgcbmaaGreatDoor
open Go.RowKit
theorem posI_hit {l : List (List UInt8)} {s : List UInt8} {i : Nat} (h : l[i]? = some s) (hn : ∀ j, j < i → l[j]? ≠ some s) : posI l s = i := by
 unfold posI
 have : l.findIdx? (fun x => x == s) = some i := by
  rw [List.findIdx?_eq_some_iff_getElem]
  obtain ⟨hi, he⟩ := List.getElem?_eq_some_iff.1 h
  refine ⟨hi, by simp [he], fun j hj => ?_⟩
  have := hn j hj
  rw [List.getElem?_eq_getElem (by omega)] at this
  simpa using this
 rw [this]
theorem posI_miss {l : List (List UInt8)} {s : List UInt8} (hn : ∀ j, j < l.length → l[j]? ≠ some s) : posI l s = -1 := by
 unfold posI
 have : l.findIdx? (fun x => x == s) = none := by
  rw [List.findIdx?_eq_none_iff]
  intro x hx
  obtain ⟨j, hj⟩ := List.getElem?_of_mem hx
  have := hn j (List.getElem?_eq_some_iff.1 hj).1
  rw [hj] at this
  simpa using this
 rw [this]
theorem ds_row (i : Nat) (h : i < 25) : ∃ x v1 v2 v3, keysG[i]? = some x ∧ dsA[i * 4]? = some (.string (bs x)) ∧ dsA[i * 4 + 1]? = some v1 ∧ dsA[i * 4 + 2]? = some v2 ∧ dsA[i * 4 + 3]? = some v3 := by
 have hc : i = 0 ∨ i = 1 ∨ i = 2 ∨ i = 3 ∨ i = 4 ∨ i = 5 ∨ i = 6 ∨ i = 7 ∨ i = 8 ∨ i = 9 ∨ i = 10 ∨ i = 11 ∨ i = 12 ∨ i = 13 ∨ i = 14 ∨ i = 15 ∨ i = 16 ∨ i = 17 ∨ i = 18 ∨ i = 19 ∨ i = 20 ∨ i = 21 ∨ i = 22 ∨ i = 23 ∨ i = 24 := by omega
 rcases hc with rfl | rfl | rfl | rfl | rfl | rfl | rfl | rfl | rfl | rfl | rfl | rfl | rfl | rfl | rfl | rfl | rfl | rfl | rfl | rfl | rfl | rfl | rfl | rfl | rfl <;> exact ⟨_, _, _, _, rfl, rfl, rfl, rfl, rfl⟩
theorem pred108 (s x : List UInt8) (v1 v2 v3 : Value) (S : Nat) (W : World) (hS : W.cell? ⟨S, 0, none⟩ = some (.string (bs s))) : Calls Tryz.prog 108 #[.agg #[.string (bs x), v1, v2, v3], .pointer (some ⟨S, 0, none⟩)] W fun e w' => e = .returned (.bool (x == s)) ∧ Kp [] W w' := by
 have hlt : S < W.heap.size := World.block_lt_of_cell? _ _ hS
 have hne : S ≠ W.heap.size := by omega
 have hne2 : W.heap.size ≠ S := by omega
 have HS := qH (show ((bs x).toList == (bs s).toList) = (x == s) by rw [toL, toL])
 have HK := qH ((Kp.refl [] W).alloc (.cells #[.string (bs x), v1, v2, v3] 94))
 have hS' : (W.alloc (.cells #[.string (bs x), v1, v2, v3] 94)).cell? ⟨S, 0, none⟩ = some (.string (bs s)) := (World.cell?_alloc_old _ _ _ hne).trans hS
 clear hlt
 go_enter Tryz.func108, Tryz.ntmps108
 go_wp2
 go_ret
 exact ⟨by rw [← HS.out]; rfl, HK.out⟩
theorem idx107 (s : List UInt8) (B S : Nat) (w : World) (hB : w.heap[B]? = some (.cells dsA 134 (0, 0))) (hS : w.cell? ⟨S, 0, none⟩ = some (.string (bs s))) : Calls Tryz.prog 107 #[.slice (some ⟨B, 0, none⟩) 25 25, .func (.func 108) #[] #[.pointer (some ⟨S, 0, none⟩)]] w fun e w' => e = .returned (.int .i64 (posI keysG s)) ∧ Kp [] w w' := by
 have hcS := fun W (h : Kp [] w W) => (show W.cell? ⟨S, 0, none⟩ = some (.string (bs s)) by
  have hl : S < w.heap.size := World.block_lt_of_cell? _ _ hS
  simp only [World.cell?, h.block S hl (by simp)] at hS ⊢
  exact hS)
 have hcB := fun W (h : Kp [] w W) (o : Nat) => (show W.cell? ⟨B, o, none⟩ = dsA[o]? by
  rw [cell_of_row _ _ _ _ _ _ ((h.block B (block_lt hB) (by simp)).trans hB)])
 obtain ⟨r, hr⟩ : ∃ r, posI keysG s = r := ⟨_, rfl⟩
 have HH := qH fun i (h : keysG[i]? = some s) (hn : ∀ j, j < i → keysG[j]? ≠ some s) => (posI_hit h hn).symm.trans hr
 have HM := qH fun (hn : ∀ j, j < 25 → keysG[j]? ≠ some s) => (posI_miss (l := keysG) hn).symm.trans hr
 rw [hr]
 have HCS := qH hcS
 have HCB := qH hcB
 clear hr hcS hcB hB hS
 go_enter Tryz.func107, Tryz.ntmps107
 go_wp2
 go_loopw [8] (fun s8 wx => ∃ i : Nat, i ≤ 25 ∧ s8 = .int .i64 i ∧ (∀ j, j < i → keysG[j]? ≠ some s) ∧ Kp [] w wx) (fun s8 _ => 25 - (intOf s8).toNat)
 case atStart => exact ⟨0, by omega, rfl, fun j hj => absurd hj (Nat.not_lt_zero _), Kp.refl _ _⟩
 case round =>
  obtain ⟨i, hi, rfl, hn, hk⟩ := hrel
  have HN := qH hn
  have HK := qH hk
  by_cases hc : i = 25
  ·subst hc
   obtain rfl := HM.out HN.out
   clear hn hk
   go_wp2
   go_ret
   exact ⟨rfl, HK.out⟩
  have hi2 : i < 25 := by omega
  have hi3 : (i : Int) < 25 := by omega
  obtain ⟨x, v1, v2, v3, hx, h0, h1, h2, h3⟩ := ds_row i hi2
  have c0 := (HCB.out _ hk _).trans h0
  have c1 := (HCB.out _ hk _).trans h1
  have c2 := (HCB.out _ hk _).trans h2
  have c3 := (HCB.out _ hk _).trans h3
  have HP := qH (pred108 s x v1 v2 v3 S wr (HCS.out _ hk))
  have hA := HH.out i
  rw [hx] at hA
  have HA := qH hA
  have HST := qH fun (e : (x == s) = false) => (show ∀ j, j < i + 1 → keysG[j]? ≠ some s from fun j hj => by
   by_cases q : j = i
   ·subst q
    rw [hx]
    simpa using e
   ·exact HN.out j (by omega))
  have hw : IntKind.i64.wrap ((i : Int) + 1) = ((i + 1 : Nat) : Int) := by rw [IntKind.wrap_i64]; omega
  clear hn hk h0 h1 h2 h3 hA hx
  generalize hb : (x == s) = bb at HP HST
  cases bb with
  | true =>
   have hxs : x = s := by simpa using hb
   subst hxs
   obtain rfl := HA.out rfl HN.out
   clear hb
   go_wp2_with (go_at_call 108; refine cM (by with_reducible exact HP.out) ?_; rintro e w1 ⟨rfl, hk1⟩; have HK1 := qH (HK.out.trans hk1); clear hk1)
   go_ret
   exact ⟨rfl, HK1.out⟩
  | false =>
   clear hb
   go_wp2_with (go_at_call 108; refine cM (by with_reducible exact HP.out) ?_; rintro e w1 ⟨rfl, hk1⟩; have HK1 := qH (HK.out.trans hk1); clear hk1)
   refine ⟨⟨i + 1, by omega, rfl, HST.out (by trivial), HK1.out⟩, ?_⟩
   simp only [intOf]
   omega
theorem keyOf_any (s : List UInt8) (w : World) : Calls Tryz.prog 76 #[.string (bs s)] w fun e w' => e = .returned (.int .i64 (posI keysG s)) ∧ Kp [] w w' := by
 have HD := qH fun W => descriptions_any W
 have HI := qH ds_hi
 have HO := qH ds_one
 obtain ⟨W0, hW0⟩ : ∃ W0, w.alloc (.cells #[.string (bs s)] 9) = W0 := ⟨_, rfl⟩
 obtain ⟨W1, hW1⟩ : ∃ W1, W0.alloc (.cells dsA 134) = W1 := ⟨_, rfl⟩
 obtain ⟨B, hB⟩ : ∃ B, W1.heap.size = B := ⟨_, rfl⟩
 obtain ⟨W2, hW2⟩ : ∃ W2, W1.alloc (.cells dsA 134) = W2 := ⟨_, rfl⟩
 have hk : Kp [] w W2 := by rw [← hW2, ← hW1, ← hW0]; exact (((Kp.refl [] w).alloc _).alloc _).alloc _
 have hb : W2.heap[B]? = some (.cells dsA 134 (0, 0)) := by rw [← hW2, ← hB]; exact heap_alloc_last _ _
 have hs : W2.cell? ⟨w.heap.size, 0, none⟩ = some (.string (bs s)) := by
  have h0 : W0.heap[w.heap.size]? = some (.cells #[.string (bs s)] 9 (0, 0)) := by rw [← hW0]; exact heap_alloc_last _ _
  have hk2 : Kp [] W0 W2 := by rw [← hW2, ← hW1]; exact ((Kp.refl [] W0).alloc _).alloc _
  rw [cell_of_row _ _ _ _ _ _ ((hk2.block _ (block_lt h0) (by simp)).trans h0)]
  rfl
 have HX := qH (idx107 s B w.heap.size W2 hb hs)
 have HK := qH hk
 have HW2 := qH hW2
 have HB := qH hB
 have hB1 : w.heap.size + 1 + 1 = B := by rw [← hB, ← hW1, ← hW0]; simp
 have hW1b : (w.alloc (.cells #[.string (bs s)] 9)).alloc (.cells dsA 134) = W1 := by rw [hW0, hW1]
 clear hb hs hk hW2 hB hW1 hW0
 generalize posI keysG s = r at *
 go_enter Tryz.func76, Tryz.ntmps76
 go_wp2_with (first
  | (go_at_call 92; refine cM (by with_reducible exact HD.out _) ?_; rintro e w1 ⟨rfl, rfl⟩; rw [hW1b])
  | (go_at_call 107; refine cM (by with_reducible exact HX.out) ?_; rintro e w1 ⟨rfl, hk1⟩; have HK1 := qH (HK.out.trans hk1); clear hk1)
  | (refine Nm.wpList_store_new W1 134 _ dsA rfl _ _ rfl ?_ ?_ ?_ ?_ ?_ ?_; (case refine_1 => simp [Act.eval]); (case refine_2 => rfl); (case refine_3 => exact HI.out); (case refine_4 => rfl); (case refine_5 => exact HO.out); rw [HW2.out, HB.out]))
 go_ret
 exact ⟨rfl, HK1.out⟩
end Go.Proofs.YtkkibibecgcbmaaGreatDoor
namespace Go.Proofs.YtkkibibecgcbmaaGreatDoor
open Go.RowKit
theorem ops_ok (n : Nat) (h1 : 1 ≤ n) (h2 : n ≤ 24) : (opsK n).length ≤ 20 ∧ (opsK n).all (fun b => decide (b.toNat < 128)) = true ∧ Lib.fields (opsK n) = (opT n).map wrO := by
 have hc : n = 1 ∨ n = 2 ∨ n = 3 ∨ n = 4 ∨ n = 5 ∨ n = 6 ∨ n = 7 ∨ n = 8 ∨ n = 9 ∨ n = 10 ∨ n = 11 ∨ n = 12 ∨ n = 13 ∨ n = 14 ∨ n = 15 ∨ n = 16 ∨ n = 17 ∨ n = 18 ∨ n = 19 ∨ n = 20 ∨ n = 21 ∨ n = 22 ∨ n = 23 ∨ n = 24 := by omega
 rcases hc with rfl | rfl | rfl | rfl | rfl | rfl | rfl | rfl | rfl | rfl | rfl | rfl | rfl | rfl | rfl | rfl | rfl | rfl | rfl | rfl | rfl | rfl | rfl | rfl <;> exact ⟨by decide, by decide, by decide⟩
theorem wr_mem {L : List Int} (hL : ∀ o ∈ L, 1 ≤ o ∧ o ≤ 6) (op : Int) : Lib.containsS ((L.map wrO).map bs) (bs (wrO op)) = L.contains op := by
 rw [Bool.eq_iff_iff, Lib.containsS_iff, List.contains_iff_mem]
 constructor
 ·intro h
  obtain ⟨y, hy, he⟩ := List.mem_map.1 h
  obtain ⟨o, ho, rfl⟩ := List.mem_map.1 hy
  have h1 := hL o ho
  have h2 := congrArg (posI opsG) (bs_inj he)
  rw [posO h1.1 h1.2] at h2
  by_cases hr : 1 ≤ op ∧ op ≤ 6
  ·rw [posO hr.1 hr.2] at h2
   rw [← h2]
   exact ho
  ·rw [wrO_out (by omega), show posI opsG [] = 0 by decide] at h2
   omega
 ·intro h
  exact List.mem_map.2 ⟨wrO op, List.mem_map.2 ⟨op, h, rfl⟩, rfl⟩
theorem hasOp_any {w : World} (hE : Env w) (n : Nat) (h1 : 1 ≤ n) (h2 : n ≤ 24) (v0 v1 v3 : Value) (op : Int) : Calls Tryz.prog 60 #[.agg #[v0, v1, .string (bs (opsK n)), v3], .int .i64 op] w fun e w' => e = .returned (.bool ((opT n).contains op)) ∧ Kp [] w w' := by
 obtain ⟨hl, ha, hf⟩ := ops_ok n h1 h2
 obtain ⟨W0, hW0⟩ : ∃ W0, w.alloc (.cells #[v0, v1, .string (bs (opsK n)), v3] 94) = W0 := ⟨_, rfl⟩
 obtain ⟨F, hF⟩ : ∃ F, W0.heap.size = F := ⟨_, rfl⟩
 obtain ⟨L, hL⟩ : ∃ L, (opT n).map wrO = L := ⟨_, rfl⟩
 have hk0 : Kp [] w W0 := by rw [← hW0]; exact (Kp.refl [] w).alloc _
 have hc2 : W0.cell? ⟨w.heap.size, 2, none⟩ = some (.string (bs (opsK n))) := by rw [← hW0, cell_of_row _ _ _ _ _ _ (heap_alloc_last w _)]; rfl
 have hfi := Tryz.strings_Fields (bs (opsK n)) W0 (by rw [bs_size]; omega) (fun j b hb => by
  rw [bs_data] at hb
  have := List.all_eq_true.1 ha b (List.mem_of_getElem? hb)
  simpa using this) (hE.kp0 hk0).sp
 rw [bs_data, hf, hL, hF] at hfi
 obtain ⟨W1, hW1⟩ : ∃ W1, W0.alloc (.cells (L.map fun l => Value.string ⟨l.toArray⟩).toArray 9) = W1 := ⟨_, rfl⟩
 rw [hW1] at hfi
 have hk1 : Kp [] W0 W1 := by rw [← hW1]; exact (Kp.refl [] W0).alloc _
 have hFb : W1.heap[F]? = some (.cells (L.map fun l => Value.string ⟨l.toArray⟩).toArray 9 (0, 0)) := by rw [← hW1, ← hF]; exact heap_alloc_last _ _
 have hcon := fun W (h : Kp [] W1 W) => Tryz.slices_Contains_string F 0 L.length L.length (L.map bs) (bs (wrO op)) W (by rw [List.length_map]; exact Nat.le_refl _) (by
   rw [← hL, List.length_map]
   have : ∀ k : Int, (opT k).length ≤ 5 := fun k => by unfold opT; (repeat' split); all_goals decide
   have := this n
   omega) (fun j hj => by
  rw [Nat.zero_add, cell_of_row _ _ _ _ _ _ ((h.block F (block_lt hFb) (by simp)).trans hFb)]
  rw [List.length_map] at hj
  have hx : (L.map bs).getD j ByteArray.empty = bs L[j] := by simp [List.getD, hj]
  rw [hx]
  simp [hj]
  rfl)
 rw [List.take_of_length_le (by rw [List.length_map]; exact Nat.le_refl _), ← hL, wr_mem (opT_in n) op, hL] at hcon
 have HW := qH fun W => opWritten_any op W
 have HC := qH hcon
 have HF := qH hfi
 have HK := qH (hk0.trans hk1)
 have HS := qH hF
 clear hcon hfi hk0 hk1 hFb hW1 hf ha hl hL hE h1 h2
 generalize (opT n).contains op = r at *
 generalize bs (opsK n) = q at *
 generalize L.length = m at *
 go_enter Tryz.func60, Tryz.ntmps60
 go_wp2_with (first
  | (go_at_call 94; refine cM (by with_reducible exact HF.out) ?_; rintro e w1 ⟨rfl, rfl⟩)
  | (go_at_call 79; refine cM (by with_reducible exact HW.out _) ?_; rintro e w2 ⟨rfl, hk2⟩; have HK2 := qH hk2; clear hk2)
  | (go_at_call 93; refine cM (by with_reducible exact HC.out _ HK2.out) ?_; rintro e w3 ⟨rfl, rfl⟩))
 go_ret
 exact ⟨rfl, HK.out.trans HK2.out⟩
theorem bltL_eq (s : List UInt8) : bltL.contains s = (s == [112, 97, 116, 104] || (s == [99, 111, 110, 116, 101, 110, 116] || s == [110, 101, 116])) := by
 unfold bltL
 simp only [List.contains_cons, List.contains_nil, Bool.or_false]
theorem isImport_any (t : Tm) {w : World} (hE : Env w) (ht : SmT t) : Calls Tryz.prog 130 #[.agg (tmC t)] w fun e w' => e = .returned (.bool (impOk t)) ∧ Kp [] w w' := by
 obtain ⟨W0, hW⟩ : ∃ W0, w.alloc (.cells (tmC t) 31) = W0 := ⟨_, rfl⟩
 have hk0 : Kp [] w W0 := by rw [← hW]; exact (Kp.refl [] w).alloc _
 have hb0 : MAt W0 w.heap.size t := by rw [← hW]; exact MAt.new w t
 obtain ⟨c0, c1, c2, c3⟩ := hb0.cells
 have hg := qH fun W => isGlob_any t W ht
 have ht := qH fun W (h : Kp [] w W) => isTemplate_any t (hE.kp0 h) ht
 have HK := qH hk0
 clear hb0 hk0 hE
 have e0 : ((bs t.name).toList == [112, 114, 111, 103, 114, 97, 109]) = (t.name == [112, 114, 111, 103, 114, 97, 109]) := by rw [toL]
 have e1 : ((bs t.name).toList == [112, 97, 114, 101, 110, 116]) = (t.name == [112, 97, 114, 101, 110, 116]) := by rw [toL]
 have d0 : ((bs t.val).toList == [112, 97, 116, 104]) = (t.val == [112, 97, 116, 104]) := by rw [toL]
 have d1 : ((bs t.val).toList == [99, 111, 110, 116, 101, 110, 116]) = (t.val == [99, 111, 110, 116, 101, 110, 116]) := by rw [toL]
 have d2 : ((bs t.val).toList == [110, 101, 116]) = (t.val == [110, 101, 116]) := by rw [toL]
 have hr : impOk t = if (t.name == [112, 114, 111, 103, 114, 97, 109]) then tmplOk t.val else if (t.name == [112, 97, 114, 101, 110, 116]) then globOk t.val else (t.val == [112, 97, 116, 104] || (t.val == [99, 111, 110, 116, 101, 110, 116] || t.val == [110, 101, 116])) := by
  unfold impOk
  rw [bltL_eq]
  simp only [beq_iff_eq]
 rw [hr]
 clear hr
 unfold tmC at *
 generalize globOk t.val = a at *
 generalize tmplOk t.val = b at *
 generalize (t.name == [112, 114, 111, 103, 114, 97, 109]) = n0 at *
 generalize (t.name == [112, 97, 114, 101, 110, 116]) = n1 at *
 generalize (t.val == [112, 97, 116, 104]) = m0 at *
 generalize (t.val == [99, 111, 110, 116, 101, 110, 116]) = m1 at *
 generalize (t.val == [110, 101, 116]) = m2 at *
 cases n0
 ·cases n1
  ·cases m0
   ·cases m1
    ·cases m2 <;>
     ·go_enter Tryz.func130, Tryz.ntmps130
      go_wp2
      go_ret
      exact ⟨rfl, HK.out⟩
    ·go_enter Tryz.func130, Tryz.ntmps130
     go_wp2
     go_ret
     exact ⟨rfl, HK.out⟩
   ·go_enter Tryz.func130, Tryz.ntmps130
    go_wp2
    go_ret
    exact ⟨rfl, HK.out⟩
  ·go_enter Tryz.func130, Tryz.ntmps130
   go_wp2_with (go_at_call 124; refine cM (by with_reducible exact hg.out _) ?_; rintro e w2 ⟨rfl, hb⟩; have HB2 := qH (HK.out.trans hb); clear hb)
   go_ret
   exact ⟨rfl, HB2.out⟩
 ·go_enter Tryz.func130, Tryz.ntmps130
  go_wp2_with (go_at_call 128; refine cM (by with_reducible exact ht.out _ HK.out) ?_; rintro e w2 ⟨rfl, hb⟩; have HB2 := qH (HK.out.trans hb); clear hb)
  go_ret
  exact ⟨rfl, HB2.out⟩
end Go.Proofs.YtkkibibecgcbmaaGreatDoor
namespace Go.Proofs.YtkkibibecgcbmaaGreatDoor
open Go.RowKit
theorem atoi_ok8 {w : World} (s : List UInt8) (hs : s.length ≤ 100000000) (v : Int) (h : Lib.atoiAll s = .ok v) : Calls Tryz.prog 165 #[.string (bs s)] w fun e w' => e = .returned (.tuple #[.int .i64 v, .nilIface]) ∧ Kp [] w w' :=
 (Tryz.strconv_Atoi_ok (bs s) (by rw [bs_size]; omega) v h w).mono fun e w' ⟨he, hw⟩ => ⟨he, by
  rcases hw with rfl | ⟨t, rfl⟩
  ·exact Kp.refl _ _
  ·exact Kp.of_below (Lib.bytesWorld_below _ _ _)⟩
theorem atoi_bad8 {w : World} (hE : Env w) (s : List UInt8) (hs : s.length ≤ 100000000) (h : ∀ v, Lib.atoiAll s ≠ .ok v) : Calls Tryz.prog 165 #[.string (bs s)] w fun e w' => ∃ v N, e = .returned (.tuple #[.int .i64 v, .iface 245 (.pointer (some ⟨N, 0, none⟩))]) ∧ Kp [] w w' := by
 have hl : (bs s).size ≤ 281474976710656 := by rw [bs_size]; omega
 cases hv : Lib.atoiAll s with
 | ok v => exact absurd hv (h v)
 | «syntax» =>
  obtain ⟨te, pe, he⟩ := hE.e4
  exact (Tryz.strconv_Atoi_syntax (bs s) hl hv _ w he (.inr ⟨te, pe, rfl⟩)).mono fun _ _ ⟨N, h1, _, _, h2⟩ => ⟨_, N, h1, Kp.of_below h2⟩
 | range =>
  obtain ⟨te, pe, he⟩ := hE.e5
  exact (Tryz.strconv_Atoi_range (bs s) hl hv _ w he (.inr ⟨te, pe, rfl⟩)).mono fun _ _ ⟨N, h1, _, _, h2⟩ => ⟨_, N, h1, Kp.of_below h2⟩
theorem isPrio_any (t : Tm) {w : World} (hE : Env w) (ht : SmT t) : Calls Tryz.prog 131 #[.agg (tmC t)] w fun e w' => e = .returned (.bool (prioOk t.val)) ∧ Kp [] w w' := by
 obtain ⟨W0, hW⟩ : ∃ W0, w.alloc (.cells (tmC t) 31) = W0 := ⟨_, rfl⟩
 obtain ⟨B, hB⟩ : ∃ B, w.heap.size = B := ⟨_, rfl⟩
 have hk0 : Kp [] w W0 := by rw [← hW]; exact (Kp.refl [] w).alloc _
 have hb0 : MAt W0 B t := by rw [← hW, ← hB]; exact MAt.new w t
 obtain ⟨-, -, -, c3⟩ := hb0.cells
 have HC := qH fun W (h : Kp [] W0 W) => (hb0.kp h (by simp)).cells.2.2.2
 have HK := qH hk0
 unfold tmC at hW ⊢
 clear hb0
 by_cases hv : ∃ v, Lib.atoiAll t.val = .ok v
 ·obtain ⟨v, hv⟩ := hv
  have hbd := Lib.atoiAll_bounds hv
  have HA := qH fun W => atoi_ok8 (w := W) t.val ht.2 v hv
  have HI := qH fun (W : World) (h : Kp [] W0 W) => itoa_any (hE.kp0 (hk0.trans h)) v (by omega) (by omega)
  have hr : prioOk t.val = (Lib.itoa v == t.val && decide (-1000 ≤ v) && decide (v ≤ 1000)) := by unfold prioOk; rw [hv]
  have hs := str_eq (Lib.itoa v) t.val
  rw [hr]
  clear hr hv hbd hE hk0 ht
  generalize bs (Lib.itoa v) = q at *
  generalize bs t.val = y at *
  generalize hn : (Lib.itoa v == t.val) = n at hs ⊢
  clear hn
  go_enter Tryz.func131, Tryz.ntmps131
  go_upto_region 2 with (go_at_call 165; refine cM (by with_reducible exact HA.out _) ?_; rintro e w1 ⟨rfl, hk1⟩; have HK1 := qH hk1; have d3 := HC.out _ hk1; clear hk1)
  have HS := qH (show ∀ W, Kp [] w1.drew W → W.cell? ⟨B, 3, none⟩ = some (.string y) ∧ Kp [] w1 W from fun W h => have h1 : Kp [] w1 W := ((Kp.refl [] w1).drew 1).trans h; ⟨HC.out _ (HK1.out.trans h1), h1⟩)
  have HST := qH (HS.out _ (Kp.refl _ _))
  have HX := qH (show ∀ W, (W.cell? ⟨B, 3, none⟩ = some (.string y) ∧ Kp [] w1 W) → _ from fun W h => HI.out W (HK1.out.trans h.2))
  clear c3 d3
  cases n
  ·go_region_held3 (fun W => W.cell? ⟨B, 3, none⟩ = some (.string y) ∧ Kp [] w1 W) (first | exact HST.out | assumption | exact HS.out _ (by assumption)) (first | (go_at_call 57; refine cM (by with_reducible exact HX.out _ (by assumption)) ?_; rintro e W ⟨rfl, hb⟩))
   all_goals go_wp2
   all_goals go_ret
   all_goals exact ⟨rfl, HK.out.trans (HK1.out.trans (And.right (by assumption)))⟩
  ·by_cases g1 : -1000 ≤ v
   ·by_cases g2 : v ≤ 1000
    ·go_region_held3 (fun W => W.cell? ⟨B, 3, none⟩ = some (.string y) ∧ Kp [] w1 W) (first | exact HST.out | assumption | exact HS.out _ (by assumption)) (first | (go_at_call 57; refine cM (by with_reducible exact HX.out _ (by assumption)) ?_; rintro e W ⟨rfl, hb⟩))
     all_goals go_wp2
     all_goals go_ret
     all_goals exact ⟨by simp [g1, g2], HK.out.trans (HK1.out.trans (And.right (by assumption)))⟩
    ·go_region_held3 (fun W => W.cell? ⟨B, 3, none⟩ = some (.string y) ∧ Kp [] w1 W) (first | exact HST.out | assumption | exact HS.out _ (by assumption)) (first | (go_at_call 57; refine cM (by with_reducible exact HX.out _ (by assumption)) ?_; rintro e W ⟨rfl, hb⟩))
     all_goals go_wp2
     all_goals go_ret
     all_goals exact ⟨by simp [g1], HK.out.trans (HK1.out.trans (And.right (by assumption)))⟩
   ·go_region_held3 (fun W => W.cell? ⟨B, 3, none⟩ = some (.string y) ∧ Kp [] w1 W) (first | exact HST.out | assumption | exact HS.out _ (by assumption)) (first | (go_at_call 57; refine cM (by with_reducible exact HX.out _ (by assumption)) ?_; rintro e W ⟨rfl, hb⟩))
    all_goals go_wp2
    all_goals go_ret
    all_goals exact ⟨by simp; omega, HK.out.trans (HK1.out.trans (And.right (by assumption)))⟩
 ·have hr : prioOk t.val = false := by
   unfold prioOk
   split
   ·rename_i v hv'
    exact absurd ⟨v, hv'⟩ hv
   ·rfl
  rw [hr]
  have HB := qH (atoi_bad8 (hE.kp0 hk0) t.val ht.2 (fun v h => hv ⟨v, h⟩))
  clear hv hr hE hk0 ht
  generalize bs t.val = y at *
  go_enter Tryz.func131, Tryz.ntmps131
  go_upto_region 2 with (go_at_call 165; refine cM (by with_reducible exact HB.out) ?_; rintro e w1 ⟨v, N, rfl, hk1⟩; have HK1 := qH (HK.out.trans hk1); clear hk1)
  go_region
  all_goals go_wp2
  all_goals go_ret
  all_goals exact ⟨rfl, HK1.out.drew 1⟩
end Go.Proofs.YtkkibibecgcbmaaGreatDoor
namespace Go.Proofs.YtkkibibecgcbmaaGreatDoor
open Go.RowKit
theorem checkTerm_n {t : Tm} {n : Nat} {s1 s2 : ByteArray} {f1 f2 : Nat} (hkey : t.key = n) {w : World}
  (hN : ∀ W, Kp [] w W → Calls Tryz.prog f1 #[.string (bs t.name)] W fun e w' => e = .returned (.bool false) ∧ Kp [] W w')
  (hD : ∀ W, Calls Tryz.prog 59 #[.int .i64 (n : Int)] W fun e w' => e = .returned (.tuple #[.agg #[.string s1, .func (.func f1) #[] #[], .string s2, .func (.func f2) #[] #[]], .bool true]) ∧ Kp [] W w')
  (eg1 : ∀ args w, (callFunc f1 args).run Tryz.prog w = .ok (.enter f1 args) w) : Calls Tryz.prog 38 #[.agg (tmC t)] w fun e w' => e = .returned (.int .i64 101) ∧ Kp [] w w' := by
 obtain ⟨W0, hW⟩ : ∃ W0, w.alloc (.cells (tmC t) 31) = W0 := ⟨_, rfl⟩
 obtain ⟨B, hB⟩ : ∃ B, w.heap.size = B := ⟨_, rfl⟩
 have hk0 : Kp [] w W0 := by rw [← hW]; exact (Kp.refl [] w).alloc _
 have hb0 : MAt W0 B t := by rw [← hW, ← hB]; exact MAt.new w t
 have HC := qH fun W (h : Kp [] W0 W) => (hb0.kp h (by simp)).cells
 obtain ⟨c0, c1, c2, c3⟩ := hb0.cells
 rw [hkey] at HC c0
 unfold tmC at *
 rw [hkey] at *
 have HK0 := qH hk0
 have HD := qH hD
 have HN := qH hN
 have HI4 := qH (show (Tryz.prog.info? 94).map (·.size) = some (#[Value.string s1, .func (.func f1) #[] #[], .string s2, .func (.func f2) #[] #[]]).size from info94)
 have HO4 := qH (show (#[Value.string s1, .func (.func f1) #[] #[], .string s2, .func (.func f2) #[] #[]]).all (fun v => v.oneCell') = true by kernel_rfl)
 clear hb0 hk0 hD hN hkey
 go_enter Tryz.func38, Tryz.ntmps38
 go_upto_region 4 with (first
  | (go_at_call 59; refine cM (by with_reducible exact HD.out _) ?_; rintro e w1 ⟨rfl, hk1⟩; have HK1 := qH hk1; clear hk1)
  | (refine Nm.wpList_store_new w1 94 _ #[.string s1, .func (.func f1) #[] #[], .string s2, .func (.func f2) #[] #[]] rfl _ _ rfl rfl rfl HI4.out rfl HO4.out ?_))
 obtain ⟨W2, hW2⟩ : ∃ W2, w1.alloc (.cells #[.string s1, .func (.func f1) #[] #[], .string s2, .func (.func f2) #[] #[]] 94) = W2 := ⟨_, rfl⟩
 obtain ⟨D, hD⟩ : ∃ D, w1.heap.size = D := ⟨_, rfl⟩
 have hk2 : Kp [] W0 W2 := by rw [← hW2]; exact HK1.out.alloc _
 have hDb : W2.heap[D]? = some (.cells #[.string s1, .func (.func f1) #[] #[], .string s2, .func (.func f2) #[] #[]] 94 (0, 0)) := by rw [← hW2, ← hD]; exact heap_alloc_last _ _
 have HC2 := qH (show ∀ W, Kp [] W2 W → (W.cell? ⟨B, 0, none⟩ = some (.int .i64 (n : Int)) ∧ W.cell? ⟨B, 1, none⟩ = some (.string (bs t.name)) ∧ W.cell? ⟨B, 2, none⟩ = some (.int .i64 t.op) ∧ W.cell? ⟨B, 3, none⟩ = some (.string (bs t.val))) ∧ (W.cell? ⟨D, 0, none⟩ = some (.string s1) ∧ W.cell? ⟨D, 1, none⟩ = some (.func (.func f1) #[] #[]) ∧ W.cell? ⟨D, 2, none⟩ = some (.string s2) ∧ W.cell? ⟨D, 3, none⟩ = some (.func (.func f2) #[] #[])) from fun W h => ⟨HC.out _ (hk2.trans h), by
  have hb := (h.block D (block_lt hDb) (by simp)).trans hDb
  refine ⟨?_, ?_, ?_, ?_⟩ <;> rw [cell_of_row _ _ _ _ _ _ hb] <;> rfl⟩)
 have HK2 := qH hk2
 obtain ⟨⟨-, a1, a2, -⟩, -, b1, -, -⟩ := HC2.out _ (Kp.refl _ _)
 clear hk2 hDb
 rw [hW2, hD]
 go_wp2_with (first
  | (refine cM (by with_reducible exact HN.out _ (HK0.out.trans HK2.out)) ?_; rintro e w3 ⟨rfl, hk3⟩; obtain ⟨⟨g0, g1, g2, g3⟩, e0, e1, e2, e3⟩ := HC2.out _ hk3; have HK3 := qH hk3; clear hk3 a1 a2 b1))
 go_ret
 exact ⟨rfl, HK0.out.trans (HK2.out.trans HK3.out)⟩
theorem checkTerm_o {t : Tm} {n : Nat} {s1 s2 : ByteArray} {f1 f2 : Nat} (hkey : t.key = n) {w : World}
  (hN : ∀ W, Kp [] w W → Calls Tryz.prog f1 #[.string (bs t.name)] W fun e w' => e = .returned (.bool true) ∧ Kp [] W w')
  (hO : ∀ W, Kp [] w W → Calls Tryz.prog 60 #[.agg #[.string s1, .func (.func f1) #[] #[], .string s2, .func (.func f2) #[] #[]], .int .i64 t.op] W fun e w' => e = .returned (.bool false) ∧ Kp [] W w')
  (hD : ∀ W, Calls Tryz.prog 59 #[.int .i64 (n : Int)] W fun e w' => e = .returned (.tuple #[.agg #[.string s1, .func (.func f1) #[] #[], .string s2, .func (.func f2) #[] #[]], .bool true]) ∧ Kp [] W w')
  (eg1 : ∀ args w, (callFunc f1 args).run Tryz.prog w = .ok (.enter f1 args) w) : Calls Tryz.prog 38 #[.agg (tmC t)] w fun e w' => e = .returned (.int .i64 102) ∧ Kp [] w w' := by
 obtain ⟨W0, hW⟩ : ∃ W0, w.alloc (.cells (tmC t) 31) = W0 := ⟨_, rfl⟩
 obtain ⟨B, hB⟩ : ∃ B, w.heap.size = B := ⟨_, rfl⟩
 have hk0 : Kp [] w W0 := by rw [← hW]; exact (Kp.refl [] w).alloc _
 have hb0 : MAt W0 B t := by rw [← hW, ← hB]; exact MAt.new w t
 have HC := qH fun W (h : Kp [] W0 W) => (hb0.kp h (by simp)).cells
 obtain ⟨c0, c1, c2, c3⟩ := hb0.cells
 rw [hkey] at HC c0
 unfold tmC at *
 rw [hkey] at *
 have HK0 := qH hk0
 have HD := qH hD
 have HN := qH hN
 have HO := qH hO
 have HI4 := qH (show (Tryz.prog.info? 94).map (·.size) = some (#[Value.string s1, .func (.func f1) #[] #[], .string s2, .func (.func f2) #[] #[]]).size from info94)
 have HO4 := qH (show (#[Value.string s1, .func (.func f1) #[] #[], .string s2, .func (.func f2) #[] #[]]).all (fun v => v.oneCell') = true by kernel_rfl)
 clear hb0 hk0 hD hN hkey hO
 go_enter Tryz.func38, Tryz.ntmps38
 go_upto_region 4 with (first
  | (go_at_call 59; refine cM (by with_reducible exact HD.out _) ?_; rintro e w1 ⟨rfl, hk1⟩; have HK1 := qH hk1; clear hk1)
  | (refine Nm.wpList_store_new w1 94 _ #[.string s1, .func (.func f1) #[] #[], .string s2, .func (.func f2) #[] #[]] rfl _ _ rfl rfl rfl HI4.out rfl HO4.out ?_))
 obtain ⟨W2, hW2⟩ : ∃ W2, w1.alloc (.cells #[.string s1, .func (.func f1) #[] #[], .string s2, .func (.func f2) #[] #[]] 94) = W2 := ⟨_, rfl⟩
 obtain ⟨D, hD⟩ : ∃ D, w1.heap.size = D := ⟨_, rfl⟩
 have hk2 : Kp [] W0 W2 := by rw [← hW2]; exact HK1.out.alloc _
 have hDb : W2.heap[D]? = some (.cells #[.string s1, .func (.func f1) #[] #[], .string s2, .func (.func f2) #[] #[]] 94 (0, 0)) := by rw [← hW2, ← hD]; exact heap_alloc_last _ _
 have HC2 := qH (show ∀ W, Kp [] W2 W → (W.cell? ⟨B, 0, none⟩ = some (.int .i64 (n : Int)) ∧ W.cell? ⟨B, 1, none⟩ = some (.string (bs t.name)) ∧ W.cell? ⟨B, 2, none⟩ = some (.int .i64 t.op) ∧ W.cell? ⟨B, 3, none⟩ = some (.string (bs t.val))) ∧ (W.cell? ⟨D, 0, none⟩ = some (.string s1) ∧ W.cell? ⟨D, 1, none⟩ = some (.func (.func f1) #[] #[]) ∧ W.cell? ⟨D, 2, none⟩ = some (.string s2) ∧ W.cell? ⟨D, 3, none⟩ = some (.func (.func f2) #[] #[])) from fun W h => ⟨HC.out _ (hk2.trans h), by
  have hb := (h.block D (block_lt hDb) (by simp)).trans hDb
  refine ⟨?_, ?_, ?_, ?_⟩ <;> rw [cell_of_row _ _ _ _ _ _ hb] <;> rfl⟩)
 have HK2 := qH hk2
 obtain ⟨⟨-, a1, a2, -⟩, -, b1, -, -⟩ := HC2.out _ (Kp.refl _ _)
 clear hk2 hDb
 rw [hW2, hD]
 go_wp2_with (first
  | (go_at_call 60; refine cM (by with_reducible exact HO.out _ (HK0.out.trans (HK2.out.trans HK3.out))) ?_; rintro e w4 ⟨rfl, hk4⟩; have HK4 := qH (HK3.out.trans hk4); obtain ⟨⟨i0, i1, i2, i3⟩, j0, j1, j2, j3⟩ := HC2.out _ HK4.out; clear hk4 g0 g1 g2 g3 e0 e1 e2 e3)
  | (refine cM (by with_reducible exact HN.out _ (HK0.out.trans HK2.out)) ?_; rintro e w3 ⟨rfl, hk3⟩; obtain ⟨⟨g0, g1, g2, g3⟩, e0, e1, e2, e3⟩ := HC2.out _ hk3; have HK3 := qH hk3; clear hk3 a1 a2 b1))
 go_ret
 exact ⟨rfl, HK0.out.trans (HK2.out.trans HK4.out)⟩
theorem checkTerm_vf {t : Tm} {n : Nat} {s1 s2 : ByteArray} {f1 f2 : Nat} (hkey : t.key = n) {w : World}
  (hN : ∀ W, Kp [] w W → Calls Tryz.prog f1 #[.string (bs t.name)] W fun e w' => e = .returned (.bool true) ∧ Kp [] W w')
  (hO : ∀ W, Kp [] w W → Calls Tryz.prog 60 #[.agg #[.string s1, .func (.func f1) #[] #[], .string s2, .func (.func f2) #[] #[]], .int .i64 t.op] W fun e w' => e = .returned (.bool true) ∧ Kp [] W w')
  (hV : ∀ W, Kp [] w W → Calls Tryz.prog f2 #[.agg (tmC t)] W fun e w' => e = .returned (.bool false) ∧ Kp [] W w')
  (hD : ∀ W, Calls Tryz.prog 59 #[.int .i64 (n : Int)] W fun e w' => e = .returned (.tuple #[.agg #[.string s1, .func (.func f1) #[] #[], .string s2, .func (.func f2) #[] #[]], .bool true]) ∧ Kp [] W w')
  (eg1 : ∀ args w, (callFunc f1 args).run Tryz.prog w = .ok (.enter f1 args) w) (eg2 : ∀ args w, (callFunc f2 args).run Tryz.prog w = .ok (.enter f2 args) w) : Calls Tryz.prog 38 #[.agg (tmC t)] w fun e w' => e = .returned (.int .i64 103) ∧ Kp [] w w' := by
 obtain ⟨W0, hW⟩ : ∃ W0, w.alloc (.cells (tmC t) 31) = W0 := ⟨_, rfl⟩
 obtain ⟨B, hB⟩ : ∃ B, w.heap.size = B := ⟨_, rfl⟩
 have hk0 : Kp [] w W0 := by rw [← hW]; exact (Kp.refl [] w).alloc _
 have hb0 : MAt W0 B t := by rw [← hW, ← hB]; exact MAt.new w t
 have HC := qH fun W (h : Kp [] W0 W) => (hb0.kp h (by simp)).cells
 obtain ⟨c0, c1, c2, c3⟩ := hb0.cells
 rw [hkey] at HC c0
 unfold tmC at *
 rw [hkey] at *
 have HK0 := qH hk0
 have HD := qH hD
 have HN := qH hN
 have HO := qH hO
 have HV := qH hV
 have HI4 := qH (show (Tryz.prog.info? 94).map (·.size) = some (#[Value.string s1, .func (.func f1) #[] #[], .string s2, .func (.func f2) #[] #[]]).size from info94)
 have HO4 := qH (show (#[Value.string s1, .func (.func f1) #[] #[], .string s2, .func (.func f2) #[] #[]]).all (fun v => v.oneCell') = true by kernel_rfl)
 clear hb0 hk0 hD hN hkey hO hV
 go_enter Tryz.func38, Tryz.ntmps38
 go_upto_region 4 with (first
  | (go_at_call 59; refine cM (by with_reducible exact HD.out _) ?_; rintro e w1 ⟨rfl, hk1⟩; have HK1 := qH hk1; clear hk1)
  | (refine Nm.wpList_store_new w1 94 _ #[.string s1, .func (.func f1) #[] #[], .string s2, .func (.func f2) #[] #[]] rfl _ _ rfl rfl rfl HI4.out rfl HO4.out ?_))
 obtain ⟨W2, hW2⟩ : ∃ W2, w1.alloc (.cells #[.string s1, .func (.func f1) #[] #[], .string s2, .func (.func f2) #[] #[]] 94) = W2 := ⟨_, rfl⟩
 obtain ⟨D, hD⟩ : ∃ D, w1.heap.size = D := ⟨_, rfl⟩
 have hk2 : Kp [] W0 W2 := by rw [← hW2]; exact HK1.out.alloc _
 have hDb : W2.heap[D]? = some (.cells #[.string s1, .func (.func f1) #[] #[], .string s2, .func (.func f2) #[] #[]] 94 (0, 0)) := by rw [← hW2, ← hD]; exact heap_alloc_last _ _
 have HC2 := qH (show ∀ W, Kp [] W2 W → (W.cell? ⟨B, 0, none⟩ = some (.int .i64 (n : Int)) ∧ W.cell? ⟨B, 1, none⟩ = some (.string (bs t.name)) ∧ W.cell? ⟨B, 2, none⟩ = some (.int .i64 t.op) ∧ W.cell? ⟨B, 3, none⟩ = some (.string (bs t.val))) ∧ (W.cell? ⟨D, 0, none⟩ = some (.string s1) ∧ W.cell? ⟨D, 1, none⟩ = some (.func (.func f1) #[] #[]) ∧ W.cell? ⟨D, 2, none⟩ = some (.string s2) ∧ W.cell? ⟨D, 3, none⟩ = some (.func (.func f2) #[] #[])) from fun W h => ⟨HC.out _ (hk2.trans h), by
  have hb := (h.block D (block_lt hDb) (by simp)).trans hDb
  refine ⟨?_, ?_, ?_, ?_⟩ <;> rw [cell_of_row _ _ _ _ _ _ hb] <;> rfl⟩)
 have HK2 := qH hk2
 obtain ⟨⟨-, a1, a2, -⟩, -, b1, -, -⟩ := HC2.out _ (Kp.refl _ _)
 clear hk2 hDb
 rw [hW2, hD]
 go_wp2_with (first
  | (go_at_call 60; refine cM (by with_reducible exact HO.out _ (HK0.out.trans (HK2.out.trans HK3.out))) ?_; rintro e w4 ⟨rfl, hk4⟩; have HK4 := qH (HK3.out.trans hk4); obtain ⟨⟨i0, i1, i2, i3⟩, j0, j1, j2, j3⟩ := HC2.out _ HK4.out; clear hk4 g0 g1 g2 g3 e0 e1 e2 e3)
  | (refine cM (by with_reducible exact HN.out _ (HK0.out.trans HK2.out)) ?_; rintro e w3 ⟨rfl, hk3⟩; obtain ⟨⟨g0, g1, g2, g3⟩, e0, e1, e2, e3⟩ := HC2.out _ hk3; have HK3 := qH hk3; clear hk3 a1 a2 b1)
  | (refine cM (by with_reducible exact HV.out _ (HK0.out.trans (HK2.out.trans HK4.out))) ?_; rintro e w5 ⟨rfl, hk5⟩; have HK5 := qH (HK4.out.trans hk5); clear hk5))
 go_ret
 exact ⟨rfl, HK0.out.trans (HK2.out.trans HK5.out)⟩
theorem checkTerm_vt {t : Tm} {n : Nat} {s1 s2 : ByteArray} {f1 f2 : Nat} (hkey : t.key = n) {w : World}
  (hN : ∀ W, Kp [] w W → Calls Tryz.prog f1 #[.string (bs t.name)] W fun e w' => e = .returned (.bool true) ∧ Kp [] W w')
  (hO : ∀ W, Kp [] w W → Calls Tryz.prog 60 #[.agg #[.string s1, .func (.func f1) #[] #[], .string s2, .func (.func f2) #[] #[]], .int .i64 t.op] W fun e w' => e = .returned (.bool true) ∧ Kp [] W w')
  (hV : ∀ W, Kp [] w W → Calls Tryz.prog f2 #[.agg (tmC t)] W fun e w' => e = .returned (.bool true) ∧ Kp [] W w')
  (hD : ∀ W, Calls Tryz.prog 59 #[.int .i64 (n : Int)] W fun e w' => e = .returned (.tuple #[.agg #[.string s1, .func (.func f1) #[] #[], .string s2, .func (.func f2) #[] #[]], .bool true]) ∧ Kp [] W w')
  (eg1 : ∀ args w, (callFunc f1 args).run Tryz.prog w = .ok (.enter f1 args) w) (eg2 : ∀ args w, (callFunc f2 args).run Tryz.prog w = .ok (.enter f2 args) w) : Calls Tryz.prog 38 #[.agg (tmC t)] w fun e w' => e = .returned (.int .i64 0) ∧ Kp [] w w' := by
 obtain ⟨W0, hW⟩ : ∃ W0, w.alloc (.cells (tmC t) 31) = W0 := ⟨_, rfl⟩
 obtain ⟨B, hB⟩ : ∃ B, w.heap.size = B := ⟨_, rfl⟩
 have hk0 : Kp [] w W0 := by rw [← hW]; exact (Kp.refl [] w).alloc _
 have hb0 : MAt W0 B t := by rw [← hW, ← hB]; exact MAt.new w t
 have HC := qH fun W (h : Kp [] W0 W) => (hb0.kp h (by simp)).cells
 obtain ⟨c0, c1, c2, c3⟩ := hb0.cells
 rw [hkey] at HC c0
 unfold tmC at *
 rw [hkey] at *
 have HK0 := qH hk0
 have HD := qH hD
 have HN := qH hN
 have HO := qH hO
 have HV := qH hV
 have HI4 := qH (show (Tryz.prog.info? 94).map (·.size) = some (#[Value.string s1, .func (.func f1) #[] #[], .string s2, .func (.func f2) #[] #[]]).size from info94)
 have HO4 := qH (show (#[Value.string s1, .func (.func f1) #[] #[], .string s2, .func (.func f2) #[] #[]]).all (fun v => v.oneCell') = true by kernel_rfl)
 clear hb0 hk0 hD hN hkey hO hV
 go_enter Tryz.func38, Tryz.ntmps38
 go_upto_region 4 with (first
  | (go_at_call 59; refine cM (by with_reducible exact HD.out _) ?_; rintro e w1 ⟨rfl, hk1⟩; have HK1 := qH hk1; clear hk1)
  | (refine Nm.wpList_store_new w1 94 _ #[.string s1, .func (.func f1) #[] #[], .string s2, .func (.func f2) #[] #[]] rfl _ _ rfl rfl rfl HI4.out rfl HO4.out ?_))
 obtain ⟨W2, hW2⟩ : ∃ W2, w1.alloc (.cells #[.string s1, .func (.func f1) #[] #[], .string s2, .func (.func f2) #[] #[]] 94) = W2 := ⟨_, rfl⟩
 obtain ⟨D, hD⟩ : ∃ D, w1.heap.size = D := ⟨_, rfl⟩
 have hk2 : Kp [] W0 W2 := by rw [← hW2]; exact HK1.out.alloc _
 have hDb : W2.heap[D]? = some (.cells #[.string s1, .func (.func f1) #[] #[], .string s2, .func (.func f2) #[] #[]] 94 (0, 0)) := by rw [← hW2, ← hD]; exact heap_alloc_last _ _
 have HC2 := qH (show ∀ W, Kp [] W2 W → (W.cell? ⟨B, 0, none⟩ = some (.int .i64 (n : Int)) ∧ W.cell? ⟨B, 1, none⟩ = some (.string (bs t.name)) ∧ W.cell? ⟨B, 2, none⟩ = some (.int .i64 t.op) ∧ W.cell? ⟨B, 3, none⟩ = some (.string (bs t.val))) ∧ (W.cell? ⟨D, 0, none⟩ = some (.string s1) ∧ W.cell? ⟨D, 1, none⟩ = some (.func (.func f1) #[] #[]) ∧ W.cell? ⟨D, 2, none⟩ = some (.string s2) ∧ W.cell? ⟨D, 3, none⟩ = some (.func (.func f2) #[] #[])) from fun W h => ⟨HC.out _ (hk2.trans h), by
  have hb := (h.block D (block_lt hDb) (by simp)).trans hDb
  refine ⟨?_, ?_, ?_, ?_⟩ <;> rw [cell_of_row _ _ _ _ _ _ hb] <;> rfl⟩)
 have HK2 := qH hk2
 obtain ⟨⟨-, a1, a2, -⟩, -, b1, -, -⟩ := HC2.out _ (Kp.refl _ _)
 clear hk2 hDb
 rw [hW2, hD]
 go_wp2_with (first
  | (go_at_call 60; refine cM (by with_reducible exact HO.out _ (HK0.out.trans (HK2.out.trans HK3.out))) ?_; rintro e w4 ⟨rfl, hk4⟩; have HK4 := qH (HK3.out.trans hk4); obtain ⟨⟨i0, i1, i2, i3⟩, j0, j1, j2, j3⟩ := HC2.out _ HK4.out; clear hk4 g0 g1 g2 g3 e0 e1 e2 e3)
  | (refine cM (by with_reducible exact HN.out _ (HK0.out.trans HK2.out)) ?_; rintro e w3 ⟨rfl, hk3⟩; obtain ⟨⟨g0, g1, g2, g3⟩, e0, e1, e2, e3⟩ := HC2.out _ hk3; have HK3 := qH hk3; clear hk3 a1 a2 b1)
  | (refine cM (by with_reducible exact HV.out _ (HK0.out.trans (HK2.out.trans HK4.out))) ?_; rintro e w5 ⟨rfl, hk5⟩; have HK5 := qH (HK4.out.trans hk5); clear hk5))
 go_ret
 exact ⟨rfl, HK0.out.trans (HK2.out.trans HK5.out)⟩
theorem checkTerm_out {t : Tm} (h : t.key < 1 ∨ 24 < t.key) (w : World) : Calls Tryz.prog 38 #[.agg (tmC t)] w fun e w' => e = .returned (.int .i64 100) ∧ Kp [] w w' := by
 obtain ⟨W0, hW⟩ : ∃ W0, w.alloc (.cells (tmC t) 31) = W0 := ⟨_, rfl⟩
 have hk0 : Kp [] w W0 := by rw [← hW]; exact (Kp.refl [] w).alloc _
 have hb0 : MAt W0 w.heap.size t := by rw [← hW]; exact MAt.new w t
 obtain ⟨c0, c1, c2, c3⟩ := hb0.cells
 unfold tmC at *
 have HK0 := qH hk0
 have HD := qH fun W => describe_out t.key h W
 have HI4 := qH (show (Tryz.prog.info? 94).map (·.size) = some (#[Value.string ⟨#[]⟩, .nilFunc, .string ⟨#[]⟩, .nilFunc]).size from info94)
 have HO4 := qH (show (#[Value.string ⟨#[]⟩, .nilFunc, .string ⟨#[]⟩, .nilFunc]).all (fun v => v.oneCell') = true by kernel_rfl)
 clear hb0 hk0 h
 go_enter Tryz.func38, Tryz.ntmps38
 go_wp2_with (first
  | (go_at_call 59; refine cM (by with_reducible exact HD.out _) ?_; rintro e w1 ⟨rfl, hk1⟩; have HK1 := qH hk1; clear hk1)
  | (refine Nm.wpList_store_new w1 94 _ #[.string ⟨#[]⟩, .nilFunc, .string ⟨#[]⟩, .nilFunc] rfl _ _ rfl rfl rfl HI4.out rfl HO4.out ?_))
 go_ret
 exact ⟨rfl, (HK0.out.trans HK1.out).alloc _⟩
end Go.Proofs.YtkkibibecgcbmaaGreatDoor
namespace Go.Proofs.YtkkibibecgcbmaaGreatDoor
open Go.RowKit
noncomputable def tmT : RT Tm where
 sz := 4
 ty := 31
 sl := 22
 bt := 48
 z := .agg #[.int .i64 0, .string ⟨#[]⟩, .int .i64 0, .string ⟨#[]⟩]
 cf := fun x => (tmC x).toList
 pos := by decide
 len := fun _ => rfl
 one := fun x v hv => by
  simp only [tmC, List.mem_cons, List.not_mem_nil, or_false] at hv
  rcases hv with rfl | rfl | rfl | rfl <;> rfl
 und := Tryz.underlying22
 info := by kernel_rfl
 zs := rfl
 btl := by decide
theorem tmRow {w : World} {b o : Nat} {l : List Tm} (h : tmT.Row w b o l) {j : Nat} {x : Tm} (hx : l[j]? = some x) :
  w.cell? ⟨b, o + j * 4, none⟩ = some (.int .i64 x.key) ∧ w.cell? ⟨b, o + j * 4 + 1, none⟩ = some (.string (bs x.name)) ∧ w.cell? ⟨b, o + j * 4 + 2, none⟩ = some (.int .i64 x.op) ∧ w.cell? ⟨b, o + j * 4 + 3, none⟩ = some (.string (bs x.val)) :=
 ⟨h j x hx 0 _ rfl, h j x hx 1 _ rfl, h j x hx 2 _ rfl, h j x hx 3 _ rfl⟩
theorem name_fn (n : Nat) (h1 : 1 ≤ n) (h2 : n ≤ 24) (s : List UInt8) (hs : s.length ≤ 100000000) (W : World) : Calls Tryz.prog (nmF n) #[.string (bs s)] W fun e w' => e = .returned (.bool (nmT n s)) ∧ Kp [] W w' := by
 have hc : n = 1 ∨ n = 2 ∨ n = 3 ∨ n = 4 ∨ n = 5 ∨ n = 6 ∨ n = 7 ∨ n = 8 ∨ n = 9 ∨ n = 10 ∨ n = 11 ∨ n = 12 ∨ n = 13 ∨ n = 14 ∨ n = 15 ∨ n = 16 ∨ n = 17 ∨ n = 18 ∨ n = 19 ∨ n = 20 ∨ n = 21 ∨ n = 22 ∨ n = 23 ∨ n = 24 := by omega
 rcases hc with rfl | rfl | rfl | rfl | rfl | rfl | rfl | rfl | rfl | rfl | rfl | rfl | rfl | rfl | rfl | rfl | rfl | rfl | rfl | rfl | rfl | rfl | rfl | rfl <;> first
  | exact isEmpty_any s W
  | exact valid_any s W (by omega)
  | exact key_any s W (by omega)
  | exact isSource_any s W
theorem name_eg (n : Nat) (h1 : 1 ≤ n) (h2 : n ≤ 24) : ∀ args w, (callFunc (nmF n) args).run Tryz.prog w = .ok (.enter (nmF n) args) w := by
 have hc : n = 1 ∨ n = 2 ∨ n = 3 ∨ n = 4 ∨ n = 5 ∨ n = 6 ∨ n = 7 ∨ n = 8 ∨ n = 9 ∨ n = 10 ∨ n = 11 ∨ n = 12 ∨ n = 13 ∨ n = 14 ∨ n = 15 ∨ n = 16 ∨ n = 17 ∨ n = 18 ∨ n = 19 ∨ n = 20 ∨ n = 21 ∨ n = 22 ∨ n = 23 ∨ n = 24 := by omega
 rcases hc with rfl | rfl | rfl | rfl | rfl | rfl | rfl | rfl | rfl | rfl | rfl | rfl | rfl | rfl | rfl | rfl | rfl | rfl | rfl | rfl | rfl | rfl | rfl | rfl <;> first
  | exact enters_of Tryz.func123 (by kernel_rfl) rfl
  | exact enters_of Tryz.func125 (by kernel_rfl) rfl
  | exact enters_of Tryz.func126 (by kernel_rfl) rfl
  | exact enters_of Tryz.func129 (by kernel_rfl) rfl
theorem value_eg (n : Nat) (h1 : 1 ≤ n) (h2 : n ≤ 24) : ∀ args w, (callFunc (vlF n) args).run Tryz.prog w = .ok (.enter (vlF n) args) w := by
 have hc : n = 1 ∨ n = 2 ∨ n = 3 ∨ n = 4 ∨ n = 5 ∨ n = 6 ∨ n = 7 ∨ n = 8 ∨ n = 9 ∨ n = 10 ∨ n = 11 ∨ n = 12 ∨ n = 13 ∨ n = 14 ∨ n = 15 ∨ n = 16 ∨ n = 17 ∨ n = 18 ∨ n = 19 ∨ n = 20 ∨ n = 21 ∨ n = 22 ∨ n = 23 ∨ n = 24 := by omega
 rcases hc with rfl | rfl | rfl | rfl | rfl | rfl | rfl | rfl | rfl | rfl | rfl | rfl | rfl | rfl | rfl | rfl | rfl | rfl | rfl | rfl | rfl | rfl | rfl | rfl <;> first
  | exact enters_of Tryz.func124 (by kernel_rfl) rfl
  | exact enters_of Tryz.func127 (by kernel_rfl) rfl
  | exact enters_of Tryz.func128 (by kernel_rfl) rfl
  | exact enters_of Tryz.func130 (by kernel_rfl) rfl
  | exact enters_of Tryz.func131 (by kernel_rfl) rfl
  | exact enters_of Tryz.func132 (by kernel_rfl) rfl
theorem value_fn (t : Tm) (n : Nat) (hk : t.key = n) (h1 : 1 ≤ n) (h2 : n ≤ 24) {W : World} (hE : Env W) (ht : SmT t) : Calls Tryz.prog (vlF n) #[.agg (tmC t)] W fun e w' => e = .returned (.bool (vlT t)) ∧ Kp [] W w' := by
 have e : vlT t = (if (n : Int) = 6 ∨ (n : Int) = 7 then gotOk t else if (n : Int) = 14 then impOk t else if (n : Int) = 22 then prioOk t.val else if (n : Int) = 23 ∨ (n : Int) = 24 then nmB t.val
   else if (n : Int) = 12 ∨ 15 ≤ (n : Int) then tmplOk t.val else globOk t.val) := by unfold vlT; rw [hk]
 rw [e]
 clear e hk
 have hc : n = 1 ∨ n = 2 ∨ n = 3 ∨ n = 4 ∨ n = 5 ∨ n = 6 ∨ n = 7 ∨ n = 8 ∨ n = 9 ∨ n = 10 ∨ n = 11 ∨ n = 12 ∨ n = 13 ∨ n = 14 ∨ n = 15 ∨ n = 16 ∨ n = 17 ∨ n = 18 ∨ n = 19 ∨ n = 20 ∨ n = 21 ∨ n = 22 ∨ n = 23 ∨ n = 24 := by omega
 rcases hc with rfl | rfl | rfl | rfl | rfl | rfl | rfl | rfl | rfl | rfl | rfl | rfl | rfl | rfl | rfl | rfl | rfl | rfl | rfl | rfl | rfl | rfl | rfl | rfl <;> first
  | exact isGlob_any t W ht
  | exact isTemplate_any t hE ht
  | exact isGot_any t hE ht
  | exact isImport_any t hE ht
  | exact isPrio_any t hE ht
  | exact isLabel_any t W ht
theorem checkTerm_any (t : Tm) {w : World} (hE : Env w) (ht : SmT t) : Calls Tryz.prog 38 #[.agg (tmC t)] w fun e w' => e = .returned (.int .i64 (termE t)) ∧ Kp [] w w' := by
 by_cases hk : t.key < 1 ∨ 24 < t.key
 ·have e : termE t = 100 := by unfold termE; rw [if_pos hk]
  rw [e]
  exact checkTerm_out hk w
 obtain ⟨n, hn⟩ : ∃ n : Nat, t.key = n := ⟨t.key.toNat, by omega⟩
 have h1 : 1 ≤ n := by omega
 have h2 : n ≤ 24 := by omega
 have hN := fun W (_ : Kp [] w W) => name_fn n h1 h2 t.name ht.1 W
 have hV := fun W (h : Kp [] w W) => value_fn t n hn h1 h2 (hE.kp0 h) ht
 have hO := fun W (h : Kp [] w W) => hasOp_any (hE.kp0 h) n h1 h2 (.string (bs (wrK n))) (.func (.func (nmF n)) #[] #[]) (.func (.func (vlF n)) #[] #[]) t.op
 have hD := fun W => describe_in n h1 h2 W
 have e1 := name_eg n h1 h2
 have e2 := value_eg n h1 h2
 have hr : termE t = if nmT n t.name = false then 101 else if (opT n).contains t.op = false then 102 else if vlT t = false then 103 else 0 := by unfold termE; rw [if_neg hk, hn]
 rw [hr]
 unfold dsC at hD
 cases h3 : nmT n t.name with
 | false =>
  rw [h3] at hN
  rw [if_pos rfl]
  exact checkTerm_n hn hN hD e1
 | true =>
  rw [h3] at hN
  rw [if_neg (by simp)]
  cases h4 : (opT n).contains t.op with
  | false =>
   rw [h4] at hO
   rw [if_pos rfl]
   exact checkTerm_o hn hN hO hD e1
  | true =>
   rw [h4] at hO
   rw [if_neg (by simp)]
   cases h5 : vlT t with
   | false =>
    rw [h5] at hV
    rw [if_pos rfl]
    exact checkTerm_vf hn hN hO hV hD e1 e2
   | true =>
    rw [h5] at hV
    rw [if_neg (by simp)]
    exact checkTerm_vt hn hN hO hV hD e1 e2
theorem cntK_snoc (l : List Tm) (x : Tm) (k : Int) : cntK (l ++ [x]) k = cntK l k + (if x.key = k then 1 else 0) := by
 unfold cntK
 rw [List.filter_append, List.length_append]
 by_cases h : x.key = k
 ·rw [if_pos h]
  simp [h]
 ·rw [if_neg h]
  simp [h]
theorem cntK_le (l : List Tm) (k : Int) : cntK l k ≤ l.length := List.length_filter_le _ _
theorem count_any {w : World} {v : Value} {l : List Tm} (hh : tmT.Has w v l) (hl : l.length ≤ 1000000) (k : Int) : Calls Tryz.prog 39 #[v, .int .i64 k] w fun r w' => r = .returned (.int .i64 (cntK l k : Int)) ∧ Kp [] w w' := by
 obtain ⟨va, vc, rfl, hrow⟩ := hh.form
 have HROW := qH hrow
 clear hrow hh
 go_enter Tryz.func39, Tryz.ntmps39
 go_wp2
 go_loopg [5, 10] l.length (fun g s5 s10 wx => ∃ i : Nat, s10 = .int .i64 (i : Int) ∧ s5 = .int .i64 (cntK (l.take i) k : Int) ∧ i + g = l.length ∧ Kp [] w wx)
 case atStart => exact ⟨0, rfl, rfl, by omega, Kp.refl _ _⟩
 case round =>
  obtain ⟨i, rfl, rfl, hig, hkp⟩ := hrel
  have HK := qH hkp
  by_cases hi : i < l.length
  ·obtain ⟨g, rfl⟩ : ∃ g, gk = g + 1 := ⟨gk - 1, by omega⟩
   obtain ⟨b, o, rfl, hbl, hr⟩ := HROW.out (by rintro rfl; simp at hi)
   obtain ⟨x, hx⟩ : ∃ x, l[i]? = some x := ⟨_, List.getElem?_eq_getElem hi⟩
   have hiz : (i : Int) < (l.length : Int) := by omega
   have hr2 : tmT.Row wr b o l := hr.keep (hkp.block b hbl (by simp))
   obtain ⟨c0, c1, c2, c3⟩ := tmRow hr2 hx
   have hwi : IntKind.i64.wrap ((i : Int) + 1) = ((i + 1 : Nat) : Int) := by rw [IntKind.wrap_i64]; omega
   have HI := qH hig
   have hcs : cntK (l.take (i + 1)) k = cntK (l.take i) k + (if x.key = k then 1 else 0) := by
    rw [List.take_add_one, hx]
    exact cntK_snoc _ _ _
   have hcl := cntK_le (l.take i) k
   have hkl : (l.take i).length ≤ l.length := by simp [List.length_take]; omega
   have HKb := qH (hkp.alloc (.cells #[.int .i64 x.key, .string (bs x.name), .int .i64 x.op, .string (bs x.val)] 31))
   generalize cntK (l.take i) k = m at *
   have hwm : IntKind.i64.wrap ((m : Int) + 1) = ((m + 1 : Nat) : Int) := by rw [IntKind.wrap_i64]; omega
   clear hkp hr hr2 hx hig hbl hcl hkl
   by_cases he : x.key = k
   ·rw [if_pos he] at hcs
    have HCS := qH hcs
    subst he
    clear hcs
    go_wp2
    go_roundg g
    case measure => omega
    case rel => exact ⟨i + 1, rfl, by rw [HCS.out, Int.natCast_add]; rfl, by have := HI.out; omega, HKb.out⟩
   ·rw [if_neg he] at hcs
    have HCS := qH hcs
    clear hcs hwm
    go_wp2
    go_roundg g
    case measure => omega
    case rel => exact ⟨i + 1, rfl, by rw [HCS.out]; rfl, by have := HI.out; omega, HKb.out⟩
  ·have hiz : ¬ ((i : Int) < (l.length : Int)) := by omega
   have hie : l.take i = l := List.take_of_length_le (by omega)
   rw [hie]
   clear hkp hig hi hie
   go_wp2
   go_ret
   exact ⟨rfl, HK.out⟩
theorem firstE_at : ∀ {l : List Tm} {i : Nat} {x : Tm}, (∀ t ∈ l.take i, termE t = 0) → l[i]? = some x → termE x ≠ 0 → firstE l = termE x
 | [], i, x, _, h, _ => by simp at h
 | a :: l, 0, x, _, h, hx => by
  simp only [List.getElem?_cons_zero, Option.some.injEq] at h
  subst h
  rw [firstE, if_neg hx]
 | a :: l, i + 1, x, h0, h, hx => by
  rw [firstE, if_pos (h0 a (by simp))]
  exact firstE_at (i := i) (fun t ht => h0 t (by rw [List.take_succ_cons]; exact List.mem_cons_of_mem _ ht)) (by simpa using h) hx
theorem firstE_all : ∀ {l : List Tm}, (∀ t ∈ l, termE t = 0) → firstE l = 0
 | [], _ => rfl
 | a :: l, h => by rw [firstE, if_pos (h a (by simp))]; exact firstE_all fun t ht => h t (by simp [ht])
theorem gcheck_any {w : World} (hE : Env w) {v : Value} {l : List Tm} (hh : tmT.Has w v l) (hl : l.length ≤ 1000000) (hs : ∀ x ∈ l, SmT x) : Calls Tryz.prog 15 #[v] w fun r w' => r = .returned (.int .i64 (checkE l)) ∧ Kp [] w w' := by
 have HH := qH hh
 obtain ⟨va, vc, rfl, hrow⟩ := hh.form
 obtain ⟨r0, hr0⟩ : ∃ r0, checkE l = r0 := ⟨_, rfl⟩
 rw [hr0]
 unfold checkE at hr0
 by_cases h0 : l = []
 ·rw [if_pos h0] at hr0
  subst h0
  have hk := Kp.refl [] w
  subst hr0
  clear hE hs HH hrow
  go_enter Tryz.func15, Tryz.ntmps15
  go_wp2
  go_ret
  exact ⟨rfl, hk⟩
 have hl0 : 0 < l.length := List.length_pos_iff.2 h0
 have hz0 : ¬ ((l.length : Int) = 0) := by omega
 rw [if_neg h0] at hr0
 by_cases h16 : 16 < l.length
 ·rw [if_pos h16] at hr0
  have hz16 : (16 : Int) < (l.length : Int) := by omega
  have hk := Kp.refl [] w
  subst hr0
  clear hE hs HH hrow h0 hl0
  go_enter Tryz.func15, Tryz.ntmps15
  go_wp2
  go_ret
  exact ⟨rfl, hk⟩
 have hz16 : ¬ (16 : Int) < (l.length : Int) := by omega
 rw [if_neg h16] at hr0
 have HROW := qH hrow
 have HR := qH hr0
 have HS := qH hs
 have HE := qH hE
 clear hrow hr0 hs h0 hl0 hh hE
 go_enter Tryz.func15, Tryz.ntmps15
 go_wp2
 clear hz0 hz16
 go_loopg [14] l.length (fun g s14 wx => ∃ i : Nat, s14 = .int .i64 (i : Int) ∧ i + g = l.length ∧ Kp [] w wx ∧ Hid (∀ t ∈ l.take i, termE t = 0))
 case atStart => exact ⟨0, rfl, by omega, Kp.refl _ _, qH fun t ht => by simp at ht⟩
 case round =>
  obtain ⟨i, rfl, hig, hkp, HG⟩ := hrel
  have HK := qH hkp
  by_cases hi : i < l.length
  ·obtain ⟨g, rfl⟩ : ∃ g, gk = g + 1 := ⟨gk - 1, by omega⟩
   obtain ⟨b, o, rfl, hbl, hr⟩ := HROW.out (by rintro rfl; simp at hi)
   obtain ⟨x, hx⟩ : ∃ x, l[i]? = some x := ⟨_, List.getElem?_eq_getElem hi⟩
   have hiz : (i : Int) < (l.length : Int) := by omega
   have hr2 : tmT.Row wr b o l := hr.keep (hkp.block b hbl (by simp))
   obtain ⟨c0, c1, c2, c3⟩ := tmRow hr2 hx
   have hsm := HS.out x (List.mem_of_getElem? hx)
   have hwi : IntKind.i64.wrap ((i : Int) + 1) = ((i + 1 : Nat) : Int) := by rw [IntKind.wrap_i64]; omega
   have HI := qH hig
   obtain ⟨wb, hwb⟩ : ∃ wb, wr.alloc (.cells #[.int .i64 x.key, .string (bs x.name), .int .i64 x.op, .string (bs x.val)] 31) = wb := ⟨_, rfl⟩
   obtain ⟨pb, hpb⟩ : ∃ pb, wr.heap.size = pb := ⟨_, rfl⟩
   have hTb : MAt wb pb x := by
    have h := MAt.new wr x
    unfold tmC at h
    rw [hwb, hpb] at h
    exact h
   obtain ⟨d0, d1, d2, d3⟩ := hTb.cells
   have hkb : Kp [] w wb := by rw [← hwb]; exact hkp.alloc _
   have HKb := qH hkb
   have HT := qH (checkTerm_any x (HE.out.kp0 hkb) hsm)
   have HX := qH hx
   unfold tmC at HT
   clear hkp hr hr2 hx hsm hig hTb hkb hbl
   by_cases hg : termE x = 0
   ·rw [hg] at HT
    have HG2 := qH (show ∀ t ∈ l.take (i + 1), termE t = 0 from fun t ht => by
     rw [List.take_add_one, HX.out] at ht
     rcases List.mem_append.1 ht with ht | ht
     ·exact HG.out t ht
     ·simp only [Option.toList_some, List.mem_singleton] at ht
      rw [ht]
      exact hg)
    clear hg
    go_wp2_with (go_at_call 38; refine cM (by with_reducible exact HT.out) ?_; rintro r w4 ⟨rfl, hk⟩; have HK4 := qH (HKb.out.trans hk); clear hk)
    go_roundg g
    case measure => omega
    case rel => exact ⟨i + 1, rfl, by have := HI.out; omega, HK4.out, HG2⟩
   ·have hfe := firstE_at HG.out HX.out hg
    have hne : ¬ termE x = 0 := hg
    have HRR := qH (show termE x = r0 by have := HR.out; rw [hfe, if_pos hg] at this; exact this)
    clear hfe hg
    go_wp2_with (go_at_call 38; refine cM (by with_reducible exact HT.out) ?_; rintro r w4 ⟨rfl, hk⟩; have HK4 := qH (HKb.out.trans hk); clear hk)
    go_ret
    exact ⟨by rw [← HRR.out]; rfl, HK4.out⟩
  ·have hiz : ¬ ((i : Int) < (l.length : Int)) := by omega
   have hie : l.take i = l := List.take_of_length_le (by omega)
   have hfa : firstE l = 0 := firstE_all (by have := HG.out; rwa [hie] at this)
   have hR := HR.out
   rw [hfa, if_neg (by simp)] at hR
   have HC := qH fun W (h : Kp [] w W) (k : Int) => count_any (HH.out.kp0 h) hl k
   clear hfa hie hi hig hkp HG HR
   by_cases h1 : 1 < cntK l 23
   ·rw [if_pos (.inl h1)] at hR
    have g1 : (1 : Int) < (cntK l 23 : Int) := by omega
    subst hR
    go_wp2_with (go_at_call 39; refine cM (by with_reducible exact HC.out _ HK.out 23) ?_; rintro r w4 ⟨rfl, hk⟩; have HK4 := qH (HK.out.trans hk); clear hk)
    go_ret
    exact ⟨rfl, HK4.out⟩
   ·have g1 : ¬ (1 : Int) < (cntK l 23 : Int) := by omega
    by_cases h2 : 1 < cntK l 24
    ·rw [if_pos (.inr h2)] at hR
     have g2 : (1 : Int) < (cntK l 24 : Int) := by omega
     subst hR
     go_wp2_with (first
      | (go_at_call 39; refine cM (by with_reducible exact HC.out _ HK.out 23) ?_; rintro r w4 ⟨rfl, hk⟩; have HK4 := qH (HK.out.trans hk); clear hk)
      | (go_at_call 39; refine cM (by with_reducible exact HC.out _ HK4.out 24) ?_; rintro r w5 ⟨rfl, hk⟩; have HK5 := qH (HK4.out.trans hk); clear hk))
     go_ret
     exact ⟨rfl, HK5.out⟩
    ·have g2 : ¬ (1 : Int) < (cntK l 24 : Int) := by omega
     rw [if_neg (by omega)] at hR
     subst hR
     go_wp2_with (first
      | (go_at_call 39; refine cM (by with_reducible exact HC.out _ HK.out 23) ?_; rintro r w4 ⟨rfl, hk⟩; have HK4 := qH (HK.out.trans hk); clear hk)
      | (go_at_call 39; refine cM (by with_reducible exact HC.out _ HK4.out 24) ?_; rintro r w5 ⟨rfl, hk⟩; have HK5 := qH (HK4.out.trans hk); clear hk))
     go_ret
     exact ⟨rfl, HK5.out⟩
end Go.Proofs.YtkkibibecgcbmaaGreatDoor
