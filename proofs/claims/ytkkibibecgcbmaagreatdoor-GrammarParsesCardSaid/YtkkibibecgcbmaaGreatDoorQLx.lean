/- Lx -/
import Derived.Lib.Hide
import Derived.Test.YtkkibibecgcbmaaGreatDoorQD
import Derived.Lib.AsciiSet
import Derived.Deep.LoopGhost
import Derived.Test.YtkkibibecgcbmaaGreatDoorQE
open Go.Lib renaming hid → qH
open Go.Calls renaming mono → cM
set_option maxRecDepth 100000
set_option maxHeartbeats 16000000
namespace Go.Proofs.YtkkibibecgcbmaaGreatDoor.Lx
def piecesL : List UInt8 → List (List UInt8)
 | [] => [[]]
 | b :: s => if b = 10 then [] :: piecesL s else match piecesL s with | [] => [[b]] | p :: l => (b :: p) :: l
theorem piecesL_ne : ∀ s, piecesL s ≠ []
 | [] => by simp [piecesL]
 | b :: s => by
  unfold piecesL
  split
  ·simp
  ·split <;> simp
theorem piecesL_feed (s : List UInt8) : piecesL (10 :: s) = [] :: piecesL s := by rw [piecesL, if_pos rfl]
theorem piecesL_cons {c : UInt8} (hc : c ≠ 10) {s p : List UInt8} {l : List (List UInt8)} (h : piecesL s = p :: l) : piecesL (c :: s) = (c :: p) :: l := by rw [piecesL, if_neg hc, h]
def physL (s : List UInt8) : List (List UInt8) := if (piecesL s).getLast? = some [] then (piecesL s).dropLast else piecesL s
def endsB (a : List UInt8) : Bool := a.getLast? == some 92
def contL : List UInt8 → List (List UInt8) → List UInt8 × List (List UInt8)
 | a, [] => (if endsB a then a.dropLast else a, [])
 | a, b :: r => if endsB a then (a.dropLast ++ (contL b r).1, (contL b r).2) else (a, b :: r)
theorem contL_len : ∀ (a : List UInt8) (r : List (List UInt8)), (contL a r).2.length ≤ r.length
 | a, [] => by simp [contL]
 | a, b :: r => by
  have := contL_len b r
  unfold contL
  split
  ·simp only [List.length_cons]
   omega
  ·exact Nat.le_refl _
def blankL (t : List UInt8) : Bool :=
 match t.dropWhile fun b => b == 32 || b == 9 with
 | [] => true
 | b :: _ => b == 35
def linesN (i : Nat) : List (List UInt8) → List (Nat × List UInt8)
 | [] => []
 | a :: r => (if blankL (contL a r).1 then [] else [(i, (contL a r).1)]) ++ linesN (i + 1 + (r.length - (contL a r).2.length)) (contL a r).2
termination_by l => l.length
decreasing_by
 have := contL_len a r
 simp only [List.length_cons]
 omega
theorem linesN_cons (i : Nat) (a : List UInt8) (r : List (List UInt8)) : linesN i (a :: r) = (if blankL (contL a r).1 then [] else [(i, (contL a r).1)]) ++ linesN (i + 1 + (r.length - (contL a r).2.length)) (contL a r).2 := by
 rw [linesN]
def linesL (s : List UInt8) : List (Nat × List UInt8) := linesN 1 (physL s)
theorem piecesL_count : ∀ a : List UInt8, (piecesL a).length = a.count 10 + 1
 | [] => rfl
 | c :: a => by
  have ih := piecesL_count a
  unfold piecesL
  split
  ·rename_i hc
   rw [List.length_cons, ih, hc, List.count_cons_self]
  ·rename_i hc
   rw [List.count_cons_of_ne hc]
   cases hp : piecesL a with
   | nil => exact absurd hp (piecesL_ne a)
   | cons p l => rw [hp] at ih; simpa using ih
end Go.Proofs.YtkkibibecgcbmaaGreatDoor.Lx
namespace Go.Proofs.YtkkibibecgcbmaaGreatDoor.Lx
open Go.RowKit
theorem info93 : (Tryz.prog.info? 102).map (fun i => (i.zero, i.size)) = some (some (.agg (Array.replicate 256 (.bool false))), 256) := by kernel_rfl
def inS (S : List UInt8) (b : UInt8) : Bool := S.contains b
def SetAt (w : World) (b : Nat) (S : List UInt8) : Prop := ∀ x : UInt8, w.cell? ⟨b, x.toNat, none⟩ = some (.bool (S.contains x))
theorem setAt_cells {w : World} {b : Nat} {S : List UInt8} {t : TypeId} {fr : Nat × Nat} (h : w.heap[b]? = some (.cells (Lib.setCells S) t fr)) : SetAt w b S := by
 intro x
 rw [cell_of_row w b _ _ t fr h, Lib.setCells_at]
theorem wpList_store_new {P : Program} {ops : Array Oper} {rest : List Oper} {o : Oper} {a : Act} {Q : Exit → Act → World → Prop} (w : World) (t : TypeId) (c c' : Array Value) (hgd : o.guard = none) (x y : Operand) (ho : o.op = .store t x y)
  (hx : a.eval x = .pointer (some ⟨w.heap.size, 0, none⟩)) (hy : a.eval y = .agg c') (hi : (P.info? t).map (·.size) = some c'.size) (hc : c.size = c'.size) (h1 : c'.all (·.oneCell') = true)
  (h : wpList P ops Q rest (a.put o.dst undef) (w.alloc (.cells c' t))) : wpList P ops Q (o :: rest) a (w.alloc (.cells c t)) := by
 refine wpList_store_row hgd t x y ho w.heap.size c' hx hy t c (heap_alloc_last w _) hi hc h1 ?_
 rw [World.setRow_alloc_new]
 exact h
theorem sizes_ok (S : List UInt8) : (Array.replicate 256 (Value.bool false)).size = (Lib.setCells S).size := by rw [Lib.setCells_size, Array.size_replicate]
theorem trimAscii_any (l S : List UInt8) (b : Nat) (w : World) (hS : SetAt w b S) (hl : l.length ≤ 1000000000) : Calls Tryz.prog 69 #[.string (bs l), .pointer (some ⟨b, 0, none⟩)] w fun r w' => r = .returned (.string (bs (l.dropWhile (inS S)))) ∧ w = w' := by
 go_enter Tryz.func69, Tryz.ntmps69
 go_wp2
 go_loopg [0] l.length (fun g s0 wx => ∃ r, s0 = .string (bs r) ∧ wx = w ∧ r.length ≤ g ∧ r.length ≤ 1000000000 ∧ Hid (r.dropWhile (inS S) = l.dropWhile (inS S)))
 case atStart => exact ⟨l, rfl, rfl, Nat.le_refl _, hl, qH rfl⟩
 case round =>
  obtain ⟨r, rfl, rfl, hg, hr, HD⟩ := hrel
  cases r with
  | nil =>
   have hz : ¬ ((0 : Int) < ((bs []).size : Int)) := by simp [bs_size]
   go_wp2
   go_ret
   exact ⟨by rw [← HD.out]; rfl, rfl⟩
  | cons x r =>
   obtain ⟨g, rfl⟩ : ∃ g, gk = g + 1 := ⟨gk - 1, by simp at hg; omega⟩
   have hz : (0 : Int) < ((bs (x :: r)).size : Int) := by simp [bs_size]
   have hz1 : (1 : Int) ≤ ((bs (x :: r)).size : Int) := by omega
   have hh : (bs (x :: r))[0]'(by simp [bs_size]) = x := rfl
   have HC := qH (show Calls Tryz.prog 101 #[.pointer (some ⟨b, 0, none⟩), .int .u8 x.toNat] wr fun e w' => e = .returned (.bool (inS S x)) ∧ w' = wr from Tryz.asciiSet_contains b x _ wr (hS x))
   have hex : (bs (x :: r)).extract 1 (bs (x :: r)).size = bs r := by rw [bs_drop]; rfl
   have HX := qH hex
   have HG := qH hg
   have HR := qH hr
   clear hex hg hr
   cases hc : inS S x with
   | false =>
    have HF := qH (show (x :: r).dropWhile (inS S) = x :: r by rw [List.dropWhile_cons, hc]; rfl)
    rw [hc] at HC
    clear hc
    go_wp2_with (go_at_call 101; refine cM (by exact HC.out) ?_; rintro r w1 ⟨rfl, rfl⟩)
    go_ret
    exact ⟨by rw [← HD.out, HF.out]; rfl, rfl⟩
   | true =>
    have HF := qH (show (x :: r).dropWhile (inS S) = r.dropWhile (inS S) by rw [List.dropWhile_cons, hc]; rfl)
    rw [hc] at HC
    clear hc
    go_wp2_with (go_at_call 101; refine cM (by exact HC.out) ?_; rintro r w1 ⟨rfl, rfl⟩)
    rw [HX.out]
    go_roundg g
    case measure => omega
    case rel =>
     have h1 := HG.out
     have h2 := HR.out
     rw [List.length_cons] at h1 h2
     exact ⟨r, rfl, rfl, by omega, by omega, qH (HF.out.symm.trans HD.out)⟩
theorem trimLeft_any (l S : List UInt8) (w : World) (h2 : 2 ≤ S.length) (hS : S.length ≤ 1000) (ha : ∀ b ∈ S, b.toNat < 128) (hl : l.length ≤ 1000000000) :
  Calls Tryz.prog 45 #[.string (bs l), .string (bs S)] w fun r w' => r = .returned (.string (bs (l.dropWhile (inS S)))) ∧ Kp [] w w' := by
 have hSe : (bs S).toList.isEmpty = false := by
  rw [bs_isEmpty]
  cases S with
  | nil => simp at h2
  | cons _ _ => rfl
 have hle := bs_isEmpty l
 have h1 : (((bs S).size : Int) == 1) = false := by rw [bs_size]; simp; omega
 cases hln : l.isEmpty with
 | true =>
  rw [hln] at hle
  have h0 := qH (List.isEmpty_iff.1 hln)
  clear hln
  go_enter Tryz.func45, Tryz.ntmps45
  go_wp2
  go_ret
  refine ⟨?_, Kp.refl _ _⟩
  rw [h0.out]
  rfl
 | false =>
  rw [hln] at hle
  have hv := (zero_of_info (P := Tryz.prog) info93).1
  have hi := (zero_of_info (P := Tryz.prog) info93).2
  have Hi := qH (show (Tryz.prog.info? 102).map (·.size) = some (Lib.setCells S).size by rw [Lib.setCells_size]; exact hi)
  have HM := qH (Tryz.strings_makeASCIISet hv (bs S) w (by rw [bs_size]; omega) (fun j b hb => ha b (List.mem_of_getElem? hb)))
  rw [bs_data] at HM
  have HT := qH fun W b (h : SetAt W b S) => trimAscii_any l S b W h hl
  clear hln h2 hS ha
  generalize hw1 : w.alloc (.cells (Lib.setCells S) 102) = w1 at HM
  have HK1 := qH (show Kp [] w w1 by rw [← hw1]; exact (Kp.refl [] w).alloc _)
  clear hw1
  have HSA := qH (setAt_cells (S := S) (heap_alloc_last w1 (.cells (Lib.setCells S) 102)))
  go_enter Tryz.func45, Tryz.ntmps45
  go_wp2_with (first
   | (go_at_call 68; refine cM (by with_reducible exact HM.out) ?_; rintro r w2 ⟨rfl, rfl⟩)
   | (refine wpList_store_new _ 102 _ (Lib.setCells S) rfl _ _ rfl rfl rfl Hi.out (sizes_ok _) (Lib.setCells_one _) ?_)
   | (go_at_call 69; refine cM (by with_reducible exact HT.out _ _ HSA.out) ?_; rintro r w3 ⟨rfl, rfl⟩))
  go_ret
  exact ⟨rfl, HK1.out.alloc _⟩
theorem trim329 (l : List UInt8) (w : World) (hl : l.length ≤ 1000000000) : Calls Tryz.prog 45 #[.string (bs l), .string ⟨#[32, 9]⟩] w fun r w' => r = .returned (.string (bs (l.dropWhile fun b => b == 32 || b == 9))) ∧ Kp [] w w' := by
 have h := trimLeft_any l [32, 9] w (by decide) (by decide) (by decide) hl
 rw [show inS [32, 9] = (fun b : UInt8 => b == 32 || b == 9) from funext fun b => by simp only [inS, List.contains, List.elem]; cases b == 32 <;> cases b == 9 <;> rfl] at h
 exact h
theorem trimSep (l : List UInt8) (w : World) (hl : l.length ≤ 1000000000) : Calls Tryz.prog 45 #[.string (bs l), .string ⟨#[32, 9, 44]⟩] w fun r w' => r = .returned (.string (bs (trimL l))) ∧ Kp [] w w' := by
 have h := trimLeft_any l [32, 9, 44] w (by decide) (by decide) (by decide) hl
 rw [show inS [32, 9, 44] = sepCh from funext fun b => by simp only [inS, List.contains, List.elem, sepCh]; cases b == 32 <;> cases b == 9 <;> cases b == 44 <;> rfl] at h
 exact h
end Go.Proofs.YtkkibibecgcbmaaGreatDoor.Lx
namespace Go.Proofs.YtkkibibecgcbmaaGreatDoor.Lx
open Go.RowKit
def cutL (s : List UInt8) : List UInt8 × List UInt8 := (s.takeWhile (· != 10), (s.dropWhile (· != 10)).drop 1)
theorem cutL_feed (s : List UInt8) : cutL (10 :: s) = ([], s) := rfl
theorem cutL_cons {b : UInt8} (h : b ≠ 10) (s : List UInt8) : cutL (b :: s) = (b :: (cutL s).1, (cutL s).2) := by
 have e : (b != 10) = true := by simpa using h
 unfold cutL
 rw [List.takeWhile_cons, List.dropWhile_cons, e]
 rfl
theorem index_cons (b : UInt8) (r : List UInt8) : Lib.index (b :: r) [10] = if b = 10 then 0 else if Lib.index r [10] == -1 then -1 else Lib.index r [10] + 1 := by
 rw [Lib.index]
 by_cases h : b = 10
 ·subst h
  rfl
 ·have e : List.isPrefixOf [10] (b :: r) = false := by simp only [List.isPrefixOf, Bool.and_true]; exact beq_eq_false_iff_ne.2 fun e => h e.symm
  rw [e, if_neg h]
  rfl
theorem cut_eq : ∀ s : List UInt8, (Lib.cut s [10]).1 = (cutL s).1 ∧ (Lib.cut s [10]).2.1 = (cutL s).2
 | [] => ⟨rfl, rfl⟩
 | b :: r => by
  obtain ⟨h1, h2⟩ := cut_eq r
  have hge := Lib.index_ge r [10]
  unfold Lib.cut at h1 h2 ⊢
  rw [index_cons]
  by_cases h : b = 10
  ·subst h
   rw [cutL_feed]
   exact ⟨rfl, rfl⟩
  ·rw [if_neg h, cutL_cons h]
   by_cases hm : Lib.index r [10] = -1
   ·rw [hm] at h1 h2 ⊢
    rw [if_neg (by decide)] at h1 h2
    rw [show (if ((-1 : Int) == -1) = true then (-1 : Int) else -1 + 1) = -1 from rfl, if_neg (by decide)]
    exact ⟨by rw [← h1], h2⟩
   ·have hb : (Lib.index r [10] == -1) = false := by simpa using hm
    have h0 : 0 ≤ Lib.index r [10] := by omega
    rw [if_pos h0] at h1 h2
    rw [hb, if_neg Bool.false_ne_true, if_pos (by omega)]
    obtain ⟨k, hk⟩ : ∃ k : Nat, Lib.index r [10] = k := ⟨(Lib.index r [10]).toNat, by omega⟩
    rw [hk] at h1 h2 ⊢
    rw [show ((k : Int) + 1).toNat = k + 1 by omega]
    simp only [Int.toNat_natCast] at h1 h2
    refine ⟨?_, ?_⟩
    ·rw [← h1]; rfl
    ·rw [← h2, show k + 1 + [(10 : UInt8)].length = (k + [(10 : UInt8)].length) + 1 by simp, List.drop_succ_cons]
theorem cut_any (l : List UInt8) (w : World) (hm : Max w) (hl : l.length ≤ 1000000000) : Calls Tryz.prog 117 #[.string (bs l), .string ⟨#[10]⟩] w fun r w' => ∃ x, r = .returned (.tuple #[.string (bs (cutL l).1), .string (bs (cutL l).2), .bool x]) ∧ ∃ n, w' = w.drewN n := by
 obtain ⟨m, hm⟩ := hm
 have h := Tryz.strings_Cut (bs l) ⟨#[10]⟩ m w (by rw [bs_size]; omega) hm
 rw [bs_data, show (⟨#[10]⟩ : ByteArray).data.toList = [10] from rfl, (cut_eq l).1, (cut_eq l).2] at h
 exact h.mono fun _ _ ⟨h1, h2⟩ => ⟨_, h1, h2⟩
end Go.Proofs.YtkkibibecgcbmaaGreatDoor.Lx
namespace Go.Proofs.YtkkibibecgcbmaaGreatDoor.Lx
open Go.RowKit
theorem kp_grownK {w W w' : World} {v : Value} (h : Kp [] w W) (g : W.grownBy w' v.ownBlock) (hv : ∀ b, v.ownBlock = some b → w.heap.size ≤ b) : Kp [] w w' := by
 cases hb : v.ownBlock with
 | none =>
  rw [hb] at g
  exact h.trans (Kp.of_grown_none g)
 | some b =>
  rw [hb] at g
  exact h.up (Kp.of_grown g) (by intro x hx; simp at hx; subst hx; exact .inr (hv x hb))
theorem ln_push {w W W7 : World} {Nb : Nat} {x : Ln} {v : Value} {xs : List Ln} (hk : Kp [] w W) (ho : lnT.Own W w.heap.size v xs) (hN : W.heap.size = Nb)
  (hW : W.alloc (.cells #[.int .i64 (x.1 : Int), .string (bs x.2)] 39) = W7) : Kp [] w W7 ∧ lnT.Own W7 w.heap.size v xs ∧ W7.rangeAt Nb 0 (lnT.cf x) := by
 have hk1 : Kp [] W W7 := by rw [← hW]; exact (Kp.refl [] _).alloc _
 refine ⟨hk.trans hk1, ho.kp0 hk1, fun m u hu => ?_⟩
 have h := heap_alloc_last W (.cells #[.int .i64 (x.1 : Int), .string (bs x.2)] 39)
 rw [hW, hN] at h
 rw [cell_of_row _ _ _ _ _ _ h, Nat.zero_add]
 simpa [lnT, lnC] using hu
end Go.Proofs.YtkkibibecgcbmaaGreatDoor.Lx
