/- strings.TrimLeft at an ASCII cutset; isBlank. -/
import Derived.Test.YtccmlodocfpbhaaDoorC
import Derived.Test.YtccmlodocfpbhaaDoorT3
import Derived.Lib.AsciiSet
import Derived.Deep.LoopGhost
namespace Go.Proofs.YtccmlodocfpbhaaDoor
open Go.RowKit

theorem info93 : (Tryd.prog.info? 93).map (fun i => (i.zero, i.size)) = some (some (.agg (Array.replicate 256 (.bool false))), 256) := by kernel_rfl
def inS (S : List UInt8) (b : UInt8) : Bool := S.contains b
def SetAt (w : World) (b : Nat) (S : List UInt8) : Prop := ∀ x : UInt8, w.cell? ⟨b, x.toNat, none⟩ = some (.bool (S.contains x))
theorem setAt_cells {w : World} {b : Nat} {S : List UInt8} {t : TypeId} {fr : Nat × Nat} (h : w.heap[b]? = some (.cells (Lib.setCells S) t fr)) : SetAt w b S := by
  intro x
  rw [cell_of_row w b _ _ t fr h, Lib.setCells_at]
/-- A whole array stored into the block that was made last. -/
theorem wpList_store_new {P : Program} {ops : Array Oper} {rest : List Oper} {o : Oper} {a : Act} {Q : Exit → Act → World → Prop} (w : World) (t : TypeId) (c c' : Array Value) (hgd : o.guard = none) (x y : Operand) (ho : o.op = .store t x y)
    (hx : a.eval x = .pointer (some ⟨w.heap.size, 0, none⟩)) (hy : a.eval y = .agg c') (hi : (P.info? t).map (·.size) = some c'.size) (hc : c.size = c'.size) (h1 : c'.all (·.oneCell') = true)
    (h : wpList P ops Q rest (a.put o.dst undef) (w.alloc (.cells c' t))) : wpList P ops Q (o :: rest) a (w.alloc (.cells c t)) := by
  refine wpList_store_row hgd t x y ho w.heap.size c' hx hy t c (heap_alloc_last w _) hi hc h1 ?_
  rw [World.setRow_alloc_new]
  exact h
theorem sizes_ok (S : List UInt8) : (Array.replicate 256 (Value.bool false)).size = (Lib.setCells S).size := by rw [Lib.setCells_size, Array.size_replicate]

set_option maxHeartbeats 1000000 in
set_option maxRecDepth 100000 in
theorem trimAscii_any (l S : List UInt8) (b : Nat) (w : World) (hS : SetAt w b S) (hl : l.length ≤ 1000000000) : Calls Tryd.prog 56 #[.string (bs l), .pointer (some ⟨b, 0, none⟩)] w fun r w' => r = .returned (.string (bs (l.dropWhile (inS S)))) ∧ w = w' := by
  go_enter Tryd.func56, Tryd.ntmps56
  go_wp2
  go_loopg [0] l.length (fun g s0 wx => ∃ r, s0 = .string (bs r) ∧ wx = w ∧ r.length ≤ g ∧ r.length ≤ 1000000000 ∧ Hid (r.dropWhile (inS S) = l.dropWhile (inS S)))
  case atStart => exact ⟨l, rfl, rfl, Nat.le_refl _, hl, Lib.hid rfl⟩
  case round =>
    obtain ⟨r, rfl, rfl, hg, hr, HD⟩ := hrel
    cases r with
    | nil =>
      have hz : ¬ ((0 : Int) < ((bs []).size : Int)) := by simp [bs_size]
      go_wp2
      go_ret
      exact ⟨by rw [← HD.out]; rfl, rfl⟩
    | cons x r =>
      obtain ⟨g, rfl⟩ : ∃ g, gk = g + 1 := ⟨gk - 1, by simp at hg; omega⟩
      have hz : (0 : Int) < ((bs (x :: r)).size : Int) := by simp [bs_size]
      have hz1 : (1 : Int) ≤ ((bs (x :: r)).size : Int) := by omega
      have hh : (bs (x :: r))[0]'(by simp [bs_size]) = x := rfl
      have HC := Lib.hid (show Calls Tryd.prog 74 #[.pointer (some ⟨b, 0, none⟩), .int .u8 x.toNat] wr fun e w' => e = .returned (.bool (inS S x)) ∧ w' = wr from Tryd.asciiSet_contains b x _ wr (hS x))
      have hex : (bs (x :: r)).extract 1 (bs (x :: r)).size = bs r := by rw [bs_drop]; rfl
      have HX := Lib.hid hex
      have HG := Lib.hid hg
      have HR := Lib.hid hr
      clear hex hg hr
      cases hc : inS S x with
      | false =>
        have HF := Lib.hid (show (x :: r).dropWhile (inS S) = x :: r by rw [List.dropWhile_cons, hc]; rfl)
        rw [hc] at HC
        clear hc
        go_wp2_with (go_at_call 74; refine Calls.mono (by exact HC.out) ?_; rintro r w1 ⟨rfl, rfl⟩)
        go_ret
        exact ⟨by rw [← HD.out, HF.out]; rfl, rfl⟩
      | true =>
        have HF := Lib.hid (show (x :: r).dropWhile (inS S) = r.dropWhile (inS S) by rw [List.dropWhile_cons, hc]; rfl)
        rw [hc] at HC
        clear hc
        go_wp2_with (go_at_call 74; refine Calls.mono (by exact HC.out) ?_; rintro r w1 ⟨rfl, rfl⟩)
        rw [HX.out]
        go_roundg g
        case measure => omega
        case rel =>
          have h1 := HG.out
          have h2 := HR.out
          rw [List.length_cons] at h1 h2
          exact ⟨r, rfl, rfl, by omega, by omega, Lib.hid (HF.out.symm.trans HD.out)⟩

set_option maxHeartbeats 1000000 in
set_option maxRecDepth 100000 in
theorem trimLeft_any (l S : List UInt8) (w : World) (h2 : 2 ≤ S.length) (hS : S.length ≤ 1000) (ha : ∀ b ∈ S, b.toNat < 128) (hl : l.length ≤ 1000000000) :
    Calls Tryd.prog 30 #[.string (bs l), .string (bs S)] w fun r w' => r = .returned (.string (bs (l.dropWhile (inS S)))) ∧ Kp [] w w' := by
  have hSe : (bs S).toList.isEmpty = false := by
    rw [bs_isEmpty]
    cases S with
    | nil => simp at h2
    | cons _ _ => rfl
  have hle := bs_isEmpty l
  have h1 : (((bs S).size : Int) == 1) = false := by rw [bs_size]; simp; omega
  cases hln : l.isEmpty with
  | true =>
    rw [hln] at hle
    have h0 := Lib.hid (List.isEmpty_iff.1 hln)
    clear hln
    go_enter Tryd.func30, Tryd.ntmps30
    go_wp2
    go_ret
    refine ⟨?_, Kp.refl _ _⟩
    rw [h0.out]
    rfl
  | false =>
    rw [hln] at hle
    have hv := (zero_of_info (P := Tryd.prog) info93).1
    have hi := (zero_of_info (P := Tryd.prog) info93).2
    have Hi := Lib.hid (show (Tryd.prog.info? 93).map (·.size) = some (Lib.setCells S).size by rw [Lib.setCells_size]; exact hi)
    have HM := Lib.hid (Tryd.strings_makeASCIISet hv (bs S) w (by rw [bs_size]; omega) (fun j b hb => ha b (List.mem_of_getElem? hb)))
    rw [bs_data] at HM
    have HT := Lib.hid fun W b (h : SetAt W b S) => trimAscii_any l S b W h hl
    clear hln h2 hS ha
    generalize hw1 : w.alloc (.cells (Lib.setCells S) 93) = w1 at HM
    have HK1 := Lib.hid (show Kp [] w w1 by rw [← hw1]; exact (Kp.refl [] w).alloc _)
    clear hw1
    have HSA := Lib.hid (setAt_cells (S := S) (heap_alloc_last w1 (.cells (Lib.setCells S) 93)))
    go_enter Tryd.func30, Tryd.ntmps30
    go_wp2_with (first
      | (go_at_call 55; refine Calls.mono (by with_reducible exact HM.out) ?_; rintro r w2 ⟨rfl, rfl⟩)
      | (refine wpList_store_new _ 93 _ (Lib.setCells S) rfl _ _ rfl rfl rfl Hi.out (sizes_ok _) (Lib.setCells_one _) ?_)
      | (go_at_call 56; refine Calls.mono (by with_reducible exact HT.out _ _ HSA.out) ?_; rintro r w3 ⟨rfl, rfl⟩))
    go_ret
    exact ⟨rfl, HK1.out.alloc _⟩

theorem trim329 (l : List UInt8) (w : World) (hl : l.length ≤ 1000000000) : Calls Tryd.prog 30 #[.string (bs l), .string ⟨#[32, 9]⟩] w fun r w' => r = .returned (.string (bs (l.dropWhile fun b => b == 32 || b == 9))) ∧ Kp [] w w' := by
  have h := trimLeft_any l [32, 9] w (by decide) (by decide) (by decide) hl
  rw [show inS [32, 9] = (fun b : UInt8 => b == 32 || b == 9) from funext fun b => by simp only [inS, List.contains, List.elem]; cases b == 32 <;> cases b == 9 <;> rfl] at h
  exact h
theorem trimSep (l : List UInt8) (w : World) (hl : l.length ≤ 1000000000) : Calls Tryd.prog 30 #[.string (bs l), .string ⟨#[32, 9, 44]⟩] w fun r w' => r = .returned (.string (bs (trimL l))) ∧ Kp [] w w' := by
  have h := trimLeft_any l [32, 9, 44] w (by decide) (by decide) (by decide) hl
  rw [show inS [32, 9, 44] = sepCh from funext fun b => by simp only [inS, List.contains, List.elem, sepCh]; cases b == 32 <;> cases b == 9 <;> cases b == 44 <;> rfl] at h
  exact h

set_option maxHeartbeats 1000000 in
set_option maxRecDepth 100000 in
theorem isBlank_any (l : List UInt8) (w : World) (hl : l.length ≤ 1000000000) : Calls Tryd.prog 28 #[.string (bs l)] w fun r w' => r = .returned (.bool (blankL l)) ∧ Kp [] w w' := by
  have H := Lib.hid (trim329 l w hl)
  unfold blankL
  clear hl
  cases hd : l.dropWhile fun b => b == 32 || b == 9 with
  | nil =>
    rw [hd] at H
    have he : (bs []).toList.isEmpty = true := bs_isEmpty []
    clear hd
    go_enter Tryd.func28, Tryd.ntmps28
    go_wp2_with (go_at_call 30; refine Calls.mono (by with_reducible exact H.out) ?_; rintro r w1 ⟨rfl, hk⟩; have HK := Lib.hid hk; clear hk)
    go_ret
    exact ⟨rfl, HK.out⟩
  | cons b r =>
    rw [hd] at H
    have he : (bs (b :: r)).toList.isEmpty = false := bs_isEmpty _
    have hz : (0 : Int) < ((bs (b :: r)).size : Int) := by simp [bs_size]
    have hh : (bs (b :: r))[0]'(by simp [bs_size]) = b := rfl
    have e : ((b.toNat : Int) == 35) = (b == 35) := by
      rw [Bool.eq_iff_iff]; simp only [beq_iff_eq, ← UInt8.toNat_inj]
      have : (35 : UInt8).toNat = 35 := rfl
      omega
    have HE := Lib.hid e
    clear hd e
    go_enter Tryd.func28, Tryd.ntmps28
    go_wp2_with (go_at_call 30; refine Calls.mono (by with_reducible exact H.out) ?_; rintro r w1 ⟨rfl, hk⟩; have HK := Lib.hid hk; clear hk)
    go_ret
    exact ⟨by rw [← HE.out]; rfl, HK.out⟩
end Go.Proofs.YtccmlodocfpbhaaDoor
