/- LxV -/
import Derived.Test.YtkkibibecgcbmaaGreatDoorQD
import Derived.Deep.LoopGhost
import Derived.Lib.IndexBytes
open Go.Lib renaming hid → qH
open Go.Calls renaming mono → cM
set_option maxRecDepth 100000
set_option maxHeartbeats 16000000
namespace Go.Proofs.YtkkibibecgcbmaaGreatDoor.Lx
open Go.RowKit
theorem u8_leV (a b : UInt8) : decide ((a.toNat : Int) ≤ (b.toNat : Int)) = decide (a ≤ b) := by
 rw [decide_eq_decide]
 rw [UInt8.le_iff_toNat_le]
 omega
theorem upper_any (b : UInt8) (w : World) : Calls Tryz.prog 111 #[.int .u8 (b.toNat : Int)] w fun r w' => r = .returned (.bool (upCh b)) ∧ w = w' := by
 have e : upCh b = (decide ((65 : Int) ≤ (b.toNat : Int)) && decide ((b.toNat : Int) ≤ 90)) := by
  have h1 := u8_leV 65 b
  have h2 := u8_leV b 90
  unfold upCh
  rw [← h1, ← h2]
  rfl
 by_cases h1 : (65 : Int) ≤ (b.toNat : Int)
 ·rw [e, decide_eq_true h1]
  clear e
  go_enter Tryz.func111, Tryz.ntmps111
  go_wp2
  go_ret
  exact ⟨rfl, rfl⟩
 ·rw [e, decide_eq_false h1]
  clear e
  go_enter Tryz.func111, Tryz.ntmps111
  go_wp2
  go_ret
  exact ⟨rfl, rfl⟩
theorem named_any (b : UInt8) (w : World) : Calls Tryz.prog 113 #[.int .u8 (b.toNat : Int)] w fun r w' => r = .returned (.bool (nmCh b)) ∧ w = w' := by
 have hb := UInt8.toNat_lt b
 have e : nmCh b = (decide ((33 : Int) ≤ (b.toNat : Int)) && decide ((b.toNat : Int) ≤ 126) && !((b.toNat : Int) == 123) && !((b.toNat : Int) == 125) && !((b.toNat : Int) == 34)) := by
  have := forall_u8 (p := fun b => nmCh b == (decide ((33 : Int) ≤ (b.toNat : Int)) && decide ((b.toNat : Int) ≤ 126) && !((b.toNat : Int) == 123) && !((b.toNat : Int) == 125) && !((b.toNat : Int) == 34))) (by decide +kernel) b
  simpa using this
 rw [e]
 generalize (b.toNat : Int) = z at *
 clear e hb
 by_cases h1 : (33 : Int) ≤ z
 ·by_cases h2 : z ≤ 126
  ·rw [decide_eq_true h1, decide_eq_true h2]
   cases h3 : z == 123 with
   | true =>
    have h3' : (z != 123) = false := by simp [bne, h3]
    go_enter Tryz.func113, Tryz.ntmps113
    go_wp2
    go_ret
    exact ⟨rfl, rfl⟩
   | false =>
    have h3' : (z != 123) = true := by simp [bne, h3]
    cases h4 : z == 125 with
    | true =>
     have h4' : (z != 125) = false := by simp [bne, h4]
     go_enter Tryz.func113, Tryz.ntmps113
     go_wp2
     go_ret
     exact ⟨rfl, rfl⟩
    | false =>
     have h4' : (z != 125) = true := by simp [bne, h4]
     go_enter Tryz.func113, Tryz.ntmps113
     go_wp2
     go_ret
     exact ⟨rfl, rfl⟩
  ·rw [decide_eq_true h1, decide_eq_false h2]
   go_enter Tryz.func113, Tryz.ntmps113
   go_wp2
   go_ret
   exact ⟨rfl, rfl⟩
 ·rw [decide_eq_false h1]
  go_enter Tryz.func113, Tryz.ntmps113
  go_wp2
  go_ret
  exact ⟨rfl, rfl⟩
def opsCells : Array Value := #[.string ⟨#[61, 61]⟩, .string ⟨#[33, 61]⟩, .string ⟨#[43, 61]⟩, .string ⟨#[45, 61]⟩, .string ⟨#[58, 61]⟩, .string ⟨#[61]⟩]
theorem ops_any (w : World) : Calls Tryz.prog 114 #[] w fun r w' => r = .returned (.slice (some ⟨w.heap.size, 0, none⟩) 6 6) ∧ w' = w.alloc (.cells opsCells 9) := by
 go_enter Tryz.func114, Tryz.ntmps114
 go_wp2
 go_ret
 exact ⟨rfl, rfl⟩
theorem ops_cell {w W : World} (hk : Kp [] (w.alloc (.cells opsCells 9)) W) {j : Nat} {o : List UInt8} (h : opsL[j]? = some o) : W.cell? ⟨w.heap.size, j, none⟩ = some (.string (bs o)) := by
 have hb := (hk.block w.heap.size (by simp) (by simp)).trans (heap_alloc_last w (.cells opsCells 9))
 rw [cell_of_row _ _ _ _ _ _ hb]
 have hj := (List.getElem?_eq_some_iff.1 h).1
 have hj6 : j < 6 := hj
 match j, hj6 with
 | 0, _ => cases h; rfl
 | 1, _ => cases h; rfl
 | 2, _ => cases h; rfl
 | 3, _ => cases h; rfl
 | 4, _ => cases h; rfl
 | 5, _ => cases h; rfl
theorem all_at {p : UInt8 → Bool} {l : List UInt8} {i : Nat} (hi : i < l.length) (h : (l.take i).all p = true) (hp : p l[i] = true) : (l.take (i + 1)).all p = true := by
 rw [List.take_add_one, List.getElem?_eq_getElem hi, List.all_append, h]
 simp [hp]
theorem all_not {p : UInt8 → Bool} {l : List UInt8} {i : Nat} (hi : i < l.length) (hp : p l[i] = false) : l.all p = false := by
 rw [List.all_eq_false]
 exact ⟨l[i], List.getElem_mem hi, by rw [hp]; simp⟩
end Go.Proofs.YtkkibibecgcbmaaGreatDoor.Lx
namespace Go.Proofs.YtkkibibecgcbmaaGreatDoor.Lx
open Go.RowKit
theorem goodB_parts (k n o v : List UInt8) : goodB ⟨k, n, o, v⟩ = (!k.isEmpty && k.all upCh && n.all nmCh && opsL.contains o && v.all prCh && !(v.getLast? == some 92)) := rfl
def prB (z : Int) : Bool := !(decide (z < 32) || decide (126 < z))
theorem prB_eq (b : UInt8) : prCh b = prB (b.toNat : Int) := by
 have := forall_u8 (p := fun b => prCh b == prB (b.toNat : Int)) (by decide +kernel) b
 simpa using this
theorem str_eqb (a b : List UInt8) : ((bs a).toList == (bs b).toList) = (a == b) := by rw [Lib.toList_data, Lib.toList_data, bs_data, bs_data]
theorem contains_take {o q : List UInt8} {i : Nat} (h : opsL[i]? = some q) : (opsL.take (i + 1)).contains o = ((opsL.take i).contains o || (q == o)) := by
 rw [List.take_add_one, h]
 simp only [Option.toList, List.contains_append, List.contains_cons, List.contains_nil, Bool.or_false]
 congr 1
 rw [Bool.eq_iff_iff, beq_iff_eq, beq_iff_eq]
 exact eq_comm
theorem refGood_any (x : Tok) (w : World) (hx : x.key.length ≤ 1000000000 ∧ x.name.length ≤ 1000000000 ∧ x.op.length ≤ 1000000000 ∧ x.val.length ≤ 1000000000) : Calls Tryz.prog 85 #[.agg (tokC x)] w fun r w' => r = .returned (.bool (goodB x)) ∧ Kp [] w w' := by
 obtain ⟨k, n, o, v⟩ := x
 simp only at hx
 obtain ⟨A, hA⟩ : ∃ A, w.heap.size = A := ⟨_, rfl⟩
 obtain ⟨w1, hw1⟩ : ∃ w1, w.alloc (.cells #[.string (bs k), .string (bs n), .string (bs o), .string (bs v)] 81) = w1 := ⟨_, rfl⟩
 have hA1 : TAt w1 A ⟨k, n, o, v⟩ := by
  have h := heap_alloc_last w (.cells #[.string (bs k), .string (bs n), .string (bs o), .string (bs v)] 81)
  rw [hw1, hA] at h
  exact h
 have hk1 : Kp [] w w1 := by rw [← hw1]; exact (Kp.refl [] w).alloc _
 obtain ⟨d0, d1, d2, d3⟩ := hA1.cells
 have HA1 := qH hA1
 have HK1 := qH hk1
 have HX := qH hx
 have HP := qH (goodB_parts k n o v)
 have HU := qH upper_any
 have HNM := qH named_any
 clear hA1 hk1 hx
 unfold tokC
 simp only
 go_enter Tryz.func85, Tryz.ntmps85
 go_wp2
 go_loopg [3] k.length (fun g s3 wx => ∃ i : Nat, s3 = .int .i64 (i : Int) ∧ i + g = k.length ∧ w1 = wx ∧ Hid ((k.take i).all upCh = true))
 case atStart => exact ⟨0, rfl, by omega, rfl, qH rfl⟩
 case round =>
  obtain ⟨i, rfl, hig, rfl, HG3⟩ := hrel
  have hbz : (bs k).size = k.length := bs_size _
  by_cases hi : i < k.length
  ·obtain ⟨g, rfl⟩ : ∃ g, gk = g + 1 := ⟨gk - 1, by omega⟩
   have hi2 : i < (bs k).size := by rw [hbz]; exact hi
   have hiz : (i : Int) < ((bs k).size : Int) := by omega
   have hwi : IntKind.i64.wrap ((i : Int) + 1) = ((i + 1 : Nat) : Int) := by rw [IntKind.wrap_i64]; have := HX.out; omega
   have HI := qH hig
   have HII := qH hi
   cases hc : upCh ((bs k)[i]'hi2) with
   | false =>
    have HC := qH (show Calls Tryz.prog 111 #[.int .u8 (((bs k)[i]'hi2).toNat : Int)] w1 fun r w' => r = .returned (.bool false) ∧ w1 = w' from hc ▸ HU.out ((bs k)[i]'hi2) w1)
    have HF := qH (show goodB ⟨k, n, o, v⟩ = false by rw [HP.out, show k.all upCh = false from all_not hi hc]; simp)
    clear hc hig hi hbz
    go_wp2_with (go_at_call 111; refine cM (by with_reducible exact HC.out) ?_; rintro r w4 ⟨rfl, rfl⟩)
    go_ret
    exact ⟨by rw [HF.out]; rfl, HK1.out⟩
   | true =>
    have HC := qH (show Calls Tryz.prog 111 #[.int .u8 (((bs k)[i]'hi2).toNat : Int)] w1 fun r w' => r = .returned (.bool true) ∧ w1 = w' from hc ▸ HU.out ((bs k)[i]'hi2) w1)
    have HG2 := qH (show (k.take (i + 1)).all upCh = true from all_at hi HG3.out hc)
    clear hc hig hi hbz
    go_wp2_with (go_at_call 111; refine cM (by with_reducible exact HC.out) ?_; rintro r w4 ⟨rfl, rfl⟩)
    go_roundg g
    case measure => omega
    case rel => exact ⟨i + 1, rfl, by have := HI.out; omega, rfl, HG2⟩
  ·have hiz : ¬ ((i : Int) < ((bs k).size : Int)) := by omega
   have HALL3 := qH (show k.all upCh = true by
    have h := HG3.out
    rwa [List.take_of_length_le (by omega)] at h)
   clear hig hi hbz HG3
   go_wp2
   go_loopg [4] n.length (fun g s4 wx => ∃ i : Nat, s4 = .int .i64 (i : Int) ∧ i + g = n.length ∧ w1 = wx ∧ Hid ((n.take i).all nmCh = true))
   case atStart => exact ⟨0, rfl, by omega, rfl, qH rfl⟩
   case round =>
    obtain ⟨i, rfl, hig, rfl, HG4⟩ := hrel
    have hbz : (bs n).size = n.length := bs_size _
    by_cases hi : i < n.length
    ·obtain ⟨g, rfl⟩ : ∃ g, gk = g + 1 := ⟨gk - 1, by omega⟩
     have hi2 : i < (bs n).size := by rw [hbz]; exact hi
     have hiz : (i : Int) < ((bs n).size : Int) := by omega
     have hwi : IntKind.i64.wrap ((i : Int) + 1) = ((i + 1 : Nat) : Int) := by rw [IntKind.wrap_i64]; have := HX.out; omega
     have HI := qH hig
     have HII := qH hi
     cases hc : nmCh ((bs n)[i]'hi2) with
     | false =>
      have HC := qH (show Calls Tryz.prog 113 #[.int .u8 (((bs n)[i]'hi2).toNat : Int)] w1 fun r w' => r = .returned (.bool false) ∧ w1 = w' from hc ▸ HNM.out ((bs n)[i]'hi2) w1)
      have HF := qH (show goodB ⟨k, n, o, v⟩ = false by rw [HP.out, show n.all nmCh = false from all_not hi hc]; simp)
      clear hc hig hi hbz
      go_wp2_with (go_at_call 113; refine cM (by with_reducible exact HC.out) ?_; rintro r w4 ⟨rfl, rfl⟩)
      go_ret
      exact ⟨by rw [HF.out]; rfl, HK1.out⟩
     | true =>
      have HC := qH (show Calls Tryz.prog 113 #[.int .u8 (((bs n)[i]'hi2).toNat : Int)] w1 fun r w' => r = .returned (.bool true) ∧ w1 = w' from hc ▸ HNM.out ((bs n)[i]'hi2) w1)
      have HG2 := qH (show (n.take (i + 1)).all nmCh = true from all_at hi HG4.out hc)
      clear hc hig hi hbz
      go_wp2_with (go_at_call 113; refine cM (by with_reducible exact HC.out) ?_; rintro r w4 ⟨rfl, rfl⟩)
      go_roundg g
      case measure => omega
      case rel => exact ⟨i + 1, rfl, by have := HI.out; omega, rfl, HG2⟩
    ·have hiz : ¬ ((i : Int) < ((bs n).size : Int)) := by omega
     have HALL4 := qH (show n.all nmCh = true by
      have h := HG4.out
      rwa [List.take_of_length_le (by omega)] at h)
     clear hig hi hbz HG4
     go_wp2
     go_loopg [5] v.length (fun g s5 wx => ∃ i : Nat, s5 = .int .i64 (i : Int) ∧ i + g = v.length ∧ w1 = wx ∧ Hid ((v.take i).all prCh = true))
     case atStart => exact ⟨0, rfl, by omega, rfl, qH rfl⟩
     case round =>
      obtain ⟨i, rfl, hig, rfl, HG5⟩ := hrel
      have hbz : (bs v).size = v.length := bs_size _
      by_cases hi : i < v.length
      ·obtain ⟨g, rfl⟩ : ∃ g, gk = g + 1 := ⟨gk - 1, by omega⟩
       have hi2 : i < (bs v).size := by rw [hbz]; exact hi
       have hiz : (i : Int) < ((bs v).size : Int) := by omega
       have hwi : IntKind.i64.wrap ((i : Int) + 1) = ((i + 1 : Nat) : Int) := by rw [IntKind.wrap_i64]; have := HX.out; omega
       have HI := qH hig
       have HII := qH hi
       have hpe := prB_eq ((bs v)[i]'hi2)
       obtain ⟨z, hz⟩ : ∃ z, (((bs v)[i]'hi2).toNat : Int) = z := ⟨_, rfl⟩
       rw [hz] at hpe
       have HPE := qH hpe
       have HZ := qH hz
       cases hc : prCh ((bs v)[i]'hi2) with
       | false =>
        have HF := qH (show goodB ⟨k, n, o, v⟩ = false by rw [HP.out, show v.all prCh = false from all_not hi hc]; simp)
        have hzz : z < 32 ∨ 126 < z := by
         rw [hc] at hpe
         unfold prB at hpe
         by_cases h1 : z < 32
         ·exact .inl h1
         ·right
          rw [decide_eq_false h1] at hpe
          simpa using hpe
        clear hc hig hi hbz hpe
        by_cases h1 : z < 32
        ·go_wp2
         go_ret
         exact ⟨by rw [HF.out]; rfl, HK1.out⟩
        ·have h2 : 126 < z := hzz.resolve_left h1
         clear hzz
         go_wp2
         go_ret
         exact ⟨by rw [HF.out]; rfl, HK1.out⟩
       | true =>
        have HG2 := qH (show (v.take (i + 1)).all prCh = true from all_at hi HG5.out hc)
        have h1 : ¬ z < 32 := fun h => by rw [hc] at hpe; unfold prB at hpe; rw [decide_eq_true h] at hpe; cases hpe
        have h2 : ¬ 126 < z := fun h => by rw [hc] at hpe; unfold prB at hpe; rw [decide_eq_true h] at hpe; simp at hpe
        clear hc hig hi hbz hpe
        go_wp2
        go_roundg g
        case measure => omega
        case rel => exact ⟨i + 1, rfl, by have := HI.out; omega, rfl, HG2⟩
      ·have hiz : ¬ ((i : Int) < ((bs v).size : Int)) := by omega
       have HALL5 := qH (show v.all prCh = true by
        have h := HG5.out
        rwa [List.take_of_length_le (by omega)] at h)
       have HOP := qH (ops_any w1)
       clear hig hi hbz HG5
       go_wp2_with (go_at_call 114; refine cM (by with_reducible exact HOP.out) ?_; rintro r w4 ⟨rfl, hw4⟩; have hk4 : Kp [] w1 w4 := (by rw [hw4]; exact (Kp.refl [] w1).alloc _); have hko := (show Kp [] (w1.alloc (.cells opsCells 9)) w4 by rw [hw4]; exact Kp.refl _ _); have HK4 := qH hk4; have HKO := qH hko; have HA4 := qH (HA1.out.kp hk4 (by simp)); clear hw4 hk4 hko)
       obtain ⟨c0, c1, c2, c3⟩ := HA4.out.cells
       have HSF := qH fun W => suf92 v W (by have := HX.out; omega)
       go_loopg [6, 8] 6 (fun g s6 s8 wx => ∃ i : Nat, s8 = .int .i64 (i : Int) ∧ i + g = 6 ∧ s6 = .bool ((opsL.take i).contains o) ∧ ∃ n, wx = w4.drewN n)
       case atStart => exact ⟨0, rfl, rfl, rfl, 0, rfl⟩
       case round =>
        obtain ⟨i, rfl, hig, rfl, nd, rfl⟩ := hrel
        obtain ⟨b, hb⟩ : ∃ b, (opsL.take i).contains o = b := ⟨_, rfl⟩
        rw [hb]
        have HB := qH hb
        by_cases hi : i < 6
        ·obtain ⟨g, rfl⟩ : ∃ g, gk = g + 1 := ⟨gk - 1, by omega⟩
         obtain ⟨q, hq⟩ : ∃ q, opsL[i]? = some q := ⟨_, List.getElem?_eq_getElem (show i < opsL.length from hi)⟩
         have hoc := ops_cell HKO.out hq
         have hct := contains_take (o := o) hq
         rw [hb] at hct
         have hse := str_eqb q o
         have hiz : (i : Int) < 6 := by omega
         have hwi : IntKind.i64.wrap ((i : Int) + 1) = ((i + 1 : Nat) : Int) := by rw [IntKind.wrap_i64]; omega
         have HI := qH hig
         have HCT := qH hct
         clear hq hct hb hig hi
         cases b with
         | true =>
          clear hse
          go_wp2
          go_quiet (fail)
          go_wp2
          go_roundg g
          case measure => omega
          case rel => exact ⟨i + 1, rfl, by have := HI.out; omega, by rw [HCT.out]; rfl, _, rfl⟩
         | false =>
          obtain ⟨e, he⟩ : ∃ e, (q == o) = e := ⟨_, rfl⟩
          rw [he] at hse HCT
          clear he
          go_wp2
          go_quiet (fail)
          go_wp2
          all_goals
           go_roundg g
           case measure => omega
           case rel => exact ⟨i + 1, rfl, by have := HI.out; omega, by rw [HCT.out]; simp_all, _, rfl⟩
        ·have hiz : ¬ ((i : Int) < 6) := by omega
         have hie : i = 6 := by omega
         have hall : opsL.contains o = b := by rw [← hb, hie]; rfl
         have hke := bs_isEmpty k
         have HFIN := qH (show goodB ⟨k, n, o, v⟩ = (!(bs k).toList.isEmpty && b && !(v.getLast? == some 92)) by
          rw [HP.out, HALL3.out, HALL4.out, HALL5.out, hall, hke]
          simp)
         obtain ⟨ke, hke2⟩ : ∃ ke, (bs k).toList.isEmpty = ke := ⟨_, rfl⟩
         obtain ⟨le, hle⟩ : ∃ le, (v.getLast? == some 92) = le := ⟨_, rfl⟩
         rw [hke2, hle] at HFIN
         rw [hle] at HSF
         clear hb hig hi hie hall hke hle
         cases ke with
         | true =>
          go_wp2
          go_ret
          exact ⟨by rw [HFIN.out]; rfl, (HK1.out.trans HK4.out).drew _⟩
         | false =>
          cases b with
          | false =>
           go_wp2
           go_ret
           exact ⟨by rw [HFIN.out]; rfl, (HK1.out.trans HK4.out).drew _⟩
          | true =>
           cases le with
           | false =>
            go_wp2_with (go_at_call 44; refine cM (by with_reducible exact HSF.out _) ?_; rintro r w9 ⟨rfl, rfl⟩)
            go_ret
            exact ⟨by rw [HFIN.out]; rfl, (HK1.out.trans HK4.out).drew _⟩
           | true =>
            go_wp2_with (go_at_call 44; refine cM (by with_reducible exact HSF.out _) ?_; rintro r w9 ⟨rfl, rfl⟩)
            go_ret
            exact ⟨by rw [HFIN.out]; rfl, (HK1.out.trans HK4.out).drew _⟩
end Go.Proofs.YtkkibibecgcbmaaGreatDoor.Lx
