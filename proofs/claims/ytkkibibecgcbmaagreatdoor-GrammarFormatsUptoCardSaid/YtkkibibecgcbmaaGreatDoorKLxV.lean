/- The reference's upper, named, ops, Good. -/
import Derived.Test.YtkkibibecgcbmaaGreatDoorKD
import Derived.Deep.LoopGhost
import Derived.Lib.IndexBytes
namespace Go.Proofs.YtkkibibecgcbmaaGreatDoor.Lx
open Go.RowKit
theorem u8_leV (a b : UInt8) : decide ((a.toNat : Int) ≤ (b.toNat : Int)) = decide (a ≤ b) := by
 rw [decide_eq_decide]
 rw [UInt8.le_iff_toNat_le]
 omega
set_option maxHeartbeats 400000 in
theorem upper_any (b : UInt8) (w : World) : Calls Tryz.prog 111 #[.int .u8 (b.toNat : Int)] w fun r w' => r = .returned (.bool (upCh b)) ∧ w = w' := by
 have e : upCh b = (decide ((65 : Int) ≤ (b.toNat : Int)) && decide ((b.toNat : Int) ≤ 90)) := by
  have h1 := u8_leV 65 b
  have h2 := u8_leV b 90
  unfold upCh
  rw [← h1, ← h2]
  rfl
 by_cases h1 : (65 : Int) ≤ (b.toNat : Int)
 ·rw [e, decide_eq_true h1]
  clear e
  go_enter Tryz.func111, Tryz.ntmps111
  go_wp2
  go_ret
  exact ⟨rfl, rfl⟩
 ·rw [e, decide_eq_false h1]
  clear e
  go_enter Tryz.func111, Tryz.ntmps111
  go_wp2
  go_ret
  exact ⟨rfl, rfl⟩
set_option maxHeartbeats 1000000 in
theorem named_any (b : UInt8) (w : World) : Calls Tryz.prog 113 #[.int .u8 (b.toNat : Int)] w fun r w' => r = .returned (.bool (nmCh b)) ∧ w = w' := by
 have hb := UInt8.toNat_lt b
 have e : nmCh b = (decide ((33 : Int) ≤ (b.toNat : Int)) && decide ((b.toNat : Int) ≤ 126) && !((b.toNat : Int) == 123) && !((b.toNat : Int) == 125) && !((b.toNat : Int) == 34)) := by
  have := forall_u8 (p := fun b => nmCh b == (decide ((33 : Int) ≤ (b.toNat : Int)) && decide ((b.toNat : Int) ≤ 126) && !((b.toNat : Int) == 123) && !((b.toNat : Int) == 125) && !((b.toNat : Int) == 34))) (by decide +kernel) b
  simpa using this
 rw [e]
 generalize (b.toNat : Int) = z at *
 clear e hb
 by_cases h1 : (33 : Int) ≤ z
 ·by_cases h2 : z ≤ 126
  ·rw [decide_eq_true h1, decide_eq_true h2]
   cases h3 : z == 123 with
   | true =>
    have h3' : (z != 123) = false := by simp [bne, h3]
    go_enter Tryz.func113, Tryz.ntmps113
    go_wp2
    go_ret
    exact ⟨rfl, rfl⟩
   | false =>
    have h3' : (z != 123) = true := by simp [bne, h3]
    cases h4 : z == 125 with
    | true =>
     have h4' : (z != 125) = false := by simp [bne, h4]
     go_enter Tryz.func113, Tryz.ntmps113
     go_wp2
     go_ret
     exact ⟨rfl, rfl⟩
    | false =>
     have h4' : (z != 125) = true := by simp [bne, h4]
     go_enter Tryz.func113, Tryz.ntmps113
     go_wp2
     go_ret
     exact ⟨rfl, rfl⟩
  ·rw [decide_eq_true h1, decide_eq_false h2]
   go_enter Tryz.func113, Tryz.ntmps113
   go_wp2
   go_ret
   exact ⟨rfl, rfl⟩
 ·rw [decide_eq_false h1]
  go_enter Tryz.func113, Tryz.ntmps113
  go_wp2
  go_ret
  exact ⟨rfl, rfl⟩
def opsCells : Array Value := #[.string ⟨#[61, 61]⟩, .string ⟨#[33, 61]⟩, .string ⟨#[43, 61]⟩, .string ⟨#[45, 61]⟩, .string ⟨#[58, 61]⟩, .string ⟨#[61]⟩]
theorem ops_any (w : World) : Calls Tryz.prog 114 #[] w fun r w' => r = .returned (.slice (some ⟨w.heap.size, 0, none⟩) 6 6) ∧ w' = w.alloc (.cells opsCells 9) := by
 go_enter Tryz.func114, Tryz.ntmps114
 go_wp2
 go_ret
 exact ⟨rfl, rfl⟩
theorem ops_cell {w W : World} (hk : Kp [] (w.alloc (.cells opsCells 9)) W) {j : Nat} {o : List UInt8} (h : opsL[j]? = some o) : W.cell? ⟨w.heap.size, j, none⟩ = some (.string (bs o)) := by
 have hb := (hk.block w.heap.size (by simp) (by simp)).trans (heap_alloc_last w (.cells opsCells 9))
 rw [cell_of_row _ _ _ _ _ _ hb]
 have hj := (List.getElem?_eq_some_iff.1 h).1
 have hj6 : j < 6 := hj
 match j, hj6 with
 | 0, _ => cases h; rfl
 | 1, _ => cases h; rfl
 | 2, _ => cases h; rfl
 | 3, _ => cases h; rfl
 | 4, _ => cases h; rfl
 | 5, _ => cases h; rfl
theorem all_at {p : UInt8 → Bool} {l : List UInt8} {i : Nat} (hi : i < l.length) (h : (l.take i).all p = true) (hp : p l[i] = true) : (l.take (i + 1)).all p = true := by
 rw [List.take_add_one, List.getElem?_eq_getElem hi, List.all_append, h]
 simp [hp]
theorem all_not {p : UInt8 → Bool} {l : List UInt8} {i : Nat} (hi : i < l.length) (hp : p l[i] = false) : l.all p = false := by
 rw [List.all_eq_false]
 exact ⟨l[i], List.getElem_mem hi, by rw [hp]; simp⟩
end Go.Proofs.YtkkibibecgcbmaaGreatDoor.Lx
