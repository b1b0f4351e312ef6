/- Matches. -/
import Derived.Test.YtldcediiobfhiaaGreatDoorKGr
import Derived.Deep.DeepCutAuto
import Derived.Deep.CutBlock
namespace Go.Proofs.YtldcediiobfhiaaGreatDoor
open Go.RowKit
/-- The tape, at a place up to this one. -/
def Tq (w : World) (tb n : Nat) : Prop := ∃ k', k' ≤ n ∧ Tp w tb k'
theorem nextL4 {w : World} {tb k : Nat} (hk : k ≤ 1000000) (h : Tp w tb k) : Calls Tryz.prog 14 #[.pointer (some ⟨tb, 0, none⟩), .int .i64 4] w fun e w' => ∃ r : Nat, r < 4 ∧ e = .returned (.int .i64 r) ∧ Tp w' tb (k + 1) ∧ Kp [tb] w w' := next_kp 4 (by decide) (by decide) hk h
theorem nextL8 {w : World} {tb k : Nat} (hk : k ≤ 1000000) (h : Tp w tb k) : Calls Tryz.prog 14 #[.pointer (some ⟨tb, 0, none⟩), .int .i64 8] w fun e w' => ∃ r : Nat, r < 8 ∧ e = .returned (.int .i64 r) ∧ Tp w' tb (k + 1) ∧ Kp [tb] w w' := next_kp 8 (by decide) (by decide) hk h
theorem nextL9 {w : World} {tb k : Nat} (hk : k ≤ 1000000) (h : Tp w tb k) : Calls Tryz.prog 14 #[.pointer (some ⟨tb, 0, none⟩), .int .i64 9] w fun e w' => ∃ r : Nat, r < 9 ∧ e = .returned (.int .i64 r) ∧ Tp w' tb (k + 1) ∧ Kp [tb] w w' := next_kp 9 (by decide) (by decide) hk h
end Go.Proofs.YtldcediiobfhiaaGreatDoor
