/- MatchDrafts: the walk, of arguments as they are read. -/
import Derived.Test.YthblgkjmjfhkdaaKLDrafts
namespace Go.Proofs.Ythblgkjmjfhkdaa
open Go.RowKit

theorem matchDrafts_walk (x0 : Tm) (act : ByteArray) (d : Dra) (a : Option Addr) (n c : Nat) (W : World) {pl : List De.Atr} {tl : List (List UInt8)} (z : act.size ≤ 1048576) (g : DrIn W d pl tl ∧ pl.length ≤ 2000000000 ∧ tl.length ≤ 2000000000 ∧ ∀ act : ByteArray, act.size ≤ 4611686018427387904 → SmR act d pl tl) (hi : Ints W W.heap.size (.slice a n c)) :
    Calls Try.prog 4 #[.agg (tmC x0), .string act, .agg (draC d), .slice a n c] W fun e w' => e = .returned (.bool true) ∧ Below W.heap.size W w' :=
  (drafts_any x0 act d pl tl a n c hi g.1 (fun _ => g.2.2.2 act (Nat.le_trans z (by decide))) g.2.1 g.2.2.1).mono fun _ _ ⟨h1, h2⟩ => ⟨h1, h2.bel⟩
end Go.Proofs.Ythblgkjmjfhkdaa
