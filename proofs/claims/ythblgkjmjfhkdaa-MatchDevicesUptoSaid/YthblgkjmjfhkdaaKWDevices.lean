/- MatchDevices: the walk, of an argument as it is read. -/
import Derived.Test.YthblgkjmjfhkdaaKLDevices
namespace Go.Proofs.Ythblgkjmjfhkdaa
open Go.RowKit

theorem matchDevices_walk (x0 : Tm) (dv : De.Dev) (a : Option Addr) (n c : Nat) (W : World) {l : List De.Atr} (g : De.Has W dv.av l ∧ l.length ≤ 9223372036854775807 ∧ SmD dv l) (hi : Ints W W.heap.size (.slice a n c)) :
    Calls Try.prog 3 #[.agg (tmC x0), De.devV dv, .slice a n c] W fun e w' => e = .returned (.bool true) ∧ Below W.heap.size W w' := by
  obtain ⟨xi, xp, xn, xo, xs, xd, xa, xk, xm, xv⟩ := dv
  obtain ⟨g1, g2, g3⟩ := g
  obtain ⟨ad, ac, hv, -⟩ := g1.form
  simp only at hv
  subst hv
  exact (devices_any x0 xi xp xn xo xs xd xa xk xm ad ac l a n c hi g1 g3 g2).mono fun _ _ ⟨h1, h2⟩ => ⟨h1, h2.bel⟩
end Go.Proofs.Ythblgkjmjfhkdaa
