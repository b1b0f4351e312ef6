/- attrs: a list of attributes that ascends, drawn from a tape. -/
import Derived.Test.YthblgkjmjfhkdaaKDeB
namespace Go.Proofs.Ythblgkjmjfhkdaa.De
open Go.RowKit

def Good (l : List Atr) : Prop := Srt l ∧ ∀ x ∈ l, x.2 ≠ ⟨#[]⟩
theorem Owns.tape {w w' : World} {B tb : Nat} {v : Value} {l : List Atr} (h : Owns w B v l) (hB : tb < B) (hg : w.grownBy w' (some tb)) : Owns w' B v l := by
  refine h.keep fun k hk hv => hg.block k hk fun e => ?_
  have e' : k = tb := Option.some.inj e
  rcases h.form with ⟨hn, _⟩ | ⟨g, cap, hn, hBg, _⟩
  · rw [hn] at hv
    cases hv
  · rw [hn] at hv
    have e'' : g = k := Option.some.inj hv
    omega
theorem Has.tape {w w' : World} {tb : Nat} {v : Value} {l : List Atr} (h : Has w v l) (hg : w.grownBy w' (some tb)) (hv : v.ownBlock ≠ some tb) : Has w' v l := h.grown hg fun b hb e => hv (by rw [hb, e])
def V4 : List ByteArray := [⟨#[49]⟩, ⟨#[50]⟩, ⟨#[97, 99, 109, 101]⟩, ⟨#[97, 97, 58, 98, 98]⟩]
end Go.Proofs.Ythblgkjmjfhkdaa.De
