/- gather, whatever the pair. -/
import Derived.Test.YtdlchlbngojljaaDoorKGh
import Derived.Test.YtdlchlbngojljaaDoorKGa
import Derived.Test.YtdlchlbngojljaaDoorKGc
namespace Go.Proofs.YtdlchlbngojljaaDoor.Gl
open Go.RowKit Go.Maps

theorem gather_ind (K : SK) (a b : List El) (B left : Nat) (hA : Apart K a b) (hL : Low K a b B) (hal : a.length ≤ 4096) (hbl : b.length ≤ 4096) (hleft : left ≤ 1073741824) : ∀ (n i k : Nat) (x y : Int) (w : World) (S F : List (Nat × Nat)) (v : Value), x = i → y = k → i ≤ a.length → k ≤ b.length → a.length - i + (b.length - k) ≤ n →
    SAt K a b w → LenMap K a b w → SeenMap K a b S w → w.ownsRow B 132 2 v F.length (pairsV F) → B ≤ w.heap.size → F.length ≤ S.length →
    Calls Tryd.prog 74 #[.pointer (some ⟨K.Sb, 0, none⟩), v, .agg #[.int .i64 x, .int .i64 y], .int .i64 left] w (GPost K a b B left i k w S F v)
  | n, i, k, x, y, w, S, F, v, hx, hy, hi, hk, hn, hs, hm, hS, hr, hB, hFS => by
    subst hx
    subst hy
    have hrec : GRec K a b B left i k := fun i' k' x' y' w' S' F' v' hx' hy' hi' hk' hlt hs' hm' hS' hr' hB' hF' => by
      cases n with
      | zero => omega
      | succ n => exact gather_ind K a b B left hA hL hal hbl hleft n i' k' x' y' w' S' F' v' hx' hy' hi' hk' (by omega) hs' hm' hS' hr' hB' hF'
    by_cases hin : (i, k) ∈ S
    · exact gather_seen K a b B left i k w S F v hA hL hs hm hS hr hB hFS hi hk hal hbl hleft hin
    by_cases heq : lenP a b i k = left
    · cases hsa : starAt a i <;> cases hsb : starAt b k
      · exact gather_nn K a b B left i k w S F v hA hL hs hm hS hr hB hFS hi hk hal hbl hleft hin heq hrec hsa hsb
      · exact gather_nt K a b B left i k w S F v hA hL hs hm hS hr hB hFS hi hk hal hbl hleft hin heq hrec hsa hsb
      · exact gather_tn K a b B left i k w S F v hA hL hs hm hS hr hB hFS hi hk hal hbl hleft hin heq hrec hsa hsb
      · exact gather_tt K a b B left i k w S F v hA hL hs hm hS hr hB hFS hi hk hal hbl hleft hin heq hrec hsa hsb
    · exact gather_len K a b B left i k w S F v hA hL hs hm hS hr hB hFS hi hk hal hbl hleft hin heq

theorem gather_any (K : SK) (a b : List El) (B left i k : Nat) (w : World) (S F : List (Nat × Nat)) (v : Value) (hA : Apart K a b) (hL : Low K a b B) (hs : SAt K a b w) (hm : LenMap K a b w) (hS : SeenMap K a b S w) (hr : w.ownsRow B 132 2 v F.length (pairsV F)) (hB : B ≤ w.heap.size) (hFS : F.length ≤ S.length) (hi : i ≤ a.length) (hk : k ≤ b.length) (hal : a.length ≤ 4096) (hbl : b.length ≤ 4096) (hleft : left ≤ 1073741824) :
    Calls Tryd.prog 74 #[.pointer (some ⟨K.Sb, 0, none⟩), v, .agg #[.int .i64 i, .int .i64 k], .int .i64 left] w (GPost K a b B left i k w S F v) :=
  gather_ind K a b B left hA hL hal hbl hleft _ i k i k w S F v rfl rfl hi hk (Nat.le_refl _) hs hm hS hr hB hFS
end Go.Proofs.YtdlchlbngojljaaDoor.Gl
