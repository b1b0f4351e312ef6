/- Join, Place and Path of the reference. Path of the reference. Origins and paths of drawn trees. -/
import Derived.Test.YtldcediiobfhiaaGreatDoorQU2
import Derived.Test.YtldcediiobfhiaaGreatDoorQV1
import Derived.Test.YtldcediiobfhiaaGreatDoorQV7
import Derived.Test.YtldcediiobfhiaaGreatDoorQU4
namespace Go.Proofs.YtldcediiobfhiaaGreatDoor
open Go.RowKit
end Go.Proofs.YtldcediiobfhiaaGreatDoor
namespace Go.Proofs.YtldcediiobfhiaaGreatDoor
open Go.RowKit
end Go.Proofs.YtldcediiobfhiaaGreatDoor
namespace Go.Proofs.YtldcediiobfhiaaGreatDoor
open Go.RowKit
theorem tape_new {w : World} {lv : Value} (hi : Ints w w.heap.size lv) : Tp (w.alloc (.cells #[lv, .int .i64 0] 27)) w.heap.size 0 :=
 ⟨lv, heap_alloc_last _ _, hi.keep fun b hb => by have := ((Kp.refl [] w).alloc (.cells #[lv, .int .i64 0] 27)).block b hb (by simp); exact this⟩
theorem tree9 {w : World} {tb k : Nat} (hk : k ≤ 400) (h : Tp w tb k) (hm : De.Max w) : Calls Tryz.prog 13 #[.pointer (some ⟨tb, 0, none⟩), .int .i64 9] w fun e w' => ∃ va N vc L, e = .returned (.agg #[.slice va N vc]) ∧ Hid (L.length = N) ∧ N ≤ vc ∧ N ≤ 9 ∧ Hid (TreeAt w' (tb + 1) 9 (.slice va N vc) L) ∧ ∃ k', k' ≤ k + 361 ∧ Hid (Tp w' tb k') ∧ Hid (Kp [tb] w w') := by
 refine (show Calls Tryz.prog 13 #[.pointer (some ⟨tb, 0, none⟩), .int .i64 ((9 : Nat) : Int)] w (TreePost tb k 9 w) from tree_any 9 (by omega) (by omega) h hm).mono ?_
 rintro e w' ⟨v, L, rfl, ht, ⟨k', hk', hT⟩, hkp⟩
 obtain ⟨va, vc, rfl, hvc, -⟩ := ht.any.wform
 exact ⟨va, L.length, vc, L, rfl, Lib.hid rfl, hvc, ht.len, Lib.hid (ht.up (Nat.le_refl _) h.lt), k', by omega, Lib.hid hT, Lib.hid hkp⟩
theorem ancL_fst {L : List De.DV} (ht : De.Tidy (L.map (·.1))) : ∀ (k : Nat) (n : Int), (De.ancL L k n).map (·.1) = De.up (L.map (·.1)) k n
 | 0, _ => rfl
 | k + 1, n => by
  unfold De.up
  rw [De.lastI_fnd ht n]
  cases hp : De.lastI (L.map (·.1)) n with
  | none => rw [De.ancL_none hp]; rfl
  | some p =>
   obtain ⟨a, ha, -⟩ := De.lastI_some hp
   have ha' := ha
   rw [List.getElem?_map, Option.map_eq_some_iff] at ha
   obtain ⟨x, hx, rfl⟩ := ha
   rw [De.ancL_some hp hx, List.map_cons, ancL_fst ht k x.1.par]
   simp only [Option.bind_some, ha']
theorem tree_tok {W : World} {B n : Nat} {v : Value} {L : List De.DV} (h : TreeAt W B n v L) (hn : n ≤ 100000) : De.TOk L :=
 have ho := tree_ok h (by omega)
 ⟨Nat.le_trans h.len hn, ho.wi, ho.wp, fun x hx => (h.sml x hx).1.o, fun x hx => (h.sml x hx).1.n⟩
theorem got_fnd {L : List De.DV} (ht : De.Tidy (L.map (·.1))) (q : Int) : (De.gotL L q).map (·.1) = De.fnd (L.map (·.1)) q := by
 rw [De.lastI_fnd ht q]
 unfold De.gotL
 cases De.lastI (L.map (·.1)) q with
 | none => rfl
 | some p => simp
theorem idx_fnd {L : List De.DV} (q : Int) : ((De.idxP (L.map (·.1)) q).bind fun p => L[p]?).map (·.1) = De.fnd (L.map (·.1)) q := De.fndD_fst L q
theorem has_eq {L : List De.DV} (ht : De.Tidy (L.map (·.1))) (q : Int) : ((De.idxP (L.map (·.1)) q).bind fun p => L[p]?).isSome = (De.gotL L q).isSome := by
 have h1 := congrArg Option.isSome (got_fnd ht q)
 have h2 := congrArg Option.isSome (idx_fnd (L := L) q)
 rw [Option.isSome_map] at h1 h2
 rw [h1, h2]
theorem ups_none {l : List De.ADev} {q : Int} (h : De.fnd l q = none) : De.ups l q = [] := by
 unfold De.ups
 cases l.length with
 | zero => rfl
 | succ k => rw [De.up, h]
end Go.Proofs.YtldcediiobfhiaaGreatDoor
