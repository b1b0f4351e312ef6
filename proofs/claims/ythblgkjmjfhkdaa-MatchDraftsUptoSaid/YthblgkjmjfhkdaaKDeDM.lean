/- Maps from numbers to places. -/
import Derived.Test.YthblgkjmjfhkdaaKDeDF
import Derived.Maps.OwnSet
namespace Go.Proofs.Ythblgkjmjfhkdaa.De
open Go.RowKit Go.Maps

theorem wfI {x : Int} (h : -9223372036854775808 ≤ x ∧ x ≤ 9223372036854775807) : (Lit.int .i64 x).wf = true := WalkArith.wf_i64 h
theorem keyI {x : Int} (h : (Lit.int .i64 x).wf = true) : keyOf Try.prog 3 (.int .i64 x) = some (.int .i64 x) := Maps.keyOf_int_mk Try.underlying3 h
theorem lawI : Keyed Try.prog 3 := Maps.int_keyed Try.underlying3

/-- Block M is a map from numbers to places: those that f gives. -/
structure IMap (w : World) (M N : Nat) (f : Int → Option Nat) (D : DataW Unit) : Prop where
  own : w.ownsMap Try.prog 3 (plainElem Try.prog 3) M N D
  has : ∀ x, (Lit.int .i64 x).wf = true → Maps.has D (.int .i64 x) = (f x).isSome
  val : ∀ x p, (Lit.int .i64 x).wf = true → f x = some p → ∀ zd, D.atKey (.int .i64 x) zd = .lit (.int .i64 (p : Int))
theorem IMap.made (w : World) : IMap (w.alloc (.map #[] 0)) w.heap.size 0 (fun _ => none) (.map []) :=
  ⟨World.ownsMap_made _ _ _ _, fun x _ => by simp [Maps.has_eq], fun x p _ h => by cases h⟩
theorem IMap.kept {w w' : World} {M N : Nat} {f : Int → Option Nat} {D : DataW Unit} (h : IMap w M N f D) (hb : w'.heap[M]? = w.heap[M]?) : IMap w' M N f D := by
  obtain ⟨⟨es, clock, h1, h2⟩, h3, h4⟩ := h
  exact ⟨⟨es, clock, hb.trans h1, h2⟩, h3, h4⟩
theorem IMap.lt {w : World} {M N : Nat} {f : Int → Option Nat} {D : DataW Unit} (h : IMap w M N f D) : M < w.heap.size := h.own.lt
theorem IMap.below {w w' : World} {M N : Nat} {f : Int → Option Nat} {D : DataW Unit} (h : IMap w M N f D) (hb : Below w.heap.size w w') : IMap w' M N f D := h.kept (hb.block M h.lt)
def putI (f : Int → Option Nat) (x : Int) (p : Nat) : Int → Option Nat := fun y => if y = x then some p else f y
theorem IMap.put {w w' : World} {M N p : Nat} {x : Int} {f : Int → Option Nat} {D : DataW Unit} (h : IMap w M N f D) (hx : (Lit.int .i64 x).wf = true) (hown : w'.ownsMap Try.prog 3 (plainElem Try.prog 3) M (N + 1) (D.put (.int .i64 x) (.lit (.int .i64 (p : Int))))) : IMap w' M (N + 1) (putI f x p) (D.put (.int .i64 x) (.lit (.int .i64 (p : Int)))) := by
  have hkey := lawI.key (keyI hx)
  refine ⟨hown, fun y hy => ?_, fun y q hy hq zd => ?_⟩
  · unfold putI
    by_cases e : y = x
    · subst e
      rw [Maps.has_put_same h.own.isMap hkey, if_pos rfl]
      rfl
    · rw [Maps.has_put_other (fun e' => e (by cases e'; rfl)), h.has y hy, if_neg e]
  · unfold putI at hq
    by_cases e : y = x
    · subst e
      rw [if_pos rfl] at hq
      obtain rfl := Option.some.inj hq
      exact Maps.atKey_put_same h.own.isMap hkey _ _
    · rw [if_neg e] at hq
      rw [Maps.atKey_put_other (fun e' => e (by cases e'; rfl))]
      exact h.val y q hy hq zd

/-- The last place of an Index. -/
def lastI : List ADev → Int → Option Nat
  | [], _ => none
  | a :: l, n => match lastI l n with
    | some p => some (p + 1)
    | none => if a.idx = n then some 0 else none
theorem lastI_snoc : ∀ (l : List ADev) (a : ADev), lastI (l ++ [a]) = putI (lastI l) a.idx l.length
  | [], a => by
    funext n
    unfold putI lastI
    simp only [lastI, List.nil_append, List.length_nil]
    by_cases h : n = a.idx
    · rw [if_pos h, if_pos h.symm]
    · rw [if_neg h, if_neg (fun e => h e.symm)]
  | b :: l, a => by
    funext n
    have ih := congrFun (lastI_snoc l a) n
    rw [List.cons_append, lastI, ih]
    unfold putI
    by_cases h : n = a.idx
    · rw [if_pos h, if_pos h]
      rfl
    · rw [if_neg h, if_neg h, lastI]
theorem lastI_some : ∀ {l : List ADev} {n : Int} {p : Nat}, lastI l n = some p → ∃ a, l[p]? = some a ∧ a.idx = n
  | [], _, _, h => by cases h
  | a :: l, n, p, h => by
    unfold lastI at h
    cases hl : lastI l n with
    | some q =>
      rw [hl] at h
      obtain rfl := Option.some.inj h
      obtain ⟨b, hb, he⟩ := lastI_some hl
      exact ⟨b, by simpa using hb, he⟩
    | none =>
      rw [hl] at h
      simp only at h
      split at h
      · rename_i he
        obtain rfl := Option.some.inj h
        exact ⟨a, rfl, he⟩
      · cases h
end Go.Proofs.Ythblgkjmjfhkdaa.De
