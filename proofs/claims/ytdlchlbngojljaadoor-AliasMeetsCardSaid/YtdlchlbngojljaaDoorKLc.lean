/- GlobChoices: the law's walk. Literal, GlobBegins: the law's walk. -/
import Derived.Test.YtdlchlbngojljaaDoorKGlAL
namespace Go.Proofs.YtdlchlbngojljaaDoor.Gl
open Go.RowKit

theorem bar_bytes (p q : ByteArray) : (p ++ ⟨#[124]⟩ ++ q).data.toList = p.data.toList ++ 124 :: q.data.toList := by simp
theorem bytes_append (p q : ByteArray) : (p ++ q).data.toList = p.data.toList ++ q.data.toList := by simp

end Go.Proofs.YtdlchlbngojljaaDoor.Gl

namespace Go.Proofs.YtdlchlbngojljaaDoor.Gl
open Go.RowKit

/-- The only text of a pattern without wildcards. -/
def litL (L : List (List El)) : Option (List UInt8) := match L with
  | [a] => if (begB a).length < a.length then none else some (begB a)
  | _ => none
def litB (p : List UInt8) : Option (List UInt8) := (altsP p).bind litL
def litRes (p : List UInt8) : Value := .tuple #[strOf (litB p), .bool (litB p).isSome]

theorem take_same : ∀ s t : List UInt8, s.take (sameB s t) <+: t
  | [], t => by simp [sameB]
  | _ :: _, [] => by simp [sameB]
  | a :: s, b :: t => by
    unfold sameB
    split
    · rename_i h
      subst h
      rw [List.take_succ_cons]
      exact List.cons_prefix_cons.2 ⟨rfl, take_same s t⟩
    · simp
theorem fold_prefix : ∀ (r : List (List El)) (m : List UInt8), (r.foldl (fun s x => s.take (sameB s (begB x))) m) <+: m ∧ ∀ x ∈ r, (r.foldl (fun s x => s.take (sameB s (begB x))) m) <+: begB x
  | [], m => ⟨List.prefix_refl m, fun x hx => by simp at hx⟩
  | y :: r, m => by
    obtain ⟨h1, h2⟩ := fold_prefix r (m.take (sameB m (begB y)))
    rw [List.foldl_cons]
    refine ⟨h1.trans (List.take_prefix _ _), fun x hx => ?_⟩
    rcases List.mem_cons.1 hx with rfl | hx
    · exact h1.trans (take_same _ _)
    · exact h2 x hx
theorem pref_prefix {L : List (List El)} {a : List El} (ha : a ∈ L) : prefB L <+: begB a := by
  cases L with
  | nil => simp at ha
  | cons y r =>
    obtain ⟨h1, h2⟩ := fold_prefix r (begB y)
    rcases List.mem_cons.1 ha with rfl | ha
    · exact h1
    · exact h2 a ha
theorem self_byte {e : El} (h : ElGood e) (hs : e.self = true) : ∃ b, e.star = false ∧ (∀ c, e.set c = true ↔ c = b) ∧ (leastS e.set).getD 0 = b := by
  obtain ⟨b, _, h1, h2⟩ := h.2 hs
  have hb : ∀ c, e.set c = true ↔ c = b := fun c => by rw [h2]; simp
  obtain ⟨c, hc, hc2, _⟩ := leastS_of ((hb b).2 rfl)
  exact ⟨b, h1, hb, by rw [hc]; exact (hb c).1 hc2⟩
theorem beg_prefix : ∀ (a : List El), (∀ e ∈ a, ElGood e) → ∀ s, mB a s = true → begB a <+: s
  | [], _, s, _ => by simp [begB]
  | e :: r, h, s, hm => by
    unfold begB
    cases hs : e.self with
    | false => simp
    | true =>
      obtain ⟨b, h1, h2, h3⟩ := self_byte (h e List.mem_cons_self) hs
      obtain ⟨c, t, rfl, hc, ht⟩ := (mB_one e r s h1).1 hm
      rw [h3, (h2 c).1 hc]
      simp only [if_true]
      exact List.cons_prefix_cons.2 ⟨rfl, beg_prefix r (fun f hf => h f (List.mem_cons_of_mem _ hf)) t ht⟩
theorem lit_match : ∀ (a : List El), (∀ e ∈ a, ElGood e) → a.length ≤ (begB a).length → ∀ s, mB a s = true ↔ s = begB a
  | [], _, _, s => by simp [mB, begB]
  | e :: r, h, hl, s => by
    cases hs : e.self with
    | false => simp [begB, hs] at hl
    | true =>
      obtain ⟨b, h1, h2, h3⟩ := self_byte (h e List.mem_cons_self) hs
      have hbe : begB (e :: r) = b :: begB r := by rw [begB, hs, h3]; rfl
      rw [hbe] at hl ⊢
      have ih := lit_match r (fun f hf => h f (List.mem_cons_of_mem _ hf)) (by simpa using hl)
      rw [mB_one e r s h1]
      constructor
      · rintro ⟨c, t, rfl, hc, ht⟩
        rw [(h2 c).1 hc, (ih t).1 ht]
      · rintro rfl
        exact ⟨b, begB r, rfl, (h2 b).2 rfl, (ih _).2 rfl⟩

theorem begins_prefix {p s : List UInt8} {L : List (List El)} (hx : altsP p = some L) (h : patB p s = true) : Lib.hasPrefix s (prefB L) = true := by
  unfold patB at h
  rw [hx] at h
  obtain ⟨a, ha, hm⟩ := List.any_eq_true.1 h
  unfold Lib.hasPrefix
  exact List.isPrefixOf_iff_prefix.2 ((pref_prefix ha).trans (beg_prefix a (altsP_Good hx a ha).2 s hm))
theorem lit_parts {p l : List UInt8} (h : litB p = some l) : ∃ a, altsP p = some [a] ∧ l = begB a ∧ a.length ≤ (begB a).length := by
  unfold litB at h
  obtain ⟨L, hL, h⟩ := Option.bind_eq_some_iff.1 h
  unfold litL at h
  split at h
  · rename_i a
    split at h
    · simp at h
    · cases h
      exact ⟨a, hL, rfl, by omega⟩
  · simp at h
theorem begins_lit {p l : List UInt8} {L : List (List El)} (hx : altsP p = some L) (h : litB p = some l) (s : List UInt8) : prefB L = l ∧ patB p s = (s == l) := by
  obtain ⟨a, ha, rfl, hl⟩ := lit_parts h
  rw [hx] at ha
  cases ha
  refine ⟨rfl, ?_⟩
  unfold patB
  rw [hx]
  simp only [List.any_cons, List.any_nil, Bool.or_false]
  rw [Bool.eq_iff_iff, lit_match a (altsP_Good hx a List.mem_cons_self).2 hl s]
  simp

end Go.Proofs.YtdlchlbngojljaaDoor.Gl
