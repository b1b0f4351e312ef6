/- How matches goes: what stands while it reads. -/
import Derived.Test.YtdlchlbngojljaaDoorPGlP3
namespace Go.Proofs.YtdlchlbngojljaaDoor.Gl
/-- Behind the star st: the text may go on from the byte kept, taken by the star. -/
def back (l : List El) (s : List UInt8) (st : Option Nat) (kept : Nat) : Bool := match st with
 | none => false
 | some k => ((l[k]?.bind fun e => s[kept]?.map e.set).getD false) && mB (l.drop k) (s.drop (kept + 1))
structure MInv (l : List El) (s : List UInt8) (pos : Nat) (st : Option Nat) (read kept : Nat) : Prop where
 pos_le : pos ≤ l.length
 read_le : read ≤ s.length
 kept_le : kept ≤ read
 star : ∀ k, st = some k → k < pos ∧ (∃ e, l[k]? = some e ∧ e.star = true) ∧ (∀ j f, k < j → j < pos → l[j]? = some f → f.star = false) ∧ read = kept + (pos - (k + 1))
 eq : mB l s = (mB (l.drop pos) (s.drop read) || back l s st kept)
theorem MInv.start (l : List El) (s : List UInt8) : MInv l s 0 none 0 0 := ⟨Nat.zero_le _, Nat.zero_le _, Nat.le_refl _, fun _ h => by simp at h, by simp [back]⟩
theorem drop_at8 {s : List UInt8} {i : Nat} {c : UInt8} (h : s[i]? = some c) : s.drop i = c :: s.drop (i + 1) := by
 obtain ⟨hi, he⟩ := List.getElem?_eq_some_iff.1 h
 rw [List.drop_eq_getElem_cons hi, he]
/-- The elements between the star k and pos. -/
theorem drop_split (l : List El) (k pos : Nat) (h : k < pos) : l.drop (k + 1) = (l.drop (k + 1)).take (pos - (k + 1)) ++ l.drop pos := by
 have := (List.take_append_drop (pos - (k + 1)) (l.drop (k + 1))).symm
 rwa [List.drop_drop, show k + 1 + (pos - (k + 1)) = pos from by omega] at this
theorem mid_plain {l : List El} {k pos : Nat} (hs : ∀ j f, k < j → j < pos → l[j]? = some f → f.star = false) : ∀ f ∈ (l.drop (k + 1)).take (pos - (k + 1)), f.star = false := by
 intro f hf
 obtain ⟨i, hi⟩ := List.mem_iff_getElem?.1 hf
 rw [List.getElem?_take] at hi
 split at hi
 ·rw [List.getElem?_drop] at hi
  exact hs (k + 1 + i) f (by omega) (by omega) hi
 ·simp at hi
theorem mid_length {l : List El} {k pos : Nat} (hp : pos ≤ l.length) : ((l.drop (k + 1)).take (pos - (k + 1))).length = pos - (k + 1) := by
 rw [List.length_take, List.length_drop]
 omega
theorem star_take {l : List El} {s : List UInt8} {pos read : Nat} {e : El} (he : l[pos]? = some e) (hs : e.star = true) :
  mB (l.drop pos) (s.drop read) = (mB (l.drop (pos + 1)) (s.drop read) || back l s (some pos) read) := by
 rw [Bool.eq_iff_iff, Bool.or_eq_true, drop_at he, mB_star_cases hs]
 simp only [back]
 rw [he, drop_at he]
 cases hc : s[read]? with
 | none =>
  have : s.drop read = [] := List.drop_eq_nil_of_le (List.getElem?_eq_none_iff.1 hc)
  simp [this]
 | some c =>
  rw [drop_at8 hc]
  simp only [Option.bind_some, Option.map_some, Option.getD_some, Bool.and_eq_true]
  constructor
  ·rintro (h | ⟨c', t, h1, h2, h3⟩)
   ·exact Or.inl h
   ·cases h1; exact Or.inr ⟨h2, h3⟩
  ·rintro (h | ⟨h2, h3⟩)
   ·exact Or.inl h
   ·exact Or.inr ⟨c, _, rfl, h2, h3⟩
theorem MInv.onStar {l : List El} {s : List UInt8} {pos read kept : Nat} {st : Option Nat} (hok : ∀ e ∈ l, e.ok) (h : MInv l s pos st read kept) {e : El} (he : l[pos]? = some e) (hs : e.star = true) : MInv l s (pos + 1) (some pos) read read := by
 have hlt := (List.getElem?_eq_some_iff.1 he).1
 refine ⟨hlt, h.read_le, Nat.le_refl _, fun k hk => ?_, ?_⟩
 ·cases hk
  exact ⟨Nat.lt_succ_self _, ⟨e, he, hs⟩, fun j f h1 h2 _ => by omega, by omega⟩
 ·rw [← star_take he hs, h.eq]
  cases hb : back l s st kept with
  | false => rw [Bool.or_false]
  | true =>
   rw [Bool.or_true]
   symm
   cases st with
   | none => simp [back] at hb
   | some k =>
    obtain ⟨hk, ⟨f, hf, hfs⟩, hmid, hread⟩ := h.star k rfl
    simp only [back] at hb
    rw [hf] at hb
    cases hc : s[kept]? with
    | none => rw [hc] at hb; simp at hb
    | some c =>
     rw [hc] at hb
     simp only [Option.bind_some, Option.map_some, Option.getD_some, Bool.and_eq_true] at hb
     obtain ⟨h1, h2⟩ := hb
     have hsplit := drop_split l k pos hk
     rw [drop_at hf, hsplit, drop_at he] at h2
     have hlater := mB_later hfs (mid_plain hmid) hs (fun g hg => hok g ?_) _ c h1 h2
     ·rw [mid_length h.pos_le, ← drop_at8 hc, List.drop_drop, ← hread, ← drop_at he] at hlater
      exact hlater
     ·rcases List.mem_cons.1 hg with rfl | hg
      ·exact List.mem_of_getElem? hf
      ·rw [← drop_at he, ← hsplit] at hg
       exact List.mem_of_mem_drop hg
theorem MInv.onByte {l : List El} {s : List UInt8} {pos read kept : Nat} {st : Option Nat} (h : MInv l s pos st read kept) {e : El} (he : l[pos]? = some e) (hs : e.star = false) {c : UInt8} (hc : s[read]? = some c) (hset : e.set c = true) : MInv l s (pos + 1) st (read + 1) kept := by
 have hlt := (List.getElem?_eq_some_iff.1 he).1
 have hrl := (List.getElem?_eq_some_iff.1 hc).1
 refine ⟨hlt, hrl, Nat.le_succ_of_le h.kept_le, fun k hk => ?_, ?_⟩
 ·obtain ⟨h1, h2, h3, h4⟩ := h.star k hk
  refine ⟨by omega, h2, fun j f hj1 hj2 hj => ?_, by omega⟩
  rcases Nat.lt_or_ge j pos with hlt' | hge
  ·exact h3 j f hj1 hlt' hj
  ·obtain rfl : j = pos := by omega
   rw [he] at hj
   cases hj
   exact hs
 ·rw [h.eq, drop_at he, drop_at8 hc, mB, if_neg (by simp [hs]), oneB, hset, Bool.true_and]
/-- The text can't go on here. -/
def stuckAt (l : List El) (s : List UInt8) (pos read : Nat) : Prop := l[pos]? = none ∨ ∃ e c, l[pos]? = some e ∧ e.star = false ∧ s[read]? = some c ∧ e.set c = false
theorem stuck_false {l : List El} {s : List UInt8} {pos read : Nat} {c : UInt8} (hc : s[read]? = some c) (h : stuckAt l s pos read) : mB (l.drop pos) (s.drop read) = false := by
 rw [drop_at8 hc]
 rcases h with h | ⟨e, d, he, hs, hd, hset⟩
 ·rw [List.drop_eq_nil_of_le (List.getElem?_eq_none_iff.1 h)]
  rfl
 ·rw [hc] at hd
  cases hd
  rw [drop_at he, mB, if_neg (by simp [hs]), oneB, hset, Bool.false_and]
theorem MInv.onBack {l : List El} {s : List UInt8} {pos read kept k : Nat} (h : MInv l s pos (some k) read kept) {c : UInt8} (hc : s[read]? = some c) (hst : stuckAt l s pos read) {e : El} (he : l[k]? = some e) {d : UInt8} (hd : s[kept]? = some d) (hset : e.set d = true) : MInv l s (k + 1) (some k) (kept + 1) (kept + 1) := by
 have hrl := (List.getElem?_eq_some_iff.1 hd).1
 obtain ⟨h1, ⟨f, hf, hfs⟩, h3, h4⟩ := h.star k rfl
 rw [he] at hf
 cases hf
 have hp := h.pos_le
 refine ⟨by omega, hrl, Nat.le_refl _, fun j hj => ?_, ?_⟩
 ·cases hj
  exact ⟨Nat.lt_succ_self _, ⟨e, he, hfs⟩, fun j f hj1 hj2 _ => by omega, by omega⟩
 ·rw [← star_take he hfs, h.eq, stuck_false hc hst, Bool.false_or, back, he, hd]
  simp [hset]
theorem MInv.onFail {l : List El} {s : List UInt8} {pos read kept : Nat} {st : Option Nat} (h : MInv l s pos st read kept) {c : UInt8} (hc : s[read]? = some c) (hst : stuckAt l s pos read)
  (hb : st = none ∨ ∃ k e d, st = some k ∧ l[k]? = some e ∧ s[kept]? = some d ∧ e.set d = false) : mB l s = false := by
 rw [h.eq, stuck_false hc hst, Bool.false_or]
 rcases hb with rfl | ⟨k, e, d, rfl, he, hd, hset⟩
 ·rfl
 ·rw [back, he, hd]
  simp [hset]
theorem MInv.onEnd {l : List El} {s : List UInt8} {pos kept : Nat} {st : Option Nat} (h : MInv l s pos st s.length kept) : mB l s = mB (l.drop pos) [] := by
 rw [h.eq, List.drop_length]
 cases st with
 | none => simp [back]
 | some k =>
  obtain ⟨h1, ⟨f, hf, hfs⟩, h3, h4⟩ := h.star k rfl
  have hp := h.pos_le
  rw [back, drop_at hf, drop_split l k pos h1]
  by_cases hlt : kept < s.length
  ·rw [mB_none_left hfs (mid_plain h3) _ (by rw [mid_length hp, List.length_drop]; omega), Bool.and_false, Bool.or_false]
  ·rw [hf, List.getElem?_eq_none (by omega)]
   simp
theorem mB_end_star {l : List El} {pos : Nat} {e : El} (he : l[pos]? = some e) (hs : e.star = true) : mB (l.drop pos) [] = mB (l.drop (pos + 1)) [] := by
 rw [drop_at he, mB, if_pos hs, starB]
theorem mB_end_one {l : List El} {pos : Nat} {e : El} (he : l[pos]? = some e) (hs : e.star = false) : mB (l.drop pos) [] = false := by
 rw [drop_at he, mB, if_neg (by simp [hs]), oneB]
theorem mB_end {l : List El} : mB (l.drop l.length) [] = true := by rw [List.drop_length]; rfl
end Go.Proofs.YtdlchlbngojljaaDoor.Gl
