/- Lines of tokens with separators, on lists; what the laws need of tokens that are read. -/
import Derived.Test.YtccmlodocfpbhaaDoorG
import Derived.Test.YtccmlodocfpbhaaDoorQ
import Derived.Test.YtccmlodocfpbhaaDoorS
namespace Go.Proofs.YtccmlodocfpbhaaDoor
open Go.RowKit

theorem all_mono {p q : UInt8 → Bool} (h : ∀ b, p b = true → q b = true) {l : List UInt8} (hl : l.all p = true) : l.all q = true := List.all_eq_true.2 fun b hb => h b (List.all_eq_true.1 hl b hb)
theorem up_ln (b : UInt8) (h : upCh b = true) : lnCh b = true := by
  have := forall_u8 (p := fun b => !upCh b || lnCh b) (by decide +kernel) b
  simpa [h] using this
theorem nm_ln (b : UInt8) (h : nmCh b = true) : lnCh b = true := by
  have := forall_u8 (p := fun b => !nmCh b || lnCh b) (by decide +kernel) b
  simpa [h] using this
theorem pr_ln (b : UInt8) (h : prCh b = true) : lnCh b = true := by unfold lnCh; rw [h]; rfl
theorem sep_ln (b : UInt8) (h : sepCh b = true) : lnCh b = true := by
  have := forall_u8 (p := fun b => !sepCh b || lnCh b) (by decide +kernel) b
  simpa [h] using this
theorem fmtV_ln : ∀ v : List UInt8, v.all prCh = true → (fmtV v).all lnCh = true
  | [], _ => rfl
  | b :: v, h => by
    rw [List.all_cons, Bool.and_eq_true] at h
    rw [fmtV_cons, List.all_append, fmtV_ln v h.2, Bool.and_true]
    split
    · rfl
    · rw [List.all_cons, pr_ln b h.1]; rfl
theorem fmtT_ln {x : Tok} (h : Good x) : (fmtT x).all lnCh = true := by
  have ho : x.op.all lnCh = true := by
    have := h.o1
    simp only [opsL, List.mem_cons, List.not_mem_nil, or_false] at this
    rcases this with e | e | e | e | e | e <;> rw [e] <;> rfl
  unfold fmtT
  rw [List.all_append, all_mono up_ln h.k1, List.all_append, List.all_append, ho, List.all_cons, List.all_append, fmtV_ln _ h.v1.1]
  split
  · rfl
  · rw [List.all_cons, List.all_append, all_mono nm_ln h.n1]; rfl
theorem fmtT_lo {x : Tok} (h : Lo x) : (fmtT x).length ≤ 44 := by
  obtain ⟨h1, h2, h3, h4⟩ := h
  have := fmtV_len x.val
  unfold fmtT
  simp only [List.length_append, List.length_cons, List.length_nil]
  split
  · simp only [List.length_nil]; omega
  · simp only [List.length_cons, List.length_append, List.length_nil]; omega
theorem lo_sm {x : Tok} (h : Lo x) : Sm x := ⟨by have := h.1; omega, by have := h.2.1; omega, by have := h.2.2.1; omega, by have := h.2.2.2; omega⟩
/-- A separator of at least one byte. -/
def SepOK (s : List UInt8) : Prop := s ≠ [] ∧ s.all sepCh = true ∧ s.length ≤ 3
theorem seps_of : ∀ m : List (Tok × List UInt8), (∀ p ∈ m, Good p.1 ∧ SepOK p.2) → Seps m
  | [], _ => trivial
  | [(x, sp)], h => ⟨(h (x, sp) (by simp)).1, (h (x, sp) (by simp)).2.2.1⟩
  | (x, sp) :: y :: m, h => ⟨(h (x, sp) (by simp)).1, (h (x, sp) (by simp)).2.2.1, (h (x, sp) (by simp)).2.1, seps_of (y :: m) fun p hp => h p (by simp at hp ⊢; exact .inr hp)⟩
theorem lineL_snoc : ∀ (m : List (Tok × List UInt8)) (x : Tok) (sp : List UInt8), lineL (m ++ [(x, sp)]) = lineL m ++ (fmtT x ++ sp)
  | [], x, sp => by simp [lineL]
  | (y, sq) :: m, x, sp => by
    rw [List.cons_append]
    show fmtT y ++ (sq ++ lineL (m ++ [(x, sp)])) = (fmtT y ++ (sq ++ lineL m)) ++ _
    rw [lineL_snoc m x sp]
    simp
theorem lineL_ln : ∀ m : List (Tok × List UInt8), (∀ p ∈ m, Good p.1 ∧ SepOK p.2) → (lineL m).all lnCh = true
  | [], _ => rfl
  | (x, sp) :: m, h => by
    have h1 := h (x, sp) (by simp)
    show (fmtT x ++ (sp ++ lineL m)).all lnCh = true
    rw [List.all_append, List.all_append, fmtT_ln h1.1, all_mono sep_ln h1.2.2.1, lineL_ln m fun p hp => h p (by simp [hp])]
    rfl
theorem lineL_num : ∀ m : List (Tok × List UInt8), m.length ≤ (lineL m).length ∨ ∃ p ∈ m, ¬ SepOK p.2
  | [] => .inl (Nat.zero_le _)
  | (x, sp) :: m => by
    rcases lineL_num m with h | ⟨p, hp, h⟩
    · by_cases hs : SepOK sp
      · left
        have : 0 < sp.length := List.length_pos_iff.2 hs.1
        show (m.length + 1) ≤ (fmtT x ++ (sp ++ lineL m)).length
        simp only [List.length_append]
        omega
      · exact .inr ⟨(x, sp), by simp, hs⟩
    · exact .inr ⟨p, by simp [hp], h⟩
/-- THE TOKENS OF A LINE OF TOKENS AND SEPARATORS. -/
theorem lineE {sp : List UInt8} {m : List (Tok × List UInt8)} (hs : sp.all sepCh = true) (hm : ∀ p ∈ m, Good p.1 ∧ SepOK p.2) (hl : (sp ++ lineL m).length ≤ 1024) : tokensE (sp ++ lineL m) = (m.map Prod.fst, 0) := by
  have hall : (sp ++ lineL m).all lnCh = true := by rw [List.all_append, all_mono sep_ln hs, lineL_ln m hm]; rfl
  have hn : m.length ≤ (lineL m).length := by
    rcases lineL_num m with h | ⟨p, hp, h⟩
    · exact h
    · exact absurd (hm p hp).2 h
  have htr : trimL (sp ++ lineL m) = lineL m := by
    rw [trimL_sep _ _ hs]
    match m, hm with
    | [], _ => rfl
    | (x, sq) :: m, hm => exact trimL_fmt (hm (x, sq) (by simp)).1 _
  unfold tokensE
  rw [if_neg (by omega), if_neg (by rw [hall]; simp)]
  unfold tokensL
  rw [htr, tokensF_line m _ (seps_of m hm) (by rw [List.length_append]; omega)]
/-- THE TOKENS OF THE LINE OF TOKENS. -/
theorem fmt_ln : ∀ l : List Tok, (∀ x ∈ l, Good x) → (fmtL l).all lnCh = true
  | [], _ => rfl
  | [x], h => fmtT_ln (h x (by simp))
  | x :: y :: l, h => by
    show (fmtT x ++ 44 :: 32 :: fmtL (y :: l)).all lnCh = true
    rw [List.all_append, fmtT_ln (h x (by simp)), List.all_cons, List.all_cons, fmt_ln (y :: l) fun z hz => h z (by simp at hz ⊢; exact .inr hz)]
    rfl
theorem backE {l : List Tok} (h : ∀ x ∈ l, Good x) (hl : (fmtL l).length ≤ 1024) : tokensE (fmtL l) = (l, 0) := by
  unfold tokensE
  rw [if_neg (by omega), if_neg (by rw [fmt_ln l h]; simp), tokensL_fmt h]
theorem fmtE_good {l : List Tok} (h : ∀ x ∈ l, Good x) : fmtE l = if 1024 < (fmtL l).length then ([], 81) else (fmtL l, 0) := by
  have : l.all goodB = true := List.all_eq_true.2 fun x hx => (goodB_iff x).2 (h x hx)
  unfold fmtE
  rw [if_neg (by rw [this]; simp)]
theorem fmtL_lo : ∀ l : List Tok, (∀ x ∈ l, Lo x) → (fmtL l).length ≤ 46 * l.length
  | [], _ => by simp [fmtL]
  | [x], h => by have := fmtT_lo (h x (by simp)); simp [fmtL]; omega
  | x :: y :: l, h => by
    have h1 := fmtT_lo (h x (by simp))
    have h2 := fmtL_lo (y :: l) fun z hz => h z (by simp at hz ⊢; exact .inr hz)
    show (fmtT x ++ 44 :: 32 :: fmtL (y :: l)).length ≤ _
    simp only [List.length_append, List.length_cons] at h2 ⊢
    omega
theorem tape_new {w : World} {lv : Value} (hi : Ints w w.heap.size lv) : Tape (w.alloc (.cells #[lv, .int .i64 0] 31)) w.heap.size 0 :=
  ⟨lv, heap_alloc_last _ _, hi.keep fun b hb => by have := ((Kp.refl [] w).alloc (.cells #[lv, .int .i64 0] 31)).block b hb (by simp); exact this⟩
/-- One element of an own row, as a slice. -/
theorem own_one {α : Type} {r : RT α} {w : World} {B g cap i : Nat} {l : List α} {x : α} (h : r.Own w B (.slice (some ⟨g, 0, none⟩) l.length cap) l) (hx : l[i]? = some x) (c : Nat) : r.Has w (.slice (some ⟨g, i * r.sz, none⟩) 1 c) [x] := by
  rcases h.2 with ⟨hv, _⟩ | ⟨g', cap', cur, hv, hB, hh, hc, hcm, hcz, ht⟩
  · cases hv
  · cases hv
    have hr : r.Row w g 0 l := RT.row_of (cur := cur.toList) (by rw [Array.toArray_toList]; exact hh) ht
    refine .inr ⟨g, i * r.sz, c, rfl, block_lt hh, fun j y hy => ?_⟩
    have hj : j = 0 := by have := (List.getElem?_eq_some_iff.1 hy).1; simp at this; omega
    subst hj
    simp only [List.getElem?_cons_zero, Option.some.injEq] at hy
    subst hy
    have := hr i x hx
    rw [Nat.zero_add] at this
    rw [Nat.zero_mul, Nat.add_zero]
    exact this
end Go.Proofs.YtccmlodocfpbhaaDoor
