/- The words of a result that are chosen: plain facts; the iterator's maker; strings.Join. -/
import Derived.Test.YtfpkppgecmbglaaGreatDoorP
namespace Go.Proofs.YtfpkppgecmbglaaGreatDoor
open Go.RowKit Go.Shelf

/-- What has been chosen when these words have come. -/
def chL (n : Nat) (more : Bool) (pre : List (List UInt8)) : List (List UInt8) := if more then pre.drop (n - 1) else (pre.drop (n - 1)).take 1
theorem chL_less {n : Nat} {more : Bool} {pre : List (List UInt8)} (h : pre.length < n) : chL n more pre = [] := by
  unfold chL
  rw [List.drop_eq_nil_of_le (by omega)]
  cases more <;> rfl
theorem chL_snoc {n : Nat} {more : Bool} {pre : List (List UInt8)} {x : List UInt8} (h1 : 1 ≤ n) (h : n ≤ pre.length + 1) (hm : more = false → pre.length < n) : chL n more (pre ++ [x]) = chL n more pre ++ [x] := by
  unfold chL
  rw [List.drop_append_of_le_length (by omega)]
  cases more with
  | true => rfl
  | false =>
    have := hm rfl
    rw [List.drop_eq_nil_of_le (show pre.length ≤ n - 1 by omega)]
    rfl
theorem joinL_app : ∀ {a : List (List UInt8)} (b : List (List UInt8)), a ≠ [] → ∃ r, joinL (a ++ b) = joinL a ++ r
  | [], _, h => absurd rfl h
  | [w], b, _ => by
    rw [List.cons_append, joinL_cons, List.nil_append]
    by_cases hb : b = []
    · exact ⟨[], by rw [if_pos hb]; simp [joinL]⟩
    · exact ⟨32 :: joinL b, by rw [if_neg hb]; rfl⟩
  | w :: v :: l, b, _ => by
    obtain ⟨r, hr⟩ := joinL_app (a := v :: l) b (by simp)
    refine ⟨r, ?_⟩
    rw [List.cons_append, joinL_cons, if_neg (by simp), hr, joinL_cons w (v :: l), if_neg (by simp)]
    simp
theorem joinL_len : ∀ {a : List (List UInt8)}, (∀ w ∈ a, w ≠ []) → a.length ≤ (joinL a).length
  | [], _ => by simp
  | [w], h => by
    have : 0 < w.length := List.length_pos_iff.2 (h w (by simp))
    show 1 ≤ w.length
    omega
  | w :: v :: l, h => by
    have ih := joinL_len (a := v :: l) fun x hx => h x (by simp [hx])
    rw [joinL_cons, if_neg (by simp)]
    simp at ih ⊢
    omega
theorem joinL_le {m : Nat} : ∀ {a : List (List UInt8)}, (∀ w ∈ a, w.length ≤ m) → (joinL a).length ≤ a.length * (m + 1)
  | [], _ => by simp [joinL]
  | [w], h => by
    have := h w (by simp)
    simp [joinL]
    omega
  | w :: v :: l, h => by
    have ih := joinL_le (a := v :: l) (m := m) fun x hx => h x (by simp [hx])
    have hw := h w (by simp)
    rw [joinL_cons, if_neg (by simp), List.length_append, List.length_cons, List.length_cons (a := w), Nat.add_mul, Nat.one_mul]
    omega
theorem join_eq : ∀ l : List (List UInt8), Lib.join l [32] = joinL l
  | [] => rfl
  | [w] => by rw [Lib.join_one]; rfl
  | w :: v :: l => by
    have ih := join_eq (v :: l)
    rw [Lib.join_cons] at ih ⊢
    rw [joinL_cons, if_neg (by simp), ← ih]
    simp [Lib.joinTail]
theorem splitL_len (c : UInt8) : ∀ s : List UInt8, (splitL c s).length ≤ s.length + 1 ∧ ∀ p ∈ splitL c s, p.length ≤ s.length
  | [] => by simp [splitL]
  | b :: s => by
    obtain ⟨h1, h2⟩ := splitL_len c s
    rw [splitL]
    split
    · refine ⟨by simp; omega, fun p hp => ?_⟩
      rcases List.mem_cons.1 hp with rfl | hp
      · simp
      · have := h2 p hp; simp; omega
    · split
      · exact ⟨by simp, fun p hp => by rw [List.mem_singleton] at hp; subst hp; simp⟩
      · rename_i q l hq
        rw [hq] at h1 h2
        refine ⟨by simp at h1 ⊢; omega, fun p hp => ?_⟩
        rcases List.mem_cons.1 hp with rfl | hp
        · have := h2 q (by simp); simp; omega
        · have := h2 p (by simp [hp]); simp; omega
theorem wordsL_len (s : List UInt8) : (wordsL s).length ≤ s.length + 1 ∧ ∀ p ∈ wordsL s, p.length ≤ s.length ∧ p ≠ [] :=
  ⟨Nat.le_trans (List.length_filter_le _ _) (splitL_len 32 s).1, fun p hp => ⟨(splitL_len 32 s).2 p ((List.mem_filter.1 hp).1), (wordsL_mem hp).1⟩⟩
/-- WHAT THE LOOP LEAVES SERVES: all words that count, or as many as are longer than any text. -/
theorem chosen_done {s : List UInt8} {n : Nat} {more : Bool} (h1 : 1 ≤ n) : joinL (chL n more (wordsL s)) = resultL s n more := by
  unfold chL resultL
  rw [if_neg (show ¬ n = 0 by omega)]
  cases more with
  | true => rfl
  | false =>
    simp only [Bool.false_eq_true, if_false]
    cases h : (wordsL s)[n - 1]? with
    | none =>
      rw [List.drop_eq_nil_of_le (List.getElem?_eq_none_iff.1 h)]
      rfl
    | some x =>
      obtain ⟨hl, rfl⟩ := List.getElem?_eq_some_iff.1 h
      rw [List.drop_eq_getElem_cons hl]
      rfl
theorem chosen_stop {s : List UInt8} {n : Nat} {more : Bool} {pre : List (List UInt8)} (h1 : 1 ≤ n) (hp : pre <+: wordsL s) (hf : (more = false ∧ pre.length = n) ∨ (chL n more pre).length = 256) : (joinL (chL n more pre)).take 256 = (resultL s n more).take 256 := by
  rw [← chosen_done h1]
  obtain ⟨r, hr⟩ := hp
  rcases hf with ⟨rfl, hl⟩ | hf
  · congr 2
    unfold chL
    simp only [Bool.false_eq_true, if_false]
    rw [← hr, List.drop_append_of_le_length (by omega), List.take_append_of_le_length (by rw [List.length_drop]; omega)]
  · cases more with
    | false =>
      unfold chL at hf
      simp only [Bool.false_eq_true, if_false] at hf
      have := List.length_take_le 1 (pre.drop (n - 1))
      omega
    | true =>
      unfold chL at hf ⊢
      simp only [if_true] at hf ⊢
      have hne : pre.drop (n - 1) ≠ [] := by intro e; rw [e] at hf; simp at hf
      have hlen : n - 1 ≤ pre.length := by
        rcases Nat.lt_or_ge pre.length (n - 1) with h | h
        · exact absurd (List.drop_eq_nil_of_le (by omega)) hne
        · exact h
      have hw : ∀ w ∈ pre.drop (n - 1), w ≠ [] := fun w hw => ((wordsL_len s).2 w (by rw [← hr]; simp [List.mem_of_mem_drop hw])).2
      have hj := joinL_len hw
      obtain ⟨q, hq⟩ := joinL_app r hne
      rw [← hr, List.drop_append_of_le_length hlen, hq, List.take_append_of_le_length (by omega)]
theorem words_any (s : ByteArray) (w : World) : Calls Tryz.prog 116 #[.string s] w fun e w' => e = .returned (.func (.func 135) #[] #[.pointer (some ⟨w.heap.size, 0, none⟩)]) ∧ w' = w.alloc (.cells #[.string s] 9) := by
  go_enter Tryz.func116, Tryz.ntmps116
  go_wp2
  go_ret
  exact ⟨rfl, rfl⟩
theorem join_any {w : World} {B : Nat} {v : Value} {l : List (List UInt8)} (h : stT.Own w B v l) (hl : (joinL l).length ≤ 100000000000000) (hn : l.length ≤ 1000000) : Calls Tryz.prog 90 #[v, .string ⟨#[32]⟩] w fun e w' => e = .returned (.string (bs (joinL l))) ∧ Kp [] w w' := by
  rcases h.form2 with ⟨rfl, rfl⟩ | ⟨g, cap, rfl, _, hlt, hcap, _, hr⟩
  · exact (Tryz.strings_Join_none none 0 ⟨#[32]⟩ w).mono fun _ _ ⟨h1, h2⟩ => ⟨h1, by rw [h2]; exact Kp.refl _ _⟩
  · have e : (l.map bs).map (·.data.toList) = l := by rw [List.map_map]; exact List.map_id' l
    have := Tryz.strings_Join g 0 cap (l.map bs) ⟨#[32]⟩ w (fun j x hx => by
      rw [List.getElem?_map] at hx
      obtain ⟨y, hy, rfl⟩ := Option.map_eq_some_iff.1 hx
      have := hr j y hy 0 _ rfl
      rw [show stT.sz = 1 from rfl, Nat.mul_one] at this
      exact this) hlt (by rw [List.length_map]; omega) (by rw [List.length_map]; exact hcap) (by rw [e, show (⟨#[32]⟩ : ByteArray).data.toList = [32] from rfl, join_eq]; omega)
    rw [e, show (⟨#[32]⟩ : ByteArray).data.toList = [32] from rfl, join_eq, List.length_map] at this
    exact this.mono fun _ _ ⟨h1, h2⟩ => ⟨h1, Kp.of_below h2⟩
end Go.Proofs.YtfpkppgecmbglaaGreatDoor
