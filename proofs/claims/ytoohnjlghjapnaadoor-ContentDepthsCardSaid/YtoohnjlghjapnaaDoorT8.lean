/- The program's parser of contents reads the text of every valid content as this content. Plain facts: no memory, no seat. -/
import Derived.Test.YtoohnjlghjapnaaDoorT7
namespace Go.Proofs.YtoohnjlghjapnaaDoor

/-- What ends a word. -/
def Stop (r : List UInt8) : Prop := r = [] ∨ ∃ b s, r = b :: s ∧ idCh b = false
theorem After.stop {r : List UInt8} (h : After r) : Stop r := by
  rcases h with rfl | ⟨b, s, rfl, rfl | rfl⟩
  · exact .inl rfl
  · exact .inr ⟨_, _, rfl, rfl⟩
  · exact .inr ⟨_, _, rfl, rfl⟩
theorem stop_cons {b : UInt8} (s : List UInt8) (h : idCh b = false) : Stop (b :: s) := .inr ⟨b, s, rfl, h⟩
theorem wrd_app : ∀ {a : List UInt8} {r : List UInt8}, a.all idCh = true → Stop r → wrd (a ++ r) = a ∧ rst (a ++ r) = r
  | [], r, _, hr => by
    rcases hr with rfl | ⟨b, s, rfl, hb⟩
    · exact ⟨rfl, rfl⟩
    · simp [wrd, rst, hb]
  | b :: a, r, h, hr => by
    rw [List.all_cons, Bool.and_eq_true] at h
    have ih := wrd_app h.2 hr
    unfold wrd rst at ih ⊢
    simp [h.1, ih.1, ih.2]
theorem take_ok (b : UInt8) (r : List UInt8) : takeP b (b :: r, false) = (r, false) := by simp [takeP]
theorem dec2_itoa (n : Int) (h1 : 1 ≤ n) (h2 : n ≤ 16) : Lib.itoa n = dec2 n ∧ atoiV (dec2 n) = n ∧ atoiOK (dec2 n) = true := by
  have : n = 1 ∨ n = 2 ∨ n = 3 ∨ n = 4 ∨ n = 5 ∨ n = 6 ∨ n = 7 ∨ n = 8 ∨ n = 9 ∨ n = 10 ∨ n = 11 ∨ n = 12 ∨ n = 13 ∨ n = 14 ∨ n = 15 ∨ n = 16 := by omega
  rcases this with rfl | rfl | rfl | rfl | rfl | rfl | rfl | rfl | rfl | rfl | rfl | rfl | rfl | rfl | rfl | rfl <;> refine ⟨?_, ?_, ?_⟩ <;> decide +kernel
theorem num_ok {n : Int} {r : List UInt8} (h1 : 1 ≤ n) (h2 : n ≤ 16) (hr : Stop r) : numP (dec2 n ++ r, false) = (n, r, false) := by
  obtain ⟨a, b⟩ := wrd_app (dec2_id h1 h2) hr
  obtain ⟨_, c, d⟩ := dec2_itoa n h1 h2
  simp [numP, a, b, c, d]
theorem id_ok {i r : List UInt8} (h : i.all idCh = true) (hr : Stop r) : idP (58 :: (i ++ r), false) = (i, r, false) := by
  obtain ⟨a, b⟩ := wrd_app h hr
  simp [idP, take_ok, a, b]
theorem slot_ok {m n : Int} {r : List UInt8} (h1 : 1 ≤ m) (h2 : m ≤ 16) (h3 : 1 ≤ n) (h4 : n ≤ 16) (hr : Stop r) : slotP (58 :: (dec2 m ++ 47 :: (dec2 n ++ r)), false) = (m, n, r, false) := by
  simp [slotP, take_ok, num_ok h1 h2 (stop_cons _ (show idCh 47 = false by rfl)), num_ok h3 h4 hr]
/-- What stands behind the first content: the others and the closing bracket. -/
def tailT (cs : List Con) (r : List UInt8) : List UInt8 := match cs with | [] => 41 :: r | c :: l => 44 :: (joinC ((c :: l).map Con.txt) ++ 41 :: r)
theorem join_tail (c : Con) (l : List Con) (r : List UInt8) : joinC ((c :: l).map Con.txt) ++ 41 :: r = c.txt ++ tailT l r := by
  cases l with
  | nil => rfl
  | cons a l => simp [joinC, tailT]
theorem tail_after (l : List Con) (r : List UInt8) : After (tailT l r) := by
  cases l with
  | nil => exact .inr ⟨_, _, rfl, .inr rfl⟩
  | cons a l => exact .inr ⟨_, _, rfl, .inl rfl⟩
theorem more_ok {rd : St → Con × St} : ∀ (cs acc : List Con) (r : List UInt8) (f : Nat), (∀ c ∈ cs, ∀ r, After r → rd (c.txt ++ r, false) = (c, r, false)) → cs.length < f → moreP rd f acc (tailT cs r, false) = (acc ++ cs, (41 :: r, false))
  | [], acc, r, f + 1, _, _ => by simp [moreP, tailT]
  | c :: l, acc, r, f + 1, h, hf => by
    have h1 := h c (by simp) (tailT l r) (tail_after l r)
    have ih := more_ok l (acc ++ [c]) r f (fun c' hc => h c' (by simp [hc])) (by simp at hf; omega)
    have e : tailT (c :: l) r = 44 :: (c.txt ++ tailT l r) := by rw [← join_tail]; rfl
    rw [e]
    simp only [moreP, if_true, h1, ih, List.append_assoc, List.singleton_append]
theorem inn_ok {rd : St → Con × St} {cs : List Con} {r : List UInt8} (hn : cs ≠ []) (h : ∀ c ∈ cs, ∀ r, After r → rd (c.txt ++ r, false) = (c, r, false)) : innP rd (40 :: (joinC (cs.map Con.txt) ++ 41 :: r), false) = (cs, r, false) := by
  match cs, hn with
  | c :: l, _ =>
    have h1 := h c (by simp) (tailT l r) (tail_after l r)
    have hl := joinC_len ((c :: l).map Con.txt)
    have h2 := more_ok l [c] r ((40 :: (joinC ((c :: l).map Con.txt) ++ 41 :: r)).length + 1) (fun c' hc => h c' (by simp [hc])) (by simp at hl ⊢; omega)
    unfold innP
    simp only [take_ok]
    rw [join_tail] at h2 ⊢
    simp only [h1, h2, take_ok]
    rfl
theorem head_rest {c : Con} (h0 : c.kind ≠ 0) (h1 : c.kind ≠ 1) (r : List UInt8) : c.txt ++ r = headT c ++ 40 :: (joinC (c.inner.map Con.txt) ++ 41 :: r) := by
  rw [txt_eq, if_neg h0, if_neg h1]
  simp
theorem con_mk (c : Con) : c = .mk c.kind c.id c.lab c.slot c.tot c.lst c.inner := by cases c; rfl
theorem stop40 (r : List UInt8) : Stop (40 :: r) := .inr ⟨_, _, rfl, rfl⟩
/-- THE TEXT OF A VALID CONTENT IS READ AS THIS CONTENT, WHATEVER MAY STAND BEHIND IT. -/
theorem cont_ok : ∀ (d n : Nat) (c : Con) (r : List UInt8), valN d c = true → After r → d < n → contP n (c.txt ++ r, false) = (c, r, false)
  | _, 0, _, _, _, _, h => absurd h (Nat.not_lt_zero _)
  | d, n + 1, c, r, hv, hr, hn => by
    by_cases hk : c.kind = 0
    · have e : c = con0 := by
        cases d <;> (unfold valN at hv; rw [if_pos hk] at hv; exact none_eq hv hk)
      subst e
      have := wrd_app (a := []) (r := r) rfl hr.stop
      simp only [List.nil_append] at this
      unfold contP
      simp [con0, Con.txt, this.1, this.2]
    · match d, hv, hn with
      | 0, hv, _ => unfold valN at hv; rw [if_neg hk] at hv; cases hv
      | d + 1, hv, hn =>
        unfold valN at hv
        rw [if_neg hk] at hv
        simp only [Bool.and_eq_true] at hv
        obtain ⟨⟨hi, hh⟩, ha⟩ := hv
        have hia := isID_all hi
        have ih : ∀ x ∈ c.inner, ∀ r, After r → contP n (x.txt ++ r, false) = (x, r, false) := fun x hx r hr => cont_ok d n x r (List.all_eq_true.1 ha x hx) hr (by omega)
        have s58 : ∀ s, Stop (58 :: s) := fun s => stop_cons s rfl
        have s47 : ∀ s, Stop (47 :: s) := fun s => stop_cons s rfl
        obtain ⟨k, i, lab, sl, tt, le, inn⟩ := c
        simp only [Con.kind, Con.id, Con.inner] at hk hi hia ih
        unfold headOK at hh
        simp only [Con.kind, Con.lab, Con.inner] at hh
        by_cases k1 : k = 1
        · subst k1
          simp only [if_true, Bool.and_eq_true, none0_iff, Con.tot, Con.slot, Con.lst, Bool.or_eq_true, List.isEmpty_iff] at hh
          obtain ⟨⟨hl, h1, h2, h3⟩, h4⟩ := hh
          subst h1; subst h2; subst h3; subst h4
          have hla : lab.all idCh = true := by
            rcases hl with hl | hl
            · rw [hl]; rfl
            · exact isID_all hl
          have e : (Con.mk 1 i lab 0 0 0 []).txt ++ r = wFs ++ 58 :: (i ++ 58 :: (lab ++ r)) := by simp [txt_eq, Con.kind, headT, Con.id, Con.lab]
          obtain ⟨w1, w2⟩ := wrd_app (a := wFs) (r := 58 :: (i ++ 58 :: (lab ++ r))) rfl (s58 _)
          obtain ⟨w3, w4⟩ := wrd_app hla hr.stop
          rw [e]
          unfold contP
          rw [w1, w2, if_neg (by decide +kernel), if_pos rfl]
          unfold fileP
          simp only [id_ok hia (s58 _), take_ok, w3, w4]
        by_cases k2 : k = 2
        · subst k2
          simp only [show ((2 : Int) = 1) = False by decide, if_true, if_false, Bool.and_eq_true, slotsOK_iff, Con.tot, Con.slot, Con.lst] at hh
          obtain ⟨⟨⟨hl, h1, h2, h3, h4⟩, h56⟩, h7⟩ := hh
          have h5 : 1 ≤ le ∧ le ≤ tt := of_decide_eq_true h56
          have h7 : inn.length = 1 := of_decide_eq_true h7
          obtain rfl := List.isEmpty_iff.1 hl
          have hne : inn ≠ [] := by rintro rfl; cases h7
          have e : (Con.mk 2 i [] sl tt le inn).txt ++ r = wRaid ++ 58 :: (i ++ 58 :: (dec2 sl ++ 47 :: (dec2 tt ++ 47 :: (dec2 le ++ 40 :: (joinC (inn.map Con.txt) ++ 41 :: r))))) := by
            rw [head_rest (by simp [Con.kind]) (by simp [Con.kind])]; simp [headT, Con.kind, Con.id, Con.slot, Con.tot, Con.lst, Con.inner]
          obtain ⟨w1, w2⟩ := wrd_app (a := wRaid) (r := 58 :: (i ++ 58 :: (dec2 sl ++ 47 :: (dec2 tt ++ 47 :: (dec2 le ++ 40 :: (joinC (inn.map Con.txt) ++ 41 :: r)))))) rfl (s58 _)
          rw [e]
          unfold contP
          rw [w1, w2, if_neg (by decide +kernel), if_neg (by decide +kernel), if_pos rfl]
          unfold raidP leastP
          simp only [id_ok hia (s58 _), slot_ok h3 (Int.le_trans h4 h2) h1 h2 (s47 _), take_ok, num_ok h5.1 (Int.le_trans h5.2 h2) (stop40 _), inn_ok hne ih]
        by_cases k3 : k = 3
        · subst k3
          simp only [show ((3 : Int) = 1) = False by decide, show ((3 : Int) = 2) = False by decide, if_true, if_false, Bool.and_eq_true, none0_iff, Con.tot, Con.slot, Con.lst] at hh
          obtain ⟨⟨hl, h1, h2, h3⟩, h7⟩ := hh
          have h7 : inn.length = 1 := of_decide_eq_true h7
          obtain rfl := List.isEmpty_iff.1 hl
          subst h1; subst h2; subst h3
          have hne : inn ≠ [] := by rintro rfl; cases h7
          have e : (Con.mk 3 i [] 0 0 0 inn).txt ++ r = wCrypt ++ 58 :: (i ++ 40 :: (joinC (inn.map Con.txt) ++ 41 :: r)) := by
            rw [head_rest (by simp [Con.kind]) (by simp [Con.kind])]; simp [headT, Con.kind, Con.id, Con.inner]
          obtain ⟨w1, w2⟩ := wrd_app (a := wCrypt) (r := 58 :: (i ++ 40 :: (joinC (inn.map Con.txt) ++ 41 :: r))) rfl (s58 _)
          rw [e]
          unfold contP
          rw [w1, w2, if_neg (by decide +kernel), if_neg (by decide +kernel), if_neg (by decide +kernel), if_pos rfl]
          unfold plainP
          simp only [id_ok hia (stop40 _), inn_ok hne ih]
        by_cases k4 : k = 4
        · subst k4
          simp only [show ((4 : Int) = 1) = False by decide, show ((4 : Int) = 2) = False by decide, show ((4 : Int) = 3) = False by decide, if_true, if_false, Bool.and_eq_true, slotsOK_iff, Con.tot, Con.slot, Con.lst] at hh
          obtain ⟨⟨⟨hl, h1, h2, h3, h4⟩, h56⟩, h67⟩ := hh
          have h5 : le = 0 := of_decide_eq_true h56
          have h7 : 1 ≤ inn.length ∧ inn.length ≤ 16 := of_decide_eq_true h67
          obtain rfl := List.isEmpty_iff.1 hl
          subst h5
          have hne : inn ≠ [] := by rintro rfl; exact absurd h7.1 (by decide)
          have e : (Con.mk 4 i [] sl tt 0 inn).txt ++ r = wPv ++ 58 :: (i ++ 58 :: (dec2 sl ++ 47 :: (dec2 tt ++ 40 :: (joinC (inn.map Con.txt) ++ 41 :: r)))) := by
            rw [head_rest (by simp [Con.kind]) (by simp [Con.kind])]; simp [headT, Con.kind, Con.id, Con.slot, Con.tot, Con.inner]
          obtain ⟨w1, w2⟩ := wrd_app (a := wPv) (r := 58 :: (i ++ 58 :: (dec2 sl ++ 47 :: (dec2 tt ++ 40 :: (joinC (inn.map Con.txt) ++ 41 :: r))))) rfl (s58 _)
          rw [e]
          unfold contP
          rw [w1, w2, if_neg (by decide +kernel), if_neg (by decide +kernel), if_neg (by decide +kernel), if_neg (by decide +kernel), if_pos rfl]
          unfold groupP
          simp only [id_ok hia (s58 _), slot_ok h3 (Int.le_trans h4 h2) h1 h2 (stop40 _), inn_ok hne ih]
        by_cases k5 : k = 5
        · subst k5
          simp only [show ((5 : Int) = 1) = False by decide, show ((5 : Int) = 2) = False by decide, show ((5 : Int) = 3) = False by decide, show ((5 : Int) = 4) = False by decide, if_true, if_false, Bool.and_eq_true, none0_iff, Con.tot, Con.slot, Con.lst] at hh
          obtain ⟨⟨hl, h1, h2, h3⟩, h67⟩ := hh
          have h7 : 1 ≤ inn.length ∧ inn.length ≤ 16 := of_decide_eq_true h67
          obtain rfl := List.isEmpty_iff.1 hl
          subst h1; subst h2; subst h3
          have hne : inn ≠ [] := by rintro rfl; exact absurd h7.1 (by decide)
          have e : (Con.mk 5 i [] 0 0 0 inn).txt ++ r = wTable ++ 58 :: (i ++ 40 :: (joinC (inn.map Con.txt) ++ 41 :: r)) := by
            rw [head_rest (by simp [Con.kind]) (by simp [Con.kind])]; simp [headT, Con.kind, Con.id, Con.inner]
          obtain ⟨w1, w2⟩ := wrd_app (a := wTable) (r := 58 :: (i ++ 40 :: (joinC (inn.map Con.txt) ++ 41 :: r))) rfl (s58 _)
          rw [e]
          unfold contP
          rw [w1, w2, if_neg (by decide +kernel), if_neg (by decide +kernel), if_neg (by decide +kernel), if_neg (by decide +kernel), if_neg (by decide +kernel), if_pos rfl]
          unfold plainP
          simp only [id_ok hia (stop40 _), inn_ok hne ih]
        · simp [k1, k2, k3, k4, k5] at hh
/-! ### the text with whatever numbers is the text of a valid content -/
theorem headG_headT {c : Con} (hh : headOK c = true) : headG c = headT c := by
  unfold headOK at hh
  unfold headG headT
  split
  · rfl
  rename_i k1
  simp only [if_neg k1] at hh
  split
  · rename_i k2
    simp only [if_pos k2, Bool.and_eq_true, slotsOK_iff] at hh
    obtain ⟨⟨⟨hl, h1, h2, h3, h4⟩, h56⟩, h7⟩ := hh
    have h5 : 1 ≤ c.lst ∧ c.lst ≤ c.tot := of_decide_eq_true h56
    rw [(dec2_itoa c.slot h3 (by omega)).1, (dec2_itoa c.tot h1 h2).1, (dec2_itoa c.lst h5.1 (by omega)).1]
  rename_i k2
  simp only [if_neg k2] at hh
  split
  · rfl
  rename_i k3
  simp only [if_neg k3] at hh
  split
  · rename_i k4
    simp only [if_pos k4, Bool.and_eq_true, slotsOK_iff] at hh
    obtain ⟨⟨⟨hl, h1, h2, h3, h4⟩, h56⟩, h7⟩ := hh
    rw [(dec2_itoa c.slot h3 (by omega)).1, (dec2_itoa c.tot h1 h2).1]
  · rfl
theorem gxt_txt : ∀ (d : Nat) (c : Con), valN d c = true → c.gxt = c.txt
  | 0, c, hv => by
    unfold valN at hv
    split at hv
    · rename_i hk; rw [gxt_eq, txt_eq, if_pos hk, if_pos hk]
    · cases hv
  | d + 1, c, hv => by
    unfold valN at hv
    split at hv
    · rename_i hk; rw [gxt_eq, txt_eq, if_pos hk, if_pos hk]
    · rename_i hk
      simp only [Bool.and_eq_true] at hv
      obtain ⟨⟨_, hh⟩, ha⟩ := hv
      have : c.inner.map Con.gxt = c.inner.map Con.txt := List.map_congr_left fun x hx => gxt_txt d x (List.all_eq_true.1 ha x hx)
      rw [gxt_eq, txt_eq, if_neg hk, if_neg hk, this, headG_headT hh]
/-- PARSING AS THE PROGRAM DOES IT: what is read, without a fault, to the end, and valid. -/
def progP (n d : Nat) (s : List UInt8) : Option Con := if (contP n (s, false)).2.2 = false ∧ (contP n (s, false)).2.1 = [] ∧ valN d (contP n (s, false)).1 = true then some (contP n (s, false)).1 else none
theorem progP_iff {n d : Nat} {s : List UInt8} {c : Con} (hn : d < n) : progP n d s = some c ↔ valN d c = true ∧ c.txt = s := by
  constructor
  · intro h
    unfold progP at h
    split at h
    · rename_i hc
      cases h
      obtain ⟨h1, h2, h3⟩ := hc
      obtain ⟨_, h4⟩ := cont_reads n (s, false) h1
      refine ⟨h3, ?_⟩
      rw [h2, List.append_nil] at h4
      rw [← gxt_txt d _ h3]
      exact h4.symm
    · cases h
  · rintro ⟨h1, rfl⟩
    have := cont_ok d n c [] h1 (.inl rfl) hn
    rw [List.append_nil] at this
    unfold progP
    rw [this]
    simp [h1]
theorem progP_parse {n d : Nat} {s : List UInt8} (hn : d < n) : progP n d s = parseN d s := by
  cases h : parseN d s with
  | some c => exact (progP_iff hn).2 (parseN_iff.1 h)
  | none =>
    cases h2 : progP n d s with
    | none => rfl
    | some c => rw [parseN_iff.2 ((progP_iff hn).1 h2)] at h; cases h
end Go.Proofs.YtoohnjlghjapnaaDoor
