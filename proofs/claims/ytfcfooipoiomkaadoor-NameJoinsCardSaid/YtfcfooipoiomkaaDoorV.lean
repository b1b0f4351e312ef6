/- The order of paths is the order of their lists of names: plain facts. -/
import Derived.Test.YtfcfooipoiomkaaDoorM
import Derived.Test.YtfcfooipoiomkaaDoorO
namespace Go.Proofs.YtfcfooipoiomkaaDoor

/-- Two lists of names: the first names that differ decide. -/
def cmpN : List (List UInt8) → List (List UInt8) → Int
  | [], [] => 0
  | [], _ :: _ => -1
  | _ :: _, [] => 1
  | x :: a, y :: b => if x = y then cmpN a b else Lib.compareBytes x y

theorem cmpL_append : ∀ (p s t : List UInt8), cmpL (p ++ s) (p ++ t) = cmpL s t
  | [], _, _ => rfl
  | c :: p, s, t => by rw [List.cons_append, List.cons_append, cmpL, if_pos rfl, cmpL_append p s t]

def Tail (s : List UInt8) : Prop := s = [] ∨ ∃ r, s = 47 :: r

theorem rank_pos {c : UInt8} (h : c ≠ 47) : rankI c = (c.toNat : Int) := by rw [rankI, if_neg h]
theorem rank_slash : rankI 47 = -1 := by unfold rankI; simp

theorem cmpL_names : ∀ (x y s t : List UInt8), Free 47 x → Free 47 y → Tail s → Tail t → x ≠ y → cmpL (x ++ s) (y ++ t) = Lib.compareBytes x y
  | [], [], _, _, _, _, _, _, h => absurd rfl h
  | [], d :: y, s, t, _, hy, hs, _, _ => by
    have hd := hy d (List.mem_cons_self ..)
    have e : Lib.compareBytes [] (d :: y) = -1 := rfl
    rw [e, List.nil_append, List.cons_append]
    rcases hs with rfl | ⟨r, rfl⟩
    · rfl
    · rw [cmpL, if_neg fun e => hd e.symm, rank_slash, rank_pos hd, Lib.compareInt, if_pos (by omega)]
  | c :: x, [], s, t, hx, _, _, ht, _ => by
    have hc := hx c (List.mem_cons_self ..)
    have e : Lib.compareBytes (c :: x) [] = 1 := rfl
    rw [e, List.nil_append, List.cons_append]
    rcases ht with rfl | ⟨r, rfl⟩
    · rfl
    · rw [cmpL, if_neg hc, rank_slash, rank_pos hc, Lib.compareInt, if_neg (by omega), if_pos (by omega)]
  | c :: x, d :: y, s, t, hx, hy, hs, ht, h => by
    have hc := hx c (List.mem_cons_self ..)
    have hd := hy d (List.mem_cons_self ..)
    rw [List.cons_append, List.cons_append, cmpL]
    by_cases e : c = d
    · subst e
      rw [if_pos rfl, cmpL_names x y s t (fun b hb => hx b (List.mem_cons_of_mem _ hb)) (fun b hb => hy b (List.mem_cons_of_mem _ hb)) hs ht fun e => h (by rw [e])]
      rw [Lib.compareBytes]
      simp
    · rw [if_neg e, rank_pos hc, rank_pos hd, Lib.compareBytes, Lib.compareInt]
      have hne : c.toNat ≠ d.toNat := fun h => e (UInt8.toNat_inj.1 h)
      by_cases h1 : c.toNat < d.toNat
      · rw [if_pos (by omega), if_pos (UInt8.lt_iff_toNat_lt.2 h1)]
      · rw [if_neg (by omega), if_pos (by omega), if_neg (fun h => h1 (UInt8.lt_iff_toNat_lt.1 h)), if_pos (UInt8.lt_iff_toNat_lt.2 (by omega))]

theorem tail_flat (ps : List (List UInt8)) : Tail (ps.flatMap fun q => 47 :: q) := by
  cases ps with
  | nil => exact .inl rfl
  | cons p ps => exact .inr ⟨p ++ ps.flatMap fun q => 47 :: q, by simp⟩

theorem cmpL_flat : ∀ (xs ys : List (List UInt8)), (∀ x ∈ xs, Free 47 x) → (∀ y ∈ ys, Free 47 y) → cmpL (xs.flatMap fun q => 47 :: q) (ys.flatMap fun q => 47 :: q) = cmpN xs ys
  | [], [], _, _ => rfl
  | [], y :: ys, _, _ => rfl
  | x :: xs, [], _, _ => rfl
  | x :: xs, y :: ys, hx, hy => by
    rw [List.flatMap_cons, List.flatMap_cons, List.cons_append, List.cons_append, cmpL, if_pos rfl, cmpN]
    by_cases e : x = y
    · subst e
      rw [if_pos rfl, cmpL_append, cmpL_flat xs ys (fun q hq => hx q (List.mem_cons_of_mem _ hq)) fun q hq => hy q (List.mem_cons_of_mem _ hq)]
    · rw [if_neg e]
      exact cmpL_names x y _ _ (hx x (List.mem_cons_self ..)) (hy y (List.mem_cons_self ..)) (tail_flat xs) (tail_flat ys) e

theorem joinP_flat (p : List UInt8) (ps : List (List UInt8)) : 47 :: joinP 47 (p :: ps) = (p :: ps).flatMap fun q => 47 :: q := by
  rw [joinP, List.flatMap_cons]
  rfl
theorem pieces_flat_self (l : List UInt8) : (pieces 47 l).flatMap (fun q => 47 :: q) = 47 :: l := by
  have h := joinP_pieces 47 l
  cases hp : pieces 47 l with
  | nil => exact absurd hp (pieces_ne 47 l)
  | cons p ps => rw [← joinP_flat, ← hp, h]

/-- (1) The order of two texts that begin with a slash. -/
theorem cmpL_pieces (a b : List UInt8) : cmpL (47 :: a) (47 :: b) = cmpN (pieces 47 a) (pieces 47 b) := by
  rw [← cmpL_flat _ _ (pieces_free 47 a) (pieces_free 47 b), pieces_flat_self, pieces_flat_self]

theorem cmpB_eq {x y : List UInt8} (h : Lib.compareBytes x y = 0) : x = y := by
  induction x generalizing y with
  | nil => cases y with
    | nil => rfl
    | cons _ _ => cases h
  | cons c x ih => cases y with
    | nil => cases h
    | cons d y =>
      rw [Lib.compareBytes] at h
      by_cases h1 : c < d
      · rw [if_pos h1] at h; cases h
      · by_cases h2 : d < c
        · rw [if_neg h1, if_pos h2] at h; cases h
        · rw [if_neg h1, if_neg h2] at h
          have e : c = d := UInt8.toNat_inj.1 (by
            have a1 : ¬ c.toNat < d.toNat := fun h => h1 (UInt8.lt_iff_toNat_lt.2 h)
            have a2 : ¬ d.toNat < c.toNat := fun h => h2 (UInt8.lt_iff_toNat_lt.2 h)
            omega)
          rw [e, ih h]
theorem cmpN_self : ∀ xs, cmpN xs xs = 0
  | [] => rfl
  | x :: xs => by rw [cmpN, if_pos rfl, cmpN_self xs]
theorem cmpN_eq : ∀ {xs ys}, cmpN xs ys = 0 → xs = ys
  | [], [], _ => rfl
  | [], _ :: _, h => by cases h
  | _ :: _, [], h => by cases h
  | x :: xs, y :: ys, h => by
    rw [cmpN] at h
    by_cases e : x = y
    · rw [if_pos e] at h; rw [e, cmpN_eq h]
    · rw [if_neg e] at h; exact absurd (cmpB_eq h) e

theorem pieces_mid (c : UInt8) : ∀ (a r : List UInt8), pieces c (a ++ c :: r) = pieces c a ++ pieces c r
  | [], r => by simp [pieces]
  | x :: a, r => by
    have ih := pieces_mid c a r
    rw [List.cons_append, pieces, pieces, ih]
    split
    · rfl
    · cases hp : pieces c a with
      | nil => exact absurd hp (pieces_ne c a)
      | cons p ps => rfl

/-- (2) What lies below a path: the names of the one begin with those of the other. -/
theorem ben_pieces (a b : List UInt8) : benB (47 :: a) (47 :: b) = (decide ((pieces 47 b).length > (pieces 47 a).length) && (cmpN (pieces 47 a) ((pieces 47 b).take (pieces 47 a).length) == 0)) := by
  rw [Bool.eq_iff_iff, benB_iff, Bool.and_eq_true, decide_eq_true_eq, beq_iff_eq]
  constructor
  · rintro ⟨r, hr⟩
    have hr' : b = a ++ 47 :: r := by simpa using hr
    subst hr'
    rw [pieces_mid]
    refine ⟨?_, ?_⟩
    · have := List.length_pos_iff.2 (pieces_ne 47 r)
      rw [List.length_append]; omega
    · rw [List.take_left' rfl, cmpN_self]
  · rintro ⟨h1, h2⟩
    have h3 := cmpN_eq h2
    obtain ⟨rest, hrest⟩ : ∃ rest, pieces 47 b = pieces 47 a ++ rest := ⟨(pieces 47 b).drop (pieces 47 a).length, by
      conv => lhs; rw [← List.take_append_drop (pieces 47 a).length (pieces 47 b), ← h3]⟩
    cases rest with
    | nil => rw [hrest, List.append_nil] at h1; omega
    | cons p ps =>
      refine ⟨joinP 47 (p :: ps), ?_⟩
      have h4 := pieces_flat_self b
      rw [hrest, List.flatMap_append, pieces_flat_self, ← joinP_flat] at h4
      rw [← h4]
end Go.Proofs.YtfcfooipoiomkaaDoor
