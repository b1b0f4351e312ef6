/- Plain facts: replacing all instances, the classes of bytes, and a token read as the program reads it. -/
import Derived.Test.YtccmlodocfpbhaaDoorT2
import Derived.Lib.Replace
namespace Go.Proofs.YtccmlodocfpbhaaDoor

/-- Replacing all instances, as it is counted and done. -/
def repA (old new s : List UInt8) : List UInt8 := Lib.replaceK old new (Lib.count s old) s
theorem replaceAll_repA {old new s : List UInt8} (h : old ≠ new) : Lib.replaceAll s old new = repA old new s := by
  unfold Lib.replaceAll Lib.replace repA Lib.replaceNum
  rw [if_neg (by simpa using h), if_pos (.inl (by omega))]
theorem repA_nil {old new : List UInt8} (h : old ≠ []) : repA old new [] = [] := by
  have hi : Lib.index [] old = -1 := by
    cases old with
    | nil => exact absurd rfl h
    | cons b l => rfl
  unfold repA
  rw [Lib.count_miss hi]
  rfl
theorem repA_hit {old new s : List UInt8} (h : old ≠ []) (hs : s ≠ []) (hp : old.isPrefixOf s = true) : repA old new s = new ++ repA old new (s.drop old.length) := by
  have hi : Lib.index s old = ((0 : Nat) : Int) := by
    cases s with
    | nil => exact absurd rfl hs
    | cons b l => rw [Lib.index, if_pos hp]; rfl
  have hc := Lib.count_hit h hi
  unfold repA
  rw [hc, Nat.add_comm 1, Lib.replaceK_hit old new _ s 0 hi]
  simp
theorem repA_miss {old new : List UInt8} {b : UInt8} {r : List UInt8} (h : old ≠ []) (hp : old.isPrefixOf (b :: r) = false) : repA old new (b :: r) = b :: repA old new r := by
  by_cases hm : Lib.index r old = -1
  · have hi : Lib.index (b :: r) old = -1 := by rw [Lib.index, hp, hm]; rfl
    unfold repA
    rw [Lib.count_miss hi, Lib.count_miss hm]
    rfl
  · have hge := Lib.index_ge r old
    obtain ⟨i, hi⟩ : ∃ i : Nat, Lib.index r old = i := ⟨(Lib.index r old).toNat, by omega⟩
    have hi2 : Lib.index (b :: r) old = ((i + 1 : Nat) : Int) := by
      rw [Lib.index, hp, hi]
      have : (((i : Int)) == -1) = false := by simp
      simp [this]
    have hc := Lib.count_hit h hi
    have hc2 := Lib.count_hit h hi2
    unfold repA
    rw [hc, hc2, Nat.add_comm 1, Nat.add_comm 1, Lib.replaceK_hit old new _ r i hi, Lib.replaceK_hit old new _ (b :: r) (i + 1) hi2]
    rw [show i + 1 + old.length = (i + old.length) + 1 by omega, List.drop_succ_cons, List.take_succ_cons]
    rfl

/-- The value that is written so between its quotes. -/
def unescL : List UInt8 → List UInt8
  | [] => []
  | [b] => [b]
  | a :: b :: r => if a = 92 ∧ b = 34 then 34 :: unescL r else a :: unescL (b :: r)
theorem unescL_esc (r : List UInt8) : unescL (92 :: 34 :: r) = 34 :: unescL r := by rw [unescL, if_pos ⟨rfl, rfl⟩]
theorem unescL_step (b : UInt8) (r : List UInt8) (h : b = 92 → ∀ q, r ≠ 34 :: q) : unescL (b :: r) = b :: unescL r := by
  cases r with
  | nil => rfl
  | cons c r => rw [unescL, if_neg (fun e => h e.1 r (by rw [e.2]))]
theorem repA_unesc : ∀ (n : Nat) (s : List UInt8), s.length ≤ n → repA [92, 34] [34] s = unescL s
  | _, [], _ => repA_nil (by simp)
  | n + 1, a :: r, hn => by
    by_cases hp : List.isPrefixOf [92, 34] (a :: r) = true
    · cases r with
      | nil => simp [List.isPrefixOf] at hp
      | cons b r =>
        have e : a = 92 ∧ b = 34 := by
          simp [List.isPrefixOf] at hp
          exact ⟨hp.1.symm, hp.2.symm⟩
        obtain ⟨rfl, rfl⟩ := e
        rw [repA_hit (by simp) (by simp) hp, unescL_esc, List.cons_append, List.nil_append]
        rw [show ([92, 34] : List UInt8).length = 2 from rfl, List.drop_succ_cons, List.drop_succ_cons, List.drop_zero, repA_unesc n r (by simp at hn; omega)]
    · have hf : List.isPrefixOf [92, 34] (a :: r) = false := Bool.eq_false_iff.2 hp
      rw [repA_miss (by simp) hf, repA_unesc n r (by simp at hn; omega), unescL_step a r (fun ha q hr => ?_)]
      rw [ha, hr] at hp
      exact hp (by simp [List.isPrefixOf])
theorem repA_fmt : ∀ (s : List UInt8), repA [34] [92, 34] s = fmtV s
  | [] => repA_nil (by simp)
  | a :: r => by
    have ih := repA_fmt r
    rw [fmtV_cons]
    by_cases h : a = 34
    · rw [repA_hit (by simp) (by simp) (by simp [List.isPrefixOf, h]), if_pos h, ← ih]
      rfl
    · rw [repA_miss (by simp) (by simp [List.isPrefixOf]; exact fun e => h e.symm), if_neg h, ih]
      rfl
theorem unesc_eq (s : List UInt8) : Lib.replaceAll s [92, 34] [34] = unescL s := by rw [replaceAll_repA (by simp), repA_unesc s.length s (Nat.le_refl _)]
theorem esc_eq (s : List UInt8) : Lib.replaceAll s [34] [92, 34] = fmtV s := by rw [replaceAll_repA (by simp), repA_fmt]

/-- A value as it is scanned: esc says that a backslash stands directly ahead. -/
def scanV : Bool → List UInt8 → Rd (List UInt8)
  | _, [] => .cut
  | esc, b :: r => if b = 34 ∧ esc = false then .ok [] r else if b = 9 then .bad else
    match scanV (b == 92) r with | .bad => .bad | .cut => .cut | .ok v q => .ok (b :: v) q
def Rd.map {α β : Type} (f : α → β) : Rd α → Rd β
  | .bad => .bad
  | .cut => .cut
  | .ok x r => .ok (f x) r
theorem valL_scan : ∀ (n : Nat) (s : List UInt8), s.length ≤ n → valL s = (scanV false s).map unescL
  | _, [], _ => by rw [valL.eq_def]; rfl
  | n + 1, b :: r, hn => by
    by_cases h1 : b = 34
    · subst h1
      rw [valL.eq_def]
      simp [scanV, Rd.map, unescL]
    · by_cases h2 : b = 9
      · subst h2
        rw [valL.eq_def]
        simp [scanV, Rd.map]
      · by_cases h3 : b = 92 ∧ ∃ r', r = 34 :: r'
        · obtain ⟨rfl, r', rfl⟩ := h3
          have ih := valL_scan n r' (by simp at hn; omega)
          rw [valL_esc, ih]
          have e : scanV false (92 :: 34 :: r') = match scanV false r' with | .bad => .bad | .cut => .cut | .ok v q => .ok (92 :: 34 :: v) q := by
            simp [scanV]
            cases scanV false r' <;> rfl
          rw [e]
          cases scanV false r' with
          | bad => rfl
          | cut => rfl
          | ok v q => simp [Rd.map, unescL_esc]
        · have h3' : b = 92 → ∀ q, r ≠ 34 :: q := fun hb q hr => h3 ⟨hb, q, hr⟩
          have ih := valL_scan n r (by simp at hn; omega)
          rw [valL_step b r h1 h2 h3', ih]
          have e : scanV false (b :: r) = match scanV (b == 92) r with | .bad => .bad | .cut => .cut | .ok v q => .ok (b :: v) q := by
            rw [scanV, if_neg (fun h => h1 h.1), if_neg h2]
          rw [e]
          by_cases hb : b = 92
          · subst hb
            cases r with
            | nil => rfl
            | cons c r =>
              have hc : c ≠ 34 := fun hc => h3' rfl r (by rw [hc])
              have e2 : scanV true (c :: r) = scanV false (c :: r) := by simp [scanV, hc]
              rw [show ((92 : UInt8) == 92) = true from rfl, e2]
              cases hs : scanV false (c :: r) with
              | bad => rfl
              | cut => rfl
              | ok v q =>
                have hv : ∀ q', v ≠ 34 :: q' := by
                  intro q' hv'
                  rw [scanV, if_neg (fun h => hc h.1)] at hs
                  split at hs
                  · cases hs
                  · split at hs
                    · cases hs
                    · cases hs
                    · cases hs
                      cases hv'
                      exact hc rfl
                simp only [Rd.map]
                rw [unescL_step 92 v (fun _ => hv)]
          · rw [show (b == 92) = false by simpa using hb]
            cases scanV false r with
            | bad => rfl
            | cut => rfl
            | ok v q => simp only [Rd.map]; rw [unescL_step b v (fun h => absurd h hb)]

/-- The bytes of ops. -/
def opCh (b : UInt8) : Bool := b == 61 || b == 33 || b == 43 || b == 45 || b == 58
/-- The op, and what is behind its quote. -/
def opB (s : List UInt8) : Rd (List UInt8) :=
  if opsL.contains (spanL opCh s).1 then match (spanL opCh s).2 with | 34 :: r => .ok (spanL opCh s).1 r | _ => .bad else .bad
theorem opB_eq (s : List UInt8) : opB s = match opOf s with | none => .bad | some o => match s.drop o.length with | 34 :: r => .ok o r | _ => .bad := by
  obtain ⟨e1, e2, e3⟩ := spanL_eq opCh s
  unfold opB
  by_cases hc : opsL.contains (spanL opCh s).1 = true
  · rw [if_pos hc]
    split
    · rename_i r hr
      have hs : s = (spanL opCh s).1 ++ 34 :: r := by rw [← hr, e1]
      have ho := opOf_app (List.contains_iff_mem.1 hc) r
      rw [← hs] at ho
      rw [ho]
      simp only
      have hd : s.drop (spanL opCh s).1.length = 34 :: r := by
        conv => lhs; arg 2; rw [hs]
        exact List.drop_left' rfl
      rw [hd]
      rfl
    · rename_i hn
      split
      · rfl
      · rename_i o ho
        split
        · rename_i r hr
          exfalso
          have hom : o ∈ opsL := List.mem_of_find?_eq_some ho
          have hop := List.find?_some ho
          have hs : s = o ++ 34 :: r := by
            have := List.prefix_iff_eq_append.1 (List.isPrefixOf_iff_prefix.1 hop)
            rw [← this, hr]
          have hall : o.all opCh = true := by
            simp only [opsL, List.mem_cons, List.not_mem_nil, or_false] at hom
            rcases hom with rfl | rfl | rfl | rfl | rfl | rfl <;> rfl
          have hsp := spanL_app opCh o (34 :: r) hall (fun b t h => by cases h; rfl)
          rw [← hs] at hsp
          exact hn r (by rw [hsp])
        · rfl
  · rw [if_neg hc]
    split
    · rfl
    · rename_i o ho
      split
      · rename_i r hr
        exfalso
        have hom : o ∈ opsL := List.mem_of_find?_eq_some ho
        have hop := List.find?_some ho
        have hs : s = o ++ 34 :: r := by
          have := List.prefix_iff_eq_append.1 (List.isPrefixOf_iff_prefix.1 hop)
          rw [← this, hr]
        have hall : o.all opCh = true := by
          have hom2 := hom
          simp only [opsL, List.mem_cons, List.not_mem_nil, or_false] at hom2
          rcases hom2 with rfl | rfl | rfl | rfl | rfl | rfl <;> rfl
        have hsp := spanL_app opCh o (34 :: r) hall (fun b t h => by cases h; rfl)
        rw [← hs] at hsp
        exact hc (by rw [hsp]; exact List.contains_iff_mem.2 hom)
      · rfl
/-- A token up to its quote. -/
def begO (k n s : List UInt8) : Rd Tok := (opB s).map fun o => ⟨k, n, o, []⟩
def begL (s : List UInt8) : Rd Tok :=
  if (spanL upCh s).1 = [] then .bad else
  match (spanL upCh s).2 with
  | 123 :: s1 => (match (spanL nmCh s1).2 with
    | [] => .cut
    | c :: s2 => if (spanL nmCh s1).1 = [] ∨ c ≠ 125 then .bad else begO (spanL upCh s).1 (spanL nmCh s1).1 s2)
  | s1 => begO (spanL upCh s).1 [] s1
theorem opL_beg (k n s : List UInt8) : opL k n s = match begO k n s with | .bad => .bad | .cut => .cut | .ok t body => (scanV false body).map fun raw => { t with val := unescL raw } := by
  unfold opL begO
  rw [opB_eq]
  cases opOf s with
  | none => rfl
  | some o =>
    simp only
    generalize s.drop o.length = d
    split
    · rename_i r
      simp only [Rd.map]
      rw [valL_scan r.length r (Nat.le_refl _)]
      cases scanV false r <;> rfl
    · simp only [Rd.map]
theorem tokenL_beg (s : List UInt8) : tokenL s = match begL s with | .bad => .bad | .cut => .cut | .ok t body => (scanV false body).map fun raw => { t with val := unescL raw } := by
  unfold tokenL begL
  split
  · rfl
  · cases hs : (spanL upCh s).2 with
    | nil => exact opL_beg _ _ _
    | cons c s1 =>
      simp only
      by_cases hc : c = 123
      · subst hc
        rw [if_pos rfl]
        simp only [nameL]
        cases hn : (spanL nmCh s1).2 with
        | nil => rfl
        | cons d s2 =>
          simp only
          by_cases he : (spanL nmCh s1).1 = []
          · rw [if_pos he, if_pos (.inl he)]
          · rw [if_neg he]
            by_cases hd : d = 125
            · rw [if_pos hd, if_neg (by simp [he, hd])]
              exact opL_beg _ _ _
            · rw [if_neg hd, if_pos (.inr hd)]
      · rw [if_neg hc]
        have e : (match c :: s1 with
          | 123 :: s1 => (match (spanL nmCh s1).2 with
            | [] => Rd.cut
            | c :: s2 => if (spanL nmCh s1).1 = [] ∨ c ≠ 125 then .bad else begO (spanL upCh s).1 (spanL nmCh s1).1 s2)
          | s1 => begO (spanL upCh s).1 [] s1) = begO (spanL upCh s).1 [] (c :: s1) := by
          split
          · rename_i h
            cases h
            exact absurd rfl hc
          · rfl
        rw [e]
        exact opL_beg _ _ _
end Go.Proofs.YtccmlodocfpbhaaDoor
