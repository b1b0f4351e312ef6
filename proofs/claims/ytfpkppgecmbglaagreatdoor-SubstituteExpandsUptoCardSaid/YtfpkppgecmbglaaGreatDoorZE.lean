/- What Format answers, on lists of pieces. -/
import Derived.Test.YtfpkppgecmbglaaGreatDoorZP
namespace Go.Proofs.YtfpkppgecmbglaaGreatDoor
open Go.RowKit

/-- The piece at a place is right, and may stand behind the one ahead of it. -/
def adjB (l : List Gp) (i : Nat) : Bool := match l[i]? with
  | none => true
  | some x => okG x && (match i with
    | 0 => true
    | j + 1 => match l[j]? with
      | none => true
      | some y => precG y x)
def okAll (l : List Gp) : Bool := (List.range l.length).all (adjB l)
def pcOf (x : Gp) : Pc := ⟨x.kind.toNat, x.text, x.word.toNat, x.more⟩
def wrX (p : Pc) (small : Bool) : List UInt8 := if p.kind = 1 then escL p.text else if p.kind = 7 ∨ p.kind = 8 then longS p.kind ++ 123 :: (p.text ++ [125]) else if p.more = true then longS p.kind ++ 123 :: (Lib.itoa p.word ++ [43, 125]) else if 0 < p.word then longS p.kind ++ 123 :: (Lib.itoa p.word ++ [125]) else if small = true then shortS p.kind else longS p.kind
def smN : List Gp → Bool
  | [] => false
  | q :: _ => smG q
def fmtR : List Gp → List UInt8 → List UInt8 × Int
  | [], acc => (acc, 0)
  | p :: r, acc => if 256 < p.text.length then ([], 91) else if 256 < (acc ++ wrX (pcOf p) (smN r)).length then ([], 91) else fmtR r (acc ++ wrX (pcOf p) (smN r))
def formatE (l : List Gp) : List UInt8 × Int := if okAll l = true then fmtR l [] else ([], 90)
theorem okAll_iff (l : List Gp) : okAll l = true ↔ ∀ j, j < l.length → adjB l j = true := by
  unfold okAll
  rw [List.all_eq_true]
  exact ⟨fun h j hj => h j (List.mem_range.2 hj), fun h j hj => h j (List.mem_range.1 hj)⟩
theorem adj_ok {l : List Gp} {i : Nat} {x : Gp} (hx : l[i]? = some x) (h : adjB l i = true) : okG x = true := by
  unfold adjB at h
  rw [hx] at h
  simp only [Bool.and_eq_true] at h
  exact h.1
theorem adj_at {l : List Gp} {j : Nat} {x y : Gp} (hx : l[j + 1]? = some x) (hy : l[j]? = some y) : adjB l (j + 1) = (okG x && precG y x) := by
  unfold adjB
  rw [hx]
  simp only [hy]
theorem adj_zero {l : List Gp} {x : Gp} (hx : l[0]? = some x) : adjB l 0 = okG x := by
  unfold adjB
  rw [hx]
  simp
theorem pcOf_ok {x : Gp} (h : okG x = true) : x = (pcOf x).g ∧ 1 ≤ (pcOf x).kind ∧ (pcOf x).kind ≤ 11 ∧ (pcOf x).word ≤ 99 ∧ (x.kind = 1 → x.text ≠ []) := by
  obtain ⟨p, rfl, h1, h2, h3, h4, _⟩ := ok_pc h
  have e : pcOf p.g = p := by obtain ⟨k, t, n, m⟩ := p; simp [pcOf, Pc.g]
  rw [e]
  refine ⟨rfl, h1, h2, h3, fun hk => (h4 ?_).1⟩
  have hk2 : (p.kind : Int) = 1 := hk
  omega
theorem escL_len2 : ∀ t : List UInt8, (escL t).length ≤ 2 * t.length
  | [] => by simp [escL]
  | b :: t => by
    rw [escL_cons, List.length_append, List.length_cons]
    have ih := escL_len2 t
    have h1 : (escL [b]).length ≤ 2 := by
      by_cases h : b = 36 ∨ b = 37 <;> simp [escL, h]
    omega
theorem longS_len (k : Nat) : (longS k).length ≤ 8 := by
  unfold longS
  split
  · simp
  · unfold wordOf
    split <;> simp
theorem shortS_len (k : Nat) : (shortS k).length ≤ 8 := by
  unfold shortS
  split <;> simp
theorem itoa_len {n : Nat} (h : n ≤ 99) : (Lib.itoa (n : Int)).length ≤ 3 := by
  rcases Nat.eq_zero_or_pos n with rfl | h0
  · decide +kernel
  · obtain ⟨m, rfl⟩ : ∃ m, n = m + 1 := ⟨n - 1, by omega⟩
    rw [(itoa_dec m (by omega)).1]
    unfold decN
    split <;> simp
theorem wrX_len (p : Pc) (small : Bool) (h : p.word ≤ 99) (ht : p.text.length ≤ 256) : (wrX p small).length ≤ 1000 := by
  have h1 := escL_len2 p.text
  have h2 := longS_len p.kind
  have h3 := shortS_len p.kind
  have h4 := itoa_len h
  unfold wrX
  repeat' split
  all_goals ((try simp only [List.length_append, List.length_cons, List.length_nil]); omega)
end Go.Proofs.YtfpkppgecmbglaaGreatDoor
