/- The reference's byteOK and Printable. The reference's set, on lists of bytes: its place in a pattern, member by member; rows of 128 truth values. The reference's way of matching, on lists: sets of places in an alternative, byte by byte. -/
import Derived.Test.YtdlchlbngojljaaDoorPGk
namespace Go.Proofs.YtdlchlbngojljaaDoor.Gl
open Go.RowKit
set_option maxHeartbeats 400000 in
set_option maxRecDepth 100000 in
theorem byteOK_any (c : UInt8) (w : World) : Calls Tryd.prog 85 #[.int .u8 (c.toNat : Int)] w fun e w' => e = .returned (.bool (isText c)) ∧ w' = w := by
 unfold isText
 by_cases h1 : (32 : Int) ≤ (c.toNat : Int)
 ·have d1 : decide (32 ≤ c.toNat) = true := decide_eq_true (by omega)
  rw [d1, Bool.true_and]
  clear d1
  by_cases h2 : (c.toNat : Int) ≤ 126
  ·have d2 : decide (c.toNat ≤ 126) = true := decide_eq_true (by omega)
   rw [d2]
   clear d2
   go_enter Tryd.func85, Tryd.ntmps85
   go_wp2
   go_ret
   exact ⟨rfl, rfl⟩
  ·have d2 : decide (c.toNat ≤ 126) = false := decide_eq_false (by omega)
   rw [d2]
   clear d2
   go_enter Tryd.func85, Tryd.ntmps85
   go_wp2
   go_ret
   exact ⟨rfl, rfl⟩
 ·have d1 : decide (32 ≤ c.toNat) = false := decide_eq_false (by omega)
  rw [d1, Bool.false_and]
  clear d1
  go_enter Tryd.func85, Tryd.ntmps85
  go_wp2
  go_ret
  exact ⟨rfl, rfl⟩
set_option maxHeartbeats 400000 in
set_option maxRecDepth 100000 in
theorem printable_any (s : ByteArray) (w : World) (hs : s.size ≤ 4611686018427387904) : Calls Tryd.prog 60 #[.string s] w fun e w' => e = .returned (.bool (s.data.toList.all isText)) ∧ w' = w := by
 have hsz := Lib.size_eq s
 have hsi : (s.size : Int) ≤ 4611686018427387904 := by omega
 have Hsz := Lib.hid hsz
 obtain ⟨R, hR⟩ : ∃ R, s.data.toList.all isText = R := ⟨_, rfl⟩
 rw [hR]
 have HR := Lib.hid hR
 clear hsz hR
 go_enter Tryd.func60, Tryd.ntmps60
 go_wp2
 go_loop [3] (fun s3 => ∃ k : Nat, k ≤ s.size ∧ s3 = .int .i64 k ∧ (s.data.toList.take k).all isText = true) (fun s3 => s.size - (intOf s3).toNat)
 case atStart => exact ⟨0, by omega, rfl, rfl⟩
 case round =>
  obtain ⟨k, hk, rfl, hall⟩ := hrel
  have Hall := Lib.hid hall
  clear hall
  by_cases hlt : (k : Int) < (s.size : Int)
  ·obtain ⟨x, hx⟩ : ∃ x : UInt8, s[k]'(by omega) = x := ⟨_, rfl⟩
   have hxl : s.data.toList[k]? = some x := by rw [← hx]; exact Lib.data_getElem? s k (by omega)
   have hb := fun W => byteOK_any x W
   have Hxl := Lib.hid hxl
   clear hxl
   cases ht : isText x with
   | true =>
    rw [ht] at hb
    have Hb := Lib.hid hb
    have Hn := Lib.hid (show (s.data.toList.take (k + 1)).all isText = true by rw [List.take_add_one, Hxl.out, List.all_append, Hall.out]; simp [ht])
    clear hb ht
    go_wp2_with (go_at_call 85; refine (Hb.out _).mono ?_; rintro e W1 ⟨rfl, rfl⟩)
    go_round
    case rel => exact ⟨k + 1, by omega, rfl, Hn.out⟩
    case measure => simp [intOf]; omega
   | false =>
    rw [ht] at hb
    have Hb := Lib.hid hb
    have Hv := Lib.hid (show R = false from by
     rw [← HR.out, List.all_eq_false]
     exact ⟨x, List.mem_of_getElem? Hxl.out, by rw [ht]; simp⟩)
    clear hb ht
    go_wp2_with (go_at_call 85; refine (Hb.out _).mono ?_; rintro e W1 ⟨rfl, rfl⟩)
    go_ret
    exact ⟨by rw [Hv.out]; rfl, rfl⟩
  ·obtain rfl : k = s.size := by omega
   have Hv := Lib.hid (show R = true from by
    rw [← HR.out]
    have := Hall.out
    rwa [Hsz.out, List.take_length] at this)
   go_wp2
   go_ret
   exact ⟨by rw [Hv.out]; rfl, rfl⟩
end Go.Proofs.YtdlchlbngojljaaDoor.Gl
namespace Go.Proofs.YtdlchlbngojljaaDoor.Gl
open Go.RowKit
/-- The members up to the first "]", added to those of S. -/
def memR (S : UInt8 → Bool) (r : List UInt8) : Option (UInt8 → Bool) := if r.contains 93 then memB S (r.take (r.idxOf 93)) else none
theorem memR_nil (S : UInt8 → Bool) : memR S [] = none := rfl
theorem memR_end (S : UInt8 → Bool) (t : List UInt8) : memR S (93 :: t) = some S := by
 unfold memR
 rw [if_pos (by simp), List.idxOf_cons_self]
 rfl
theorem contains_cons_ne {a : UInt8} (h : a ≠ 93) (t : List UInt8) : (a :: t).contains 93 = t.contains 93 := by
 rw [Bool.eq_iff_iff]
 simp [Ne.symm h]
theorem idx_cons_ne {a : UInt8} (h : a ≠ 93) (t : List UInt8) : (a :: t).idxOf 93 = t.idxOf 93 + 1 := by
 rw [List.idxOf_cons, beq_eq_false_iff_ne.2 h]
 rfl
theorem memR_one (S : UInt8 → Bool) {a : UInt8} (ha : a ≠ 93) (t : List UInt8) (h : ¬ (2 ≤ t.length ∧ t[0]? = some 45 ∧ t[1]? ≠ some 93)) : memR S (a :: t) = memR (fun x => S x || rangeB a a x) t := by
 unfold memR
 rw [contains_cons_ne ha, idx_cons_ne ha, List.take_succ_cons]
 split
 ·rename_i hc
  have hi : t.idxOf 93 < t.length := List.idxOf_lt_length_iff.2 (by simpa using hc)
  apply memB_single
  rcases Nat.lt_or_ge (t.idxOf 93) 2 with h2 | h2
  ·left
   rw [List.length_take]
   omega
  ·right
   intro h0
   rw [List.getElem?_take, if_pos (by omega)] at h0
   refine h ⟨by omega, h0, fun h1 => ?_⟩
   match t, h0, h1, h2, hi with
   | [], h0, _, _, _ => simp at h0
   | [_], _, h1, _, _ => simp at h1
   | b :: c :: u, h0, h1, h2, _ =>
    simp only [List.getElem?_cons_zero, List.getElem?_cons_succ, Option.some.injEq] at h0 h1
    subst h0
    subst h1
    rw [idx_cons_ne (by decide), List.idxOf_cons_self] at h2
    omega
 ·rfl
theorem memR_range (S : UInt8 → Bool) {a c : UInt8} (ha : a ≠ 93) (hc : c ≠ 93) (t : List UInt8) : memR S (a :: 45 :: c :: t) = if c.toNat < a.toNat then none else memR (fun x => S x || rangeB a c x) t := by
 unfold memR
 rw [contains_cons_ne ha, contains_cons_ne (by decide), contains_cons_ne hc, idx_cons_ne ha, idx_cons_ne (by decide), idx_cons_ne hc, List.take_succ_cons, List.take_succ_cons, List.take_succ_cons, memB_range]
 split
 ·rfl
 ·split <;> rfl
/-- The set that begins a text, and the place of its "]". -/
def setR (r : List UInt8) : Option ((UInt8 → Bool) × Nat) := if r.contains 93 then (setB (r.take (r.idxOf 93))).map fun S => (S, r.idxOf 93) else none
theorem setR_not (r : List UInt8) : setR (33 :: r) = if r[0]? = some 93 then none else (memR (fun _ => false) r).map fun S => (fun x => isText x && !S x, r.idxOf 93 + 1) := by
 unfold setR memR
 rw [contains_cons_ne (by decide), idx_cons_ne (by decide), List.take_succ_cons]
 cases r with
 | nil => simp
 | cons b t =>
  simp only [List.getElem?_cons_zero, Option.some.injEq]
  by_cases hb : b = 93
  ·subst hb
   simp [setB]
  ·rw [if_neg hb]
   split
   ·rename_i hc
    have : (b :: t).take ((b :: t).idxOf 93) ≠ [] := by
     rw [idx_cons_ne hb, List.take_succ_cons]
     simp
    unfold setB
    simp only [if_true]
    rw [if_neg this]
    cases memB (fun _ => false) ((b :: t).take ((b :: t).idxOf 93)) <;> simp
   ·simp
theorem setR_plain {c : UInt8} (hc : c ≠ 33) (r : List UInt8) : setR (c :: r) = if c = 93 then none else (memR (fun _ => false) (c :: r)).map fun S => (S, (c :: r).idxOf 93) := by
 unfold setR memR
 by_cases hb : c = 93
 ·subst hb
  simp [setB]
 ·rw [if_neg hb]
  split
  ·rw [idx_cons_ne hb, List.take_succ_cons]
   unfold setB
   simp only [hc, if_false]
  ·simp
def boolRow (S : UInt8 → Bool) : Array Value := ((List.range 128).map fun c => Value.bool (S (UInt8.ofNat c))).toArray
theorem boolRow_size (S : UInt8 → Bool) : (boolRow S).size = 128 := by simp [boolRow]
theorem boolRow_get (S : UInt8 → Bool) (c : Nat) (h : c < 128) : (boolRow S)[c]? = some (.bool (S (UInt8.ofNat c))) := by
 simp [boolRow, h]
theorem boolRow_set (S : UInt8 → Bool) (c : Nat) (h : c < 128) : (boolRow S).setIfInBounds c (.bool true) = boolRow (fun x => S x || x == UInt8.ofNat c) := by
 apply Array.ext_getElem?
 intro i
 rw [Array.getElem?_setIfInBounds]
 by_cases hi : i < 128
 ·rw [boolRow_get (fun x => S x || x == UInt8.ofNat c) i hi]
  by_cases hc : c = i
  ·subst hc
   rw [if_pos rfl, if_pos (by rw [boolRow_size]; exact h)]
   simp
  ·rw [if_neg hc, boolRow_get _ i hi]
   have : (UInt8.ofNat i == UInt8.ofNat c) = false := by
    rw [beq_eq_false_iff_ne]
    intro e
    have := congrArg UInt8.toNat e
    simp at this
    omega
   rw [this, Bool.or_false]
 ·have hn : ∀ T : UInt8 → Bool, (boolRow T)[i]? = none := fun T => Array.getElem?_eq_none (by rw [boolRow_size]; omega)
  rw [hn, if_neg (by omega), hn]
end Go.Proofs.YtdlchlbngojljaaDoor.Gl
namespace Go.Proofs.YtdlchlbngojljaaDoor.Gl
open Go.RowKit
/-- Some place of A matches the rest of the text. -/
def Reach (l : List El) (A : Nat → Bool) (s : List UInt8) : Prop := ∃ i, i ≤ l.length ∧ A i = true ∧ mB (l.drop i) s = true
/-- A star may be left at any time. -/
def ClosedA (l : List El) (A : Nat → Bool) : Prop := ∀ i, starAt l i = true → A i = true → A (i + 1) = true
def nextA (l : List El) (A : Nat → Bool) (c : UInt8) (i : Nat) : Bool := (A i && starAt l i) || (match i with
 | 0 => false
 | j + 1 => A j && (match l[j]? with | some e => !e.star && e.set c | none => false))
theorem star_skip {l : List El} {i : Nat} {s : List UInt8} (h : starAt l i = true) (hm : mB (l.drop (i + 1)) s = true) : mB (l.drop i) s = true := by
 obtain ⟨e, he, hs⟩ := starAt_iff.1 h
 rw [drop_at he]
 exact (mB_star_cases hs).2 (Or.inl hm)
theorem reach_places {l : List El} {A A' : Nat → Bool} (h1 : ∀ i, A i = true → A' i = true) (h2 : ∀ i, i ≤ l.length → A' i = true → ∃ j, j ≤ i ∧ A j = true ∧ ∀ m, j ≤ m → m < i → starAt l m = true) (s : List UInt8) : Reach l A' s ↔ Reach l A s := by
 constructor
 ·rintro ⟨i, hi, ha, hm⟩
  obtain ⟨j, hj, hA, hstar⟩ := h2 i hi ha
  refine ⟨j, by omega, hA, ?_⟩
  obtain ⟨d, rfl⟩ : ∃ d, i = j + d := ⟨i - j, by omega⟩
  clear ha hj
  induction d with
  | zero => exact hm
  | succ d ih => exact ih (by omega) (star_skip (hstar (j + d) (by omega) (by omega)) hm) (fun m hm1 hm2 => hstar m hm1 (by omega))
 ·rintro ⟨i, hi, ha, hm⟩
  exact ⟨i, hi, h1 i ha, hm⟩
theorem reach_step {l : List El} {A : Nat → Bool} (hc : ClosedA l A) (hok : ∀ e ∈ l, e.ok) {c : UInt8} (ht : isText c = true) (t : List UInt8) : Reach l A (c :: t) ↔ Reach l (nextA l A c) t := by
 constructor
 ·rintro ⟨i, hi, ha, hm⟩
  obtain ⟨d, hd⟩ : ∃ d, l.length - i = d := ⟨_, rfl⟩
  induction d generalizing i with
  | zero =>
   rw [List.drop_of_length_le (by omega)] at hm
   simp [mB] at hm
  | succ d ih =>
   have hlt : i < l.length := by omega
   have he : l[i]? = some l[i] := List.getElem?_eq_getElem hlt
   generalize l[i] = e at he
   have hm' := hm
   rw [drop_at he] at hm'
   cases hs : e.star with
   | true =>
    have hst : starAt l i = true := starAt_iff.2 ⟨e, he, hs⟩
    rcases (mB_star_cases hs).1 hm' with h | ⟨x, u, hx, hset, h⟩
    ·exact ih (i + 1) (by omega) (hc i hst ha) h (by omega)
    ·cases hx
     refine ⟨i, hi, ?_, by rw [drop_at he]; exact h⟩
     unfold nextA
     rw [ha, hst]
     rfl
   | false =>
    obtain ⟨x, u, hx, hset, h⟩ := (mB_one e _ _ hs).1 hm'
    cases hx
    refine ⟨i + 1, by omega, ?_, h⟩
    unfold nextA
    simp only [he, ha, hs, hset]
    simp
 ·rintro ⟨i, hi, ha, hm⟩
  unfold nextA at ha
  rw [Bool.or_eq_true, Bool.and_eq_true] at ha
  rcases ha with ⟨ha, hst⟩ | ha
  ·obtain ⟨e, he, hs⟩ := starAt_iff.1 hst
   refine ⟨i, hi, ha, ?_⟩
   rw [drop_at he] at hm ⊢
   exact (mB_star_cases hs).2 (Or.inr ⟨c, t, rfl, (hok e (List.mem_of_getElem? he)).2 hs c ht, hm⟩)
  ·cases i with
   | zero => simp at ha
   | succ j =>
    have he : l[j]? = some (l[j]'(by omega)) := List.getElem?_eq_getElem (by omega)
    generalize l[j]'(by omega) = e at he
    simp only [he, Bool.and_eq_true, Bool.not_eq_true'] at ha
    refine ⟨j, by omega, ha.1, ?_⟩
    rw [drop_at he]
    exact (mB_one e _ _ ha.2.1).2 ⟨c, t, rfl, ha.2.2, hm⟩
theorem reach_end {l : List El} {A : Nat → Bool} (hc : ClosedA l A) : Reach l A [] ↔ A l.length = true := by
 constructor
 ·rintro ⟨i, hi, ha, hm⟩
  obtain ⟨d, hd⟩ : ∃ d, l.length - i = d := ⟨_, rfl⟩
  induction d generalizing i with
  | zero =>
   have : i = l.length := by omega
   rw [← this]; exact ha
  | succ d ih =>
   have hlt : i < l.length := by omega
   have he : l[i]? = some l[i] := List.getElem?_eq_getElem hlt
   generalize l[i] = e at he
   rw [drop_at he] at hm
   cases hs : e.star with
   | true =>
    have hst : starAt l i = true := starAt_iff.2 ⟨e, he, hs⟩
    rcases (mB_star_cases hs).1 hm with h | ⟨x, u, hx, _⟩
    ·exact ih (i + 1) (by omega) (hc i hst ha) h (by omega)
    ·simp at hx
   | false =>
    obtain ⟨x, u, hx, _⟩ := (mB_one e _ _ hs).1 hm
    simp at hx
 ·intro h
  exact ⟨l.length, Nat.le_refl _, h, by rw [List.drop_length]; rfl⟩
theorem reach_start (l : List El) (s : List UInt8) : Reach l (fun i => decide (i = 0)) s ↔ mB l s = true := by
 constructor
 ·rintro ⟨i, _, ha, hm⟩
  have : i = 0 := by simpa using ha
  subst this
  exact hm
 ·intro h
  exact ⟨0, Nat.zero_le _, rfl, h⟩
/-- One pass of 'places', up to n. -/
def placesA (l : List El) (A : Nat → Bool) : Nat → Nat → Bool
 | 0 => A
 | n + 1 => fun i => if i = n + 1 then placesA l A n (n + 1) || (placesA l A n n && starAt l n) else placesA l A n i
theorem placesA_succ (l : List El) (A : Nat → Bool) (n i : Nat) : placesA l A (n + 1) i = if i = n + 1 then placesA l A n (n + 1) || (placesA l A n n && starAt l n) else placesA l A n i := rfl
theorem placesA_high (l : List El) (A : Nat → Bool) : ∀ n i, n < i → placesA l A n i = A i
 | 0, _, _ => rfl
 | n + 1, i, h => by
  rw [placesA_succ, if_neg (by omega)]
  exact placesA_high l A n i (by omega)
theorem placesA_sub (l : List El) (A : Nat → Bool) : ∀ n i, A i = true → placesA l A n i = true
 | 0, _, h => h
 | n + 1, i, h => by
  rw [placesA_succ]
  split
  ·rename_i hi
   rw [← hi, placesA_sub l A n i h]
   rfl
  ·exact placesA_sub l A n i h
theorem placesA_from (l : List El) (A : Nat → Bool) : ∀ n i, placesA l A n i = true → ∃ j, j ≤ i ∧ A j = true ∧ ∀ m, j ≤ m → m < i → starAt l m = true
 | 0, i, h => ⟨i, Nat.le_refl _, h, fun m h1 h2 => by omega⟩
 | n + 1, i, h => by
  rw [placesA_succ] at h
  split at h
  ·rename_i hi
   rw [Bool.or_eq_true, Bool.and_eq_true] at h
   rcases h with h | ⟨h, hs⟩
   ·rw [hi]
    exact placesA_from l A n (n + 1) h
   ·obtain ⟨j, hj, ha, hm⟩ := placesA_from l A n n h
    refine ⟨j, by omega, ha, fun m h1 h2 => ?_⟩
    rcases Nat.lt_or_ge m n with h3 | h3
    ·exact hm m h1 h3
    ·have : m = n := by omega
     rw [this]; exact hs
  ·exact placesA_from l A n i h
theorem placesA_low (l : List El) (A : Nat → Bool) : ∀ n k i, i ≤ n → placesA l A (n + k) i = placesA l A n i
 | _, 0, _, _ => rfl
 | n, k + 1, i, h => by
  show placesA l A (n + k + 1) i = _
  rw [placesA_succ, if_neg (by omega)]
  exact placesA_low l A n k i h
theorem placesA_closed (l : List El) (A : Nat → Bool) : ClosedA l (placesA l A l.length) := by
 intro i hs ha
 have hi : i < l.length := starAt_lt hs
 obtain ⟨k, hk⟩ : ∃ k, l.length = i + 1 + k := ⟨l.length - (i + 1), by omega⟩
 rw [hk] at ha ⊢
 rw [placesA_low l A (i + 1) k (i + 1) (Nat.le_refl _)]
 rw [placesA_low l A (i + 1) k i (by omega), placesA_succ, if_neg (by omega)] at ha
 rw [placesA_succ, if_pos rfl, ha, hs, Bool.and_true, Bool.or_true]
theorem reach_placesA (l : List El) (A : Nat → Bool) (s : List UInt8) : Reach l (placesA l A l.length) s ↔ Reach l A s :=
 reach_places (placesA_sub l A _) (fun i _ h => placesA_from l A _ i h) s
/-- The places behind a text. -/
def runA (l : List El) : (Nat → Bool) → List UInt8 → (Nat → Bool)
 | A, [] => A
 | A, c :: t => runA l (placesA l (nextA l A c) l.length) t
theorem runA_match {l : List El} (hok : ∀ e ∈ l, e.ok) : ∀ (s : List UInt8) (A : Nat → Bool), ClosedA l A → s.all isText = true → (runA l A s l.length = true ↔ Reach l A s)
 | [], A, hc, _ => (reach_end hc).symm
 | c :: t, A, hc, hs => by
  rw [List.all_cons, Bool.and_eq_true] at hs
  rw [runA, runA_match hok t _ (placesA_closed l _) hs.2, reach_placesA, reach_step hc hok hs.1]
/-- What 'one' computes is what an alternative matches. -/
theorem one_match {l : List El} (hok : ∀ e ∈ l, e.ok) (s : List UInt8) (hs : s.all isText = true) : runA l (placesA l (fun i => decide (i = 0)) l.length) s l.length = mB l s := by
 rw [Bool.eq_iff_iff, runA_match hok s _ (placesA_closed l _) hs, reach_placesA, reach_start]
end Go.Proofs.YtdlchlbngojljaaDoor.Gl
