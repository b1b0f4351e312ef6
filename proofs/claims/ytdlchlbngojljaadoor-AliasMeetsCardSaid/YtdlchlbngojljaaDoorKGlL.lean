/- Check, and what a pattern's alternatives are. -/
import Derived.Test.YtdlchlbngojljaaDoorKGlK
namespace Go.Proofs.YtdlchlbngojljaaDoor.Gl
open Go.RowKit
/-- The alternatives of a pattern, and the error of a text that is none. -/
def altsP (p : List UInt8) : Option (List (List El)) := if 256 < p.length then none else if allIn TextSet p = false then none else (toks p).map altsOf
def errP (p : List UInt8) : Int := if 256 < p.length then 21 else if (altsP p).isSome then 0 else 20
theorem errP_some {p : List UInt8} {L : List (List El)} (h : altsP p = some L) : errP p = 0 := by
 unfold errP
 rw [h]
 unfold altsP at h
 split at h
 ·simp at h
 ·rename_i h1
  rw [if_neg h1]
  rfl
theorem errP_none {p : List UInt8} (h : altsP p = none) : errP p = 20 ∨ errP p = 21 := by
 unfold errP
 rw [h]
 split
 ·exact Or.inr rfl
 ·exact Or.inl rfl
def CPost (p : List UInt8) (w : World) (e : Ending) (w' : World) : Prop := Below w.heap.size w w' ∧ match altsP p with
 | none => e = .returned (.tuple #[.slice none 0 0, .int .i64 (errP p)])
 | some L => ∃ v, e = .returned (.tuple #[v, .int .i64 0]) ∧ AltsAt w' v L
theorem comp_any (p : ByteArray) (w : World) (hp : p.size ≤ 4611686018427387904) : Calls Tryd.prog 35 #[.string p] w (CPost p.data.toList w) := by
 refine (compile_any p w hp).mono ?_
 rintro e w' ⟨hb, h⟩
 refine ⟨hb, ?_⟩
 unfold errP altsP
 split at h
 ·rename_i h1
  simp only [if_pos h1]
  exact h
 ·rename_i h1
  simp only [if_neg h1]
  split at h
  ·rename_i h2
   simp only [if_pos h2]
   exact h
  ·rename_i h2
   simp only [if_neg h2]
   cases ht : toks p.data.toList with
   | none => rw [ht] at h; exact h
   | some T => rw [ht] at h; exact h
theorem comp_none {p : ByteArray} (h : altsP p.data.toList = none) (hp : p.size ≤ 4611686018427387904) (w : World) : Calls Tryd.prog 35 #[.string p] w (Bel (.tuple #[.slice none 0 0, .int .i64 (errP p.data.toList)]) w) := by
 refine (comp_any p w hp).mono ?_
 rintro e w' ⟨hb, h1⟩
 rw [h] at h1
 exact ⟨h1, hb⟩
theorem comp_some {p : ByteArray} {L : List (List El)} (h : altsP p.data.toList = some L) (hp : p.size ≤ 4611686018427387904) (w : World) : Calls Tryd.prog 35 #[.string p] w (fun e w' => Below w.heap.size w w' ∧ ∃ v, e = .returned (.tuple #[v, .int .i64 0]) ∧ AltsAt w' v L) := by
 refine (comp_any p w hp).mono ?_
 rintro e w' ⟨hb, h1⟩
 rw [h] at h1
 exact ⟨hb, h1⟩
theorem text_iff (b : UInt8) : TextSet.contains b = isText b := by
 have := forall_u8 (p := fun b => TextSet.contains b == isText b) (by decide +kernel) b
 simpa using this
/-- The sets of a pattern have bytes of texts only. -/
def okSet (S : UInt8 → Bool) : Prop := ∀ b, S b = true → isText b = true
theorem range_ok {a c : UInt8} (ha : isText a = true) (hc : isText c = true) : okSet (rangeB a c) := by
 intro b hb
 unfold isText rangeB at *
 simp only [Bool.and_eq_true, decide_eq_true_eq] at *
 omega
theorem or_ok {S T : UInt8 → Bool} (hS : okSet S) (hT : okSet T) : okSet fun x => S x || T x := by
 intro b hb
 rcases Bool.or_eq_true_iff.1 hb with h | h
 ·exact hS b h
 ·exact hT b h
theorem memB_ok : ∀ (n : Nat) (l : List UInt8) (S R : UInt8 → Bool), l.length ≤ n → l.all isText = true → okSet S → memB S l = some R → okSet R
 | _, [], S, R, _, _, hS, h => by rw [memB] at h; cases h; exact hS
 | 0, _ :: _, _, _, hn, _, _, _ => by simp at hn
 | n + 1, a :: t, S, R, hn, hl, hS, h => by
  rw [List.all_cons, Bool.and_eq_true] at hl
  simp only [List.length_cons] at hn
  by_cases hs : t.length < 2 ∨ t[0]? ≠ some 45
  ·rw [memB_single S a t hs] at h
   exact memB_ok n t _ R (by omega) hl.2 (or_ok hS (range_ok hl.1 hl.1)) h
  ·match t, hs, hl, hn, h with
   | [], hs, _, _, _ => exact absurd (Or.inl (by simp)) hs
   | [_], hs, _, _, _ => exact absurd (Or.inl (by simp)) hs
   | b :: c :: u, hs, hl, hn, h =>
    have hb : b = 45 := by
     rw [not_or] at hs
     simpa using Decidable.of_not_not hs.2
    subst hb
    rw [memB_range] at h
    split at h
    ·simp at h
    ·simp only [List.all_cons, Bool.and_eq_true] at hl
     exact memB_ok n u _ R (by simp only [List.length_cons] at hn; omega) hl.2.2.2 (or_ok hS (range_ok hl.1 hl.2.2.1)) h
theorem firstEl_ok {c : UInt8} {r : List UInt8} {e : El} {k : Nat} (hc : isText c = true) (hr : r.all isText = true) (h : firstEl c r = some (e, k)) : e.ok ∧ (e.self = true → ∃ b, isText b = true ∧ e.star = false ∧ e.set = fun x => x == b) := by
 unfold firstEl at h
 split at h
 ·simp only [Option.some.injEq, Prod.mk.injEq] at h
  obtain ⟨rfl, _⟩ := h
  exact ⟨⟨fun _ h => h, fun _ _ h => h⟩, fun h => by simp at h⟩
 ·split at h
  ·simp only [Option.some.injEq, Prod.mk.injEq] at h
   obtain ⟨rfl, _⟩ := h
   exact ⟨⟨fun _ h => h, fun h => by simp at h⟩, fun h => by simp at h⟩
  ·split at h
   ·split at h
    ·simp only [Option.map_eq_some_iff, Prod.mk.injEq] at h
     obtain ⟨S, hS, rfl, _⟩ := h
     refine ⟨⟨?_, fun h => by simp at h⟩, fun h => by simp at h⟩
     have hrt : (r.take (r.idxOf 93)).all isText = true := List.all_eq_true.2 fun x hx => List.all_eq_true.1 hr x (List.mem_of_mem_take hx)
     generalize r.take (r.idxOf 93) = m at *
     show okSet S
     unfold setB at hS
     split at hS
     ·simp at hS
     ·rename_i d u
      rw [List.all_cons, Bool.and_eq_true] at hrt
      split at hS
      ·split at hS
       ·simp at hS
       ·simp only [Option.map_eq_some_iff] at hS
        obtain ⟨R, hR, rfl⟩ := hS
        intro b hb
        rw [Bool.and_eq_true] at hb
        exact hb.1
      ·exact memB_ok _ _ _ S (Nat.le_refl _) (by rw [List.all_cons, hrt.1, hrt.2]; rfl) (fun _ h => by simp at h) hS
    ·simp at h
   ·simp only [Option.some.injEq, Prod.mk.injEq] at h
    obtain ⟨rfl, _⟩ := h
    refine ⟨⟨fun b hb => ?_, fun h => by simp at h⟩, fun _ => ⟨c, hc, rfl, rfl⟩⟩
    have : b = c := by simpa using hb
    rw [this]; exact hc
def ElGood (e : El) : Prop := e.ok ∧ (e.self = true → ∃ b, isText b = true ∧ e.star = false ∧ e.set = fun x => x == b)
theorem toks_good : ∀ (n : Nat) (p : List UInt8) (T : List (Option El)), p.length ≤ n → p.all isText = true → toks p = some T → (∀ e, some e ∈ T → ElGood e) ∧ T.length ≤ p.length
 | _, [], T, _, _, h => by
  have : T = [] := by have h' : (some [] : Option (List (Option El))) = some T := h; cases h'; rfl
  subst this
  exact ⟨fun e he => by simp at he, Nat.le_refl _⟩
 | 0, _ :: _, _, hn, _, _ => by simp at hn
 | n + 1, c :: r, T, hn, hl, h => by
  rw [List.all_cons, Bool.and_eq_true] at hl
  simp only [List.length_cons] at hn
  rw [toks_cons] at h
  split at h
  ·simp only [Option.map_eq_some_iff] at h
   obtain ⟨U, hU, rfl⟩ := h
   obtain ⟨i1, i2⟩ := toks_good n r U (by omega) hl.2 hU
   exact ⟨fun e he => i1 e (by simpa using he), by simp; exact i2⟩
  ·split at h
   ·simp at h
   ·rename_i e k hf
    simp only [Option.map_eq_some_iff] at h
    obtain ⟨U, hU, rfl⟩ := h
    obtain ⟨i1, i2⟩ := toks_good n (r.drop k) U (by simp; omega) (List.all_eq_true.2 fun x hx => List.all_eq_true.1 hl.2 x (List.mem_of_mem_drop hx)) hU
    refine ⟨fun f hf' => ?_, by simp at i2 ⊢; omega⟩
    rcases List.mem_cons.1 hf' with h1 | h1
    ·cases h1
     exact firstEl_ok hl.1 hl.2 hf
    ·exact i1 f h1
theorem altsOf_mem {T : List (Option El)} {a : List El} {e : El} (ha : a ∈ altsOf T) (he : e ∈ a) : some e ∈ T := by
 induction T generalizing a with
 | nil => simp [altsOf] at ha; subst ha; simp at he
 | cons x t ih => cases x with
  | none =>
   simp only [altsOf, List.mem_cons] at ha
   rcases ha with rfl | ha
   ·simp at he
   ·exact List.mem_cons_of_mem _ (ih ha he)
  | some f =>
   simp only [altsOf] at ha
   cases hh : altsOf t with
   | nil => exact absurd hh (altsOf_ne t)
   | cons h r =>
    rw [hh] at ha
    simp only [List.mem_cons] at ha
    rcases ha with rfl | ha
    ·rcases List.mem_cons.1 he with rfl | he
     ·exact List.mem_cons_self
     ·exact List.mem_cons_of_mem _ (ih (by rw [hh]; exact List.mem_cons_self) he)
    ·exact List.mem_cons_of_mem _ (ih (by rw [hh]; exact List.mem_cons_of_mem _ ha) he)
theorem altsOf_size (T : List (Option El)) : (altsOf T).length ≤ T.length + 1 ∧ ∀ a ∈ altsOf T, a.length ≤ T.length := by
 induction T with
 | nil => simp [altsOf]
 | cons x t ih => cases x with
  | none =>
   refine ⟨by simp [altsOf]; exact ih.1, fun a ha => ?_⟩
   simp only [altsOf, List.mem_cons] at ha
   rcases ha with rfl | ha
   ·simp
   ·have := ih.2 a ha; simp; omega
  | some f =>
   simp only [altsOf]
   cases hh : altsOf t with
   | nil => exact absurd hh (altsOf_ne t)
   | cons h r =>
    rw [hh] at ih
    refine ⟨by have := ih.1; simp at this ⊢; omega, fun a ha => ?_⟩
    simp only [List.mem_cons] at ha
    rcases ha with rfl | ha
    ·have := ih.2 h List.mem_cons_self; simp; exact this
    ·have := ih.2 a (List.mem_cons_of_mem _ ha); simp; omega
theorem altsP_parts {p : List UInt8} {L : List (List El)} (h : altsP p = some L) : p.length ≤ 256 ∧ p.all isText = true ∧ ∃ T, toks p = some T ∧ L = altsOf T := by
 unfold altsP at h
 split at h
 ·simp at h
 ·split at h
  ·simp at h
  ·rename_i h1 h2
   simp only [Option.map_eq_some_iff] at h
   obtain ⟨T, hT, rfl⟩ := h
   refine ⟨by omega, ?_, T, hT, rfl⟩
   have : allIn TextSet p = true := by simpa using h2
   unfold allIn at this
   rw [← this]
   exact congrArg (fun f => p.all f) (funext fun b => (text_iff b).symm)
theorem altsP_good {p : List UInt8} {L : List (List El)} (h : altsP p = some L) : L ≠ [] ∧ L.length ≤ 257 ∧ ∀ a ∈ L, a.length ≤ 256 ∧ ∀ e ∈ a, ElGood e := by
 obtain ⟨hp, ht, T, hT, rfl⟩ := altsP_parts h
 obtain ⟨g1, g2⟩ := toks_good _ p T (Nat.le_refl _) ht hT
 obtain ⟨s1, s2⟩ := altsOf_size T
 exact ⟨altsOf_ne T, by omega, fun a ha => ⟨by have := s2 a ha; omega, fun e he => g1 e (altsOf_mem ha he)⟩⟩
/-- How many bytes are the same at the beginning. -/
def sameB : List UInt8 → List UInt8 → Nat
 | a :: s, b :: t => if a = b then sameB s t + 1 else 0
 | _, _ => 0
theorem sameB_at {s t : List UInt8} {n : Nat} (h : s.take n = t.take n) (hs : n ≤ s.length) (ht : n ≤ t.length) : sameB s t = n + sameB (s.drop n) (t.drop n) := by
 induction n generalizing s t with
 | zero => simp
 | succ n ih =>
  match s, t, hs, ht, h with
  | a :: s, b :: t, hs, ht, h =>
   simp only [List.take_succ_cons, List.cons.injEq] at h
   obtain ⟨rfl, h⟩ := h
   simp only [List.length_cons] at hs ht
   rw [sameB, if_pos rfl, ih h (by omega) (by omega), List.drop_succ_cons, List.drop_succ_cons]
   omega
set_option maxHeartbeats 400000 in
set_option maxRecDepth 100000 in
theorem sameBytes_any (a b : ByteArray) (w : World) (ha : a.size ≤ 4611686018427387904) (hb : b.size ≤ 4611686018427387904) : Calls Tryd.prog 59 #[.string a, .string b] w (Drw (.int .i64 (sameB a.data.toList b.data.toList : Nat)) w) := by
 have hsa := Lib.size_eq a
 have hsb := Lib.size_eq b
 have hai : (a.size : Int) ≤ 4611686018427387904 := by omega
 have hbi : (b.size : Int) ≤ 4611686018427387904 := by omega
 have Hsa := Lib.hid hsa
 have Hsb := Lib.hid hsb
 clear hsa hsb
 go_enter Tryd.func59, Tryd.ntmps59
 go_wp2
 go_loopw [5] (fun s5 wx => ∃ n : Nat, n ≤ a.size ∧ n ≤ b.size ∧ s5 = .int .i64 n ∧ a.data.toList.take n = b.data.toList.take n ∧ Dr w wx) (fun s5 _ => a.size - (intOf s5).toNat)
 case atStart => exact ⟨0, by omega, by omega, rfl, rfl, Dr.refl w⟩
 case round =>
  obtain ⟨n, hna, hnb, rfl, htake, hdr⟩ := hrel
  have Htake := Lib.hid htake
  have Hdr := Lib.hid hdr
  clear htake hdr
  by_cases hlt : n < min a.size b.size
  ·have hnai : (n : Int) < (a.size : Int) := by omega
   have hnbi : (n : Int) < (b.size : Int) := by omega
   have hmin : (n : Int) < min (a.size : Int) (b.size : Int) := by omega
   obtain ⟨x, hx⟩ : ∃ x : UInt8, a[n]'(by omega) = x := ⟨_, rfl⟩
   obtain ⟨y, hy⟩ : ∃ y : UInt8, b[n]'(by omega) = y := ⟨_, rfl⟩
   have hxl : a.data.toList[n]? = some x := by rw [← hx]; exact Lib.data_getElem? a n (by omega)
   have hyl : b.data.toList[n]? = some y := by rw [← hy]; exact Lib.data_getElem? b n (by omega)
   by_cases hxy : x = y
   ·have Hn := Lib.hid (show a.data.toList.take (n + 1) = b.data.toList.take (n + 1) by rw [List.take_add_one, List.take_add_one, hxl, hyl, Htake.out, hxy])
    have hq : ((x.toNat : Int) == (y.toNat : Int)) = true := by rw [hxy]; simp
    clear hxl hyl
    go_wp2
    go_quiet (fail)
    go_wp2
    exact ⟨⟨n + 1, by omega, by omega, rfl, Hn.out, Hdr.out.drewN _⟩, by simp [intOf]; omega⟩
   ·have hv : sameB a.data.toList b.data.toList = n := by
     rw [sameB_at Htake.out (by rw [← Hsa.out]; omega) (by rw [← Hsb.out]; omega), drop_at8 hxl, drop_at8 hyl, sameB, if_neg hxy]
     rfl
    have hq : ((x.toNat : Int) == (y.toNat : Int)) = false := by rw [beq_eq_false_iff_ne]; intro e; exact hxy (UInt8.toNat_inj.1 (by omega))
    have Hv := Lib.hid hv
    clear hxl hyl hv
    go_wp2
    go_quiet (fail)
    go_wp2
    go_ret
    exact ⟨by rw [Hv.out]; rfl, Hdr.out.drewN _⟩
  ·have hv : sameB a.data.toList b.data.toList = n := by
    rw [sameB_at Htake.out (by rw [← Hsa.out]; omega) (by rw [← Hsb.out]; omega)]
    rcases (by omega : n = a.size ∨ n = b.size) with h | h
    ·rw [h, Hsa.out, List.drop_length]
     rfl
    ·rw [h, Hsb.out, List.drop_length]
     cases a.data.toList.drop b.data.toList.length <;> rfl
   have Hv := Lib.hid hv
   have hmin : ¬ (n : Int) < min (a.size : Int) (b.size : Int) := by omega
   have hmind : decide ((n : Int) < min (a.size : Int) (b.size : Int)) = false := decide_eq_false hmin
   clear hv
   go_wp2
   go_quiet (fail)
   go_wp2
   go_ret
   exact ⟨by rw [Hv.out]; rfl, Hdr.out.drewN _⟩
end Go.Proofs.YtdlchlbngojljaaDoor.Gl
