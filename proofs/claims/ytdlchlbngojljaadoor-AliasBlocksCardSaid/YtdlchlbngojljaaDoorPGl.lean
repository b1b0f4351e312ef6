/- Common. The order of texts, the least of all alternatives' texts, and patterns one behind the other. GlobChoices: the law's walk. Literal, GlobBegins: the law's walk. -/
import Derived.Test.YtdlchlbngojljaaDoorPGlAI
namespace Go.Proofs.YtdlchlbngojljaaDoor.Gl
open Go.RowKit
def cmnStep (st : Option (List UInt8)) (a b : List El) : Option (List UInt8) := match leastB a b with
 | none => st
 | some t => match st with
  | none => some t
  | some m => if lessB t m then some t else some m
def cmnRow (y : List (List El)) (st : Option (List UInt8)) (a : List El) : Option (List UInt8) := y.foldl (fun st b => cmnStep st a b) st
/-- The least text that two patterns' alternatives match. -/
def commonB (x y : List (List El)) : Option (List UInt8) := x.foldl (cmnRow y) none
theorem cmnRow_take {y : List (List El)} {j : Nat} {b : List El} (h : y[j]? = some b) (st : Option (List UInt8)) (a : List El) : cmnRow (y.take (j + 1)) st a = cmnStep (cmnRow (y.take j) st a) a b := by
 unfold cmnRow
 rw [List.take_add_one, h, List.foldl_append]
 rfl
theorem common_take {x y : List (List El)} {i : Nat} {a : List El} (h : x[i]? = some a) : (x.take (i + 1)).foldl (cmnRow y) none = cmnRow y ((x.take i).foldl (cmnRow y) none) a := by
 rw [List.take_add_one, h, List.foldl_append]
 rfl
def strOf (st : Option (List UInt8)) : Value := .string ⟨(st.getD []).toArray⟩
def comRes (p q : List UInt8) : Value := match altsP p with
 | none => .tuple #[.string ⟨#[]⟩, .bool false, .int .i64 (errP p)]
 | some x => match altsP q with
  | none => .tuple #[.string ⟨#[]⟩, .bool false, .int .i64 (errP q)]
  | some y => .tuple #[strOf (commonB x y), .bool (commonB x y).isSome, .int .i64 0]
theorem AltsAt.rows {w W : World} {G : Nat} {x : List (List El)} (h : ∀ (j : Nat) (a : List El), x[j]? = some a → ∃ aj cj gj, w.cell? ⟨G, j, none⟩ = some (.slice aj a.length cj) ∧ (0 < a.length → aj = some ⟨gj, 0, none⟩) ∧ gj < w.heap.size ∧ ElsAt w gj a) (hG : G < w.heap.size) (hb : Below w.heap.size w W) :
  ∀ (j : Nat) (a : List El), x[j]? = some a → ∃ aj cj gj, W.cell? ⟨G, j, none⟩ = some (.slice aj a.length cj) ∧ AltRow W (.slice aj a.length cj) a aj cj gj := fun j a hj => by
 obtain ⟨aj, cj, gj, h1, h2, h3, h4⟩ := h j a hj
 exact ⟨aj, cj, gj, (hb.cell (p := ⟨G, j, none⟩) hG).trans h1, rfl, h2, Nat.lt_of_lt_of_le h3 hb.size, h4.below hb h3⟩
set_option maxHeartbeats 1000000 in
set_option maxRecDepth 100000 in
theorem common_any (p q : ByteArray) (w : World) (hp : p.size ≤ 4611686018427387904) (hq : q.size ≤ 4611686018427387904) (hT : TabAt w) : Calls Tryd.prog 31 #[.string p, .string q] w (Bel (comRes p.data.toList q.data.toList) w) := by
 unfold comRes
 cases h : altsP p.data.toList with
 | none =>
  have hc := comp_none h hp
  have hne2 : (errP p.data.toList != 0) = true := by
   rcases errP_none h with h1 | h1 <;> rw [h1] <;> rfl
  simp only
  generalize errP p.data.toList = E at *
  have Hc := Lib.hid hc
  clear hc h
  go_enter Tryd.func31, Tryd.ntmps31
  go_wp2_with fail
  refine (Hc.out _).mono ?_
  rintro e W1 ⟨rfl, hb⟩
  go_wp2
  go_ret3
  exact ⟨rfl, hb⟩
 | some x =>
  cases h2 : altsP q.data.toList with
  | none =>
   have hc := comp_some h hp
   have hc2 := comp_none h2 hq
   have hne2 : (errP q.data.toList != 0) = true := by
    rcases errP_none h2 with h1 | h1 <;> rw [h1] <;> rfl
   simp only
   generalize errP q.data.toList = E at *
   have Hc := Lib.hid hc
   have Hc2 := Lib.hid hc2
   clear hc hc2 h h2
   go_enter Tryd.func31, Tryd.ntmps31
   go_wp2_with fail
   refine (Hc.out _).mono ?_
   rintro e W1 ⟨hb1, v1, rfl, hv1⟩
   go_wp2_with fail
   refine (Hc2.out _).mono ?_
   rintro e W2 ⟨rfl, hb2⟩
   go_wp2
   go_ret3
   exact ⟨rfl, hb1.trans (hb2.mono hb1.size)⟩
  | some y =>
   simp only
   have hc := comp_some h hp
   have hc2 := comp_some h2 hq
   obtain ⟨hxne, hxl, hxg⟩ := altsP_good h
   obtain ⟨hyne, hyl, hyg⟩ := altsP_good h2
   have Hc := Lib.hid hc
   have Hc2 := Lib.hid hc2
   clear hc hc2 h h2 hxne hyne
   go_enter Tryd.func31, Tryd.ntmps31
   go_wp2_with fail
   refine (Hc.out _).mono ?_
   rintro e W1 ⟨hb1, v1, rfl, hv1⟩
   obtain ⟨G1, cap1, rfl, hG1, _, hr1⟩ := hv1
   go_wp2_with fail
   refine (Hc2.out _).mono ?_
   rintro e W2 ⟨hb2, v2, rfl, hv2⟩
   obtain ⟨G2, cap2, rfl, hG2, _, hr2⟩ := hv2
   have hrx := fun W (hb : Below W2.heap.size W2 W) => AltsAt.rows (W := W) hr1 hG1 (hb2.trans (hb.mono hb2.size))
   have hry := fun W (hb : Below W2.heap.size W2 W) => AltsAt.rows (W := W) hr2 hG2 hb
   have hT2 : TabAt W2 := hT.below (hb1.trans (hb2.mono hb1.size))
   have hbw := hb1.trans (hb2.mono hb1.size)
   have hG1W : G1 < W2.heap.size := Nat.lt_of_lt_of_le hG1 hb2.size
   have Hrx := Lib.hid hrx
   have Hry := Lib.hid hry
   have HT2 := Lib.hid hT2
   have Hbw := Lib.hid hbw
   have Hxg := Lib.hid (fun a (ha : a ∈ x) => (hxg a ha).1)
   have Hyg := Lib.hid (fun a (ha : a ∈ y) => (hyg a ha).1)
   obtain ⟨N, hN⟩ : ∃ N, x.length = N := ⟨_, rfl⟩
   obtain ⟨M, hM⟩ : ∃ M, y.length = M := ⟨_, rfl⟩
   rw [hN] at hxl ⊢
   rw [hM] at hyl ⊢
   have HN := Lib.hid hN
   have HM := Lib.hid hM
   have hNi : (N : Int) ≤ 257 := by omega
   have hMi : (M : Int) ≤ 257 := by omega
   clear hb1 hb2 hr1 hr2 hG1 hG2 hrx hry hT2 hbw hxg hyg hN hM hT
   go_wp2
   go_loopw [10, 11, 36] (fun s10 s11 s36 wx => ∃ (i : Nat), i ≤ N ∧ s36 = .int .i64 i ∧ s10 = strOf ((x.take i).foldl (cmnRow y) none) ∧ s11 = .bool ((x.take i).foldl (cmnRow y) none).isSome ∧ Below W2.heap.size W2 wx) (fun _ _ s36 _ => N - (intOf s36).toNat)
   case atStart => exact ⟨0, Nat.zero_le _, rfl, rfl, rfl, Below.refl _ _⟩
   case round =>
    obtain ⟨i, hi, rfl, rfl, rfl, hbel⟩ := hrel
    have Hbel := Lib.hid hbel
    clear hbel
    obtain ⟨st0, hst0⟩ : ∃ st, (x.take i).foldl (cmnRow y) none = st := ⟨_, rfl⟩
    rw [hst0]
    by_cases hlt : (i : Int) < (N : Int)
    ·obtain ⟨a, ha⟩ : ∃ a, x[i]? = some a := ⟨x[i]'(by rw [HN.out]; omega), List.getElem?_eq_getElem _⟩
     obtain ⟨aj, cj, gj, hcell, harow⟩ := Hrx.out _ Hbel.out i a ha
     have hal := Hxg.out a (List.mem_of_getElem? ha)
     have hnext := common_take (y := y) ha
     rw [hst0] at hnext
     have Hnext := Lib.hid hnext
     have Hrowa := Lib.hid (fun W (hb : Below W2.heap.size W2 W) => Hrx.out W hb i a ha)
     have Ha := Lib.hid ha
     clear hnext hst0 harow ha
     go_wp2
     go_loopw [10, 11, 42] (fun s10 s11 s42 wx => ∃ (j : Nat), j ≤ M ∧ s42 = .int .i64 j ∧ s10 = strOf (cmnRow (y.take j) st0 a) ∧ s11 = .bool (cmnRow (y.take j) st0 a).isSome ∧ Below W2.heap.size W2 wx) (fun _ _ s42 _ => M - (intOf s42).toNat)
     case atStart => exact ⟨0, Nat.zero_le _, rfl, rfl, rfl, Hbel.out⟩
     case round =>
      obtain ⟨j, hj, rfl, rfl, rfl, hbel2⟩ := hrel
      have Hbel2 := Lib.hid hbel2
      clear hbel2
      obtain ⟨st, hst⟩ : ∃ st, cmnRow (y.take j) st0 a = st := ⟨_, rfl⟩
      rw [hst]
      by_cases hlt2 : (j : Int) < (M : Int)
      ·obtain ⟨b, hb⟩ : ∃ b, y[j]? = some b := ⟨y[j]'(by rw [HM.out]; omega), List.getElem?_eq_getElem _⟩
       obtain ⟨bj, dj, hj2, hcell2, hbrow⟩ := Hry.out _ Hbel2.out j b hb
       obtain ⟨aj', cj', gj', hcell', harow⟩ := Hrowa.out _ Hbel2.out
       have hca : aj' = aj ∧ cj' = cj := by
        obtain ⟨a1, c1, g1, h1, _⟩ := Hrowa.out _ Hbel.out
        have e1 := h1.symm.trans hcell
        have e2 := hcell'.symm.trans ((Hbel2.out.cell (p := ⟨G1, i, none⟩) hG1W).trans ((Hbel.out.cell (p := ⟨G1, i, none⟩) hG1W).symm.trans hcell))
        simp only [Option.some.injEq, Value.slice.injEq] at e2
        exact ⟨e2.1, e2.2.2⟩
       obtain ⟨rfl, rfl⟩ := hca
       have hbl := Hyg.out b (List.mem_of_getElem? hb)
       have hlc := leastCommon_any a b _ _ _ _ _ _ _ _ _ harow hbrow (HT2.out.below Hbel2.out) (by omega) (by omega)
       have hnext2 := cmnRow_take hb st0 a
       rw [hst] at hnext2
       unfold lcRes at hlc
       unfold cmnStep at hnext2
       cases hle : leastB a b with
       | none =>
        rw [hle] at hlc hnext2
        simp only at hlc hnext2
        have Hlc := Lib.hid hlc
        have Hn2 := Lib.hid hnext2
        clear hlc hnext2 hb hle hbrow harow hst
        go_wp2_with fail
        refine Hlc.out.mono ?_
        rintro e W3 ⟨rfl, hb3⟩
        have Hb3 := Lib.hid (Hbel2.out.trans (hb3.mono Hbel2.out.size))
        clear hb3
        go_wp2
        exact ⟨⟨j + 1, by omega, rfl, by rw [Hn2.out], by rw [Hn2.out], Hb3.out⟩, by simp [intOf]; omega⟩
       | some t =>
        rw [hle] at hlc hnext2
        simp only at hlc hnext2
        have Hlc := Lib.hid hlc
        clear hlc hb hle hbrow harow hst
        cases st with
        | none =>
         simp only at hnext2
         have Hn2 := Lib.hid hnext2
         clear hnext2
         have hs0 : strOf none = .string ⟨#[]⟩ := rfl
         rw [hs0]
         simp only [Option.isSome_none]
         go_wp2_with fail
         refine Hlc.out.mono ?_
         rintro e W3 ⟨rfl, hb3⟩
         have Hb3 := Lib.hid (Hbel2.out.trans (hb3.mono Hbel2.out.size))
         clear hb3
         go_wp2
         exact ⟨⟨j + 1, by omega, rfl, by rw [Hn2.out]; rfl, by rw [Hn2.out]; rfl, Hb3.out⟩, by simp [intOf]; omega⟩
        | some m =>
         simp only at hnext2
         have hs0 : strOf (some m) = .string ⟨m.toArray⟩ := rfl
         rw [hs0]
         simp only [Option.isSome_some]
         obtain ⟨bt, hbt⟩ : ∃ s : ByteArray, (⟨t.toArray⟩ : ByteArray) = s := ⟨_, rfl⟩
         obtain ⟨bm, hbm⟩ : ∃ s : ByteArray, (⟨m.toArray⟩ : ByteArray) = s := ⟨_, rfl⟩
         have hless := fun W => isLess_any bt bm W
         rw [show bt.data.toList = t from by rw [← hbt], show bm.data.toList = m from by rw [← hbm]] at hless
         rw [hbt] at Hlc
         rw [hbm]
         cases hl : lessB t m with
         | true =>
          rw [hl] at hless
          rw [if_pos hl] at hnext2
          have Hless := Lib.hid hless
          have Hn2 := Lib.hid hnext2
          have Hbt := Lib.hid hbt
          clear hnext2 hless hl hbt hbm
          go_wp2_with fail
          refine Hlc.out.mono ?_
          rintro e W3 ⟨rfl, hb3⟩
          have Hb3 := Lib.hid (Hbel2.out.trans (hb3.mono Hbel2.out.size))
          clear hb3
          go_wp2_with (go_at_call 47; refine (Hless.out _).mono ?_; rintro e W4 ⟨rfl, rfl⟩)
          exact ⟨⟨j + 1, by omega, rfl, by rw [Hn2.out, ← Hbt.out]; rfl, by rw [Hn2.out]; rfl, Hb3.out⟩, by simp [intOf]; omega⟩
         | false =>
          rw [hl] at hless
          rw [if_neg (by rw [hl]; simp)] at hnext2
          have Hless := Lib.hid hless
          have Hn2 := Lib.hid hnext2
          have Hbm := Lib.hid hbm
          clear hnext2 hless hl hbt hbm
          go_wp2_with fail
          refine Hlc.out.mono ?_
          rintro e W3 ⟨rfl, hb3⟩
          have Hb3 := Lib.hid (Hbel2.out.trans (hb3.mono Hbel2.out.size))
          clear hb3
          go_wp2_with (go_at_call 47; refine (Hless.out _).mono ?_; rintro e W4 ⟨rfl, rfl⟩)
          exact ⟨⟨j + 1, by omega, rfl, by rw [Hn2.out, ← Hbm.out]; rfl, by rw [Hn2.out]; rfl, Hb3.out⟩, by simp [intOf]; omega⟩
      ·obtain rfl : j = M := by omega
       have hfin2 : cmnRow y st0 a = st := by rw [← hst, ← HM.out, List.take_length]
       have Hf2 := Lib.hid hfin2
       clear hfin2 hst
       go_wp2
       exact ⟨⟨i + 1, by omega, rfl, by rw [Hnext.out, Hf2.out], by rw [Hnext.out, Hf2.out], Hbel2.out⟩, by simp [intOf]; omega⟩
    ·obtain rfl : i = N := by omega
     have hfin : commonB x y = st0 := by rw [← hst0, ← HN.out, List.take_length]; rfl
     have Hfin := Lib.hid hfin
     clear hfin hst0
     go_wp2
     go_ret3
     exact ⟨by rw [Hfin.out]; rfl, Hbw.out.trans (Hbel.out.mono Hbw.out.size)⟩
end Go.Proofs.YtdlchlbngojljaaDoor.Gl
namespace Go.Proofs.YtdlchlbngojljaaDoor.Gl
open Go.RowKit
theorem lexLe_refl : ∀ s : List UInt8, lexLe s s
 | [] => trivial
 | _ :: s => Or.inr ⟨rfl, lexLe_refl s⟩
theorem lexLe_total : ∀ s t : List UInt8, lexLe s t ∨ lexLe t s
 | [], _ => Or.inl trivial
 | _ :: _, [] => Or.inr trivial
 | c :: s, d :: t => by
  rcases Nat.lt_trichotomy c.toNat d.toNat with h | h | h
  ·exact Or.inl (Or.inl h)
  ·have := UInt8.toNat_inj.1 h
   subst this
   rcases lexLe_total s t with k | k
   ·exact Or.inl (Or.inr ⟨rfl, k⟩)
   ·exact Or.inr (Or.inr ⟨rfl, k⟩)
  ·exact Or.inr (Or.inl h)
theorem lexLe_trans : ∀ s t u : List UInt8, lexLe s t → lexLe t u → lexLe s u
 | [], _, _, _, _ => trivial
 | _ :: _, [], _, h, _ => h.elim
 | _ :: _, _ :: _, [], _, h => h.elim
 | c :: s, d :: t, e :: u, h, k => by
  rcases h with h | ⟨rfl, h⟩
  ·rcases k with k | ⟨rfl, _⟩
   ·exact Or.inl (Nat.lt_trans h k)
   ·exact Or.inl h
  ·rcases k with k | ⟨rfl, k⟩
   ·exact Or.inl k
   ·exact Or.inr ⟨rfl, lexLe_trans s t u h k⟩
theorem lexLe_less : ∀ t s : List UInt8, t.length = s.length → (lexLe t s ↔ Op.bytesLess s t = false)
 | [], [], _ => by simp [lexLe, Op.bytesLess]
 | [], _ :: _, h => by simp at h
 | _ :: _, [], h => by simp at h
 | c :: t, d :: s, h => by
  have ih := lexLe_less t s (by simpa using h)
  rw [lexLe, Op.bytesLess, Bool.or_eq_false_iff]
  rw [ih]
  constructor
  ·rintro (h1 | ⟨rfl, h1⟩)
   ·refine ⟨decide_eq_false fun h2 => ?_, ?_⟩
    ·have : d.toNat < c.toNat := h2
     omega
    ·rw [Bool.and_eq_false_iff]
     left
     rw [beq_eq_false_iff_ne]
     rintro rfl
     omega
   ·refine ⟨decide_eq_false fun h2 => ?_, by rw [h1, Bool.and_false]⟩
    have : c.toNat < c.toNat := h2
    omega
  ·rintro ⟨h1, h2⟩
   have h1' : ¬ d.toNat < c.toNat := fun h3 => of_decide_eq_false h1 h3
   by_cases he : c = d
   ·subst he
    right
    refine ⟨rfl, ?_⟩
    simpa using h2
   ·left
    have : c.toNat ≠ d.toNat := fun e => he (UInt8.toNat_inj.1 e)
    omega
def leB (t s : List UInt8) : Prop := t.length < s.length ∨ (t.length = s.length ∧ lexLe t s)
theorem leB_iff (t s : List UInt8) : lessB s t = false ↔ leB t s := by
 unfold lessB leB
 rw [Bool.or_eq_false_iff, Bool.and_eq_false_iff, decide_eq_false_iff_not, decide_eq_false_iff_not]
 constructor
 ·rintro ⟨h1, h2⟩
  by_cases h : t.length = s.length
  ·right
   refine ⟨h, (lexLe_less t s h).2 ?_⟩
   rcases h2 with h2 | h2
   ·exact absurd h.symm h2
   ·exact h2
  ·left; omega
 ·rintro (h | ⟨h, k⟩)
  ·exact ⟨by omega, Or.inl (by omega)⟩
  ·exact ⟨by omega, Or.inr ((lexLe_less t s h).1 k)⟩
theorem leB_refl (t : List UInt8) : leB t t := Or.inr ⟨rfl, lexLe_refl t⟩
theorem leB_trans {s t u : List UInt8} (h : leB s t) (k : leB t u) : leB s u := by
 rcases h with h | ⟨h, h'⟩
 ·rcases k with k | ⟨k, _⟩
  ·exact Or.inl (by omega)
  ·exact Or.inl (by omega)
 ·rcases k with k | ⟨k, k'⟩
  ·exact Or.inl (by omega)
  ·exact Or.inr ⟨by omega, lexLe_trans _ _ _ h' k'⟩
theorem leB_total (s t : List UInt8) : leB s t ∨ leB t s := by
 rcases Nat.lt_trichotomy s.length t.length with h | h | h
 ·exact Or.inl (Or.inl h)
 ·rcases lexLe_total s t with k | k
  ·exact Or.inl (Or.inr ⟨h, k⟩)
  ·exact Or.inr (Or.inr ⟨h.symm, k⟩)
 ·exact Or.inr (Or.inl h)
/-- st is the least of the texts that are in S. -/
def MinOf (S : List UInt8 → Prop) (st : Option (List UInt8)) : Prop := match st with
 | none => ∀ s, ¬ S s
 | some t => S t ∧ ∀ s, S s → leB t s
theorem MinOf.congr {S T : List UInt8 → Prop} {st : Option (List UInt8)} (h : MinOf S st) (hi : ∀ s, S s ↔ T s) : MinOf T st := by
 have : S = T := funext fun s => propext (hi s)
 rw [← this]; exact h
theorem cmnStep_min {S : List UInt8 → Prop} {st : Option (List UInt8)} (h : MinOf S st) (a b : List El) : MinOf (fun s => S s ∨ leastB a b = some s) (cmnStep st a b) := by
 unfold cmnStep
 cases hl : leastB a b with
 | none => exact h.congr fun s => by simp
 | some t =>
  cases st with
  | none => exact ⟨Or.inr rfl, fun s hs => by
    rcases hs with hs | hs
    ·exact absurd hs (h s)
    ·cases hs; exact leB_refl _⟩
  | some m =>
   simp only
   cases hlt : lessB t m with
   | true =>
    have hle : leB t m := by
     rcases leB_total t m with k | k
     ·exact k
     ·have := (leB_iff m t).2 k
      rw [hlt] at this
      cases this
    refine ⟨Or.inr rfl, fun s hs => ?_⟩
    rcases hs with hs | hs
    ·exact leB_trans hle (h.2 s hs)
    ·cases hs; exact leB_refl _
   | false =>
    refine ⟨Or.inl h.1, fun s hs => ?_⟩
    rcases hs with hs | hs
    ·exact h.2 s hs
    ·cases hs; exact (leB_iff m t).1 hlt
theorem cmnRow_min (a : List El) : ∀ (y : List (List El)) (S : List UInt8 → Prop) (st : Option (List UInt8)), MinOf S st → MinOf (fun s => S s ∨ ∃ b ∈ y, leastB a b = some s) (cmnRow y st a)
 | [], S, st, h => h.congr fun s => by simp
 | b :: y, S, st, h => by
  have := cmnRow_min a y _ _ (cmnStep_min h a b)
  exact this.congr fun s => by simp [or_assoc]
theorem common_min (y : List (List El)) : ∀ (x : List (List El)) (S : List UInt8 → Prop) (st : Option (List UInt8)), MinOf S st → MinOf (fun s => S s ∨ ∃ a ∈ x, ∃ b ∈ y, leastB a b = some s) (x.foldl (cmnRow y) st)
 | [], S, st, h => h.congr fun s => by simp
 | a :: x, S, st, h => by
  have := common_min y x _ _ (cmnRow_min a y S st h)
  exact this.congr fun s => by simp [or_assoc]
theorem commonB_min (x y : List (List El)) : MinOf (fun s => ∃ a ∈ x, ∃ b ∈ y, leastB a b = some s) (commonB x y) :=
 (common_min y x (fun _ => False) none (fun _ h => h)).congr fun s => by simp
theorem good_hz0 {a : List El} (b : List El) (h : ∀ e ∈ a, ElGood e) : ∀ z : Pr, ∀ y, stepP a b z.1 z.2 ≠ some (0, y) := by
 intro z y hs
 unfold stepP at hs
 split at hs
 ·rename_i e f he hf
  split at hs
  ·simp at hs
  ·simp only [Option.map_eq_some_iff, Prod.mk.injEq] at hs
   obtain ⟨c, hc, rfl, _⟩ := hs
   have h1 := (leastS_some hc).1
   rw [Bool.and_eq_true] at h1
   have := (h e (List.mem_of_getElem? he)).1.1 _ h1.1
   exact absurd this (by decide)
 ·simp at hs
/-- The texts that two lists of alternatives match in common, and the least of them. -/
theorem commonB_spec {x y : List (List El)} (hx : Good x) (hy : Good y) : match commonB x y with
  | none => ∀ s, s.length < never → (x.any fun a => mB a s) = true → (y.any fun a => mB a s) = true → False
  | some t => t.length < never ∧ (x.any fun a => mB a t) = true ∧ (y.any fun a => mB a t) = true ∧ ∀ s, (x.any fun a => mB a s) = true → (y.any fun a => mB a s) = true → leB t s := by
 have hab : ∀ a ∈ x, ∀ b ∈ y, a.length + b.length < never := fun a ha b hb => by
  have h1 := (hx a ha).1
  have h2 := (hy b hb).1
  unfold never
  omega
 have hcom : ∀ s, (x.any fun a => mB a s) = true → (y.any fun a => mB a s) = true → ∃ a ∈ x, ∃ b ∈ y, Com a b 0 0 s := fun s h1 h2 => by
  obtain ⟨a, ha, h1⟩ := List.any_eq_true.1 h1
  obtain ⟨b, hb, h2⟩ := List.any_eq_true.1 h2
  exact ⟨a, ha, b, hb, h1, h2⟩
 have hsp := fun a (ha : a ∈ x) b (hb : b ∈ y) => leastB_spec a b (good_hz0 b (hx a ha).2) (hab a ha b hb)
 have hm := commonB_min x y
 cases hc : commonB x y with
 | none =>
  rw [hc] at hm
  intro s hs h1 h2
  obtain ⟨a, ha, b, hb, h⟩ := hcom s h1 h2
  have := hsp a ha b hb
  cases hl : leastB a b with
  | none => rw [hl] at this; exact this s hs h
  | some t => exact hm t ⟨a, ha, b, hb, hl⟩
 | some t =>
  rw [hc] at hm
  obtain ⟨⟨a, ha, b, hb, hl⟩, hmin⟩ := hm
  have h0 := hsp a ha b hb
  rw [hl] at h0
  obtain ⟨⟨⟨m1, m2⟩, _⟩, hlen⟩ := h0
  refine ⟨hlen, List.any_eq_true.2 ⟨a, ha, m1⟩, List.any_eq_true.2 ⟨b, hb, m2⟩, fun s h1 h2 => ?_⟩
  obtain ⟨a', ha', b', hb', h⟩ := hcom s h1 h2
  have h3 := hsp a' ha' b' hb'
  cases hl' : leastB a' b' with
  | none =>
   rw [hl'] at h3
   rcases Nat.lt_or_ge s.length never with hs | hs
   ·exact absurd h (h3 s hs)
   ·exact Or.inl (Nat.lt_of_lt_of_le hlen hs)
  | some u =>
   rw [hl'] at h3
   exact leB_trans (hmin u ⟨a', ha', b', hb', hl'⟩) (h3.1.2 s h)
/-! One pattern behind the other. -/
theorem firstEl_append {c : UInt8} {r z : List UInt8} {e : El} {k : Nat} (h : firstEl c r = some (e, k)) : firstEl c (r ++ z) = some (e, k) ∧ k ≤ r.length := by
 unfold firstEl at h ⊢
 split
 ·rename_i h1
  rw [if_pos h1] at h
  simp only [Option.some.injEq, Prod.mk.injEq] at h
  exact ⟨by rw [h.1, h.2], by omega⟩
 ·rename_i h1
  rw [if_neg h1] at h
  split
  ·rename_i h2
   rw [if_pos h2] at h
   simp only [Option.some.injEq, Prod.mk.injEq] at h
   exact ⟨by rw [h.1, h.2], by omega⟩
  ·rename_i h2
   rw [if_neg h2] at h
   split
   ·rename_i h3
    rw [if_pos h3] at h
    split at h
    ·rename_i h4
     have hm : (93 : UInt8) ∈ r := by simpa using h4
     have hi : r.idxOf 93 < r.length := List.idxOf_lt_length_iff.2 hm
     have he : (r ++ z).idxOf 93 = r.idxOf 93 := by rw [List.idxOf_append, if_pos hm]
     rw [if_pos (by simpa using Or.inl hm), he, List.take_append_of_le_length (by omega)]
     refine ⟨h, ?_⟩
     simp only [Option.map_eq_some_iff, Prod.mk.injEq] at h
     obtain ⟨_, _, _, h5⟩ := h
     omega
    ·simp at h
   ·rename_i h3
    rw [if_neg h3] at h
    simp only [Option.some.injEq, Prod.mk.injEq] at h
    exact ⟨by rw [h.1, h.2], by omega⟩
theorem toks_append (z : List UInt8) : ∀ (n : Nat) (p : List UInt8) (T : List (Option El)), p.length ≤ n → toks p = some T → toks (p ++ z) = (toks z).map (T ++ ·)
 | _, [], T, _, h => by
  have : T = [] := by have h' : (some [] : Option (List (Option El))) = some T := h; cases h'; rfl
  subst this
  cases hz : toks z <;> simp [hz]
 | 0, _ :: _, _, hn, _ => by simp at hn
 | n + 1, c :: r, T, hn, h => by
  simp only [List.length_cons] at hn
  rw [toks_cons] at h
  rw [List.cons_append, toks_cons]
  split at h
  ·rename_i hc
   simp only [Option.map_eq_some_iff] at h
   obtain ⟨U, hU, rfl⟩ := h
   rw [if_pos hc, toks_append z n r U (by omega) hU]
   cases toks z <;> simp
  ·rename_i hc
   rw [if_neg hc]
   split at h
   ·simp at h
   ·rename_i e k hf
    simp only [Option.map_eq_some_iff] at h
    obtain ⟨U, hU, rfl⟩ := h
    obtain ⟨hf2, hk⟩ := firstEl_append (z := z) hf
    rw [hf2]
    simp only
    rw [List.drop_append_of_le_length hk, toks_append z n (r.drop k) U (by simp; omega) hU]
    cases toks z <;> simp
theorem toks_plain : ∀ (n : Nat) (p : List UInt8) (T : List (Option El)), p.length ≤ n → (124 : UInt8) ∉ p → toks p = some T → ∃ ts : List El, T = ts.map some
 | _, [], T, _, _, h => by
  have : T = [] := by have h' : (some [] : Option (List (Option El))) = some T := h; cases h'; rfl
  exact ⟨[], this⟩
 | 0, _ :: _, _, hn, _, _ => by simp at hn
 | n + 1, c :: r, T, hn, hp, h => by
  simp only [List.length_cons] at hn
  simp only [List.mem_cons, not_or] at hp
  rw [toks_cons, if_neg (fun e => hp.1 e.symm)] at h
  split at h
  ·simp at h
  ·rename_i e k hf
   simp only [Option.map_eq_some_iff] at h
   obtain ⟨U, hU, rfl⟩ := h
   obtain ⟨ts, rfl⟩ := toks_plain n (r.drop k) U (by simp; omega) (fun hm => hp.2 (List.mem_of_mem_drop hm)) hU
   exact ⟨e :: ts, rfl⟩
theorem altsOf_plain (ts : List El) : altsOf (ts.map some) = [ts] := by
 induction ts with
 | nil => rfl
 | cons e r ih => simp [altsOf, ih]
theorem all_text {p : List UInt8} (h : p.all isText = true) : allIn TextSet p = true := by
 unfold allIn
 rw [← h]
 exact congrArg (fun f => p.all f) (funext text_iff)
theorem altsP_choice {p q : List UInt8} {x y : List (List El)} (hx : altsP p = some x) (hy : altsP q = some y) (hl : p.length + q.length + 1 ≤ 256) : altsP (p ++ 124 :: q) = some (x ++ y) := by
 obtain ⟨_, hpt, T, hT, rfl⟩ := altsP_parts hx
 obtain ⟨_, hqt, U, hU, rfl⟩ := altsP_parts hy
 unfold altsP
 rw [if_neg (by simp; omega), if_neg (by
  rw [all_text (by rw [List.all_append, hpt, List.all_cons, hqt]; decide)]
  simp)]
 rw [toks_append _ _ p T (Nat.le_refl _) hT, toks_cons, if_pos rfl, hU]
 simp [altsOf_none]
theorem patB_choice {p q : List UInt8} {x y : List (List El)} (hx : altsP p = some x) (hy : altsP q = some y) (hl : p.length + q.length + 1 ≤ 256) (s : List UInt8) : patB (p ++ 124 :: q) s = (patB p s || patB q s) := by
 unfold patB
 rw [altsP_choice hx hy hl, hx, hy]
 simp [List.any_append]
theorem patB_join {p q : List UInt8} {x y : List (List El)} (hx : altsP p = some x) (hy : altsP q = some y) (hl : p.length + q.length ≤ 256) (hp : (124 : UInt8) ∉ p) (hq : (124 : UInt8) ∉ q) (s : List UInt8) :
  patB (p ++ q) s = true ↔ ∃ i, i ≤ s.length ∧ patB p (s.take i) = true ∧ patB q (s.drop i) = true := by
 obtain ⟨_, hpt, T, hT, rfl⟩ := altsP_parts hx
 obtain ⟨_, hqt, U, hU, rfl⟩ := altsP_parts hy
 obtain ⟨ts, rfl⟩ := toks_plain _ p T (Nat.le_refl _) hp hT
 obtain ⟨us, rfl⟩ := toks_plain _ q U (Nat.le_refl _) hq hU
 have h : altsP (p ++ q) = some [ts ++ us] := by
  unfold altsP
  rw [if_neg (by simp; omega), if_neg (by
   rw [all_text (by rw [List.all_append, hpt, hqt]; rfl)]
   simp)]
  rw [toks_append _ _ p _ (Nat.le_refl _) hT, hU]
  simp only [Option.map_some, Option.some.injEq]
  rw [← List.map_append, altsOf_plain]
 unfold patB
 rw [h, hx, hy, altsOf_plain, altsOf_plain]
 simp only [List.any_cons, List.any_nil, Bool.or_false]
 exact mB_append ts us s
end Go.Proofs.YtdlchlbngojljaaDoor.Gl
namespace Go.Proofs.YtdlchlbngojljaaDoor.Gl
open Go.RowKit
theorem bar_bytes (p q : ByteArray) : (p ++ ⟨#[124]⟩ ++ q).data.toList = p.data.toList ++ 124 :: q.data.toList := by simp
theorem bytes_append (p q : ByteArray) : (p ++ q).data.toList = p.data.toList ++ q.data.toList := by simp
end Go.Proofs.YtdlchlbngojljaaDoor.Gl
namespace Go.Proofs.YtdlchlbngojljaaDoor.Gl
open Go.RowKit
/-- The only text of a pattern without wildcards. -/
def litL (L : List (List El)) : Option (List UInt8) := match L with
 | [a] => if (begB a).length < a.length then none else some (begB a)
 | _ => none
def litB (p : List UInt8) : Option (List UInt8) := (altsP p).bind litL
def litRes (p : List UInt8) : Value := .tuple #[strOf (litB p), .bool (litB p).isSome]
theorem take_same : ∀ s t : List UInt8, s.take (sameB s t) <+: t
 | [], t => by simp [sameB]
 | _ :: _, [] => by simp [sameB]
 | a :: s, b :: t => by
  unfold sameB
  split
  ·rename_i h
   subst h
   rw [List.take_succ_cons]
   exact List.cons_prefix_cons.2 ⟨rfl, take_same s t⟩
  ·simp
theorem fold_prefix : ∀ (r : List (List El)) (m : List UInt8), (r.foldl (fun s x => s.take (sameB s (begB x))) m) <+: m ∧ ∀ x ∈ r, (r.foldl (fun s x => s.take (sameB s (begB x))) m) <+: begB x
 | [], m => ⟨List.prefix_refl m, fun x hx => by simp at hx⟩
 | y :: r, m => by
  obtain ⟨h1, h2⟩ := fold_prefix r (m.take (sameB m (begB y)))
  rw [List.foldl_cons]
  refine ⟨h1.trans (List.take_prefix _ _), fun x hx => ?_⟩
  rcases List.mem_cons.1 hx with rfl | hx
  ·exact h1.trans (take_same _ _)
  ·exact h2 x hx
theorem pref_prefix {L : List (List El)} {a : List El} (ha : a ∈ L) : prefB L <+: begB a := by
 cases L with
 | nil => simp at ha
 | cons y r =>
  obtain ⟨h1, h2⟩ := fold_prefix r (begB y)
  rcases List.mem_cons.1 ha with rfl | ha
  ·exact h1
  ·exact h2 a ha
theorem self_byte {e : El} (h : ElGood e) (hs : e.self = true) : ∃ b, e.star = false ∧ (∀ c, e.set c = true ↔ c = b) ∧ (leastS e.set).getD 0 = b := by
 obtain ⟨b, _, h1, h2⟩ := h.2 hs
 have hb : ∀ c, e.set c = true ↔ c = b := fun c => by rw [h2]; simp
 obtain ⟨c, hc, hc2, _⟩ := leastS_of ((hb b).2 rfl)
 exact ⟨b, h1, hb, by rw [hc]; exact (hb c).1 hc2⟩
theorem beg_prefix : ∀ (a : List El), (∀ e ∈ a, ElGood e) → ∀ s, mB a s = true → begB a <+: s
 | [], _, s, _ => by simp [begB]
 | e :: r, h, s, hm => by
  unfold begB
  cases hs : e.self with
  | false => simp
  | true =>
   obtain ⟨b, h1, h2, h3⟩ := self_byte (h e List.mem_cons_self) hs
   obtain ⟨c, t, rfl, hc, ht⟩ := (mB_one e r s h1).1 hm
   rw [h3, (h2 c).1 hc]
   simp only [if_true]
   exact List.cons_prefix_cons.2 ⟨rfl, beg_prefix r (fun f hf => h f (List.mem_cons_of_mem _ hf)) t ht⟩
theorem lit_match : ∀ (a : List El), (∀ e ∈ a, ElGood e) → a.length ≤ (begB a).length → ∀ s, mB a s = true ↔ s = begB a
 | [], _, _, s => by simp [mB, begB]
 | e :: r, h, hl, s => by
  cases hs : e.self with
  | false => simp [begB, hs] at hl
  | true =>
   obtain ⟨b, h1, h2, h3⟩ := self_byte (h e List.mem_cons_self) hs
   have hbe : begB (e :: r) = b :: begB r := by rw [begB, hs, h3]; rfl
   rw [hbe] at hl ⊢
   have ih := lit_match r (fun f hf => h f (List.mem_cons_of_mem _ hf)) (by simpa using hl)
   rw [mB_one e r s h1]
   constructor
   ·rintro ⟨c, t, rfl, hc, ht⟩
    rw [(h2 c).1 hc, (ih t).1 ht]
   ·rintro rfl
    exact ⟨b, begB r, rfl, (h2 b).2 rfl, (ih _).2 rfl⟩
theorem begins_prefix {p s : List UInt8} {L : List (List El)} (hx : altsP p = some L) (h : patB p s = true) : Lib.hasPrefix s (prefB L) = true := by
 unfold patB at h
 rw [hx] at h
 obtain ⟨a, ha, hm⟩ := List.any_eq_true.1 h
 unfold Lib.hasPrefix
 exact List.isPrefixOf_iff_prefix.2 ((pref_prefix ha).trans (beg_prefix a (altsP_Good hx a ha).2 s hm))
theorem lit_parts {p l : List UInt8} (h : litB p = some l) : ∃ a, altsP p = some [a] ∧ l = begB a ∧ a.length ≤ (begB a).length := by
 unfold litB at h
 obtain ⟨L, hL, h⟩ := Option.bind_eq_some_iff.1 h
 unfold litL at h
 split at h
 ·rename_i a
  split at h
  ·simp at h
  ·cases h
   exact ⟨a, hL, rfl, by omega⟩
 ·simp at h
theorem begins_lit {p l : List UInt8} {L : List (List El)} (hx : altsP p = some L) (h : litB p = some l) (s : List UInt8) : prefB L = l ∧ patB p s = (s == l) := by
 obtain ⟨a, ha, rfl, hl⟩ := lit_parts h
 rw [hx] at ha
 cases ha
 refine ⟨rfl, ?_⟩
 unfold patB
 rw [hx]
 simp only [List.any_cons, List.any_nil, Bool.or_false]
 rw [Bool.eq_iff_iff, lit_match a (altsP_Good hx a List.mem_cons_self).2 hl s]
 simp
end Go.Proofs.YtdlchlbngojljaaDoor.Gl
