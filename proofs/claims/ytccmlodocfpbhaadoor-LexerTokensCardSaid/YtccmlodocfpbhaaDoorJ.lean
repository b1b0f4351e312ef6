/- firstLine: plain facts on cutting a text at line feeds, and the function. -/
import Derived.Test.YtccmlodocfpbhaaDoorI
import Derived.Test.YtccmlodocfpbhaaDoorH
namespace Go.Proofs.YtccmlodocfpbhaaDoor
open Go.RowKit

def cutL (s : List UInt8) : List UInt8 × List UInt8 := (s.takeWhile (· != 10), (s.dropWhile (· != 10)).drop 1)
theorem cutL_feed (s : List UInt8) : cutL (10 :: s) = ([], s) := rfl
theorem cutL_cons {b : UInt8} (h : b ≠ 10) (s : List UInt8) : cutL (b :: s) = (b :: (cutL s).1, (cutL s).2) := by
  have e : (b != 10) = true := by simpa using h
  unfold cutL
  rw [List.takeWhile_cons, List.dropWhile_cons, e]
  rfl
theorem index_cons (b : UInt8) (r : List UInt8) : Lib.index (b :: r) [10] = if b = 10 then 0 else if Lib.index r [10] == -1 then -1 else Lib.index r [10] + 1 := by
  rw [Lib.index]
  by_cases h : b = 10
  · subst h
    rfl
  · have e : List.isPrefixOf [10] (b :: r) = false := by simp only [List.isPrefixOf, Bool.and_true]; exact beq_eq_false_iff_ne.2 fun e => h e.symm
    rw [e, if_neg h]
    rfl
theorem cut_eq : ∀ s : List UInt8, (Lib.cut s [10]).1 = (cutL s).1 ∧ (Lib.cut s [10]).2.1 = (cutL s).2
  | [] => ⟨rfl, rfl⟩
  | b :: r => by
    obtain ⟨h1, h2⟩ := cut_eq r
    have hge := Lib.index_ge r [10]
    unfold Lib.cut at h1 h2 ⊢
    rw [index_cons]
    by_cases h : b = 10
    · subst h
      rw [cutL_feed]
      exact ⟨rfl, rfl⟩
    · rw [if_neg h, cutL_cons h]
      by_cases hm : Lib.index r [10] = -1
      · rw [hm] at h1 h2 ⊢
        rw [if_neg (by decide)] at h1 h2
        rw [show (if ((-1 : Int) == -1) = true then (-1 : Int) else -1 + 1) = -1 from rfl, if_neg (by decide)]
        exact ⟨by rw [← h1], h2⟩
      · have hb : (Lib.index r [10] == -1) = false := by simpa using hm
        have h0 : 0 ≤ Lib.index r [10] := by omega
        rw [if_pos h0] at h1 h2
        rw [hb, if_neg Bool.false_ne_true, if_pos (by omega)]
        obtain ⟨k, hk⟩ : ∃ k : Nat, Lib.index r [10] = k := ⟨(Lib.index r [10]).toNat, by omega⟩
        rw [hk] at h1 h2 ⊢
        rw [show ((k : Int) + 1).toNat = k + 1 by omega]
        simp only [Int.toNat_natCast] at h1 h2
        refine ⟨?_, ?_⟩
        · rw [← h1]; rfl
        · rw [← h2, show k + 1 + [(10 : UInt8)].length = (k + [(10 : UInt8)].length) + 1 by simp, List.drop_succ_cons]
theorem cutL_len : ∀ s : List UInt8, s ≠ [] → (cutL s).2.length < s.length ∧ (cutL s).1.length ≤ s.length
  | [], h => absurd rfl h
  | b :: r, _ => by
    by_cases h : b = 10
    · subst h
      rw [cutL_feed]
      simp
    · rw [cutL_cons h]
      cases r with
      | nil => simp [cutL]
      | cons c r =>
        have := cutL_len (c :: r) (by simp)
        simp only [List.length_cons] at this ⊢
        omega
theorem physL_cut : ∀ s : List UInt8, s ≠ [] → physL s = (cutL s).1 :: physL (cutL s).2
  | [], h => absurd rfl h
  | b :: r, _ => by
    by_cases h : b = 10
    · subst h
      rw [cutL_feed]
      exact physL_app [] r
    · rw [cutL_cons h]
      cases r with
      | nil => simp [cutL, physL, piecesL, h]
      | cons c r =>
        have ih := physL_cut (c :: r) (by simp)
        have hp : ∀ p l, piecesL (c :: r) = p :: l → physL (b :: c :: r) = (match physL (c :: r) with | [] => [[b]] | p :: l => (b :: p) :: l) := fun p l hp => by
          unfold physL
          rw [piecesL_cons h hp, hp]
          cases l with
          | nil =>
            cases p with
            | nil =>
              exfalso
              rw [piecesL] at hp
              split at hp
              · injection hp with _ h2
                exact piecesL_ne r h2
              · split at hp <;> cases hp
            | cons q p => simp
          | cons q l =>
            rw [List.getLast?_cons_cons, List.getLast?_cons_cons]
            split
            · rfl
            · rfl
        cases hq : piecesL (c :: r) with
        | nil => exact absurd hq (piecesL_ne _)
        | cons p l => rw [hp p l hq, ih]
/-- The first logical line, how many physical lines it has, what is behind it. -/
def firstF : Nat → List UInt8 → List UInt8 × Nat × List UInt8
  | 0, s => ([], 0, s)
  | f + 1, s => if s = [] then ([], 0, []) else
    if endsB (cutL s).1 then ((cutL s).1.dropLast ++ (firstF f (cutL s).2).1, (firstF f (cutL s).2).2.1 + 1, (firstF f (cutL s).2).2.2) else ((cutL s).1, 1, (cutL s).2)
theorem first_spec : ∀ (f : Nat) (s : List UInt8), s ≠ [] → s.length ≤ f → (firstF f s).1 = (contL (cutL s).1 (physL (cutL s).2)).1 ∧ physL (firstF f s).2.2 = (contL (cutL s).1 (physL (cutL s).2)).2 ∧
    (firstF f s).2.1 + (contL (cutL s).1 (physL (cutL s).2)).2.length = 1 + (physL (cutL s).2).length ∧ (firstF f s).2.2.length < s.length
  | 0, s, h, hf => absurd (List.length_eq_zero_iff.1 (Nat.le_zero.1 hf)) h
  | f + 1, s, h, hf => by
    have hl := (cutL_len s h).1
    rw [firstF, if_neg h]
    by_cases he : endsB (cutL s).1 = true
    · rw [if_pos he]
      by_cases hr : (cutL s).2 = []
      · have e1 : firstF f [] = ([], 0, []) := by cases f <;> rfl
        have e2 : physL [] = [] := rfl
        rw [hr, e1, e2, contL, if_pos he]
        refine ⟨by simp, rfl, by simp, ?_⟩
        cases s with
        | nil => exact absurd rfl h
        | cons _ _ => simp
      · obtain ⟨i1, i2, i3, i4⟩ := first_spec f (cutL s).2 hr (by omega)
        rw [physL_cut _ hr, contL, if_pos he]
        refine ⟨by rw [i1], i2, ?_, by simp only; omega⟩
        rw [List.length_cons]
        simp only
        omega
    · rw [if_neg he]
      have e3 : ∀ l, contL (cutL s).1 l = ((cutL s).1, l) := fun l => by
        cases l with
        | nil => rw [contL, if_neg he]
        | cons b l => rw [contL, if_neg he]
      rw [e3]
      exact ⟨rfl, rfl, rfl, hl⟩
theorem lines_next (i f : Nat) {s : List UInt8} (h : s ≠ []) (hf : s.length ≤ f) : linesN i (physL s) = (if blankL (firstF f s).1 then [] else [(i, (firstF f s).1)]) ++ linesN (i + (firstF f s).2.1) (physL (firstF f s).2.2) := by
  obtain ⟨i1, i2, i3, _⟩ := first_spec f s h hf
  have hc := contL_len (cutL s).1 (physL (cutL s).2)
  rw [physL_cut s h, linesN_cons, i1, i2, show i + 1 + ((physL (cutL s).2).length - (contL (cutL s).1 (physL (cutL s).2)).2.length) = i + (firstF f s).2.1 by omega]
theorem trimSuffix_92 (l : List UInt8) : Lib.trimSuffix l [92] = (if endsB l then l.dropLast else l) ∧ Lib.hasSuffix l [92] = endsB l := by
  have h := suffix_one l 92
  unfold Lib.trimSuffix
  rw [h]
  refine ⟨?_, rfl⟩
  unfold endsB
  split
  · rw [List.dropLast_eq_take]
    rfl
  · rfl
theorem cut_any (l : List UInt8) (w : World) (hm : Max w) (hl : l.length ≤ 1000000000) : Calls Tryd.prog 51 #[.string (bs l), .string ⟨#[10]⟩] w fun r w' => ∃ x, r = .returned (.tuple #[.string (bs (cutL l).1), .string (bs (cutL l).2), .bool x]) ∧ ∃ n, w' = w.drewN n := by
  obtain ⟨m, hm⟩ := hm
  have h := Tryd.strings_Cut (bs l) ⟨#[10]⟩ m w (by rw [bs_size]; omega) hm
  rw [bs_data, show (⟨#[10]⟩ : ByteArray).data.toList = [10] from rfl, (cut_eq l).1, (cut_eq l).2] at h
  exact h.mono fun _ _ ⟨h1, h2⟩ => ⟨_, h1, h2⟩
theorem cutSuf_any (l : List UInt8) (w : World) (hl : l.length ≤ 1000000000) : Calls Tryd.prog 52 #[.string (bs l), .string ⟨#[92]⟩] w fun r w' => r = .returned (.tuple #[.string (bs (if endsB l then l.dropLast else l)), .bool (endsB l)]) ∧ w' = w := by
  have h := Tryd.strings_CutSuffix (bs l) ⟨#[92]⟩ w (by rw [bs_size]; omega)
  rw [bs_data, show (⟨#[92]⟩ : ByteArray).data.toList = [92] from rfl, (trimSuffix_92 l).1, (trimSuffix_92 l).2] at h
  exact h
theorem Bld.drew {B b : Nat} {l : List UInt8} {w : World} (h : Bld B b l w) (n : Nat) : Bld B b l (w.drewN n) := h

set_option maxHeartbeats 4000000 in
set_option maxRecDepth 100000 in
theorem firstLine_any (s : List UInt8) (f : Nat) (w : World) (hm : Max w) (hl : s.length ≤ 100000) (hf : s.length ≤ f) : Calls Tryd.prog 27 #[.string (bs s)] w fun r w' =>
    r = .returned (.tuple #[.string (bs (firstF f s).1), .int .i64 ((firstF f s).2.1 : Int), .string (bs (firstF f s).2.2)]) ∧ Kp [] w w' := by
  obtain ⟨b, hb⟩ : ∃ b, w.heap.size = b := ⟨_, rfl⟩
  obtain ⟨W0, hW⟩ : ∃ W0, w.alloc (.cells #[.pointer none, .slice none 0 0] 73) = W0 := ⟨_, rfl⟩
  have hk0 : Kp [] w W0 := by rw [← hW]; exact (Kp.refl [] w).alloc _
  have hB0 : Bld w.heap.size b [] W0 := by
    refine Bld.new (by omega) ?_
    rw [← hW, ← hb]
    exact heap_alloc_last w _
  have HK0 := Lib.hid hk0
  have HB0 := Lib.hid hB0
  have HF := Lib.hid (show ∃ L N T, firstF f s = (L, N, T) from ⟨_, _, _, rfl⟩)
  obtain ⟨L, N, T, hLNT⟩ := HF.out
  rw [hLNT]
  have HL := Lib.hid hLNT
  clear hk0 hB0 HF hLNT
  go_enter Tryd.func27, Tryd.ntmps27
  go_wp2
  go_loopg [0, 6, 7] s.length (fun g s0 s6 s7 wx => ∃ t n c acc f', s0 = .string (bs t) ∧ s6 = .int .i64 ((n : Nat) : Int) ∧ s7 = .bool c ∧ Bld w.heap.size b acc wx ∧ Kp [] w wx ∧ t.length ≤ g ∧ acc.length + t.length ≤ s.length ∧ n + t.length ≤ s.length ∧
    (c = true → t.length ≤ f' ∧ acc ++ (firstF f' t).1 = L ∧ n + (firstF f' t).2.1 = N ∧ (firstF f' t).2.2 = T) ∧ (c = false → acc = L ∧ n = N ∧ t = T))
  case atStart =>
    refine ⟨s, 0, true, [], f, rfl, rfl, rfl, HB0.out, HK0.out, Nat.le_refl _, by simp, by simp, fun _ => ⟨hf, ?_, ?_, ?_⟩, by simp⟩
    · rw [HL.out]; rfl
    · rw [HL.out]; simp
    · rw [HL.out]
  case round =>
    obtain ⟨t, n, c, acc, f', rfl, rfl, rfl, hbld, hkp, htg, hat, hnt, hct, hcf⟩ := hrel
    have HS := Lib.hid (str_any w.heap.size b acc wr hbld hkp.size)
    have HBl := Lib.hid hbld
    have HKp := Lib.hid hkp
    have hmr := hkp
    by_cases hgo : c = true ∧ t ≠ []
    · obtain ⟨rfl, htn⟩ := hgo
      obtain ⟨h1, h2, h3, h4⟩ := hct rfl
      have hte : (bs t).toList.isEmpty = false := by
        rw [bs_isEmpty]
        cases t with
        | nil => exact absurd rfl htn
        | cons _ _ => rfl
      have htp : 0 < t.length := List.length_pos_iff.2 htn
      obtain ⟨g, rfl⟩ : ∃ g, gk = g + 1 := ⟨gk - 1, by omega⟩
      obtain ⟨f2, rfl⟩ : ∃ f2, f' = f2 + 1 := ⟨f' - 1, by omega⟩
      have hcl := cutL_len t htn
      rw [firstF, if_neg htn] at h2 h3 h4
      have HC := Lib.hid (cut_any t wr (hm.kp hkp (by simp)) (by omega))
      obtain ⟨p, q, hpq⟩ : ∃ p q, cutL t = (p, q) := ⟨_, _, rfl⟩
      rw [hpq] at HC h2 h3 h4 hcl
      simp only at HC h2 h3 h4 hcl
      have HCS := Lib.hid fun W => cutSuf_any p W (by omega)
      obtain ⟨p2, hp2⟩ : ∃ p2, (if endsB p then p.dropLast else p) = p2 := ⟨_, rfl⟩
      have hp2l : p2.length ≤ p.length ∧ (endsB p = true → p2.length + 1 = p.length) := by
        rw [← hp2]
        cases he : endsB p with
        | false => simp
        | true =>
          have : p ≠ [] := by rintro rfl; cases he
          have := List.length_pos_iff.2 this
          simp
          omega
      rw [hp2] at HCS
      have hsum : p.length + q.length ≤ t.length := by
        have e1 := congrArg (fun x => x.1) hpq
        have e2 := congrArg (fun x => x.2) hpq
        unfold cutL at e1 e2
        simp only at e1 e2
        have := congrArg List.length (List.takeWhile_append_dropWhile (p := fun x : UInt8 => x != 10) (l := t))
        rw [List.length_append] at this
        rw [← e1, ← e2, List.length_drop]
        omega
      have HW := Lib.hid fun n => writeString_any w.heap.size b acc p2 (wr.drewN n) hbld (by omega) hkp.size
      have hwn : IntKind.i64.wrap ((n : Int) + 1) = ((n + 1 : Nat) : Int) := by rw [IntKind.wrap_i64]; omega
      have HN := Lib.hid (show q.length ≤ g ∧ (acc ++ p2).length + q.length ≤ s.length ∧ n + 1 + q.length ≤ s.length by rw [List.length_append]; omega)
      have HR := Lib.hid (show (endsB p = true → q.length ≤ f2 ∧ (acc ++ p2) ++ (firstF f2 q).1 = L ∧ n + 1 + (firstF f2 q).2.1 = N ∧ (firstF f2 q).2.2 = T) ∧ (endsB p = false → acc ++ p2 = L ∧ n + 1 = N ∧ q = T) by
        constructor
        · intro he
          rw [if_pos he] at h2 h3 h4 hp2
          rw [hp2] at h2
          exact ⟨by omega, by rw [List.append_assoc]; exact h2, by simp only at h3; omega, h4⟩
        · intro he
          rw [if_neg (by rw [he]; simp)] at h2 h3 h4 hp2
          rw [hp2] at h2
          exact ⟨h2, h3, h4⟩)
      clear hbld hkp hmr h1 h2 h3 h4 hct hcf hcl hsum hpq hp2 htn htp hp2l htg hat hnt
      obtain ⟨eb, heb⟩ : ∃ eb, endsB p = eb := ⟨_, rfl⟩
      rw [heb] at HCS HR
      clear heb
      go_wp2_with (first
        | (go_at_call 51; refine Calls.mono (by with_reducible exact HC.out) ?_; rintro r w1 ⟨x, rfl, nn, rfl⟩)
        | (go_at_call 52; refine Calls.mono (by with_reducible exact HCS.out _) ?_; rintro r w2 ⟨rfl, rfl⟩)
        | (go_at_call 40; refine Calls.mono (by with_reducible exact HW.out _) ?_; rintro r w3 ⟨rfl, hb3, hk3⟩; have HB3 := Lib.hid hb3; have HK3 := Lib.hid ((HKp.out.drew nn).belowTo hk3.bel); clear hb3 hk3))
      go_roundg g
      case measure => omega
      case rel => exact ⟨q, n + 1, eb, acc ++ p2, f2, rfl, rfl, rfl, HB3.out, HK3.out, HN.out.1, HN.out.2.1, HN.out.2.2, HR.out.1, HR.out.2⟩
    · have hfin : acc = L ∧ n = N ∧ t = T := by
        cases c with
        | false => exact hcf rfl
        | true =>
          have htn : t = [] := by
            cases t with
            | nil => rfl
            | cons x t => exact absurd ⟨rfl, by simp⟩ hgo
          obtain ⟨_, h2, h3, h4⟩ := hct rfl
          have e1 : firstF f' [] = ([], 0, []) := by cases f' <;> rfl
          rw [htn, e1] at h2 h3 h4
          rw [List.append_nil] at h2
          exact ⟨h2, h3, by rw [htn]; exact h4⟩
      have HFin := Lib.hid hfin
      have hcond : (c && !(bs t).toList.isEmpty) = false := by
        rw [bs_isEmpty]
        cases c with
        | false => rfl
        | true =>
          cases t with
          | nil => rfl
          | cons x t => exact absurd ⟨rfl, by simp⟩ hgo
      clear hbld hkp hmr hct hcf hfin hgo htg hat hnt
      cases c with
      | false =>
        clear hcond
        go_wp2_with (go_at_call 42; refine Calls.mono (by with_reducible exact HS.out) ?_; rintro r w1 ⟨rfl, hb1, hk1⟩; have HK1 := Lib.hid (HKp.out.belowTo hk1.bel); clear hb1 hk1)
        go_ret3
        rw [← HFin.out.1, ← HFin.out.2.1, ← HFin.out.2.2]
        exact ⟨rfl, HK1.out⟩
      | true =>
        have hte : (bs t).toList.isEmpty = true := by simpa using hcond
        clear hcond
        go_wp2_with (go_at_call 42; refine Calls.mono (by with_reducible exact HS.out) ?_; rintro r w1 ⟨rfl, hb1, hk1⟩; have HK1 := Lib.hid (HKp.out.belowTo hk1.bel); clear hb1 hk1)
        go_ret3
        rw [← HFin.out.1, ← HFin.out.2.1, ← HFin.out.2.2]
        exact ⟨rfl, HK1.out⟩
end Go.Proofs.YtccmlodocfpbhaaDoor
