/- Parse, Check. -/
import Derived.Test.YtfpkppgecmbglaaGreatDoorM
namespace Go.Proofs.YtfpkppgecmbglaaGreatDoor
open Go.RowKit

/-- What Parse answers: the pieces or the error. -/
def parseE (s : List UInt8) : List Pc × Int :=
  if 256 < s.length then ([], 91) else if txB s = false then ([], 90) else match parseP nmB kyB s with
    | none => ([], 90)
    | some l => (l, 0)
def ParsePost (s : List UInt8) (w : World) (e : Ending) (w' : World) : Prop := ∃ v, e = .returned (.tuple #[v, .int .i64 (parseE s).2]) ∧ gpT.Own w' w.heap.size v ((parseE s).1.map Pc.g) ∧ Kp [] w w'
theorem Kp.of_bel {w w' : World} (h : Below w.heap.size w w') : Kp [] w w' := Kp.of_below h
theorem Kp.belowTo {w0 w w' : World} (h : Kp [] w0 w) (g : Below w0.heap.size w w') : Kp [] w0 w' :=
  ⟨g.os.trans h.os, g.tape.trans h.tape, g.output.trans h.output, Nat.le_trans h.size g.size, fun k hk _ => (g.block k hk).trans (h.block k hk (by simp))⟩
theorem placeL_suf {nm ky : List UInt8 → Bool} {k : Nat} {s r : List UInt8} {p : Pc} (h : placeL nm ky k s = some (p, r)) : r <:+ s := by
  have hb : ∀ {x : List UInt8 × List UInt8}, braceL s = some x → x.2 <:+ s := fun {x} hx => by
    obtain ⟨e, _⟩ := braceL_inv (a := x.1) (r := x.2) hx
    exact ⟨123 :: (x.1 ++ [125]), by rw [e]; simp⟩
  unfold placeL at h
  split at h
  · cases h
  split at h
  · obtain ⟨x, hx, h⟩ := Option.bind_eq_some_iff.1 h
    split at h
    · cases h; exact hb hx
    · cases h
  split at h
  · obtain ⟨x, hx, h⟩ := Option.bind_eq_some_iff.1 h
    split at h
    · cases h; exact hb hx
    · cases h
  split at h
  · obtain ⟨x, hx, h⟩ := Option.bind_eq_some_iff.1 h
    obtain ⟨c, hc, h⟩ := Option.map_eq_some_iff.1 h
    cases h
    exact hb hx
  · cases h
    exact List.suffix_refl _
theorem span_suf (p : UInt8 → Bool) (s : List UInt8) : (spanL p s).2 <:+ s := ⟨(spanL p s).1, (spanL_eq p s).1⟩
theorem stepL_suf {nm ky : List UInt8 → Bool} {s r : List UInt8} {p : Pc} (h : stepL nm ky s = some (p, r)) : r <:+ s := by
  match s with
  | [] => cases h
  | b :: s =>
    unfold stepL at h
    dsimp only at h
    split at h
    · cases h
      exact List.suffix_cons _ _
    split at h
    · cases h
      exact (List.tail_suffix s).trans (List.suffix_cons _ _)
    split at h
    · split at h
      · cases h
      · rename_i c r' _
        exact ((placeL_suf h).trans (List.suffix_cons _ _)).trans (List.suffix_cons _ _)
    · exact ((placeL_suf h).trans (span_suf _ _)).trans (List.suffix_cons _ _)
theorem firstL_suf {nm ky : List UInt8 → Bool} {s r : List UInt8} {p : Pc} (h : firstL nm ky s = some (p, r)) : r <:+ s := by
  unfold firstL at h
  split at h
  · exact stepL_suf h
  · cases h
    exact span_suf _ _
theorem suf_all {f : UInt8 → Bool} {r s : List UInt8} (h : r <:+ s) (ha : s.all f = true) : r.all f = true := by
  obtain ⟨t, rfl⟩ := h
  rw [List.all_append, Bool.and_eq_true] at ha
  exact ha.2
theorem first_cases {s : List UInt8} {p : Gp} {r : List UInt8} {ok : Bool} (h : FirstOk s p r ok) : (ok = false ∧ firstL nmB kyB s = none) ∨ ∃ q, ok = true ∧ p = q.g ∧ firstL nmB kyB s = some (q, r) := by
  unfold FirstOk at h
  split at h
  · rename_i q r' e
    obtain ⟨h1, h2, h3⟩ := h
    exact .inr ⟨q, h3, h1, by rw [e, h2]⟩
  · rename_i e
    exact .inl ⟨h, e⟩
set_option maxHeartbeats 4000000 in
set_option maxRecDepth 100000 in
theorem parse_any {w : World} (hE : Env w) (s : List UInt8) (hs : s.length ≤ 1000000000000) : Calls Tryz.prog 13 #[.string (bs s)] w (ParsePost s w) := by
  have hsz : (bs s).size = s.length := rfl
  unfold ParsePost
  obtain ⟨E, hEE⟩ : ∃ E, parseE s = E := ⟨_, rfl⟩
  rw [hEE]
  by_cases h1 : 256 < s.length
  · have hE1 : E = ([], 91) := by rw [← hEE]; unfold parseE; rw [if_pos h1]
    subst hE1
    have hz : (256 : Int) < ((bs s).size : Int) := by omega
    clear hEE hE
    go_enter Tryz.func13, Tryz.ntmps13
    go_wp2
    go_ret2
    exact ⟨_, rfl, RT.Own.nil gpT w _, Kp.refl _ _⟩
  have hz : ¬ ((256 : Int) < ((bs s).size : Int)) := by omega
  have HT := Lib.hid fun W => text_any s W hs
  cases ht : txB s with
  | false =>
    have hE1 : E = ([], 90) := by rw [← hEE]; unfold parseE; rw [if_neg h1, if_pos ht]
    subst hE1
    rw [ht] at HT
    clear hEE hE
    go_enter Tryz.func13, Tryz.ntmps13
    go_wp2_with (go_at_call 29; refine Calls.mono (by with_reducible exact HT.out _) ?_; rintro e w1 ⟨rfl, hk1⟩)
    go_ret2
    exact ⟨_, rfl, RT.Own.nil gpT w1 _, hk1⟩
  | true =>
    rw [ht] at HT
    have hpr : s.all prCh = true := by rw [txB_eq] at ht; simp at ht; simpa using ht.2
    have hR : ∀ X, pfrom nmB kyB [] s = X → (match X with | none => (([] : List Pc), (90 : Int)) | some l => (l, 0)) = E := fun X hX => by
      rw [← hEE]
      unfold parseE
      rw [if_neg h1, if_neg (by rw [ht]; simp), parseP_eq, hX]
    have HR := Lib.hid hR
    have hl : s.length ≤ 256 := by omega
    clear hR hEE ht h1
    obtain ⟨B, hB⟩ : ∃ B, w.heap.size = B := ⟨_, rfl⟩
    have HBB := Lib.hid hB
    have hOB := Lib.hid (RT.Own.nil gpT)
    have HE := Lib.hid hE
    have HPR := Lib.hid hpr
    clear hpr hE
    rw [hB]
    clear hB
    go_enter Tryz.func13, Tryz.ntmps13
    go_wp2_with (go_at_call 29; refine Calls.mono (by with_reducible exact HT.out _) ?_; rintro e w1 ⟨rfl, hk1⟩)
    have HK1 := Lib.hid hk1
    clear hk1
    go_loopg [0, 4] (s.length) (fun g s0 s4 wx => ∃ (acc : List Pc) (r : List UInt8), s0 = .string (bs r) ∧ r.length ≤ g ∧ g ≤ s.length ∧ acc.length + r.length ≤ s.length ∧ tsum acc + 256 * r.length ≤ 65536 ∧ Hid (pfrom nmB kyB [] s = pfrom nmB kyB acc r) ∧ Hid (r.all prCh = true) ∧ gpT.Own wx B s4 (acc.map Pc.g) ∧ Hid (Kp [] w wx))
    case atStart => exact ⟨[], s, rfl, Nat.le_refl _, Nat.le_refl _, by simp, by simp [tsum]; omega, Lib.hid rfl, HPR, hOB.out w1 B, HK1⟩
    case round =>
      obtain ⟨acc, r, rfl, hrg, hgs, hal, hts, hp, hra, hO, hk⟩ := hrel
      cases r with
      | nil =>
        have he0 : (bs []).toList.isEmpty = true := bs_isEmpty []
        have hE1 := HR.out (some acc) (hp.out.trans (pfrom_nil acc))
        simp only at hE1
        subst hE1
        have HO := Lib.hid hO
        clear hO HR
        go_wp2
        go_ret2
        exact ⟨_, rfl, HO.out, hk.out⟩
      | cons b r' =>
        have he0 : (bs (b :: r')).toList.isEmpty = false := bs_isEmpty _
        have hne : b :: r' ≠ [] := by simp
        have HF := Lib.hid fun (W : World) (h : Kp [] w W) => first_any (s := b :: r') ((HE.out).kp0 h) hne (by omega) hra.out
        unfold FirstPost at HF
        simp only [gpC] at HF
        have HO := Lib.hid hO
        have hLL : (b :: r').length = r'.length + 1 := rfl
        generalize hq : b :: r' = r at *
        clear hO
        cases gk with
        | zero => omega
        | succ gk =>
        go_upto_region 8 with (go_at_call 30; refine Calls.mono (by with_reducible exact HF.out _ hk.out) ?_; rintro e w2 ⟨p, rr, ok, rfl, hk2, hok⟩)
        have HK2 := Lib.hid (hk.out.trans hk2)
        have HO2 := Lib.hid (HO.out.kp0 hk2)
        rcases first_cases hok with ⟨rfl, hfn⟩ | ⟨⟨qk, qt, qw, qm⟩, rfl, rfl, hfs⟩
        · have hE1 := HR.out none (hp.out.trans (pfrom_first_none acc hne hfn))
          simp only at hE1
          subst hE1
          clear HR hok hfn hk2
          go_wp2
          go_ret2
          exact ⟨_, rfl, hOB.out _ _, HK2.out.alloc _⟩
        · obtain ⟨hf1, hf2, hf3⟩ := firstL_le hfs
          have hpf := Lib.hid (hp.out.trans (pfrom_first acc hfs))
          have hrr : rr.all prCh = true := suf_all (firstL_suf hfs) hra.out
          have hal2 := addP_len acc ⟨qk, qt, qw, qm⟩
          have hts2 := addP_tsum acc ⟨qk, qt, qw, qm⟩
          simp only at hts2 hf3
          have HAP := Lib.hid fun (W : World) (h : gpT.Own W B u4 (acc.map Pc.g)) (hB : B ≤ W.heap.size) => appendPiece_any acc ⟨qk, qt, qw, qm⟩ h hB (by omega) (by show tsum acc + qt.length ≤ 1000000000; omega)
          simp only [gpC, Pc.g] at HAP ⊢
          have HRR := Lib.hid hrr
          clear hok hfs hk2 HR hrr
          have hBw : B ≤ w2.heap.size := by have := HBB.out; have := HK2.out.size; omega
          go_wp2_with (go_at_call 31; refine Calls.mono (by with_reducible exact HAP.out _ (HO2.out.kp0 ((Kp.refl [] w2).alloc _)) (by simp; omega)) ?_; rintro e w3 ⟨v3, rfl, ho3, hb3⟩; have HO3 := Lib.hid ho3; have HB3 := Lib.hid hb3; clear ho3 hb3)
          go_roundg gk
          case measure => omega
          case rel => exact ⟨_, rr, rfl, by omega, by omega, by omega, by omega, hpf, HRR, HO3.out, Lib.hid ((HK2.out.alloc _).belowTo (by rw [HBB.out]; exact HB3.out))⟩
/-- The pieces that Parse returns are as in the table. -/
theorem pfrom_read {nm ky : List UInt8 → Bool} : ∀ (n : Nat) (s : List UInt8) (acc l : List Pc), s.length ≤ n → (∀ q ∈ acc, Read nm ky q) → pfrom nm ky acc s = some l → (∀ q ∈ l, Read nm ky q) ∧ l.length ≤ acc.length + s.length
  | n, [], acc, l, _, ha, h => by
    rw [pfrom_nil] at h
    cases h
    exact ⟨ha, by simp⟩
  | 0, b :: s, acc, l, hn, _, _ => by simp at hn
  | n + 1, b :: s, acc, l, hn, ha, h => by
    cases e : stepL nm ky (b :: s) with
    | none => rw [pfrom_none acc (by simp) e] at h; cases h
    | some x =>
      obtain ⟨p, r⟩ := x
      obtain ⟨h1, h2, _⟩ := stepL_le e
      rw [pfrom_step acc e] at h
      rw [List.length_cons] at h1 hn
      have := pfrom_read n r (addP acc p) l (by omega) (addP_read ha h2) h
      have hl := addP_len acc p
      exact ⟨this.1, by rw [List.length_cons]; omega⟩
theorem parseE_read (s : List UInt8) : (∀ q ∈ (parseE s).1, Read nmB kyB q) ∧ (parseE s).1.length ≤ 256 := by
  unfold parseE
  split
  · exact ⟨fun q h => by simp at h, by simp⟩
  · split
    · exact ⟨fun q h => by simp at h, by simp⟩
    · split
      · exact ⟨fun q h => by simp at h, by simp⟩
      · rename_i l e
        have := pfrom_read s.length s [] l (Nat.le_refl _) (fun q h => by simp at h) e
        exact ⟨this.1, by have := this.2; simp at this; simp only; omega⟩
set_option maxRecDepth 100000 in
theorem check_any {w : World} (hE : Env w) (s : List UInt8) (hs : s.length ≤ 1000000000000) : Calls Tryz.prog 16 #[.string (bs s)] w fun e w' => e = .returned (.int .i64 (parseE s).2) ∧ Kp [] w w' := by
  have HP := Lib.hid (parse_any hE s hs)
  unfold ParsePost at HP
  clear hE
  go_enter Tryz.func16, Tryz.ntmps16
  go_wp2_with (go_at_call 13; refine Calls.mono (by with_reducible exact HP.out) ?_; rintro e w1 ⟨v, rfl, ho, hk⟩)
  go_ret
  exact ⟨rfl, hk⟩
end Go.Proofs.YtfpkppgecmbglaaGreatDoor
