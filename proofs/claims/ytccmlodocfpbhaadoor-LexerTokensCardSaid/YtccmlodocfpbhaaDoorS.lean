/- Format. -/
import Derived.Test.YtccmlodocfpbhaaDoorD
import Derived.Test.YtccmlodocfpbhaaDoorF
import Derived.Test.YtccmlodocfpbhaaDoorI
import Derived.Deep.LoopGhost
namespace Go.Proofs.YtccmlodocfpbhaaDoor
open Go.RowKit

/-- The line of tokens, and the error's number. -/
def fmtE (l : List Tok) : List UInt8 × Nat := if l.all goodB = false then ([], 82) else if 1024 < (fmtL l).length then ([], 81) else (fmtL l, 0)
theorem fmtL_snoc : ∀ (l : List Tok) (x : Tok), l ≠ [] → fmtL (l ++ [x]) = fmtL l ++ (44 :: 32 :: fmtT x)
  | [], _, h => absurd rfl h
  | [a], x, _ => rfl
  | a :: b :: l, x, _ => by
    have ih := fmtL_snoc (b :: l) x (by simp)
    show fmtT a ++ 44 :: 32 :: fmtL ((b :: l) ++ [x]) = (fmtT a ++ 44 :: 32 :: fmtL (b :: l)) ++ _
    rw [ih]
    simp
theorem fmtL_take_le (l : List Tok) : ∀ i, i < l.length → (fmtL (l.take i)).length ≤ (fmtL (l.take (i + 1))).length := fun i hi => by
  rw [List.take_add_one, List.getElem?_eq_getElem hi]
  simp only [Option.toList]
  by_cases h : l.take i = []
  · rw [h]; simp [fmtL]
  · rw [fmtL_snoc _ _ h, List.length_append]; omega
theorem fmtL_take_all (l : List Tok) : ∀ (n i : Nat), i + n = l.length → (fmtL (l.take i)).length ≤ (fmtL l).length
  | 0, i, h => by rw [List.take_of_length_le (by omega)]; exact Nat.le_refl _
  | n + 1, i, h => Nat.le_trans (fmtL_take_le l i (by omega)) (fmtL_take_all l n (i + 1) (by omega))
theorem Bld.kp0 {w w' : World} {B b : Nat} {l : List UInt8} (h : Bld B b l w) (hk : Kp [] w w') : Bld B b l w' := by
  have key : ∀ p, Lib.BuilderAtF 73 5 B b p (Lib.byteCells l) w → Lib.BuilderAtF 73 5 B b p (Lib.byteCells l) w' := fun p ⟨hB, v, hb, hown, hne⟩ => by
    refine ⟨hB, v, (hk.block b (block_lt hb) (by simp)).trans hb, ⟨hown.1, ?_⟩, hne⟩
    rcases hown.2 with hn | ⟨g, cap, cur, fz, hv, hg, hh, rest⟩
    · exact .inl hn
    · exact .inr ⟨g, cap, cur, fz, hv, hg, (hk.block g (block_lt hh) (by simp)).trans hh, rest⟩
  exact h.elim (fun x => .inl (key _ x)) (fun x => .inr (key _ x))
theorem Bld.lt {w : World} {B b : Nat} {l : List UInt8} (h : Bld B b l w) : B ≤ b ∧ b < w.heap.size := by
  rcases h with h | h <;> exact ⟨h.1, h.lt⟩
/-- A box stays while a builder elsewhere is written. -/
theorem TAt.bk {w w' : World} {B b p : Nat} {x : Tok} (h : TAt w p x) (hk : Bk B b w w') (hp : p ≠ b) : TAt w' p x := by
  refine hk.oth p _ h (fun e => hp (Option.some.inj e)) fun c fz e => ?_
  injection e with _ e2
  exact absurd e2 (by decide)
theorem fmtT_len {x : Tok} (h : Sm x) : (fmtT x).length ≤ 6000000000 := by
  obtain ⟨h1, h2, h3, h4⟩ := h
  have := fmtV_len x.val
  unfold fmtT
  simp only [List.length_append, List.length_cons, List.length_nil]
  split
  · simp only [List.length_nil]; omega
  · simp only [List.length_cons, List.length_append, List.length_nil]; omega

set_option maxHeartbeats 8000000 in
set_option maxRecDepth 100000 in
theorem format_any {w : World} {v : Value} {l : List Tok} (hm : Max w) (hh : tokT.Has w v l) (hl : l.length ≤ 1000000) (hs : ∀ x ∈ l, Sm x) : Calls Tryd.prog 21 #[v] w fun r w' => r = .returned (.tuple #[.string (bs (fmtE l).1), .int .i64 ((fmtE l).2 : Int)]) ∧ Kp [] w w' := by
  obtain ⟨va, vc, rfl, hrow⟩ := hh.form
  have HROW := Lib.hid hrow
  have HS := Lib.hid hs
  clear hrow hh hs
  go_enter Tryd.func21, Tryd.ntmps21
  go_wp2
  go_loopg [11] l.length (fun g s11 wx => ∃ i : Nat, s11 = .int .i64 (i : Int) ∧ i + g = l.length ∧ Kp [] w wx ∧ Hid ((l.take i).all goodB = true))
  case atStart => exact ⟨0, rfl, by omega, Kp.refl _ _, Lib.hid rfl⟩
  case round =>
    obtain ⟨i, rfl, hig, hkp, HG⟩ := hrel
    have HK := Lib.hid hkp
    by_cases hi : i < l.length
    · obtain ⟨g, rfl⟩ : ∃ g, gk = g + 1 := ⟨gk - 1, by omega⟩
      obtain ⟨b, o, rfl, hbl, hr⟩ := HROW.out (by rintro rfl; simp at hi)
      obtain ⟨x, hx⟩ : ∃ x, l[i]? = some x := ⟨_, List.getElem?_eq_getElem hi⟩
      have hiz : (i : Int) < (l.length : Int) := by omega
      have hr2 : tokT.Row wr b o l := hr.keep (hkp.block b hbl (by simp))
      obtain ⟨c0, c1, c2, c3⟩ := tokRow hr2 hx
      have hsm := HS.out x (List.mem_of_getElem? hx)
      have HT := Lib.hid fun W => isToken_any x W (by have := hsm.2.2.2; omega)
      have hwi : IntKind.i64.wrap ((i : Int) + 1) = ((i + 1 : Nat) : Int) := by rw [IntKind.wrap_i64]; omega
      have HI := Lib.hid hig
      obtain ⟨wb, hwb⟩ : ∃ wb, wr.alloc (.cells #[.string (bs x.key), .string (bs x.name), .string (bs x.op), .string (bs x.val)] 43) = wb := ⟨_, rfl⟩
      obtain ⟨pb, hpb⟩ : ∃ pb, wr.heap.size = pb := ⟨_, rfl⟩
      have hTb : TAt wb pb x := by
        have h := heap_alloc_last wr (.cells #[.string (bs x.key), .string (bs x.name), .string (bs x.op), .string (bs x.val)] 43)
        rw [hwb, hpb] at h
        exact h
      obtain ⟨d0, d1, d2, d3⟩ := hTb.cells
      have hkb : Kp [] w wb := by rw [← hwb]; exact hkp.alloc _
      have HKb := Lib.hid hkb
      have HX := Lib.hid hx
      unfold tokC at HT
      clear hkp hr hr2 hx hsm hig hTb hkb hbl
      cases hg : goodB x with
      | false =>
        rw [hg] at HT
        have HE := Lib.hid (show fmtE l = ([], 82) by
          unfold fmtE
          rw [if_pos]
          rw [List.all_eq_false]
          exact ⟨x, List.mem_of_getElem? HX.out, by rw [hg]; simp⟩)
        clear hg
        go_wp2_with (go_at_call 43; refine Calls.mono (by with_reducible exact HT.out _) ?_; rintro r w4 ⟨rfl, hk⟩; have HK4 := Lib.hid (HKb.out.trans hk); clear hk)
        go_ret2
        rw [HE.out]
        exact ⟨rfl, HK4.out⟩
      | true =>
        rw [hg] at HT
        have HG2 := Lib.hid (show (l.take (i + 1)).all goodB = true by
          rw [List.take_add_one, HX.out, List.all_append, HG.out]
          simp [hg])
        clear hg
        go_wp2_with (go_at_call 43; refine Calls.mono (by with_reducible exact HT.out _) ?_; rintro r w4 ⟨rfl, hk⟩; have HK4 := Lib.hid (HKb.out.trans hk); clear hk)
        go_roundg g
        case measure => omega
        case rel => exact ⟨i + 1, rfl, by have := HI.out; omega, HK4.out, HG2⟩
    · have hiz : ¬ ((i : Int) < (l.length : Int)) := by omega
      have HALL := Lib.hid (show l.all goodB = true by
        have h := HG.out
        rwa [List.take_of_length_le (by omega)] at h)
      have HW := Lib.hid (show wr.heap.size = wr.heap.size from rfl)
      obtain ⟨b, hb⟩ : ∃ b, wr.heap.size = b := ⟨_, rfl⟩
      obtain ⟨W0, hW⟩ : ∃ W0, wr.alloc (.cells #[.pointer none, .slice none 0 0] 73) = W0 := ⟨_, rfl⟩
      have hk0 : Kp [] w W0 := by rw [← hW]; exact hkp.alloc _
      have hB0 : Bld w.heap.size b [] W0 := by
        refine Bld.new (by rw [← hb]; exact hkp.size) ?_
        rw [← hW, ← hb]
        exact heap_alloc_last wr _
      have HK0 := Lib.hid hk0
      have HB0 := Lib.hid hB0
      clear hkp hk0 hB0 hig hi HW
      go_wp2
      clear HK hb hW hiz
      go_loopg [21] l.length (fun g s21 wx => ∃ i : Nat, s21 = .int .i64 (i : Int) ∧ i + g = l.length ∧ Bld w.heap.size b (fmtL (l.take i)) wx ∧ Kp [] w wx ∧ (fmtL (l.take i)).length ≤ 1024)
      case atStart => exact ⟨0, rfl, by omega, HB0.out, HK0.out, by simp [fmtL]⟩
      case round =>
        obtain ⟨i, rfl, hig, hbld, hkp, hacc⟩ := hrel
        have hbl := hbld.lt
        by_cases hi : i < l.length
        · obtain ⟨g, rfl⟩ : ∃ g, gk = g + 1 := ⟨gk - 1, by omega⟩
          obtain ⟨sb, so, rfl, hsl, hr⟩ := HROW.out (by rintro rfl; simp at hi)
          obtain ⟨x, hx⟩ : ∃ x, l[i]? = some x := ⟨_, List.getElem?_eq_getElem hi⟩
          have hiz : (i : Int) < (l.length : Int) := by omega
          have hr2 : tokT.Row wr sb so l := hr.keep (hkp.block sb hsl (by simp))
          obtain ⟨c0, c1, c2, c3⟩ := tokRow hr2 hx
          have hsm := HS.out x (List.mem_of_getElem? hx)
          have hwi : IntKind.i64.wrap ((i : Int) + 1) = ((i + 1 : Nat) : Int) := by rw [IntKind.wrap_i64]; omega
          have HI := Lib.hid hig
          obtain ⟨wb, hwb⟩ : ∃ wb, wr.alloc (.cells #[.string (bs x.key), .string (bs x.name), .string (bs x.op), .string (bs x.val)] 43) = wb := ⟨_, rfl⟩
          obtain ⟨pb, hpb⟩ : ∃ pb, wr.heap.size = pb := ⟨_, rfl⟩
          have hTb : TAt wb pb x := by
            have h := heap_alloc_last wr (.cells #[.string (bs x.key), .string (bs x.name), .string (bs x.op), .string (bs x.val)] 43)
            rw [hwb, hpb] at h
            exact h
          have hkw : Kp [] wr wb := by rw [← hwb]; exact (Kp.refl [] wr).alloc _
          obtain ⟨d0, d1, d2, d3⟩ := hTb.cells
          have HTb := Lib.hid hTb
          have HKb := Lib.hid (hkp.trans hkw)
          have HBb := Lib.hid (hbld.kp0 hkw)
          have HPB := Lib.hid (show pb ≠ b by omega)
          have hwr := fun W (h : Kp [] w W) => written_any x W hsm (hm.kp h (by simp))
          unfold tokC at hwr
          have HWr := Lib.hid hwr
          have hfl := fmtT_len hsm
          have HX := Lib.hid hx
          have htk : l.take (i + 1) = l.take i ++ [x] := by rw [List.take_add_one, hx]; rfl
          clear hkp hr hr2 hx hsm hig hTb hkw hsl hwr hbld hbl
          obtain ⟨F1, hF1⟩ : ∃ F1, fmtL (l.take (i + 1)) = F1 := ⟨_, rfl⟩
          have HF1 := Lib.hid hF1
          clear hF1
          by_cases hi0 : i = 0
          · subst hi0
            have HLN := Lib.hid (show (fmtL (l.take 0)).length + (fmtT x).length ≤ 100000000000 by omega)
            have HEQ := Lib.hid (show fmtL (l.take 0) ++ fmtT x = F1 by rw [← HF1.out, htk]; rfl)
            have hgz : ¬ ((0 : Int) < ((0 : Nat) : Int)) := by omega
            simp only [Nat.zero_mul, Nat.add_zero] at c0 c1 c2 c3
            clear htk hfl hacc
            by_cases hbig : 1024 < F1.length
            · have hbz : (1024 : Int) < (F1.length : Int) := by omega
              have HE := Lib.hid (show fmtE l = ([], 81) by
                have := fmtL_take_all l (l.length - (0 + 1)) (0 + 1) (by omega)
                rw [HF1.out] at this
                unfold fmtE
                rw [if_neg (by rw [HALL.out]; simp), if_pos (by omega)])
              clear hbig hi
              go_wp2_with (first
              | (go_at_call 44; refine Calls.mono (by with_reducible exact HWr.out _ HKb.out) ?_; rintro r w4 ⟨rfl, hk⟩; have HK4 := Lib.hid (HKb.out.trans hk); have HB4 := Lib.hid (HBb.out.kp0 hk); have HW4 := Lib.hid (writeString_any w.heap.size b _ (fmtT x) w4 HB4.out HLN.out HK4.out.size); clear hk)
              | (go_at_call 40; refine Calls.mono (by with_reducible exact HW4.out) ?_; rintro r w5 ⟨rfl, hb5, hk5⟩; rw [HEQ.out] at hb5; have HB5 := Lib.hid hb5; have HK5 := Lib.hid (HK4.out.belowTo hk5.bel); have HL5 := Lib.hid (len_any w.heap.size b _ w5 hb5); clear hb5 hk5)
              | (go_at_call 41; refine Calls.mono (by with_reducible exact HL5.out) ?_; rintro r w6 ⟨rfl, rfl⟩))
              go_ret2
              rw [HE.out]
              exact ⟨rfl, HK5.out⟩
            · have hbz : ¬ (1024 : Int) < (F1.length : Int) := by omega
              have HBIG := Lib.hid hbig
              clear hbig hi
              go_wp2_with (first
              | (go_at_call 44; refine Calls.mono (by with_reducible exact HWr.out _ HKb.out) ?_; rintro r w4 ⟨rfl, hk⟩; have HK4 := Lib.hid (HKb.out.trans hk); have HB4 := Lib.hid (HBb.out.kp0 hk); have HW4 := Lib.hid (writeString_any w.heap.size b _ (fmtT x) w4 HB4.out HLN.out HK4.out.size); clear hk)
              | (go_at_call 40; refine Calls.mono (by with_reducible exact HW4.out) ?_; rintro r w5 ⟨rfl, hb5, hk5⟩; rw [HEQ.out] at hb5; have HB5 := Lib.hid hb5; have HK5 := Lib.hid (HK4.out.belowTo hk5.bel); have HL5 := Lib.hid (len_any w.heap.size b _ w5 hb5); clear hb5 hk5)
              | (go_at_call 41; refine Calls.mono (by with_reducible exact HL5.out) ?_; rintro r w6 ⟨rfl, rfl⟩))
              go_roundg g
              case measure => omega
              case rel => exact ⟨0 + 1, rfl, by have := HI.out; omega, by rw [HF1.out]; exact HB5.out, HK5.out, by rw [HF1.out]; have := HBIG.out; omega⟩
          · have hne : l.take i ≠ [] := by
              intro h
              have := congrArg List.length h
              rw [List.length_take, List.length_nil] at this
              omega
            have HLN := Lib.hid (show (fmtL (l.take i) ++ [44, 32]).length + (fmtT x).length ≤ 100000000000 by rw [List.length_append]; simp only [List.length_cons, List.length_nil]; omega)
            have HEQ := Lib.hid (show (fmtL (l.take i) ++ [44, 32]) ++ fmtT x = F1 by rw [← HF1.out, htk, fmtL_snoc _ _ hne]; simp)
            have hgz : (0 : Int) < (i : Int) := by omega
            have HA := Lib.hid (show Calls Tryd.prog 40 #[.pointer (some ⟨b, 0, none⟩), .string ⟨#[44, 32]⟩] wb fun e w' => e = .returned (.tuple #[.int .i64 (([44, 32] : List UInt8).length : Int), .nilIface]) ∧ Bld w.heap.size b (fmtL (l.take i) ++ [44, 32]) w' ∧ Bk w.heap.size b wb w' from writeString_any w.heap.size b _ [44, 32] wb HBb.out (by simp only [List.length_cons, List.length_nil]; omega) HKb.out.size)
            clear htk hfl hacc hne hi0
            by_cases hbig : 1024 < F1.length
            · have hbz : (1024 : Int) < (F1.length : Int) := by omega
              have HE := Lib.hid (show fmtE l = ([], 81) by
                have := fmtL_take_all l (l.length - (i + 1)) (i + 1) (by omega)
                rw [HF1.out] at this
                unfold fmtE
                rw [if_neg (by rw [HALL.out]; simp), if_pos (by omega)])
              clear hbig hi
              go_wp2_with (first
              | (go_at_call 40; refine Calls.mono (by with_reducible exact HA.out) ?_; rintro r w3 ⟨rfl, hb3, hk3⟩; have HB3 := Lib.hid hb3; have HK3 := Lib.hid (HKb.out.belowTo hk3.bel); have HT3 := Lib.hid (HTb.out.bk hk3 HPB.out); obtain ⟨e0, e1, e2, e3⟩ := HT3.out.cells; clear hb3 hk3)
              | (go_at_call 44; refine Calls.mono (by with_reducible exact HWr.out _ HK3.out) ?_; rintro r w4 ⟨rfl, hk⟩; have HK4 := Lib.hid (HK3.out.trans hk); have HB4 := Lib.hid (HB3.out.kp0 hk); have HW4 := Lib.hid (writeString_any w.heap.size b _ (fmtT x) w4 HB4.out HLN.out HK4.out.size); clear hk)
              | (go_at_call 40; refine Calls.mono (by with_reducible exact HW4.out) ?_; rintro r w5 ⟨rfl, hb5, hk5⟩; rw [HEQ.out] at hb5; have HB5 := Lib.hid hb5; have HK5 := Lib.hid (HK4.out.belowTo hk5.bel); have HL5 := Lib.hid (len_any w.heap.size b _ w5 hb5); clear hb5 hk5)
              | (go_at_call 41; refine Calls.mono (by with_reducible exact HL5.out) ?_; rintro r w6 ⟨rfl, rfl⟩))
              go_ret2
              rw [HE.out]
              exact ⟨rfl, HK5.out⟩
            · have hbz : ¬ (1024 : Int) < (F1.length : Int) := by omega
              have HBIG := Lib.hid hbig
              clear hbig hi
              go_wp2_with (first
              | (go_at_call 40; refine Calls.mono (by with_reducible exact HA.out) ?_; rintro r w3 ⟨rfl, hb3, hk3⟩; have HB3 := Lib.hid hb3; have HK3 := Lib.hid (HKb.out.belowTo hk3.bel); have HT3 := Lib.hid (HTb.out.bk hk3 HPB.out); obtain ⟨e0, e1, e2, e3⟩ := HT3.out.cells; clear hb3 hk3)
              | (go_at_call 44; refine Calls.mono (by with_reducible exact HWr.out _ HK3.out) ?_; rintro r w4 ⟨rfl, hk⟩; have HK4 := Lib.hid (HK3.out.trans hk); have HB4 := Lib.hid (HB3.out.kp0 hk); have HW4 := Lib.hid (writeString_any w.heap.size b _ (fmtT x) w4 HB4.out HLN.out HK4.out.size); clear hk)
              | (go_at_call 40; refine Calls.mono (by with_reducible exact HW4.out) ?_; rintro r w5 ⟨rfl, hb5, hk5⟩; rw [HEQ.out] at hb5; have HB5 := Lib.hid hb5; have HK5 := Lib.hid (HK4.out.belowTo hk5.bel); have HL5 := Lib.hid (len_any w.heap.size b _ w5 hb5); clear hb5 hk5)
              | (go_at_call 41; refine Calls.mono (by with_reducible exact HL5.out) ?_; rintro r w6 ⟨rfl, rfl⟩))
              go_roundg g
              case measure => omega
              case rel => exact ⟨i + 1, rfl, by have := HI.out; omega, by rw [HF1.out]; exact HB5.out, HK5.out, by rw [HF1.out]; have := HBIG.out; omega⟩
        · have hiz : ¬ ((i : Int) < (l.length : Int)) := by omega
          have hie : l.take i = l := List.take_of_length_le (by omega)
          rw [hie] at hbld hacc
          have HE := Lib.hid (show fmtE l = (fmtL l, 0) by
            unfold fmtE
            rw [if_neg (by rw [HALL.out]; simp), if_neg (by omega)])
          have HST := Lib.hid (str_any w.heap.size b _ wr hbld hkp.size)
          have HKp := Lib.hid hkp
          clear hbld hacc hkp hig hi hie hbl
          go_wp2_with (go_at_call 42; refine Calls.mono (by with_reducible exact HST.out) ?_; rintro r w1 ⟨rfl, hb1, hk1⟩; have HK1 := Lib.hid (HKp.out.belowTo hk1.bel); clear hb1 hk1)
          go_ret2
          rw [HE.out]
          exact ⟨rfl, HK1.out⟩
end Go.Proofs.YtccmlodocfpbhaaDoor
