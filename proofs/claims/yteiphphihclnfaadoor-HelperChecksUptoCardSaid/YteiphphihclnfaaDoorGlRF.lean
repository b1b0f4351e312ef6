/- The reference's Parse. -/
import Derived.Test.YteiphphihclnfaaDoorGlRE
import Derived.Deep.DeepCutAuto
import Derived.Deep.CutBlock
import Derived.Deep.RegionHeld
namespace Go.Proofs.YteiphphihclnfaaDoor.Gl
open Go.RowKit

def ZR : Array Value := elRow false false fun _ => false
theorem info68 : (Tryd.prog.info? 95).map (fun i => (i.zero, i.size)) = some (some (.agg ZR), 130) := by kernel_rfl
theorem info68b : (Tryd.prog.info? 95).map (fun i => (i.zero, i.size, i.bytes)) = some (some (.agg ZR), 130, 130) := by kernel_rfl
theorem info45b : (Tryd.prog.info? 81).map (fun i => (i.zero, i.size, i.bytes)) = some (some (.slice none 0 0), 1, 24) := by kernel_rfl
theorem ZR_get0 : ZR[0]? = some (.bool false) := rowOf_0 ⟨false, false, fun _ => false⟩
theorem ZR_get1 : ZR[1]? = some (.bool false) := rowOf_1 ⟨false, false, fun _ => false⟩
theorem ZR_get (c : Nat) (h : c < 128) : ZR[2 + c]? = some (.bool false) := elRow_get _ _ _ c h

theorem map_nil_app {P : Option (List (Option El))} : P.map (([] : List (Option El)) ++ ·) = P := by cases P <;> rfl
theorem next_el {P : Option (List (Option El))} {l : List UInt8} {i k : Nat} {x : UInt8} {e : El} {T : List (Option El)} (hd : l.drop i = x :: l.drop (i + 1)) (hb : x ≠ 124) (hf : firstEl x (l.drop (i + 1)) = some (e, k)) (ht : (toks (l.drop i)).map (T ++ ·) = P) :
    (toks (l.drop (i + k + 1))).map ((T ++ [some e]) ++ ·) = P := by
  rw [hd, toks_cons, if_neg hb, hf] at ht
  simp only [List.drop_drop] at ht
  rw [← ht, show i + k + 1 = i + 1 + k from by omega]
  cases toks (l.drop (i + 1 + k)) <;> simp
theorem next_bar {P : Option (List (Option El))} {l : List UInt8} {i : Nat} {T : List (Option El)} (hd : l.drop i = 124 :: l.drop (i + 1)) (ht : (toks (l.drop i)).map (T ++ ·) = P) :
    (toks (l.drop (i + 1))).map ((T ++ [none]) ++ ·) = P := by
  rw [hd, toks_cons, if_pos rfl] at ht
  rw [← ht]
  cases toks (l.drop (i + 1)) <;> simp
theorem next_none {P : Option (List (Option El))} {l : List UInt8} {i : Nat} {x : UInt8} {T : List (Option El)} (hd : l.drop i = x :: l.drop (i + 1)) (hb : x ≠ 124) (hf : firstEl x (l.drop (i + 1)) = none) (ht : (toks (l.drop i)).map (T ++ ·) = P) : P = none := by
  rw [hd, toks_cons, if_neg hb, hf] at ht
  exact ht.symm
theorem setR_lt {r : List UInt8} {S : UInt8 → Bool} {k : Nat} (h : setR r = some (S, k)) : k < r.length := by
  unfold setR at h
  split at h
  · rename_i hc
    simp only [Option.map_eq_some_iff, Prod.mk.injEq] at h
    obtain ⟨_, _, _, rfl⟩ := h
    exact List.idxOf_lt_length_iff.2 (by simpa using hc)
  · cases h
theorem row_star : ZR.setIfInBounds 0 (.bool true) = rowOf ⟨true, false, isText⟩ := by
  unfold ZR rowOf elRow setOfE
  rw [Array.setIfInBounds_append_left (by simp)]
  rfl
theorem row_lit (x : UInt8) (h : x.toNat < 128) : (ZR.setIfInBounds 1 (.bool true)).setIfInBounds (2 + x.toNat) (.bool true) = rowOf ⟨false, true, fun y => y == x⟩ := by
  have h1 : ZR.setIfInBounds 1 (.bool true) = elRow false true fun _ => false := by
    unfold ZR elRow
    rw [Array.setIfInBounds_append_left (by simp)]
    rfl
  rw [h1, elRow_put _ _ _ x.toNat true h]
  refine congrArg (elRow false true) (funext fun y => ?_)
  simp only [UInt8.ofNat_toNat]
  by_cases hy : y = x
  · simp [hy, setOfE]
  · simp [hy, setOfE]
theorem row_lit' (x : UInt8) (h : x.toNat < 128) : (ZR.setIfInBounds (2 + x.toNat) (.bool true)).setIfInBounds 1 (.bool true) = rowOf ⟨false, true, fun y => y == x⟩ := by
  rw [← row_lit x h]
  apply Array.ext_getElem?
  intro i
  simp only [Array.getElem?_setIfInBounds, Array.size_setIfInBounds]
  by_cases h1 : 1 = i
  · subst h1
    by_cases h2 : 2 + x.toNat = 1
    · omega
    · simp [h2]
  · simp [h1]
theorem low_start : elRow false false (fun y : UInt8 => decide (32 ≤ y.toNat) && decide (y.toNat < 32)) = ZR := by
  have : (fun y : UInt8 => decide (32 ≤ y.toNat) && decide (y.toNat < 32)) = fun _ => false := by
    funext y
    rw [Bool.and_eq_false_iff, decide_eq_false_iff_not, decide_eq_false_iff_not]
    omega
  rw [this]
  rfl
theorem low_next (c : Nat) (h : 32 ≤ c) (h2 : c < 128) : (elRow false false fun y : UInt8 => decide (32 ≤ y.toNat) && decide (y.toNat < c)).setIfInBounds (2 + c) (.bool true) = elRow false false fun y : UInt8 => decide (32 ≤ y.toNat) && decide (y.toNat < c + 1) := by
  rw [elRow_put _ _ _ c true h2]
  congr 1
  funext y
  by_cases hy : y = UInt8.ofNat c
  · have hn : y.toNat = c := by rw [hy]; simp; omega
    rw [if_pos hy, decide_eq_true (by omega : 32 ≤ y.toNat), decide_eq_true (by omega : y.toNat < c + 1)]
    rfl
  · have hn : y.toNat ≠ c := fun e => hy (UInt8.toNat_inj.1 (by rw [e]; simp; omega))
    rw [if_neg hy]
    congr 1
    rw [decide_eq_decide]
    omega
theorem low_end : (elRow false false fun y : UInt8 => decide (32 ≤ y.toNat) && decide (y.toNat < 127)) = rowOf ⟨false, false, isText⟩ := by
  show _ = elRow false false isText
  congr 1
  funext y
  unfold isText
  congr 1
  rw [decide_eq_decide]
  omega

/-- What Parse answers. -/
def ParsePost (p : List UInt8) (w : World) (e : Ending) (w' : World) : Prop := Below w.heap.size w w' ∧
  if p.all isText = false then e = .returned (.tuple #[.slice none 0 0, .bool false])
  else match toks p with
    | none => e = .returned (.tuple #[.slice none 0 0, .bool false])
    | some T => ∃ v, e = .returned (.tuple #[v, .bool true]) ∧ PAltsAt w' v (altsOf T)

set_option maxHeartbeats 4000000 in
set_option maxRecDepth 100000 in
theorem parse_any (p : ByteArray) (w : World) (hp : p.size ≤ 256) : Calls Tryd.prog 42 #[.string p] w (ParsePost p.data.toList w) := by
  have hsz := Lib.size_eq p
  have hpr := fun W => printable_any p W (by omega)
  cases hall : p.data.toList.all isText with
  | false =>
    have hv : ∀ e w', Below w.heap.size w w' → e = .returned (.tuple #[.slice none 0 0, .bool false]) → ParsePost p.data.toList w e w' := fun e w' h1 h2 => ⟨h1, by rw [if_pos hall]; exact h2⟩
    rw [hall] at hpr
    have Hv := Lib.hid hv
    have Hpr := Lib.hid hpr
    clear hv hsz hpr hall
    go_enter Tryd.func42, Tryd.ntmps42
    go_wp2_with fail
    refine (Hpr.out _).mono ?_
    rintro ed W1 ⟨rfl, rfl⟩
    go_wp2
    go_ret2
    exact Hv.out _ _ (Below.refl _ _) rfl
  | true =>
    have hv : ∀ e w', Below w.heap.size w w' → (match toks p.data.toList with | none => e = .returned (.tuple #[.slice none 0 0, .bool false]) | some T => ∃ v, e = .returned (.tuple #[v, .bool true]) ∧ PAltsAt w' v (altsOf T)) → ParsePost p.data.toList w e w' := fun e w' h1 h2 => ⟨h1, by rw [if_neg (by rw [hall]; simp)]; exact h2⟩
    rw [hall] at hpr
    have Hv := Lib.hid hv
    have Hpr := Lib.hid hpr
    have Hall := Lib.hid hall
    clear hv hsz hpr hall
    obtain ⟨i0, hi0, hz0, hz1, hz2⟩ := info_parts info45b
    obtain ⟨i3, hi3, hy0, hy1, hy2⟩ := info_parts info68b
    have hv68 := (zero_of_info (P := Tryd.prog) info68).1
    have Hfirst := Lib.hid (PInv.first (w := w))
    go_enter Tryd.func42, Tryd.ntmps42
    go_wp2_with fail
    refine (Hpr.out _).mono ?_
    rintro ed W1 ⟨rfl, hw1⟩
    have hw2 := hw1.symm
    subst hw2
    clear hw1
    go_wp2
    go_loopw [4, 5] (fun s4 s5 wx => ∃ (i : Nat) (T : List (Option El)) (A : List (List El)) (l : List El) (vs : List Value) (vl : Value) (B' G cap : Nat), s5 = .int .i64 (i : Int) ∧ s4 = .slice (some ⟨G, 0, none⟩) (A.length + 1) cap ∧ altsOf T = A ++ [l] ∧ PInv w B' G cap A l vs vl wx ∧ (toks (p.data.toList.drop i)).map (T ++ ·) = toks p.data.toList ∧ i ≤ p.size ∧ A.length ≤ i ∧ l.length ≤ i) (fun _ s5 _ => p.size - (intOf s5).toNat)
    case atStart => exact ⟨0, [], [], [], [], _, _, _, 1, rfl, rfl, rfl, Hfirst.out, by rw [List.drop_zero]; exact map_nil_app, by omega, by simp, by simp⟩
    case round =>
      obtain ⟨i, T, A, l, vs, vl, B', G, cap, rfl, rfl, halts, hinv, htoks, hi, hA, hl⟩ := hrel
      have Hinv := Lib.hid hinv
      have Halts := Lib.hid halts
      have Htoks := Lib.hid htoks
      clear hinv halts htoks
      by_cases hlt : (i : Int) < (p.size : Int)
      · obtain ⟨x, hx⟩ : ∃ x : UInt8, p[i]'(by omega) = x := ⟨_, rfl⟩
        have hxl : p.data.toList[i]? = some x := by rw [← hx]; exact Lib.data_getElem? p i (by omega)
        have hd := drop_at8 hxl
        have hxt : isText x = true := List.all_eq_true.1 Hall.out x (List.mem_of_getElem? hxl)
        have hx127 : x.toNat ≤ 126 := by
          unfold isText at hxt
          simp only [Bool.and_eq_true, decide_eq_true_eq] at hxt
          exact hxt.2
        have Hd := Lib.hid hd
        have hsz := Lib.size_eq p
        have Hsz := Lib.hid hsz
        clear hxl hd hxt hsz
        go_upto_block 2 with fail
        have hrow := heap_alloc_last wr (.cells ZR 95)
        have hbel : Below wr.heap.size wr (wr.alloc (.cells ZR 95)) := (Below.refl _ _).alloc (Nat.le_refl _) _
        have hsa : (wr.alloc (.cells ZR 95)).heap.size = wr.heap.size + 1 := by simp
        obtain ⟨E, hE⟩ : ∃ E, wr.heap.size = E := ⟨_, rfl⟩
        rw [hE] at hrow hbel hsa ⊢
        generalize wr.alloc (.cells ZR 95) = Wa at *
        have HE := Lib.hid hE
        have Hrow := Lib.hid hrow
        have Hbel := Lib.hid hbel
        have Hsa := Lib.hid hsa
        clear hE hrow hbel hsa
        go_cut [4, 5] (fun s4 s5 wx => s4 = .slice (some ⟨G, 0, none⟩) (A.length + 1) cap ∧ ∃ (e : El) (j : Nat), s5 = .int .i64 (j : Int) ∧ wx.heap[E]? = some (.cells (rowOf e) 95 (0, 0)) ∧ Below E wr wx ∧ (toks (p.data.toList.drop (j + 1))).map ((T ++ [some e]) ++ ·) = toks p.data.toList ∧ i ≤ j ∧ j < p.size)
        case first =>
          by_cases h124 : x = 124
          · subst h124
            have hnext := next_bar Hd.out Htoks.out
            have halts2 : altsOf (T ++ [none]) = (A ++ [l]) ++ [[]] := by rw [altsOf_none, Halts.out]; rfl
            have hinv2 : PInv w B' G cap A l vs vl Wa := Hinv.out.later (by rw [HE.out]; exact Hbel.out)
            have Hnext := Lib.hid hnext
            have Halts2 := Lib.hid halts2
            have Hinv2 := Lib.hid hinv2
            have hA2 : A.length + 1 + 1 ≤ 1000 := by omega
            clear hnext halts2 hinv2
            go_wp2_with (at_builtin; refine wpList_append_own _ rfl _ _ 76 rfl w.heap.size 81 i0 _ 1 24 Tryd.underlying76 hi0 hz0 hz1 hz2 rfl (by decide) _ _ _ rfl (Hinv2.out.outer.alloc _) ⟨Wa.heap.size, 0, none⟩ 1 1 [.slice none 0 0] rfl rfl (cell_one_new _ _ _) (by simp [Value.oneCell']) (by unfold maxLen; omega) (by omega) (Nat.le_trans Hinv2.out.below.size (by simp)) ?_; intro v' w1 hown' hgrow _; have Hbar := Lib.hid (Hinv2.out.bar hown' hgrow); clear hown' hgrow)
            obtain ⟨G', cap', rfl, hinv'⟩ := Hbar.out
            exact ⟨⟨i + 1, T ++ [none], A ++ [l], [], vs ++ [vl], .slice none 0 0, _, G', cap', rfl, rfl, Halts2.out, hinv', Hnext.out, by omega, by simp; omega, by simp⟩, by simp [intOf]; omega⟩
          · have n124 := byte_ne (x := x) (k := 124) (by omega) h124
            by_cases h42 : x = 42
            · subst h42
              have hnext := next_el (T := T) (e := ⟨true, false, isText⟩) (k := 0) Hd.out h124 (by unfold firstEl; rw [if_pos rfl]) Htoks.out
              have hc0 := cell_of_row _ E 0 _ _ _ Hrow.out
              rw [ZR_get0] at hc0
              have hf0 := frozen_of_row _ E 0 _ _ Hrow.out
              have hr := block_setCell4 (i := 0) Hrow.out (.bool true)
              rw [row_star] at hr
              have HF := Lib.hid (And.intro hr (And.intro (Hbel.out.setCell (p := ⟨E, 0, none⟩) (Nat.le_refl _) (.bool true)) hnext))
              clear hnext hr
              go_wp2
              go_meet
              exact ⟨rfl, _, i, rfl, HF.out.1, HF.out.2.1, HF.out.2.2, Nat.le_refl _, by omega⟩
            · have n42 := byte_ne (x := x) (k := 42) (by omega) h42
              by_cases h63 : x = 63
              · subst h63
                have hnext := next_el (T := T) (e := ⟨false, false, isText⟩) (k := 0) Hd.out h124 (by unfold firstEl; rw [if_neg h42, if_pos rfl]) Htoks.out
                have Hnext := Lib.hid hnext
                clear hnext
                go_wp2
                go_loopw [7] (fun s7 wx => ∃ c : Nat, 32 ≤ c ∧ c ≤ 127 ∧ s7 = .int .i64 (c : Int) ∧ wx.heap[E]? = some (.cells (elRow false false fun y => decide (32 ≤ y.toNat) && decide (y.toNat < c)) 95 (0, 0)) ∧ Below E wr wx) (fun s7 _ => 127 - (intOf s7).toNat)
                case atStart => exact ⟨32, Nat.le_refl _, by omega, rfl, by rw [low_start]; exact Hrow.out, Hbel.out⟩
                case round =>
                  obtain ⟨c, hc1, hc2, rfl, hEr, hb⟩ := hrel
                  have HEr := Lib.hid hEr
                  have Hb := Lib.hid hb
                  clear hEr hb
                  by_cases hle : (c : Int) ≤ 126
                  · have hci : (c : Int) < 128 := by omega
                    have hcell := cell_of_row _ E (2 + c) _ _ _ HEr.out
                    rw [elRow_get _ _ _ c (by omega)] at hcell
                    have hfz := frozen_of_row _ E (2 + c) _ _ HEr.out
                    have hset := block_setCell4 (i := 2 + c) HEr.out (.bool true)
                    rw [low_next c hc1 (by omega)] at hset
                    have Hset := Lib.hid hset
                    clear hset
                    go_wp2
                    exact ⟨⟨c + 1, by omega, by omega, rfl, Hset.out, Hb.out.setCell (Nat.le_refl _) _⟩, by simp [intOf]; omega⟩
                  · obtain rfl : c = 127 := by omega
                    have hr := HEr.out
                    rw [low_end] at hr
                    have Hr := Lib.hid hr
                    clear hr
                    go_wp2
                    go_meet
                    exact ⟨rfl, _, i, rfl, Hr.out, Hb.out, Hnext.out, Nat.le_refl _, by omega⟩
              · have n63 := byte_ne (x := x) (k := 63) (by omega) h63
                by_cases h91 : x = 91
                · subst h91
                  have hcall := set_any p (i + 1) E Wa (by omega) Hall.out (by omega) (by rw [Hsa.out]; omega) Hrow.out
                  unfold SetPost at hcall
                  cases hset : setR (p.data.toList.drop (i + 1)) with
                  | none =>
                    rw [hset] at hcall
                    simp only at hcall
                    have hnone := next_none Hd.out h124 (by rw [firstEl_set, hset]; rfl) Htoks.out
                    have Hq := Lib.hid (fun w' (hb : Below w.heap.size w w') => Hv.out _ w' hb (by rw [hnone]))
                    have Hcall := Lib.hid hcall
                    have Hwb := Lib.hid (show Below w.heap.size w Wa from Hinv.out.below.trans (Hbel.out.mono (by rw [← HE.out]; exact Hinv.out.below.size)))
                    have Hle := Lib.hid (show w.heap.size ≤ E by rw [← HE.out]; exact Hinv.out.below.size)
                    clear hcall hnone hset
                    go_wp2_with fail
                    refine Hcall.out.mono ?_
                    rintro ed W2 ⟨hb2, rfl⟩
                    have Hb2 := Lib.hid (Hwb.out.trans (hb2.mono Hle.out))
                    clear hb2
                    go_wp2
                    go_ret2
                    exact Hq.out _ Hb2.out
                  | some Sk =>
                    obtain ⟨S, k⟩ := Sk
                    rw [hset] at hcall
                    simp only at hcall
                    have hklt := setR_lt hset
                    have hnext := next_el (T := T) (e := ⟨false, false, S⟩) (k := k + 1) Hd.out h124 (by rw [firstEl_set, hset]; rfl) Htoks.out
                    rw [show i + (k + 1) + 1 = i + 1 + k + 1 from by omega] at hnext
                    rw [List.length_drop, ← Hsz.out] at hklt
                    have Hnext := Lib.hid hnext
                    have Hcall := Lib.hid hcall
                    clear hcall hnext hset
                    go_wp2_with fail
                    refine Hcall.out.mono ?_
                    rintro ed W2 ⟨hb2, rfl, hr2⟩
                    have HF := Lib.hid (And.intro hr2 (Hbel.out.trans hb2))
                    clear hb2 hr2
                    go_wp2
                    go_meet
                    exact ⟨rfl, ⟨false, false, S⟩, i + 1 + k, rfl, HF.out.1, HF.out.2, Hnext.out, by omega, by omega⟩
                · have n91 := byte_ne (x := x) (k := 91) (by omega) h91
                  have hnext := next_el (T := T) (e := ⟨false, true, fun y => y == x⟩) (k := 0) Hd.out h124 (by unfold firstEl; rw [if_neg h42, if_neg h63, if_neg h91]) Htoks.out
                  have hc1 := cell_of_row _ E 1 _ _ _ Hrow.out
                  rw [ZR_get1] at hc1
                  have hcx := cell_of_row _ E (2 + x.toNat) _ _ _ Hrow.out
                  rw [ZR_get x.toNat (by omega)] at hcx
                  have hf1 := frozen_of_row _ E 1 _ _ Hrow.out
                  have hfx := frozen_of_row _ E (2 + x.toNat) _ _ Hrow.out
                  have hr := block_setCell4 (i := 2 + x.toNat) (block_setCell4 (i := 1) Hrow.out (.bool true)) (.bool true)
                  rw [row_lit x (by omega)] at hr
                  have hr' := block_setCell4 (i := 1) (block_setCell4 (i := 2 + x.toNat) Hrow.out (.bool true)) (.bool true)
                  rw [row_lit' x (by omega)] at hr'
                  have HF := Lib.hid (And.intro hr (And.intro hr' hnext))
                  have hxi : (x.toNat : Int) < 128 := by omega
                  have hne : ¬ 2 + x.toNat = 1 := by omega
                  clear hnext hr hr' h124 h42 h63 h91
                  go_wp2
                  go_region
                  all_goals
                    go_wp2
                    go_meet
                    first
                      | exact ⟨rfl, _, i, rfl, HF.out.1, ((Hbel.out.setCell (p := ⟨E, 1, none⟩) (Nat.le_refl _) (.bool true)).setCell (p := ⟨E, 2 + x.toNat, none⟩) (Nat.le_refl _) (.bool true)).drew, HF.out.2.2, Nat.le_refl _, by omega⟩
                      | exact ⟨rfl, _, i, rfl, HF.out.2.1, ((Hbel.out.setCell (p := ⟨E, 2 + x.toNat, none⟩) (Nat.le_refl _) (.bool true)).setCell (p := ⟨E, 1, none⟩) (Nat.le_refl _) (.bool true)).drew, HF.out.2.2, Nat.le_refl _, by omega⟩
        case rest =>
        obtain ⟨rfl, e, j, rfl, hrow, hbel, htoks, hij, hjp⟩ := hcut
        have hinv2 : PInv w B' G cap A l vs vl wc := Hinv.out.later (by rw [HE.out]; exact hbel)
        have hinvd : PInv w B' G cap A l vs vl wc.drew := hinv2.later (Below.refl _ _).drew
        have halts2 : altsOf (T ++ [some e]) = A ++ [l ++ [e]] := by
          rw [altsOf_some, Halts.out]
          simp [snocLast]
        have Halts2 := Lib.hid halts2
        have Htoks2 := Lib.hid htoks
        have Hinvd := Lib.hid hinvd
        have Hrow2 := Lib.hid hrow
        have hGlt : G < wc.heap.size := (hinv2.outer.lt G rfl).2
        have dG : wc.cell? ⟨G, A.length, none⟩ = some vl := by
          rw [hinv2.outer.cellAt A.length (by omega), ← hinv2.len]; simp
        have dGd : (wc.drew.alloc (.cells (rowOf e) 95)).cell? ⟨G, A.length, none⟩ = some vl := ((Below.refl _ wc.drew).alloc (Nat.le_refl _) (.cells (rowOf e) 95)).cell (p := ⟨G, A.length, none⟩) hGlt |>.trans dG
        have hElo : ¬ some E = vl.ownBlock := fun h => by
          have := (Hinv.out.last.lt E h.symm).2
          rw [HE.out] at this
          omega
        have hGlo : G < E := by
          have := (Hinv.out.outer.lt G rfl).2
          rwa [HE.out] at this
        have hlA : (A.length : Int) < (A.length : Int) + 1 := by omega
        have hlA0 : ¬ (A.length : Int) < 0 := by omega
        have hA2 : (A.length : Int) ≤ 256 := by omega
        clear hrow hbel htoks hinv2 hinvd halts2 Hrow Hbel Hsa Hinv Halts Htoks Hd
        go_upto_region 25 with fail
        have hl3 : l.length + 1 ≤ maxLen := by unfold maxLen; omega
        have hB3 : B' ≤ (wc.drew.alloc (.cells (rowOf e) 95)).heap.size := Nat.le_trans Hinvd.out.B2 (by simp)
        have hEl : E < wc.drew.heap.size := (Array.getElem?_eq_some_iff.1 Hrow2.out).1
        have hAlc : wc.drew.heap.size ≤ (wc.drew.alloc (.cells (rowOf e) 95)).heap.size := ((Below.refl _ wc.drew).alloc (Nat.le_refl _) _).size
        have hEne : some E ≠ vl.ownBlock := fun h => hElo h
        have hGE : E ≠ G := fun h => by rw [← h] at hGlo; omega
        refine wp_region_held_drew (S := fun wx => wx.heap[E]? = some (.cells (rowOf e) 95 (0, 0))) (by kernel_rfl) Hrow2.out (fun hHeld => ?_)
        refine wpAnyH_take (i := 0) (oi := _) (v := .slice (some ⟨G, 0, none⟩) (A.length + 1) cap) rfl (by kernel_rfl) (by kernel_rfl) (by kernel_rfl) (fun _ _ _ h => h) (Or.inl ⟨by rfl, fun w hSw => by go_simp⟩) hHeld ?_
        try simp only [Act.put, List.setIfInBounds_toArray]
        refine wpAnyH_take (i := 1) (oi := _) (v := .int .i64 (A.length : Int)) rfl (by kernel_rfl) (by kernel_rfl) (by kernel_rfl) (fun _ _ _ h => h) (Or.inl ⟨by rfl, fun w hSw => by go_simp⟩) hHeld ?_
        try simp only [Act.put]
        refine wpAnyH_take (i := 2) (oi := _) (v := .slice (some ⟨G, 0, none⟩) (A.length + 1) cap) rfl (by kernel_rfl) (by kernel_rfl) (by kernel_rfl) (fun _ _ _ h => h) (Or.inl ⟨by rfl, fun w hSw => by go_simp⟩) hHeld ?_
        try simp only [Act.put]
        refine wpAnyH_take (i := 3) (oi := _) (v := .int .i64 (A.length : Int)) rfl (by kernel_rfl) (by kernel_rfl) (by kernel_rfl) (fun _ _ _ h => h) (Or.inl ⟨by rfl, fun w hSw => by go_simp⟩) hHeld ?_
        try simp only [Act.put]
        refine wpAnyH_take (i := 4) (oi := _) (v := .pointer (some ⟨G, A.length, none⟩)) rfl (by kernel_rfl) (by kernel_rfl) (by kernel_rfl) (fun _ _ _ h => h) (Or.inl ⟨by rfl, fun w hSw => by go_simp⟩) hHeld ?_
        try simp only [Act.put]
        refine wpAnyH_take (i := 6) (oi := _) (v := .agg (rowOf e)) rfl (by kernel_rfl) (by kernel_rfl) (by kernel_rfl) (fun _ _ _ h => h) (yieldsIf_load_row (by rfl) 95 (.tmp 6) rfl E rfl 95 (rowOf e) (0, 0) _ (fun w h => h) Tryd.underlying95 rfl (by rw [hi3]; simp [hy1, rowOf_size])) hHeld ?_
        try simp only [Act.put]
        refine wpAnyH_ready (rs := [5, 7]) (by kernel_rfl) (by simp) ?_
        refine AllReadyH.cons (o := { dst := some 67, op := Op.load 81 (Operand.tmp 66), type := 81, pos := "ref.go:53", after := #[{ on := 4, ground := Ground.data }], guard := none }) rfl (fun K hK => ?_) (AllReadyH.cons (o := { dst := some 69, op := Op.buildSlice 81 1 #[(0, Operand.tmp 68)], type := 81, pos := "ref.go:53", after := #[{ on := 6, ground := Ground.data }], guard := none }) rfl (fun K hK => ?_) AllReadyH.nil)
        · go_simp
          refine hK.out _ _ Hrow2.out (fun hHeld => ?_)
          try simp only [Act.put, List.setIfInBounds_toArray, List.set_cons_zero, List.set_cons_succ]
          clear hK
          refine wpAnyH_ready (rs := [7]) (by kernel_rfl) (by simp) ?_
          refine AllReadyH.cons (o := { dst := some 69, op := Op.buildSlice 81 1 #[(0, Operand.tmp 68)], type := 81, pos := "ref.go:53", after := #[{ on := 6, ground := Ground.data }], guard := none }) rfl (fun K hK => ?_) AllReadyH.nil
          refine step_build_row rfl 81 95 (.tmp 68) rfl (rowOf e) i3 _ rfl Tryd.underlying81 hi3 hy0 (by rw [hy1, rowOf_size]) (by rw [rowOf_size]; omega) (by rw [rowOf_size]; omega) ?_
          refine hK.out _ _ ((Below.heap_alloc wc.drew _ E hEl).trans Hrow2.out) (fun hHeld => ?_)
          try simp only [Act.put, List.setIfInBounds_toArray, List.set_cons_zero, List.set_cons_succ]
          clear hK
          refine wpAnyH_ready (rs := [8]) (by kernel_rfl) (by simp) ?_
          refine AllReadyH.cons (o := { dst := some 70, op := Op.call { callee := Callee.builtin Builtin.append, args := #[Operand.tmp 67, Operand.tmp 69], argTypes := #[81, 81] }, type := 81, pos := "ref.go:53", after := #[{ on := 5, ground := Ground.data }, { on := 7, ground := Ground.data }], guard := none }) rfl (fun K hK => ?_) AllReadyH.nil
          refine step_append_own rfl (.tmp 67) (.tmp 69) 81 rfl B' 95 i3 _ 130 130 Tryd.underlying81 hi3 hy0 hy1 hy2 (elRow_size _ _ _) (by decide) vl l.length (pVs l) rfl (Hinvd.out.last.alloc _) ⟨wc.drew.heap.size, 0, none⟩ 1 1 (rowOf e).toList rfl (by rw [Array.length_toList, rowOf_size]) (cell_six_new wc.drew (rowOf e) 95) (rowOf_one e) hl3 (by omega) hB3 ?_
          intro v' w' hown hgrow
          obtain ⟨gn, capn, hvn, _, _⟩ := form_some hown (Nat.succ_pos _)
          subst hvn
          have hel := Hinvd.out.elem hown hgrow
          have hSE : w'.heap[E]? = some (.cells (rowOf e) 95 (0, 0)) := (hgrow.block E (Nat.lt_of_lt_of_le hEl hAlc) hEne).trans ((Below.heap_alloc wc.drew _ E hEl).trans Hrow2.out)
          refine hK.out _ _ hSE (fun hHeld => ?_)
          try simp only [Act.put, List.setIfInBounds_toArray, List.set_cons_zero, List.set_cons_succ]
          obtain ⟨hel1, hel2, hel3⟩ := hel
          have Hel1 := Lib.hid hel1
          have Hown := Lib.hid hown
          have Hgrow := Lib.hid hgrow
          clear hel1 hown hgrow hK
          refine wpAnyH_take (i := 9) (oi := _) (v := .pointer (some ⟨G, A.length, none⟩)) rfl (by kernel_rfl) (by kernel_rfl) (by kernel_rfl) (fun _ _ _ h => h) (Or.inl ⟨by rfl, fun w hSw => by go_simp⟩) hHeld ?_
          try simp only [Act.put, List.setIfInBounds_toArray]
          refine wpAnyH_ready (rs := [10]) (by kernel_rfl) (by simp) ?_
          refine AllReadyH.cons (o := { dst := none, op := Op.store 81 (Operand.tmp 71) (Operand.tmp 70), type := 0, pos := "ref.go:53", after := #[{ on := 9, ground := Ground.data }, { on := 8, ground := Ground.data }, { on := 8, ground := Ground.chain }, { on := 0, ground := Ground.phase }, { on := 1, ground := Ground.phase }, { on := 2, ground := Ground.phase }, { on := 3, ground := Ground.phase }, { on := 4, ground := Ground.phase }, { on := 5, ground := Ground.phase }, { on := 6, ground := Ground.phase }, { on := 7, ground := Ground.phase }, { on := 8, ground := Ground.phase }], guard := none }) rfl (fun K hK => ?_) AllReadyH.nil
          go_simp
          refine hK.out _ _ ((Below.heap_setCell w' ⟨G, A.length, none⟩ (.slice (some ⟨gn, 0, none⟩) (l.length + 1) capn) E hGE).trans hSE) (fun hHeld => ?_)
          refine wpAnyH_done (by kernel_rfl) ?_ _
          clear hK hel2 hel3 hHeld hSE
          go_wp2
          exact ⟨⟨j + 1, T ++ [some e], A, l ++ [e], vs, _, _, G, cap, rfl, rfl, Halts2.out, Hel1.out, Htoks2.out, by omega, by omega, by simp; omega⟩, by simp [intOf]; omega⟩
        · refine step_build_row rfl 81 95 (.tmp 68) rfl (rowOf e) i3 _ rfl Tryd.underlying81 hi3 hy0 (by rw [hy1, rowOf_size]) (by rw [rowOf_size]; omega) (by rw [rowOf_size]; omega) ?_
          refine hK.out _ _ ((Below.heap_alloc wc.drew _ E hEl).trans Hrow2.out) (fun hHeld => ?_)
          try simp only [Act.put]
          clear hK
          refine wpAnyH_ready (rs := [5]) (by kernel_rfl) (by simp) ?_
          refine AllReadyH.cons (o := { dst := some 67, op := Op.load 81 (Operand.tmp 66), type := 81, pos := "ref.go:53", after := #[{ on := 4, ground := Ground.data }], guard := none }) rfl (fun K hK => ?_) AllReadyH.nil
          go_simp
          refine hK.out _ _ ((Below.heap_alloc wc.drew _ E hEl).trans Hrow2.out) (fun hHeld => ?_)
          try simp only [Act.put, List.setIfInBounds_toArray, List.set_cons_zero, List.set_cons_succ]
          clear hK
          refine wpAnyH_ready (rs := [8]) (by kernel_rfl) (by simp) ?_
          refine AllReadyH.cons (o := { dst := some 70, op := Op.call { callee := Callee.builtin Builtin.append, args := #[Operand.tmp 67, Operand.tmp 69], argTypes := #[81, 81] }, type := 81, pos := "ref.go:53", after := #[{ on := 5, ground := Ground.data }, { on := 7, ground := Ground.data }], guard := none }) rfl (fun K hK => ?_) AllReadyH.nil
          refine step_append_own rfl (.tmp 67) (.tmp 69) 81 rfl B' 95 i3 _ 130 130 Tryd.underlying81 hi3 hy0 hy1 hy2 (elRow_size _ _ _) (by decide) vl l.length (pVs l) rfl (Hinvd.out.last.alloc _) ⟨wc.drew.heap.size, 0, none⟩ 1 1 (rowOf e).toList rfl (by rw [Array.length_toList, rowOf_size]) (cell_six_new wc.drew (rowOf e) 95) (rowOf_one e) hl3 (by omega) hB3 ?_
          intro v' w' hown hgrow
          obtain ⟨gn, capn, hvn, _, _⟩ := form_some hown (Nat.succ_pos _)
          subst hvn
          have hel := Hinvd.out.elem hown hgrow
          have hSE : w'.heap[E]? = some (.cells (rowOf e) 95 (0, 0)) := (hgrow.block E (Nat.lt_of_lt_of_le hEl hAlc) hEne).trans ((Below.heap_alloc wc.drew _ E hEl).trans Hrow2.out)
          refine hK.out _ _ hSE (fun hHeld => ?_)
          try simp only [Act.put, List.setIfInBounds_toArray, List.set_cons_zero, List.set_cons_succ]
          obtain ⟨hel1, hel2, hel3⟩ := hel
          have Hel1 := Lib.hid hel1
          have Hown := Lib.hid hown
          have Hgrow := Lib.hid hgrow
          clear hel1 hown hgrow hK
          refine wpAnyH_take (i := 9) (oi := _) (v := .pointer (some ⟨G, A.length, none⟩)) rfl (by kernel_rfl) (by kernel_rfl) (by kernel_rfl) (fun _ _ _ h => h) (Or.inl ⟨by rfl, fun w hSw => by go_simp⟩) hHeld ?_
          try simp only [Act.put, List.setIfInBounds_toArray]
          refine wpAnyH_ready (rs := [10]) (by kernel_rfl) (by simp) ?_
          refine AllReadyH.cons (o := { dst := none, op := Op.store 81 (Operand.tmp 71) (Operand.tmp 70), type := 0, pos := "ref.go:53", after := #[{ on := 9, ground := Ground.data }, { on := 8, ground := Ground.data }, { on := 8, ground := Ground.chain }, { on := 0, ground := Ground.phase }, { on := 1, ground := Ground.phase }, { on := 2, ground := Ground.phase }, { on := 3, ground := Ground.phase }, { on := 4, ground := Ground.phase }, { on := 5, ground := Ground.phase }, { on := 6, ground := Ground.phase }, { on := 7, ground := Ground.phase }, { on := 8, ground := Ground.phase }], guard := none }) rfl (fun K hK => ?_) AllReadyH.nil
          go_simp
          refine hK.out _ _ ((Below.heap_setCell w' ⟨G, A.length, none⟩ (.slice (some ⟨gn, 0, none⟩) (l.length + 1) capn) E hGE).trans hSE) (fun hHeld => ?_)
          refine wpAnyH_done (by kernel_rfl) ?_ _
          clear hK hel2 hel3 hHeld hSE
          go_wp2
          exact ⟨⟨j + 1, T ++ [some e], A, l ++ [e], vs, _, _, G, cap, rfl, rfl, Halts2.out, Hel1.out, Htoks2.out, by omega, by omega, by simp; omega⟩, by simp [intOf]; omega⟩
      · obtain rfl : i = p.size := by omega
        have hT : toks p.data.toList = some T := by
          have h := Htoks.out
          rw [Lib.size_eq, List.drop_length] at h
          rw [← h]
          show (some ([] : List (Option El))).map _ = _
          simp
        have hfin : ParsePost p.data.toList w (.returned (.tuple #[.slice (some ⟨G, 0, none⟩) (A.length + 1) cap, .bool true])) wr := Hv.out _ _ Hinv.out.below (by rw [hT]; exact ⟨_, rfl, by rw [Halts.out]; exact Hinv.out.alts⟩)
        have Hfin := Lib.hid hfin
        clear hT hfin
        go_wp2
        go_ret2
        exact Hfin.out
end Go.Proofs.YteiphphihclnfaaDoor.Gl
