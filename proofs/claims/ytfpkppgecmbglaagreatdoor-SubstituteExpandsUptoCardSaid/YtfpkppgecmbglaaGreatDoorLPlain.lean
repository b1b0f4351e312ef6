/- SubstitutePlain. -/
import Derived.Test.YtfpkppgecmbglaaGreatDoorW
import Derived.Lib.Replace
import Derived.Lib.ReplaceLaws
namespace Go.Proofs.YtfpkppgecmbglaaGreatDoor
open Go.RowKit

/-- Replacing all instances, as it is counted and done. -/
def repA (old new s : List UInt8) : List UInt8 := Lib.replaceK old new (Lib.count s old) s
theorem replaceAll_repA {old new s : List UInt8} (h : old ≠ new) : Lib.replaceAll s old new = repA old new s := by
  unfold Lib.replaceAll Lib.replace repA Lib.replaceNum
  rw [if_neg (by simpa using h), if_pos (.inl (by omega))]
theorem repA_nil {old new : List UInt8} (h : old ≠ []) : repA old new [] = [] := by
  have hi : Lib.index [] old = -1 := by
    cases old with
    | nil => exact absurd rfl h
    | cons b l => rfl
  unfold repA
  rw [Lib.count_miss hi]
  rfl
theorem repA_hit {old new s : List UInt8} (h : old ≠ []) (hs : s ≠ []) (hp : old.isPrefixOf s = true) : repA old new s = new ++ repA old new (s.drop old.length) := by
  have hi : Lib.index s old = ((0 : Nat) : Int) := by
    cases s with
    | nil => exact absurd rfl hs
    | cons b l => rw [Lib.index, if_pos hp]; rfl
  have hc := Lib.count_hit h hi
  unfold repA
  rw [hc, Nat.add_comm 1, Lib.replaceK_hit old new _ s 0 hi]
  simp
theorem repA_miss {old new : List UInt8} {b : UInt8} {r : List UInt8} (h : old ≠ []) (hp : old.isPrefixOf (b :: r) = false) : repA old new (b :: r) = b :: repA old new r := by
  by_cases hm : Lib.index r old = -1
  · have hi : Lib.index (b :: r) old = -1 := by rw [Lib.index, hp, hm]; rfl
    unfold repA
    rw [Lib.count_miss hi, Lib.count_miss hm]
    rfl
  · have hge := Lib.index_ge r old
    obtain ⟨i, hi⟩ : ∃ i : Nat, Lib.index r old = i := ⟨(Lib.index r old).toNat, by omega⟩
    have hi2 : Lib.index (b :: r) old = ((i + 1 : Nat) : Int) := by
      rw [Lib.index, hp, hi]
      have : (((i : Int)) == -1) = false := by simp
      simp [this]
    have hc := Lib.count_hit h hi
    have hc2 := Lib.count_hit h hi2
    unfold repA
    rw [hc, hc2, Nat.add_comm 1, Nat.add_comm 1, Lib.replaceK_hit old new _ r i hi, Lib.replaceK_hit old new _ (b :: r) (i + 1) hi2]
    rw [show i + 1 + old.length = (i + old.length) + 1 by omega, List.drop_succ_cons, List.take_succ_cons]
    rfl


theorem repA_dbl (c : UInt8) : ∀ s : List UInt8, repA [c] [c, c] s = dblL c s
  | [] => repA_nil (by simp)
  | a :: r => by
    have ih := repA_dbl c r
    rw [dblL_cons]
    by_cases h : a = c
    · rw [repA_hit (by simp) (by simp) (by simp [List.isPrefixOf, h]), if_pos h, ← ih]
      rfl
    · rw [repA_miss (by simp) (by simp [List.isPrefixOf]; exact fun e => h e.symm), if_neg h, ih]
      rfl
theorem dbl_eq (c : UInt8) (s : List UInt8) : Lib.replaceAll s [c] [c, c] = dblL c s := by rw [replaceAll_repA (by simp), repA_dbl]
theorem dbl_len (c : UInt8) : ∀ s : List UInt8, (dblL c s).length ≤ 2 * s.length ∧ s.length ≤ (dblL c s).length
  | [] => by simp [dblL]
  | b :: s => by
    have ih := dbl_len c s
    rw [dblL_cons, List.length_append, List.length_cons]
    split <;> simp <;> omega
theorem repl_any (l : List UInt8) (c : UInt8) (w : World) (hl : l.length ≤ 1000000000) (hE : Env w) : Calls Tryz.prog 23 #[.string (bs l), .string ⟨#[c]⟩, .string ⟨#[c, c]⟩] w fun r w' => r = .returned (.string (bs (dblL c l))) ∧ Kp [] w w' := by
  obtain ⟨m, hm⟩ := hE.max
  have h1 : 1 ≤ (⟨#[c]⟩ : ByteArray).size := Nat.le_refl 1
  have hmul := Lib.countB_mul_le ⟨#[c]⟩ h1 (bs l).size (bs l) (Nat.le_refl _)
  have e1 : (⟨#[c]⟩ : ByteArray).size = 1 := rfl
  have e2 : (⟨#[c, c]⟩ : ByteArray).size = 2 := rfl
  rw [e1, Nat.mul_one, bs_size] at hmul
  refine (Tryz.strings_ReplaceAll (bs l) ⟨#[c]⟩ ⟨#[c, c]⟩ m w (by rw [bs_size]; omega) hm h1 (by rw [e2, bs_size]; omega)).mono fun r w' ⟨h, hb⟩ => ⟨?_, Kp.of_below hb⟩
  rw [h, bs_data, show (⟨#[c]⟩ : ByteArray).data.toList = [c] from rfl, show (⟨#[c, c]⟩ : ByteArray).data.toList = [c, c] from rfl, dbl_eq]
  rfl
theorem esc_pr : ∀ s : List UInt8, s.all prCh = true → (escL s).all prCh = true
  | [], _ => rfl
  | b :: s, h => by
    rw [List.all_cons, Bool.and_eq_true] at h
    rw [escL_cons, List.all_append, esc_pr s h.2, Bool.and_true]
    simp only [escL, List.flatMap_cons, List.flatMap_nil, List.append_nil]
    split <;> simp [h.1]
theorem expand_plain (s : List UInt8) (v : Vs) (ha : s.all prCh = true) (hl : (escL s).length ≤ 256) : expandE (escL s) v = (s, 0) ∧ ∀ q ∈ (parseE (escL s)).1, q.kind = 1 := by
  have hp := parse_esc nmB_no kyB_no s
  have ht : txB (escL s) = true := by rw [txB_eq, decide_eq_true hl, esc_pr s ha]; rfl
  have hpe : parseE (escL s) = (if s = [] then [] else [⟨1, s, 0, false⟩], 0) := by
    unfold parseE
    rw [if_neg (by omega), if_neg (by rw [ht]; decide), hp]
  have hsl : s.length ≤ 256 := by
    rw [← dbl_esc] at hl
    have h1 := (dbl_len 36 s).2
    have h2 := (dbl_len 37 (dblL 36 s)).2
    omega
  rw [hpe]
  refine ⟨?_, ?_⟩
  · unfold expandE
    rw [hpe]
    by_cases h : s = []
    · subst h; rfl
    · rw [if_neg h]
      simp [expandL, pieceL]
      exact List.take_of_length_le hsl
  · intro q hq
    by_cases h : s = []
    · rw [if_pos h] at hq; cases hq
    · rw [if_neg h] at hq
      simp at hq
      rw [hq]
set_option maxHeartbeats 4000000 in
set_option maxRecDepth 100000 in
theorem plain_core (l : List UInt8) (v : Vs) (sa : Option Addr) (na ca : Nat) (sb : Option Addr) (nb cb : Nat) (sc : Option Addr) (nc cc : Nat) (w : World) (hE : Env w) (hs : l.length ≤ 1048576) : Calls Tryz.prog 7 #[.string (bs l), .agg (vsC v (.slice sa na ca) (.slice sb nb cb) (.slice sc nc cc))] w fun e w' => e = .returned (.bool true) ∧ Below w.heap.size w w' := by
  have hpr : ∀ x : UInt8, prCh x = (decide (32 ≤ (x.toNat : Int)) && decide ((x.toNat : Int) ≤ 126)) := fun x => by
    have := List.all_eq_true.1 (show ((List.range 256).all fun n => prCh (UInt8.ofNat n) == (decide (32 ≤ ((UInt8.ofNat n).toNat : Int)) && decide (((UInt8.ofNat n).toNat : Int) ≤ 126))) = true by decide +kernel) x.toNat (List.mem_range.2 (UInt8.toNat_lt x))
    simpa using this
  have HPR := Lib.hid hpr
  clear hpr
  have hsz : (bs l).size = l.length := rfl
  obtain ⟨V, hV⟩ : ∃ V, w.heap.size = V := ⟨_, rfl⟩
  obtain ⟨W1, hW1⟩ : ∃ W1, w.alloc (.cells #[.string (bs v.kernel), .string (bs v.devpath), .string (bs v.id), .string (bs v.driver), .string (bs v.parent), .string (bs v.name), .string (bs v.result), .slice sa na ca, .slice sb nb cb, .slice sc nc cc] 43) = W1 := ⟨_, rfl⟩
  have hk1 : Kp [] w W1 := by rw [← hW1]; exact (Kp.refl [] w).alloc _
  have hVb : W1.heap[V]? = some (.cells (vsC v (.slice sa na ca) (.slice sb nb cb) (.slice sc nc cc)) 43 (0, 0)) := by rw [← hW1, ← hV]; exact heap_alloc_last w _
  have HEE := Lib.hid (fun W (hw : Kp [] W1 W) => (hE.kp0 hk1).kp0 hw)
  have HK1 := Lib.hid hk1
  have HW1 := Lib.hid hW1
  have HVV := Lib.hid hV
  have HCL := Lib.hid (show ∀ W, Kp [] W1 W → W.cell? ⟨V, 0, none⟩ = some (.string (bs v.kernel)) ∧ W.cell? ⟨V, 1, none⟩ = some (.string (bs v.devpath)) ∧ W.cell? ⟨V, 2, none⟩ = some (.string (bs v.id)) ∧ W.cell? ⟨V, 3, none⟩ = some (.string (bs v.driver)) ∧ W.cell? ⟨V, 4, none⟩ = some (.string (bs v.parent)) ∧ W.cell? ⟨V, 5, none⟩ = some (.string (bs v.name)) ∧ W.cell? ⟨V, 6, none⟩ = some (.string (bs v.result)) ∧ W.cell? ⟨V, 7, none⟩ = some (.slice sa na ca) ∧ W.cell? ⟨V, 8, none⟩ = some (.slice sb nb cb) ∧ W.cell? ⟨V, 9, none⟩ = some (.slice sc nc cc) from fun W hw => by
    have h1 := (hw.block V (block_lt hVb) (by simp)).trans hVb
    refine ⟨?_, ?_, ?_, ?_, ?_, ?_, ?_, ?_, ?_, ?_⟩ <;> (rw [cell_of_row _ _ _ _ _ _ h1]; rfl))
  have HKN := Lib.hid (fun W (hw : Kp [] W1 W) => known_any ((hE.kp0 hk1).kp0 hw))
  have HFB := Lib.hid (show ∀ W, Kp [] W1 W → Below w.heap.size w W from fun W hw => (hk1.trans hw).below (Nat.le_refl _) (by simp))
  clear hE hk1 hVb hW1 hV
  unfold vsC
  go_enter Tryz.func7, Tryz.ntmps7
  go_upto_region 1 with fail
  rw [HVV.out, HW1.out]
  go_wp2
  go_loopg [5] l.length (fun g s5 wx => ∃ i : Nat, i + g = l.length ∧ s5 = .int .i64 (i : Int) ∧ (l.take i).all prCh = true ∧ Hid (wx = W1))
  case atStart => exact ⟨0, by omega, rfl, rfl, Lib.hid rfl⟩
  case round =>
    obtain ⟨i, hig, rfl, hall, hwx⟩ := hrel
    obtain rfl := hwx.out
    clear hwx
    have Hall := Lib.hid hall
    clear hall
    cases gk with
    | succ gk =>
      have hlt : i < l.length := by omega
      have hiz : (i : Int) < (l.length : Int) := by omega
      have hlt' : i < (bs l).size := by omega
      obtain ⟨x, hx⟩ : ∃ x : UInt8, l[i] = x := ⟨_, rfl⟩
      have hxl : l[i]? = some x := by rw [← hx]; exact List.getElem?_eq_getElem hlt
      have hg : (bs l)[i]'hlt' = x := (bs_get l i hlt).trans hx
      have hd := HPR.out x
      have HKF := Lib.hid (HKN.out _ (Kp.refl [] _))
      by_cases h1 : 32 ≤ (x.toNat : Int)
      · by_cases h2 : (x.toNat : Int) ≤ 126
        · rw [decide_eq_true h1, decide_eq_true h2] at hd
          have ht : (l.take (i + 1)).all prCh = true := by
            rw [List.take_add_one, hxl]
            simp only [Option.toList, List.all_append, Hall.out, List.all_cons, hd, List.all_nil]
            rfl
          have Ht := Lib.hid ht
          clear ht hxl hd hx
          go_wp2
          go_roundg gk
          case measure => omega
          case rel => exact ⟨i + 1, by omega, by go_num, Ht.out, Lib.hid rfl⟩
        · clear hd hxl hx
          go_wp2_with (go_at_call 11; refine Calls.mono (by with_reducible exact HKF.out) ?_; rintro e w6 ⟨rfl, hk6⟩)
          go_ret
          exact ⟨rfl, HFB.out _ hk6⟩
      · clear hd hxl hx
        go_wp2_with (go_at_call 11; refine Calls.mono (by with_reducible exact HKF.out) ?_; rintro e w6 ⟨rfl, hk6⟩)
        go_ret
        exact ⟨rfl, HFB.out _ hk6⟩
    | zero =>
      have hiz : ¬ ((i : Int) < (l.length : Int)) := by omega
      have hpa : l.all prCh = true := by rw [← Hall.out, List.take_of_length_le (by omega)]
      have HPA := Lib.hid hpa
      have HR1 := Lib.hid (show ∀ W, Kp [] _ W → _ from fun W hw => repl_any l 36 W (by omega) (HEE.out W hw))
      have HR2 := Lib.hid (show ∀ W, Kp [] _ W → _ from fun W hw => repl_any (dblL 36 l) 37 W (by have := (dbl_len 36 l).1; omega) (HEE.out W hw))
      rw [dbl_esc] at HR2
      have HEP := Lib.hid (fun h => expand_plain l v hpa h)
      clear hpa
      go_wp2_with fail
      refine Calls.mono (by with_reducible exact HR1.out _ (Kp.refl [] _)) ?_
      rintro e w2 ⟨rfl, hk2⟩
      go_wp2_with fail
      refine Calls.mono (by with_reducible exact HR2.out _ hk2) ?_
      rintro e w3 ⟨rfl, hk3⟩
      have hk13 := hk2.trans hk3
      have HKF := Lib.hid (HKN.out _ hk13)
      have HE3 := Lib.hid (HEE.out _ hk13)
      have HK3 := Lib.hid hk13
      obtain ⟨c0, c1, c2, c3, c4, c5, c6, c7, c8, c9⟩ := HCL.out _ hk13
      have hxs : (bs (escL l)).size = (escL l).length := rfl
      clear HR1 HR2 hk2 hk3 hk13
      by_cases h256 : 256 < (escL l).length
      · have hi256 : (256 : Int) < ((escL l).length : Int) := by omega
        go_wp2_with (go_at_call 11; refine Calls.mono (by with_reducible exact HKF.out) ?_; rintro e w6 ⟨rfl, hk6⟩)
        go_ret
        exact ⟨rfl, HFB.out _ (HK3.out.trans hk6)⟩
      · have hi256 : ¬ (256 : Int) < ((escL l).length : Int) := by omega
        obtain ⟨hx1, hx2⟩ := HEP.out (by omega)
        have HX := Lib.hid (show Calls Tryz.prog 21 #[.string (bs (escL l)), .agg #[.string (bs v.kernel), .string (bs v.devpath), .string (bs v.id), .string (bs v.driver), .string (bs v.parent), .string (bs v.name), .string (bs v.result), .slice sa na ca, .slice sb nb cb, .slice sc nc cc]] w3 (fun e w' => e = .returned (.tuple #[.string (bs l), .int .i64 0]) ∧ Kp [] w3 w') from (expand_any HE3.out (escL l) (by omega) v (.slice sa na ca) (.slice sb nb cb) (.slice sc nc cc) (.inr hx2)).mono fun e w' ⟨h1, h2⟩ => ⟨by rw [h1, hx1], h2⟩)
        clear hx1 hx2 HEP
        go_upto_region 10 with (go_at_call 21; refine Calls.mono (by with_reducible exact HX.out) ?_; rintro e w5 ⟨rfl, hk5⟩)
        have HKF2 := Lib.hid (HKN.out _ (HK3.out.trans hk5))
        have HK5 := Lib.hid (HK3.out.trans hk5)
        clear hk5 c0 c1 c2 c3 c4 c5 c6 c7 c8 c9
        go_wp2_with (go_at_call 11; refine Calls.mono (by with_reducible exact HKF2.out) ?_; rintro e w6 ⟨rfl, hk6⟩)
        go_ret
        exact ⟨rfl, HFB.out _ (HK5.out.trans hk6)⟩
theorem substitutePlain_walk (s : ByteArray) (v : Vs) (sa : Option Addr) (na ca : Nat) (sb : Option Addr) (nb cb : Nat) (sc : Option Addr) (nc cc : Nat) (w : World) (hE : Env w) (hs : s.size ≤ 1048576) : Calls Tryz.prog 7 #[.string s, .agg (vsC v (.slice sa na ca) (.slice sb nb cb) (.slice sc nc cc))] w fun e w' => e = .returned (.bool true) ∧ Below w.heap.size w w' := by
  have h := plain_core s.data.toList v sa na ca sb nb cb sc nc cc w hE hs
  rwa [bs_of] at h
end Go.Proofs.YtfpkppgecmbglaaGreatDoor
