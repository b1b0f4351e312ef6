
/- The reference's small functions, the second part, and interface names. -/
import Derived.Test.YthdnbcgomepgaaaDoorNR
namespace Go.Proofs.YthdnbcgomepgaaaDoor.Nm
open Go.RowKit

theorem text_iff (b : UInt8) : TextSet.contains b = (decide (32 ≤ (b.toNat : Int)) && decide ((b.toNat : Int) ≤ 126)) := by
  have := forall_u8 (p := fun b => TextSet.contains b == (decide (32 ≤ (b.toNat : Int)) && decide ((b.toNat : Int) ≤ 126))) (by decide +kernel) b
  simpa using this

set_option maxHeartbeats 400000 in
set_option maxRecDepth 100000 in
theorem printable_any (s : ByteArray) (w : World) (hs : s.size ≤ 4611686018427387904) :
    Calls Tryd.prog 64 #[.string s] w fun e w' => e = .returned (.bool (allIn TextSet s.data.toList)) ∧ w' = w := by
  obtain ⟨res, hres⟩ : ∃ res, allIn TextSet s.data.toList = res := ⟨_, rfl⟩
  rw [hres]
  have Hres := Lib.hid hres
  clear hres
  go_enter Tryd.func64, Tryd.ntmps64
  go_wp2
  go_loop [3] (fun s3 => ∃ i : Nat, i ≤ s.size ∧ s3 = .int .i64 i ∧ allIn TextSet (s.data.toList.take i) = true) (fun s3 => s.size - (intOf s3).toNat)
  case atStart => exact ⟨0, by omega, rfl, rfl⟩
  case round =>
    obtain ⟨i, hi, rfl, hall⟩ := hrel
    have Hall := Lib.hid hall
    clear hall
    by_cases hlt : i < s.size
    · have hiz : (i : Int) < (s.size : Int) := by omega
      obtain ⟨x, hx⟩ : ∃ x : UInt8, s[i]'hlt = x := ⟨_, rfl⟩
      have hxl : s.data.toList[i]? = some x := by rw [← hx]; exact Lib.data_getElem? s i hlt
      have hd := text_iff x
      by_cases h1 : 32 ≤ (x.toNat : Int)
      · by_cases h2 : (x.toNat : Int) ≤ 126
        · rw [decide_eq_true h1, decide_eq_true h2] at hd
          have ht : allIn TextSet (s.data.toList.take (i + 1)) = true := by
            rw [List.take_add_one, hxl]
            simp only [Option.toList]
            rw [allIn_snoc, Hall.out, hd]
            rfl
          have Ht := Lib.hid ht
          clear ht hxl hd
          go_wp2
          go_round
          case rel => exact ⟨i + 1, by omega, by go_num, Ht.out⟩
          case measure => simp [intOf]; omega
        · rw [decide_eq_true h1, decide_eq_false h2] at hd
          have hf := allIn_false TextSet s.data.toList i x hxl hd
          have hr : res = false := by rw [← Hres.out, hf]
          subst hr
          clear hd hf hxl
          go_wp2
          go_ret
          exact ⟨rfl, rfl⟩
      · rw [decide_eq_false h1, Bool.false_and] at hd
        have hf := allIn_false TextSet s.data.toList i x hxl hd
        have hr : res = false := by rw [← Hres.out, hf]
        subst hr
        clear hd hf hxl
        go_wp2
        go_ret
        exact ⟨rfl, rfl⟩
    · have h : s.data.toList.take i = s.data.toList := List.take_of_length_le (by rw [← Lib.size_eq]; omega)
      rw [h] at Hall
      have hr : res = true := by rw [← Hres.out, Hall.out]
      subst hr
      go_wp2
      go_ret
      exact ⟨rfl, rfl⟩

set_option maxHeartbeats 400000 in
theorem refText_any (s : ByteArray) (w : World) (hs : s.size ≤ 4611686018427387904) :
    Calls Tryd.prog 40 #[.string s] w fun e w' => e = .returned (.bool (textB s.data.toList)) ∧ w' = w := by
  have hsz := Lib.size_eq s
  have hp := fun W => printable_any s W hs
  obtain ⟨res, hres⟩ : ∃ res, textB s.data.toList = res := ⟨_, rfl⟩
  rw [hres]
  unfold textB at hres
  rw [← hsz] at hres
  cases ha : allIn TextSet s.data.toList with
  | false =>
    have hr : res = false := by rw [← hres, ha]; simp
    subst hr
    rw [ha] at hp
    have Hp := Lib.hid hp
    clear hp ha hres hsz
    go_enter Tryd.func40, Tryd.ntmps40
    go_wp2_with fail
    refine (Hp.out _).mono ?_
    rintro e w1 ⟨rfl, rfl⟩
    go_wp2
    go_ret
    exact ⟨rfl, rfl⟩
  | true =>
    rw [ha, Bool.and_true] at hres
    rw [ha] at hp
    have Hp := Lib.hid hp
    clear hp ha hsz
    by_cases hl : (s.size : Int) ≤ 256
    · have hr : res = true := by rw [← hres]; exact decide_eq_true (by omega)
      subst hr
      clear hres
      go_enter Tryd.func40, Tryd.ntmps40
      go_wp2_with fail
      refine (Hp.out _).mono ?_
      rintro e w1 ⟨rfl, rfl⟩
      go_wp2
      go_ret
      exact ⟨rfl, rfl⟩
    · have hr : res = false := by rw [← hres]; exact decide_eq_false (by omega)
      subst hr
      have hdl : decide ((s.size : Int) ≤ 256) = false := decide_eq_false hl
      clear hres
      go_enter Tryd.func40, Tryd.ntmps40
      go_wp2_with fail
      refine (Hp.out _).mono ?_
      rintro e w1 ⟨rfl, rfl⟩
      go_wp2
      go_ret
      exact ⟨rfl, rfl⟩

/-- Interface names: names of at most 15 bytes without ":" and "!". -/
def ifaceB (l : List UInt8) : Bool := nameB NameSet l && decide (l.length ≤ 15) && !l.contains 58 && !l.contains 33

theorem contains_one (s : ByteArray) (c : UInt8) : decide (0 ≤ Lib.indexByte s.data.toList c) = s.data.toList.contains c := (Lib.contains_iff_indexByte _ _).symm

set_option maxHeartbeats 400000 in
set_option maxRecDepth 100000 in
theorem refInterface_any (s : ByteArray) (w : World) (hs : s.size ≤ 4611686018427387904) :
    Calls Tryd.prog 41 #[.string s] w fun e w' => e = .returned (.bool (ifaceB s.data.toList)) ∧ w' = w := by
  have hsz := Lib.size_eq s
  have hv := fun W => refValid_any s W hs
  have h58 := fun W => Tryd.strings_Contains_one s 58 W
  have h33 := fun W => Tryd.strings_Contains_one s 33 W
  simp only [contains_one] at h58 h33
  obtain ⟨res, hres⟩ : ∃ res, ifaceB s.data.toList = res := ⟨_, rfl⟩
  rw [hres]
  unfold ifaceB at hres
  rw [← hsz] at hres
  clear hsz
  cases ha : nameB NameSet s.data.toList with
  | false =>
    have hr : res = false := by rw [← hres, ha]; rfl
    subst hr
    rw [ha] at hv
    have Hv := Lib.hid hv
    clear hv ha hres h58 h33
    go_enter Tryd.func41, Tryd.ntmps41
    go_wp2_with fail
    refine (Hv.out _).mono ?_
    rintro e w1 ⟨rfl, rfl⟩
    go_wp2
    go_ret
    exact ⟨rfl, rfl⟩
  | true =>
    rw [ha, Bool.true_and] at hres
    rw [ha] at hv
    have Hv := Lib.hid hv
    clear hv ha
    by_cases hl : (s.size : Int) ≤ 15
    · rw [decide_eq_true (by omega), Bool.true_and] at hres
      cases h5 : s.data.toList.contains 58 with
      | true =>
        have hr : res = false := by rw [← hres, h5]; rfl
        subst hr
        rw [h5] at h58
        have H58 := Lib.hid h58
        clear h58 h33 hres h5
        go_enter Tryd.func41, Tryd.ntmps41
        go_wp2_with fail
        refine (Hv.out _).mono ?_
        rintro e w1 ⟨rfl, rfl⟩
        go_wp2_with fail
        refine (H58.out _).mono ?_
        rintro e w2 ⟨rfl, rfl⟩
        go_wp2
        go_ret
        exact ⟨rfl, rfl⟩
      | false =>
        rw [h5, Bool.not_false, Bool.true_and] at hres
        rw [h5] at h58
        have H58 := Lib.hid h58
        clear h58 h5
        cases h3 : s.data.toList.contains 33 with
        | true =>
          have hr : res = false := by rw [← hres, h3]; rfl
          subst hr
          rw [h3] at h33
          have H33 := Lib.hid h33
          clear h33 hres h3
          go_enter Tryd.func41, Tryd.ntmps41
          go_wp2_with fail
          refine (Hv.out _).mono ?_
          rintro e w1 ⟨rfl, rfl⟩
          go_wp2_with fail
          refine (H58.out _).mono ?_
          rintro e w2 ⟨rfl, rfl⟩
          go_wp2_with fail
          refine (H33.out _).mono ?_
          rintro e w3 ⟨rfl, rfl⟩
          go_wp2
          go_ret
          exact ⟨rfl, rfl⟩
        | false =>
          have hr : res = true := by rw [← hres, h3]; rfl
          subst hr
          rw [h3] at h33
          have H33 := Lib.hid h33
          clear h33 hres h3
          go_enter Tryd.func41, Tryd.ntmps41
          go_wp2_with fail
          refine (Hv.out _).mono ?_
          rintro e w1 ⟨rfl, rfl⟩
          go_wp2_with fail
          refine (H58.out _).mono ?_
          rintro e w2 ⟨rfl, rfl⟩
          go_wp2_with fail
          refine (H33.out _).mono ?_
          rintro e w3 ⟨rfl, rfl⟩
          go_wp2
          go_ret
          exact ⟨rfl, rfl⟩
    · have hr : res = false := by rw [← hres, decide_eq_false (by omega)]; rfl
      subst hr
      clear hres h58 h33
      go_enter Tryd.func41, Tryd.ntmps41
      go_wp2_with fail
      refine (Hv.out _).mono ?_
      rintro e w1 ⟨rfl, rfl⟩
      go_wp2
      go_ret
      exact ⟨rfl, rfl⟩

theorem nameSet_ascii (b : UInt8) : (!NameSet.contains b || decide (b.toNat < 128)) = true :=
  forall_u8 (p := fun b => !NameSet.contains b || decide (b.toNat < 128)) (by decide +kernel) b
theorem name_ascii {l : List UInt8} (h : nameB NameSet l = true) : ∀ (j : Nat) b, l[j]? = some b → b.toNat < 128 := by
  intro j b hb
  unfold nameB at h
  rw [Bool.and_eq_true] at h
  have h1 := List.all_eq_true.1 h.2 b (List.mem_of_getElem? hb)
  have h2 := nameSet_ascii b
  rw [h1] at h2
  simpa using h2
theorem containsAny_two : ∀ l : List UInt8, Lib.containsAny l [58, 33] = (l.contains 58 || l.contains 33)
  | [] => rfl
  | b :: l => by
    have ih := containsAny_two l
    unfold Lib.containsAny at ih ⊢
    rw [Lib.indexAny]
    by_cases h1 : b = 58
    · subst h1; simp
    · by_cases h2 : b = 33
      · subst h2; simp
      · have hc : ([58, 33] : List UInt8).contains b = false := by simp [h1, h2]
        rw [if_neg (by rw [hc]; exact Bool.false_ne_true)]
        have e1 : (b :: l).contains 58 = l.contains 58 := by simp [Ne.symm h1]
        have e2 : (b :: l).contains 33 = l.contains 33 := by simp [Ne.symm h2]
        rw [e1, e2, ← ih]
        have hg := Lib.indexAny_ge [58, 33] l
        split
        · rename_i h; have := eq_of_beq h; rw [this]
        · rename_i h
          have h3 : Lib.indexAny l [58, 33] ≠ -1 := by simpa using h
          rw [decide_eq_true (by omega), decide_eq_true (by omega)]

theorem info76 : (Tryd.prog.info? 108).map (fun i => (i.zero, i.size)) = some (some (.agg (Array.replicate 256 (.bool false))), 256) := by kernel_rfl

set_option maxHeartbeats 400000 in
set_option maxRecDepth 100000 in
theorem interface_any (s : ByteArray) (w : World) (hs : s.size ≤ 4000000000) :
    Calls Tryd.prog 60 #[.string s] w (Bel (.bool (ifaceB s.data.toList)) w) := by
  have hsz := Lib.size_eq s
  have hv := fun W => valid_any s W (by omega)
  obtain ⟨res, hres⟩ : ∃ res, ifaceB s.data.toList = res := ⟨_, rfl⟩
  rw [hres]
  unfold ifaceB at hres
  rw [← hsz] at hres
  clear hsz
  by_cases hl : (s.size : Int) ≤ 15
  · rw [decide_eq_true (by omega), Bool.and_true] at hres
    cases ha : nameB NameSet s.data.toList with
    | false =>
      have hr : res = false := by rw [← hres, ha]; rfl
      subst hr
      rw [ha] at hv
      have Hv := Lib.hid hv
      clear hv ha hres
      go_enter Tryd.func60, Tryd.ntmps60
      go_wp2_with fail
      refine (Hv.out _).mono ?_
      rintro e w1 ⟨rfl, hb⟩
      go_wp2
      go_ret
      exact ⟨rfl, hb⟩
    | true =>
      have hca := fun W => Tryd.strings_ContainsAny_laid s ⟨#[58, 33]⟩ W (by omega) (by decide) (name_ascii ha) (by
        intro j b hb
        match j, hb with
        | 0, hb => cases hb; decide
        | 1, hb => cases hb; decide
        | k + 2, hb => simp at hb)
      rw [show (⟨#[58, 33]⟩ : ByteArray).data.toList = [58, 33] from rfl, containsAny_two] at hca
      rw [ha, Bool.true_and] at hres
      rw [ha] at hv
      have hr : res = !(s.data.toList.contains 58 || s.data.toList.contains 33) := by rw [← hres, Bool.not_or]
      subst hr
      generalize (s.data.toList.contains 58 || s.data.toList.contains 33) = q at *
      have Hv := Lib.hid hv
      have Hca := Lib.hid hca
      clear hv ha hres hca
      go_enter Tryd.func60, Tryd.ntmps60
      go_wp2_with fail
      refine (Hv.out _).mono ?_
      rintro e w1 ⟨rfl, hb⟩
      go_wp2_with fail
      refine (Hca.out _).mono ?_
      rintro e w2 ⟨rfl, hb2⟩
      go_wp2
      go_ret
      exact ⟨rfl, hb.trans (hb2.mono hb.size)⟩
  · have hr : res = false := by rw [← hres, decide_eq_false (show ¬ s.size ≤ 15 by omega)]; simp
    subst hr
    clear hv hres
    go_enter Tryd.func60, Tryd.ntmps60
    go_wp2
    go_ret
    exact ⟨rfl, Below.refl _ _⟩
end Go.Proofs.YthdnbcgomepgaaaDoor.Nm
