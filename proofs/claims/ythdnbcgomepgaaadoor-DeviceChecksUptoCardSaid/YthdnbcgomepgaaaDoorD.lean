/- Where an attribute is: the closure, slices.BinarySearchFunc, place; slices.Clone. -/
import Derived.Test.YthdnbcgomepgaaaDoorC
import Derived.Test.YthdnbcgomepgaaaDoorShelf
namespace Go.Proofs.YthdnbcgomepgaaaDoor
open Go.RowKit

def Bel (v : Value) (w : World) (e : Ending) (w' : World) : Prop := e = .returned v ∧ Below w.heap.size w w'

set_option maxHeartbeats 400000 in
set_option maxRecDepth 100000 in
theorem closure_any (a v n : ByteArray) (w : World) : Calls Tryd.prog 68 #[.agg #[.string a, .string v], .string n] w (Bel (.int .i64 (Lib.compareBytes a.data.toList n.data.toList)) w) := by
  have HC := Lib.hid (fun W => Tryd.strings_Compare a n W)
  go_enter Tryd.func68, Tryd.ntmps68
  go_wp2_with fail
  refine (HC.out _).mono ?_
  rintro e W ⟨rfl, rfl⟩
  go_wp2
  go_ret
  exact ⟨rfl, (Below.refl _ w).alloc (Nat.le_refl _) _⟩

/-- Where n stands in l, or belongs. -/
structure Place (n : ByteArray) (l : List Atr) (a : Nat) (f : Bool) : Prop where
  le : a ≤ l.length
  less : ∀ (t : Nat) x, l[t]? = some x → (Lib.compareBytes x.1.data.toList n.data.toList < 0 ↔ t < a)
  at_ : ∀ x, l[a]? = some x → f = decide (Lib.compareBytes x.1.data.toList n.data.toList = 0)
  end_ : l.length ≤ a → f = false

set_option maxHeartbeats 1000000 in
set_option maxRecDepth 100000 in
theorem search_any (n : ByteArray) (sv : Value) (l : List Atr) (a : Nat) (f : Bool) (w : World) (hl : l.length ≤ 1000000) (h : Has w sv l) (hp : Place n l a f) :
    Calls Tryd.prog 67 #[sv, .string n, .func (.func 68) #[] #[]] w (Bel (.tuple #[.int .i64 a, .bool f]) w) := by
  have HC := Lib.hid (fun x v W => closure_any x v n W)
  have HP := Lib.hid hp
  have hal := hp.le
  clear hp
  rcases h with ⟨ad, c, rfl, rfl⟩ | ⟨b, o, c, rfl, hb, hrow⟩
  · have ha0 : a = 0 := by simpa using hal
    have hf0 : f = false := HP.out.end_ (by simp)
    subst ha0 hf0
    have hz : ¬ ((0 : Int) < ((0 : Nat) : Int)) := by omega
    clear HP hal hl
    go_enter Tryd.func67, Tryd.ntmps67
    go_wp2
    go_loopw [9, 10] (fun s9 s10 wx => s9 = .int .i64 0 ∧ s10 = .int .i64 0 ∧ w = wx) (fun _ _ _ => 0)
    case atStart => exact ⟨rfl, rfl, rfl⟩
    case round =>
      obtain ⟨rfl, rfl, rfl⟩ := hrel
      go_wp2
      go_ret2
      exact ⟨rfl, Below.refl _ _⟩
  · have HW := Lib.hid hrow
    clear hrow
    go_enter Tryd.func67, Tryd.ntmps67
    go_wp2
    go_loopw [9, 10] (fun s9 s10 wx => ∃ lo hi : Nat, s9 = .int .i64 lo ∧ s10 = .int .i64 hi ∧ lo ≤ a ∧ a ≤ hi ∧ hi ≤ l.length ∧ Below w.heap.size w wx) (fun s9 s10 _ => (intOf s10).toNat - (intOf s9).toNat)
    case atStart => exact ⟨0, l.length, rfl, rfl, by omega, hal, Nat.le_refl _, Below.refl _ _⟩
    case round =>
      obtain ⟨lo, hi, rfl, rfl, hla, hah, hhl, hbl⟩ := hrel
      by_cases hlt : lo < hi
      · have hiz : (lo : Int) < (hi : Int) := by omega
        obtain ⟨x, hx⟩ : ∃ x, l[(lo + hi) / 2]? = some x := ⟨_, List.getElem?_eq_getElem (by omega)⟩
        obtain ⟨hc0, hc1⟩ := HW.out _ x hx
        rw [← hbl.cell (p := ⟨b, o + (lo + hi) / 2 * 2, none⟩) hb] at hc0
        rw [← hbl.cell (p := ⟨b, o + (lo + hi) / 2 * 2 + 1, none⟩) hb] at hc1
        have hless := HP.out.less _ x hx
        generalize hcv : Lib.compareBytes x.1.data.toList n.data.toList = cv at hless
        have Hcv := Lib.hid hcv
        have Hbl := Lib.hid hbl
        clear hcv hbl hx
        go_wp2_with fail
        refine (HC.out _ _ _).mono ?_
        rintro e W ⟨rfl, hb2⟩
        have Hb2 := Lib.hid (Hbl.out.trans (hb2.mono Hbl.out.size))
        rw [Hcv.out]
        clear hb2
        by_cases hlo : (lo + hi) / 2 < a
        · have hcv0 := hless.2 hlo
          clear hless
          go_wp2
          exact ⟨⟨(lo + hi) / 2 + 1, hi, by go_num, rfl, by omega, hah, hhl, Hb2.out⟩, by simp [intOf]; omega⟩
        · have hcv0 : ¬ cv < 0 := fun h => hlo (hless.1 h)
          clear hless
          go_wp2
          exact ⟨⟨lo, (lo + hi) / 2, rfl, by go_num, hla, by omega, by omega, Hb2.out⟩, by simp [intOf]; omega⟩
      · have hiz : ¬ ((lo : Int) < (hi : Int)) := by omega
        obtain rfl : lo = a := by omega
        have Hbl := Lib.hid hbl
        clear hbl
        by_cases hend : lo < l.length
        · have hiz2 : (lo : Int) < (l.length : Int) := by omega
          obtain ⟨x, hx⟩ : ∃ x, l[lo]? = some x := ⟨_, List.getElem?_eq_getElem hend⟩
          obtain ⟨hc0, hc1⟩ := HW.out _ x hx
          rw [← Hbl.out.cell (p := ⟨b, o + lo * 2, none⟩) hb] at hc0
          rw [← Hbl.out.cell (p := ⟨b, o + lo * 2 + 1, none⟩) hb] at hc1
          have hat := HP.out.at_ x hx
          generalize hcv : Lib.compareBytes x.1.data.toList n.data.toList = cv at hat
          have Hcv := Lib.hid hcv
          subst hat
          clear hcv hx HP
          go_wp2_with fail
          refine (HC.out _ _ _).mono ?_
          rintro e W ⟨rfl, hb2⟩
          have Hb2 := Lib.hid (Hbl.out.trans (hb2.mono Hbl.out.size))
          rw [Hcv.out]
          clear hb2
          by_cases hq : cv = 0
          · go_wp2
            go_ret2
            exact ⟨by simp [hq], Hb2.out⟩
          · go_wp2
            go_ret2
            exact ⟨by simp [hq], Hb2.out⟩
        · have hiz2 : ¬ ((lo : Int) < (l.length : Int)) := by omega
          have hf0 : f = false := HP.out.end_ (by omega)
          subst hf0
          clear HP
          go_wp2
          go_ret2
          exact ⟨rfl, Hbl.out⟩

set_option maxHeartbeats 400000 in
set_option maxRecDepth 100000 in
theorem place_any (n : ByteArray) (sv : Value) (l : List Atr) (a : Nat) (f : Bool) (w : World) (hl : l.length ≤ 1000000) (h : Has w sv l) (hp : Place n l a f) :
    Calls Tryd.prog 44 #[sv, .string n] w (Bel (.tuple #[.int .i64 a, .bool f]) w) := by
  have HS := Lib.hid (search_any n sv l a f w hl h hp)
  clear h hp
  go_enter Tryd.func44, Tryd.ntmps44
  go_wp2_with fail
  refine HS.out.mono ?_
  rintro e W ⟨rfl, hb⟩
  go_wp2
  go_ret2
  exact ⟨rfl, hb⟩

theorem cmp_atr (x : ByteArray) (n : ByteArray) : Lib.compareBytes x.data.toList n.data.toList < 0 ↔ lt x n = true := by
  rw [cmp_lt, ← Lib.toList_data, ← Lib.toList_data]
  rfl
theorem cmp_atr0 (x : ByteArray) (n : ByteArray) : Lib.compareBytes x.data.toList n.data.toList = 0 ↔ x = n := by
  rw [cmp_eq]
  exact ⟨fun h => ByteArray.ext (Array.toList_inj.1 h), fun h => by rw [h]⟩

/-- The place in a list that is split around n. -/
theorem place_split {n : ByteArray} {A M C : List Atr} (hA : ∀ x ∈ A, lt x.1 n = true) (hM : M = [] ∨ ∃ y, M = [(n, y)]) (hC : ∀ x ∈ C, lt n x.1 = true) : Place n (A ++ (M ++ C)) A.length (!M.isEmpty) := by
  have hlt : ∀ (t : Nat) x, (A ++ (M ++ C))[t]? = some x → (lt x.1 n = true ↔ t < A.length) := fun t x hx => by
    by_cases ht : t < A.length
    · rw [List.getElem?_append_left ht] at hx
      exact ⟨fun _ => ht, fun _ => hA x (List.mem_of_getElem? hx)⟩
    · rw [List.getElem?_append_right (by omega)] at hx
      refine ⟨fun h => ?_, fun h => absurd h ht⟩
      rcases List.mem_append.1 (List.mem_of_getElem? hx) with hm | hm
      · rcases hM with rfl | ⟨y, rfl⟩
        · cases hm
        · rw [List.mem_singleton.1 hm, lt_irrefl] at h
          exact Bool.noConfusion h
      · rw [lt_asymm (hC x hm)] at h
        exact Bool.noConfusion h
  refine ⟨by simp, fun t x hx => (cmp_atr _ _).trans (hlt t x hx), fun x hx => ?_, fun h => ?_⟩
  · rw [List.getElem?_append_right (Nat.le_refl _), Nat.sub_self] at hx
    rcases hM with rfl | ⟨y, rfl⟩
    · have := hC x (List.mem_of_getElem? (by simpa using hx))
      have : ¬ Lib.compareBytes x.1.data.toList n.data.toList = 0 := fun e => (lt_ne this).symm ((cmp_atr0 _ _).1 e)
      simp [this]
    · simp at hx
      subst hx
      have : Lib.compareBytes n.data.toList n.data.toList = 0 := (cmp_atr0 _ _).2 rfl
      simp [this]
  · rcases hM with rfl | ⟨y, rfl⟩
    · rfl
    · simp at h
      omega

set_option maxHeartbeats 400000 in
set_option maxRecDepth 100000 in
theorem clone_any (sv : Value) (l : List Atr) (w : World) (hl : l.length ≤ 1000000) (h : Has w sv l) :
    Calls Tryd.prog 45 #[sv] w fun e w' => ∃ u, e = .returned u ∧ Owns w' w.heap.size u l ∧ Below w.heap.size w w' := by
  obtain ⟨i0, hi0, hz0, hz1, hz2⟩ := info_parts info55
  have q22 : ∀ (w : World) (a : Option Addr) (n c n' c' : Nat), (binOp .eql 22 (.slice a n c) (.slice none n' c')).run Tryd.prog w = .ok (.bool a.isNone) w := fun w a n c n' c' => Lib.run_eql_slice_nil w _ _ a n c n' c' Tryd.underlying22
  have hfin : ∀ w1, (w.alloc (.cells #[] 55)).grownBy w1 (some w.heap.size) → Below w.heap.size w w1 := fun w1 hg => ((Below.refl _ w).alloc (Nat.le_refl _) _).grown hg (by simp) fun k hk => by cases hk; exact Nat.le_refl _
  have HF := Lib.hid hfin
  clear hfin
  rcases h with ⟨ad, c, rfl, rfl⟩ | ⟨b, o, c, rfl, hb, hrow⟩
  · cases ad with
    | none =>
      clear hi0 hz0 hz1 hz2
      go_enter Tryd.func45, Tryd.ntmps45
      go_wp2
      go_ret
      exact ⟨_, rfl, Owns.nil _ _, Below.refl _ _⟩
    | some ad =>
      go_enter Tryd.func45, Tryd.ntmps45
      go_wp2_with (at_builtin; refine wpList_append_own _ rfl _ _ 22 rfl w.heap.size 55 i0 _ 2 32 Tryd.underlying22 hi0 hz0 hz1 hz2 rfl (by decide) _ _ _ rfl (World.ownsRow_made w #[] 0 (Nat.le_refl _) (Nat.zero_le _) (by simp)) ad 0 c [] rfl rfl (fun j u hj => by simp at hj) (by simp) (by unfold maxLen; omega) (by omega) (by first | (simp; done) | (simp; omega)) ?_; intro v1 w1 hown1 hgrow1 _; have Hown1 := Lib.hid hown1; have Hgrow1 := Lib.hid hgrow1; clear hown1 hgrow1)
      go_ret
      exact ⟨_, rfl, Hown1.out, HF.out _ Hgrow1.out⟩
  · obtain ⟨N, hN⟩ : ∃ N, l.length = N := ⟨_, rfl⟩
    have hlc := cellsP_len l
    have hcs : ∀ j u, (cellsP l)[j]? = some u → w.cell? ((⟨b, o, none⟩ : Addr).add j) = some u := fun j u hj => by
      have hadd : (⟨b, o, none⟩ : Addr).add j = ⟨b, o + j, none⟩ := by unfold Addr.add; split <;> simp_all
      rw [hadd]
      have hjl : j < l.length * 2 := by rw [← hlc]; exact (List.getElem?_eq_some_iff.1 hj).1
      obtain ⟨x, hx⟩ : ∃ x, l[j / 2]? = some x := ⟨_, List.getElem?_eq_getElem (by omega)⟩
      have h1 := cellsP_get l _ x hx
      have h2 := hrow _ x hx
      rcases Nat.mod_two_eq_zero_or_one j with hm | hm
      · rw [show j / 2 * 2 = j by omega] at h1 h2
        rw [hj] at h1
        rw [h2.1, h1.1]
      · rw [show j / 2 * 2 + 1 = j by omega] at h1
        rw [show o + j / 2 * 2 + 1 = o + j by omega] at h2
        rw [hj] at h1
        rw [h2.2, h1.2]
    have HC := Lib.hid (fun j u hj => ((Below.refl _ w).alloc (Nat.le_refl _) (.cells #[] 55)).cell (p := (⟨b, o, none⟩ : Addr).add j) (show ((⟨b, o, none⟩ : Addr).add j).block < w.heap.size by unfold Addr.add; split <;> exact hb) |>.trans (hcs j u hj))
    have HO := Lib.hid (cellsP_one l)
    unfold Owns
    rw [hN] at hlc hl ⊢
    clear hcs hrow hN
    go_enter Tryd.func45, Tryd.ntmps45
    go_wp2_with (at_builtin; refine wpList_append_own _ rfl _ _ 22 rfl w.heap.size 55 i0 _ 2 32 Tryd.underlying22 hi0 hz0 hz1 hz2 rfl (by decide) _ _ _ rfl (World.ownsRow_made w #[] 0 (Nat.le_refl _) (Nat.zero_le _) (by simp)) ⟨b, o, none⟩ N c (cellsP l) rfl hlc HC.out HO.out (by unfold maxLen; omega) (by omega) (by first | (simp; done) | (simp; omega)) ?_; intro v1 w1 hown1 hgrow1 _; have Hown1 := Lib.hid hown1; have Hgrow1 := Lib.hid hgrow1; clear hown1 hgrow1)
    go_ret
    refine ⟨_, rfl, ?_, HF.out _ Hgrow1.out⟩
    have := Hown1.out
    rw [Nat.zero_add, List.nil_append] at this
    exact this
end Go.Proofs.YthdnbcgomepgaaaDoor
