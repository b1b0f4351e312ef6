/- GlobJoins: the law's walk. -/
import Derived.Test.YtapiofcdifligaaDoorLChoices
namespace Go.Proofs.YtapiofcdifligaaDoor
open Go.RowKit

/-- Is there a place before n that parts s between the patterns? -/
def splitB (p q s : List UInt8) (n : Nat) : Bool := (List.range n).any fun i => patB p (s.take i) && patB q (s.drop i)
theorem splitB_succ (p q s : List UInt8) (n : Nat) : splitB p q s (n + 1) = (splitB p q s n || (patB p (s.take n) && patB q (s.drop n))) := by
  unfold splitB
  rw [List.range_succ, List.any_append]
  simp
theorem splitB_join {p q : List UInt8} {x y : List (List El)} (hx : altsP p = some x) (hy : altsP q = some y) (hl : p.length + q.length ≤ 256) (hp : (124 : UInt8) ∉ p) (hq : (124 : UInt8) ∉ q) (s : List UInt8) :
    patB (p ++ q) s = splitB p q s (s.length + 1) := by
  rw [Bool.eq_iff_iff, patB_join hx hy hl hp hq]
  unfold splitB
  rw [List.any_eq_true]
  constructor
  · rintro ⟨i, hi, h1, h2⟩
    exact ⟨i, List.mem_range.2 (by omega), by rw [h1, h2]; rfl⟩
  · rintro ⟨i, hi, h⟩
    rw [Bool.and_eq_true] at h
    exact ⟨i, by have := List.mem_range.1 hi; omega, h.1, h.2⟩
theorem extract_back (s : ByteArray) (n : Nat) : (s.extract n s.size).data.toList = s.data.toList.drop n := by
  have := Lib.extract_toList s n s.size
  rw [Lib.toList_data] at this
  rw [this]
  apply List.take_of_length_le
  rw [List.length_drop, ← Lib.size_eq]
  omega
theorem bar_out {p q : ByteArray} (h : decide (0 ≤ Lib.indexByte (p ++ q).data.toList 124) = false) : (124 : UInt8) ∉ p.data.toList ∧ (124 : UInt8) ∉ q.data.toList := by
  have h1 := of_decide_eq_false h
  have hge := Lib.indexByte_ge (p ++ q).data.toList 124
  have hn := Lib.indexByte_none (l := (p ++ q).data.toList) (c := 124) (by omega)
  have hno : (124 : UInt8) ∉ (p ++ q).data.toList := fun hm => by
    obtain ⟨i, hi⟩ := List.mem_iff_getElem?.1 hm
    exact hn i hi
  rw [bytes_append] at hno
  exact ⟨fun h => hno (List.mem_append_left _ h), fun h => hno (List.mem_append_right _ h)⟩

set_option maxHeartbeats 2000000 in
set_option maxRecDepth 100000 in
theorem globJoins_walk (p q s : ByteArray) (w : World) (hT : TabAt w) : Calls Tryd.prog 11 #[.string p, .string q, .string s] w (Bel (.bool true) w) := by
  have Hk := Lib.hid known_any
  have HT := Lib.hid hT
  have Hb := Lib.hid (Below.refl w.heap.size w)
  clear hT
  by_cases h1 : (p.size : Int) ≤ 40
  · by_cases h2 : (q.size : Int) ≤ 40
    · by_cases h3 : (s.size : Int) ≤ 40
      · have hbar := fun W => (Tryd.strings_Contains_one (p ++ q) 124 W)
        cases hd : decide (0 ≤ Lib.indexByte (p ++ q).data.toList 124) with
        | true =>
          rw [hd] at hbar
          have Hbar := Lib.hid hbar
          clear hbar hd
          go_enter Tryd.func11, Tryd.ntmps11
          go_wp2_with fail
          refine (Hbar.out _).mono ?_
          rintro e W0 ⟨rfl, rfl⟩
          go_wp2_with fail
          refine (Hk.out _ (HT.out.below Hb.out)).mono ?_
          rintro e W1 ⟨rfl, hb⟩
          replace Hb := Lib.hid (Hb.out.trans (hb.mono Hb.out.size))
          clear hb
          go_wp2
          go_ret
          exact ⟨rfl, Hb.out⟩
        | false =>
          rw [hd] at hbar
          obtain ⟨hpb, hqb⟩ := bar_out hd
          have Hbar := Lib.hid hbar
          have Hp := Lib.hid fun W => check_any p W (by omega)
          have Hq := Lib.hid fun W => check_any q W (by omega)
          clear hbar hd
          cases hx : altsP p.data.toList with
          | none =>
            have hne : (errP p.data.toList != 0) = true := by
              rcases errP_none hx with h | h <;> rw [h] <;> rfl
            generalize errP p.data.toList = E at *
            clear hx Hq hpb hqb
            go_enter Tryd.func11, Tryd.ntmps11
            go_wp2_with fail
            refine (Hbar.out _).mono ?_
            rintro e W0 ⟨rfl, rfl⟩
            go_wp2_with fail
            refine (Hp.out _).mono ?_
            rintro e W1 ⟨rfl, hb⟩
            replace Hb := Lib.hid (Hb.out.trans (hb.mono Hb.out.size))
            clear hb
            go_wp2_with fail
            refine (Hk.out _ (HT.out.below Hb.out)).mono ?_
            rintro e W1 ⟨rfl, hb⟩
            replace Hb := Lib.hid (Hb.out.trans (hb.mono Hb.out.size))
            clear hb
            go_wp2
            go_ret
            exact ⟨rfl, Hb.out⟩
          | some x =>
            rw [errP_some hx] at Hp
            cases hy : altsP q.data.toList with
            | none =>
              have hne : (errP q.data.toList != 0) = true := by
                rcases errP_none hy with h | h <;> rw [h] <;> rfl
              generalize errP q.data.toList = E at *
              clear hx hy hpb hqb
              go_enter Tryd.func11, Tryd.ntmps11
              go_wp2_with fail
              refine (Hbar.out _).mono ?_
              rintro e W0 ⟨rfl, rfl⟩
              go_wp2_with fail
              refine (Hp.out _).mono ?_
              rintro e W1 ⟨rfl, hb⟩
              replace Hb := Lib.hid (Hb.out.trans (hb.mono Hb.out.size))
              clear hb
              go_wp2_with fail
              refine (Hq.out _).mono ?_
              rintro e W1 ⟨rfl, hb⟩
              replace Hb := Lib.hid (Hb.out.trans (hb.mono Hb.out.size))
              clear hb
              go_wp2_with fail
              refine (Hk.out _ (HT.out.below Hb.out)).mono ?_
              rintro e W1 ⟨rfl, hb⟩
              replace Hb := Lib.hid (Hb.out.trans (hb.mono Hb.out.size))
              clear hb
              go_wp2
              go_ret
              exact ⟨rfl, Hb.out⟩
            | some y =>
              rw [errP_some hy] at Hq
              have hv := splitB_join hx hy (by rw [← Lib.size_eq, ← Lib.size_eq]; omega) hpb hqb s.data.toList
              have hm := fun W => match_any (p ++ q) s W (by rw [Lib.size_eq, bytes_append, List.length_append, ← Lib.size_eq, ← Lib.size_eq]; omega) (by omega)
              rw [bytes_append, hv, ← Lib.size_eq] at hm
              have hfront := fun (i : Nat) (hi : i ≤ s.size) W => match_any p (s.extract 0 i) W (by omega) (by rw [Lib.size_eq, extract_front, List.length_take, ← Lib.size_eq]; omega)
              have hback := fun (i : Nat) (hi : i ≤ s.size) W => match_any q (s.extract i s.size) W (by omega) (by rw [Lib.size_eq, extract_back, List.length_drop, ← Lib.size_eq]; omega)
              simp only [extract_front, extract_back] at hfront hback
              have Hm := Lib.hid hm
              have Hfront := Lib.hid hfront
              have Hback := Lib.hid hback
              clear hv hm hx hy hpb hqb hfront hback
              go_enter Tryd.func11, Tryd.ntmps11
              go_wp2_with fail
              refine (Hbar.out _).mono ?_
              rintro e W0 ⟨rfl, rfl⟩
              go_wp2_with fail
              refine (Hp.out _).mono ?_
              rintro e W1 ⟨rfl, hb⟩
              replace Hb := Lib.hid (Hb.out.trans (hb.mono Hb.out.size))
              clear hb
              go_wp2_with fail
              refine (Hq.out _).mono ?_
              rintro e W1 ⟨rfl, hb⟩
              replace Hb := Lib.hid (Hb.out.trans (hb.mono Hb.out.size))
              clear hb
              go_wp2
              go_loopw [7, 8] (fun s7 s8 wx => ∃ i : Nat, i ≤ s.size + 1 ∧ s8 = .int .i64 i ∧ s7 = .bool (splitB p.data.toList q.data.toList s.data.toList i) ∧ Below W0.heap.size W0 wx) (fun _ s8 _ => s.size + 1 - (intOf s8).toNat)
              case atStart => exact ⟨0, by omega, rfl, rfl, Hb.out⟩
              case round =>
                obtain ⟨i, hi, rfl, rfl, hbel⟩ := hrel
                have HB := Lib.hid hbel
                clear hbel Hb
                have hsucc := splitB_succ p.data.toList q.data.toList s.data.toList i
                by_cases hlt : (i : Int) ≤ (s.size : Int)
                · have hF := Hfront.out i (by omega)
                  have hBk := Hback.out i (by omega)
                  generalize hb0 : splitB p.data.toList q.data.toList s.data.toList i = b0 at *
                  generalize patB p.data.toList (s.data.toList.take i) = b1 at *
                  generalize patB q.data.toList (s.data.toList.drop i) = b2 at *
                  have HF := Lib.hid hF
                  have HBk := Lib.hid hBk
                  have Hs := Lib.hid hsucc
                  clear hF hBk hsucc hb0
                  cases b0 with
                  | true =>
                    go_wp2
                    exact ⟨⟨i + 1, by omega, rfl, by rw [Hs.out, Bool.true_or], HB.out⟩, by simp [intOf]; omega⟩
                  | false =>
                    cases b1 with
                    | false =>
                      go_wp2_with fail
                      refine (HF.out _).mono ?_
                      rintro e W4 ⟨rfl, hb⟩
                      replace HB := Lib.hid (HB.out.trans (hb.mono HB.out.size))
                      clear hb
                      go_wp2
                      exact ⟨⟨i + 1, by omega, rfl, by rw [Hs.out]; rfl, HB.out⟩, by simp [intOf]; omega⟩
                    | true =>
                      go_wp2_with fail
                      refine (HF.out _).mono ?_
                      rintro e W4 ⟨rfl, hb⟩
                      replace HB := Lib.hid (HB.out.trans (hb.mono HB.out.size))
                      clear hb
                      go_wp2_with fail
                      refine (HBk.out _).mono ?_
                      rintro e W5 ⟨rfl, hb⟩
                      replace HB := Lib.hid (HB.out.trans (hb.mono HB.out.size))
                      clear hb
                      go_wp2
                      exact ⟨⟨i + 1, by omega, rfl, by rw [Hs.out]; rfl, HB.out⟩, by simp [intOf]; omega⟩
                · obtain rfl : i = s.size + 1 := by omega
                  clear hsucc
                  have Hb := HB
                  clear HB
                  generalize splitB p.data.toList q.data.toList s.data.toList (s.size + 1) = b0 at *
                  cases b0 with
                  | true =>
                    go_wp2_with fail
                    refine (Hm.out _).mono ?_
                    rintro e W1 ⟨rfl, hb⟩
                    replace Hb := Lib.hid (Hb.out.trans (hb.mono Hb.out.size))
                    clear hb
                    go_wp2_with fail
                    refine (Hk.out _ (HT.out.below Hb.out)).mono ?_
                    rintro e W1 ⟨rfl, hb⟩
                    replace Hb := Lib.hid (Hb.out.trans (hb.mono Hb.out.size))
                    clear hb
                    go_wp2
                    go_ret
                    exact ⟨rfl, Hb.out⟩
                  | false =>
                    go_wp2_with fail
                    refine (Hm.out _).mono ?_
                    rintro e W1 ⟨rfl, hb⟩
                    replace Hb := Lib.hid (Hb.out.trans (hb.mono Hb.out.size))
                    clear hb
                    go_wp2_with fail
                    refine (Hk.out _ (HT.out.below Hb.out)).mono ?_
                    rintro e W1 ⟨rfl, hb⟩
                    replace Hb := Lib.hid (Hb.out.trans (hb.mono Hb.out.size))
                    clear hb
                    go_wp2
                    go_ret
                    exact ⟨rfl, Hb.out⟩
      · go_enter Tryd.func11, Tryd.ntmps11
        go_wp2_with fail
        refine (Hk.out _ (HT.out.below Hb.out)).mono ?_
        rintro e W1 ⟨rfl, hb⟩
        replace Hb := Lib.hid (Hb.out.trans (hb.mono Hb.out.size))
        clear hb
        go_wp2
        go_ret
        exact ⟨rfl, Hb.out⟩
    · go_enter Tryd.func11, Tryd.ntmps11
      go_wp2_with fail
      refine (Hk.out _ (HT.out.below Hb.out)).mono ?_
      rintro e W1 ⟨rfl, hb⟩
      replace Hb := Lib.hid (Hb.out.trans (hb.mono Hb.out.size))
      clear hb
      go_wp2
      go_ret
      exact ⟨rfl, Hb.out⟩
  · go_enter Tryd.func11, Tryd.ntmps11
    go_wp2_with fail
    refine (Hk.out _ (HT.out.below Hb.out)).mono ?_
    rintro e W1 ⟨rfl, hb⟩
    replace Hb := Lib.hid (Hb.out.trans (hb.mono Hb.out.size))
    clear hb
    go_wp2
    go_ret
    exact ⟨rfl, Hb.out⟩
end Go.Proofs.YtapiofcdifligaaDoor
