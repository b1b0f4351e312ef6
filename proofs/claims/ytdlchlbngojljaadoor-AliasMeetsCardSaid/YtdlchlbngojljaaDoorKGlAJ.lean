/- Common. -/
import Derived.Test.YtdlchlbngojljaaDoorKGlAI
namespace Go.Proofs.YtdlchlbngojljaaDoor.Gl
open Go.RowKit

def cmnStep (st : Option (List UInt8)) (a b : List El) : Option (List UInt8) := match leastB a b with
  | none => st
  | some t => match st with
    | none => some t
    | some m => if lessB t m then some t else some m
def cmnRow (y : List (List El)) (st : Option (List UInt8)) (a : List El) : Option (List UInt8) := y.foldl (fun st b => cmnStep st a b) st
/-- The least text that two patterns' alternatives match. -/
def commonB (x y : List (List El)) : Option (List UInt8) := x.foldl (cmnRow y) none

theorem cmnRow_take {y : List (List El)} {j : Nat} {b : List El} (h : y[j]? = some b) (st : Option (List UInt8)) (a : List El) : cmnRow (y.take (j + 1)) st a = cmnStep (cmnRow (y.take j) st a) a b := by
  unfold cmnRow
  rw [List.take_add_one, h, List.foldl_append]
  rfl
theorem common_take {x y : List (List El)} {i : Nat} {a : List El} (h : x[i]? = some a) : (x.take (i + 1)).foldl (cmnRow y) none = cmnRow y ((x.take i).foldl (cmnRow y) none) a := by
  rw [List.take_add_one, h, List.foldl_append]
  rfl

def strOf (st : Option (List UInt8)) : Value := .string ⟨(st.getD []).toArray⟩
def comRes (p q : List UInt8) : Value := match altsP p with
  | none => .tuple #[.string ⟨#[]⟩, .bool false, .int .i64 (errP p)]
  | some x => match altsP q with
    | none => .tuple #[.string ⟨#[]⟩, .bool false, .int .i64 (errP q)]
    | some y => .tuple #[strOf (commonB x y), .bool (commonB x y).isSome, .int .i64 0]

theorem AltsAt.rows {w W : World} {G : Nat} {x : List (List El)} (h : ∀ (j : Nat) (a : List El), x[j]? = some a → ∃ aj cj gj, w.cell? ⟨G, j, none⟩ = some (.slice aj a.length cj) ∧ (0 < a.length → aj = some ⟨gj, 0, none⟩) ∧ gj < w.heap.size ∧ ElsAt w gj a) (hG : G < w.heap.size) (hb : Below w.heap.size w W) :
    ∀ (j : Nat) (a : List El), x[j]? = some a → ∃ aj cj gj, W.cell? ⟨G, j, none⟩ = some (.slice aj a.length cj) ∧ AltRow W (.slice aj a.length cj) a aj cj gj := fun j a hj => by
  obtain ⟨aj, cj, gj, h1, h2, h3, h4⟩ := h j a hj
  exact ⟨aj, cj, gj, (hb.cell (p := ⟨G, j, none⟩) hG).trans h1, rfl, h2, Nat.lt_of_lt_of_le h3 hb.size, h4.below hb h3⟩

set_option maxHeartbeats 1000000 in
set_option maxRecDepth 100000 in
theorem common_any (p q : ByteArray) (w : World) (hp : p.size ≤ 4611686018427387904) (hq : q.size ≤ 4611686018427387904) (hT : TabAt w) : Calls Tryd.prog 31 #[.string p, .string q] w (Bel (comRes p.data.toList q.data.toList) w) := by
  unfold comRes
  cases h : altsP p.data.toList with
  | none =>
    have hc := comp_none h hp
    have hne2 : (errP p.data.toList != 0) = true := by
      rcases errP_none h with h1 | h1 <;> rw [h1] <;> rfl
    simp only
    generalize errP p.data.toList = E at *
    have Hc := Lib.hid hc
    clear hc h
    go_enter Tryd.func31, Tryd.ntmps31
    go_wp2_with fail
    refine (Hc.out _).mono ?_
    rintro e W1 ⟨rfl, hb⟩
    go_wp2
    go_ret3
    exact ⟨rfl, hb⟩
  | some x =>
    cases h2 : altsP q.data.toList with
    | none =>
      have hc := comp_some h hp
      have hc2 := comp_none h2 hq
      have hne2 : (errP q.data.toList != 0) = true := by
        rcases errP_none h2 with h1 | h1 <;> rw [h1] <;> rfl
      simp only
      generalize errP q.data.toList = E at *
      have Hc := Lib.hid hc
      have Hc2 := Lib.hid hc2
      clear hc hc2 h h2
      go_enter Tryd.func31, Tryd.ntmps31
      go_wp2_with fail
      refine (Hc.out _).mono ?_
      rintro e W1 ⟨hb1, v1, rfl, hv1⟩
      go_wp2_with fail
      refine (Hc2.out _).mono ?_
      rintro e W2 ⟨rfl, hb2⟩
      go_wp2
      go_ret3
      exact ⟨rfl, hb1.trans (hb2.mono hb1.size)⟩
    | some y =>
      simp only
      have hc := comp_some h hp
      have hc2 := comp_some h2 hq
      obtain ⟨hxne, hxl, hxg⟩ := altsP_good h
      obtain ⟨hyne, hyl, hyg⟩ := altsP_good h2
      have Hc := Lib.hid hc
      have Hc2 := Lib.hid hc2
      clear hc hc2 h h2 hxne hyne
      go_enter Tryd.func31, Tryd.ntmps31
      go_wp2_with fail
      refine (Hc.out _).mono ?_
      rintro e W1 ⟨hb1, v1, rfl, hv1⟩
      obtain ⟨G1, cap1, rfl, hG1, _, hr1⟩ := hv1
      go_wp2_with fail
      refine (Hc2.out _).mono ?_
      rintro e W2 ⟨hb2, v2, rfl, hv2⟩
      obtain ⟨G2, cap2, rfl, hG2, _, hr2⟩ := hv2
      have hrx := fun W (hb : Below W2.heap.size W2 W) => AltsAt.rows (W := W) hr1 hG1 (hb2.trans (hb.mono hb2.size))
      have hry := fun W (hb : Below W2.heap.size W2 W) => AltsAt.rows (W := W) hr2 hG2 hb
      have hT2 : TabAt W2 := hT.below (hb1.trans (hb2.mono hb1.size))
      have hbw := hb1.trans (hb2.mono hb1.size)
      have hG1W : G1 < W2.heap.size := Nat.lt_of_lt_of_le hG1 hb2.size
      have Hrx := Lib.hid hrx
      have Hry := Lib.hid hry
      have HT2 := Lib.hid hT2
      have Hbw := Lib.hid hbw
      have Hxg := Lib.hid (fun a (ha : a ∈ x) => (hxg a ha).1)
      have Hyg := Lib.hid (fun a (ha : a ∈ y) => (hyg a ha).1)
      obtain ⟨N, hN⟩ : ∃ N, x.length = N := ⟨_, rfl⟩
      obtain ⟨M, hM⟩ : ∃ M, y.length = M := ⟨_, rfl⟩
      rw [hN] at hxl ⊢
      rw [hM] at hyl ⊢
      have HN := Lib.hid hN
      have HM := Lib.hid hM
      have hNi : (N : Int) ≤ 257 := by omega
      have hMi : (M : Int) ≤ 257 := by omega
      clear hb1 hb2 hr1 hr2 hG1 hG2 hrx hry hT2 hbw hxg hyg hN hM hT
      go_wp2
      go_loopw [10, 11, 36] (fun s10 s11 s36 wx => ∃ (i : Nat), i ≤ N ∧ s36 = .int .i64 i ∧ s10 = strOf ((x.take i).foldl (cmnRow y) none) ∧ s11 = .bool ((x.take i).foldl (cmnRow y) none).isSome ∧ Below W2.heap.size W2 wx) (fun _ _ s36 _ => N - (intOf s36).toNat)
      case atStart => exact ⟨0, Nat.zero_le _, rfl, rfl, rfl, Below.refl _ _⟩
      case round =>
        obtain ⟨i, hi, rfl, rfl, rfl, hbel⟩ := hrel
        have Hbel := Lib.hid hbel
        clear hbel
        obtain ⟨st0, hst0⟩ : ∃ st, (x.take i).foldl (cmnRow y) none = st := ⟨_, rfl⟩
        rw [hst0]
        by_cases hlt : (i : Int) < (N : Int)
        · obtain ⟨a, ha⟩ : ∃ a, x[i]? = some a := ⟨x[i]'(by rw [HN.out]; omega), List.getElem?_eq_getElem _⟩
          obtain ⟨aj, cj, gj, hcell, harow⟩ := Hrx.out _ Hbel.out i a ha
          have hal := Hxg.out a (List.mem_of_getElem? ha)
          have hnext := common_take (y := y) ha
          rw [hst0] at hnext
          have Hnext := Lib.hid hnext
          have Hrowa := Lib.hid (fun W (hb : Below W2.heap.size W2 W) => Hrx.out W hb i a ha)
          have Ha := Lib.hid ha
          clear hnext hst0 harow ha
          go_wp2
          go_loopw [10, 11, 42] (fun s10 s11 s42 wx => ∃ (j : Nat), j ≤ M ∧ s42 = .int .i64 j ∧ s10 = strOf (cmnRow (y.take j) st0 a) ∧ s11 = .bool (cmnRow (y.take j) st0 a).isSome ∧ Below W2.heap.size W2 wx) (fun _ _ s42 _ => M - (intOf s42).toNat)
          case atStart => exact ⟨0, Nat.zero_le _, rfl, rfl, rfl, Hbel.out⟩
          case round =>
            obtain ⟨j, hj, rfl, rfl, rfl, hbel2⟩ := hrel
            have Hbel2 := Lib.hid hbel2
            clear hbel2
            obtain ⟨st, hst⟩ : ∃ st, cmnRow (y.take j) st0 a = st := ⟨_, rfl⟩
            rw [hst]
            by_cases hlt2 : (j : Int) < (M : Int)
            · obtain ⟨b, hb⟩ : ∃ b, y[j]? = some b := ⟨y[j]'(by rw [HM.out]; omega), List.getElem?_eq_getElem _⟩
              obtain ⟨bj, dj, hj2, hcell2, hbrow⟩ := Hry.out _ Hbel2.out j b hb
              obtain ⟨aj', cj', gj', hcell', harow⟩ := Hrowa.out _ Hbel2.out
              have hca : aj' = aj ∧ cj' = cj := by
                obtain ⟨a1, c1, g1, h1, _⟩ := Hrowa.out _ Hbel.out
                have e1 := h1.symm.trans hcell
                have e2 := hcell'.symm.trans ((Hbel2.out.cell (p := ⟨G1, i, none⟩) hG1W).trans ((Hbel.out.cell (p := ⟨G1, i, none⟩) hG1W).symm.trans hcell))
                simp only [Option.some.injEq, Value.slice.injEq] at e2
                exact ⟨e2.1, e2.2.2⟩
              obtain ⟨rfl, rfl⟩ := hca
              have hbl := Hyg.out b (List.mem_of_getElem? hb)
              have hlc := leastCommon_any a b _ _ _ _ _ _ _ _ _ harow hbrow (HT2.out.below Hbel2.out) (by omega) (by omega)
              have hnext2 := cmnRow_take hb st0 a
              rw [hst] at hnext2
              unfold lcRes at hlc
              unfold cmnStep at hnext2
              cases hle : leastB a b with
              | none =>
                rw [hle] at hlc hnext2
                simp only at hlc hnext2
                have Hlc := Lib.hid hlc
                have Hn2 := Lib.hid hnext2
                clear hlc hnext2 hb hle hbrow harow hst
                go_wp2_with fail
                refine Hlc.out.mono ?_
                rintro e W3 ⟨rfl, hb3⟩
                have Hb3 := Lib.hid (Hbel2.out.trans (hb3.mono Hbel2.out.size))
                clear hb3
                go_wp2
                exact ⟨⟨j + 1, by omega, rfl, by rw [Hn2.out], by rw [Hn2.out], Hb3.out⟩, by simp [intOf]; omega⟩
              | some t =>
                rw [hle] at hlc hnext2
                simp only at hlc hnext2
                have Hlc := Lib.hid hlc
                clear hlc hb hle hbrow harow hst
                cases st with
                | none =>
                  simp only at hnext2
                  have Hn2 := Lib.hid hnext2
                  clear hnext2
                  have hs0 : strOf none = .string ⟨#[]⟩ := rfl
                  rw [hs0]
                  simp only [Option.isSome_none]
                  go_wp2_with fail
                  refine Hlc.out.mono ?_
                  rintro e W3 ⟨rfl, hb3⟩
                  have Hb3 := Lib.hid (Hbel2.out.trans (hb3.mono Hbel2.out.size))
                  clear hb3
                  go_wp2
                  exact ⟨⟨j + 1, by omega, rfl, by rw [Hn2.out]; rfl, by rw [Hn2.out]; rfl, Hb3.out⟩, by simp [intOf]; omega⟩
                | some m =>
                  simp only at hnext2
                  have hs0 : strOf (some m) = .string ⟨m.toArray⟩ := rfl
                  rw [hs0]
                  simp only [Option.isSome_some]
                  obtain ⟨bt, hbt⟩ : ∃ s : ByteArray, (⟨t.toArray⟩ : ByteArray) = s := ⟨_, rfl⟩
                  obtain ⟨bm, hbm⟩ : ∃ s : ByteArray, (⟨m.toArray⟩ : ByteArray) = s := ⟨_, rfl⟩
                  have hless := fun W => isLess_any bt bm W
                  rw [show bt.data.toList = t from by rw [← hbt], show bm.data.toList = m from by rw [← hbm]] at hless
                  rw [hbt] at Hlc
                  rw [hbm]
                  cases hl : lessB t m with
                  | true =>
                    rw [hl] at hless
                    rw [if_pos hl] at hnext2
                    have Hless := Lib.hid hless
                    have Hn2 := Lib.hid hnext2
                    have Hbt := Lib.hid hbt
                    clear hnext2 hless hl hbt hbm
                    go_wp2_with fail
                    refine Hlc.out.mono ?_
                    rintro e W3 ⟨rfl, hb3⟩
                    have Hb3 := Lib.hid (Hbel2.out.trans (hb3.mono Hbel2.out.size))
                    clear hb3
                    go_wp2_with (go_at_call 47; refine (Hless.out _).mono ?_; rintro e W4 ⟨rfl, rfl⟩)
                    exact ⟨⟨j + 1, by omega, rfl, by rw [Hn2.out, ← Hbt.out]; rfl, by rw [Hn2.out]; rfl, Hb3.out⟩, by simp [intOf]; omega⟩
                  | false =>
                    rw [hl] at hless
                    rw [if_neg (by rw [hl]; simp)] at hnext2
                    have Hless := Lib.hid hless
                    have Hn2 := Lib.hid hnext2
                    have Hbm := Lib.hid hbm
                    clear hnext2 hless hl hbt hbm
                    go_wp2_with fail
                    refine Hlc.out.mono ?_
                    rintro e W3 ⟨rfl, hb3⟩
                    have Hb3 := Lib.hid (Hbel2.out.trans (hb3.mono Hbel2.out.size))
                    clear hb3
                    go_wp2_with (go_at_call 47; refine (Hless.out _).mono ?_; rintro e W4 ⟨rfl, rfl⟩)
                    exact ⟨⟨j + 1, by omega, rfl, by rw [Hn2.out, ← Hbm.out]; rfl, by rw [Hn2.out]; rfl, Hb3.out⟩, by simp [intOf]; omega⟩
            · obtain rfl : j = M := by omega
              have hfin2 : cmnRow y st0 a = st := by rw [← hst, ← HM.out, List.take_length]
              have Hf2 := Lib.hid hfin2
              clear hfin2 hst
              go_wp2
              exact ⟨⟨i + 1, by omega, rfl, by rw [Hnext.out, Hf2.out], by rw [Hnext.out, Hf2.out], Hbel2.out⟩, by simp [intOf]; omega⟩
        · obtain rfl : i = N := by omega
          have hfin : commonB x y = st0 := by rw [← hst0, ← HN.out, List.take_length]; rfl
          have Hfin := Lib.hid hfin
          clear hfin hst0
          go_wp2
          go_ret3
          exact ⟨by rw [Hfin.out]; rfl, Hbw.out.trans (Hbel.out.mono Hbw.out.size)⟩
end Go.Proofs.YtdlchlbngojljaaDoor.Gl
