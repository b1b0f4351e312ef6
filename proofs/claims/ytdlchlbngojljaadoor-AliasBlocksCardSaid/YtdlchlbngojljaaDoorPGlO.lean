/- Prefix. -/
import Derived.Test.YtdlchlbngojljaaDoorPGlM
namespace Go.Proofs.YtdlchlbngojljaaDoor.Gl
open Go.RowKit

/-- The beginning that all have. -/
def prefB : List (List El) → List UInt8
  | [] => []
  | a :: r => r.foldl (fun s x => s.take (sameB s (begB x))) (begB a)

theorem begB_len (l : List El) : (begB l).length ≤ l.length := by
  induction l with
  | nil => simp [begB]
  | cons e r ih =>
    unfold begB
    split
    · simp; exact ih
    · simp

theorem extract_front (s : ByteArray) (n : Nat) : (s.extract 0 n).data.toList = s.data.toList.take n := by
  have := Lib.extract_toList s 0 n
  rw [Lib.toList_data] at this
  rw [this]
  simp

theorem sameB_le : ∀ s t : List UInt8, sameB s t ≤ s.length
  | [], _ => by simp [sameB]
  | _ :: _, [] => by simp [sameB]
  | a :: s, b :: t => by
    unfold sameB
    split
    · have := sameB_le s t; simp; exact this
    · simp

theorem SetAt4.below {w W : World} {g o : Nat} {S : UInt8 → Bool} (h : SetAt4 w g o S) (hb : Below w.heap.size w W) (hg : g < w.heap.size) : SetAt4 W g o S := fun i hi => (hb.cell (p := ⟨g, o + i, none⟩) hg).trans (h i hi)
theorem ElsAt.below {w W : World} {g : Nat} {l : List El} (h : ElsAt w g l) (hb : Below w.heap.size w W) (hg : g < w.heap.size) : ElsAt W g l := fun i e he => by
  obtain ⟨h1, h2, h3⟩ := h i e he
  exact ⟨h1.below hb hg, (hb.cell (p := ⟨g, i * 6 + 4, none⟩) hg).trans h2, (hb.cell (p := ⟨g, i * 6 + 5, none⟩) hg).trans h3⟩

set_option maxHeartbeats 400000 in
set_option maxRecDepth 100000 in
theorem prefix_any (p : ByteArray) (w : World) (hp : p.size ≤ 4611686018427387904) (hT : TabAt w) :
    Calls Tryd.prog 39 #[.string p] w (Bel (.tuple #[.string ⟨((altsP p.data.toList).elim [] prefB).toArray⟩, .int .i64 (errP p.data.toList)]) w) := by
  cases h : altsP p.data.toList with
  | none =>
    have hc := comp_none h hp
    have hne : (errP p.data.toList == 0) = false := by
      rcases errP_none h with h1 | h1 <;> rw [h1] <;> rfl
    have hne2 : (errP p.data.toList != 0) = true := by
      rcases errP_none h with h1 | h1 <;> rw [h1] <;> rfl
    generalize errP p.data.toList = E at *
    have Hc := Lib.hid hc
    clear hc h
    go_enter Tryd.func39, Tryd.ntmps39
    go_wp2_with fail
    refine (Hc.out _).mono ?_
    rintro e W1 ⟨rfl, hb⟩
    go_wp2
    go_ret2
    exact ⟨rfl, hb⟩
  | some L =>
    have hc := comp_some h hp
    rw [errP_some h]
    obtain ⟨hne, hlen, hgood⟩ := altsP_good h
    have Hc := Lib.hid hc
    clear hc h
    cases L with
    | nil => exact absurd rfl hne
    | cons l0 r =>
      go_enter Tryd.func39, Tryd.ntmps39
      go_wp2_with fail
      refine (Hc.out _).mono ?_
      rintro e W1 ⟨hb, v, rfl, hv⟩
      obtain ⟨G, cap, rfl, hG, hcap, hrows⟩ := hv
      obtain ⟨aj, cj, gj, hc0, h1, h2, h3⟩ := hrows 0 l0 rfl
      have hT1 : TabAt W1 := hT.below hb
      have Hbeg := Lib.hid (beginning_any aj cj gj l0 W1 h1 h3 (by have := (hgood l0 List.mem_cons_self).1; omega) hT1 h2)
      have hlr : (l0 :: r).length = r.length + 1 := rfl
      rw [hlr]
      go_wp2_with fail
      refine Hbeg.out.mono ?_
      rintro e W2 ⟨rfl, hb2⟩
      have hlr2 : (l0 :: r).length = r.length + 1 := rfl
      rw [hlr2] at hcap hlen
      have hrows' : ∀ (j : Nat) (a : List El), r[j]? = some a → ∃ aj cj gj, W2.cell? ⟨G, j + 1, none⟩ = some (.slice aj a.length cj) ∧ (0 < a.length → aj = some ⟨gj, 0, none⟩) ∧ gj < W2.heap.size ∧ ElsAt W2 gj a := fun j a hj => by
        obtain ⟨x, y, z, k1, k2, k3, k4⟩ := hrows (j + 1) a (by simpa using hj)
        exact ⟨x, y, z, (hb2.cell (p := ⟨G, j + 1, none⟩) hG).trans k1, k2, Nat.lt_of_lt_of_le k3 hb2.size, k4.below hb2 k3⟩
      have hG2 : G < W2.heap.size := Nat.lt_of_lt_of_le hG hb2.size
      have hT2 : TabAt W2 := hT1.below hb2
      have hbw := hb.trans (hb2.mono hb.size)
      obtain ⟨A, hA⟩ : ∃ A : Addr, (if cap = 1 then (⟨G, 0, none⟩ : Addr) else ⟨G, 1, none⟩) = A := ⟨_, rfl⟩
      have hAr : 0 < r.length → A = ⟨G, 1, none⟩ := fun h => by rw [← hA, if_neg (by omega)]
      have hni : (r.length : Int) ≤ 256 := by omega
      obtain ⟨N, hN⟩ : ∃ N, r.length = N := ⟨_, rfl⟩
      have Hrows := Lib.hid hrows'
      have HA := Lib.hid hAr
      have Hgood := Lib.hid (fun a (ha : a ∈ r) => (hgood a (List.mem_cons_of_mem _ ha)).1)
      have HT2 := Lib.hid hT2
      have Hbw := Lib.hid hbw
      have HG := Lib.hid hG2
      have hb0 : (begB l0).length ≤ 256 := Nat.le_trans (begB_len l0) (hgood l0 List.mem_cons_self).1
      obtain ⟨m0, hm0⟩ : ∃ m : ByteArray, (⟨(begB l0).toArray⟩ : ByteArray) = m := ⟨_, rfl⟩
      have hm0d : m0.data.toList = begB l0 := by rw [← hm0]
      have hm0s : m0.size ≤ 256 := by rw [Lib.size_eq, hm0d]; exact hb0
      rw [hm0]
      have HN := Lib.hid hN
      rw [hN] at hni
      rw [hN]
      clear hb hb2 hrows hrows' hAr hgood hT1 hT2 hbw hc0 h1 h2 h3 Hbeg hG hG2 hlr hlr2 hlen hcap hm0 hb0 hN
      go_wp2
      all_goals
        go_loopw [6, 24] (fun s6 s24 wx => ∃ (i : Nat) (m : ByteArray), i ≤ N ∧ s6 = .string m ∧ s24 = .int .i64 i ∧ m.data.toList = (r.take i).foldl (fun s x => s.take (sameB s (begB x))) (begB l0) ∧ m.size ≤ 256 ∧ Below W2.heap.size W2 wx) (fun _ s24 _ => N - (intOf s24).toNat)
        case atStart => exact ⟨0, m0, by omega, rfl, rfl, by simpa using hm0d, hm0s, Below.refl _ _⟩
        case round =>
          obtain ⟨i, m, hi, rfl, rfl, hmd, hms, hbel⟩ := hrel
          have Hmd := Lib.hid hmd
          have Hbel := Lib.hid hbel
          clear hmd hbel
          by_cases hlt : (i : Int) < (N : Int)
          · have hAG := HA.out (by rw [HN.out]; omega)
            first
              | (exfalso
                 rw [← hA, if_pos h] at hAG
                 simp at hAG
                 done)
              | (obtain ⟨a, ha⟩ : ∃ a, r[i]? = some a := ⟨r[i]'(by rw [HN.out]; omega), List.getElem?_eq_getElem _⟩
                 obtain ⟨x, y, z, k1, k2, k3, k4⟩ := Hrows.out i a ha
                 have hcell := (Hbel.out.cell (p := ⟨G, i + 1, none⟩) HG.out).trans k1
                 have hcell2 : wr.cell? ⟨G, 1 + i, none⟩ = some (.slice x a.length y) := by rw [Nat.add_comm]; exact hcell
                 have hal := Hgood.out a (List.mem_of_getElem? ha)
                 have Hbeg := Lib.hid (beginning_any x y z a wr k2 (k4.below Hbel.out k3) (by omega) (HT2.out.below Hbel.out) (Nat.lt_of_lt_of_le k3 Hbel.out.size))
                 have hbl : (begB a).length ≤ 256 := Nat.le_trans (begB_len a) hal
                 obtain ⟨bm, hbm⟩ : ∃ m : ByteArray, (⟨(begB a).toArray⟩ : ByteArray) = m := ⟨_, rfl⟩
                 have hbmd : bm.data.toList = begB a := by rw [← hbm]
                 have hbms : bm.size ≤ 256 := by rw [Lib.size_eq, hbmd]; exact hbl
                 rw [hbm] at Hbeg
                 have Hsame := Lib.hid (fun W => sameBytes_any m bm W (by omega) (by omega))
                 have hsle : sameB m.data.toList bm.data.toList ≤ m.size := by rw [Lib.size_eq]; exact sameB_le _ _
                 have Hnext := Lib.hid (show (m.extract 0 (sameB m.data.toList bm.data.toList)).data.toList = (r.take (i + 1)).foldl (fun s x => s.take (sameB s (begB x))) (begB l0) from by
                   rw [extract_front, List.take_add_one, ha, List.foldl_append, ← Hmd.out, hbmd]
                   rfl)
                 have hsz : ∀ k, (m.extract 0 k).size ≤ m.size := fun k => by
                   rw [Lib.size_eq, extract_front, List.length_take, Lib.size_eq]
                   exact Nat.min_le_right _ _
                 have Hsz := Lib.hid hsz
                 generalize sameB m.data.toList bm.data.toList = n at *
                 have hni2 : (n : Int) ≤ (m.size : Int) := by omega
                 clear k1 k2 k3 k4 hbl hbm hbmd hbms ha hal hsz hcell
                 go_wp2_with fail
                 refine Hbeg.out.mono ?_
                 rintro e W3 ⟨rfl, hb3⟩
                 go_wp2_with fail
                 refine (Hsame.out _).mono ?_
                 rintro e W4 ⟨rfl, hd4⟩
                 have Hb4 := Lib.hid ((Hbel.out.trans (hb3.mono Hbel.out.size)).trans (hd4.below.mono (Nat.le_trans Hbel.out.size hb3.size)))
                 clear hb3 hd4
                 go_wp2
                 exact ⟨⟨i + 1, m.extract 0 n, by omega, rfl, rfl, Hnext.out, Nat.le_trans (Hsz.out n) hms, Hb4.out⟩, by simp [intOf]; omega⟩)
          · obtain rfl : i = N := by omega
            have hv : m = (⟨(prefB (l0 :: r)).toArray⟩ : ByteArray) := by
              apply ByteArray.ext
              apply Array.toList_inj.1
              rw [Hmd.out, ← HN.out, List.take_length]
              rfl
            have Hv := Lib.hid hv
            clear hv
            go_wp2
            go_ret2
            exact ⟨by rw [← Hv.out]; rfl, Hbw.out.trans (Hbel.out.mono Hbw.out.size)⟩
end Go.Proofs.YtdlchlbngojljaaDoor.Gl
