/- The reference's put where the list keeps a pair of the key. -/
import Derived.Test.YtapiofcdifligaaDoorRR
namespace Go.Proofs.YtapiofcdifligaaDoor
open Go.RowKit

set_option maxHeartbeats 1500000 in
set_option maxRecDepth 100000 in
theorem put_keep (l : List Pr5) (z : Pr5) (g0 c M : Nat) (w : World) (hl : l.length ≤ 1000000000) (hLI : LI M l) (hzM : z.t.length = M) (hc : l.length ≤ c) (hg0 : g0 < w.heap.size) (hr0 : PRow w g0 l) (y : Pr5) (hfn : l.find? (sameK · z) = some y) (hle : leT y.t z.t = true) : Calls Tryd.prog 41 #[.slice (some ⟨g0, 0, none⟩) l.length c, prV z] w (PutPost l z (.slice (some ⟨g0, 0, none⟩) l.length c) w) := by
  have hrow : l ≠ [] → ∃ g, (some (⟨g0, 0, none⟩ : Addr)) = some ⟨g, 0, none⟩ ∧ g < w.heap.size ∧ PRow w g l := fun _ => ⟨g0, rfl, hg0, hr0⟩
  have hv : True := trivial
  have hcN : (l.length : Int) ≤ (c : Int) := by omega
  obtain ⟨i0, hi0, hw0, hw1, hw2⟩ := info_parts info52b
  have HLI := Lib.hid (And.intro hLI hzM)
  have HG0 := Lib.hid hg0
  have HR0 := Lib.hid hr0
  have Hle := Lib.hid hle
  clear hLI hzM hg0 hr0 hle
  obtain ⟨za, hza⟩ : ∃ n : Int, (z.a : Int) = n := ⟨_, rfl⟩
  obtain ⟨zb, hzb⟩ : ∃ n : Int, (z.b : Int) = n := ⟨_, rfl⟩
  obtain ⟨zi, hzi⟩ : ∃ n : Int, (z.i : Int) = n := ⟨_, rfl⟩
  obtain ⟨zk, hzk⟩ : ∃ n : Int, (z.k : Int) = n := ⟨_, rfl⟩
  obtain ⟨zt, hzt⟩ : ∃ n : ByteArray, txt z.t = n := ⟨_, rfl⟩
  have hzv : prV z = .agg #[.int .i64 za, .int .i64 zb, .int .i64 zi, .int .i64 zk, .string zt] := by
    rw [← hza, ← hzb, ← hzi, ← hzk, ← hzt]
    rfl
  rw [hzv]
  have HZ := Lib.hid (And.intro hza (And.intro hzb (And.intro hzi (And.intro hzk hzt))))
  obtain ⟨N, hN⟩ : ∃ N, l.length = N := ⟨_, rfl⟩
  rw [hN] at hl hcN ⊢
  have HN := Lib.hid hN
  have hb1 : Below w.heap.size w (w.alloc (.cells #[.int .i64 za, .int .i64 zb, .int .i64 zi, .int .i64 zk, .string zt] 52)) := (Below.refl _ w).alloc (Nat.le_refl _) _
  have HRow := Lib.hid (fun (h : l ≠ []) => (hrow h).imp fun g hg => And.intro hg.1 (And.intro hg.2.1 (hg.2.2.below hb1 hg.2.1)))
  have hz0 := cell_of_row _ _ 0 _ _ _ (heap_alloc_last w (.cells #[.int .i64 za, .int .i64 zb, .int .i64 zi, .int .i64 zk, .string zt] 52))
  have hz1 := cell_of_row _ _ 1 _ _ _ (heap_alloc_last w (.cells #[.int .i64 za, .int .i64 zb, .int .i64 zi, .int .i64 zk, .string zt] 52))
  have hz2 := cell_of_row _ _ 2 _ _ _ (heap_alloc_last w (.cells #[.int .i64 za, .int .i64 zb, .int .i64 zi, .int .i64 zk, .string zt] 52))
  have hz3 := cell_of_row _ _ 3 _ _ _ (heap_alloc_last w (.cells #[.int .i64 za, .int .i64 zb, .int .i64 zi, .int .i64 zk, .string zt] 52))
  have hz4 := cell_of_row _ _ 4 _ _ _ (heap_alloc_last w (.cells #[.int .i64 za, .int .i64 zb, .int .i64 zi, .int .i64 zk, .string zt] 52))
  simp only [List.getElem?_toArray, List.getElem?_cons_zero, List.getElem?_cons_succ] at hz0 hz1 hz2 hz3 hz4
  have Hb1 := Lib.hid hb1
  have hbox := heap_alloc_last w (.cells #[.int .i64 za, .int .i64 zb, .int .i64 zi, .int .i64 zk, .string zt] 52)
  clear hza hzb hzi hzk hzt hzv hN hb1 hrow hc hv
  go_enter Tryd.func41, Tryd.ntmps41
  go_wp2
  generalize w.alloc (.cells #[.int .i64 za, .int .i64 zb, .int .i64 zi, .int .i64 zk, .string zt] 52) = W1 at *
  obtain ⟨E, hE⟩ : ∃ E, w.heap.size = E := ⟨_, rfl⟩
  rw [hE] at hbox
  have HBox := Lib.hid hbox
  clear hbox
  rw [hE] at hz0 hz1 hz2 hz3 hz4 ⊢
  have HE := Lib.hid hE
  clear hE
  go_loopw [0, 5] (fun s0 s5 wx => ∃ i : Nat, i ≤ N ∧ s0 = .slice (some ⟨g0, 0, none⟩) N c ∧ s5 = .int .i64 (i : Int) ∧ (l.take i).find? (sameK · z) = none ∧ ∃ n, wx = W1.drewN n) (fun _ s5 _ => N - (intOf s5).toNat)
  case atStart => exact ⟨0, by omega, rfl, rfl, rfl, 0, rfl⟩
  case round =>
    obtain ⟨i, hi, rfl, rfl, hfind, n, rfl⟩ := hrel
    have Hf := Lib.hid hfind
    clear hfind
    have hbx : ∀ m, Below w.heap.size w (W1.drewN m) := fun m => drop_below Hb1.out m
    have Hbx := Lib.hid hbx
    clear hbx
    by_cases hlt : i < N
    · have hiz : (i : Int) < (N : Int) := by omega
      obtain ⟨x, hx⟩ : ∃ x, l[i]? = some x := ⟨l[i]'(by rw [HN.out]; exact hlt), List.getElem?_eq_getElem _⟩
      obtain ⟨g, hge, hg, hr⟩ := HRow.out (fun e => by rw [e] at hx; simp at hx)
      obtain rfl : g0 = g := by simpa using hge
      clear hge
      obtain ⟨d0, d1, d2, d3, d4⟩ := hr.at_ hx
      have hsk : sameK x z = (decide (x.a = z.a) && (decide (x.b = z.b) && (decide (x.i = z.i) && decide (x.k = z.k)))) := rfl
      have hnx := take_find Hf.out hx
      have hat := find_at Hf.out hx
      have e0 : decide (x.a = z.a) = ((x.a : Int) == za) := by rw [← HZ.out.1, Bool.eq_iff_iff, decide_eq_true_eq, beq_iff_eq]; omega
      have e1 : decide (x.b = z.b) = ((x.b : Int) == zb) := by rw [← HZ.out.2.1, Bool.eq_iff_iff, decide_eq_true_eq, beq_iff_eq]; omega
      have e2 : decide (x.i = z.i) = ((x.i : Int) == zi) := by rw [← HZ.out.2.2.1, Bool.eq_iff_iff, decide_eq_true_eq, beq_iff_eq]; omega
      have e3 : decide (x.k = z.k) = ((x.k : Int) == zk) := by rw [← HZ.out.2.2.2.1, Bool.eq_iff_iff, decide_eq_true_eq, beq_iff_eq]; omega
      rw [e0, e1, e2, e3] at hsk
      have Hnx := Lib.hid hnx
      have Hat := Lib.hid hat
      have Hsk := Lib.hid hsk
      have Hx := Lib.hid hx
      clear hsk hnx hat e0 e1 e2 e3 hr hx
      obtain ⟨xa, hxa⟩ : ∃ n : Int, (x.a : Int) = n := ⟨_, rfl⟩
      obtain ⟨xb, hxb⟩ : ∃ n : Int, (x.b : Int) = n := ⟨_, rfl⟩
      obtain ⟨xi, hxi⟩ : ∃ n : Int, (x.i : Int) = n := ⟨_, rfl⟩
      obtain ⟨xk, hxk⟩ : ∃ n : Int, (x.k : Int) = n := ⟨_, rfl⟩
      obtain ⟨xt, hxt⟩ : ∃ n : ByteArray, txt x.t = n := ⟨_, rfl⟩
      rw [hxa] at d0 Hsk
      rw [hxb] at d1 Hsk
      rw [hxi] at d2 Hsk
      rw [hxk] at d3 Hsk
      rw [hxt] at d4
      have HX := Lib.hid hxt
      clear hxa hxb hxi hxk hxt
      cases q0 : (xa == za) with
      | false =>
        have hn := Hnx.out
        have hs : sameK x z = false := by rw [Hsk.out, q0]; rfl
        rw [hs] at hn
        have Hn := Lib.hid hn
        clear hn hs
        go_wp2
        go_quiet (fail)
        go_wp2
        exact ⟨⟨i + 1, by omega, rfl, rfl, Hn.out, _, rfl⟩, by simp [intOf]; omega⟩
      | true =>
        cases q1 : (xb == zb) with
        | false =>
          have hn := Hnx.out
          have hs : sameK x z = false := by rw [Hsk.out, q0, q1]; rfl
          rw [hs] at hn
          have Hn := Lib.hid hn
          clear hn hs
          go_wp2
          go_quiet (fail)
          go_wp2
          exact ⟨⟨i + 1, by omega, rfl, rfl, Hn.out, _, rfl⟩, by simp [intOf]; omega⟩
        | true =>
          cases q2 : (xi == zi) with
          | false =>
            have hn := Hnx.out
            have hs : sameK x z = false := by rw [Hsk.out, q0, q1, q2]; rfl
            rw [hs] at hn
            have Hn := Lib.hid hn
            clear hn hs
            go_wp2
            go_quiet (fail)
            go_wp2
            exact ⟨⟨i + 1, by omega, rfl, rfl, Hn.out, _, rfl⟩, by simp [intOf]; omega⟩
          | true =>
            cases q3 : (xk == zk) with
            | false =>
              have hn := Hnx.out
              have hs : sameK x z = false := by rw [Hsk.out, q0, q1, q2, q3]; rfl
              rw [hs] at hn
              have Hn := Lib.hid hn
              clear hn hs
              go_wp2
              go_quiet (fail)
              go_wp2
              exact ⟨⟨i + 1, by omega, rfl, rfl, Hn.out, _, rfl⟩, by simp [intOf]; omega⟩
            | true =>
              have Hs := Lib.hid (show sameK x z = true from by rw [Hsk.out, q0, q1, q2, q3]; rfl)
              have hfy := Hat.out Hs.out
              rw [hfn] at hfy
              have hyx : y = x := Option.some.inj hfy
              have hleX : (Op.bytesLess xt.toList zt.toList || (xt.toList == zt.toList)) = true := by
                rw [← HX.out, ← HZ.out.2.2.2.2, txt_list, txt_list, ← leq_form (by rw [HLI.out.1.len x (List.mem_of_getElem? Hx.out), HLI.out.2]), ← hyx]
                exact Hle.out
              have HP := Lib.hid (show putP l z = l from by unfold putP; rw [hfn]; exact if_pos Hle.out)
              have HFin := Lib.hid (fun wx (hb : Below w.heap.size w wx) => (show PutPost l z (.slice (some ⟨g0, 0, none⟩) N c) w (.returned (.slice (some ⟨g0, 0, none⟩) N c)) wx from ⟨_, rfl, by rw [HP.out]; exact Or.inr ⟨g0, c, by rw [HN.out], by rw [HN.out]; omega, Nat.lt_of_lt_of_le HG0.out hb.size, HR0.out.below hb HG0.out⟩, hb, Or.inl rfl⟩))
              clear hfy hyx
              cases hb1 : Op.bytesLess xt.toList zt.toList with
              | true =>
                clear hleX
                go_wp2
                go_quiet (fail)
                go_wp2
                go_quiet (fail)
                go_wp2
                go_ret
                exact HFin.out _ (drop_below (drop_below (Hbx.out _) _) _)
              | false =>
                have hb2 : (xt.toList == zt.toList) = true := by rw [hb1] at hleX; simpa using hleX
                clear hleX
                go_wp2
                go_quiet (fail)
                go_wp2
                go_quiet (fail)
                go_wp2
                go_ret
                exact HFin.out _ (drop_below (drop_below (Hbx.out _) _) _)
    · obtain rfl : i = N := by omega
      have hh := Hf.out
      rw [List.take_of_length_le (by rw [HN.out]; omega), hfn] at hh
      cases hh
end Go.Proofs.YtapiofcdifligaaDoor
