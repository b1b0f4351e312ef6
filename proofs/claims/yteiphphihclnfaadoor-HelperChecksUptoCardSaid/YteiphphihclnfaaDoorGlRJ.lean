/- The reference's Match. -/
import Derived.Test.YteiphphihclnfaaDoorGlRI
namespace Go.Proofs.YteiphphihclnfaaDoor.Gl
open Go.RowKit

theorem palts_get {w w' : World} {v : Value} {L : List (List El)} {j : Nat} {a : List El} (h : PAltsAt w v L) (hb : Below w.heap.size w w') (hj : L[j]? = some a) : ∃ G cap aj cj, v = .slice (some ⟨G, 0, none⟩) L.length cap ∧ w'.cell? ⟨G, j, none⟩ = some (.slice aj a.length cj) ∧ PSl w' (.slice aj a.length cj) a := by
  obtain ⟨G, cap, hv, hG, _, hrow⟩ := h
  obtain ⟨aj, cj, gj, hc, h1, h2, h3⟩ := hrow j a hj
  exact ⟨G, cap, aj, cj, hv, (hb.cell (p := ⟨G, j, none⟩) hG).trans hc, PSl.below ⟨aj, cj, gj, rfl, h1, h2, h3⟩ hb⟩
theorem palts_form {w : World} {v : Value} {L : List (List El)} (h : PAltsAt w v L) : ∃ G cap, v = .slice (some ⟨G, 0, none⟩) L.length cap := by
  obtain ⟨G, cap, hv, _⟩ := h
  exact ⟨G, cap, hv⟩

set_option maxHeartbeats 1000000 in
set_option maxRecDepth 100000 in
theorem refMatch_any (p s : ByteArray) (w : World) (hp : p.size ≤ 4611686018427387904) (hs : s.size ≤ 4611686018427387904) : Calls Tryd.prog 28 #[.string p, .string s] w (Bel (.bool (patB p.data.toList s.data.toList)) w) := by
  have hck := fun W => refCheck_any p W hp
  have hpr := fun W => printable_any s W hs
  cases h : altsP p.data.toList with
  | none =>
    have hv : patB p.data.toList s.data.toList = false := by unfold patB; rw [h]
    have Hv := Lib.hid hv
    have hne : (errP p.data.toList != 0) = true := by
      rcases errP_none h with h1 | h1 <;> rw [h1] <;> rfl
    generalize errP p.data.toList = E at *
    have Hck := Lib.hid hck
    clear hck h hv hpr
    go_enter Tryd.func28, Tryd.ntmps28
    go_wp2_with fail
    refine (Hck.out _).mono ?_
    rintro e W1 ⟨rfl, hb⟩
    go_wp2
    go_ret
    exact ⟨by rw [Hv.out]; rfl, hb⟩
  | some L =>
    have hv : patB p.data.toList s.data.toList = L.any fun a => mB a s.data.toList := by unfold patB; rw [h]
    rw [errP_some h] at hck
    have hgd := altsP_good h
    have hps := parse_some h (altsP_short h)
    obtain ⟨R, hR⟩ : ∃ R, patB p.data.toList s.data.toList = R := ⟨_, rfl⟩
    rw [hR]
    rw [hR] at hv
    have Hck := Lib.hid hck
    have Hv := Lib.hid hv
    have Hgd := Lib.hid hgd
    have Hps := Lib.hid hps
    cases ht : s.data.toList.all isText with
    | false =>
      rw [ht] at hpr
      have hf : R = false := by
        rw [hv, List.any_eq_false]
        intro a ha hm
        have := mB_text (fun e he => (hgd.2.2 a ha).2 e he |>.1) _ hm
        rw [ht] at this
        cases this
      have Hf := Lib.hid hf
      have Hpr := Lib.hid hpr
      clear hck hpr h hv hgd hps hR hf ht
      go_enter Tryd.func28, Tryd.ntmps28
      go_wp2_with fail
      refine (Hck.out _).mono ?_
      rintro e W1 ⟨rfl, hb⟩
      have Hb := Lib.hid hb
      clear hb
      go_wp2_with fail
      refine (Hpr.out _).mono ?_
      rintro e W2 ⟨rfl, rfl⟩
      go_wp2
      go_ret
      exact ⟨by rw [Hf.out]; rfl, Hb.out⟩
    | true =>
      rw [ht] at hpr
      have Hpr := Lib.hid hpr
      have Ht := Lib.hid ht
      have hLl : (L.length : Int) ≤ 257 := by have := hgd.2.1; omega
      clear hck hpr h hv hgd hps hR ht
      go_enter Tryd.func28, Tryd.ntmps28
      go_wp2_with fail
      refine (Hck.out _).mono ?_
      rintro e W1 ⟨rfl, hb⟩
      have Hb := Lib.hid hb
      clear hb
      go_wp2_with fail
      refine (Hpr.out _).mono ?_
      rintro e W2 ⟨rfl, hw2⟩
      have hw3 := hw2.symm
      subst hw3
      clear hw2
      go_wp2_with fail
      refine (Hps.out _).mono ?_
      rintro e W3 ⟨hb3, v, rfl, hv3⟩
      obtain ⟨G, cap, rfl⟩ := palts_form hv3
      have Hb3 := Lib.hid (Hb.out.trans (hb3.mono Hb.out.size))
      have Hv3 := Lib.hid hv3
      clear hb3 hv3
      go_wp2
      go_loopw [7] (fun s7 wx => ∃ i : Nat, i ≤ L.length ∧ s7 = .int .i64 (i : Int) ∧ ((L.take i).any fun a => mB a s.data.toList) = false ∧ Below W3.heap.size W3 wx) (fun s7 _ => L.length - (intOf s7).toNat)
      case atStart => exact ⟨0, by omega, rfl, rfl, Below.refl _ _⟩
      case round =>
        obtain ⟨i, hi, rfl, hany, hbx⟩ := hrel
        have Hany := Lib.hid hany
        have Hbx := Lib.hid hbx
        clear hany hbx
        by_cases hlt : i < L.length
        · have hiz : (i : Int) < (L.length : Int) := by omega
          obtain ⟨a, ha⟩ : ∃ a, L[i]? = some a := ⟨_, List.getElem?_eq_getElem hlt⟩
          have ham : a ∈ L := List.mem_of_getElem? ha
          obtain ⟨G', cap', aj, cj, hG, hc, hps⟩ := palts_get Hv3.out Hbx.out ha
          obtain ⟨rfl, rfl⟩ : G = G' ∧ cap = cap' := by simpa using hG
          have Hone := Lib.hid (one_any a s (.slice aj a.length cj) wr (Hgd.out.2.2 a ham).1 hs Ht.out (fun e he => ((Hgd.out.2.2 a ham).2 e he).1) hps)
          have hnext : ((L.take (i + 1)).any fun a => mB a s.data.toList) = mB a s.data.toList := by
            rw [List.take_add_one, ha, List.any_append, Hany.out]
            simp
          have htrue : mB a s.data.toList = true → R = true := fun hm => by
            rw [Hv.out, List.any_eq_true]
            exact ⟨a, ham, hm⟩
          have Hnext := Lib.hid hnext
          have Htrue := Lib.hid htrue
          clear hnext htrue hps hG ham ha
          generalize mB a s.data.toList = m at *
          go_wp2_with fail
          refine Hone.out.mono ?_
          rintro e W4 ⟨rfl, hb4⟩
          have Hb4 := Lib.hid (Hbx.out.trans (hb4.mono Hbx.out.size))
          clear hb4
          cases m with
          | true =>
            go_wp2
            go_ret
            exact ⟨by rw [Htrue.out (by simp)]; rfl, Hb3.out.trans (Hb4.out.mono Hb3.out.size)⟩
          | false =>
            go_wp2
            exact ⟨⟨i + 1, by omega, rfl, Hnext.out, Hb4.out⟩, by simp [intOf]; omega⟩
        · obtain rfl : i = L.length := by omega
          have hf : R = false := by
            have := Hany.out
            rw [List.take_length] at this
            rw [Hv.out, this]
          have Hf := Lib.hid hf
          clear hf
          go_wp2
          go_ret
          exact ⟨by rw [Hf.out]; rfl, Hb3.out.trans (Hbx.out.mono Hb3.out.size)⟩
end Go.Proofs.YteiphphihclnfaaDoor.Gl
