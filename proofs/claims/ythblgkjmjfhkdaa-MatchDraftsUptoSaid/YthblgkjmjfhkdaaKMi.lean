/- The device at which the upward terms hold. -/
import Derived.Test.YthblgkjmjfhkdaaKMh
import Derived.Deep.Upon
namespace Go.Proofs.Ythblgkjmjfhkdaa
open Go.RowKit

theorem findIdx_hit {α : Type} {f : α → Bool} : ∀ {L : List α} {i : Nat} {x : α}, (∀ (j : Nat) (y : α), j < i → L[j]? = some y → f y = false) → L[i]? = some x → f x = true → L.findIdx? f = some i
  | [], _, _, _, h, _ => by simp at h
  | y :: l, 0, x, _, h, hx => by
    simp at h
    subst h
    simp [List.findIdx?_cons, hx]
  | y :: l, i + 1, x, ha, h, hx => by
    have h0 := ha 0 y (by omega) rfl
    have ih := findIdx_hit (L := l) (i := i) (x := x) (fun j z hj hz => ha (j + 1) z (by omega) (by simpa using hz)) (by simpa using h) hx
    simp [List.findIdx?_cons, h0, ih]
theorem findIdx_no {α : Type} {f : α → Bool} {L : List α} (h : ∀ (j : Nat) (y : α), L[j]? = some y → f y = false) : L.findIdx? f = none := by
  rw [List.findIdx?_eq_none_iff]
  intro x hx
  obtain ⟨j, hj, hje⟩ := List.getElem_of_mem hx
  simp [h j x (by rw [List.getElem?_eq_getElem hj, hje])]
def idxR (lt : List Tm) (L : List De.DV) : Int := match L.findIdx? (fun x => holdA lt x.1) with
  | some i => (i : Int)
  | none => -1
attribute [local irreducible] holdA in
theorem idxR_hit {lt : List Tm} {L : List De.DV} {i : Nat} {a : De.ADev} {v : Value} (h1 : ∀ (j : Nat) (x : De.DV), j < i → L[j]? = some x → holdA lt x.1 = false) (hx : L[i]? = some (a, v)) (h : holdA lt a = true) : idxR lt L = (i : Int) := by
  have hq := findIdx_hit (f := fun x : De.DV => holdA lt x.1) (L := L) (i := i) (x := (a, v)) h1 hx h
  unfold idxR
  rw [hq]
attribute [local irreducible] holdA in
theorem idxR_no {lt : List Tm} {L : List De.DV} (h1 : ∀ (j : Nat) (x : De.DV), L[j]? = some x → holdA lt x.1 = false) : idxR lt L = -1 := by
  have hq := findIdx_no (f := fun x : De.DV => holdA lt x.1) (L := L) h1
  unfold idxR
  rw [hq]
set_option maxHeartbeats 2000000 in
set_option maxRecDepth 100000 in
theorem indexD_any (lt : List Tm) (ad : Option Addr) (cp Bt : Nat) (L : List De.DV) (v : Value) (w : World) (hl : lt.length ≤ 4611686018427387904) (hs : SmL lt) (hL : L.length ≤ 1000000) (ha : ∀ x ∈ L, SmA x.1)
    (hv : tmT.Has w (.slice ad lt.length cp) lt) (ht : w.cell? ⟨Bt, 0, none⟩ = some (.slice ad lt.length cp)) (hd : De.DHas w v L) :
    Calls Try.prog 43 #[v, .func (.func 44) #[] #[.pointer (some ⟨Bt, 0, none⟩)]] w fun e w' => e = .returned (.int .i64 (idxR lt L)) ∧ Kp [] w w' := by
  obtain ⟨N, hN⟩ : ∃ N, L.length = N := ⟨_, rfl⟩
  rcases hd with ⟨a', c', rfl, rfl⟩ | ⟨G, o, c', rfl, hcap, hG, hrow⟩
  · go_enter Try.func43, Try.ntmps43
    go_wp2
    go_loopw [8] (fun s8 wx => s8 = .int .i64 0 ∧ w = wx) (fun _ _ => 0)
    case atStart => exact ⟨rfl, rfl⟩
    case round =>
      obtain ⟨rfl, rfl⟩ := hrel
      have hz : ¬ ((0 : Int) < ((0 : Nat) : Int)) := by omega
      go_wp2
      go_ret
      exact ⟨rfl, Kp.refl _ _⟩
  · have Hrow := Lib.hid hrow
    have HGs := Lib.hid hG
    have HN := Lib.hid hN
    have Hv := Lib.hid hv
    have Ht := Lib.hid ht
    have Ha := Lib.hid ha
    have Hcap := Lib.hid hcap
    rw [hN] at hL Hcap ⊢
    clear hrow hG hN hv ht ha hcap
    have hNi : (N : Int) ≤ 1000000 := by omega
    go_enter Try.func43, Try.ntmps43
    go_wp2
    go_loopw [8] (fun s8 wx => ∃ i : Nat, i ≤ N ∧ s8 = .int .i64 i ∧ (∀ (j : Nat) (x : De.DV), j < i → L[j]? = some x → holdA lt x.1 = false) ∧ Kp [] w wx) (fun s8 _ => N - (intOf s8).toNat)
    case atStart => exact ⟨0, by omega, rfl, fun j a hj _ => absurd hj (by omega), Kp.refl _ _⟩
    case round =>
      obtain ⟨i, hi, rfl, hall, hdr⟩ := hrel
      have Hall := Lib.hid hall
      have Hdr := Lib.hid hdr
      clear hall hdr
      by_cases hlt : (i : Int) < (N : Int)
      · obtain ⟨⟨a, u⟩, hx⟩ : ∃ x, L[i]? = some x := ⟨L[i]'(by rw [HN.out]; omega), List.getElem?_eq_getElem _⟩
        have hxm := List.mem_of_getElem? hx
        have hrw := Hrow.out.below HGs.out Hdr.out.bel
        have hHas := hrw.ats _ hxm
        obtain ⟨b, c, hu, -⟩ := hHas.form
        simp only at hu
        subst hu
        generalize a.ats.length = n at *
        have Hran := Lib.hid (hrw.at_ i _ hx)
        simp only at Hran hHas
        have HI1 := Lib.hid (show (Try.prog.info? 26).map (·.size) = some (De.dvC a (.slice b n c)).length from De.info34b)
        have Hm := Lib.hid (show Calls Try.prog 44 #[.agg (De.dvC a (.slice b n c)).toArray, .pointer (some ⟨Bt, 0, none⟩)] wr fun e w' => e = .returned (.bool (holdA lt a)) ∧ Kp [] wr w' from hold1_any lt ad cp Bt a b n c wr hl hs (Ha.out _ hxm) (Hv.out.kp0 Hdr.out) hHas (cell_kp Hdr.out Ht.out))
        have Hx := Lib.hid hx
        clear hxm hrw hHas hx
        cases hmb : holdA lt a with
        | true =>
          rw [hmb] at Hm
          have HE := Lib.hid (idxR_hit Hall.out Hx.out hmb)
          clear hmb
          go_wp2_with (first
            | (refine wpList_load_mid rfl 26 _ rfl G (o + i * 10) rfl (De.dvC a (.slice b n c)) _ (by with_reducible exact Hran.out) Try.underlying26 rfl HI1.out ?_)
            | (go_at_call 44; refine Calls.mono (by with_reducible exact Hm.out) ?_; rintro e w' ⟨rfl, hd⟩))
          go_ret
          exact ⟨by rw [HE.out]; rfl, Hdr.out.trans hd⟩
        | false =>
          rw [hmb] at Hm
          have Hall2 := Lib.hid (show ∀ (j : Nat) (y : De.DV), j < i + 1 → L[j]? = some y → holdA lt y.1 = false from fun j y hj hbj => by
            rcases Nat.lt_or_ge j i with h1 | h1
            · exact Hall.out j y h1 hbj
            · obtain rfl : j = i := by omega
              rw [Hx.out] at hbj
              cases hbj
              exact hmb)
          clear hmb
          go_wp2_with (first
            | (refine wpList_load_mid rfl 26 _ rfl G (o + i * 10) rfl (De.dvC a (.slice b n c)) _ (by with_reducible exact Hran.out) Try.underlying26 rfl HI1.out ?_)
            | (go_at_call 44; refine Calls.mono (by with_reducible exact Hm.out) ?_; rintro e w' ⟨rfl, hd⟩))
          exact ⟨⟨i + 1, by omega, rfl, Hall2.out, Hdr.out.trans hd⟩, by simp [intOf]; omega⟩
      · obtain rfl : i = N := by omega
        have HE := Lib.hid (idxR_no fun j y hy => Hall.out j y (by rw [← HN.out]; exact (List.getElem?_eq_some_iff.1 hy).1) hy)
        go_wp2
        go_ret
        exact ⟨by rw [HE.out]; rfl, Hdr.out⟩
end Go.Proofs.Ythblgkjmjfhkdaa
