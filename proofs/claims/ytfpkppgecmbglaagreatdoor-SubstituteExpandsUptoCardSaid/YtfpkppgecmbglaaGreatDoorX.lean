/- What Format asks of neighbours: beginsSmall, mayPrecede. -/
import Derived.Test.YtfpkppgecmbglaaGreatDoorW
namespace Go.Proofs.YtfpkppgecmbglaaGreatDoor
open Go.RowKit

def smG (x : Gp) : Bool := decide (x.kind = 1) && azHead x.text
set_option maxHeartbeats 2000000 in
set_option maxRecDepth 100000 in
theorem beginsSmall_any (x : Gp) (w : World) (ht : x.kind = 1 → x.text ≠ []) : Calls Tryz.prog 40 #[.agg (gpC x)] w fun e w' => e = .returned (.bool (smG x)) ∧ Kp [] w w' := by
  obtain ⟨k, t, n, m⟩ := x
  have HK := Lib.hid ((Kp.refl [] w).alloc (.cells #[.int .i64 k, .string (bs t), .int .i64 n, .bool m] 61))
  have hA := PAt.new w ⟨k, t, n, m⟩
  obtain ⟨d0, d1, d2, d3⟩ := hA.cells
  unfold gpC at d0 d1 d2 d3 hA
  simp only at d0 d1 d2 d3 hA ht
  unfold gpC
  simp only
  by_cases h1 : k = 1
  · subst h1
    cases t with
    | nil => exact absurd rfl (ht rfl)
    | cons b r =>
      have hb : smG ⟨1, b :: r, n, m⟩ = azCh b := rfl
      rw [hb]
      have HS := Lib.hid fun W => isSmall_any b W
      have hlt : 0 < (bs (b :: r)).size := by rw [bs_size]; simp
      have hg : (bs (b :: r))[0]'hlt = b := bs_get (b :: r) 0 (by simp)
      have hz : (0 : Int) < ((bs (b :: r)).size : Int) := by omega
      clear hb hA ht
      go_enter Tryz.func40, Tryz.ntmps40
      go_wp2_with (go_at_call 72; refine Calls.mono (by with_reducible exact HS.out _) ?_; rintro e w1 ⟨rfl, rfl⟩)
      go_ret
      exact ⟨rfl, HK.out⟩
  · have hb : smG ⟨k, t, n, m⟩ = false := by unfold smG; simp only; rw [decide_eq_false h1]; rfl
    rw [hb]
    have h1' : (k == 1) = false := by simpa using h1
    clear hb hA ht
    go_enter Tryz.func40, Tryz.ntmps40
    go_wp2
    go_ret
    exact ⟨rfl, HK.out⟩
/-- Whether a piece may stand ahead of another. -/
def precG (p q : Gp) : Bool :=
  if q.kind ≠ 1 then true else if p.kind = 1 then false else if p.kind = 11 then !smG q else if p.kind = 9 then decide (0 < p.word) || q.text.head? != some 123 else true
set_option maxHeartbeats 4000000 in
set_option maxRecDepth 100000 in
theorem mayPrecede_any (p q : Gp) (w : World) (ht : q.kind = 1 → q.text ≠ []) : Calls Tryz.prog 38 #[.agg (gpC p), .agg (gpC q)] w fun e w' => e = .returned (.bool (precG p q)) ∧ Kp [] w w' := by
  have hS := fun W => beginsSmall_any q W ht
  obtain ⟨k, t, n, m⟩ := p
  obtain ⟨k', t', n', m'⟩ := q
  obtain ⟨P, hP⟩ : ∃ P, w.heap.size = P := ⟨_, rfl⟩
  obtain ⟨W1, hW1⟩ : ∃ W1, w.alloc (.cells #[.int .i64 k, .string (bs t), .int .i64 n, .bool m] 61) = W1 := ⟨_, rfl⟩
  obtain ⟨R, hR⟩ : ∃ R, W1.heap.size = R := ⟨_, rfl⟩
  obtain ⟨W2, hW2⟩ : ∃ W2, W1.alloc (.cells #[.int .i64 k', .string (bs t'), .int .i64 n', .bool m'] 61) = W2 := ⟨_, rfl⟩
  have hR1 : w.heap.size + 1 = R := by rw [← hR, ← hW1, World.size_alloc]
  have hA1 : PAt W2 P ⟨k, t, n, m⟩ := by
    have h1 : PAt W1 P ⟨k, t, n, m⟩ := by rw [← hW1, ← hP]; exact heap_alloc_last w _
    have hk : Kp [] W1 W2 := by rw [← hW2]; exact (Kp.refl [] W1).alloc _
    exact h1.kp hk (by simp)
  have hA2 : PAt W2 R ⟨k', t', n', m'⟩ := by rw [← hW2, ← hR]; exact heap_alloc_last W1 _
  have HK := Lib.hid (show Kp [] w W2 by rw [← hW2, ← hW1]; exact ((Kp.refl [] w).alloc _).alloc _)
  obtain ⟨d0, d1, d2, d3⟩ := hA1.cells
  obtain ⟨e0, e1, e2, e3⟩ := hA2.cells
  have HW1 := Lib.hid hW1
  have HW2 := Lib.hid hW2
  have HP := Lib.hid hP
  have HR := Lib.hid hR
  have HR1 := Lib.hid hR1
  simp only at d0 d1 d2 d3 e0 e1 e2 e3 ht
  unfold gpC at hS ⊢
  simp only at hS ⊢
  have HS := Lib.hid hS
  clear hS hA1 hA2 hW1 hW2 hP hR hR1
  obtain ⟨res, hres⟩ : ∃ res, precG ⟨k, t, n, m⟩ ⟨k', t', n', m'⟩ = res := ⟨_, rfl⟩
  rw [hres]
  unfold precG at hres
  simp only at hres
  go_enter Tryz.func38, Tryz.ntmps38
  go_upto_region 1 with fail
  rw [HR1.out, HP.out, HW1.out, HW2.out]
  clear HR1 HP HW1 HW2 HR
  by_cases q1 : k' ≠ 1
  · rw [if_pos q1] at hres
    subst hres
    have q1' : (k' != 1) = true := by simpa using q1
    go_wp2
    go_ret
    exact ⟨rfl, HK.out⟩
  obtain rfl : k' = 1 := Decidable.of_not_not q1
  rw [if_neg q1] at hres
  clear q1
  by_cases p1 : k = 1
  · rw [if_pos p1] at hres
    subst hres p1
    go_wp2
    go_ret
    exact ⟨rfl, HK.out⟩
  rw [if_neg p1] at hres
  have p1' : (k == 1) = false := by simpa using p1
  clear p1
  by_cases p11 : k = 11
  · rw [if_pos p11] at hres
    subst hres p11
    go_wp2_with (go_at_call 40; refine Calls.mono (by with_reducible exact HS.out _) ?_; rintro e w1 ⟨rfl, hk⟩)
    go_ret
    exact ⟨rfl, HK.out.trans hk⟩
  rw [if_neg p11] at hres
  have p11' : (k == 11) = false := by simpa using p11
  clear p11
  by_cases p9 : k = 9
  · rw [if_pos p9] at hres
    subst p9
    by_cases h0 : 0 < n
    · rw [decide_eq_true h0, Bool.true_or] at hres
      subst hres
      go_wp2
      go_ret
      exact ⟨rfl, HK.out⟩
    · rw [decide_eq_false h0, Bool.false_or] at hres
      cases t' with
      | nil => exact absurd rfl (ht rfl)
      | cons b r =>
        have hlt : 0 < (bs (b :: r)).size := by rw [bs_size]; simp
        have hg : (bs (b :: r))[0]'hlt = b := bs_get (b :: r) 0 (by simp)
        have hz : (0 : Int) < ((bs (b :: r)).size : Int) := by omega
        have hbr : ((b.toNat : Int) != 123) = res := by
          rw [← hres]
          by_cases hb : b = 123
          · subst hb; rfl
          · have : ¬ (b.toNat : Int) = 123 := fun e => hb (UInt8.toNat_inj.1 (by show b.toNat = 123; omega))
            have h1 : ((b.toNat : Int) != 123) = true := by simpa using this
            have h2 : ((b :: r).head? != some 123) = true := by simpa using hb
            rw [h1]
            exact h2.symm
        clear hres ht HS
        go_wp2
        go_ret
        exact ⟨rfl, HK.out⟩
  · rw [if_neg p9] at hres
    subst hres
    have p9' : (k == 9) = false := by simpa using p9
    clear p9
    go_wp2
    go_ret
    exact ⟨rfl, HK.out⟩
end Go.Proofs.YtfpkppgecmbglaaGreatDoor
