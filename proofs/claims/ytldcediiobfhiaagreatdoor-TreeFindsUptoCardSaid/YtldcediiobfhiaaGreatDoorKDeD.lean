/- Copies of attributes. -/
import Derived.Test.YtldcediiobfhiaaGreatDoorKDb
import Derived.Test.YtldcediiobfhiaaGreatDoorKSh
namespace Go.Proofs.YtldcediiobfhiaaGreatDoor.De
open Go.RowKit
def Bel (v : Value) (w : World) (e : Ending) (w' : World) : Prop := e = .returned v ∧ Below w.heap.size w w'
set_option maxHeartbeats 1000000 in
set_option maxRecDepth 100000 in
theorem clone_any (sv : Value) (l : List Atr) (w : World) (hl : l.length ≤ 1000000) (h : Has w sv l) :
  Calls Tryz.prog 103 #[sv] w fun e w' => ∃ u, e = .returned u ∧ Owns w' w.heap.size u l ∧ Below w.heap.size w w' := by
 obtain ⟨i0, hi0, hz0, hz1, hz2⟩ := info_parts info55
 have q22 : ∀ (w : World) (a : Option Addr) (n c n' c' : Nat), (binOp .eql 32 (.slice a n c) (.slice none n' c')).run Tryz.prog w = .ok (.bool a.isNone) w := fun w a n c n' c' => Lib.run_eql_slice_nil w _ _ a n c n' c' Tryz.underlying32
 have hfin : ∀ w1, (w.alloc (.cells #[] 99)).grownBy w1 (some w.heap.size) → Below w.heap.size w w1 := fun w1 hg => ((Below.refl _ w).alloc (Nat.le_refl _) _).grown hg (by simp) fun k hk => by cases hk; exact Nat.le_refl _
 have HF := Lib.hid hfin
 clear hfin
 rcases h with ⟨ad, c, rfl, rfl⟩ | ⟨b, o, c, rfl, hb, hrow⟩
 ·cases ad with
  | none =>
   clear hi0 hz0 hz1 hz2
   go_enter Tryz.func103, Tryz.ntmps103
   go_wp2
   go_ret
   exact ⟨_, rfl, Owns.nil _ _, Below.refl _ _⟩
  | some ad =>
   go_enter Tryz.func103, Tryz.ntmps103
   go_wp2_with (at_builtin; refine wpList_append_own _ rfl _ _ 32 rfl w.heap.size 99 i0 _ 2 32 Tryz.underlying32 hi0 hz0 hz1 hz2 rfl (by decide) _ _ _ rfl (World.ownsRow_made w #[] 0 (Nat.le_refl _) (Nat.zero_le _) (by simp)) ad 0 c [] rfl rfl (fun j u hj => by simp at hj) (by simp) (by unfold maxLen; omega) (by omega) (by first | (simp; done) | (simp; omega)) ?_; intro v1 w1 hown1 hgrow1 _; have Hown1 := Lib.hid hown1; have Hgrow1 := Lib.hid hgrow1; clear hown1 hgrow1)
   go_ret
   exact ⟨_, rfl, Hown1.out, HF.out _ Hgrow1.out⟩
 ·obtain ⟨N, hN⟩ : ∃ N, l.length = N := ⟨_, rfl⟩
  have hlc := cellsP_len l
  have hcs : ∀ j u, (cellsP l)[j]? = some u → w.cell? ((⟨b, o, none⟩ : Addr).add j) = some u := fun j u hj => by
   have hadd : (⟨b, o, none⟩ : Addr).add j = ⟨b, o + j, none⟩ := by unfold Addr.add; split <;> simp_all
   rw [hadd]
   have hjl : j < l.length * 2 := by rw [← hlc]; exact (List.getElem?_eq_some_iff.1 hj).1
   obtain ⟨x, hx⟩ : ∃ x, l[j / 2]? = some x := ⟨_, List.getElem?_eq_getElem (by omega)⟩
   have h1 := cellsP_get l _ x hx
   have h2 := hrow _ x hx
   rcases Nat.mod_two_eq_zero_or_one j with hm | hm
   ·rw [show j / 2 * 2 = j by omega] at h1 h2
    rw [hj] at h1
    rw [h2.1, h1.1]
   ·rw [show j / 2 * 2 + 1 = j by omega] at h1
    rw [show o + j / 2 * 2 + 1 = o + j by omega] at h2
    rw [hj] at h1
    rw [h2.2, h1.2]
  have HC := Lib.hid (fun j u hj => ((Below.refl _ w).alloc (Nat.le_refl _) (.cells #[] 99)).cell (p := (⟨b, o, none⟩ : Addr).add j) (show ((⟨b, o, none⟩ : Addr).add j).block < w.heap.size by unfold Addr.add; split <;> exact hb) |>.trans (hcs j u hj))
  have HO := Lib.hid (cellsP_one l)
  unfold Owns
  rw [hN] at hlc hl ⊢
  clear hcs hrow hN
  go_enter Tryz.func103, Tryz.ntmps103
  go_wp2_with (at_builtin; refine wpList_append_own _ rfl _ _ 32 rfl w.heap.size 99 i0 _ 2 32 Tryz.underlying32 hi0 hz0 hz1 hz2 rfl (by decide) _ _ _ rfl (World.ownsRow_made w #[] 0 (Nat.le_refl _) (Nat.zero_le _) (by simp)) ⟨b, o, none⟩ N c (cellsP l) rfl hlc HC.out HO.out (by unfold maxLen; omega) (by omega) (by first | (simp; done) | (simp; omega)) ?_; intro v1 w1 hown1 hgrow1 _; have Hown1 := Lib.hid hown1; have Hgrow1 := Lib.hid hgrow1; clear hown1 hgrow1)
  go_ret
  refine ⟨_, rfl, ?_, HF.out _ Hgrow1.out⟩
  have := Hown1.out
  rw [Nat.zero_add, List.nil_append] at this
  exact this
end Go.Proofs.YtldcediiobfhiaaGreatDoor.De
