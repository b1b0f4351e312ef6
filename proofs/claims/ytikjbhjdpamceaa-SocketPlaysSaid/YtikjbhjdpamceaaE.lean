/- Copies of sockets; equal lists of events. -/
import Derived.Test.YtikjbhjdpamceaaD1
import Derived.Lib.IndexMore
namespace Go.Proofs.Ytikjbhjdpamceaa
open Go.RowKit

theorem src_all {w : World} {rb : Nat} {ring : List Ev} {sp : List Value} (h : w.heap[rb]? = some (.cells (evsC ring ++ sp).toArray 42 (0, 0))) :
    ∀ j u, (evsC ring)[j]? = some u → w.cell? ((⟨rb, 0, none⟩ : Addr).add j) = some u := by
  have := src_ev h 0 ring ⟨ring.length, by simp⟩
  simpa using this

set_option maxHeartbeats 1000000 in
set_option maxRecDepth 100000 in
theorem clone_any {w : World} {rb cc : Nat} {ring : List Ev} {sp : List Value} (hl : ring.length ≤ 256) (h : w.heap[rb]? = some (.cells (evsC ring ++ sp).toArray 42 (0, 0))) :
    Calls Try.prog 21 #[.slice (some ⟨rb, 0, none⟩) ring.length cc] w fun e w' => ∃ u, e = .returned u ∧ w'.ownsRow w.heap.size 42 5 u ring.length (evsC ring) ∧ Below w.heap.size w w' := by
  obtain ⟨i0, hi0, hz0, hz1, hz2⟩ := info_parts info42
  have q23 : ∀ (w : World) (a : Option Addr) (n c n' c' : Nat), (binOp .eql 23 (.slice a n c) (.slice none n' c')).run Try.prog w = .ok (.bool a.isNone) w := fun w a n c n' c' => Lib.run_eql_slice_nil w _ _ a n c n' c' Try.underlying23
  have hfin : ∀ w1, (w.alloc (.cells #[] 42)).grownBy w1 (some w.heap.size) → Below w.heap.size w w1 := fun w1 hg => ((Below.refl _ w).alloc (Nat.le_refl _) _).grown hg (by simp) fun k hk => by cases hk; exact Nat.le_refl _
  have HF := Lib.hid hfin
  have hlc := evsC_len ring
  have hb := block_lt h
  have HC := Lib.hid (fun j u hj => ((Below.refl _ w).alloc (Nat.le_refl _) (.cells #[] 42)).cell (p := (⟨rb, 0, none⟩ : Addr).add j) (show ((⟨rb, 0, none⟩ : Addr).add j).block < w.heap.size by unfold Addr.add; split <;> exact hb) |>.trans (src_all h j u hj))
  have HO := Lib.hid (evsC_one ring)
  obtain ⟨N, hN⟩ : ∃ N, ring.length = N := ⟨_, rfl⟩
  rw [hN] at hlc hl ⊢
  clear hfin hN h
  go_enter Try.func21, Try.ntmps21
  go_wp2_with (at_builtin; refine wpList_append_own _ rfl _ _ 23 rfl w.heap.size 42 i0 _ 5 56 Try.underlying23 hi0 hz0 hz1 hz2 rfl (by decide) _ _ _ rfl (World.ownsRow_made w #[] 0 (Nat.le_refl _) (Nat.zero_le _) (by simp)) ⟨rb, 0, none⟩ N cc (evsC ring) rfl hlc HC.out HO.out (by unfold maxLen; omega) (by omega) (by first | (simp; done) | (simp; omega)) ?_; intro v1 w1 hown1 hgrow1 _; have Hown1 := Lib.hid hown1; have Hgrow1 := Lib.hid hgrow1; clear hown1 hgrow1)
  go_ret
  refine ⟨_, rfl, ?_, HF.out _ Hgrow1.out⟩
  have := Hown1.out
  rw [Nat.zero_add, List.nil_append] at this
  exact this

def CopyPost (cap : Nat) (l : List Ev) (lost : Bool) (w : World) (e : Ending) (w' : World) : Prop :=
  ∃ sb rb, e = .returned (.pointer (some ⟨sb, 0, none⟩)) ∧ Que w' sb rb cap l lost ∧ w.heap.size ≤ sb ∧ w.heap.size ≤ rb ∧ Kp [] w w'

set_option maxHeartbeats 1000000 in
set_option maxRecDepth 100000 in
/-- Copy. -/
theorem copy_any {w : World} {sb rb cap : Nat} {l : List Ev} {lost : Bool} (h : Que w sb rb cap l lost) : Calls Try.prog 19 #[.pointer (some ⟨sb, 0, none⟩)] w (CopyPost cap l lost w) := by
  obtain ⟨cc, f, ring, sp, hs, hx⟩ := h
  obtain ⟨c0, c1, c2, c3⟩ := skCells hs.hs
  have hsl := block_lt hs.hs
  have hrl := block_lt hs.hr
  obtain ⟨w1, hw1⟩ : ∃ w1, w.alloc (.cells (skC rb cap cc f l.length lost) 52) = w1 := ⟨_, rfl⟩
  have hk1 : Kp [] w w1 := by rw [← hw1]; exact (Kp.refl [] w).alloc _
  have hsz : w1.heap.size = w.heap.size + 1 := by rw [← hw1, al_size]
  have hn1 : w1.heap[w.heap.size]? = some (.cells (skC rb cap cc f l.length lost) 52 (0, 0)) := by rw [← hw1]; exact al_new _ _
  have hcl := clone_any (w := w1) (cc := cc) (by rw [hs.len]; exact hs.cap2) ((hk1.block _ hrl (by simp)).trans hs.hr)
  rw [hs.len] at hcl
  have c10 : w1.cell? ⟨sb, 0, none⟩ = some (.slice (some ⟨rb, 0, none⟩) cap cc) := (skCells ((hk1.block _ hsl (by simp)).trans hs.hs)).1
  obtain ⟨A, hA⟩ : ∃ A, w.heap.size = A := ⟨_, rfl⟩
  rw [hA] at hsz hn1
  have HS := Lib.hid hs
  have HX := Lib.hid hx
  have HC := Lib.hid hcl
  have HK := Lib.hid hk1
  have HN := Lib.hid hn1
  have HA := Lib.hid hA
  have HZ := Lib.hid hsz
  unfold skC at hw1
  have HA1 := Lib.hid (show A < w1.heap.size by omega)
  clear hs hx hcl hk1 hn1 hsz
  go_enter Try.func19, Try.ntmps19
  go_wp2_with fail
  refine HC.out.mono ?_
  rintro e w2 ⟨u, rfl, hown, hbel⟩
  have hA2 : w2.heap[A]? = some (.cells (skC rb cap cc f l.length lost) 52 (0, 0)) := (hbel.block A HA1.out).trans HN.out
  have d0 := (skCells hA2).1
  have f0 := skFrozen hA2 0
  have hA2l := block_lt hA2
  have H2 := Lib.hid hA2
  obtain ⟨_, ⟨_, hz⟩ | ⟨g, cap', cur, rfl, hB, hg, hcp, hcm, hcz, htk⟩⟩ := hown
  · have := HS.out.cap1
    omega
  have HB := Lib.hid hbel
  have HGG := Lib.hid hg
  have HT := Lib.hid htk
  clear hbel hA2 hw1 hA hg htk hcz
  go_wp2
  go_ret
  have hg := HGG.out
  have htk := HT.out
  have hS := HS.out
  have hz := HZ.out
  have hA := HA.out
  have hAg : A ≠ g := by omega
  refine ⟨A, g, rfl, ⟨cap', f, ring, cur.toList.drop (cap * 5), ⟨?_, ?_, hcp, hcm, hS.len, hS.cap1, hS.cap2, hS.hf, hS.hn, hAg⟩, HX.out⟩, by omega, by omega, ?_⟩
  · simp [World.setCell, Array.getElem?_modify, H2.out, skC]
  · rw [← htk, List.take_append_drop, Array.toArray_toList]
    exact (Below.heap_setCell _ _ _ _ hAg.symm).trans hg
  · exact (HK.out.trans ((Kp.of_below HB.out).mono (by simp))).setCell (.inr (by show w.heap.size ≤ A; omega)) _
end Go.Proofs.Ytikjbhjdpamceaa
