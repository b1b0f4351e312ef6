/- A copy of what is inside a content. -/
import Derived.Test.YtoohnjlghjapnaaDoorAE
import Derived.Lib.SliceRun
namespace Go.Proofs.YtoohnjlghjapnaaDoor
open Go.RowKit

set_option maxHeartbeats 4000000 in
set_option maxRecDepth 100000 in
theorem clone_any {Q : Nat → Prop} (l : List Con) (va : Option Addr) (vn : Nat) (W : World) (h16 : l.length ≤ 1000000) (hh : CHas Q W (.slice va l.length vn) l) (hQ : ∀ b, Q b → b < W.heap.size) :
    Calls Tryd.prog 64 #[.slice va l.length vn] W fun r w' => ∃ v L, r = .returned v ∧ L.map Prod.fst = l ∧ ROwn w' W.heap.size Q v L ∧ Kp [] W w' := by
  obtain ⟨i0, hi0, hz0, hz1, hz2⟩ := info_parts info24
  cases va with
  | none =>
    have hl : l = [] := by
      obtain ⟨a', n', he, hrow⟩ := hh.form
      cases he
      rcases l with _ | ⟨x, l⟩
      · rfl
      · obtain ⟨b, o, he, _⟩ := hrow (by simp)
        cases he
    subst hl
    clear hh
    have hn := fun W : World => Lib.run_eql_slice_nil (P := Tryd.prog) W 22 24 none 0 vn 0 0 Tryd.underlying22
    go_enter Tryd.func64, Tryd.ntmps64
    go_wp2
    go_ret
    exact ⟨_, [], rfl, rfl, ⟨World.ownsRow_nil _ _ _ _, fun p hp => by simp at hp⟩, Kp.refl _ _⟩
  | some ad =>
    obtain ⟨M, hM, hc, hp⟩ : ∃ M : List (Con × Value), M.map Prod.fst = l ∧ (∀ (j : Nat) u, (rowC M)[j]? = some u → W.cell? (ad.add j) = some u) ∧ ∀ p ∈ M, Tx p.1 ∧ CHas Q W p.2 p.1.inner := by
      by_cases hne : l = []
      · subst hne
        exact ⟨[], rfl, fun j u h => by simp [rowC] at h, fun p hp => by simp at hp⟩
      · obtain ⟨a', n', he, hrow⟩ := hh.form
        cases he
        obtain ⟨b, o, he, -, -, -, -, hr⟩ := hrow hne
        cases he
        obtain ⟨L, hL, hc, hp⟩ := hr.pairs
        refine ⟨L, hL, fun j u hj => ?_, hp⟩
        have := hc j u hj
        rwa [show (⟨b, o, none⟩ : Addr).add j = ⟨b, o + j, none⟩ by unfold Addr.add; split <;> simp_all]
    have hml : M.length = l.length := by rw [← hM, List.length_map]
    have hal : Kp [] W (W.alloc (.cells #[] 24)) := (Kp.refl [] W).alloc _
    have hown : (W.alloc (.cells #[] 24)).ownsRow W.heap.size 24 7 (.slice (some ⟨W.heap.size, 0, none⟩) 0 0) 0 [] := World.ownsRow_lit W #[] 0 (Nat.le_refl _) (by unfold maxLen; omega) rfl
    have HO := Lib.hid hown
    have HP := Lib.hid (fun p hpm => (⟨(hp p hpm).1, kp_has (hp p hpm).2 hal⟩ : Tx p.1 ∧ CHas Q (W.alloc (.cells #[] 24)) p.2 p.1.inner))
    have HC := Lib.hid (show ∀ (j : Nat) u, (rowC M)[j]? = some u → (W.alloc (.cells #[] 24)).cell? (ad.add j) = some u from fun j u hj => by
      have := hc j u hj
      have hb := World.block_lt_of_cell? _ _ this
      rw [← this]
      unfold World.cell?
      rw [hal.block _ hb (by simp)])
    have HR := Lib.hid (row_one (L := M) fun p hpm => has_one' (hp p hpm).2)
    have HM := Lib.hid hM
    have HQ := Lib.hid hQ
    have HAL := Lib.hid hal
    have HS := Lib.hid (show W.heap.size ≤ (W.alloc (.cells #[] 24)).heap.size by rw [al_size]; omega)
    have HML := Lib.hid hml
    have hn := fun W : World => Lib.run_eql_slice_nil (P := Tryd.prog) W 22 24 (some ad) l.length vn 0 0 Tryd.underlying22
    clear hM hc hp hal hown hQ hh hml
    go_enter Tryd.func64, Tryd.ntmps64
    go_wp2_with (at_builtin; refine wpList_append_own _ rfl _ _ 22 rfl W.heap.size 24 i0 _ 7 88 Tryd.underlying22 hi0 hz0 hz1 hz2 rfl (by decide) _ _ _ rfl HO.out ad l.length vn (rowC M) rfl (by rw [rowC_len, HML.out]) HC.out HR.out (by unfold maxLen; omega) (by omega) HS.out ?_; intro v8 w8 hown8 hgrow8 _; have O8 := Lib.hid (show w8.ownsRow W.heap.size 24 7 v8 (([] : List (Con × Value)).length + M.length) (rowC [] ++ rowC M) by rw [HML.out]; exact hown8); have G8 := Lib.hid hgrow8; clear hown8 hgrow8)
    have R8 := ROwn.append (L := []) ⟨HO.out, fun p hp => by simp at hp⟩ HP.out HQ.out O8.out G8.out
    rw [List.nil_append] at R8
    have K8 := grown_kp (B := W.heap.size) G8.out (fun k e => (World.ownsRow.lt HO.out k e).1) HAL.out (Nat.le_refl _)
    have RR := Lib.hid R8
    have KK := Lib.hid K8
    clear R8 K8
    go_ret
    exact ⟨v8, M, rfl, HM.out, RR.out, KK.out⟩
end Go.Proofs.YtoohnjlghjapnaaDoor
