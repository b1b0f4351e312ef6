/- written: the text of a token. -/
import Derived.Test.YtccmlodocfpbhaaDoorC
import Derived.Deep.RegionHeld3
import Derived.Deep.RegionLaw
namespace Go.Proofs.YtccmlodocfpbhaaDoor
open Go.RowKit

theorem run_add_str {P : Program} (W : World) (a b : ByteArray) (h : a.size + b.size ≤ 100000000000) : (Op.stringOp .add a b).run P W = .ok (.string (a ++ b)) W :=
  run_string_add_sum W a b (by omega)
theorem bs_app (a b : List UInt8) : bs a ++ bs b = bs (a ++ b) := by
  apply ByteArray.ext
  rw [ByteArray.data_append]
  apply Array.ext'
  simp [bs]
theorem fmtV_len (v : List UInt8) : (fmtV v).length ≤ 2 * v.length := by
  induction v with
  | nil => simp [fmtV]
  | cons b v ih =>
    rw [fmtV_cons, List.length_append, List.length_cons]
    split <;> simp <;> omega
theorem lastS {a b c d : Prop} (h : a ∧ b ∧ c ∧ d) : d := h.2.2.2
/-- The texts of a token are short. -/
def Sm (x : Tok) : Prop := x.key.length ≤ 1000000000 ∧ x.name.length ≤ 1000000000 ∧ x.op.length ≤ 1000000000 ∧ x.val.length ≤ 1000000000
def nmP (n : List UInt8) : List UInt8 := if n = [] then [] else 123 :: (n ++ [125])

set_option maxHeartbeats 4000000 in
set_option maxRecDepth 100000 in
theorem written_any (x : Tok) (w : World) (hx : Sm x) (hm : Max w) : Calls Tryd.prog 44 #[.agg (tokC x)] w fun r w' => r = .returned (.string (bs (fmtT x))) ∧ Kp [] w w' := by
  obtain ⟨k, n, o, v⟩ := x
  obtain ⟨z1, z2, z3, z4⟩ := hx
  simp only at z1 z2 z3 z4
  have hA : TAt (w.alloc (.cells (tokC ⟨k, n, o, v⟩) 43)) w.heap.size ⟨k, n, o, v⟩ := heap_alloc_last w _
  have hK := (Kp.refl [] w).alloc (.cells (tokC ⟨k, n, o, v⟩) 43)
  obtain ⟨d0, d1, d2, d3⟩ := hA.cells
  have he := bs_isEmpty n
  have HV := Lib.hid fun W (h : W.cell? ⟨w.heap.size, 0, none⟩ = some (.string (bs k)) ∧ W.cell? ⟨w.heap.size, 2, none⟩ = some (.string (bs o)) ∧ W.cell? ⟨w.heap.size, 3, none⟩ = some (.string (bs v)) ∧ Kp [] w W) => esc_any v W z4 (hm.kp h.2.2.2 (by simp))
  have hvl := fmtV_len v
  have s1 : (bs k).size ≤ 1000000000 := z1
  have s3 : (bs o).size ≤ 1000000000 := z3
  have s4 : (bs (fmtV v)).size ≤ 2000000000 := by rw [bs_size]; omega
  have s5 : (bs (nmP n)).size ≤ 1000000002 := by
    rw [bs_size]
    unfold nmP
    split <;> simp; omega
  have hfin : ((((bs k ++ bs (nmP n)) ++ bs o) ++ ⟨#[34]⟩) ++ bs (fmtV v)) ++ ⟨#[34]⟩ = bs (fmtT ⟨k, n, o, v⟩) := by
    rw [show (⟨#[34]⟩ : ByteArray) = bs [34] from rfl, bs_app, bs_app, bs_app, bs_app, bs_app]
    unfold fmtT nmP
    simp
  have HF := Lib.hid hfin
  have HA := Lib.hid hA
  have HK := Lib.hid hK
  have a0 := fun W => @run_add_str Tryd.prog W (⟨#[123]⟩ : ByteArray) (bs n) (by rw [bs_size, show (⟨#[123]⟩ : ByteArray).size = 1 from rfl]; omega)
  have a00 := fun W => @run_add_str Tryd.prog W ((⟨#[123]⟩ : ByteArray) ++ bs n) ⟨#[125]⟩ (by rw [ByteArray.size_append, bs_size, show (⟨#[123]⟩ : ByteArray).size = 1 from rfl, show (⟨#[125]⟩ : ByteArray).size = 1 from rfl]; omega)
  have hn2 : n ≠ [] → ((⟨#[123]⟩ : ByteArray) ++ bs n) ++ ⟨#[125]⟩ = bs (nmP n) := fun h => by
    rw [show (⟨#[123]⟩ : ByteArray) = bs [123] from rfl, show (⟨#[125]⟩ : ByteArray) = bs [125] from rfl, bs_app, bs_app]
    unfold nmP
    rw [if_neg h]
    simp
  have hn1 : n = [] → (⟨#[]⟩ : ByteArray) = bs (nmP n) := fun h => by
    rw [h]
    rfl
  have H1 := Lib.hid hn1
  have H2 := Lib.hid hn2
  unfold tokC at HA HK hA hK d0 d1 d2 d3 ⊢
  simp only at HA HK hA hK d0 d1 d2 d3 ⊢
  clear hfin hA hK hm hvl z1 z2 z3 z4 hn1 hn2
  generalize bs (fmtT ⟨k, n, o, v⟩) = R at *
  cases hne : n.isEmpty with
  | true =>
    have hn0 : n = [] := List.isEmpty_iff.1 hne
    rw [hne] at he
    have HN := Lib.hid hn0
    have H1' := Lib.hid (H1.out hn0)
    clear hne hn0 H1
    go_enter Tryd.func44, Tryd.ntmps44
    go_wp2
    rw [H1'.out]
    generalize bs (nmP n) = M at *
    generalize hWW : w.alloc (.cells #[.string (bs k), .string (bs n), .string (bs o), .string (bs v)] 43) = W0 at *
    have a1 := fun W => @run_add_str Tryd.prog W (bs k) M (by omega)
    have a2 := fun W => @run_add_str Tryd.prog W (bs k ++ M) (bs o) (by rw [ByteArray.size_append]; omega)
    have a3 := fun W => @run_add_str Tryd.prog W ((bs k ++ M) ++ bs o) ⟨#[34]⟩ (by rw [ByteArray.size_append, ByteArray.size_append, show (⟨#[34]⟩ : ByteArray).size = 1 from rfl]; omega)
    have a4 := fun W => @run_add_str Tryd.prog W (((bs k ++ M) ++ bs o) ++ ⟨#[34]⟩) (bs (fmtV v)) (by rw [ByteArray.size_append, ByteArray.size_append, ByteArray.size_append, show (⟨#[34]⟩ : ByteArray).size = 1 from rfl]; omega)
    have a5 := fun W => @run_add_str Tryd.prog W ((((bs k ++ M) ++ bs o) ++ ⟨#[34]⟩) ++ bs (fmtV v)) ⟨#[34]⟩ (by rw [ByteArray.size_append, ByteArray.size_append, ByteArray.size_append, ByteArray.size_append, show (⟨#[34]⟩ : ByteArray).size = 1 from rfl]; omega)
    have HST := Lib.hid (show (fun W : World => W.cell? ⟨w.heap.size, 0, none⟩ = some (.string (bs k)) ∧ W.cell? ⟨w.heap.size, 2, none⟩ = some (.string (bs o)) ∧ W.cell? ⟨w.heap.size, 3, none⟩ = some (.string (bs v)) ∧ Kp [] w W) W0.drew from ⟨d0, d2, d3, HK.out.drew 1⟩)
    have hlt : w.heap.size < W0.heap.size := by rw [← hWW]; simp
    have KS : ∀ W', Kp [] W0.drew W' → W'.cell? ⟨w.heap.size, 0, none⟩ = some (.string (bs k)) ∧ W'.cell? ⟨w.heap.size, 2, none⟩ = some (.string (bs o)) ∧ W'.cell? ⟨w.heap.size, 3, none⟩ = some (.string (bs v)) ∧ Kp [] w W' := fun W' hb => by
      obtain ⟨e0, e1, e2, e3⟩ := (TAt.kp (s := []) HA.out (((Kp.refl [] W0).drew 1).trans hb) (by simp)).cells
      exact ⟨e0, e2, e3, (HK.out.drew 1).trans hb⟩
    have HKS := Lib.hid KS
    clear KS
    go_region_held3 (fun W => W.cell? ⟨w.heap.size, 0, none⟩ = some (.string (bs k)) ∧ W.cell? ⟨w.heap.size, 2, none⟩ = some (.string (bs o)) ∧ W.cell? ⟨w.heap.size, 3, none⟩ = some (.string (bs v)) ∧ Kp [] w W) (first | exact HST.out | assumption | exact HKS.out _ (by assumption)) (first | (go_at_call 46; refine Calls.mono (by with_reducible exact HV.out _ (by assumption)) ?_; rintro e W ⟨rfl, hb⟩))
    all_goals
      go_wp2
      go_ret
      rw [HF.out]
      exact ⟨rfl, (lastS (by assumption))⟩
  | false =>
    have hn0 : n ≠ [] := by rintro rfl; cases hne
    rw [hne] at he
    have HN := Lib.hid hn0
    have H1' := Lib.hid (H2.out hn0)
    clear hne hn0 H1
    go_enter Tryd.func44, Tryd.ntmps44
    go_wp2
    rw [H1'.out]
    generalize bs (nmP n) = M at *
    generalize hWW : w.alloc (.cells #[.string (bs k), .string (bs n), .string (bs o), .string (bs v)] 43) = W0 at *
    have a1 := fun W => @run_add_str Tryd.prog W (bs k) M (by omega)
    have a2 := fun W => @run_add_str Tryd.prog W (bs k ++ M) (bs o) (by rw [ByteArray.size_append]; omega)
    have a3 := fun W => @run_add_str Tryd.prog W ((bs k ++ M) ++ bs o) ⟨#[34]⟩ (by rw [ByteArray.size_append, ByteArray.size_append, show (⟨#[34]⟩ : ByteArray).size = 1 from rfl]; omega)
    have a4 := fun W => @run_add_str Tryd.prog W (((bs k ++ M) ++ bs o) ++ ⟨#[34]⟩) (bs (fmtV v)) (by rw [ByteArray.size_append, ByteArray.size_append, ByteArray.size_append, show (⟨#[34]⟩ : ByteArray).size = 1 from rfl]; omega)
    have a5 := fun W => @run_add_str Tryd.prog W ((((bs k ++ M) ++ bs o) ++ ⟨#[34]⟩) ++ bs (fmtV v)) ⟨#[34]⟩ (by rw [ByteArray.size_append, ByteArray.size_append, ByteArray.size_append, ByteArray.size_append, show (⟨#[34]⟩ : ByteArray).size = 1 from rfl]; omega)
    have HST := Lib.hid (show (fun W : World => W.cell? ⟨w.heap.size, 0, none⟩ = some (.string (bs k)) ∧ W.cell? ⟨w.heap.size, 2, none⟩ = some (.string (bs o)) ∧ W.cell? ⟨w.heap.size, 3, none⟩ = some (.string (bs v)) ∧ Kp [] w W) W0.drew from ⟨d0, d2, d3, HK.out.drew 1⟩)
    have hlt : w.heap.size < W0.heap.size := by rw [← hWW]; simp
    have KS : ∀ W', Kp [] W0.drew W' → W'.cell? ⟨w.heap.size, 0, none⟩ = some (.string (bs k)) ∧ W'.cell? ⟨w.heap.size, 2, none⟩ = some (.string (bs o)) ∧ W'.cell? ⟨w.heap.size, 3, none⟩ = some (.string (bs v)) ∧ Kp [] w W' := fun W' hb => by
      obtain ⟨e0, e1, e2, e3⟩ := (TAt.kp (s := []) HA.out (((Kp.refl [] W0).drew 1).trans hb) (by simp)).cells
      exact ⟨e0, e2, e3, (HK.out.drew 1).trans hb⟩
    have HKS := Lib.hid KS
    clear KS
    go_region_held3 (fun W => W.cell? ⟨w.heap.size, 0, none⟩ = some (.string (bs k)) ∧ W.cell? ⟨w.heap.size, 2, none⟩ = some (.string (bs o)) ∧ W.cell? ⟨w.heap.size, 3, none⟩ = some (.string (bs v)) ∧ Kp [] w W) (first | exact HST.out | assumption | exact HKS.out _ (by assumption)) (first | (go_at_call 46; refine Calls.mono (by with_reducible exact HV.out _ (by assumption)) ?_; rintro e W ⟨rfl, hb⟩))
    all_goals
      go_wp2
      go_ret
      rw [HF.out]
      exact ⟨rfl, (lastS (by assumption))⟩
end Go.Proofs.YtccmlodocfpbhaaDoor
