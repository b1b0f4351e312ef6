/- Copies of attributes and of devices; what the program looks up devices by. -/
import Derived.Test.YtldcediiobfhiaaGreatDoorKDeDA
import Derived.Deep.QuietTactic
import Derived.BigQuiet
namespace Go.Proofs.YtldcediiobfhiaaGreatDoor.De
open Go.RowKit
theorem info34 : (Tryz.prog.info? 34).map (fun i => (i.zero, i.size, i.bytes)) = some (some (.agg zeroC), 10, 136) := by kernel_rfl
theorem dvsC_one {W : World} {l : List DV} (h : ∀ x ∈ l, Has W x.2 x.1.ats) : ∀ u ∈ dvsC l, u.oneCell' = true := fun u hu => by
 obtain ⟨x, hx, hu⟩ := List.mem_flatMap.1 hu
 exact dvC_one (h x hx).one u hu
theorem DRow.cells {W : World} {g o : Nat} {l : List DV} (h : DRow W g o l) : ∀ (j : Nat) u, (dvsC l)[j]? = some u → W.cell? ((⟨g, o, none⟩ : Addr).add j) = some u := fun j u hu => by
 rw [Addr.add_mid]
 have hj : j < l.length * 10 := by
  rw [← dvsC_len]
  exact (List.getElem?_eq_some_iff.1 hu).1
 obtain ⟨x, hx⟩ : ∃ x, l[j / 10]? = some x := ⟨_, List.getElem?_eq_getElem (by omega)⟩
 have h1 := dvsC_get l (j / 10) x (j % 10) hx (by omega)
 rw [show j / 10 * 10 + j % 10 = j by omega, hu] at h1
 have h2 := h.at_ (j / 10) x hx (j % 10) u h1.symm
 rw [show o + j / 10 * 10 + j % 10 = o + j by omega] at h2
 exact h2
set_option maxHeartbeats 1000000 in
set_option maxRecDepth 100000 in
theorem indexOf_any (d : Dev) (w : World) : Calls Tryz.prog 62 #[devV d] w (Bel (.tuple #[.int .i64 d.idx, .bool true]) w) := by
 obtain ⟨idx, par, name, orig, sub, drv, ali, kind, num, av⟩ := d
 unfold devV devC
 simp only
 go_enter Tryz.func62, Tryz.ntmps62
 go_wp2
 go_ret2
 exact ⟨rfl, (Below.refl _ w).alloc (Nat.le_refl _) _⟩
theorem info34b : (Tryz.prog.info? 34).map (·.size) = some 10 := by kernel_rfl
end Go.Proofs.YtldcediiobfhiaaGreatDoor.De
