/- NameCleans: the law's walk. -/
import Derived.Test.YtfcfooipoiomkaaDoorK
import Derived.Test.YtfcfooipoiomkaaDoorZ
namespace Go.Proofs.YtfcfooipoiomkaaDoor
open Go.RowKit

theorem cleanB_len (l : List UInt8) : (cleanB l).1.length ≤ 256 := by
  rw [← refClean_eq]
  unfold refCleanB
  split
  · simp
  · split
    · simp
    · rename_i h
      simp only [not_or] at h
      show (joinP 47 _).length ≤ 256
      omega

set_option maxHeartbeats 1000000 in
set_option maxRecDepth 100000 in
theorem nameCleans_walk (s : ByteArray) (w : World) (m : Int) (hm : w.cell? ⟨0, 0, none⟩ = some (.int .i64 m)) : Calls Tryd.prog 9 #[.string s] w (Bel (.bool true) w) := by
  have Hk := Lib.hid known_any
  by_cases h1 : s.size ≤ 600
  · have h1' : (s.size : Int) ≤ 600 := by omega
    have hc := clean_any s w (by omega)
    have hr := fun W hW => refClean_any s m W h1 hW
    rw [refClean_eq] at hr
    have hl := cleanB_len s.data.toList
    generalize cleanB s.data.toList = r at *
    obtain ⟨rt, rk⟩ := r
    have hts : (⟨rt.toArray⟩ : ByteArray).size ≤ 256 := hl
    simp only at hc hr
    generalize (⟨rt.toArray⟩ : ByteArray) = t at *
    have Hc := Lib.hid hc
    have Hr := Lib.hid hr
    have Hm := Lib.hid hm
    clear hc hr hm hl
    go_enter Tryd.func9, Tryd.ntmps9
    go_wp2_with fail
    refine Hc.out.mono ?_
    rintro e W1 ⟨rfl, hb1⟩
    go_wp2_with fail
    refine (Hr.out _ (max_below Hm.out hb1 (Nat.le_refl _))).mono ?_
    rintro e W2 ⟨rfl, hb2⟩
    go_wp2_with fail
    refine (Hk.out _).mono ?_
    rintro e W3 ⟨rfl, hb3⟩
    go_wp2
    go_ret
    exact ⟨rfl, belT (belT hb1 hb2) hb3⟩
  · have h1' : ¬ (s.size : Int) ≤ 600 := by omega
    go_enter Tryd.func9, Tryd.ntmps9
    go_wp2_with fail
    refine (Hk.out _).mono ?_
    rintro e w6 ⟨rfl, hbl⟩
    go_wp2
    go_ret
    exact ⟨rfl, hbl⟩
end Go.Proofs.YtfcfooipoiomkaaDoor
