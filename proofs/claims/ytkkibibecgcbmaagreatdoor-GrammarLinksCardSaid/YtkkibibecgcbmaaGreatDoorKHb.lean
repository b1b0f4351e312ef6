/- Faults in memory; SameFaults of equal lists. -/
import Derived.Test.YtkkibibecgcbmaaGreatDoorKHa
namespace Go.Proofs.YtkkibibecgcbmaaGreatDoor
open Go.RowKit

structure FV where
  file : List UInt8
  line : Int
  errno : Int
def flC (x : FV) : Array Value := #[.string (bs x.file), .int .i64 x.line, .int .i64 x.errno]
set_option maxRecDepth 100000 in
noncomputable def flT : RT FV where
  sz := 3
  ty := 87
  sl := 51
  bt := 32
  z := .agg #[.string ⟨#[]⟩, .int .i64 0, .int .i64 0]
  cf := fun x => (flC x).toList
  pos := by decide
  len := fun _ => rfl
  one := fun x v hv => by
    simp only [flC, List.mem_cons, List.not_mem_nil, or_false] at hv
    rcases hv with rfl | rfl | rfl <;> rfl
  und := Tryz.underlying51
  info := by kernel_rfl
  zs := rfl
  btl := by decide
theorem flRow {w : World} {b o : Nat} {l : List FV} (h : flT.Row w b o l) {j : Nat} {x : FV} (hx : l[j]? = some x) :
    w.cell? ⟨b, o + j * 3, none⟩ = some (.string (bs x.file)) ∧ w.cell? ⟨b, o + j * 3 + 1, none⟩ = some (.int .i64 x.line) ∧ w.cell? ⟨b, o + j * 3 + 2, none⟩ = some (.int .i64 x.errno) :=
  ⟨h j x hx 0 _ rfl, h j x hx 1 _ rfl, h j x hx 2 _ rfl⟩
theorem neq_fl (k o : Int) (n : ByteArray) (W : World) : (binOp .neq 87 (.agg #[.string n, .int .i64 k, .int .i64 o]) (.agg #[.string n, .int .i64 k, .int .i64 o])).run Tryz.prog W = .ok (.bool false) W := by
  have hS : Tryz.prog.underlying 87 = some (.struct (Tryz.prog.fieldsOf 87)) := by kernel_rfl
  have hp : Tryz.prog.stoodInHeld 87 = false := by kernel_rfl
  have u3 := Tryz.underlying3
  have u9 := Tryz.underlying9
  have u32 := Tryz.underlying32
  have a3 := Tryz.isAgg3
  have a9 := Tryz.isAgg9
  have a32 := Tryz.isAgg32
  have z3 := Tryz.sizeOf3
  have z9 := Tryz.sizeOf9
  have z32 := Tryz.sizeOf32
  rw [run_neq_struct, show (10000 : Nat) = 9999 + 1 from rfl, run_equalIn_agg W 9999 87 _ _ hS hp]
  simp only [Program.fieldsOf, Tryz.underlying87]
  go_simp
theorem fl_push {W W7 : World} {Nb B : Nat} {x : FV} {v : Value} {xs : List FV} (ho : flT.Own W B v xs) (hN : W.heap.size = Nb) (hW : W.alloc (.cells (flC x) 87) = W7) : Kp [] W W7 ∧ flT.Own W7 B v xs ∧ W7.rangeAt Nb 0 (flT.cf x) := by
  have hk1 : Kp [] W W7 := by rw [← hW]; exact (Kp.refl [] _).alloc _
  refine ⟨hk1, ho.kp0 hk1, fun j u hu => ?_⟩
  have h := heap_alloc_last W (.cells (flC x) 87)
  rw [hW, hN] at h
  rw [Nat.zero_add, cell_of_row _ _ _ _ _ _ h]
  have : (flC x).toList[j]? = some u := hu
  simpa using this
set_option maxHeartbeats 2000000 in
set_option maxRecDepth 100000 in
/-- Equal lists are found equal. -/
theorem sameFaults_any {w : World} {su sv : Value} {l : List FV} (hl : l.length ≤ 1000000) (hu : flT.Has w su l) (hv : flT.Has w sv l) : Calls Tryz.prog 27 #[su, sv] w fun e w' => e = .returned (.bool true) ∧ Kp [] w w' := by
  obtain ⟨au, cu, rfl, hu2⟩ := hu.form
  obtain ⟨av, cv, rfl, hv2⟩ := hv.form
  by_cases hn : l = []
  · subst hn
    have hz : ¬ ((0 : Int) < (([] : List FV).length : Int)) := by simp
    have hz0 : ([] : List FV).length = 0 := rfl
    clear hu hv hu2 hv2
    go_enter Tryz.func27, Tryz.ntmps27
    go_wp2
    go_loopw [5] (fun s5 wx => s5 = .int .i64 0 ∧ w = wx) (fun _ _ => 0)
    case atStart => exact ⟨rfl, rfl⟩
    case round =>
      obtain ⟨rfl, rfl⟩ := hrel
      go_wp2
      go_ret
      exact ⟨rfl, Kp.refl _ _⟩
  · obtain ⟨b, o, rfl, hb, hr⟩ := hu2 hn
    obtain ⟨b', o', rfl, hb', hr'⟩ := hv2 hn
    have HW := Lib.hid hr
    have HW' := Lib.hid hr'
    have hm : Tryz.prog.eqGuardType Tryz.prog.depth 87 = false := by kernel_rfl
    have HQ := Lib.hid neq_fl
    clear hr hr' hu hv hu2 hv2
    go_enter Tryz.func27, Tryz.ntmps27
    go_wp2
    go_loopw [5] (fun s5 wx => ∃ i : Nat, i ≤ l.length ∧ s5 = .int .i64 (i : Int) ∧ ∃ n, wx = w.drewN n) (fun s5 _ => l.length - (intOf s5).toNat)
    case atStart => exact ⟨0, by omega, rfl, 0, rfl⟩
    case round =>
      obtain ⟨i, hi, rfl, n, rfl⟩ := hrel
      by_cases hlt : i < l.length
      · have hiz : (i : Int) < (l.length : Int) := by omega
        obtain ⟨x, hx⟩ : ∃ x, l[i]? = some x := ⟨_, List.getElem?_eq_getElem hlt⟩
        obtain ⟨a0, a1, a2⟩ := flRow HW.out hx
        obtain ⟨d0, d1, d2⟩ := flRow HW'.out hx
        have hwr : IntKind.i64.wrap ((i : Int) + 1) = ((i + 1 : Nat) : Int) := by rw [IntKind.wrap_i64]; omega
        have hqq := fun W => HQ.out x.line x.errno (bs x.file) W
        clear hx
        go_wp2
        go_quiet (fail)
        go_wp2
        exact ⟨⟨i + 1, by omega, rfl, _, rfl⟩, by simp [intOf]; omega⟩
      · have hiz : ¬ ((i : Int) < (l.length : Int)) := by omega
        go_wp2
        go_ret
        exact ⟨rfl, (Kp.refl [] w).drew _⟩
end Go.Proofs.YtkkibibecgcbmaaGreatDoor
