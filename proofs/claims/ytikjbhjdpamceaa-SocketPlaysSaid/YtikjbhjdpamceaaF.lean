/- Slices of events; SameEvents. -/
import Derived.Test.YtikjbhjdpamceaaB
import Derived.Lib.IndexMore
namespace Go.Proofs.Ytikjbhjdpamceaa
open Go.RowKit

/-- The cells from (b, o) on hold these events. -/
def ERow (w : World) (b o : Nat) (l : List Ev) : Prop := ∀ (j : Nat) (x : Ev), l[j]? = some x → w.rangeAt b (o + j * 5) (evC x)
/-- The slice v holds these events. -/
def EHas (w : World) (v : Value) (l : List Ev) : Prop := (∃ a c, v = .slice a 0 c ∧ l = []) ∨ ∃ b o c, v = .slice (some ⟨b, o, none⟩) l.length c ∧ b < w.heap.size ∧ ERow w b o l
theorem erow_of {w : World} {b : Nat} {l : List Ev} {cur : List Value} (h : w.heap[b]? = some (.cells cur.toArray 42 (0, 0))) (hc : cur.take (l.length * 5) = evsC l) : ERow w b 0 l := fun j x hx m v hv => by
  have hj := (List.getElem?_eq_some_iff.1 hx).1
  have hm : m < 5 := (List.getElem?_eq_some_iff.1 hv).1
  rw [cell_of_row _ _ _ _ _ _ h, List.getElem?_toArray, Nat.zero_add]
  have := evsC_get l j x m hx hm
  rw [← hc, List.getElem?_take, if_pos (by omega)] at this
  rw [this, hv]
theorem EHas.block {w : World} {b c : Nat} {l : List Ev} (h : w.heap[b]? = some (.cells (evsC l).toArray 42 (0, 0))) : EHas w (.slice (some ⟨b, 0, none⟩) l.length c) l :=
  .inr ⟨b, 0, c, rfl, block_lt h, erow_of h (List.take_of_length_le (by rw [evsC_len]; exact Nat.le_refl _))⟩
theorem EHas.form {w : World} {v : Value} {l : List Ev} (h : EHas w v l) : ∃ a c, v = .slice a l.length c ∧ (l ≠ [] → ∃ b o, a = some ⟨b, o, none⟩ ∧ b < w.heap.size ∧ ERow w b o l) := by
  rcases h with ⟨a, c, rfl, rfl⟩ | ⟨b, o, c, rfl, hb, hr⟩
  · exact ⟨a, c, rfl, fun h => absurd rfl h⟩
  · exact ⟨some ⟨b, o, none⟩, c, rfl, fun _ => ⟨b, o, rfl, hb, hr⟩⟩
theorem ERow.cells {w : World} {b o : Nat} {l : List Ev} (h : ERow w b o l) {j : Nat} {x : Ev} (hx : l[j]? = some x) :
    w.cell? ⟨b, o + j * 5, none⟩ = some (.int .i64 x.seq) ∧ w.cell? ⟨b, o + j * 5 + 1, none⟩ = some (.int .i64 x.act) ∧ w.cell? ⟨b, o + j * 5 + 2, none⟩ = some (.int .i64 x.idx) ∧ w.cell? ⟨b, o + j * 5 + 3, none⟩ = some (.string x.path) ∧ w.cell? ⟨b, o + j * 5 + 4, none⟩ = some (.string x.old) :=
  ⟨h j x hx 0 _ rfl, h j x hx 1 _ rfl, h j x hx 2 _ rfl, h j x hx 3 _ rfl, h j x hx 4 _ rfl⟩
/-- A row of events of the call's own. -/
def EOwn (w : World) (B : Nat) (v : Value) (l : List Ev) : Prop := w.ownsRow B 42 5 v l.length (evsC l)
theorem EOwn.has {w : World} {B : Nat} {v : Value} {l : List Ev} (h : EOwn w B v l) : EHas w v l := by
  rcases h.2 with ⟨hv, hn⟩ | ⟨g, cap, cur, hv, hB, hh, hc, hcm, hcz, ht⟩
  · exact .inl ⟨none, 0, hv, List.length_eq_zero_iff.1 hn⟩
  · exact .inr ⟨g, 0, cap, hv, block_lt hh, erow_of (cur := cur.toList) (by rw [Array.toArray_toList]; exact hh) ht⟩
theorem EOwn.nil (w : World) (B : Nat) : EOwn w B (.slice none 0 0) [] := World.ownsRow_nil _ _ _ _
theorem EOwn.keep {w w' : World} {B : Nat} {v : Value} {l : List Ev} (h : EOwn w B v l) (hk : ∀ b, b < w.heap.size → v.ownBlock = some b → w'.heap[b]? = w.heap[b]?) : EOwn w' B v l := by
  refine ⟨h.1, ?_⟩
  rcases h.2 with hn | ⟨g, cap, cur, hv, hB, hh, rest⟩
  · exact .inl hn
  · exact .inr ⟨g, cap, cur, hv, hB, (hk g (block_lt hh) (by rw [hv]; rfl)).trans hh, rest⟩
theorem EOwn.kp {w w' : World} {B : Nat} {s : List Nat} {v : Value} {l : List Ev} (h : EOwn w B v l) (hk : Kp s w w') (hs : ∀ b, v.ownBlock = some b → b ∉ s) : EOwn w' B v l := h.keep fun b hb hv => hk.block b hb (hs b hv)

theorem neq_ev (s a i : Int) (p o : ByteArray) (W : World) : (binOp .neq 42 (.agg #[.int .i64 s, .int .i64 a, .int .i64 i, .string p, .string o]) (.agg #[.int .i64 s, .int .i64 a, .int .i64 i, .string p, .string o])).run Try.prog W = .ok (.bool false) W := by
  have hS : Try.prog.underlying 42 = some (.struct (Try.prog.fieldsOf 42)) := by kernel_rfl
  have hp : Try.prog.stoodInHeld 42 = false := by kernel_rfl
  have u3 := Try.underlying3
  have u9 := Try.underlying9
  have a3 := Try.isAgg3
  have a9 := Try.isAgg9
  have z3 := Try.sizeOf3
  have z9 := Try.sizeOf9
  rw [run_neq_struct, show (10000 : Nat) = 9999 + 1 from rfl, run_equalIn_agg W 9999 42 _ _ hS hp]
  simp only [Program.fieldsOf, Try.underlying42]
  go_simp

set_option maxHeartbeats 1000000 in
set_option maxRecDepth 100000 in
/-- SameEvents of equal lists. -/
theorem same_any {w : World} {su sv : Value} {l : List Ev} (hl : l.length ≤ 9223372036854775807) (hu : EHas w su l) (hv : EHas w sv l) : Calls Try.prog 13 #[su, sv] w fun e w' => e = .returned (.bool true) ∧ ∃ n, w' = w.drewN n := by
  obtain ⟨au, cu, rfl, hu2⟩ := hu.form
  obtain ⟨av, cv, rfl, hv2⟩ := hv.form
  by_cases hn : l = []
  · subst hn
    have hz : ¬ ((0 : Int) < (([] : List Ev).length : Int)) := by simp
    have hz0 : ([] : List Ev).length = 0 := rfl
    clear hu hv hu2 hv2
    go_enter Try.func13, Try.ntmps13
    go_wp2
    go_loopw [5] (fun s5 wx => s5 = .int .i64 0 ∧ w = wx) (fun _ _ => 0)
    case atStart => exact ⟨rfl, rfl⟩
    case round =>
      obtain ⟨rfl, rfl⟩ := hrel
      go_wp2
      go_ret
      exact ⟨rfl, 0, rfl⟩
  · obtain ⟨b, o, rfl, hb, hr⟩ := hu2 hn
    obtain ⟨b', o', rfl, hb', hr'⟩ := hv2 hn
    have HW := Lib.hid hr
    have HW' := Lib.hid hr'
    have hm : Try.prog.eqGuardType Try.prog.depth 42 = false := by kernel_rfl
    have HQ := Lib.hid neq_ev
    clear hr hr' hu hv hu2 hv2
    go_enter Try.func13, Try.ntmps13
    go_wp2
    go_loopw [5] (fun s5 wx => ∃ i : Nat, i ≤ l.length ∧ s5 = .int .i64 (i : Int) ∧ ∃ n, wx = w.drewN n) (fun s5 _ => l.length - (intOf s5).toNat)
    case atStart => exact ⟨0, by omega, rfl, 0, rfl⟩
    case round =>
      obtain ⟨i, hi, rfl, n, rfl⟩ := hrel
      by_cases hlt : i < l.length
      · have hiz : (i : Int) < (l.length : Int) := by omega
        obtain ⟨x, hx⟩ : ∃ x, l[i]? = some x := ⟨_, List.getElem?_eq_getElem hlt⟩
        obtain ⟨a0, a1, a2, a3, a4⟩ := HW.out.cells hx
        obtain ⟨d0, d1, d2, d3, d4⟩ := HW'.out.cells hx
        have hwr : IntKind.i64.wrap ((i : Int) + 1) = ((i + 1 : Nat) : Int) := by rw [IntKind.wrap_i64]; omega
        have hqq := fun W => HQ.out x.seq x.act x.idx x.path x.old W
        clear hx
        go_wp2
        go_quiet (fail)
        go_wp2
        exact ⟨⟨i + 1, by omega, rfl, _, rfl⟩, by simp [intOf]; omega⟩
      · have hiz : ¬ ((i : Int) < (l.length : Int)) := by omega
        go_wp2
        go_ret
        exact ⟨rfl, _, rfl⟩
end Go.Proofs.Ytikjbhjdpamceaa
