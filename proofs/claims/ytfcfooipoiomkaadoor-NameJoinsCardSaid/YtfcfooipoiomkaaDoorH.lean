/- appendCleaned: a component is appended, with "_" for each byte that it may not have. -/
import Derived.Test.YtfcfooipoiomkaaDoorG
import Derived.Maps.AppendAt
namespace Go.Proofs.YtfcfooipoiomkaaDoor
open Go.RowKit

theorem info5 : (Tryd.prog.info? 5).map (fun i => (i.zero, i.size, i.bytes)) = some (some (.int .u8 0), 1, 1) := by kernel_rfl

def u8v (b : UInt8) : Value := .int .u8 (b.toNat : Int)
/-- A byte that S has stays; any other one becomes "_". -/
def clean1 (S : List UInt8) (b : UInt8) : UInt8 := if S.contains b then b else 95

/-- v owns the bytes l; whatever lay below B lies as it lay, and whatever is no cells. -/
structure Owns (B : Nat) (v : Value) (l : List UInt8) (w : World) : Prop where
  row : w.ownsRow B 5 1 v l.length (l.map u8v)
  le : B ≤ w.heap.size

theorem grown_below {B : Nat} {w w1 : World} {v : Value} {k : Nat} {xs : List Value} {tmp : Obj} (hrow : w.ownsRow B 5 1 v k xs) (hB : B ≤ w.heap.size) (hg : (w.alloc tmp).grownBy w1 v.ownBlock) : Below B w w1 :=
  ((Below.refl B w).alloc hB tmp).grown hg (by simp; omega) fun j ej => by
    rcases hrow.2 with ⟨rfl, _⟩ | ⟨g, cap, cur, rfl, hb, _, _⟩
    · simp [Value.ownBlock] at ej
    · obtain rfl : g = j := by simpa [Value.ownBlock] using ej
      exact hb
theorem grown_others {B : Nat} {w w1 : World} {v : Value} {k : Nat} {xs : List Value} {tmp : Obj} (hrow : w.ownsRow B 5 1 v k xs) (hg : (w.alloc tmp).grownBy w1 v.ownBlock) : KeepsOthers w w1 :=
  (KeepsOthers.alloc w tmp).trans (KeepsOthers.of_grownBy hg fun j o ej hj => by
    rcases (hrow.alloc tmp).2 with ⟨rfl, _⟩ | ⟨g, cap, cur, rfl, _, hgb, _⟩
    · simp [Value.ownBlock] at ej
    · obtain rfl : g = j := by simpa [Value.ownBlock] using ej
      rw [hgb] at hj; cases hj; rfl)
theorem others_drewN {a w : World} (h : KeepsOthers a w) (n : Nat) : KeepsOthers a (w.drewN n) := ⟨h.size, h.same⟩

def AppPost (B : Nat) (w : World) (l : List UInt8) (e : Ending) (w' : World) : Prop := ∃ v', e = .returned v' ∧ w'.ownsRow B 5 1 v' l.length (l.map u8v) ∧ Below B w w' ∧ KeepsOthers w w'

set_option maxHeartbeats 2000000 in
set_option maxRecDepth 100000 in
theorem appendCleaned_any (B b : Nat) (v : Value) (l : List UInt8) (s : ByteArray) (S : List UInt8) (w : World) (hs : l.length + s.size ≤ 1048576) (hrow : w.ownsRow B 5 1 v l.length (l.map u8v)) (hB : B ≤ w.heap.size) (hb : b < B) (hS : SetAt w b S) :
    Calls Tryd.prog 59 #[v, .string s, .pointer (some ⟨b, 0, none⟩)] w (AppPost B w (l ++ s.data.toList.map (clean1 S))) := by
  obtain ⟨i0, hi, hz0, hz1, hz2⟩ := info_parts info5
  go_enter Tryd.func59, Tryd.ntmps59
  go_wp2
  go_loopw [0, 7, 10] (fun s0 _ s10 wx => ∃ (i : Nat), i ≤ s.size ∧ s10 = .int .i64 i ∧ wx.ownsRow B 5 1 s0 (l.length + i) ((l ++ (s.data.toList.take i).map (clean1 S)).map u8v) ∧ Below B w wx ∧ KeepsOthers w wx) (fun _ _ s10 _ => s.size - (intOf s10).toNat)
  case atStart => exact ⟨0, by omega, rfl, by simpa using hrow, Below.refl _ _, KeepsOthers.refl _⟩
  case round =>
    obtain ⟨i, hi', rfl, hr, hbl, hko⟩ := hrel
    by_cases hlt : i < s.size
    · have hlt' : (i : Int) < (s.size : Int) := by omega
      obtain ⟨x, hx⟩ : ∃ x : UInt8, s[i]'hlt = x := ⟨_, rfl⟩
      have hxl : s.data.toList[i]? = some x := by rw [← hx]; exact Lib.data_getElem? s i hlt
      have hx256 : (x.toNat : Int) < 256 := by have := UInt8.toNat_lt x; omega
      have hcell := (hbl.cell (p := ⟨b, x.toNat, none⟩) hb).trans (hS x)
      have hstep : (l ++ (s.data.toList.take (i + 1)).map (clean1 S)).map u8v = (l ++ (s.data.toList.take i).map (clean1 S)).map u8v ++ [u8v (clean1 S x)] := by
        rw [List.take_add_one, hxl]
        simp [Option.toList]
      have hBw : B ≤ wr.heap.size := Nat.le_trans hB hbl.size
      have Hr := Lib.hid hr
      have Hbl := Lib.hid hbl
      have Hko := Lib.hid hko
      have HS := Lib.hid hS
      have Hrow := Lib.hid hrow
      clear hxl hr hbl hko hS hrow
      have hclean : S.contains x = false → clean1 S x = 95 := fun h => by rw [clean1, if_neg (by rw [h]; exact Bool.false_ne_true)]
      cases hc : S.contains x with
      | true =>
        rw [hc] at hcell
        rw [show clean1 S x = x from by rw [clean1, if_pos hc]] at hstep
        have Hstep := Lib.hid hstep
        clear hc hstep hclean
        go_wp2
        go_quiet (fail)
        obtain ⟨wq, hwq⟩ : ∃ wq, wr.drewN nq = wq := ⟨_, rfl⟩
        have hrq : wq.ownsRow B 5 1 u0 (l.length + i) ((l ++ (s.data.toList.take i).map (clean1 S)).map u8v) := by rw [← hwq]; exact Hr.out
        have hblq : Below B w wq := by rw [← hwq]; exact drewN_below Hbl.out nq
        have hkoq : KeepsOthers w wq := by rw [← hwq]; exact others_drewN Hko.out nq
        have hBq : B ≤ wq.heap.size := Nat.le_trans hB hblq.size
        rw [hwq]
        have Hrq := Lib.hid hrq
        have Hblq := Lib.hid hblq
        have Hkoq := Lib.hid hkoq
        clear hwq hrq hblq hkoq Hr Hbl Hko
        go_wp2_with (at_builtin; refine wpList_append_own _ rfl _ _ 59 rfl B 5 i0 _ 1 1 Tryd.underlying59 hi hz0 hz1 hz2 rfl (by decide) _ _ _ rfl (Hrq.out.alloc _) ⟨wq.heap.size, 0, none⟩ 1 1 [u8v x] rfl rfl (cell_one_new _ _ _) (by simp [u8v, Value.oneCell']) (by unfold maxLen; omega) (by omega) (by simp; omega) ?_; intro v' w1 hown' hgrow _; have Hown := Lib.hid hown'; have Hgrow := Lib.hid hgrow; clear hown' hgrow)
        go_roundw
        case rel => exact ⟨i + 1, by omega, by go_num, by rw [Hstep.out, ← Nat.add_assoc]; exact Hown.out, Hblq.out.trans (grown_below Hrq.out hBq Hgrow.out), Hkoq.out.trans (grown_others Hrq.out Hgrow.out)⟩
        case measure => simp [intOf]; omega
      | false =>
        rw [hc] at hcell
        rw [hclean hc] at hstep
        have Hstep := Lib.hid hstep
        clear hc hstep hclean
        go_wp2
        go_quiet (fail)
        obtain ⟨wq, hwq⟩ : ∃ wq, wr.drewN nq = wq := ⟨_, rfl⟩
        have hrq : wq.ownsRow B 5 1 u0 (l.length + i) ((l ++ (s.data.toList.take i).map (clean1 S)).map u8v) := by rw [← hwq]; exact Hr.out
        have hblq : Below B w wq := by rw [← hwq]; exact drewN_below Hbl.out nq
        have hkoq : KeepsOthers w wq := by rw [← hwq]; exact others_drewN Hko.out nq
        have hBq : B ≤ wq.heap.size := Nat.le_trans hB hblq.size
        rw [hwq]
        have Hrq := Lib.hid hrq
        have Hblq := Lib.hid hblq
        have Hkoq := Lib.hid hkoq
        clear hwq hrq hblq hkoq Hr Hbl Hko
        go_wp2_with (at_builtin; refine wpList_append_own _ rfl _ _ 59 rfl B 5 i0 _ 1 1 Tryd.underlying59 hi hz0 hz1 hz2 rfl (by decide) _ _ _ rfl (Hrq.out.alloc _) ⟨wq.heap.size, 0, none⟩ 1 1 [u8v 95] rfl rfl (cell_one_new _ _ _) (by simp [u8v, Value.oneCell']) (by unfold maxLen; omega) (by omega) (by simp; omega) ?_; intro v' w1 hown' hgrow _; have Hown := Lib.hid hown'; have Hgrow := Lib.hid hgrow; clear hown' hgrow)
        go_roundw
        case rel => exact ⟨i + 1, by omega, by go_num, by rw [Hstep.out, ← Nat.add_assoc]; exact Hown.out, Hblq.out.trans (grown_below Hrq.out hBq Hgrow.out), Hkoq.out.trans (grown_others Hrq.out Hgrow.out)⟩
        case measure => simp [intOf]; omega
    · have h : s.data.toList.take i = s.data.toList := List.take_of_length_le (by rw [← Lib.size_eq]; omega)
      rw [h] at hr
      have hl : (l ++ s.data.toList.map (clean1 S)).length = l.length + i := by rw [List.length_append, List.length_map, ← Lib.size_eq]; omega
      have Hr := Lib.hid hr
      have Hl := Lib.hid hl
      have Hbl := Lib.hid hbl
      have Hko := Lib.hid hko
      clear hr hbl hko hl h hrow hS
      go_wp2
      go_ret
      exact ⟨_, rfl, by rw [Hl.out]; exact Hr.out, Hbl.out, Hko.out⟩
end Go.Proofs.YtfcfooipoiomkaaDoor
