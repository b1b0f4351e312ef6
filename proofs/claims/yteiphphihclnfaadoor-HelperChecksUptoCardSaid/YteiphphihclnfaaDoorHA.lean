/- Helpers in memory; what a command answers; the first helper that matches; helper.run and helper.Call. -/
import Derived.Test.YteiphphihclnfaaDoorGlM
import Derived.Test.YteiphphihclnfaaDoorGr
import Derived.Defers
import Derived.Laws.Pointers
namespace Go.Proofs.YteiphphihclnfaaDoor
open Go.RowKit
theorem toL (s : List UInt8) : (bs s).toList = s := by rw [Lib.toList_data, bs_data]
/-- A helper: its pattern, its output, whether it fails, its ticks. -/
structure Hp where
  cmd : List UInt8
  out : List UInt8
  fails : Bool
  ticks : Int
def hpC (x : Hp) : Array Value := #[.string (bs x.cmd), .string (bs x.out), .bool x.fails, .int .i64 x.ticks]
set_option maxRecDepth 100000 in
noncomputable def hpT : RT Hp where
  sz := 4
  ty := 33
  sl := 22
  bt := 48
  z := .agg #[.string ⟨#[]⟩, .string ⟨#[]⟩, .bool false, .int .i64 0]
  cf := fun x => (hpC x).toList
  pos := by decide
  len := fun _ => rfl
  one := fun x v hv => by
    simp only [hpC, List.mem_cons, List.not_mem_nil, or_false] at hv
    rcases hv with rfl | rfl | rfl | rfl <;> rfl
  und := Tryd.underlying22
  info := by kernel_rfl
  zs := rfl
  btl := by decide
theorem hpRow {w : World} {b o : Nat} {l : List Hp} (h : hpT.Row w b o l) {j : Nat} {x : Hp} (hx : l[j]? = some x) :
    w.cell? ⟨b, o + j * 4, none⟩ = some (.string (bs x.cmd)) ∧ w.cell? ⟨b, o + j * 4 + 1, none⟩ = some (.string (bs x.out)) ∧ w.cell? ⟨b, o + j * 4 + 2, none⟩ = some (.bool x.fails) ∧ w.cell? ⟨b, o + j * 4 + 3, none⟩ = some (.int .i64 x.ticks) :=
  ⟨h j x hx 0 _ rfl, h j x hx 1 _ rfl, h j x hx 2 _ rfl, h j x hx 3 _ rfl⟩
/-- Texts of moderate size. -/
def SmH (x : Hp) : Prop := x.cmd.length ≤ 4611686018427387904 ∧ x.out.length ≤ 4611686018427387904
/-- Whether a helper's pattern matches the command. -/
def hitB (c : List UInt8) (x : Hp) : Bool := Gl.patB x.cmd c
/-- The first helper that matches. -/
def firstH (c : List UInt8) (l : List Hp) : Option Hp := l.find? (hitB c)
/-- What a command answers. -/
def callL (l : List Hp) (limit calls : Int) (c : List UInt8) : List UInt8 × Int × Int :=
  if 16 ≤ calls then ([], 0, 144) else
  match firstH c l with
  | none => ([], 0, 143)
  | some x => if limit < x.ticks then ([], limit, 142) else if x.fails then ([], x.ticks, 141) else (x.out, x.ticks, 0)
theorem glob_any {p s : List UInt8} (hp : p.length ≤ 4611686018427387904) (hs : s.length ≤ 4611686018427387904) (w : World) : Calls Tryd.prog 21 #[.string (bs p), .string (bs s)] w fun e w' => e = .returned (.bool (Gl.patB p s)) ∧ Kp [] w w' :=
  (Gl.match_any (bs p) (bs s) w hp hs).mono fun _ _ ⟨h1, h2⟩ => ⟨h1, Kp.of_below h2⟩
set_option maxRecDepth 100000 in
set_option maxHeartbeats 4000000 in
theorem pred46 {x : Hp} {c : List UInt8} {S : Nat} {W : World} (hS : W.cell? ⟨S, 0, none⟩ = some (.string (bs c))) (hx : SmH x) (hc : c.length ≤ 4611686018427387904) : Calls Tryd.prog 46 #[.agg #[.string (bs x.cmd), .string (bs x.out), .bool x.fails, .int .i64 x.ticks], .pointer (some ⟨S, 0, none⟩)] W fun e W' => e = .returned (.bool (hitB c x)) ∧ Kp [] W W' := by
  have hlt : S < W.heap.size := by
    simp only [World.cell?] at hS
    cases h : W.heap[S]? with
    | none => simp [h] at hS
    | some o => exact block_lt h
  obtain ⟨W1, hW1⟩ : ∃ W1, W.alloc (.cells #[.string (bs x.cmd), .string (bs x.out), .bool x.fails, .int .i64 x.ticks] 33) = W1 := ⟨_, rfl⟩
  obtain ⟨B, hB⟩ : ∃ B, W.heap.size = B := ⟨_, rfl⟩
  have hk : Kp [] W W1 := by rw [← hW1]; exact (Kp.refl [] W).alloc _
  have hb : W1.heap[B]? = some (.cells #[.string (bs x.cmd), .string (bs x.out), .bool x.fails, .int .i64 x.ticks] 33) := by rw [← hW1, ← hB]; exact heap_alloc_last W _
  have c0 : W1.cell? ⟨B, 0, none⟩ = some (.string (bs x.cmd)) := by rw [cell_of_row _ _ _ _ _ _ hb]; rfl
  have cS : W1.cell? ⟨S, 0, none⟩ = some (.string (bs c)) := by
    have := hk.block S hlt (by simp)
    simp only [World.cell?, this] at hS ⊢
    exact hS
  have HM := Lib.hid (glob_any hx.1 hc W1)
  have HK := Lib.hid hk
  clear hk hb hS hlt hx hc
  go_enter Tryd.func46, Tryd.ntmps46
  go_wp2_with (go_at_call 21; refine Calls.mono (by with_reducible exact HM.out) ?_; rintro e w2 ⟨rfl, hk2⟩; have HK2 := Lib.hid (HK.out.trans hk2); clear hk2)
  go_ret
  exact ⟨rfl, HK2.out⟩
set_option maxRecDepth 100000 in
set_option maxHeartbeats 4000000 in
theorem idx45 {l : List Hp} (hl : l.length ≤ 1000000) (hs : ∀ x ∈ l, SmH x) {c : List UInt8} (hc : c.length ≤ 4611686018427387904) {v : Value} {S : Nat} {w : World} (hh : hpT.Has w v l) (hS : w.cell? ⟨S, 0, none⟩ = some (.string (bs c))) :
    Calls Tryd.prog 45 #[v, .func (.func 46) #[] #[.pointer (some ⟨S, 0, none⟩)]] w fun e w' => ∃ r : Int, e = .returned (.int .i64 r) ∧ ((r = -1 ∧ firstH c l = none) ∨ ∃ (i : Nat) (x : Hp), r = i ∧ l[i]? = some x ∧ firstH c l = some x) ∧ Kp [] w w' := by
  have hlt : S < w.heap.size := by
    simp only [World.cell?] at hS
    cases h : w.heap[S]? with
    | none => simp [h] at hS
    | some o => exact block_lt h
  obtain ⟨va, vc, rfl, hrow⟩ := hh.form
  have HROW := Lib.hid hrow
  have HM := Lib.hid fun W (h : Kp [] w W) => show W.cell? ⟨S, 0, none⟩ = some (.string (bs c)) by
    have := h.block S hlt (by simp)
    simp only [World.cell?, this] at hS ⊢
    exact hS
  have HSM := Lib.hid hs
  clear hrow hh hS hs hlt
  go_enter Tryd.func45, Tryd.ntmps45
  go_wp2
  go_loopg [5, 8] l.length (fun g s5 s8 wx => ∃ i : Nat, s8 = .int .i64 (i : Int) ∧ firstH c (l.take i) = none ∧ i + g = l.length ∧ Kp [] w wx)
  case atStart => exact ⟨0, rfl, rfl, by omega, Kp.refl _ _⟩
  case round =>
    obtain ⟨i, rfl, hno, hig, hkp⟩ := hrel
    have HK := Lib.hid hkp
    have HNO := Lib.hid hno
    by_cases hi : i < l.length
    · obtain ⟨g, rfl⟩ : ∃ g, gk = g + 1 := ⟨gk - 1, by omega⟩
      obtain ⟨b, o, rfl, hbl, hr⟩ := HROW.out (by rintro rfl; simp at hi)
      obtain ⟨x, hx⟩ : ∃ x, l[i]? = some x := ⟨_, List.getElem?_eq_getElem hi⟩
      have hiz : (i : Int) < (l.length : Int) := by omega
      obtain ⟨c0, c1, c2, c3⟩ := hpRow (hr.keep (hkp.block b hbl (by simp))) hx
      have hwi : IntKind.i64.wrap ((i : Int) + 1) = ((i + 1 : Nat) : Int) := by rw [IntKind.wrap_i64]; omega
      have HI := Lib.hid hig
      have HX := Lib.hid hx
      have HP := Lib.hid (pred46 (x := x) (HM.out _ hkp) (HSM.out x (List.mem_of_getElem? hx)) hc)
      have HT := Lib.hid (show firstH c (l.take (i + 1)) = if hitB c x then some x else none by unfold firstH at hno ⊢; rw [List.take_add_one, hx, List.find?_append, hno]; simp [List.find?_cons]; split <;> simp_all)
      have HA := Lib.hid (show hitB c x = true → firstH c l = some x from fun h => by
        unfold firstH at hno ⊢
        rw [← List.take_append_drop i l, List.find?_append, hno, List.drop_eq_getElem_cons hi]
        have : l[i] = x := by rw [List.getElem?_eq_getElem hi] at hx; exact Option.some.inj hx
        rw [this, List.find?_cons, h]; rfl)
      obtain ⟨p, hp⟩ : ∃ p, hitB c x = p := ⟨_, rfl⟩
      rw [hp] at HP HT HA
      clear hkp hr hx hig hbl hno hp
      cases p with
      | true =>
        go_wp2_with (go_at_call 46; refine Calls.mono (by with_reducible exact HP.out) ?_; rintro e w1 ⟨rfl, hk1⟩; have HK1 := Lib.hid (HK.out.trans hk1); clear hk1)
        go_ret
        exact ⟨_, rfl, .inr ⟨i, x, rfl, HX.out, HA.out trivial⟩, HK1.out⟩
      | false =>
        go_wp2_with (go_at_call 46; refine Calls.mono (by with_reducible exact HP.out) ?_; rintro e w1 ⟨rfl, hk1⟩; have HK1 := Lib.hid (HK.out.trans hk1); clear hk1)
        go_roundg g
        case measure => omega
        case rel => exact ⟨i + 1, rfl, HT.out, by have := HI.out; omega, HK1.out⟩
    · have hiz : ¬ ((i : Int) < (l.length : Int)) := by omega
      have hie : l.take i = l := List.take_of_length_le (by omega)
      rw [hie] at hno HNO
      clear hkp hig hi hie hno
      go_wp2
      go_ret
      exact ⟨_, rfl, .inl ⟨rfl, HNO.out⟩, HK.out⟩
end Go.Proofs.YteiphphihclnfaaDoor
