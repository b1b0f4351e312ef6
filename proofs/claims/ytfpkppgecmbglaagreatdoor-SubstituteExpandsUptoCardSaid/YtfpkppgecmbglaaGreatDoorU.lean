/- What pieces stand for; the table of expanders. -/
import Derived.Test.YtfpkppgecmbglaaGreatDoorS
import Derived.Lib.AppendStr
namespace Go.Proofs.YtfpkppgecmbglaaGreatDoor
open Go.RowKit

def pieceL (v : Vs) (p : Pc) : List UInt8 :=
  match p.kind with
  | 1 => p.text
  | 2 => v.kernel
  | 3 => numT v.kernel
  | 4 => v.devpath
  | 5 => v.id
  | 6 => v.driver
  | 7 => ((getL p.text v.attrs).or (getL p.text v.above)).getD []
  | 8 => (getL p.text v.env).getD []
  | 9 => resultL v.result p.word p.more
  | 10 => v.parent
  | _ => v.name
def expandL (v : Vs) (l : List Pc) : List UInt8 := (l.flatMap (pieceL v)).take 256
/-- What Expand answers: the text, or the error. -/
def expandE (s : List UInt8) (v : Vs) : List UInt8 × Int := if (parseE s).2 = 0 then (expandL v (parseE s).1, 0) else ([], (parseE s).2)
theorem exp84_zero (k : Int) (t : List UInt8) (m : Bool) (v : Vs) (a b c : Value) (w : World) : Calls Tryz.prog 84 #[.agg (gpC ⟨k, t, 0, m⟩), .agg (vsC v a b c)] w fun e w' => e = .returned (.string (bs v.result)) ∧ Kp [] w w' := by
  have hk := ((Kp.refl [] w).alloc (.cells (gpC ⟨k, t, 0, m⟩) 61)).alloc (.cells (vsC v a b c) 43)
  unfold gpC vsC at hk ⊢
  have HK := Lib.hid hk
  clear hk
  go_enter Tryz.func84, Tryz.ntmps84
  go_wp2
  go_ret
  exact ⟨rfl, HK.out⟩
theorem exp84_any (p : Pc) (v : Vs) (a b c : Value) (w : World) (h2 : p.word ≤ 99) (hr : v.result.length ≤ 4000000000) : Calls Tryz.prog 84 #[.agg (gpC p.g), .agg (vsC v a b c)] w fun e w' => ∃ x, e = .returned (.string (bs x)) ∧ x.take 256 = (resultL v.result p.word p.more).take 256 ∧ Kp [] w w' := by
  obtain ⟨k, t, n, m⟩ := p
  by_cases h0 : n = 0
  · subst h0
    exact (exp84_zero _ _ _ _ _ _ _ _).mono fun _ _ ⟨h1, h2⟩ => ⟨_, h1, by simp [resultL], h2⟩
  · exact exp84_word _ _ _ _ _ _ _ _ _ (by simp only; omega) h2 hr
/-- The function of a kind. -/
def fnK : Nat → Nat
  | 1 => 75 | 2 => 76 | 3 => 77 | 4 => 79 | 5 => 80 | 6 => 81 | 7 => 82 | 8 => 83 | 9 => 84 | 10 => 85 | _ => 86
theorem exp_any {p : Pc} {v : Vs} {a b c : Value} {w : World} (hk : 1 ≤ p.kind ∧ p.kind ≤ 11 ∧ p.word ≤ 99) (hv : VsIn w v a b c ∨ p.kind = 1) :
    Calls Tryz.prog (fnK p.kind) #[.agg (gpC p.g), .agg (vsC v a b c)] w fun e w' => ∃ x, e = .returned (.string (bs x)) ∧ x.take 256 = (pieceL v p).take 256 ∧ Kp [] w w' := by
  have one : ∀ {f : Nat} {y : List UInt8}, Calls Tryz.prog f #[.agg (gpC p.g), .agg (vsC v a b c)] w (fun e w' => e = .returned (.string (bs y)) ∧ Kp [] w w') → y = pieceL v p → Calls Tryz.prog f #[.agg (gpC p.g), .agg (vsC v a b c)] w fun e w' => ∃ x, e = .returned (.string (bs x)) ∧ x.take 256 = (pieceL v p).take 256 ∧ Kp [] w w' := fun h e => h.mono fun _ _ ⟨h1, h2⟩ => ⟨_, h1, by rw [e], h2⟩
  have hk0 := hk
  obtain ⟨k1, k2, k3⟩ := hk
  have hc : p.kind = 1 ∨ p.kind = 2 ∨ p.kind = 3 ∨ p.kind = 4 ∨ p.kind = 5 ∨ p.kind = 6 ∨ p.kind = 7 ∨ p.kind = 8 ∨ p.kind = 9 ∨ p.kind = 10 ∨ p.kind = 11 := by omega
  have vin : p.kind ≠ 1 → VsIn w v a b c := fun h => by rcases hv with h1 | h1; exact h1; exact absurd h1 h
  rcases hc with h | h | h | h | h | h | h | h | h | h | h
  · rw [h]; exact one (exp75_any _ _ _ _ _ _) (by unfold pieceL; rw [h]; rfl)
  · rw [h]; exact one (exp76_any _ _ _ _ _ _) (by unfold pieceL; rw [h]; rfl)
  · rw [h]; exact one (exp77_any _ _ _ _ _ _ (vin (by omega)).lk) (by unfold pieceL; rw [h]; rfl)
  · rw [h]; exact one (exp79_any _ _ _ _ _ _) (by unfold pieceL; rw [h]; rfl)
  · rw [h]; exact one (exp80_any _ _ _ _ _ _) (by unfold pieceL; rw [h]; rfl)
  · rw [h]; exact one (exp81_any _ _ _ _ _ _) (by unfold pieceL; rw [h]; rfl)
  · rw [h]; exact one (exp82_any _ _ _ _ _ _ (vin (by omega))) (by unfold pieceL; rw [h]; rfl)
  · rw [h]; exact one (exp83_any _ _ _ _ _ _ (vin (by omega))) (by unfold pieceL; rw [h]; rfl)
  · rw [h]
    have := exp84_any p v a b c w k3 (vin (by omega)).lr
    have e : pieceL v p = resultL v.result p.word p.more := by unfold pieceL; rw [h]; rfl
    rw [e]
    exact this
  · rw [h]; exact one (exp85_any _ _ _ _ _ _) (by unfold pieceL; rw [h]; rfl)
  · rw [h]; exact one (exp86_any _ _ _ _ _ _) (by unfold pieceL; rw [h]; rfl)
def exA : Array Value := #[.nilFunc, .func (.func 75) #[] #[], .func (.func 76) #[] #[], .func (.func 77) #[] #[], .func (.func 79) #[] #[], .func (.func 80) #[] #[], .func (.func 81) #[] #[], .func (.func 82) #[] #[], .func (.func 83) #[] #[], .func (.func 84) #[] #[], .func (.func 85) #[] #[], .func (.func 86) #[] #[]]
theorem ex_hi : (Tryz.prog.info? 76).map (·.size) = some exA.size := by kernel_rfl
theorem ex_one : exA.all (fun v => v.oneCell') = true := by kernel_rfl
set_option maxRecDepth 100000 in
set_option maxHeartbeats 1000000 in
theorem expanders_any (w : World) : Calls Tryz.prog 47 #[] w fun e w' => e = .returned (.agg exA) ∧ w' = w.alloc (.cells exA 76) := by
  have HI := Lib.hid ex_hi
  have HO := Lib.hid ex_one
  go_enter Tryz.func47, Tryz.ntmps47
  go_wp2_with (refine Nm.wpList_store_new w 76 _ exA rfl _ _ rfl ?_ ?_ ?_ ?_ ?_ ?_; (case refine_1 => simp [Act.eval]); (case refine_2 => simp [Act.eval, exA]); (case refine_3 => exact HI.out); (case refine_4 => simp [exA]); (case refine_5 => exact HO.out))
  exact bodyPost_ret (v := .agg exA) (results_cell_row rfl _ _ w.heap.size 76 _ _ _ rfl (heap_alloc_last w _) Tryz.underlying76 rfl HI.out) rfl ⟨rfl, rfl⟩
theorem info5 : (Tryz.prog.info? 5).map (fun i => (i.zero, i.size, i.bytes)) = some (some (.int .u8 0), 1, 1) := by kernel_rfl
theorem flat_map (f : UInt8 → Value) : ∀ t : List UInt8, t.flatMap (fun b => [f b]) = t.map f
  | [] => rfl
  | b :: t => by rw [List.flatMap_cons, flat_map f t]; rfl
/-- A text is appended to an own row of bytes. -/
theorem wpList_append_by {ops : Array Oper} {rest : List Oper} {o : Oper} {a : Act} {w : World} {Q : Exit → Act → World → Prop} (hgd : o.guard = none) (sl x : Operand)
    (ho : o.op = .call { callee := .builtin .append, args := #[sl, x], argTypes := #[70, 9] }) (B : Nat) (v : Value) (l t : List UInt8) (hs : a.eval sl = v) (hown : byT.Own w B v l) (hx : a.eval x = .string (bs t)) (hl : l.length + t.length ≤ 1000000000) (hB : B ≤ w.heap.size)
    (hK : ∀ q cp w', byT.Own w' B (.slice q (l.length + t.length) cp) (l ++ t) → w.grownBy w' v.ownBlock → wpList Tryz.prog ops Q rest (a.put o.dst (.slice q (l.length + t.length) cp)) w') : wpList Tryz.prog ops Q (o :: rest) a w := by
  obtain ⟨i0, hi, hz0, hz1, hz2⟩ := info_parts info5
  refine Lib.wpList_append_own_string w hgd sl x 70 9 ho B 5 i0 Tryz.underlying70 Tryz.underlying9 hi hz0 hz1 hz2 v l.length (byT.cells l) hs hown (bs t) hx (by rw [bs_size]; unfold maxLen; omega) (by rw [bs_size]; omega) hB fun v' w' h1 h2 _ => ?_
  have h5 : byT.Own w' B v' (l ++ t) := by
    unfold RT.Own
    rw [RT.cells_append, List.length_append]
    have e : byT.cells t = Lib.strCells (bs t) := flat_map _ t
    rw [e]
    exact h1
  obtain ⟨q, cp, hv⟩ := h5.form
  rw [List.length_append] at hv
  subst hv
  exact hK q cp w' h5 h2
end Go.Proofs.YtfpkppgecmbglaaGreatDoor
