/- SubstituteForms. -/
import Derived.Test.YtfpkppgecmbglaaGreatDoorY
import Derived.Deep.RegionHeld3
namespace Go.Proofs.YtfpkppgecmbglaaGreatDoor
open Go.RowKit

def longL : List (List UInt8) := [[36, 107, 101, 114, 110, 101, 108], [36, 110, 117, 109, 98, 101, 114], [36, 100, 101, 118, 112, 97, 116, 104], [36, 105, 100], [36, 100, 114, 105, 118, 101, 114], [36, 97, 116, 116, 114, 123, 115, 105, 122, 101, 125], [36, 97, 116, 116, 114, 123, 118, 101, 110, 100, 111, 114, 125], [36, 101, 110, 118, 123, 73, 68, 125], [36, 114, 101, 115, 117, 108, 116], [36, 114, 101, 115, 117, 108, 116, 123, 50, 125], [36, 114, 101, 115, 117, 108, 116, 123, 49, 43, 125], [36, 112, 97, 114, 101, 110, 116]]
def shortL : List (List UInt8) := [[37, 107], [37, 110], [37, 112], [37, 98], [37, 100], [37, 115, 123, 115, 105, 122, 101, 125], [37, 115, 123, 118, 101, 110, 100, 111, 114, 125], [37, 69, 123, 73, 68, 125], [37, 99], [37, 99, 123, 50, 125], [37, 99, 123, 49, 43, 125], [37, 80]]
def formP : List Pc := [⟨2, [], 0, false⟩, ⟨3, [], 0, false⟩, ⟨4, [], 0, false⟩, ⟨5, [], 0, false⟩, ⟨6, [], 0, false⟩, ⟨7, [115, 105, 122, 101], 0, false⟩, ⟨7, [118, 101, 110, 100, 111, 114], 0, false⟩, ⟨8, [73, 68], 0, false⟩, ⟨9, [], 0, false⟩, ⟨9, [], 2, false⟩, ⟨9, [], 1, true⟩, ⟨10, [], 0, false⟩]
theorem form_one : ∀ i, i < 12 → ∃ a b p, longL[i]? = some a ∧ shortL[i]? = some b ∧ a.length ≤ 100 ∧ b.length ≤ 100 ∧ parseE a = ([p], 0) ∧ parseE b = ([p], 0)
  | 0, _ => ⟨_, _, ⟨2, [], 0, false⟩, rfl, rfl, by decide, by decide, rfl, rfl⟩
  | 1, _ => ⟨_, _, ⟨3, [], 0, false⟩, rfl, rfl, by decide, by decide, rfl, rfl⟩
  | 2, _ => ⟨_, _, ⟨4, [], 0, false⟩, rfl, rfl, by decide, by decide, rfl, rfl⟩
  | 3, _ => ⟨_, _, ⟨5, [], 0, false⟩, rfl, rfl, by decide, by decide, rfl, rfl⟩
  | 4, _ => ⟨_, _, ⟨6, [], 0, false⟩, rfl, rfl, by decide, by decide, rfl, rfl⟩
  | 5, _ => ⟨_, _, ⟨7, [115, 105, 122, 101], 0, false⟩, rfl, rfl, by decide, by decide, rfl, rfl⟩
  | 6, _ => ⟨_, _, ⟨7, [118, 101, 110, 100, 111, 114], 0, false⟩, rfl, rfl, by decide, by decide, rfl, rfl⟩
  | 7, _ => ⟨_, _, ⟨8, [73, 68], 0, false⟩, rfl, rfl, by decide, by decide, rfl, rfl⟩
  | 8, _ => ⟨_, _, ⟨9, [], 0, false⟩, rfl, rfl, by decide, by decide, rfl, rfl⟩
  | 9, _ => ⟨_, _, ⟨9, [], 2, false⟩, rfl, rfl, by decide, by decide, rfl, rfl⟩
  | 10, _ => ⟨_, _, ⟨9, [], 1, true⟩, rfl, rfl, by decide, by decide, rfl, rfl⟩
  | 11, _ => ⟨_, _, ⟨10, [], 0, false⟩, rfl, rfl, by decide, by decide, rfl, rfl⟩
  | n + 12, h => by omega
theorem lastF {a0 a1 a2 a3 a4 a5 a6 a7 a8 a9 a10 a11 b : Prop} (h : a0 ∧ a1 ∧ a2 ∧ a3 ∧ a4 ∧ a5 ∧ a6 ∧ a7 ∧ a8 ∧ a9 ∧ a10 ∧ a11 ∧ b) : b := h.2.2.2.2.2.2.2.2.2.2.2.2
set_option maxHeartbeats 4000000 in
set_option maxRecDepth 100000 in
theorem substituteForms_walk (a : Option Addr) (n c : Nat) (w : World) (hE : Env w) (g : Ints w w.heap.size (.slice a n c)) : Calls Tryz.prog 8 #[.slice a n c] w fun e w' => e = .returned (.bool true) ∧ Below w.heap.size w w' := by
  obtain ⟨tb, htb⟩ : ∃ tb, w.heap.size = tb := ⟨_, rfl⟩
  obtain ⟨W0, hW0⟩ : ∃ W0, w.alloc (.cells #[.slice a n c, .int .i64 0] 27) = W0 := ⟨_, rfl⟩
  have hk0 : Kp [] w W0 := by rw [← hW0]; exact (Kp.refl [] w).alloc _
  have hT0 : Tp W0 tb 0 := ⟨_, by rw [← hW0, ← htb]; exact heap_alloc_last w _, by rw [← htb]; exact g.keep fun b hb => hk0.block b hb (by simp)⟩
  have h8 : 8 ≤ tb := by rw [← htb]; exact hE.size
  have HE := Lib.hid hE
  have HK0 := Lib.hid (hk0.mono (t := [tb]) (by simp))
  have HV := Lib.hid (values_any hT0)
  unfold ValsPost at HV
  have HTB := Lib.hid htb
  have HW0 := Lib.hid hW0
  have H8 := Lib.hid h8
  rw [htb]
  clear hE hk0 hT0 h8 g hW0 htb
  go_enter Tryz.func8, Tryz.ntmps8
  go_wp2_with fail
  rw [HTB.out, HW0.out]
  refine Calls.mono (by with_reducible exact HV.out) ?_
  rintro e w1 ⟨v, av, bv, cv, rfl, hin, hk1⟩
  obtain ⟨sa, ca, rfl, -⟩ := hin.ha.form
  obtain ⟨sb, cb, rfl, -⟩ := hin.hb.form
  obtain ⟨sc, cc, rfl, -⟩ := hin.hc.form
  unfold vsC
  obtain ⟨V, hV⟩ : ∃ V, w1.heap.size = V := ⟨_, rfl⟩
  obtain ⟨W1, hW1⟩ : ∃ W1, w1.alloc (.cells #[.string (bs v.kernel), .string (bs v.devpath), .string (bs v.id), .string (bs v.driver), .string (bs v.parent), .string (bs v.name), .string (bs v.result), .slice sa v.attrs.length ca, .slice sb v.above.length cb, .slice sc v.env.length cc] 43) = W1 := ⟨_, rfl⟩
  obtain ⟨L, hL⟩ : ∃ L, W1.heap.size = L := ⟨_, rfl⟩
  obtain ⟨W2, hW2⟩ : ∃ W2, W1.alloc (.cells #[.string ⟨#[36, 107, 101, 114, 110, 101, 108]⟩, .string ⟨#[36, 110, 117, 109, 98, 101, 114]⟩, .string ⟨#[36, 100, 101, 118, 112, 97, 116, 104]⟩, .string ⟨#[36, 105, 100]⟩, .string ⟨#[36, 100, 114, 105, 118, 101, 114]⟩, .string ⟨#[36, 97, 116, 116, 114, 123, 115, 105, 122, 101, 125]⟩, .string ⟨#[36, 97, 116, 116, 114, 123, 118, 101, 110, 100, 111, 114, 125]⟩, .string ⟨#[36, 101, 110, 118, 123, 73, 68, 125]⟩, .string ⟨#[36, 114, 101, 115, 117, 108, 116]⟩, .string ⟨#[36, 114, 101, 115, 117, 108, 116, 123, 50, 125]⟩, .string ⟨#[36, 114, 101, 115, 117, 108, 116, 123, 49, 43, 125]⟩, .string ⟨#[36, 112, 97, 114, 101, 110, 116]⟩] 9) = W2 := ⟨_, rfl⟩
  obtain ⟨M, hM⟩ : ∃ M, W2.heap.size = M := ⟨_, rfl⟩
  obtain ⟨W3, hW3⟩ : ∃ W3, W2.alloc (.cells #[.string ⟨#[37, 107]⟩, .string ⟨#[37, 110]⟩, .string ⟨#[37, 112]⟩, .string ⟨#[37, 98]⟩, .string ⟨#[37, 100]⟩, .string ⟨#[37, 115, 123, 115, 105, 122, 101, 125]⟩, .string ⟨#[37, 115, 123, 118, 101, 110, 100, 111, 114, 125]⟩, .string ⟨#[37, 69, 123, 73, 68, 125]⟩, .string ⟨#[37, 99]⟩, .string ⟨#[37, 99, 123, 50, 125]⟩, .string ⟨#[37, 99, 123, 49, 43, 125]⟩, .string ⟨#[37, 80]⟩] 9) = W3 := ⟨_, rfl⟩
  have hk11 : Kp [] w1 W1 := by rw [← hW1]; exact (Kp.refl [] w1).alloc _
  have hk12 : Kp [] W1 W2 := by rw [← hW2]; exact (Kp.refl [] W1).alloc _
  have hk23 : Kp [] W2 W3 := by rw [← hW3]; exact (Kp.refl [] W2).alloc _
  have hVb : W1.heap[V]? = some (.cells (vsC v (.slice sa v.attrs.length ca) (.slice sb v.above.length cb) (.slice sc v.env.length cc)) 43 (0, 0)) := by rw [← hW1, ← hV]; exact heap_alloc_last w1 _
  have hLb : W2.heap[L]? = some (.cells #[.string ⟨#[36, 107, 101, 114, 110, 101, 108]⟩, .string ⟨#[36, 110, 117, 109, 98, 101, 114]⟩, .string ⟨#[36, 100, 101, 118, 112, 97, 116, 104]⟩, .string ⟨#[36, 105, 100]⟩, .string ⟨#[36, 100, 114, 105, 118, 101, 114]⟩, .string ⟨#[36, 97, 116, 116, 114, 123, 115, 105, 122, 101, 125]⟩, .string ⟨#[36, 97, 116, 116, 114, 123, 118, 101, 110, 100, 111, 114, 125]⟩, .string ⟨#[36, 101, 110, 118, 123, 73, 68, 125]⟩, .string ⟨#[36, 114, 101, 115, 117, 108, 116]⟩, .string ⟨#[36, 114, 101, 115, 117, 108, 116, 123, 50, 125]⟩, .string ⟨#[36, 114, 101, 115, 117, 108, 116, 123, 49, 43, 125]⟩, .string ⟨#[36, 112, 97, 114, 101, 110, 116]⟩] 9 (0, 0)) := by rw [← hW2, ← hL]; exact heap_alloc_last W1 _
  have hMb : W3.heap[M]? = some (.cells #[.string ⟨#[37, 107]⟩, .string ⟨#[37, 110]⟩, .string ⟨#[37, 112]⟩, .string ⟨#[37, 98]⟩, .string ⟨#[37, 100]⟩, .string ⟨#[37, 115, 123, 115, 105, 122, 101, 125]⟩, .string ⟨#[37, 115, 123, 118, 101, 110, 100, 111, 114, 125]⟩, .string ⟨#[37, 69, 123, 73, 68, 125]⟩, .string ⟨#[37, 99]⟩, .string ⟨#[37, 99, 123, 50, 125]⟩, .string ⟨#[37, 99, 123, 49, 43, 125]⟩, .string ⟨#[37, 80]⟩] 9 (0, 0)) := by rw [← hW3, ← hM]; exact heap_alloc_last W2 _
  have hk13 := hk11.trans (hk12.trans hk23)
  have hkw : Kp [tb] w W3 := (HK0.out.trans hk1).trans (hk13.mono (by simp))
  have hV3 := ((hk12.trans hk23).block V (block_lt hVb) (by simp)).trans hVb
  have hL3 := (hk23.block L (block_lt hLb) (by simp)).trans hLb
  have hH : Hold W3 V v (.slice sa v.attrs.length ca) (.slice sb v.above.length cb) (.slice sc v.env.length cc) := ⟨HE.out.kp hkw (by intro x hx; simp at hx; have := H8.out; omega), hin.kp0 hk13, hV3⟩
  have hcall : ∀ W, Kp [] W3 W → ∀ (t : List UInt8) (p : Pc), t.length ≤ 100 → parseE t = ([p], 0) → Calls Tryz.prog 21 #[.string (bs t), .agg #[.string (bs v.kernel), .string (bs v.devpath), .string (bs v.id), .string (bs v.driver), .string (bs v.parent), .string (bs v.name), .string (bs v.result), .slice sa v.attrs.length ca, .slice sb v.above.length cb, .slice sc v.env.length cc]] W fun e w' => e = .returned (.tuple #[.string (bs (expandL v [p])), .int .i64 0]) ∧ Kp [] W w' := fun W hw t p ht hp =>
    (hH.kp0 hw).call t _ 0 (by omega) (by unfold expandE; rw [hp]; rfl)
  have hrows : ∀ W, Kp [] W3 W → ∀ (i : Nat) (x y : List UInt8), longL[i]? = some x → shortL[i]? = some y → (W.cell? ⟨V, 0, none⟩ = some (.string (bs v.kernel)) ∧ W.cell? ⟨V, 1, none⟩ = some (.string (bs v.devpath)) ∧ W.cell? ⟨V, 2, none⟩ = some (.string (bs v.id)) ∧ W.cell? ⟨V, 3, none⟩ = some (.string (bs v.driver)) ∧ W.cell? ⟨V, 4, none⟩ = some (.string (bs v.parent)) ∧ W.cell? ⟨V, 5, none⟩ = some (.string (bs v.name)) ∧ W.cell? ⟨V, 6, none⟩ = some (.string (bs v.result)) ∧ W.cell? ⟨V, 7, none⟩ = some (.slice sa v.attrs.length ca) ∧ W.cell? ⟨V, 8, none⟩ = some (.slice sb v.above.length cb) ∧ W.cell? ⟨V, 9, none⟩ = some (.slice sc v.env.length cc) ∧ W.cell? ⟨L, i, none⟩ = some (.string (bs x)) ∧ W.cell? ⟨M, i, none⟩ = some (.string (bs y)) ∧ Kp [] W3 W) := fun W hw i x y hx hy => by
    have h1 := (hw.block V (block_lt hV3) (by simp)).trans hV3
    have h2 := (hw.block L (block_lt hL3) (by simp)).trans hL3
    have h3 := (hw.block M (block_lt hMb) (by simp)).trans hMb
    refine ⟨?_, ?_, ?_, ?_, ?_, ?_, ?_, ?_, ?_, ?_, ?_, ?_, hw⟩
    all_goals first
      | (rw [cell_of_row _ _ _ _ _ _ h1]; rfl)
      | (rw [cell_of_row _ _ _ _ _ _ h2, show (#[.string ⟨#[36, 107, 101, 114, 110, 101, 108]⟩, .string ⟨#[36, 110, 117, 109, 98, 101, 114]⟩, .string ⟨#[36, 100, 101, 118, 112, 97, 116, 104]⟩, .string ⟨#[36, 105, 100]⟩, .string ⟨#[36, 100, 114, 105, 118, 101, 114]⟩, .string ⟨#[36, 97, 116, 116, 114, 123, 115, 105, 122, 101, 125]⟩, .string ⟨#[36, 97, 116, 116, 114, 123, 118, 101, 110, 100, 111, 114, 125]⟩, .string ⟨#[36, 101, 110, 118, 123, 73, 68, 125]⟩, .string ⟨#[36, 114, 101, 115, 117, 108, 116]⟩, .string ⟨#[36, 114, 101, 115, 117, 108, 116, 123, 50, 125]⟩, .string ⟨#[36, 114, 101, 115, 117, 108, 116, 123, 49, 43, 125]⟩, .string ⟨#[36, 112, 97, 114, 101, 110, 116]⟩] : Array Value) = (longL.map fun x => Value.string (bs x)).toArray from rfl, List.getElem?_toArray, List.getElem?_map, hx]; rfl)
      | (rw [cell_of_row _ _ _ _ _ _ h3, show (#[.string ⟨#[37, 107]⟩, .string ⟨#[37, 110]⟩, .string ⟨#[37, 112]⟩, .string ⟨#[37, 98]⟩, .string ⟨#[37, 100]⟩, .string ⟨#[37, 115, 123, 115, 105, 122, 101, 125]⟩, .string ⟨#[37, 115, 123, 118, 101, 110, 100, 111, 114, 125]⟩, .string ⟨#[37, 69, 123, 73, 68, 125]⟩, .string ⟨#[37, 99]⟩, .string ⟨#[37, 99, 123, 50, 125]⟩, .string ⟨#[37, 99, 123, 49, 43, 125]⟩, .string ⟨#[37, 80]⟩] : Array Value) = (shortL.map fun x => Value.string (bs x)).toArray from rfl, List.getElem?_toArray, List.getElem?_map, hy]; rfl)
  have HCA := Lib.hid hcall
  have HRO := Lib.hid hrows
  have HKN := Lib.hid (fun W (hw : Kp [] W3 W) => known_any (hH.1.kp0 hw))
  have HKW := Lib.hid hkw
  have HW1 := Lib.hid hW1
  have HW2 := Lib.hid hW2
  have HW3 := Lib.hid hW3
  have HVV := Lib.hid hV
  have HLL := Lib.hid hL
  have HMM := Lib.hid hM
  clear hin hk1 hk11 hk12 hk23 hk13 hkw hVb hLb hMb hV3 hL3 hH hcall hrows hW1 hW2 hW3 hV hL hM HV HW0 HK0
  go_upto_region 3 with fail
  rw [HVV.out, HW1.out]
  go_upto_region 4 with fail
  rw [HLL.out, HW2.out]
  go_upto_region 5 with fail
  rw [HMM.out, HW3.out]
  clear HVV HW1 HLL HW2 HMM HW3
  go_wp2
  go_loopg [7] 12 (fun g s7 wx => ∃ i : Nat, i + g = 12 ∧ s7 = .int .i64 (i : Int) ∧ Hid (Kp [] W3 wx))
  case atStart => exact ⟨0, by omega, rfl, Lib.hid (Kp.refl _ _)⟩
  case round =>
    obtain ⟨i, hig, rfl, hk⟩ := hrel
    cases gk with
    | zero =>
      have hli : ¬ ((i : Int) < (12 : Int)) := by omega
      have HKF := Lib.hid (HKN.out _ hk.out)
      go_wp2_with (go_at_call 11; refine Calls.mono (by with_reducible exact HKF.out) ?_; rintro e w6 ⟨rfl, hk6⟩)
      go_ret
      exact ⟨rfl, (HKW.out.trans ((hk.out.trans hk6).mono (by simp))).below (by rw [HTB.out]; exact Nat.le_refl _) (by simp)⟩
    | succ gk =>
      have hil : i < 12 := by omega
      have hli : (i : Int) < (12 : Int) := by omega
      obtain ⟨x, y, p, hx, hy, hxl, hyl, hpx, hpy⟩ := form_one i hil
      have HYA := Lib.hid (show ∀ W, (W.cell? ⟨V, 0, none⟩ = some (.string (bs v.kernel)) ∧ W.cell? ⟨V, 1, none⟩ = some (.string (bs v.devpath)) ∧ W.cell? ⟨V, 2, none⟩ = some (.string (bs v.id)) ∧ W.cell? ⟨V, 3, none⟩ = some (.string (bs v.driver)) ∧ W.cell? ⟨V, 4, none⟩ = some (.string (bs v.parent)) ∧ W.cell? ⟨V, 5, none⟩ = some (.string (bs v.name)) ∧ W.cell? ⟨V, 6, none⟩ = some (.string (bs v.result)) ∧ W.cell? ⟨V, 7, none⟩ = some (.slice sa v.attrs.length ca) ∧ W.cell? ⟨V, 8, none⟩ = some (.slice sb v.above.length cb) ∧ W.cell? ⟨V, 9, none⟩ = some (.slice sc v.env.length cc) ∧ W.cell? ⟨L, i, none⟩ = some (.string (bs x)) ∧ W.cell? ⟨M, i, none⟩ = some (.string (bs y)) ∧ Kp [] W3 W) → Calls Tryz.prog 21 #[.string (bs x), .agg #[.string (bs v.kernel), .string (bs v.devpath), .string (bs v.id), .string (bs v.driver), .string (bs v.parent), .string (bs v.name), .string (bs v.result), .slice sa v.attrs.length ca, .slice sb v.above.length cb, .slice sc v.env.length cc]] W (fun e w' => e = .returned (.tuple #[.string (bs (expandL v [p])), .int .i64 0]) ∧ Kp [] W w') from fun W h => HCA.out W (lastF h) x p hxl hpx)
      have HYB := Lib.hid (show ∀ W, (W.cell? ⟨V, 0, none⟩ = some (.string (bs v.kernel)) ∧ W.cell? ⟨V, 1, none⟩ = some (.string (bs v.devpath)) ∧ W.cell? ⟨V, 2, none⟩ = some (.string (bs v.id)) ∧ W.cell? ⟨V, 3, none⟩ = some (.string (bs v.driver)) ∧ W.cell? ⟨V, 4, none⟩ = some (.string (bs v.parent)) ∧ W.cell? ⟨V, 5, none⟩ = some (.string (bs v.name)) ∧ W.cell? ⟨V, 6, none⟩ = some (.string (bs v.result)) ∧ W.cell? ⟨V, 7, none⟩ = some (.slice sa v.attrs.length ca) ∧ W.cell? ⟨V, 8, none⟩ = some (.slice sb v.above.length cb) ∧ W.cell? ⟨V, 9, none⟩ = some (.slice sc v.env.length cc) ∧ W.cell? ⟨L, i, none⟩ = some (.string (bs x)) ∧ W.cell? ⟨M, i, none⟩ = some (.string (bs y)) ∧ Kp [] W3 W) → Calls Tryz.prog 21 #[.string (bs y), .agg #[.string (bs v.kernel), .string (bs v.devpath), .string (bs v.id), .string (bs v.driver), .string (bs v.parent), .string (bs v.name), .string (bs v.result), .slice sa v.attrs.length ca, .slice sb v.above.length cb, .slice sc v.env.length cc]] W (fun e w' => e = .returned (.tuple #[.string (bs (expandL v [p])), .int .i64 0]) ∧ Kp [] W w') from fun W h => HCA.out W (lastF h) y p hyl hpy)
      have hRow := fun W hw => HRO.out W hw i x y hx hy
      have HRW := Lib.hid hRow
      have HK := Lib.hid hk.out
      have HST := Lib.hid (show (fun W : World => (W.cell? ⟨V, 0, none⟩ = some (.string (bs v.kernel)) ∧ W.cell? ⟨V, 1, none⟩ = some (.string (bs v.devpath)) ∧ W.cell? ⟨V, 2, none⟩ = some (.string (bs v.id)) ∧ W.cell? ⟨V, 3, none⟩ = some (.string (bs v.driver)) ∧ W.cell? ⟨V, 4, none⟩ = some (.string (bs v.parent)) ∧ W.cell? ⟨V, 5, none⟩ = some (.string (bs v.name)) ∧ W.cell? ⟨V, 6, none⟩ = some (.string (bs v.result)) ∧ W.cell? ⟨V, 7, none⟩ = some (.slice sa v.attrs.length ca) ∧ W.cell? ⟨V, 8, none⟩ = some (.slice sb v.above.length cb) ∧ W.cell? ⟨V, 9, none⟩ = some (.slice sc v.env.length cc) ∧ W.cell? ⟨L, i, none⟩ = some (.string (bs x)) ∧ W.cell? ⟨M, i, none⟩ = some (.string (bs y)) ∧ Kp [] W3 W)) wr.drew from hRow _ (hk.out.trans ((Kp.refl [] wr).drew 1)))
      have HKS := Lib.hid (show ∀ W1, Kp [] wr.drew W1 → (fun W : World => (W.cell? ⟨V, 0, none⟩ = some (.string (bs v.kernel)) ∧ W.cell? ⟨V, 1, none⟩ = some (.string (bs v.devpath)) ∧ W.cell? ⟨V, 2, none⟩ = some (.string (bs v.id)) ∧ W.cell? ⟨V, 3, none⟩ = some (.string (bs v.driver)) ∧ W.cell? ⟨V, 4, none⟩ = some (.string (bs v.parent)) ∧ W.cell? ⟨V, 5, none⟩ = some (.string (bs v.name)) ∧ W.cell? ⟨V, 6, none⟩ = some (.string (bs v.result)) ∧ W.cell? ⟨V, 7, none⟩ = some (.slice sa v.attrs.length ca) ∧ W.cell? ⟨V, 8, none⟩ = some (.slice sb v.above.length cb) ∧ W.cell? ⟨V, 9, none⟩ = some (.slice sc v.env.length cc) ∧ W.cell? ⟨L, i, none⟩ = some (.string (bs x)) ∧ W.cell? ⟨M, i, none⟩ = some (.string (bs y)) ∧ Kp [] W3 W)) W1 from fun W1 hw => hRow W1 (hk.out.trans (((Kp.refl [] wr).drew 1).trans hw)))
      generalize expandL v [p] = q at *
      clear hRow hx hy hxl hyl hpx hpy hk
      go_upto_region 8 with fail
      go_region_held3 (fun W => (W.cell? ⟨V, 0, none⟩ = some (.string (bs v.kernel)) ∧ W.cell? ⟨V, 1, none⟩ = some (.string (bs v.devpath)) ∧ W.cell? ⟨V, 2, none⟩ = some (.string (bs v.id)) ∧ W.cell? ⟨V, 3, none⟩ = some (.string (bs v.driver)) ∧ W.cell? ⟨V, 4, none⟩ = some (.string (bs v.parent)) ∧ W.cell? ⟨V, 5, none⟩ = some (.string (bs v.name)) ∧ W.cell? ⟨V, 6, none⟩ = some (.string (bs v.result)) ∧ W.cell? ⟨V, 7, none⟩ = some (.slice sa v.attrs.length ca) ∧ W.cell? ⟨V, 8, none⟩ = some (.slice sb v.above.length cb) ∧ W.cell? ⟨V, 9, none⟩ = some (.slice sc v.env.length cc) ∧ W.cell? ⟨L, i, none⟩ = some (.string (bs x)) ∧ W.cell? ⟨M, i, none⟩ = some (.string (bs y)) ∧ Kp [] W3 W)) (first | exact HST.out | assumption | exact HKS.out _ (by assumption)) (first | (go_at_call 21; refine Calls.mono (by with_reducible exact HYA.out _ (by assumption)) ?_; rintro e w7 ⟨rfl, hb7⟩))
      clear HST HKS HYA
      have hk7 : Kp [] W3 w7 := lastF (by assumption)
      have HK7 := Lib.hid hk7
      have HST := Lib.hid (show (fun W : World => (W.cell? ⟨V, 0, none⟩ = some (.string (bs v.kernel)) ∧ W.cell? ⟨V, 1, none⟩ = some (.string (bs v.devpath)) ∧ W.cell? ⟨V, 2, none⟩ = some (.string (bs v.id)) ∧ W.cell? ⟨V, 3, none⟩ = some (.string (bs v.driver)) ∧ W.cell? ⟨V, 4, none⟩ = some (.string (bs v.parent)) ∧ W.cell? ⟨V, 5, none⟩ = some (.string (bs v.name)) ∧ W.cell? ⟨V, 6, none⟩ = some (.string (bs v.result)) ∧ W.cell? ⟨V, 7, none⟩ = some (.slice sa v.attrs.length ca) ∧ W.cell? ⟨V, 8, none⟩ = some (.slice sb v.above.length cb) ∧ W.cell? ⟨V, 9, none⟩ = some (.slice sc v.env.length cc) ∧ W.cell? ⟨L, i, none⟩ = some (.string (bs x)) ∧ W.cell? ⟨M, i, none⟩ = some (.string (bs y)) ∧ Kp [] W3 W)) w7.drew from HRW.out _ (hk7.trans ((Kp.refl [] w7).drew 1)))
      have HKS := Lib.hid (show ∀ W1, Kp [] w7.drew W1 → (fun W : World => (W.cell? ⟨V, 0, none⟩ = some (.string (bs v.kernel)) ∧ W.cell? ⟨V, 1, none⟩ = some (.string (bs v.devpath)) ∧ W.cell? ⟨V, 2, none⟩ = some (.string (bs v.id)) ∧ W.cell? ⟨V, 3, none⟩ = some (.string (bs v.driver)) ∧ W.cell? ⟨V, 4, none⟩ = some (.string (bs v.parent)) ∧ W.cell? ⟨V, 5, none⟩ = some (.string (bs v.name)) ∧ W.cell? ⟨V, 6, none⟩ = some (.string (bs v.result)) ∧ W.cell? ⟨V, 7, none⟩ = some (.slice sa v.attrs.length ca) ∧ W.cell? ⟨V, 8, none⟩ = some (.slice sb v.above.length cb) ∧ W.cell? ⟨V, 9, none⟩ = some (.slice sc v.env.length cc) ∧ W.cell? ⟨L, i, none⟩ = some (.string (bs x)) ∧ W.cell? ⟨M, i, none⟩ = some (.string (bs y)) ∧ Kp [] W3 W)) W1 from fun W1 hw => HRW.out W1 (hk7.trans (((Kp.refl [] w7).drew 1).trans hw)))
      clear hk7
      go_upto_region 9 with fail
      go_region_held3 (fun W => (W.cell? ⟨V, 0, none⟩ = some (.string (bs v.kernel)) ∧ W.cell? ⟨V, 1, none⟩ = some (.string (bs v.devpath)) ∧ W.cell? ⟨V, 2, none⟩ = some (.string (bs v.id)) ∧ W.cell? ⟨V, 3, none⟩ = some (.string (bs v.driver)) ∧ W.cell? ⟨V, 4, none⟩ = some (.string (bs v.parent)) ∧ W.cell? ⟨V, 5, none⟩ = some (.string (bs v.name)) ∧ W.cell? ⟨V, 6, none⟩ = some (.string (bs v.result)) ∧ W.cell? ⟨V, 7, none⟩ = some (.slice sa v.attrs.length ca) ∧ W.cell? ⟨V, 8, none⟩ = some (.slice sb v.above.length cb) ∧ W.cell? ⟨V, 9, none⟩ = some (.slice sc v.env.length cc) ∧ W.cell? ⟨L, i, none⟩ = some (.string (bs x)) ∧ W.cell? ⟨M, i, none⟩ = some (.string (bs y)) ∧ Kp [] W3 W)) (first | exact HST.out | assumption | exact HKS.out _ (by assumption)) (first | (go_at_call 21; refine Calls.mono (by with_reducible exact HYB.out _ (by assumption)) ?_; rintro e w8 ⟨rfl, hb8⟩))
      clear HST HKS HYB
      have hk8 : Kp [] W3 w8 := lastF (by assumption)
      have HK8 := Lib.hid hk8
      clear hk8
      go_wp2
      go_roundg gk
      case measure => omega
      case rel => exact ⟨i + 1, by omega, by go_num, HK8⟩
end Go.Proofs.YtfpkppgecmbglaaGreatDoor
