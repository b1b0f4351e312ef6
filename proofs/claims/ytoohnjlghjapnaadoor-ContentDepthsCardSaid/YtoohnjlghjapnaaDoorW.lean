/- The examples of the chapter; the reference's depth. -/
import Derived.Test.YtoohnjlghjapnaaDoorP
namespace Go.Proofs.YtoohnjlghjapnaaDoor
open Go.RowKit

def exC : Con := .mk 2 [114, 49] [] 1 2 1 [.mk 1 [117, 51] [100, 97, 116, 97] 0 0 0 []]
def exT : List UInt8 := [114, 97, 105, 100, 58, 114, 49, 58, 49, 47, 50, 47, 49, 40, 102, 115, 58, 117, 51, 58, 100, 97, 116, 97, 41]
def exB : List UInt8 := [114, 97, 105, 100, 58, 114, 58, 48, 49, 47, 50, 47, 49, 40, 41]
theorem exC_val : valN 6 exC = true := by decide +kernel
theorem exC_txt : exC.txt = exT := by decide +kernel
theorem exC_dep : exC.dep = 2 := by decide +kernel
theorem parse_exT : parseN 6 exT = some exC := parseN_iff.2 ⟨exC_val, exC_txt⟩
theorem parseR_exT : parseR exT = exC ∧ parseE exT = 0 := by
  unfold parseR parseE
  rw [parse_exT]
  exact ⟨rfl, rfl⟩
theorem parse_exB : (parseN 6 exB).isSome = false := by decide +kernel
theorem parseE_exB : parseE exB = 70 := by
  unfold parseE
  rw [parse_exB]
  rfl
theorem fmt_exC : fmtS exC = exT ∧ fmtE exC = 0 := by
  unfold fmtS fmtE
  rw [exC_val, exC_txt]
  exact ⟨rfl, rfl⟩

theorem txC : Tx exC := ⟨by decide, by decide⟩
theorem parse_ex {w : World} (hE : Env w) : Calls Tryd.prog 15 #[.string ⟨#[114, 97, 105, 100, 58, 114, 49, 58, 49, 47, 50, 47, 49, 40, 102, 115, 58, 117, 51, 58, 100, 97, 116, 97, 41]⟩] w fun e w' => ∃ b o vn, e = .returned (.tuple #[.agg #[.int .i64 2, .string ⟨#[114, 49]⟩, .string ⟨#[]⟩, .int .i64 1, .int .i64 2, .int .i64 1, .slice (some ⟨b, o, none⟩) 1 vn], .int .i64 0]) ∧
    w'.cell? ⟨b, o + 2, none⟩ = some (.string ⟨#[100, 97, 116, 97]⟩) ∧ b < w'.heap.size ∧ CHas (fun _ => True) w' (.slice (some ⟨b, o, none⟩) 1 vn) exC.inner ∧ Kp [] w w' := by
  refine (parse_any hE exT).mono fun e w' ⟨v, he, hv, _, hk⟩ => ?_
  rw [parseR_exT.1, parseR_exT.2] at he
  rw [parseR_exT.1] at hv
  obtain ⟨va, vn, rfl, hrow⟩ := hv.form
  obtain ⟨b, o, rfl, h1, h2, hq, hb, hr⟩ := hrow (by decide)
  have hv2 := hv.mono (Q' := fun _ => True) fun _ _ _ => trivial
  obtain ⟨v0, _, _, _, _, e2, _⟩ := hr.cells (j := 0) rfl
  rw [Nat.zero_mul, Nat.add_zero] at e2
  exact ⟨b, o, vn, he, e2, hb, hv2, hk⟩
theorem parse_exb {w : World} (hE : Env w) : Calls Tryd.prog 15 #[.string ⟨#[114, 97, 105, 100, 58, 114, 58, 48, 49, 47, 50, 47, 49, 40, 41]⟩] w fun e w' => ∃ k i l s t f a n c, e = .returned (.tuple #[.agg #[.int .i64 k, .string i, .string l, .int .i64 s, .int .i64 t, .int .i64 f, .slice a n c], .int .i64 70]) ∧ Kp [] w w' := by
  refine (parse_any hE exB).mono fun e w' ⟨v, he, hv, _, hk⟩ => ?_
  rw [parseE_exB] at he
  obtain ⟨va, vn, rfl, _⟩ := hv.form
  exact ⟨_, _, _, _, _, _, _, _, _, he, hk⟩
theorem format_ex {Q : Nat → Prop} {w : World} {b o vn : Nat} (hh : CHas Q w (.slice (some ⟨b, o, none⟩) 1 vn) exC.inner) :
    Calls Tryd.prog 11 #[.agg #[.int .i64 2, .string ⟨#[114, 49]⟩, .string ⟨#[]⟩, .int .i64 1, .int .i64 2, .int .i64 1, .slice (some ⟨b, o, none⟩) 1 vn]] w fun r w' => r = .returned (.tuple #[.string ⟨#[114, 97, 105, 100, 58, 114, 49, 58, 49, 47, 50, 47, 49, 40, 102, 115, 58, 117, 51, 58, 100, 97, 116, 97, 41]⟩, .int .i64 0]) ∧ Kp [] w w' := by
  have := format_any exC (some ⟨b, o, none⟩) vn w txC hh
  rw [fmt_exC.1, fmt_exC.2] at this
  exact this
theorem depth_ex {Q : Nat → Prop} {w : World} {b o vn : Nat} (hh : CHas Q w (.slice (some ⟨b, o, none⟩) 1 vn) exC.inner) :
    Calls Tryd.prog 20 #[.agg #[.int .i64 2, .string ⟨#[114, 49]⟩, .string ⟨#[]⟩, .int .i64 1, .int .i64 2, .int .i64 1, .slice (some ⟨b, o, none⟩) 1 vn]] w fun r w' => r = .returned (.int .i64 2) ∧ Kp [] w w' := by
  have := depthOf_any exC (some ⟨b, o, none⟩) vn w txC exC_val hh
  rw [exC_dep] at this
  exact this

set_option maxHeartbeats 4000000 in
set_option maxRecDepth 100000 in
theorem known_any {w : World} (hE : Env w) : Calls Tryd.prog 10 #[] w fun e w' => e = .returned (.bool true) ∧ Kp [] w w' := by
  have HP := Lib.hid (parse_ex hE)
  have HE := Lib.hid hE
  clear hE
  go_enter Tryd.func10, Tryd.ntmps10
  go_wp2_with fail
  refine HP.out.mono ?_
  rintro r w1 ⟨b, o, vn, rfl, hc2, hb, hv, hk1⟩
  have hal : Kp [] w1 (w1.alloc (.cells #[.int .i64 2, .string ⟨#[114, 49]⟩, .string ⟨#[]⟩, .int .i64 1, .int .i64 2, .int .i64 1, .slice (some ⟨b, o, none⟩) 1 vn] 24)) := (Kp.refl [] w1).alloc _
  have HB := Lib.hid (show BoxV w1.heap.size (.int .i64 2) (.string ⟨#[114, 49]⟩) (.string ⟨#[]⟩) (.int .i64 1) (.int .i64 2) (.int .i64 1) (.slice (some ⟨b, o, none⟩) 1 vn) (w1.alloc (.cells #[.int .i64 2, .string ⟨#[114, 49]⟩, .string ⟨#[]⟩, .int .i64 1, .int .i64 2, .int .i64 1, .slice (some ⟨b, o, none⟩) 1 vn] 24)) from al_new _ _)
  have HV := Lib.hid (kp_has hv hal)
  have E1 := Lib.hid ((HE.out.kp hk1 (by simp)).kp hal (by simp))
  have K1 := Lib.hid (hk1.trans hal)
  have HD := Lib.hid ((show (w1.alloc (.cells #[.int .i64 2, .string ⟨#[114, 49]⟩, .string ⟨#[]⟩, .int .i64 1, .int .i64 2, .int .i64 1, .slice (some ⟨b, o, none⟩) 1 vn] 24)).heap[b]? = w1.heap[b]? from hal.block b hb (by simp)))
  have hc2' : (w1.alloc (.cells #[.int .i64 2, .string ⟨#[114, 49]⟩, .string ⟨#[]⟩, .int .i64 1, .int .i64 2, .int .i64 1, .slice (some ⟨b, o, none⟩) 1 vn] 24)).cell? ⟨b, o + 2, none⟩ = some (.string ⟨#[100, 97, 116, 97]⟩) := by
    simp only [World.cell?, HD.out] at hc2 ⊢
    exact hc2
  have HC2 := Lib.hid hc2'
  have HBL := Lib.hid (show b < (w1.alloc (.cells #[.int .i64 2, .string ⟨#[114, 49]⟩, .string ⟨#[]⟩, .int .i64 1, .int .i64 2, .int .i64 1, .slice (some ⟨b, o, none⟩) 1 vn] 24)).heap.size by rw [al_size]; omega)
  obtain ⟨A, hA⟩ : ∃ A, w1.heap.size = A := ⟨_, rfl⟩
  rw [hA] at HB
  have HP2 := Lib.hid (parse_exb E1.out)
  clear hal hc2 hc2' hb hv hk1 HD
  go_wp2_with fail
  refine HP2.out.mono ?_
  rintro r w2 ⟨k, i, l, s, t, f, a, n, c, rfl, hk2⟩
  have hal : Kp [] w2 (w2.alloc (.cells #[.int .i64 k, .string i, .string l, .int .i64 s, .int .i64 t, .int .i64 f, .slice a n c] 24)) := (Kp.refl [] w2).alloc _
  have K2 := Lib.hid (K1.out.trans (hk2.trans hal))
  have B2 := Lib.hid ((HB.out.kp hk2 (by simp)).kp hal (by simp))
  have V2 := Lib.hid (kp_has (kp_has HV.out hk2) hal)
  have D2 := Lib.hid (((hk2.trans hal).block b HBL.out (by simp)))
  have hc2 : (w2.alloc (.cells #[.int .i64 k, .string i, .string l, .int .i64 s, .int .i64 t, .int .i64 f, .slice a n c] 24)).cell? ⟨b, o + 2, none⟩ = some (.string ⟨#[100, 97, 116, 97]⟩) := by
    have := HC2.out
    simp only [World.cell?, D2.out] at this ⊢
    exact this
  obtain ⟨c0, c1, c2, c3, c4, c5, c6⟩ := B2.out.cells
  have HF := Lib.hid (format_ex V2.out)
  have HC3 := Lib.hid hc2
  have HB3 := Lib.hid (show b < (w2.alloc (.cells #[.int .i64 k, .string i, .string l, .int .i64 s, .int .i64 t, .int .i64 f, .slice a n c] 24)).heap.size from Nat.lt_of_lt_of_le HBL.out (hk2.trans hal).size)
  clear hal hk2 hc2 D2
  go_wp2_with fail
  refine HF.out.mono ?_
  rintro r w3 ⟨rfl, hk3⟩
  have K3 := Lib.hid (K2.out.trans hk3)
  have B3 := Lib.hid (B2.out.kp hk3 (by simp))
  have V3 := Lib.hid (kp_has V2.out hk3)
  have D3 := Lib.hid (hk3.block b HB3.out (by simp))
  have hc2 : w3.cell? ⟨b, o + 2, none⟩ = some (.string ⟨#[100, 97, 116, 97]⟩) := by
    have := HC3.out
    simp only [World.cell?, D3.out] at this ⊢
    exact this
  clear c0 c1 c2 c3 c4 c5 c6
  obtain ⟨c0, c1, c2, c3, c4, c5, c6⟩ := B3.out.cells
  have HG := Lib.hid (depth_ex V3.out)
  clear hk3 D3
  go_wp2_with fail
  refine HG.out.mono ?_
  rintro r w4 ⟨rfl, hk4⟩
  have K4 := Lib.hid (K3.out.trans hk4)
  clear hk4
  go_wp2
  go_ret
  exact ⟨rfl, K4.out⟩
end Go.Proofs.YtoohnjlghjapnaaDoor
