/- Whether a content is valid. -/
import Derived.Test.YtoohnjlghjapnaaDoorC
namespace Go.Proofs.YtoohnjlghjapnaaDoor
open Go.RowKit

theorem fit_val (d : Nat) (c : Con) : valN d c = (fitF c.kind (bs c.id) (bs c.lab) c.slot c.tot c.lst c.inner.length && !(!(c.kind == 0) && decide (d = 0)) && c.inner.all (valN (d - 1))) := by
  obtain ⟨k, i, lab, s, t, e, l⟩ := c
  have hb : (l.isEmpty) = (l.length == 0) := by cases l <;> simp
  by_cases k0 : k = 0
  · subst k0
    have hv : valN d (.mk 0 i lab s t e l) = (i.isEmpty && lab.isEmpty && none0 (.mk 0 i lab s t e l) && l.isEmpty) := by
      cases d <;> simp [valN, Con.kind, Con.id, Con.lab, Con.inner]
    rw [hv, Bool.eq_iff_iff]
    simp only [fitF, Con.kind, Con.id, Con.lab, Con.slot, Con.tot, Con.lst, Con.inner, innF, idF, labF, slotF, leastF, bs_data, none0_iff, Bool.and_eq_true, List.isEmpty_iff]
    simp
    constructor
    · rintro ⟨⟨⟨rfl, rfl⟩, rfl, rfl, rfl⟩, rfl⟩; simp
    · rintro ⟨⟨⟨⟨⟨rfl, rfl⟩, rfl⟩, rfl, rfl⟩, rfl⟩, _⟩; simp
  cases d with
  | zero => simp [valN, Con.kind, k0]
  | succ d =>
    have hv : valN (d + 1) (.mk k i lab s t e l) = (isID i && headOK (.mk k i lab s t e l) && l.all (valN d)) := by
      simp [valN, Con.kind, Con.id, Con.inner, k0]
    rw [hv]
    simp only [Nat.add_sub_cancel, Con.kind, Con.inner, Con.id, Con.lab, Con.slot, Con.tot, Con.lst, show decide (d + 1 = 0) = false by simp, Bool.and_false, Bool.not_false, Bool.and_true]
    congr 1
    unfold headOK fitF
    simp only [Con.kind, Con.lab, Con.inner, slotsOK, none0, Con.tot, Con.slot, Con.lst, innF, idF, labF, slotF, leastF, bs_data, if_neg k0, hb]
    by_cases k1 : k = 1
    · subst k1; rw [Bool.eq_iff_iff]; simp; grind
    by_cases k2 : k = 2
    · subst k2; rw [Bool.eq_iff_iff]; simp; grind
    by_cases k3 : k = 3
    · subst k3; rw [Bool.eq_iff_iff]; simp; grind
    by_cases k4 : k = 4
    · subst k4; rw [Bool.eq_iff_iff]; simp; grind
    by_cases k5 : k = 5
    · subst k5; rw [Bool.eq_iff_iff]; simp; grind
    simp [k0, k1, k2, k3, k4, k5]
theorem all_take_succ {l : List Con} {p : Con → Bool} {j : Nat} {x : Con} (h : (l.take j).all p = true) (hx : l[j]? = some x) (hp : p x = true) : (l.take (j + 1)).all p = true := by
  rw [List.take_add_one, hx, List.all_append, h]
  simp [hp]
theorem all_false {l : List Con} {p : Con → Bool} {j : Nat} {x : Con} (hx : l[j]? = some x) (hp : p x = false) : l.all p = false := by
  cases e : l.all p with
  | false => rfl
  | true => rw [List.all_eq_true.1 e x (List.mem_of_getElem? hx)] at hp; cases hp
theorem kp_has {Q : Nat → Prop} {W W' : World} {v : Value} {l : List Con} (h : CHas Q W v l) (hk : Kp [] W W') : CHas Q W' v l := h.keep hk.size fun k hb hq => ⟨hq, hk.block k hb (by simp)⟩
theorem max62 {n : Nat} (h : n ≤ maxLen) : n ≤ 9223372036854775807 := by unfold maxLen at h; omega

set_option maxHeartbeats 4000000 in
set_option maxRecDepth 100000 in
theorem isValid_any {Q : Nat → Prop} : ∀ (d : Nat) (c : Con) (a : Option Addr) (n : Nat) (W : World), d ≤ 1000 → Tx c → CHas Q W (.slice a c.inner.length n) c.inner →
    Calls Tryd.prog 29 #[.agg #[.int .i64 c.kind, .string (bs c.id), .string (bs c.lab), .int .i64 c.slot, .int .i64 c.tot, .int .i64 c.lst, .slice a c.inner.length n], .int .i64 (d : Int)] W fun r w' => r = .returned (.bool (valN d c)) ∧ Kp [] W w' := by
  intro d c a n W hd hx hh
  induction d using Nat.strongRecOn generalizing c a n W with
  | _ d ih =>
  have hv := fit_val d c
  have hF := fieldsFit_any c.kind (bs c.id) (bs c.lab) c.slot c.tot c.lst a c.inner.length n
  obtain ⟨w1, hw1⟩ : ∃ w1, W.alloc (.cells #[.int .i64 c.kind, .string (bs c.id), .string (bs c.lab), .int .i64 c.slot, .int .i64 c.tot, .int .i64 c.lst, .slice a c.inner.length n] 24) = w1 := ⟨_, rfl⟩
  have hb1 : Box c.kind (bs c.id) (bs c.lab) c.slot c.tot c.lst a c.inner.length n W.heap.size w1 := by rw [← hw1]; exact al_new _ _
  have hk1 : Kp [] W w1 := by rw [← hw1]; exact (Kp.refl [] W).alloc _
  obtain ⟨A, hA⟩ : ∃ A, W.heap.size = A := ⟨_, rfl⟩
  rw [hA] at hb1
  obtain ⟨c0, c1, c2, c3, c4, c5, c6⟩ := hb1.cells
  have B1 := Lib.hid hb1
  have K1 := Lib.hid hk1
  have HF := Lib.hid (hF w1 hx.1 hx.2)
  have HH := Lib.hid hh
  have HV := Lib.hid hv
  have IH := Lib.hid ih
  have HA := Lib.hid hA
  rw [hv]
  clear hb1 hk1 hF hh hv ih hx
  have hin : fitF c.kind (bs c.id) (bs c.lab) c.slot c.tot c.lst c.inner.length = true → c.kind = 0 → c.inner.length = 0 := fun h h0 => by
    simp only [fitF, h0, Bool.and_eq_true] at h
    simpa [innF] using h.1.1.1.1
  generalize hfit : fitF c.kind (bs c.id) (bs c.lab) c.slot c.tot c.lst c.inner.length = fit at *
  clear hfit
  go_enter Tryd.func29, Tryd.ntmps29
  go_wp2_with fail
  refine HF.out.mono ?_
  rintro r w2 ⟨rfl, hk2⟩
  obtain ⟨d0, d1, d2, d3, d4, d5, d6⟩ := (B1.out.kp hk2 (by simp)).cells
  have K2 := Lib.hid (K1.out.trans hk2)
  clear hk2 c0 c1 c2 c3 c4 c5 c6 hw1 hA
  cases fit with
  | false =>
    go_wp2
    go_ret
    exact ⟨ret_b (by simp), K2.out⟩
  | true =>
  by_cases hstop : c.kind ≠ 0 ∧ d = 0
  · obtain ⟨hk0, rfl⟩ := hstop
    have hk0' : (c.kind == 0) = false := by simpa using hk0
    go_wp2
    go_ret
    exact ⟨ret_b (by simp), K2.out⟩
  have hgo : (!(!(c.kind == 0) && decide (d = 0))) = true := by
    rw [Bool.not_eq_true', Bool.and_eq_false_iff]
    by_cases h0 : c.kind = 0
    · exact .inl (by simp [h0])
    · exact .inr (by simp; exact fun e => hstop ⟨h0, e⟩)
  have hd0 : c.inner.length ≠ 0 → d ≠ 0 := fun hn hd0 => hstop ⟨fun h0 => hn (hin rfl h0), hd0⟩
  have hdd : c.kind = 0 ∨ (c.kind == 0) = false ∧ ((d : Int) == 0) = false ∧ ¬ c.kind = 0 ∧ ¬ (d : Int) = 0 := by
    by_cases h0 : c.kind = 0
    · exact .inl h0
    · have : ¬ d = 0 := fun e => hstop ⟨h0, e⟩
      exact .inr ⟨by simpa using h0, by simp; omega, h0, by omega⟩
  have HGO := Lib.hid hgo
  have HD0 := Lib.hid hd0
  have HK0 := Lib.hid (fun (e : c.kind = 0) => hin rfl e)
  clear hstop hin hgo hd0
  have hml : c.inner.length ≤ 9223372036854775807 := by
    rcases HH.out with ⟨hl, _⟩ | ⟨_, _, _, _, h2, h3, _⟩
    · rw [hl]; simp
    · unfold maxLen at h3; omega
  by_cases hn : c.inner = []
  · have hz : c.inner.length = 0 := by rw [hn]; rfl
    have hN := Lib.hid hn
    clear hn
    rcases hdd with h0 | ⟨h0, h1, h2, h3⟩
    all_goals
      go_wp2
      go_loopw [22] (fun s22 wx => s22 = .int .i64 0 ∧ w2 = wx) (fun _ _ => 0)
      case atStart => exact ⟨rfl, rfl⟩
      case round =>
        obtain ⟨rfl, rfl⟩ := hrel
        go_wp2
        go_ret
        exact ⟨ret_b (by rw [hN.out]; simp; first | exact HGO.out | simpa using HGO.out), K2.out⟩
  · have hd : d ≠ 0 := HD0.out fun e => hn (List.length_eq_zero_iff.1 e)
    obtain ⟨d', hd'⟩ : ∃ d', d = d' + 1 := ⟨d - 1, by omega⟩
    have hk0 : (c.kind == 0) = false ∧ ((d : Int) == 0) = false ∧ ¬ c.kind = 0 ∧ ¬ (d : Int) = 0 := by
      rcases hdd with h0 | h0
      · exact absurd (List.length_eq_zero_iff.1 (HK0.out h0)) hn
      · exact h0
    obtain ⟨hk1, hk2, hk3, hk4⟩ := hk0
    have HD := Lib.hid hd'
    clear hd'
    obtain ⟨a', n', he, hrow⟩ := HH.out.form
    cases he
    obtain ⟨b, o, rfl, h1, h2, hq, hb, hr⟩ := hrow hn
    have HR := Lib.hid hr
    have HQ := Lib.hid hq
    have IHD := Lib.hid (fun c a n W hx hh => IH.out d' (by have := HD.out; omega) c a n W (by have := HD.out; omega) hx hh)
    have hz2 : IntKind.i64.wrap ((d : Int) - 1) = (d' : Int) := by have := HD.out; rw [IntKind.wrap_i64]; omega
    have HZ2 := Lib.hid hz2
    clear hr hrow h2 hz2 hdd hq
    go_wp2
    go_loopw [22] (fun s22 wx => ∃ i : Nat, i ≤ c.inner.length ∧ s22 = .int .i64 (i : Int) ∧ Kp [] W wx ∧ (c.inner.take i).all (valN d') = true) (fun s22 _ => c.inner.length - (intOf s22).toNat)
    case atStart => exact ⟨0, Nat.zero_le _, rfl, K2.out, by simp⟩
    case round =>
      obtain ⟨i, hi, rfl, hkp, hall⟩ := hrel
      have KP := Lib.hid hkp
      have HAL := Lib.hid hall
      clear hkp hall
      by_cases hlt : i < c.inner.length
      · have hiz : (i : Int) < (c.inner.length : Int) := by omega
        obtain ⟨x, hx⟩ : ∃ x, c.inner[i]? = some x := ⟨_, List.getElem?_eq_getElem hlt⟩
        have hroww := CRow.keep KP.out.size (fun k hk (hq : Q k) => ⟨hq, KP.out.block k hk (by simp)⟩) _ b o HQ.out hb HR.out
        obtain ⟨v, hvx, htx, e0, e1, e2, e3, e4, e5, e6⟩ := hroww.cells hx
        obtain ⟨a2, n2, rfl, _⟩ := hvx.form
        obtain ⟨wa, hwa⟩ : ∃ wa, wr.alloc (.cells #[.int .i64 x.kind, .string (bs x.id), .string (bs x.lab), .int .i64 x.slot, .int .i64 x.tot, .int .i64 x.lst, .slice a2 x.inner.length n2] 24) = wa := ⟨_, rfl⟩
        obtain ⟨f0, f1, f2, f3, f4, f5, f6⟩ := (show Box x.kind (bs x.id) (bs x.lab) x.slot x.tot x.lst a2 x.inner.length n2 wr.heap.size wa by rw [← hwa]; exact al_new _ _).cells
        have hka : Kp [] wr wa := by rw [← hwa]; exact (Kp.refl [] wr).alloc _
        have HC := Lib.hid (IHD.out x a2 n2 wa htx (kp_has hvx hka))
        have KA := Lib.hid (KP.out.trans hka)
        have HX := Lib.hid hx
        have hwi : IntKind.i64.wrap ((i : Int) + 1) = ((i + 1 : Nat) : Int) := by rw [IntKind.wrap_i64]; omega
        have hz2 := HZ2.out
        clear hx hroww hvx htx hka
        go_wp2_with fail
        refine HC.out.mono ?_
        rintro r w3 ⟨rfl, hk3⟩
        have K3 := Lib.hid (KA.out.trans hk3)
        clear hk3 hz2
        cases hq2 : valN d' x with
        | false =>
          have HQ2 := Lib.hid hq2
          clear hq2
          go_wp2
          go_ret
          exact ⟨ret_b (by rw [HD.out]; simp; simpa using all_false HX.out HQ2.out), K3.out⟩
        | true =>
          have HQ2 := Lib.hid hq2
          clear hq2
          go_wp2
          exact ⟨⟨i + 1, by omega, rfl, K3.out, all_take_succ HAL.out HX.out HQ2.out⟩, by simp [intOf]; omega⟩
      · have hiz : ¬ ((i : Int) < (c.inner.length : Int)) := by omega
        have hie : i = c.inner.length := by omega
        subst hie
        go_wp2
        go_ret
        exact ⟨ret_b (by have := HAL.out; rw [List.take_length] at this; simp [HD.out, this]), KP.out⟩

/-- The error where something is not valid. -/
def formE (b : Bool) : Int := if b then 0 else 70
set_option maxHeartbeats 1000000 in
set_option maxRecDepth 100000 in
/-- Check. -/
theorem check_any {Q : Nat → Prop} (c : Con) (a : Option Addr) (n : Nat) (W : World) (hx : Tx c) (hh : CHas Q W (.slice a c.inner.length n) c.inner) :
    Calls Tryd.prog 14 #[.agg #[.int .i64 c.kind, .string (bs c.id), .string (bs c.lab), .int .i64 c.slot, .int .i64 c.tot, .int .i64 c.lst, .slice a c.inner.length n]] W fun r w' => r = .returned (.int .i64 (formE (valN 6 c))) ∧ Kp [] W w' := by
  obtain ⟨w1, hw1⟩ : ∃ w1, W.alloc (.cells #[.int .i64 c.kind, .string (bs c.id), .string (bs c.lab), .int .i64 c.slot, .int .i64 c.tot, .int .i64 c.lst, .slice a c.inner.length n] 24) = w1 := ⟨_, rfl⟩
  have hk1 : Kp [] W w1 := by rw [← hw1]; exact (Kp.refl [] W).alloc _
  obtain ⟨f0, f1, f2, f3, f4, f5, f6⟩ := (show Box c.kind (bs c.id) (bs c.lab) c.slot c.tot c.lst a c.inner.length n W.heap.size w1 by rw [← hw1]; exact al_new _ _).cells
  have HC := Lib.hid (isValid_any 6 c a n w1 (by omega) hx (kp_has hh hk1))
  have K1 := Lib.hid hk1
  clear hk1 hh hx
  generalize valN 6 c = vb at *
  go_enter Tryd.func14, Tryd.ntmps14
  go_wp2_with fail
  refine HC.out.mono ?_
  rintro r w3 ⟨rfl, hk3⟩
  have K3 := Lib.hid (K1.out.trans hk3)
  clear hk3
  cases vb with
  | false =>
    go_wp2
    go_ret
    exact ⟨rfl, K3.out⟩
  | true =>
    go_wp2
    go_ret
    exact ⟨rfl, K3.out⟩
end Go.Proofs.YtoohnjlghjapnaaDoor
