/- Format and Depth. -/
import Derived.Test.YtoohnjlghjapnaaDoorO
namespace Go.Proofs.YtoohnjlghjapnaaDoor
open Go.RowKit

/-- What Format answers. -/
def fmtS (c : Con) : List UInt8 := if valN 6 c = true ∧ c.txt.length ≤ 256 then c.txt else []
def fmtE (c : Con) : Int := if valN 6 c = true then (if c.txt.length ≤ 256 then 0 else 71) else 70

set_option maxHeartbeats 2000000 in
set_option maxRecDepth 100000 in
/-- Format. -/
theorem format_any {Q : Nat → Prop} (c : Con) (a : Option Addr) (n : Nat) (W : World) (hx : Tx c) (hh : CHas Q W (.slice a c.inner.length n) c.inner) :
    Calls Tryd.prog 11 #[.agg #[.int .i64 c.kind, .string (bs c.id), .string (bs c.lab), .int .i64 c.slot, .int .i64 c.tot, .int .i64 c.lst, .slice a c.inner.length n]] W fun r w' => r = .returned (.tuple #[.string (bs (fmtS c)), .int .i64 (fmtE c)]) ∧ Kp [] W w' := by
  obtain ⟨w1, hw1⟩ : ∃ w1, W.alloc (.cells #[.int .i64 c.kind, .string (bs c.id), .string (bs c.lab), .int .i64 c.slot, .int .i64 c.tot, .int .i64 c.lst, .slice a c.inner.length n] 24) = w1 := ⟨_, rfl⟩
  have hk1 : Kp [] W w1 := by rw [← hw1]; exact (Kp.refl [] W).alloc _
  have hb1 : Box c.kind (bs c.id) (bs c.lab) c.slot c.tot c.lst a c.inner.length n W.heap.size w1 := by rw [← hw1]; exact al_new _ _
  obtain ⟨A, hA⟩ : ∃ A, W.heap.size = A := ⟨_, rfl⟩
  rw [hA] at hb1
  obtain ⟨c0, c1, c2, c3, c4, c5, c6⟩ := hb1.cells
  have HC := Lib.hid (check_any c a n w1 hx (kp_has hh hk1))
  have K1 := Lib.hid hk1
  have B1 := Lib.hid hb1
  have HH := Lib.hid (kp_has hh hk1)
  by_cases hv : valN 6 c = true
  · have HT := Lib.hid (fun W h => text_any 6 (Nat.le_refl _) Q c a n W hv h)
    have htl := Nat.le_trans (txt_len 6 c hv) (tlen6 6 (Nat.le_refl _))
    have hts : (bs c.txt).size = c.txt.length := rfl
    rw [hv] at HC
    by_cases hl : c.txt.length ≤ 256
    · have h1 : fmtS c = c.txt := if_pos ⟨hv, hl⟩
      have h2 : fmtE c = 0 := by unfold fmtE; rw [if_pos hv, if_pos hl]
      rw [h1, h2]
      have hl2 : ¬ (256 : Int) < ((bs c.txt).size : Int) := by rw [hts]; omega
      have hl3 : ((bs c.txt).size : Int) ≤ 256 := by rw [hts]; omega
      generalize bs c.txt = R at *
      have hf : formE true = 0 := rfl
      clear hk1 hb1 hx hh hv h1 h2 hl hts htl
      go_enter Tryd.func11, Tryd.ntmps11
      go_wp2_with fail
      refine HC.out.mono ?_
      rintro r w2 ⟨rfl, hk2⟩
      obtain ⟨d0, d1, d2, d3, d4, d5, d6⟩ := (B1.out.kp hk2 (by simp)).cells
      have HC2 := Lib.hid (HT.out w2 (kp_has HH.out hk2))
      have K2 := Lib.hid (K1.out.trans hk2)
      clear hk2 c0 c1 c2 c3 c4 c5 c6
      go_wp2_with fail
      refine HC2.out.mono ?_
      rintro r w3 ⟨rfl, hk3⟩
      have K3 := Lib.hid (K2.out.trans hk3)
      clear hk3
      go_wp2
      go_ret2
      exact ⟨rfl, K3.out⟩
    · have h1 : fmtS c = [] := if_neg fun h => hl h.2
      have h2 : fmtE c = 71 := by unfold fmtE; rw [if_pos hv, if_neg hl]
      rw [h1, h2]
      have hl2 : (256 : Int) < ((bs c.txt).size : Int) := by rw [hts]; omega
      generalize bs c.txt = R at *
      have hf : formE true = 0 := rfl
      clear hk1 hb1 hx hh hv h1 h2 hl hts htl
      go_enter Tryd.func11, Tryd.ntmps11
      go_wp2_with fail
      refine HC.out.mono ?_
      rintro r w2 ⟨rfl, hk2⟩
      obtain ⟨d0, d1, d2, d3, d4, d5, d6⟩ := (B1.out.kp hk2 (by simp)).cells
      have HC2 := Lib.hid (HT.out w2 (kp_has HH.out hk2))
      have K2 := Lib.hid (K1.out.trans hk2)
      clear hk2 c0 c1 c2 c3 c4 c5 c6
      go_wp2_with fail
      refine HC2.out.mono ?_
      rintro r w3 ⟨rfl, hk3⟩
      have K3 := Lib.hid (K2.out.trans hk3)
      clear hk3
      go_wp2
      go_ret2
      exact ⟨rfl, K3.out⟩
  · have h1 : fmtS c = [] := if_neg fun h => hv h.1
    have h2 : fmtE c = 70 := by unfold fmtE; rw [if_neg hv]
    have hv2 : valN 6 c = false := by simpa using hv
    rw [h1, h2]
    rw [hv2] at HC
    have hf : formE false = 70 := rfl
    clear hk1 hb1 hx hh hv hv2 h1 h2
    go_enter Tryd.func11, Tryd.ntmps11
    go_wp2_with fail
    refine HC.out.mono ?_
    rintro r w2 ⟨rfl, hk2⟩
    have K2 := Lib.hid (K1.out.trans hk2)
    clear hk2 c0 c1 c2 c3 c4 c5 c6
    go_wp2
    go_ret2
    exact ⟨rfl, K2.out⟩

theorem depL_append : ∀ l m : List Con, depL (l ++ m) = max (depL l) (depL m)
  | [], m => by simp [depL]
  | c :: l, m => by
    rw [List.cons_append]
    simp only [depL, depL_append l m]
    omega
theorem depL_snoc {l : List Con} {j : Nat} {x : Con} (hx : l[j]? = some x) : depL (l.take (j + 1)) = max (depL (l.take j)) x.dep := by
  rw [List.take_add_one, hx, depL_append]
  simp [depL]
theorem depL_bound {d : Nat} {l : List Con} (h : l.all (valN d) = true) : depL l ≤ d := depL_le fun x hx => valN_dep d x (List.all_eq_true.1 h x hx)

set_option maxHeartbeats 4000000 in
set_option maxRecDepth 100000 in
theorem depth_any {Q : Nat → Prop} : ∀ (d : Nat) (c : Con) (a : Option Addr) (n : Nat) (W : World), d ≤ 1000 → valN d c = true → CHas Q W (.slice a c.inner.length n) c.inner →
    Calls Tryd.prog 32 #[.agg #[.int .i64 c.kind, .string (bs c.id), .string (bs c.lab), .int .i64 c.slot, .int .i64 c.tot, .int .i64 c.lst, .slice a c.inner.length n]] W fun r w' => r = .returned (.int .i64 (c.dep : Int)) ∧ Kp [] W w' := by
  intro d c a n W hd hv hh
  induction d using Nat.strongRecOn generalizing c a n W with
  | _ d ih =>
  obtain ⟨w1, hw1⟩ : ∃ w1, W.alloc (.cells #[.int .i64 c.kind, .string (bs c.id), .string (bs c.lab), .int .i64 c.slot, .int .i64 c.tot, .int .i64 c.lst, .slice a c.inner.length n] 24) = w1 := ⟨_, rfl⟩
  have hk1 : Kp [] W w1 := by rw [← hw1]; exact (Kp.refl [] W).alloc _
  have hb1 : Box c.kind (bs c.id) (bs c.lab) c.slot c.tot c.lst a c.inner.length n W.heap.size w1 := by rw [← hw1]; exact al_new _ _
  obtain ⟨A, hA⟩ : ∃ A, W.heap.size = A := ⟨_, rfl⟩
  rw [hA] at hb1
  obtain ⟨c0, c1, c2, c3, c4, c5, c6⟩ := hb1.cells
  have K1 := Lib.hid hk1
  have hde := dep_eq c
  by_cases hk0 : c.kind = 0
  · rw [hde, if_pos hk0]
    have hk0' : (c.kind == 0) = true := by simpa using hk0
    clear hk1 hb1 hv hh ih hde hk0
    go_enter Tryd.func32, Tryd.ntmps32
    go_wp2
    go_ret
    exact ⟨rfl, K1.out⟩
  · rw [hde, if_neg hk0]
    have hk0' : (c.kind == 0) = false := by simpa using hk0
    obtain ⟨d', rfl⟩ : ∃ d', d = d' + 1 := by
      cases d with
      | zero => unfold valN at hv; rw [if_neg hk0] at hv; cases hv
      | succ d => exact ⟨d, rfl⟩
    have hall : c.inner.all (valN d') = true := by
      unfold valN at hv
      rw [if_neg hk0] at hv
      simp only [Bool.and_eq_true] at hv
      exact hv.2
    have hne : c.inner ≠ [] ∨ c.inner = [] := by by_cases e : c.inner = [] <;> simp [e]
    have IH := Lib.hid (fun c a n W hv hh => ih d' (by omega) c a n W (by omega) hv hh)
    have HALL := Lib.hid hall
    have HDB := Lib.hid (depL_bound hall)
    have HDT := Lib.hid (fun j => depL_bound (l := c.inner.take j) (d := d') (List.all_eq_true.2 fun x hx => List.all_eq_true.1 hall x (List.mem_of_mem_take hx)))
    have HH := Lib.hid hh
    have hml : c.inner.length ≤ 9223372036854775807 := by
      rcases hh with ⟨hl, _⟩ | ⟨_, _, _, _, h2, h3, _⟩
      · rw [hl]; simp
      · unfold maxLen at h3; omega
    clear hk1 hb1 hv ih hde hall hh
    rcases hne with hne | hne
    · obtain ⟨a', n', he, hrow⟩ := HH.out.form
      cases he
      obtain ⟨b, o, rfl, h1, h2, hq, hb, hr⟩ := hrow hne
      have HR := Lib.hid hr
      have HQ := Lib.hid hq
      clear hr hrow h2 hq hne
      go_enter Tryd.func32, Tryd.ntmps32
      go_wp2
      go_loopw [3, 12] (fun s3 s12 wx => ∃ i : Nat, i ≤ c.inner.length ∧ s12 = .int .i64 (i : Int) ∧ s3 = .int .i64 ((depL (c.inner.take i) : Nat) : Int) ∧ Kp [] W wx) (fun _ s12 _ => c.inner.length - (intOf s12).toNat)
      case atStart => exact ⟨0, Nat.zero_le _, rfl, by simp [depL], K1.out⟩
      case round =>
        obtain ⟨i, hi, rfl, rfl, hkp⟩ := hrel
        have KP := Lib.hid hkp
        have hdt := HDT.out i
        clear hkp
        by_cases hlt : i < c.inner.length
        · have hiz : (i : Int) < (c.inner.length : Int) := by omega
          obtain ⟨x, hx⟩ : ∃ x, c.inner[i]? = some x := ⟨_, List.getElem?_eq_getElem hlt⟩
          have hroww := CRow.keep KP.out.size (fun k hk (hq : Q k) => ⟨hq, KP.out.block k hk (by simp)⟩) _ b o HQ.out hb HR.out
          obtain ⟨v, hvx, htx, e0, e1, e2, e3, e4, e5, e6⟩ := hroww.cells hx
          obtain ⟨a2, n2, rfl, _⟩ := hvx.form
          obtain ⟨wa, hwa⟩ : ∃ wa, wr.alloc (.cells #[.int .i64 x.kind, .string (bs x.id), .string (bs x.lab), .int .i64 x.slot, .int .i64 x.tot, .int .i64 x.lst, .slice a2 x.inner.length n2] 24) = wa := ⟨_, rfl⟩
          obtain ⟨f0, f1, f2, f3, f4, f5, f6⟩ := (show Box x.kind (bs x.id) (bs x.lab) x.slot x.tot x.lst a2 x.inner.length n2 wr.heap.size wa by rw [← hwa]; exact al_new _ _).cells
          have hka : Kp [] wr wa := by rw [← hwa]; exact (Kp.refl [] wr).alloc _
          have HC := Lib.hid (IH.out x a2 n2 wa (List.all_eq_true.1 HALL.out x (List.mem_of_getElem? hx)) (kp_has hvx hka))
          have KA := Lib.hid (KP.out.trans hka)
          have hxd := valN_dep d' x (List.all_eq_true.1 HALL.out x (List.mem_of_getElem? hx))
          have HS := Lib.hid (depL_snoc hx)
          have hwi : IntKind.i64.wrap ((i : Int) + 1) = ((i + 1 : Nat) : Int) := by rw [IntKind.wrap_i64]; omega
          clear hx hroww hvx htx hka
          generalize x.dep = xd at *
          generalize depL (c.inner.take i) = dl at *
          go_wp2_with fail
          refine HC.out.mono ?_
          rintro r w3 ⟨rfl, hk3⟩
          have K3 := Lib.hid (KA.out.trans hk3)
          clear hk3
          go_wp2
          exact ⟨⟨i + 1, by omega, rfl, by rw [HS.out]; congr 1; omega, K3.out⟩, by simp [intOf]; omega⟩
        · have hiz : ¬ ((i : Int) < (c.inner.length : Int)) := by omega
          have hie : i = c.inner.length := by omega
          have HS := Lib.hid (show depL (c.inner.take i) = depL c.inner by rw [hie, List.take_length])
          generalize depL (c.inner.take i) = dl at *
          go_wp2
          go_ret
          rw [← HS.out]
          exact ⟨ret_int (by omega), KP.out⟩
    · have hz : c.inner.length = 0 := by rw [hne]; rfl
      have HN := Lib.hid (show depL c.inner = 0 by rw [hne]; rfl)
      clear hne
      go_enter Tryd.func32, Tryd.ntmps32
      go_wp2
      go_loopw [3, 12] (fun s3 s12 wx => s3 = .int .i64 0 ∧ s12 = .int .i64 0 ∧ Kp [] W wx) (fun _ _ _ => 0)
      case atStart => exact ⟨rfl, rfl, (Kp.refl [] W).alloc _⟩
      case round =>
        obtain ⟨rfl, rfl, hkp⟩ := hrel
        go_wp2
        go_ret
        rw [HN.out]
        exact ⟨rfl, hkp⟩

set_option maxHeartbeats 2000000 in
set_option maxRecDepth 100000 in
/-- Depth. -/
theorem depthOf_any {Q : Nat → Prop} (c : Con) (a : Option Addr) (n : Nat) (W : World) (hx : Tx c) (hv : valN 6 c = true) (hh : CHas Q W (.slice a c.inner.length n) c.inner) :
    Calls Tryd.prog 20 #[.agg #[.int .i64 c.kind, .string (bs c.id), .string (bs c.lab), .int .i64 c.slot, .int .i64 c.tot, .int .i64 c.lst, .slice a c.inner.length n]] W fun r w' => r = .returned (.int .i64 (c.dep : Int)) ∧ Kp [] W w' := by
  obtain ⟨w1, hw1⟩ : ∃ w1, W.alloc (.cells #[.int .i64 c.kind, .string (bs c.id), .string (bs c.lab), .int .i64 c.slot, .int .i64 c.tot, .int .i64 c.lst, .slice a c.inner.length n] 24) = w1 := ⟨_, rfl⟩
  have hk1 : Kp [] W w1 := by rw [← hw1]; exact (Kp.refl [] W).alloc _
  have hb1 : Box c.kind (bs c.id) (bs c.lab) c.slot c.tot c.lst a c.inner.length n W.heap.size w1 := by rw [← hw1]; exact al_new _ _
  obtain ⟨A, hA⟩ : ∃ A, W.heap.size = A := ⟨_, rfl⟩
  rw [hA] at hb1
  obtain ⟨c0, c1, c2, c3, c4, c5, c6⟩ := hb1.cells
  have HC := Lib.hid (check_any c a n w1 hx (kp_has hh hk1))
  rw [hv] at HC
  have K1 := Lib.hid hk1
  have B1 := Lib.hid hb1
  have HH := Lib.hid (kp_has hh hk1)
  have HV := Lib.hid hv
  have hf : formE true = 0 := rfl
  clear hk1 hb1 hx hh hv
  go_enter Tryd.func20, Tryd.ntmps20
  go_wp2_with fail
  refine HC.out.mono ?_
  rintro r w2 ⟨rfl, hk2⟩
  obtain ⟨d0, d1, d2, d3, d4, d5, d6⟩ := (B1.out.kp hk2 (by simp)).cells
  have HC2 := Lib.hid (depth_any 6 c a n w2 (by omega) HV.out (kp_has HH.out hk2))
  have K2 := Lib.hid (K1.out.trans hk2)
  clear hk2 c0 c1 c2 c3 c4 c5 c6
  go_wp2_with fail
  refine HC2.out.mono ?_
  rintro r w3 ⟨rfl, hk3⟩
  have K3 := Lib.hid (K2.out.trans hk3)
  clear hk3
  go_wp2
  go_ret
  exact ⟨rfl, K3.out⟩
end Go.Proofs.YtoohnjlghjapnaaDoor
