/- MatchTurns: of a match and the one with the other op just one holds. -/
import Derived.Test.YthblgkjmjfhkdaaKWd
import Derived.Test.YthblgkjmjfhkdaaKGsO
import Derived.Test.YthblgkjmjfhkdaaKKn
namespace Go.Proofs.Ythblgkjmjfhkdaa
open Go.RowKit

theorem tape_new {w : World} {lv : Value} (hi : Ints w w.heap.size lv) : Tp (w.alloc (.cells #[lv, .int .i64 0] 31)) w.heap.size 0 :=
  ⟨lv, heap_alloc_last _ _, hi.keep fun b hb => by have := ((Kp.refl [] w).alloc (.cells #[lv, .int .i64 0] 31)).block b hb (by simp); exact this⟩
theorem mB {op : Int} (ho : op = 1 ∨ op = 2) : matchB op = true ∧ matchB (3 - op) = true := by
  rcases ho with rfl | rfl <;> exact ⟨rfl, rfl⟩
theorem st_sw (tk : Int) (tn tv : List UInt8) {op : Int} (ho : op = 1 ∨ op = 2) : statB ⟨tk, tn, 3 - op, tv⟩ = statB ⟨tk, tn, op, tv⟩ := by
  unfold statB
  simp only [(mB ho).1, (mB ho).2]
theorem up_sw (tk : Int) (tn tv : List UInt8) {op : Int} (ho : op = 1 ∨ op = 2) : upB ⟨tk, tn, 3 - op, tv⟩ = upB ⟨tk, tn, op, tv⟩ := by
  unfold upB
  simp only [(mB ho).1, (mB ho).2]
theorem dr_sw (tk : Int) (tn tv : List UInt8) {op : Int} (ho : op = 1 ∨ op = 2) : drB ⟨tk, tn, 3 - op, tv⟩ = drB ⟨tk, tn, op, tv⟩ := by
  unfold drB
  simp only [(mB ho).1, (mB ho).2]
theorem eq_sw {op : Int} (ho : op = 1 ∨ op = 2) (b : Bool) : (b == ((3 - op) == 1)) = !(b == (op == 1)) := by
  rcases ho with rfl | rfl <;> cases b <;> rfl
theorem devB_sw (tk : Int) (tn tv : List UInt8) {op : Int} (ho : op = 1 ∨ op = 2) (d : De.Dev) (l : List De.Atr) (h : (statB ⟨tk, tn, op, tv⟩ || upB ⟨tk, tn, op, tv⟩) = true) : devB ⟨tk, tn, 3 - op, tv⟩ d l = !devB ⟨tk, tn, op, tv⟩ d l := by
  unfold devB
  rw [st_sw tk tn tv ho, up_sw tk tn tv ho, h, Bool.true_and, Bool.true_and]
  exact eq_sw ho (hitB ⟨tk, tn, op, tv⟩ _)
theorem draftB_sw (tk : Int) (tn tv : List UInt8) {op : Int} (ho : op = 1 ∨ op = 2) (act : ByteArray) (d : Dra) (pl : List De.Atr) (tl : List (List UInt8)) (h : drB ⟨tk, tn, op, tv⟩ = true) : draftB ⟨tk, tn, 3 - op, tv⟩ act d pl tl = !draftB ⟨tk, tn, op, tv⟩ act d pl tl := by
  unfold draftB
  rw [dr_sw tk tn tv ho, h, Bool.true_and, Bool.true_and]
  exact eq_sw ho (List.any _ (hitB ⟨tk, tn, op, tv⟩))
theorem drB_key (tk : Int) (tn tv : List UInt8) {op : Int} (ho : op = 1 ∨ op = 2) (h : drB ⟨tk, tn, op, tv⟩ = false) : ¬ tk = 1 ∧ ¬ tk = 6 ∧ ¬ tk = 7 ∧ ¬ tk = 13 := by
  unfold drB at h
  rw [(mB ho).1, Bool.and_true] at h
  refine ⟨?_, ?_, ?_, ?_⟩ <;> (intro e; subst e; cases h)
/-- The rows of a draft do not lie in the tape. -/
theorem has_tape {W W' : World} {tb k : Nat} {v : Value} {l : List De.Atr} (h : De.Has W v l) (hT : Tp W tb k) (hk : Kp [tb] W W') : De.Has W' v l := by
  rcases h with ⟨a, c, rfl, rfl⟩ | ⟨b, o, c, rfl, hb, hr⟩
  · exact .inl ⟨a, c, rfl, rfl⟩
  · cases l with
    | nil => exact .inl ⟨_, c, rfl, rfl⟩
    | cons x l =>
      refine hasT (.inr ⟨b, o, c, rfl, hb, hr⟩) hk fun b' hb' e => ?_
      cases hb'
      subst e
      obtain ⟨lv, hh, hi⟩ := hT
      have h1 := (hr 0 x rfl).1
      rw [cell_of_row _ _ _ _ _ _ hh] at h1
      have ho : o = 0 ∨ o = 1 ∨ 2 ≤ o := by omega
      rcases ho with rfl | rfl | ho
      · obtain ⟨a', n', c', hlv⟩ : ∃ a n c, lv = .slice a n c := by
          rcases hi with ⟨a, c, e⟩ | ⟨b, o, n, c, e, _⟩
          · exact ⟨_, _, _, e⟩
          · exact ⟨_, _, _, e⟩
        subst hlv
        cases h1
      · cases h1
      · rw [Array.getElem?_eq_none (by simp; omega)] at h1
        cases h1
theorem tags_tape {W W' : World} {tb k : Nat} {v : Value} {l : List (List UInt8)} (h : stT.Has W v l) (hT : Tp W tb k) (hk : Kp [tb] W W') : stT.Has W' v l := by
  rcases h with ⟨a, c, rfl, rfl⟩ | ⟨b, o, c, rfl, hb, hr⟩
  · exact .inl ⟨a, c, rfl, rfl⟩
  · cases l with
    | nil => exact .inl ⟨_, c, rfl, rfl⟩
    | cons x l =>
      refine RT.Has.kp (r := stT) (.inr ⟨b, o, c, rfl, hb, hr⟩) hk fun b' hb' e => ?_
      cases hb'
      obtain rfl : b = tb := by simpa using e
      obtain ⟨lv, hh, hi⟩ := hT
      have h1 := hr 0 x rfl 0 (.string (bs x)) rfl
      rw [cell_of_row _ _ _ _ _ _ hh] at h1
      have ho : o = 0 ∨ o = 1 ∨ 2 ≤ o := by omega
      rcases ho with rfl | rfl | ho
      · obtain ⟨a', n', c', hlv⟩ : ∃ a n c, lv = .slice a n c := by
          rcases hi with ⟨a, c, e⟩ | ⟨b, o, n, c, e, _⟩
          · exact ⟨_, _, _, e⟩
          · exact ⟨_, _, _, e⟩
        subst hlv
        cases h1
      · cases h1
      · rw [Array.getElem?_eq_none (by simp; omega)] at h1
        cases h1
set_option maxRecDepth 100000 in
set_option maxHeartbeats 16000000 in
theorem turns_any (a : Option Addr) (n c : Nat) {w : World} (hi : Ints w w.heap.size (.slice a n c)) : Calls Try.prog 5 #[.slice a n c] w fun e w' => e = .returned (.bool true) ∧ Kp [] w w' := by
  have HKN := Lib.hid known_any
  obtain ⟨tb, htb⟩ : ∃ tb, w.heap.size = tb := ⟨_, rfl⟩
  obtain ⟨w1, hw1⟩ : ∃ w1, w.alloc (.cells #[.slice a n c, .int .i64 0] 31) = w1 := ⟨_, rfl⟩
  have ht0 := tape_new hi
  rw [hw1, htb] at ht0
  have hk1 : Kp [] w w1 := by rw [← hw1]; exact (Kp.refl [] w).alloc _
  have HTW := Lib.hid (show w.heap.size ≤ tb by omega)
  have HK1 := Lib.hid hk1
  have HT := Lib.hid ht0
  clear ht0 hi hk1
  go_enter Try.func5, Try.ntmps5
  go_upto_region 5 with (first
    | (go_at_call 19; refine Calls.mono (by with_reducible exact matches_op (by omega) HT.out) ?_; rintro e w2 ⟨⟨tk, tn, op, tv⟩, rfl, hg, ho, ⟨k2, hk2, hT⟩, hkp⟩; simp only at ho; have HT2 := Lib.hid hT; have HG := Lib.hid hg; have HK2 := Lib.hid hkp; have hwr : IntKind.i64.wrap (3 - op) = 3 - op := (by rw [IntKind.wrap_i64] <;> omega); clear hT hg hkp; dsimp only [tmC])
    | (go_at_call 16; refine Calls.mono (draw_any (by omega) HT2.out) ?_; rintro e w3 ⟨d, pl, tl, rfl, hin, hsr, ⟨k3, hk3, hT⟩, hkp⟩; have HT3 := Lib.hid hT; have HI3 := Lib.hid hin; have HSR := Lib.hid hsr; have HK3 := Lib.hid (HK2.out.trans hkp); clear hT hin hsr hkp; dsimp only [draC])
    | (go_at_call 8; refine Calls.mono (wdev_any (by omega) HT3.out) ?_; rintro e w4 ⟨⟨xi, xp, xn, xo, xs, xd, xa, xk, xm, xv⟩, l, rfl, hhas, hsm, hln, hT, hkp⟩; obtain ⟨ad, ac, hv, -⟩ := hhas.form; simp only at hv; subst hv; have HH := Lib.hid hhas; have HSM := Lib.hid hsm; have HLN := Lib.hid hln; have HKL := Lib.hid hkp; have HK4 := Lib.hid (HK3.out.trans hkp); clear hT hhas hsm hln hkp; dsimp only [De.devV, De.devC]))
  have HI4 := Lib.hid (show DrIn w4 d pl tl from ⟨has_tape HI3.out.p HT3.out HKL.out, tags_tape HI3.out.t HT3.out HKL.out⟩)
  obtain ⟨p4, hp4⟩ : ∃ p, w4.heap.size = p := ⟨_, rfl⟩
  obtain ⟨p5, hp5⟩ : ∃ p, p4 + 1 = p := ⟨_, rfl⟩
  obtain ⟨p6, hp6⟩ : ∃ p, p5 + 1 = p := ⟨_, rfl⟩
  obtain ⟨p7, hp7⟩ : ∃ p, p6 + 1 = p := ⟨_, rfl⟩
  rw [hp4, hp5, hp6, hp7]
  generalize hu1 : w4.alloc (.cells #[.int .i64 tk, .string (bs tn), .int .i64 op, .string (bs tv)] 23) = u1
  generalize hu2 : u1.alloc (.cells #[.slice d.props.a d.props.n d.props.c, .slice d.tags.a d.tags.n d.tags.c, .slice d.links.a d.links.n d.links.c, .slice d.run.a d.run.n d.run.c, .slice d.load.a d.load.n d.load.c, .string d.name, .int .i64 d.prio, .string d.owner, .string d.group, .int .i64 d.mode, .string d.res, .int .i64 d.calls, .int .i64 d.ticks, .slice d.closed.a d.closed.n d.closed.c] 43) = u2
  generalize hu3 : u2.alloc (.cells #[.int .i64 xi, .int .i64 xp, .string xn, .string xo, .string xs, .string xd, .string xa, .int .i64 xk, .int .i64 xm, .slice ad l.length ac] 26) = u3
  generalize hu4 : u3.alloc (.cells #[.int .i64 tk, .string (bs tn), .int .i64 (3 - op), .string (bs tv)] 23) = u4
  have z1 : u1.heap.size = p5 := by rw [← hu1, ← hp5, ← hp4]; simp
  have z2 : u2.heap.size = p6 := by rw [← hu2, ← hp6, ← z1]; simp
  have z3 : u3.heap.size = p7 := by rw [← hu3, ← hp7, ← z2]; simp
  have k1 : Kp [] w4 u1 := by rw [← hu1]; exact (Kp.refl [] _).alloc _
  have k2' : Kp [] u1 u2 := by rw [← hu2]; exact (Kp.refl [] _).alloc _
  have k3' : Kp [] u2 u3 := by rw [← hu3]; exact (Kp.refl [] _).alloc _
  have k4 : Kp [] u3 u4 := by rw [← hu4]; exact (Kp.refl [] _).alloc _
  have m4 : MAt u4 p4 ⟨tk, tn, op, tv⟩ := (show MAt u1 p4 ⟨tk, tn, op, tv⟩ by rw [← hu1, ← hp4]; exact heap_alloc_last w4 _).kp0 (k2'.trans (k3'.trans k4))
  have m5 : DAt u4 p5 d := (show DAt u2 p5 d by rw [← hu2, ← z1]; exact heap_alloc_last u1 _).kp0 (k3'.trans k4)
  have m6 : De.BoxAt u4 p6 #[.int .i64 xi, .int .i64 xp, .string xn, .string xo, .string xs, .string xd, .string xa, .int .i64 xk, .int .i64 xm, .slice ad l.length ac] := by
    have h : De.BoxAt u3 p6 #[.int .i64 xi, .int .i64 xp, .string xn, .string xo, .string xs, .string xd, .string xa, .int .i64 xk, .int .i64 xm, .slice ad l.length ac] := by rw [← hu3, ← z2]; exact heap_alloc_last u2 _
    exact (k4.block _ (block_lt h) (by simp)).trans h
  have m7 : MAt u4 p7 ⟨tk, tn, 3 - op, tv⟩ := by rw [← hu4, ← z3]; exact heap_alloc_last u3 _
  have ku : Kp [] w4 u4 := k1.trans (k2'.trans (k3'.trans k4))
  have hin := HI4.out.kp0 ku
  have hhs := HH.out.below ku.bel
  have hsr := HSR.out ⟨#[97, 100, 100]⟩ (by decide)
  have htv : tv.length ≤ 4611686018427387904 := Nat.le_trans HG.out.1.2 (by decide)
  have HKU := Lib.hid ((HK4.out.trans (ku.mono (by simp))))
  have hll : l.length ≤ 9223372036854775807 := Nat.le_trans HLN.out (by decide)
  have HD1 := Lib.hid (fun W (hk : Kp [] u4 W) => (show Calls Try.prog 14 #[.agg #[.int .i64 tk, .string (bs tn), .int .i64 op, .string (bs tv)], .agg #[.int .i64 xi, .int .i64 xp, .string xn, .string xo, .string xs, .string xd, .string xa, .int .i64 xk, .int .i64 xm, .slice ad l.length ac]] W fun e w' => e = .returned (.bool (devB ⟨tk, tn, op, tv⟩ ⟨xi, xp, xn, xo, xs, xd, xa, xk, xm, .slice ad l.length ac⟩ l)) ∧ Kp [] W w' from device_any ⟨tk, tn, op, tv⟩ ⟨xi, xp, xn, xo, xs, xd, xa, xk, xm, .slice ad l.length ac⟩ l W htv HSM.out hll (hhs.below hk.bel)))
  have HD2 := Lib.hid (fun W (hk : Kp [] u4 W) => (show Calls Try.prog 14 #[.agg #[.int .i64 tk, .string (bs tn), .int .i64 (3 - op), .string (bs tv)], .agg #[.int .i64 xi, .int .i64 xp, .string xn, .string xo, .string xs, .string xd, .string xa, .int .i64 xk, .int .i64 xm, .slice ad l.length ac]] W fun e w' => e = .returned (.bool (devB ⟨tk, tn, 3 - op, tv⟩ ⟨xi, xp, xn, xo, xs, xd, xa, xk, xm, .slice ad l.length ac⟩ l)) ∧ Kp [] W w' from device_any ⟨tk, tn, 3 - op, tv⟩ ⟨xi, xp, xn, xo, xs, xd, xa, xk, xm, .slice ad l.length ac⟩ l W htv HSM.out hll (hhs.below hk.bel)))
  have HR1 := Lib.hid (fun W (hk : Kp [] u4 W) => (show Calls Try.prog 17 #[.agg #[.int .i64 tk, .string (bs tn), .int .i64 op, .string (bs tv)], .string ⟨#[97, 100, 100]⟩, .agg #[.slice d.props.a d.props.n d.props.c, .slice d.tags.a d.tags.n d.tags.c, .slice d.links.a d.links.n d.links.c, .slice d.run.a d.run.n d.run.c, .slice d.load.a d.load.n d.load.c, .string d.name, .int .i64 d.prio, .string d.owner, .string d.group, .int .i64 d.mode, .string d.res, .int .i64 d.calls, .int .i64 d.ticks, .slice d.closed.a d.closed.n d.closed.c]] W fun e w' => e = .returned (.bool (draftB ⟨tk, tn, op, tv⟩ ⟨#[97, 100, 100]⟩ d pl tl)) ∧ Kp [] W w' from draft_any ⟨tk, tn, op, tv⟩ ⟨#[97, 100, 100]⟩ d pl tl W htv hsr (hin.kp0 hk)))
  have HR2 := Lib.hid (fun W (hk : Kp [] u4 W) => (show Calls Try.prog 17 #[.agg #[.int .i64 tk, .string (bs tn), .int .i64 (3 - op), .string (bs tv)], .string ⟨#[97, 100, 100]⟩, .agg #[.slice d.props.a d.props.n d.props.c, .slice d.tags.a d.tags.n d.tags.c, .slice d.links.a d.links.n d.links.c, .slice d.run.a d.run.n d.run.c, .slice d.load.a d.load.n d.load.c, .string d.name, .int .i64 d.prio, .string d.owner, .string d.group, .int .i64 d.mode, .string d.res, .int .i64 d.calls, .int .i64 d.ticks, .slice d.closed.a d.closed.n d.closed.c]] W fun e w' => e = .returned (.bool (draftB ⟨tk, tn, 3 - op, tv⟩ ⟨#[97, 100, 100]⟩ d pl tl)) ∧ Kp [] W w' from draft_any ⟨tk, tn, 3 - op, tv⟩ ⟨#[97, 100, 100]⟩ d pl tl W htv hsr (hin.kp0 hk)))
  have HS1 := Lib.hid (fun W => (show Calls Try.prog 10 #[.agg #[.int .i64 tk, .string (bs tn), .int .i64 op, .string (bs tv)]] W fun e w' => e = .returned (.bool (statB ⟨tk, tn, op, tv⟩)) ∧ Kp [] W w' from static_any ⟨tk, tn, op, tv⟩ W))
  have HU1 := Lib.hid (fun W => (show Calls Try.prog 12 #[.agg #[.int .i64 tk, .string (bs tn), .int .i64 op, .string (bs tv)]] W fun e w' => e = .returned (.bool (upB ⟨tk, tn, op, tv⟩)) ∧ Kp [] W w' from upward_any ⟨tk, tn, op, tv⟩ W))
  have HDC := Lib.hid (fun W (h : De.BoxAt W p6 #[.int .i64 xi, .int .i64 xp, .string xn, .string xo, .string xs, .string xd, .string xa, .int .i64 xk, .int .i64 xm, .slice ad l.length ac]) => (show W.cell? ⟨p6, 0, none⟩ = some (.int .i64 xi) ∧ W.cell? ⟨p6, 1, none⟩ = some (.int .i64 xp) ∧ W.cell? ⟨p6, 2, none⟩ = some (.string xn) ∧ W.cell? ⟨p6, 3, none⟩ = some (.string xo) ∧ W.cell? ⟨p6, 4, none⟩ = some (.string xs) ∧ W.cell? ⟨p6, 5, none⟩ = some (.string xd) ∧ W.cell? ⟨p6, 6, none⟩ = some (.string xa) ∧ W.cell? ⟨p6, 7, none⟩ = some (.int .i64 xk) ∧ W.cell? ⟨p6, 8, none⟩ = some (.int .i64 xm) ∧ W.cell? ⟨p6, 9, none⟩ = some (.slice ad l.length ac) from ⟨h.cell 0, h.cell 1, h.cell 2, h.cell 3, h.cell 4, h.cell 5, h.cell 6, h.cell 7, h.cell 8, h.cell 9⟩))
  have HM4 := Lib.hid m4
  have HM5 := Lib.hid m5
  have HM6 := Lib.hid m6
  have HM7 := Lib.hid m7
  have HKW := Lib.hid (fun W (hk : Kp [] u4 W) => (show Kp [] w W from HK1.out.up (HKU.out.trans (hk.mono (by simp))) (fun x hx => .inr (by have := HTW.out; simp at hx; omega))))
  have HC4 := Lib.hid (fun W (hk : Kp [] u4 W) => (show W.cell? ⟨p4, 0, none⟩ = some (.int .i64 tk) ∧ W.cell? ⟨p4, 1, none⟩ = some (.string (bs tn)) ∧ W.cell? ⟨p4, 2, none⟩ = some (.int .i64 op) ∧ W.cell? ⟨p4, 3, none⟩ = some (.string (bs tv)) from (HM4.out.kp0 hk).cells))
  have HC5 := Lib.hid (fun W (hk : Kp [] u4 W) => (HM5.out.kp0 hk).cells)
  have HC6 := Lib.hid (fun W (hk : Kp [] u4 W) => HDC.out W ((hk.block p6 (block_lt HM6.out) (by simp)).trans HM6.out))
  clear z1 z2 z3 k1 k2' k3' k4 m4 m5 m6 m7 ku hin hhs hsr hu1 hu2 hu3 hu4 hll HI3 HI4 hp4 hp5 hp6 hp7
  obtain ⟨t0, t1, t2, t3⟩ := HC4.out u4 (Kp.refl [] _)
  have hsw := devB_sw tk tn tv ho ⟨xi, xp, xn, xo, xs, xd, xa, xk, xm, .slice ad l.length ac⟩ l
  have hdw := draftB_sw tk tn tv ho ⟨#[97, 100, 100]⟩ d pl tl
  have hdk := drB_key tk tn tv ho
  have hno : (statB ⟨tk, tn, op, tv⟩ || upB ⟨tk, tn, op, tv⟩) = false → devB ⟨tk, tn, op, tv⟩ ⟨xi, xp, xn, xo, xs, xd, xa, xk, xm, .slice ad l.length ac⟩ l = false := fun h => by
    unfold devB
    rw [h, Bool.false_and]
  have hno2 : drB ⟨tk, tn, op, tv⟩ = false → draftB ⟨tk, tn, op, tv⟩ ⟨#[97, 100, 100]⟩ d pl tl = false := fun h => by
    unfold draftB
    rw [h, Bool.false_and]
  have hdy := fun h => dkey_cases (t := ⟨tk, tn, op, tv⟩) h
  simp only at hdy
  generalize statB ⟨tk, tn, op, tv⟩ = sb at *
  generalize upB ⟨tk, tn, op, tv⟩ = ub at *
  generalize drB ⟨tk, tn, op, tv⟩ = db at *
  generalize devB ⟨tk, tn, op, tv⟩ ⟨xi, xp, xn, xo, xs, xd, xa, xk, xm, .slice ad l.length ac⟩ l = b1 at *
  generalize devB ⟨tk, tn, 3 - op, tv⟩ ⟨xi, xp, xn, xo, xs, xd, xa, xk, xm, .slice ad l.length ac⟩ l = b2 at *
  generalize draftB ⟨tk, tn, op, tv⟩ ⟨#[97, 100, 100]⟩ d pl tl = b3 at *
  generalize draftB ⟨tk, tn, 3 - op, tv⟩ ⟨#[97, 100, 100]⟩ d pl tl = b4 at *
  have hcase : sb = true ∨ (sb = false ∧ ub = true) ∨ (sb = false ∧ ub = false) := by cases sb <;> cases ub <;> simp
  rcases hcase with rfl | ⟨rfl, rfl⟩ | ⟨rfl, rfl⟩
  · have hb := hsw rfl
    subst hb
    clear hsw hdw hdk hno hno2 hdy
    go_upto_region 6 with (go_at_call 10; refine Calls.mono (by with_reducible exact HS1.out _) ?_; rintro e w5 ⟨rfl, hk⟩; obtain ⟨t0, t1, t2, t3⟩ := HC4.out w5 hk; have HQ := Lib.hid hk; clear hk)
    cases b1
    · skip
      have HST := Lib.hid (show MAt w5.drew p4 ⟨tk, tn, op, tv⟩ ∧ MAt w5.drew p7 ⟨tk, tn, 3 - op, tv⟩ ∧ De.BoxAt w5.drew p6 #[.int .i64 xi, .int .i64 xp, .string xn, .string xo, .string xs, .string xd, .string xa, .int .i64 xk, .int .i64 xm, .slice ad l.length ac] ∧ Kp [] u4 w5.drew from ⟨HM4.out.kp0 (HQ.out.drew 1), HM7.out.kp0 (HQ.out.drew 1), ((HQ.out.drew 1).block p6 (block_lt HM6.out) (by simp)).trans HM6.out, HQ.out.drew 1⟩)
      refine wp_region_held_drew (S := fun W => MAt W p4 ⟨tk, tn, op, tv⟩ ∧ MAt W p7 ⟨tk, tn, 3 - op, tv⟩ ∧ De.BoxAt W p6 #[.int .i64 xi, .int .i64 xp, .string xn, .string xo, .string xs, .string xd, .string xa, .int .i64 xk, .int .i64 xm, .slice ad l.length ac] ∧ Kp [] u4 W) (by kernel_rfl) HST.out (fun hHeld => ?_)
      refine wpAnyH_take (i := 0) (oi := { dst := some 29, op := Op.load 23 (Operand.tmp 4), type := 23, pos := "law.go:146", after := #[], guard := none }) (v := .agg #[.int .i64 tk, .string (bs tn), .int .i64 op, .string (bs tv)]) rfl (by kernel_rfl) (by kernel_rfl) (by kernel_rfl) (fun _ _ _ h => h) (Or.inl ⟨by rfl, fun w hSw => by (try dsimp only at hSw); obtain ⟨c0, c1, c2, c3⟩ := hSw.1.cells; go_simp⟩) hHeld ?_
      try simp only [Act.put, List.setIfInBounds_toArray, List.set_cons_zero, List.set_cons_succ]
      refine wpAnyH_take (i := 1) (oi := { dst := some 30, op := Op.load 26 (Operand.tmp 6), type := 26, pos := "law.go:146", after := #[], guard := none }) (v := .agg #[.int .i64 xi, .int .i64 xp, .string xn, .string xo, .string xs, .string xd, .string xa, .int .i64 xk, .int .i64 xm, .slice ad l.length ac]) rfl (by kernel_rfl) (by kernel_rfl) (by kernel_rfl) (fun _ _ _ h => h) (Or.inl ⟨by rfl, fun w hSw => by (try dsimp only at hSw); obtain ⟨d0, d1, d2, d3, d4, d5, d6, d7, d8, d9⟩ := HDC.out _ hSw.2.2.1; go_simp⟩) hHeld ?_
      try simp only [Act.put, List.setIfInBounds_toArray, List.set_cons_zero, List.set_cons_succ]
      refine wpAnyH_take (i := 3) (oi := { dst := some 32, op := Op.load 23 (Operand.tmp 7), type := 23, pos := "law.go:146", after := #[], guard := none }) (v := .agg #[.int .i64 tk, .string (bs tn), .int .i64 (3 - op), .string (bs tv)]) rfl (by kernel_rfl) (by kernel_rfl) (by kernel_rfl) (fun _ _ _ h => h) (Or.inl ⟨by rfl, fun w hSw => by (try dsimp only at hSw); obtain ⟨c0, c1, c2, c3⟩ := hSw.2.1.cells; go_simp⟩) hHeld ?_
      try simp only [Act.put, List.setIfInBounds_toArray, List.set_cons_zero, List.set_cons_succ]
      refine wpAnyH_take (i := 4) (oi := { dst := some 33, op := Op.load 26 (Operand.tmp 6), type := 26, pos := "law.go:146", after := #[], guard := none }) (v := .agg #[.int .i64 xi, .int .i64 xp, .string xn, .string xo, .string xs, .string xd, .string xa, .int .i64 xk, .int .i64 xm, .slice ad l.length ac]) rfl (by kernel_rfl) (by kernel_rfl) (by kernel_rfl) (fun _ _ _ h => h) (Or.inl ⟨by rfl, fun w hSw => by (try dsimp only at hSw); obtain ⟨d0, d1, d2, d3, d4, d5, d6, d7, d8, d9⟩ := HDC.out _ hSw.2.2.1; go_simp⟩) hHeld ?_
      try simp only [Act.put, List.setIfInBounds_toArray, List.set_cons_zero, List.set_cons_succ]
      refine wpAnyH_ready (rs := [2]) (by kernel_rfl) (by simp) ?_
      refine AllReadyH.cons (o := { dst := some 31, op := Op.call { callee := Callee.value (Operand.func 14), args := #[Operand.tmp 29, Operand.tmp 30], argTypes := #[23, 26] }, type := 4, pos := "law.go:146", after := #[{ on := 0, ground := Ground.data }, { on := 1, ground := Ground.data }], guard := none }) rfl (fun K hK => ?_) AllReadyH.nil
      go_simp
      go_at_call 14
      refine Calls.mono (by with_reducible exact HD1.out _ hHeld.2.2.2) ?_
      rintro e y1 ⟨rfl, hk⟩
      dsimp only
      have hH := (show MAt y1 p4 ⟨tk, tn, op, tv⟩ ∧ MAt y1 p7 ⟨tk, tn, 3 - op, tv⟩ ∧ De.BoxAt y1 p6 #[.int .i64 xi, .int .i64 xp, .string xn, .string xo, .string xs, .string xd, .string xa, .int .i64 xk, .int .i64 xm, .slice ad l.length ac] ∧ Kp [] u4 y1 from ⟨hHeld.1.kp0 hk, hHeld.2.1.kp0 hk, (hk.block p6 (block_lt hHeld.2.2.1) (by simp)).trans hHeld.2.2.1, hHeld.2.2.2.trans hk⟩)
      clear hHeld
      refine hK.out _ _ hH (fun hHeld => ?_)
      try simp only [Act.put, List.setIfInBounds_toArray, List.set_cons_zero, List.set_cons_succ]
      clear hK
      refine wpAnyH_ready (rs := [5]) (by kernel_rfl) (by simp) ?_
      refine AllReadyH.cons (o := { dst := some 34, op := Op.call { callee := Callee.value (Operand.func 14), args := #[Operand.tmp 32, Operand.tmp 33], argTypes := #[23, 26] }, type := 4, pos := "law.go:146", after := #[{ on := 3, ground := Ground.data }, { on := 4, ground := Ground.data }, { on := 2, ground := Ground.chain }], guard := none }) rfl (fun K hK => ?_) AllReadyH.nil
      go_simp
      go_at_call 14
      refine Calls.mono (by with_reducible exact HD2.out _ hHeld.2.2.2) ?_
      rintro e y2 ⟨rfl, hk⟩
      dsimp only
      have hH := (show MAt y2 p4 ⟨tk, tn, op, tv⟩ ∧ MAt y2 p7 ⟨tk, tn, 3 - op, tv⟩ ∧ De.BoxAt y2 p6 #[.int .i64 xi, .int .i64 xp, .string xn, .string xo, .string xs, .string xd, .string xa, .int .i64 xk, .int .i64 xm, .slice ad l.length ac] ∧ Kp [] u4 y2 from ⟨hHeld.1.kp0 hk, hHeld.2.1.kp0 hk, (hk.block p6 (block_lt hHeld.2.2.1) (by simp)).trans hHeld.2.2.1, hHeld.2.2.2.trans hk⟩)
      clear hHeld
      refine hK.out _ _ hH (fun hHeld => ?_)
      try simp only [Act.put, List.setIfInBounds_toArray, List.set_cons_zero, List.set_cons_succ]
      clear hK
      refine wpAnyH_take (i := 6) (oi := { dst := some 35, op := Op.binOp BinOp.neq 4 (Operand.tmp 31) (Operand.tmp 34) 4, type := 4, pos := "law.go:146", after := #[{ on := 2, ground := Ground.data }, { on := 5, ground := Ground.data }], guard := none }) (v := .bool true) rfl (by kernel_rfl) (by kernel_rfl) (by kernel_rfl) (fun _ _ _ h => h) (Or.inl ⟨by rfl, fun w hSw => by (try dsimp only at hSw); go_simp⟩) hHeld ?_
      try simp only [Act.put, List.setIfInBounds_toArray, List.set_cons_zero, List.set_cons_succ]
      refine wpAnyH_take (i := 7) (oi := { dst := some 36, op := Op.move (Operand.tmp 35), type := 4, pos := "law.go:146", after := #[{ on := 6, ground := Ground.data }, { on := 5, ground := Ground.chain }], guard := none }) (v := .bool true) rfl (by kernel_rfl) (by kernel_rfl) (by kernel_rfl) (fun _ _ _ h => h) (Or.inl ⟨by rfl, fun w hSw => by (try dsimp only at hSw); go_simp⟩) hHeld ?_
      try simp only [Act.put, List.setIfInBounds_toArray, List.set_cons_zero, List.set_cons_succ]
      refine wpAnyH_ready (rs := [8]) (by kernel_rfl) (by simp) ?_
      refine AllReadyH.cons (o := { dst := some 37, op := Op.call { callee := Callee.value (Operand.func 7), args := #[], argTypes := #[] }, type := 4, pos := "law.go:146", after := #[{ on := 7, ground := Ground.chain }, { on := 7, ground := Ground.guard }], guard := some (7, true) }) rfl (fun K hK => ?_) AllReadyH.nil
      go_simp
      go_at_call 7
      refine Calls.mono (by with_reducible exact HKN.out _) ?_
      rintro e y3 ⟨rfl, hk⟩
      dsimp only
      have hH := (show MAt y3 p4 ⟨tk, tn, op, tv⟩ ∧ MAt y3 p7 ⟨tk, tn, 3 - op, tv⟩ ∧ De.BoxAt y3 p6 #[.int .i64 xi, .int .i64 xp, .string xn, .string xo, .string xs, .string xd, .string xa, .int .i64 xk, .int .i64 xm, .slice ad l.length ac] ∧ Kp [] u4 y3 from ⟨hHeld.1.kp0 hk, hHeld.2.1.kp0 hk, (hk.block p6 (block_lt hHeld.2.2.1) (by simp)).trans hHeld.2.2.1, hHeld.2.2.2.trans hk⟩)
      have HF := Lib.hid hH.2.2.2
      clear hHeld
      refine hK.out _ _ hH (fun hHeld => ?_)
      try simp only [Act.put, List.setIfInBounds_toArray, List.set_cons_zero, List.set_cons_succ]
      clear hK
      refine wpAnyH_take (i := 9) (oi := { dst := some 38, op := Op.pick (Operand.tmp 36) (Operand.tmp 37) (Operand.const (Value.bool false)), type := 4, pos := "law.go:146", after := #[{ on := 7, ground := Ground.data }, { on := 8, ground := Ground.data }], guard := none }) (v := .bool true) rfl (by kernel_rfl) (by kernel_rfl) (by kernel_rfl) (fun _ _ _ h => h) (Or.inl ⟨by rfl, fun w hSw => by (try dsimp only at hSw); go_simp⟩) hHeld ?_
      try simp only [Act.put, List.setIfInBounds_toArray, List.set_cons_zero, List.set_cons_succ]
      refine wpAnyH_take (i := 10) (oi := { dst := some 2, op := Op.assign (Operand.tmp 38), type := 4, pos := "law.go:146", after := #[{ on := 9, ground := Ground.data }, { on := 8, ground := Ground.chain }, { on := 0, ground := Ground.phase }, { on := 1, ground := Ground.phase }, { on := 2, ground := Ground.phase }, { on := 3, ground := Ground.phase }, { on := 4, ground := Ground.phase }, { on := 5, ground := Ground.phase }, { on := 6, ground := Ground.phase }, { on := 7, ground := Ground.phase }, { on := 8, ground := Ground.phase }, { on := 9, ground := Ground.phase }], guard := none }) (v := .bool true) rfl (by kernel_rfl) (by kernel_rfl) (by kernel_rfl) (fun _ _ _ h => h) (Or.inl ⟨by rfl, fun w hSw => by (try dsimp only at hSw); go_simp⟩) hHeld ?_
      try simp only [Act.put, List.setIfInBounds_toArray, List.set_cons_zero, List.set_cons_succ]
      refine wpAnyH_done (by kernel_rfl) ?_ _
      clear hHeld
      go_wp2
      go_ret
      exact ⟨rfl, HKW.out _ HF.out⟩
    · skip
      have HST := Lib.hid (show MAt w5.drew p4 ⟨tk, tn, op, tv⟩ ∧ MAt w5.drew p7 ⟨tk, tn, 3 - op, tv⟩ ∧ De.BoxAt w5.drew p6 #[.int .i64 xi, .int .i64 xp, .string xn, .string xo, .string xs, .string xd, .string xa, .int .i64 xk, .int .i64 xm, .slice ad l.length ac] ∧ Kp [] u4 w5.drew from ⟨HM4.out.kp0 (HQ.out.drew 1), HM7.out.kp0 (HQ.out.drew 1), ((HQ.out.drew 1).block p6 (block_lt HM6.out) (by simp)).trans HM6.out, HQ.out.drew 1⟩)
      refine wp_region_held_drew (S := fun W => MAt W p4 ⟨tk, tn, op, tv⟩ ∧ MAt W p7 ⟨tk, tn, 3 - op, tv⟩ ∧ De.BoxAt W p6 #[.int .i64 xi, .int .i64 xp, .string xn, .string xo, .string xs, .string xd, .string xa, .int .i64 xk, .int .i64 xm, .slice ad l.length ac] ∧ Kp [] u4 W) (by kernel_rfl) HST.out (fun hHeld => ?_)
      refine wpAnyH_take (i := 0) (oi := { dst := some 29, op := Op.load 23 (Operand.tmp 4), type := 23, pos := "law.go:146", after := #[], guard := none }) (v := .agg #[.int .i64 tk, .string (bs tn), .int .i64 op, .string (bs tv)]) rfl (by kernel_rfl) (by kernel_rfl) (by kernel_rfl) (fun _ _ _ h => h) (Or.inl ⟨by rfl, fun w hSw => by (try dsimp only at hSw); obtain ⟨c0, c1, c2, c3⟩ := hSw.1.cells; go_simp⟩) hHeld ?_
      try simp only [Act.put, List.setIfInBounds_toArray, List.set_cons_zero, List.set_cons_succ]
      refine wpAnyH_take (i := 1) (oi := { dst := some 30, op := Op.load 26 (Operand.tmp 6), type := 26, pos := "law.go:146", after := #[], guard := none }) (v := .agg #[.int .i64 xi, .int .i64 xp, .string xn, .string xo, .string xs, .string xd, .string xa, .int .i64 xk, .int .i64 xm, .slice ad l.length ac]) rfl (by kernel_rfl) (by kernel_rfl) (by kernel_rfl) (fun _ _ _ h => h) (Or.inl ⟨by rfl, fun w hSw => by (try dsimp only at hSw); obtain ⟨d0, d1, d2, d3, d4, d5, d6, d7, d8, d9⟩ := HDC.out _ hSw.2.2.1; go_simp⟩) hHeld ?_
      try simp only [Act.put, List.setIfInBounds_toArray, List.set_cons_zero, List.set_cons_succ]
      refine wpAnyH_take (i := 3) (oi := { dst := some 32, op := Op.load 23 (Operand.tmp 7), type := 23, pos := "law.go:146", after := #[], guard := none }) (v := .agg #[.int .i64 tk, .string (bs tn), .int .i64 (3 - op), .string (bs tv)]) rfl (by kernel_rfl) (by kernel_rfl) (by kernel_rfl) (fun _ _ _ h => h) (Or.inl ⟨by rfl, fun w hSw => by (try dsimp only at hSw); obtain ⟨c0, c1, c2, c3⟩ := hSw.2.1.cells; go_simp⟩) hHeld ?_
      try simp only [Act.put, List.setIfInBounds_toArray, List.set_cons_zero, List.set_cons_succ]
      refine wpAnyH_take (i := 4) (oi := { dst := some 33, op := Op.load 26 (Operand.tmp 6), type := 26, pos := "law.go:146", after := #[], guard := none }) (v := .agg #[.int .i64 xi, .int .i64 xp, .string xn, .string xo, .string xs, .string xd, .string xa, .int .i64 xk, .int .i64 xm, .slice ad l.length ac]) rfl (by kernel_rfl) (by kernel_rfl) (by kernel_rfl) (fun _ _ _ h => h) (Or.inl ⟨by rfl, fun w hSw => by (try dsimp only at hSw); obtain ⟨d0, d1, d2, d3, d4, d5, d6, d7, d8, d9⟩ := HDC.out _ hSw.2.2.1; go_simp⟩) hHeld ?_
      try simp only [Act.put, List.setIfInBounds_toArray, List.set_cons_zero, List.set_cons_succ]
      refine wpAnyH_ready (rs := [2]) (by kernel_rfl) (by simp) ?_
      refine AllReadyH.cons (o := { dst := some 31, op := Op.call { callee := Callee.value (Operand.func 14), args := #[Operand.tmp 29, Operand.tmp 30], argTypes := #[23, 26] }, type := 4, pos := "law.go:146", after := #[{ on := 0, ground := Ground.data }, { on := 1, ground := Ground.data }], guard := none }) rfl (fun K hK => ?_) AllReadyH.nil
      go_simp
      go_at_call 14
      refine Calls.mono (by with_reducible exact HD1.out _ hHeld.2.2.2) ?_
      rintro e y1 ⟨rfl, hk⟩
      dsimp only
      have hH := (show MAt y1 p4 ⟨tk, tn, op, tv⟩ ∧ MAt y1 p7 ⟨tk, tn, 3 - op, tv⟩ ∧ De.BoxAt y1 p6 #[.int .i64 xi, .int .i64 xp, .string xn, .string xo, .string xs, .string xd, .string xa, .int .i64 xk, .int .i64 xm, .slice ad l.length ac] ∧ Kp [] u4 y1 from ⟨hHeld.1.kp0 hk, hHeld.2.1.kp0 hk, (hk.block p6 (block_lt hHeld.2.2.1) (by simp)).trans hHeld.2.2.1, hHeld.2.2.2.trans hk⟩)
      clear hHeld
      refine hK.out _ _ hH (fun hHeld => ?_)
      try simp only [Act.put, List.setIfInBounds_toArray, List.set_cons_zero, List.set_cons_succ]
      clear hK
      refine wpAnyH_ready (rs := [5]) (by kernel_rfl) (by simp) ?_
      refine AllReadyH.cons (o := { dst := some 34, op := Op.call { callee := Callee.value (Operand.func 14), args := #[Operand.tmp 32, Operand.tmp 33], argTypes := #[23, 26] }, type := 4, pos := "law.go:146", after := #[{ on := 3, ground := Ground.data }, { on := 4, ground := Ground.data }, { on := 2, ground := Ground.chain }], guard := none }) rfl (fun K hK => ?_) AllReadyH.nil
      go_simp
      go_at_call 14
      refine Calls.mono (by with_reducible exact HD2.out _ hHeld.2.2.2) ?_
      rintro e y2 ⟨rfl, hk⟩
      dsimp only
      have hH := (show MAt y2 p4 ⟨tk, tn, op, tv⟩ ∧ MAt y2 p7 ⟨tk, tn, 3 - op, tv⟩ ∧ De.BoxAt y2 p6 #[.int .i64 xi, .int .i64 xp, .string xn, .string xo, .string xs, .string xd, .string xa, .int .i64 xk, .int .i64 xm, .slice ad l.length ac] ∧ Kp [] u4 y2 from ⟨hHeld.1.kp0 hk, hHeld.2.1.kp0 hk, (hk.block p6 (block_lt hHeld.2.2.1) (by simp)).trans hHeld.2.2.1, hHeld.2.2.2.trans hk⟩)
      clear hHeld
      refine hK.out _ _ hH (fun hHeld => ?_)
      try simp only [Act.put, List.setIfInBounds_toArray, List.set_cons_zero, List.set_cons_succ]
      clear hK
      refine wpAnyH_take (i := 6) (oi := { dst := some 35, op := Op.binOp BinOp.neq 4 (Operand.tmp 31) (Operand.tmp 34) 4, type := 4, pos := "law.go:146", after := #[{ on := 2, ground := Ground.data }, { on := 5, ground := Ground.data }], guard := none }) (v := .bool true) rfl (by kernel_rfl) (by kernel_rfl) (by kernel_rfl) (fun _ _ _ h => h) (Or.inl ⟨by rfl, fun w hSw => by (try dsimp only at hSw); go_simp⟩) hHeld ?_
      try simp only [Act.put, List.setIfInBounds_toArray, List.set_cons_zero, List.set_cons_succ]
      refine wpAnyH_take (i := 7) (oi := { dst := some 36, op := Op.move (Operand.tmp 35), type := 4, pos := "law.go:146", after := #[{ on := 6, ground := Ground.data }, { on := 5, ground := Ground.chain }], guard := none }) (v := .bool true) rfl (by kernel_rfl) (by kernel_rfl) (by kernel_rfl) (fun _ _ _ h => h) (Or.inl ⟨by rfl, fun w hSw => by (try dsimp only at hSw); go_simp⟩) hHeld ?_
      try simp only [Act.put, List.setIfInBounds_toArray, List.set_cons_zero, List.set_cons_succ]
      refine wpAnyH_ready (rs := [8]) (by kernel_rfl) (by simp) ?_
      refine AllReadyH.cons (o := { dst := some 37, op := Op.call { callee := Callee.value (Operand.func 7), args := #[], argTypes := #[] }, type := 4, pos := "law.go:146", after := #[{ on := 7, ground := Ground.chain }, { on := 7, ground := Ground.guard }], guard := some (7, true) }) rfl (fun K hK => ?_) AllReadyH.nil
      go_simp
      go_at_call 7
      refine Calls.mono (by with_reducible exact HKN.out _) ?_
      rintro e y3 ⟨rfl, hk⟩
      dsimp only
      have hH := (show MAt y3 p4 ⟨tk, tn, op, tv⟩ ∧ MAt y3 p7 ⟨tk, tn, 3 - op, tv⟩ ∧ De.BoxAt y3 p6 #[.int .i64 xi, .int .i64 xp, .string xn, .string xo, .string xs, .string xd, .string xa, .int .i64 xk, .int .i64 xm, .slice ad l.length ac] ∧ Kp [] u4 y3 from ⟨hHeld.1.kp0 hk, hHeld.2.1.kp0 hk, (hk.block p6 (block_lt hHeld.2.2.1) (by simp)).trans hHeld.2.2.1, hHeld.2.2.2.trans hk⟩)
      have HF := Lib.hid hH.2.2.2
      clear hHeld
      refine hK.out _ _ hH (fun hHeld => ?_)
      try simp only [Act.put, List.setIfInBounds_toArray, List.set_cons_zero, List.set_cons_succ]
      clear hK
      refine wpAnyH_take (i := 9) (oi := { dst := some 38, op := Op.pick (Operand.tmp 36) (Operand.tmp 37) (Operand.const (Value.bool false)), type := 4, pos := "law.go:146", after := #[{ on := 7, ground := Ground.data }, { on := 8, ground := Ground.data }], guard := none }) (v := .bool true) rfl (by kernel_rfl) (by kernel_rfl) (by kernel_rfl) (fun _ _ _ h => h) (Or.inl ⟨by rfl, fun w hSw => by (try dsimp only at hSw); go_simp⟩) hHeld ?_
      try simp only [Act.put, List.setIfInBounds_toArray, List.set_cons_zero, List.set_cons_succ]
      refine wpAnyH_take (i := 10) (oi := { dst := some 2, op := Op.assign (Operand.tmp 38), type := 4, pos := "law.go:146", after := #[{ on := 9, ground := Ground.data }, { on := 8, ground := Ground.chain }, { on := 0, ground := Ground.phase }, { on := 1, ground := Ground.phase }, { on := 2, ground := Ground.phase }, { on := 3, ground := Ground.phase }, { on := 4, ground := Ground.phase }, { on := 5, ground := Ground.phase }, { on := 6, ground := Ground.phase }, { on := 7, ground := Ground.phase }, { on := 8, ground := Ground.phase }, { on := 9, ground := Ground.phase }], guard := none }) (v := .bool true) rfl (by kernel_rfl) (by kernel_rfl) (by kernel_rfl) (fun _ _ _ h => h) (Or.inl ⟨by rfl, fun w hSw => by (try dsimp only at hSw); go_simp⟩) hHeld ?_
      try simp only [Act.put, List.setIfInBounds_toArray, List.set_cons_zero, List.set_cons_succ]
      refine wpAnyH_done (by kernel_rfl) ?_ _
      clear hHeld
      go_wp2
      go_ret
      exact ⟨rfl, HKW.out _ HF.out⟩
  · have hb := hsw rfl
    subst hb
    clear hsw hdw hdk hno hno2 hdy
    go_upto_region 6 with (first
      | (go_at_call 10; refine Calls.mono (by with_reducible exact HS1.out _) ?_; rintro e w5 ⟨rfl, hk⟩; obtain ⟨t0, t1, t2, t3⟩ := HC4.out w5 hk; have HQ := Lib.hid hk; clear hk)
      | (go_at_call 12; refine Calls.mono (by with_reducible exact HU1.out _) ?_; rintro e w6 ⟨rfl, hk⟩; obtain ⟨t0, t1, t2, t3⟩ := HC4.out w6 (HQ.out.trans hk); obtain ⟨d0, d1, d2, d3, d4, d5, d6, d7, d8, d9, d10, d11, d12, d13⟩ := HC5.out w6 (HQ.out.trans hk); have HQ := Lib.hid (HQ.out.trans hk); clear hk))
    cases b1
    · skip
      have HST := Lib.hid (show MAt w6.drew p4 ⟨tk, tn, op, tv⟩ ∧ MAt w6.drew p7 ⟨tk, tn, 3 - op, tv⟩ ∧ De.BoxAt w6.drew p6 #[.int .i64 xi, .int .i64 xp, .string xn, .string xo, .string xs, .string xd, .string xa, .int .i64 xk, .int .i64 xm, .slice ad l.length ac] ∧ Kp [] u4 w6.drew from ⟨HM4.out.kp0 (HQ.out.drew 1), HM7.out.kp0 (HQ.out.drew 1), ((HQ.out.drew 1).block p6 (block_lt HM6.out) (by simp)).trans HM6.out, HQ.out.drew 1⟩)
      refine wp_region_held_drew (S := fun W => MAt W p4 ⟨tk, tn, op, tv⟩ ∧ MAt W p7 ⟨tk, tn, 3 - op, tv⟩ ∧ De.BoxAt W p6 #[.int .i64 xi, .int .i64 xp, .string xn, .string xo, .string xs, .string xd, .string xa, .int .i64 xk, .int .i64 xm, .slice ad l.length ac] ∧ Kp [] u4 W) (by kernel_rfl) HST.out (fun hHeld => ?_)
      refine wpAnyH_take (i := 0) (oi := { dst := some 29, op := Op.load 23 (Operand.tmp 4), type := 23, pos := "law.go:146", after := #[], guard := none }) (v := .agg #[.int .i64 tk, .string (bs tn), .int .i64 op, .string (bs tv)]) rfl (by kernel_rfl) (by kernel_rfl) (by kernel_rfl) (fun _ _ _ h => h) (Or.inl ⟨by rfl, fun w hSw => by (try dsimp only at hSw); obtain ⟨c0, c1, c2, c3⟩ := hSw.1.cells; go_simp⟩) hHeld ?_
      try simp only [Act.put, List.setIfInBounds_toArray, List.set_cons_zero, List.set_cons_succ]
      refine wpAnyH_take (i := 1) (oi := { dst := some 30, op := Op.load 26 (Operand.tmp 6), type := 26, pos := "law.go:146", after := #[], guard := none }) (v := .agg #[.int .i64 xi, .int .i64 xp, .string xn, .string xo, .string xs, .string xd, .string xa, .int .i64 xk, .int .i64 xm, .slice ad l.length ac]) rfl (by kernel_rfl) (by kernel_rfl) (by kernel_rfl) (fun _ _ _ h => h) (Or.inl ⟨by rfl, fun w hSw => by (try dsimp only at hSw); obtain ⟨d0, d1, d2, d3, d4, d5, d6, d7, d8, d9⟩ := HDC.out _ hSw.2.2.1; go_simp⟩) hHeld ?_
      try simp only [Act.put, List.setIfInBounds_toArray, List.set_cons_zero, List.set_cons_succ]
      refine wpAnyH_take (i := 3) (oi := { dst := some 32, op := Op.load 23 (Operand.tmp 7), type := 23, pos := "law.go:146", after := #[], guard := none }) (v := .agg #[.int .i64 tk, .string (bs tn), .int .i64 (3 - op), .string (bs tv)]) rfl (by kernel_rfl) (by kernel_rfl) (by kernel_rfl) (fun _ _ _ h => h) (Or.inl ⟨by rfl, fun w hSw => by (try dsimp only at hSw); obtain ⟨c0, c1, c2, c3⟩ := hSw.2.1.cells; go_simp⟩) hHeld ?_
      try simp only [Act.put, List.setIfInBounds_toArray, List.set_cons_zero, List.set_cons_succ]
      refine wpAnyH_take (i := 4) (oi := { dst := some 33, op := Op.load 26 (Operand.tmp 6), type := 26, pos := "law.go:146", after := #[], guard := none }) (v := .agg #[.int .i64 xi, .int .i64 xp, .string xn, .string xo, .string xs, .string xd, .string xa, .int .i64 xk, .int .i64 xm, .slice ad l.length ac]) rfl (by kernel_rfl) (by kernel_rfl) (by kernel_rfl) (fun _ _ _ h => h) (Or.inl ⟨by rfl, fun w hSw => by (try dsimp only at hSw); obtain ⟨d0, d1, d2, d3, d4, d5, d6, d7, d8, d9⟩ := HDC.out _ hSw.2.2.1; go_simp⟩) hHeld ?_
      try simp only [Act.put, List.setIfInBounds_toArray, List.set_cons_zero, List.set_cons_succ]
      refine wpAnyH_ready (rs := [2]) (by kernel_rfl) (by simp) ?_
      refine AllReadyH.cons (o := { dst := some 31, op := Op.call { callee := Callee.value (Operand.func 14), args := #[Operand.tmp 29, Operand.tmp 30], argTypes := #[23, 26] }, type := 4, pos := "law.go:146", after := #[{ on := 0, ground := Ground.data }, { on := 1, ground := Ground.data }], guard := none }) rfl (fun K hK => ?_) AllReadyH.nil
      go_simp
      go_at_call 14
      refine Calls.mono (by with_reducible exact HD1.out _ hHeld.2.2.2) ?_
      rintro e y1 ⟨rfl, hk⟩
      dsimp only
      have hH := (show MAt y1 p4 ⟨tk, tn, op, tv⟩ ∧ MAt y1 p7 ⟨tk, tn, 3 - op, tv⟩ ∧ De.BoxAt y1 p6 #[.int .i64 xi, .int .i64 xp, .string xn, .string xo, .string xs, .string xd, .string xa, .int .i64 xk, .int .i64 xm, .slice ad l.length ac] ∧ Kp [] u4 y1 from ⟨hHeld.1.kp0 hk, hHeld.2.1.kp0 hk, (hk.block p6 (block_lt hHeld.2.2.1) (by simp)).trans hHeld.2.2.1, hHeld.2.2.2.trans hk⟩)
      clear hHeld
      refine hK.out _ _ hH (fun hHeld => ?_)
      try simp only [Act.put, List.setIfInBounds_toArray, List.set_cons_zero, List.set_cons_succ]
      clear hK
      refine wpAnyH_ready (rs := [5]) (by kernel_rfl) (by simp) ?_
      refine AllReadyH.cons (o := { dst := some 34, op := Op.call { callee := Callee.value (Operand.func 14), args := #[Operand.tmp 32, Operand.tmp 33], argTypes := #[23, 26] }, type := 4, pos := "law.go:146", after := #[{ on := 3, ground := Ground.data }, { on := 4, ground := Ground.data }, { on := 2, ground := Ground.chain }], guard := none }) rfl (fun K hK => ?_) AllReadyH.nil
      go_simp
      go_at_call 14
      refine Calls.mono (by with_reducible exact HD2.out _ hHeld.2.2.2) ?_
      rintro e y2 ⟨rfl, hk⟩
      dsimp only
      have hH := (show MAt y2 p4 ⟨tk, tn, op, tv⟩ ∧ MAt y2 p7 ⟨tk, tn, 3 - op, tv⟩ ∧ De.BoxAt y2 p6 #[.int .i64 xi, .int .i64 xp, .string xn, .string xo, .string xs, .string xd, .string xa, .int .i64 xk, .int .i64 xm, .slice ad l.length ac] ∧ Kp [] u4 y2 from ⟨hHeld.1.kp0 hk, hHeld.2.1.kp0 hk, (hk.block p6 (block_lt hHeld.2.2.1) (by simp)).trans hHeld.2.2.1, hHeld.2.2.2.trans hk⟩)
      clear hHeld
      refine hK.out _ _ hH (fun hHeld => ?_)
      try simp only [Act.put, List.setIfInBounds_toArray, List.set_cons_zero, List.set_cons_succ]
      clear hK
      refine wpAnyH_take (i := 6) (oi := { dst := some 35, op := Op.binOp BinOp.neq 4 (Operand.tmp 31) (Operand.tmp 34) 4, type := 4, pos := "law.go:146", after := #[{ on := 2, ground := Ground.data }, { on := 5, ground := Ground.data }], guard := none }) (v := .bool true) rfl (by kernel_rfl) (by kernel_rfl) (by kernel_rfl) (fun _ _ _ h => h) (Or.inl ⟨by rfl, fun w hSw => by (try dsimp only at hSw); go_simp⟩) hHeld ?_
      try simp only [Act.put, List.setIfInBounds_toArray, List.set_cons_zero, List.set_cons_succ]
      refine wpAnyH_take (i := 7) (oi := { dst := some 36, op := Op.move (Operand.tmp 35), type := 4, pos := "law.go:146", after := #[{ on := 6, ground := Ground.data }, { on := 5, ground := Ground.chain }], guard := none }) (v := .bool true) rfl (by kernel_rfl) (by kernel_rfl) (by kernel_rfl) (fun _ _ _ h => h) (Or.inl ⟨by rfl, fun w hSw => by (try dsimp only at hSw); go_simp⟩) hHeld ?_
      try simp only [Act.put, List.setIfInBounds_toArray, List.set_cons_zero, List.set_cons_succ]
      refine wpAnyH_ready (rs := [8]) (by kernel_rfl) (by simp) ?_
      refine AllReadyH.cons (o := { dst := some 37, op := Op.call { callee := Callee.value (Operand.func 7), args := #[], argTypes := #[] }, type := 4, pos := "law.go:146", after := #[{ on := 7, ground := Ground.chain }, { on := 7, ground := Ground.guard }], guard := some (7, true) }) rfl (fun K hK => ?_) AllReadyH.nil
      go_simp
      go_at_call 7
      refine Calls.mono (by with_reducible exact HKN.out _) ?_
      rintro e y3 ⟨rfl, hk⟩
      dsimp only
      have hH := (show MAt y3 p4 ⟨tk, tn, op, tv⟩ ∧ MAt y3 p7 ⟨tk, tn, 3 - op, tv⟩ ∧ De.BoxAt y3 p6 #[.int .i64 xi, .int .i64 xp, .string xn, .string xo, .string xs, .string xd, .string xa, .int .i64 xk, .int .i64 xm, .slice ad l.length ac] ∧ Kp [] u4 y3 from ⟨hHeld.1.kp0 hk, hHeld.2.1.kp0 hk, (hk.block p6 (block_lt hHeld.2.2.1) (by simp)).trans hHeld.2.2.1, hHeld.2.2.2.trans hk⟩)
      have HF := Lib.hid hH.2.2.2
      clear hHeld
      refine hK.out _ _ hH (fun hHeld => ?_)
      try simp only [Act.put, List.setIfInBounds_toArray, List.set_cons_zero, List.set_cons_succ]
      clear hK
      refine wpAnyH_take (i := 9) (oi := { dst := some 38, op := Op.pick (Operand.tmp 36) (Operand.tmp 37) (Operand.const (Value.bool false)), type := 4, pos := "law.go:146", after := #[{ on := 7, ground := Ground.data }, { on := 8, ground := Ground.data }], guard := none }) (v := .bool true) rfl (by kernel_rfl) (by kernel_rfl) (by kernel_rfl) (fun _ _ _ h => h) (Or.inl ⟨by rfl, fun w hSw => by (try dsimp only at hSw); go_simp⟩) hHeld ?_
      try simp only [Act.put, List.setIfInBounds_toArray, List.set_cons_zero, List.set_cons_succ]
      refine wpAnyH_take (i := 10) (oi := { dst := some 2, op := Op.assign (Operand.tmp 38), type := 4, pos := "law.go:146", after := #[{ on := 9, ground := Ground.data }, { on := 8, ground := Ground.chain }, { on := 0, ground := Ground.phase }, { on := 1, ground := Ground.phase }, { on := 2, ground := Ground.phase }, { on := 3, ground := Ground.phase }, { on := 4, ground := Ground.phase }, { on := 5, ground := Ground.phase }, { on := 6, ground := Ground.phase }, { on := 7, ground := Ground.phase }, { on := 8, ground := Ground.phase }, { on := 9, ground := Ground.phase }], guard := none }) (v := .bool true) rfl (by kernel_rfl) (by kernel_rfl) (by kernel_rfl) (fun _ _ _ h => h) (Or.inl ⟨by rfl, fun w hSw => by (try dsimp only at hSw); go_simp⟩) hHeld ?_
      try simp only [Act.put, List.setIfInBounds_toArray, List.set_cons_zero, List.set_cons_succ]
      refine wpAnyH_done (by kernel_rfl) ?_ _
      clear hHeld
      go_wp2
      go_ret
      exact ⟨rfl, HKW.out _ HF.out⟩
    · skip
      have HST := Lib.hid (show MAt w6.drew p4 ⟨tk, tn, op, tv⟩ ∧ MAt w6.drew p7 ⟨tk, tn, 3 - op, tv⟩ ∧ De.BoxAt w6.drew p6 #[.int .i64 xi, .int .i64 xp, .string xn, .string xo, .string xs, .string xd, .string xa, .int .i64 xk, .int .i64 xm, .slice ad l.length ac] ∧ Kp [] u4 w6.drew from ⟨HM4.out.kp0 (HQ.out.drew 1), HM7.out.kp0 (HQ.out.drew 1), ((HQ.out.drew 1).block p6 (block_lt HM6.out) (by simp)).trans HM6.out, HQ.out.drew 1⟩)
      refine wp_region_held_drew (S := fun W => MAt W p4 ⟨tk, tn, op, tv⟩ ∧ MAt W p7 ⟨tk, tn, 3 - op, tv⟩ ∧ De.BoxAt W p6 #[.int .i64 xi, .int .i64 xp, .string xn, .string xo, .string xs, .string xd, .string xa, .int .i64 xk, .int .i64 xm, .slice ad l.length ac] ∧ Kp [] u4 W) (by kernel_rfl) HST.out (fun hHeld => ?_)
      refine wpAnyH_take (i := 0) (oi := { dst := some 29, op := Op.load 23 (Operand.tmp 4), type := 23, pos := "law.go:146", after := #[], guard := none }) (v := .agg #[.int .i64 tk, .string (bs tn), .int .i64 op, .string (bs tv)]) rfl (by kernel_rfl) (by kernel_rfl) (by kernel_rfl) (fun _ _ _ h => h) (Or.inl ⟨by rfl, fun w hSw => by (try dsimp only at hSw); obtain ⟨c0, c1, c2, c3⟩ := hSw.1.cells; go_simp⟩) hHeld ?_
      try simp only [Act.put, List.setIfInBounds_toArray, List.set_cons_zero, List.set_cons_succ]
      refine wpAnyH_take (i := 1) (oi := { dst := some 30, op := Op.load 26 (Operand.tmp 6), type := 26, pos := "law.go:146", after := #[], guard := none }) (v := .agg #[.int .i64 xi, .int .i64 xp, .string xn, .string xo, .string xs, .string xd, .string xa, .int .i64 xk, .int .i64 xm, .slice ad l.length ac]) rfl (by kernel_rfl) (by kernel_rfl) (by kernel_rfl) (fun _ _ _ h => h) (Or.inl ⟨by rfl, fun w hSw => by (try dsimp only at hSw); obtain ⟨d0, d1, d2, d3, d4, d5, d6, d7, d8, d9⟩ := HDC.out _ hSw.2.2.1; go_simp⟩) hHeld ?_
      try simp only [Act.put, List.setIfInBounds_toArray, List.set_cons_zero, List.set_cons_succ]
      refine wpAnyH_take (i := 3) (oi := { dst := some 32, op := Op.load 23 (Operand.tmp 7), type := 23, pos := "law.go:146", after := #[], guard := none }) (v := .agg #[.int .i64 tk, .string (bs tn), .int .i64 (3 - op), .string (bs tv)]) rfl (by kernel_rfl) (by kernel_rfl) (by kernel_rfl) (fun _ _ _ h => h) (Or.inl ⟨by rfl, fun w hSw => by (try dsimp only at hSw); obtain ⟨c0, c1, c2, c3⟩ := hSw.2.1.cells; go_simp⟩) hHeld ?_
      try simp only [Act.put, List.setIfInBounds_toArray, List.set_cons_zero, List.set_cons_succ]
      refine wpAnyH_take (i := 4) (oi := { dst := some 33, op := Op.load 26 (Operand.tmp 6), type := 26, pos := "law.go:146", after := #[], guard := none }) (v := .agg #[.int .i64 xi, .int .i64 xp, .string xn, .string xo, .string xs, .string xd, .string xa, .int .i64 xk, .int .i64 xm, .slice ad l.length ac]) rfl (by kernel_rfl) (by kernel_rfl) (by kernel_rfl) (fun _ _ _ h => h) (Or.inl ⟨by rfl, fun w hSw => by (try dsimp only at hSw); obtain ⟨d0, d1, d2, d3, d4, d5, d6, d7, d8, d9⟩ := HDC.out _ hSw.2.2.1; go_simp⟩) hHeld ?_
      try simp only [Act.put, List.setIfInBounds_toArray, List.set_cons_zero, List.set_cons_succ]
      refine wpAnyH_ready (rs := [2]) (by kernel_rfl) (by simp) ?_
      refine AllReadyH.cons (o := { dst := some 31, op := Op.call { callee := Callee.value (Operand.func 14), args := #[Operand.tmp 29, Operand.tmp 30], argTypes := #[23, 26] }, type := 4, pos := "law.go:146", after := #[{ on := 0, ground := Ground.data }, { on := 1, ground := Ground.data }], guard := none }) rfl (fun K hK => ?_) AllReadyH.nil
      go_simp
      go_at_call 14
      refine Calls.mono (by with_reducible exact HD1.out _ hHeld.2.2.2) ?_
      rintro e y1 ⟨rfl, hk⟩
      dsimp only
      have hH := (show MAt y1 p4 ⟨tk, tn, op, tv⟩ ∧ MAt y1 p7 ⟨tk, tn, 3 - op, tv⟩ ∧ De.BoxAt y1 p6 #[.int .i64 xi, .int .i64 xp, .string xn, .string xo, .string xs, .string xd, .string xa, .int .i64 xk, .int .i64 xm, .slice ad l.length ac] ∧ Kp [] u4 y1 from ⟨hHeld.1.kp0 hk, hHeld.2.1.kp0 hk, (hk.block p6 (block_lt hHeld.2.2.1) (by simp)).trans hHeld.2.2.1, hHeld.2.2.2.trans hk⟩)
      clear hHeld
      refine hK.out _ _ hH (fun hHeld => ?_)
      try simp only [Act.put, List.setIfInBounds_toArray, List.set_cons_zero, List.set_cons_succ]
      clear hK
      refine wpAnyH_ready (rs := [5]) (by kernel_rfl) (by simp) ?_
      refine AllReadyH.cons (o := { dst := some 34, op := Op.call { callee := Callee.value (Operand.func 14), args := #[Operand.tmp 32, Operand.tmp 33], argTypes := #[23, 26] }, type := 4, pos := "law.go:146", after := #[{ on := 3, ground := Ground.data }, { on := 4, ground := Ground.data }, { on := 2, ground := Ground.chain }], guard := none }) rfl (fun K hK => ?_) AllReadyH.nil
      go_simp
      go_at_call 14
      refine Calls.mono (by with_reducible exact HD2.out _ hHeld.2.2.2) ?_
      rintro e y2 ⟨rfl, hk⟩
      dsimp only
      have hH := (show MAt y2 p4 ⟨tk, tn, op, tv⟩ ∧ MAt y2 p7 ⟨tk, tn, 3 - op, tv⟩ ∧ De.BoxAt y2 p6 #[.int .i64 xi, .int .i64 xp, .string xn, .string xo, .string xs, .string xd, .string xa, .int .i64 xk, .int .i64 xm, .slice ad l.length ac] ∧ Kp [] u4 y2 from ⟨hHeld.1.kp0 hk, hHeld.2.1.kp0 hk, (hk.block p6 (block_lt hHeld.2.2.1) (by simp)).trans hHeld.2.2.1, hHeld.2.2.2.trans hk⟩)
      clear hHeld
      refine hK.out _ _ hH (fun hHeld => ?_)
      try simp only [Act.put, List.setIfInBounds_toArray, List.set_cons_zero, List.set_cons_succ]
      clear hK
      refine wpAnyH_take (i := 6) (oi := { dst := some 35, op := Op.binOp BinOp.neq 4 (Operand.tmp 31) (Operand.tmp 34) 4, type := 4, pos := "law.go:146", after := #[{ on := 2, ground := Ground.data }, { on := 5, ground := Ground.data }], guard := none }) (v := .bool true) rfl (by kernel_rfl) (by kernel_rfl) (by kernel_rfl) (fun _ _ _ h => h) (Or.inl ⟨by rfl, fun w hSw => by (try dsimp only at hSw); go_simp⟩) hHeld ?_
      try simp only [Act.put, List.setIfInBounds_toArray, List.set_cons_zero, List.set_cons_succ]
      refine wpAnyH_take (i := 7) (oi := { dst := some 36, op := Op.move (Operand.tmp 35), type := 4, pos := "law.go:146", after := #[{ on := 6, ground := Ground.data }, { on := 5, ground := Ground.chain }], guard := none }) (v := .bool true) rfl (by kernel_rfl) (by kernel_rfl) (by kernel_rfl) (fun _ _ _ h => h) (Or.inl ⟨by rfl, fun w hSw => by (try dsimp only at hSw); go_simp⟩) hHeld ?_
      try simp only [Act.put, List.setIfInBounds_toArray, List.set_cons_zero, List.set_cons_succ]
      refine wpAnyH_ready (rs := [8]) (by kernel_rfl) (by simp) ?_
      refine AllReadyH.cons (o := { dst := some 37, op := Op.call { callee := Callee.value (Operand.func 7), args := #[], argTypes := #[] }, type := 4, pos := "law.go:146", after := #[{ on := 7, ground := Ground.chain }, { on := 7, ground := Ground.guard }], guard := some (7, true) }) rfl (fun K hK => ?_) AllReadyH.nil
      go_simp
      go_at_call 7
      refine Calls.mono (by with_reducible exact HKN.out _) ?_
      rintro e y3 ⟨rfl, hk⟩
      dsimp only
      have hH := (show MAt y3 p4 ⟨tk, tn, op, tv⟩ ∧ MAt y3 p7 ⟨tk, tn, 3 - op, tv⟩ ∧ De.BoxAt y3 p6 #[.int .i64 xi, .int .i64 xp, .string xn, .string xo, .string xs, .string xd, .string xa, .int .i64 xk, .int .i64 xm, .slice ad l.length ac] ∧ Kp [] u4 y3 from ⟨hHeld.1.kp0 hk, hHeld.2.1.kp0 hk, (hk.block p6 (block_lt hHeld.2.2.1) (by simp)).trans hHeld.2.2.1, hHeld.2.2.2.trans hk⟩)
      have HF := Lib.hid hH.2.2.2
      clear hHeld
      refine hK.out _ _ hH (fun hHeld => ?_)
      try simp only [Act.put, List.setIfInBounds_toArray, List.set_cons_zero, List.set_cons_succ]
      clear hK
      refine wpAnyH_take (i := 9) (oi := { dst := some 38, op := Op.pick (Operand.tmp 36) (Operand.tmp 37) (Operand.const (Value.bool false)), type := 4, pos := "law.go:146", after := #[{ on := 7, ground := Ground.data }, { on := 8, ground := Ground.data }], guard := none }) (v := .bool true) rfl (by kernel_rfl) (by kernel_rfl) (by kernel_rfl) (fun _ _ _ h => h) (Or.inl ⟨by rfl, fun w hSw => by (try dsimp only at hSw); go_simp⟩) hHeld ?_
      try simp only [Act.put, List.setIfInBounds_toArray, List.set_cons_zero, List.set_cons_succ]
      refine wpAnyH_take (i := 10) (oi := { dst := some 2, op := Op.assign (Operand.tmp 38), type := 4, pos := "law.go:146", after := #[{ on := 9, ground := Ground.data }, { on := 8, ground := Ground.chain }, { on := 0, ground := Ground.phase }, { on := 1, ground := Ground.phase }, { on := 2, ground := Ground.phase }, { on := 3, ground := Ground.phase }, { on := 4, ground := Ground.phase }, { on := 5, ground := Ground.phase }, { on := 6, ground := Ground.phase }, { on := 7, ground := Ground.phase }, { on := 8, ground := Ground.phase }, { on := 9, ground := Ground.phase }], guard := none }) (v := .bool true) rfl (by kernel_rfl) (by kernel_rfl) (by kernel_rfl) (fun _ _ _ h => h) (Or.inl ⟨by rfl, fun w hSw => by (try dsimp only at hSw); go_simp⟩) hHeld ?_
      try simp only [Act.put, List.setIfInBounds_toArray, List.set_cons_zero, List.set_cons_succ]
      refine wpAnyH_done (by kernel_rfl) ?_ _
      clear hHeld
      go_wp2
      go_ret
      exact ⟨rfl, HKW.out _ HF.out⟩
  · have hb := hno rfl
    subst hb
    clear hsw hno
    cases db with
    | true =>
      have hb := hdw rfl
      subst hb
      have hky := hdy rfl
      clear hdw hdk hno2 hdy
      rcases hky with rfl | rfl | rfl | rfl
      · go_upto_region 12 with (first
          | (go_at_call 10; refine Calls.mono (by with_reducible exact HS1.out _) ?_; rintro e w5 ⟨rfl, hk⟩; obtain ⟨t0, t1, t2, t3⟩ := HC4.out w5 hk; have HQ := Lib.hid hk; clear hk)
          | (go_at_call 12; refine Calls.mono (by with_reducible exact HU1.out _) ?_; rintro e w6 ⟨rfl, hk⟩; obtain ⟨t0, t1, t2, t3⟩ := HC4.out w6 (HQ.out.trans hk); obtain ⟨d0, d1, d2, d3, d4, d5, d6, d7, d8, d9, d10, d11, d12, d13⟩ := HC5.out w6 (HQ.out.trans hk); have HQ := Lib.hid (HQ.out.trans hk); clear hk))
        cases b3
        · skip
          have HST := Lib.hid (show MAt w6.drew p4 ⟨1, tn, op, tv⟩ ∧ MAt w6.drew p7 ⟨1, tn, 3 - op, tv⟩ ∧ DAt w6.drew p5 d ∧ Kp [] u4 w6.drew from ⟨HM4.out.kp0 (HQ.out.drew 1), HM7.out.kp0 (HQ.out.drew 1), HM5.out.kp0 (HQ.out.drew 1), HQ.out.drew 1⟩)
          refine wp_region_held_drew (S := fun W => MAt W p4 ⟨1, tn, op, tv⟩ ∧ MAt W p7 ⟨1, tn, 3 - op, tv⟩ ∧ DAt W p5 d ∧ Kp [] u4 W) (by kernel_rfl) HST.out (fun hHeld => ?_)
          refine wpAnyH_take (i := 0) (oi := { dst := some 46, op := Op.load 23 (Operand.tmp 4), type := 23, pos := "law.go:150", after := #[], guard := none }) (v := .agg #[.int .i64 1, .string (bs tn), .int .i64 op, .string (bs tv)]) rfl (by kernel_rfl) (by kernel_rfl) (by kernel_rfl) (fun _ _ _ h => h) (Or.inl ⟨by rfl, fun w hSw => by (try dsimp only at hSw); obtain ⟨c0, c1, c2, c3⟩ := hSw.1.cells; go_simp⟩) hHeld ?_
          try simp only [Act.put, List.setIfInBounds_toArray, List.set_cons_zero, List.set_cons_succ]
          refine wpAnyH_take (i := 1) (oi := { dst := some 47, op := Op.load 43 (Operand.tmp 5), type := 43, pos := "law.go:150", after := #[], guard := none }) (v := .agg #[.slice d.props.a d.props.n d.props.c, .slice d.tags.a d.tags.n d.tags.c, .slice d.links.a d.links.n d.links.c, .slice d.run.a d.run.n d.run.c, .slice d.load.a d.load.n d.load.c, .string d.name, .int .i64 d.prio, .string d.owner, .string d.group, .int .i64 d.mode, .string d.res, .int .i64 d.calls, .int .i64 d.ticks, .slice d.closed.a d.closed.n d.closed.c]) rfl (by kernel_rfl) (by kernel_rfl) (by kernel_rfl) (fun _ _ _ h => h) (Or.inl ⟨by rfl, fun w hSw => by (try dsimp only at hSw); obtain ⟨d0, d1, d2, d3, d4, d5, d6, d7, d8, d9, d10, d11, d12, d13⟩ := hSw.2.2.1.cells; go_simp⟩) hHeld ?_
          try simp only [Act.put, List.setIfInBounds_toArray, List.set_cons_zero, List.set_cons_succ]
          refine wpAnyH_take (i := 3) (oi := { dst := some 49, op := Op.load 23 (Operand.tmp 7), type := 23, pos := "law.go:150", after := #[], guard := none }) (v := .agg #[.int .i64 1, .string (bs tn), .int .i64 (3 - op), .string (bs tv)]) rfl (by kernel_rfl) (by kernel_rfl) (by kernel_rfl) (fun _ _ _ h => h) (Or.inl ⟨by rfl, fun w hSw => by (try dsimp only at hSw); obtain ⟨c0, c1, c2, c3⟩ := hSw.2.1.cells; go_simp⟩) hHeld ?_
          try simp only [Act.put, List.setIfInBounds_toArray, List.set_cons_zero, List.set_cons_succ]
          refine wpAnyH_take (i := 4) (oi := { dst := some 50, op := Op.load 43 (Operand.tmp 5), type := 43, pos := "law.go:150", after := #[], guard := none }) (v := .agg #[.slice d.props.a d.props.n d.props.c, .slice d.tags.a d.tags.n d.tags.c, .slice d.links.a d.links.n d.links.c, .slice d.run.a d.run.n d.run.c, .slice d.load.a d.load.n d.load.c, .string d.name, .int .i64 d.prio, .string d.owner, .string d.group, .int .i64 d.mode, .string d.res, .int .i64 d.calls, .int .i64 d.ticks, .slice d.closed.a d.closed.n d.closed.c]) rfl (by kernel_rfl) (by kernel_rfl) (by kernel_rfl) (fun _ _ _ h => h) (Or.inl ⟨by rfl, fun w hSw => by (try dsimp only at hSw); obtain ⟨d0, d1, d2, d3, d4, d5, d6, d7, d8, d9, d10, d11, d12, d13⟩ := hSw.2.2.1.cells; go_simp⟩) hHeld ?_
          try simp only [Act.put, List.setIfInBounds_toArray, List.set_cons_zero, List.set_cons_succ]
          refine wpAnyH_ready (rs := [2]) (by kernel_rfl) (by simp) ?_
          refine AllReadyH.cons (o := { dst := some 48, op := Op.call { callee := Callee.value (Operand.func 17), args := #[Operand.tmp 46, Operand.const (Value.string { data := #[97, 100, 100] }), Operand.tmp 47], argTypes := #[23, 9, 43] }, type := 4, pos := "law.go:150", after := #[{ on := 0, ground := Ground.data }, { on := 1, ground := Ground.data }], guard := none }) rfl (fun K hK => ?_) AllReadyH.nil
          go_simp
          go_at_call 17
          refine Calls.mono (by with_reducible exact HR1.out _ hHeld.2.2.2) ?_
          rintro e y1 ⟨rfl, hk⟩
          dsimp only
          have hH := (show MAt y1 p4 ⟨1, tn, op, tv⟩ ∧ MAt y1 p7 ⟨1, tn, 3 - op, tv⟩ ∧ DAt y1 p5 d ∧ Kp [] u4 y1 from ⟨hHeld.1.kp0 hk, hHeld.2.1.kp0 hk, hHeld.2.2.1.kp0 hk, hHeld.2.2.2.trans hk⟩)
          clear hHeld
          refine hK.out _ _ hH (fun hHeld => ?_)
          try simp only [Act.put, List.setIfInBounds_toArray, List.set_cons_zero, List.set_cons_succ]
          clear hK
          refine wpAnyH_ready (rs := [5]) (by kernel_rfl) (by simp) ?_
          refine AllReadyH.cons (o := { dst := some 51, op := Op.call { callee := Callee.value (Operand.func 17), args := #[Operand.tmp 49, Operand.const (Value.string { data := #[97, 100, 100] }), Operand.tmp 50], argTypes := #[23, 9, 43] }, type := 4, pos := "law.go:150", after := #[{ on := 3, ground := Ground.data }, { on := 4, ground := Ground.data }, { on := 2, ground := Ground.chain }], guard := none }) rfl (fun K hK => ?_) AllReadyH.nil
          go_simp
          go_at_call 17
          refine Calls.mono (by with_reducible exact HR2.out _ hHeld.2.2.2) ?_
          rintro e y2 ⟨rfl, hk⟩
          dsimp only
          have hH := (show MAt y2 p4 ⟨1, tn, op, tv⟩ ∧ MAt y2 p7 ⟨1, tn, 3 - op, tv⟩ ∧ DAt y2 p5 d ∧ Kp [] u4 y2 from ⟨hHeld.1.kp0 hk, hHeld.2.1.kp0 hk, hHeld.2.2.1.kp0 hk, hHeld.2.2.2.trans hk⟩)
          clear hHeld
          refine hK.out _ _ hH (fun hHeld => ?_)
          try simp only [Act.put, List.setIfInBounds_toArray, List.set_cons_zero, List.set_cons_succ]
          clear hK
          refine wpAnyH_take (i := 6) (oi := { dst := some 52, op := Op.binOp BinOp.neq 4 (Operand.tmp 48) (Operand.tmp 51) 4, type := 4, pos := "law.go:150", after := #[{ on := 2, ground := Ground.data }, { on := 5, ground := Ground.data }], guard := none }) (v := .bool true) rfl (by kernel_rfl) (by kernel_rfl) (by kernel_rfl) (fun _ _ _ h => h) (Or.inl ⟨by rfl, fun w hSw => by (try dsimp only at hSw); go_simp⟩) hHeld ?_
          try simp only [Act.put, List.setIfInBounds_toArray, List.set_cons_zero, List.set_cons_succ]
          refine wpAnyH_take (i := 7) (oi := { dst := some 53, op := Op.move (Operand.tmp 52), type := 4, pos := "law.go:150", after := #[{ on := 6, ground := Ground.data }, { on := 5, ground := Ground.chain }], guard := none }) (v := .bool true) rfl (by kernel_rfl) (by kernel_rfl) (by kernel_rfl) (fun _ _ _ h => h) (Or.inl ⟨by rfl, fun w hSw => by (try dsimp only at hSw); go_simp⟩) hHeld ?_
          try simp only [Act.put, List.setIfInBounds_toArray, List.set_cons_zero, List.set_cons_succ]
          refine wpAnyH_ready (rs := [8]) (by kernel_rfl) (by simp) ?_
          refine AllReadyH.cons (o := { dst := some 54, op := Op.call { callee := Callee.value (Operand.func 7), args := #[], argTypes := #[] }, type := 4, pos := "law.go:150", after := #[{ on := 7, ground := Ground.chain }, { on := 7, ground := Ground.guard }], guard := some (7, true) }) rfl (fun K hK => ?_) AllReadyH.nil
          go_simp
          go_at_call 7
          refine Calls.mono (by with_reducible exact HKN.out _) ?_
          rintro e y3 ⟨rfl, hk⟩
          dsimp only
          have hH := (show MAt y3 p4 ⟨1, tn, op, tv⟩ ∧ MAt y3 p7 ⟨1, tn, 3 - op, tv⟩ ∧ DAt y3 p5 d ∧ Kp [] u4 y3 from ⟨hHeld.1.kp0 hk, hHeld.2.1.kp0 hk, hHeld.2.2.1.kp0 hk, hHeld.2.2.2.trans hk⟩)
          have HF := Lib.hid hH.2.2.2
          clear hHeld
          refine hK.out _ _ hH (fun hHeld => ?_)
          try simp only [Act.put, List.setIfInBounds_toArray, List.set_cons_zero, List.set_cons_succ]
          clear hK
          refine wpAnyH_take (i := 9) (oi := { dst := some 55, op := Op.pick (Operand.tmp 53) (Operand.tmp 54) (Operand.const (Value.bool false)), type := 4, pos := "law.go:150", after := #[{ on := 7, ground := Ground.data }, { on := 8, ground := Ground.data }], guard := none }) (v := .bool true) rfl (by kernel_rfl) (by kernel_rfl) (by kernel_rfl) (fun _ _ _ h => h) (Or.inl ⟨by rfl, fun w hSw => by (try dsimp only at hSw); go_simp⟩) hHeld ?_
          try simp only [Act.put, List.setIfInBounds_toArray, List.set_cons_zero, List.set_cons_succ]
          refine wpAnyH_take (i := 10) (oi := { dst := some 2, op := Op.assign (Operand.tmp 55), type := 4, pos := "law.go:150", after := #[{ on := 9, ground := Ground.data }, { on := 8, ground := Ground.chain }, { on := 0, ground := Ground.phase }, { on := 1, ground := Ground.phase }, { on := 2, ground := Ground.phase }, { on := 3, ground := Ground.phase }, { on := 4, ground := Ground.phase }, { on := 5, ground := Ground.phase }, { on := 6, ground := Ground.phase }, { on := 7, ground := Ground.phase }, { on := 8, ground := Ground.phase }, { on := 9, ground := Ground.phase }], guard := none }) (v := .bool true) rfl (by kernel_rfl) (by kernel_rfl) (by kernel_rfl) (fun _ _ _ h => h) (Or.inl ⟨by rfl, fun w hSw => by (try dsimp only at hSw); go_simp⟩) hHeld ?_
          try simp only [Act.put, List.setIfInBounds_toArray, List.set_cons_zero, List.set_cons_succ]
          refine wpAnyH_done (by kernel_rfl) ?_ _
          clear hHeld
          go_wp2
          go_ret
          exact ⟨rfl, HKW.out _ HF.out⟩
        · skip
          have HST := Lib.hid (show MAt w6.drew p4 ⟨1, tn, op, tv⟩ ∧ MAt w6.drew p7 ⟨1, tn, 3 - op, tv⟩ ∧ DAt w6.drew p5 d ∧ Kp [] u4 w6.drew from ⟨HM4.out.kp0 (HQ.out.drew 1), HM7.out.kp0 (HQ.out.drew 1), HM5.out.kp0 (HQ.out.drew 1), HQ.out.drew 1⟩)
          refine wp_region_held_drew (S := fun W => MAt W p4 ⟨1, tn, op, tv⟩ ∧ MAt W p7 ⟨1, tn, 3 - op, tv⟩ ∧ DAt W p5 d ∧ Kp [] u4 W) (by kernel_rfl) HST.out (fun hHeld => ?_)
          refine wpAnyH_take (i := 0) (oi := { dst := some 46, op := Op.load 23 (Operand.tmp 4), type := 23, pos := "law.go:150", after := #[], guard := none }) (v := .agg #[.int .i64 1, .string (bs tn), .int .i64 op, .string (bs tv)]) rfl (by kernel_rfl) (by kernel_rfl) (by kernel_rfl) (fun _ _ _ h => h) (Or.inl ⟨by rfl, fun w hSw => by (try dsimp only at hSw); obtain ⟨c0, c1, c2, c3⟩ := hSw.1.cells; go_simp⟩) hHeld ?_
          try simp only [Act.put, List.setIfInBounds_toArray, List.set_cons_zero, List.set_cons_succ]
          refine wpAnyH_take (i := 1) (oi := { dst := some 47, op := Op.load 43 (Operand.tmp 5), type := 43, pos := "law.go:150", after := #[], guard := none }) (v := .agg #[.slice d.props.a d.props.n d.props.c, .slice d.tags.a d.tags.n d.tags.c, .slice d.links.a d.links.n d.links.c, .slice d.run.a d.run.n d.run.c, .slice d.load.a d.load.n d.load.c, .string d.name, .int .i64 d.prio, .string d.owner, .string d.group, .int .i64 d.mode, .string d.res, .int .i64 d.calls, .int .i64 d.ticks, .slice d.closed.a d.closed.n d.closed.c]) rfl (by kernel_rfl) (by kernel_rfl) (by kernel_rfl) (fun _ _ _ h => h) (Or.inl ⟨by rfl, fun w hSw => by (try dsimp only at hSw); obtain ⟨d0, d1, d2, d3, d4, d5, d6, d7, d8, d9, d10, d11, d12, d13⟩ := hSw.2.2.1.cells; go_simp⟩) hHeld ?_
          try simp only [Act.put, List.setIfInBounds_toArray, List.set_cons_zero, List.set_cons_succ]
          refine wpAnyH_take (i := 3) (oi := { dst := some 49, op := Op.load 23 (Operand.tmp 7), type := 23, pos := "law.go:150", after := #[], guard := none }) (v := .agg #[.int .i64 1, .string (bs tn), .int .i64 (3 - op), .string (bs tv)]) rfl (by kernel_rfl) (by kernel_rfl) (by kernel_rfl) (fun _ _ _ h => h) (Or.inl ⟨by rfl, fun w hSw => by (try dsimp only at hSw); obtain ⟨c0, c1, c2, c3⟩ := hSw.2.1.cells; go_simp⟩) hHeld ?_
          try simp only [Act.put, List.setIfInBounds_toArray, List.set_cons_zero, List.set_cons_succ]
          refine wpAnyH_take (i := 4) (oi := { dst := some 50, op := Op.load 43 (Operand.tmp 5), type := 43, pos := "law.go:150", after := #[], guard := none }) (v := .agg #[.slice d.props.a d.props.n d.props.c, .slice d.tags.a d.tags.n d.tags.c, .slice d.links.a d.links.n d.links.c, .slice d.run.a d.run.n d.run.c, .slice d.load.a d.load.n d.load.c, .string d.name, .int .i64 d.prio, .string d.owner, .string d.group, .int .i64 d.mode, .string d.res, .int .i64 d.calls, .int .i64 d.ticks, .slice d.closed.a d.closed.n d.closed.c]) rfl (by kernel_rfl) (by kernel_rfl) (by kernel_rfl) (fun _ _ _ h => h) (Or.inl ⟨by rfl, fun w hSw => by (try dsimp only at hSw); obtain ⟨d0, d1, d2, d3, d4, d5, d6, d7, d8, d9, d10, d11, d12, d13⟩ := hSw.2.2.1.cells; go_simp⟩) hHeld ?_
          try simp only [Act.put, List.setIfInBounds_toArray, List.set_cons_zero, List.set_cons_succ]
          refine wpAnyH_ready (rs := [2]) (by kernel_rfl) (by simp) ?_
          refine AllReadyH.cons (o := { dst := some 48, op := Op.call { callee := Callee.value (Operand.func 17), args := #[Operand.tmp 46, Operand.const (Value.string { data := #[97, 100, 100] }), Operand.tmp 47], argTypes := #[23, 9, 43] }, type := 4, pos := "law.go:150", after := #[{ on := 0, ground := Ground.data }, { on := 1, ground := Ground.data }], guard := none }) rfl (fun K hK => ?_) AllReadyH.nil
          go_simp
          go_at_call 17
          refine Calls.mono (by with_reducible exact HR1.out _ hHeld.2.2.2) ?_
          rintro e y1 ⟨rfl, hk⟩
          dsimp only
          have hH := (show MAt y1 p4 ⟨1, tn, op, tv⟩ ∧ MAt y1 p7 ⟨1, tn, 3 - op, tv⟩ ∧ DAt y1 p5 d ∧ Kp [] u4 y1 from ⟨hHeld.1.kp0 hk, hHeld.2.1.kp0 hk, hHeld.2.2.1.kp0 hk, hHeld.2.2.2.trans hk⟩)
          clear hHeld
          refine hK.out _ _ hH (fun hHeld => ?_)
          try simp only [Act.put, List.setIfInBounds_toArray, List.set_cons_zero, List.set_cons_succ]
          clear hK
          refine wpAnyH_ready (rs := [5]) (by kernel_rfl) (by simp) ?_
          refine AllReadyH.cons (o := { dst := some 51, op := Op.call { callee := Callee.value (Operand.func 17), args := #[Operand.tmp 49, Operand.const (Value.string { data := #[97, 100, 100] }), Operand.tmp 50], argTypes := #[23, 9, 43] }, type := 4, pos := "law.go:150", after := #[{ on := 3, ground := Ground.data }, { on := 4, ground := Ground.data }, { on := 2, ground := Ground.chain }], guard := none }) rfl (fun K hK => ?_) AllReadyH.nil
          go_simp
          go_at_call 17
          refine Calls.mono (by with_reducible exact HR2.out _ hHeld.2.2.2) ?_
          rintro e y2 ⟨rfl, hk⟩
          dsimp only
          have hH := (show MAt y2 p4 ⟨1, tn, op, tv⟩ ∧ MAt y2 p7 ⟨1, tn, 3 - op, tv⟩ ∧ DAt y2 p5 d ∧ Kp [] u4 y2 from ⟨hHeld.1.kp0 hk, hHeld.2.1.kp0 hk, hHeld.2.2.1.kp0 hk, hHeld.2.2.2.trans hk⟩)
          clear hHeld
          refine hK.out _ _ hH (fun hHeld => ?_)
          try simp only [Act.put, List.setIfInBounds_toArray, List.set_cons_zero, List.set_cons_succ]
          clear hK
          refine wpAnyH_take (i := 6) (oi := { dst := some 52, op := Op.binOp BinOp.neq 4 (Operand.tmp 48) (Operand.tmp 51) 4, type := 4, pos := "law.go:150", after := #[{ on := 2, ground := Ground.data }, { on := 5, ground := Ground.data }], guard := none }) (v := .bool true) rfl (by kernel_rfl) (by kernel_rfl) (by kernel_rfl) (fun _ _ _ h => h) (Or.inl ⟨by rfl, fun w hSw => by (try dsimp only at hSw); go_simp⟩) hHeld ?_
          try simp only [Act.put, List.setIfInBounds_toArray, List.set_cons_zero, List.set_cons_succ]
          refine wpAnyH_take (i := 7) (oi := { dst := some 53, op := Op.move (Operand.tmp 52), type := 4, pos := "law.go:150", after := #[{ on := 6, ground := Ground.data }, { on := 5, ground := Ground.chain }], guard := none }) (v := .bool true) rfl (by kernel_rfl) (by kernel_rfl) (by kernel_rfl) (fun _ _ _ h => h) (Or.inl ⟨by rfl, fun w hSw => by (try dsimp only at hSw); go_simp⟩) hHeld ?_
          try simp only [Act.put, List.setIfInBounds_toArray, List.set_cons_zero, List.set_cons_succ]
          refine wpAnyH_ready (rs := [8]) (by kernel_rfl) (by simp) ?_
          refine AllReadyH.cons (o := { dst := some 54, op := Op.call { callee := Callee.value (Operand.func 7), args := #[], argTypes := #[] }, type := 4, pos := "law.go:150", after := #[{ on := 7, ground := Ground.chain }, { on := 7, ground := Ground.guard }], guard := some (7, true) }) rfl (fun K hK => ?_) AllReadyH.nil
          go_simp
          go_at_call 7
          refine Calls.mono (by with_reducible exact HKN.out _) ?_
          rintro e y3 ⟨rfl, hk⟩
          dsimp only
          have hH := (show MAt y3 p4 ⟨1, tn, op, tv⟩ ∧ MAt y3 p7 ⟨1, tn, 3 - op, tv⟩ ∧ DAt y3 p5 d ∧ Kp [] u4 y3 from ⟨hHeld.1.kp0 hk, hHeld.2.1.kp0 hk, hHeld.2.2.1.kp0 hk, hHeld.2.2.2.trans hk⟩)
          have HF := Lib.hid hH.2.2.2
          clear hHeld
          refine hK.out _ _ hH (fun hHeld => ?_)
          try simp only [Act.put, List.setIfInBounds_toArray, List.set_cons_zero, List.set_cons_succ]
          clear hK
          refine wpAnyH_take (i := 9) (oi := { dst := some 55, op := Op.pick (Operand.tmp 53) (Operand.tmp 54) (Operand.const (Value.bool false)), type := 4, pos := "law.go:150", after := #[{ on := 7, ground := Ground.data }, { on := 8, ground := Ground.data }], guard := none }) (v := .bool true) rfl (by kernel_rfl) (by kernel_rfl) (by kernel_rfl) (fun _ _ _ h => h) (Or.inl ⟨by rfl, fun w hSw => by (try dsimp only at hSw); go_simp⟩) hHeld ?_
          try simp only [Act.put, List.setIfInBounds_toArray, List.set_cons_zero, List.set_cons_succ]
          refine wpAnyH_take (i := 10) (oi := { dst := some 2, op := Op.assign (Operand.tmp 55), type := 4, pos := "law.go:150", after := #[{ on := 9, ground := Ground.data }, { on := 8, ground := Ground.chain }, { on := 0, ground := Ground.phase }, { on := 1, ground := Ground.phase }, { on := 2, ground := Ground.phase }, { on := 3, ground := Ground.phase }, { on := 4, ground := Ground.phase }, { on := 5, ground := Ground.phase }, { on := 6, ground := Ground.phase }, { on := 7, ground := Ground.phase }, { on := 8, ground := Ground.phase }, { on := 9, ground := Ground.phase }], guard := none }) (v := .bool true) rfl (by kernel_rfl) (by kernel_rfl) (by kernel_rfl) (fun _ _ _ h => h) (Or.inl ⟨by rfl, fun w hSw => by (try dsimp only at hSw); go_simp⟩) hHeld ?_
          try simp only [Act.put, List.setIfInBounds_toArray, List.set_cons_zero, List.set_cons_succ]
          refine wpAnyH_done (by kernel_rfl) ?_ _
          clear hHeld
          go_wp2
          go_ret
          exact ⟨rfl, HKW.out _ HF.out⟩
      · go_upto_region 12 with (first
          | (go_at_call 10; refine Calls.mono (by with_reducible exact HS1.out _) ?_; rintro e w5 ⟨rfl, hk⟩; obtain ⟨t0, t1, t2, t3⟩ := HC4.out w5 hk; have HQ := Lib.hid hk; clear hk)
          | (go_at_call 12; refine Calls.mono (by with_reducible exact HU1.out _) ?_; rintro e w6 ⟨rfl, hk⟩; obtain ⟨t0, t1, t2, t3⟩ := HC4.out w6 (HQ.out.trans hk); obtain ⟨d0, d1, d2, d3, d4, d5, d6, d7, d8, d9, d10, d11, d12, d13⟩ := HC5.out w6 (HQ.out.trans hk); have HQ := Lib.hid (HQ.out.trans hk); clear hk))
        cases b3
        · skip
          have HST := Lib.hid (show MAt w6.drew p4 ⟨6, tn, op, tv⟩ ∧ MAt w6.drew p7 ⟨6, tn, 3 - op, tv⟩ ∧ DAt w6.drew p5 d ∧ Kp [] u4 w6.drew from ⟨HM4.out.kp0 (HQ.out.drew 1), HM7.out.kp0 (HQ.out.drew 1), HM5.out.kp0 (HQ.out.drew 1), HQ.out.drew 1⟩)
          refine wp_region_held_drew (S := fun W => MAt W p4 ⟨6, tn, op, tv⟩ ∧ MAt W p7 ⟨6, tn, 3 - op, tv⟩ ∧ DAt W p5 d ∧ Kp [] u4 W) (by kernel_rfl) HST.out (fun hHeld => ?_)
          refine wpAnyH_take (i := 0) (oi := { dst := some 46, op := Op.load 23 (Operand.tmp 4), type := 23, pos := "law.go:150", after := #[], guard := none }) (v := .agg #[.int .i64 6, .string (bs tn), .int .i64 op, .string (bs tv)]) rfl (by kernel_rfl) (by kernel_rfl) (by kernel_rfl) (fun _ _ _ h => h) (Or.inl ⟨by rfl, fun w hSw => by (try dsimp only at hSw); obtain ⟨c0, c1, c2, c3⟩ := hSw.1.cells; go_simp⟩) hHeld ?_
          try simp only [Act.put, List.setIfInBounds_toArray, List.set_cons_zero, List.set_cons_succ]
          refine wpAnyH_take (i := 1) (oi := { dst := some 47, op := Op.load 43 (Operand.tmp 5), type := 43, pos := "law.go:150", after := #[], guard := none }) (v := .agg #[.slice d.props.a d.props.n d.props.c, .slice d.tags.a d.tags.n d.tags.c, .slice d.links.a d.links.n d.links.c, .slice d.run.a d.run.n d.run.c, .slice d.load.a d.load.n d.load.c, .string d.name, .int .i64 d.prio, .string d.owner, .string d.group, .int .i64 d.mode, .string d.res, .int .i64 d.calls, .int .i64 d.ticks, .slice d.closed.a d.closed.n d.closed.c]) rfl (by kernel_rfl) (by kernel_rfl) (by kernel_rfl) (fun _ _ _ h => h) (Or.inl ⟨by rfl, fun w hSw => by (try dsimp only at hSw); obtain ⟨d0, d1, d2, d3, d4, d5, d6, d7, d8, d9, d10, d11, d12, d13⟩ := hSw.2.2.1.cells; go_simp⟩) hHeld ?_
          try simp only [Act.put, List.setIfInBounds_toArray, List.set_cons_zero, List.set_cons_succ]
          refine wpAnyH_take (i := 3) (oi := { dst := some 49, op := Op.load 23 (Operand.tmp 7), type := 23, pos := "law.go:150", after := #[], guard := none }) (v := .agg #[.int .i64 6, .string (bs tn), .int .i64 (3 - op), .string (bs tv)]) rfl (by kernel_rfl) (by kernel_rfl) (by kernel_rfl) (fun _ _ _ h => h) (Or.inl ⟨by rfl, fun w hSw => by (try dsimp only at hSw); obtain ⟨c0, c1, c2, c3⟩ := hSw.2.1.cells; go_simp⟩) hHeld ?_
          try simp only [Act.put, List.setIfInBounds_toArray, List.set_cons_zero, List.set_cons_succ]
          refine wpAnyH_take (i := 4) (oi := { dst := some 50, op := Op.load 43 (Operand.tmp 5), type := 43, pos := "law.go:150", after := #[], guard := none }) (v := .agg #[.slice d.props.a d.props.n d.props.c, .slice d.tags.a d.tags.n d.tags.c, .slice d.links.a d.links.n d.links.c, .slice d.run.a d.run.n d.run.c, .slice d.load.a d.load.n d.load.c, .string d.name, .int .i64 d.prio, .string d.owner, .string d.group, .int .i64 d.mode, .string d.res, .int .i64 d.calls, .int .i64 d.ticks, .slice d.closed.a d.closed.n d.closed.c]) rfl (by kernel_rfl) (by kernel_rfl) (by kernel_rfl) (fun _ _ _ h => h) (Or.inl ⟨by rfl, fun w hSw => by (try dsimp only at hSw); obtain ⟨d0, d1, d2, d3, d4, d5, d6, d7, d8, d9, d10, d11, d12, d13⟩ := hSw.2.2.1.cells; go_simp⟩) hHeld ?_
          try simp only [Act.put, List.setIfInBounds_toArray, List.set_cons_zero, List.set_cons_succ]
          refine wpAnyH_ready (rs := [2]) (by kernel_rfl) (by simp) ?_
          refine AllReadyH.cons (o := { dst := some 48, op := Op.call { callee := Callee.value (Operand.func 17), args := #[Operand.tmp 46, Operand.const (Value.string { data := #[97, 100, 100] }), Operand.tmp 47], argTypes := #[23, 9, 43] }, type := 4, pos := "law.go:150", after := #[{ on := 0, ground := Ground.data }, { on := 1, ground := Ground.data }], guard := none }) rfl (fun K hK => ?_) AllReadyH.nil
          go_simp
          go_at_call 17
          refine Calls.mono (by with_reducible exact HR1.out _ hHeld.2.2.2) ?_
          rintro e y1 ⟨rfl, hk⟩
          dsimp only
          have hH := (show MAt y1 p4 ⟨6, tn, op, tv⟩ ∧ MAt y1 p7 ⟨6, tn, 3 - op, tv⟩ ∧ DAt y1 p5 d ∧ Kp [] u4 y1 from ⟨hHeld.1.kp0 hk, hHeld.2.1.kp0 hk, hHeld.2.2.1.kp0 hk, hHeld.2.2.2.trans hk⟩)
          clear hHeld
          refine hK.out _ _ hH (fun hHeld => ?_)
          try simp only [Act.put, List.setIfInBounds_toArray, List.set_cons_zero, List.set_cons_succ]
          clear hK
          refine wpAnyH_ready (rs := [5]) (by kernel_rfl) (by simp) ?_
          refine AllReadyH.cons (o := { dst := some 51, op := Op.call { callee := Callee.value (Operand.func 17), args := #[Operand.tmp 49, Operand.const (Value.string { data := #[97, 100, 100] }), Operand.tmp 50], argTypes := #[23, 9, 43] }, type := 4, pos := "law.go:150", after := #[{ on := 3, ground := Ground.data }, { on := 4, ground := Ground.data }, { on := 2, ground := Ground.chain }], guard := none }) rfl (fun K hK => ?_) AllReadyH.nil
          go_simp
          go_at_call 17
          refine Calls.mono (by with_reducible exact HR2.out _ hHeld.2.2.2) ?_
          rintro e y2 ⟨rfl, hk⟩
          dsimp only
          have hH := (show MAt y2 p4 ⟨6, tn, op, tv⟩ ∧ MAt y2 p7 ⟨6, tn, 3 - op, tv⟩ ∧ DAt y2 p5 d ∧ Kp [] u4 y2 from ⟨hHeld.1.kp0 hk, hHeld.2.1.kp0 hk, hHeld.2.2.1.kp0 hk, hHeld.2.2.2.trans hk⟩)
          clear hHeld
          refine hK.out _ _ hH (fun hHeld => ?_)
          try simp only [Act.put, List.setIfInBounds_toArray, List.set_cons_zero, List.set_cons_succ]
          clear hK
          refine wpAnyH_take (i := 6) (oi := { dst := some 52, op := Op.binOp BinOp.neq 4 (Operand.tmp 48) (Operand.tmp 51) 4, type := 4, pos := "law.go:150", after := #[{ on := 2, ground := Ground.data }, { on := 5, ground := Ground.data }], guard := none }) (v := .bool true) rfl (by kernel_rfl) (by kernel_rfl) (by kernel_rfl) (fun _ _ _ h => h) (Or.inl ⟨by rfl, fun w hSw => by (try dsimp only at hSw); go_simp⟩) hHeld ?_
          try simp only [Act.put, List.setIfInBounds_toArray, List.set_cons_zero, List.set_cons_succ]
          refine wpAnyH_take (i := 7) (oi := { dst := some 53, op := Op.move (Operand.tmp 52), type := 4, pos := "law.go:150", after := #[{ on := 6, ground := Ground.data }, { on := 5, ground := Ground.chain }], guard := none }) (v := .bool true) rfl (by kernel_rfl) (by kernel_rfl) (by kernel_rfl) (fun _ _ _ h => h) (Or.inl ⟨by rfl, fun w hSw => by (try dsimp only at hSw); go_simp⟩) hHeld ?_
          try simp only [Act.put, List.setIfInBounds_toArray, List.set_cons_zero, List.set_cons_succ]
          refine wpAnyH_ready (rs := [8]) (by kernel_rfl) (by simp) ?_
          refine AllReadyH.cons (o := { dst := some 54, op := Op.call { callee := Callee.value (Operand.func 7), args := #[], argTypes := #[] }, type := 4, pos := "law.go:150", after := #[{ on := 7, ground := Ground.chain }, { on := 7, ground := Ground.guard }], guard := some (7, true) }) rfl (fun K hK => ?_) AllReadyH.nil
          go_simp
          go_at_call 7
          refine Calls.mono (by with_reducible exact HKN.out _) ?_
          rintro e y3 ⟨rfl, hk⟩
          dsimp only
          have hH := (show MAt y3 p4 ⟨6, tn, op, tv⟩ ∧ MAt y3 p7 ⟨6, tn, 3 - op, tv⟩ ∧ DAt y3 p5 d ∧ Kp [] u4 y3 from ⟨hHeld.1.kp0 hk, hHeld.2.1.kp0 hk, hHeld.2.2.1.kp0 hk, hHeld.2.2.2.trans hk⟩)
          have HF := Lib.hid hH.2.2.2
          clear hHeld
          refine hK.out _ _ hH (fun hHeld => ?_)
          try simp only [Act.put, List.setIfInBounds_toArray, List.set_cons_zero, List.set_cons_succ]
          clear hK
          refine wpAnyH_take (i := 9) (oi := { dst := some 55, op := Op.pick (Operand.tmp 53) (Operand.tmp 54) (Operand.const (Value.bool false)), type := 4, pos := "law.go:150", after := #[{ on := 7, ground := Ground.data }, { on := 8, ground := Ground.data }], guard := none }) (v := .bool true) rfl (by kernel_rfl) (by kernel_rfl) (by kernel_rfl) (fun _ _ _ h => h) (Or.inl ⟨by rfl, fun w hSw => by (try dsimp only at hSw); go_simp⟩) hHeld ?_
          try simp only [Act.put, List.setIfInBounds_toArray, List.set_cons_zero, List.set_cons_succ]
          refine wpAnyH_take (i := 10) (oi := { dst := some 2, op := Op.assign (Operand.tmp 55), type := 4, pos := "law.go:150", after := #[{ on := 9, ground := Ground.data }, { on := 8, ground := Ground.chain }, { on := 0, ground := Ground.phase }, { on := 1, ground := Ground.phase }, { on := 2, ground := Ground.phase }, { on := 3, ground := Ground.phase }, { on := 4, ground := Ground.phase }, { on := 5, ground := Ground.phase }, { on := 6, ground := Ground.phase }, { on := 7, ground := Ground.phase }, { on := 8, ground := Ground.phase }, { on := 9, ground := Ground.phase }], guard := none }) (v := .bool true) rfl (by kernel_rfl) (by kernel_rfl) (by kernel_rfl) (fun _ _ _ h => h) (Or.inl ⟨by rfl, fun w hSw => by (try dsimp only at hSw); go_simp⟩) hHeld ?_
          try simp only [Act.put, List.setIfInBounds_toArray, List.set_cons_zero, List.set_cons_succ]
          refine wpAnyH_done (by kernel_rfl) ?_ _
          clear hHeld
          go_wp2
          go_ret
          exact ⟨rfl, HKW.out _ HF.out⟩
        · skip
          have HST := Lib.hid (show MAt w6.drew p4 ⟨6, tn, op, tv⟩ ∧ MAt w6.drew p7 ⟨6, tn, 3 - op, tv⟩ ∧ DAt w6.drew p5 d ∧ Kp [] u4 w6.drew from ⟨HM4.out.kp0 (HQ.out.drew 1), HM7.out.kp0 (HQ.out.drew 1), HM5.out.kp0 (HQ.out.drew 1), HQ.out.drew 1⟩)
          refine wp_region_held_drew (S := fun W => MAt W p4 ⟨6, tn, op, tv⟩ ∧ MAt W p7 ⟨6, tn, 3 - op, tv⟩ ∧ DAt W p5 d ∧ Kp [] u4 W) (by kernel_rfl) HST.out (fun hHeld => ?_)
          refine wpAnyH_take (i := 0) (oi := { dst := some 46, op := Op.load 23 (Operand.tmp 4), type := 23, pos := "law.go:150", after := #[], guard := none }) (v := .agg #[.int .i64 6, .string (bs tn), .int .i64 op, .string (bs tv)]) rfl (by kernel_rfl) (by kernel_rfl) (by kernel_rfl) (fun _ _ _ h => h) (Or.inl ⟨by rfl, fun w hSw => by (try dsimp only at hSw); obtain ⟨c0, c1, c2, c3⟩ := hSw.1.cells; go_simp⟩) hHeld ?_
          try simp only [Act.put, List.setIfInBounds_toArray, List.set_cons_zero, List.set_cons_succ]
          refine wpAnyH_take (i := 1) (oi := { dst := some 47, op := Op.load 43 (Operand.tmp 5), type := 43, pos := "law.go:150", after := #[], guard := none }) (v := .agg #[.slice d.props.a d.props.n d.props.c, .slice d.tags.a d.tags.n d.tags.c, .slice d.links.a d.links.n d.links.c, .slice d.run.a d.run.n d.run.c, .slice d.load.a d.load.n d.load.c, .string d.name, .int .i64 d.prio, .string d.owner, .string d.group, .int .i64 d.mode, .string d.res, .int .i64 d.calls, .int .i64 d.ticks, .slice d.closed.a d.closed.n d.closed.c]) rfl (by kernel_rfl) (by kernel_rfl) (by kernel_rfl) (fun _ _ _ h => h) (Or.inl ⟨by rfl, fun w hSw => by (try dsimp only at hSw); obtain ⟨d0, d1, d2, d3, d4, d5, d6, d7, d8, d9, d10, d11, d12, d13⟩ := hSw.2.2.1.cells; go_simp⟩) hHeld ?_
          try simp only [Act.put, List.setIfInBounds_toArray, List.set_cons_zero, List.set_cons_succ]
          refine wpAnyH_take (i := 3) (oi := { dst := some 49, op := Op.load 23 (Operand.tmp 7), type := 23, pos := "law.go:150", after := #[], guard := none }) (v := .agg #[.int .i64 6, .string (bs tn), .int .i64 (3 - op), .string (bs tv)]) rfl (by kernel_rfl) (by kernel_rfl) (by kernel_rfl) (fun _ _ _ h => h) (Or.inl ⟨by rfl, fun w hSw => by (try dsimp only at hSw); obtain ⟨c0, c1, c2, c3⟩ := hSw.2.1.cells; go_simp⟩) hHeld ?_
          try simp only [Act.put, List.setIfInBounds_toArray, List.set_cons_zero, List.set_cons_succ]
          refine wpAnyH_take (i := 4) (oi := { dst := some 50, op := Op.load 43 (Operand.tmp 5), type := 43, pos := "law.go:150", after := #[], guard := none }) (v := .agg #[.slice d.props.a d.props.n d.props.c, .slice d.tags.a d.tags.n d.tags.c, .slice d.links.a d.links.n d.links.c, .slice d.run.a d.run.n d.run.c, .slice d.load.a d.load.n d.load.c, .string d.name, .int .i64 d.prio, .string d.owner, .string d.group, .int .i64 d.mode, .string d.res, .int .i64 d.calls, .int .i64 d.ticks, .slice d.closed.a d.closed.n d.closed.c]) rfl (by kernel_rfl) (by kernel_rfl) (by kernel_rfl) (fun _ _ _ h => h) (Or.inl ⟨by rfl, fun w hSw => by (try dsimp only at hSw); obtain ⟨d0, d1, d2, d3, d4, d5, d6, d7, d8, d9, d10, d11, d12, d13⟩ := hSw.2.2.1.cells; go_simp⟩) hHeld ?_
          try simp only [Act.put, List.setIfInBounds_toArray, List.set_cons_zero, List.set_cons_succ]
          refine wpAnyH_ready (rs := [2]) (by kernel_rfl) (by simp) ?_
          refine AllReadyH.cons (o := { dst := some 48, op := Op.call { callee := Callee.value (Operand.func 17), args := #[Operand.tmp 46, Operand.const (Value.string { data := #[97, 100, 100] }), Operand.tmp 47], argTypes := #[23, 9, 43] }, type := 4, pos := "law.go:150", after := #[{ on := 0, ground := Ground.data }, { on := 1, ground := Ground.data }], guard := none }) rfl (fun K hK => ?_) AllReadyH.nil
          go_simp
          go_at_call 17
          refine Calls.mono (by with_reducible exact HR1.out _ hHeld.2.2.2) ?_
          rintro e y1 ⟨rfl, hk⟩
          dsimp only
          have hH := (show MAt y1 p4 ⟨6, tn, op, tv⟩ ∧ MAt y1 p7 ⟨6, tn, 3 - op, tv⟩ ∧ DAt y1 p5 d ∧ Kp [] u4 y1 from ⟨hHeld.1.kp0 hk, hHeld.2.1.kp0 hk, hHeld.2.2.1.kp0 hk, hHeld.2.2.2.trans hk⟩)
          clear hHeld
          refine hK.out _ _ hH (fun hHeld => ?_)
          try simp only [Act.put, List.setIfInBounds_toArray, List.set_cons_zero, List.set_cons_succ]
          clear hK
          refine wpAnyH_ready (rs := [5]) (by kernel_rfl) (by simp) ?_
          refine AllReadyH.cons (o := { dst := some 51, op := Op.call { callee := Callee.value (Operand.func 17), args := #[Operand.tmp 49, Operand.const (Value.string { data := #[97, 100, 100] }), Operand.tmp 50], argTypes := #[23, 9, 43] }, type := 4, pos := "law.go:150", after := #[{ on := 3, ground := Ground.data }, { on := 4, ground := Ground.data }, { on := 2, ground := Ground.chain }], guard := none }) rfl (fun K hK => ?_) AllReadyH.nil
          go_simp
          go_at_call 17
          refine Calls.mono (by with_reducible exact HR2.out _ hHeld.2.2.2) ?_
          rintro e y2 ⟨rfl, hk⟩
          dsimp only
          have hH := (show MAt y2 p4 ⟨6, tn, op, tv⟩ ∧ MAt y2 p7 ⟨6, tn, 3 - op, tv⟩ ∧ DAt y2 p5 d ∧ Kp [] u4 y2 from ⟨hHeld.1.kp0 hk, hHeld.2.1.kp0 hk, hHeld.2.2.1.kp0 hk, hHeld.2.2.2.trans hk⟩)
          clear hHeld
          refine hK.out _ _ hH (fun hHeld => ?_)
          try simp only [Act.put, List.setIfInBounds_toArray, List.set_cons_zero, List.set_cons_succ]
          clear hK
          refine wpAnyH_take (i := 6) (oi := { dst := some 52, op := Op.binOp BinOp.neq 4 (Operand.tmp 48) (Operand.tmp 51) 4, type := 4, pos := "law.go:150", after := #[{ on := 2, ground := Ground.data }, { on := 5, ground := Ground.data }], guard := none }) (v := .bool true) rfl (by kernel_rfl) (by kernel_rfl) (by kernel_rfl) (fun _ _ _ h => h) (Or.inl ⟨by rfl, fun w hSw => by (try dsimp only at hSw); go_simp⟩) hHeld ?_
          try simp only [Act.put, List.setIfInBounds_toArray, List.set_cons_zero, List.set_cons_succ]
          refine wpAnyH_take (i := 7) (oi := { dst := some 53, op := Op.move (Operand.tmp 52), type := 4, pos := "law.go:150", after := #[{ on := 6, ground := Ground.data }, { on := 5, ground := Ground.chain }], guard := none }) (v := .bool true) rfl (by kernel_rfl) (by kernel_rfl) (by kernel_rfl) (fun _ _ _ h => h) (Or.inl ⟨by rfl, fun w hSw => by (try dsimp only at hSw); go_simp⟩) hHeld ?_
          try simp only [Act.put, List.setIfInBounds_toArray, List.set_cons_zero, List.set_cons_succ]
          refine wpAnyH_ready (rs := [8]) (by kernel_rfl) (by simp) ?_
          refine AllReadyH.cons (o := { dst := some 54, op := Op.call { callee := Callee.value (Operand.func 7), args := #[], argTypes := #[] }, type := 4, pos := "law.go:150", after := #[{ on := 7, ground := Ground.chain }, { on := 7, ground := Ground.guard }], guard := some (7, true) }) rfl (fun K hK => ?_) AllReadyH.nil
          go_simp
          go_at_call 7
          refine Calls.mono (by with_reducible exact HKN.out _) ?_
          rintro e y3 ⟨rfl, hk⟩
          dsimp only
          have hH := (show MAt y3 p4 ⟨6, tn, op, tv⟩ ∧ MAt y3 p7 ⟨6, tn, 3 - op, tv⟩ ∧ DAt y3 p5 d ∧ Kp [] u4 y3 from ⟨hHeld.1.kp0 hk, hHeld.2.1.kp0 hk, hHeld.2.2.1.kp0 hk, hHeld.2.2.2.trans hk⟩)
          have HF := Lib.hid hH.2.2.2
          clear hHeld
          refine hK.out _ _ hH (fun hHeld => ?_)
          try simp only [Act.put, List.setIfInBounds_toArray, List.set_cons_zero, List.set_cons_succ]
          clear hK
          refine wpAnyH_take (i := 9) (oi := { dst := some 55, op := Op.pick (Operand.tmp 53) (Operand.tmp 54) (Operand.const (Value.bool false)), type := 4, pos := "law.go:150", after := #[{ on := 7, ground := Ground.data }, { on := 8, ground := Ground.data }], guard := none }) (v := .bool true) rfl (by kernel_rfl) (by kernel_rfl) (by kernel_rfl) (fun _ _ _ h => h) (Or.inl ⟨by rfl, fun w hSw => by (try dsimp only at hSw); go_simp⟩) hHeld ?_
          try simp only [Act.put, List.setIfInBounds_toArray, List.set_cons_zero, List.set_cons_succ]
          refine wpAnyH_take (i := 10) (oi := { dst := some 2, op := Op.assign (Operand.tmp 55), type := 4, pos := "law.go:150", after := #[{ on := 9, ground := Ground.data }, { on := 8, ground := Ground.chain }, { on := 0, ground := Ground.phase }, { on := 1, ground := Ground.phase }, { on := 2, ground := Ground.phase }, { on := 3, ground := Ground.phase }, { on := 4, ground := Ground.phase }, { on := 5, ground := Ground.phase }, { on := 6, ground := Ground.phase }, { on := 7, ground := Ground.phase }, { on := 8, ground := Ground.phase }, { on := 9, ground := Ground.phase }], guard := none }) (v := .bool true) rfl (by kernel_rfl) (by kernel_rfl) (by kernel_rfl) (fun _ _ _ h => h) (Or.inl ⟨by rfl, fun w hSw => by (try dsimp only at hSw); go_simp⟩) hHeld ?_
          try simp only [Act.put, List.setIfInBounds_toArray, List.set_cons_zero, List.set_cons_succ]
          refine wpAnyH_done (by kernel_rfl) ?_ _
          clear hHeld
          go_wp2
          go_ret
          exact ⟨rfl, HKW.out _ HF.out⟩
      · go_upto_region 12 with (first
          | (go_at_call 10; refine Calls.mono (by with_reducible exact HS1.out _) ?_; rintro e w5 ⟨rfl, hk⟩; obtain ⟨t0, t1, t2, t3⟩ := HC4.out w5 hk; have HQ := Lib.hid hk; clear hk)
          | (go_at_call 12; refine Calls.mono (by with_reducible exact HU1.out _) ?_; rintro e w6 ⟨rfl, hk⟩; obtain ⟨t0, t1, t2, t3⟩ := HC4.out w6 (HQ.out.trans hk); obtain ⟨d0, d1, d2, d3, d4, d5, d6, d7, d8, d9, d10, d11, d12, d13⟩ := HC5.out w6 (HQ.out.trans hk); have HQ := Lib.hid (HQ.out.trans hk); clear hk))
        cases b3
        · skip
          have HST := Lib.hid (show MAt w6.drew p4 ⟨7, tn, op, tv⟩ ∧ MAt w6.drew p7 ⟨7, tn, 3 - op, tv⟩ ∧ DAt w6.drew p5 d ∧ Kp [] u4 w6.drew from ⟨HM4.out.kp0 (HQ.out.drew 1), HM7.out.kp0 (HQ.out.drew 1), HM5.out.kp0 (HQ.out.drew 1), HQ.out.drew 1⟩)
          refine wp_region_held_drew (S := fun W => MAt W p4 ⟨7, tn, op, tv⟩ ∧ MAt W p7 ⟨7, tn, 3 - op, tv⟩ ∧ DAt W p5 d ∧ Kp [] u4 W) (by kernel_rfl) HST.out (fun hHeld => ?_)
          refine wpAnyH_take (i := 0) (oi := { dst := some 46, op := Op.load 23 (Operand.tmp 4), type := 23, pos := "law.go:150", after := #[], guard := none }) (v := .agg #[.int .i64 7, .string (bs tn), .int .i64 op, .string (bs tv)]) rfl (by kernel_rfl) (by kernel_rfl) (by kernel_rfl) (fun _ _ _ h => h) (Or.inl ⟨by rfl, fun w hSw => by (try dsimp only at hSw); obtain ⟨c0, c1, c2, c3⟩ := hSw.1.cells; go_simp⟩) hHeld ?_
          try simp only [Act.put, List.setIfInBounds_toArray, List.set_cons_zero, List.set_cons_succ]
          refine wpAnyH_take (i := 1) (oi := { dst := some 47, op := Op.load 43 (Operand.tmp 5), type := 43, pos := "law.go:150", after := #[], guard := none }) (v := .agg #[.slice d.props.a d.props.n d.props.c, .slice d.tags.a d.tags.n d.tags.c, .slice d.links.a d.links.n d.links.c, .slice d.run.a d.run.n d.run.c, .slice d.load.a d.load.n d.load.c, .string d.name, .int .i64 d.prio, .string d.owner, .string d.group, .int .i64 d.mode, .string d.res, .int .i64 d.calls, .int .i64 d.ticks, .slice d.closed.a d.closed.n d.closed.c]) rfl (by kernel_rfl) (by kernel_rfl) (by kernel_rfl) (fun _ _ _ h => h) (Or.inl ⟨by rfl, fun w hSw => by (try dsimp only at hSw); obtain ⟨d0, d1, d2, d3, d4, d5, d6, d7, d8, d9, d10, d11, d12, d13⟩ := hSw.2.2.1.cells; go_simp⟩) hHeld ?_
          try simp only [Act.put, List.setIfInBounds_toArray, List.set_cons_zero, List.set_cons_succ]
          refine wpAnyH_take (i := 3) (oi := { dst := some 49, op := Op.load 23 (Operand.tmp 7), type := 23, pos := "law.go:150", after := #[], guard := none }) (v := .agg #[.int .i64 7, .string (bs tn), .int .i64 (3 - op), .string (bs tv)]) rfl (by kernel_rfl) (by kernel_rfl) (by kernel_rfl) (fun _ _ _ h => h) (Or.inl ⟨by rfl, fun w hSw => by (try dsimp only at hSw); obtain ⟨c0, c1, c2, c3⟩ := hSw.2.1.cells; go_simp⟩) hHeld ?_
          try simp only [Act.put, List.setIfInBounds_toArray, List.set_cons_zero, List.set_cons_succ]
          refine wpAnyH_take (i := 4) (oi := { dst := some 50, op := Op.load 43 (Operand.tmp 5), type := 43, pos := "law.go:150", after := #[], guard := none }) (v := .agg #[.slice d.props.a d.props.n d.props.c, .slice d.tags.a d.tags.n d.tags.c, .slice d.links.a d.links.n d.links.c, .slice d.run.a d.run.n d.run.c, .slice d.load.a d.load.n d.load.c, .string d.name, .int .i64 d.prio, .string d.owner, .string d.group, .int .i64 d.mode, .string d.res, .int .i64 d.calls, .int .i64 d.ticks, .slice d.closed.a d.closed.n d.closed.c]) rfl (by kernel_rfl) (by kernel_rfl) (by kernel_rfl) (fun _ _ _ h => h) (Or.inl ⟨by rfl, fun w hSw => by (try dsimp only at hSw); obtain ⟨d0, d1, d2, d3, d4, d5, d6, d7, d8, d9, d10, d11, d12, d13⟩ := hSw.2.2.1.cells; go_simp⟩) hHeld ?_
          try simp only [Act.put, List.setIfInBounds_toArray, List.set_cons_zero, List.set_cons_succ]
          refine wpAnyH_ready (rs := [2]) (by kernel_rfl) (by simp) ?_
          refine AllReadyH.cons (o := { dst := some 48, op := Op.call { callee := Callee.value (Operand.func 17), args := #[Operand.tmp 46, Operand.const (Value.string { data := #[97, 100, 100] }), Operand.tmp 47], argTypes := #[23, 9, 43] }, type := 4, pos := "law.go:150", after := #[{ on := 0, ground := Ground.data }, { on := 1, ground := Ground.data }], guard := none }) rfl (fun K hK => ?_) AllReadyH.nil
          go_simp
          go_at_call 17
          refine Calls.mono (by with_reducible exact HR1.out _ hHeld.2.2.2) ?_
          rintro e y1 ⟨rfl, hk⟩
          dsimp only
          have hH := (show MAt y1 p4 ⟨7, tn, op, tv⟩ ∧ MAt y1 p7 ⟨7, tn, 3 - op, tv⟩ ∧ DAt y1 p5 d ∧ Kp [] u4 y1 from ⟨hHeld.1.kp0 hk, hHeld.2.1.kp0 hk, hHeld.2.2.1.kp0 hk, hHeld.2.2.2.trans hk⟩)
          clear hHeld
          refine hK.out _ _ hH (fun hHeld => ?_)
          try simp only [Act.put, List.setIfInBounds_toArray, List.set_cons_zero, List.set_cons_succ]
          clear hK
          refine wpAnyH_ready (rs := [5]) (by kernel_rfl) (by simp) ?_
          refine AllReadyH.cons (o := { dst := some 51, op := Op.call { callee := Callee.value (Operand.func 17), args := #[Operand.tmp 49, Operand.const (Value.string { data := #[97, 100, 100] }), Operand.tmp 50], argTypes := #[23, 9, 43] }, type := 4, pos := "law.go:150", after := #[{ on := 3, ground := Ground.data }, { on := 4, ground := Ground.data }, { on := 2, ground := Ground.chain }], guard := none }) rfl (fun K hK => ?_) AllReadyH.nil
          go_simp
          go_at_call 17
          refine Calls.mono (by with_reducible exact HR2.out _ hHeld.2.2.2) ?_
          rintro e y2 ⟨rfl, hk⟩
          dsimp only
          have hH := (show MAt y2 p4 ⟨7, tn, op, tv⟩ ∧ MAt y2 p7 ⟨7, tn, 3 - op, tv⟩ ∧ DAt y2 p5 d ∧ Kp [] u4 y2 from ⟨hHeld.1.kp0 hk, hHeld.2.1.kp0 hk, hHeld.2.2.1.kp0 hk, hHeld.2.2.2.trans hk⟩)
          clear hHeld
          refine hK.out _ _ hH (fun hHeld => ?_)
          try simp only [Act.put, List.setIfInBounds_toArray, List.set_cons_zero, List.set_cons_succ]
          clear hK
          refine wpAnyH_take (i := 6) (oi := { dst := some 52, op := Op.binOp BinOp.neq 4 (Operand.tmp 48) (Operand.tmp 51) 4, type := 4, pos := "law.go:150", after := #[{ on := 2, ground := Ground.data }, { on := 5, ground := Ground.data }], guard := none }) (v := .bool true) rfl (by kernel_rfl) (by kernel_rfl) (by kernel_rfl) (fun _ _ _ h => h) (Or.inl ⟨by rfl, fun w hSw => by (try dsimp only at hSw); go_simp⟩) hHeld ?_
          try simp only [Act.put, List.setIfInBounds_toArray, List.set_cons_zero, List.set_cons_succ]
          refine wpAnyH_take (i := 7) (oi := { dst := some 53, op := Op.move (Operand.tmp 52), type := 4, pos := "law.go:150", after := #[{ on := 6, ground := Ground.data }, { on := 5, ground := Ground.chain }], guard := none }) (v := .bool true) rfl (by kernel_rfl) (by kernel_rfl) (by kernel_rfl) (fun _ _ _ h => h) (Or.inl ⟨by rfl, fun w hSw => by (try dsimp only at hSw); go_simp⟩) hHeld ?_
          try simp only [Act.put, List.setIfInBounds_toArray, List.set_cons_zero, List.set_cons_succ]
          refine wpAnyH_ready (rs := [8]) (by kernel_rfl) (by simp) ?_
          refine AllReadyH.cons (o := { dst := some 54, op := Op.call { callee := Callee.value (Operand.func 7), args := #[], argTypes := #[] }, type := 4, pos := "law.go:150", after := #[{ on := 7, ground := Ground.chain }, { on := 7, ground := Ground.guard }], guard := some (7, true) }) rfl (fun K hK => ?_) AllReadyH.nil
          go_simp
          go_at_call 7
          refine Calls.mono (by with_reducible exact HKN.out _) ?_
          rintro e y3 ⟨rfl, hk⟩
          dsimp only
          have hH := (show MAt y3 p4 ⟨7, tn, op, tv⟩ ∧ MAt y3 p7 ⟨7, tn, 3 - op, tv⟩ ∧ DAt y3 p5 d ∧ Kp [] u4 y3 from ⟨hHeld.1.kp0 hk, hHeld.2.1.kp0 hk, hHeld.2.2.1.kp0 hk, hHeld.2.2.2.trans hk⟩)
          have HF := Lib.hid hH.2.2.2
          clear hHeld
          refine hK.out _ _ hH (fun hHeld => ?_)
          try simp only [Act.put, List.setIfInBounds_toArray, List.set_cons_zero, List.set_cons_succ]
          clear hK
          refine wpAnyH_take (i := 9) (oi := { dst := some 55, op := Op.pick (Operand.tmp 53) (Operand.tmp 54) (Operand.const (Value.bool false)), type := 4, pos := "law.go:150", after := #[{ on := 7, ground := Ground.data }, { on := 8, ground := Ground.data }], guard := none }) (v := .bool true) rfl (by kernel_rfl) (by kernel_rfl) (by kernel_rfl) (fun _ _ _ h => h) (Or.inl ⟨by rfl, fun w hSw => by (try dsimp only at hSw); go_simp⟩) hHeld ?_
          try simp only [Act.put, List.setIfInBounds_toArray, List.set_cons_zero, List.set_cons_succ]
          refine wpAnyH_take (i := 10) (oi := { dst := some 2, op := Op.assign (Operand.tmp 55), type := 4, pos := "law.go:150", after := #[{ on := 9, ground := Ground.data }, { on := 8, ground := Ground.chain }, { on := 0, ground := Ground.phase }, { on := 1, ground := Ground.phase }, { on := 2, ground := Ground.phase }, { on := 3, ground := Ground.phase }, { on := 4, ground := Ground.phase }, { on := 5, ground := Ground.phase }, { on := 6, ground := Ground.phase }, { on := 7, ground := Ground.phase }, { on := 8, ground := Ground.phase }, { on := 9, ground := Ground.phase }], guard := none }) (v := .bool true) rfl (by kernel_rfl) (by kernel_rfl) (by kernel_rfl) (fun _ _ _ h => h) (Or.inl ⟨by rfl, fun w hSw => by (try dsimp only at hSw); go_simp⟩) hHeld ?_
          try simp only [Act.put, List.setIfInBounds_toArray, List.set_cons_zero, List.set_cons_succ]
          refine wpAnyH_done (by kernel_rfl) ?_ _
          clear hHeld
          go_wp2
          go_ret
          exact ⟨rfl, HKW.out _ HF.out⟩
        · skip
          have HST := Lib.hid (show MAt w6.drew p4 ⟨7, tn, op, tv⟩ ∧ MAt w6.drew p7 ⟨7, tn, 3 - op, tv⟩ ∧ DAt w6.drew p5 d ∧ Kp [] u4 w6.drew from ⟨HM4.out.kp0 (HQ.out.drew 1), HM7.out.kp0 (HQ.out.drew 1), HM5.out.kp0 (HQ.out.drew 1), HQ.out.drew 1⟩)
          refine wp_region_held_drew (S := fun W => MAt W p4 ⟨7, tn, op, tv⟩ ∧ MAt W p7 ⟨7, tn, 3 - op, tv⟩ ∧ DAt W p5 d ∧ Kp [] u4 W) (by kernel_rfl) HST.out (fun hHeld => ?_)
          refine wpAnyH_take (i := 0) (oi := { dst := some 46, op := Op.load 23 (Operand.tmp 4), type := 23, pos := "law.go:150", after := #[], guard := none }) (v := .agg #[.int .i64 7, .string (bs tn), .int .i64 op, .string (bs tv)]) rfl (by kernel_rfl) (by kernel_rfl) (by kernel_rfl) (fun _ _ _ h => h) (Or.inl ⟨by rfl, fun w hSw => by (try dsimp only at hSw); obtain ⟨c0, c1, c2, c3⟩ := hSw.1.cells; go_simp⟩) hHeld ?_
          try simp only [Act.put, List.setIfInBounds_toArray, List.set_cons_zero, List.set_cons_succ]
          refine wpAnyH_take (i := 1) (oi := { dst := some 47, op := Op.load 43 (Operand.tmp 5), type := 43, pos := "law.go:150", after := #[], guard := none }) (v := .agg #[.slice d.props.a d.props.n d.props.c, .slice d.tags.a d.tags.n d.tags.c, .slice d.links.a d.links.n d.links.c, .slice d.run.a d.run.n d.run.c, .slice d.load.a d.load.n d.load.c, .string d.name, .int .i64 d.prio, .string d.owner, .string d.group, .int .i64 d.mode, .string d.res, .int .i64 d.calls, .int .i64 d.ticks, .slice d.closed.a d.closed.n d.closed.c]) rfl (by kernel_rfl) (by kernel_rfl) (by kernel_rfl) (fun _ _ _ h => h) (Or.inl ⟨by rfl, fun w hSw => by (try dsimp only at hSw); obtain ⟨d0, d1, d2, d3, d4, d5, d6, d7, d8, d9, d10, d11, d12, d13⟩ := hSw.2.2.1.cells; go_simp⟩) hHeld ?_
          try simp only [Act.put, List.setIfInBounds_toArray, List.set_cons_zero, List.set_cons_succ]
          refine wpAnyH_take (i := 3) (oi := { dst := some 49, op := Op.load 23 (Operand.tmp 7), type := 23, pos := "law.go:150", after := #[], guard := none }) (v := .agg #[.int .i64 7, .string (bs tn), .int .i64 (3 - op), .string (bs tv)]) rfl (by kernel_rfl) (by kernel_rfl) (by kernel_rfl) (fun _ _ _ h => h) (Or.inl ⟨by rfl, fun w hSw => by (try dsimp only at hSw); obtain ⟨c0, c1, c2, c3⟩ := hSw.2.1.cells; go_simp⟩) hHeld ?_
          try simp only [Act.put, List.setIfInBounds_toArray, List.set_cons_zero, List.set_cons_succ]
          refine wpAnyH_take (i := 4) (oi := { dst := some 50, op := Op.load 43 (Operand.tmp 5), type := 43, pos := "law.go:150", after := #[], guard := none }) (v := .agg #[.slice d.props.a d.props.n d.props.c, .slice d.tags.a d.tags.n d.tags.c, .slice d.links.a d.links.n d.links.c, .slice d.run.a d.run.n d.run.c, .slice d.load.a d.load.n d.load.c, .string d.name, .int .i64 d.prio, .string d.owner, .string d.group, .int .i64 d.mode, .string d.res, .int .i64 d.calls, .int .i64 d.ticks, .slice d.closed.a d.closed.n d.closed.c]) rfl (by kernel_rfl) (by kernel_rfl) (by kernel_rfl) (fun _ _ _ h => h) (Or.inl ⟨by rfl, fun w hSw => by (try dsimp only at hSw); obtain ⟨d0, d1, d2, d3, d4, d5, d6, d7, d8, d9, d10, d11, d12, d13⟩ := hSw.2.2.1.cells; go_simp⟩) hHeld ?_
          try simp only [Act.put, List.setIfInBounds_toArray, List.set_cons_zero, List.set_cons_succ]
          refine wpAnyH_ready (rs := [2]) (by kernel_rfl) (by simp) ?_
          refine AllReadyH.cons (o := { dst := some 48, op := Op.call { callee := Callee.value (Operand.func 17), args := #[Operand.tmp 46, Operand.const (Value.string { data := #[97, 100, 100] }), Operand.tmp 47], argTypes := #[23, 9, 43] }, type := 4, pos := "law.go:150", after := #[{ on := 0, ground := Ground.data }, { on := 1, ground := Ground.data }], guard := none }) rfl (fun K hK => ?_) AllReadyH.nil
          go_simp
          go_at_call 17
          refine Calls.mono (by with_reducible exact HR1.out _ hHeld.2.2.2) ?_
          rintro e y1 ⟨rfl, hk⟩
          dsimp only
          have hH := (show MAt y1 p4 ⟨7, tn, op, tv⟩ ∧ MAt y1 p7 ⟨7, tn, 3 - op, tv⟩ ∧ DAt y1 p5 d ∧ Kp [] u4 y1 from ⟨hHeld.1.kp0 hk, hHeld.2.1.kp0 hk, hHeld.2.2.1.kp0 hk, hHeld.2.2.2.trans hk⟩)
          clear hHeld
          refine hK.out _ _ hH (fun hHeld => ?_)
          try simp only [Act.put, List.setIfInBounds_toArray, List.set_cons_zero, List.set_cons_succ]
          clear hK
          refine wpAnyH_ready (rs := [5]) (by kernel_rfl) (by simp) ?_
          refine AllReadyH.cons (o := { dst := some 51, op := Op.call { callee := Callee.value (Operand.func 17), args := #[Operand.tmp 49, Operand.const (Value.string { data := #[97, 100, 100] }), Operand.tmp 50], argTypes := #[23, 9, 43] }, type := 4, pos := "law.go:150", after := #[{ on := 3, ground := Ground.data }, { on := 4, ground := Ground.data }, { on := 2, ground := Ground.chain }], guard := none }) rfl (fun K hK => ?_) AllReadyH.nil
          go_simp
          go_at_call 17
          refine Calls.mono (by with_reducible exact HR2.out _ hHeld.2.2.2) ?_
          rintro e y2 ⟨rfl, hk⟩
          dsimp only
          have hH := (show MAt y2 p4 ⟨7, tn, op, tv⟩ ∧ MAt y2 p7 ⟨7, tn, 3 - op, tv⟩ ∧ DAt y2 p5 d ∧ Kp [] u4 y2 from ⟨hHeld.1.kp0 hk, hHeld.2.1.kp0 hk, hHeld.2.2.1.kp0 hk, hHeld.2.2.2.trans hk⟩)
          clear hHeld
          refine hK.out _ _ hH (fun hHeld => ?_)
          try simp only [Act.put, List.setIfInBounds_toArray, List.set_cons_zero, List.set_cons_succ]
          clear hK
          refine wpAnyH_take (i := 6) (oi := { dst := some 52, op := Op.binOp BinOp.neq 4 (Operand.tmp 48) (Operand.tmp 51) 4, type := 4, pos := "law.go:150", after := #[{ on := 2, ground := Ground.data }, { on := 5, ground := Ground.data }], guard := none }) (v := .bool true) rfl (by kernel_rfl) (by kernel_rfl) (by kernel_rfl) (fun _ _ _ h => h) (Or.inl ⟨by rfl, fun w hSw => by (try dsimp only at hSw); go_simp⟩) hHeld ?_
          try simp only [Act.put, List.setIfInBounds_toArray, List.set_cons_zero, List.set_cons_succ]
          refine wpAnyH_take (i := 7) (oi := { dst := some 53, op := Op.move (Operand.tmp 52), type := 4, pos := "law.go:150", after := #[{ on := 6, ground := Ground.data }, { on := 5, ground := Ground.chain }], guard := none }) (v := .bool true) rfl (by kernel_rfl) (by kernel_rfl) (by kernel_rfl) (fun _ _ _ h => h) (Or.inl ⟨by rfl, fun w hSw => by (try dsimp only at hSw); go_simp⟩) hHeld ?_
          try simp only [Act.put, List.setIfInBounds_toArray, List.set_cons_zero, List.set_cons_succ]
          refine wpAnyH_ready (rs := [8]) (by kernel_rfl) (by simp) ?_
          refine AllReadyH.cons (o := { dst := some 54, op := Op.call { callee := Callee.value (Operand.func 7), args := #[], argTypes := #[] }, type := 4, pos := "law.go:150", after := #[{ on := 7, ground := Ground.chain }, { on := 7, ground := Ground.guard }], guard := some (7, true) }) rfl (fun K hK => ?_) AllReadyH.nil
          go_simp
          go_at_call 7
          refine Calls.mono (by with_reducible exact HKN.out _) ?_
          rintro e y3 ⟨rfl, hk⟩
          dsimp only
          have hH := (show MAt y3 p4 ⟨7, tn, op, tv⟩ ∧ MAt y3 p7 ⟨7, tn, 3 - op, tv⟩ ∧ DAt y3 p5 d ∧ Kp [] u4 y3 from ⟨hHeld.1.kp0 hk, hHeld.2.1.kp0 hk, hHeld.2.2.1.kp0 hk, hHeld.2.2.2.trans hk⟩)
          have HF := Lib.hid hH.2.2.2
          clear hHeld
          refine hK.out _ _ hH (fun hHeld => ?_)
          try simp only [Act.put, List.setIfInBounds_toArray, List.set_cons_zero, List.set_cons_succ]
          clear hK
          refine wpAnyH_take (i := 9) (oi := { dst := some 55, op := Op.pick (Operand.tmp 53) (Operand.tmp 54) (Operand.const (Value.bool false)), type := 4, pos := "law.go:150", after := #[{ on := 7, ground := Ground.data }, { on := 8, ground := Ground.data }], guard := none }) (v := .bool true) rfl (by kernel_rfl) (by kernel_rfl) (by kernel_rfl) (fun _ _ _ h => h) (Or.inl ⟨by rfl, fun w hSw => by (try dsimp only at hSw); go_simp⟩) hHeld ?_
          try simp only [Act.put, List.setIfInBounds_toArray, List.set_cons_zero, List.set_cons_succ]
          refine wpAnyH_take (i := 10) (oi := { dst := some 2, op := Op.assign (Operand.tmp 55), type := 4, pos := "law.go:150", after := #[{ on := 9, ground := Ground.data }, { on := 8, ground := Ground.chain }, { on := 0, ground := Ground.phase }, { on := 1, ground := Ground.phase }, { on := 2, ground := Ground.phase }, { on := 3, ground := Ground.phase }, { on := 4, ground := Ground.phase }, { on := 5, ground := Ground.phase }, { on := 6, ground := Ground.phase }, { on := 7, ground := Ground.phase }, { on := 8, ground := Ground.phase }, { on := 9, ground := Ground.phase }], guard := none }) (v := .bool true) rfl (by kernel_rfl) (by kernel_rfl) (by kernel_rfl) (fun _ _ _ h => h) (Or.inl ⟨by rfl, fun w hSw => by (try dsimp only at hSw); go_simp⟩) hHeld ?_
          try simp only [Act.put, List.setIfInBounds_toArray, List.set_cons_zero, List.set_cons_succ]
          refine wpAnyH_done (by kernel_rfl) ?_ _
          clear hHeld
          go_wp2
          go_ret
          exact ⟨rfl, HKW.out _ HF.out⟩
      · go_upto_region 12 with (first
          | (go_at_call 10; refine Calls.mono (by with_reducible exact HS1.out _) ?_; rintro e w5 ⟨rfl, hk⟩; obtain ⟨t0, t1, t2, t3⟩ := HC4.out w5 hk; have HQ := Lib.hid hk; clear hk)
          | (go_at_call 12; refine Calls.mono (by with_reducible exact HU1.out _) ?_; rintro e w6 ⟨rfl, hk⟩; obtain ⟨t0, t1, t2, t3⟩ := HC4.out w6 (HQ.out.trans hk); obtain ⟨d0, d1, d2, d3, d4, d5, d6, d7, d8, d9, d10, d11, d12, d13⟩ := HC5.out w6 (HQ.out.trans hk); have HQ := Lib.hid (HQ.out.trans hk); clear hk))
        cases b3
        · skip
          have HST := Lib.hid (show MAt w6.drew p4 ⟨13, tn, op, tv⟩ ∧ MAt w6.drew p7 ⟨13, tn, 3 - op, tv⟩ ∧ DAt w6.drew p5 d ∧ Kp [] u4 w6.drew from ⟨HM4.out.kp0 (HQ.out.drew 1), HM7.out.kp0 (HQ.out.drew 1), HM5.out.kp0 (HQ.out.drew 1), HQ.out.drew 1⟩)
          refine wp_region_held_drew (S := fun W => MAt W p4 ⟨13, tn, op, tv⟩ ∧ MAt W p7 ⟨13, tn, 3 - op, tv⟩ ∧ DAt W p5 d ∧ Kp [] u4 W) (by kernel_rfl) HST.out (fun hHeld => ?_)
          refine wpAnyH_take (i := 0) (oi := { dst := some 46, op := Op.load 23 (Operand.tmp 4), type := 23, pos := "law.go:150", after := #[], guard := none }) (v := .agg #[.int .i64 13, .string (bs tn), .int .i64 op, .string (bs tv)]) rfl (by kernel_rfl) (by kernel_rfl) (by kernel_rfl) (fun _ _ _ h => h) (Or.inl ⟨by rfl, fun w hSw => by (try dsimp only at hSw); obtain ⟨c0, c1, c2, c3⟩ := hSw.1.cells; go_simp⟩) hHeld ?_
          try simp only [Act.put, List.setIfInBounds_toArray, List.set_cons_zero, List.set_cons_succ]
          refine wpAnyH_take (i := 1) (oi := { dst := some 47, op := Op.load 43 (Operand.tmp 5), type := 43, pos := "law.go:150", after := #[], guard := none }) (v := .agg #[.slice d.props.a d.props.n d.props.c, .slice d.tags.a d.tags.n d.tags.c, .slice d.links.a d.links.n d.links.c, .slice d.run.a d.run.n d.run.c, .slice d.load.a d.load.n d.load.c, .string d.name, .int .i64 d.prio, .string d.owner, .string d.group, .int .i64 d.mode, .string d.res, .int .i64 d.calls, .int .i64 d.ticks, .slice d.closed.a d.closed.n d.closed.c]) rfl (by kernel_rfl) (by kernel_rfl) (by kernel_rfl) (fun _ _ _ h => h) (Or.inl ⟨by rfl, fun w hSw => by (try dsimp only at hSw); obtain ⟨d0, d1, d2, d3, d4, d5, d6, d7, d8, d9, d10, d11, d12, d13⟩ := hSw.2.2.1.cells; go_simp⟩) hHeld ?_
          try simp only [Act.put, List.setIfInBounds_toArray, List.set_cons_zero, List.set_cons_succ]
          refine wpAnyH_take (i := 3) (oi := { dst := some 49, op := Op.load 23 (Operand.tmp 7), type := 23, pos := "law.go:150", after := #[], guard := none }) (v := .agg #[.int .i64 13, .string (bs tn), .int .i64 (3 - op), .string (bs tv)]) rfl (by kernel_rfl) (by kernel_rfl) (by kernel_rfl) (fun _ _ _ h => h) (Or.inl ⟨by rfl, fun w hSw => by (try dsimp only at hSw); obtain ⟨c0, c1, c2, c3⟩ := hSw.2.1.cells; go_simp⟩) hHeld ?_
          try simp only [Act.put, List.setIfInBounds_toArray, List.set_cons_zero, List.set_cons_succ]
          refine wpAnyH_take (i := 4) (oi := { dst := some 50, op := Op.load 43 (Operand.tmp 5), type := 43, pos := "law.go:150", after := #[], guard := none }) (v := .agg #[.slice d.props.a d.props.n d.props.c, .slice d.tags.a d.tags.n d.tags.c, .slice d.links.a d.links.n d.links.c, .slice d.run.a d.run.n d.run.c, .slice d.load.a d.load.n d.load.c, .string d.name, .int .i64 d.prio, .string d.owner, .string d.group, .int .i64 d.mode, .string d.res, .int .i64 d.calls, .int .i64 d.ticks, .slice d.closed.a d.closed.n d.closed.c]) rfl (by kernel_rfl) (by kernel_rfl) (by kernel_rfl) (fun _ _ _ h => h) (Or.inl ⟨by rfl, fun w hSw => by (try dsimp only at hSw); obtain ⟨d0, d1, d2, d3, d4, d5, d6, d7, d8, d9, d10, d11, d12, d13⟩ := hSw.2.2.1.cells; go_simp⟩) hHeld ?_
          try simp only [Act.put, List.setIfInBounds_toArray, List.set_cons_zero, List.set_cons_succ]
          refine wpAnyH_ready (rs := [2]) (by kernel_rfl) (by simp) ?_
          refine AllReadyH.cons (o := { dst := some 48, op := Op.call { callee := Callee.value (Operand.func 17), args := #[Operand.tmp 46, Operand.const (Value.string { data := #[97, 100, 100] }), Operand.tmp 47], argTypes := #[23, 9, 43] }, type := 4, pos := "law.go:150", after := #[{ on := 0, ground := Ground.data }, { on := 1, ground := Ground.data }], guard := none }) rfl (fun K hK => ?_) AllReadyH.nil
          go_simp
          go_at_call 17
          refine Calls.mono (by with_reducible exact HR1.out _ hHeld.2.2.2) ?_
          rintro e y1 ⟨rfl, hk⟩
          dsimp only
          have hH := (show MAt y1 p4 ⟨13, tn, op, tv⟩ ∧ MAt y1 p7 ⟨13, tn, 3 - op, tv⟩ ∧ DAt y1 p5 d ∧ Kp [] u4 y1 from ⟨hHeld.1.kp0 hk, hHeld.2.1.kp0 hk, hHeld.2.2.1.kp0 hk, hHeld.2.2.2.trans hk⟩)
          clear hHeld
          refine hK.out _ _ hH (fun hHeld => ?_)
          try simp only [Act.put, List.setIfInBounds_toArray, List.set_cons_zero, List.set_cons_succ]
          clear hK
          refine wpAnyH_ready (rs := [5]) (by kernel_rfl) (by simp) ?_
          refine AllReadyH.cons (o := { dst := some 51, op := Op.call { callee := Callee.value (Operand.func 17), args := #[Operand.tmp 49, Operand.const (Value.string { data := #[97, 100, 100] }), Operand.tmp 50], argTypes := #[23, 9, 43] }, type := 4, pos := "law.go:150", after := #[{ on := 3, ground := Ground.data }, { on := 4, ground := Ground.data }, { on := 2, ground := Ground.chain }], guard := none }) rfl (fun K hK => ?_) AllReadyH.nil
          go_simp
          go_at_call 17
          refine Calls.mono (by with_reducible exact HR2.out _ hHeld.2.2.2) ?_
          rintro e y2 ⟨rfl, hk⟩
          dsimp only
          have hH := (show MAt y2 p4 ⟨13, tn, op, tv⟩ ∧ MAt y2 p7 ⟨13, tn, 3 - op, tv⟩ ∧ DAt y2 p5 d ∧ Kp [] u4 y2 from ⟨hHeld.1.kp0 hk, hHeld.2.1.kp0 hk, hHeld.2.2.1.kp0 hk, hHeld.2.2.2.trans hk⟩)
          clear hHeld
          refine hK.out _ _ hH (fun hHeld => ?_)
          try simp only [Act.put, List.setIfInBounds_toArray, List.set_cons_zero, List.set_cons_succ]
          clear hK
          refine wpAnyH_take (i := 6) (oi := { dst := some 52, op := Op.binOp BinOp.neq 4 (Operand.tmp 48) (Operand.tmp 51) 4, type := 4, pos := "law.go:150", after := #[{ on := 2, ground := Ground.data }, { on := 5, ground := Ground.data }], guard := none }) (v := .bool true) rfl (by kernel_rfl) (by kernel_rfl) (by kernel_rfl) (fun _ _ _ h => h) (Or.inl ⟨by rfl, fun w hSw => by (try dsimp only at hSw); go_simp⟩) hHeld ?_
          try simp only [Act.put, List.setIfInBounds_toArray, List.set_cons_zero, List.set_cons_succ]
          refine wpAnyH_take (i := 7) (oi := { dst := some 53, op := Op.move (Operand.tmp 52), type := 4, pos := "law.go:150", after := #[{ on := 6, ground := Ground.data }, { on := 5, ground := Ground.chain }], guard := none }) (v := .bool true) rfl (by kernel_rfl) (by kernel_rfl) (by kernel_rfl) (fun _ _ _ h => h) (Or.inl ⟨by rfl, fun w hSw => by (try dsimp only at hSw); go_simp⟩) hHeld ?_
          try simp only [Act.put, List.setIfInBounds_toArray, List.set_cons_zero, List.set_cons_succ]
          refine wpAnyH_ready (rs := [8]) (by kernel_rfl) (by simp) ?_
          refine AllReadyH.cons (o := { dst := some 54, op := Op.call { callee := Callee.value (Operand.func 7), args := #[], argTypes := #[] }, type := 4, pos := "law.go:150", after := #[{ on := 7, ground := Ground.chain }, { on := 7, ground := Ground.guard }], guard := some (7, true) }) rfl (fun K hK => ?_) AllReadyH.nil
          go_simp
          go_at_call 7
          refine Calls.mono (by with_reducible exact HKN.out _) ?_
          rintro e y3 ⟨rfl, hk⟩
          dsimp only
          have hH := (show MAt y3 p4 ⟨13, tn, op, tv⟩ ∧ MAt y3 p7 ⟨13, tn, 3 - op, tv⟩ ∧ DAt y3 p5 d ∧ Kp [] u4 y3 from ⟨hHeld.1.kp0 hk, hHeld.2.1.kp0 hk, hHeld.2.2.1.kp0 hk, hHeld.2.2.2.trans hk⟩)
          have HF := Lib.hid hH.2.2.2
          clear hHeld
          refine hK.out _ _ hH (fun hHeld => ?_)
          try simp only [Act.put, List.setIfInBounds_toArray, List.set_cons_zero, List.set_cons_succ]
          clear hK
          refine wpAnyH_take (i := 9) (oi := { dst := some 55, op := Op.pick (Operand.tmp 53) (Operand.tmp 54) (Operand.const (Value.bool false)), type := 4, pos := "law.go:150", after := #[{ on := 7, ground := Ground.data }, { on := 8, ground := Ground.data }], guard := none }) (v := .bool true) rfl (by kernel_rfl) (by kernel_rfl) (by kernel_rfl) (fun _ _ _ h => h) (Or.inl ⟨by rfl, fun w hSw => by (try dsimp only at hSw); go_simp⟩) hHeld ?_
          try simp only [Act.put, List.setIfInBounds_toArray, List.set_cons_zero, List.set_cons_succ]
          refine wpAnyH_take (i := 10) (oi := { dst := some 2, op := Op.assign (Operand.tmp 55), type := 4, pos := "law.go:150", after := #[{ on := 9, ground := Ground.data }, { on := 8, ground := Ground.chain }, { on := 0, ground := Ground.phase }, { on := 1, ground := Ground.phase }, { on := 2, ground := Ground.phase }, { on := 3, ground := Ground.phase }, { on := 4, ground := Ground.phase }, { on := 5, ground := Ground.phase }, { on := 6, ground := Ground.phase }, { on := 7, ground := Ground.phase }, { on := 8, ground := Ground.phase }, { on := 9, ground := Ground.phase }], guard := none }) (v := .bool true) rfl (by kernel_rfl) (by kernel_rfl) (by kernel_rfl) (fun _ _ _ h => h) (Or.inl ⟨by rfl, fun w hSw => by (try dsimp only at hSw); go_simp⟩) hHeld ?_
          try simp only [Act.put, List.setIfInBounds_toArray, List.set_cons_zero, List.set_cons_succ]
          refine wpAnyH_done (by kernel_rfl) ?_ _
          clear hHeld
          go_wp2
          go_ret
          exact ⟨rfl, HKW.out _ HF.out⟩
        · skip
          have HST := Lib.hid (show MAt w6.drew p4 ⟨13, tn, op, tv⟩ ∧ MAt w6.drew p7 ⟨13, tn, 3 - op, tv⟩ ∧ DAt w6.drew p5 d ∧ Kp [] u4 w6.drew from ⟨HM4.out.kp0 (HQ.out.drew 1), HM7.out.kp0 (HQ.out.drew 1), HM5.out.kp0 (HQ.out.drew 1), HQ.out.drew 1⟩)
          refine wp_region_held_drew (S := fun W => MAt W p4 ⟨13, tn, op, tv⟩ ∧ MAt W p7 ⟨13, tn, 3 - op, tv⟩ ∧ DAt W p5 d ∧ Kp [] u4 W) (by kernel_rfl) HST.out (fun hHeld => ?_)
          refine wpAnyH_take (i := 0) (oi := { dst := some 46, op := Op.load 23 (Operand.tmp 4), type := 23, pos := "law.go:150", after := #[], guard := none }) (v := .agg #[.int .i64 13, .string (bs tn), .int .i64 op, .string (bs tv)]) rfl (by kernel_rfl) (by kernel_rfl) (by kernel_rfl) (fun _ _ _ h => h) (Or.inl ⟨by rfl, fun w hSw => by (try dsimp only at hSw); obtain ⟨c0, c1, c2, c3⟩ := hSw.1.cells; go_simp⟩) hHeld ?_
          try simp only [Act.put, List.setIfInBounds_toArray, List.set_cons_zero, List.set_cons_succ]
          refine wpAnyH_take (i := 1) (oi := { dst := some 47, op := Op.load 43 (Operand.tmp 5), type := 43, pos := "law.go:150", after := #[], guard := none }) (v := .agg #[.slice d.props.a d.props.n d.props.c, .slice d.tags.a d.tags.n d.tags.c, .slice d.links.a d.links.n d.links.c, .slice d.run.a d.run.n d.run.c, .slice d.load.a d.load.n d.load.c, .string d.name, .int .i64 d.prio, .string d.owner, .string d.group, .int .i64 d.mode, .string d.res, .int .i64 d.calls, .int .i64 d.ticks, .slice d.closed.a d.closed.n d.closed.c]) rfl (by kernel_rfl) (by kernel_rfl) (by kernel_rfl) (fun _ _ _ h => h) (Or.inl ⟨by rfl, fun w hSw => by (try dsimp only at hSw); obtain ⟨d0, d1, d2, d3, d4, d5, d6, d7, d8, d9, d10, d11, d12, d13⟩ := hSw.2.2.1.cells; go_simp⟩) hHeld ?_
          try simp only [Act.put, List.setIfInBounds_toArray, List.set_cons_zero, List.set_cons_succ]
          refine wpAnyH_take (i := 3) (oi := { dst := some 49, op := Op.load 23 (Operand.tmp 7), type := 23, pos := "law.go:150", after := #[], guard := none }) (v := .agg #[.int .i64 13, .string (bs tn), .int .i64 (3 - op), .string (bs tv)]) rfl (by kernel_rfl) (by kernel_rfl) (by kernel_rfl) (fun _ _ _ h => h) (Or.inl ⟨by rfl, fun w hSw => by (try dsimp only at hSw); obtain ⟨c0, c1, c2, c3⟩ := hSw.2.1.cells; go_simp⟩) hHeld ?_
          try simp only [Act.put, List.setIfInBounds_toArray, List.set_cons_zero, List.set_cons_succ]
          refine wpAnyH_take (i := 4) (oi := { dst := some 50, op := Op.load 43 (Operand.tmp 5), type := 43, pos := "law.go:150", after := #[], guard := none }) (v := .agg #[.slice d.props.a d.props.n d.props.c, .slice d.tags.a d.tags.n d.tags.c, .slice d.links.a d.links.n d.links.c, .slice d.run.a d.run.n d.run.c, .slice d.load.a d.load.n d.load.c, .string d.name, .int .i64 d.prio, .string d.owner, .string d.group, .int .i64 d.mode, .string d.res, .int .i64 d.calls, .int .i64 d.ticks, .slice d.closed.a d.closed.n d.closed.c]) rfl (by kernel_rfl) (by kernel_rfl) (by kernel_rfl) (fun _ _ _ h => h) (Or.inl ⟨by rfl, fun w hSw => by (try dsimp only at hSw); obtain ⟨d0, d1, d2, d3, d4, d5, d6, d7, d8, d9, d10, d11, d12, d13⟩ := hSw.2.2.1.cells; go_simp⟩) hHeld ?_
          try simp only [Act.put, List.setIfInBounds_toArray, List.set_cons_zero, List.set_cons_succ]
          refine wpAnyH_ready (rs := [2]) (by kernel_rfl) (by simp) ?_
          refine AllReadyH.cons (o := { dst := some 48, op := Op.call { callee := Callee.value (Operand.func 17), args := #[Operand.tmp 46, Operand.const (Value.string { data := #[97, 100, 100] }), Operand.tmp 47], argTypes := #[23, 9, 43] }, type := 4, pos := "law.go:150", after := #[{ on := 0, ground := Ground.data }, { on := 1, ground := Ground.data }], guard := none }) rfl (fun K hK => ?_) AllReadyH.nil
          go_simp
          go_at_call 17
          refine Calls.mono (by with_reducible exact HR1.out _ hHeld.2.2.2) ?_
          rintro e y1 ⟨rfl, hk⟩
          dsimp only
          have hH := (show MAt y1 p4 ⟨13, tn, op, tv⟩ ∧ MAt y1 p7 ⟨13, tn, 3 - op, tv⟩ ∧ DAt y1 p5 d ∧ Kp [] u4 y1 from ⟨hHeld.1.kp0 hk, hHeld.2.1.kp0 hk, hHeld.2.2.1.kp0 hk, hHeld.2.2.2.trans hk⟩)
          clear hHeld
          refine hK.out _ _ hH (fun hHeld => ?_)
          try simp only [Act.put, List.setIfInBounds_toArray, List.set_cons_zero, List.set_cons_succ]
          clear hK
          refine wpAnyH_ready (rs := [5]) (by kernel_rfl) (by simp) ?_
          refine AllReadyH.cons (o := { dst := some 51, op := Op.call { callee := Callee.value (Operand.func 17), args := #[Operand.tmp 49, Operand.const (Value.string { data := #[97, 100, 100] }), Operand.tmp 50], argTypes := #[23, 9, 43] }, type := 4, pos := "law.go:150", after := #[{ on := 3, ground := Ground.data }, { on := 4, ground := Ground.data }, { on := 2, ground := Ground.chain }], guard := none }) rfl (fun K hK => ?_) AllReadyH.nil
          go_simp
          go_at_call 17
          refine Calls.mono (by with_reducible exact HR2.out _ hHeld.2.2.2) ?_
          rintro e y2 ⟨rfl, hk⟩
          dsimp only
          have hH := (show MAt y2 p4 ⟨13, tn, op, tv⟩ ∧ MAt y2 p7 ⟨13, tn, 3 - op, tv⟩ ∧ DAt y2 p5 d ∧ Kp [] u4 y2 from ⟨hHeld.1.kp0 hk, hHeld.2.1.kp0 hk, hHeld.2.2.1.kp0 hk, hHeld.2.2.2.trans hk⟩)
          clear hHeld
          refine hK.out _ _ hH (fun hHeld => ?_)
          try simp only [Act.put, List.setIfInBounds_toArray, List.set_cons_zero, List.set_cons_succ]
          clear hK
          refine wpAnyH_take (i := 6) (oi := { dst := some 52, op := Op.binOp BinOp.neq 4 (Operand.tmp 48) (Operand.tmp 51) 4, type := 4, pos := "law.go:150", after := #[{ on := 2, ground := Ground.data }, { on := 5, ground := Ground.data }], guard := none }) (v := .bool true) rfl (by kernel_rfl) (by kernel_rfl) (by kernel_rfl) (fun _ _ _ h => h) (Or.inl ⟨by rfl, fun w hSw => by (try dsimp only at hSw); go_simp⟩) hHeld ?_
          try simp only [Act.put, List.setIfInBounds_toArray, List.set_cons_zero, List.set_cons_succ]
          refine wpAnyH_take (i := 7) (oi := { dst := some 53, op := Op.move (Operand.tmp 52), type := 4, pos := "law.go:150", after := #[{ on := 6, ground := Ground.data }, { on := 5, ground := Ground.chain }], guard := none }) (v := .bool true) rfl (by kernel_rfl) (by kernel_rfl) (by kernel_rfl) (fun _ _ _ h => h) (Or.inl ⟨by rfl, fun w hSw => by (try dsimp only at hSw); go_simp⟩) hHeld ?_
          try simp only [Act.put, List.setIfInBounds_toArray, List.set_cons_zero, List.set_cons_succ]
          refine wpAnyH_ready (rs := [8]) (by kernel_rfl) (by simp) ?_
          refine AllReadyH.cons (o := { dst := some 54, op := Op.call { callee := Callee.value (Operand.func 7), args := #[], argTypes := #[] }, type := 4, pos := "law.go:150", after := #[{ on := 7, ground := Ground.chain }, { on := 7, ground := Ground.guard }], guard := some (7, true) }) rfl (fun K hK => ?_) AllReadyH.nil
          go_simp
          go_at_call 7
          refine Calls.mono (by with_reducible exact HKN.out _) ?_
          rintro e y3 ⟨rfl, hk⟩
          dsimp only
          have hH := (show MAt y3 p4 ⟨13, tn, op, tv⟩ ∧ MAt y3 p7 ⟨13, tn, 3 - op, tv⟩ ∧ DAt y3 p5 d ∧ Kp [] u4 y3 from ⟨hHeld.1.kp0 hk, hHeld.2.1.kp0 hk, hHeld.2.2.1.kp0 hk, hHeld.2.2.2.trans hk⟩)
          have HF := Lib.hid hH.2.2.2
          clear hHeld
          refine hK.out _ _ hH (fun hHeld => ?_)
          try simp only [Act.put, List.setIfInBounds_toArray, List.set_cons_zero, List.set_cons_succ]
          clear hK
          refine wpAnyH_take (i := 9) (oi := { dst := some 55, op := Op.pick (Operand.tmp 53) (Operand.tmp 54) (Operand.const (Value.bool false)), type := 4, pos := "law.go:150", after := #[{ on := 7, ground := Ground.data }, { on := 8, ground := Ground.data }], guard := none }) (v := .bool true) rfl (by kernel_rfl) (by kernel_rfl) (by kernel_rfl) (fun _ _ _ h => h) (Or.inl ⟨by rfl, fun w hSw => by (try dsimp only at hSw); go_simp⟩) hHeld ?_
          try simp only [Act.put, List.setIfInBounds_toArray, List.set_cons_zero, List.set_cons_succ]
          refine wpAnyH_take (i := 10) (oi := { dst := some 2, op := Op.assign (Operand.tmp 55), type := 4, pos := "law.go:150", after := #[{ on := 9, ground := Ground.data }, { on := 8, ground := Ground.chain }, { on := 0, ground := Ground.phase }, { on := 1, ground := Ground.phase }, { on := 2, ground := Ground.phase }, { on := 3, ground := Ground.phase }, { on := 4, ground := Ground.phase }, { on := 5, ground := Ground.phase }, { on := 6, ground := Ground.phase }, { on := 7, ground := Ground.phase }, { on := 8, ground := Ground.phase }, { on := 9, ground := Ground.phase }], guard := none }) (v := .bool true) rfl (by kernel_rfl) (by kernel_rfl) (by kernel_rfl) (fun _ _ _ h => h) (Or.inl ⟨by rfl, fun w hSw => by (try dsimp only at hSw); go_simp⟩) hHeld ?_
          try simp only [Act.put, List.setIfInBounds_toArray, List.set_cons_zero, List.set_cons_succ]
          refine wpAnyH_done (by kernel_rfl) ?_ _
          clear hHeld
          go_wp2
          go_ret
          exact ⟨rfl, HKW.out _ HF.out⟩
    | false =>
      have hb := hno2 rfl
      subst hb
      obtain ⟨k1, k6, k7, k13⟩ := hdk rfl
      clear hdw hdk hno2 hdy
      go_wp2_with (first
        | (go_at_call 10; refine Calls.mono (by with_reducible exact HS1.out _) ?_; rintro e w5 ⟨rfl, hk⟩; obtain ⟨t0, t1, t2, t3⟩ := HC4.out w5 hk; have HQ := Lib.hid hk; clear hk)
        | (go_at_call 12; refine Calls.mono (by with_reducible exact HU1.out _) ?_; rintro e w6 ⟨rfl, hk⟩; obtain ⟨t0, t1, t2, t3⟩ := HC4.out w6 (HQ.out.trans hk); obtain ⟨d0, d1, d2, d3, d4, d5, d6, d7, d8, d9, d10, d11, d12, d13⟩ := HC5.out w6 (HQ.out.trans hk); have HQ := Lib.hid (HQ.out.trans hk); clear hk)
        | (go_at_call 17; refine Calls.mono (by with_reducible exact HR1.out _ HQ.out) ?_; rintro e w7 ⟨rfl, hk⟩; obtain ⟨t0, t1, t2, t3⟩ := HC4.out w7 (HQ.out.trans hk); obtain ⟨d0, d1, d2, d3, d4, d5, d6, d7, d8, d9⟩ := HC6.out w7 (HQ.out.trans hk); have HQ := Lib.hid (HQ.out.trans hk); clear hk)
        | (go_at_call 14; refine Calls.mono (by with_reducible exact HD1.out _ HQ.out) ?_; rintro e w8 ⟨rfl, hk⟩; have HQ := Lib.hid (HQ.out.trans hk); clear hk)
        | (go_at_call 7; refine Calls.mono (by with_reducible exact HKN.out _) ?_; rintro e w9 ⟨rfl, hk⟩; have HF := Lib.hid (HQ.out.trans hk); clear hk))
      go_ret
      exact ⟨rfl, HKW.out _ HF.out⟩
theorem matchTurns_walk (a : Option Addr) (n c : Nat) (W : World) (hi : Ints W W.heap.size (.slice a n c)) : Calls Try.prog 5 #[.slice a n c] W fun e w' => e = .returned (.bool true) ∧ Below W.heap.size W w' :=
  (turns_any a n c hi).mono fun _ _ ⟨h1, h2⟩ => ⟨h1, h2.bel⟩
end Go.Proofs.Ythblgkjmjfhkdaa
