/- helper.run, helper.Call. -/
import Derived.Test.YteiphphihclnfaaDoorHA
namespace Go.Proofs.YteiphphihclnfaaDoor
open Go.RowKit
set_option maxRecDepth 100000 in
set_option maxHeartbeats 1000000 in
/-- The deferred function where all went well. -/
theorem clear_ok {b : Nat} {o : List UInt8} {t : Int} {u : FrameMode} {w : World} (hb : w.heap[b]? = some (.cells #[.string (bs o), .int .i64 t, .int .i64 0] 55)) :
    CallsD Tryd.prog 44 #[.pointer (some ⟨b, 0, none⟩)] u w fun e u' w' => u' = u ∧ (e = .returned (.tuple #[]) ∧ w' = w) := by
  have c2 : w.cell? ⟨b, 2, none⟩ = some (.int .i64 0) := by rw [cell_of_row _ _ _ _ _ _ hb]; rfl
  clear hb
  go_enter_d Tryd.func44, Tryd.ntmps44
  go_wp2
  go_end0
  exact ⟨rfl, rfl⟩
set_option maxRecDepth 100000 in
set_option maxHeartbeats 1000000 in
/-- .. where something went wrong. -/
theorem clear_bad {b : Nat} {o : List UInt8} {t E : Int} {u : FrameMode} {w : World} (hE : E ≠ 0) (hb : w.heap[b]? = some (.cells #[.string (bs o), .int .i64 t, .int .i64 E] 55)) :
    CallsD Tryd.prog 44 #[.pointer (some ⟨b, 0, none⟩)] u w fun e u' w' => u' = u ∧ e = .returned (.tuple #[]) ∧ w' = w.setCell ⟨b, 0, none⟩ (.string ⟨#[]⟩) := by
  have c2 : w.cell? ⟨b, 2, none⟩ = some (.int .i64 E) := by rw [cell_of_row _ _ _ _ _ _ hb]; rfl
  have f0 : w.frozen? ⟨b, 0, none⟩ = false := by simp [World.frozen?, hb]
  have c0 : w.cell? ⟨b, 0, none⟩ = some (.string (bs o)) := by rw [cell_of_row _ _ _ _ _ _ hb]; rfl
  have hE2 : (E == 0) = false := by simpa using hE
  clear hb
  go_enter_d Tryd.func44, Tryd.ntmps44
  go_wp2
  go_end0
  exact ⟨rfl, rfl⟩
theorem set0 {w : World} {b : Nat} {A B C v : Value} (hb : w.heap[b]? = some (.cells #[A, B, C] 55)) : (w.setCell ⟨b, 0, none⟩ v).heap[b]? = some (.cells #[v, B, C] 55) := by
  simp [World.setCell, Array.getElem?_modify, hb]
theorem set1 {w : World} {b : Nat} {A B C v : Value} (hb : w.heap[b]? = some (.cells #[A, B, C] 55)) : (w.setCell ⟨b, 1, none⟩ v).heap[b]? = some (.cells #[A, v, C] 55) := by
  simp [World.setCell, Array.getElem?_modify, hb]
theorem set2 {w : World} {b : Nat} {A B C v : Value} (hb : w.heap[b]? = some (.cells #[A, B, C] 55)) : (w.setCell ⟨b, 2, none⟩ v).heap[b]? = some (.cells #[A, B, v] 55) := by
  simp [World.setCell, Array.getElem?_modify, hb]
theorem box_facts {w : World} {b : Nat} {A B C : Value} (hb : w.heap[b]? = some (.cells #[A, B, C] 55)) : w.cell? ⟨b, 0, none⟩ = some A ∧ w.cell? ⟨b, 1, none⟩ = some B ∧ w.cell? ⟨b, 2, none⟩ = some C ∧ w.frozen? ⟨b, 0, none⟩ = false ∧ w.frozen? ⟨b, 1, none⟩ = false ∧ w.frozen? ⟨b, 2, none⟩ = false := by
  refine ⟨?_, ?_, ?_, ?_, ?_, ?_⟩
  · rw [cell_of_row _ _ _ _ _ _ hb]; rfl
  · rw [cell_of_row _ _ _ _ _ _ hb]; rfl
  · rw [cell_of_row _ _ _ _ _ _ hb]; rfl
  all_goals simp [World.frozen?, hb]
set_option maxRecDepth 100000 in
/-- The door: the deferred function runs, and the result is read behind it. -/
theorem door_bad {tmps : Array Value} {w w0 : World} {b : Nat} {o : List UInt8} {t E : Int} (h8 : tmps.getD 8 undef = .pointer (some ⟨b, 0, none⟩)) (hb : w.heap[b]? = some (.cells #[.string (bs o), .int .i64 t, .int .i64 E] 55)) (hE : E ≠ 0) (hn : w0.heap.size ≤ b) (hk : Kp [] w0 w) :
    bodyPostD Tryd.prog Tryd.f27 (fun e w' => e = .returned (.agg #[.string (bs []), .int .i64 t, .int .i64 E]) ∧ Kp [] w0 w') Exit.ret { tmps := tmps, defers := [{ target := .fn (.func 44) #[.pointer (some ⟨b, 0, none⟩)], args := #[] }] } w := by
  have hi : (Tryd.prog.info? 55).map (·.size) = some 3 := by kernel_rfl
  refine leaves_cons (f := 44) (args := #[.pointer (some ⟨b, 0, none⟩)]) (by simp) (by simp [go_sem]) ?_
  refine (clear_bad hE hb).mono ?_
  rintro e u' w'' ⟨rfl, rfl, rfl⟩
  exact ⟨_, results_cell_row rfl _ _ b 55 _ _ _ h8 (set0 hb) Tryd.underlying55 rfl hi, rfl, hk.setCell (.inr hn) _⟩
set_option maxRecDepth 100000 in
theorem door_ok {tmps : Array Value} {w w0 : World} {b : Nat} {o : List UInt8} {t : Int} (h8 : tmps.getD 8 undef = .pointer (some ⟨b, 0, none⟩)) (hb : w.heap[b]? = some (.cells #[.string (bs o), .int .i64 t, .int .i64 0] 55)) (hk : Kp [] w0 w) :
    bodyPostD Tryd.prog Tryd.f27 (fun e w' => e = .returned (.agg #[.string (bs o), .int .i64 t, .int .i64 0]) ∧ Kp [] w0 w') Exit.ret { tmps := tmps, defers := [{ target := .fn (.func 44) #[.pointer (some ⟨b, 0, none⟩)], args := #[] }] } w := by
  have hi : (Tryd.prog.info? 55).map (·.size) = some 3 := by kernel_rfl
  refine leaves_cons (f := 44) (args := #[.pointer (some ⟨b, 0, none⟩)]) (by simp) (by simp [go_sem]) ?_
  refine (clear_ok hb).mono ?_
  rintro e u' w'' ⟨rfl, rfl, rfl⟩
  exact ⟨_, results_cell_row rfl _ _ b 55 _ _ _ h8 hb Tryd.underlying55 rfl hi, rfl, hk⟩
set_option maxRecDepth 100000 in
set_option maxHeartbeats 4000000 in
theorem run_calls {v : Value} {limit calls : Int} {c : List UInt8} {w : World} (hc : 16 ≤ calls) :
    Calls Tryd.prog 27 #[v, .int .i64 limit, .int .i64 calls, .string (bs c)] w fun e w' => e = .returned (.agg #[.string (bs []), .int .i64 0, .int .i64 144]) ∧ Kp [] w w' := by
  have hmf : ∀ (fn : Fn) (first cap : Array Value) (w : World), (Instr.makeFunc fn first cap).run Tryd.prog w = .ok (.func fn first cap) w := fun _ _ _ _ => rfl
  go_enter_defers Tryd.func27, Tryd.ntmps27
  go_wp2
  refine door_bad rfl (o := []) ?_ (by decide) (by simp) (((Kp.refl [] w).alloc _).alloc _)
  rw [show w.heap.size + 1 = (w.alloc (.cells #[.string (bs c)] 9)).heap.size by simp]
  exact heap_alloc_last _ _
set_option maxRecDepth 100000 in
set_option maxHeartbeats 4000000 in
theorem run_none {l : List Hp} (hl : l.length ≤ 1000000) (hs : ∀ x ∈ l, SmH x) {v : Value} {limit calls : Int} {c : List UInt8} (hc : c.length ≤ 4611686018427387904) {w : World} (hcl : ¬ 16 ≤ calls) (hh : hpT.Has w v l) (hf : firstH c l = none) :
    Calls Tryd.prog 27 #[v, .int .i64 limit, .int .i64 calls, .string (bs c)] w fun e w' => e = .returned (.agg #[.string (bs []), .int .i64 0, .int .i64 143]) ∧ Kp [] w w' := by
  have hmf : ∀ (fn : Fn) (first cap : Array Value) (w : World), (Instr.makeFunc fn first cap).run Tryd.prog w = .ok (.func fn first cap) w := fun _ _ _ _ => rfl
  have hi : (Tryd.prog.info? 55).map (·.size) = some 3 := by kernel_rfl
  have HI0 := Lib.hid hi
  clear hi
  obtain ⟨w1, hw1⟩ : ∃ w1, w.alloc (.cells #[.string (bs c)] 9) = w1 := ⟨_, rfl⟩
  obtain ⟨w2, hw2⟩ : ∃ w2, w1.alloc (.cells #[.string ⟨#[]⟩, .int .i64 0, .int .i64 0] 55) = w2 := ⟨_, rfl⟩
  obtain ⟨M, hM⟩ : ∃ M, w.heap.size = M := ⟨_, rfl⟩
  obtain ⟨N, hN⟩ : ∃ N, M + 1 = N := ⟨_, rfl⟩
  have hsz : w1.heap.size = N := by rw [← hw1, ← hN, ← hM]; simp
  have hk2 : Kp [] w w2 := by rw [← hw2, ← hw1]; exact ((Kp.refl [] w).alloc _).alloc _
  have hb2 : w2.heap[N]? = some (.cells #[.string ⟨#[]⟩, .int .i64 0, .int .i64 0] 55) := by rw [← hw2, ← hsz]; exact heap_alloc_last w1 _
  have hcc : w2.cell? ⟨M, 0, none⟩ = some (.string (bs c)) := by
    rw [← hw2, cell_of_row _ _ _ _ _ _ (show (w1.alloc _).heap[M]? = some (.cells #[.string (bs c)] 9) from by rw [heap_alloc_old _ _ (by omega), ← hw1, ← hM]; exact heap_alloc_last w _)]
    rfl
  have HI := Lib.hid ((idx45 hl hs hc (hh.kp0 hk2) hcc).mono (R' := fun e w' => e = .returned (.int .i64 (-1)) ∧ Kp [] w2 w') fun e w' ⟨r, he, hr, hk⟩ => by
    rcases hr with ⟨rfl, _⟩ | ⟨i, x, _, _, hfx⟩
    · exact ⟨he, hk⟩
    · rw [hf] at hfx; cases hfx)
  have HK := Lib.hid hk2
  have HB := Lib.hid fun W (h : Kp [] w2 W) => (h.block N (block_lt hb2) (by simp)).trans hb2
  have HF := Lib.hid hf
  have hMN : w.heap.size ≤ N := by omega
  have HMN := Lib.hid hMN
  clear hk2 hb2 hcc hh hs hf hMN
  go_enter_defers Tryd.func27, Tryd.ntmps27
  go_wp2_with (go_at_call 45; refine Calls.mono (by with_reducible exact HI.out) ?_; rintro e w3 ⟨rfl, hk3⟩; obtain ⟨c0, c1, c2, f0, f1, f2⟩ := box_facts (HB.out _ hk3); have HB3 := Lib.hid (HB.out _ hk3); have HK3 := Lib.hid (HK.out.trans hk3); clear hk3)
  refine door_bad (b := N) (t := 0) (E := 143) (o := []) ?_ (set2 (set1 (set0 HB3.out))) (by decide) HMN.out (((HK3.out.setCell (.inr HMN.out) _).setCell (.inr HMN.out) _).setCell (.inr HMN.out) _)
  rfl
set_option maxRecDepth 100000 in
set_option maxHeartbeats 8000000 in
theorem run_slow {l : List Hp} (hl : l.length ≤ 1000000) (hs : ∀ x ∈ l, SmH x) {v : Value} {limit calls : Int} {c : List UInt8} (hc : c.length ≤ 4611686018427387904) {w : World} (hcl : ¬ 16 ≤ calls) (hh : hpT.Has w v l) {x : Hp} (hf : firstH c l = some x) (hlim : limit < x.ticks) :
    Calls Tryd.prog 27 #[v, .int .i64 limit, .int .i64 calls, .string (bs c)] w fun e w' => e = .returned (.agg #[.string (bs []), .int .i64 limit, .int .i64 142]) ∧ Kp [] w w' := by
  have hmf : ∀ (fn : Fn) (first cap : Array Value) (w : World), (Instr.makeFunc fn first cap).run Tryd.prog w = .ok (.func fn first cap) w := fun _ _ _ _ => rfl
  have HI0 := Lib.hid (show (Tryd.prog.info? 55).map (·.size) = some 3 from by kernel_rfl)
  obtain ⟨w1, hw1⟩ : ∃ w1, w.alloc (.cells #[.string (bs c)] 9) = w1 := ⟨_, rfl⟩
  obtain ⟨w2, hw2⟩ : ∃ w2, w1.alloc (.cells #[.string ⟨#[]⟩, .int .i64 0, .int .i64 0] 55) = w2 := ⟨_, rfl⟩
  obtain ⟨M, hM⟩ : ∃ M, w.heap.size = M := ⟨_, rfl⟩
  obtain ⟨N, hN⟩ : ∃ N, M + 1 = N := ⟨_, rfl⟩
  have hsz : w1.heap.size = N := by rw [← hw1, ← hN, ← hM]; simp
  have hk2 : Kp [] w w2 := by rw [← hw2, ← hw1]; exact ((Kp.refl [] w).alloc _).alloc _
  have hb2 : w2.heap[N]? = some (.cells #[.string ⟨#[]⟩, .int .i64 0, .int .i64 0] 55) := by rw [← hw2, ← hsz]; exact heap_alloc_last w1 _
  have hcc : w2.cell? ⟨M, 0, none⟩ = some (.string (bs c)) := by
    rw [← hw2, cell_of_row _ _ _ _ _ _ (show (w1.alloc _).heap[M]? = some (.cells #[.string (bs c)] 9) from by rw [heap_alloc_old _ _ (by omega), ← hw1, ← hM]; exact heap_alloc_last w _)]
    rfl
  have HI := Lib.hid ((idx45 hl hs hc (hh.kp0 hk2) hcc).mono (R' := fun e w' => ∃ i : Nat, e = .returned (.int .i64 (i : Int)) ∧ l[i]? = some x ∧ Kp [] w2 w') fun e w' ⟨r, he, hr, hk⟩ => by
    rcases hr with ⟨rfl, hn⟩ | ⟨i, y, rfl, hi, hfx⟩
    · rw [hf] at hn; cases hn
    · rw [hf] at hfx; cases hfx; exact ⟨i, he, hi, hk⟩)
  have hlz : l ≠ [] := by rintro rfl; cases hf
  obtain ⟨b, o, cp, rfl, hbl, hr⟩ : ∃ b o cp, v = .slice (some ⟨b, o, none⟩) l.length cp ∧ b < w.heap.size ∧ hpT.Row w b o l := by
    rcases hh with ⟨_, _, _, h⟩ | ⟨b, o, cp, h1, h2, h3⟩
    · exact absurd h hlz
    · exact ⟨b, o, cp, h1, h2, h3⟩
  have HK := Lib.hid hk2
  have HB := Lib.hid fun W (h : Kp [] w2 W) => (h.block N (block_lt hb2) (by simp)).trans hb2
  have HR := Lib.hid fun W (h : Kp [] w2 W) (i : Nat) (hx : l[i]? = some x) => hpRow (hr.keep ((hk2.trans h).block b hbl (by simp))) hx
  have hbN : ¬ N = b := by omega
  have hbN2 : ¬ b = N := by omega
  have HMN := Lib.hid (show w.heap.size ≤ N by omega)
  have hb1 : limit < x.ticks := hlim
  clear hk2 hb2 hcc hh hs hf hr hlz hbl
  go_enter_defers Tryd.func27, Tryd.ntmps27
  go_wp2_with (go_at_call 45; refine Calls.mono (by with_reducible exact HI.out) ?_; rintro e w3 ⟨i, rfl, hx, hk3⟩; have hil := (List.getElem?_eq_some_iff.1 hx).1; have hiz : (i : Int) < (l.length : Int) := (by omega); clear hil; obtain ⟨c0, c1, c2, f0, f1, f2⟩ := box_facts (HB.out _ hk3); obtain ⟨r0, r1, r2, r3⟩ := HR.out _ hk3 i hx; have HB3 := Lib.hid (HB.out _ hk3); have HK3 := Lib.hid (HK.out.trans hk3); clear hk3 hx)
  go_region
  go_upto_region 12 with fail
  obtain ⟨W9, hW9⟩ : ∃ W9, World.drew ((((w3.setCell ⟨N, 0, none⟩ (.string (bs x.out))).setCell ⟨N, 1, none⟩ (.int .i64 x.ticks)).setCell ⟨N, 1, none⟩ (.int .i64 limit)).setCell ⟨N, 2, none⟩ (.int .i64 142)) = W9 := ⟨_, rfl⟩
  have hb9 : W9.heap[N]? = some (.cells #[.string (bs x.out), .int .i64 limit, .int .i64 142] 55) := by rw [← hW9]; exact set2 (set1 (set1 (set0 HB3.out)))
  have hk9 : Kp [] w W9 := by rw [← hW9]; exact ((((HK3.out.setCell (.inr HMN.out) _).setCell (.inr HMN.out) _).setCell (.inr HMN.out) _).setCell (.inr HMN.out) _).drew _
  rw [hW9]
  obtain ⟨d0, d1, d2, g0, g1, g2⟩ := box_facts hb9
  have HB9 := Lib.hid hb9
  have HK9 := Lib.hid hk9
  clear hb9 hk9 hW9 c0 c1 c2 f0 f1 f2 r0 r1 r2 r3
  go_wp2
  refine door_bad (b := N) (t := limit) (E := 142) (o := x.out) ?_ (set2 (set1 (set0 HB9.out))) (by decide) HMN.out (((HK9.out.setCell (.inr HMN.out) _).setCell (.inr HMN.out) _).setCell (.inr HMN.out) _)
  rfl
set_option maxRecDepth 100000 in
set_option maxHeartbeats 8000000 in
theorem run_fails {l : List Hp} (hl : l.length ≤ 1000000) (hs : ∀ x ∈ l, SmH x) {v : Value} {limit calls : Int} {c : List UInt8} (hc : c.length ≤ 4611686018427387904) {w : World} (hcl : ¬ 16 ≤ calls) (hh : hpT.Has w v l) {x : Hp} (hf : firstH c l = some x) (hlim : ¬ limit < x.ticks) (hfa : x.fails = true) :
    Calls Tryd.prog 27 #[v, .int .i64 limit, .int .i64 calls, .string (bs c)] w fun e w' => e = .returned (.agg #[.string (bs []), .int .i64 x.ticks, .int .i64 141]) ∧ Kp [] w w' := by
  have hmf : ∀ (fn : Fn) (first cap : Array Value) (w : World), (Instr.makeFunc fn first cap).run Tryd.prog w = .ok (.func fn first cap) w := fun _ _ _ _ => rfl
  have HI0 := Lib.hid (show (Tryd.prog.info? 55).map (·.size) = some 3 from by kernel_rfl)
  obtain ⟨w1, hw1⟩ : ∃ w1, w.alloc (.cells #[.string (bs c)] 9) = w1 := ⟨_, rfl⟩
  obtain ⟨w2, hw2⟩ : ∃ w2, w1.alloc (.cells #[.string ⟨#[]⟩, .int .i64 0, .int .i64 0] 55) = w2 := ⟨_, rfl⟩
  obtain ⟨M, hM⟩ : ∃ M, w.heap.size = M := ⟨_, rfl⟩
  obtain ⟨N, hN⟩ : ∃ N, M + 1 = N := ⟨_, rfl⟩
  have hsz : w1.heap.size = N := by rw [← hw1, ← hN, ← hM]; simp
  have hk2 : Kp [] w w2 := by rw [← hw2, ← hw1]; exact ((Kp.refl [] w).alloc _).alloc _
  have hb2 : w2.heap[N]? = some (.cells #[.string ⟨#[]⟩, .int .i64 0, .int .i64 0] 55) := by rw [← hw2, ← hsz]; exact heap_alloc_last w1 _
  have hcc : w2.cell? ⟨M, 0, none⟩ = some (.string (bs c)) := by
    rw [← hw2, cell_of_row _ _ _ _ _ _ (show (w1.alloc _).heap[M]? = some (.cells #[.string (bs c)] 9) from by rw [heap_alloc_old _ _ (by omega), ← hw1, ← hM]; exact heap_alloc_last w _)]
    rfl
  have HI := Lib.hid ((idx45 hl hs hc (hh.kp0 hk2) hcc).mono (R' := fun e w' => ∃ i : Nat, e = .returned (.int .i64 (i : Int)) ∧ l[i]? = some x ∧ Kp [] w2 w') fun e w' ⟨r, he, hr, hk⟩ => by
    rcases hr with ⟨rfl, hn⟩ | ⟨i, y, rfl, hi, hfx⟩
    · rw [hf] at hn; cases hn
    · rw [hf] at hfx; cases hfx; exact ⟨i, he, hi, hk⟩)
  have hlz : l ≠ [] := by rintro rfl; cases hf
  obtain ⟨b, o, cp, rfl, hbl, hr⟩ : ∃ b o cp, v = .slice (some ⟨b, o, none⟩) l.length cp ∧ b < w.heap.size ∧ hpT.Row w b o l := by
    rcases hh with ⟨_, _, _, h⟩ | ⟨b, o, cp, h1, h2, h3⟩
    · exact absurd h hlz
    · exact ⟨b, o, cp, h1, h2, h3⟩
  have HK := Lib.hid hk2
  have HB := Lib.hid fun W (h : Kp [] w2 W) => (h.block N (block_lt hb2) (by simp)).trans hb2
  have HR := Lib.hid fun W (h : Kp [] w2 W) (i : Nat) (hx : l[i]? = some x) => hpRow (hr.keep ((hk2.trans h).block b hbl (by simp))) hx
  have hbN : ¬ N = b := by omega
  have hbN2 : ¬ b = N := by omega
  have HMN := Lib.hid (show w.heap.size ≤ N by omega)
  have hb1 : ¬ limit < x.ticks := hlim
  clear hk2 hb2 hcc hh hs hf hr hlz hbl
  go_enter_defers Tryd.func27, Tryd.ntmps27
  go_wp2_with (go_at_call 45; refine Calls.mono (by with_reducible exact HI.out) ?_; rintro e w3 ⟨i, rfl, hx, hk3⟩; have hil := (List.getElem?_eq_some_iff.1 hx).1; have hiz : (i : Int) < (l.length : Int) := (by omega); clear hil; obtain ⟨c0, c1, c2, f0, f1, f2⟩ := box_facts (HB.out _ hk3); obtain ⟨r0, r1, r2, r3⟩ := HR.out _ hk3 i hx; have HB3 := Lib.hid (HB.out _ hk3); have HK3 := Lib.hid (HK.out.trans hk3); clear hk3 hx)
  go_region
  go_upto_region 12 with fail
  obtain ⟨W9, hW9⟩ : ∃ W9, World.drew (((w3.setCell ⟨N, 0, none⟩ (.string (bs x.out))).setCell ⟨N, 1, none⟩ (.int .i64 x.ticks)).setCell ⟨N, 2, none⟩ (.int .i64 141)) = W9 := ⟨_, rfl⟩
  have hb9 : W9.heap[N]? = some (.cells #[.string (bs x.out), .int .i64 x.ticks, .int .i64 141] 55) := by rw [← hW9]; exact set2 (set1 (set0 HB3.out))
  have hk9 : Kp [] w W9 := by rw [← hW9]; exact (((HK3.out.setCell (.inr HMN.out) _).setCell (.inr HMN.out) _).setCell (.inr HMN.out) _).drew _
  rw [hW9]
  obtain ⟨d0, d1, d2, g0, g1, g2⟩ := box_facts hb9
  have HB9 := Lib.hid hb9
  have HK9 := Lib.hid hk9
  clear hb9 hk9 hW9 c0 c1 c2 f0 f1 f2 r0 r1 r2 r3
  go_wp2
  refine door_bad (b := N) (t := x.ticks) (E := 141) (o := x.out) ?_ (set2 (set1 (set0 HB9.out))) (by decide) HMN.out (((HK9.out.setCell (.inr HMN.out) _).setCell (.inr HMN.out) _).setCell (.inr HMN.out) _)
  rfl
set_option maxRecDepth 100000 in
set_option maxHeartbeats 8000000 in
theorem run_ok {l : List Hp} (hl : l.length ≤ 1000000) (hs : ∀ x ∈ l, SmH x) {v : Value} {limit calls : Int} {c : List UInt8} (hc : c.length ≤ 4611686018427387904) {w : World} (hcl : ¬ 16 ≤ calls) (hh : hpT.Has w v l) {x : Hp} (hf : firstH c l = some x) (hlim : ¬ limit < x.ticks) (hfa : x.fails = false) :
    Calls Tryd.prog 27 #[v, .int .i64 limit, .int .i64 calls, .string (bs c)] w fun e w' => e = .returned (.agg #[.string (bs x.out), .int .i64 x.ticks, .int .i64 0]) ∧ Kp [] w w' := by
  have hmf : ∀ (fn : Fn) (first cap : Array Value) (w : World), (Instr.makeFunc fn first cap).run Tryd.prog w = .ok (.func fn first cap) w := fun _ _ _ _ => rfl
  have HI0 := Lib.hid (show (Tryd.prog.info? 55).map (·.size) = some 3 from by kernel_rfl)
  obtain ⟨w1, hw1⟩ : ∃ w1, w.alloc (.cells #[.string (bs c)] 9) = w1 := ⟨_, rfl⟩
  obtain ⟨w2, hw2⟩ : ∃ w2, w1.alloc (.cells #[.string ⟨#[]⟩, .int .i64 0, .int .i64 0] 55) = w2 := ⟨_, rfl⟩
  obtain ⟨M, hM⟩ : ∃ M, w.heap.size = M := ⟨_, rfl⟩
  obtain ⟨N, hN⟩ : ∃ N, M + 1 = N := ⟨_, rfl⟩
  have hsz : w1.heap.size = N := by rw [← hw1, ← hN, ← hM]; simp
  have hk2 : Kp [] w w2 := by rw [← hw2, ← hw1]; exact ((Kp.refl [] w).alloc _).alloc _
  have hb2 : w2.heap[N]? = some (.cells #[.string ⟨#[]⟩, .int .i64 0, .int .i64 0] 55) := by rw [← hw2, ← hsz]; exact heap_alloc_last w1 _
  have hcc : w2.cell? ⟨M, 0, none⟩ = some (.string (bs c)) := by
    rw [← hw2, cell_of_row _ _ _ _ _ _ (show (w1.alloc _).heap[M]? = some (.cells #[.string (bs c)] 9) from by rw [heap_alloc_old _ _ (by omega), ← hw1, ← hM]; exact heap_alloc_last w _)]
    rfl
  have HI := Lib.hid ((idx45 hl hs hc (hh.kp0 hk2) hcc).mono (R' := fun e w' => ∃ i : Nat, e = .returned (.int .i64 (i : Int)) ∧ l[i]? = some x ∧ Kp [] w2 w') fun e w' ⟨r, he, hr, hk⟩ => by
    rcases hr with ⟨rfl, hn⟩ | ⟨i, y, rfl, hi, hfx⟩
    · rw [hf] at hn; cases hn
    · rw [hf] at hfx; cases hfx; exact ⟨i, he, hi, hk⟩)
  have hlz : l ≠ [] := by rintro rfl; cases hf
  obtain ⟨b, o, cp, rfl, hbl, hr⟩ : ∃ b o cp, v = .slice (some ⟨b, o, none⟩) l.length cp ∧ b < w.heap.size ∧ hpT.Row w b o l := by
    rcases hh with ⟨_, _, _, h⟩ | ⟨b, o, cp, h1, h2, h3⟩
    · exact absurd h hlz
    · exact ⟨b, o, cp, h1, h2, h3⟩
  have HK := Lib.hid hk2
  have HB := Lib.hid fun W (h : Kp [] w2 W) => (h.block N (block_lt hb2) (by simp)).trans hb2
  have HR := Lib.hid fun W (h : Kp [] w2 W) (i : Nat) (hx : l[i]? = some x) => hpRow (hr.keep ((hk2.trans h).block b hbl (by simp))) hx
  have hbN : ¬ N = b := by omega
  have hbN2 : ¬ b = N := by omega
  have HMN := Lib.hid (show w.heap.size ≤ N by omega)
  have hb1 : ¬ limit < x.ticks := hlim
  clear hk2 hb2 hcc hh hs hf hr hlz hbl
  go_enter_defers Tryd.func27, Tryd.ntmps27
  go_wp2_with (go_at_call 45; refine Calls.mono (by with_reducible exact HI.out) ?_; rintro e w3 ⟨i, rfl, hx, hk3⟩; have hil := (List.getElem?_eq_some_iff.1 hx).1; have hiz : (i : Int) < (l.length : Int) := (by omega); clear hil; obtain ⟨c0, c1, c2, f0, f1, f2⟩ := box_facts (HB.out _ hk3); obtain ⟨r0, r1, r2, r3⟩ := HR.out _ hk3 i hx; have HB3 := Lib.hid (HB.out _ hk3); have HK3 := Lib.hid (HK.out.trans hk3); clear hk3 hx)
  go_region
  go_upto_region 12 with fail
  obtain ⟨W9, hW9⟩ : ∃ W9, World.drew (((w3.setCell ⟨N, 0, none⟩ (.string (bs x.out))).setCell ⟨N, 1, none⟩ (.int .i64 x.ticks))) = W9 := ⟨_, rfl⟩
  have hb9 : W9.heap[N]? = some (.cells #[.string (bs x.out), .int .i64 x.ticks, .int .i64 0] 55) := by rw [← hW9]; exact set1 (set0 HB3.out)
  have hk9 : Kp [] w W9 := by rw [← hW9]; exact ((HK3.out.setCell (.inr HMN.out) _).setCell (.inr HMN.out) _).drew _
  rw [hW9]
  obtain ⟨d0, d1, d2, g0, g1, g2⟩ := box_facts hb9
  have HB9 := Lib.hid hb9
  have HK9 := Lib.hid hk9
  clear hb9 hk9 hW9 c0 c1 c2 f0 f1 f2 r0 r1 r2 r3
  go_wp2
  refine door_ok (b := N) (t := x.ticks) (o := x.out) ?_ (set2 (set1 (set0 HB9.out))) (((HK9.out.setCell (.inr HMN.out) _).setCell (.inr HMN.out) _).setCell (.inr HMN.out) _)
  rfl
end Go.Proofs.YteiphphihclnfaaDoor
