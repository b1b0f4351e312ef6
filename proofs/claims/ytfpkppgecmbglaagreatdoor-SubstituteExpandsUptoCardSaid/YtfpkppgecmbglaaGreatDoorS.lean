/- result: the walk. -/
import Derived.Test.YtfpkppgecmbglaaGreatDoorR
namespace Go.Proofs.YtfpkppgecmbglaaGreatDoor
open Go.RowKit Go.Shelf

attribute [local go_sem] Oper.semAt_some

/-- The loop goes on; it has left. -/
def Cont (n : Nat) (m : Bool) (pre : List ByteArray) : Prop := (m = false → pre.length < n) ∧ (chL n m (tlB pre)).length < 256
def Fin' (n : Nat) (m : Bool) (pre : List ByteArray) : Prop := (m = false ∧ pre.length = n) ∨ (chL n m (tlB pre)).length = 256
theorem chL_mem {n : Nat} {m : Bool} {l : List (List UInt8)} {x : List UInt8} (h : x ∈ chL n m l) : x ∈ l := by
  unfold chL at h
  split at h
  · exact List.mem_of_mem_drop h
  · exact List.mem_of_mem_drop (List.mem_of_mem_take h)
theorem box_frz {W : World} {b : Nat} {u : Value} {t : TypeId} (h : W.heap[b]? = some (.cells #[u] t (0, 0))) : W.frozen? ⟨b, 0, none⟩ = false := by simp [World.frozen?, h]
theorem wordsB_prefix {s : List UInt8} {q : List ByteArray} (h : q <+: wordsB (bs s)) : tlB q <+: wordsL s := by
  rw [wordsB_eq] at h
  have : tlB ((wordsL s).map bs) = wordsL s := by
    unfold tlB
    rw [List.map_map]
    exact List.map_id' _
  rw [← this]
  obtain ⟨r, hr⟩ := h
  exact ⟨tlB r, by rw [← hr]; simp [tlB]⟩
theorem wordsB_all (s : List UInt8) : tlB (wordsB (bs s)) = wordsL s := by
  rw [wordsB_eq]
  unfold tlB
  rw [List.map_map]
  exact List.map_id' _
theorem kp_end {T n D : Nat} {w w0 W R : World} {m : Bool} {pre : List ByteArray} {o : Obj} (hk : Kp [] w w0) (h : St T w0 n m pre W) (hT : w.heap.size = T) (hD : T + 5 ≤ D) (hr : Kp [] W R) : Kp [] w (R.putObj D o) := by
  refine ⟨hr.os.trans (h.os.trans hk.os), hr.tape.trans (h.tape.trans hk.tape), hr.output.trans (h.output.trans hk.output), ?_, fun k hk1 _ => ?_⟩
  · have h1 := h.size
    have h2 := hr.size
    simp
    omega
  · have h1 := h.size
    exact (World.putObj_heap_other (by omega)).trans ((hr.block k (by omega) (by simp)).trans ((h.oth k (by omega) (by omega) (by omega)).trans (hk.block k hk1 (by simp))))
set_option maxHeartbeats 4000000 in
set_option maxRecDepth 100000 in
theorem exp84_word (k : Int) (t : List UInt8) (n : Nat) (m : Bool) (v : Vs) (a b c : Value) (w : World) (h1 : 1 ≤ n) (h2 : n ≤ 99) (hr : v.result.length ≤ 4000000000) : Calls Tryz.prog 84 #[.agg (gpC ⟨k, t, n, m⟩), .agg (vsC v a b c)] w fun e w' => ∃ x, e = .returned (.string (bs x)) ∧ x.take 256 = (resultL v.result n m).take 256 ∧ Kp [] w w' := by
  obtain ⟨T, hT⟩ : ∃ T, w.heap.size = T := ⟨_, rfl⟩
  obtain ⟨w0, hw0⟩ : ∃ w0, ((((w.alloc (.cells (gpC ⟨k, t, n, m⟩) 61)).alloc (.cells (vsC v a b c) 43)).alloc (.cells #[.slice none 0 0] 28)).alloc (.cells #[.int .i64 0] 3)).alloc (.cells #[.string (bs v.result)] 9) = w0 := ⟨_, rfl⟩
  have hk0 : Kp [] w w0 := by rw [← hw0]; exact (((((Kp.refl [] w).alloc _).alloc _).alloc _).alloc _).alloc _
  have hz0 : w0.heap.size = T + 5 := by rw [← hw0]; simp; omega
  have hb0 : w0.heap[T]? = some (.cells (gpC ⟨k, t, n, m⟩) 61 (0, 0)) := by
    rw [← hw0, ← hT]
    have := heap_alloc_last w (.cells (gpC ⟨k, t, n, m⟩) 61)
    exact (((((Kp.refl [] (w.alloc (.cells (gpC ⟨k, t, n, m⟩) 61))).alloc (.cells (vsC v a b c) 43)).alloc (.cells #[.slice none 0 0] 28)).alloc (.cells #[.int .i64 0] 3)).alloc (.cells #[.string (bs v.result)] 9)).block _ (by simp) (by simp) |>.trans this
  have hb2 : w0.heap[T + 1 + 1]? = some (.cells #[.slice none 0 0] 28 (0, 0)) := by
    have := heap_alloc_last ((w.alloc (.cells (gpC ⟨k, t, n, m⟩) 61)).alloc (.cells (vsC v a b c) 43)) (.cells #[.slice none 0 0] 28)
    rw [World.size_alloc, World.size_alloc, hT] at this
    rw [← hw0]
    exact (((Kp.refl [] (((w.alloc (.cells (gpC ⟨k, t, n, m⟩) 61)).alloc (.cells (vsC v a b c) 43)).alloc (.cells #[.slice none 0 0] 28))).alloc (.cells #[.int .i64 0] 3)).alloc (.cells #[.string (bs v.result)] 9)).block _ (by simp; omega) (by simp) |>.trans this
  have hb3 : w0.heap[T + 1 + 1 + 1]? = some (.cells #[.int .i64 0] 3 (0, 0)) := by
    have := heap_alloc_last (((w.alloc (.cells (gpC ⟨k, t, n, m⟩) 61)).alloc (.cells (vsC v a b c) 43)).alloc (.cells #[.slice none 0 0] 28)) (.cells #[.int .i64 0] 3)
    rw [World.size_alloc, World.size_alloc, World.size_alloc, hT] at this
    rw [← hw0]
    exact ((Kp.refl [] ((((w.alloc (.cells (gpC ⟨k, t, n, m⟩) 61)).alloc (.cells (vsC v a b c) 43)).alloc (.cells #[.slice none 0 0] 28)).alloc (.cells #[.int .i64 0] 3))).alloc (.cells #[.string (bs v.result)] 9)).block _ (by simp; omega) (by simp) |>.trans this
  have hb4 : w0.cell? ⟨T + 1 + 1 + 1 + 1, 0, none⟩ = some (.string (bs v.result)) := by
    have := heap_alloc_last ((((w.alloc (.cells (gpC ⟨k, t, n, m⟩) 61)).alloc (.cells (vsC v a b c) 43)).alloc (.cells #[.slice none 0 0] 28)).alloc (.cells #[.int .i64 0] 3)) (.cells #[.string (bs v.result)] 9)
    rw [World.size_alloc, World.size_alloc, World.size_alloc, World.size_alloc, hT, hw0] at this
    rw [cell_of_row _ _ _ _ _ _ this]
    rfl
  have HW0 := Lib.hid hw0
  have HT := Lib.hid hT
  refine (callsIn_wide (n := 5)).1 ?_
  refine callsIn_of_wp_marks Tryz.func84 rfl trivial (wpIn_wide.2 ?_) rfl
  simp only [Tryz.ntmps84, List.size_toArray, List.length_cons, List.length_nil, Nat.reduceAdd, Nat.reduceSub, Array.replicate_succ, Array.replicate_zero, List.push_toArray, List.append_toArray, List.nil_append, List.cons_append]
  unfold gpC vsC at HW0 ⊢
  have hne : ((n : Int) == 0) = false := by rw [beq_eq_false_iff_ne]; omega
  clear hw0
  go_wp2_with (first | (go_at_call 116; refine (words_any _ _).mono ?_; rintro e w' ⟨rfl, rfl⟩))
  rw [HW0.out]
  have hSt0 : St T w0 n m [] w0 := ⟨hb3, ⟨_, hb2, by rw [show chL n m (tlB []) = [] from chL_less (by simp [tlB]; omega)]; exact RT.Own.nil stT _ _, fun b h => by cases h⟩, fun _ _ _ _ => rfl, rfl, rfl, rfl, by omega⟩
  have hwl : (wordsB (bs v.result)).length ≤ 4000000001 := by
    have := (wordsL_len v.result).1
    rw [wordsB_eq, List.length_map]
    omega
  have hB0 := Lib.hid hb0
  clear hb0 hb2 hb3
  refine (wpIn_wide (n := 5)).1 (Nm.wpIn_rangeSteps (F := Fence.wide) rfl (by omega : 1 ≤ 5) (gf := 135) (lb := #[.pointer (some ⟨T + 1 + 1 + 1 + 1, 0, none⟩)]) rfl trivial (enters_of Tryz.func135 (by kernel_rfl) rfl)
    (encs := fun x : ByteArray => #[.string x]) (R := Rw (T + 7)) (Kp := Kw (T + 7)) (m := T + 7 + 4) (xs := wordsB (bs v.result)) ?hseq (fun h g => h.trans g) ?hKb ?hRk (fun x => rfl)
    (fun pre W => St T w0 n m pre W ∧ Cont n m pre)
    (fun cd pre W => cd = .exit 0 ∧ St T w0 n m pre W ∧ Fin' n m pre)
    ?hI ?hIx ?hIR ?hIxR ?h0
    (fun x => { tmps := #[.agg #[.int .i64 k, .string (bs t), .int .i64 (n : Int), .bool m], .agg #[.string (bs v.kernel), .string (bs v.devpath), .string (bs v.id), .string (bs v.driver), .string (bs v.parent), .string (bs v.name), .string (bs v.result), a, b, c],
      .pointer (some ⟨T, 0, none⟩), .pointer (some ⟨T + 1, 0, none⟩), .string ⟨#[]⟩, .pointer (some ⟨T + 1 + 1, 0, none⟩), .pointer (some ⟨T + 1 + 1 + 1, 0, none⟩), .string x, .pointer (some ⟨T, 2, none⟩), .int .i64 (n : Int), .bool false, undef, undef,
      .pointer (some ⟨T + 1, 6, none⟩), .string (bs v.result), .func (.func 135) #[] #[.pointer (some ⟨T + 1 + 1 + 1 + 1, 0, none⟩)], .string x, undef, undef, undef, undef, undef, undef, undef, undef, undef, undef, undef, undef, undef, undef, undef, undef, undef, undef, undef, undef], defers := [] })
    ?assign ?body ?done ?stop)
  case hseq =>
    intro W1 hb hz
    exact words_steps _ _ _ _ (by rw [bs_size]; omega) W1 (by omega) (by omega) ((hb.cell (p := ⟨T + 1 + 1 + 1 + 1, 0, none⟩) (by show T + 1 + 1 + 1 + 1 < _; omega)).trans hb4)
  case hKb =>
    intro W o
    rw [hz0]
    exact Kw.put (by omega) W o
  case hRk =>
    intro A B k o g1 g2 hr ho
    exact (hr.low k (block_lt ho) (by omega)).trans ho
  case hI =>
    rintro pre A B row ⟨h, g⟩ hg hr
    exact ⟨h.own hg fun r e => by have := hr r e; rw [hz0] at this; exact this, g⟩
  case hIx =>
    rintro cd pre A B row ⟨h0, h, g⟩ hg hr
    exact ⟨h0, h.own hg fun r e => by have := hr r e; rw [hz0] at this; exact this, g⟩
  case hIR =>
    rintro pre A B ⟨h, g⟩ hr
    exact ⟨h.rw hr, g⟩
  case hIxR =>
    rintro cd pre A B ⟨h0, h, g⟩ hr
    exact ⟨h0, h.rw hr, g⟩
  case h0 => exact ⟨hSt0, fun _ => by show 0 < n; omega, by rw [show chL n m (tlB []) = [] from chL_less (by simp [tlB]; omega)]; decide⟩
  case assign =>
    intro l x W K hK
    gi_wp2
    exact hK
  case body =>
    rintro l pre x W ⟨hSt, hc1, hc2⟩ ⟨r, hx⟩ hms
    rw [hz0]
    have hpl : pre.length + 1 ≤ 4000000001 := by
      have := congrArg List.length hx
      rw [List.length_append, List.length_cons] at this
      omega
    obtain ⟨u, hu1, hu2, hu3⟩ := hSt.cho
    have c3 : W.cell? ⟨T + 1 + 1 + 1, 0, none⟩ = some (.int .i64 (pre.length : Int)) := by rw [cell_of_row _ _ _ _ _ _ hSt.num]; rfl
    have f3 : W.frozen? ⟨T + 1 + 1 + 1, 0, none⟩ = false := by simp [World.frozen?, hSt.num]
    have hPA : PAt W T ⟨k, t, n, m⟩ := (hSt.oth T (by omega) (by omega) (by omega)).trans hB0.out
    obtain ⟨p0, p1, p2, p3⟩ := hPA.cells
    have hwr : IntKind.i64.wrap ((pre.length : Int) + 1) = (pre.length : Int) + 1 := by rw [IntKind.wrap_i64]; omega
    by_cases hlt : pre.length + 1 < n
    · have hlti : (pre.length : Int) + 1 < (n : Int) := by omega
      have HSK := Lib.hid (hSt.step_skip (x := x) hlt)
      have HC := Lib.hid (show Cont n m (pre ++ [x]) from ⟨fun _ => by simp; omega, by rw [show chL n m (tlB (pre ++ [x])) = [] from chL_less (by simp [tlB]; omega)]; decide⟩)
      clear hSt hPA hu1 hu2 hu3 hc1 hc2 hx hms hSt0
      gi_wp2
      exact ⟨HSK.out.2.1, HSK.out.2.2, HSK.out.1, HC.out⟩
    · have hlti : ¬ ((pre.length : Int) + 1 < (n : Int)) := by omega
      have hnp : n ≤ pre.length + 1 := by omega
      have c2 : W.cell? ⟨T + 1 + 1, 0, none⟩ = some u := by rw [cell_of_row _ _ _ _ _ _ hu1]; rfl
      have f2 : W.frozen? ⟨T + 1 + 1, 0, none⟩ = false := by simp [World.frozen?, hu1]
      obtain ⟨W1, hW1⟩ : ∃ W1, W.setCell ⟨T + 1 + 1 + 1, 0, none⟩ (.int .i64 ((pre.length : Int) + 1)) = W1 := ⟨_, rfl⟩
      obtain ⟨W2, hW2⟩ : ∃ W2, W1.alloc (.cells #[.string x] 9) = W2 := ⟨_, rfl⟩
      have hk2 : Kp [T + 1 + 1 + 1] W W2 := by
        rw [← hW2, ← hW1]
        exact ((Kp.refl _ W).setCell (p := ⟨T + 1 + 1 + 1, 0, none⟩) (.inl (by simp)) _).alloc _
      have hs1 : W1.heap.size = W.heap.size := by rw [← hW1]; simp [World.setCell]
      have hO2 := hu2.kp hk2 fun b hb => by have := hu3 b hb; simp; omega
      have hcx : W2.cell? ⟨W.heap.size, 0, none⟩ = some (.string x) := by
        have := heap_alloc_last W1 (.cells #[.string x] 9)
        rw [hW2, hs1] at this
        rw [cell_of_row _ _ _ _ _ _ this]
        rfl
      have hcells : ∀ j o, u.ownBlock = some j → W2.heap[j]? = some o → o.isCells = true := fun j o hj ho => by
        rcases hO2.2 with ⟨hv0, _⟩ | ⟨g, cap, cur, hv0, _, hh, _⟩
        · rw [hv0] at hj; cases hj
        · rw [hv0] at hj
          obtain rfl : g = j := by simpa [Value.ownBlock] using hj
          rw [hh] at ho
          cases ho
          rfl
      have HTK := Lib.hid fun (W3 : World) (v' : Value) => St.step_take (x := x) (W3 := W3) (v' := v') hSt hu1 hu3 hms h1 hnp hc1 hW1.symm hW2.symm hcells
      have HO2 := Lib.hid hO2
      have HCX := Lib.hid hcx
      have HU3 := Lib.hid hu3
      have hchl : (chL n m (tlB (pre ++ [x]))).length = (chL n m (tlB pre)).length + 1 := by rw [tlB_snoc, chL_snoc h1 (by simp [tlB]; omega) (fun e => by have := hc1 e; simp [tlB]; omega), List.length_append, List.length_singleton]
      have HF1 := Lib.hid (show m = false → Fin' n m (pre ++ [x]) from fun e => .inl ⟨e, by have := hc1 e; simp; omega⟩)
      have HF2 := Lib.hid (show (chL n m (tlB pre)).length + 1 = 256 → Fin' n m (pre ++ [x]) from fun e => .inr (by omega))
      have HF3 := Lib.hid (show m = true → (chL n m (tlB pre)).length + 1 ≠ 256 → Cont n m (pre ++ [x]) from fun e e2 => ⟨fun e3 => absurd (e.symm.trans e3) (by decide), by omega⟩)
      have HL := Lib.hid (show (chL n m (tlB pre)).length ≤ 1000000 by omega)
      have HB2 := Lib.hid (show T + 5 ≤ W2.heap.size by rw [← hW2]; simp; omega)
      have HW1 := Lib.hid hW1
      have HW2 := Lib.hid hW2
      have HM1 := Lib.hid hc1
      have HC2 := Lib.hid hc2
      have HPA := Lib.hid hPA
      have HW2b := Lib.hid (show ∀ k, k < W.heap.size → k ≠ T + 1 + 1 + 1 → W2.heap[k]? = W.heap[k]? from fun k hk hne => hk2.block k hk (by simpa using hne))
      have HWS := Lib.hid (show W2.heap.size = W.heap.size + 1 by rw [← hW2]; simp; omega)
      have HMS := Lib.hid hms
      have HU1 := Lib.hid hu1
      have HE3 := Lib.hid (show ∀ W3, W2.grownBy W3 u.ownBlock → W3.heap[T + 1 + 1]? = some (.cells #[u] 28 (0, 0)) ∧ PAt W3 T ⟨k, t, n, m⟩ from fun W3 hgr => by
        have e3 : ∀ k, k < T + 5 → k ≠ T + 1 + 1 + 1 → W3.heap[k]? = W.heap[k]? := fun k hk hne => by
          have h2 := HWS.out
          exact (hgr.block k (by omega) fun e => by have := HU3.out k e.symm; omega).trans (HW2b.out k (by omega) hne)
        exact ⟨(e3 _ (by omega) (by omega)).trans hu1, (e3 T (by omega) (by omega)).trans hPA⟩)
      clear hSt hPA hu1 hu2 hu3 hc1 hc2 hx hms hSt0 hk2 hO2 hcx hcells hchl hW1 hW2 hs1
      cases m
      all_goals
        gi_wp2_with (first
          | (gi_at_builtin; rw [HW1.out, HW2.out]; refine wpListIn_append_st rfl (.tmp 23) (.tmp 25) rfl (T + 5) u _ rfl HO2.out W.heap.size 1 x rfl HCX.out HL.out HB2.out ?_; intro q cp W3 hown hgr hblk; have HT3 := Lib.hid (HTK.out W3 _ hown hgr hblk); have HGR := Lib.hid hgr; clear hown hgr hblk;
              have e3 := HE3.out W3 HGR.out; have c2' : W3.cell? ⟨T + 1 + 1, 0, none⟩ = some u := (cell_of_row _ _ _ _ _ _ e3.1).trans rfl; have f2' : W3.frozen? ⟨T + 1 + 1, 0, none⟩ = false := box_frz e3.1; have e4 := e3.2; obtain ⟨y0, y1, y2, y3⟩ := PAt.cells e4; clear e3 e4))
      · refine ⟨HT3.out.2.1, rfl, HT3.out.1, HF1.out ?_⟩
        simp
      all_goals first
        | (refine ⟨HT3.out.2.1, rfl, HT3.out.1, HF2.out ?_⟩; rename_i h256; have h257 := beq_iff_eq.1 h256; omega)
        | (refine ⟨HT3.out.2.1, HT3.out.2.2, HT3.out.1, HF3.out trivial ?_⟩; rename_i h256; have h257 := beq_eq_false_iff_ne.1 h256; omega)
  case done =>
    rintro D W hD ⟨hSt, _, hlen⟩ hK
    rw [hz0] at hD
    obtain ⟨u, hu1, hu2, hu3⟩ := hSt.cho
    have HP := Lib.hid (show ∀ R, Kp [] W R → Kp [] w (R.putObj D (.deferred none)) from fun R hr => kp_end hk0 hSt hT hD hr)
    have hR := chosen_done (s := v.result) (n := n) (more := m) h1
    rw [wordsB_all] at hu2 hlen
    have hb : ∀ x ∈ chL n m (wordsL v.result), x.length ≤ 4000000000 := fun x hx => by
      have := ((wordsL_len v.result).2 x (chL_mem hx)).1
      omega
    have hle := joinL_le hb
    have HJ := Lib.hid (join_any hu2 (by have := Nat.mul_le_mul_right (4000000000 + 1) (show (chL n m (wordsL v.result)).length ≤ 256 by omega); omega) (by omega))
    rw [hR] at HJ
    have c2 : W.cell? ⟨T + 1 + 1, 0, none⟩ = some u := (cell_of_row _ _ _ _ _ _ hu1).trans rfl
    have HK := Lib.hid hK
    clear hSt hlen hK hu1 hu2 hu3 hR hb hle
    go_wp2_with (go_at_call 90; refine Calls.mono (by with_reducible exact HJ.out) ?_; rintro e W3 ⟨rfl, hk3⟩)
    refine ⟨by simp, .inl ⟨_, _, rfl, run_takeDeferred ((hk3.block D (block_lt HK.out) (by simp)).trans HK.out), ?_⟩⟩
    exact ⟨_, results_tmp rfl _ _ _, _, rfl, rfl, HP.out W3 hk3⟩
  case stop =>
    rintro D cd pre W hD hpp ⟨rfl, hSt, hfin⟩ hK
    rw [hz0] at hD
    obtain ⟨u, hu1, hu2, hu3⟩ := hSt.cho
    have HP := Lib.hid (show ∀ R, Kp [] W R → Kp [] w (R.putObj D (.deferred none)) from fun R hr => kp_end hk0 hSt hT hD hr)
    have hpw := wordsB_prefix hpp
    have hR := chosen_stop (s := v.result) (n := n) (more := m) (pre := tlB pre) h1 hpw (by rcases hfin with ⟨e, e2⟩ | h; exact .inl ⟨e, by simpa [tlB] using e2⟩; exact .inr h)
    have hlen : (chL n m (tlB pre)).length ≤ 256 := by
      rcases hfin with ⟨e, e2⟩ | h
      · rw [e]
        unfold chL
        simp only [Bool.false_eq_true, if_false]
        have := List.length_take_le 1 ((tlB pre).drop (n - 1))
        omega
      · omega
    have hb : ∀ x ∈ chL n m (tlB pre), x.length ≤ 4000000000 := fun x hx => by
      have hm := chL_mem hx
      have := ((wordsL_len v.result).2 x (hpw.subset hm)).1
      omega
    have hle := joinL_le hb
    have HJ := Lib.hid (join_any hu2 (by have := Nat.mul_le_mul_right (4000000000 + 1) hlen; omega) (by omega))
    have HR := Lib.hid hR
    have c2 : W.cell? ⟨T + 1 + 1, 0, none⟩ = some u := (cell_of_row _ _ _ _ _ _ hu1).trans rfl
    have HK := Lib.hid hK
    clear hSt hfin hK hu1 hu2 hu3 hR hb hle hlen hpw
    refine wpIn_wide.2 ?_
    go_wp2_with (go_at_call 90; refine Calls.mono (by with_reducible exact HJ.out) ?_; rintro e W3 ⟨rfl, hk3⟩)
    refine ⟨by simp, .inl ⟨_, _, rfl, run_takeDeferred ((hk3.block D (block_lt HK.out) (by simp)).trans HK.out), ?_⟩⟩
    exact ⟨_, results_tmp rfl _ _ _, _, rfl, HR.out, HP.out W3 hk3⟩
end Go.Proofs.YtfpkppgecmbglaaGreatDoor
