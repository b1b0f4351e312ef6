/- Expand. -/
import Derived.Test.YtfpkppgecmbglaaGreatDoorU
import Derived.Deep.RegionHeld3
namespace Go.Proofs.YtfpkppgecmbglaaGreatDoor
open Go.RowKit

theorem exA_get {k : Nat} (h1 : 1 ≤ k) (h2 : k ≤ 11) : exA[k]? = some (.func (.func (fnK k)) #[] #[]) := by
  have hc : k = 1 ∨ k = 2 ∨ k = 3 ∨ k = 4 ∨ k = 5 ∨ k = 6 ∨ k = 7 ∨ k = 8 ∨ k = 9 ∨ k = 10 ∨ k = 11 := by omega
  rcases hc with rfl | rfl | rfl | rfl | rfl | rfl | rfl | rfl | rfl | rfl | rfl <;> rfl
theorem flat_take (f : Pc → List UInt8) (pre : List Pc) (q : Pc) (x : List UInt8) (h : x.take 256 = (f q).take 256) :
    ((pre ++ [q]).flatMap f).take 256 = (pre.flatMap f).take 256 ++ x.take (256 - ((pre.flatMap f).take 256).length) := by
  rw [List.flatMap_append, List.take_append, List.flatMap_cons, List.flatMap_nil, List.append_nil]
  congr 1
  have e : ∀ n, n ≤ 256 → x.take n = (f q).take n := fun n hn => by
    have := congrArg (List.take n) h
    rwa [List.take_take, List.take_take, Nat.min_eq_left hn] at this
  rw [List.length_take]
  rcases Nat.lt_or_ge (pre.flatMap f).length 256 with hl | hl
  · rw [Nat.min_eq_right (by omega)]
    exact (e _ (by omega)).symm
  · rw [Nat.min_eq_left hl, Nat.sub_self, Nat.sub_eq_zero_of_le hl]
    rfl
theorem kp_grownV {w W W' : World} {ob : Option Nat} (h : Kp [] w W) (hg : W.grownBy W' ob) (hv : ∀ b, ob = some b → w.heap.size ≤ b) : Kp [] w W' :=
  ⟨hg.os.trans h.os, hg.tape.trans h.tape, hg.output.trans h.output, Nat.le_trans h.size hg.size, fun k hk _ => (hg.block k (Nat.lt_of_lt_of_le hk h.size) fun e => by have := hv k e.symm; omega).trans (h.block k hk (by simp))⟩
theorem last16 {a1 a2 a3 a4 a5 a6 a7 a8 a9 a10 a11 a12 a13 a14 a15 b : Prop} (h : a1 ∧ a2 ∧ a3 ∧ a4 ∧ a5 ∧ a6 ∧ a7 ∧ a8 ∧ a9 ∧ a10 ∧ a11 ∧ a12 ∧ a13 ∧ a14 ∧ a15 ∧ b) : b := h.2.2.2.2.2.2.2.2.2.2.2.2.2.2.2
theorem take_full {l : List UInt8} (h : (l.take 256).length = 256) (r : List UInt8) : (l ++ r).take 256 = l.take 256 := by
  rw [List.length_take] at h
  rw [List.take_append_of_le_length (by omega)]
set_option maxHeartbeats 8000000 in
set_option maxRecDepth 100000 in
theorem expand_any {w : World} (hE : Env w) (s : List UInt8) (hs : s.length ≤ 1000000000000) (v : Vs) (a b c : Value) (hv : VsIn w v a b c ∨ ∀ q ∈ (parseE s).1, q.kind = 1) :
    Calls Tryz.prog 21 #[.string (bs s), .agg (vsC v a b c)] w fun e w' => e = .returned (.tuple #[.string (bs (expandE s v).1), .int .i64 (expandE s v).2]) ∧ Kp [] w w' := by
  obtain ⟨W0, hW0⟩ : ∃ W0, w.alloc (.cells (vsC v a b c) 43) = W0 := ⟨_, rfl⟩
  obtain ⟨V, hV⟩ : ∃ V, w.heap.size = V := ⟨_, rfl⟩
  have hk0 : Kp [] w W0 := by rw [← hW0]; exact (Kp.refl [] w).alloc _
  have hvb : W0.heap[V]? = some (.cells (vsC v a b c) 43 (0, 0)) := by rw [← hW0, ← hV]; exact heap_alloc_last w _
  have HP := Lib.hid (parse_any (hE.kp0 hk0) s hs)
  unfold ParsePost at HP
  obtain ⟨hread, hlen⟩ := parseE_read s
  unfold expandE
  obtain ⟨l, err, hle⟩ : ∃ l err, parseE s = (l, err) := ⟨_, _, rfl⟩
  rw [hle] at HP hv hread hlen ⊢
  simp only at HP hv hread hlen ⊢
  have HW0 := Lib.hid hW0
  have HK0 := Lib.hid hk0
  have HVB := Lib.hid hvb
  have HV := Lib.hid hV
  unfold vsC at HW0 ⊢
  by_cases he : err ≠ 0
  · rw [if_neg he]
    have he' : (err != 0) = true := by simpa using he
    clear hE hle hW0 hk0 hvb hV hv
    go_enter Tryz.func21, Tryz.ntmps21
    go_upto_region 1 with fail
    rw [HW0.out]
    go_wp2_with (go_at_call 13; refine Calls.mono (by with_reducible exact HP.out) ?_; rintro e w1 ⟨lv, rfl, ho, hk1⟩)
    go_ret2
    exact ⟨rfl, HK0.out.trans hk1⟩
  have he := Decidable.of_not_not he
  rw [if_pos he]
  subst he
  have HX := Lib.hid fun W => expanders_any W
  have HI := Lib.hid ex_hi
  have HO := Lib.hid ex_one
  clear hE hle hW0 hk0 hvb hV
  go_enter Tryz.func21, Tryz.ntmps21
  go_upto_region 1 with fail
  rw [HW0.out, HV.out]
  go_upto_region 4 with (go_at_call 13; refine Calls.mono (by with_reducible exact HP.out) ?_; rintro e w1 ⟨lv, rfl, ho, hk1⟩)
  have HL := Lib.hid ho
  have HK1 := Lib.hid hk1
  clear ho hk1
  go_upto_region 6 with (first
    | (go_at_call 47; refine Calls.mono (by with_reducible exact HX.out _) ?_; rintro e w2 ⟨rfl, rfl⟩)
    | (refine Nm.wpList_store_new (w1.alloc (.cells exA 76)) 76 _ exA rfl _ _ rfl ?_ ?_ ?_ ?_ ?_ ?_; (case refine_1 => simp [Act.eval]); (case refine_2 => simp [Act.eval]); (case refine_3 => exact HI.out); (case refine_4 => simp [exA]); (case refine_5 => exact HO.out)))
  obtain ⟨X, hX⟩ : ∃ X, w1.heap.size + 1 = X := ⟨_, rfl⟩
  obtain ⟨W2, hW2⟩ : ∃ W2, (w1.alloc (.cells exA 76)).alloc (.cells exA 76) = W2 := ⟨_, rfl⟩
  obtain ⟨B, hB⟩ : ∃ B, W2.heap.size = B := ⟨_, rfl⟩
  have hk12 : Kp [] w1 W2 := by rw [← hW2]; exact ((Kp.refl [] w1).alloc _).alloc _
  have hXb : W2.heap[X]? = some (.cells exA 76 (0, 0)) := by
    have := heap_alloc_last (w1.alloc (.cells exA 76)) (.cells exA 76)
    rw [World.size_alloc, hW2, hX] at this
    exact this
  have hVb2 : W2.heap[V]? = some (.cells (vsC v a b c) 43 (0, 0)) := (((HK1.out.trans hk12).block V (block_lt HVB.out) (by simp))).trans HVB.out
  have HL2 := Lib.hid (HL.out.has.kp0 hk12)
  have HK2 := Lib.hid (HK0.out.trans (HK1.out.trans hk12))
  obtain ⟨la, lc, rfl, hlr⟩ := HL2.out.form
  have HLR := Lib.hid hlr
  have HXB := Lib.hid hXb
  have HVB2 := Lib.hid hVb2
  have HBB := Lib.hid hB
  have hXB : X < B := by have := block_lt hXb; omega
  have hVB : V < B := by have := block_lt hVb2; omega
  rw [hX, hW2]
  rw [List.length_map]
  have HON := Lib.hid (RT.Own.nil byT W2 B)
  clear hX hW2 hB hk12 hXb hVb2 hlr HL HL2 HX HI HO HP HVB HW0 HK0 HK1 HV he
  go_wp2
  go_loopg [9, 24] l.length (fun g s9 s24 wx => ∃ (i : Nat) (tx : List UInt8), s24 = .int .i64 (i : Int) ∧ i + g = l.length ∧ byT.Own wx B s9 tx ∧ Hid (tx = ((l.take i).flatMap (pieceL v)).take 256) ∧ tx.length < 256 ∧ Hid (Kp [] W2 wx))
  case atStart => exact ⟨0, [], rfl, by omega, HON.out, Lib.hid rfl, by decide, Lib.hid (Kp.refl _ _)⟩
  case round =>
    obtain ⟨i, tx, rfl, hig, hO, htx, htl, hk⟩ := hrel
    have HO := Lib.hid hO
    clear hO
    cases gk with
    | zero =>
      have hli : ¬ ((i : Int) < (l.length : Int)) := by omega
      have hfin : tx = expandL v l := by
        rw [htx.out, List.take_of_length_le (show l.length ≤ i by omega)]
        rfl
      have HF := Lib.hid hfin
      have hcv := by_conv HO.out
      clear hfin
      go_wp2
      go_ret2
      rw [← HF.out]
      exact ⟨rfl, HK2.out.trans hk.out⟩
    | succ gk =>
      have hil : i < l.length := by omega
      have hli : (i : Int) < (l.length : Int) := by omega
      obtain ⟨q, hq⟩ : ∃ q, l[i]? = some q := ⟨_, List.getElem?_eq_getElem hil⟩
      obtain ⟨bl, ol, rfl, hbl, hrow⟩ := HLR.out (by intro e; have := congrArg List.length e; simp at this; rw [this] at hil; simp at hil)
      have hrow2 : gpT.Row wr bl ol (l.map Pc.g) := hrow.keep (hk.out.block bl hbl (by simp))
      have hqm : q ∈ l := List.mem_of_getElem? hq
      have hqk := (hread q hqm).k
      have hqv : VsIn w v a b c ∨ q.kind = 1 := by
        rcases hv with h | h
        · exact .inl h
        · exact .inr (h q hqm)
      obtain ⟨d0, d1, d2, d3⟩ := gpRow hrow2 (j := i) (x := q.g) (by rw [List.getElem?_map, hq]; rfl)
      have HNX := Lib.hid (show ∀ x : List UInt8, x.take 256 = (pieceL v q).take 256 → ((l.take (i + 1)).flatMap (pieceL v)).take 256 = tx ++ x.take (256 - tx.length) from fun x hx => by
        have e : l.take (i + 1) = l.take i ++ [q] := by rw [List.take_add_one, hq]; rfl
        rw [e, htx.out]
        exact flat_take (pieceL v) (l.take i) q x hx)
      have HPL := Lib.hid (show pieceL v q = pieceL v q from rfl)
      obtain ⟨pv, hpv⟩ : ∃ pv, pieceL v q = pv := ⟨_, rfl⟩
      rw [hpv] at HNX
      obtain ⟨Pb, hPb⟩ : ∃ Pb, wr.heap.size = Pb := ⟨_, rfl⟩
      have hex := fun W (h : Kp [] w W) => exp_any (w := W) (p := q) (v := v) (a := a) (b := b) (c := c) hqk (by rcases hqv with h1 | h1; exact .inl (h1.kp0 h); exact .inr h1)
      rw [hpv] at hex
      obtain ⟨qk, qt, qw, qm⟩ := q
      simp only [Pc.g, gpC, vsC] at hex d0 d1 d2 d3 hqk
      obtain ⟨W3, hW3⟩ : ∃ W3, wr.alloc (.cells #[.int .i64 (qk : Int), .string (bs qt), .int .i64 (qw : Int), .bool qm] 61) = W3 := ⟨_, rfl⟩
      have hk3 : Kp [] wr W3 := by rw [← hW3]; exact (Kp.refl [] wr).alloc _
      have hP3 : W3.heap[Pb]? = some (.cells #[.int .i64 (qk : Int), .string (bs qt), .int .i64 (qw : Int), .bool qm] 61 (0, 0)) := by rw [← hW3, ← hPb]; exact heap_alloc_last wr _
      have hV3 : W3.heap[V]? = some (.cells (vsC v a b c) 43 (0, 0)) := ((hk.out.trans hk3).block V (block_lt HVB2.out) (by simp)).trans HVB2.out
      have hX3 : W3.heap[X]? = some (.cells exA 76 (0, 0)) := ((hk.out.trans hk3).block X (block_lt HXB.out) (by simp)).trans HXB.out
      have hks : ∀ W, Kp [] W3 W → (W.cell? ⟨Pb, 0, none⟩ = some (.int .i64 (qk : Int)) ∧ W.cell? ⟨Pb, 1, none⟩ = some (.string (bs qt)) ∧ W.cell? ⟨Pb, 2, none⟩ = some (.int .i64 (qw : Int)) ∧ W.cell? ⟨Pb, 3, none⟩ = some (.bool qm) ∧ W.cell? ⟨V, 0, none⟩ = some (.string (bs v.kernel)) ∧ W.cell? ⟨V, 1, none⟩ = some (.string (bs v.devpath)) ∧ W.cell? ⟨V, 2, none⟩ = some (.string (bs v.id)) ∧ W.cell? ⟨V, 3, none⟩ = some (.string (bs v.driver)) ∧ W.cell? ⟨V, 4, none⟩ = some (.string (bs v.parent)) ∧ W.cell? ⟨V, 5, none⟩ = some (.string (bs v.name)) ∧ W.cell? ⟨V, 6, none⟩ = some (.string (bs v.result)) ∧ W.cell? ⟨V, 7, none⟩ = some a ∧ W.cell? ⟨V, 8, none⟩ = some b ∧ W.cell? ⟨V, 9, none⟩ = some c ∧ W.cell? ⟨X, qk, none⟩ = some (.func (.func (fnK qk)) #[] #[]) ∧ Kp [] W3 W) := fun W hw => by
        have b1 := (hw.block Pb (block_lt hP3) (by simp)).trans hP3
        have b2 := (hw.block V (block_lt hV3) (by simp)).trans hV3
        have b3 := (hw.block X (block_lt hX3) (by simp)).trans hX3
        refine ⟨?_, ?_, ?_, ?_, ?_, ?_, ?_, ?_, ?_, ?_, ?_, ?_, ?_, ?_, ?_, hw⟩
        all_goals first
          | (rw [cell_of_row _ _ _ _ _ _ b1]; rfl)
          | (rw [cell_of_row _ _ _ _ _ _ b2]; rfl)
          | (rw [cell_of_row _ _ _ _ _ _ b3]; exact exA_get hqk.1 hqk.2.1)
      have HKS := Lib.hid (show ∀ W, Kp [] W3.drew W → (W.cell? ⟨Pb, 0, none⟩ = some (.int .i64 (qk : Int)) ∧ W.cell? ⟨Pb, 1, none⟩ = some (.string (bs qt)) ∧ W.cell? ⟨Pb, 2, none⟩ = some (.int .i64 (qw : Int)) ∧ W.cell? ⟨Pb, 3, none⟩ = some (.bool qm) ∧ W.cell? ⟨V, 0, none⟩ = some (.string (bs v.kernel)) ∧ W.cell? ⟨V, 1, none⟩ = some (.string (bs v.devpath)) ∧ W.cell? ⟨V, 2, none⟩ = some (.string (bs v.id)) ∧ W.cell? ⟨V, 3, none⟩ = some (.string (bs v.driver)) ∧ W.cell? ⟨V, 4, none⟩ = some (.string (bs v.parent)) ∧ W.cell? ⟨V, 5, none⟩ = some (.string (bs v.name)) ∧ W.cell? ⟨V, 6, none⟩ = some (.string (bs v.result)) ∧ W.cell? ⟨V, 7, none⟩ = some a ∧ W.cell? ⟨V, 8, none⟩ = some b ∧ W.cell? ⟨V, 9, none⟩ = some c ∧ W.cell? ⟨X, qk, none⟩ = some (.func (.func (fnK qk)) #[] #[]) ∧ Kp [] W3 W) from fun W hw => hks W (((Kp.refl [] W3).drew 1).trans hw))
      have HST := Lib.hid (show (fun W : World => W.cell? ⟨Pb, 0, none⟩ = some (.int .i64 (qk : Int)) ∧ W.cell? ⟨Pb, 1, none⟩ = some (.string (bs qt)) ∧ W.cell? ⟨Pb, 2, none⟩ = some (.int .i64 (qw : Int)) ∧ W.cell? ⟨Pb, 3, none⟩ = some (.bool qm) ∧ W.cell? ⟨V, 0, none⟩ = some (.string (bs v.kernel)) ∧ W.cell? ⟨V, 1, none⟩ = some (.string (bs v.devpath)) ∧ W.cell? ⟨V, 2, none⟩ = some (.string (bs v.id)) ∧ W.cell? ⟨V, 3, none⟩ = some (.string (bs v.driver)) ∧ W.cell? ⟨V, 4, none⟩ = some (.string (bs v.parent)) ∧ W.cell? ⟨V, 5, none⟩ = some (.string (bs v.name)) ∧ W.cell? ⟨V, 6, none⟩ = some (.string (bs v.result)) ∧ W.cell? ⟨V, 7, none⟩ = some a ∧ W.cell? ⟨V, 8, none⟩ = some b ∧ W.cell? ⟨V, 9, none⟩ = some c ∧ W.cell? ⟨X, qk, none⟩ = some (.func (.func (fnK qk)) #[] #[]) ∧ Kp [] W3 W) W3.drew from hks _ ((Kp.refl [] W3).drew 1))
      have HEX := Lib.hid (show ∀ W, (W.cell? ⟨Pb, 0, none⟩ = some (.int .i64 (qk : Int)) ∧ W.cell? ⟨Pb, 1, none⟩ = some (.string (bs qt)) ∧ W.cell? ⟨Pb, 2, none⟩ = some (.int .i64 (qw : Int)) ∧ W.cell? ⟨Pb, 3, none⟩ = some (.bool qm) ∧ W.cell? ⟨V, 0, none⟩ = some (.string (bs v.kernel)) ∧ W.cell? ⟨V, 1, none⟩ = some (.string (bs v.devpath)) ∧ W.cell? ⟨V, 2, none⟩ = some (.string (bs v.id)) ∧ W.cell? ⟨V, 3, none⟩ = some (.string (bs v.driver)) ∧ W.cell? ⟨V, 4, none⟩ = some (.string (bs v.parent)) ∧ W.cell? ⟨V, 5, none⟩ = some (.string (bs v.name)) ∧ W.cell? ⟨V, 6, none⟩ = some (.string (bs v.result)) ∧ W.cell? ⟨V, 7, none⟩ = some a ∧ W.cell? ⟨V, 8, none⟩ = some b ∧ W.cell? ⟨V, 9, none⟩ = some c ∧ W.cell? ⟨X, qk, none⟩ = some (.func (.func (fnK qk)) #[] #[]) ∧ Kp [] W3 W) → _ from fun W h => hex W (HK2.out.trans (hk.out.trans (hk3.trans h.2.2.2.2.2.2.2.2.2.2.2.2.2.2.2))))
      have HK3 := Lib.hid (hk.out.trans hk3)
      have HO3 := Lib.hid (HO.out.kp0 hk3)
      have HW3 := Lib.hid hW3
      have HPb := Lib.hid hPb
      have HTX := Lib.hid htx.out
      have hqk1 := hqk.1
      have hqk2 := hqk.2.1
      clear hks hex hV3 hX3 hP3 hk3 hW3 hPb hrow hrow2 hq hqm hqk hqv htx hk HO hread hv 
      go_upto_region 9 with fail
      rw [HPb.out, HW3.out]
      go_cut [12] (fun s12 wx => ∃ x : List UInt8, s12 = .string (bs x) ∧ Hid (x.take 256 = pv.take 256) ∧ Hid (Kp [] W3 wx))
      case first =>
        have hc : qk = 1 ∨ qk = 2 ∨ qk = 3 ∨ qk = 4 ∨ qk = 5 ∨ qk = 6 ∨ qk = 7 ∨ qk = 8 ∨ qk = 9 ∨ qk = 10 ∨ qk = 11 := by omega
        rcases hc with rfl | rfl | rfl | rfl | rfl | rfl | rfl | rfl | rfl | rfl | rfl
        · have HEY := Lib.hid (show ∀ W, (W.cell? ⟨Pb, 0, none⟩ = some (.int .i64 1) ∧ W.cell? ⟨Pb, 1, none⟩ = some (.string (bs qt)) ∧ W.cell? ⟨Pb, 2, none⟩ = some (.int .i64 (qw : Int)) ∧ W.cell? ⟨Pb, 3, none⟩ = some (.bool qm) ∧ W.cell? ⟨V, 0, none⟩ = some (.string (bs v.kernel)) ∧ W.cell? ⟨V, 1, none⟩ = some (.string (bs v.devpath)) ∧ W.cell? ⟨V, 2, none⟩ = some (.string (bs v.id)) ∧ W.cell? ⟨V, 3, none⟩ = some (.string (bs v.driver)) ∧ W.cell? ⟨V, 4, none⟩ = some (.string (bs v.parent)) ∧ W.cell? ⟨V, 5, none⟩ = some (.string (bs v.name)) ∧ W.cell? ⟨V, 6, none⟩ = some (.string (bs v.result)) ∧ W.cell? ⟨V, 7, none⟩ = some a ∧ W.cell? ⟨V, 8, none⟩ = some b ∧ W.cell? ⟨V, 9, none⟩ = some c ∧ W.cell? ⟨X, 1, none⟩ = some (.func (.func 75) #[] #[]) ∧ Kp [] W3 W) → Calls Tryz.prog 75 #[.agg #[.int .i64 1, .string (bs qt), .int .i64 (qw : Int), .bool qm], .agg #[.string (bs v.kernel), .string (bs v.devpath), .string (bs v.id), .string (bs v.driver), .string (bs v.parent), .string (bs v.name), .string (bs v.result), a, b, c]] W fun e w' => ∃ x : List UInt8, e = .returned (.string (bs x)) ∧ x.take 256 = pv.take 256 ∧ Kp [] W w' from HEX.out)
          have HKY := Lib.hid (show ∀ W, Kp [] W3.drew W → (W.cell? ⟨Pb, 0, none⟩ = some (.int .i64 1) ∧ W.cell? ⟨Pb, 1, none⟩ = some (.string (bs qt)) ∧ W.cell? ⟨Pb, 2, none⟩ = some (.int .i64 (qw : Int)) ∧ W.cell? ⟨Pb, 3, none⟩ = some (.bool qm) ∧ W.cell? ⟨V, 0, none⟩ = some (.string (bs v.kernel)) ∧ W.cell? ⟨V, 1, none⟩ = some (.string (bs v.devpath)) ∧ W.cell? ⟨V, 2, none⟩ = some (.string (bs v.id)) ∧ W.cell? ⟨V, 3, none⟩ = some (.string (bs v.driver)) ∧ W.cell? ⟨V, 4, none⟩ = some (.string (bs v.parent)) ∧ W.cell? ⟨V, 5, none⟩ = some (.string (bs v.name)) ∧ W.cell? ⟨V, 6, none⟩ = some (.string (bs v.result)) ∧ W.cell? ⟨V, 7, none⟩ = some a ∧ W.cell? ⟨V, 8, none⟩ = some b ∧ W.cell? ⟨V, 9, none⟩ = some c ∧ W.cell? ⟨X, 1, none⟩ = some (.func (.func 75) #[] #[]) ∧ Kp [] W3 W) from HKS.out)
          have HSY := Lib.hid (show (fun W : World => W.cell? ⟨Pb, 0, none⟩ = some (.int .i64 1) ∧ W.cell? ⟨Pb, 1, none⟩ = some (.string (bs qt)) ∧ W.cell? ⟨Pb, 2, none⟩ = some (.int .i64 (qw : Int)) ∧ W.cell? ⟨Pb, 3, none⟩ = some (.bool qm) ∧ W.cell? ⟨V, 0, none⟩ = some (.string (bs v.kernel)) ∧ W.cell? ⟨V, 1, none⟩ = some (.string (bs v.devpath)) ∧ W.cell? ⟨V, 2, none⟩ = some (.string (bs v.id)) ∧ W.cell? ⟨V, 3, none⟩ = some (.string (bs v.driver)) ∧ W.cell? ⟨V, 4, none⟩ = some (.string (bs v.parent)) ∧ W.cell? ⟨V, 5, none⟩ = some (.string (bs v.name)) ∧ W.cell? ⟨V, 6, none⟩ = some (.string (bs v.result)) ∧ W.cell? ⟨V, 7, none⟩ = some a ∧ W.cell? ⟨V, 8, none⟩ = some b ∧ W.cell? ⟨V, 9, none⟩ = some c ∧ W.cell? ⟨X, 1, none⟩ = some (.func (.func 75) #[] #[]) ∧ Kp [] W3 W) W3.drew from HST.out)
          clear HKS HST HEX
          go_region_held3 (fun W => W.cell? ⟨Pb, 0, none⟩ = some (.int .i64 1) ∧ W.cell? ⟨Pb, 1, none⟩ = some (.string (bs qt)) ∧ W.cell? ⟨Pb, 2, none⟩ = some (.int .i64 (qw : Int)) ∧ W.cell? ⟨Pb, 3, none⟩ = some (.bool qm) ∧ W.cell? ⟨V, 0, none⟩ = some (.string (bs v.kernel)) ∧ W.cell? ⟨V, 1, none⟩ = some (.string (bs v.devpath)) ∧ W.cell? ⟨V, 2, none⟩ = some (.string (bs v.id)) ∧ W.cell? ⟨V, 3, none⟩ = some (.string (bs v.driver)) ∧ W.cell? ⟨V, 4, none⟩ = some (.string (bs v.parent)) ∧ W.cell? ⟨V, 5, none⟩ = some (.string (bs v.name)) ∧ W.cell? ⟨V, 6, none⟩ = some (.string (bs v.result)) ∧ W.cell? ⟨V, 7, none⟩ = some a ∧ W.cell? ⟨V, 8, none⟩ = some b ∧ W.cell? ⟨V, 9, none⟩ = some c ∧ W.cell? ⟨X, 1, none⟩ = some (.func (.func 75) #[] #[]) ∧ Kp [] W3 W) (first | exact HSY.out | assumption | exact HKY.out _ (by assumption)) (first | (go_at_call 75; refine Calls.mono (by with_reducible exact HEY.out _ (by assumption)) ?_; rintro e W ⟨x, rfl, hx, hb⟩; have HXX := Lib.hid hx; clear hx))
          all_goals go_wp2
          all_goals go_meet
          all_goals exact ⟨x, rfl, HXX, Lib.hid (last16 (by assumption))⟩
        · have HEY := Lib.hid (show ∀ W, (W.cell? ⟨Pb, 0, none⟩ = some (.int .i64 2) ∧ W.cell? ⟨Pb, 1, none⟩ = some (.string (bs qt)) ∧ W.cell? ⟨Pb, 2, none⟩ = some (.int .i64 (qw : Int)) ∧ W.cell? ⟨Pb, 3, none⟩ = some (.bool qm) ∧ W.cell? ⟨V, 0, none⟩ = some (.string (bs v.kernel)) ∧ W.cell? ⟨V, 1, none⟩ = some (.string (bs v.devpath)) ∧ W.cell? ⟨V, 2, none⟩ = some (.string (bs v.id)) ∧ W.cell? ⟨V, 3, none⟩ = some (.string (bs v.driver)) ∧ W.cell? ⟨V, 4, none⟩ = some (.string (bs v.parent)) ∧ W.cell? ⟨V, 5, none⟩ = some (.string (bs v.name)) ∧ W.cell? ⟨V, 6, none⟩ = some (.string (bs v.result)) ∧ W.cell? ⟨V, 7, none⟩ = some a ∧ W.cell? ⟨V, 8, none⟩ = some b ∧ W.cell? ⟨V, 9, none⟩ = some c ∧ W.cell? ⟨X, 2, none⟩ = some (.func (.func 76) #[] #[]) ∧ Kp [] W3 W) → Calls Tryz.prog 76 #[.agg #[.int .i64 2, .string (bs qt), .int .i64 (qw : Int), .bool qm], .agg #[.string (bs v.kernel), .string (bs v.devpath), .string (bs v.id), .string (bs v.driver), .string (bs v.parent), .string (bs v.name), .string (bs v.result), a, b, c]] W fun e w' => ∃ x : List UInt8, e = .returned (.string (bs x)) ∧ x.take 256 = pv.take 256 ∧ Kp [] W w' from HEX.out)
          have HKY := Lib.hid (show ∀ W, Kp [] W3.drew W → (W.cell? ⟨Pb, 0, none⟩ = some (.int .i64 2) ∧ W.cell? ⟨Pb, 1, none⟩ = some (.string (bs qt)) ∧ W.cell? ⟨Pb, 2, none⟩ = some (.int .i64 (qw : Int)) ∧ W.cell? ⟨Pb, 3, none⟩ = some (.bool qm) ∧ W.cell? ⟨V, 0, none⟩ = some (.string (bs v.kernel)) ∧ W.cell? ⟨V, 1, none⟩ = some (.string (bs v.devpath)) ∧ W.cell? ⟨V, 2, none⟩ = some (.string (bs v.id)) ∧ W.cell? ⟨V, 3, none⟩ = some (.string (bs v.driver)) ∧ W.cell? ⟨V, 4, none⟩ = some (.string (bs v.parent)) ∧ W.cell? ⟨V, 5, none⟩ = some (.string (bs v.name)) ∧ W.cell? ⟨V, 6, none⟩ = some (.string (bs v.result)) ∧ W.cell? ⟨V, 7, none⟩ = some a ∧ W.cell? ⟨V, 8, none⟩ = some b ∧ W.cell? ⟨V, 9, none⟩ = some c ∧ W.cell? ⟨X, 2, none⟩ = some (.func (.func 76) #[] #[]) ∧ Kp [] W3 W) from HKS.out)
          have HSY := Lib.hid (show (fun W : World => W.cell? ⟨Pb, 0, none⟩ = some (.int .i64 2) ∧ W.cell? ⟨Pb, 1, none⟩ = some (.string (bs qt)) ∧ W.cell? ⟨Pb, 2, none⟩ = some (.int .i64 (qw : Int)) ∧ W.cell? ⟨Pb, 3, none⟩ = some (.bool qm) ∧ W.cell? ⟨V, 0, none⟩ = some (.string (bs v.kernel)) ∧ W.cell? ⟨V, 1, none⟩ = some (.string (bs v.devpath)) ∧ W.cell? ⟨V, 2, none⟩ = some (.string (bs v.id)) ∧ W.cell? ⟨V, 3, none⟩ = some (.string (bs v.driver)) ∧ W.cell? ⟨V, 4, none⟩ = some (.string (bs v.parent)) ∧ W.cell? ⟨V, 5, none⟩ = some (.string (bs v.name)) ∧ W.cell? ⟨V, 6, none⟩ = some (.string (bs v.result)) ∧ W.cell? ⟨V, 7, none⟩ = some a ∧ W.cell? ⟨V, 8, none⟩ = some b ∧ W.cell? ⟨V, 9, none⟩ = some c ∧ W.cell? ⟨X, 2, none⟩ = some (.func (.func 76) #[] #[]) ∧ Kp [] W3 W) W3.drew from HST.out)
          clear HKS HST HEX
          go_region_held3 (fun W => W.cell? ⟨Pb, 0, none⟩ = some (.int .i64 2) ∧ W.cell? ⟨Pb, 1, none⟩ = some (.string (bs qt)) ∧ W.cell? ⟨Pb, 2, none⟩ = some (.int .i64 (qw : Int)) ∧ W.cell? ⟨Pb, 3, none⟩ = some (.bool qm) ∧ W.cell? ⟨V, 0, none⟩ = some (.string (bs v.kernel)) ∧ W.cell? ⟨V, 1, none⟩ = some (.string (bs v.devpath)) ∧ W.cell? ⟨V, 2, none⟩ = some (.string (bs v.id)) ∧ W.cell? ⟨V, 3, none⟩ = some (.string (bs v.driver)) ∧ W.cell? ⟨V, 4, none⟩ = some (.string (bs v.parent)) ∧ W.cell? ⟨V, 5, none⟩ = some (.string (bs v.name)) ∧ W.cell? ⟨V, 6, none⟩ = some (.string (bs v.result)) ∧ W.cell? ⟨V, 7, none⟩ = some a ∧ W.cell? ⟨V, 8, none⟩ = some b ∧ W.cell? ⟨V, 9, none⟩ = some c ∧ W.cell? ⟨X, 2, none⟩ = some (.func (.func 76) #[] #[]) ∧ Kp [] W3 W) (first | exact HSY.out | assumption | exact HKY.out _ (by assumption)) (first | (go_at_call 76; refine Calls.mono (by with_reducible exact HEY.out _ (by assumption)) ?_; rintro e W ⟨x, rfl, hx, hb⟩; have HXX := Lib.hid hx; clear hx))
          all_goals go_wp2
          all_goals go_meet
          all_goals exact ⟨x, rfl, HXX, Lib.hid (last16 (by assumption))⟩
        · have HEY := Lib.hid (show ∀ W, (W.cell? ⟨Pb, 0, none⟩ = some (.int .i64 3) ∧ W.cell? ⟨Pb, 1, none⟩ = some (.string (bs qt)) ∧ W.cell? ⟨Pb, 2, none⟩ = some (.int .i64 (qw : Int)) ∧ W.cell? ⟨Pb, 3, none⟩ = some (.bool qm) ∧ W.cell? ⟨V, 0, none⟩ = some (.string (bs v.kernel)) ∧ W.cell? ⟨V, 1, none⟩ = some (.string (bs v.devpath)) ∧ W.cell? ⟨V, 2, none⟩ = some (.string (bs v.id)) ∧ W.cell? ⟨V, 3, none⟩ = some (.string (bs v.driver)) ∧ W.cell? ⟨V, 4, none⟩ = some (.string (bs v.parent)) ∧ W.cell? ⟨V, 5, none⟩ = some (.string (bs v.name)) ∧ W.cell? ⟨V, 6, none⟩ = some (.string (bs v.result)) ∧ W.cell? ⟨V, 7, none⟩ = some a ∧ W.cell? ⟨V, 8, none⟩ = some b ∧ W.cell? ⟨V, 9, none⟩ = some c ∧ W.cell? ⟨X, 3, none⟩ = some (.func (.func 77) #[] #[]) ∧ Kp [] W3 W) → Calls Tryz.prog 77 #[.agg #[.int .i64 3, .string (bs qt), .int .i64 (qw : Int), .bool qm], .agg #[.string (bs v.kernel), .string (bs v.devpath), .string (bs v.id), .string (bs v.driver), .string (bs v.parent), .string (bs v.name), .string (bs v.result), a, b, c]] W fun e w' => ∃ x : List UInt8, e = .returned (.string (bs x)) ∧ x.take 256 = pv.take 256 ∧ Kp [] W w' from HEX.out)
          have HKY := Lib.hid (show ∀ W, Kp [] W3.drew W → (W.cell? ⟨Pb, 0, none⟩ = some (.int .i64 3) ∧ W.cell? ⟨Pb, 1, none⟩ = some (.string (bs qt)) ∧ W.cell? ⟨Pb, 2, none⟩ = some (.int .i64 (qw : Int)) ∧ W.cell? ⟨Pb, 3, none⟩ = some (.bool qm) ∧ W.cell? ⟨V, 0, none⟩ = some (.string (bs v.kernel)) ∧ W.cell? ⟨V, 1, none⟩ = some (.string (bs v.devpath)) ∧ W.cell? ⟨V, 2, none⟩ = some (.string (bs v.id)) ∧ W.cell? ⟨V, 3, none⟩ = some (.string (bs v.driver)) ∧ W.cell? ⟨V, 4, none⟩ = some (.string (bs v.parent)) ∧ W.cell? ⟨V, 5, none⟩ = some (.string (bs v.name)) ∧ W.cell? ⟨V, 6, none⟩ = some (.string (bs v.result)) ∧ W.cell? ⟨V, 7, none⟩ = some a ∧ W.cell? ⟨V, 8, none⟩ = some b ∧ W.cell? ⟨V, 9, none⟩ = some c ∧ W.cell? ⟨X, 3, none⟩ = some (.func (.func 77) #[] #[]) ∧ Kp [] W3 W) from HKS.out)
          have HSY := Lib.hid (show (fun W : World => W.cell? ⟨Pb, 0, none⟩ = some (.int .i64 3) ∧ W.cell? ⟨Pb, 1, none⟩ = some (.string (bs qt)) ∧ W.cell? ⟨Pb, 2, none⟩ = some (.int .i64 (qw : Int)) ∧ W.cell? ⟨Pb, 3, none⟩ = some (.bool qm) ∧ W.cell? ⟨V, 0, none⟩ = some (.string (bs v.kernel)) ∧ W.cell? ⟨V, 1, none⟩ = some (.string (bs v.devpath)) ∧ W.cell? ⟨V, 2, none⟩ = some (.string (bs v.id)) ∧ W.cell? ⟨V, 3, none⟩ = some (.string (bs v.driver)) ∧ W.cell? ⟨V, 4, none⟩ = some (.string (bs v.parent)) ∧ W.cell? ⟨V, 5, none⟩ = some (.string (bs v.name)) ∧ W.cell? ⟨V, 6, none⟩ = some (.string (bs v.result)) ∧ W.cell? ⟨V, 7, none⟩ = some a ∧ W.cell? ⟨V, 8, none⟩ = some b ∧ W.cell? ⟨V, 9, none⟩ = some c ∧ W.cell? ⟨X, 3, none⟩ = some (.func (.func 77) #[] #[]) ∧ Kp [] W3 W) W3.drew from HST.out)
          clear HKS HST HEX
          go_region_held3 (fun W => W.cell? ⟨Pb, 0, none⟩ = some (.int .i64 3) ∧ W.cell? ⟨Pb, 1, none⟩ = some (.string (bs qt)) ∧ W.cell? ⟨Pb, 2, none⟩ = some (.int .i64 (qw : Int)) ∧ W.cell? ⟨Pb, 3, none⟩ = some (.bool qm) ∧ W.cell? ⟨V, 0, none⟩ = some (.string (bs v.kernel)) ∧ W.cell? ⟨V, 1, none⟩ = some (.string (bs v.devpath)) ∧ W.cell? ⟨V, 2, none⟩ = some (.string (bs v.id)) ∧ W.cell? ⟨V, 3, none⟩ = some (.string (bs v.driver)) ∧ W.cell? ⟨V, 4, none⟩ = some (.string (bs v.parent)) ∧ W.cell? ⟨V, 5, none⟩ = some (.string (bs v.name)) ∧ W.cell? ⟨V, 6, none⟩ = some (.string (bs v.result)) ∧ W.cell? ⟨V, 7, none⟩ = some a ∧ W.cell? ⟨V, 8, none⟩ = some b ∧ W.cell? ⟨V, 9, none⟩ = some c ∧ W.cell? ⟨X, 3, none⟩ = some (.func (.func 77) #[] #[]) ∧ Kp [] W3 W) (first | exact HSY.out | assumption | exact HKY.out _ (by assumption)) (first | (go_at_call 77; refine Calls.mono (by with_reducible exact HEY.out _ (by assumption)) ?_; rintro e W ⟨x, rfl, hx, hb⟩; have HXX := Lib.hid hx; clear hx))
          all_goals go_wp2
          all_goals go_meet
          all_goals exact ⟨x, rfl, HXX, Lib.hid (last16 (by assumption))⟩
        · have HEY := Lib.hid (show ∀ W, (W.cell? ⟨Pb, 0, none⟩ = some (.int .i64 4) ∧ W.cell? ⟨Pb, 1, none⟩ = some (.string (bs qt)) ∧ W.cell? ⟨Pb, 2, none⟩ = some (.int .i64 (qw : Int)) ∧ W.cell? ⟨Pb, 3, none⟩ = some (.bool qm) ∧ W.cell? ⟨V, 0, none⟩ = some (.string (bs v.kernel)) ∧ W.cell? ⟨V, 1, none⟩ = some (.string (bs v.devpath)) ∧ W.cell? ⟨V, 2, none⟩ = some (.string (bs v.id)) ∧ W.cell? ⟨V, 3, none⟩ = some (.string (bs v.driver)) ∧ W.cell? ⟨V, 4, none⟩ = some (.string (bs v.parent)) ∧ W.cell? ⟨V, 5, none⟩ = some (.string (bs v.name)) ∧ W.cell? ⟨V, 6, none⟩ = some (.string (bs v.result)) ∧ W.cell? ⟨V, 7, none⟩ = some a ∧ W.cell? ⟨V, 8, none⟩ = some b ∧ W.cell? ⟨V, 9, none⟩ = some c ∧ W.cell? ⟨X, 4, none⟩ = some (.func (.func 79) #[] #[]) ∧ Kp [] W3 W) → Calls Tryz.prog 79 #[.agg #[.int .i64 4, .string (bs qt), .int .i64 (qw : Int), .bool qm], .agg #[.string (bs v.kernel), .string (bs v.devpath), .string (bs v.id), .string (bs v.driver), .string (bs v.parent), .string (bs v.name), .string (bs v.result), a, b, c]] W fun e w' => ∃ x : List UInt8, e = .returned (.string (bs x)) ∧ x.take 256 = pv.take 256 ∧ Kp [] W w' from HEX.out)
          have HKY := Lib.hid (show ∀ W, Kp [] W3.drew W → (W.cell? ⟨Pb, 0, none⟩ = some (.int .i64 4) ∧ W.cell? ⟨Pb, 1, none⟩ = some (.string (bs qt)) ∧ W.cell? ⟨Pb, 2, none⟩ = some (.int .i64 (qw : Int)) ∧ W.cell? ⟨Pb, 3, none⟩ = some (.bool qm) ∧ W.cell? ⟨V, 0, none⟩ = some (.string (bs v.kernel)) ∧ W.cell? ⟨V, 1, none⟩ = some (.string (bs v.devpath)) ∧ W.cell? ⟨V, 2, none⟩ = some (.string (bs v.id)) ∧ W.cell? ⟨V, 3, none⟩ = some (.string (bs v.driver)) ∧ W.cell? ⟨V, 4, none⟩ = some (.string (bs v.parent)) ∧ W.cell? ⟨V, 5, none⟩ = some (.string (bs v.name)) ∧ W.cell? ⟨V, 6, none⟩ = some (.string (bs v.result)) ∧ W.cell? ⟨V, 7, none⟩ = some a ∧ W.cell? ⟨V, 8, none⟩ = some b ∧ W.cell? ⟨V, 9, none⟩ = some c ∧ W.cell? ⟨X, 4, none⟩ = some (.func (.func 79) #[] #[]) ∧ Kp [] W3 W) from HKS.out)
          have HSY := Lib.hid (show (fun W : World => W.cell? ⟨Pb, 0, none⟩ = some (.int .i64 4) ∧ W.cell? ⟨Pb, 1, none⟩ = some (.string (bs qt)) ∧ W.cell? ⟨Pb, 2, none⟩ = some (.int .i64 (qw : Int)) ∧ W.cell? ⟨Pb, 3, none⟩ = some (.bool qm) ∧ W.cell? ⟨V, 0, none⟩ = some (.string (bs v.kernel)) ∧ W.cell? ⟨V, 1, none⟩ = some (.string (bs v.devpath)) ∧ W.cell? ⟨V, 2, none⟩ = some (.string (bs v.id)) ∧ W.cell? ⟨V, 3, none⟩ = some (.string (bs v.driver)) ∧ W.cell? ⟨V, 4, none⟩ = some (.string (bs v.parent)) ∧ W.cell? ⟨V, 5, none⟩ = some (.string (bs v.name)) ∧ W.cell? ⟨V, 6, none⟩ = some (.string (bs v.result)) ∧ W.cell? ⟨V, 7, none⟩ = some a ∧ W.cell? ⟨V, 8, none⟩ = some b ∧ W.cell? ⟨V, 9, none⟩ = some c ∧ W.cell? ⟨X, 4, none⟩ = some (.func (.func 79) #[] #[]) ∧ Kp [] W3 W) W3.drew from HST.out)
          clear HKS HST HEX
          go_region_held3 (fun W => W.cell? ⟨Pb, 0, none⟩ = some (.int .i64 4) ∧ W.cell? ⟨Pb, 1, none⟩ = some (.string (bs qt)) ∧ W.cell? ⟨Pb, 2, none⟩ = some (.int .i64 (qw : Int)) ∧ W.cell? ⟨Pb, 3, none⟩ = some (.bool qm) ∧ W.cell? ⟨V, 0, none⟩ = some (.string (bs v.kernel)) ∧ W.cell? ⟨V, 1, none⟩ = some (.string (bs v.devpath)) ∧ W.cell? ⟨V, 2, none⟩ = some (.string (bs v.id)) ∧ W.cell? ⟨V, 3, none⟩ = some (.string (bs v.driver)) ∧ W.cell? ⟨V, 4, none⟩ = some (.string (bs v.parent)) ∧ W.cell? ⟨V, 5, none⟩ = some (.string (bs v.name)) ∧ W.cell? ⟨V, 6, none⟩ = some (.string (bs v.result)) ∧ W.cell? ⟨V, 7, none⟩ = some a ∧ W.cell? ⟨V, 8, none⟩ = some b ∧ W.cell? ⟨V, 9, none⟩ = some c ∧ W.cell? ⟨X, 4, none⟩ = some (.func (.func 79) #[] #[]) ∧ Kp [] W3 W) (first | exact HSY.out | assumption | exact HKY.out _ (by assumption)) (first | (go_at_call 79; refine Calls.mono (by with_reducible exact HEY.out _ (by assumption)) ?_; rintro e W ⟨x, rfl, hx, hb⟩; have HXX := Lib.hid hx; clear hx))
          all_goals go_wp2
          all_goals go_meet
          all_goals exact ⟨x, rfl, HXX, Lib.hid (last16 (by assumption))⟩
        · have HEY := Lib.hid (show ∀ W, (W.cell? ⟨Pb, 0, none⟩ = some (.int .i64 5) ∧ W.cell? ⟨Pb, 1, none⟩ = some (.string (bs qt)) ∧ W.cell? ⟨Pb, 2, none⟩ = some (.int .i64 (qw : Int)) ∧ W.cell? ⟨Pb, 3, none⟩ = some (.bool qm) ∧ W.cell? ⟨V, 0, none⟩ = some (.string (bs v.kernel)) ∧ W.cell? ⟨V, 1, none⟩ = some (.string (bs v.devpath)) ∧ W.cell? ⟨V, 2, none⟩ = some (.string (bs v.id)) ∧ W.cell? ⟨V, 3, none⟩ = some (.string (bs v.driver)) ∧ W.cell? ⟨V, 4, none⟩ = some (.string (bs v.parent)) ∧ W.cell? ⟨V, 5, none⟩ = some (.string (bs v.name)) ∧ W.cell? ⟨V, 6, none⟩ = some (.string (bs v.result)) ∧ W.cell? ⟨V, 7, none⟩ = some a ∧ W.cell? ⟨V, 8, none⟩ = some b ∧ W.cell? ⟨V, 9, none⟩ = some c ∧ W.cell? ⟨X, 5, none⟩ = some (.func (.func 80) #[] #[]) ∧ Kp [] W3 W) → Calls Tryz.prog 80 #[.agg #[.int .i64 5, .string (bs qt), .int .i64 (qw : Int), .bool qm], .agg #[.string (bs v.kernel), .string (bs v.devpath), .string (bs v.id), .string (bs v.driver), .string (bs v.parent), .string (bs v.name), .string (bs v.result), a, b, c]] W fun e w' => ∃ x : List UInt8, e = .returned (.string (bs x)) ∧ x.take 256 = pv.take 256 ∧ Kp [] W w' from HEX.out)
          have HKY := Lib.hid (show ∀ W, Kp [] W3.drew W → (W.cell? ⟨Pb, 0, none⟩ = some (.int .i64 5) ∧ W.cell? ⟨Pb, 1, none⟩ = some (.string (bs qt)) ∧ W.cell? ⟨Pb, 2, none⟩ = some (.int .i64 (qw : Int)) ∧ W.cell? ⟨Pb, 3, none⟩ = some (.bool qm) ∧ W.cell? ⟨V, 0, none⟩ = some (.string (bs v.kernel)) ∧ W.cell? ⟨V, 1, none⟩ = some (.string (bs v.devpath)) ∧ W.cell? ⟨V, 2, none⟩ = some (.string (bs v.id)) ∧ W.cell? ⟨V, 3, none⟩ = some (.string (bs v.driver)) ∧ W.cell? ⟨V, 4, none⟩ = some (.string (bs v.parent)) ∧ W.cell? ⟨V, 5, none⟩ = some (.string (bs v.name)) ∧ W.cell? ⟨V, 6, none⟩ = some (.string (bs v.result)) ∧ W.cell? ⟨V, 7, none⟩ = some a ∧ W.cell? ⟨V, 8, none⟩ = some b ∧ W.cell? ⟨V, 9, none⟩ = some c ∧ W.cell? ⟨X, 5, none⟩ = some (.func (.func 80) #[] #[]) ∧ Kp [] W3 W) from HKS.out)
          have HSY := Lib.hid (show (fun W : World => W.cell? ⟨Pb, 0, none⟩ = some (.int .i64 5) ∧ W.cell? ⟨Pb, 1, none⟩ = some (.string (bs qt)) ∧ W.cell? ⟨Pb, 2, none⟩ = some (.int .i64 (qw : Int)) ∧ W.cell? ⟨Pb, 3, none⟩ = some (.bool qm) ∧ W.cell? ⟨V, 0, none⟩ = some (.string (bs v.kernel)) ∧ W.cell? ⟨V, 1, none⟩ = some (.string (bs v.devpath)) ∧ W.cell? ⟨V, 2, none⟩ = some (.string (bs v.id)) ∧ W.cell? ⟨V, 3, none⟩ = some (.string (bs v.driver)) ∧ W.cell? ⟨V, 4, none⟩ = some (.string (bs v.parent)) ∧ W.cell? ⟨V, 5, none⟩ = some (.string (bs v.name)) ∧ W.cell? ⟨V, 6, none⟩ = some (.string (bs v.result)) ∧ W.cell? ⟨V, 7, none⟩ = some a ∧ W.cell? ⟨V, 8, none⟩ = some b ∧ W.cell? ⟨V, 9, none⟩ = some c ∧ W.cell? ⟨X, 5, none⟩ = some (.func (.func 80) #[] #[]) ∧ Kp [] W3 W) W3.drew from HST.out)
          clear HKS HST HEX
          go_region_held3 (fun W => W.cell? ⟨Pb, 0, none⟩ = some (.int .i64 5) ∧ W.cell? ⟨Pb, 1, none⟩ = some (.string (bs qt)) ∧ W.cell? ⟨Pb, 2, none⟩ = some (.int .i64 (qw : Int)) ∧ W.cell? ⟨Pb, 3, none⟩ = some (.bool qm) ∧ W.cell? ⟨V, 0, none⟩ = some (.string (bs v.kernel)) ∧ W.cell? ⟨V, 1, none⟩ = some (.string (bs v.devpath)) ∧ W.cell? ⟨V, 2, none⟩ = some (.string (bs v.id)) ∧ W.cell? ⟨V, 3, none⟩ = some (.string (bs v.driver)) ∧ W.cell? ⟨V, 4, none⟩ = some (.string (bs v.parent)) ∧ W.cell? ⟨V, 5, none⟩ = some (.string (bs v.name)) ∧ W.cell? ⟨V, 6, none⟩ = some (.string (bs v.result)) ∧ W.cell? ⟨V, 7, none⟩ = some a ∧ W.cell? ⟨V, 8, none⟩ = some b ∧ W.cell? ⟨V, 9, none⟩ = some c ∧ W.cell? ⟨X, 5, none⟩ = some (.func (.func 80) #[] #[]) ∧ Kp [] W3 W) (first | exact HSY.out | assumption | exact HKY.out _ (by assumption)) (first | (go_at_call 80; refine Calls.mono (by with_reducible exact HEY.out _ (by assumption)) ?_; rintro e W ⟨x, rfl, hx, hb⟩; have HXX := Lib.hid hx; clear hx))
          all_goals go_wp2
          all_goals go_meet
          all_goals exact ⟨x, rfl, HXX, Lib.hid (last16 (by assumption))⟩
        · have HEY := Lib.hid (show ∀ W, (W.cell? ⟨Pb, 0, none⟩ = some (.int .i64 6) ∧ W.cell? ⟨Pb, 1, none⟩ = some (.string (bs qt)) ∧ W.cell? ⟨Pb, 2, none⟩ = some (.int .i64 (qw : Int)) ∧ W.cell? ⟨Pb, 3, none⟩ = some (.bool qm) ∧ W.cell? ⟨V, 0, none⟩ = some (.string (bs v.kernel)) ∧ W.cell? ⟨V, 1, none⟩ = some (.string (bs v.devpath)) ∧ W.cell? ⟨V, 2, none⟩ = some (.string (bs v.id)) ∧ W.cell? ⟨V, 3, none⟩ = some (.string (bs v.driver)) ∧ W.cell? ⟨V, 4, none⟩ = some (.string (bs v.parent)) ∧ W.cell? ⟨V, 5, none⟩ = some (.string (bs v.name)) ∧ W.cell? ⟨V, 6, none⟩ = some (.string (bs v.result)) ∧ W.cell? ⟨V, 7, none⟩ = some a ∧ W.cell? ⟨V, 8, none⟩ = some b ∧ W.cell? ⟨V, 9, none⟩ = some c ∧ W.cell? ⟨X, 6, none⟩ = some (.func (.func 81) #[] #[]) ∧ Kp [] W3 W) → Calls Tryz.prog 81 #[.agg #[.int .i64 6, .string (bs qt), .int .i64 (qw : Int), .bool qm], .agg #[.string (bs v.kernel), .string (bs v.devpath), .string (bs v.id), .string (bs v.driver), .string (bs v.parent), .string (bs v.name), .string (bs v.result), a, b, c]] W fun e w' => ∃ x : List UInt8, e = .returned (.string (bs x)) ∧ x.take 256 = pv.take 256 ∧ Kp [] W w' from HEX.out)
          have HKY := Lib.hid (show ∀ W, Kp [] W3.drew W → (W.cell? ⟨Pb, 0, none⟩ = some (.int .i64 6) ∧ W.cell? ⟨Pb, 1, none⟩ = some (.string (bs qt)) ∧ W.cell? ⟨Pb, 2, none⟩ = some (.int .i64 (qw : Int)) ∧ W.cell? ⟨Pb, 3, none⟩ = some (.bool qm) ∧ W.cell? ⟨V, 0, none⟩ = some (.string (bs v.kernel)) ∧ W.cell? ⟨V, 1, none⟩ = some (.string (bs v.devpath)) ∧ W.cell? ⟨V, 2, none⟩ = some (.string (bs v.id)) ∧ W.cell? ⟨V, 3, none⟩ = some (.string (bs v.driver)) ∧ W.cell? ⟨V, 4, none⟩ = some (.string (bs v.parent)) ∧ W.cell? ⟨V, 5, none⟩ = some (.string (bs v.name)) ∧ W.cell? ⟨V, 6, none⟩ = some (.string (bs v.result)) ∧ W.cell? ⟨V, 7, none⟩ = some a ∧ W.cell? ⟨V, 8, none⟩ = some b ∧ W.cell? ⟨V, 9, none⟩ = some c ∧ W.cell? ⟨X, 6, none⟩ = some (.func (.func 81) #[] #[]) ∧ Kp [] W3 W) from HKS.out)
          have HSY := Lib.hid (show (fun W : World => W.cell? ⟨Pb, 0, none⟩ = some (.int .i64 6) ∧ W.cell? ⟨Pb, 1, none⟩ = some (.string (bs qt)) ∧ W.cell? ⟨Pb, 2, none⟩ = some (.int .i64 (qw : Int)) ∧ W.cell? ⟨Pb, 3, none⟩ = some (.bool qm) ∧ W.cell? ⟨V, 0, none⟩ = some (.string (bs v.kernel)) ∧ W.cell? ⟨V, 1, none⟩ = some (.string (bs v.devpath)) ∧ W.cell? ⟨V, 2, none⟩ = some (.string (bs v.id)) ∧ W.cell? ⟨V, 3, none⟩ = some (.string (bs v.driver)) ∧ W.cell? ⟨V, 4, none⟩ = some (.string (bs v.parent)) ∧ W.cell? ⟨V, 5, none⟩ = some (.string (bs v.name)) ∧ W.cell? ⟨V, 6, none⟩ = some (.string (bs v.result)) ∧ W.cell? ⟨V, 7, none⟩ = some a ∧ W.cell? ⟨V, 8, none⟩ = some b ∧ W.cell? ⟨V, 9, none⟩ = some c ∧ W.cell? ⟨X, 6, none⟩ = some (.func (.func 81) #[] #[]) ∧ Kp [] W3 W) W3.drew from HST.out)
          clear HKS HST HEX
          go_region_held3 (fun W => W.cell? ⟨Pb, 0, none⟩ = some (.int .i64 6) ∧ W.cell? ⟨Pb, 1, none⟩ = some (.string (bs qt)) ∧ W.cell? ⟨Pb, 2, none⟩ = some (.int .i64 (qw : Int)) ∧ W.cell? ⟨Pb, 3, none⟩ = some (.bool qm) ∧ W.cell? ⟨V, 0, none⟩ = some (.string (bs v.kernel)) ∧ W.cell? ⟨V, 1, none⟩ = some (.string (bs v.devpath)) ∧ W.cell? ⟨V, 2, none⟩ = some (.string (bs v.id)) ∧ W.cell? ⟨V, 3, none⟩ = some (.string (bs v.driver)) ∧ W.cell? ⟨V, 4, none⟩ = some (.string (bs v.parent)) ∧ W.cell? ⟨V, 5, none⟩ = some (.string (bs v.name)) ∧ W.cell? ⟨V, 6, none⟩ = some (.string (bs v.result)) ∧ W.cell? ⟨V, 7, none⟩ = some a ∧ W.cell? ⟨V, 8, none⟩ = some b ∧ W.cell? ⟨V, 9, none⟩ = some c ∧ W.cell? ⟨X, 6, none⟩ = some (.func (.func 81) #[] #[]) ∧ Kp [] W3 W) (first | exact HSY.out | assumption | exact HKY.out _ (by assumption)) (first | (go_at_call 81; refine Calls.mono (by with_reducible exact HEY.out _ (by assumption)) ?_; rintro e W ⟨x, rfl, hx, hb⟩; have HXX := Lib.hid hx; clear hx))
          all_goals go_wp2
          all_goals go_meet
          all_goals exact ⟨x, rfl, HXX, Lib.hid (last16 (by assumption))⟩
        · have HEY := Lib.hid (show ∀ W, (W.cell? ⟨Pb, 0, none⟩ = some (.int .i64 7) ∧ W.cell? ⟨Pb, 1, none⟩ = some (.string (bs qt)) ∧ W.cell? ⟨Pb, 2, none⟩ = some (.int .i64 (qw : Int)) ∧ W.cell? ⟨Pb, 3, none⟩ = some (.bool qm) ∧ W.cell? ⟨V, 0, none⟩ = some (.string (bs v.kernel)) ∧ W.cell? ⟨V, 1, none⟩ = some (.string (bs v.devpath)) ∧ W.cell? ⟨V, 2, none⟩ = some (.string (bs v.id)) ∧ W.cell? ⟨V, 3, none⟩ = some (.string (bs v.driver)) ∧ W.cell? ⟨V, 4, none⟩ = some (.string (bs v.parent)) ∧ W.cell? ⟨V, 5, none⟩ = some (.string (bs v.name)) ∧ W.cell? ⟨V, 6, none⟩ = some (.string (bs v.result)) ∧ W.cell? ⟨V, 7, none⟩ = some a ∧ W.cell? ⟨V, 8, none⟩ = some b ∧ W.cell? ⟨V, 9, none⟩ = some c ∧ W.cell? ⟨X, 7, none⟩ = some (.func (.func 82) #[] #[]) ∧ Kp [] W3 W) → Calls Tryz.prog 82 #[.agg #[.int .i64 7, .string (bs qt), .int .i64 (qw : Int), .bool qm], .agg #[.string (bs v.kernel), .string (bs v.devpath), .string (bs v.id), .string (bs v.driver), .string (bs v.parent), .string (bs v.name), .string (bs v.result), a, b, c]] W fun e w' => ∃ x : List UInt8, e = .returned (.string (bs x)) ∧ x.take 256 = pv.take 256 ∧ Kp [] W w' from HEX.out)
          have HKY := Lib.hid (show ∀ W, Kp [] W3.drew W → (W.cell? ⟨Pb, 0, none⟩ = some (.int .i64 7) ∧ W.cell? ⟨Pb, 1, none⟩ = some (.string (bs qt)) ∧ W.cell? ⟨Pb, 2, none⟩ = some (.int .i64 (qw : Int)) ∧ W.cell? ⟨Pb, 3, none⟩ = some (.bool qm) ∧ W.cell? ⟨V, 0, none⟩ = some (.string (bs v.kernel)) ∧ W.cell? ⟨V, 1, none⟩ = some (.string (bs v.devpath)) ∧ W.cell? ⟨V, 2, none⟩ = some (.string (bs v.id)) ∧ W.cell? ⟨V, 3, none⟩ = some (.string (bs v.driver)) ∧ W.cell? ⟨V, 4, none⟩ = some (.string (bs v.parent)) ∧ W.cell? ⟨V, 5, none⟩ = some (.string (bs v.name)) ∧ W.cell? ⟨V, 6, none⟩ = some (.string (bs v.result)) ∧ W.cell? ⟨V, 7, none⟩ = some a ∧ W.cell? ⟨V, 8, none⟩ = some b ∧ W.cell? ⟨V, 9, none⟩ = some c ∧ W.cell? ⟨X, 7, none⟩ = some (.func (.func 82) #[] #[]) ∧ Kp [] W3 W) from HKS.out)
          have HSY := Lib.hid (show (fun W : World => W.cell? ⟨Pb, 0, none⟩ = some (.int .i64 7) ∧ W.cell? ⟨Pb, 1, none⟩ = some (.string (bs qt)) ∧ W.cell? ⟨Pb, 2, none⟩ = some (.int .i64 (qw : Int)) ∧ W.cell? ⟨Pb, 3, none⟩ = some (.bool qm) ∧ W.cell? ⟨V, 0, none⟩ = some (.string (bs v.kernel)) ∧ W.cell? ⟨V, 1, none⟩ = some (.string (bs v.devpath)) ∧ W.cell? ⟨V, 2, none⟩ = some (.string (bs v.id)) ∧ W.cell? ⟨V, 3, none⟩ = some (.string (bs v.driver)) ∧ W.cell? ⟨V, 4, none⟩ = some (.string (bs v.parent)) ∧ W.cell? ⟨V, 5, none⟩ = some (.string (bs v.name)) ∧ W.cell? ⟨V, 6, none⟩ = some (.string (bs v.result)) ∧ W.cell? ⟨V, 7, none⟩ = some a ∧ W.cell? ⟨V, 8, none⟩ = some b ∧ W.cell? ⟨V, 9, none⟩ = some c ∧ W.cell? ⟨X, 7, none⟩ = some (.func (.func 82) #[] #[]) ∧ Kp [] W3 W) W3.drew from HST.out)
          clear HKS HST HEX
          go_region_held3 (fun W => W.cell? ⟨Pb, 0, none⟩ = some (.int .i64 7) ∧ W.cell? ⟨Pb, 1, none⟩ = some (.string (bs qt)) ∧ W.cell? ⟨Pb, 2, none⟩ = some (.int .i64 (qw : Int)) ∧ W.cell? ⟨Pb, 3, none⟩ = some (.bool qm) ∧ W.cell? ⟨V, 0, none⟩ = some (.string (bs v.kernel)) ∧ W.cell? ⟨V, 1, none⟩ = some (.string (bs v.devpath)) ∧ W.cell? ⟨V, 2, none⟩ = some (.string (bs v.id)) ∧ W.cell? ⟨V, 3, none⟩ = some (.string (bs v.driver)) ∧ W.cell? ⟨V, 4, none⟩ = some (.string (bs v.parent)) ∧ W.cell? ⟨V, 5, none⟩ = some (.string (bs v.name)) ∧ W.cell? ⟨V, 6, none⟩ = some (.string (bs v.result)) ∧ W.cell? ⟨V, 7, none⟩ = some a ∧ W.cell? ⟨V, 8, none⟩ = some b ∧ W.cell? ⟨V, 9, none⟩ = some c ∧ W.cell? ⟨X, 7, none⟩ = some (.func (.func 82) #[] #[]) ∧ Kp [] W3 W) (first | exact HSY.out | assumption | exact HKY.out _ (by assumption)) (first | (go_at_call 82; refine Calls.mono (by with_reducible exact HEY.out _ (by assumption)) ?_; rintro e W ⟨x, rfl, hx, hb⟩; have HXX := Lib.hid hx; clear hx))
          all_goals go_wp2
          all_goals go_meet
          all_goals exact ⟨x, rfl, HXX, Lib.hid (last16 (by assumption))⟩
        · have HEY := Lib.hid (show ∀ W, (W.cell? ⟨Pb, 0, none⟩ = some (.int .i64 8) ∧ W.cell? ⟨Pb, 1, none⟩ = some (.string (bs qt)) ∧ W.cell? ⟨Pb, 2, none⟩ = some (.int .i64 (qw : Int)) ∧ W.cell? ⟨Pb, 3, none⟩ = some (.bool qm) ∧ W.cell? ⟨V, 0, none⟩ = some (.string (bs v.kernel)) ∧ W.cell? ⟨V, 1, none⟩ = some (.string (bs v.devpath)) ∧ W.cell? ⟨V, 2, none⟩ = some (.string (bs v.id)) ∧ W.cell? ⟨V, 3, none⟩ = some (.string (bs v.driver)) ∧ W.cell? ⟨V, 4, none⟩ = some (.string (bs v.parent)) ∧ W.cell? ⟨V, 5, none⟩ = some (.string (bs v.name)) ∧ W.cell? ⟨V, 6, none⟩ = some (.string (bs v.result)) ∧ W.cell? ⟨V, 7, none⟩ = some a ∧ W.cell? ⟨V, 8, none⟩ = some b ∧ W.cell? ⟨V, 9, none⟩ = some c ∧ W.cell? ⟨X, 8, none⟩ = some (.func (.func 83) #[] #[]) ∧ Kp [] W3 W) → Calls Tryz.prog 83 #[.agg #[.int .i64 8, .string (bs qt), .int .i64 (qw : Int), .bool qm], .agg #[.string (bs v.kernel), .string (bs v.devpath), .string (bs v.id), .string (bs v.driver), .string (bs v.parent), .string (bs v.name), .string (bs v.result), a, b, c]] W fun e w' => ∃ x : List UInt8, e = .returned (.string (bs x)) ∧ x.take 256 = pv.take 256 ∧ Kp [] W w' from HEX.out)
          have HKY := Lib.hid (show ∀ W, Kp [] W3.drew W → (W.cell? ⟨Pb, 0, none⟩ = some (.int .i64 8) ∧ W.cell? ⟨Pb, 1, none⟩ = some (.string (bs qt)) ∧ W.cell? ⟨Pb, 2, none⟩ = some (.int .i64 (qw : Int)) ∧ W.cell? ⟨Pb, 3, none⟩ = some (.bool qm) ∧ W.cell? ⟨V, 0, none⟩ = some (.string (bs v.kernel)) ∧ W.cell? ⟨V, 1, none⟩ = some (.string (bs v.devpath)) ∧ W.cell? ⟨V, 2, none⟩ = some (.string (bs v.id)) ∧ W.cell? ⟨V, 3, none⟩ = some (.string (bs v.driver)) ∧ W.cell? ⟨V, 4, none⟩ = some (.string (bs v.parent)) ∧ W.cell? ⟨V, 5, none⟩ = some (.string (bs v.name)) ∧ W.cell? ⟨V, 6, none⟩ = some (.string (bs v.result)) ∧ W.cell? ⟨V, 7, none⟩ = some a ∧ W.cell? ⟨V, 8, none⟩ = some b ∧ W.cell? ⟨V, 9, none⟩ = some c ∧ W.cell? ⟨X, 8, none⟩ = some (.func (.func 83) #[] #[]) ∧ Kp [] W3 W) from HKS.out)
          have HSY := Lib.hid (show (fun W : World => W.cell? ⟨Pb, 0, none⟩ = some (.int .i64 8) ∧ W.cell? ⟨Pb, 1, none⟩ = some (.string (bs qt)) ∧ W.cell? ⟨Pb, 2, none⟩ = some (.int .i64 (qw : Int)) ∧ W.cell? ⟨Pb, 3, none⟩ = some (.bool qm) ∧ W.cell? ⟨V, 0, none⟩ = some (.string (bs v.kernel)) ∧ W.cell? ⟨V, 1, none⟩ = some (.string (bs v.devpath)) ∧ W.cell? ⟨V, 2, none⟩ = some (.string (bs v.id)) ∧ W.cell? ⟨V, 3, none⟩ = some (.string (bs v.driver)) ∧ W.cell? ⟨V, 4, none⟩ = some (.string (bs v.parent)) ∧ W.cell? ⟨V, 5, none⟩ = some (.string (bs v.name)) ∧ W.cell? ⟨V, 6, none⟩ = some (.string (bs v.result)) ∧ W.cell? ⟨V, 7, none⟩ = some a ∧ W.cell? ⟨V, 8, none⟩ = some b ∧ W.cell? ⟨V, 9, none⟩ = some c ∧ W.cell? ⟨X, 8, none⟩ = some (.func (.func 83) #[] #[]) ∧ Kp [] W3 W) W3.drew from HST.out)
          clear HKS HST HEX
          go_region_held3 (fun W => W.cell? ⟨Pb, 0, none⟩ = some (.int .i64 8) ∧ W.cell? ⟨Pb, 1, none⟩ = some (.string (bs qt)) ∧ W.cell? ⟨Pb, 2, none⟩ = some (.int .i64 (qw : Int)) ∧ W.cell? ⟨Pb, 3, none⟩ = some (.bool qm) ∧ W.cell? ⟨V, 0, none⟩ = some (.string (bs v.kernel)) ∧ W.cell? ⟨V, 1, none⟩ = some (.string (bs v.devpath)) ∧ W.cell? ⟨V, 2, none⟩ = some (.string (bs v.id)) ∧ W.cell? ⟨V, 3, none⟩ = some (.string (bs v.driver)) ∧ W.cell? ⟨V, 4, none⟩ = some (.string (bs v.parent)) ∧ W.cell? ⟨V, 5, none⟩ = some (.string (bs v.name)) ∧ W.cell? ⟨V, 6, none⟩ = some (.string (bs v.result)) ∧ W.cell? ⟨V, 7, none⟩ = some a ∧ W.cell? ⟨V, 8, none⟩ = some b ∧ W.cell? ⟨V, 9, none⟩ = some c ∧ W.cell? ⟨X, 8, none⟩ = some (.func (.func 83) #[] #[]) ∧ Kp [] W3 W) (first | exact HSY.out | assumption | exact HKY.out _ (by assumption)) (first | (go_at_call 83; refine Calls.mono (by with_reducible exact HEY.out _ (by assumption)) ?_; rintro e W ⟨x, rfl, hx, hb⟩; have HXX := Lib.hid hx; clear hx))
          all_goals go_wp2
          all_goals go_meet
          all_goals exact ⟨x, rfl, HXX, Lib.hid (last16 (by assumption))⟩
        · have HEY := Lib.hid (show ∀ W, (W.cell? ⟨Pb, 0, none⟩ = some (.int .i64 9) ∧ W.cell? ⟨Pb, 1, none⟩ = some (.string (bs qt)) ∧ W.cell? ⟨Pb, 2, none⟩ = some (.int .i64 (qw : Int)) ∧ W.cell? ⟨Pb, 3, none⟩ = some (.bool qm) ∧ W.cell? ⟨V, 0, none⟩ = some (.string (bs v.kernel)) ∧ W.cell? ⟨V, 1, none⟩ = some (.string (bs v.devpath)) ∧ W.cell? ⟨V, 2, none⟩ = some (.string (bs v.id)) ∧ W.cell? ⟨V, 3, none⟩ = some (.string (bs v.driver)) ∧ W.cell? ⟨V, 4, none⟩ = some (.string (bs v.parent)) ∧ W.cell? ⟨V, 5, none⟩ = some (.string (bs v.name)) ∧ W.cell? ⟨V, 6, none⟩ = some (.string (bs v.result)) ∧ W.cell? ⟨V, 7, none⟩ = some a ∧ W.cell? ⟨V, 8, none⟩ = some b ∧ W.cell? ⟨V, 9, none⟩ = some c ∧ W.cell? ⟨X, 9, none⟩ = some (.func (.func 84) #[] #[]) ∧ Kp [] W3 W) → Calls Tryz.prog 84 #[.agg #[.int .i64 9, .string (bs qt), .int .i64 (qw : Int), .bool qm], .agg #[.string (bs v.kernel), .string (bs v.devpath), .string (bs v.id), .string (bs v.driver), .string (bs v.parent), .string (bs v.name), .string (bs v.result), a, b, c]] W fun e w' => ∃ x : List UInt8, e = .returned (.string (bs x)) ∧ x.take 256 = pv.take 256 ∧ Kp [] W w' from HEX.out)
          have HKY := Lib.hid (show ∀ W, Kp [] W3.drew W → (W.cell? ⟨Pb, 0, none⟩ = some (.int .i64 9) ∧ W.cell? ⟨Pb, 1, none⟩ = some (.string (bs qt)) ∧ W.cell? ⟨Pb, 2, none⟩ = some (.int .i64 (qw : Int)) ∧ W.cell? ⟨Pb, 3, none⟩ = some (.bool qm) ∧ W.cell? ⟨V, 0, none⟩ = some (.string (bs v.kernel)) ∧ W.cell? ⟨V, 1, none⟩ = some (.string (bs v.devpath)) ∧ W.cell? ⟨V, 2, none⟩ = some (.string (bs v.id)) ∧ W.cell? ⟨V, 3, none⟩ = some (.string (bs v.driver)) ∧ W.cell? ⟨V, 4, none⟩ = some (.string (bs v.parent)) ∧ W.cell? ⟨V, 5, none⟩ = some (.string (bs v.name)) ∧ W.cell? ⟨V, 6, none⟩ = some (.string (bs v.result)) ∧ W.cell? ⟨V, 7, none⟩ = some a ∧ W.cell? ⟨V, 8, none⟩ = some b ∧ W.cell? ⟨V, 9, none⟩ = some c ∧ W.cell? ⟨X, 9, none⟩ = some (.func (.func 84) #[] #[]) ∧ Kp [] W3 W) from HKS.out)
          have HSY := Lib.hid (show (fun W : World => W.cell? ⟨Pb, 0, none⟩ = some (.int .i64 9) ∧ W.cell? ⟨Pb, 1, none⟩ = some (.string (bs qt)) ∧ W.cell? ⟨Pb, 2, none⟩ = some (.int .i64 (qw : Int)) ∧ W.cell? ⟨Pb, 3, none⟩ = some (.bool qm) ∧ W.cell? ⟨V, 0, none⟩ = some (.string (bs v.kernel)) ∧ W.cell? ⟨V, 1, none⟩ = some (.string (bs v.devpath)) ∧ W.cell? ⟨V, 2, none⟩ = some (.string (bs v.id)) ∧ W.cell? ⟨V, 3, none⟩ = some (.string (bs v.driver)) ∧ W.cell? ⟨V, 4, none⟩ = some (.string (bs v.parent)) ∧ W.cell? ⟨V, 5, none⟩ = some (.string (bs v.name)) ∧ W.cell? ⟨V, 6, none⟩ = some (.string (bs v.result)) ∧ W.cell? ⟨V, 7, none⟩ = some a ∧ W.cell? ⟨V, 8, none⟩ = some b ∧ W.cell? ⟨V, 9, none⟩ = some c ∧ W.cell? ⟨X, 9, none⟩ = some (.func (.func 84) #[] #[]) ∧ Kp [] W3 W) W3.drew from HST.out)
          clear HKS HST HEX
          go_region_held3 (fun W => W.cell? ⟨Pb, 0, none⟩ = some (.int .i64 9) ∧ W.cell? ⟨Pb, 1, none⟩ = some (.string (bs qt)) ∧ W.cell? ⟨Pb, 2, none⟩ = some (.int .i64 (qw : Int)) ∧ W.cell? ⟨Pb, 3, none⟩ = some (.bool qm) ∧ W.cell? ⟨V, 0, none⟩ = some (.string (bs v.kernel)) ∧ W.cell? ⟨V, 1, none⟩ = some (.string (bs v.devpath)) ∧ W.cell? ⟨V, 2, none⟩ = some (.string (bs v.id)) ∧ W.cell? ⟨V, 3, none⟩ = some (.string (bs v.driver)) ∧ W.cell? ⟨V, 4, none⟩ = some (.string (bs v.parent)) ∧ W.cell? ⟨V, 5, none⟩ = some (.string (bs v.name)) ∧ W.cell? ⟨V, 6, none⟩ = some (.string (bs v.result)) ∧ W.cell? ⟨V, 7, none⟩ = some a ∧ W.cell? ⟨V, 8, none⟩ = some b ∧ W.cell? ⟨V, 9, none⟩ = some c ∧ W.cell? ⟨X, 9, none⟩ = some (.func (.func 84) #[] #[]) ∧ Kp [] W3 W) (first | exact HSY.out | assumption | exact HKY.out _ (by assumption)) (first | (go_at_call 84; refine Calls.mono (by with_reducible exact HEY.out _ (by assumption)) ?_; rintro e W ⟨x, rfl, hx, hb⟩; have HXX := Lib.hid hx; clear hx))
          all_goals go_wp2
          all_goals go_meet
          all_goals exact ⟨x, rfl, HXX, Lib.hid (last16 (by assumption))⟩
        · have HEY := Lib.hid (show ∀ W, (W.cell? ⟨Pb, 0, none⟩ = some (.int .i64 10) ∧ W.cell? ⟨Pb, 1, none⟩ = some (.string (bs qt)) ∧ W.cell? ⟨Pb, 2, none⟩ = some (.int .i64 (qw : Int)) ∧ W.cell? ⟨Pb, 3, none⟩ = some (.bool qm) ∧ W.cell? ⟨V, 0, none⟩ = some (.string (bs v.kernel)) ∧ W.cell? ⟨V, 1, none⟩ = some (.string (bs v.devpath)) ∧ W.cell? ⟨V, 2, none⟩ = some (.string (bs v.id)) ∧ W.cell? ⟨V, 3, none⟩ = some (.string (bs v.driver)) ∧ W.cell? ⟨V, 4, none⟩ = some (.string (bs v.parent)) ∧ W.cell? ⟨V, 5, none⟩ = some (.string (bs v.name)) ∧ W.cell? ⟨V, 6, none⟩ = some (.string (bs v.result)) ∧ W.cell? ⟨V, 7, none⟩ = some a ∧ W.cell? ⟨V, 8, none⟩ = some b ∧ W.cell? ⟨V, 9, none⟩ = some c ∧ W.cell? ⟨X, 10, none⟩ = some (.func (.func 85) #[] #[]) ∧ Kp [] W3 W) → Calls Tryz.prog 85 #[.agg #[.int .i64 10, .string (bs qt), .int .i64 (qw : Int), .bool qm], .agg #[.string (bs v.kernel), .string (bs v.devpath), .string (bs v.id), .string (bs v.driver), .string (bs v.parent), .string (bs v.name), .string (bs v.result), a, b, c]] W fun e w' => ∃ x : List UInt8, e = .returned (.string (bs x)) ∧ x.take 256 = pv.take 256 ∧ Kp [] W w' from HEX.out)
          have HKY := Lib.hid (show ∀ W, Kp [] W3.drew W → (W.cell? ⟨Pb, 0, none⟩ = some (.int .i64 10) ∧ W.cell? ⟨Pb, 1, none⟩ = some (.string (bs qt)) ∧ W.cell? ⟨Pb, 2, none⟩ = some (.int .i64 (qw : Int)) ∧ W.cell? ⟨Pb, 3, none⟩ = some (.bool qm) ∧ W.cell? ⟨V, 0, none⟩ = some (.string (bs v.kernel)) ∧ W.cell? ⟨V, 1, none⟩ = some (.string (bs v.devpath)) ∧ W.cell? ⟨V, 2, none⟩ = some (.string (bs v.id)) ∧ W.cell? ⟨V, 3, none⟩ = some (.string (bs v.driver)) ∧ W.cell? ⟨V, 4, none⟩ = some (.string (bs v.parent)) ∧ W.cell? ⟨V, 5, none⟩ = some (.string (bs v.name)) ∧ W.cell? ⟨V, 6, none⟩ = some (.string (bs v.result)) ∧ W.cell? ⟨V, 7, none⟩ = some a ∧ W.cell? ⟨V, 8, none⟩ = some b ∧ W.cell? ⟨V, 9, none⟩ = some c ∧ W.cell? ⟨X, 10, none⟩ = some (.func (.func 85) #[] #[]) ∧ Kp [] W3 W) from HKS.out)
          have HSY := Lib.hid (show (fun W : World => W.cell? ⟨Pb, 0, none⟩ = some (.int .i64 10) ∧ W.cell? ⟨Pb, 1, none⟩ = some (.string (bs qt)) ∧ W.cell? ⟨Pb, 2, none⟩ = some (.int .i64 (qw : Int)) ∧ W.cell? ⟨Pb, 3, none⟩ = some (.bool qm) ∧ W.cell? ⟨V, 0, none⟩ = some (.string (bs v.kernel)) ∧ W.cell? ⟨V, 1, none⟩ = some (.string (bs v.devpath)) ∧ W.cell? ⟨V, 2, none⟩ = some (.string (bs v.id)) ∧ W.cell? ⟨V, 3, none⟩ = some (.string (bs v.driver)) ∧ W.cell? ⟨V, 4, none⟩ = some (.string (bs v.parent)) ∧ W.cell? ⟨V, 5, none⟩ = some (.string (bs v.name)) ∧ W.cell? ⟨V, 6, none⟩ = some (.string (bs v.result)) ∧ W.cell? ⟨V, 7, none⟩ = some a ∧ W.cell? ⟨V, 8, none⟩ = some b ∧ W.cell? ⟨V, 9, none⟩ = some c ∧ W.cell? ⟨X, 10, none⟩ = some (.func (.func 85) #[] #[]) ∧ Kp [] W3 W) W3.drew from HST.out)
          clear HKS HST HEX
          go_region_held3 (fun W => W.cell? ⟨Pb, 0, none⟩ = some (.int .i64 10) ∧ W.cell? ⟨Pb, 1, none⟩ = some (.string (bs qt)) ∧ W.cell? ⟨Pb, 2, none⟩ = some (.int .i64 (qw : Int)) ∧ W.cell? ⟨Pb, 3, none⟩ = some (.bool qm) ∧ W.cell? ⟨V, 0, none⟩ = some (.string (bs v.kernel)) ∧ W.cell? ⟨V, 1, none⟩ = some (.string (bs v.devpath)) ∧ W.cell? ⟨V, 2, none⟩ = some (.string (bs v.id)) ∧ W.cell? ⟨V, 3, none⟩ = some (.string (bs v.driver)) ∧ W.cell? ⟨V, 4, none⟩ = some (.string (bs v.parent)) ∧ W.cell? ⟨V, 5, none⟩ = some (.string (bs v.name)) ∧ W.cell? ⟨V, 6, none⟩ = some (.string (bs v.result)) ∧ W.cell? ⟨V, 7, none⟩ = some a ∧ W.cell? ⟨V, 8, none⟩ = some b ∧ W.cell? ⟨V, 9, none⟩ = some c ∧ W.cell? ⟨X, 10, none⟩ = some (.func (.func 85) #[] #[]) ∧ Kp [] W3 W) (first | exact HSY.out | assumption | exact HKY.out _ (by assumption)) (first | (go_at_call 85; refine Calls.mono (by with_reducible exact HEY.out _ (by assumption)) ?_; rintro e W ⟨x, rfl, hx, hb⟩; have HXX := Lib.hid hx; clear hx))
          all_goals go_wp2
          all_goals go_meet
          all_goals exact ⟨x, rfl, HXX, Lib.hid (last16 (by assumption))⟩
        · have HEY := Lib.hid (show ∀ W, (W.cell? ⟨Pb, 0, none⟩ = some (.int .i64 11) ∧ W.cell? ⟨Pb, 1, none⟩ = some (.string (bs qt)) ∧ W.cell? ⟨Pb, 2, none⟩ = some (.int .i64 (qw : Int)) ∧ W.cell? ⟨Pb, 3, none⟩ = some (.bool qm) ∧ W.cell? ⟨V, 0, none⟩ = some (.string (bs v.kernel)) ∧ W.cell? ⟨V, 1, none⟩ = some (.string (bs v.devpath)) ∧ W.cell? ⟨V, 2, none⟩ = some (.string (bs v.id)) ∧ W.cell? ⟨V, 3, none⟩ = some (.string (bs v.driver)) ∧ W.cell? ⟨V, 4, none⟩ = some (.string (bs v.parent)) ∧ W.cell? ⟨V, 5, none⟩ = some (.string (bs v.name)) ∧ W.cell? ⟨V, 6, none⟩ = some (.string (bs v.result)) ∧ W.cell? ⟨V, 7, none⟩ = some a ∧ W.cell? ⟨V, 8, none⟩ = some b ∧ W.cell? ⟨V, 9, none⟩ = some c ∧ W.cell? ⟨X, 11, none⟩ = some (.func (.func 86) #[] #[]) ∧ Kp [] W3 W) → Calls Tryz.prog 86 #[.agg #[.int .i64 11, .string (bs qt), .int .i64 (qw : Int), .bool qm], .agg #[.string (bs v.kernel), .string (bs v.devpath), .string (bs v.id), .string (bs v.driver), .string (bs v.parent), .string (bs v.name), .string (bs v.result), a, b, c]] W fun e w' => ∃ x : List UInt8, e = .returned (.string (bs x)) ∧ x.take 256 = pv.take 256 ∧ Kp [] W w' from HEX.out)
          have HKY := Lib.hid (show ∀ W, Kp [] W3.drew W → (W.cell? ⟨Pb, 0, none⟩ = some (.int .i64 11) ∧ W.cell? ⟨Pb, 1, none⟩ = some (.string (bs qt)) ∧ W.cell? ⟨Pb, 2, none⟩ = some (.int .i64 (qw : Int)) ∧ W.cell? ⟨Pb, 3, none⟩ = some (.bool qm) ∧ W.cell? ⟨V, 0, none⟩ = some (.string (bs v.kernel)) ∧ W.cell? ⟨V, 1, none⟩ = some (.string (bs v.devpath)) ∧ W.cell? ⟨V, 2, none⟩ = some (.string (bs v.id)) ∧ W.cell? ⟨V, 3, none⟩ = some (.string (bs v.driver)) ∧ W.cell? ⟨V, 4, none⟩ = some (.string (bs v.parent)) ∧ W.cell? ⟨V, 5, none⟩ = some (.string (bs v.name)) ∧ W.cell? ⟨V, 6, none⟩ = some (.string (bs v.result)) ∧ W.cell? ⟨V, 7, none⟩ = some a ∧ W.cell? ⟨V, 8, none⟩ = some b ∧ W.cell? ⟨V, 9, none⟩ = some c ∧ W.cell? ⟨X, 11, none⟩ = some (.func (.func 86) #[] #[]) ∧ Kp [] W3 W) from HKS.out)
          have HSY := Lib.hid (show (fun W : World => W.cell? ⟨Pb, 0, none⟩ = some (.int .i64 11) ∧ W.cell? ⟨Pb, 1, none⟩ = some (.string (bs qt)) ∧ W.cell? ⟨Pb, 2, none⟩ = some (.int .i64 (qw : Int)) ∧ W.cell? ⟨Pb, 3, none⟩ = some (.bool qm) ∧ W.cell? ⟨V, 0, none⟩ = some (.string (bs v.kernel)) ∧ W.cell? ⟨V, 1, none⟩ = some (.string (bs v.devpath)) ∧ W.cell? ⟨V, 2, none⟩ = some (.string (bs v.id)) ∧ W.cell? ⟨V, 3, none⟩ = some (.string (bs v.driver)) ∧ W.cell? ⟨V, 4, none⟩ = some (.string (bs v.parent)) ∧ W.cell? ⟨V, 5, none⟩ = some (.string (bs v.name)) ∧ W.cell? ⟨V, 6, none⟩ = some (.string (bs v.result)) ∧ W.cell? ⟨V, 7, none⟩ = some a ∧ W.cell? ⟨V, 8, none⟩ = some b ∧ W.cell? ⟨V, 9, none⟩ = some c ∧ W.cell? ⟨X, 11, none⟩ = some (.func (.func 86) #[] #[]) ∧ Kp [] W3 W) W3.drew from HST.out)
          clear HKS HST HEX
          go_region_held3 (fun W => W.cell? ⟨Pb, 0, none⟩ = some (.int .i64 11) ∧ W.cell? ⟨Pb, 1, none⟩ = some (.string (bs qt)) ∧ W.cell? ⟨Pb, 2, none⟩ = some (.int .i64 (qw : Int)) ∧ W.cell? ⟨Pb, 3, none⟩ = some (.bool qm) ∧ W.cell? ⟨V, 0, none⟩ = some (.string (bs v.kernel)) ∧ W.cell? ⟨V, 1, none⟩ = some (.string (bs v.devpath)) ∧ W.cell? ⟨V, 2, none⟩ = some (.string (bs v.id)) ∧ W.cell? ⟨V, 3, none⟩ = some (.string (bs v.driver)) ∧ W.cell? ⟨V, 4, none⟩ = some (.string (bs v.parent)) ∧ W.cell? ⟨V, 5, none⟩ = some (.string (bs v.name)) ∧ W.cell? ⟨V, 6, none⟩ = some (.string (bs v.result)) ∧ W.cell? ⟨V, 7, none⟩ = some a ∧ W.cell? ⟨V, 8, none⟩ = some b ∧ W.cell? ⟨V, 9, none⟩ = some c ∧ W.cell? ⟨X, 11, none⟩ = some (.func (.func 86) #[] #[]) ∧ Kp [] W3 W) (first | exact HSY.out | assumption | exact HKY.out _ (by assumption)) (first | (go_at_call 86; refine Calls.mono (by with_reducible exact HEY.out _ (by assumption)) ?_; rintro e W ⟨x, rfl, hx, hb⟩; have HXX := Lib.hid hx; clear hx))
          all_goals go_wp2
          all_goals go_meet
          all_goals exact ⟨x, rfl, HXX, Lib.hid (last16 (by assumption))⟩
      case rest =>
        obtain ⟨x, rfl, hx, hkc⟩ := hcut
        have hO4 := HO3.out.kp0 hkc.out
        obtain ⟨ta, tc, rfl⟩ := hO4.form
        have HO4 := Lib.hid hO4
        obtain ⟨m, hm⟩ : ∃ m, min x.length (256 - tx.length) = m := ⟨_, rfl⟩
        have hmi : min (x.length : Int) (256 - (tx.length : Int)) = (m : Int) := by omega
        have hwm : IntKind.i64.wrap (256 - (tx.length : Int)) = 256 - (tx.length : Int) := by rw [IntKind.wrap_i64]; omega
        have hsx : (bs x).size = x.length := rfl
        have hex : (bs x).extract 0 m = bs (x.take m) := bs_take x m
        have hml : (m : Int) ≤ (x.length : Int) := by omega
        have hml2 : m ≤ (bs x).size := by omega
        have hnx := HNX.out x hx.out
        have hxm : x.take (256 - tx.length) = x.take m := by
          rw [← hm]
          rcases Nat.le_total x.length (256 - tx.length) with h | h
          · rw [Nat.min_eq_left h, List.take_of_length_le h, List.take_of_length_le (Nat.le_refl _)]
          · rw [Nat.min_eq_right h]
        rw [hxm] at hnx
        have hyl : (x.take m).length = m := by rw [List.length_take]; omega
        have HNY := Lib.hid hnx
        have HKC := Lib.hid (HK3.out.trans hkc.out)
        have HBL := Lib.hid (show B ≤ wc.heap.size by have h1 := HBB.out; have h2 := HKC.out.size; omega)
        have HYL := Lib.hid hyl
        generalize x.take m = y at *
        have hkv := fun w5 (hgr : wc.grownBy w5 (Value.slice ta tx.length tc).ownBlock) => kp_grownV HKC.out hgr fun b hb => by have h1 := (HO4.out.ge b hb).1; have h2 := HBB.out; omega
        have HKV := Lib.hid hkv
        clear hkv
        have hle256 : tx.length + y.length ≤ 256 := by
          have := congrArg List.length hnx
          rw [List.length_take, List.length_append] at this
          omega
        by_cases h256 : tx.length + y.length = 256
        · have hb256 : ((tx.length : Int) + (y.length : Int) == 256) = true := by rw [beq_iff_eq]; omega
          have hfin : expandL v l = tx ++ y := by
            unfold expandL
            rw [← List.take_append_drop (i + 1) l, List.flatMap_append, take_full (by rw [hnx, List.length_append]; exact h256), hnx]
          have HFI := Lib.hid hfin
          clear hnx hxm hx hm hkc hO4 hyl hfin HNX HKS HST HEX
          go_wp2_with (first
            | (at_builtin; refine wpList_append_by rfl (.tmp 35) (.tmp 43) rfl B (.slice ta tx.length tc) tx y rfl HO4.out rfl ?hlen HBL.out ?_; (case hlen => have := HYL.out; omega); intro q cp w5 hown hgr; have HO5 := Lib.hid hown; have HGR := Lib.hid hgr; rw [h256] at hown; have hcv := by_conv hown; clear hown hgr))
          go_ret2
          rw [HFI.out]
          exact ⟨rfl, HK2.out.trans (HKV.out _ HGR.out)⟩
        · have hb256 : ((tx.length : Int) + (y.length : Int) == 256) = false := by rw [beq_eq_false_iff_ne]; omega
          have HTN := Lib.hid (show tx ++ y = ((l.take (i + 1)).flatMap (pieceL v)).take 256 from hnx.symm)
          clear hnx hxm hx hm hkc hO4 hyl HNX HKS HST HEX
          go_wp2_with (first
            | (at_builtin; refine wpList_append_by rfl (.tmp 35) (.tmp 43) rfl B (.slice ta tx.length tc) tx y rfl HO4.out rfl ?hlen HBL.out ?_; (case hlen => have := HYL.out; omega); intro q cp w5 hown hgr; have HO5 := Lib.hid hown; have HGR := Lib.hid hgr; clear hown hgr))
          go_roundg gk
          case measure => omega
          case rel => exact ⟨i + 1, tx ++ y, by go_num, by omega, HO5.out, HTN, by rw [List.length_append]; omega, Lib.hid (HKV.out _ HGR.out)⟩
end Go.Proofs.YtfpkppgecmbglaaGreatDoor
