/- How a piece is written. -/
import Derived.Test.YtfpkppgecmbglaaGreatDoorX
import Derived.Test.YtfpkppgecmbglaaGreatDoorLPlain
namespace Go.Proofs.YtfpkppgecmbglaaGreatDoor
open Go.RowKit

/-- What is written for a piece; small: a letter follows. -/
def wrG (p : Pc) (small : Bool) : List UInt8 := if p.kind = 1 then escL p.text else if tailOf p = [] ∧ small = true then [37, letterOf p.kind] else 36 :: (wordOf p.kind ++ tailOf p)
def longS (k : Nat) : List UInt8 := if k = 1 then [] else 36 :: wordOf k
def shortS (k : Nat) : List UInt8 := if k = 1 ∨ k = 11 then [] else [37, letterOf k]
theorem heap_alloc_last' (w : World) (o : Obj) (k : Nat) (h : w.heap.size = k) : (w.alloc o).heap[k]? = some o := by subst h; exact heap_alloc_last w o
theorem idx_long (k : Nat) (h1 : 1 ≤ k) (h2 : k ≤ 11) (W : World) : (Instr.index 106 (.agg spA) (.int .i64 (k : Int))).run Tryz.prog W = .ok (.agg #[.string (bs (longS k)), .string (bs (shortS k))]) W := by
  obtain ⟨a, b, h, hr⟩ := idx_sp k (by omega) W
  have hs : spL[k]? = some (longS k, shortS k) := by
    have hc : k = 1 ∨ k = 2 ∨ k = 3 ∨ k = 4 ∨ k = 5 ∨ k = 6 ∨ k = 7 ∨ k = 8 ∨ k = 9 ∨ k = 10 ∨ k = 11 := by omega
    rcases hc with rfl | rfl | rfl | rfl | rfl | rfl | rfl | rfl | rfl | rfl | rfl <;> rfl
  rw [hs] at h
  obtain ⟨rfl, rfl⟩ := Prod.mk.inj (Option.some.inj h)
  exact hr
set_option maxHeartbeats 4000000 in
set_option maxRecDepth 100000 in
theorem written_any (k : Nat) (t : List UInt8) (n : Nat) (m small : Bool) (w : World) (hE : Env w) (hk1 : 1 ≤ k) (hk2 : k ≤ 11) (hl : t.length ≤ 100000000) (hn : n ≤ 99) :
    Calls Tryz.prog 39 #[.agg (gpC ⟨(k : Int), t, (n : Int), m⟩), .bool small] w fun e w' => e = .returned (.string (bs (if k = 1 then escL t else if k = 7 ∨ k = 8 then longS k ++ 123 :: (t ++ [125]) else if m = true then longS k ++ 123 :: (Lib.itoa n ++ [43, 125]) else if 0 < n then longS k ++ 123 :: (Lib.itoa n ++ [125]) else if small = true then shortS k else longS k))) ∧ Kp [] w w' := by
  obtain ⟨res, hres⟩ : ∃ res, (if k = 1 then escL t else if k = 7 ∨ k = 8 then longS k ++ 123 :: (t ++ [125]) else if m = true then longS k ++ 123 :: (Lib.itoa n ++ [43, 125]) else if 0 < n then longS k ++ 123 :: (Lib.itoa n ++ [125]) else if small = true then shortS k else longS k) = res := ⟨_, rfl⟩
  rw [hres]
  obtain ⟨P, hP⟩ : ∃ P, w.heap.size = P := ⟨_, rfl⟩
  obtain ⟨W1, hW1⟩ : ∃ W1, w.alloc (.cells #[.int .i64 (k : Int), .string (bs t), .int .i64 (n : Int), .bool m] 61) = W1 := ⟨_, rfl⟩
  have hA1 : PAt W1 P ⟨(k : Int), t, (n : Int), m⟩ := by rw [← hW1, ← hP]; exact heap_alloc_last w _
  have hk1w : Kp [] w W1 := by rw [← hW1]; exact (Kp.refl [] w).alloc _
  have HE1 := Lib.hid (fun W (hw : Kp [] W1 W) => (hE.kp0 hk1w).kp0 hw)
  have HK := Lib.hid hk1w
  have HA := Lib.hid hA1
  have HSP := Lib.hid fun W => spellings_any W
  obtain ⟨d0, d1, d2, d3⟩ := hA1.cells
  simp only at d0 d1 d2 d3
  have HP := Lib.hid hP
  have HW := Lib.hid hW1
  unfold gpC
  simp only
  clear hE hP hW1 hk1w hA1
  have Hres := Lib.hid hres
  clear hres
  go_enter Tryz.func39, Tryz.ntmps39
  go_upto_region 1 with fail
  rw [HP.out, HW.out]
  clear HP HW
  go_cut [5] (fun s5 wx => ∃ K : Nat, s5 = .pointer (some ⟨K, 0, none⟩) ∧ Hid (wx.heap[K]? = some (.cells #[.string (bs (longS k)), .string (bs (shortS k))] 105 (0, 0))) ∧ Hid (Kp [] W1 wx))
  case first =>
    have hix := idx_long k hk1 hk2
    have hz : ∀ W, Kp [] W1 W → W.cell? ⟨P, 0, none⟩ = some (.int .i64 (k : Int)) := fun W hw => (HA.out.kp hw (by simp)).cells.1
    have ya : (W1.alloc (.cells spA 106)).drew.cell? ⟨P, 0, none⟩ = some (.int .i64 (k : Int)) := hz _ (((Kp.refl [] W1).alloc _).drew 1)
    have yb : ((W1.alloc (.cells spA 106)).alloc (.cells #[.string ⟨#[]⟩, .string ⟨#[]⟩] 105)).drew.cell? ⟨P, 0, none⟩ = some (.int .i64 (k : Int)) := hz _ ((((Kp.refl [] W1).alloc _).alloc _).drew 1)
    have yc : (W1.alloc (.cells #[.string ⟨#[]⟩, .string ⟨#[]⟩] 105)).drew.cell? ⟨P, 0, none⟩ = some (.int .i64 (k : Int)) := hz _ (((Kp.refl [] W1).alloc _).drew 1)
    have yd : ((W1.alloc (.cells #[.string ⟨#[]⟩, .string ⟨#[]⟩] 105)).alloc (.cells spA 106)).drew.cell? ⟨P, 0, none⟩ = some (.int .i64 (k : Int)) := hz _ ((((Kp.refl [] W1).alloc _).alloc _).drew 1)
    clear hz
    go_region_with (go_at_call 70; refine Calls.mono (by with_reducible exact HSP.out _) ?_; rintro e w1 ⟨rfl, rfl⟩)
    all_goals go_wp2
    all_goals go_meet
    all_goals refine ⟨_, rfl, Lib.hid ?_, Lib.hid ((((Kp.refl [] W1).alloc _).alloc _).drew 1)⟩
    all_goals first
      | exact (show ((W1.alloc (.cells spA 106)).alloc (.cells #[.string (bs (longS k)), .string (bs (shortS k))] 105)).heap[W1.heap.size + 1]? = _ from heap_alloc_last' _ _ _ (World.size_alloc _ _))
      | exact (show ((W1.alloc (.cells #[.string (bs (longS k)), .string (bs (shortS k))] 105)).alloc (.cells spA 106)).heap[W1.heap.size]? = _ from heap_alloc2_old W1 _ _)
  case rest =>
    obtain ⟨K, rfl, hK, hkc⟩ := hcut
    have hAc := HA.out.kp hkc.out (by simp)
    obtain ⟨x0, x1, x2, x3⟩ := hAc.cells
    simp only at x0 x1 x2 x3
    have k0 : wc.cell? ⟨K, 0, none⟩ = some (.string (bs (longS k))) := by rw [cell_of_row _ _ _ _ _ _ hK.out]; rfl
    have k1 : wc.cell? ⟨K, 1, none⟩ = some (.string (bs (shortS k))) := by rw [cell_of_row _ _ _ _ _ _ hK.out]; rfl
    have HKC := Lib.hid (HK.out.trans hkc.out)
    have HEC := Lib.hid (fun W (hw : Kp [] wc W) => HE1.out W (hkc.out.trans hw))
    have hls : (bs (longS k)).size ≤ 10 := by
      have hc : k = 1 ∨ k = 2 ∨ k = 3 ∨ k = 4 ∨ k = 5 ∨ k = 6 ∨ k = 7 ∨ k = 8 ∨ k = 9 ∨ k = 10 ∨ k = 11 := by omega
      rcases hc with rfl | rfl | rfl | rfl | rfl | rfl | rfl | rfl | rfl | rfl | rfl <;> decide
    have hts : (bs t).size ≤ 100000000 := hl
    clear hAc hK hkc d0 d1 d2 d3 HA HK HE1 HSP
    have hr := Hres.out
    clear Hres
    by_cases h1 : k = 1
    · subst h1
      rw [if_pos rfl] at hr
      subst hr
      have HR1 := Lib.hid (show ∀ W, Kp [] wc W → _ from fun W hw => repl_any t 36 W (by omega) (HEC.out W hw))
      have HR2 := Lib.hid (show ∀ W, Kp [] wc W → _ from fun W hw => repl_any (dblL 36 t) 37 W (by have := (dbl_len 36 t).1; omega) (HEC.out W hw))
      rw [dbl_esc] at HR2
      go_wp2_with fail
      refine Calls.mono (by with_reducible exact HR1.out _ (Kp.refl [] _)) ?_
      rintro e w2 ⟨rfl, hk2'⟩
      go_wp2_with fail
      refine Calls.mono (by with_reducible exact HR2.out _ hk2') ?_
      rintro e w3 ⟨rfl, hk3⟩
      go_wp2
      go_ret
      exact ⟨rfl, HKC.out.trans (hk2'.trans hk3)⟩
    rw [if_neg h1] at hr
    have h1' : ((k : Int) == 1) = false := by simpa using (fun e : (k : Int) = 1 => h1 (by omega))
    by_cases h78 : k = 7 ∨ k = 8
    · rw [if_pos h78] at hr
      have hcat : bs (longS k) ++ ⟨#[123]⟩ ++ bs t ++ ⟨#[125]⟩ = bs res := by rw [← hr]; show bs (longS k) ++ bs [123] ++ bs t ++ bs [125] = _; rw [bs_app, bs_app, bs_app]; simp
      have HCAT := Lib.hid hcat
      clear hcat hr
      rcases h78 with rfl | rfl
      · go_wp2
        rw [HCAT.out]
        go_ret
        exact ⟨rfl, HKC.out⟩
      · go_wp2
        rw [HCAT.out]
        go_ret
        exact ⟨rfl, HKC.out⟩
    rw [if_neg h78] at hr
    have h7' : ((k : Int) == 7) = false := by simpa using (fun e : (k : Int) = 7 => h78 (by omega))
    have h8' : ((k : Int) == 8) = false := by simpa using (fun e : (k : Int) = 8 => h78 (by omega))
    have hq : (Lib.itoa (n : Int)).length ≤ 2 := by
      have := List.all_eq_true.1 (show ((List.range 100).all fun n => decide ((Lib.itoa (n : Int)).length ≤ 2)) = true by decide +kernel) n (List.mem_range.2 (by omega))
      simpa using this
    have HIT := Lib.hid (fun W (hw : Kp [] wc W) => itoa_any (HEC.out W hw) (n : Int) (by omega) (by omega))
    have HZ := Lib.hid (show ∀ W, Kp [] wc W → W.cell? ⟨K, 0, none⟩ = some (.string (bs (longS k))) from fun W hw => by
      have hb : K < wc.heap.size := World.block_lt_of_cell? _ _ k0
      simp only [World.cell?, hw.block K hb (by simp)] at k0 ⊢
      exact k0)
    generalize Lib.itoa (n : Int) = q at *
    have hqs : (bs q).size ≤ 2 := hq
    have HID := Lib.hid (show Calls Tryz.prog 71 #[.int .i64 (n : Int)] wc.drew (fun e w' => e = .returned (.string (bs q)) ∧ Kp [] wc.drew w') from HIT.out _ ((Kp.refl [] wc).drew 1))
    clear hq
    cases m with
    | true =>
      rw [if_pos rfl] at hr
      have hcat : bs (longS k) ++ ⟨#[123]⟩ ++ bs q ++ ⟨#[43, 125]⟩ = bs res := by rw [← hr]; show bs (longS k) ++ bs [123] ++ bs q ++ bs [43, 125] = _; rw [bs_app, bs_app, bs_app]; simp
      have HCAT := Lib.hid hcat
      clear hcat hr
      go_upto_region 8 with fail
      go_region_with (go_at_call 71; refine Calls.mono (by with_reducible exact HID.out) ?_; rintro e w1 ⟨rfl, hk1⟩; have z0 := HZ.out _ (((Kp.refl [] wc).drew 1).trans hk1); have HK1 := Lib.hid (((Kp.refl [] wc).drew 1).trans hk1); clear hk1)
      all_goals go_wp2
      all_goals rw [HCAT.out]
      all_goals go_ret
      all_goals exact ⟨rfl, HKC.out.trans HK1.out⟩
    | false =>
      rw [if_neg (by simp)] at hr
      by_cases hn0 : 0 < n
      · rw [if_pos hn0] at hr
        have hn1 : (0 : Int) < (n : Int) := by omega
        have hcat : bs (longS k) ++ ⟨#[123]⟩ ++ bs q ++ ⟨#[125]⟩ = bs res := by rw [← hr]; show bs (longS k) ++ bs [123] ++ bs q ++ bs [125] = _; rw [bs_app, bs_app, bs_app]; simp
        have HCAT := Lib.hid hcat
        clear hcat hr
        go_upto_region 10 with fail
        go_region_with (go_at_call 71; refine Calls.mono (by with_reducible exact HID.out) ?_; rintro e w1 ⟨rfl, hk1⟩; have z0 := HZ.out _ (((Kp.refl [] wc).drew 1).trans hk1); have HK1 := Lib.hid (((Kp.refl [] wc).drew 1).trans hk1); clear hk1)
        all_goals go_wp2
        all_goals rw [HCAT.out]
        all_goals go_ret
        all_goals exact ⟨rfl, HKC.out.trans HK1.out⟩
      · rw [if_neg hn0] at hr
        have hn1 : ¬ (0 : Int) < (n : Int) := by omega
        cases small with
        | true =>
          rw [if_pos rfl] at hr
          subst hr
          go_wp2
          go_ret
          exact ⟨rfl, HKC.out⟩
        | false =>
          rw [if_neg (by simp)] at hr
          subst hr
          go_wp2
          go_ret
          exact ⟨rfl, HKC.out⟩
end Go.Proofs.YtfpkppgecmbglaaGreatDoor
