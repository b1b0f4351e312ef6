/- The walk of GrammarPriorities. -/
import Derived.Test.YtkkibibecgcbmaaGreatDoorKGq
namespace Go.Proofs.YtkkibibecgcbmaaGreatDoor
open Go.RowKit

theorem tm_one {W : World} {b : Nat} {t : Tm} (h : MAt W b t) : tmT.Has W (.slice (some ⟨b, 0, none⟩) 1 1) [t] := .inr ⟨b, 0, 1, rfl, block_lt h, fun j x hx => by
  match j, hx with
  | 0, hx =>
    cases hx
    have := h.range
    simpa using this
  | j + 1, hx => simp at hx⟩
theorem conv_one (W : World) (d : Nat) (hd : d < 256) (c : Nat) : (convert 67 9 (.slice (some ⟨W.heap.size, 0, none⟩) 1 c)).run Tryz.prog (W.alloc (.cells #[.int .u8 (d : Int)] 5)) = .ok (.string (bs [UInt8.ofNat d])) (W.alloc (.cells #[.int .u8 (d : Int)] 5)) :=
  run_convert_bytes_back _ 67 9 5 ⟨W.heap.size, 0, none⟩ c [UInt8.ofNat d] Tryz.underlying67 Tryz.underlying5 Tryz.underlying9 (fun j hj => by
    have h0 : j = 0 := by simp at hj; omega
    subst h0
    rw [add_addr, Nat.zero_add, cell_of_row _ _ _ _ _ _ (heap_alloc_last W _)]
    have : (UInt8.ofNat d).toNat = d := by simp; omega
    simp [this])
theorem MAt.put3 {w : World} {b : Nat} {x : Tm} (h : MAt w b x) (l : List UInt8) : MAt (w.setCell ⟨b, 3, none⟩ (.string (bs l))) b { x with val := l } := by
  unfold MAt at h ⊢
  simp [World.setCell, Array.getElem?_modify, h, tmC]
theorem wq (k : Nat) (h : k ≤ 1100) : wrap64 ((k : Int) / 10) = ((k / 10 : Nat) : Int) := by
  unfold wrap64
  omega
theorem digF_end (g : Nat) (ds : List UInt8) (h : ds ≠ []) : digF g 0 ds = ds := by
  cases g with
  | zero => rfl
  | succ g => rw [digF, if_neg (by simp [h])]
set_option maxRecDepth 100000 in
set_option maxHeartbeats 16000000 in
theorem grammarPriorities_list (n : Int) (s : List UInt8) (w : World) (hE : Env w) (hs : s.length ≤ 100000000) : Calls Tryz.prog 10 #[.int .i64 n, .string (bs s)] w fun e w' => e = .returned (.bool true) ∧ Kp [] w w' := by
  obtain ⟨W0, hW⟩ : ∃ W0, w.alloc (.cells #[.int .i64 22, .string ⟨#[]⟩, .int .i64 3, .string (bs s)] 31) = W0 := ⟨_, rfl⟩
  obtain ⟨B, hB⟩ : ∃ B, w.heap.size = B := ⟨_, rfl⟩
  have hk0 : Kp [] w W0 := by rw [← hW]; exact (Kp.refl [] w).alloc _
  have hb0 : MAt W0 B ⟨22, [], 3, s⟩ := by rw [← hW, ← hB]; exact MAt.new w ⟨22, [], 3, s⟩
  have HP := Lib.hid (refPrio_any (hE.kp0 hk0) s)
  have HC := Lib.hid fun W (h : Kp [] W0 W) v (hh : tmT.Has W v [⟨22, [], 3, s⟩]) => gcheck_any (hE.kp0 (hk0.trans h)) hh (by simp) (fun x hx => by simp at hx; subst hx; exact ⟨by simp, hs⟩)
  rw [check_prio] at HC
  have HK0 := Lib.hid hk0
  have HB0 := Lib.hid hb0
  obtain ⟨r, hr⟩ : ∃ r, prioOk s = r := ⟨_, rfl⟩
  rw [hr] at HP HC
  have HE := Lib.hid hE
  clear hk0 hb0 hr hE
  go_enter Tryz.func10, Tryz.ntmps10
  go_upto_region 3 with (go_at_call 32; refine Calls.mono (by with_reducible exact HP.out) ?_; rintro e w1 ⟨m, rfl, hk1⟩)
  have HK1 := Lib.hid hk1
  have hb1 := HB0.out.kp hk1 (by simp)
  obtain ⟨c0, c1, c2, c3⟩ := hb1.cells
  simp only at c0 c1 c2 c3
  replace c1 : w1.cell? ⟨B, 1, none⟩ = some (.string ⟨#[]⟩) := c1
  have HB1 := Lib.hid hb1
  obtain ⟨w2, hw2⟩ : ∃ w2, w1.alloc (.cells #[.int .i64 22, .string ⟨#[]⟩, .int .i64 3, .string (bs s)] 31) = w2 := ⟨_, rfl⟩
  obtain ⟨N1, hN1⟩ : ∃ N1, w1.heap.size = N1 := ⟨_, rfl⟩
  have hk2 : Kp [] W0 w2 := by rw [← hw2]; exact hk1.alloc _
  have hm2 : MAt w2 N1 ⟨22, [], 3, s⟩ := by rw [← hw2, ← hN1]; exact MAt.new w1 ⟨22, [], 3, s⟩
  have HC2 := Lib.hid (HC.out w2 hk2 _ (tm_one hm2))
  have HK2 := Lib.hid hk2
  have HF := Lib.hid (show ∀ W, Calls Tryz.prog 33 #[.int .i64 n, .int .i64 2201] W _ from fun (W : World) => fold_any n 2201 W (by decide) (by decide))
  have HTC := Lib.hid fun W (h : Kp [] w2 W) => HB1.out.kp (show Kp [] w1 W from (by rw [← hw2] at h; exact ((Kp.refl [] w1).alloc _).trans h)) (by simp)
  clear hk1 hb1 hk2 hm2
  have hif : (if r = true then (0 : Int) else 103) = 0 ↔ r = true := by cases r <;> decide
  cases r with
  | false =>
    simp only [Bool.false_eq_true, if_false] at HC2
    go_upto_region 8 with (first
      | (go_at_call 15; refine Calls.mono (by with_reducible exact HC2.out) ?_; rintro e w3 ⟨rfl, hk3⟩; have HK3 := Lib.hid hk3; clear hk3)
      | (go_at_call 33; refine Calls.mono (by with_reducible exact HF.out _) ?_; rintro e w4 ⟨f, hf, rfl, rfl⟩; obtain ⟨z, hz⟩ : ∃ z : Int, (f : Int) - 1100 = z := ⟨_, rfl⟩; have hwz : IntKind.i64.wrap ((f : Int) - 1100) = z := (by rw [IntKind.wrap_i64]; omega); have hwn : IntKind.i64.wrap (-z) = -z := (by rw [IntKind.wrap_i64]; omega); obtain ⟨K0, hK0⟩ : ∃ K0, z.natAbs = K0 := ⟨_, rfl⟩; have hmx : max z (-z) = (K0 : Int) := (by omega)))
    have hz1 : -1100 ≤ z := by omega
    have hz2 : z ≤ 1100 := by omega
    obtain ⟨R, hR⟩ : ∃ R, digF 5 K0 [] = R := ⟨_, rfl⟩
    have hRd : digN z = if z < 0 then 45 :: R else R := by unfold digN; rw [hK0, hR]
    clear hwz hwn hmx hf hz c0 c1 c2 c3 hif
    go_loopg [8, 9] 5 (fun g s8 s9 wx => ∃ (ds : List UInt8) (k : Nat), s8 = .string (bs ds) ∧ s9 = .int .i64 (k : Int) ∧ digF g k ds = R ∧ k ≤ 1100 ∧ k < 10 ^ g ∧ (ds = [] → g = 5) ∧ ds.length + g ≤ 5 ∧ Kp [] w2 wx)
    case atStart => exact ⟨[], K0, rfl, rfl, hR, by omega, by omega, fun _ => rfl, by simp, HK3.out⟩
    case round =>
      obtain ⟨ds, k, rfl, rfl, hd, hk11, hk10, hds, hdl, hkp⟩ := hrel
      by_cases hc : 0 < k ∨ ds = []
      · obtain ⟨g, rfl⟩ : ∃ g, gk = g + 1 := by
          refine ⟨gk - 1, ?_⟩
          rcases hc with h | h
          · cases gk with
            | zero => simp at hk10; omega
            | succ g => rfl
          · have := hds h
            omega
        rw [digF, if_pos hc] at hd
        have HD := Lib.hid hd
        obtain ⟨d, hdd⟩ : ∃ d, UInt8.ofNat (48 + k % 10) = d := ⟨_, rfl⟩
        rw [hdd] at HD
        have hkc := conv_one wr (48 + k % 10) (by omega) 1
        rw [hdd, show ((48 + k % 10 : Nat) : Int) = 48 + (k : Int) % 10 by omega] at hkc
        have kc := hkc
        have ha := fun W => @Lx.run_add_str Tryz.prog W (bs [d]) (bs ds) (by rw [bs_size, bs_size]; simp only [List.length_cons, List.length_nil]; omega)
        have HWQ := Lib.hid (wq k hk11)
        have HKW := Lib.hid (hkp.alloc (.cells #[.int .u8 (48 + (k : Int) % 10)] 5))
        clear hd hkc hdd hkp hR
        by_cases hk0 : 0 < k
        · have hkz : (0 : Int) < (k : Int) := by omega
          go_wp2_with (first | (rw [kc]))
          go_roundg g
          case measure => omega
          case rel => exact ⟨d :: ds, k / 10, by rw [bs_app]; rfl, by rw [show ((k / 10 : Nat) : Int) = (k : Int) / 10 by omega], HD.out, by omega, by omega, fun h => (by cases h), by simp only [List.length_cons]; omega, HKW.out⟩
        · obtain rfl : ds = [] := by rcases hc with h | h; exact absurd h hk0; exact h
          have hkz : ¬ (0 : Int) < (k : Int) := by omega
          have hem : (bs ([] : List UInt8)).toList.isEmpty = true := by rw [toL]; rfl
          go_wp2_with (first | (rw [kc]))
          go_roundg g
          case measure => omega
          case rel => exact ⟨[d], k / 10, by rw [bs_app]; rfl, rfl, HD.out, by omega, by omega, fun h => (by cases h), by simp only [List.length_cons, List.length_nil]; omega, HKW.out⟩
      · have hk0 : k = 0 := by omega
        subst hk0
        have hdn : ds ≠ [] := fun h => hc (.inr h)
        rw [digF_end _ _ hdn] at hd
        subst hd
        have hem : (bs ds).toList.isEmpty = false := by rw [toL]; cases ds with | nil => exact absurd rfl hdn | cons a l => rfl
        have hlen : ds.length ≤ 5 := by omega
        have hb5 := (HTC.out wr hkp).put3 (digN z)
        have hfz := fun o => (HTC.out wr hkp).frz (o := o)
        obtain ⟨c0, c1, c2, c3⟩ := (HTC.out wr hkp).cells
        simp only at c0 c1 c2 c3
        replace c1 : wr.cell? ⟨B, 1, none⟩ = some (.string ⟨#[]⟩) := c1
        have hkw : Kp [] w (wr.setCell ⟨B, 3, none⟩ (.string (bs (digN z)))) := (HK0.out.trans (HK2.out.trans hkp)).setCell (.inr (by simp only; omega)) _
        obtain ⟨W5, hW5⟩ : ∃ W5, wr.setCell ⟨B, 3, none⟩ (.string (bs (digN z))) = W5 := ⟨_, rfl⟩
        rw [hW5] at hb5 hkw
        obtain ⟨e0, e1, e2, e3⟩ := hb5.cells
        simp only at e0 e1 e2 e3
        replace e1 : W5.cell? ⟨B, 1, none⟩ = some (.string ⟨#[]⟩) := e1
        obtain ⟨W6, hW6⟩ : ∃ W6, W5.alloc (.cells #[.int .i64 22, .string ⟨#[]⟩, .int .i64 3, .string (bs (digN z))] 31) = W6 := ⟨_, rfl⟩
        obtain ⟨N5, hN5⟩ : ∃ N5, W5.heap.size = N5 := ⟨_, rfl⟩
        have hk6 : Kp [] w W6 := by rw [← hW6]; exact hkw.alloc _
        have hm6 : MAt W6 N5 ⟨22, [], 3, digN z⟩ := by rw [← hW6, ← hN5]; exact MAt.new W5 ⟨22, [], 3, digN z⟩
        have hC6 := gcheck_any (HE.out.kp0 hk6) (tm_one hm6) (by simp) (fun x hx => by simp at hx; subst hx; exact ⟨by simp, by show (digN z).length ≤ _; rw [hRd]; split <;> (try simp only [List.length_cons]) <;> omega⟩)
        rw [check_prio, dig_prio z hz1 hz2] at hC6
        have HC6 := Lib.hid hC6
        have HKN := Lib.hid fun W (h : Kp [] W6 W) => known_any (HE.out.kp0 (hk6.trans h))
        have HK6 := Lib.hid hk6
        clear hC6 hk6 hm6 hkw hb5 hkp hc hk11 hk10 hds hdl hdn hR
        have ha := fun W => @Lx.run_add_str Tryz.prog W ⟨#[45]⟩ (bs ds) (by rw [bs_size, show (⟨#[45]⟩ : ByteArray).size = 1 from rfl]; omega)
        by_cases hzn : z < 0
        · rw [if_pos hzn] at hRd
          have hq : (⟨#[45]⟩ : ByteArray) ++ bs ds = bs (digN z) := by rw [hRd]; exact bs_app [45] ds
          clear hRd
          generalize bs (digN z) = q at *
          have hz3 : z ≤ 1000 := by omega
          by_cases g1 : -1000 ≤ z
          · have hC7 := HC6.out
            rw [show (decide (-1000 ≤ z) && decide (z ≤ 1000)) = true by simp; omega] at hC7
            simp only [if_true] at hC7
            have HC7 := Lib.hid hC7
            clear hC7
            go_wp2_with (first
              | (go_at_call 15; refine Calls.mono (by with_reducible exact HC7.out) ?_; rintro e w7 ⟨rfl, hk7⟩; have HK7 := Lib.hid hk7; clear hk7)
              | (go_at_call 11; refine Calls.mono (by with_reducible exact HKN.out _ HK7.out) ?_; rintro e w8 ⟨rfl, hk8⟩; have HK8 := Lib.hid (HK6.out.trans (HK7.out.trans hk8)); clear hk8))
            go_ret
            exact ⟨by first | rfl | (simp; omega), HK8.out⟩
          · have hC7 := HC6.out
            rw [show (decide (-1000 ≤ z) && decide (z ≤ 1000)) = false by simp; omega] at hC7
            simp only [Bool.false_eq_true, if_false] at hC7
            have HC7 := Lib.hid hC7
            clear hC7
            go_wp2_with (first
              | (go_at_call 15; refine Calls.mono (by with_reducible exact HC7.out) ?_; rintro e w7 ⟨rfl, hk7⟩; have HK7 := Lib.hid hk7; clear hk7)
              | (go_at_call 11; refine Calls.mono (by with_reducible exact HKN.out _ HK7.out) ?_; rintro e w8 ⟨rfl, hk8⟩; have HK8 := Lib.hid (HK6.out.trans (HK7.out.trans hk8)); clear hk8))
            go_ret
            exact ⟨by first | rfl | (simp; omega), HK8.out⟩
        · rw [if_neg hzn] at hRd
          rw [hRd] at hW5 hW6 e3
          clear hRd
          generalize bs ds = q at *
          have hz3 : -1000 ≤ z := by omega
          by_cases g1 : z ≤ 1000
          · have hC7 := HC6.out
            rw [show (decide (-1000 ≤ z) && decide (z ≤ 1000)) = true by simp; omega] at hC7
            simp only [if_true] at hC7
            have HC7 := Lib.hid hC7
            clear hC7
            go_wp2_with (first
              | (go_at_call 15; refine Calls.mono (by with_reducible exact HC7.out) ?_; rintro e w7 ⟨rfl, hk7⟩; have HK7 := Lib.hid hk7; clear hk7)
              | (go_at_call 11; refine Calls.mono (by with_reducible exact HKN.out _ HK7.out) ?_; rintro e w8 ⟨rfl, hk8⟩; have HK8 := Lib.hid (HK6.out.trans (HK7.out.trans hk8)); clear hk8))
            go_ret
            exact ⟨by first | rfl | (simp; omega), HK8.out⟩
          · have hC7 := HC6.out
            rw [show (decide (-1000 ≤ z) && decide (z ≤ 1000)) = false by simp; omega] at hC7
            simp only [Bool.false_eq_true, if_false] at hC7
            have HC7 := Lib.hid hC7
            clear hC7
            go_wp2_with (first
              | (go_at_call 15; refine Calls.mono (by with_reducible exact HC7.out) ?_; rintro e w7 ⟨rfl, hk7⟩; have HK7 := Lib.hid hk7; clear hk7)
              | (go_at_call 11; refine Calls.mono (by with_reducible exact HKN.out _ HK7.out) ?_; rintro e w8 ⟨rfl, hk8⟩; have HK8 := Lib.hid (HK6.out.trans (HK7.out.trans hk8)); clear hk8))
            go_ret
            exact ⟨by first | rfl | (simp; omega), HK8.out⟩
  | true =>
    simp only [if_true] at HC2
    go_upto_region 8 with (first
      | (go_at_call 15; refine Calls.mono (by with_reducible exact HC2.out) ?_; rintro e w3 ⟨rfl, hk3⟩; have HK3 := Lib.hid hk3; clear hk3)
      | (go_at_call 33; refine Calls.mono (by with_reducible exact HF.out _) ?_; rintro e w4 ⟨f, hf, rfl, rfl⟩; obtain ⟨z, hz⟩ : ∃ z : Int, (f : Int) - 1100 = z := ⟨_, rfl⟩; have hwz : IntKind.i64.wrap ((f : Int) - 1100) = z := (by rw [IntKind.wrap_i64]; omega); have hwn : IntKind.i64.wrap (-z) = -z := (by rw [IntKind.wrap_i64]; omega); obtain ⟨K0, hK0⟩ : ∃ K0, z.natAbs = K0 := ⟨_, rfl⟩; have hmx : max z (-z) = (K0 : Int) := (by omega)))
    have hz1 : -1100 ≤ z := by omega
    have hz2 : z ≤ 1100 := by omega
    obtain ⟨R, hR⟩ : ∃ R, digF 5 K0 [] = R := ⟨_, rfl⟩
    have hRd : digN z = if z < 0 then 45 :: R else R := by unfold digN; rw [hK0, hR]
    clear hwz hwn hmx hf hz c0 c1 c2 c3 hif
    go_loopg [8, 9] 5 (fun g s8 s9 wx => ∃ (ds : List UInt8) (k : Nat), s8 = .string (bs ds) ∧ s9 = .int .i64 (k : Int) ∧ digF g k ds = R ∧ k ≤ 1100 ∧ k < 10 ^ g ∧ (ds = [] → g = 5) ∧ ds.length + g ≤ 5 ∧ Kp [] w2 wx)
    case atStart => exact ⟨[], K0, rfl, rfl, hR, by omega, by omega, fun _ => rfl, by simp, HK3.out⟩
    case round =>
      obtain ⟨ds, k, rfl, rfl, hd, hk11, hk10, hds, hdl, hkp⟩ := hrel
      by_cases hc : 0 < k ∨ ds = []
      · obtain ⟨g, rfl⟩ : ∃ g, gk = g + 1 := by
          refine ⟨gk - 1, ?_⟩
          rcases hc with h | h
          · cases gk with
            | zero => simp at hk10; omega
            | succ g => rfl
          · have := hds h
            omega
        rw [digF, if_pos hc] at hd
        have HD := Lib.hid hd
        obtain ⟨d, hdd⟩ : ∃ d, UInt8.ofNat (48 + k % 10) = d := ⟨_, rfl⟩
        rw [hdd] at HD
        have hkc := conv_one wr (48 + k % 10) (by omega) 1
        rw [hdd, show ((48 + k % 10 : Nat) : Int) = 48 + (k : Int) % 10 by omega] at hkc
        have kc := hkc
        have ha := fun W => @Lx.run_add_str Tryz.prog W (bs [d]) (bs ds) (by rw [bs_size, bs_size]; simp only [List.length_cons, List.length_nil]; omega)
        have HWQ := Lib.hid (wq k hk11)
        have HKW := Lib.hid (hkp.alloc (.cells #[.int .u8 (48 + (k : Int) % 10)] 5))
        clear hd hkc hdd hkp hR
        by_cases hk0 : 0 < k
        · have hkz : (0 : Int) < (k : Int) := by omega
          go_wp2_with (first | (rw [kc]))
          go_roundg g
          case measure => omega
          case rel => exact ⟨d :: ds, k / 10, by rw [bs_app]; rfl, by rw [show ((k / 10 : Nat) : Int) = (k : Int) / 10 by omega], HD.out, by omega, by omega, fun h => (by cases h), by simp only [List.length_cons]; omega, HKW.out⟩
        · obtain rfl : ds = [] := by rcases hc with h | h; exact absurd h hk0; exact h
          have hkz : ¬ (0 : Int) < (k : Int) := by omega
          have hem : (bs ([] : List UInt8)).toList.isEmpty = true := by rw [toL]; rfl
          go_wp2_with (first | (rw [kc]))
          go_roundg g
          case measure => omega
          case rel => exact ⟨[d], k / 10, by rw [bs_app]; rfl, rfl, HD.out, by omega, by omega, fun h => (by cases h), by simp only [List.length_cons, List.length_nil]; omega, HKW.out⟩
      · have hk0 : k = 0 := by omega
        subst hk0
        have hdn : ds ≠ [] := fun h => hc (.inr h)
        rw [digF_end _ _ hdn] at hd
        subst hd
        have hem : (bs ds).toList.isEmpty = false := by rw [toL]; cases ds with | nil => exact absurd rfl hdn | cons a l => rfl
        have hlen : ds.length ≤ 5 := by omega
        have hb5 := (HTC.out wr hkp).put3 (digN z)
        have hfz := fun o => (HTC.out wr hkp).frz (o := o)
        obtain ⟨c0, c1, c2, c3⟩ := (HTC.out wr hkp).cells
        simp only at c0 c1 c2 c3
        replace c1 : wr.cell? ⟨B, 1, none⟩ = some (.string ⟨#[]⟩) := c1
        have hkw : Kp [] w (wr.setCell ⟨B, 3, none⟩ (.string (bs (digN z)))) := (HK0.out.trans (HK2.out.trans hkp)).setCell (.inr (by simp only; omega)) _
        obtain ⟨W5, hW5⟩ : ∃ W5, wr.setCell ⟨B, 3, none⟩ (.string (bs (digN z))) = W5 := ⟨_, rfl⟩
        rw [hW5] at hb5 hkw
        obtain ⟨e0, e1, e2, e3⟩ := hb5.cells
        simp only at e0 e1 e2 e3
        replace e1 : W5.cell? ⟨B, 1, none⟩ = some (.string ⟨#[]⟩) := e1
        obtain ⟨W6, hW6⟩ : ∃ W6, W5.alloc (.cells #[.int .i64 22, .string ⟨#[]⟩, .int .i64 3, .string (bs (digN z))] 31) = W6 := ⟨_, rfl⟩
        obtain ⟨N5, hN5⟩ : ∃ N5, W5.heap.size = N5 := ⟨_, rfl⟩
        have hk6 : Kp [] w W6 := by rw [← hW6]; exact hkw.alloc _
        have hm6 : MAt W6 N5 ⟨22, [], 3, digN z⟩ := by rw [← hW6, ← hN5]; exact MAt.new W5 ⟨22, [], 3, digN z⟩
        have hC6 := gcheck_any (HE.out.kp0 hk6) (tm_one hm6) (by simp) (fun x hx => by simp at hx; subst hx; exact ⟨by simp, by show (digN z).length ≤ _; rw [hRd]; split <;> (try simp only [List.length_cons]) <;> omega⟩)
        rw [check_prio, dig_prio z hz1 hz2] at hC6
        have HC6 := Lib.hid hC6
        have HKN := Lib.hid fun W (h : Kp [] W6 W) => known_any (HE.out.kp0 (hk6.trans h))
        have HK6 := Lib.hid hk6
        clear hC6 hk6 hm6 hkw hb5 hkp hc hk11 hk10 hds hdl hdn hR
        have ha := fun W => @Lx.run_add_str Tryz.prog W ⟨#[45]⟩ (bs ds) (by rw [bs_size, show (⟨#[45]⟩ : ByteArray).size = 1 from rfl]; omega)
        by_cases hzn : z < 0
        · rw [if_pos hzn] at hRd
          have hq : (⟨#[45]⟩ : ByteArray) ++ bs ds = bs (digN z) := by rw [hRd]; exact bs_app [45] ds
          clear hRd
          generalize bs (digN z) = q at *
          have hz3 : z ≤ 1000 := by omega
          by_cases g1 : -1000 ≤ z
          · have hC7 := HC6.out
            rw [show (decide (-1000 ≤ z) && decide (z ≤ 1000)) = true by simp; omega] at hC7
            simp only [if_true] at hC7
            have HC7 := Lib.hid hC7
            clear hC7
            go_wp2_with (first
              | (go_at_call 15; refine Calls.mono (by with_reducible exact HC7.out) ?_; rintro e w7 ⟨rfl, hk7⟩; have HK7 := Lib.hid hk7; clear hk7)
              | (go_at_call 11; refine Calls.mono (by with_reducible exact HKN.out _ HK7.out) ?_; rintro e w8 ⟨rfl, hk8⟩; have HK8 := Lib.hid (HK6.out.trans (HK7.out.trans hk8)); clear hk8))
            go_ret
            exact ⟨by first | rfl | (simp; omega), HK8.out⟩
          · have hC7 := HC6.out
            rw [show (decide (-1000 ≤ z) && decide (z ≤ 1000)) = false by simp; omega] at hC7
            simp only [Bool.false_eq_true, if_false] at hC7
            have HC7 := Lib.hid hC7
            clear hC7
            go_wp2_with (first
              | (go_at_call 15; refine Calls.mono (by with_reducible exact HC7.out) ?_; rintro e w7 ⟨rfl, hk7⟩; have HK7 := Lib.hid hk7; clear hk7)
              | (go_at_call 11; refine Calls.mono (by with_reducible exact HKN.out _ HK7.out) ?_; rintro e w8 ⟨rfl, hk8⟩; have HK8 := Lib.hid (HK6.out.trans (HK7.out.trans hk8)); clear hk8))
            go_ret
            exact ⟨by first | rfl | (simp; omega), HK8.out⟩
        · rw [if_neg hzn] at hRd
          rw [hRd] at hW5 hW6 e3
          clear hRd
          generalize bs ds = q at *
          have hz3 : -1000 ≤ z := by omega
          by_cases g1 : z ≤ 1000
          · have hC7 := HC6.out
            rw [show (decide (-1000 ≤ z) && decide (z ≤ 1000)) = true by simp; omega] at hC7
            simp only [if_true] at hC7
            have HC7 := Lib.hid hC7
            clear hC7
            go_wp2_with (first
              | (go_at_call 15; refine Calls.mono (by with_reducible exact HC7.out) ?_; rintro e w7 ⟨rfl, hk7⟩; have HK7 := Lib.hid hk7; clear hk7)
              | (go_at_call 11; refine Calls.mono (by with_reducible exact HKN.out _ HK7.out) ?_; rintro e w8 ⟨rfl, hk8⟩; have HK8 := Lib.hid (HK6.out.trans (HK7.out.trans hk8)); clear hk8))
            go_ret
            exact ⟨by first | rfl | (simp; omega), HK8.out⟩
          · have hC7 := HC6.out
            rw [show (decide (-1000 ≤ z) && decide (z ≤ 1000)) = false by simp; omega] at hC7
            simp only [Bool.false_eq_true, if_false] at hC7
            have HC7 := Lib.hid hC7
            clear hC7
            go_wp2_with (first
              | (go_at_call 15; refine Calls.mono (by with_reducible exact HC7.out) ?_; rintro e w7 ⟨rfl, hk7⟩; have HK7 := Lib.hid hk7; clear hk7)
              | (go_at_call 11; refine Calls.mono (by with_reducible exact HKN.out _ HK7.out) ?_; rintro e w8 ⟨rfl, hk8⟩; have HK8 := Lib.hid (HK6.out.trans (HK7.out.trans hk8)); clear hk8))
            go_ret
            exact ⟨by first | rfl | (simp; omega), HK8.out⟩
theorem grammarPriorities_walk (n : Int) (s : ByteArray) (w : World) (hE : Env w) (hs : s.size ≤ 1048576) : Calls Tryz.prog 10 #[.int .i64 n, .string s] w fun e w' => e = .returned (.bool true) ∧ Below w.heap.size w w' := by
  have h := grammarPriorities_list n s.data.toList w hE (by have : s.data.toList.length = s.size := rfl; omega)
  rw [bs_of] at h
  exact h.mono fun _ _ ⟨h1, h2⟩ => ⟨h1, h2.below (Nat.le_refl _) (by simp)⟩
end Go.Proofs.YtkkibibecgcbmaaGreatDoor
