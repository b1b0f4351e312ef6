/- The reference's Parse and Check. -/
import Derived.Test.YtfpkppgecmbglaaGreatDoorIb
import Derived.Test.YtfpkppgecmbglaaGreatDoorIc
import Derived.Lib.Bytealg
import Derived.BigQuiet
import Derived.Deep.DeepCutAuto
import Derived.Deep.CutBlock
import Derived.Deep.RegionHeld3
namespace Go.Proofs.YtfpkppgecmbglaaGreatDoor
open Go.RowKit

theorem fill_cases {k : Nat} {s : List UInt8} {p : Gp} {r : List UInt8} {ok : Bool} (h : FillOk k s p r ok) : (ok = false ∧ placeL nmB kyB k s = none) ∨ ∃ q, ok = true ∧ p = q.g ∧ placeL nmB kyB k s = some (q, r) := by
  unfold FillOk at h
  split at h
  · rename_i q r' e
    obtain ⟨h1, h2, h3⟩ := h
    exact .inr ⟨q, h3, h1, by rw [e, h2]⟩
  · rename_i e
    exact .inl ⟨h, e⟩
def ltrs : List UInt8 := [32, 32, 107, 110, 112, 98, 100, 115, 69, 99, 80, 32]
set_option maxRecDepth 100000 in
theorem ltr_all : (List.range 256).all (fun n => (if UInt8.ofNat n = 32 then (0 : Int) else max 0 (Lib.indexByte ltrs (UInt8.ofNat n))) == (kindOfLetter (UInt8.ofNat n) : Int)) = true := by decide +kernel
theorem ltr_kind (c : UInt8) : (if c = 32 then (0 : Int) else max 0 (Lib.indexByte ltrs c)) = (kindOfLetter c : Int) := by
  have h := List.all_eq_true.1 ltr_all c.toNat (List.mem_range.2 (UInt8.toNat_lt c))
  rw [UInt8.ofNat_toNat] at h
  simpa using h
theorem u8_ne {b : UInt8} {k : Nat} (hk : k < 256) (h : b ≠ UInt8.ofNat k) : ((b.toNat : Int) == (k : Int)) = false := by
  rw [beq_eq_false_iff_ne]
  intro e
  refine h (UInt8.toNat_inj.1 ?_)
  rw [UInt8.toNat_ofNat_of_lt' hk]
  omega
theorem stepL_one : stepL nmB kyB [37] = none := rfl
theorem u8_az (b : UInt8) : azCh b = (decide ((97 : Int) ≤ (b.toNat : Int)) && decide ((b.toNat : Int) ≤ 122)) := by
  unfold azCh
  rw [Bool.eq_iff_iff]
  simp only [Bool.and_eq_true, decide_eq_true_eq, UInt8.le_iff_toNat_le]
  have h1 : (97 : UInt8).toNat = 97 := rfl
  have h2 : (122 : UInt8).toNat = 122 := rfl
  omega
theorem u8_neq {c b : UInt8} (h : c ≠ b) : ((c.toNat : Int) == (b.toNat : Int)) = false := by
  rw [beq_eq_false_iff_ne]
  intro e
  exact h (UInt8.toNat_inj.1 (by omega))
theorem stepL_two {b : UInt8} (h : b = 36 ∨ b = 37) (u : List UInt8) : stepL nmB kyB (b :: b :: u) = some (⟨1, [b], 0, false⟩, u) := by
  unfold stepL
  dsimp only
  rw [if_neg (by rcases h with rfl | rfl <;> simp), if_pos (by rw [List.head?_cons]), List.tail_cons]
theorem refPlace_0' {s : List UInt8} {w : World} (hl : s.length ≤ 1000000) : Calls Tryz.prog 36 #[.int .i64 0, .string (bs s)] w (FillPost 0 s w) := refPlace_0 hl
set_option maxHeartbeats 8000000 in
set_option maxRecDepth 100000 in
theorem refParse_any {w : World} (hE : Env w) (s : List UInt8) (hs : s.length ≤ 1000000000) : Calls Tryz.prog 14 #[.string (bs s)] w (ParsePost s w) := by
  have hsz : (bs s).size = s.length := rfl
  unfold ParsePost
  obtain ⟨E, hEE⟩ : ∃ E, parseE s = E := ⟨_, rfl⟩
  rw [hEE]
  by_cases h1 : 256 < s.length
  · have hE1 : E = ([], 91) := by rw [← hEE]; unfold parseE; rw [if_pos h1]
    subst hE1
    have hz : (256 : Int) < ((bs s).size : Int) := by omega
    clear hEE hE
    go_enter Tryz.func14, Tryz.ntmps14
    go_wp2
    go_ret2
    exact ⟨_, rfl, RT.Own.nil gpT w _, Kp.refl _ _⟩
  have hz : ¬ ((256 : Int) < ((bs s).size : Int)) := by omega
  have HT := Lib.hid fun W => refTx_any s W hs
  cases ht : txB s with
  | false =>
    have hE1 : E = ([], 90) := by rw [← hEE]; unfold parseE; rw [if_neg h1, if_pos ht]
    subst hE1
    rw [ht] at HT
    clear hEE hE
    go_enter Tryz.func14, Tryz.ntmps14
    go_wp2_with (go_at_call 32; refine Calls.mono (by with_reducible exact HT.out _) ?_; rintro e w1 ⟨rfl, hk1⟩)
    go_ret2
    exact ⟨_, rfl, RT.Own.nil gpT w1 _, hk1⟩
  | true =>
    rw [ht] at HT
    have hR : ∀ X, pfrom nmB kyB [] s = X → (match X with | none => (([] : List Pc), (90 : Int)) | some l => (l, 0)) = E := fun X hX => by
      rw [← hEE]
      unfold parseE
      rw [if_neg h1, if_neg (by rw [ht]; simp), parseP_eq, hX]
      cases X <;> rfl
    have HR := Lib.hid hR
    have hl : s.length ≤ 256 := by omega
    clear hR hEE ht h1
    obtain ⟨B, hB⟩ : ∃ B, w.heap.size = B := ⟨_, rfl⟩
    have HBB := Lib.hid hB
    have hOB := Lib.hid (RT.Own.nil gpT)
    have HE := Lib.hid hE
    clear hE
    rw [hB]
    clear hB
    go_enter Tryz.func14, Tryz.ntmps14
    go_wp2_with (go_at_call 32; refine Calls.mono (by with_reducible exact HT.out _) ?_; rintro e w1 ⟨rfl, hk1⟩)
    have HK1 := Lib.hid hk1
    clear hk1
    go_loopg [0, 4] (s.length) (fun g s0 s4 wx => ∃ (acc : List Pc) (r : List UInt8), s0 = .string (bs r) ∧ r.length ≤ g ∧ g ≤ s.length ∧ acc.length + r.length ≤ s.length ∧ tsum acc + 256 * r.length ≤ 65536 ∧ Hid (pfrom nmB kyB [] s = pfrom nmB kyB acc r) ∧ gpT.Own wx B s4 (acc.map Pc.g) ∧ Hid (Kp [] w wx))
    case atStart => exact ⟨[], s, rfl, Nat.le_refl _, Nat.le_refl _, by simp, by simp [tsum]; omega, Lib.hid rfl, hOB.out w1 B, HK1⟩
    case round =>
      obtain ⟨acc, r, rfl, hrg, hgs, hal, hts, hp, hO, hk⟩ := hrel
      generalize wr = W0 at *
      cases r with
      | nil =>
        have he0 : (bs []).toList.isEmpty = true := bs_isEmpty []
        have hE1 := HR.out (some acc) (hp.out.trans (pfrom_nil acc))
        simp only at hE1
        subst hE1
        have HO := Lib.hid hO
        clear hO HR
        go_wp2
        go_ret2
        exact ⟨_, rfl, HO.out, hk.out⟩
      | cons b r' =>
        have he0 : (bs (b :: r')).toList.isEmpty = false := bs_isEmpty _
        have hlb : (b :: r').length = r'.length + 1 := rfl
        rw [hlb] at hrg hal hts
        have hsz : (bs (b :: r')).size = r'.length + 1 := rfl
        have hz0 : 0 < (bs (b :: r')).size := by omega
        have hg0 : (bs (b :: r'))[0]'hz0 = b := rfl
        have hq1 : 1 ≤ (bs (b :: r')).size := by omega
        have HO := Lib.hid hO
        clear hO
        cases gk with
        | zero => omega
        | succ gk =>
        by_cases hpl : b ≠ 36 ∧ b ≠ 37
        · have bn1 : ((b.toNat : Int) == 36) = false := u8_ne (k := 36) (by decide) hpl.1
          have bn2 : ((b.toNat : Int) == 37) = false := u8_ne (k := 37) (by decide) hpl.2
          have bn1' : ((b.toNat : Int) != 36) = true := by simp [bne, bn1]
          have bn2' : ((b.toNat : Int) != 37) = true := by simp [bne, bn2]
          have hst := Lib.hid (stepL_plain (nm := nmB) (ky := kyB) (b := b) (by simp [plainCh, hpl.1, hpl.2]) r')
          obtain ⟨hf1, hf2, hf3⟩ := stepL_le hst.out
          have hpf := Lib.hid (hp.out.trans (pfrom_step acc hst.out))
          have hal2 := addP_len acc ⟨1, [b], 0, false⟩
          have hts2 := addP_tsum acc ⟨1, [b], 0, false⟩
          simp only [List.length_cons, List.length_nil, Nat.zero_add] at hts2 hf1
          have HAP := Lib.hid fun (W : World) (h : gpT.Own W B u4 (acc.map Pc.g)) (hB : B ≤ W.heap.size) => (show Calls Tryz.prog 33 #[u4, .agg #[.int .i64 1, .string (bs [b]), .int .i64 0, .bool false]] W fun e w' => ∃ v', e = .returned v' ∧ gpT.Own w' B v' ((addP acc ⟨1, [b], 0, false⟩).map Pc.g) ∧ Below B W w' from refAdd_any acc ⟨1, [b], 0, false⟩ h hB (by omega) (by show tsum acc + 1 ≤ 1000000000; omega))
          have e1 : (bs (b :: r')).extract 0 1 = bs [b] := by rw [bs_take]; rfl
          have e2 : (bs (b :: r')).extract 1 (bs (b :: r')).size = bs r' := by rw [bs_drop]; rfl
          have e2' : (bs (b :: r')).extract 1 (bs (b :: r')).size = bs r' := e2
          have hqa : ¬ ((bs (b :: r')).size : Int) < 1 := by omega
          have hqb : ¬ ((bs (b :: r')).size : Int) < 1 := by omega
          clear e2'
          have hBw : B ≤ W0.heap.size := by have := HBB.out; have := hk.out.size; omega
          have HBW := Lib.hid (show B ≤ W0.drew.heap.size from hBw)
          have HOD := Lib.hid (show gpT.Own W0.drew B u4 (acc.map Pc.g) from HO.out.kp0 ((Kp.refl [] W0).drew 1))
          clear hBw HR
          (try clear hsz)
          go_upto_region 8 with fail
          refine wp_region_held_drew (S := fun _ => True) (by kernel_rfl) trivial (fun hHeld => ?_)
          refine wpAnyH_take (i := 0) (oi := { dst := some 26, op := Op.move (Operand.tmp 4), type := 29, pos := "ref.go:98", after := #[], guard := none }) (v := u4) rfl (by kernel_rfl) (by kernel_rfl) (by kernel_rfl) (fun _ _ _ h => h) (Or.inl ⟨by rfl, fun w hSw => by (try dsimp only at hSw); go_simp⟩) hHeld ?_
          try simp only [Act.put, List.setIfInBounds_toArray, List.set_cons_zero, List.set_cons_succ]
          refine wpAnyH_take (i := 1) (oi := { dst := some 27, op := Op.move (Operand.tmp 0), type := 9, pos := "ref.go:98", after := #[], guard := none }) (v := .string (bs (b :: r'))) rfl (by kernel_rfl) (by kernel_rfl) (by kernel_rfl) (fun _ _ _ h => h) (Or.inl ⟨by rfl, fun w hSw => by (try dsimp only at hSw); go_simp⟩) hHeld ?_
          try simp only [Act.put, List.setIfInBounds_toArray, List.set_cons_zero, List.set_cons_succ]
          refine wpAnyH_take (i := 2) (oi := { dst := some 28, op := Op.slice 9 (Operand.tmp 27) none (some (Operand.const (Value.int IntKind.i64 1))) none, type := 9, pos := "ref.go:98", after := #[{ on := 1, ground := Ground.data }], guard := none }) (v := .string (bs [b])) rfl (by kernel_rfl) (by kernel_rfl) (by kernel_rfl) (fun _ _ _ h => h) (Or.inl ⟨by rfl, fun w hSw => by (try dsimp only at hSw); go_simp⟩) hHeld ?_
          try simp only [Act.put, List.setIfInBounds_toArray, List.set_cons_zero, List.set_cons_succ]
          refine wpAnyH_take (i := 3) (oi := { dst := some 29, op := Op.build 61 #[(0, Operand.const (Value.int IntKind.i64 1)), (1, Operand.tmp 28)], type := 61, pos := "ref.go:98", after := #[{ on := 2, ground := Ground.data }], guard := none }) (v := .agg #[.int .i64 1, .string (bs [b]), .int .i64 0, .bool false]) rfl (by kernel_rfl) (by kernel_rfl) (by kernel_rfl) (fun _ _ _ h => h) (Or.inl ⟨by rfl, fun w hSw => by (try dsimp only at hSw); go_simp⟩) hHeld ?_
          try simp only [Act.put, List.setIfInBounds_toArray, List.set_cons_zero, List.set_cons_succ]
          refine wpAnyH_take (i := 5) (oi := { dst := some 31, op := Op.move (Operand.tmp 0), type := 9, pos := "ref.go:98", after := #[], guard := none }) (v := .string (bs (b :: r'))) rfl (by kernel_rfl) (by kernel_rfl) (by kernel_rfl) (fun _ _ _ h => h) (Or.inl ⟨by rfl, fun w hSw => by (try dsimp only at hSw); go_simp⟩) hHeld ?_
          try simp only [Act.put, List.setIfInBounds_toArray, List.set_cons_zero, List.set_cons_succ]
          refine wpAnyH_take (i := 6) (oi := { dst := some 32, op := Op.slice 9 (Operand.tmp 31) (some (Operand.const (Value.int IntKind.i64 1))) none none, type := 9, pos := "ref.go:98", after := #[{ on := 5, ground := Ground.data }], guard := none }) (v := .string (bs r')) rfl (by kernel_rfl) (by kernel_rfl) (by kernel_rfl) (fun _ _ _ h => h) (Or.inl ⟨by rfl, fun w hSw => by (try dsimp only at hSw); go_simp⟩) hHeld ?_
          try simp only [Act.put, List.setIfInBounds_toArray, List.set_cons_zero, List.set_cons_succ]
          refine wpAnyH_ready (rs := [4]) (by kernel_rfl) (by simp) ?_
          refine AllReadyH.cons (o := { dst := some 30, op := Op.call { callee := Callee.value (Operand.func 33), args := #[Operand.tmp 26, Operand.tmp 29], argTypes := #[29, 61] }, type := 29, pos := "ref.go:98", after := #[{ on := 0, ground := Ground.data }, { on := 3, ground := Ground.data }], guard := none }) rfl (fun K hK => ?_) AllReadyH.nil
          go_simp
          go_at_call 33
          refine Calls.mono (by with_reducible exact HAP.out _ HOD.out HBW.out) ?_
          rintro e w3 ⟨v3, rfl, ho3, hb3⟩
          dsimp only
          have HO3 := Lib.hid ho3
          have HB3 := Lib.hid hb3
          clear ho3 hb3
          clear hHeld
          refine hK.out _ _ trivial (fun hHeld => ?_)
          try simp only [Act.put, List.setIfInBounds_toArray, List.set_cons_zero, List.set_cons_succ]
          clear hK
          refine wpAnyH_take (i := 7) (oi := { dst := some 4, op := Op.assign (Operand.tmp 30), type := 29, pos := "ref.go:98", after := #[{ on := 4, ground := Ground.data }, { on := 4, ground := Ground.chain }, { on := 0, ground := Ground.phase }, { on := 1, ground := Ground.phase }, { on := 2, ground := Ground.phase }, { on := 3, ground := Ground.phase }, { on := 4, ground := Ground.phase }, { on := 5, ground := Ground.textOnly Departure.lateStores }, { on := 6, ground := Ground.textOnly Departure.lateStoresUnsure }], guard := none }) (v := v3) rfl (by kernel_rfl) (by kernel_rfl) (by kernel_rfl) (fun _ _ _ h => h) (Or.inl ⟨by rfl, fun w hSw => by (try dsimp only at hSw); go_simp⟩) hHeld ?_
          try simp only [Act.put, List.setIfInBounds_toArray, List.set_cons_zero, List.set_cons_succ]
          refine wpAnyH_take (i := 8) (oi := { dst := some 0, op := Op.assign (Operand.tmp 32), type := 9, pos := "ref.go:98", after := #[{ on := 6, ground := Ground.data }, { on := 7, ground := Ground.chain }, { on := 0, ground := Ground.phase }, { on := 1, ground := Ground.phase }, { on := 2, ground := Ground.phase }, { on := 3, ground := Ground.phase }, { on := 4, ground := Ground.phase }, { on := 5, ground := Ground.phase }, { on := 6, ground := Ground.phase }, { on := 7, ground := Ground.phase }], guard := none }) (v := .string (bs r')) rfl (by kernel_rfl) (by kernel_rfl) (by kernel_rfl) (fun _ _ _ h => h) (Or.inl ⟨by rfl, fun w hSw => by (try dsimp only at hSw); go_simp⟩) hHeld ?_
          try simp only [Act.put, List.setIfInBounds_toArray, List.set_cons_zero]
          refine wpAnyH_done (by kernel_rfl) ?_ _
          clear hHeld
          go_wp2
          go_roundg gk
          case measure => omega
          case rel => exact ⟨_, r', rfl, by omega, by omega, by omega, by omega, hpf, HO3.out, Lib.hid ((hk.out.drew 1).belowTo (by rw [HBB.out]; exact HB3.out))⟩
        have hb : b = 36 ∨ b = 37 := by
          by_cases h : b = 36
          · exact .inl h
          · exact .inr (Decidable.of_not_not fun h2 => hpl ⟨h, h2⟩)
        clear hpl
        by_cases htw : r'.head? = some b
        · obtain ⟨u, rfl⟩ : ∃ u, r' = b :: u := by
            cases r' with
            | nil => cases htw
            | cons c u => exact ⟨u, by rw [List.head?_cons] at htw; rw [Option.some.inj htw]⟩
          rw [List.length_cons] at hrg hal hts hsz
          have hz1 : 1 < (bs (b :: b :: u)).size := by omega
          have hz1i : (1 : Int) < ((bs (b :: b :: u)).size : Int) := by omega
          have hg1 : (bs (b :: b :: u))[1]'hz1 = b := rfl
          have hq2 : 2 ≤ (bs (b :: b :: u)).size := by omega
          rcases hb with hb | hb
          · have bn1' : ((b.toNat : Int) != 36) = false := by rw [hb]; rfl
            have hstp := stepL_two (b := b) (.inl hb) u
            clear hb htw
            have hst := Lib.hid hstp
            obtain ⟨hf1, hf2, hf3⟩ := stepL_le hst.out
            have hpf := Lib.hid (hp.out.trans (pfrom_step acc hst.out))
            have hal2 := addP_len acc ⟨1, [b], 0, false⟩
            have hts2 := addP_tsum acc ⟨1, [b], 0, false⟩
            simp only [List.length_cons, List.length_nil, Nat.zero_add] at hts2 hf1
            have HAP := Lib.hid fun (W : World) (h : gpT.Own W B u4 (acc.map Pc.g)) (hB : B ≤ W.heap.size) => (show Calls Tryz.prog 33 #[u4, .agg #[.int .i64 1, .string (bs [b]), .int .i64 0, .bool false]] W fun e w' => ∃ v', e = .returned v' ∧ gpT.Own w' B v' ((addP acc ⟨1, [b], 0, false⟩).map Pc.g) ∧ Below B W w' from refAdd_any acc ⟨1, [b], 0, false⟩ h hB (by omega) (by show tsum acc + 1 ≤ 1000000000; omega))
            have e1 : (bs (b :: b :: u)).extract 0 1 = bs [b] := by rw [bs_take]; rfl
            have e2 : (bs (b :: b :: u)).extract 2 (bs (b :: b :: u)).size = bs u := by rw [bs_drop]; rfl
            have e2' : (bs (b :: b :: u)).extract 2 (bs (b :: b :: u)).size = bs u := e2
            have hqa : ¬ ((bs (b :: b :: u)).size : Int) < 1 := by omega
            have hqb : ¬ ((bs (b :: b :: u)).size : Int) < 2 := by omega
            clear e2'
            have hBw : B ≤ W0.heap.size := by have := HBB.out; have := hk.out.size; omega
            have HBW := Lib.hid (show B ≤ W0.drew.heap.size from hBw)
            have HOD := Lib.hid (show gpT.Own W0.drew B u4 (acc.map Pc.g) from HO.out.kp0 ((Kp.refl [] W0).drew 1))
            clear hBw HR
            (try clear hsz)
            clear hsz
            go_upto_region 9 with fail
            go_quiet (fail)
            have HKX := Lib.hid (hk.out.drew nq)
            have HOX := Lib.hid (HO.out.kp0 ((Kp.refl [] W0).drew nq))
            generalize W0.drewN nq = Wq at *
            have HBQ := Lib.hid (show B ≤ Wq.drew.heap.size by have := HBB.out; have := HKX.out.size; show B ≤ Wq.heap.size; omega)
            have HOQ := Lib.hid (show gpT.Own Wq.drew B u4 (acc.map Pc.g) from HOX.out.kp0 ((Kp.refl [] Wq).drew 1))
            go_upto_region 10 with fail
            refine wp_region_held_drew (S := fun _ => True) (by kernel_rfl) trivial (fun hHeld => ?_)
            refine wpAnyH_take (i := 0) (oi := { dst := some 43, op := Op.move (Operand.tmp 4), type := 29, pos := "ref.go:102", after := #[], guard := none }) (v := u4) rfl (by kernel_rfl) (by kernel_rfl) (by kernel_rfl) (fun _ _ _ h => h) (Or.inl ⟨by rfl, fun w hSw => by (try dsimp only at hSw); go_simp⟩) hHeld ?_
            try simp only [Act.put, List.setIfInBounds_toArray, List.set_cons_zero, List.set_cons_succ]
            refine wpAnyH_take (i := 1) (oi := { dst := some 44, op := Op.move (Operand.tmp 0), type := 9, pos := "ref.go:102", after := #[], guard := none }) (v := .string (bs (b :: b :: u))) rfl (by kernel_rfl) (by kernel_rfl) (by kernel_rfl) (fun _ _ _ h => h) (Or.inl ⟨by rfl, fun w hSw => by (try dsimp only at hSw); go_simp⟩) hHeld ?_
            try simp only [Act.put, List.setIfInBounds_toArray, List.set_cons_zero, List.set_cons_succ]
            refine wpAnyH_take (i := 2) (oi := { dst := some 45, op := Op.slice 9 (Operand.tmp 44) none (some (Operand.const (Value.int IntKind.i64 1))) none, type := 9, pos := "ref.go:102", after := #[{ on := 1, ground := Ground.data }], guard := none }) (v := .string (bs [b])) rfl (by kernel_rfl) (by kernel_rfl) (by kernel_rfl) (fun _ _ _ h => h) (Or.inl ⟨by rfl, fun w hSw => by (try dsimp only at hSw); go_simp⟩) hHeld ?_
            try simp only [Act.put, List.setIfInBounds_toArray, List.set_cons_zero, List.set_cons_succ]
            refine wpAnyH_take (i := 3) (oi := { dst := some 46, op := Op.build 61 #[(0, Operand.const (Value.int IntKind.i64 1)), (1, Operand.tmp 45)], type := 61, pos := "ref.go:102", after := #[{ on := 2, ground := Ground.data }], guard := none }) (v := .agg #[.int .i64 1, .string (bs [b]), .int .i64 0, .bool false]) rfl (by kernel_rfl) (by kernel_rfl) (by kernel_rfl) (fun _ _ _ h => h) (Or.inl ⟨by rfl, fun w hSw => by (try dsimp only at hSw); go_simp⟩) hHeld ?_
            try simp only [Act.put, List.setIfInBounds_toArray, List.set_cons_zero, List.set_cons_succ]
            refine wpAnyH_take (i := 5) (oi := { dst := some 48, op := Op.move (Operand.tmp 0), type := 9, pos := "ref.go:102", after := #[], guard := none }) (v := .string (bs (b :: b :: u))) rfl (by kernel_rfl) (by kernel_rfl) (by kernel_rfl) (fun _ _ _ h => h) (Or.inl ⟨by rfl, fun w hSw => by (try dsimp only at hSw); go_simp⟩) hHeld ?_
            try simp only [Act.put, List.setIfInBounds_toArray, List.set_cons_zero, List.set_cons_succ]
            refine wpAnyH_take (i := 6) (oi := { dst := some 49, op := Op.slice 9 (Operand.tmp 48) (some (Operand.const (Value.int IntKind.i64 2))) none none, type := 9, pos := "ref.go:102", after := #[{ on := 5, ground := Ground.data }], guard := none }) (v := .string (bs u)) rfl (by kernel_rfl) (by kernel_rfl) (by kernel_rfl) (fun _ _ _ h => h) (Or.inl ⟨by rfl, fun w hSw => by (try dsimp only at hSw); go_simp⟩) hHeld ?_
            try simp only [Act.put, List.setIfInBounds_toArray, List.set_cons_zero, List.set_cons_succ]
            refine wpAnyH_ready (rs := [4]) (by kernel_rfl) (by simp) ?_
            refine AllReadyH.cons (o := { dst := some 47, op := Op.call { callee := Callee.value (Operand.func 33), args := #[Operand.tmp 43, Operand.tmp 46], argTypes := #[29, 61] }, type := 29, pos := "ref.go:102", after := #[{ on := 0, ground := Ground.data }, { on := 3, ground := Ground.data }], guard := none }) rfl (fun K hK => ?_) AllReadyH.nil
            go_simp
            go_at_call 33
            refine Calls.mono (by with_reducible exact HAP.out _ HOQ.out HBQ.out) ?_
            rintro e w3 ⟨v3, rfl, ho3, hb3⟩
            dsimp only
            have HO3 := Lib.hid ho3
            have HB3 := Lib.hid hb3
            clear ho3 hb3
            clear hHeld
            refine hK.out _ _ trivial (fun hHeld => ?_)
            try simp only [Act.put, List.setIfInBounds_toArray, List.set_cons_zero, List.set_cons_succ]
            clear hK
            refine wpAnyH_take (i := 7) (oi := { dst := some 4, op := Op.assign (Operand.tmp 47), type := 29, pos := "ref.go:102", after := #[{ on := 4, ground := Ground.data }, { on := 4, ground := Ground.chain }, { on := 0, ground := Ground.phase }, { on := 1, ground := Ground.phase }, { on := 2, ground := Ground.phase }, { on := 3, ground := Ground.phase }, { on := 4, ground := Ground.phase }, { on := 5, ground := Ground.textOnly Departure.lateStores }, { on := 6, ground := Ground.textOnly Departure.lateStoresUnsure }], guard := none }) (v := v3) rfl (by kernel_rfl) (by kernel_rfl) (by kernel_rfl) (fun _ _ _ h => h) (Or.inl ⟨by rfl, fun w hSw => by (try dsimp only at hSw); go_simp⟩) hHeld ?_
            try simp only [Act.put, List.setIfInBounds_toArray, List.set_cons_zero, List.set_cons_succ]
            refine wpAnyH_take (i := 8) (oi := { dst := some 0, op := Op.assign (Operand.tmp 49), type := 9, pos := "ref.go:102", after := #[{ on := 6, ground := Ground.data }, { on := 7, ground := Ground.chain }, { on := 0, ground := Ground.phase }, { on := 1, ground := Ground.phase }, { on := 2, ground := Ground.phase }, { on := 3, ground := Ground.phase }, { on := 4, ground := Ground.phase }, { on := 5, ground := Ground.phase }, { on := 6, ground := Ground.phase }, { on := 7, ground := Ground.phase }], guard := none }) (v := .string (bs u)) rfl (by kernel_rfl) (by kernel_rfl) (by kernel_rfl) (fun _ _ _ h => h) (Or.inl ⟨by rfl, fun w hSw => by (try dsimp only at hSw); go_simp⟩) hHeld ?_
            try simp only [Act.put, List.setIfInBounds_toArray, List.set_cons_zero]
            refine wpAnyH_done (by kernel_rfl) ?_ _
            clear hHeld
            go_wp2
            go_roundg gk
            case measure => omega
            case rel => exact ⟨_, u, rfl, by omega, by omega, by omega, by omega, hpf, HO3.out, Lib.hid ((HKX.out.drew 1).belowTo (by rw [HBB.out]; exact HB3.out))⟩
          · have bn1' : ((b.toNat : Int) != 36) = true := by rw [hb]; rfl
            have bn2' : ((b.toNat : Int) != 37) = false := by rw [hb]; rfl
            have hstp := stepL_two (b := b) (.inr hb) u
            clear hb htw
            have hst := Lib.hid hstp
            obtain ⟨hf1, hf2, hf3⟩ := stepL_le hst.out
            have hpf := Lib.hid (hp.out.trans (pfrom_step acc hst.out))
            have hal2 := addP_len acc ⟨1, [b], 0, false⟩
            have hts2 := addP_tsum acc ⟨1, [b], 0, false⟩
            simp only [List.length_cons, List.length_nil, Nat.zero_add] at hts2 hf1
            have HAP := Lib.hid fun (W : World) (h : gpT.Own W B u4 (acc.map Pc.g)) (hB : B ≤ W.heap.size) => (show Calls Tryz.prog 33 #[u4, .agg #[.int .i64 1, .string (bs [b]), .int .i64 0, .bool false]] W fun e w' => ∃ v', e = .returned v' ∧ gpT.Own w' B v' ((addP acc ⟨1, [b], 0, false⟩).map Pc.g) ∧ Below B W w' from refAdd_any acc ⟨1, [b], 0, false⟩ h hB (by omega) (by show tsum acc + 1 ≤ 1000000000; omega))
            have e1 : (bs (b :: b :: u)).extract 0 1 = bs [b] := by rw [bs_take]; rfl
            have e2 : (bs (b :: b :: u)).extract 2 (bs (b :: b :: u)).size = bs u := by rw [bs_drop]; rfl
            have e2' : (bs (b :: b :: u)).extract 2 (bs (b :: b :: u)).size = bs u := e2
            have hqa : ¬ ((bs (b :: b :: u)).size : Int) < 1 := by omega
            have hqb : ¬ ((bs (b :: b :: u)).size : Int) < 2 := by omega
            clear e2'
            have hBw : B ≤ W0.heap.size := by have := HBB.out; have := hk.out.size; omega
            have HBW := Lib.hid (show B ≤ W0.drew.heap.size from hBw)
            have HOD := Lib.hid (show gpT.Own W0.drew B u4 (acc.map Pc.g) from HO.out.kp0 ((Kp.refl [] W0).drew 1))
            clear hBw HR
            (try clear hsz)
            clear hsz
            go_upto_region 9 with fail
            go_quiet (fail)
            have HKX := Lib.hid (hk.out.drew nq)
            have HOX := Lib.hid (HO.out.kp0 ((Kp.refl [] W0).drew nq))
            generalize W0.drewN nq = Wq at *
            have HBQ := Lib.hid (show B ≤ Wq.drew.heap.size by have := HBB.out; have := HKX.out.size; show B ≤ Wq.heap.size; omega)
            have HOQ := Lib.hid (show gpT.Own Wq.drew B u4 (acc.map Pc.g) from HOX.out.kp0 ((Kp.refl [] Wq).drew 1))
            go_upto_region 10 with fail
            refine wp_region_held_drew (S := fun _ => True) (by kernel_rfl) trivial (fun hHeld => ?_)
            refine wpAnyH_take (i := 0) (oi := { dst := some 43, op := Op.move (Operand.tmp 4), type := 29, pos := "ref.go:102", after := #[], guard := none }) (v := u4) rfl (by kernel_rfl) (by kernel_rfl) (by kernel_rfl) (fun _ _ _ h => h) (Or.inl ⟨by rfl, fun w hSw => by (try dsimp only at hSw); go_simp⟩) hHeld ?_
            try simp only [Act.put, List.setIfInBounds_toArray, List.set_cons_zero, List.set_cons_succ]
            refine wpAnyH_take (i := 1) (oi := { dst := some 44, op := Op.move (Operand.tmp 0), type := 9, pos := "ref.go:102", after := #[], guard := none }) (v := .string (bs (b :: b :: u))) rfl (by kernel_rfl) (by kernel_rfl) (by kernel_rfl) (fun _ _ _ h => h) (Or.inl ⟨by rfl, fun w hSw => by (try dsimp only at hSw); go_simp⟩) hHeld ?_
            try simp only [Act.put, List.setIfInBounds_toArray, List.set_cons_zero, List.set_cons_succ]
            refine wpAnyH_take (i := 2) (oi := { dst := some 45, op := Op.slice 9 (Operand.tmp 44) none (some (Operand.const (Value.int IntKind.i64 1))) none, type := 9, pos := "ref.go:102", after := #[{ on := 1, ground := Ground.data }], guard := none }) (v := .string (bs [b])) rfl (by kernel_rfl) (by kernel_rfl) (by kernel_rfl) (fun _ _ _ h => h) (Or.inl ⟨by rfl, fun w hSw => by (try dsimp only at hSw); go_simp⟩) hHeld ?_
            try simp only [Act.put, List.setIfInBounds_toArray, List.set_cons_zero, List.set_cons_succ]
            refine wpAnyH_take (i := 3) (oi := { dst := some 46, op := Op.build 61 #[(0, Operand.const (Value.int IntKind.i64 1)), (1, Operand.tmp 45)], type := 61, pos := "ref.go:102", after := #[{ on := 2, ground := Ground.data }], guard := none }) (v := .agg #[.int .i64 1, .string (bs [b]), .int .i64 0, .bool false]) rfl (by kernel_rfl) (by kernel_rfl) (by kernel_rfl) (fun _ _ _ h => h) (Or.inl ⟨by rfl, fun w hSw => by (try dsimp only at hSw); go_simp⟩) hHeld ?_
            try simp only [Act.put, List.setIfInBounds_toArray, List.set_cons_zero, List.set_cons_succ]
            refine wpAnyH_take (i := 5) (oi := { dst := some 48, op := Op.move (Operand.tmp 0), type := 9, pos := "ref.go:102", after := #[], guard := none }) (v := .string (bs (b :: b :: u))) rfl (by kernel_rfl) (by kernel_rfl) (by kernel_rfl) (fun _ _ _ h => h) (Or.inl ⟨by rfl, fun w hSw => by (try dsimp only at hSw); go_simp⟩) hHeld ?_
            try simp only [Act.put, List.setIfInBounds_toArray, List.set_cons_zero, List.set_cons_succ]
            refine wpAnyH_take (i := 6) (oi := { dst := some 49, op := Op.slice 9 (Operand.tmp 48) (some (Operand.const (Value.int IntKind.i64 2))) none none, type := 9, pos := "ref.go:102", after := #[{ on := 5, ground := Ground.data }], guard := none }) (v := .string (bs u)) rfl (by kernel_rfl) (by kernel_rfl) (by kernel_rfl) (fun _ _ _ h => h) (Or.inl ⟨by rfl, fun w hSw => by (try dsimp only at hSw); go_simp⟩) hHeld ?_
            try simp only [Act.put, List.setIfInBounds_toArray, List.set_cons_zero, List.set_cons_succ]
            refine wpAnyH_ready (rs := [4]) (by kernel_rfl) (by simp) ?_
            refine AllReadyH.cons (o := { dst := some 47, op := Op.call { callee := Callee.value (Operand.func 33), args := #[Operand.tmp 43, Operand.tmp 46], argTypes := #[29, 61] }, type := 29, pos := "ref.go:102", after := #[{ on := 0, ground := Ground.data }, { on := 3, ground := Ground.data }], guard := none }) rfl (fun K hK => ?_) AllReadyH.nil
            go_simp
            go_at_call 33
            refine Calls.mono (by with_reducible exact HAP.out _ HOQ.out HBQ.out) ?_
            rintro e w3 ⟨v3, rfl, ho3, hb3⟩
            dsimp only
            have HO3 := Lib.hid ho3
            have HB3 := Lib.hid hb3
            clear ho3 hb3
            clear hHeld
            refine hK.out _ _ trivial (fun hHeld => ?_)
            try simp only [Act.put, List.setIfInBounds_toArray, List.set_cons_zero, List.set_cons_succ]
            clear hK
            refine wpAnyH_take (i := 7) (oi := { dst := some 4, op := Op.assign (Operand.tmp 47), type := 29, pos := "ref.go:102", after := #[{ on := 4, ground := Ground.data }, { on := 4, ground := Ground.chain }, { on := 0, ground := Ground.phase }, { on := 1, ground := Ground.phase }, { on := 2, ground := Ground.phase }, { on := 3, ground := Ground.phase }, { on := 4, ground := Ground.phase }, { on := 5, ground := Ground.textOnly Departure.lateStores }, { on := 6, ground := Ground.textOnly Departure.lateStoresUnsure }], guard := none }) (v := v3) rfl (by kernel_rfl) (by kernel_rfl) (by kernel_rfl) (fun _ _ _ h => h) (Or.inl ⟨by rfl, fun w hSw => by (try dsimp only at hSw); go_simp⟩) hHeld ?_
            try simp only [Act.put, List.setIfInBounds_toArray, List.set_cons_zero, List.set_cons_succ]
            refine wpAnyH_take (i := 8) (oi := { dst := some 0, op := Op.assign (Operand.tmp 49), type := 9, pos := "ref.go:102", after := #[{ on := 6, ground := Ground.data }, { on := 7, ground := Ground.chain }, { on := 0, ground := Ground.phase }, { on := 1, ground := Ground.phase }, { on := 2, ground := Ground.phase }, { on := 3, ground := Ground.phase }, { on := 4, ground := Ground.phase }, { on := 5, ground := Ground.phase }, { on := 6, ground := Ground.phase }, { on := 7, ground := Ground.phase }], guard := none }) (v := .string (bs u)) rfl (by kernel_rfl) (by kernel_rfl) (by kernel_rfl) (fun _ _ _ h => h) (Or.inl ⟨by rfl, fun w hSw => by (try dsimp only at hSw); go_simp⟩) hHeld ?_
            try simp only [Act.put, List.setIfInBounds_toArray, List.set_cons_zero]
            refine wpAnyH_done (by kernel_rfl) ?_ _
            clear hHeld
            go_wp2
            go_roundg gk
            case measure => omega
            case rel => exact ⟨_, u, rfl, by omega, by omega, by omega, by omega, hpf, HO3.out, Lib.hid ((HKX.out.drew 1).belowTo (by rw [HBB.out]; exact HB3.out))⟩
        rcases hb with hb | hb
        · have bn1 : ((b.toNat : Int) == 36) = true := by rw [hb]; rfl
          have bn1' : ((b.toNat : Int) != 36) = false := by rw [hb]; rfl
          have bn2 : ((b.toNat : Int) == 37) = false := by rw [hb]; rfl
          have HST := Lib.hid (show stepL nmB kyB (b :: r') = placeL nmB kyB (kindOfWord (spanL azCh r').1) (spanL azCh r').2 by subst hb; exact stepL_wordK r' htw)
          have hE0 := spanL_eq azCh r'
          obtain ⟨K, hK⟩ : ∃ K, (spanL azCh r').1.length = K := ⟨_, rfl⟩
          have HFIN := Lib.hid fun i (h1 : i ≤ r'.length) (h2 : (r'.take i).all azCh = true) (h3 : ∀ hi : i < r'.length, azCh r'[i] = false) => (show i = K by rw [← hK, span_at h2 h3, List.length_take]; omega)
          have hKl : K ≤ r'.length := by have := congrArg List.length hE0.1; rw [List.length_append] at this; omega
          have x1 : r'.take K = (spanL azCh r').1 := by
            rw [← hK]
            generalize (spanL azCh r').1 = x at *
            generalize (spanL azCh r').2 = y at *
            rw [← hE0.1, List.take_left' rfl]
          have x2 : r'.drop K = (spanL azCh r').2 := by
            rw [← hK]
            generalize (spanL azCh r').1 = x at *
            generalize (spanL azCh r').2 = y at *
            rw [← hE0.1, List.drop_left' rfl]
          have hkw := kindOfWord_le (spanL azCh r').1
          rw [← x1, ← x2] at HST
          rw [← x1] at hkw
          have HKD := Lib.hid fun W => refKind_any (r'.take K) W
          have HF := Lib.hid fun (W : World) (h : Kp [] w W) => refPlace_any (k := kindOfWord (r'.take K)) (s := r'.drop K) (HE.out.kp0 h) (by omega) (by rw [List.length_drop]; omega)
          unfold FillPost at HF
          simp only [gpC] at HF
          have e1 : (bs (b :: r')).extract 1 (K + 1) = bs (r'.take K) := by rw [bs_mid, List.take_succ_cons, List.drop_succ_cons, List.drop_zero]
          have e2 : (bs (b :: r')).extract (K + 1) (bs (b :: r')).size = bs (r'.drop K) := by rw [bs_drop, List.drop_succ_cons]
          have e2' : (bs (b :: r')).extract (K + 1) (r'.length + 1) = bs (r'.drop K) := e2
          have hq3 : K + 1 ≤ (bs (b :: r')).size := by omega
          have hq4 : 1 ≤ K + 1 := by omega
          have tw1 : r' = [] ∨ ∃ c u, r' = c :: u ∧ ((c.toNat : Int) == (b.toNat : Int)) = false := by
            cases r' with
            | nil => exact .inl rfl
            | cons c u => exact .inr ⟨c, u, rfl, u8_neq (fun e => htw (by rw [e]; rfl))⟩
          clear hE0 x1 x2 hkw htw hK hb
          obtain ⟨kw, hkw⟩ : ∃ k, kindOfWord (r'.take K) = k := ⟨_, rfl⟩
          rw [hkw] at HKD HF HST
          clear hkw
          have HSZ := Lib.hid hsz
          clear hsz
          go_upto_region 9 with fail
          go_cut [42] (fun s42 wx => s42 = .bool false ∧ ∃ n, wx = W0.drewN n)
          case first =>
            rcases tw1 with h0 | ⟨c, u, h0, ccb⟩
            · have hzn : decide ((1 : Int) < ((bs (b :: r')).size : Int)) = false := by rw [HSZ.out, h0]; simp
              clear h0
              go_quiet (fail)
              go_wp2
              go_meet
              case rel => exact ⟨rfl, _, rfl⟩
            · have hl0 : r'.length = u.length + 1 := by rw [h0]; rfl
              have hz1 : 1 < (bs (b :: r')).size := by have := HSZ.out; omega
              have hz1i : (1 : Int) < ((bs (b :: r')).size : Int) := by omega
              have hg1 : (bs (b :: r'))[1]'hz1 = c := by subst h0; rfl
              clear h0 hl0
              go_quiet (fail)
              go_wp2
              go_meet
              case rel => exact ⟨rfl, _, rfl⟩
          case rest =>
            obtain ⟨rfl, nq, rfl⟩ := hcut
            have HKX := Lib.hid (hk.out.drew nq)
            have HOX := Lib.hid (HO.out.kp0 ((Kp.refl [] W0).drew nq))
            clear tw1
            generalize W0.drewN nq = Wq at *
            go_upto_if 67 with fail
            go_cut [5, 6] (fun s5 s6 wx => s5 = .int .i64 (kw : Int) ∧ s6 = .int .i64 ((K + 1 : Nat) : Int) ∧ Kp [] Wq wx)
            case first =>
              go_wp2_with fail
              go_loopg [6] r'.length (fun g s6 wx => Wq = wx ∧ ∃ i : Nat, s6 = .int .i64 ((i + 1 : Nat) : Int) ∧ i + g = r'.length ∧ Hid ((r'.take i).all azCh = true))
              case atStart => exact ⟨rfl, 0, rfl, by omega, Lib.hid rfl⟩
              case round =>
                obtain ⟨rfl, i, rfl, hig, HG3⟩ := hrel
                by_cases hi : i < r'.length
                · obtain ⟨g, rfl⟩ : ∃ g, gk = g + 1 := ⟨gk - 1, by omega⟩
                  have hiz : ((i + 1 : Nat) : Int) < ((bs (b :: r')).size : Int) := by have := HSZ.out; omega
                  have hiz' : i + 1 < (bs (b :: r')).size := by omega
                  obtain ⟨x, hx⟩ : ∃ x : UInt8, r'[i] = x := ⟨_, rfl⟩
                  have hgx : (bs (b :: r'))[i + 1]'hiz' = x := (bs_get (b :: r') (i + 1) hiz').trans hx
                  have hwi : IntKind.i64.wrap (((i + 1 : Nat) : Int) + 1) = ((i + 1 + 1 : Nat) : Int) := by rw [IntKind.wrap_i64]; omega
                  have hwi2 : IntKind.i64.wrap ((i : Int) + 1 + 1) = ((i + 1 + 1 : Nat) : Int) := by rw [IntKind.wrap_i64]; omega
                  have haz := u8_az x
                  have HST2 := Lib.hid (fun (h : azCh x = true) => (show (r'.take (i + 1)).all azCh = true by rw [List.take_add_one, List.getElem?_eq_getElem hi, hx, List.all_append, HG3.out]; simp [h]))
                  have HSP := Lib.hid (fun (h : azCh x = false) => HFIN.out i (by omega) HG3.out (fun _ => by rw [hx]; exact h))
                  have HIG := Lib.hid hig
                  by_cases h97 : (97 : Int) ≤ (x.toNat : Int)
                  · by_cases h122 : (x.toNat : Int) ≤ 122
                    · rw [decide_eq_true h97, decide_eq_true h122] at haz
                      have HS3 := Lib.hid (HST2.out haz)
                      clear haz hig hx hi HG3
                      go_wp2
                      go_roundg g
                      case measure => omega
                      case rel => exact ⟨rfl, i + 1, rfl, by have := HIG.out; omega, HS3⟩
                    · rw [decide_eq_true h97, decide_eq_false h122] at haz
                      obtain rfl := HSP.out haz
                      clear haz hig hx hi HG3 HST2 HSP
                      go_wp2_with (go_at_call 35; refine Calls.mono (by with_reducible exact HKD.out _) ?_; rintro e w5 ⟨rfl, hk5⟩)
                      go_meet
                      case rel => exact ⟨rfl, rfl, hk5⟩
                  · rw [decide_eq_false h97] at haz
                    obtain rfl := HSP.out haz
                    clear haz hig hx hi HG3 HST2 HSP
                    go_wp2_with (go_at_call 35; refine Calls.mono (by with_reducible exact HKD.out _) ?_; rintro e w5 ⟨rfl, hk5⟩)
                    go_meet
                    case rel => exact ⟨rfl, rfl, hk5⟩
                · have hiz : ¬ ((i + 1 : Nat) : Int) < ((bs (b :: r')).size : Int) := by have := HSZ.out; omega
                  obtain rfl := HFIN.out i (by omega) HG3.out (fun h => absurd h hi)
                  clear hig hi HG3
                  go_wp2_with (go_at_call 35; refine Calls.mono (by with_reducible exact HKD.out _) ?_; rintro e w5 ⟨rfl, hk5⟩)
                  go_meet
                  case rel => exact ⟨rfl, rfl, hk5⟩
            case rest =>
              obtain ⟨rfl, rfl, hk5⟩ := hcut
              have HKX := Lib.hid (HKX.out.trans hk5)
              have HOX := Lib.hid (HOX.out.kp0 hk5)
              clear hk5
              go_upto_region 21 with (go_at_call 36; refine Calls.mono (by with_reducible exact HF.out _ HKX.out) ?_; rintro e w2 ⟨p, rr, ok, rfl, hk2, hok⟩)
              have HK2 := Lib.hid (HKX.out.trans hk2)
              have HO2 := Lib.hid (HOX.out.kp0 hk2)
              rcases fill_cases hok with ⟨rfl, hfn⟩ | ⟨⟨qk, qt, qw, qm⟩, rfl, rfl, hfs⟩
              · have hE1 := HR.out none (hp.out.trans (pfrom_none acc (by simp) (HST.out.trans hfn)))
                simp only at hE1
                subst hE1
                clear HR hok hfn hk2
                go_wp2
                go_ret2
                exact ⟨_, rfl, hOB.out _ _, HK2.out.alloc _⟩
              · have hfs := HST.out.trans hfs
                obtain ⟨hf1, hf2, hf3⟩ := stepL_le hfs
                have hpf := Lib.hid (hp.out.trans (pfrom_step acc hfs))
                have hal2 := addP_len acc ⟨qk, qt, qw, qm⟩
                have hts2 := addP_tsum acc ⟨qk, qt, qw, qm⟩
                simp only [List.length_cons] at hts2 hf3 hf1
                have HAP := Lib.hid fun (W : World) (h : gpT.Own W B u4 (acc.map Pc.g)) (hB : B ≤ W.heap.size) => refAdd_any acc ⟨qk, qt, qw, qm⟩ h hB (by omega) (by show tsum acc + qt.length ≤ 1000000000; omega)
                simp only [gpC, Pc.g] at HAP ⊢
                clear hok hfs hk2 HR
                have hBw : B ≤ w2.heap.size := by have := HBB.out; have := HK2.out.size; omega
                go_wp2_with (go_at_call 33; refine Calls.mono (by with_reducible exact HAP.out _ (HO2.out.kp0 ((Kp.refl [] w2).alloc _)) (by simp; omega)) ?_; rintro e w3 ⟨v3, rfl, ho3, hb3⟩; have HO3 := Lib.hid ho3; have HB3 := Lib.hid hb3; clear ho3 hb3)
                go_roundg gk
                case measure => omega
                case rel => exact ⟨_, rr, rfl, by omega, by omega, by omega, by omega, hpf, HO3.out, Lib.hid ((HK2.out.alloc _).belowTo (by rw [HBB.out]; exact HB3.out))⟩
        · have bn1 : ((b.toNat : Int) == 36) = false := by rw [hb]; rfl
          have bn1' : ((b.toNat : Int) != 36) = true := by rw [hb]; rfl
          have bn2 : ((b.toNat : Int) == 37) = true := by rw [hb]; rfl
          have bn2' : ((b.toNat : Int) != 37) = false := by rw [hb]; rfl
          cases r' with
          | nil =>
            have HST := Lib.hid (show stepL nmB kyB [b] = placeL nmB kyB 0 [] by subst hb; rfl)
            have HF := Lib.hid fun (W : World) (h : Kp [] w W) => refPlace_0' (s := []) (w := W) (by simp)
            unfold FillPost at HF
            simp only [gpC] at HF
            have e2 : (bs [b]).extract 1 (bs [b]).size = bs [] := rfl
            have e2' : (bs [b]).extract 1 1 = bs [] := rfl
            have hzn : decide ((1 : Int) < ((bs [b]).size : Int)) = false := by rw [hsz]; simp
            clear hb htw
            clear hsz
            go_upto_region 9 with fail
            go_quiet (fail)
            have HKX := Lib.hid (hk.out.drew nq)
            have HOX := Lib.hid (HO.out.kp0 ((Kp.refl [] W0).drew nq))
            generalize W0.drewN nq = Wq at *
            go_upto_region 21 with (go_at_call 36; refine Calls.mono (by with_reducible exact HF.out _ HKX.out) ?_; rintro e w2 ⟨p, rr, ok, rfl, hk2, hok⟩)
            have HK2 := Lib.hid (HKX.out.trans hk2)
            have HO2 := Lib.hid (HOX.out.kp0 hk2)
            rcases fill_cases hok with ⟨rfl, hfn⟩ | ⟨⟨qk, qt, qw, qm⟩, rfl, rfl, hfs⟩
            · have hE1 := HR.out none (hp.out.trans (pfrom_none acc (by simp) (HST.out.trans hfn)))
              simp only at hE1
              subst hE1
              clear HR hok hfn hk2
              go_wp2
              go_ret2
              exact ⟨_, rfl, hOB.out _ _, HK2.out.alloc _⟩
            · have hfs := HST.out.trans hfs
              obtain ⟨hf1, hf2, hf3⟩ := stepL_le hfs
              have hpf := Lib.hid (hp.out.trans (pfrom_step acc hfs))
              have hal2 := addP_len acc ⟨qk, qt, qw, qm⟩
              have hts2 := addP_tsum acc ⟨qk, qt, qw, qm⟩
              simp only [List.length_cons] at hts2 hf3 hf1
              have HAP := Lib.hid fun (W : World) (h : gpT.Own W B u4 (acc.map Pc.g)) (hB : B ≤ W.heap.size) => refAdd_any acc ⟨qk, qt, qw, qm⟩ h hB (by omega) (by show tsum acc + qt.length ≤ 1000000000; omega)
              simp only [gpC, Pc.g] at HAP ⊢
              clear hok hfs hk2 HR
              have hBw : B ≤ w2.heap.size := by have := HBB.out; have := HK2.out.size; omega
              go_wp2_with (go_at_call 33; refine Calls.mono (by with_reducible exact HAP.out _ (HO2.out.kp0 ((Kp.refl [] w2).alloc _)) (by simp; omega)) ?_; rintro e w3 ⟨v3, rfl, ho3, hb3⟩; have HO3 := Lib.hid ho3; have HB3 := Lib.hid hb3; clear ho3 hb3)
              go_roundg gk
              case measure => omega
              case rel => exact ⟨_, rr, rfl, by omega, by omega, by omega, by omega, hpf, HO3.out, Lib.hid ((HK2.out.alloc _).belowTo (by rw [HBB.out]; exact HB3.out))⟩
          | cons c u =>
            rw [List.length_cons] at hrg hal hts hsz
            have hc : c ≠ b := fun e => htw (by rw [e]; rfl)
            have HST := Lib.hid (show stepL nmB kyB (b :: c :: u) = placeL nmB kyB (kindOfLetter c) u by subst hb; exact stepL_letterK c u hc)
            have hkl := kindOfLetter_le c
            have HF := Lib.hid fun (W : World) (h : Kp [] w W) => refPlace_any (k := kindOfLetter c) (s := u) (HE.out.kp0 h) (by omega) (by omega)
            unfold FillPost at HF
            simp only [gpC] at HF
            have hlk := ltr_kind c
            have hib := Tryz.strings_IndexByte ⟨#[32, 32, 107, 110, 112, 98, 100, 115, 69, 99, 80, 32]⟩ (c.toNat : Int)
            rw [show ((c.toNat : Int)).toNat.toUInt8 = c by simp, show (⟨#[32, 32, 107, 110, 112, 98, 100, 115, 69, 99, 80, 32]⟩ : ByteArray).data.toList = ltrs from rfl] at hib
            have hz1 : 1 < (bs (b :: c :: u)).size := by omega
            have hz1i : (1 : Int) < ((bs (b :: c :: u)).size : Int) := by omega
            have hg1 : (bs (b :: c :: u))[1]'hz1 = c := rfl
            have hq2 : 2 ≤ (bs (b :: c :: u)).size := by omega
            have e2 : (bs (b :: c :: u)).extract 2 (bs (b :: c :: u)).size = bs u := by rw [bs_drop]; rfl
            have e2' : (bs (b :: c :: u)).extract 2 (u.length + 1 + 1) = bs u := e2
            have ccb : ((c.toNat : Int) == (b.toNat : Int)) = false := u8_neq hc
            generalize Lib.indexByte ltrs c = z at *
            have HIB := Lib.hid hib
            by_cases h32 : c = 32
            · rw [if_pos h32] at hlk
              have c32 : ((c.toNat : Int) == 32) = true := by rw [h32]; rfl
              rw [← hlk] at HF
              clear hlk h32 hib hkl hc htw hb
              clear hsz
              go_upto_region 9 with fail
              go_quiet (fail)
              have HKX := Lib.hid (hk.out.drew nq)
              have HOX := Lib.hid (HO.out.kp0 ((Kp.refl [] W0).drew nq))
              generalize W0.drewN nq = Wq at *
              go_upto_region 21 with (first | (go_at_call 34; refine Calls.mono (by with_reducible exact HIB.out _) ?_; rintro e w1 ⟨rfl, hk1⟩; subst hk1) | (go_at_call 36; refine Calls.mono (by with_reducible exact HF.out _ HKX.out) ?_; rintro e w2 ⟨p, rr, ok, rfl, hk2, hok⟩))
              have HK2 := Lib.hid (HKX.out.trans hk2)
              have HO2 := Lib.hid (HOX.out.kp0 hk2)
              rcases fill_cases hok with ⟨rfl, hfn⟩ | ⟨⟨qk, qt, qw, qm⟩, rfl, rfl, hfs⟩
              · have hE1 := HR.out none (hp.out.trans (pfrom_none acc (by simp) (HST.out.trans hfn)))
                simp only at hE1
                subst hE1
                clear HR hok hfn hk2
                go_wp2
                go_ret2
                exact ⟨_, rfl, hOB.out _ _, HK2.out.alloc _⟩
              · have hfs := HST.out.trans hfs
                obtain ⟨hf1, hf2, hf3⟩ := stepL_le hfs
                have hpf := Lib.hid (hp.out.trans (pfrom_step acc hfs))
                have hal2 := addP_len acc ⟨qk, qt, qw, qm⟩
                have hts2 := addP_tsum acc ⟨qk, qt, qw, qm⟩
                simp only [List.length_cons] at hts2 hf3 hf1
                have HAP := Lib.hid fun (W : World) (h : gpT.Own W B u4 (acc.map Pc.g)) (hB : B ≤ W.heap.size) => refAdd_any acc ⟨qk, qt, qw, qm⟩ h hB (by omega) (by show tsum acc + qt.length ≤ 1000000000; omega)
                simp only [gpC, Pc.g] at HAP ⊢
                clear hok hfs hk2 HR
                have hBw : B ≤ w2.heap.size := by have := HBB.out; have := HK2.out.size; omega
                go_wp2_with (go_at_call 33; refine Calls.mono (by with_reducible exact HAP.out _ (HO2.out.kp0 ((Kp.refl [] w2).alloc _)) (by simp; omega)) ?_; rintro e w3 ⟨v3, rfl, ho3, hb3⟩; have HO3 := Lib.hid ho3; have HB3 := Lib.hid hb3; clear ho3 hb3)
                go_roundg gk
                case measure => omega
                case rel => exact ⟨_, rr, rfl, by omega, by omega, by omega, by omega, hpf, HO3.out, Lib.hid ((HK2.out.alloc _).belowTo (by rw [HBB.out]; exact HB3.out))⟩
            · rw [if_neg h32] at hlk
              have c32 : ((c.toNat : Int) == 32) = false := u8_ne (k := 32) (by decide) h32
              rw [← hlk] at HF
              clear hlk h32 hib hkl hc htw hb
              clear hsz
              go_upto_region 9 with fail
              go_quiet (fail)
              have HKX := Lib.hid (hk.out.drew nq)
              have HOX := Lib.hid (HO.out.kp0 ((Kp.refl [] W0).drew nq))
              generalize W0.drewN nq = Wq at *
              go_upto_region 21 with (first | (go_at_call 34; refine Calls.mono (by with_reducible exact HIB.out _) ?_; rintro e w1 ⟨rfl, hk1⟩; subst hk1) | (go_at_call 36; refine Calls.mono (by with_reducible exact HF.out _ HKX.out) ?_; rintro e w2 ⟨p, rr, ok, rfl, hk2, hok⟩))
              have HK2 := Lib.hid (HKX.out.trans hk2)
              have HO2 := Lib.hid (HOX.out.kp0 hk2)
              rcases fill_cases hok with ⟨rfl, hfn⟩ | ⟨⟨qk, qt, qw, qm⟩, rfl, rfl, hfs⟩
              · have hE1 := HR.out none (hp.out.trans (pfrom_none acc (by simp) (HST.out.trans hfn)))
                simp only at hE1
                subst hE1
                clear HR hok hfn hk2
                go_wp2
                go_ret2
                exact ⟨_, rfl, hOB.out _ _, HK2.out.alloc _⟩
              · have hfs := HST.out.trans hfs
                obtain ⟨hf1, hf2, hf3⟩ := stepL_le hfs
                have hpf := Lib.hid (hp.out.trans (pfrom_step acc hfs))
                have hal2 := addP_len acc ⟨qk, qt, qw, qm⟩
                have hts2 := addP_tsum acc ⟨qk, qt, qw, qm⟩
                simp only [List.length_cons] at hts2 hf3 hf1
                have HAP := Lib.hid fun (W : World) (h : gpT.Own W B u4 (acc.map Pc.g)) (hB : B ≤ W.heap.size) => refAdd_any acc ⟨qk, qt, qw, qm⟩ h hB (by omega) (by show tsum acc + qt.length ≤ 1000000000; omega)
                simp only [gpC, Pc.g] at HAP ⊢
                clear hok hfs hk2 HR
                have hBw : B ≤ w2.heap.size := by have := HBB.out; have := HK2.out.size; omega
                go_wp2_with (go_at_call 33; refine Calls.mono (by with_reducible exact HAP.out _ (HO2.out.kp0 ((Kp.refl [] w2).alloc _)) (by simp; omega)) ?_; rintro e w3 ⟨v3, rfl, ho3, hb3⟩; have HO3 := Lib.hid ho3; have HB3 := Lib.hid hb3; clear ho3 hb3)
                go_roundg gk
                case measure => omega
                case rel => exact ⟨_, rr, rfl, by omega, by omega, by omega, by omega, hpf, HO3.out, Lib.hid ((HK2.out.alloc _).belowTo (by rw [HBB.out]; exact HB3.out))⟩
end Go.Proofs.YtfpkppgecmbglaaGreatDoor
