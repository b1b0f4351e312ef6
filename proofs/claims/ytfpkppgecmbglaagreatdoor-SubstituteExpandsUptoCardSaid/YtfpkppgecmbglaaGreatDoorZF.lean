/- Format. -/
import Derived.Test.YtfpkppgecmbglaaGreatDoorZE
import Derived.Test.YtfpkppgecmbglaaGreatDoorV
import Derived.Deep.RegionHeld3
import Derived.Deep.CutBlock
namespace Go.Proofs.YtfpkppgecmbglaaGreatDoor
open Go.RowKit

theorem pcell {w : World} {b : Nat} {k n : Int} {t : List UInt8} {m : Bool} (h : PAt w b ⟨k, t, n, m⟩) : w.cell? ⟨b, 0, none⟩ = some (.int .i64 k) ∧ w.cell? ⟨b, 1, none⟩ = some (.string (bs t)) ∧ w.cell? ⟨b, 2, none⟩ = some (.int .i64 n) ∧ w.cell? ⟨b, 3, none⟩ = some (.bool m) := h.cells
theorem gcell {w : World} {b o : Nat} {l : List Gp} (h : gpT.Row w b o l) {j : Nat} {k n : Int} {t : List UInt8} {m : Bool} (hx : l[j]? = some ⟨k, t, n, m⟩) :
    w.cell? ⟨b, o + j * 4, none⟩ = some (.int .i64 k) ∧ w.cell? ⟨b, o + j * 4 + 1, none⟩ = some (.string (bs t)) ∧ w.cell? ⟨b, o + j * 4 + 2, none⟩ = some (.int .i64 n) ∧ w.cell? ⟨b, o + j * 4 + 3, none⟩ = some (.bool m) := gpRow h hx
/-- A text is appended to an own row of bytes, in a drawn region. -/
theorem step_append_by {ops : Array Oper} {o : Oper} {a : Act} {w : World} {K : Act → World → Prop} {Q : Exit → Act → World → Prop} {E : Prop} (hg : o.guard = none) (sl x : Operand)
    (ho : o.op = .call { callee := .builtin .append, args := #[sl, x], argTypes := #[70, 9] }) (B : Nat) (v : Value) (l t : List UInt8) (hs : a.eval sl = v) (hown : byT.Own w B v l) (hx : a.eval x = .string (bs t)) (hl : l.length + t.length ≤ 1000000000) (hB : B ≤ w.heap.size)
    (hK : ∀ q cp w', byT.Own w' B (.slice q (l.length + t.length) cp) (l ++ t) → w.grownBy w' v.ownBlock → K (a.put o.dst (.slice q (l.length + t.length) cp)) w') :
    if Region.wanted o (yielded ops a.tmps) = true then Oper.wp Tryz.prog o a w K Q else E := by
  have hw : Region.wanted o (yielded ops a.tmps) = true := by simp [Region.wanted, hg]
  rw [if_pos hw]
  obtain ⟨i0, hi, hz0, hz1, hz2⟩ := info_parts info5
  obtain ⟨v', w', h0, h1, h2, _⟩ := Lib.run_append_own_string (P := Tryz.prog) w B 70 9 o.type 5 i0 Tryz.underlying70 Tryz.underlying9 hi hz0 hz1 hz2 v l.length (byT.cells l) hown (bs t) (by rw [bs_size]; unfold maxLen; omega) (by rw [bs_size]; omega) hB
  have h5 : byT.Own w' B v' (l ++ t) := by
    unfold RT.Own
    rw [RT.cells_append, List.length_append]
    have e : byT.cells t = Lib.strCells (bs t) := flat_map _ t
    rw [e]
    exact h1
  obtain ⟨q, cp, hv⟩ := h5.form
  rw [List.length_append] at hv
  subst hv
  unfold Oper.wp
  simp [execOp, ho, resolve, invoke, builtin, hs, hx, h0, Result.andThen]
  exact hK q cp w' h5 h2
set_option maxHeartbeats 16000000 in
set_option maxRecDepth 100000 in
theorem format_any {w : World} (hE : Env w) {sv : Value} {l : List Gp} (hl : l.length ≤ 1000000) (hh : gpT.Has w sv l) (hs : ∀ x ∈ l, x.text.length ≤ 1000000000000) : Calls Tryz.prog 18 #[sv] w fun e w' => e = .returned (.tuple #[.string (bs (formatE l).1), .int .i64 (formatE l).2]) ∧ Kp [] w w' := by
  obtain ⟨F, hF⟩ : ∃ F, formatE l = F := ⟨_, rfl⟩
  rw [hF]
  have HBAD := Lib.hid (show ∀ i, i < l.length → adjB l i = false → F = ([], 90) from fun i hi hb => by
    rw [← hF]
    unfold formatE
    rw [if_neg (fun h => by rw [(okAll_iff l).1 h i hi] at hb; cases hb)])
  have HOK := Lib.hid (show (∀ j, j < l.length → adjB l j = true) → F = fmtR l [] from fun h => by
    rw [← hF]
    unfold formatE
    rw [if_pos ((okAll_iff l).2 h)])
  obtain ⟨va, vc, rfl, hrow⟩ := hh.form
  have HRow := Lib.hid hrow
  have HOB := Lib.hid (RT.Own.nil byT)
  have HE := Lib.hid hE
  obtain ⟨B, hB⟩ : ∃ B, w.heap.size = B := ⟨_, rfl⟩
  have HB := Lib.hid hB
  obtain ⟨N, hN⟩ : ∃ N, l.length = N := ⟨_, rfl⟩
  rw [hN] at hl HBAD HOK ⊢
  have HN := Lib.hid hN
  clear hF hrow hh hE hB hN
  go_enter Tryz.func18, Tryz.ntmps18
  go_wp2
  go_loopg [11] N (fun g s11 wx => ∃ i : Nat, s11 = .int .i64 (i : Int) ∧ i + g = N ∧ Hid (∀ j, j < i → adjB l j = true) ∧ Hid (Kp [] w wx))
  case atStart => exact ⟨0, rfl, by omega, Lib.hid (fun j hj => by omega), Lib.hid (Kp.refl _ _)⟩
  case round =>
    obtain ⟨i, rfl, hig, hadj, hk⟩ := hrel
    cases gk with
    | zero =>
      have hiN : i = N := by omega
      subst hiN
      have HF := Lib.hid (HOK.out hadj.out)
      have HF0 := Lib.hid (HOK.out hadj.out)
      have HADJ := Lib.hid hadj.out
      have HK1 := Lib.hid hk.out
      have hlt : ¬ ((i : Int) < (i : Int)) := by omega
      clear hadj hk HBAD HOK hig
      go_upto_region 7 with fail
      go_wp2
      rename World => WO
      have HON := Lib.hid (RT.Own.nil byT WO B)
      go_loopg [6, 36] i (fun g s6 s36 wx => ∃ (k : Nat) (tx : List UInt8), s36 = .int .i64 (k : Int) ∧ k + g = i ∧ byT.Own wx B s6 tx ∧ Hid (fmtR l [] = fmtR (l.drop k) tx) ∧ tx.length ≤ 256 ∧ Hid (Kp [] w wx))
      case atStart => exact ⟨0, [], rfl, by omega, HON.out, Lib.hid rfl, by simp, HK1⟩
      case round =>
        obtain ⟨k, tx, rfl, hkg, hO, hfr, htl, hk2⟩ := hrel
        have HO := Lib.hid hO
        obtain ⟨ta, tc, rfl⟩ := hO.form
        have hwlen : tx.length ≤ 256 := htl
        clear hO
        cases gk with
        | zero =>
          have hki : k = i := by omega
          have hfin : F = (tx, 0) := by
            rw [HF.out, hfr.out, hki, List.drop_eq_nil_of_le (by rw [HN.out]; omega)]
            rfl
          have HFI := Lib.hid hfin
          have hlk : ¬ ((k : Int) < (i : Int)) := by omega
          have hcv := by_conv HO.out
          clear hfin hkg hfr htl
          go_wp2
          go_ret2
          rw [HFI.out]
          exact ⟨rfl, hk2.out⟩
        | succ gk =>
          have hki : k < i := by omega
          have hlk : (k : Int) < (i : Int) := by omega
          obtain ⟨x, hx⟩ : ∃ x, l[k]? = some x := ⟨_, List.getElem?_eq_getElem (by rw [HN.out]; exact hki)⟩
          obtain ⟨bl, ol, rfl, hbl, hrw⟩ := HRow.out (by intro e; rw [e] at hx; simp at hx)
          have hrw2 : gpT.Row wr bl ol l := hrw.keep (hk2.out.block bl hbl (by simp))
          have hpo := pcOf_ok (adj_ok hx (HADJ.out k hki))
          have hxs : x.text.length ≤ 1000000000000 := hs x (List.mem_of_getElem? hx)
          have hdk : l.drop k = x :: l.drop (k + 1) := by
            have hkl : k < l.length := by rw [HN.out]; exact hki
            rw [List.drop_eq_getElem_cons hkl]
            rw [List.getElem?_eq_getElem hkl] at hx
            rw [Option.some.inj hx]
          obtain ⟨⟨pk, pt, pw, pm⟩, hp⟩ : ∃ p, pcOf x = p := ⟨_, rfl⟩
          rw [hp] at hpo
          obtain ⟨hxg, hpk1, hpk2, hpw, -⟩ := hpo
          simp only [Pc.g] at hxg hpk1 hpk2 hpw
          subst hxg
          have HF2 := Lib.hid (show F = if 256 < pt.length then ([], 91) else if 256 < (tx ++ wrX ⟨pk, pt, pw, pm⟩ (smN (l.drop (k + 1)))).length then ([], 91) else fmtR (l.drop (k + 1)) (tx ++ wrX ⟨pk, pt, pw, pm⟩ (smN (l.drop (k + 1)))) from by
            rw [HF.out, hfr.out, hdk, ← hp]
            rfl)
          have HWR := Lib.hid (fun (sm : Bool) W (h : Kp [] w W) => written_any pk pt pw pm sm W (HE.out.kp0 h) hpk1 hpk2)
          obtain ⟨d0, d1, d2, d3⟩ := gcell hrw2 hx
          obtain ⟨P, hP⟩ : ∃ P, wr.heap.size = P := ⟨_, rfl⟩
          obtain ⟨W3, hW3⟩ : ∃ W3, wr.alloc (.cells #[.int .i64 (pk : Int), .string (bs pt), .int .i64 (pw : Int), .bool pm] 61) = W3 := ⟨_, rfl⟩
          have hk3 : Kp [] wr W3 := by rw [← hW3]; exact (Kp.refl [] wr).alloc _
          have HP3 := Lib.hid (show PAt W3 P ⟨(pk : Int), pt, (pw : Int), pm⟩ by rw [← hW3, ← hP]; exact heap_alloc_last wr _)
          have HK3 := Lib.hid (hk2.out.trans hk3)
          have HRw := Lib.hid hrw
          have Hbl := Lib.hid hbl
          have HO3 := Lib.hid (HO.out.kp0 hk3)
          have HPO := Lib.hid (show ∀ b, (Value.slice ta tx.length tc).ownBlock = some b → B ≤ b ∧ b < P from fun b hb => by have h1 := HO.out.ge b hb; omega)
          have HW3 := Lib.hid hW3
          have HPe := Lib.hid hP
          have hsz : (bs pt).size = pt.length := rfl
          have HKG := Lib.hid hkg
          clear hx hxs hdk hp hrw hrw2 hk3 hW3 hP hbl hkg htl hfr
          go_upto_region 11 with fail
          rw [HPe.out, HW3.out]
          clear d0 d1 d2 d3
          obtain ⟨d0, d1, d2, d3⟩ := pcell HP3.out
          by_cases h256 : 256 < pt.length
          · have hz : (256 : Int) < (pt.length : Int) := by omega
            have HF3 := Lib.hid (show F = ([], 91) by rw [HF2.out, if_pos h256])
            go_wp2
            go_ret2
            rw [HF3.out]
            exact ⟨rfl, HK3.out⟩
          have hz : ¬ ((256 : Int) < (pt.length : Int)) := by omega
          have HWL := Lib.hid (fun sm => wrX_len ⟨pk, pt, pw, pm⟩ sm hpw (by show pt.length ≤ 256; omega))
          have HWR2 := Lib.hid (show ∀ (sm : Bool) W, Kp [] w W → Calls Tryz.prog 39 #[.agg #[.int .i64 (pk : Int), .string (bs pt), .int .i64 (pw : Int), .bool pm], .bool sm] W (fun e w' => e = .returned (.string (bs (wrX ⟨pk, pt, pw, pm⟩ sm))) ∧ Kp [] W w') from fun sm W h => HWR.out sm W h (by omega) hpw)
          obtain ⟨m, hm⟩ : ∃ m, k + 1 = m := ⟨_, rfl⟩
          rw [hm, if_neg h256] at HF2
          have hkm : (k : Int) + 1 = (m : Int) := by omega
          have hwm : wrap64 (m : Int) = (m : Int) := by unfold wrap64; omega
          have hwm2 : IntKind.i64.wrap (m : Int) = (m : Int) := by rw [IntKind.wrap_i64]; omega
          have hm0 : (0 : Int) ≤ (m : Int) := by omega
          clear HWR HF HPe HW3 HO
          go_upto_region 13 with fail
          clear d0 d1 d2 d3 hz
          go_cut [6] (fun s6 wx => ∃ (q : Option Addr) (cp : Nat), s6 = .slice q (tx ++ wrX ⟨pk, pt, pw, pm⟩ (smN (l.drop m))).length cp ∧ Hid (byT.Own wx B (.slice q (tx ++ wrX ⟨pk, pt, pw, pm⟩ (smN (l.drop m))).length cp) (tx ++ wrX ⟨pk, pt, pw, pm⟩ (smN (l.drop m)))) ∧ Hid (Kp [] w wx))
          case first =>
            rcases Nat.lt_or_ge m i with hmi | hmi
            · have hmi2 : (m : Int) < (i : Int) := by omega
              obtain ⟨⟨yk, yt, yn, ym⟩, hy⟩ : ∃ y, l[m]? = some y := ⟨_, List.getElem?_eq_getElem (by rw [HN.out]; exact hmi)⟩
              have HY := Lib.hid hy
              have hsm : smN (l.drop m) = smG ⟨yk, yt, yn, ym⟩ := by
                have hml : m < l.length := by rw [HN.out]; exact hmi
                rw [List.drop_eq_getElem_cons hml]
                rw [List.getElem?_eq_getElem hml] at hy
                rw [Option.some.inj hy]
                rfl
              have HBS := Lib.hid (show ∀ W, Calls Tryz.prog 40 #[.agg #[.int .i64 yk, .string (bs yt), .int .i64 yn, .bool ym]] W (fun e w' => e = .returned (.bool (smG ⟨yk, yt, yn, ym⟩)) ∧ Kp [] W w') from fun W => beginsSmall_any ⟨yk, yt, yn, ym⟩ W (pcOf_ok (adj_ok hy (HADJ.out m hmi))).2.2.2.2)
              obtain ⟨sm, hsmv⟩ : ∃ b, smG ⟨yk, yt, yn, ym⟩ = b := ⟨_, rfl⟩
              rw [hsmv] at HBS hsm
              have HSM := Lib.hid hsm
              clear hy hsm hsmv
              refine wp_region_held_drew (S := fun W => PAt W P ⟨(pk : Int), pt, (pw : Int), pm⟩ ∧ gpT.Row W bl ol l ∧ Kp [] w W) (by kernel_rfl) (show PAt W3.drew P ⟨(pk : Int), pt, (pw : Int), pm⟩ ∧ gpT.Row W3.drew bl ol l ∧ Kp [] w W3.drew from ⟨(HP3.out.kp ((Kp.refl [] W3).drew 1) (by simp)), HRw.out.keep ((HK3.out.drew 1).block bl Hbl.out (by simp)), HK3.out.drew 1⟩) (fun hHeld => ?_)
              have HOd := Lib.hid (show byT.Own W3.drew B (.slice ta tx.length tc) tx from HO3.out.kp0 ((Kp.refl [] W3).drew 1))
              have HSz := Lib.hid (show P < W3.drew.heap.size from block_lt HP3.out)
              generalize hwd : W3.drew = wd at *
              clear hwd
              refine wpAnyH_take (i := 0) (oi := { dst := some 45, op := Op.move (Operand.tmp 6), type := 70, pos := "substitute.go:48", after := #[], guard := none }) (v := .slice ta tx.length tc) rfl (by kernel_rfl) (by kernel_rfl) (by kernel_rfl) (fun _ _ _ h => h) (Or.inl ⟨by rfl, fun w hSw => by (try dsimp only at hSw); go_simp⟩) hHeld ?_
              try simp only [Act.put, List.setIfInBounds_toArray, List.set_cons_zero, List.set_cons_succ]
              refine wpAnyH_take (i := 1) (oi := { dst := some 46, op := Op.load 61 (Operand.tmp 8), type := 61, pos := "substitute.go:48", after := #[], guard := none }) (v := .agg #[.int .i64 (pk : Int), .string (bs pt), .int .i64 (pw : Int), .bool pm]) rfl (by kernel_rfl) (by kernel_rfl) (by kernel_rfl) (fun _ _ _ h => h) (Or.inl ⟨by rfl, fun w hSw => by (try dsimp only at hSw); obtain ⟨c0, c1, c2, c3⟩ := pcell hSw.1; go_simp⟩) hHeld ?_
              try simp only [Act.put, List.setIfInBounds_toArray, List.set_cons_zero, List.set_cons_succ]
              refine wpAnyH_take (i := 2) (oi := { dst := some 47, op := Op.move (Operand.tmp 7), type := 3, pos := "substitute.go:48", after := #[], guard := none }) (v := .int .i64 (k : Int)) rfl (by kernel_rfl) (by kernel_rfl) (by kernel_rfl) (fun _ _ _ h => h) (Or.inl ⟨by rfl, fun w hSw => by (try dsimp only at hSw); go_simp⟩) hHeld ?_
              try simp only [Act.put, List.setIfInBounds_toArray, List.set_cons_zero, List.set_cons_succ]
              refine wpAnyH_take (i := 3) (oi := { dst := some 48, op := Op.binOp BinOp.add 3 (Operand.tmp 47) (Operand.const (Value.int IntKind.i64 1)) 3, type := 3, pos := "substitute.go:48", after := #[{ on := 2, ground := Ground.data }], guard := none }) (v := .int .i64 (m : Int)) rfl (by kernel_rfl) (by kernel_rfl) (by kernel_rfl) (fun _ _ _ h => h) (Or.inl ⟨by rfl, fun w hSw => by (try dsimp only at hSw); go_simp⟩) hHeld ?_
              try simp only [Act.put, List.setIfInBounds_toArray, List.set_cons_zero, List.set_cons_succ]
              refine wpAnyH_take (i := 4) (oi := { dst := some 49, op := Op.move (Operand.tmp 0), type := 29, pos := "substitute.go:48", after := #[], guard := none }) (v := .slice (some ⟨bl, ol, none⟩) i vc) rfl (by kernel_rfl) (by kernel_rfl) (by kernel_rfl) (fun _ _ _ h => h) (Or.inl ⟨by rfl, fun w hSw => by (try dsimp only at hSw); go_simp⟩) hHeld ?_
              try simp only [Act.put, List.setIfInBounds_toArray, List.set_cons_zero, List.set_cons_succ]
              refine wpAnyH_take (i := 5) (oi := { dst := some 50, op := Op.call { callee := Callee.builtin Builtin.len, args := #[Operand.tmp 49], argTypes := #[29] }, type := 3, pos := "substitute.go:48", after := #[{ on := 4, ground := Ground.data }], guard := none }) (v := .int .i64 (i : Int)) rfl (by kernel_rfl) (by kernel_rfl) (by kernel_rfl) (fun _ _ _ h => h) (Or.inl ⟨by rfl, fun w hSw => by (try dsimp only at hSw); go_simp⟩) hHeld ?_
              try simp only [Act.put, List.setIfInBounds_toArray, List.set_cons_zero, List.set_cons_succ]
              refine wpAnyH_take (i := 6) (oi := { dst := some 51, op := Op.binOp BinOp.lss 3 (Operand.tmp 48) (Operand.tmp 50) 3, type := 4, pos := "substitute.go:48", after := #[{ on := 3, ground := Ground.data }, { on := 5, ground := Ground.data }], guard := none }) (v := .bool true) rfl (by kernel_rfl) (by kernel_rfl) (by kernel_rfl) (fun _ _ _ h => h) (Or.inl ⟨by rfl, fun w hSw => by (try dsimp only at hSw); go_simp⟩) hHeld ?_
              try simp only [Act.put, List.setIfInBounds_toArray, List.set_cons_zero, List.set_cons_succ]
              refine wpAnyH_take (i := 7) (oi := { dst := some 52, op := Op.move (Operand.tmp 51), type := 4, pos := "substitute.go:48", after := #[{ on := 6, ground := Ground.data }], guard := none }) (v := .bool true) rfl (by kernel_rfl) (by kernel_rfl) (by kernel_rfl) (fun _ _ _ h => h) (Or.inl ⟨by rfl, fun w hSw => by (try dsimp only at hSw); go_simp⟩) hHeld ?_
              try simp only [Act.put, List.setIfInBounds_toArray, List.set_cons_zero, List.set_cons_succ]
              refine wpAnyH_take (i := 8) (oi := { dst := some 53, op := Op.move (Operand.tmp 0), type := 29, pos := "substitute.go:48", after := #[{ on := 7, ground := Ground.guard }], guard := some (7, true) }) (v := .slice (some ⟨bl, ol, none⟩) i vc) rfl (by kernel_rfl) (by kernel_rfl) (by kernel_rfl) (fun _ _ _ h => h) (Or.inl ⟨by rfl, fun w hSw => by (try dsimp only at hSw); go_simp⟩) hHeld ?_
              try simp only [Act.put, List.setIfInBounds_toArray, List.set_cons_zero, List.set_cons_succ]
              refine wpAnyH_take (i := 9) (oi := { dst := some 54, op := Op.move (Operand.tmp 7), type := 3, pos := "substitute.go:48", after := #[{ on := 7, ground := Ground.guard }], guard := some (7, true) }) (v := .int .i64 (k : Int)) rfl (by kernel_rfl) (by kernel_rfl) (by kernel_rfl) (fun _ _ _ h => h) (Or.inl ⟨by rfl, fun w hSw => by (try dsimp only at hSw); go_simp⟩) hHeld ?_
              try simp only [Act.put, List.setIfInBounds_toArray, List.set_cons_zero, List.set_cons_succ]
              refine wpAnyH_take (i := 10) (oi := { dst := some 55, op := Op.binOp BinOp.add 3 (Operand.tmp 54) (Operand.const (Value.int IntKind.i64 1)) 3, type := 3, pos := "substitute.go:48", after := #[{ on := 9, ground := Ground.data }, { on := 7, ground := Ground.guard }], guard := some (7, true) }) (v := .int .i64 (m : Int)) rfl (by kernel_rfl) (by kernel_rfl) (by kernel_rfl) (fun _ _ _ h => h) (Or.inl ⟨by rfl, fun w hSw => by (try dsimp only at hSw); go_simp⟩) hHeld ?_
              try simp only [Act.put, List.setIfInBounds_toArray, List.set_cons_zero, List.set_cons_succ]
              refine wpAnyH_take (i := 11) (oi := { dst := some 56, op := Op.indexAddr 29 (Operand.tmp 53) (Operand.tmp 55), type := 0, pos := "substitute.go:48", after := #[{ on := 8, ground := Ground.data }, { on := 10, ground := Ground.data }, { on := 7, ground := Ground.guard }], guard := some (7, true) }) (v := .pointer (some ⟨bl, ol + m * 4, none⟩)) rfl (by kernel_rfl) (by kernel_rfl) (by kernel_rfl) (fun _ _ _ h => h) (Or.inl ⟨by rfl, fun w hSw => by (try dsimp only at hSw); go_simp⟩) hHeld ?_
              try simp only [Act.put, List.setIfInBounds_toArray, List.set_cons_zero, List.set_cons_succ]
              refine wpAnyH_take (i := 12) (oi := { dst := some 57, op := Op.load 61 (Operand.tmp 56), type := 61, pos := "substitute.go:48", after := #[{ on := 11, ground := Ground.data }, { on := 7, ground := Ground.guard }], guard := some (7, true) }) (v := .agg #[.int .i64 yk, .string (bs yt), .int .i64 yn, .bool ym]) rfl (by kernel_rfl) (by kernel_rfl) (by kernel_rfl) (fun _ _ _ h => h) (Or.inl ⟨by rfl, fun w hSw => by (try dsimp only at hSw); obtain ⟨c0, c1, c2, c3⟩ := gcell hSw.2.1 HY.out; go_simp⟩) hHeld ?_
              try simp only [Act.put, List.setIfInBounds_toArray, List.set_cons_zero, List.set_cons_succ]
              refine wpAnyH_ready (rs := [13]) (by kernel_rfl) (by simp) ?_
              refine AllReadyH.cons (o := { dst := some 58, op := Op.call { callee := Callee.value (Operand.func 40), args := #[Operand.tmp 57], argTypes := #[61] }, type := 4, pos := "substitute.go:48", after := #[{ on := 12, ground := Ground.data }, { on := 7, ground := Ground.chain }, { on := 7, ground := Ground.guard }], guard := some (7, true) }) rfl (fun K hK => ?_) AllReadyH.nil
              go_simp
              go_at_call 40
              refine Calls.mono (by with_reducible exact HBS.out _) ?_
              rintro e V1 ⟨rfl, hkv⟩
              dsimp only
              have hS := show PAt V1 P ⟨(pk : Int), pt, (pw : Int), pm⟩ ∧ gpT.Row V1 bl ol l ∧ Kp [] w V1 from ⟨hHeld.1.kp hkv (by simp), hHeld.2.1.keep (hkv.block bl (Nat.lt_of_lt_of_le Hbl.out hHeld.2.2.size) (by simp)), hHeld.2.2.trans hkv⟩
              have HO1 := Lib.hid (HOd.out.kp0 hkv)
              have HSz1 := Lib.hid (Nat.lt_of_lt_of_le HSz.out hkv.size)
              clear hkv
              clear hHeld
              refine hK.out _ _ hS (fun hHeld => ?_)
              try simp only [Act.put, List.setIfInBounds_toArray, List.set_cons_zero, List.set_cons_succ]
              clear hK
              clear hS
              refine wpAnyH_take (i := 14) (oi := { dst := some 59, op := Op.pick (Operand.tmp 52) (Operand.tmp 58) (Operand.const (Value.bool false)), type := 4, pos := "substitute.go:48", after := #[{ on := 7, ground := Ground.data }, { on := 13, ground := Ground.data }], guard := none }) (v := .bool sm) rfl (by kernel_rfl) (by kernel_rfl) (by kernel_rfl) (fun _ _ _ h => h) (Or.inl ⟨by rfl, fun w hSw => by (try dsimp only at hSw); go_simp⟩) hHeld ?_
              try simp only [Act.put, List.setIfInBounds_toArray, List.set_cons_zero, List.set_cons_succ]
              refine wpAnyH_ready (rs := [15]) (by kernel_rfl) (by simp) ?_
              refine AllReadyH.cons (o := { dst := some 60, op := Op.call { callee := Callee.value (Operand.func 39), args := #[Operand.tmp 46, Operand.tmp 59], argTypes := #[61, 4] }, type := 9, pos := "substitute.go:48", after := #[{ on := 1, ground := Ground.data }, { on := 14, ground := Ground.data }, { on := 13, ground := Ground.chain }], guard := none }) rfl (fun K hK => ?_) AllReadyH.nil
              go_simp
              go_at_call 39
              refine Calls.mono (by with_reducible exact HWR2.out _ _ hHeld.2.2) ?_
              rintro e V2 ⟨rfl, hkv⟩
              dsimp only
              have hS := show PAt V2 P ⟨(pk : Int), pt, (pw : Int), pm⟩ ∧ gpT.Row V2 bl ol l ∧ Kp [] w V2 from ⟨hHeld.1.kp hkv (by simp), hHeld.2.1.keep (hkv.block bl (Nat.lt_of_lt_of_le Hbl.out hHeld.2.2.size) (by simp)), hHeld.2.2.trans hkv⟩
              have HO2 := Lib.hid (HO1.out.kp0 hkv)
              have HSz2 := Lib.hid (Nat.lt_of_lt_of_le HSz1.out hkv.size)
              clear hkv
              clear hHeld
              refine hK.out _ _ hS (fun hHeld => ?_)
              try simp only [Act.put, List.setIfInBounds_toArray, List.set_cons_zero, List.set_cons_succ]
              clear hK
              clear hS
              refine wpAnyH_ready (rs := [16]) (by kernel_rfl) (by simp) ?_
              refine AllReadyH.cons (o := { dst := some 61, op := Op.call { callee := Callee.builtin Builtin.append, args := #[Operand.tmp 45, Operand.tmp 60], argTypes := #[70, 9] }, type := 70, pos := "substitute.go:48", after := #[{ on := 0, ground := Ground.data }, { on := 15, ground := Ground.data }, { on := 15, ground := Ground.chain }], guard := none }) rfl (fun K hK => ?_) AllReadyH.nil
              refine step_append_by rfl (.tmp 45) (.tmp 60) rfl B (.slice ta tx.length tc) tx (wrX ⟨pk, pt, pw, pm⟩ sm) rfl HO2.out rfl (by have := HWL.out sm; omega) (by have := hHeld.2.2.size; rw [HB.out] at this; exact this) ?_
              intro q cp w8 hown hgr
              have hS := show PAt w8 P ⟨(pk : Int), pt, (pw : Int), pm⟩ ∧ gpT.Row w8 bl ol l ∧ Kp [] w w8 from by
                have h1 := kp_grownV hHeld.2.2 hgr (fun b hb => by rw [HB.out]; exact (HPO.out b hb).1)
                exact ⟨(hgr.block P HSz2.out (fun e => by have := (HPO.out P e.symm).2; omega)).trans hHeld.1, HRw.out.keep (h1.block bl Hbl.out (by simp)), h1⟩
              have HO8 := Lib.hid hown
              clear hHeld hown hgr
              refine hK.out _ _ hS (fun hHeld => ?_)
              try simp only [Act.put, List.setIfInBounds_toArray, List.set_cons_zero, List.set_cons_succ]
              clear hK hS
              refine wpAnyH_take (i := 17) (oi := { dst := some 6, op := Op.assign (Operand.tmp 61), type := 70, pos := "substitute.go:48", after := #[{ on := 16, ground := Ground.data }, { on := 16, ground := Ground.chain }, { on := 0, ground := Ground.phase }, { on := 1, ground := Ground.phase }, { on := 2, ground := Ground.phase }, { on := 3, ground := Ground.phase }, { on := 4, ground := Ground.phase }, { on := 5, ground := Ground.phase }, { on := 6, ground := Ground.phase }, { on := 7, ground := Ground.phase }, { on := 8, ground := Ground.phase }, { on := 9, ground := Ground.phase }, { on := 10, ground := Ground.phase }, { on := 11, ground := Ground.phase }, { on := 12, ground := Ground.phase }, { on := 13, ground := Ground.phase }, { on := 14, ground := Ground.phase }, { on := 15, ground := Ground.phase }, { on := 16, ground := Ground.phase }], guard := none }) (v := .slice q (tx.length + (wrX ⟨pk, pt, pw, pm⟩ sm).length) cp) rfl (by kernel_rfl) (by kernel_rfl) (by kernel_rfl) (fun _ _ _ h => h) (Or.inl ⟨by rfl, fun w hSw => by (try dsimp only at hSw); go_simp⟩) hHeld ?_
              try simp only [Act.put, List.setIfInBounds_toArray, List.set_cons_zero, List.set_cons_succ]
              have HSe := Lib.hid hHeld.2.2
              refine wpAnyH_done (by kernel_rfl) ?_ _
              clear hHeld
              go_wp2
              go_meet
              rw [HSM.out, List.length_append]
              exact ⟨q, cp, rfl, HO8, HSe⟩
            · have hmi2 : ¬ (m : Int) < (i : Int) := by omega
              have hsm : smN (l.drop m) = false := by
                rw [List.drop_eq_nil_of_le (by rw [HN.out]; exact hmi)]
                rfl
              have HSM := Lib.hid hsm
              clear hsm
              refine wp_region_held_drew (S := fun W => PAt W P ⟨(pk : Int), pt, (pw : Int), pm⟩ ∧ gpT.Row W bl ol l ∧ Kp [] w W) (by kernel_rfl) (show PAt W3.drew P ⟨(pk : Int), pt, (pw : Int), pm⟩ ∧ gpT.Row W3.drew bl ol l ∧ Kp [] w W3.drew from ⟨(HP3.out.kp ((Kp.refl [] W3).drew 1) (by simp)), HRw.out.keep ((HK3.out.drew 1).block bl Hbl.out (by simp)), HK3.out.drew 1⟩) (fun hHeld => ?_)
              have HOd := Lib.hid (show byT.Own W3.drew B (.slice ta tx.length tc) tx from HO3.out.kp0 ((Kp.refl [] W3).drew 1))
              have HSz := Lib.hid (show P < W3.drew.heap.size from block_lt HP3.out)
              generalize hwd : W3.drew = wd at *
              clear hwd
              refine wpAnyH_take (i := 0) (oi := { dst := some 45, op := Op.move (Operand.tmp 6), type := 70, pos := "substitute.go:48", after := #[], guard := none }) (v := .slice ta tx.length tc) rfl (by kernel_rfl) (by kernel_rfl) (by kernel_rfl) (fun _ _ _ h => h) (Or.inl ⟨by rfl, fun w hSw => by (try dsimp only at hSw); go_simp⟩) hHeld ?_
              try simp only [Act.put, List.setIfInBounds_toArray, List.set_cons_zero, List.set_cons_succ]
              refine wpAnyH_take (i := 1) (oi := { dst := some 46, op := Op.load 61 (Operand.tmp 8), type := 61, pos := "substitute.go:48", after := #[], guard := none }) (v := .agg #[.int .i64 (pk : Int), .string (bs pt), .int .i64 (pw : Int), .bool pm]) rfl (by kernel_rfl) (by kernel_rfl) (by kernel_rfl) (fun _ _ _ h => h) (Or.inl ⟨by rfl, fun w hSw => by (try dsimp only at hSw); obtain ⟨c0, c1, c2, c3⟩ := pcell hSw.1; go_simp⟩) hHeld ?_
              try simp only [Act.put, List.setIfInBounds_toArray, List.set_cons_zero, List.set_cons_succ]
              refine wpAnyH_take (i := 2) (oi := { dst := some 47, op := Op.move (Operand.tmp 7), type := 3, pos := "substitute.go:48", after := #[], guard := none }) (v := .int .i64 (k : Int)) rfl (by kernel_rfl) (by kernel_rfl) (by kernel_rfl) (fun _ _ _ h => h) (Or.inl ⟨by rfl, fun w hSw => by (try dsimp only at hSw); go_simp⟩) hHeld ?_
              try simp only [Act.put, List.setIfInBounds_toArray, List.set_cons_zero, List.set_cons_succ]
              refine wpAnyH_take (i := 3) (oi := { dst := some 48, op := Op.binOp BinOp.add 3 (Operand.tmp 47) (Operand.const (Value.int IntKind.i64 1)) 3, type := 3, pos := "substitute.go:48", after := #[{ on := 2, ground := Ground.data }], guard := none }) (v := .int .i64 (m : Int)) rfl (by kernel_rfl) (by kernel_rfl) (by kernel_rfl) (fun _ _ _ h => h) (Or.inl ⟨by rfl, fun w hSw => by (try dsimp only at hSw); go_simp⟩) hHeld ?_
              try simp only [Act.put, List.setIfInBounds_toArray, List.set_cons_zero, List.set_cons_succ]
              refine wpAnyH_take (i := 4) (oi := { dst := some 49, op := Op.move (Operand.tmp 0), type := 29, pos := "substitute.go:48", after := #[], guard := none }) (v := .slice (some ⟨bl, ol, none⟩) i vc) rfl (by kernel_rfl) (by kernel_rfl) (by kernel_rfl) (fun _ _ _ h => h) (Or.inl ⟨by rfl, fun w hSw => by (try dsimp only at hSw); go_simp⟩) hHeld ?_
              try simp only [Act.put, List.setIfInBounds_toArray, List.set_cons_zero, List.set_cons_succ]
              refine wpAnyH_take (i := 5) (oi := { dst := some 50, op := Op.call { callee := Callee.builtin Builtin.len, args := #[Operand.tmp 49], argTypes := #[29] }, type := 3, pos := "substitute.go:48", after := #[{ on := 4, ground := Ground.data }], guard := none }) (v := .int .i64 (i : Int)) rfl (by kernel_rfl) (by kernel_rfl) (by kernel_rfl) (fun _ _ _ h => h) (Or.inl ⟨by rfl, fun w hSw => by (try dsimp only at hSw); go_simp⟩) hHeld ?_
              try simp only [Act.put, List.setIfInBounds_toArray, List.set_cons_zero, List.set_cons_succ]
              refine wpAnyH_take (i := 6) (oi := { dst := some 51, op := Op.binOp BinOp.lss 3 (Operand.tmp 48) (Operand.tmp 50) 3, type := 4, pos := "substitute.go:48", after := #[{ on := 3, ground := Ground.data }, { on := 5, ground := Ground.data }], guard := none }) (v := .bool false) rfl (by kernel_rfl) (by kernel_rfl) (by kernel_rfl) (fun _ _ _ h => h) (Or.inl ⟨by rfl, fun w hSw => by (try dsimp only at hSw); go_simp⟩) hHeld ?_
              try simp only [Act.put, List.setIfInBounds_toArray, List.set_cons_zero, List.set_cons_succ]
              refine wpAnyH_take (i := 7) (oi := { dst := some 52, op := Op.move (Operand.tmp 51), type := 4, pos := "substitute.go:48", after := #[{ on := 6, ground := Ground.data }], guard := none }) (v := .bool false) rfl (by kernel_rfl) (by kernel_rfl) (by kernel_rfl) (fun _ _ _ h => h) (Or.inl ⟨by rfl, fun w hSw => by (try dsimp only at hSw); go_simp⟩) hHeld ?_
              try simp only [Act.put, List.setIfInBounds_toArray, List.set_cons_zero, List.set_cons_succ]
              refine wpAnyH_take (i := 8) (oi := { dst := some 53, op := Op.move (Operand.tmp 0), type := 29, pos := "substitute.go:48", after := #[{ on := 7, ground := Ground.guard }], guard := some (7, true) }) (v := undef) rfl (by kernel_rfl) (by kernel_rfl) (by kernel_rfl) (fun _ _ _ h => h) (Or.inr ⟨by rfl, rfl⟩) hHeld ?_
              try simp only [Act.put, List.setIfInBounds_toArray, List.set_cons_zero, List.set_cons_succ]
              refine wpAnyH_take (i := 9) (oi := { dst := some 54, op := Op.move (Operand.tmp 7), type := 3, pos := "substitute.go:48", after := #[{ on := 7, ground := Ground.guard }], guard := some (7, true) }) (v := undef) rfl (by kernel_rfl) (by kernel_rfl) (by kernel_rfl) (fun _ _ _ h => h) (Or.inr ⟨by rfl, rfl⟩) hHeld ?_
              try simp only [Act.put, List.setIfInBounds_toArray, List.set_cons_zero, List.set_cons_succ]
              refine wpAnyH_take (i := 10) (oi := { dst := some 55, op := Op.binOp BinOp.add 3 (Operand.tmp 54) (Operand.const (Value.int IntKind.i64 1)) 3, type := 3, pos := "substitute.go:48", after := #[{ on := 9, ground := Ground.data }, { on := 7, ground := Ground.guard }], guard := some (7, true) }) (v := undef) rfl (by kernel_rfl) (by kernel_rfl) (by kernel_rfl) (fun _ _ _ h => h) (Or.inr ⟨by rfl, rfl⟩) hHeld ?_
              try simp only [Act.put, List.setIfInBounds_toArray, List.set_cons_zero, List.set_cons_succ]
              refine wpAnyH_take (i := 11) (oi := { dst := some 56, op := Op.indexAddr 29 (Operand.tmp 53) (Operand.tmp 55), type := 0, pos := "substitute.go:48", after := #[{ on := 8, ground := Ground.data }, { on := 10, ground := Ground.data }, { on := 7, ground := Ground.guard }], guard := some (7, true) }) (v := undef) rfl (by kernel_rfl) (by kernel_rfl) (by kernel_rfl) (fun _ _ _ h => h) (Or.inr ⟨by rfl, rfl⟩) hHeld ?_
              try simp only [Act.put, List.setIfInBounds_toArray, List.set_cons_zero, List.set_cons_succ]
              refine wpAnyH_take (i := 12) (oi := { dst := some 57, op := Op.load 61 (Operand.tmp 56), type := 61, pos := "substitute.go:48", after := #[{ on := 11, ground := Ground.data }, { on := 7, ground := Ground.guard }], guard := some (7, true) }) (v := undef) rfl (by kernel_rfl) (by kernel_rfl) (by kernel_rfl) (fun _ _ _ h => h) (Or.inr ⟨by rfl, rfl⟩) hHeld ?_
              try simp only [Act.put, List.setIfInBounds_toArray, List.set_cons_zero, List.set_cons_succ]
              refine wpAnyH_take (i := 13) (oi := { dst := some 58, op := Op.call { callee := Callee.value (Operand.func 40), args := #[Operand.tmp 57], argTypes := #[61] }, type := 4, pos := "substitute.go:48", after := #[{ on := 12, ground := Ground.data }, { on := 7, ground := Ground.chain }, { on := 7, ground := Ground.guard }], guard := some (7, true) }) (v := undef) rfl (by kernel_rfl) (by kernel_rfl) (by kernel_rfl) (fun _ _ _ h => h) (Or.inr ⟨by rfl, rfl⟩) hHeld ?_
              try simp only [Act.put, List.setIfInBounds_toArray, List.set_cons_zero, List.set_cons_succ]
              refine wpAnyH_take (i := 14) (oi := { dst := some 59, op := Op.pick (Operand.tmp 52) (Operand.tmp 58) (Operand.const (Value.bool false)), type := 4, pos := "substitute.go:48", after := #[{ on := 7, ground := Ground.data }, { on := 13, ground := Ground.data }], guard := none }) (v := .bool false) rfl (by kernel_rfl) (by kernel_rfl) (by kernel_rfl) (fun _ _ _ h => h) (Or.inl ⟨by rfl, fun w hSw => by (try dsimp only at hSw); go_simp⟩) hHeld ?_
              try simp only [Act.put, List.setIfInBounds_toArray, List.set_cons_zero, List.set_cons_succ]
              have HO1 := HOd
              have HSz1 := HSz
              refine wpAnyH_ready (rs := [15]) (by kernel_rfl) (by simp) ?_
              refine AllReadyH.cons (o := { dst := some 60, op := Op.call { callee := Callee.value (Operand.func 39), args := #[Operand.tmp 46, Operand.tmp 59], argTypes := #[61, 4] }, type := 9, pos := "substitute.go:48", after := #[{ on := 1, ground := Ground.data }, { on := 14, ground := Ground.data }, { on := 13, ground := Ground.chain }], guard := none }) rfl (fun K hK => ?_) AllReadyH.nil
              go_simp
              go_at_call 39
              refine Calls.mono (by with_reducible exact HWR2.out _ _ hHeld.2.2) ?_
              rintro e V2 ⟨rfl, hkv⟩
              dsimp only
              have hS := show PAt V2 P ⟨(pk : Int), pt, (pw : Int), pm⟩ ∧ gpT.Row V2 bl ol l ∧ Kp [] w V2 from ⟨hHeld.1.kp hkv (by simp), hHeld.2.1.keep (hkv.block bl (Nat.lt_of_lt_of_le Hbl.out hHeld.2.2.size) (by simp)), hHeld.2.2.trans hkv⟩
              have HO2 := Lib.hid (HO1.out.kp0 hkv)
              have HSz2 := Lib.hid (Nat.lt_of_lt_of_le HSz1.out hkv.size)
              clear hkv
              clear hHeld
              refine hK.out _ _ hS (fun hHeld => ?_)
              try simp only [Act.put, List.setIfInBounds_toArray, List.set_cons_zero, List.set_cons_succ]
              clear hK
              clear hS
              refine wpAnyH_ready (rs := [16]) (by kernel_rfl) (by simp) ?_
              refine AllReadyH.cons (o := { dst := some 61, op := Op.call { callee := Callee.builtin Builtin.append, args := #[Operand.tmp 45, Operand.tmp 60], argTypes := #[70, 9] }, type := 70, pos := "substitute.go:48", after := #[{ on := 0, ground := Ground.data }, { on := 15, ground := Ground.data }, { on := 15, ground := Ground.chain }], guard := none }) rfl (fun K hK => ?_) AllReadyH.nil
              refine step_append_by rfl (.tmp 45) (.tmp 60) rfl B (.slice ta tx.length tc) tx (wrX ⟨pk, pt, pw, pm⟩ false) rfl HO2.out rfl (by have := HWL.out false; omega) (by have := hHeld.2.2.size; rw [HB.out] at this; exact this) ?_
              intro q cp w8 hown hgr
              have hS := show PAt w8 P ⟨(pk : Int), pt, (pw : Int), pm⟩ ∧ gpT.Row w8 bl ol l ∧ Kp [] w w8 from by
                have h1 := kp_grownV hHeld.2.2 hgr (fun b hb => by rw [HB.out]; exact (HPO.out b hb).1)
                exact ⟨(hgr.block P HSz2.out (fun e => by have := (HPO.out P e.symm).2; omega)).trans hHeld.1, HRw.out.keep (h1.block bl Hbl.out (by simp)), h1⟩
              have HO8 := Lib.hid hown
              clear hHeld hown hgr
              refine hK.out _ _ hS (fun hHeld => ?_)
              try simp only [Act.put, List.setIfInBounds_toArray, List.set_cons_zero, List.set_cons_succ]
              clear hK hS
              refine wpAnyH_take (i := 17) (oi := { dst := some 6, op := Op.assign (Operand.tmp 61), type := 70, pos := "substitute.go:48", after := #[{ on := 16, ground := Ground.data }, { on := 16, ground := Ground.chain }, { on := 0, ground := Ground.phase }, { on := 1, ground := Ground.phase }, { on := 2, ground := Ground.phase }, { on := 3, ground := Ground.phase }, { on := 4, ground := Ground.phase }, { on := 5, ground := Ground.phase }, { on := 6, ground := Ground.phase }, { on := 7, ground := Ground.phase }, { on := 8, ground := Ground.phase }, { on := 9, ground := Ground.phase }, { on := 10, ground := Ground.phase }, { on := 11, ground := Ground.phase }, { on := 12, ground := Ground.phase }, { on := 13, ground := Ground.phase }, { on := 14, ground := Ground.phase }, { on := 15, ground := Ground.phase }, { on := 16, ground := Ground.phase }], guard := none }) (v := .slice q (tx.length + (wrX ⟨pk, pt, pw, pm⟩ false).length) cp) rfl (by kernel_rfl) (by kernel_rfl) (by kernel_rfl) (fun _ _ _ h => h) (Or.inl ⟨by rfl, fun w hSw => by (try dsimp only at hSw); go_simp⟩) hHeld ?_
              try simp only [Act.put, List.setIfInBounds_toArray, List.set_cons_zero, List.set_cons_succ]
              have HSe := Lib.hid hHeld.2.2
              refine wpAnyH_done (by kernel_rfl) ?_ _
              clear hHeld
              go_wp2
              go_meet
              rw [HSM.out, List.length_append]
              exact ⟨q, cp, rfl, HO8, HSe⟩
          obtain ⟨q, cp, rfl, hO2, hkc⟩ := hcut
          obtain ⟨R, hR⟩ : ∃ R, tx ++ wrX ⟨pk, pt, pw, pm⟩ (smN (l.drop m)) = R := ⟨_, rfl⟩
          rw [hR] at hO2 HF2 ⊢
          clear hR
          by_cases hR256 : 256 < R.length
          · have hz : (256 : Int) < (R.length : Int) := by omega
            have HF3 := Lib.hid (show F = ([], 91) by rw [HF2.out, if_pos hR256])
            go_wp2
            go_ret2
            rw [HF3.out]
            exact ⟨rfl, hkc.out⟩
          · have hz : ¬ ((256 : Int) < (R.length : Int)) := by omega
            rw [if_neg hR256] at HF2
            have HF4 := Lib.hid (HF0.out.symm.trans HF2.out)
            go_wp2
            go_roundg gk
            case measure => have := HKG.out; omega
            case rel => exact ⟨m, R, by go_num, by have := HKG.out; omega, hO2.out, HF4, by omega, hkc⟩
    | succ gk =>
      have hiN : i < N := by omega
      have hlt : (i : Int) < (N : Int) := by omega
      obtain ⟨x, hx⟩ : ∃ x, l[i]? = some x := ⟨_, List.getElem?_eq_getElem (by rw [HN.out]; exact hiN)⟩
      obtain ⟨bl, ol, rfl, hbl, hrw⟩ := HRow.out (by intro e; rw [e] at hx; simp at hx)
      have hrw2 : gpT.Row wr bl ol l := hrw.keep (hk.out.block bl hbl (by simp))
      have hxs : x.text.length ≤ 1000000000000 := hs x (List.mem_of_getElem? hx)
      have HX := Lib.hid hx
      have HIP := Lib.hid (fun W => isPiece_any x W hxs)
      obtain ⟨ok, hok⟩ : ∃ b, okG x = b := ⟨_, rfl⟩
      rw [hok] at HIP
      have HMP := Lib.hid (fun (j : Nat) (y : Gp) (hij : i = j + 1) (hy : l[j]? = some y) (ho : ok = true) W => mayPrecede_any y x W (pcOf_ok (by rw [hok, ho])).2.2.2.2)
      have HA0 := Lib.hid (show i = 0 → adjB l i = ok from fun e => by subst e; rw [adj_zero hx, hok])
      have HA1 := Lib.hid (show ∀ j y, i = j + 1 → l[j]? = some y → adjB l i = (ok && precG y x) from fun j y e hy => by subst e; rw [adj_at hx hy, hok])
      have HAf := Lib.hid (show ok = false → adjB l i = false from fun e => by
        cases hb : adjB l i with
        | false => rfl
        | true => have := adj_ok hx hb; rw [hok, e] at this; cases this)
      obtain ⟨xk, xt, xn, xm⟩ := x
      obtain ⟨d0, d1, d2, d3⟩ := gcell hrw2 hx
      unfold gpC at HIP HMP
      simp only at HIP HMP
      obtain ⟨P, hP⟩ : ∃ P, wr.heap.size = P := ⟨_, rfl⟩
      obtain ⟨W3, hW3⟩ : ∃ W3, wr.alloc (.cells #[.int .i64 xk, .string (bs xt), .int .i64 xn, .bool xm] 61) = W3 := ⟨_, rfl⟩
      have hk3 : Kp [] wr W3 := by rw [← hW3]; exact (Kp.refl [] wr).alloc _
      have HP3 := Lib.hid (show PAt W3 P ⟨xk, xt, xn, xm⟩ by rw [← hW3, ← hP]; exact heap_alloc_last wr _)
      have HK3 := Lib.hid (hk.out.trans hk3)
      have HR3 := Lib.hid (show gpT.Row W3 bl ol l from hrw2.keep (hk3.block bl (Nat.lt_of_lt_of_le hbl hk.out.size) (by simp)))
      have Hbl := Lib.hid (show bl < W3.heap.size from Nat.lt_of_lt_of_le hbl HK3.out.size)
      have HADJ := Lib.hid hadj.out
      have HW3 := Lib.hid hW3
      have HPe := Lib.hid hP
      have HNX := Lib.hid (show adjB l i = true → ∀ j, j < i + 1 → adjB l j = true from fun h j hj => by
        rcases Nat.lt_succ_iff_lt_or_eq.1 hj with h1 | rfl
        · exact HADJ.out j h1
        · exact h)
      clear hxs hok hrw hrw2 hk3 hW3 hP hadj hk
      go_upto_region 4 with fail
      rw [HPe.out, HW3.out]
      clear d0 d1 d2 d3 hx
      cases ok with
      | false =>
        have HF := Lib.hid (HBAD.out i hiN (HAf.out rfl))
        refine wp_region_held_drew (S := fun W => Kp [] W3 W) (by kernel_rfl) (show Kp [] W3 W3.drew from (Kp.refl [] W3).drew 1) (fun hHeld => ?_)
        generalize hwd : W3.drew = wd at *
        clear hwd
        refine wpAnyH_take (i := 0) (oi := { dst := some 16, op := Op.load 61 (Operand.tmp 5), type := 61, pos := "substitute.go:38", after := #[], guard := none }) (v := .agg #[.int .i64 xk, .string (bs xt), .int .i64 xn, .bool xm]) rfl (by kernel_rfl) (by kernel_rfl) (by kernel_rfl) (fun _ _ _ h => h) (Or.inl ⟨by rfl, fun w hSw => by (try dsimp only at hSw); obtain ⟨c0, c1, c2, c3⟩ := pcell (HP3.out.kp hSw (by simp)); go_simp⟩) hHeld ?_
        try simp only [Act.put, List.setIfInBounds_toArray, List.set_cons_zero, List.set_cons_succ]
        refine wpAnyH_ready (rs := [1]) (by kernel_rfl) (by simp) ?_
        refine AllReadyH.cons (o := { dst := some 17, op := Op.call { callee := Callee.value (Operand.func 37), args := #[Operand.tmp 16], argTypes := #[61] }, type := 4, pos := "substitute.go:38", after := #[{ on := 0, ground := Ground.data }], guard := none }) rfl (fun K hK => ?_) AllReadyH.nil
        go_simp
        go_at_call 37
        refine Calls.mono (by with_reducible exact HIP.out _) ?_
        rintro e V1 ⟨rfl, hkv⟩
        dsimp only
        have hS := hHeld.trans hkv
        clear hkv
        clear hHeld
        refine hK.out _ _ hS (fun hHeld => ?_)
        try simp only [Act.put, List.setIfInBounds_toArray, List.set_cons_zero, List.set_cons_succ]
        clear hK
        clear hS
        refine wpAnyH_take (i := 2) (oi := { dst := some 18, op := Op.unOp UnOp.not 4 (Operand.tmp 17), type := 4, pos := "substitute.go:38", after := #[{ on := 1, ground := Ground.data }], guard := none }) (v := .bool true) rfl (by kernel_rfl) (by kernel_rfl) (by kernel_rfl) (fun _ _ _ h => h) (Or.inl ⟨by rfl, fun w hSw => by (try dsimp only at hSw); go_simp⟩) hHeld ?_
        try simp only [Act.put, List.setIfInBounds_toArray, List.set_cons_zero, List.set_cons_succ]
        refine wpAnyH_take (i := 3) (oi := { dst := some 19, op := Op.move (Operand.tmp 18), type := 4, pos := "substitute.go:38", after := #[{ on := 2, ground := Ground.data }, { on := 1, ground := Ground.chain }], guard := none }) (v := .bool true) rfl (by kernel_rfl) (by kernel_rfl) (by kernel_rfl) (fun _ _ _ h => h) (Or.inl ⟨by rfl, fun w hSw => by (try dsimp only at hSw); go_simp⟩) hHeld ?_
        try simp only [Act.put, List.setIfInBounds_toArray, List.set_cons_zero, List.set_cons_succ]
        refine wpAnyH_take (i := 4) (oi := { dst := some 20, op := Op.move (Operand.tmp 4), type := 3, pos := "substitute.go:38", after := #[{ on := 3, ground := Ground.guard }], guard := some (3, false) }) (v := undef) rfl (by kernel_rfl) (by kernel_rfl) (by kernel_rfl) (fun _ _ _ h => h) (Or.inr ⟨by rfl, rfl⟩) hHeld ?_
        try simp only [Act.put, List.setIfInBounds_toArray, List.set_cons_zero, List.set_cons_succ]
        refine wpAnyH_take (i := 5) (oi := { dst := some 21, op := Op.binOp BinOp.gtr 3 (Operand.tmp 20) (Operand.const (Value.int IntKind.i64 0)) 3, type := 4, pos := "substitute.go:38", after := #[{ on := 4, ground := Ground.data }, { on := 3, ground := Ground.guard }], guard := some (3, false) }) (v := undef) rfl (by kernel_rfl) (by kernel_rfl) (by kernel_rfl) (fun _ _ _ h => h) (Or.inr ⟨by rfl, rfl⟩) hHeld ?_
        try simp only [Act.put, List.setIfInBounds_toArray, List.set_cons_zero, List.set_cons_succ]
        refine wpAnyH_take (i := 6) (oi := { dst := some 22, op := Op.move (Operand.tmp 21), type := 4, pos := "substitute.go:38", after := #[{ on := 5, ground := Ground.data }, { on := 3, ground := Ground.chain }, { on := 3, ground := Ground.guard }], guard := some (3, false) }) (v := undef) rfl (by kernel_rfl) (by kernel_rfl) (by kernel_rfl) (fun _ _ _ h => h) (Or.inr ⟨by rfl, rfl⟩) hHeld ?_
        try simp only [Act.put, List.setIfInBounds_toArray, List.set_cons_zero, List.set_cons_succ]
        refine wpAnyH_take (i := 7) (oi := { dst := some 23, op := Op.move (Operand.tmp 0), type := 29, pos := "substitute.go:38", after := #[{ on := 6, ground := Ground.guard }], guard := some (6, true) }) (v := undef) rfl (by kernel_rfl) (by kernel_rfl) (by kernel_rfl) (fun _ _ _ h => h) (Or.inr ⟨by rfl, rfl⟩) hHeld ?_
        try simp only [Act.put, List.setIfInBounds_toArray, List.set_cons_zero, List.set_cons_succ]
        refine wpAnyH_take (i := 8) (oi := { dst := some 24, op := Op.move (Operand.tmp 4), type := 3, pos := "substitute.go:38", after := #[{ on := 6, ground := Ground.guard }], guard := some (6, true) }) (v := undef) rfl (by kernel_rfl) (by kernel_rfl) (by kernel_rfl) (fun _ _ _ h => h) (Or.inr ⟨by rfl, rfl⟩) hHeld ?_
        try simp only [Act.put, List.setIfInBounds_toArray, List.set_cons_zero, List.set_cons_succ]
        refine wpAnyH_take (i := 9) (oi := { dst := some 25, op := Op.binOp BinOp.sub 3 (Operand.tmp 24) (Operand.const (Value.int IntKind.i64 1)) 3, type := 3, pos := "substitute.go:38", after := #[{ on := 8, ground := Ground.data }, { on := 6, ground := Ground.guard }], guard := some (6, true) }) (v := undef) rfl (by kernel_rfl) (by kernel_rfl) (by kernel_rfl) (fun _ _ _ h => h) (Or.inr ⟨by rfl, rfl⟩) hHeld ?_
        try simp only [Act.put, List.setIfInBounds_toArray, List.set_cons_zero, List.set_cons_succ]
        refine wpAnyH_take (i := 10) (oi := { dst := some 26, op := Op.indexAddr 29 (Operand.tmp 23) (Operand.tmp 25), type := 0, pos := "substitute.go:38", after := #[{ on := 7, ground := Ground.data }, { on := 9, ground := Ground.data }, { on := 6, ground := Ground.guard }], guard := some (6, true) }) (v := undef) rfl (by kernel_rfl) (by kernel_rfl) (by kernel_rfl) (fun _ _ _ h => h) (Or.inr ⟨by rfl, rfl⟩) hHeld ?_
        try simp only [Act.put, List.setIfInBounds_toArray, List.set_cons_zero, List.set_cons_succ]
        refine wpAnyH_take (i := 11) (oi := { dst := some 27, op := Op.load 61 (Operand.tmp 26), type := 61, pos := "substitute.go:38", after := #[{ on := 10, ground := Ground.data }, { on := 6, ground := Ground.guard }], guard := some (6, true) }) (v := undef) rfl (by kernel_rfl) (by kernel_rfl) (by kernel_rfl) (fun _ _ _ h => h) (Or.inr ⟨by rfl, rfl⟩) hHeld ?_
        try simp only [Act.put, List.setIfInBounds_toArray, List.set_cons_zero, List.set_cons_succ]
        refine wpAnyH_take (i := 12) (oi := { dst := some 28, op := Op.load 61 (Operand.tmp 5), type := 61, pos := "substitute.go:38", after := #[{ on := 6, ground := Ground.guard }], guard := some (6, true) }) (v := undef) rfl (by kernel_rfl) (by kernel_rfl) (by kernel_rfl) (fun _ _ _ h => h) (Or.inr ⟨by rfl, rfl⟩) hHeld ?_
        try simp only [Act.put, List.setIfInBounds_toArray, List.set_cons_zero, List.set_cons_succ]
        refine wpAnyH_take (i := 13) (oi := { dst := some 29, op := Op.call { callee := Callee.value (Operand.func 38), args := #[Operand.tmp 27, Operand.tmp 28], argTypes := #[61, 61] }, type := 4, pos := "substitute.go:38", after := #[{ on := 11, ground := Ground.data }, { on := 12, ground := Ground.data }, { on := 6, ground := Ground.chain }, { on := 6, ground := Ground.guard }], guard := some (6, true) }) (v := undef) rfl (by kernel_rfl) (by kernel_rfl) (by kernel_rfl) (fun _ _ _ h => h) (Or.inr ⟨by rfl, rfl⟩) hHeld ?_
        try simp only [Act.put, List.setIfInBounds_toArray, List.set_cons_zero, List.set_cons_succ]
        refine wpAnyH_take (i := 14) (oi := { dst := some 30, op := Op.unOp UnOp.not 4 (Operand.tmp 29), type := 4, pos := "substitute.go:38", after := #[{ on := 13, ground := Ground.data }, { on := 6, ground := Ground.guard }], guard := some (6, true) }) (v := undef) rfl (by kernel_rfl) (by kernel_rfl) (by kernel_rfl) (fun _ _ _ h => h) (Or.inr ⟨by rfl, rfl⟩) hHeld ?_
        try simp only [Act.put, List.setIfInBounds_toArray, List.set_cons_zero, List.set_cons_succ]
        refine wpAnyH_take (i := 15) (oi := { dst := some 31, op := Op.pick (Operand.tmp 22) (Operand.tmp 30) (Operand.const (Value.bool false)), type := 4, pos := "substitute.go:38", after := #[{ on := 6, ground := Ground.data }, { on := 14, ground := Ground.data }, { on := 3, ground := Ground.guard }], guard := some (3, false) }) (v := undef) rfl (by kernel_rfl) (by kernel_rfl) (by kernel_rfl) (fun _ _ _ h => h) (Or.inr ⟨by rfl, rfl⟩) hHeld ?_
        try simp only [Act.put, List.setIfInBounds_toArray, List.set_cons_zero, List.set_cons_succ]
        refine wpAnyH_take (i := 16) (oi := { dst := some 32, op := Op.pick (Operand.tmp 19) (Operand.const (Value.bool true)) (Operand.tmp 31), type := 4, pos := "substitute.go:38", after := #[{ on := 3, ground := Ground.data }, { on := 15, ground := Ground.data }], guard := none }) (v := .bool true) rfl (by kernel_rfl) (by kernel_rfl) (by kernel_rfl) (fun _ _ _ h => h) (Or.inl ⟨by rfl, fun w hSw => by (try dsimp only at hSw); go_simp⟩) hHeld ?_
        try simp only [Act.put, List.setIfInBounds_toArray, List.set_cons_zero, List.set_cons_succ]
        have HSe := Lib.hid hHeld
        refine wpAnyH_done (by kernel_rfl) ?_ _
        clear hHeld
        go_wp2
        go_ret2
        rw [HF.out]
        exact ⟨rfl, HK3.out.trans HSe.out⟩
      | true =>
        rcases Nat.eq_zero_or_pos i with hi0 | hi0
        · have hgz : ¬ ((0 : Int) < (i : Int)) := by omega
          have HAD := Lib.hid (HNX.out (HA0.out hi0))
          refine wp_region_held_drew (S := fun W => Kp [] W3 W) (by kernel_rfl) (show Kp [] W3 W3.drew from (Kp.refl [] W3).drew 1) (fun hHeld => ?_)
          generalize hwd : W3.drew = wd at *
          clear hwd
          refine wpAnyH_take (i := 0) (oi := { dst := some 16, op := Op.load 61 (Operand.tmp 5), type := 61, pos := "substitute.go:38", after := #[], guard := none }) (v := .agg #[.int .i64 xk, .string (bs xt), .int .i64 xn, .bool xm]) rfl (by kernel_rfl) (by kernel_rfl) (by kernel_rfl) (fun _ _ _ h => h) (Or.inl ⟨by rfl, fun w hSw => by (try dsimp only at hSw); obtain ⟨c0, c1, c2, c3⟩ := pcell (HP3.out.kp hSw (by simp)); go_simp⟩) hHeld ?_
          try simp only [Act.put, List.setIfInBounds_toArray, List.set_cons_zero, List.set_cons_succ]
          refine wpAnyH_ready (rs := [1]) (by kernel_rfl) (by simp) ?_
          refine AllReadyH.cons (o := { dst := some 17, op := Op.call { callee := Callee.value (Operand.func 37), args := #[Operand.tmp 16], argTypes := #[61] }, type := 4, pos := "substitute.go:38", after := #[{ on := 0, ground := Ground.data }], guard := none }) rfl (fun K hK => ?_) AllReadyH.nil
          go_simp
          go_at_call 37
          refine Calls.mono (by with_reducible exact HIP.out _) ?_
          rintro e V1 ⟨rfl, hkv⟩
          dsimp only
          have hS := hHeld.trans hkv
          clear hkv
          clear hHeld
          refine hK.out _ _ hS (fun hHeld => ?_)
          try simp only [Act.put, List.setIfInBounds_toArray, List.set_cons_zero, List.set_cons_succ]
          clear hK
          clear hS
          refine wpAnyH_take (i := 2) (oi := { dst := some 18, op := Op.unOp UnOp.not 4 (Operand.tmp 17), type := 4, pos := "substitute.go:38", after := #[{ on := 1, ground := Ground.data }], guard := none }) (v := .bool false) rfl (by kernel_rfl) (by kernel_rfl) (by kernel_rfl) (fun _ _ _ h => h) (Or.inl ⟨by rfl, fun w hSw => by (try dsimp only at hSw); go_simp⟩) hHeld ?_
          try simp only [Act.put, List.setIfInBounds_toArray, List.set_cons_zero, List.set_cons_succ]
          refine wpAnyH_take (i := 3) (oi := { dst := some 19, op := Op.move (Operand.tmp 18), type := 4, pos := "substitute.go:38", after := #[{ on := 2, ground := Ground.data }, { on := 1, ground := Ground.chain }], guard := none }) (v := .bool false) rfl (by kernel_rfl) (by kernel_rfl) (by kernel_rfl) (fun _ _ _ h => h) (Or.inl ⟨by rfl, fun w hSw => by (try dsimp only at hSw); go_simp⟩) hHeld ?_
          try simp only [Act.put, List.setIfInBounds_toArray, List.set_cons_zero, List.set_cons_succ]
          refine wpAnyH_take (i := 4) (oi := { dst := some 20, op := Op.move (Operand.tmp 4), type := 3, pos := "substitute.go:38", after := #[{ on := 3, ground := Ground.guard }], guard := some (3, false) }) (v := .int .i64 (i : Int)) rfl (by kernel_rfl) (by kernel_rfl) (by kernel_rfl) (fun _ _ _ h => h) (Or.inl ⟨by rfl, fun w hSw => by (try dsimp only at hSw); go_simp⟩) hHeld ?_
          try simp only [Act.put, List.setIfInBounds_toArray, List.set_cons_zero, List.set_cons_succ]
          refine wpAnyH_take (i := 5) (oi := { dst := some 21, op := Op.binOp BinOp.gtr 3 (Operand.tmp 20) (Operand.const (Value.int IntKind.i64 0)) 3, type := 4, pos := "substitute.go:38", after := #[{ on := 4, ground := Ground.data }, { on := 3, ground := Ground.guard }], guard := some (3, false) }) (v := .bool false) rfl (by kernel_rfl) (by kernel_rfl) (by kernel_rfl) (fun _ _ _ h => h) (Or.inl ⟨by rfl, fun w hSw => by (try dsimp only at hSw); go_simp⟩) hHeld ?_
          try simp only [Act.put, List.setIfInBounds_toArray, List.set_cons_zero, List.set_cons_succ]
          refine wpAnyH_take (i := 6) (oi := { dst := some 22, op := Op.move (Operand.tmp 21), type := 4, pos := "substitute.go:38", after := #[{ on := 5, ground := Ground.data }, { on := 3, ground := Ground.chain }, { on := 3, ground := Ground.guard }], guard := some (3, false) }) (v := .bool false) rfl (by kernel_rfl) (by kernel_rfl) (by kernel_rfl) (fun _ _ _ h => h) (Or.inl ⟨by rfl, fun w hSw => by (try dsimp only at hSw); go_simp⟩) hHeld ?_
          try simp only [Act.put, List.setIfInBounds_toArray, List.set_cons_zero, List.set_cons_succ]
          refine wpAnyH_take (i := 7) (oi := { dst := some 23, op := Op.move (Operand.tmp 0), type := 29, pos := "substitute.go:38", after := #[{ on := 6, ground := Ground.guard }], guard := some (6, true) }) (v := undef) rfl (by kernel_rfl) (by kernel_rfl) (by kernel_rfl) (fun _ _ _ h => h) (Or.inr ⟨by rfl, rfl⟩) hHeld ?_
          try simp only [Act.put, List.setIfInBounds_toArray, List.set_cons_zero, List.set_cons_succ]
          refine wpAnyH_take (i := 8) (oi := { dst := some 24, op := Op.move (Operand.tmp 4), type := 3, pos := "substitute.go:38", after := #[{ on := 6, ground := Ground.guard }], guard := some (6, true) }) (v := undef) rfl (by kernel_rfl) (by kernel_rfl) (by kernel_rfl) (fun _ _ _ h => h) (Or.inr ⟨by rfl, rfl⟩) hHeld ?_
          try simp only [Act.put, List.setIfInBounds_toArray, List.set_cons_zero, List.set_cons_succ]
          refine wpAnyH_take (i := 9) (oi := { dst := some 25, op := Op.binOp BinOp.sub 3 (Operand.tmp 24) (Operand.const (Value.int IntKind.i64 1)) 3, type := 3, pos := "substitute.go:38", after := #[{ on := 8, ground := Ground.data }, { on := 6, ground := Ground.guard }], guard := some (6, true) }) (v := undef) rfl (by kernel_rfl) (by kernel_rfl) (by kernel_rfl) (fun _ _ _ h => h) (Or.inr ⟨by rfl, rfl⟩) hHeld ?_
          try simp only [Act.put, List.setIfInBounds_toArray, List.set_cons_zero, List.set_cons_succ]
          refine wpAnyH_take (i := 10) (oi := { dst := some 26, op := Op.indexAddr 29 (Operand.tmp 23) (Operand.tmp 25), type := 0, pos := "substitute.go:38", after := #[{ on := 7, ground := Ground.data }, { on := 9, ground := Ground.data }, { on := 6, ground := Ground.guard }], guard := some (6, true) }) (v := undef) rfl (by kernel_rfl) (by kernel_rfl) (by kernel_rfl) (fun _ _ _ h => h) (Or.inr ⟨by rfl, rfl⟩) hHeld ?_
          try simp only [Act.put, List.setIfInBounds_toArray, List.set_cons_zero, List.set_cons_succ]
          refine wpAnyH_take (i := 11) (oi := { dst := some 27, op := Op.load 61 (Operand.tmp 26), type := 61, pos := "substitute.go:38", after := #[{ on := 10, ground := Ground.data }, { on := 6, ground := Ground.guard }], guard := some (6, true) }) (v := undef) rfl (by kernel_rfl) (by kernel_rfl) (by kernel_rfl) (fun _ _ _ h => h) (Or.inr ⟨by rfl, rfl⟩) hHeld ?_
          try simp only [Act.put, List.setIfInBounds_toArray, List.set_cons_zero, List.set_cons_succ]
          refine wpAnyH_take (i := 12) (oi := { dst := some 28, op := Op.load 61 (Operand.tmp 5), type := 61, pos := "substitute.go:38", after := #[{ on := 6, ground := Ground.guard }], guard := some (6, true) }) (v := undef) rfl (by kernel_rfl) (by kernel_rfl) (by kernel_rfl) (fun _ _ _ h => h) (Or.inr ⟨by rfl, rfl⟩) hHeld ?_
          try simp only [Act.put, List.setIfInBounds_toArray, List.set_cons_zero, List.set_cons_succ]
          refine wpAnyH_take (i := 13) (oi := { dst := some 29, op := Op.call { callee := Callee.value (Operand.func 38), args := #[Operand.tmp 27, Operand.tmp 28], argTypes := #[61, 61] }, type := 4, pos := "substitute.go:38", after := #[{ on := 11, ground := Ground.data }, { on := 12, ground := Ground.data }, { on := 6, ground := Ground.chain }, { on := 6, ground := Ground.guard }], guard := some (6, true) }) (v := undef) rfl (by kernel_rfl) (by kernel_rfl) (by kernel_rfl) (fun _ _ _ h => h) (Or.inr ⟨by rfl, rfl⟩) hHeld ?_
          try simp only [Act.put, List.setIfInBounds_toArray, List.set_cons_zero, List.set_cons_succ]
          refine wpAnyH_take (i := 14) (oi := { dst := some 30, op := Op.unOp UnOp.not 4 (Operand.tmp 29), type := 4, pos := "substitute.go:38", after := #[{ on := 13, ground := Ground.data }, { on := 6, ground := Ground.guard }], guard := some (6, true) }) (v := undef) rfl (by kernel_rfl) (by kernel_rfl) (by kernel_rfl) (fun _ _ _ h => h) (Or.inr ⟨by rfl, rfl⟩) hHeld ?_
          try simp only [Act.put, List.setIfInBounds_toArray, List.set_cons_zero, List.set_cons_succ]
          refine wpAnyH_take (i := 15) (oi := { dst := some 31, op := Op.pick (Operand.tmp 22) (Operand.tmp 30) (Operand.const (Value.bool false)), type := 4, pos := "substitute.go:38", after := #[{ on := 6, ground := Ground.data }, { on := 14, ground := Ground.data }, { on := 3, ground := Ground.guard }], guard := some (3, false) }) (v := .bool false) rfl (by kernel_rfl) (by kernel_rfl) (by kernel_rfl) (fun _ _ _ h => h) (Or.inl ⟨by rfl, fun w hSw => by (try dsimp only at hSw); go_simp⟩) hHeld ?_
          try simp only [Act.put, List.setIfInBounds_toArray, List.set_cons_zero, List.set_cons_succ]
          refine wpAnyH_take (i := 16) (oi := { dst := some 32, op := Op.pick (Operand.tmp 19) (Operand.const (Value.bool true)) (Operand.tmp 31), type := 4, pos := "substitute.go:38", after := #[{ on := 3, ground := Ground.data }, { on := 15, ground := Ground.data }], guard := none }) (v := .bool false) rfl (by kernel_rfl) (by kernel_rfl) (by kernel_rfl) (fun _ _ _ h => h) (Or.inl ⟨by rfl, fun w hSw => by (try dsimp only at hSw); go_simp⟩) hHeld ?_
          try simp only [Act.put, List.setIfInBounds_toArray, List.set_cons_zero, List.set_cons_succ]
          have HSe := Lib.hid hHeld
          refine wpAnyH_done (by kernel_rfl) ?_ _
          clear hHeld
          go_wp2
          go_roundg gk
          case measure => omega
          case rel => exact ⟨i + 1, by go_num, by omega, HAD, Lib.hid (HK3.out.trans HSe.out)⟩
        · obtain ⟨j, hij⟩ : ∃ j, i = j + 1 := ⟨i - 1, by omega⟩
          obtain ⟨⟨yk, yt, yn, ym⟩, hy⟩ : ∃ y, l[j]? = some y := ⟨_, List.getElem?_eq_getElem (by rw [HN.out]; omega)⟩
          have HY := Lib.hid hy
          have hAd := HA1.out j _ hij hy
          have HM := Lib.hid (show ∀ W, Calls Tryz.prog 38 #[.agg #[.int .i64 yk, .string (bs yt), .int .i64 yn, .bool ym], .agg #[.int .i64 xk, .string (bs xt), .int .i64 xn, .bool xm]] W (fun e w' => e = .returned (.bool (precG ⟨yk, yt, yn, ym⟩ ⟨xk, xt, xn, xm⟩)) ∧ Kp [] W w') from fun W => HMP.out j _ hij hy rfl W)
          obtain ⟨pb, hpb⟩ : ∃ b, precG ⟨yk, yt, yn, ym⟩ ⟨xk, xt, xn, xm⟩ = b := ⟨_, rfl⟩
          rw [hpb] at HM hAd
          have hgz : (0 : Int) < (i : Int) := by omega
          have hij1 : (i : Int) - 1 = (j : Int) := by omega
          have hwj : wrap64 (j : Int) = (j : Int) := by unfold wrap64; omega
          have hwj2 : IntKind.i64.wrap (j : Int) = (j : Int) := by rw [IntKind.wrap_i64]; omega
          have hjN : (j : Int) < (N : Int) := by omega
          have hj0 : (0 : Int) ≤ (j : Int) := by omega
          clear hy hpb
          cases pb with
          | false =>
            have HF := Lib.hid (HBAD.out i hiN (by rw [hAd]; rfl))
            refine wp_region_held_drew (S := fun W => Kp [] W3 W) (by kernel_rfl) (show Kp [] W3 W3.drew from (Kp.refl [] W3).drew 1) (fun hHeld => ?_)
            generalize hwd : W3.drew = wd at *
            clear hwd
            refine wpAnyH_take (i := 0) (oi := { dst := some 16, op := Op.load 61 (Operand.tmp 5), type := 61, pos := "substitute.go:38", after := #[], guard := none }) (v := .agg #[.int .i64 xk, .string (bs xt), .int .i64 xn, .bool xm]) rfl (by kernel_rfl) (by kernel_rfl) (by kernel_rfl) (fun _ _ _ h => h) (Or.inl ⟨by rfl, fun w hSw => by (try dsimp only at hSw); obtain ⟨c0, c1, c2, c3⟩ := pcell (HP3.out.kp hSw (by simp)); go_simp⟩) hHeld ?_
            try simp only [Act.put, List.setIfInBounds_toArray, List.set_cons_zero, List.set_cons_succ]
            refine wpAnyH_ready (rs := [1]) (by kernel_rfl) (by simp) ?_
            refine AllReadyH.cons (o := { dst := some 17, op := Op.call { callee := Callee.value (Operand.func 37), args := #[Operand.tmp 16], argTypes := #[61] }, type := 4, pos := "substitute.go:38", after := #[{ on := 0, ground := Ground.data }], guard := none }) rfl (fun K hK => ?_) AllReadyH.nil
            go_simp
            go_at_call 37
            refine Calls.mono (by with_reducible exact HIP.out _) ?_
            rintro e V1 ⟨rfl, hkv⟩
            dsimp only
            have hS := hHeld.trans hkv
            clear hkv
            clear hHeld
            refine hK.out _ _ hS (fun hHeld => ?_)
            try simp only [Act.put, List.setIfInBounds_toArray, List.set_cons_zero, List.set_cons_succ]
            clear hK
            clear hS
            refine wpAnyH_take (i := 2) (oi := { dst := some 18, op := Op.unOp UnOp.not 4 (Operand.tmp 17), type := 4, pos := "substitute.go:38", after := #[{ on := 1, ground := Ground.data }], guard := none }) (v := .bool false) rfl (by kernel_rfl) (by kernel_rfl) (by kernel_rfl) (fun _ _ _ h => h) (Or.inl ⟨by rfl, fun w hSw => by (try dsimp only at hSw); go_simp⟩) hHeld ?_
            try simp only [Act.put, List.setIfInBounds_toArray, List.set_cons_zero, List.set_cons_succ]
            refine wpAnyH_take (i := 3) (oi := { dst := some 19, op := Op.move (Operand.tmp 18), type := 4, pos := "substitute.go:38", after := #[{ on := 2, ground := Ground.data }, { on := 1, ground := Ground.chain }], guard := none }) (v := .bool false) rfl (by kernel_rfl) (by kernel_rfl) (by kernel_rfl) (fun _ _ _ h => h) (Or.inl ⟨by rfl, fun w hSw => by (try dsimp only at hSw); go_simp⟩) hHeld ?_
            try simp only [Act.put, List.setIfInBounds_toArray, List.set_cons_zero, List.set_cons_succ]
            refine wpAnyH_take (i := 4) (oi := { dst := some 20, op := Op.move (Operand.tmp 4), type := 3, pos := "substitute.go:38", after := #[{ on := 3, ground := Ground.guard }], guard := some (3, false) }) (v := .int .i64 (i : Int)) rfl (by kernel_rfl) (by kernel_rfl) (by kernel_rfl) (fun _ _ _ h => h) (Or.inl ⟨by rfl, fun w hSw => by (try dsimp only at hSw); go_simp⟩) hHeld ?_
            try simp only [Act.put, List.setIfInBounds_toArray, List.set_cons_zero, List.set_cons_succ]
            refine wpAnyH_take (i := 5) (oi := { dst := some 21, op := Op.binOp BinOp.gtr 3 (Operand.tmp 20) (Operand.const (Value.int IntKind.i64 0)) 3, type := 4, pos := "substitute.go:38", after := #[{ on := 4, ground := Ground.data }, { on := 3, ground := Ground.guard }], guard := some (3, false) }) (v := .bool true) rfl (by kernel_rfl) (by kernel_rfl) (by kernel_rfl) (fun _ _ _ h => h) (Or.inl ⟨by rfl, fun w hSw => by (try dsimp only at hSw); go_simp⟩) hHeld ?_
            try simp only [Act.put, List.setIfInBounds_toArray, List.set_cons_zero, List.set_cons_succ]
            refine wpAnyH_take (i := 6) (oi := { dst := some 22, op := Op.move (Operand.tmp 21), type := 4, pos := "substitute.go:38", after := #[{ on := 5, ground := Ground.data }, { on := 3, ground := Ground.chain }, { on := 3, ground := Ground.guard }], guard := some (3, false) }) (v := .bool true) rfl (by kernel_rfl) (by kernel_rfl) (by kernel_rfl) (fun _ _ _ h => h) (Or.inl ⟨by rfl, fun w hSw => by (try dsimp only at hSw); go_simp⟩) hHeld ?_
            try simp only [Act.put, List.setIfInBounds_toArray, List.set_cons_zero, List.set_cons_succ]
            refine wpAnyH_take (i := 7) (oi := { dst := some 23, op := Op.move (Operand.tmp 0), type := 29, pos := "substitute.go:38", after := #[{ on := 6, ground := Ground.guard }], guard := some (6, true) }) (v := .slice (some ⟨bl, ol, none⟩) N vc) rfl (by kernel_rfl) (by kernel_rfl) (by kernel_rfl) (fun _ _ _ h => h) (Or.inl ⟨by rfl, fun w hSw => by (try dsimp only at hSw); go_simp⟩) hHeld ?_
            try simp only [Act.put, List.setIfInBounds_toArray, List.set_cons_zero, List.set_cons_succ]
            refine wpAnyH_take (i := 8) (oi := { dst := some 24, op := Op.move (Operand.tmp 4), type := 3, pos := "substitute.go:38", after := #[{ on := 6, ground := Ground.guard }], guard := some (6, true) }) (v := .int .i64 (i : Int)) rfl (by kernel_rfl) (by kernel_rfl) (by kernel_rfl) (fun _ _ _ h => h) (Or.inl ⟨by rfl, fun w hSw => by (try dsimp only at hSw); go_simp⟩) hHeld ?_
            try simp only [Act.put, List.setIfInBounds_toArray, List.set_cons_zero, List.set_cons_succ]
            refine wpAnyH_take (i := 9) (oi := { dst := some 25, op := Op.binOp BinOp.sub 3 (Operand.tmp 24) (Operand.const (Value.int IntKind.i64 1)) 3, type := 3, pos := "substitute.go:38", after := #[{ on := 8, ground := Ground.data }, { on := 6, ground := Ground.guard }], guard := some (6, true) }) (v := .int .i64 (j : Int)) rfl (by kernel_rfl) (by kernel_rfl) (by kernel_rfl) (fun _ _ _ h => h) (Or.inl ⟨by rfl, fun w hSw => by (try dsimp only at hSw); go_simp⟩) hHeld ?_
            try simp only [Act.put, List.setIfInBounds_toArray, List.set_cons_zero, List.set_cons_succ]
            refine wpAnyH_take (i := 10) (oi := { dst := some 26, op := Op.indexAddr 29 (Operand.tmp 23) (Operand.tmp 25), type := 0, pos := "substitute.go:38", after := #[{ on := 7, ground := Ground.data }, { on := 9, ground := Ground.data }, { on := 6, ground := Ground.guard }], guard := some (6, true) }) (v := .pointer (some ⟨bl, ol + j * 4, none⟩)) rfl (by kernel_rfl) (by kernel_rfl) (by kernel_rfl) (fun _ _ _ h => h) (Or.inl ⟨by rfl, fun w hSw => by (try dsimp only at hSw); go_simp⟩) hHeld ?_
            try simp only [Act.put, List.setIfInBounds_toArray, List.set_cons_zero, List.set_cons_succ]
            refine wpAnyH_take (i := 11) (oi := { dst := some 27, op := Op.load 61 (Operand.tmp 26), type := 61, pos := "substitute.go:38", after := #[{ on := 10, ground := Ground.data }, { on := 6, ground := Ground.guard }], guard := some (6, true) }) (v := .agg #[.int .i64 yk, .string (bs yt), .int .i64 yn, .bool ym]) rfl (by kernel_rfl) (by kernel_rfl) (by kernel_rfl) (fun _ _ _ h => h) (Or.inl ⟨by rfl, fun w hSw => by (try dsimp only at hSw); obtain ⟨c0, c1, c2, c3⟩ := gcell (HR3.out.keep (hSw.block bl Hbl.out (by simp))) HY.out; go_simp⟩) hHeld ?_
            try simp only [Act.put, List.setIfInBounds_toArray, List.set_cons_zero, List.set_cons_succ]
            refine wpAnyH_take (i := 12) (oi := { dst := some 28, op := Op.load 61 (Operand.tmp 5), type := 61, pos := "substitute.go:38", after := #[{ on := 6, ground := Ground.guard }], guard := some (6, true) }) (v := .agg #[.int .i64 xk, .string (bs xt), .int .i64 xn, .bool xm]) rfl (by kernel_rfl) (by kernel_rfl) (by kernel_rfl) (fun _ _ _ h => h) (Or.inl ⟨by rfl, fun w hSw => by (try dsimp only at hSw); obtain ⟨c0, c1, c2, c3⟩ := pcell (HP3.out.kp hSw (by simp)); go_simp⟩) hHeld ?_
            try simp only [Act.put, List.setIfInBounds_toArray, List.set_cons_zero, List.set_cons_succ]
            refine wpAnyH_ready (rs := [13]) (by kernel_rfl) (by simp) ?_
            refine AllReadyH.cons (o := { dst := some 29, op := Op.call { callee := Callee.value (Operand.func 38), args := #[Operand.tmp 27, Operand.tmp 28], argTypes := #[61, 61] }, type := 4, pos := "substitute.go:38", after := #[{ on := 11, ground := Ground.data }, { on := 12, ground := Ground.data }, { on := 6, ground := Ground.chain }, { on := 6, ground := Ground.guard }], guard := some (6, true) }) rfl (fun K hK => ?_) AllReadyH.nil
            go_simp
            go_at_call 38
            refine Calls.mono (by with_reducible exact HM.out _) ?_
            rintro e V2 ⟨rfl, hkv⟩
            dsimp only
            have hS := hHeld.trans hkv
            clear hkv
            clear hHeld
            refine hK.out _ _ hS (fun hHeld => ?_)
            try simp only [Act.put, List.setIfInBounds_toArray, List.set_cons_zero, List.set_cons_succ]
            clear hK
            clear hS
            refine wpAnyH_take (i := 14) (oi := { dst := some 30, op := Op.unOp UnOp.not 4 (Operand.tmp 29), type := 4, pos := "substitute.go:38", after := #[{ on := 13, ground := Ground.data }, { on := 6, ground := Ground.guard }], guard := some (6, true) }) (v := .bool true) rfl (by kernel_rfl) (by kernel_rfl) (by kernel_rfl) (fun _ _ _ h => h) (Or.inl ⟨by rfl, fun w hSw => by (try dsimp only at hSw); go_simp⟩) hHeld ?_
            try simp only [Act.put, List.setIfInBounds_toArray, List.set_cons_zero, List.set_cons_succ]
            refine wpAnyH_take (i := 15) (oi := { dst := some 31, op := Op.pick (Operand.tmp 22) (Operand.tmp 30) (Operand.const (Value.bool false)), type := 4, pos := "substitute.go:38", after := #[{ on := 6, ground := Ground.data }, { on := 14, ground := Ground.data }, { on := 3, ground := Ground.guard }], guard := some (3, false) }) (v := .bool true) rfl (by kernel_rfl) (by kernel_rfl) (by kernel_rfl) (fun _ _ _ h => h) (Or.inl ⟨by rfl, fun w hSw => by (try dsimp only at hSw); go_simp⟩) hHeld ?_
            try simp only [Act.put, List.setIfInBounds_toArray, List.set_cons_zero, List.set_cons_succ]
            refine wpAnyH_take (i := 16) (oi := { dst := some 32, op := Op.pick (Operand.tmp 19) (Operand.const (Value.bool true)) (Operand.tmp 31), type := 4, pos := "substitute.go:38", after := #[{ on := 3, ground := Ground.data }, { on := 15, ground := Ground.data }], guard := none }) (v := .bool true) rfl (by kernel_rfl) (by kernel_rfl) (by kernel_rfl) (fun _ _ _ h => h) (Or.inl ⟨by rfl, fun w hSw => by (try dsimp only at hSw); go_simp⟩) hHeld ?_
            try simp only [Act.put, List.setIfInBounds_toArray, List.set_cons_zero, List.set_cons_succ]
            have HSe := Lib.hid hHeld
            refine wpAnyH_done (by kernel_rfl) ?_ _
            clear hHeld
            go_wp2
            go_ret2
            rw [HF.out]
            exact ⟨rfl, HK3.out.trans HSe.out⟩
          | true =>
            have HAD := Lib.hid (HNX.out (by rw [hAd]; rfl))
            refine wp_region_held_drew (S := fun W => Kp [] W3 W) (by kernel_rfl) (show Kp [] W3 W3.drew from (Kp.refl [] W3).drew 1) (fun hHeld => ?_)
            generalize hwd : W3.drew = wd at *
            clear hwd
            refine wpAnyH_take (i := 0) (oi := { dst := some 16, op := Op.load 61 (Operand.tmp 5), type := 61, pos := "substitute.go:38", after := #[], guard := none }) (v := .agg #[.int .i64 xk, .string (bs xt), .int .i64 xn, .bool xm]) rfl (by kernel_rfl) (by kernel_rfl) (by kernel_rfl) (fun _ _ _ h => h) (Or.inl ⟨by rfl, fun w hSw => by (try dsimp only at hSw); obtain ⟨c0, c1, c2, c3⟩ := pcell (HP3.out.kp hSw (by simp)); go_simp⟩) hHeld ?_
            try simp only [Act.put, List.setIfInBounds_toArray, List.set_cons_zero, List.set_cons_succ]
            refine wpAnyH_ready (rs := [1]) (by kernel_rfl) (by simp) ?_
            refine AllReadyH.cons (o := { dst := some 17, op := Op.call { callee := Callee.value (Operand.func 37), args := #[Operand.tmp 16], argTypes := #[61] }, type := 4, pos := "substitute.go:38", after := #[{ on := 0, ground := Ground.data }], guard := none }) rfl (fun K hK => ?_) AllReadyH.nil
            go_simp
            go_at_call 37
            refine Calls.mono (by with_reducible exact HIP.out _) ?_
            rintro e V1 ⟨rfl, hkv⟩
            dsimp only
            have hS := hHeld.trans hkv
            clear hkv
            clear hHeld
            refine hK.out _ _ hS (fun hHeld => ?_)
            try simp only [Act.put, List.setIfInBounds_toArray, List.set_cons_zero, List.set_cons_succ]
            clear hK
            clear hS
            refine wpAnyH_take (i := 2) (oi := { dst := some 18, op := Op.unOp UnOp.not 4 (Operand.tmp 17), type := 4, pos := "substitute.go:38", after := #[{ on := 1, ground := Ground.data }], guard := none }) (v := .bool false) rfl (by kernel_rfl) (by kernel_rfl) (by kernel_rfl) (fun _ _ _ h => h) (Or.inl ⟨by rfl, fun w hSw => by (try dsimp only at hSw); go_simp⟩) hHeld ?_
            try simp only [Act.put, List.setIfInBounds_toArray, List.set_cons_zero, List.set_cons_succ]
            refine wpAnyH_take (i := 3) (oi := { dst := some 19, op := Op.move (Operand.tmp 18), type := 4, pos := "substitute.go:38", after := #[{ on := 2, ground := Ground.data }, { on := 1, ground := Ground.chain }], guard := none }) (v := .bool false) rfl (by kernel_rfl) (by kernel_rfl) (by kernel_rfl) (fun _ _ _ h => h) (Or.inl ⟨by rfl, fun w hSw => by (try dsimp only at hSw); go_simp⟩) hHeld ?_
            try simp only [Act.put, List.setIfInBounds_toArray, List.set_cons_zero, List.set_cons_succ]
            refine wpAnyH_take (i := 4) (oi := { dst := some 20, op := Op.move (Operand.tmp 4), type := 3, pos := "substitute.go:38", after := #[{ on := 3, ground := Ground.guard }], guard := some (3, false) }) (v := .int .i64 (i : Int)) rfl (by kernel_rfl) (by kernel_rfl) (by kernel_rfl) (fun _ _ _ h => h) (Or.inl ⟨by rfl, fun w hSw => by (try dsimp only at hSw); go_simp⟩) hHeld ?_
            try simp only [Act.put, List.setIfInBounds_toArray, List.set_cons_zero, List.set_cons_succ]
            refine wpAnyH_take (i := 5) (oi := { dst := some 21, op := Op.binOp BinOp.gtr 3 (Operand.tmp 20) (Operand.const (Value.int IntKind.i64 0)) 3, type := 4, pos := "substitute.go:38", after := #[{ on := 4, ground := Ground.data }, { on := 3, ground := Ground.guard }], guard := some (3, false) }) (v := .bool true) rfl (by kernel_rfl) (by kernel_rfl) (by kernel_rfl) (fun _ _ _ h => h) (Or.inl ⟨by rfl, fun w hSw => by (try dsimp only at hSw); go_simp⟩) hHeld ?_
            try simp only [Act.put, List.setIfInBounds_toArray, List.set_cons_zero, List.set_cons_succ]
            refine wpAnyH_take (i := 6) (oi := { dst := some 22, op := Op.move (Operand.tmp 21), type := 4, pos := "substitute.go:38", after := #[{ on := 5, ground := Ground.data }, { on := 3, ground := Ground.chain }, { on := 3, ground := Ground.guard }], guard := some (3, false) }) (v := .bool true) rfl (by kernel_rfl) (by kernel_rfl) (by kernel_rfl) (fun _ _ _ h => h) (Or.inl ⟨by rfl, fun w hSw => by (try dsimp only at hSw); go_simp⟩) hHeld ?_
            try simp only [Act.put, List.setIfInBounds_toArray, List.set_cons_zero, List.set_cons_succ]
            refine wpAnyH_take (i := 7) (oi := { dst := some 23, op := Op.move (Operand.tmp 0), type := 29, pos := "substitute.go:38", after := #[{ on := 6, ground := Ground.guard }], guard := some (6, true) }) (v := .slice (some ⟨bl, ol, none⟩) N vc) rfl (by kernel_rfl) (by kernel_rfl) (by kernel_rfl) (fun _ _ _ h => h) (Or.inl ⟨by rfl, fun w hSw => by (try dsimp only at hSw); go_simp⟩) hHeld ?_
            try simp only [Act.put, List.setIfInBounds_toArray, List.set_cons_zero, List.set_cons_succ]
            refine wpAnyH_take (i := 8) (oi := { dst := some 24, op := Op.move (Operand.tmp 4), type := 3, pos := "substitute.go:38", after := #[{ on := 6, ground := Ground.guard }], guard := some (6, true) }) (v := .int .i64 (i : Int)) rfl (by kernel_rfl) (by kernel_rfl) (by kernel_rfl) (fun _ _ _ h => h) (Or.inl ⟨by rfl, fun w hSw => by (try dsimp only at hSw); go_simp⟩) hHeld ?_
            try simp only [Act.put, List.setIfInBounds_toArray, List.set_cons_zero, List.set_cons_succ]
            refine wpAnyH_take (i := 9) (oi := { dst := some 25, op := Op.binOp BinOp.sub 3 (Operand.tmp 24) (Operand.const (Value.int IntKind.i64 1)) 3, type := 3, pos := "substitute.go:38", after := #[{ on := 8, ground := Ground.data }, { on := 6, ground := Ground.guard }], guard := some (6, true) }) (v := .int .i64 (j : Int)) rfl (by kernel_rfl) (by kernel_rfl) (by kernel_rfl) (fun _ _ _ h => h) (Or.inl ⟨by rfl, fun w hSw => by (try dsimp only at hSw); go_simp⟩) hHeld ?_
            try simp only [Act.put, List.setIfInBounds_toArray, List.set_cons_zero, List.set_cons_succ]
            refine wpAnyH_take (i := 10) (oi := { dst := some 26, op := Op.indexAddr 29 (Operand.tmp 23) (Operand.tmp 25), type := 0, pos := "substitute.go:38", after := #[{ on := 7, ground := Ground.data }, { on := 9, ground := Ground.data }, { on := 6, ground := Ground.guard }], guard := some (6, true) }) (v := .pointer (some ⟨bl, ol + j * 4, none⟩)) rfl (by kernel_rfl) (by kernel_rfl) (by kernel_rfl) (fun _ _ _ h => h) (Or.inl ⟨by rfl, fun w hSw => by (try dsimp only at hSw); go_simp⟩) hHeld ?_
            try simp only [Act.put, List.setIfInBounds_toArray, List.set_cons_zero, List.set_cons_succ]
            refine wpAnyH_take (i := 11) (oi := { dst := some 27, op := Op.load 61 (Operand.tmp 26), type := 61, pos := "substitute.go:38", after := #[{ on := 10, ground := Ground.data }, { on := 6, ground := Ground.guard }], guard := some (6, true) }) (v := .agg #[.int .i64 yk, .string (bs yt), .int .i64 yn, .bool ym]) rfl (by kernel_rfl) (by kernel_rfl) (by kernel_rfl) (fun _ _ _ h => h) (Or.inl ⟨by rfl, fun w hSw => by (try dsimp only at hSw); obtain ⟨c0, c1, c2, c3⟩ := gcell (HR3.out.keep (hSw.block bl Hbl.out (by simp))) HY.out; go_simp⟩) hHeld ?_
            try simp only [Act.put, List.setIfInBounds_toArray, List.set_cons_zero, List.set_cons_succ]
            refine wpAnyH_take (i := 12) (oi := { dst := some 28, op := Op.load 61 (Operand.tmp 5), type := 61, pos := "substitute.go:38", after := #[{ on := 6, ground := Ground.guard }], guard := some (6, true) }) (v := .agg #[.int .i64 xk, .string (bs xt), .int .i64 xn, .bool xm]) rfl (by kernel_rfl) (by kernel_rfl) (by kernel_rfl) (fun _ _ _ h => h) (Or.inl ⟨by rfl, fun w hSw => by (try dsimp only at hSw); obtain ⟨c0, c1, c2, c3⟩ := pcell (HP3.out.kp hSw (by simp)); go_simp⟩) hHeld ?_
            try simp only [Act.put, List.setIfInBounds_toArray, List.set_cons_zero, List.set_cons_succ]
            refine wpAnyH_ready (rs := [13]) (by kernel_rfl) (by simp) ?_
            refine AllReadyH.cons (o := { dst := some 29, op := Op.call { callee := Callee.value (Operand.func 38), args := #[Operand.tmp 27, Operand.tmp 28], argTypes := #[61, 61] }, type := 4, pos := "substitute.go:38", after := #[{ on := 11, ground := Ground.data }, { on := 12, ground := Ground.data }, { on := 6, ground := Ground.chain }, { on := 6, ground := Ground.guard }], guard := some (6, true) }) rfl (fun K hK => ?_) AllReadyH.nil
            go_simp
            go_at_call 38
            refine Calls.mono (by with_reducible exact HM.out _) ?_
            rintro e V2 ⟨rfl, hkv⟩
            dsimp only
            have hS := hHeld.trans hkv
            clear hkv
            clear hHeld
            refine hK.out _ _ hS (fun hHeld => ?_)
            try simp only [Act.put, List.setIfInBounds_toArray, List.set_cons_zero, List.set_cons_succ]
            clear hK
            clear hS
            refine wpAnyH_take (i := 14) (oi := { dst := some 30, op := Op.unOp UnOp.not 4 (Operand.tmp 29), type := 4, pos := "substitute.go:38", after := #[{ on := 13, ground := Ground.data }, { on := 6, ground := Ground.guard }], guard := some (6, true) }) (v := .bool false) rfl (by kernel_rfl) (by kernel_rfl) (by kernel_rfl) (fun _ _ _ h => h) (Or.inl ⟨by rfl, fun w hSw => by (try dsimp only at hSw); go_simp⟩) hHeld ?_
            try simp only [Act.put, List.setIfInBounds_toArray, List.set_cons_zero, List.set_cons_succ]
            refine wpAnyH_take (i := 15) (oi := { dst := some 31, op := Op.pick (Operand.tmp 22) (Operand.tmp 30) (Operand.const (Value.bool false)), type := 4, pos := "substitute.go:38", after := #[{ on := 6, ground := Ground.data }, { on := 14, ground := Ground.data }, { on := 3, ground := Ground.guard }], guard := some (3, false) }) (v := .bool false) rfl (by kernel_rfl) (by kernel_rfl) (by kernel_rfl) (fun _ _ _ h => h) (Or.inl ⟨by rfl, fun w hSw => by (try dsimp only at hSw); go_simp⟩) hHeld ?_
            try simp only [Act.put, List.setIfInBounds_toArray, List.set_cons_zero, List.set_cons_succ]
            refine wpAnyH_take (i := 16) (oi := { dst := some 32, op := Op.pick (Operand.tmp 19) (Operand.const (Value.bool true)) (Operand.tmp 31), type := 4, pos := "substitute.go:38", after := #[{ on := 3, ground := Ground.data }, { on := 15, ground := Ground.data }], guard := none }) (v := .bool false) rfl (by kernel_rfl) (by kernel_rfl) (by kernel_rfl) (fun _ _ _ h => h) (Or.inl ⟨by rfl, fun w hSw => by (try dsimp only at hSw); go_simp⟩) hHeld ?_
            try simp only [Act.put, List.setIfInBounds_toArray, List.set_cons_zero, List.set_cons_succ]
            have HSe := Lib.hid hHeld
            refine wpAnyH_done (by kernel_rfl) ?_ _
            clear hHeld
            go_wp2
            go_roundg gk
            case measure => omega
            case rel => exact ⟨i + 1, by go_num, by omega, HAD, Lib.hid (HK3.out.trans HSe.out)⟩
end Go.Proofs.YtfpkppgecmbglaaGreatDoor
