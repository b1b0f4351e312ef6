/- Ih -/
import Derived.Test.YtkkibibecgcbmaaGreatDoorQIg
import Derived.Test.YtkkibibecgcbmaaGreatDoorQLxX
import Derived.Test.YtkkibibecgcbmaaGreatDoorQGy
import Derived.Test.YtkkibibecgcbmaaGreatDoorQI
import Derived.Deep.RegionHeld3
open Go.Lib renaming hid → qH
open Go.Calls renaming mono → cM
open Go.Act renaming put → aP
open List renaming setIfInBounds_toArray → lA, set_cons_zero → lB, set_cons_succ → lC
set_option maxRecDepth 100000
set_option maxHeartbeats 16000000
namespace Go.Proofs.YtkkibibecgcbmaaGreatDoor
open Go.RowKit
def kyA : Array Value := #[.string ⟨#[]⟩, .string ⟨#[65, 67, 84, 73, 79, 78]⟩, .string ⟨#[75, 69, 82, 78, 69, 76]⟩, .string ⟨#[83, 85, 66, 83, 89, 83, 84, 69, 77]⟩, .string ⟨#[68, 82, 73, 86, 69, 82]⟩, .string ⟨#[65, 84, 84, 82]⟩, .string ⟨#[69, 78, 86]⟩, .string ⟨#[84, 65, 71]⟩, .string ⟨#[75, 69, 82, 78, 69, 76, 83]⟩, .string ⟨#[83, 85, 66, 83, 89, 83, 84, 69, 77, 83]⟩, .string ⟨#[68, 82, 73, 86, 69, 82, 83]⟩, .string ⟨#[65, 84, 84, 82, 83]⟩, .string ⟨#[80, 82, 79, 71, 82, 65, 77]⟩, .string ⟨#[82, 69, 83, 85, 76, 84]⟩, .string ⟨#[73, 77, 80, 79, 82, 84]⟩, .string ⟨#[78, 65, 77, 69]⟩, .string ⟨#[83, 89, 77, 76, 73, 78, 75]⟩, .string ⟨#[79, 87, 78, 69, 82]⟩, .string ⟨#[71, 82, 79, 85, 80]⟩, .string ⟨#[77, 79, 68, 69]⟩, .string ⟨#[82, 85, 78]⟩, .string ⟨#[76, 79, 65, 68]⟩, .string ⟨#[80, 82, 73, 79, 82, 73, 84, 89]⟩, .string ⟨#[76, 65, 66, 69, 76]⟩, .string ⟨#[71, 79, 84, 79]⟩]
def opA2 : Array Value := #[.string ⟨#[]⟩, .string ⟨#[61, 61]⟩, .string ⟨#[33, 61]⟩, .string ⟨#[61]⟩, .string ⟨#[43, 61]⟩, .string ⟨#[45, 61]⟩, .string ⟨#[58, 61]⟩]
theorem keys_any (w : World) : Calls Tryz.prog 49 #[] w fun r w' => r = .returned (.slice (some ⟨w.heap.size, 0, none⟩) 25 25) ∧ w' = w.alloc (.cells kyA 9) := by
 go_enter Tryz.func49, Tryz.ntmps49
 go_wp2
 go_ret
 exact ⟨rfl, rfl⟩
theorem ops_any (w : World) : Calls Tryz.prog 50 #[] w fun r w' => r = .returned (.slice (some ⟨w.heap.size, 0, none⟩) 7 7) ∧ w' = w.alloc (.cells opA2 9) := by
 go_enter Tryz.func50, Tryz.ntmps50
 go_wp2
 go_ret
 exact ⟨rfl, rfl⟩
theorem kyA_get (j : Nat) (h : j < 25) : kyA[j]? = some (.string (bs (wrK (j : Int)))) := by
 have e : kyA = (keysG.map fun s => Value.string (bs s)).toArray := rfl
 have hl : j < keysG.length := h
 rw [e, List.getElem?_toArray, List.getElem?_map]
 unfold wrK
 rw [Int.toNat_natCast, List.getElem?_eq_getElem hl]
 rfl
theorem opA2_get (j : Nat) (h : j < 7) : opA2[j]? = some (.string (bs (wrO (j : Int)))) := by
 have e : opA2 = (opsG.map fun s => Value.string (bs s)).toArray := rfl
 have hl : j < opsG.length := h
 rw [e, List.getElem?_toArray, List.getElem?_map]
 unfold wrO
 rw [Int.toNat_natCast, List.getElem?_eq_getElem hl]
 rfl
theorem cell_wr1 {W : World} {K kn : Nat} {kw : List UInt8} (h : W.heap[K]? = some (.cells kyA 9 (0, 0))) (hk : kn < 25 ∧ wrK (kn : Int) = kw) : W.cell? ⟨K, kn, none⟩ = some (.string (bs kw)) := by
 rw [cell_of_row _ _ _ _ _ _ h, kyA_get kn hk.1, hk.2]
theorem cell_wr2 {W : World} {K kn : Nat} {kw : List UInt8} (h : W.heap[K]? = some (.cells opA2 9 (0, 0))) (hk : kn < 7 ∧ wrO (kn : Int) = kw) : W.cell? ⟨K, kn, none⟩ = some (.string (bs kw)) := by
 rw [cell_of_row _ _ _ _ _ _ h, opA2_get kn hk.1, hk.2]
theorem rangeAt_new (W : World) (x : Lx.Tok) : (W.alloc (.cells #[.string (bs x.key), .string (bs x.name), .string (bs x.op), .string (bs x.val)] 81)).rangeAt W.heap.size 0 (Lx.tokT.cf x) := fun m v hv => by
 have hb := heap_alloc_last W (.cells #[.string (bs x.key), .string (bs x.name), .string (bs x.op), .string (bs x.val)] 81)
 rw [Nat.zero_add, cell_of_row _ _ _ _ _ _ hb, ← hv, ← Array.getElem?_toList]
 rfl
theorem step_append_r {α : Type} {r : RT α} {ops : Array Oper} {o : Oper} {a : Act} {w : World} {K : Act → World → Prop} {Q : Exit → Act → World → Prop} {E : Prop} (hg : o.guard = none) (s y : Operand)
  (hop : o.op = Op.call { callee := Callee.builtin Builtin.append, args := #[s, y], argTypes := #[r.sl, r.sl] }) (base : Nat)
  (v : Value) (xs : List α) (hs : a.eval s = v) (hown : r.Own w base v xs) (b c : Nat) (x : α) (hx : a.eval y = .slice (some ⟨b, 0, none⟩) 1 c) (hcell : w.rangeAt b 0 (r.cf x)) (hb1 : xs.length ≤ 1000000) (hb : base ≤ w.heap.size)
  (hK : ∀ v' w', r.Own w' base v' (xs ++ [x]) → w.grownBy w' v.ownBlock → K (a.put o.dst v') w') :
  if Region.wanted o (yielded ops a.tmps) = true then Oper.wp Tryz.prog o a w K Q else E := by
 have hw : Region.wanted o (yielded ops a.tmps) = true := by simp [Region.wanted, hg]
 rw [if_pos hw]
 obtain ⟨v', w', h1, h2, h3⟩ := run_append_r (c := c) x o.type hown hcell hb1 hb
 unfold Oper.wp
 simp [execOp, hop, resolve, invoke, builtin, hs, hx, h1, Result.andThen]
 exact hK v' w' h2 h3
theorem termE_zero {t : Tm} (h : termE t = 0) : 1 ≤ t.key ∧ t.key ≤ 24 ∧ 1 ≤ t.op ∧ t.op ≤ 6 := by
 unfold termE at h
 split at h
 ·cases h
 rename_i hk
 split at h
 ·cases h
 split at h
 ·cases h
 rename_i ho
 have h1 : 1 ≤ t.key ∧ t.key ≤ 24 := by omega
 have h2 : (opT t.key).contains t.op = true := by simpa using ho
 refine ⟨h1.1, h1.2, ?_⟩
 have h3 : t.op ∈ opT t.key := by simpa using h2
 unfold opT at h3
 repeat' split at h3
 all_goals (simp at h3; omega)
theorem wrkI_len (k : Int) (h1 : 1 ≤ k) (h2 : k ≤ 24) : (wrK k).length ≤ 100 := by
 have hk : k = 1 ∨ k = 2 ∨ k = 3 ∨ k = 4 ∨ k = 5 ∨ k = 6 ∨ k = 7 ∨ k = 8 ∨ k = 9 ∨ k = 10 ∨ k = 11 ∨ k = 12 ∨ k = 13 ∨ k = 14 ∨ k = 15 ∨ k = 16 ∨ k = 17 ∨ k = 18 ∨ k = 19 ∨ k = 20 ∨ k = 21 ∨ k = 22 ∨ k = 23 ∨ k = 24 := by omega
 rcases hk with rfl | rfl | rfl | rfl | rfl | rfl | rfl | rfl | rfl | rfl | rfl | rfl | rfl | rfl | rfl | rfl | rfl | rfl | rfl | rfl | rfl | rfl | rfl | rfl <;> decide
theorem wroI_len (k : Int) (h1 : 1 ≤ k) (h2 : k ≤ 6) : (wrO k).length ≤ 100 := by
 have hk : k = 1 ∨ k = 2 ∨ k = 3 ∨ k = 4 ∨ k = 5 ∨ k = 6 := by omega
 rcases hk with rfl | rfl | rfl | rfl | rfl | rfl <;> decide
theorem tok_sm {t : Tm} (hs : SmT t) (h : termE t = 0) : Lx.Sm (tokOf t) := by
 obtain ⟨h1, h2, h3, h4⟩ := termE_zero h
 have a := wrkI_len t.key h1 h2
 have b := wroI_len t.op h3 h4
 have c := hs.1
 have d := hs.2
 refine ⟨?_, ?_, ?_, ?_⟩ <;> simp only [tokOf] <;> omega
theorem checkE_zero {l : List Tm} (h : checkE l = 0) : l.length ≤ 16 ∧ ∀ t ∈ l, termE t = 0 := by
 unfold checkE at h
 split at h
 ·cases h
 split at h
 ·cases h
 split at h
 ·rename_i h1
  exact absurd h h1
 rename_i h1 h2 h3
 exact ⟨by omega, firstE_ok (Decidable.of_not_not h3)⟩
theorem refGFormat_any {w : World} (hE : Env w) {v : Value} {l : List Tm} (hh : tmT.Has w v l) (hl : l.length ≤ 1000000) (hs : ∀ x ∈ l, SmT x) : Calls Tryz.prog 23 #[v] w fun r w' => r = .returned (.tuple #[.string (bs (formatG l).1), .int .i64 (formatG l).2]) ∧ Kp [] w w' := by
 have HCK := qH (refGCheck_any hE hh hl hs)
 obtain ⟨va, vc, rfl, hrow⟩ := hh.form
 obtain ⟨F, hF⟩ : ∃ F, formatG l = F := ⟨_, rfl⟩
 rw [hF]
 unfold formatG at hF
 by_cases hc : checkE l ≠ 0
 ·rw [if_pos hc] at hF
  obtain ⟨z, hz⟩ : ∃ z, checkE l = z := ⟨_, rfl⟩
  rw [hz] at HCK hF hc
  subst hF
  have hzb : (z == 0) = false := by simpa using hc
  clear hE hh hl hs hrow hc hz
  go_enter Tryz.func23, Tryz.ntmps23
  go_wp2_with (go_at_call 16; refine cM (by with_reducible exact HCK.out) ?_; rintro e w1 ⟨rfl, hk1⟩; have HK1 := qH hk1; clear hk1)
  go_ret2
  exact ⟨rfl, HK1.out⟩
 have hc := Decidable.of_not_not hc
 rw [if_neg (by rw [hc]; simp)] at hF
 obtain ⟨h16, hok⟩ := checkE_zero hc
 rw [hc] at HCK
 have HROW := qH hrow
 have HSM := qH hs
 have HTE := qH hok
 have HE := qH hE
 have HF := qH hF
 clear hc hrow hs hok hE hh hF
 go_enter Tryz.func23, Tryz.ntmps23
 go_wp2_with (go_at_call 16; refine cM (by with_reducible exact HCK.out) ?_; rintro e w1 ⟨rfl, hk1⟩; have HK1 := qH hk1; clear hk1)
 go_loopg [5, 6] l.length (fun g s5 s6 wx => ∃ i : Nat, s6 = .int .i64 (i : Int) ∧ Lx.tokT.Own wx w.heap.size s5 ((l.take i).map tokOf) ∧ i + g = l.length ∧ Kp [] w wx)
 case atStart => exact ⟨0, rfl, RT.Own.nil Lx.tokT w1 _, by omega, HK1.out⟩
 case round =>
  obtain ⟨i, rfl, ho, hig, hkp⟩ := hrel
  have HO := qH ho
  have HKW := qH hkp
  have HIG := qH hig
  by_cases hi : i < l.length
  ·obtain ⟨g, rfl⟩ : ∃ g, gk = g + 1 := ⟨gk - 1, by omega⟩
   obtain ⟨b, o, rfl, hbl, hr⟩ := HROW.out (by rintro rfl; simp at hi)
   obtain ⟨x, hx⟩ : ∃ x, l[i]? = some x := ⟨_, List.getElem?_eq_getElem hi⟩
   have hiz : (i : Int) < (l.length : Int) := by omega
   have hi0 : (0 : Int) ≤ (i : Int) := by omega
   have hwi : IntKind.i64.wrap ((i : Int) + 1) = ((i + 1 : Nat) : Int) := by rw [IntKind.wrap_i64]; omega
   obtain ⟨t1, t2, t3, t4⟩ := termE_zero (HTE.out x (List.mem_of_getElem? hx))
   obtain ⟨kn, hkn0⟩ : ∃ n : Nat, x.key = (n : Int) := ⟨x.key.toNat, by omega⟩
   obtain ⟨on, hon0⟩ : ∃ n : Nat, x.op = (n : Int) := ⟨x.op.toNat, by omega⟩
   obtain ⟨kw, hkw⟩ : ∃ s, wrK (kn : Int) = s := ⟨_, rfl⟩
   obtain ⟨ow, how⟩ : ∃ s, wrO (on : Int) = s := ⟨_, rfl⟩
   have hkn : kn < 25 ∧ wrK (kn : Int) = kw := ⟨by omega, hkw⟩
   have hon : on < 7 ∧ wrO (on : Int) = ow := ⟨by omega, how⟩
   have hk25 : (kn : Int) < 25 := by omega
   have hk0 : (0 : Int) ≤ (kn : Int) := by omega
   have ho7 : (on : Int) < 7 := by omega
   have ho0 : (0 : Int) ≤ (on : Int) := by omega
   have HTK := qH (show (l.take (i + 1)).map tokOf = (l.take i).map tokOf ++ [⟨kw, x.name, ow, x.val⟩] by
    rw [List.take_add_one, hx, List.map_append]
    simp only [Option.toList, List.map_cons, List.map_nil, tokOf, hkn0, hon0, hkw, how])
   have HXS := qH (show ((l.take i).map tokOf).length ≤ 1000000 by rw [List.length_map, List.length_take]; omega)
   have HSS := qH (show ∀ W, Kp [] wr W → (fun W : World => W.cell? ⟨b, o + i * 4, none⟩ = some (.int .i64 (kn : Int)) ∧ W.cell? ⟨b, o + i * 4 + 1, none⟩ = some (.string (bs x.name)) ∧ W.cell? ⟨b, o + i * 4 + 2, none⟩ = some (.int .i64 (on : Int)) ∧ W.cell? ⟨b, o + i * 4 + 3, none⟩ = some (.string (bs x.val))) W from fun W h => by
    obtain ⟨c0, c1, c2, c3⟩ := tmRow (hr.keep ((hkp.trans h).block b hbl (by simp))) hx
    rw [hkn0] at c0
    rw [hon0] at c2
    exact ⟨c0, c1, c2, c3⟩)
   have HS8 := qH (show ∀ W W', Kp [] wr W → (∀ k, k < w.heap.size → W'.heap[k]? = W.heap[k]?) → (fun W : World => W.cell? ⟨b, o + i * 4, none⟩ = some (.int .i64 (kn : Int)) ∧ W.cell? ⟨b, o + i * 4 + 1, none⟩ = some (.string (bs x.name)) ∧ W.cell? ⟨b, o + i * 4 + 2, none⟩ = some (.int .i64 (on : Int)) ∧ W.cell? ⟨b, o + i * 4 + 3, none⟩ = some (.string (bs x.val))) W' from fun W W' h h2 => by
    obtain ⟨c0, c1, c2, c3⟩ := tmRow (hr.keep ((h2 b hbl).trans ((hkp.trans h).block b hbl (by simp)))) hx
    rw [hkn0] at c0
    rw [hon0] at c2
    exact ⟨c0, c1, c2, c3⟩)
   have HSZ := qH (show ∀ W, Kp [] wr W → w.heap.size ≤ W.heap.size from fun W h => Nat.le_trans hkp.size h.size)
   have HKY := qH keys_any
   have HOP := qH ops_any
   clear hkn0 hon0 hkp ho hig hx hbl hr t1 t2 t3 t4 hkw how
   go_upto_region 8 with fail
   refine wp_region_held_drew (S := fun W : World => W.cell? ⟨b, o + i * 4, none⟩ = some (.int .i64 (kn : Int)) ∧ W.cell? ⟨b, o + i * 4 + 1, none⟩ = some (.string (bs x.name)) ∧ W.cell? ⟨b, o + i * 4 + 2, none⟩ = some (.int .i64 (on : Int)) ∧ W.cell? ⟨b, o + i * 4 + 3, none⟩ = some (.string (bs x.val))) (by kernel_rfl) (HSS.out _ ((Kp.refl [] wr).drew 1)) (fun hHeld => ?_)
   have HK0 := qH (show Kp [] wr wr.drew from (Kp.refl [] wr).drew 1)
   refine wpAnyH_take (i := 0) (oi := ⟨some 18, .move (.tmp 5), 77, "ref.go:174", #[], none⟩) (v := u5) rfl (by kernel_rfl) (by kernel_rfl) (by kernel_rfl) (fun _ _ _ h => h) (Or.inl ⟨by rfl, fun w hSw => by (try dsimp only at hSw); obtain ⟨hs0, hs1, hs2, hs3⟩ := hSw; go_simp⟩) hHeld ?_
   try simp only [aP, lA, lB, lC]
   refine wpAnyH_take (i := 2) (oi := ⟨some 20, .move (.tmp 0), 22, "ref.go:174", #[], none⟩) (v := .slice (some ⟨b, o, none⟩) l.length vc) rfl (by kernel_rfl) (by kernel_rfl) (by kernel_rfl) (fun _ _ _ h => h) (Or.inl ⟨by rfl, fun w hSw => by (try dsimp only at hSw); obtain ⟨hs0, hs1, hs2, hs3⟩ := hSw; go_simp⟩) hHeld ?_
   try simp only [aP, lA, lB, lC]
   refine wpAnyH_take (i := 3) (oi := ⟨some 21, .move (.tmp 6), 3, "ref.go:174", #[], none⟩) (v := .int .i64 (i : Int)) rfl (by kernel_rfl) (by kernel_rfl) (by kernel_rfl) (fun _ _ _ h => h) (Or.inl ⟨by rfl, fun w hSw => by (try dsimp only at hSw); obtain ⟨hs0, hs1, hs2, hs3⟩ := hSw; go_simp⟩) hHeld ?_
   try simp only [aP, lA, lB, lC]
   refine wpAnyH_take (i := 4) (oi := ⟨some 22, .indexAddr 22 (.tmp 20) (.tmp 21), 0, "ref.go:174", #[⟨2, .data⟩, ⟨3, .data⟩], none⟩) (v := .pointer (some ⟨b, o + i * 4, none⟩)) rfl (by kernel_rfl) (by kernel_rfl) (by kernel_rfl) (fun _ _ _ h => h) (Or.inl ⟨by rfl, fun w hSw => by (try dsimp only at hSw); obtain ⟨hs0, hs1, hs2, hs3⟩ := hSw; go_simp⟩) hHeld ?_
   try simp only [aP, lA, lB, lC]
   refine wpAnyH_take (i := 5) (oi := ⟨some 23, .fieldAddr 31 (.tmp 22) 0, 0, "ref.go:174", #[⟨4, .data⟩], none⟩) (v := .pointer (some ⟨b, o + i * 4, none⟩)) rfl (by kernel_rfl) (by kernel_rfl) (by kernel_rfl) (fun _ _ _ h => h) (Or.inl ⟨by rfl, fun w hSw => by (try dsimp only at hSw); obtain ⟨hs0, hs1, hs2, hs3⟩ := hSw; go_simp⟩) hHeld ?_
   try simp only [aP, lA, lB, lC]
   refine wpAnyH_take (i := 6) (oi := ⟨some 24, .load 3 (.tmp 23), 3, "ref.go:174", #[⟨5, .data⟩], none⟩) (v := .int .i64 (kn : Int)) rfl (by kernel_rfl) (by kernel_rfl) (by kernel_rfl) (fun _ _ _ h => h) (Or.inl ⟨by rfl, fun w hSw => by (try dsimp only at hSw); obtain ⟨hs0, hs1, hs2, hs3⟩ := hSw; go_simp⟩) hHeld ?_
   try simp only [aP, lA, lB, lC]
   refine wpAnyH_take (i := 9) (oi := ⟨some 27, .move (.tmp 0), 22, "ref.go:174", #[], none⟩) (v := .slice (some ⟨b, o, none⟩) l.length vc) rfl (by kernel_rfl) (by kernel_rfl) (by kernel_rfl) (fun _ _ _ h => h) (Or.inl ⟨by rfl, fun w hSw => by (try dsimp only at hSw); obtain ⟨hs0, hs1, hs2, hs3⟩ := hSw; go_simp⟩) hHeld ?_
   try simp only [aP, lA, lB, lC]
   refine wpAnyH_take (i := 10) (oi := ⟨some 28, .move (.tmp 6), 3, "ref.go:174", #[], none⟩) (v := .int .i64 (i : Int)) rfl (by kernel_rfl) (by kernel_rfl) (by kernel_rfl) (fun _ _ _ h => h) (Or.inl ⟨by rfl, fun w hSw => by (try dsimp only at hSw); obtain ⟨hs0, hs1, hs2, hs3⟩ := hSw; go_simp⟩) hHeld ?_
   try simp only [aP, lA, lB, lC]
   refine wpAnyH_take (i := 11) (oi := ⟨some 29, .indexAddr 22 (.tmp 27) (.tmp 28), 0, "ref.go:174", #[⟨9, .data⟩, ⟨10, .data⟩], none⟩) (v := .pointer (some ⟨b, o + i * 4, none⟩)) rfl (by kernel_rfl) (by kernel_rfl) (by kernel_rfl) (fun _ _ _ h => h) (Or.inl ⟨by rfl, fun w hSw => by (try dsimp only at hSw); obtain ⟨hs0, hs1, hs2, hs3⟩ := hSw; go_simp⟩) hHeld ?_
   try simp only [aP, lA, lB, lC]
   refine wpAnyH_take (i := 12) (oi := ⟨some 30, .fieldAddr 31 (.tmp 29) 1, 0, "ref.go:174", #[⟨11, .data⟩], none⟩) (v := .pointer (some ⟨b, o + i * 4 + 1, none⟩)) rfl (by kernel_rfl) (by kernel_rfl) (by kernel_rfl) (fun _ _ _ h => h) (Or.inl ⟨by rfl, fun w hSw => by (try dsimp only at hSw); obtain ⟨hs0, hs1, hs2, hs3⟩ := hSw; go_simp⟩) hHeld ?_
   try simp only [aP, lA, lB, lC]
   refine wpAnyH_take (i := 13) (oi := ⟨some 31, .load 9 (.tmp 30), 9, "ref.go:174", #[⟨12, .data⟩], none⟩) (v := .string (bs x.name)) rfl (by kernel_rfl) (by kernel_rfl) (by kernel_rfl) (fun _ _ _ h => h) (Or.inl ⟨by rfl, fun w hSw => by (try dsimp only at hSw); obtain ⟨hs0, hs1, hs2, hs3⟩ := hSw; go_simp⟩) hHeld ?_
   try simp only [aP, lA, lB, lC]
   refine wpAnyH_take (i := 15) (oi := ⟨some 33, .move (.tmp 0), 22, "ref.go:174", #[], none⟩) (v := .slice (some ⟨b, o, none⟩) l.length vc) rfl (by kernel_rfl) (by kernel_rfl) (by kernel_rfl) (fun _ _ _ h => h) (Or.inl ⟨by rfl, fun w hSw => by (try dsimp only at hSw); obtain ⟨hs0, hs1, hs2, hs3⟩ := hSw; go_simp⟩) hHeld ?_
   try simp only [aP, lA, lB, lC]
   refine wpAnyH_take (i := 16) (oi := ⟨some 34, .move (.tmp 6), 3, "ref.go:174", #[], none⟩) (v := .int .i64 (i : Int)) rfl (by kernel_rfl) (by kernel_rfl) (by kernel_rfl) (fun _ _ _ h => h) (Or.inl ⟨by rfl, fun w hSw => by (try dsimp only at hSw); obtain ⟨hs0, hs1, hs2, hs3⟩ := hSw; go_simp⟩) hHeld ?_
   try simp only [aP, lA, lB, lC]
   refine wpAnyH_take (i := 17) (oi := ⟨some 35, .indexAddr 22 (.tmp 33) (.tmp 34), 0, "ref.go:174", #[⟨15, .data⟩, ⟨16, .data⟩], none⟩) (v := .pointer (some ⟨b, o + i * 4, none⟩)) rfl (by kernel_rfl) (by kernel_rfl) (by kernel_rfl) (fun _ _ _ h => h) (Or.inl ⟨by rfl, fun w hSw => by (try dsimp only at hSw); obtain ⟨hs0, hs1, hs2, hs3⟩ := hSw; go_simp⟩) hHeld ?_
   try simp only [aP, lA, lB, lC]
   refine wpAnyH_take (i := 18) (oi := ⟨some 36, .fieldAddr 31 (.tmp 35) 2, 0, "ref.go:174", #[⟨17, .data⟩], none⟩) (v := .pointer (some ⟨b, o + i * 4 + 2, none⟩)) rfl (by kernel_rfl) (by kernel_rfl) (by kernel_rfl) (fun _ _ _ h => h) (Or.inl ⟨by rfl, fun w hSw => by (try dsimp only at hSw); obtain ⟨hs0, hs1, hs2, hs3⟩ := hSw; go_simp⟩) hHeld ?_
   try simp only [aP, lA, lB, lC]
   refine wpAnyH_take (i := 19) (oi := ⟨some 37, .load 3 (.tmp 36), 3, "ref.go:174", #[⟨18, .data⟩], none⟩) (v := .int .i64 (on : Int)) rfl (by kernel_rfl) (by kernel_rfl) (by kernel_rfl) (fun _ _ _ h => h) (Or.inl ⟨by rfl, fun w hSw => by (try dsimp only at hSw); obtain ⟨hs0, hs1, hs2, hs3⟩ := hSw; go_simp⟩) hHeld ?_
   try simp only [aP, lA, lB, lC]
   refine wpAnyH_take (i := 22) (oi := ⟨some 40, .move (.tmp 0), 22, "ref.go:174", #[], none⟩) (v := .slice (some ⟨b, o, none⟩) l.length vc) rfl (by kernel_rfl) (by kernel_rfl) (by kernel_rfl) (fun _ _ _ h => h) (Or.inl ⟨by rfl, fun w hSw => by (try dsimp only at hSw); obtain ⟨hs0, hs1, hs2, hs3⟩ := hSw; go_simp⟩) hHeld ?_
   try simp only [aP, lA, lB, lC]
   refine wpAnyH_take (i := 23) (oi := ⟨some 41, .move (.tmp 6), 3, "ref.go:174", #[], none⟩) (v := .int .i64 (i : Int)) rfl (by kernel_rfl) (by kernel_rfl) (by kernel_rfl) (fun _ _ _ h => h) (Or.inl ⟨by rfl, fun w hSw => by (try dsimp only at hSw); obtain ⟨hs0, hs1, hs2, hs3⟩ := hSw; go_simp⟩) hHeld ?_
   try simp only [aP, lA, lB, lC]
   refine wpAnyH_take (i := 24) (oi := ⟨some 42, .indexAddr 22 (.tmp 40) (.tmp 41), 0, "ref.go:174", #[⟨22, .data⟩, ⟨23, .data⟩], none⟩) (v := .pointer (some ⟨b, o + i * 4, none⟩)) rfl (by kernel_rfl) (by kernel_rfl) (by kernel_rfl) (fun _ _ _ h => h) (Or.inl ⟨by rfl, fun w hSw => by (try dsimp only at hSw); obtain ⟨hs0, hs1, hs2, hs3⟩ := hSw; go_simp⟩) hHeld ?_
   try simp only [aP, lA, lB, lC]
   refine wpAnyH_take (i := 25) (oi := ⟨some 43, .fieldAddr 31 (.tmp 42) 3, 0, "ref.go:174", #[⟨24, .data⟩], none⟩) (v := .pointer (some ⟨b, o + i * 4 + 3, none⟩)) rfl (by kernel_rfl) (by kernel_rfl) (by kernel_rfl) (fun _ _ _ h => h) (Or.inl ⟨by rfl, fun w hSw => by (try dsimp only at hSw); obtain ⟨hs0, hs1, hs2, hs3⟩ := hSw; go_simp⟩) hHeld ?_
   try simp only [aP, lA, lB, lC]
   refine wpAnyH_take (i := 26) (oi := ⟨some 44, .load 9 (.tmp 43), 9, "ref.go:174", #[⟨25, .data⟩], none⟩) (v := .string (bs x.val)) rfl (by kernel_rfl) (by kernel_rfl) (by kernel_rfl) (fun _ _ _ h => h) (Or.inl ⟨by rfl, fun w hSw => by (try dsimp only at hSw); obtain ⟨hs0, hs1, hs2, hs3⟩ := hSw; go_simp⟩) hHeld ?_
   try simp only [aP, lA, lB, lC]
   refine wpAnyH_ready (rs := [1]) (by kernel_rfl) (by simp) ?_
   refine AllReadyH.cons (o := ⟨some 19, .call { callee := .value (.func 49), args := #[], argTypes := #[] }, 47, "ref.go:174", #[], none⟩) rfl (fun K hK => ?_) AllReadyH.nil
   go_simp
   go_at_call 49
   refine cM (by with_reducible exact HKY.out _) ?_
   rintro e V1 ⟨rfl, hV⟩
   obtain ⟨KB1, hbn⟩ : ∃ b, wr.drew.heap.size = b := ⟨_, rfl⟩
   have HBKB1 := qH (show V1.heap[KB1]? = some (.cells kyA 9 (0, 0)) by rw [hV, ← hbn]; exact heap_alloc_last _ _)
   have hk : Kp [] wr.drew V1 := by rw [hV]; exact (Kp.refl [] _).alloc _
   have HK1 := qH (HK0.out.trans hk)
   rw [hbn]
   dsimp only
   clear hHeld hV hbn hk
   refine hK.out _ _ (HSS.out _ HK1.out) (fun hHeld => ?_)
   try simp only [aP, lA, lB, lC]
   clear hK
   refine wpAnyH_take (i := 7) (oi := ⟨some 25, .indexAddr 47 (.tmp 19) (.tmp 24), 0, "ref.go:174", #[⟨1, .data⟩, ⟨6, .data⟩], none⟩) (v := .pointer (some ⟨KB1, kn, none⟩)) rfl (by kernel_rfl) (by kernel_rfl) (by kernel_rfl) (fun _ _ _ h => h) (Or.inl ⟨by rfl, fun w hSw => by (try dsimp only at hSw); obtain ⟨hs0, hs1, hs2, hs3⟩ := hSw; go_simp⟩) hHeld ?_
   try simp only [aP, lA, lB, lC]
   refine wpAnyH_ready (rs := [8, 14]) (by kernel_rfl) (by simp) ?_
   refine AllReadyH.cons (o := ⟨some 26, .load 9 (.tmp 25), 9, "ref.go:174", #[⟨7, .data⟩], none⟩) rfl (fun K hK => ?_) (AllReadyH.cons (o := ⟨some 32, .call { callee := .value (.func 50), args := #[], argTypes := #[] }, 47, "ref.go:174", #[⟨1, .chain⟩], none⟩) rfl (fun K hK => ?_) AllReadyH.nil)
   ·
    have hc := cell_wr1 HBKB1.out hkn
    go_simp
    clear hHeld hc
    refine hK.out _ _ (HSS.out _ HK1.out) (fun hHeld => ?_)
    try simp only [aP, lA, lB, lC]
    clear hK
    refine wpAnyH_ready (rs := [14]) (by kernel_rfl) (by simp) ?_
    refine AllReadyH.cons (o := ⟨some 32, .call { callee := .value (.func 50), args := #[], argTypes := #[] }, 47, "ref.go:174", #[⟨1, .chain⟩], none⟩) rfl (fun K hK => ?_) AllReadyH.nil
    go_simp
    go_at_call 50
    refine cM (by with_reducible exact HOP.out _) ?_
    rintro e V3 ⟨rfl, hV⟩
    obtain ⟨OB3, hbn⟩ : ∃ b, V1.heap.size = b := ⟨_, rfl⟩
    have HBOB3 := qH (show V3.heap[OB3]? = some (.cells opA2 9 (0, 0)) by rw [hV, ← hbn]; exact heap_alloc_last _ _)
    have hk : Kp [] V1 V3 := by rw [hV]; exact (Kp.refl [] _).alloc _
    have HK3 := qH (HK1.out.trans hk)
    have HBKB1 := qH ((hk.block _ (block_lt HBKB1.out) (by simp)).trans HBKB1.out)
    rw [hbn]
    dsimp only
    clear hHeld hV hbn hk
    refine hK.out _ _ (HSS.out _ HK3.out) (fun hHeld => ?_)
    try simp only [aP, lA, lB, lC]
    clear hK
    refine wpAnyH_take (i := 20) (oi := ⟨some 38, .indexAddr 47 (.tmp 32) (.tmp 37), 0, "ref.go:174", #[⟨14, .data⟩, ⟨19, .data⟩], none⟩) (v := .pointer (some ⟨OB3, on, none⟩)) rfl (by kernel_rfl) (by kernel_rfl) (by kernel_rfl) (fun _ _ _ h => h) (Or.inl ⟨by rfl, fun w hSw => by (try dsimp only at hSw); obtain ⟨hs0, hs1, hs2, hs3⟩ := hSw; go_simp⟩) hHeld ?_
    try simp only [aP, lA, lB, lC]
    refine wpAnyH_ready (rs := [21]) (by kernel_rfl) (by simp) ?_
    refine AllReadyH.cons (o := ⟨some 39, .load 9 (.tmp 38), 9, "ref.go:174", #[⟨20, .data⟩], none⟩) rfl (fun K hK => ?_) AllReadyH.nil
    have hc := cell_wr2 HBOB3.out hon
    go_simp
    clear hHeld hc
    refine hK.out _ _ (HSS.out _ HK3.out) (fun hHeld => ?_)
    try simp only [aP, lA, lB, lC]
    clear hK
    refine wpAnyH_take (i := 27) (oi := ⟨some 45, .build 81 #[(0, .tmp 26), (1, .tmp 31), (2, .tmp 39), (3, .tmp 44)], 81, "ref.go:174", #[⟨8, .data⟩, ⟨13, .data⟩, ⟨21, .data⟩, ⟨26, .data⟩], none⟩) (v := .agg #[.string (bs kw), .string (bs x.name), .string (bs ow), .string (bs x.val)]) rfl (by kernel_rfl) (by kernel_rfl) (by kernel_rfl) (fun _ _ _ h => h) (Or.inl ⟨by rfl, fun w hSw => by (try dsimp only at hSw); obtain ⟨hs0, hs1, hs2, hs3⟩ := hSw; go_simp⟩) hHeld ?_
    try simp only [aP, lA, lB, lC]
    refine wpAnyH_ready (rs := [28]) (by kernel_rfl) (by simp) ?_
    refine AllReadyH.cons (o := ⟨some 46, .buildSlice 77 1 #[(0, .tmp 45)], 77, "ref.go:174", #[⟨27, .data⟩], none⟩) rfl (fun K hK => ?_) AllReadyH.nil
    obtain ⟨V5, hV⟩ : ∃ V, V3.alloc (.cells #[.string (bs kw), .string (bs x.name), .string (bs ow), .string (bs x.val)] 81) = V := ⟨_, rfl⟩
    obtain ⟨NB, hbn⟩ : ∃ b, V3.heap.size = b := ⟨_, rfl⟩
    have hk : Kp [] V3 V5 := by rw [← hV]; exact (Kp.refl [] _).alloc _
    have HRG := qH (show V5.rangeAt NB 0 (Lx.tokT.cf ⟨kw, x.name, ow, x.val⟩) by rw [← hV, ← hbn]; exact rangeAt_new V3 _)
    have HK5 := qH (HK3.out.trans hk)
    have HOQ := qH (HO.out.kp0 HK5.out)
    go_simp
    (try rw [hV])
    (try rw [hbn])
    clear hHeld hV hbn hk
    refine hK.out _ _ (HSS.out _ HK5.out) (fun hHeld => ?_)
    try simp only [aP, lA, lB, lC]
    clear hK
    refine wpAnyH_ready (rs := [29]) (by kernel_rfl) (by simp) ?_
    refine AllReadyH.cons (o := ⟨some 47, .call { callee := .builtin .append, args := #[.tmp 18, .tmp 46], argTypes := #[77, 77] }, 77, "ref.go:174", #[⟨0, .data⟩, ⟨28, .data⟩, ⟨14, .chain⟩], none⟩) rfl (fun K hK => ?_) AllReadyH.nil
    refine step_append_r (r := Lx.tokT) rfl (.tmp 18) (.tmp 46) rfl w.heap.size u5 _ rfl HOQ.out NB 1 ⟨kw, x.name, ow, x.val⟩ rfl HRG.out HXS.out (HSZ.out _ HK5.out) ?_
    intro v8 w8 hown8 hgr8
    have HO8 := qH hown8
    have HK8 := qH (kp_grownS (HKW.out.trans HK5.out) hgr8 fun b hb => (HOQ.out.ge b hb).1)
    have hrow8 : ∀ k, k < w.heap.size → w8.heap[k]? = V5.heap[k]? := fun k hk => hgr8.block k (by have := (HKW.out.trans HK5.out).size; omega) (fun e => by have := (HOQ.out.ge k e.symm).1; omega)
    clear hHeld hown8 hgr8
    refine hK.out _ _ (HS8.out _ _ HK5.out hrow8) (fun hHeld => ?_)
    try simp only [aP, lA, lB, lC]
    clear hK hrow8
    refine wpAnyH_take (i := 30) (oi := ⟨some 5, .assign (.tmp 47), 77, "ref.go:174", #[⟨29, .data⟩, ⟨29, .chain⟩, ⟨0, .phase⟩, ⟨1, .phase⟩, ⟨2, .phase⟩, ⟨3, .phase⟩, ⟨4, .phase⟩, ⟨5, .phase⟩, ⟨6, .phase⟩, ⟨7, .phase⟩, ⟨8, .phase⟩, ⟨9, .phase⟩, ⟨10, .phase⟩, ⟨11, .phase⟩, ⟨12, .phase⟩, ⟨13, .phase⟩, ⟨14, .phase⟩, ⟨15, .phase⟩, ⟨16, .phase⟩, ⟨17, .phase⟩, ⟨18, .phase⟩, ⟨19, .phase⟩, ⟨20, .phase⟩, ⟨21, .phase⟩, ⟨22, .phase⟩, ⟨23, .phase⟩, ⟨24, .phase⟩, ⟨25, .phase⟩, ⟨26, .phase⟩, ⟨27, .phase⟩, ⟨28, .phase⟩, ⟨29, .phase⟩], none⟩) (v := v8) rfl (by kernel_rfl) (by kernel_rfl) (by kernel_rfl) (fun _ _ _ h => h) (Or.inl ⟨by rfl, fun w hSw => by (try dsimp only at hSw); obtain ⟨hs0, hs1, hs2, hs3⟩ := hSw; go_simp⟩) hHeld ?_
    try simp only [aP, lA, lB, lC]
    refine wpAnyH_done (by kernel_rfl) ?_ _
    clear hHeld
    go_wp2
    go_roundg g
    case measure => omega
    case rel => exact ⟨i + 1, rfl, by rw [HTK.out]; exact HO8.out, by have := HIG.out; omega, HK8.out⟩
   ·
    go_simp
    go_at_call 50
    refine cM (by with_reducible exact HOP.out _) ?_
    rintro e V6 ⟨rfl, hV⟩
    obtain ⟨OB6, hbn⟩ : ∃ b, V1.heap.size = b := ⟨_, rfl⟩
    have HBOB6 := qH (show V6.heap[OB6]? = some (.cells opA2 9 (0, 0)) by rw [hV, ← hbn]; exact heap_alloc_last _ _)
    have hk : Kp [] V1 V6 := by rw [hV]; exact (Kp.refl [] _).alloc _
    have HK6 := qH (HK1.out.trans hk)
    have HBKB1 := qH ((hk.block _ (block_lt HBKB1.out) (by simp)).trans HBKB1.out)
    rw [hbn]
    dsimp only
    clear hHeld hV hbn hk
    refine hK.out _ _ (HSS.out _ HK6.out) (fun hHeld => ?_)
    try simp only [aP, lA, lB, lC]
    clear hK
    refine wpAnyH_take (i := 20) (oi := ⟨some 38, .indexAddr 47 (.tmp 32) (.tmp 37), 0, "ref.go:174", #[⟨14, .data⟩, ⟨19, .data⟩], none⟩) (v := .pointer (some ⟨OB6, on, none⟩)) rfl (by kernel_rfl) (by kernel_rfl) (by kernel_rfl) (fun _ _ _ h => h) (Or.inl ⟨by rfl, fun w hSw => by (try dsimp only at hSw); obtain ⟨hs0, hs1, hs2, hs3⟩ := hSw; go_simp⟩) hHeld ?_
    try simp only [aP, lA, lB, lC]
    refine wpAnyH_ready (rs := [8, 21]) (by kernel_rfl) (by simp) ?_
    refine AllReadyH.cons (o := ⟨some 26, .load 9 (.tmp 25), 9, "ref.go:174", #[⟨7, .data⟩], none⟩) rfl (fun K hK => ?_) (AllReadyH.cons (o := ⟨some 39, .load 9 (.tmp 38), 9, "ref.go:174", #[⟨20, .data⟩], none⟩) rfl (fun K hK => ?_) AllReadyH.nil)
    ·
     have hc := cell_wr1 HBKB1.out hkn
     go_simp
     clear hHeld hc
     refine hK.out _ _ (HSS.out _ HK6.out) (fun hHeld => ?_)
     try simp only [aP, lA, lB, lC]
     clear hK
     refine wpAnyH_ready (rs := [21]) (by kernel_rfl) (by simp) ?_
     refine AllReadyH.cons (o := ⟨some 39, .load 9 (.tmp 38), 9, "ref.go:174", #[⟨20, .data⟩], none⟩) rfl (fun K hK => ?_) AllReadyH.nil
     have hc := cell_wr2 HBOB6.out hon
     go_simp
     clear hHeld hc
     refine hK.out _ _ (HSS.out _ HK6.out) (fun hHeld => ?_)
     try simp only [aP, lA, lB, lC]
     clear hK
     refine wpAnyH_take (i := 27) (oi := ⟨some 45, .build 81 #[(0, .tmp 26), (1, .tmp 31), (2, .tmp 39), (3, .tmp 44)], 81, "ref.go:174", #[⟨8, .data⟩, ⟨13, .data⟩, ⟨21, .data⟩, ⟨26, .data⟩], none⟩) (v := .agg #[.string (bs kw), .string (bs x.name), .string (bs ow), .string (bs x.val)]) rfl (by kernel_rfl) (by kernel_rfl) (by kernel_rfl) (fun _ _ _ h => h) (Or.inl ⟨by rfl, fun w hSw => by (try dsimp only at hSw); obtain ⟨hs0, hs1, hs2, hs3⟩ := hSw; go_simp⟩) hHeld ?_
     try simp only [aP, lA, lB, lC]
     refine wpAnyH_ready (rs := [28]) (by kernel_rfl) (by simp) ?_
     refine AllReadyH.cons (o := ⟨some 46, .buildSlice 77 1 #[(0, .tmp 45)], 77, "ref.go:174", #[⟨27, .data⟩], none⟩) rfl (fun K hK => ?_) AllReadyH.nil
     obtain ⟨V9, hV⟩ : ∃ V, V6.alloc (.cells #[.string (bs kw), .string (bs x.name), .string (bs ow), .string (bs x.val)] 81) = V := ⟨_, rfl⟩
     obtain ⟨NB, hbn⟩ : ∃ b, V6.heap.size = b := ⟨_, rfl⟩
     have hk : Kp [] V6 V9 := by rw [← hV]; exact (Kp.refl [] _).alloc _
     have HRG := qH (show V9.rangeAt NB 0 (Lx.tokT.cf ⟨kw, x.name, ow, x.val⟩) by rw [← hV, ← hbn]; exact rangeAt_new V6 _)
     have HK9 := qH (HK6.out.trans hk)
     have HOQ := qH (HO.out.kp0 HK9.out)
     go_simp
     (try rw [hV])
     (try rw [hbn])
     clear hHeld hV hbn hk
     refine hK.out _ _ (HSS.out _ HK9.out) (fun hHeld => ?_)
     try simp only [aP, lA, lB, lC]
     clear hK
     refine wpAnyH_ready (rs := [29]) (by kernel_rfl) (by simp) ?_
     refine AllReadyH.cons (o := ⟨some 47, .call { callee := .builtin .append, args := #[.tmp 18, .tmp 46], argTypes := #[77, 77] }, 77, "ref.go:174", #[⟨0, .data⟩, ⟨28, .data⟩, ⟨14, .chain⟩], none⟩) rfl (fun K hK => ?_) AllReadyH.nil
     refine step_append_r (r := Lx.tokT) rfl (.tmp 18) (.tmp 46) rfl w.heap.size u5 _ rfl HOQ.out NB 1 ⟨kw, x.name, ow, x.val⟩ rfl HRG.out HXS.out (HSZ.out _ HK9.out) ?_
     intro v8 w8 hown8 hgr8
     have HO8 := qH hown8
     have HK8 := qH (kp_grownS (HKW.out.trans HK9.out) hgr8 fun b hb => (HOQ.out.ge b hb).1)
     have hrow8 : ∀ k, k < w.heap.size → w8.heap[k]? = V9.heap[k]? := fun k hk => hgr8.block k (by have := (HKW.out.trans HK9.out).size; omega) (fun e => by have := (HOQ.out.ge k e.symm).1; omega)
     clear hHeld hown8 hgr8
     refine hK.out _ _ (HS8.out _ _ HK9.out hrow8) (fun hHeld => ?_)
     try simp only [aP, lA, lB, lC]
     clear hK hrow8
     refine wpAnyH_take (i := 30) (oi := ⟨some 5, .assign (.tmp 47), 77, "ref.go:174", #[⟨29, .data⟩, ⟨29, .chain⟩, ⟨0, .phase⟩, ⟨1, .phase⟩, ⟨2, .phase⟩, ⟨3, .phase⟩, ⟨4, .phase⟩, ⟨5, .phase⟩, ⟨6, .phase⟩, ⟨7, .phase⟩, ⟨8, .phase⟩, ⟨9, .phase⟩, ⟨10, .phase⟩, ⟨11, .phase⟩, ⟨12, .phase⟩, ⟨13, .phase⟩, ⟨14, .phase⟩, ⟨15, .phase⟩, ⟨16, .phase⟩, ⟨17, .phase⟩, ⟨18, .phase⟩, ⟨19, .phase⟩, ⟨20, .phase⟩, ⟨21, .phase⟩, ⟨22, .phase⟩, ⟨23, .phase⟩, ⟨24, .phase⟩, ⟨25, .phase⟩, ⟨26, .phase⟩, ⟨27, .phase⟩, ⟨28, .phase⟩, ⟨29, .phase⟩], none⟩) (v := v8) rfl (by kernel_rfl) (by kernel_rfl) (by kernel_rfl) (fun _ _ _ h => h) (Or.inl ⟨by rfl, fun w hSw => by (try dsimp only at hSw); obtain ⟨hs0, hs1, hs2, hs3⟩ := hSw; go_simp⟩) hHeld ?_
     try simp only [aP, lA, lB, lC]
     refine wpAnyH_done (by kernel_rfl) ?_ _
     clear hHeld
     go_wp2
     go_roundg g
     case measure => omega
     case rel => exact ⟨i + 1, rfl, by rw [HTK.out]; exact HO8.out, by have := HIG.out; omega, HK8.out⟩
    ·
     have hc := cell_wr2 HBOB6.out hon
     go_simp
     clear hHeld hc
     refine hK.out _ _ (HSS.out _ HK6.out) (fun hHeld => ?_)
     try simp only [aP, lA, lB, lC]
     clear hK
     refine wpAnyH_ready (rs := [8]) (by kernel_rfl) (by simp) ?_
     refine AllReadyH.cons (o := ⟨some 26, .load 9 (.tmp 25), 9, "ref.go:174", #[⟨7, .data⟩], none⟩) rfl (fun K hK => ?_) AllReadyH.nil
     have hc := cell_wr1 HBKB1.out hkn
     go_simp
     clear hHeld hc
     refine hK.out _ _ (HSS.out _ HK6.out) (fun hHeld => ?_)
     try simp only [aP, lA, lB, lC]
     clear hK
     refine wpAnyH_take (i := 27) (oi := ⟨some 45, .build 81 #[(0, .tmp 26), (1, .tmp 31), (2, .tmp 39), (3, .tmp 44)], 81, "ref.go:174", #[⟨8, .data⟩, ⟨13, .data⟩, ⟨21, .data⟩, ⟨26, .data⟩], none⟩) (v := .agg #[.string (bs kw), .string (bs x.name), .string (bs ow), .string (bs x.val)]) rfl (by kernel_rfl) (by kernel_rfl) (by kernel_rfl) (fun _ _ _ h => h) (Or.inl ⟨by rfl, fun w hSw => by (try dsimp only at hSw); obtain ⟨hs0, hs1, hs2, hs3⟩ := hSw; go_simp⟩) hHeld ?_
     try simp only [aP, lA, lB, lC]
     refine wpAnyH_ready (rs := [28]) (by kernel_rfl) (by simp) ?_
     refine AllReadyH.cons (o := ⟨some 46, .buildSlice 77 1 #[(0, .tmp 45)], 77, "ref.go:174", #[⟨27, .data⟩], none⟩) rfl (fun K hK => ?_) AllReadyH.nil
     obtain ⟨V12, hV⟩ : ∃ V, V6.alloc (.cells #[.string (bs kw), .string (bs x.name), .string (bs ow), .string (bs x.val)] 81) = V := ⟨_, rfl⟩
     obtain ⟨NB, hbn⟩ : ∃ b, V6.heap.size = b := ⟨_, rfl⟩
     have hk : Kp [] V6 V12 := by rw [← hV]; exact (Kp.refl [] _).alloc _
     have HRG := qH (show V12.rangeAt NB 0 (Lx.tokT.cf ⟨kw, x.name, ow, x.val⟩) by rw [← hV, ← hbn]; exact rangeAt_new V6 _)
     have HK12 := qH (HK6.out.trans hk)
     have HOQ := qH (HO.out.kp0 HK12.out)
     go_simp
     (try rw [hV])
     (try rw [hbn])
     clear hHeld hV hbn hk
     refine hK.out _ _ (HSS.out _ HK12.out) (fun hHeld => ?_)
     try simp only [aP, lA, lB, lC]
     clear hK
     refine wpAnyH_ready (rs := [29]) (by kernel_rfl) (by simp) ?_
     refine AllReadyH.cons (o := ⟨some 47, .call { callee := .builtin .append, args := #[.tmp 18, .tmp 46], argTypes := #[77, 77] }, 77, "ref.go:174", #[⟨0, .data⟩, ⟨28, .data⟩, ⟨14, .chain⟩], none⟩) rfl (fun K hK => ?_) AllReadyH.nil
     refine step_append_r (r := Lx.tokT) rfl (.tmp 18) (.tmp 46) rfl w.heap.size u5 _ rfl HOQ.out NB 1 ⟨kw, x.name, ow, x.val⟩ rfl HRG.out HXS.out (HSZ.out _ HK12.out) ?_
     intro v8 w8 hown8 hgr8
     have HO8 := qH hown8
     have HK8 := qH (kp_grownS (HKW.out.trans HK12.out) hgr8 fun b hb => (HOQ.out.ge b hb).1)
     have hrow8 : ∀ k, k < w.heap.size → w8.heap[k]? = V12.heap[k]? := fun k hk => hgr8.block k (by have := (HKW.out.trans HK12.out).size; omega) (fun e => by have := (HOQ.out.ge k e.symm).1; omega)
     clear hHeld hown8 hgr8
     refine hK.out _ _ (HS8.out _ _ HK12.out hrow8) (fun hHeld => ?_)
     try simp only [aP, lA, lB, lC]
     clear hK hrow8
     refine wpAnyH_take (i := 30) (oi := ⟨some 5, .assign (.tmp 47), 77, "ref.go:174", #[⟨29, .data⟩, ⟨29, .chain⟩, ⟨0, .phase⟩, ⟨1, .phase⟩, ⟨2, .phase⟩, ⟨3, .phase⟩, ⟨4, .phase⟩, ⟨5, .phase⟩, ⟨6, .phase⟩, ⟨7, .phase⟩, ⟨8, .phase⟩, ⟨9, .phase⟩, ⟨10, .phase⟩, ⟨11, .phase⟩, ⟨12, .phase⟩, ⟨13, .phase⟩, ⟨14, .phase⟩, ⟨15, .phase⟩, ⟨16, .phase⟩, ⟨17, .phase⟩, ⟨18, .phase⟩, ⟨19, .phase⟩, ⟨20, .phase⟩, ⟨21, .phase⟩, ⟨22, .phase⟩, ⟨23, .phase⟩, ⟨24, .phase⟩, ⟨25, .phase⟩, ⟨26, .phase⟩, ⟨27, .phase⟩, ⟨28, .phase⟩, ⟨29, .phase⟩], none⟩) (v := v8) rfl (by kernel_rfl) (by kernel_rfl) (by kernel_rfl) (fun _ _ _ h => h) (Or.inl ⟨by rfl, fun w hSw => by (try dsimp only at hSw); obtain ⟨hs0, hs1, hs2, hs3⟩ := hSw; go_simp⟩) hHeld ?_
     try simp only [aP, lA, lB, lC]
     refine wpAnyH_done (by kernel_rfl) ?_ _
     clear hHeld
     go_wp2
     go_roundg g
     case measure => omega
     case rel => exact ⟨i + 1, rfl, by rw [HTK.out]; exact HO8.out, by have := HIG.out; omega, HK8.out⟩
  ·have hiz : ¬ (i : Int) < (l.length : Int) := by omega
   have hie : l.take i = l := List.take_of_length_le (by omega)
   rw [hie] at ho
   have hmx : Lx.Max wr := (HE.out.kp0 hkp).max
   obtain ⟨av, cv, rfl⟩ := ho.form
   have HFM := qH (Lx.refFormat_any hmx ho.has (by rw [List.length_map]; omega) (fun y hy => by
    obtain ⟨t, ht, rfl⟩ := List.mem_map.1 hy
    exact tok_sm (HSM.out t ht) (HTE.out t ht)))
   have HFF := qH (show F = ((Lx.fmtE (l.map tokOf)).1, ((Lx.fmtE (l.map tokOf)).2 : Int)) from HF.out.symm)
   generalize Lx.fmtE (l.map tokOf) = G at *
   (try rw [List.length_map])
   rw [List.length_map] at HFM
   clear hkp ho hig hi hie hmx
   go_wp2_with (go_at_call 53; refine cM (by with_reducible exact HFM.out) ?_; rintro e w2 ⟨rfl, hk2⟩; have HK2 := qH (HKW.out.trans hk2); clear hk2)
   go_ret2
   exact ⟨by rw [HFF.out]; rfl, HK2.out⟩
end Go.Proofs.YtkkibibecgcbmaaGreatDoor
