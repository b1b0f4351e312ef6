/- Ik -/
import Derived.Test.YtkkibibecgcbmaaGreatDoorQIj
import Derived.Test.YtkkibibecgcbmaaGreatDoorQLxZB
import Derived.Test.YtkkibibecgcbmaaGreatDoorQI
import Derived.BigQuiet
open Go.Lib renaming hid → qH
open Go.Calls renaming mono → cM
open Go.Act renaming put → aP
open List renaming setIfInBounds_toArray → lA, set_cons_zero → lB, set_cons_succ → lC
set_option maxRecDepth 100000
set_option maxHeartbeats 16000000
namespace Go.Proofs.YtkkibibecgcbmaaGreatDoor
open Go.RowKit
theorem MAt.putK {w : World} {b : Nat} {t : Tm} (h : MAt w b t) (k : Int) : MAt (w.setCell ⟨b, 0, none⟩ (.int .i64 k)) b { t with key := k } := by
 unfold MAt at h ⊢
 simp [World.setCell, Array.getElem?_modify, h, tmC]
theorem MAt.putO {w : World} {b : Nat} {t : Tm} (h : MAt w b t) (k : Int) : MAt (w.setCell ⟨b, 2, none⟩ (.int .i64 k)) b { t with op := k } := by
 unfold MAt at h ⊢
 simp [World.setCell, Array.getElem?_modify, h, tmC]
theorem kyA_lst : kyA = (keysG.map fun s => Value.string (bs s)).toArray := rfl
theorem opA2_lst : opA2 = (opsG.map fun s => Value.string (bs s)).toArray := rfl
theorem cell_lst {A : Array Value} {l : List (List UInt8)} (e : A = (l.map fun s => Value.string (bs s)).toArray) {W : World} {K k : Nat} {s : List UInt8} (h : W.heap[K]? = some (.cells A 9 (0, 0))) (hk : l[k]? = some s) : W.cell? ⟨K, k, none⟩ = some (.string (bs s)) := by
 rw [cell_of_row _ _ _ _ _ _ h, e, List.getElem?_toArray, List.getElem?_map, hk]
 rfl
theorem refGParse_any {w : World} (hE : Env w) (s : List UInt8) : Calls Tryz.prog 20 #[.string (bs s)] w fun r w' => ∃ v, r = .returned (.tuple #[v, .int .i64 (parseG s).2]) ∧ tmT.Own w' w.heap.size v (parseG s).1 ∧ Kp [] w w' := by
 obtain ⟨PG, hPG⟩ : ∃ P, parseG s = P := ⟨_, rfl⟩
 rw [hPG]
 obtain ⟨L, en, hte⟩ : ∃ l e, Lx.tokensE s = (l, e) := ⟨_, _, rfl⟩
 have hT := Lx.refTokens_any s w
 rw [hte] at hT
 simp only at hT
 by_cases hen : en ≠ 0
 ·have hpe : PG = ([], (en : Int)) := by rw [← hPG]; unfold parseG; rw [hte]; rw [if_pos (by simpa using hen)]
  clear hPG
  subst hpe
  have hez : ((en : Int) == 0) = false := by rw [beq_eq_false_iff_ne]; omega
  have HT := qH hT
  have HN := qH (fun W (h : w.heap.size ≤ W.heap.size) => RT.Own.nil tmT W w.heap.size)
  clear hT hte hE hen
  go_enter Tryz.func20, Tryz.ntmps20
  go_wp2_with (go_at_call 48; refine cM (by with_reducible exact HT.out) ?_; rintro r w1 ⟨tv, rfl, hto, hk1⟩; have HK1 := qH hk1; clear hto hk1)
  go_ret2
  exact ⟨_, rfl, HN.out _ HK1.out.size, HK1.out⟩
 have hen := Decidable.of_not_not hen
 subst hen
 obtain ⟨hlen, _, _⟩ := Lx.read_ok hte
 have hsm := read_len hte
 have hpe : PG = if checkE (L.map termOf) ≠ 0 then ([], checkE (L.map termOf)) else (L.map termOf, 0) := by rw [← hPG]; unfold parseG; rw [hte]; rfl
 clear hPG
 have HSM := qH (show ∀ t ∈ L.map tR, SmT t from fun t ht => by
  obtain ⟨x, hx, rfl⟩ := List.mem_map.1 ht
  have := hsm x hx
  exact ⟨by show x.name.length ≤ _; omega, by show x.val.length ≤ _; omega⟩)
 have HT := qH hT
 have HE := qH hE
 have HPE := qH hpe
 have HKY := qH keys_any
 have HOP := qH ops_any
 clear hte hT hsm hpe hE
 go_enter Tryz.func20, Tryz.ntmps20
 go_wp2_with (first
  | (go_at_call 48; refine cM (by with_reducible exact HT.out) ?_; rintro r w1 ⟨tv, rfl, hto, hk1⟩; obtain ⟨ta, tc, rfl⟩ := hto.form; have HTH := qH hto.has; have HK1 := qH hk1; clear hto hk1)
  | (go_at_call 49; refine cM (by with_reducible exact HKY.out _) ?_; rintro r w2 ⟨rfl, hV⟩; obtain ⟨KB, hKB⟩ : ∃ b, w1.heap.size = b := ⟨_, rfl⟩; have HB2 := qH (show w2.heap[KB]? = some (.cells kyA 9 (0, 0)) by rw [hV, ← hKB]; exact heap_alloc_last _ _); have HK2 := qH (show Kp [] w1 w2 by rw [hV]; exact (Kp.refl [] _).alloc _); clear hV)
  | (go_at_call 50; refine cM (by with_reducible exact HOP.out _) ?_; rintro r w3 ⟨rfl, hV⟩; obtain ⟨OB, hOB⟩ : ∃ b, w2.heap.size = b := ⟨_, rfl⟩; have HB3 := qH (show w3.heap[OB]? = some (.cells opA2 9 (0, 0)) by rw [hV, ← hOB]; exact heap_alloc_last _ _); have HK3 := qH (show Kp [] w2 w3 by rw [hV]; exact (Kp.refl [] _).alloc _); clear hV))
 have HKB := qH (show ∀ W, Kp [] w3 W → W.heap[KB]? = some (.cells kyA 9 (0, 0)) from fun W h => by
  have h2 := (HK3.out.trans h).block KB (block_lt HB2.out) (by simp)
  exact h2.trans HB2.out)
 have HOB := qH (show ∀ W, Kp [] w3 W → W.heap[OB]? = some (.cells opA2 9 (0, 0)) from fun W h => (h.block OB (block_lt HB3.out) (by simp)).trans HB3.out)
 have HROW := qH (show L ≠ [] → ∃ b o, ta = some ⟨b, o, none⟩ ∧ b < w3.heap.size ∧ Lx.tokT.Row w3 b o L by
  obtain ⟨a', c', he, hr⟩ := (HTH.out.kp0 (HK2.out.trans HK3.out)).form
  cases he
  exact hr)
 have HK13 := qH (HK1.out.trans (HK2.out.trans HK3.out))
 clear HB2 HB3 HTH HK2 HK3
 go_loopg [8, 9] L.length (fun g s8 s9 wx => ∃ i : Nat, s9 = .int .i64 (i : Int) ∧ tmT.Own wx w3.heap.size s8 ((L.take i).map tR) ∧ i + g = L.length ∧ Kp [] w3 wx)
 case atStart => exact ⟨0, rfl, RT.Own.nil tmT w3 _, by omega, Kp.refl _ _⟩
 case round =>
  obtain ⟨i, rfl, ho, hig, hkp⟩ := hrel
  generalize wr = wo at *
  have HO := qH ho
  have HKP := qH hkp
  have HIG := qH hig
  by_cases hi : i < L.length
  ·obtain ⟨g, rfl⟩ : ∃ g, gk = g + 1 := ⟨gk - 1, by omega⟩
   obtain ⟨tb, o, rfl, hbl, hr⟩ := HROW.out (by rintro rfl; simp at hi)
   obtain ⟨x, hx⟩ : ∃ x, L[i]? = some x := ⟨_, List.getElem?_eq_getElem hi⟩
   have hiz : (i : Int) < (L.length : Int) := by omega
   have hi0 : (0 : Int) ≤ (i : Int) := by omega
   have hwi : IntKind.i64.wrap ((i : Int) + 1) = ((i + 1 : Nat) : Int) := by rw [IntKind.wrap_i64]; omega
   have HSS := qH (show ∀ W, Kp [] wo W → (fun W : World => W.cell? ⟨tb, o + i * 4, none⟩ = some (.string (bs x.key)) ∧ W.cell? ⟨tb, o + i * 4 + 1, none⟩ = some (.string (bs x.name)) ∧ W.cell? ⟨tb, o + i * 4 + 2, none⟩ = some (.string (bs x.op)) ∧ W.cell? ⟨tb, o + i * 4 + 3, none⟩ = some (.string (bs x.val))) W from fun W h => Lx.tokRow (hr.keep ((hkp.trans h).block tb hbl (by simp))) hx)
   have HTC := HSS
   have HTK := qH (show (L.take (i + 1)).map tR = (L.take i).map tR ++ [tR x] by rw [List.take_add_one, hx]; simp)
   have HXS := qH (show ((L.take i).map tR).length ≤ 1000000 by rw [List.length_map, List.length_take]; omega)
   have HKB := qH (show ∀ W, Kp [] wo W → W.heap[KB]? = some (.cells kyA 9 (0, 0)) from fun W h => HKB.out W (hkp.trans h))
   have HOB := qH (show ∀ W, Kp [] wo W → W.heap[OB]? = some (.cells opA2 9 (0, 0)) from fun W h => HOB.out W (hkp.trans h))
   clear hkp ho hig hx hbl hr
   go_upto_region 9 with fail
   refine wp_region_held_drew (S := fun W : World => W.cell? ⟨tb, o + i * 4, none⟩ = some (.string (bs x.key)) ∧ W.cell? ⟨tb, o + i * 4 + 1, none⟩ = some (.string (bs x.name)) ∧ W.cell? ⟨tb, o + i * 4 + 2, none⟩ = some (.string (bs x.op)) ∧ W.cell? ⟨tb, o + i * 4 + 3, none⟩ = some (.string (bs x.val))) (by kernel_rfl) (HSS.out _ ((Kp.refl [] wo).drew 1)) (fun hHeld => ?_)
   refine wpAnyH_take (i := 0) (oi := ⟨some 30, .move (.tmp 4), 77, "ref.go:148", #[], none⟩) (v := .slice (some ⟨tb, o, none⟩) L.length tc) rfl (by kernel_rfl) (by kernel_rfl) (by kernel_rfl) (fun _ _ _ h => h) (Or.inl ⟨by rfl, fun w hSw => by (try dsimp only at hSw); obtain ⟨hs0, hs1, hs2, hs3⟩ := hSw; go_simp⟩) hHeld ?_
   try simp only [aP, lA, lB, lC]
   refine wpAnyH_take (i := 1) (oi := ⟨some 31, .move (.tmp 9), 3, "ref.go:148", #[], none⟩) (v := .int .i64 (i : Int)) rfl (by kernel_rfl) (by kernel_rfl) (by kernel_rfl) (fun _ _ _ h => h) (Or.inl ⟨by rfl, fun w hSw => by (try dsimp only at hSw); obtain ⟨hs0, hs1, hs2, hs3⟩ := hSw; go_simp⟩) hHeld ?_
   try simp only [aP, lA, lB, lC]
   refine wpAnyH_take (i := 2) (oi := ⟨some 32, .indexAddr 77 (.tmp 30) (.tmp 31), 0, "ref.go:148", #[⟨0, .data⟩, ⟨1, .data⟩], none⟩) (v := .pointer (some ⟨tb, o + i * 4, none⟩)) rfl (by kernel_rfl) (by kernel_rfl) (by kernel_rfl) (fun _ _ _ h => h) (Or.inl ⟨by rfl, fun w hSw => by (try dsimp only at hSw); obtain ⟨hs0, hs1, hs2, hs3⟩ := hSw; go_simp⟩) hHeld ?_
   try simp only [aP, lA, lB, lC]
   refine wpAnyH_take (i := 3) (oi := ⟨some 33, .fieldAddr 81 (.tmp 32) 1, 0, "ref.go:148", #[⟨2, .data⟩], none⟩) (v := .pointer (some ⟨tb, o + i * 4 + 1, none⟩)) rfl (by kernel_rfl) (by kernel_rfl) (by kernel_rfl) (fun _ _ _ h => h) (Or.inl ⟨by rfl, fun w hSw => by (try dsimp only at hSw); obtain ⟨hs0, hs1, hs2, hs3⟩ := hSw; go_simp⟩) hHeld ?_
   try simp only [aP, lA, lB, lC]
   refine wpAnyH_take (i := 4) (oi := ⟨some 34, .load 9 (.tmp 33), 9, "ref.go:148", #[⟨3, .data⟩], none⟩) (v := .string (bs x.name)) rfl (by kernel_rfl) (by kernel_rfl) (by kernel_rfl) (fun _ _ _ h => h) (Or.inl ⟨by rfl, fun w hSw => by (try dsimp only at hSw); obtain ⟨hs0, hs1, hs2, hs3⟩ := hSw; go_simp⟩) hHeld ?_
   try simp only [aP, lA, lB, lC]
   refine wpAnyH_take (i := 5) (oi := ⟨some 35, .move (.tmp 4), 77, "ref.go:148", #[], none⟩) (v := .slice (some ⟨tb, o, none⟩) L.length tc) rfl (by kernel_rfl) (by kernel_rfl) (by kernel_rfl) (fun _ _ _ h => h) (Or.inl ⟨by rfl, fun w hSw => by (try dsimp only at hSw); obtain ⟨hs0, hs1, hs2, hs3⟩ := hSw; go_simp⟩) hHeld ?_
   try simp only [aP, lA, lB, lC]
   refine wpAnyH_take (i := 6) (oi := ⟨some 36, .move (.tmp 9), 3, "ref.go:148", #[], none⟩) (v := .int .i64 (i : Int)) rfl (by kernel_rfl) (by kernel_rfl) (by kernel_rfl) (fun _ _ _ h => h) (Or.inl ⟨by rfl, fun w hSw => by (try dsimp only at hSw); obtain ⟨hs0, hs1, hs2, hs3⟩ := hSw; go_simp⟩) hHeld ?_
   try simp only [aP, lA, lB, lC]
   refine wpAnyH_take (i := 7) (oi := ⟨some 37, .indexAddr 77 (.tmp 35) (.tmp 36), 0, "ref.go:148", #[⟨5, .data⟩, ⟨6, .data⟩], none⟩) (v := .pointer (some ⟨tb, o + i * 4, none⟩)) rfl (by kernel_rfl) (by kernel_rfl) (by kernel_rfl) (fun _ _ _ h => h) (Or.inl ⟨by rfl, fun w hSw => by (try dsimp only at hSw); obtain ⟨hs0, hs1, hs2, hs3⟩ := hSw; go_simp⟩) hHeld ?_
   try simp only [aP, lA, lB, lC]
   refine wpAnyH_take (i := 8) (oi := ⟨some 38, .fieldAddr 81 (.tmp 37) 3, 0, "ref.go:148", #[⟨7, .data⟩], none⟩) (v := .pointer (some ⟨tb, o + i * 4 + 3, none⟩)) rfl (by kernel_rfl) (by kernel_rfl) (by kernel_rfl) (fun _ _ _ h => h) (Or.inl ⟨by rfl, fun w hSw => by (try dsimp only at hSw); obtain ⟨hs0, hs1, hs2, hs3⟩ := hSw; go_simp⟩) hHeld ?_
   try simp only [aP, lA, lB, lC]
   refine wpAnyH_take (i := 9) (oi := ⟨some 39, .load 9 (.tmp 38), 9, "ref.go:148", #[⟨8, .data⟩], none⟩) (v := .string (bs x.val)) rfl (by kernel_rfl) (by kernel_rfl) (by kernel_rfl) (fun _ _ _ h => h) (Or.inl ⟨by rfl, fun w hSw => by (try dsimp only at hSw); obtain ⟨hs0, hs1, hs2, hs3⟩ := hSw; go_simp⟩) hHeld ?_
   try simp only [aP, lA, lB, lC]
   refine wpAnyH_take (i := 10) (oi := ⟨some 40, .build 31 #[(1, .tmp 34), (3, .tmp 39)], 31, "ref.go:148", #[⟨4, .data⟩, ⟨9, .data⟩], none⟩) (v := .agg #[.int .i64 0, .string (bs x.name), .int .i64 0, .string (bs x.val)]) rfl (by kernel_rfl) (by kernel_rfl) (by kernel_rfl) (fun _ _ _ h => h) (Or.inl ⟨by rfl, fun w hSw => by (try dsimp only at hSw); obtain ⟨hs0, hs1, hs2, hs3⟩ := hSw; go_simp⟩) hHeld ?_
   try simp only [aP, lA, lB, lC]
   refine wpAnyH_ready (rs := [11]) (by kernel_rfl) (by simp) ?_
   refine AllReadyH.cons (o := ⟨some 10, .alloc 31, 0, "ref.go:148", #[], none⟩) rfl (fun K hK => ?_) AllReadyH.nil
   obtain ⟨V1, hV⟩ : ∃ V, wo.drew.alloc (.cells #[.int .i64 0, .string ⟨#[]⟩, .int .i64 0, .string ⟨#[]⟩] 31) = V := ⟨_, rfl⟩
   obtain ⟨TB, hTB⟩ : ∃ b, wo.heap.size = b := ⟨_, rfl⟩
   have hk1 : Kp [] wo V1 := by rw [← hV]; exact ((Kp.refl [] wo).drew 1).alloc _
   have hma : MAt V1 TB ⟨0, [], 0, []⟩ := by rw [← hV, ← hTB]; exact heap_alloc_last wo.drew _
   have HK1 := qH hk1
   have HMA := qH hma
   have HTB := qH hTB
   go_simp
   (try rw [hV])
   (try rw [hTB])
   clear hHeld hV hTB hk1 hma
   refine hK.out _ _ (HSS.out _ HK1.out) (fun hHeld => ?_)
   try simp only [aP, lA, lB, lC]
   clear hK
   refine wpAnyH_ready (rs := [12]) (by kernel_rfl) (by simp) ?_
   refine AllReadyH.cons (o := ⟨none, .store 31 (.tmp 10) (.tmp 40), 0, "ref.go:148", #[⟨11, .data⟩, ⟨10, .data⟩, ⟨0, .phase⟩, ⟨1, .phase⟩, ⟨2, .phase⟩, ⟨3, .phase⟩, ⟨4, .phase⟩, ⟨5, .phase⟩, ⟨6, .phase⟩, ⟨7, .phase⟩, ⟨8, .phase⟩, ⟨9, .phase⟩, ⟨10, .phase⟩, ⟨11, .phase⟩], none⟩) rfl (fun K hK => ?_) AllReadyH.nil
   obtain ⟨c0, c1, c2, c3⟩ := HMA.out.cells
   have fz := fun o => HMA.out.frz (o := o)
   go_simp
   clear hHeld c0 c1 c2 c3 fz
   have HM2 := qH (HMA.out.all ⟨0, x.name, 0, x.val⟩)
   have HK2 := qH (HK1.out.setAll (b := TB) (by have := HTB.out; omega) (.int .i64 0) (.string (bs x.name)) (.int .i64 0) (.string (bs x.val)))
   generalize (((V1.setCell ⟨TB, 0, none⟩ (.int .i64 0)).setCell ⟨TB, 1, none⟩ (.string (bs x.name))).setCell ⟨TB, 2, none⟩ (.int .i64 0)).setCell ⟨TB, 3, none⟩ (.string (bs x.val)) = V2 at *
   refine hK.out _ _ (HSS.out _ HK2.out) (fun hHeld => ?_)
   try simp only [aP, lA, lB, lC]
   clear hK
   refine wpAnyH_done (by kernel_rfl) ?_ _
   clear hHeld
   go_wp2
   go_loopg [11] 24 (fun g sX wx => ∃ k : Nat, sX = .int .i64 (k : Int) ∧ 1 ≤ k ∧ k + g = 25 ∧ MAt wx TB ⟨lastP keysG x.key k, x.name, 0, x.val⟩ ∧ Kp [] wo wx)
   case atStart => exact ⟨1, rfl, by omega, by omega, by rw [lastP_one]; exact HM2.out, HK2.out⟩
   case round =>
    obtain ⟨k, rfl, hk1, hkg, hma, hkk⟩ := hrel
    have HMA := qH hma
    have HKK := qH hkk
    have HKG := qH hkg
    have HK1 := qH hk1
    by_cases hkn : k < 25
    ·obtain ⟨g2, rfl⟩ : ∃ g2, gk = g2 + 1 := ⟨gk - 1, by omega⟩
     have hkz : (k : Int) < 25 := by omega
     have hk0 : (0 : Int) ≤ (k : Int) := by omega
     have hwk : IntKind.i64.wrap ((k : Int) + 1) = ((k + 1 : Nat) : Int) := by rw [IntKind.wrap_i64]; omega
     obtain ⟨sk, hsk⟩ : ∃ s, keysG[k]? = some s := ⟨_, List.getElem?_eq_getElem (show k < keysG.length from hkn)⟩
     have q0 : wr.cell? ⟨KB, k, none⟩ = some (.string (bs sk)) := cell_lst kyA_lst (HKB.out _ hkk) hsk
     have q1 := (HTC.out _ hkk).1
     have hse := str_eq sk x.key
     have HY := qH (fun (h : (sk == x.key) = true) => lastP_yes (l := keysG) (s := x.key) hk1 (by rw [hsk]; rw [show sk = x.key by simpa using h]))
     have HNO := qH (fun (h : (sk == x.key) = false) => lastP_skip (l := keysG) (s := x.key) (k := k) (by rw [hsk]; intro e; rw [Option.some.inj e] at h; simp at h))
     clear hkk hma hkg hk1 hsk hkn
     generalize bs sk = bk at *
     cases hb : (sk == x.key) with
     | true =>
      rw [hb] at hse
      have HYY := qH (HY.out hb)
      clear hb HY HNO
      go_upto_region 13 with fail
      go_quiet (fail)
      have HMD := qH (HMA.out.kp0 ((Kp.refl [] wr).drew nq))
      have HKD := qH (HKK.out.drew nq)
      generalize wr.drewN nq = wd at *
      obtain ⟨c0, c1, c2, c3⟩ := HMD.out.cells
      have fz := fun o => HMD.out.frz (o := o)
      have HM3 := qH (HMD.out.putK (k : Int))
      have HK3 := qH (HKD.out.setCell (p := ⟨TB, 0, none⟩) (.inr (Nat.le_of_eq HTB.out)) (.int .i64 (k : Int)))
      go_wp2
      go_roundg g2
      case measure => omega
      case rel => exact ⟨k + 1, rfl, by have := HK1.out; omega, by have := HKG.out; omega, by rw [HYY.out]; exact HM3.out, HK3.out⟩
     | false =>
      rw [hb] at hse
      have HYY := qH (HNO.out hb)
      clear hb HY HNO
      go_upto_region 13 with fail
      go_quiet (fail)
      have HMD := qH (HMA.out.kp0 ((Kp.refl [] wr).drew nq))
      have HKD := qH (HKK.out.drew nq)
      generalize wr.drewN nq = wd at *
      go_wp2
      go_roundg g2
      case measure => omega
      case rel => exact ⟨k + 1, rfl, by have := HK1.out; omega, by have := HKG.out; omega, by rw [HYY.out]; exact HMD.out, HKD.out⟩
    ·obtain rfl : k = 25 := by omega
     have hkz : ¬ ((25 : Nat) : Int) < 25 := by omega
     have HM2 := HMA
     have HK2 := HKK
     clear hkk hma hkg hk1 hkn HMA HKK HKG HK1
     go_wp2
     go_loopg [12] 6 (fun g sX wx => ∃ k : Nat, sX = .int .i64 (k : Int) ∧ 1 ≤ k ∧ k + g = 7 ∧ MAt wx TB ⟨lastP keysG x.key 25, x.name, lastP opsG x.op k, x.val⟩ ∧ Kp [] wo wx)
     case atStart => exact ⟨1, rfl, by omega, by omega, by rw [lastP_one]; exact HM2.out, HK2.out⟩
     case round =>
      obtain ⟨k, rfl, hk1, hkg, hma, hkk⟩ := hrel
      have HMA := qH hma
      have HKK := qH hkk
      have HKG := qH hkg
      have HK1 := qH hk1
      by_cases hkn : k < 7
      ·obtain ⟨g2, rfl⟩ : ∃ g2, gk = g2 + 1 := ⟨gk - 1, by omega⟩
       have hkz : (k : Int) < 7 := by omega
       have hk0 : (0 : Int) ≤ (k : Int) := by omega
       have hwk : IntKind.i64.wrap ((k : Int) + 1) = ((k + 1 : Nat) : Int) := by rw [IntKind.wrap_i64]; omega
       obtain ⟨sk, hsk⟩ : ∃ s, opsG[k]? = some s := ⟨_, List.getElem?_eq_getElem (show k < opsG.length from hkn)⟩
       have q0 : wr.cell? ⟨OB, k, none⟩ = some (.string (bs sk)) := cell_lst opA2_lst (HOB.out _ hkk) hsk
       have q1 := (HTC.out _ hkk).2.2.1
       have hse := str_eq sk x.op
       have HY := qH (fun (h : (sk == x.op) = true) => lastP_yes (l := opsG) (s := x.op) hk1 (by rw [hsk]; rw [show sk = x.op by simpa using h]))
       have HNO := qH (fun (h : (sk == x.op) = false) => lastP_skip (l := opsG) (s := x.op) (k := k) (by rw [hsk]; intro e; rw [Option.some.inj e] at h; simp at h))
       clear hkk hma hkg hk1 hsk hkn
       generalize bs sk = bk at *
       cases hb : (sk == x.op) with
       | true =>
        rw [hb] at hse
        have HYY := qH (HY.out hb)
        clear hb HY HNO
        go_upto_region 18 with fail
        go_quiet (fail)
        have HMD := qH (HMA.out.kp0 ((Kp.refl [] wr).drew nq))
        have HKD := qH (HKK.out.drew nq)
        generalize wr.drewN nq = wd at *
        obtain ⟨c0, c1, c2, c3⟩ := HMD.out.cells
        have fz := fun o => HMD.out.frz (o := o)
        have HM3 := qH (HMD.out.putO (k : Int))
        have HK3 := qH (HKD.out.setCell (p := ⟨TB, 2, none⟩) (.inr (Nat.le_of_eq HTB.out)) (.int .i64 (k : Int)))
        go_wp2
        go_roundg g2
        case measure => omega
        case rel => exact ⟨k + 1, rfl, by have := HK1.out; omega, by have := HKG.out; omega, by rw [HYY.out]; exact HM3.out, HK3.out⟩
       | false =>
        rw [hb] at hse
        have HYY := qH (HNO.out hb)
        clear hb HY HNO
        go_upto_region 18 with fail
        go_quiet (fail)
        have HMD := qH (HMA.out.kp0 ((Kp.refl [] wr).drew nq))
        have HKD := qH (HKK.out.drew nq)
        generalize wr.drewN nq = wd at *
        go_wp2
        go_roundg g2
        case measure => omega
        case rel => exact ⟨k + 1, rfl, by have := HK1.out; omega, by have := HKG.out; omega, by rw [HYY.out]; exact HMD.out, HKD.out⟩
      ·obtain rfl : k = 7 := by omega
       have hkz : ¬ ((7 : Nat) : Int) < 7 := by omega
       have HM2 := HMA
       have HK2 := HKK
       clear hkk hma hkg hk1 hkn HMA HKK HKG HK1
       obtain ⟨c0, c1, c2, c3⟩ := HM2.out.cells
       have HO6 := qH (HO.out.kp0 HK2.out)
       obtain ⟨Nb, hNb⟩ : ∃ b, wr.heap.size = b := ⟨_, rfl⟩
       obtain ⟨w7, hw7⟩ : ∃ W, wr.alloc (.cells #[.int .i64 (lastP keysG x.key 25), .string (bs x.name), .int .i64 (lastP opsG x.op 7), .string (bs x.val)] 31) = W := ⟨_, rfl⟩
       have HR7 := qH (show w7.rangeAt Nb 0 (tmT.cf (tR x)) from by
        have h := MAt.new wr (tR x)
        unfold tmC tR at h
        simp only at h
        rw [hw7, hNb] at h
        exact h.range)
       have hk7 : Kp [] wr w7 := by rw [← hw7]; exact (Kp.refl [] _).alloc _
       have HK7 := qH (HKP.out.trans (HK2.out.trans hk7))
       have HO7 := qH (HO6.out.kp0 hk7)
       clear hk7
       go_wp2_with (at_builtin; refine wpList_append_r (r := tmT) rfl (.tmp 77) (.tmp 79) rfl w3.heap.size u8 _ rfl HO7.out Nb 1 (tR x) rfl HR7.out HXS.out HK7.out.size ?_; intro v8 w8 hown8 hgr8; have HO8 := qH hown8; have HG8 := qH (kp_grown HK7.out hgr8 fun b hb => (HO7.out.ge b hb).1); clear hown8 hgr8)
       go_roundg g
       case measure => omega
       case rel => exact ⟨i + 1, rfl, by rw [HTK.out]; exact HO8.out, by have := HIG.out; omega, HG8.out⟩
  ·have hiz : ¬ (i : Int) < (L.length : Int) := by omega
   have hie : L.take i = L := List.take_of_length_le (by omega)
   rw [hie] at ho HO
   have HCK := qH (refGCheck_any (HE.out.kp0 (HK13.out.trans hkp)) ho.has (by rw [List.length_map]; omega) HSM.out)
   rw [checkE_tR] at HCK
   obtain ⟨av, cv, rfl⟩ := ho.form
   have HMT := qH (fun (h : checkE (L.map termOf) = 0) => map_tR h)
   rw [List.length_map] at HCK
   obtain ⟨z, hz⟩ : ∃ z, checkE (L.map termOf) = z := ⟨_, rfl⟩
   rw [hz] at HCK HPE HMT
   have HKA := qH (HK13.out.trans hkp)
   have HW3 := qH (HK13.out.size)
   clear hkp ho hig hi hie hz
   by_cases hz0 : z = 0
   ·subst hz0
    rw [if_neg (by simp)] at HPE
    have hp := HPE.out
    clear HPE
    subst hp
    have HOO := qH (show tmT.Own wo w3.heap.size (.slice av L.length cv) (L.map termOf) by have h := HO.out; rw [List.length_map] at h; rw [← HMT.out rfl]; exact h)
    go_wp2_with (go_at_call 16; refine cM (by with_reducible exact HCK.out) ?_; rintro r w5 ⟨rfl, hk5⟩; have HK5 := qH (HKA.out.trans hk5); have HO5 := qH (HOO.out.kp0 hk5); clear hk5)
    go_ret2
    exact ⟨_, rfl, RT.Own.down HO5.out HW3.out, HK5.out⟩
   ·rw [if_pos hz0] at HPE
    have hp := HPE.out
    clear HPE
    subst hp
    have hzb : (z == 0) = false := by simpa using hz0
    clear hz0
    go_wp2_with (go_at_call 16; refine cM (by with_reducible exact HCK.out) ?_; rintro r w5 ⟨rfl, hk5⟩; have HK5 := qH (HKA.out.trans hk5); clear hk5)
    go_ret2
    exact ⟨_, rfl, RT.Own.nil tmT _ _, HK5.out⟩
end Go.Proofs.YtkkibibecgcbmaaGreatDoor
