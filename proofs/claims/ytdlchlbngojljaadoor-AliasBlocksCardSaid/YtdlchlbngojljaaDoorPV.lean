/- Small functions: equal texts, a text in a list, which text is less, a module of a name. -/
import Derived.Test.YtdlchlbngojljaaDoorPUT
import Derived.Test.YtdlchlbngojljaaDoorPShelf
namespace Go.Proofs.YtdlchlbngojljaaDoor
open Go.RowKit
theorem st_cell {w : World} {b o : Nat} {l : List Tx} (h : stT.Row w b o l) {i : Nat} {x : Tx} (hx : l[i]? = some x) : w.cell? ⟨b, o + i, none⟩ = some (.string (bs x)) := by
 have := h i x hx 0 (.string (bs x)) rfl
 simpa [stT] using this
theorem tw_cell {r : RT (Tx × Tx)} (hr : ∀ x, r.cf x = [.string (bs x.1), .string (bs x.2)]) (hz : r.sz = 2) {w : World} {b o : Nat} {l : List (Tx × Tx)} (h : r.Row w b o l) {i : Nat} {x : Tx × Tx} (hx : l[i]? = some x) : w.cell? ⟨b, o + i * 2, none⟩ = some (.string (bs x.1)) ∧ w.cell? ⟨b, o + i * 2 + 1, none⟩ = some (.string (bs x.2)) := by
 have h0 := h i x hx 0 (.string (bs x.1)) (by rw [hr]; rfl)
 have h1 := h i x hx 1 (.string (bs x.2)) (by rw [hr]; rfl)
 rw [hz] at h0 h1
 exact ⟨h0, h1⟩
theorem at_cell {w : World} {b o : Nat} {l : List (Tx × Tx)} (h : atT.Row w b o l) {i : Nat} {x : Tx × Tx} (hx : l[i]? = some x) : w.cell? ⟨b, o + i * 2, none⟩ = some (.string (bs x.1)) ∧ w.cell? ⟨b, o + i * 2 + 1, none⟩ = some (.string (bs x.2)) := tw_cell (fun _ => rfl) rfl h hx
theorem en_cell {w : World} {b o : Nat} {l : List (Tx × Tx)} (h : enT.Row w b o l) {i : Nat} {x : Tx × Tx} (hx : l[i]? = some x) : w.cell? ⟨b, o + i * 2, none⟩ = some (.string (bs x.1)) ∧ w.cell? ⟨b, o + i * 2 + 1, none⟩ = some (.string (bs x.2)) := tw_cell (fun _ => rfl) rfl h hx
theorem md_cell {w : World} {b o : Nat} {l : List Mx} (h : mdT.Row w b o l) {i : Nat} {x : Mx} (hx : l[i]? = some x) : w.cell? ⟨b, o + i * 6, none⟩ = some (.string (bs x.1.nm)) ∧ w.cell? ⟨b, o + i * 6 + 1, none⟩ = some x.1.al.v ∧ w.cell? ⟨b, o + i * 6 + 2, none⟩ = some x.1.nd.v ∧ w.cell? ⟨b, o + i * 6 + 3, none⟩ = some x.1.pr.v ∧ w.cell? ⟨b, o + i * 6 + 4, none⟩ = some x.1.po.v ∧ w.cell? ⟨b, o + i * 6 + 5, none⟩ = some (.bool x.1.fl) :=
 ⟨h i x hx 0 _ rfl, h i x hx 1 _ rfl, h i x hx 2 _ rfl, h i x hx 3 _ rfl, h i x hx 4 _ rfl, h i x hx 5 _ rfl⟩
/-- How much of two lists is the same. -/
theorem same_take {a b : List Tx} {i : Nat} {x y : Tx} (hx : a[i]? = some x) (hy : b[i]? = some y) (h : a.take i = b.take i) (e : x = y) : a.take (i + 1) = b.take (i + 1) := by
 rw [List.take_add_one, List.take_add_one, hx, hy, h, e]
set_option maxHeartbeats 1000000 in
set_option maxRecDepth 100000 in
theorem sameTexts_any {B C : Nat} {u v : Value} {a b : List Tx} {w : World} (ha : a.length ≤ 1000000) (hu : stT.HasB B w u a) (hv : stT.HasB C w v b) :
  Calls Tryd.prog 12 #[u, v] w fun e w' => e = .returned (.bool (a == b)) ∧ Kp [] w w' := by
 obtain ⟨ua, uc, rfl, hur⟩ := hu.form
 obtain ⟨va, vc, rfl, hvr⟩ := hv.form
 by_cases hl : a.length = b.length
 ·obtain ⟨N, hN⟩ : ∃ N, a.length = N := ⟨_, rfl⟩
  obtain ⟨R, hR⟩ : ∃ R, (a == b) = R := ⟨_, rfl⟩
  have HA := Lib.hid hur
  have HB := Lib.hid hvr
  rw [← hl, hN, hR]
  rw [hN] at ha hl
  have HN := Lib.hid hN
  have Hl := Lib.hid hl
  have HR := Lib.hid hR
  have HK := Lib.hid (fun n => (Kp.refl [] w).drew n)
  have hbq : ((N : Int) != (N : Int)) = false := by simp
  clear hur hvr hu hv hN hR hl
  go_enter Tryd.func12, Tryd.ntmps12
  go_wp2
  go_loopw [5] (fun s5 wx => ∃ i : Nat, i ≤ N ∧ s5 = .int .i64 (i : Int) ∧ Hid (a.take i = b.take i) ∧ ∃ n, wx = w.drewN n) (fun s5 _ => N - (intOf s5).toNat)
  case atStart => exact ⟨0, by omega, rfl, Lib.hid rfl, 0, rfl⟩
  case round =>
   obtain ⟨i, hi, rfl, hsame, n, rfl⟩ := hrel
   by_cases hlt : i < N
   ·have hiz : (i : Int) < (N : Int) := by omega
    obtain ⟨x, hx⟩ : ∃ x, a[i]? = some x := ⟨_, List.getElem?_eq_getElem (by rw [HN.out]; exact hlt)⟩
    obtain ⟨y, hy⟩ : ∃ y, b[i]? = some y := ⟨_, List.getElem?_eq_getElem (by have := Hl.out; omega)⟩
    obtain ⟨g, o, rfl, _, _, hr⟩ := HA.out (fun e => by rw [e] at hx; simp at hx)
    obtain ⟨g', o', rfl, _, _, hr'⟩ := HB.out (fun e => by rw [e] at hy; simp at hy)
    have h1 := st_cell hr hx
    have h2 := st_cell hr' hy
    have HX := Lib.hid hx
    have HY := Lib.hid hy
    have he := bs_eq x y
    clear hr hr' hx hy
    cases hxy : x == y with
    | true =>
     rw [hxy] at he
     have Hxy := Lib.hid hxy
     clear hxy
     go_wp2
     go_quiet (fail)
     go_wp2
     refine ⟨⟨i + 1, by omega, by go_num, Lib.hid (same_take HX.out HY.out hsame.out (by simpa using Hxy.out)), _, rfl⟩, by simp [intOf]; omega⟩
    | false =>
     rw [hxy] at he
     have Hxy := Lib.hid hxy
     clear hxy
     go_wp2
     go_quiet (fail)
     go_wp2
     go_ret
     have : ¬ a = b := fun e => by
      have h3 := HX.out
      rw [e, HY.out] at h3
      have h4 := Hxy.out
      rw [Option.some.inj h3] at h4
      simp at h4
     have hf : R = false := by rw [← HR.out]; simpa using this
     rw [hf]
     exact ⟨rfl, (HK.out n).drew _⟩
   ·have hiz : ¬ ((i : Int) < (N : Int)) := by omega
    go_wp2
    go_ret
    have h3 := hsame.out
    rw [List.take_of_length_le (by rw [HN.out]; omega), List.take_of_length_le (by have := Hl.out; omega)] at h3
    have hf : R = true := by rw [← HR.out, h3]; simp
    rw [hf]
    exact ⟨rfl, HK.out _⟩
 ·have hR : (a == b) = false := by
   have : ¬ a = b := fun e => hl (by rw [e])
   simpa using this
  rw [hR]
  have hbq : ((a.length : Int) != (b.length : Int)) = true := by
   have : ¬ (a.length : Int) = (b.length : Int) := by omega
   simp [this]
  clear hur hvr hu hv hR
  go_enter Tryd.func12, Tryd.ntmps12
  go_wp2
  go_ret
  exact ⟨rfl, (Kp.refl [] w)⟩
theorem in_take {l : List Tx} {i : Nat} {x s : Tx} (hx : l[i]? = some x) (h : s ∉ l.take i) (e : ¬ x = s) : s ∉ l.take (i + 1) := by
 rw [List.take_add_one, hx]
 simp only [Option.toList, List.mem_append, List.mem_singleton, not_or]
 exact ⟨h, fun e' => e e'.symm⟩
set_option maxHeartbeats 1000000 in
set_option maxRecDepth 100000 in
theorem in_any {B : Nat} {u : Value} {a : List Tx} {w : World} (s : Tx) (ha : a.length ≤ 1000000) (hu : stT.HasB B w u a) :
  Calls Tryd.prog 19 #[u, .string (bs s)] w fun e w' => e = .returned (.bool (a.contains s)) ∧ Kp [] w w' := by
 obtain ⟨ua, uc, rfl, hur⟩ := hu.form
 obtain ⟨N, hN⟩ : ∃ N, a.length = N := ⟨_, rfl⟩
 obtain ⟨R, hR⟩ : ∃ R, a.contains s = R := ⟨_, rfl⟩
 have HA := Lib.hid hur
 rw [hN, hR]
 rw [hN] at ha
 have HN := Lib.hid hN
 have HR := Lib.hid hR
 have HK := Lib.hid (fun n => (Kp.refl [] w).drew n)
 clear hur hu hN hR
 go_enter Tryd.func19, Tryd.ntmps19
 go_wp2
 go_loopw [5] (fun s5 wx => ∃ i : Nat, i ≤ N ∧ s5 = .int .i64 (i : Int) ∧ Hid (s ∉ a.take i) ∧ ∃ n, wx = w.drewN n) (fun s5 _ => N - (intOf s5).toNat)
 case atStart => exact ⟨0, by omega, rfl, Lib.hid (by simp), 0, rfl⟩
 case round =>
  obtain ⟨i, hi, rfl, hsame, n, rfl⟩ := hrel
  by_cases hlt : i < N
  ·have hiz : (i : Int) < (N : Int) := by omega
   obtain ⟨x, hx⟩ : ∃ x, a[i]? = some x := ⟨_, List.getElem?_eq_getElem (by rw [HN.out]; exact hlt)⟩
   obtain ⟨g, o, rfl, _, _, hr⟩ := HA.out (fun e => by rw [e] at hx; simp at hx)
   have h1 := st_cell hr hx
   have HX := Lib.hid hx
   have he := bs_eq x s
   clear hr hx
   cases hxy : x == s with
   | true =>
    rw [hxy] at he
    have Hxy := Lib.hid hxy
    clear hxy
    go_wp2
    go_ret
    have h4 : x = s := by simpa using Hxy.out
    have hf : R = true := by rw [← HR.out]; exact List.contains_iff_mem.2 (h4 ▸ List.mem_of_getElem? HX.out)
    rw [hf]
    exact ⟨rfl, HK.out _⟩
   | false =>
    rw [hxy] at he
    have Hxy := Lib.hid hxy
    clear hxy
    go_wp2
    exact ⟨⟨i + 1, by omega, by go_num, Lib.hid (in_take HX.out hsame.out (by simpa using Hxy.out)), _, rfl⟩, by simp [intOf]; omega⟩
  ·have hiz : ¬ ((i : Int) < (N : Int)) := by omega
   go_wp2
   go_ret
   have h3 := hsame.out
   rw [List.take_of_length_le (by rw [HN.out]; omega)] at h3
   have hf : R = false := by rw [← HR.out]; simpa using h3
   rw [hf]
   exact ⟨rfl, HK.out _⟩
end Go.Proofs.YtdlchlbngojljaaDoor
