/- known, the sanity check of the statements: the example of the chapter. -/
import Derived.Test.YtdlchlbngojljaaDoorKM6
import Derived.KernelRfl
namespace Go.Proofs.YtdlchlbngojljaaDoor
open Go.RowKit Go.Maps
open Gl (lessB)
def kC : Cf := ⟨[⟨[97], [[117, 115, 98, 58, 118, 49, 42]]⟩, ⟨[98], [[117, 115, 98, 58, 42]]⟩, ⟨[99], []⟩], [[98]], [([112, 99, 105, 58, 42], [99])]⟩
set_option maxRecDepth 100000 in
theorem k1 : shrL lessB comG (aliN kC.mods [97]) (aliN kC.mods [98]) = some [117, 115, 98, 58, 118, 49] := by kernel_rfl
set_option maxRecDepth 100000 in
theorem k2 : shrL lessB comG (aliN kC.mods [97]) (aliN kC.mods [99]) = none := by kernel_rfl
set_option maxRecDepth 100000 in
theorem k3 : findR hitG kC [117, 115, 98, 58, 118, 49] = [[97]] := by kernel_rfl
set_option maxRecDepth 100000 in
theorem k4 : findR hitG kC [112, 99, 105, 58, 120] = [[99]] := by kernel_rfl
set_option maxRecDepth 100000 in
theorem k5 : findR hitG kC [] = [] := by kernel_rfl

def kO1 : Obj := .cells #[.string ⟨#[117, 115, 98, 58, 118, 49, 42]⟩] 9
def kO2 : Obj := .cells #[.string ⟨#[117, 115, 98, 58, 42]⟩] 9
def kMs (B : Nat) : List Mx := [(⟨[97], ⟨some ⟨B, 0, none⟩, 1, 1⟩, ⟨none, 0, 0⟩, ⟨none, 0, 0⟩, ⟨none, 0, 0⟩, false⟩, ⟨[97], [[117, 115, 98, 58, 118, 49, 42]]⟩), (⟨[98], ⟨some ⟨B + 1, 0, none⟩, 1, 1⟩, ⟨none, 0, 0⟩, ⟨none, 0, 0⟩, ⟨none, 0, 0⟩, false⟩, ⟨[98], [[117, 115, 98, 58, 42]]⟩), (⟨[99], ⟨none, 0, 0⟩, ⟨none, 0, 0⟩, ⟨none, 0, 0⟩, ⟨none, 0, 0⟩, false⟩, ⟨[99], []⟩)]
def kO3 (B : Nat) : Obj := .cells #[.string ⟨#[97]⟩, .slice (some ⟨B, 0, none⟩) 1 1, .slice none 0 0, .slice none 0 0, .slice none 0 0, .bool false, .string ⟨#[98]⟩, .slice (some ⟨B + 1, 0, none⟩) 1 1, .slice none 0 0, .slice none 0 0, .slice none 0 0, .bool false, .string ⟨#[99]⟩, .slice none 0 0, .slice none 0 0, .slice none 0 0, .slice none 0 0, .bool false] 51
def kO4 : Obj := .cells #[.string ⟨#[98]⟩] 9
def kO5 : Obj := .cells #[.string ⟨#[112, 99, 105, 58, 42]⟩, .string ⟨#[99]⟩] 48
def kV (B : Nat) : Array Value := #[.slice (some ⟨B + 1 + 1, 0, none⟩) 3 3, .slice (some ⟨B + 1 + 1 + 1, 0, none⟩) 1 1, .slice none 0 0, .slice none 0 0, .slice (some ⟨B + 1 + 1 + 1 + 1, 0, none⟩) 1 1]
def kW (w : World) (B : Nat) : World := (((((w.alloc kO1).alloc kO2).alloc (kO3 B)).alloc kO4).alloc kO5).alloc (.cells (kV B) 31)
theorem kp_kW (w : World) (B : Nat) : Kp [] w (kW w B) := ((((((Kp.refl [] w).alloc _).alloc _).alloc _).alloc _).alloc _).alloc _
theorem heap_push_last (w : World) (o : Obj) : (w.alloc o).heap[w.heap.size]? = some o := by
  show (w.heap.push o)[w.heap.size]? = some o
  simp
theorem al6 (w : World) (a b c d e f : Obj) {B : Nat} (hB : w.heap.size = B) : ((((((w.alloc a).alloc b).alloc c).alloc d).alloc e).alloc f).heap[B]? = some a ∧ ((((((w.alloc a).alloc b).alloc c).alloc d).alloc e).alloc f).heap[B + 1]? = some b ∧ ((((((w.alloc a).alloc b).alloc c).alloc d).alloc e).alloc f).heap[B + 1 + 1]? = some c ∧ ((((((w.alloc a).alloc b).alloc c).alloc d).alloc e).alloc f).heap[B + 1 + 1 + 1]? = some d ∧ ((((((w.alloc a).alloc b).alloc c).alloc d).alloc e).alloc f).heap[B + 1 + 1 + 1 + 1]? = some e ∧ ((((((w.alloc a).alloc b).alloc c).alloc d).alloc e).alloc f).heap[B + 1 + 1 + 1 + 1 + 1]? = some f := by
  have k : ∀ (v : World) (o : Obj) (i : Nat), i < v.heap.size → (v.alloc o).heap[i]? = v.heap[i]? := fun v o i h => ((Kp.refl [] v).alloc o).block i h (by simp)
  have z : ∀ (v : World) (o : Obj) (n : Nat), v.heap.size = n → (v.alloc o).heap.size = n + 1 := fun v o n h => by rw [World.size_alloc, h]
  have l : ∀ (v : World) (o : Obj) (n : Nat), v.heap.size = n → (v.alloc o).heap[n]? = some o := fun v o n h => by subst h; exact heap_push_last v o
  have s1 := z _ a _ hB
  have s2 := z _ b _ s1
  have s3 := z _ c _ s2
  have s4 := z _ d _ s3
  have s5 := z _ e _ s4
  refine ⟨?_, ?_, ?_, ?_, ?_, l _ f _ s5⟩
  · rw [k _ f _ (by omega), k _ e _ (by omega), k _ d _ (by omega), k _ c _ (by omega), k _ b _ (by omega)]; exact l _ a _ hB
  · rw [k _ f _ (by omega), k _ e _ (by omega), k _ d _ (by omega), k _ c _ (by omega)]; exact l _ b _ s1
  · rw [k _ f _ (by omega), k _ e _ (by omega), k _ d _ (by omega)]; exact l _ c _ s2
  · rw [k _ f _ (by omega), k _ e _ (by omega)]; exact l _ d _ s3
  · rw [k _ f _ (by omega)]; exact l _ e _ s4
theorem heap_kW {w : World} {B : Nat} (hB : w.heap.size = B) : (kW w B).heap[B]? = some kO1 ∧ (kW w B).heap[B + 1]? = some kO2 ∧ (kW w B).heap[B + 1 + 1]? = some (kO3 B) ∧ (kW w B).heap[B + 1 + 1 + 1]? = some kO4 ∧ (kW w B).heap[B + 1 + 1 + 1 + 1]? = some kO5 ∧ (kW w B).heap[B + 1 + 1 + 1 + 1 + 1]? = some (.cells (kV B) 31) := by
  exact al6 w kO1 kO2 (kO3 B) kO4 kO5 _ hB
set_option maxRecDepth 100000 in
theorem kW_at {w : World} {B : Nat} (hB : w.heap.size = B) : CAt B (kW w B) (.slice (some ⟨B + 1 + 1, 0, none⟩) 3 3) (.slice (some ⟨B + 1 + 1 + 1, 0, none⟩) 1 1) (.slice (some ⟨B + 1 + 1 + 1 + 1, 0, none⟩) 1 1) (kMs B) kC := by
  obtain ⟨h1, h2, h3, h4, h5, _⟩ := heap_kW hB
  refine ⟨⟨⟨.inr ⟨_, 0, 3, rfl, block_lt h3, RT.row_of (r := mdT) (cur := mdT.cells (kMs B)) h3 rfl⟩, fun b hb => (by cases hb; dsimp only; omega)⟩, fun x hx => ?_⟩, rfl, ⟨.inr ⟨_, 0, 1, rfl, block_lt h4, RT.row_of (r := stT) (cur := [.string (bs [98])]) h4 rfl⟩, fun b hb => (by cases hb; dsimp only; omega)⟩,
    ⟨.inr ⟨_, 0, 1, rfl, block_lt h5, RT.row_of (r := atT) (cur := [.string (bs [112, 99, 105, 58, 42]), .string (bs [99])]) h5 rfl⟩, fun b hb => (by cases hb; dsimp only; omega)⟩⟩
  simp only [kMs, List.mem_cons, List.not_mem_nil, or_false] at hx
  rcases hx with rfl | rfl | rfl
  · exact ⟨rfl, .inr ⟨_, 0, 1, rfl, block_lt h1, RT.row_of (r := stT) (cur := [.string (bs [117, 115, 98, 58, 118, 49, 42])]) h1 rfl⟩, fun b hb => (by cases hb; dsimp only; omega)⟩
  · exact ⟨rfl, .inr ⟨_, 0, 1, rfl, block_lt h2, RT.row_of (r := stT) (cur := [.string (bs [117, 115, 98, 58, 42])]) h2 rfl⟩, fun b hb => (by cases hb; dsimp only; omega)⟩
  · exact ⟨rfl, .inl ⟨none, 0, rfl, rfl⟩, fun b hb => by cases hb⟩
theorem kC_ty : CTy kC := ⟨by decide, by decide, by decide, by decide, by decide, by decide, by decide, by decide⟩
def FKn (s : Tx) (w : World) (e : Ending) (w' : World) : Prop := ∃ v, Hid (stT.HasB 0 w' v (findR hitG kC s)) ∧ e = .returned v ∧ Kp [] w w'
theorem one_has (W : World) (x : Tx) : stT.HasB 0 (W.alloc (.cells #[.string (bs x)] 9)) (.slice (some ⟨W.heap.size, 0, none⟩) 1 1) [x] :=
  ⟨.inr ⟨_, 0, 1, rfl, by simp, RT.row_of (r := stT) (cur := [.string (bs x)]) (heap_alloc_last W _) rfl⟩, fun _ _ => Nat.zero_le _⟩
theorem same_one {W : World} {u : Value} {x : Tx} (h : stT.HasB 0 W u [x]) : Calls Tryd.prog 12 #[u, .slice (some ⟨W.heap.size, 0, none⟩) 1 1] (W.alloc (.cells #[.string (bs x)] 9)) fun e w' => e = .returned (.bool true) ∧ Kp [] W w' := by
  have hk := (Kp.refl [] W).alloc (.cells #[.string (bs x)] 9)
  refine (sameTexts_any (by simp) (h.kp hk (by simp)) (one_has W x)).mono fun e w' h => ⟨?_, hk.trans h.2⟩
  rw [h.1]
  simp
set_option maxHeartbeats 8000000 in
set_option maxRecDepth 100000 in
theorem known_any (w : World) (hT : Gl.TabAt w) : Calls Tryd.prog 7 #[] w fun e w' => e = .returned (.bool true) ∧ Kp [] w w' := by
  obtain ⟨B, hB⟩ : ∃ B, w.heap.size = B := ⟨_, rfl⟩
  obtain ⟨W, hW⟩ : ∃ W, kW w B = W := ⟨_, rfl⟩
  have hat := kW_at hB
  have hkw := kp_kW w B
  have hcf := (heap_kW hB).2.2.2.2.2
  rw [hW] at hat hkw hcf
  have hTW := fun V (hV : Kp [] W V) => tab_keep hT ((hkw.trans hV).block 0 hT.lt (by simp))
  obtain ⟨cv, hcv⟩ : ∃ cv, kV B = cv := ⟨_, rfl⟩
  rw [hcv] at hcf
  have hc5 : (Tryd.prog.info? 31).map (·.size) = some cv.size := by rw [← hcv]; exact info31b
  have HS1 := Lib.hid (show ∀ V, Kp [] W V → Calls Tryd.prog 17 #[.agg cv, .string ⟨#[97]⟩, .string ⟨#[98]⟩] V (fun e w' => e = .returned (.tuple #[.string ⟨#[117, 115, 98, 58, 118, 49]⟩, .bool true]) ∧ Kp [] V w') from fun V hV => by
    have h := shared_any (ov := .slice none 0 0) (kv := .slice none 0 0) [97] [98] (hat.kp hV (by simp)) kC_ty (hTW V hV)
    unfold ShPost at h
    rw [k1] at h
    rw [← hcv]
    exact h)
  have HS2 := Lib.hid (show ∀ V, Kp [] W V → Calls Tryd.prog 17 #[.agg cv, .string ⟨#[97]⟩, .string ⟨#[99]⟩] V (fun e w' => e = .returned (.tuple #[.string ⟨#[]⟩, .bool false]) ∧ Kp [] V w') from fun V hV => by
    have h := shared_any (ov := .slice none 0 0) (kv := .slice none 0 0) [97] [99] (hat.kp hV (by simp)) kC_ty (hTW V hV)
    unfold ShPost at h
    rw [k2] at h
    rw [← hcv]
    exact h)
  have hF : ∀ (s : Tx), s.length ≤ 1000000 → ∀ V, Kp [] W V → Calls Tryd.prog 13 #[.agg cv, .string (bs s)] V (FKn s V) := fun s hs V hV => by
    rw [← hcv]
    exact (find_any (ov := .slice none 0 0) (kv := .slice none 0 0) s (by omega) (hat.kp hV (by simp)) kC_ty (hTW V hV)).mono fun e w' h => by
      obtain ⟨v, h1, h2, h3⟩ := h
      exact ⟨v, Lib.hid (h1.out.low (Nat.zero_le _)), h2, h3⟩
  have hFl : ∀ (s : Tx), s.length ≤ 1000000 → ∀ V, Kp [] W V → Calls Tryd.prog 13 #[.agg (kV B), .string (bs s)] V (FKn s V) := fun s hs V hV => by rw [hcv]; exact hF s hs V hV
  have HF1 := Lib.hid (show ∀ V, Kp [] W V → Calls Tryd.prog 13 #[.agg cv, .string ⟨#[117, 115, 98, 58, 118, 49]⟩] V (FKn [117, 115, 98, 58, 118, 49] V) from hF [117, 115, 98, 58, 118, 49] (by decide))
  have HF2 := Lib.hid (show ∀ V, Kp [] W V → Calls Tryd.prog 13 #[.agg #[.slice (some ⟨B + 1 + 1, 0, none⟩) 3 3, .slice (some ⟨B + 1 + 1 + 1, 0, none⟩) 1 1, .slice none 0 0, .slice none 0 0, .slice (some ⟨B + 1 + 1 + 1 + 1, 0, none⟩) 1 1], .string ⟨#[112, 99, 105, 58, 120]⟩] V (FKn [112, 99, 105, 58, 120] V) from hFl [112, 99, 105, 58, 120] (by decide))
  have HF3 := Lib.hid (show ∀ V, Kp [] W V → Calls Tryd.prog 13 #[.agg #[.slice (some ⟨B + 1 + 1, 0, none⟩) 3 3, .slice (some ⟨B + 1 + 1 + 1, 0, none⟩) 1 1, .slice none 0 0, .slice none 0 0, .slice (some ⟨B + 1 + 1 + 1 + 1, 0, none⟩) 1 1], .string ⟨#[]⟩] V (FKn [] V) from hFl [] (by decide))
  have HE1 := Lib.hid (show ∀ V u, stT.HasB 0 V u [[97]] → Calls Tryd.prog 12 #[u, .slice (some ⟨V.heap.size, 0, none⟩) 1 1] (V.alloc (.cells #[.string ⟨#[97]⟩] 9)) (fun e w' => e = .returned (.bool true) ∧ Kp [] V w') from fun V u h => same_one h)
  have HE2 := Lib.hid (show ∀ V u, stT.HasB 0 V u [[99]] → Calls Tryd.prog 12 #[u, .slice (some ⟨V.heap.size, 0, none⟩) 1 1] (V.alloc (.cells #[.string ⟨#[99]⟩] 9)) (fun e w' => e = .returned (.bool true) ∧ Kp [] V w') from fun V u h => same_one h)
  have HB := Lib.hid hB
  have HW := Lib.hid hW
  have Hcv := Lib.hid hcv
  have Hc5 := Lib.hid hc5
  have Hkw := Lib.hid hkw
  have Hld := Lib.hid (show ∀ V, Kp [] W V → V.heap[B + 1 + 1 + 1 + 1 + 1]? = some (.cells cv 31 (0, 0)) from fun V hV => (hV.block _ (block_lt hcf) (by simp)).trans hcf)
  have HK0 := Lib.hid (Kp.refl [] W)
  have Hcl := Lib.hid (show ∀ V, Kp [] W V → V.cell? ⟨B + 1 + 1 + 1 + 1 + 1, 0, none⟩ = some (.slice (some ⟨B + 1 + 1, 0, none⟩) 3 3) ∧ V.cell? ⟨B + 1 + 1 + 1 + 1 + 1, 1, none⟩ = some (.slice (some ⟨B + 1 + 1 + 1, 0, none⟩) 1 1) ∧ V.cell? ⟨B + 1 + 1 + 1 + 1 + 1, 2, none⟩ = some (.slice none 0 0) ∧ V.cell? ⟨B + 1 + 1 + 1 + 1 + 1, 3, none⟩ = some (.slice none 0 0) ∧ V.cell? ⟨B + 1 + 1 + 1 + 1 + 1, 4, none⟩ = some (.slice (some ⟨B + 1 + 1 + 1 + 1, 0, none⟩) 1 1) from fun V hV => by
    have h := (hV.block _ (block_lt hcf) (by simp)).trans hcf
    rw [← hcv] at h
    refine ⟨?_, ?_, ?_, ?_, ?_⟩ <;> (rw [cell_of_row _ _ _ _ _ _ h]; rfl))
  clear hB hW hat hkw hcf hTW hcv hc5 hF hT
  simp only [kW, kO1, kO2, kO3, kO4, kO5, kV] at HW Hcv
  unfold FKn at HF1 HF2 HF3
  rw [k3] at HF1
  rw [k4] at HF2
  rw [k5] at HF3
  go_enter Tryd.func7, Tryd.ntmps7
  go_upto_region 2 with (refine Gl.wpList_store_new _ 31 _ (kV w.heap.size) rfl _ _ rfl rfl rfl info31b rfl rfl ?_)
  rw [HB.out, Hcv.out]
  rw [Hcv.out] at HW
  rw [HW.out]
  go_wp2_with (refine wpList_load_row rfl 31 _ rfl (B + 1 + 1 + 1 + 1 + 1) rfl 31 cv _ _ (Hld.out _ HK0.out) Tryd.underlying31 rfl Hc5.out ?_)
  refine Calls.mono (by with_reducible exact HS1.out _ HK0.out) ?_
  rintro e W1 ⟨rfl, hk⟩
  have HK1 := Lib.hid hk
  clear hk
  go_upto_region 3 with fail
  go_wp2_with (refine wpList_load_row rfl 31 _ rfl (B + 1 + 1 + 1 + 1 + 1) rfl 31 cv _ _ (Hld.out _ HK1.out) Tryd.underlying31 rfl Hc5.out ?_)
  refine Calls.mono (by with_reducible exact HS2.out _ HK1.out) ?_
  rintro e W2 ⟨rfl, hk⟩
  have HK2 := Lib.hid (HK1.out.trans hk)
  clear hk
  go_upto_region 4 with fail
  go_wp2_with (refine wpList_load_row rfl 31 _ rfl (B + 1 + 1 + 1 + 1 + 1) rfl 31 cv _ _ (Hld.out _ HK2.out) Tryd.underlying31 rfl Hc5.out ?_)
  refine Calls.mono (by with_reducible exact HF1.out _ HK2.out) ?_
  rintro e W3 ⟨u1, hu1, rfl, hk⟩
  have HK3 := Lib.hid (HK2.out.trans hk)
  clear hk
  go_wp2_with fail
  refine Calls.mono (by with_reducible exact HE1.out _ _ hu1.out) ?_
  rintro e W4 ⟨rfl, hk⟩
  have HK4 := Lib.hid (HK3.out.trans hk)
  clear hk
  obtain ⟨e0, e1, e2, e3, e4⟩ := Hcl.out W4 HK4.out
  go_wp2_with fail
  refine Calls.mono (by with_reducible exact HF2.out _ HK4.out) ?_
  rintro e W5 ⟨u2, hu2, rfl, hk⟩
  have HK5 := Lib.hid (HK4.out.trans hk)
  clear hk
  go_wp2_with fail
  refine Calls.mono (by with_reducible exact HE2.out _ _ hu2.out) ?_
  rintro e W6 ⟨rfl, hk⟩
  have HK6 := Lib.hid (HK5.out.trans hk)
  clear hk
  clear e0 e1 e2 e3 e4
  obtain ⟨e0, e1, e2, e3, e4⟩ := Hcl.out W6 HK6.out
  go_wp2_with fail
  refine Calls.mono (by with_reducible exact HF3.out _ HK6.out) ?_
  rintro e W7 ⟨u3, hu3, rfl, hk⟩
  obtain ⟨a3, c3, rfl, _⟩ := hu3.out.form
  have HK7 := Lib.hid (Hkw.out.trans (HK6.out.trans hk))
  clear hk
  go_wp2
  go_ret
  exact ⟨rfl, HK7.out⟩
end Go.Proofs.YtdlchlbngojljaaDoor
