/- Does a rule jump to no label? -/
import Derived.Test.YtkkibibecgcbmaaGreatDoorKHf
import Derived.Maps.OwnSet
import Derived.StringKeys
namespace Go.Proofs.YtkkibibecgcbmaaGreatDoor
open Go.RowKit Go.Maps

theorem lawS : Keyed Tryz.prog 9 := Maps.string_keyed Tryz.underlying9
theorem keyS {s : List UInt8} (h : s.length ≤ 1000000000) : keyOf Tryz.prog 9 (.string (bs s)) = some (.string s) := by
  have := WideMaps.keyOf_string_mk (P := Tryz.prog) (k := 9) Tryz.underlying9 (s := bs s) (by rw [bs_size]; unfold maxLen; omega)
  rw [this]
  rfl
theorem boolE (x : Bool) : plainElem (H := Unit) Tryz.prog 4 (.bool x) = some (.lit (.bool x), []) := plainElem_bool Tryz.underlying4 x
set_option maxRecDepth 100000 in
theorem bool_inv {v : Value} {z : DataW Unit × List MemPlace} (h : plainElem Tryz.prog 4 v = some z) : ∃ x, v = .bool x ∧ z = (.lit (.bool x), []) := by
  unfold plainElem at h
  rw [Tryz.underlying4] at h
  cases v <;> simp at h
  exact ⟨_, rfl, h.symm⟩
/-- Block M is a map of labels: those of which f says yes. -/
structure LMap (w : World) (M N : Nat) (f : List UInt8 → Bool) (D : DataW Unit) : Prop where
  own : w.ownsMap Tryz.prog 9 (plainElem Tryz.prog 4) M N D
  val : ∀ s, D.atKey (.string s) (.lit (.bool false)) = .lit (.bool (f s))
theorem LMap.made (w : World) : LMap (w.alloc (.map #[] 0)) w.heap.size 0 (fun _ => false) (.map []) :=
  ⟨World.ownsMap_made _ _ _ _, fun _ => rfl⟩
theorem LMap.kept {w w' : World} {M N : Nat} {f : List UInt8 → Bool} {D : DataW Unit} (h : LMap w M N f D) (hb : w'.heap[M]? = w.heap[M]?) : LMap w' M N f D := by
  obtain ⟨⟨es, clock, h1, h2⟩, h3⟩ := h
  exact ⟨⟨es, clock, hb.trans h1, h2⟩, h3⟩
theorem LMap.lt {w : World} {M N : Nat} {f : List UInt8 → Bool} {D : DataW Unit} (h : LMap w M N f D) : M < w.heap.size := h.own.lt
theorem LMap.kp0 {w w' : World} {M N : Nat} {f : List UInt8 → Bool} {D : DataW Unit} (h : LMap w M N f D) (hk : Kp [] w w') : LMap w' M N f D := h.kept (hk.block M h.lt (by simp))
theorem LMap.put {w w' : World} {M N : Nat} {f : List UInt8 → Bool} {D : DataW Unit} {s : List UInt8} (hs : s.length ≤ 1000000000) (h : LMap w M N f D) (hown : w'.ownsMap Tryz.prog 9 (plainElem Tryz.prog 4) M (N + 1) (D.put (.string s) (.lit (.bool true)))) : LMap w' M (N + 1) (fun t => t == s || f t) (D.put (.string s) (.lit (.bool true))) := by
  refine ⟨hown, fun t => ?_⟩
  by_cases e : t = s
  · subst e
    rw [Maps.atKey_put_same h.own.isMap (lawS.key (keyS hs))]
    simp
  · rw [Maps.atKey_put_other (fun e' => e (by cases e'; rfl)), h.val t]
    simp [e]
theorem LMap.look {w : World} {M N : Nat} {f : List UInt8 → Bool} {D : DataW Unit} {s : List UInt8} (hs : s.length ≤ 1000000000) (h : LMap w M N f D) : (Instr.lookup 129 (.map (some M)) (.string (bs s)) false).run Tryz.prog w = .ok (.bool (f s)) w := by
  obtain ⟨v, ps, hrun, hv⟩ := h.own.lookup (t := 129) (e := 4) lawS Tryz.underlying129 (Tryz.zeroValue4 _) (boolE false) (keyS hs)
  obtain ⟨x, rfl, hx⟩ := bool_inv hv
  rw [h.val s] at hx
  cases hx
  exact hrun
/-- The term is a GOTO to none of the labels. -/
def lostP (f : List UInt8 → Bool) (t : Tm) : Bool := t.key == 24 && !f t.val
set_option maxRecDepth 100000 in
set_option maxHeartbeats 1000000 in
theorem pred121 {t : Tm} (ht : SmT t) {S M N : Nat} {f : List UInt8 → Bool} {D : DataW Unit} {W : World} (hS : W.cell? ⟨S, 0, none⟩ = some (.map (some M))) (hm : LMap W M N f D) : Calls Tryz.prog 121 #[.agg #[.int .i64 t.key, .string (bs t.name), .int .i64 t.op, .string (bs t.val)], .pointer (some ⟨S, 0, none⟩)] W fun e W' => e = .returned (.bool (lostP f t)) ∧ Kp [] W W' := by
  have hlt : S < W.heap.size := World.block_lt_of_cell? _ _ hS
  have hne : S ≠ W.heap.size := by omega
  have hne2 : W.heap.size ≠ S := by omega
  obtain ⟨W1, hW1⟩ : ∃ W1, W.alloc (.cells #[.int .i64 t.key, .string (bs t.name), .int .i64 t.op, .string (bs t.val)] 31) = W1 := ⟨_, rfl⟩
  obtain ⟨B, hB⟩ : ∃ B, W.heap.size = B := ⟨_, rfl⟩
  have hk : Kp [] W W1 := by rw [← hW1]; exact (Kp.refl [] W).alloc _
  have hb : MAt W1 B t := by rw [← hW1, ← hB]; exact MAt.new W t
  obtain ⟨c0, c1, c2, c3⟩ := hb.cells
  have hS' : W1.cell? ⟨S, 0, none⟩ = some (.map (some M)) := by rw [← hW1]; exact (World.cell?_alloc_old _ _ _ hne).trans hS
  have hl := (hm.kp0 hk).look (s := t.val) (by have := ht.2; omega)
  have HK := Lib.hid hk
  have HP := Lib.hid (show lostP f t = (t.key == 24 && !f t.val) from rfl)
  obtain ⟨fv, hfv⟩ : ∃ x, f t.val = x := ⟨_, rfl⟩
  rw [hfv] at hl HP
  clear hk hb hm hS hlt hne hne2 hfv
  by_cases h24 : t.key = 24
  · rw [h24] at HP c0 hW1 ⊢
    go_enter Tryz.func121, Tryz.ntmps121
    go_wp2
    go_ret
    exact ⟨by rw [HP.out]; rfl, HK.out⟩
  · have h24b : (t.key == 24) = false := by simpa using h24
    rw [h24b] at HP
    go_enter Tryz.func121, Tryz.ntmps121
    go_wp2
    go_ret
    exact ⟨by rw [HP.out]; rfl, HK.out⟩
set_option maxRecDepth 100000 in
set_option maxHeartbeats 2000000 in
theorem idx153 {l : List Tm} (hl : l.length ≤ 1000000) (hs : ∀ x ∈ l, SmT x) {v : Value} {S M N : Nat} {f : List UInt8 → Bool} {D : DataW Unit} {w : World} (hh : tmT.Has w v l) (hS : w.cell? ⟨S, 0, none⟩ = some (.map (some M))) (hm : LMap w M N f D) : Calls Tryz.prog 153 #[v, .func (.func 121) #[] #[.pointer (some ⟨S, 0, none⟩)]] w fun e w' => ∃ r : Int, e = .returned (.int .i64 r) ∧ decide (0 ≤ r) = l.any (lostP f) ∧ Kp [] w w' := by
  obtain ⟨va, vc, rfl, hrow⟩ := hh.form
  have HROW := Lib.hid hrow
  have HSM := Lib.hid hs
  have HCS := Lib.hid fun W (h : Kp [] w W) => (show W.cell? ⟨S, 0, none⟩ = some (.map (some M)) by
    have hl : S < w.heap.size := World.block_lt_of_cell? _ _ hS
    simp only [World.cell?, h.block S hl (by simp)] at hS ⊢
    exact hS)
  have HM := Lib.hid fun W (h : Kp [] w W) => hm.kp0 h
  clear hrow hs hh hS hm
  go_enter Tryz.func153, Tryz.ntmps153
  go_wp2
  go_loopg [5, 8] l.length (fun g s5 s8 wx => ∃ i : Nat, s8 = .int .i64 (i : Int) ∧ (l.take i).any (lostP f) = false ∧ i + g = l.length ∧ Kp [] w wx)
  case atStart => exact ⟨0, rfl, rfl, by omega, Kp.refl _ _⟩
  case round =>
    obtain ⟨i, rfl, hno, hig, hkp⟩ := hrel
    have HK := Lib.hid hkp
    have HNO := Lib.hid hno
    by_cases hi : i < l.length
    · obtain ⟨g, rfl⟩ : ∃ g, gk = g + 1 := ⟨gk - 1, by omega⟩
      obtain ⟨b, o, rfl, hbl, hr⟩ := HROW.out (by rintro rfl; simp at hi)
      obtain ⟨x, hx⟩ : ∃ x, l[i]? = some x := ⟨_, List.getElem?_eq_getElem hi⟩
      have hiz : (i : Int) < (l.length : Int) := by omega
      obtain ⟨c0, c1, c2, c3⟩ := tmRow (hr.keep (hkp.block b hbl (by simp))) hx
      have hwi : IntKind.i64.wrap ((i : Int) + 1) = ((i + 1 : Nat) : Int) := by rw [IntKind.wrap_i64]; omega
      have HI := Lib.hid hig
      have HX := Lib.hid hx
      have HP := Lib.hid (pred121 (HSM.out x (List.mem_of_getElem? hx)) (HCS.out _ hkp) (HM.out _ hkp))
      have HT := Lib.hid (show (l.take (i + 1)).any (lostP f) = lostP f x by rw [List.take_add_one, hx, List.any_append, hno]; simp)
      have HA := Lib.hid (show lostP f x = true → l.any (lostP f) = true from fun h => List.any_eq_true.2 ⟨x, List.mem_of_getElem? hx, h⟩)
      obtain ⟨p, hp⟩ : ∃ p, lostP f x = p := ⟨_, rfl⟩
      rw [hp] at HP HT HA
      clear hkp hr hx hig hbl hno hp
      cases p with
      | true =>
        go_wp2_with (go_at_call 121; refine Calls.mono (by with_reducible exact HP.out) ?_; rintro e w1 ⟨rfl, hk1⟩; have HK1 := Lib.hid (HK.out.trans hk1); clear hk1)
        go_ret
        exact ⟨_, rfl, by rw [HA.out trivial]; simp, HK1.out⟩
      | false =>
        go_wp2_with (go_at_call 121; refine Calls.mono (by with_reducible exact HP.out) ?_; rintro e w1 ⟨rfl, hk1⟩; have HK1 := Lib.hid (HK.out.trans hk1); clear hk1)
        go_roundg g
        case measure => omega
        case rel => exact ⟨i + 1, rfl, HT.out, by have := HI.out; omega, HK1.out⟩
    · have hiz : ¬ ((i : Int) < (l.length : Int)) := by omega
      have hie : l.take i = l := List.take_of_length_le (by omega)
      rw [hie] at hno HNO
      clear hkp hig hi hie hno
      go_wp2
      go_ret
      exact ⟨_, rfl, by rw [HNO.out]; decide, HK.out⟩
set_option maxRecDepth 100000 in
set_option maxHeartbeats 1000000 in
theorem leads_any {l : List Tm} (hl : l.length ≤ 1000000) (hs : ∀ x ∈ l, SmT x) {v : Value} {M N : Nat} {f : List UInt8 → Bool} {D : DataW Unit} {w : World} (hh : tmT.Has w v l) (hm : LMap w M N f D) : Calls Tryz.prog 90 #[v, .map (some M)] w fun e w' => e = .returned (.bool (l.any (lostP f))) ∧ Kp [] w w' := by
  obtain ⟨S, hS⟩ : ∃ S, w.heap.size = S := ⟨_, rfl⟩
  obtain ⟨w1, hw1⟩ : ∃ w1, w.alloc (.cells #[.map (some M)] 129) = w1 := ⟨_, rfl⟩
  have hk : Kp [] w w1 := by rw [← hw1]; exact (Kp.refl [] w).alloc _
  have hc : w1.cell? ⟨S, 0, none⟩ = some (.map (some M)) := by
    have := heap_alloc_last w (.cells #[.map (some M)] 129)
    rw [hw1, hS] at this
    rw [cell_of_row _ _ _ _ _ _ this]
    rfl
  have HI := Lib.hid (idx153 hl hs (hh.kp0 hk) hc (hm.kp0 hk))
  have HK := Lib.hid hk
  have H120 := Lib.hid (show Calls Tryz.prog 120 #[v, .func (.func 121) #[] #[.pointer (some ⟨S, 0, none⟩)]] w1 fun e w' => e = .returned (.bool (l.any (lostP f))) ∧ Kp [] w1 w' by
    go_enter Tryz.func120, Tryz.ntmps120
    go_wp2_with (go_at_call 153; refine Calls.mono (by with_reducible exact HI.out) ?_; rintro e w2 ⟨r, rfl, hd, hk2⟩; have HD := Lib.hid hd; have HK2 := Lib.hid hk2; clear hd hk2)
    go_ret
    exact ⟨by rw [← HD.out]; rfl, HK2.out⟩)
  clear hk hc hh hm
  go_enter Tryz.func90, Tryz.ntmps90
  go_wp2_with (go_at_call 120; refine Calls.mono (by with_reducible exact H120.out) ?_; rintro e w2 ⟨rfl, hk2⟩; have HK2 := Lib.hid (HK.out.trans hk2); clear hk2)
  go_ret
  exact ⟨rfl, HK2.out⟩
end Go.Proofs.YtkkibibecgcbmaaGreatDoor
