/- Link, where it is known which rules are left out. -/
import Derived.Test.YtkkibibecgcbmaaGreatDoorKHe
namespace Go.Proofs.YtkkibibecgcbmaaGreatDoor
open Go.RowKit

/-- A rule in a block of its own. -/
def RAt (w : World) (b : Nat) (x : RV) : Prop := w.heap[b]? = some (.cells (rvC x) 63 (0, 0))
theorem RAt.kp {w w' : World} {b : Nat} {x : RV} (h : RAt w b x) (hk : Kp [] w w') : RAt w' b x := (hk.block b (block_lt h) (by simp)).trans h
theorem RAt.cells {w : World} {b : Nat} {x : RV} (h : RAt w b x) : w.cell? ⟨b, 0, none⟩ = some (.string (bs x.file)) ∧ w.cell? ⟨b, 1, none⟩ = some (.int .i64 x.line) ∧ w.cell? ⟨b, 2, none⟩ = some (.slice x.a x.n x.c) :=
  ⟨by rw [cell_of_row _ _ _ _ _ _ h]; rfl, by rw [cell_of_row _ _ _ _ _ _ h]; rfl, by rw [cell_of_row _ _ _ _ _ _ h]; rfl⟩
theorem RAt.frz {w : World} {b o : Nat} {x : RV} (h : RAt w b x) : w.frozen? ⟨b, o, none⟩ = false := by
  unfold RAt at h
  simp [World.frozen?, h]
theorem RAt.put2 {w : World} {b : Nat} {x : RV} (h : RAt w b x) (a : Option Addr) (n c : Nat) : RAt (w.setCell ⟨b, 2, none⟩ (.slice a n c)) b { x with a := a, n := n, c := c } := by
  unfold RAt at h ⊢
  simp [World.setCell, Array.getElem?_modify, h, rvC]
theorem own_neG {α β : Type} {r : RT α} {r' : RT β} (hne : r.ty ≠ r'.ty) {W : World} {B B' : Nat} {v u : Value} {L : List α} {m : List β} (h : r.Own W B v L) (h' : r'.Own W B' u m) : ∀ b, v.ownBlock = some b → u.ownBlock ≠ some b := fun b hb hu => by
  rcases h.2 with ⟨hv, _⟩ | ⟨g, cap, cur, hv, _, hh, _⟩
  · rw [hv] at hb
    cases hb
  · rcases h'.2 with ⟨hv', _⟩ | ⟨g', cap', cur', hv', _, hh', _⟩
    · rw [hv'] at hu
      cases hu
    · rw [hv] at hb
      rw [hv'] at hu
      have e1 : g = b := by simpa [Value.ownBlock] using hb
      have e2 : g' = b := by simpa [Value.ownBlock] using hu
      subst e1
      subst e2
      rw [hh] at hh'
      exact hne (Obj.cells.inj (Option.some.inj hh')).2.1
theorem grownG {α β : Type} {r : RT α} {r' : RT β} (hne : r.ty ≠ r'.ty) {W W' : World} {B B' : Nat} {v u : Value} {L : List α} {m : List β} (hv : r.Own W B v L) (h : r'.Own W B' u m) (g : W.grownBy W' v.ownBlock) : r'.Own W' B' u m :=
  h.keep fun b hb hu => g.block b hb fun e => own_neG hne hv h b e.symm hu
set_option maxRecDepth 100000 in
set_option maxHeartbeats 8000000 in
theorem link_any {w : World} {rv : Value} {L : List RV} (hl : L.length ≤ 1000) (hr : rvT.Has w rv L) (hi : ∀ x ∈ L, InH w x ∧ x.l ≠ [])
    (hlo : Calls Tryz.prog 55 #[rv] w fun e w' => ∃ v, e = .returned v ∧ blT.Own w' w.heap.size v (outL L) ∧ Kp [] w w') :
    Calls Tryz.prog 29 #[rv] w fun e w' => ∃ v1 v2 M, e = .returned (.tuple #[v1, v2]) ∧ rvT.Own w' w.heap.size v1 M ∧ (∀ x ∈ M, Ins w' w.heap.size x) ∧ M.map RV.pl = (linkL L).1.map RV.pl ∧ flT.Own w' w.heap.size v2 ((linkL L).2.map RV.fl) ∧ Kp [] w w' := by
  obtain ⟨ra, rc, rfl, hrow⟩ := hr.form
  have HROW := Lib.hid hrow
  have HIN := Lib.hid hi
  have HLO := Lib.hid hlo
  clear hrow hr hi hlo
  have hol := outL_len L
  have HLK := Lib.hid (linkL_out L)
  obtain ⟨O, hO⟩ : ∃ O, outL L = O := ⟨_, rfl⟩
  rw [hO] at HLO HLK hol
  clear hO
  go_enter Tryz.func29, Tryz.ntmps29
  go_wp2_with (go_at_call 55; refine Calls.mono (by with_reducible exact HLO.out) ?_; rintro e w1 ⟨vo, rfl, hoo, hk1⟩; obtain ⟨ao, co, rfl⟩ := hoo.form; rw [hol]; have HOO := Lib.hid hoo; have HK1 := Lib.hid hk1; clear hoo hk1)
  go_loopg [4, 5, 6, 7, 8, 12] L.length (fun g s4 s5 s6 s7 s8 s12 wx => ∃ (i : Nat) (M : List RV), s12 = .int .i64 (i : Int) ∧ i + g = L.length ∧ rvT.Own wx w1.heap.size s4 M ∧ (∀ x ∈ M, Ins wx w1.heap.size x) ∧ M.map RV.pl = (keepsL (L.take i) (O.take i)).map RV.pl ∧ flT.Own wx w1.heap.size s5 ((dropsL (L.take i) (O.take i)).map RV.fl) ∧ M.length ≤ i ∧ Kp [] w1 wx)
  case atStart => exact ⟨0, [], rfl, by omega, RT.Own.nil _ _ _, (fun x hx => by cases hx), rfl, RT.Own.nil _ _ _, Nat.le_refl _, Kp.refl _ _⟩
  case round =>
    obtain ⟨i, M, rfl, hig, ho4, hin, hpl, ho5, hml, hk2⟩ := hrel
    have HK2 := Lib.hid (HK1.out.trans hk2)
    have HO4 := Lib.hid ho4
    have HI4 := Lib.hid hin
    have HO5 := Lib.hid ho5
    have HPL := Lib.hid hpl
    have HIG := Lib.hid hig
    have HML := Lib.hid hml
    by_cases hlt : i < L.length
    · obtain ⟨g, rfl⟩ : ∃ g, gk = g + 1 := ⟨gk - 1, by omega⟩
      obtain ⟨b, o, rfl, hbl, hrw⟩ := HROW.out (by rintro rfl; simp at hlt)
      obtain ⟨x, hx⟩ : ∃ x, L[i]? = some x := ⟨_, List.getElem?_eq_getElem hlt⟩
      obtain ⟨q, hq⟩ : ∃ q, O[i]? = some q := ⟨_, List.getElem?_eq_getElem (by omega)⟩
      have hiz : (i : Int) < (L.length : Int) := by omega
      have hwi : IntKind.i64.wrap ((i : Int) + 1) = ((i + 1 : Nat) : Int) := by rw [IntKind.wrap_i64]; omega
      rcases HOO.out.form2 with ⟨_, h2⟩ | ⟨gb, cap, hv, _, hglt, _, _, hor⟩
      · subst h2
        simp at hol
        omega
      rw [hol] at hv
      cases hv
      have d0 := blRow (hor.keep (hk2.block gb hglt (by simp))) hq
      simp only [Nat.zero_add] at d0
      obtain ⟨c0, c1, c2⟩ := rvRow (hrw.keep (HK2.out.block b hbl (by simp))) hx
      have hinx := HIN.out x (List.mem_of_getElem? hx)
      have HKA := Lib.hid (keeps_at hx hq)
      have HDA := Lib.hid (drops_at hx hq)
      obtain ⟨N0, hN0⟩ : ∃ N, wr.heap.size = N := ⟨_, rfl⟩
      obtain ⟨w6, hw6⟩ : ∃ W, wr.alloc (.cells #[.string (bs x.file), .int .i64 x.line, .slice x.a x.n x.c] 63) = W := ⟨_, rfl⟩
      have hra : RAt w6 N0 x := by rw [← hw6, ← hN0]; exact heap_alloc_last _ _
      have hk6 : Kp [] wr w6 := by rw [← hw6]; exact (Kp.refl [] _).alloc _
      have HK6 := Lib.hid (HK2.out.trans hk6)
      have H46 := Lib.hid (HO4.out.kp0 hk6)
      have H56 := Lib.hid (HO5.out.kp0 hk6)
      have HI6 := Lib.hid fun y hy => (HI4.out y hy).kp0 hk6
      have HKW := Lib.hid (hk2.trans hk6)
      have HN4 := Lib.hid (show ∀ b, u4.ownBlock = some b → b ≠ N0 from fun b hb => by have := (HO4.out.ge b hb).2; omega)
      have HN5 := Lib.hid (show ∀ b, u5.ownBlock = some b → b ≠ N0 from fun b hb => by have := (HO5.out.ge b hb).2; omega)
      have HNI := Lib.hid (show ∀ y ∈ M, ∀ b, (Value.slice y.a y.n y.c).ownBlock = some b → b ≠ N0 from fun y hy b hb => by have := (RT.Own.ge (HI4.out y hy) b hb).2; omega)
      have HNW1 := Lib.hid (show w1.heap.size ≤ N0 by have := hk2.size; omega)
      obtain ⟨e0, e1, e2⟩ := hra.cells
      have HRA := Lib.hid hra
      have HX := Lib.hid hinx
      have HCL := Lib.hid (clone_any (hinx.1.kp0 HK6.out).1 hinx.2 hinx.1.2)
      clear hx hq hinx hra hk6 hrw hor hglt hk2 hin hpl hml ho4 ho5 hig
      cases q with
      | true =>
        simp only [if_true] at HKA HDA
        obtain ⟨N1, hN1⟩ : ∃ N, w6.heap.size = N := ⟨_, rfl⟩
        obtain ⟨w7, hw7⟩ : ∃ W, w6.alloc (.cells #[.string (bs x.file), .int .i64 x.line, .int .i64 107] 87) = W := ⟨_, rfl⟩
        have H7 := Lib.hid (fl_push (x := x.fl) H56.out hN1 hw7)
        have HK7 := Lib.hid (HK6.out.trans H7.out.1)
        have HXS := Lib.hid (show ((dropsL (L.take i) (O.take i)).map RV.fl).length ≤ 1000000 by
          unfold dropsL
          rw [List.length_map, List.length_map]
          have h1 := List.length_filter_le (fun p : RV × Bool => p.2) ((L.take i).zip (O.take i))
          rw [List.length_zip, List.length_take] at h1
          omega)
        go_wp2_with (at_builtin; refine wpList_append_r (r := flT) rfl (.tmp 22) (.tmp 28) rfl w1.heap.size u5 ((dropsL (L.take i) (O.take i)).map RV.fl) rfl H7.out.2.1 N1 1 x.fl rfl H7.out.2.2 HXS.out (HKW.out.trans H7.out.1).size ?_; intro v8 w8 hown8 hgr8; have HO8 := Lib.hid hown8; have HK8 := Lib.hid (kp_grownS (HKW.out.trans H7.out.1) hgr8 fun b hb => (H7.out.2.1.ge b hb).1); have H48 := Lib.hid (grownG (by decide) H7.out.2.1 (H46.out.kp0 H7.out.1) hgr8); have HI8 := Lib.hid (show ∀ y ∈ M, Ins w8 w1.heap.size y from fun y hy => grownG (r' := tmT) (by decide) H7.out.2.1 ((HI6.out y hy).kp0 H7.out.1) hgr8); clear hown8 hgr8)
        go_roundg g
        case measure => omega
        case rel => exact ⟨i + 1, M, rfl, by have := HIG.out; omega, H48.out, HI8.out, by rw [HKA.out, List.append_nil]; exact HPL.out, by rw [HDA.out, List.map_append]; exact HO8.out, by have := HML.out; omega, HK8.out⟩
      | false =>
        simp only [Bool.false_eq_true, if_false] at HKA HDA
        have HXS := Lib.hid (show M.length ≤ 1000000 by have := HML.out; omega)
        have HN6 := Lib.hid (show N0 < w6.heap.size from block_lt HRA.out)
        go_wp2_with (first
          | (go_at_call 56; refine Calls.mono (by with_reducible exact HCL.out) ?_; rintro e w7 ⟨vt, rfl, hot, hk7⟩; obtain ⟨at7, ct7, rfl⟩ := hot.form; have HOT := Lib.hid hot; have HK7 := Lib.hid hk7; have hra7 := HRA.out.kp hk7; have hfz := fun o => hra7.frz (o := o); clear e0 e1 e2; obtain ⟨e0, e1, e2⟩ := hra7.cells; obtain ⟨w8, hw8⟩ : ∃ W, w7.setCell ⟨N0, 2, none⟩ (.slice at7 x.l.length ct7) = W := ⟨_, rfl⟩; have hra8 : RAt w8 N0 ⟨x.file, x.line, at7, x.l.length, ct7, x.l⟩ := (by rw [← hw8]; exact hra7.put2 _ _ _); obtain ⟨g0, g1, g2⟩ := hra8.cells; have HK8 := Lib.hid (show Kp [] w1 w8 by rw [← hw8]; exact (HKW.out.trans hk7).setCell (.inr HNW1.out) _); have H48 := Lib.hid (show rvT.Own w8 w1.heap.size u4 M by rw [← hw8]; exact (H46.out.kp0 hk7).set (p := ⟨N0, 2, none⟩) HN4.out _); have H58 := Lib.hid (show flT.Own w8 w1.heap.size u5 ((dropsL (L.take i) (O.take i)).map RV.fl) by rw [← hw8]; exact (H56.out.kp0 hk7).set (p := ⟨N0, 2, none⟩) HN5.out _); have HI8 := Lib.hid (show ∀ y ∈ M, Ins w8 w1.heap.size y by intro y hy; rw [← hw8]; exact RT.Own.set ((HI6.out y hy).kp0 hk7) (p := ⟨N0, 2, none⟩) (HNI.out y hy) _); have HT8 := Lib.hid (show tmT.Own w8 w1.heap.size (.slice at7 x.l.length ct7) x.l by rw [← hw8]; exact (hot.down HKW.out.size).set (p := ⟨N0, 2, none⟩) (fun b hb => by have := (hot.ge b hb).1; have := HN6.out; show b ≠ N0; omega) _); obtain ⟨N9, hN9⟩ : ∃ N, w8.heap.size = N := ⟨_, rfl⟩; obtain ⟨w9, hw9⟩ : ∃ W, w8.alloc (.cells #[.string (bs x.file), .int .i64 x.line, .slice at7 x.l.length ct7] 63) = W := ⟨_, rfl⟩; have H9 := Lib.hid (rv_push (x := ⟨x.file, x.line, at7, x.l.length, ct7, x.l⟩) H48.out hN9 hw9); have HK9 := Lib.hid (HK8.out.trans H9.out.1); clear hot hk7 hra7 hra8)
          | (at_builtin; refine wpList_append_r (r := rvT) rfl (.tmp 34) (.tmp 36) rfl w1.heap.size u4 M rfl H9.out.2.1 N9 1 ⟨x.file, x.line, at7, x.l.length, ct7, x.l⟩ rfl H9.out.2.2 HXS.out HK9.out.size ?_; intro v8 wA hown8 hgr8; have HO8 := Lib.hid hown8; have HKA8 := Lib.hid (kp_grownS HK9.out hgr8 fun b hb => (H9.out.2.1.ge b hb).1); have H5A := Lib.hid (grownG (r' := flT) (by decide) H9.out.2.1 (H58.out.kp0 H9.out.1) hgr8); have HIA := Lib.hid (show ∀ y ∈ M ++ [(⟨x.file, x.line, at7, x.l.length, ct7, x.l⟩ : RV)], Ins wA w1.heap.size y from fun y hy => by
              rcases List.mem_append.1 hy with hy | hy
              · exact ((HI8.out y hy).kp0 H9.out.1).grown H9.out.2.1 hgr8
              · rw [List.mem_singleton] at hy
                subst hy
                exact (Ins.kp0 (x := ⟨x.file, x.line, at7, x.l.length, ct7, x.l⟩) HT8.out H9.out.1).grown H9.out.2.1 hgr8); clear hown8 hgr8))
        go_roundg g
        case measure => omega
        case rel => exact ⟨i + 1, _, rfl, by have := HIG.out; omega, HO8.out, HIA.out, by rw [HKA.out, List.map_append, List.map_append, HPL.out]; rfl, by rw [HDA.out, List.append_nil]; exact H5A.out, by rw [List.length_append, List.length_singleton]; have := HML.out; omega, HKA8.out⟩
    · have hiz : ¬ (i : Int) < (L.length : Int) := by omega
      have h1 : L.take i = L := List.take_of_length_le (by omega)
      have h2 : O.take i = O := List.take_of_length_le (by omega)
      rw [h1, h2] at HPL HO5
      clear hk2 hin hpl hml ho4 ho5 hig h1 h2
      go_wp2
      go_ret2
      exact ⟨_, _, rfl, M, HO4.out.down HK1.out.size, (fun x hx => RT.Own.down (HI4.out x hx) HK1.out.size), by rw [HLK.out]; exact HPL.out, by rw [HLK.out]; exact HO5.out.down HK1.out.size, HK2.out⟩
end Go.Proofs.YtkkibibecgcbmaaGreatDoor
