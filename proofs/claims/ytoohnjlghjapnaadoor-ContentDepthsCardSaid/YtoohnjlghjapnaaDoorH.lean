/- The parser's methods for arrays and groups. -/
import Derived.Test.YtoohnjlghjapnaaDoorG
namespace Go.Proofs.YtoohnjlghjapnaaDoor
open Go.RowKit

/-- What the method that reads the inner contents leaves. -/
def InnPost (pb : Nat) (r : List Con × St) (w : World) (e : Ending) (w' : World) : Prop :=
  ∃ v, e = .returned v ∧ CHas (fun b => w.heap.size ≤ b) w' v r.1 ∧ Par pb r.2 w' ∧ Kp [pb] w w'
/-- Inner contents are read, below a length. -/
def InnOK (n : Nat) (rd : St → Con × St) : Prop := ∀ (pb : Nat) (x : St) (w : World), Par pb x w → Env w → 6 ≤ pb → x.1.length ≤ 1000000 → x.1.length < n → Calls Tryd.prog 45 #[.pointer (some ⟨pb, 0, none⟩)] w (InnPost pb (innP rd x) w)
theorem BoxV.put3 {A : Nat} {v0 v1 v2 v3 v4 v5 v6 : Value} {w : World} (h : BoxV A v0 v1 v2 v3 v4 v5 v6 w) (u : Value) : BoxV A v0 v1 v2 u v4 v5 v6 (w.setCell ⟨A, 3, none⟩ u) := by
  unfold BoxV at h ⊢; simp [World.setCell, Array.getElem?_modify, h]
theorem BoxV.put4 {A : Nat} {v0 v1 v2 v3 v4 v5 v6 : Value} {w : World} (h : BoxV A v0 v1 v2 v3 v4 v5 v6 w) (u : Value) : BoxV A v0 v1 v2 v3 u v5 v6 (w.setCell ⟨A, 4, none⟩ u) := by
  unfold BoxV at h ⊢; simp [World.setCell, Array.getElem?_modify, h]
theorem BoxV.put5 {A : Nat} {v0 v1 v2 v3 v4 v5 v6 : Value} {w : World} (h : BoxV A v0 v1 v2 v3 v4 v5 v6 w) (u : Value) : BoxV A v0 v1 v2 v3 v4 u v6 (w.setCell ⟨A, 5, none⟩ u) := by
  unfold BoxV at h ⊢; simp [World.setCell, Array.getElem?_modify, h]
theorem has_up {pb B : Nat} {w0 w1 w2 : World} {v : Value} {l : List Con} {S : List Nat} (h : CHas (fun b => w1.heap.size ≤ b) w2 v l) (hk : Kp S w2 w0) (hS : ∀ x ∈ S, x < w1.heap.size) (hB : B ≤ w1.heap.size) (_hp : pb ≤ pb) : CHas (fun b => B ≤ b) w0 v l :=
  h.keep hk.size fun k hkk hq => ⟨Nat.le_trans hB hq, hk.block k hkk fun hm => by have := hS k hm; omega⟩

set_option maxHeartbeats 4000000 in
set_option maxRecDepth 100000 in
theorem raid_any {n : Nat} {rd : St → Con × St} (hinn : InnOK n rd) {pb : Nat} {x : St} {w : World} (h : Par pb x w) (hE : Env w) (hpb : 6 ≤ pb) (hx : x.1.length ≤ 1000000) (hxn : x.1.length < n) : Calls Tryd.prog 43 #[.pointer (some ⟨pb, 0, none⟩)] w (ContPost pb (raidP rd x) w) := by
  have hpl := block_lt h
  obtain ⟨w1, hw1⟩ : ∃ w1, w.alloc (.cells #[.int .i64 0, .string ⟨#[]⟩, .string ⟨#[]⟩, .int .i64 0, .int .i64 0, .int .i64 0, .slice none 0 0] 24) = w1 := ⟨_, rfl⟩
  have hk1 : Kp [] w w1 := by rw [← hw1]; exact (Kp.refl [] w).alloc _
  have hz1 : Zero7 w.heap.size w1 := by rw [← hw1]; exact al_new _ _
  have hs1 : w1.heap.size = w.heap.size + 1 := by rw [← hw1]; exact al_size _ _
  obtain ⟨A, hA⟩ : ∃ A, w.heap.size = A := ⟨_, rfl⟩
  rw [hA] at hz1 hs1 hpl
  have hl1 := Nat.le_trans (id_len x) hx
  have hl2 := Nat.le_trans (slot_len (idP x).2) hl1
  have hl3 := Nat.le_trans (take_len 47 (slotP (idP x).2).2.2) hl2
  have hl4 := Nat.le_trans (least_len x) hx
  have hn4 := Nat.lt_of_le_of_lt (least_len x) hxn
  have hil : (idP x).1.length ≤ 1000000 := Nat.le_trans (wrd_le _) (Nat.le_trans (take_len 58 x) hx)
  have HI := Lib.hid (id_any (h.kp hk1 (by simp)) hx)
  have K1 := Lib.hid hk1
  have Z1 := Lib.hid hz1
  have S1 := Lib.hid hs1
  have HL1 := Lib.hid hl1
  have HL3 := Lib.hid hl3
  have HL4 := Lib.hid hl4
  have HN4 := Lib.hid hn4
  have HIL := Lib.hid hil
  have HE := Lib.hid (hE.kp hk1 (by simp))
  have HINN := Lib.hid hinn
  have HR : Hid (raidP rd x = (.mk 2 (idP x).1 [] (slotP (idP x).2).1 (slotP (idP x).2).2.1 (leastP x).1 (innP rd (leastP x).2).1, (innP rd (leastP x).2).2)) := Lib.hid rfl
  have HLE : Hid (leastP x = numP (takeP 47 (slotP (idP x).2).2.2)) := Lib.hid rfl
  clear h hk1 hz1 hs1 hx hl1 hl2 hl3 hl4 hn4 hil hE hinn hxn
  generalize raidP rd x = rp at *
  generalize leastP x = le at *
  generalize idP x = y at *
  generalize hsl : slotP y.2 = sl at *
  have HSL := Lib.hid hsl
  clear hsl
  generalize htk : takeP 47 sl.2.2 = tk at *
  have HTK := Lib.hid htk
  clear htk
  obtain ⟨il, iy, hinnp⟩ : ∃ il iy, innP rd le.2 = (il, iy) := ⟨_, _, rfl⟩
  have HIP := Lib.hid hinnp
  rw [hinnp] at HR
  clear hinnp
  go_enter Tryd.func43, Tryd.ntmps43
  go_wp2_with fail
  subst hw1
  refine HI.out.mono ?_
  rintro r w2 ⟨rfl, hp2, hk2, hs2⟩
  obtain ⟨w3, hw3⟩ : ∃ w3, w2.alloc (.cells #[.int .i64 2, .string (bs y.1), .string ⟨#[]⟩, .int .i64 0, .int .i64 0, .int .i64 0, .slice none 0 0] 24) = w3 := ⟨_, rfl⟩
  have hk3 : Kp [] w2 w3 := by rw [← hw3]; exact (Kp.refl [] w2).alloc _
  have hb3 : BoxV w2.heap.size (.int .i64 2) (.string (bs y.1)) (.string ⟨#[]⟩) (.int .i64 0) (.int .i64 0) (.int .i64 0) (.slice none 0 0) w3 := by rw [← hw3]; exact al_new _ _
  have hA2 : w2.heap.size = A + 1 := by rw [hs2, S1.out]
  rw [hA2] at hb3
  have Z3 := Lib.hid ((Z1.out.kp hk2 (by simp; omega)).kp hk3 (by simp))
  have B3 := Lib.hid hb3
  have K3 := Lib.hid ((K1.out.mono (by simp)).trans (hk2.trans (hk3.mono (by simp))))
  have E3 := Lib.hid ((HE.out.kp hk2 (by simp; exact hpb)).kp hk3 (by simp))
  have HT := Lib.hid (slot_any (hp2.kp hk3 (by simp)) E3.out hpb HL1.out)
  clear hp2 hk2 hs2 hk3 hb3
  subst hw3
  go_wp2_with fail
  refine HT.out.mono ?_
  rw [HSL.out]
  rintro r w4 ⟨rfl, hp4, hk4⟩
  have B4 := B3.out.kp hk4 (by simp; omega)
  obtain ⟨c0, c1, c2, c3, c4, c5, c6⟩ := B4.cells
  have f3 := B4.frozen 3
  have f4 := B4.frozen 4
  have hb5 := (B4.put3 (.int .i64 sl.1)).put4 (.int .i64 sl.2.1)
  have hk5 : Kp [A + 1] w4 ((w4.setCell ⟨A + 1, 3, none⟩ (.int .i64 sl.1)).setCell ⟨A + 1, 4, none⟩ (.int .i64 sl.2.1)) := ((Kp.refl _ w4).setCell (.inl (by simp)) _).setCell (.inl (by simp)) _
  have Z5 := Lib.hid (BoxV.kp (Z3.out.kp hk4 (by simp; omega)) hk5 (by simp))
  have B5 := Lib.hid hb5
  have K5 := Lib.hid ((K3.out.trans hk4).up hk5 (by simp; omega))
  have E5 := Lib.hid ((E3.out.kp hk4 (by simp; exact hpb)).kp hk5 (by simp; omega))
  have HT5 := Lib.hid (take_any 47 (hp4.kp hk5 (by simp; omega)))
  rw [HTK.out] at HT5
  have B4 := Lib.hid B4
  clear hp4 hk4 hb5 hk5
  go_wp2_with fail
  refine HT5.out.mono ?_
  rintro r w6 ⟨rfl, hp6, hk6, -⟩
  have Z6 := Lib.hid (Z5.out.kp hk6 (by simp; omega))
  have B6 := Lib.hid (B5.out.kp hk6 (by simp; omega))
  have K6 := Lib.hid (K5.out.trans hk6)
  have E6 := Lib.hid (E5.out.kp hk6 (by simp; exact hpb))
  have HW6 := Lib.hid (number_any hp6 E6.out hpb HL3.out)
  rw [← HLE.out] at HW6
  clear hp6 hk6 c0 c1 c2 c3 c4 c5 c6 f3 f4
  go_wp2_with fail
  refine HW6.out.mono ?_
  rintro r w7 ⟨rfl, hp7, hk7⟩
  have B7 := B6.out.kp hk7 (by simp; omega)
  obtain ⟨c0, c1, c2, c3, c4, c5, c6⟩ := B7.cells
  have f5 := B7.frozen 5
  have hb8 := B7.put5 (.int .i64 le.1)
  have hk8 : Kp [A + 1] w7 (w7.setCell ⟨A + 1, 5, none⟩ (.int .i64 le.1)) := (Kp.refl _ w7).setCell (.inl (by simp)) _
  have Z8 := Lib.hid (BoxV.kp (Z6.out.kp hk7 (by simp; omega)) hk8 (by simp))
  have B8 := Lib.hid hb8
  have K8 := Lib.hid ((K6.out.trans hk7).up hk8 (by simp; omega))
  have E8 := Lib.hid ((E6.out.kp hk7 (by simp; exact hpb)).kp hk8 (by simp; omega))
  have HT8 := Lib.hid (HINN.out pb le.2 _ (hp7.kp hk8 (by simp; omega)) E8.out hpb HL4.out HN4.out)
  rw [HIP.out] at HT8
  have hsz : A + 1 < (w7.setCell ⟨A + 1, 5, none⟩ (.int .i64 le.1)).heap.size := block_lt B8.out
  have HSZ := Lib.hid hsz
  have B7 := Lib.hid B7
  clear hp7 hk7 hb8 hk8 hsz
  go_wp2_with fail
  refine HT8.out.mono ?_
  rintro r w9 ⟨v, rfl, hv9, hp9, hk9⟩
  have B9 := B8.out.kp hk9 (by simp; omega)
  have hz9 := Z8.out.kp hk9 (by simp; omega)
  have K9 := Lib.hid (K8.out.trans hk9)
  have P9 := Lib.hid hp9
  have V9 := Lib.hid hv9
  obtain ⟨va, vn, rfl, -⟩ := hv9.form
  clear c0 c1 c2 c3 c4 c5 c6 f5
  obtain ⟨c0, c1, c2, c3, c4, c5, c6⟩ := B9.cells
  have f6 := B9.frozen 6
  obtain ⟨d0, d1, d2, d3, d4, d5, d6⟩ := BoxV.cells hz9
  have g0 := BoxV.frozen hz9 0
  have g1 := BoxV.frozen hz9 1
  have g2 := BoxV.frozen hz9 2
  have g3 := BoxV.frozen hz9 3
  have g4 := BoxV.frozen hz9 4
  have g5 := BoxV.frozen hz9 5
  have g6 := BoxV.frozen hz9 6
  have Z9 := Lib.hid hz9
  clear hz9 hp9 hk9 hv9 B9
  go_wp2_with fail
  have hk10 : Kp [A, A + 1] w9 (put7 (w9.setCell ⟨A + 1, 6, none⟩ (.slice va il.length vn)) A (.int .i64 2) (.string (bs y.1)) (.string ⟨#[]⟩) (.int .i64 sl.1) (.int .i64 sl.2.1) (.int .i64 le.1) (.slice va il.length vn)) :=
    put7_kp ((Kp.refl _ w9).setCell (.inl (by simp)) _) (.inl (by simp)) _ _ _ _ _ _ _
  have hz10 := BoxV.kp Z9.out ((Kp.refl [A + 1] w9).setCell (p := ⟨A + 1, 6, none⟩) (.inl (by simp)) (.slice va il.length vn)) (by simp)
  refine bodyPost_ret (res24 Tryd.results43 rfl (put7_box hz10 _ _ _ _ _ _ _)) rfl ?_
  rw [HR.out]
  exact ⟨_, rfl, has_up (pb := 0) V9.out hk10 (by have := HSZ.out; simp only [List.mem_cons, List.not_mem_nil, or_false, forall_eq_or_imp, forall_eq]; omega) (by have := HSZ.out; omega) (Nat.le_refl _), ⟨by show y.1.length ≤ _; have := HIL.out; unfold maxLen; omega, by show ([] : List UInt8).length ≤ _; simp⟩, P9.out.kp hk10 (by simp; omega), K9.out.up hk10 (by simp; omega)⟩
set_option maxHeartbeats 4000000 in
set_option maxRecDepth 100000 in
theorem group_any {n : Nat} {rd : St → Con × St} (hinn : InnOK n rd) {pb : Nat} {x : St} {w : World} (h : Par pb x w) (hE : Env w) (hpb : 6 ≤ pb) (hx : x.1.length ≤ 1000000) (hxn : x.1.length < n) : Calls Tryd.prog 46 #[.pointer (some ⟨pb, 0, none⟩)] w (ContPost pb (groupP rd x) w) := by
  have hpl := block_lt h
  obtain ⟨w1, hw1⟩ : ∃ w1, w.alloc (.cells #[.int .i64 0, .string ⟨#[]⟩, .string ⟨#[]⟩, .int .i64 0, .int .i64 0, .int .i64 0, .slice none 0 0] 24) = w1 := ⟨_, rfl⟩
  have hk1 : Kp [] w w1 := by rw [← hw1]; exact (Kp.refl [] w).alloc _
  have hz1 : Zero7 w.heap.size w1 := by rw [← hw1]; exact al_new _ _
  have hs1 : w1.heap.size = w.heap.size + 1 := by rw [← hw1]; exact al_size _ _
  obtain ⟨A, hA⟩ : ∃ A, w.heap.size = A := ⟨_, rfl⟩
  rw [hA] at hz1 hs1 hpl
  have hl1 := Nat.le_trans (id_len x) hx
  have hl2 := Nat.le_trans (slot_len (idP x).2) hl1
  have hl4 := hl2
  have hn4 := Nat.lt_of_le_of_lt (Nat.le_trans (slot_len (idP x).2) (id_len x)) hxn
  have hil : (idP x).1.length ≤ 1000000 := Nat.le_trans (wrd_le _) (Nat.le_trans (take_len 58 x) hx)
  have HI := Lib.hid (id_any (h.kp hk1 (by simp)) hx)
  have K1 := Lib.hid hk1
  have Z1 := Lib.hid hz1
  have S1 := Lib.hid hs1
  have HL1 := Lib.hid hl1
  have HL4 := Lib.hid hl4
  have HN4 := Lib.hid hn4
  have HIL := Lib.hid hil
  have HE := Lib.hid (hE.kp hk1 (by simp))
  have HINN := Lib.hid hinn
  have HR : Hid (groupP rd x = (.mk 4 (idP x).1 [] (slotP (idP x).2).1 (slotP (idP x).2).2.1 0 (innP rd (slotP (idP x).2).2.2).1, (innP rd (slotP (idP x).2).2.2).2)) := Lib.hid rfl
  clear h hk1 hz1 hs1 hx hl1 hl2 hl4 hn4 hil hE hinn hxn
  generalize groupP rd x = rp at *
  generalize idP x = y at *
  generalize hsl : slotP y.2 = sl at *
  have HSL := Lib.hid hsl
  clear hsl
  obtain ⟨il, iy, hinnp⟩ : ∃ il iy, innP rd sl.2.2 = (il, iy) := ⟨_, _, rfl⟩
  have HIP := Lib.hid hinnp
  rw [hinnp] at HR
  clear hinnp
  go_enter Tryd.func46, Tryd.ntmps46
  go_wp2_with fail
  subst hw1
  refine HI.out.mono ?_
  rintro r w2 ⟨rfl, hp2, hk2, hs2⟩
  obtain ⟨w3, hw3⟩ : ∃ w3, w2.alloc (.cells #[.int .i64 4, .string (bs y.1), .string ⟨#[]⟩, .int .i64 0, .int .i64 0, .int .i64 0, .slice none 0 0] 24) = w3 := ⟨_, rfl⟩
  have hk3 : Kp [] w2 w3 := by rw [← hw3]; exact (Kp.refl [] w2).alloc _
  have hb3 : BoxV w2.heap.size (.int .i64 4) (.string (bs y.1)) (.string ⟨#[]⟩) (.int .i64 0) (.int .i64 0) (.int .i64 0) (.slice none 0 0) w3 := by rw [← hw3]; exact al_new _ _
  have hA2 : w2.heap.size = A + 1 := by rw [hs2, S1.out]
  rw [hA2] at hb3
  have Z3 := Lib.hid ((Z1.out.kp hk2 (by simp; omega)).kp hk3 (by simp))
  have B3 := Lib.hid hb3
  have K3 := Lib.hid ((K1.out.mono (by simp)).trans (hk2.trans (hk3.mono (by simp))))
  have E3 := Lib.hid ((HE.out.kp hk2 (by simp; exact hpb)).kp hk3 (by simp))
  have HT := Lib.hid (slot_any (hp2.kp hk3 (by simp)) E3.out hpb HL1.out)
  clear hp2 hk2 hs2 hk3 hb3
  subst hw3
  go_wp2_with fail
  refine HT.out.mono ?_
  rw [HSL.out]
  rintro r w4 ⟨rfl, hp4, hk4⟩
  have B4 := B3.out.kp hk4 (by simp; omega)
  obtain ⟨c0, c1, c2, c3, c4, c5, c6⟩ := B4.cells
  have f3 := B4.frozen 3
  have f4 := B4.frozen 4
  have hb5 := (B4.put3 (.int .i64 sl.1)).put4 (.int .i64 sl.2.1)
  have hk5 : Kp [A + 1] w4 ((w4.setCell ⟨A + 1, 3, none⟩ (.int .i64 sl.1)).setCell ⟨A + 1, 4, none⟩ (.int .i64 sl.2.1)) := ((Kp.refl _ w4).setCell (.inl (by simp)) _).setCell (.inl (by simp)) _
  have Z5 := Lib.hid (BoxV.kp (Z3.out.kp hk4 (by simp; omega)) hk5 (by simp))
  have B5 := Lib.hid hb5
  have K5 := Lib.hid ((K3.out.trans hk4).up hk5 (by simp; omega))
  have E5 := Lib.hid ((E3.out.kp hk4 (by simp; exact hpb)).kp hk5 (by simp; omega))
  have HT8 := Lib.hid (HINN.out pb sl.2.2 _ (hp4.kp hk5 (by simp; omega)) E5.out hpb HL4.out HN4.out)
  rw [HIP.out] at HT8
  have hsz : A + 1 < ((w4.setCell ⟨A + 1, 3, none⟩ (.int .i64 sl.1)).setCell ⟨A + 1, 4, none⟩ (.int .i64 sl.2.1)).heap.size := block_lt B5.out
  have HSZ := Lib.hid hsz
  have B4 := Lib.hid B4
  clear hp4 hk4 hb5 hk5 hsz
  go_wp2_with fail
  refine HT8.out.mono ?_
  rintro r w9 ⟨v, rfl, hv9, hp9, hk9⟩
  have B9 := B5.out.kp hk9 (by simp; omega)
  have hz9 := Z5.out.kp hk9 (by simp; omega)
  have K9 := Lib.hid (K5.out.trans hk9)
  have P9 := Lib.hid hp9
  have V9 := Lib.hid hv9
  obtain ⟨va, vn, rfl, -⟩ := hv9.form
  clear c0 c1 c2 c3 c4 c5 c6 f3 f4
  obtain ⟨c0, c1, c2, c3, c4, c5, c6⟩ := B9.cells
  have f6 := B9.frozen 6
  obtain ⟨d0, d1, d2, d3, d4, d5, d6⟩ := BoxV.cells hz9
  have g0 := BoxV.frozen hz9 0
  have g1 := BoxV.frozen hz9 1
  have g2 := BoxV.frozen hz9 2
  have g3 := BoxV.frozen hz9 3
  have g4 := BoxV.frozen hz9 4
  have g5 := BoxV.frozen hz9 5
  have g6 := BoxV.frozen hz9 6
  have Z9 := Lib.hid hz9
  clear hz9 hp9 hk9 hv9 B9
  go_wp2_with fail
  have hk10 : Kp [A, A + 1] w9 (put7 (w9.setCell ⟨A + 1, 6, none⟩ (.slice va il.length vn)) A (.int .i64 4) (.string (bs y.1)) (.string ⟨#[]⟩) (.int .i64 sl.1) (.int .i64 sl.2.1) (.int .i64 0) (.slice va il.length vn)) :=
    put7_kp ((Kp.refl _ w9).setCell (.inl (by simp)) _) (.inl (by simp)) _ _ _ _ _ _ _
  have hz10 := BoxV.kp Z9.out ((Kp.refl [A + 1] w9).setCell (p := ⟨A + 1, 6, none⟩) (.inl (by simp)) (.slice va il.length vn)) (by simp)
  refine bodyPost_ret (res24 Tryd.results46 rfl (put7_box hz10 _ _ _ _ _ _ _)) rfl ?_
  rw [HR.out]
  exact ⟨_, rfl, has_up (pb := 0) V9.out hk10 (by have := HSZ.out; simp only [List.mem_cons, List.not_mem_nil, or_false, forall_eq_or_imp, forall_eq]; omega) (by have := HSZ.out; omega) (Nat.le_refl _), ⟨by show y.1.length ≤ _; have := HIL.out; unfold maxLen; omega, by show ([] : List UInt8).length ≤ _; simp⟩, P9.out.kp hk10 (by simp; omega), K9.out.up hk10 (by simp; omega)⟩
end Go.Proofs.YtoohnjlghjapnaaDoor
