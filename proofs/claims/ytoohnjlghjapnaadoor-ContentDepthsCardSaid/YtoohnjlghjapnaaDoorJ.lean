/- The inner contents are read, given that contents are. -/
import Derived.Test.YtoohnjlghjapnaaDoorI
import Derived.Maps.AppendAt
namespace Go.Proofs.YtoohnjlghjapnaaDoor
open Go.RowKit

/-- Contents are read, below a length. -/
def ContOK (n : Nat) (rd : St → Con × St) : Prop := ∀ (pb : Nat) (x : St) (w : World), Par pb x w → Env w → 6 ≤ pb → x.1.length ≤ 1000000 → x.1.length < n → Calls Tryd.prog 30 #[.pointer (some ⟨pb, 0, none⟩)] w (ContPost pb (rd x) w)
def strLen (w : World) (pb : Nat) : Nat := match w.cell? ⟨pb, 0, none⟩ with | some (.string s) => s.size | _ => 0
theorem Par.len {pb : Nat} {x : St} {w : World} (h : Par pb x w) : strLen w pb = x.1.length := by
  unfold strLen
  rw [h.cells.1]
  exact bs_size _
theorem cells_new7 (w : World) (cs : List Value) (t : TypeId) : ∀ j u, cs[j]? = some u → (w.alloc (.cells cs.toArray t)).cell? ((⟨w.heap.size, 0, none⟩ : Addr).add j) = some u := fun j u hj => by
  rw [show (⟨w.heap.size, 0, none⟩ : Addr).add j = ⟨w.heap.size, 0 + j, none⟩ by unfold Addr.add; split <;> simp_all, cell_of_row _ _ _ _ _ _ (al_new w _)]
  simpa using hj
def InnAt (pb B n : Nat) (rd : St → Con × St) (fin : List Con × St) (w0 : World) (s3 : Value) (w : World) : Prop :=
  ∃ (L : List (Con × Value)) (x : St) (f : Nat), LOwn w B s3 L ∧ Par pb x w ∧ Env w ∧ Kp [pb] w0 w ∧ moreP rd f (L.map Prod.fst) x = fin ∧ x.1.length < f ∧ x.1.length < n ∧ x.1.length + L.length ≤ 2000000 ∧ x.1.length ≤ 1000000

theorem more_stop {rd : St → Con × St} {f : Nat} {acc : List Con} {x : St} (h : hasB x 44 = false) : moreP rd f acc x = (acc, x) := by
  cases f with
  | zero => rfl
  | succ f =>
    obtain ⟨r, w⟩ := x
    cases r with
    | nil => rfl
    | cons a r => simp only [hasB, beq_eq_false_iff_ne] at h; simp [moreP, h]
theorem more_go {rd : St → Con × St} {f : Nat} {acc : List Con} {x : St} {r : List UInt8} (h : x.1 = 44 :: r) : moreP rd (f + 1) acc x = moreP rd f (acc ++ [(rd (r, x.2)).1]) (rd (r, x.2)).2 := by
  simp [moreP, h]

set_option maxHeartbeats 4000000 in
set_option maxRecDepth 100000 in
theorem inner_any {n : Nat} {rd : St → Con × St} (hc : ContOK n rd) (hlen : ∀ x, (rd x).2.1.length ≤ x.1.length) : InnOK n rd := by
  intro pb x w h hE hpb hx hxn
  obtain ⟨i0, hi0, hz0, hz1, hz2⟩ := info_parts info24
  have hpl := block_lt h
  obtain ⟨B, hB⟩ : ∃ B, w.heap.size = B := ⟨_, rfl⟩
  rw [hB] at hpl
  have hl1 := take_len 40 x
  have HT := Lib.hid (take_any 40 h)
  have HE := Lib.hid hE
  have HC := Lib.hid hc
  have HLEN := Lib.hid hlen
  have HB := Lib.hid hB
  obtain ⟨y, hy⟩ : ∃ y, takeP 40 x = y := ⟨_, rfl⟩
  have HL1 := Lib.hid (show y.1.length ≤ 1000000 by rw [← hy]; omega)
  have HN1 := Lib.hid (show y.1.length < n by rw [← hy]; omega)
  have HY1 := Lib.hid (show y.1.length ≤ x.1.length by rw [← hy]; exact hl1)
  obtain ⟨fin, hfin⟩ : ∃ fin, moreP rd (x.1.length + 1) [(rd y).1] (rd y).2 = fin := ⟨_, rfl⟩
  have hinn : innP rd x = (fin.1, takeP 41 fin.2) := by rw [← hfin, ← hy]; rfl
  have HINN := Lib.hid hinn
  have HFIN := Lib.hid hfin
  rw [hy] at HT
  have HX := Lib.hid hx
  clear h hE hc hlen hB hl1 hy hfin hinn hx hxn
  go_enter Tryd.func45, Tryd.ntmps45
  go_wp2_with fail
  refine HT.out.mono ?_
  rintro r w1 ⟨rfl, hp1, hk1, hs1⟩
  have E1 := Lib.hid (HE.out.kp hk1 (by simp; exact hpb))
  have HC1 := Lib.hid (HC.out pb y w1 hp1 E1.out hpb HL1.out HN1.out)
  have K1 := Lib.hid hk1
  have S1 := Lib.hid hs1
  clear hp1 hk1 hs1
  go_wp2_with fail
  refine HC1.out.mono ?_
  rintro r w2 ⟨u, rfl, hu, htx, hp2, hk2⟩
  have hub : CHas (fun b => B ≤ b) w2 u (rd y).1.inner := by rw [← HB.out, ← S1.out]; exact hu
  have hLo := LOwn.one (w := w2) (B := B) (c := (rd y).1) (u := u) (by rw [← HB.out]; exact Nat.le_trans K1.out.size hk2.size) htx hub
  obtain ⟨ua, un, rfl, -⟩ := hu.form
  have hal : Kp [] w2 (w2.alloc (.cells (conC (rd y).1 (.slice ua (rd y).1.inner.length un)).toArray 24)) := (Kp.refl [] w2).alloc _
  have hy2 := HLEN.out y
  have hat : InnAt pb B n rd fin w (.slice (some ⟨w2.heap.size, 0, none⟩) 1 1) (w2.alloc (.cells (conC (rd y).1 (.slice ua (rd y).1.inner.length un)).toArray 24)) :=
    ⟨[((rd y).1, .slice ua (rd y).1.inner.length un)], (rd y).2, x.1.length + 1, hLo, hp2.kp hal (by simp), (E1.out.kp hk2 (by simp; exact hpb)).kp hal (by simp), (K1.out.trans hk2).trans (hal.mono (by simp)), HFIN.out, by have := HY1.out; omega, by have := HN1.out; omega, by have := HL1.out; simp; omega, by have := HL1.out; omega⟩
  have HAT := Lib.hid hat
  clear hu hub hLo htx hp2 hk2 hal hy2 hat
  go_wp2
  go_loopw [3] (fun s3 wx => InnAt pb B n rd fin w s3 wx) (fun _ wx => strLen wx pb)
  case atStart => exact HAT.out
  case round =>
    rename_i wr
    obtain ⟨L, z, f, hLo, hpz, hEz, hkz, hmore, hzf, hzn, hzL, hz6⟩ := hrel
    have hplen := hpz.len
    obtain ⟨sa, sc, rfl⟩ := hLo.form
    have HH := Lib.hid (has_any 44 hpz)
    have HLo := Lib.hid hLo
    have HP := Lib.hid hpz
    have HEZ := Lib.hid hEz
    have HK := Lib.hid hkz
    have HM := Lib.hid hmore
    have HPL := Lib.hid hplen
    cases hb : hasB z 44 with
    | false =>
      rw [hb] at HH
      have HFI := Lib.hid ((more_stop hb).symm.trans hmore)
      have HT2 := Lib.hid (take_any 41 hpz)
      clear hLo hpz hEz hkz hmore hb hplen
      go_wp2_with fail
      refine HH.out.mono ?_
      rintro r w' ⟨rfl, rfl⟩
      go_wp2_with fail
      refine HT2.out.mono ?_
      rintro r w3 ⟨rfl, hp3, hk3, -⟩
      have P3 := Lib.hid hp3
      have K3 := Lib.hid (HK.out.trans hk3)
      have L3 := Lib.hid (HLo.out.kp hk3 (by simp; exact hpl))
      clear hp3 hk3
      go_wp2
      go_ret
      rw [HINN.out, ← HFI.out]
      exact ⟨_, rfl, by rw [HB.out]; exact L3.out.has, P3.out, K3.out⟩
    | true =>
      obtain ⟨r, hr⟩ := hasB_cons hb
      rw [hb] at HH
      have hT := take_any 44 hpz
      rw [take_has hr] at hT
      have HT2 := Lib.hid hT
      have hrl : r.length + 1 = z.1.length := by rw [hr]; rfl
      obtain ⟨f', rfl⟩ : ∃ f', f = f' + 1 := ⟨f - 1, by omega⟩
      have HMG := Lib.hid ((more_go hr).symm.trans hmore)
      have HRL := Lib.hid hrl
      clear hLo hpz hEz hkz hmore hb hplen hT hr hrl HM
      go_wp2_with fail
      refine HH.out.mono ?_
      rintro r1 w' ⟨rfl, rfl⟩
      go_wp2_with fail
      refine HT2.out.mono ?_
      rintro r1 w3 ⟨rfl, hp3, hk3, -⟩
      have E3 := Lib.hid (HEZ.out.kp hk3 (by simp; exact hpb))
      have HC3 := Lib.hid (HC.out pb (r, z.2) w3 hp3 E3.out hpb (by show r.length ≤ _; have := HRL.out; omega) (by show r.length < _; have := HRL.out; omega))
      have K3 := Lib.hid (HK.out.trans hk3)
      have L3 := Lib.hid (HLo.out.kp hk3 (by simp; exact hpl))
      have hq3 := HLEN.out (r, z.2)
      have HQ3 := Lib.hid (show (rd (r, z.2)).2.1.length ≤ r.length from hq3)
      clear hp3 hk3 hq3
      generalize rd (r, z.2) = rdz at *
      go_wp2_with fail
      refine HC3.out.mono ?_
      rintro r1 w4 ⟨v, rfl, hv, htx, hp4, hk4⟩
      have hlt := L3.out.1.lt
      have hv2 : CHas (fun b => B ≤ b ∧ (Value.slice sa L.length sc).ownBlock ≠ some b) w4 v rdz.1.inner := hv.mono fun k hkk hq => ⟨by have := K3.out.size; have := HB.out; omega, fun e => by have := hlt k e; omega⟩
      obtain ⟨va, vn, rfl, -⟩ := hv.form
      have L4 := Lib.hid (L3.out.kp hk4 (by simp; exact hpl))
      have hal : Kp [] w4 (w4.alloc (.cells (conC rdz.1 (.slice va rdz.1.inner.length vn)).toArray 24)) := (Kp.refl [] w4).alloc _
      have L5 := Lib.hid (L4.out.kp hal (by simp))
      have V5 := Lib.hid (hv2.keep (Q' := fun b => B ≤ b ∧ (Value.slice sa L.length sc).ownBlock ≠ some b) hal.size fun k hkk hq => ⟨hq, hal.block k hkk (by simp)⟩)
      have P5 := Lib.hid (hp4.kp hal (by simp))
      have E5 := Lib.hid ((E3.out.kp hk4 (by simp; exact hpb)).kp hal (by simp))
      have K5 := Lib.hid ((K3.out.trans hk4).trans (hal.mono (by simp)))
      have HTX := Lib.hid htx
      have HS := Lib.hid (cells_new7 w4 (conC rdz.1 (.slice va rdz.1.inner.length vn)) 24)
      have HO := Lib.hid (conC_one (c := rdz.1) (v := .slice va rdz.1.inner.length vn) rfl)
      have HBW := Lib.hid (show B ≤ (w4.alloc (.cells (conC rdz.1 (.slice va rdz.1.inner.length vn)).toArray 24)).heap.size by have := K5.out.size; have := HB.out; omega)
      have hL2 : L.length ≤ 2000000 := by omega
      clear hv hv2 htx hp4 hk4 hal hlt
      go_wp2_with (at_builtin; refine wpList_append_own_at _ rfl _ _ 22 rfl B 24 i0 _ 7 88 Tryd.underlying22 hi0 hz0 hz1 hz2 rfl (by decide) _ _ _ rfl L5.out.1 ⟨w4.heap.size, 0, none⟩ 1 1 (conC rdz.1 (.slice va rdz.1.inner.length vn)) rfl rfl HS.out HO.out (by unfold maxLen; omega) (by omega) HBW.out ?_; intro v8 w8 hown8 hgrow8 _ hat8; have L8 := Lib.hid (L5.out.snoc HTX.out V5.out hown8 hgrow8 hat8); have G8 := Lib.hid hgrow8; clear hown8 hgrow8 hat8)
      have hgr := G8.out
      have hbig : ∀ k, (Value.slice sa L.length sc).ownBlock = some k → B ≤ k := fun k e => (L5.out.1.lt k e).1
      have K8 := grown_kp (B := B) hgr hbig K5.out (by rw [HB.out]; exact Nat.le_refl _)
      have hne : ∀ k, k < B → some k ≠ (Value.slice sa L.length sc).ownBlock := fun k hk e => by have := hbig k e.symm; omega
      have P8 : Par pb rdz.2 w8 := (hgr.block pb (block_lt P5.out) (hne pb hpl)).trans P5.out
      have E8 : Env w8 := E5.out.keep (hgr.block 0 (Nat.lt_of_lt_of_le (show 0 < B by omega) HBW.out) (hne 0 (by omega))) (hgr.block 2 (Nat.lt_of_lt_of_le (show 2 < B by omega) HBW.out) (hne 2 (by omega))) (hgr.block 3 (Nat.lt_of_lt_of_le (show 3 < B by omega) HBW.out) (hne 3 (by omega))) hgr.size
      have hq := HQ3.out
      have hr := HRL.out
      refine ⟨⟨L ++ [(rdz.1, .slice va rdz.1.inner.length vn)], rdz.2, f', L8.out, P8, E8, K8, by rw [List.map_append]; exact HMG.out, by omega, by omega, by rw [List.length_append, List.length_singleton]; omega, by omega⟩, ?_⟩
      rw [P8.len, HPL.out]
      omega
end Go.Proofs.YtoohnjlghjapnaaDoor
