/- LxP -/
import Derived.Test.YtkkibibecgcbmaaGreatDoorQLxO
open Go.Lib renaming hid → qH
open Go.Calls renaming mono → cM
set_option maxRecDepth 100000
set_option maxHeartbeats 16000000
namespace Go.Proofs.YtkkibibecgcbmaaGreatDoor.Lx
open Go.RowKit
theorem run_add_strO {P : Program} (W : World) (a b : ByteArray) (h : a.size + b.size ≤ 100000000000) : (Op.stringOp .add a b).run P W = .ok (.string (a ++ b)) W :=
 run_string_add_sum W a b (by omega)
theorem bs_appO (a b : List UInt8) : bs a ++ bs b = bs (a ++ b) := by
 apply ByteArray.ext
 rw [ByteArray.data_append]
 apply Array.ext'
 simp [bs]
theorem drop_get {α : Type} {l : List α} {i : Nat} {a : α} (h : l[i]? = some a) : l.drop i = a :: l.drop (i + 1) := by
 rw [List.drop_eq_getElem_cons (List.getElem?_eq_some_iff.1 h).1, (List.getElem?_eq_some_iff.1 h).2]
theorem cont_no {a : List UInt8} (h : endsB a = false) (l : List (List UInt8)) : contL a l = (a, l) := by
 cases l with
 | nil => rw [contL, if_neg (by rw [h]; simp)]
 | cons b l => rw [contL, if_neg (by rw [h]; simp)]
theorem pieces_len : ∀ s : List UInt8, (∀ p ∈ piecesL s, p.length ≤ s.length) ∧ (piecesL s).length ≤ s.length + 1
 | [] => by simp [piecesL]
 | b :: s => by
  obtain ⟨h1, h2⟩ := pieces_len s
  unfold piecesL
  split
  ·refine ⟨fun p hp => ?_, by simp only [List.length_cons]; omega⟩
   rcases List.mem_cons.1 hp with rfl | hp
   ·simp
   ·have := h1 p hp; simp only [List.length_cons]; omega
  ·split
   ·simp
   ·rename_i q l hq
    rw [hq] at h1 h2
    refine ⟨fun p hp => ?_, by simp only [List.length_cons] at h2 ⊢; omega⟩
    rcases List.mem_cons.1 hp with rfl | hp
    ·have := h1 q (by simp)
     simp only [List.length_cons]; omega
    ·have := h1 p (by simp [hp])
     simp only [List.length_cons]; omega
theorem lines_step {s : List UInt8} {xs : List Ln} {phys : List (List UInt8)} {i j P : Nat} {a T : List UInt8} (h : xs ++ linesN (i + 1) (phys.drop i) = linesL s) (ha : phys.drop i = a :: phys.drop (i + 1))
  (hc : contL a (phys.drop (i + 1)) = (T, phys.drop (j + 1))) (hij : i ≤ j) (hj : j < P) (hP : phys.length = P) : (xs ++ (if blankL T then [] else [(i + 1, T)])) ++ linesN (j + 1 + 1) (phys.drop (j + 1)) = linesL s := by
 rw [ha, linesN_cons, hc, List.length_drop, List.length_drop, hP, show i + 1 + 1 + (P - (i + 1) - (P - (j + 1))) = j + 1 + 1 by omega, ← List.append_assoc] at h
 exact h
theorem refLines_any (s : List UInt8) (w : World) (hm : Max w) (hl : s.length ≤ 10000) : Calls Tryz.prog 17 #[.string (bs s)] w fun r w' => ∃ v, r = .returned v ∧ lnT.Own w' w.heap.size v (linesL s) ∧ Kp [] w w' := by
 obtain ⟨hpl, hpn⟩ := pieces_len s
 have hsp := split_any s w hm (by omega)
 obtain ⟨n, hn⟩ : ∃ n, (piecesL s).length = n + 1 := ⟨(piecesL s).length - 1, by have := List.length_pos_iff.2 (piecesL_ne s); omega⟩
 obtain ⟨last, hlast⟩ : ∃ x, (piecesL s)[n]? = some x := ⟨_, List.getElem?_eq_getElem (by omega)⟩
 have hgl : (piecesL s).getLast? = some last := by rw [List.getLast?_eq_getElem?, hn]; exact hlast
 obtain ⟨A, hA⟩ : ∃ A, w.heap.size = A := ⟨_, rfl⟩
 rw [hn, hA] at hsp
 have HSP := qH hsp
 clear hsp
 have hw1 : IntKind.i64.wrap ((n : Int) + 1 - 1) = (n : Int) := by rw [IntKind.wrap_i64]; omega
 have hw2 : IntKind.i64.wrap (n : Int) = (n : Int) := by rw [IntKind.wrap_i64]; omega
 have hn0 : (0 : Int) ≤ (n : Int) := by omega
 have hle := bs_isEmpty last
 by_cases hz : last = []
 ·have hph : physL s = (piecesL s).dropLast := by unfold physL; rw [hgl, hz, if_pos rfl]
  have hle2 : (bs last).toList.isEmpty = true := by rw [hle, hz]; rfl
  obtain ⟨phys, hphys⟩ : ∃ phys, physL s = phys := ⟨_, rfl⟩
  have HPL := qH (show phys.length = n by rw [← hphys, hph, List.length_dropLast, hn]; rfl)
  have HSUB := qH (show ∀ W, SRow W A (piecesL s) → SRow W A phys from fun W h j p hp => h j p (by
   have hj := (List.getElem?_eq_some_iff.1 hp).1
   rw [← hphys, hph] at hp hj
   rw [List.length_dropLast] at hj
   rw [List.getElem?_dropLast, if_pos hj] at hp
   exact hp))
  have HPB := qH (show ∀ p ∈ phys, p.length ≤ 10000 from fun p hp => by
   rw [← hphys, hph] at hp
   have := hpl p (List.dropLast_subset _ hp)
   omega)
  have HPN := qH (show n ≤ 10001 by omega)
  have HL0 := qH (show linesN 1 phys = linesL s by unfold linesL; rw [hphys])
  have HLST := qH hlast
  clear hpl hpn hn hgl hph hle hz hphys hm hlast
  go_enter Tryz.func17, Tryz.ntmps17
  go_wp2_with (go_at_call 43; refine cM (by with_reducible exact HSP.out) ?_; rintro r w1 ⟨rfl, hS, hk1, hsz⟩; have hcl := hS n last HLST.out; have HS := qH (HSUB.out _ hS); have HK1 := qH hk1; have HA1 := qH (show A < w1.heap.size by omega); clear hS hk1 hsz)
  generalize hPn : n = P at *
  go_loopg [4, 5] P (fun g s4 s5 wx => ∃ v xs i, v = s4 ∧ s5 = .int .i64 ((i : Nat) : Int) ∧ i + g = P ∧ lnT.Own wx w1.heap.size v xs ∧ Kp [] w1 wx ∧ xs.length ≤ i ∧ Hid (xs ++ linesN (i + 1) (phys.drop i) = linesL s))
  case atStart => exact ⟨_, [], 0, rfl, rfl, by omega, RT.Own.nil _ _ _, Kp.refl _ _, by simp, qH (by rw [List.nil_append, List.drop_zero]; exact HL0.out)⟩
  case round =>
   obtain ⟨v, xs, i, rfl, rfl, hig, hown, hkp, hxi, HLL⟩ := hrel
   have HO := qH hown
   have HK := qH hkp
   clear hown hkp
   by_cases hiP : i < P
   ·have hiz : (i : Int) < (P : Int) := by omega
    obtain ⟨a, ha⟩ : ∃ a, phys[i]? = some a := ⟨_, List.getElem?_eq_getElem (by rw [HPL.out]; exact hiP)⟩
    have HA := qH (show phys.drop i = a :: phys.drop (i + 1) from drop_get ha)
    have hca : wr.cell? ⟨A, i, none⟩ = some (.string (bs a)) := (HS.out.kp HA1.out HK.out) i a ha
    have hal : a.length ≤ 10000 := HPB.out a (List.mem_of_getElem? ha)
    have HXL := qH (show xs.length ≤ 1000000 by have := HPN.out; omega)
    have HXL2 := qH hxi
    have hPN := HPN.out
    have hwi : IntKind.i64.wrap ((i : Int) + 1) = (i : Int) + 1 := by rw [IntKind.wrap_i64]; omega
    obtain ⟨tb, htb⟩ : ∃ tb, wr.heap.size = tb := ⟨_, rfl⟩
    obtain ⟨wb, hwb⟩ : ∃ wb, wr.alloc (.cells #[.int .i64 ((i : Int) + 1), .string (bs a)] 39) = wb := ⟨_, rfl⟩
    have hTb : LAt wb tb (i + 1, a) := by
     have h := heap_alloc_last wr (.cells #[.int .i64 ((i : Int) + 1), .string (bs a)] 39)
     rw [hwb, htb] at h
     exact h
    have hkb : Kp [] wr wb := by rw [← hwb]; exact (Kp.refl [] wr).alloc _
    have HTb := qH hTb
    have HKb := qH (HK.out.trans hkb)
    have HOb := qH (HO.out.kp0 hkb)
    have HOt := qH (show ∀ b, v.ownBlock = some b → b ≠ tb from fun b hb => by have := (HO.out.ge b hb).2; omega)
    have htw : w1.heap.size ≤ tb := by rw [← htb]; exact HK.out.size
    have HIG := qH hig
    have HGA := qH ha
    have HAL := qH hal
    clear hTb hkb ha hal hxi hPN hig
    go_wp2
    go_loopg [5] (P - i) (fun g2 s5 wx => ∃ j T pre cur, s5 = .int .i64 ((j : Nat) : Int) ∧ j + g2 = P ∧ i ≤ j ∧ phys[j]? = some cur ∧ T = pre ++ cur ∧ T.length ≤ (j + 1) * 10000 ∧ LAt wx tb (i + 1, T) ∧ lnT.Own wx w1.heap.size v xs ∧ Kp [] w1 wx ∧
     Hid (contL a (phys.drop (i + 1)) = (pre ++ (contL cur (phys.drop (j + 1))).1, (contL cur (phys.drop (j + 1))).2)))
    case atStart =>
     have := HAL.out
     exact ⟨i, a, [], a, rfl, by omega, Nat.le_refl _, HGA.out, rfl, by omega, HTb.out, HOb.out, HKb.out, qH rfl⟩
    case round =>
     obtain ⟨j, T, pre, cur, rfl, hjg, hij, hcur, hT, hTl, hat, hox, hkx, HC⟩ := hrel
     have HLx := qH hat
     have HOx := qH hox
     have HKx := qH hkx
     have hjP : j < P := by rw [← HPL.out]; exact (List.getElem?_eq_some_iff.1 hcur).1
     have HJP := qH hjP
     have HJG := qH hjg
     have hjz : (j : Int) < (P : Int) := by omega
     have hcc : wr.cell? ⟨A, j, none⟩ = some (.string (bs cur)) := (HS.out.kp HA1.out hkx) j cur hcur
     have hcl : cur.length ≤ 10000 := HPB.out cur (List.mem_of_getElem? hcur)
     obtain ⟨q0, q1⟩ := hat.cells
     have qf := fun o => hat.frz (o := o)
     have HSF := qH (suf92 cur wr (by omega))
     have hPN := HPN.out
     have HTB := qH (show T.length ≤ 500000000 by omega)
     have hwj : IntKind.i64.wrap ((j : Int) + 1) = (j : Int) + 1 := by rw [IntKind.wrap_i64]; omega
     cases he : endsB cur with
     | false =>
      rw [show (cur.getLast? == some 92) = false from he] at HSF
      have HCON := qH (show contL a (phys.drop (i + 1)) = (T, phys.drop (j + 1)) by rw [HC.out, cont_no he, hT])
      clear hcur hT hTl hat hox hkx HC hcl hPN he hjg
      have HTR := qH (trim329 T wr (by have := HTB.out; omega))
      have HNX := qH (show (xs ++ (if blankL T then [] else [(i + 1, T)])) ++ linesN (j + 1 + 1) (phys.drop (j + 1)) = linesL s from lines_step HLL.out HA.out HCON.out hij HJP.out HPL.out)
      cases hdw : T.dropWhile fun b => b == 32 || b == 9 with
      | nil =>
       have hbl : blankL T = true := by unfold blankL; rw [hdw]
       rw [hdw] at HTR
       rw [hbl, if_pos rfl, List.append_nil] at HNX
       have he0 : (bs []).toList.isEmpty = true := bs_isEmpty []
       clear hdw hbl
       go_wp2_with (first
        | (go_at_call 45; refine cM (by with_reducible exact HTR.out) ?_; rintro r w5 ⟨rfl, hk⟩; have HK5 := qH (HKx.out.trans hk); have HO5 := qH (HOx.out.kp0 hk); have HL5 := qH (HLx.out.kp hk (by simp)); clear hk; obtain ⟨q0, q1⟩ := HL5.out.cells; obtain ⟨Nb, hNb⟩ : ∃ Nb, w5.heap.size = Nb := ⟨_, rfl⟩; obtain ⟨w7, hw7⟩ : ∃ w7, w5.alloc (.cells #[.int .i64 ((i : Int) + 1), .string (bs T)] 39) = w7 := ⟨_, rfl⟩; have H7 := qH (ln_push (x := (i + 1, T)) HK5.out HO5.out hNb hw7)) | (go_at_call 44; refine cM (by with_reducible exact HSF.out) ?_; rintro r w4 ⟨rfl, rfl⟩))
       go_roundg (P - (j + 1))
       case measure => have h1 := HIG.out; have h2 := HJP.out; omega
       case rel => exact ⟨v, xs, j + 1, rfl, rfl, by have := HJP.out; omega, HO5.out, HK5.out, by have := HXL2.out; omega, HNX⟩
      | cons b0 r0 =>
       rw [hdw] at HTR
       have he0 : (bs (b0 :: r0)).toList.isEmpty = false := bs_isEmpty _
       have hz0 : (0 : Int) < ((bs (b0 :: r0)).size : Int) := by simp [bs_size]
       by_cases hb0 : b0 = 35
       ·have hbl : blankL T = true := by unfold blankL; rw [hdw, hb0]; rfl
        have hcn : ((b0.toNat : Int) != 35) = false := by rw [hb0]; rfl
        have hcn2 : ((((bs (b0 :: r0))[0]'(by simp [bs_size])).toNat : Int) != 35) = false := hcn
        rw [hbl, if_pos rfl, List.append_nil] at HNX
        clear hdw hbl hb0
        go_wp2_with (first
         | (go_at_call 45; refine cM (by with_reducible exact HTR.out) ?_; rintro r w5 ⟨rfl, hk⟩; have HK5 := qH (HKx.out.trans hk); have HO5 := qH (HOx.out.kp0 hk); have HL5 := qH (HLx.out.kp hk (by simp)); clear hk; obtain ⟨q0, q1⟩ := HL5.out.cells; obtain ⟨Nb, hNb⟩ : ∃ Nb, w5.heap.size = Nb := ⟨_, rfl⟩; obtain ⟨w7, hw7⟩ : ∃ w7, w5.alloc (.cells #[.int .i64 ((i : Int) + 1), .string (bs T)] 39) = w7 := ⟨_, rfl⟩; have H7 := qH (ln_push (x := (i + 1, T)) HK5.out HO5.out hNb hw7)) | (go_at_call 44; refine cM (by with_reducible exact HSF.out) ?_; rintro r w4 ⟨rfl, rfl⟩))
        go_roundg (P - (j + 1))
        case measure => have h1 := HIG.out; have h2 := HJP.out; omega
        case rel => exact ⟨v, xs, j + 1, rfl, rfl, by have := HJP.out; omega, HO5.out, HK5.out, by have := HXL2.out; omega, HNX⟩
       ·have hbl : blankL T = false := by unfold blankL; rw [hdw]; simpa using hb0
        have hcn : ((b0.toNat : Int) != 35) = true := by
         simp only [bne_iff_ne, ne_eq]
         intro h
         exact hb0 (UInt8.toNat_inj.1 (by have : (35 : UInt8).toNat = 35 := rfl; omega))
        have hcn2 : ((((bs (b0 :: r0))[0]'(by simp [bs_size])).toNat : Int) != 35) = true := hcn
        rw [hbl, if_neg Bool.false_ne_true] at HNX
        clear hdw hbl hb0
        go_wp2_with (first
         | (go_at_call 45; refine cM (by with_reducible exact HTR.out) ?_; rintro r w5 ⟨rfl, hk⟩; have HK5 := qH (HKx.out.trans hk); have HO5 := qH (HOx.out.kp0 hk); have HL5 := qH (HLx.out.kp hk (by simp)); clear hk; obtain ⟨q0, q1⟩ := HL5.out.cells; obtain ⟨Nb, hNb⟩ : ∃ Nb, w5.heap.size = Nb := ⟨_, rfl⟩; obtain ⟨w7, hw7⟩ : ∃ w7, w5.alloc (.cells #[.int .i64 ((i : Int) + 1), .string (bs T)] 39) = w7 := ⟨_, rfl⟩; have H7 := qH (ln_push (x := (i + 1, T)) HK5.out HO5.out hNb hw7))
         | (at_builtin; refine wpList_append_r (r := lnT) rfl (.tmp 73) (.tmp 75) rfl w1.heap.size v xs rfl H7.out.2.1 Nb 1 (i + 1, T) rfl H7.out.2.2 HXL.out H7.out.1.size ?_; intro v8 w8 hown8 hgr8; have HO8 := qH hown8; have HK8 := qH (kp_grownK H7.out.1 hgr8 fun b hb => (H7.out.2.1.ge b hb).1); clear hown8 hgr8) | (go_at_call 44; refine cM (by with_reducible exact HSF.out) ?_; rintro r w4 ⟨rfl, rfl⟩))
        go_roundg (P - (j + 1))
        case measure => have h1 := HIG.out; have h2 := HJP.out; omega
        case rel => exact ⟨v8, xs ++ [(i + 1, T)], j + 1, rfl, rfl, by have := HJP.out; omega, HO8.out, HK8.out, by rw [List.length_append, List.length_singleton]; have := HXL2.out; omega, HNX⟩
     | true =>
      rw [show (cur.getLast? == some 92) = true from he] at HSF
      have hcn : cur ≠ [] := by rintro rfl; cases he
      obtain ⟨m, hm⟩ : ∃ m, T.length = m + 1 := by
       have := List.length_pos_iff.2 hcn
       have e := congrArg List.length hT
       rw [List.length_append] at e
       exact ⟨T.length - 1, by omega⟩
      have hTd : (bs T).extract 0 m = bs (pre ++ cur.dropLast) := by
       rw [bs_take, hT, show m = T.length - 1 by omega, hT, ← List.dropLast_eq_take, List.dropLast_append_of_ne_nil hcn]
      have hbz : ((bs T).size : Int) = ((m + 1 : Nat) : Int) := by rw [bs_size, hm]
      have HTd := qH hTd
      have hwm : IntKind.i64.wrap ((m : Int) + 1 - 1) = (m : Int) := by rw [IntKind.wrap_i64]; omega
      have hwm2 : IntKind.i64.wrap (((bs T).size : Int) - 1) = (m : Int) := by rw [hbz, IntKind.wrap_i64]; omega
      have hms : (m : Int) ≤ ((bs T).size : Int) := by rw [hbz]; omega
      have hms2 : m ≤ (bs T).size := by omega
      by_cases hlast : j + 1 = P
      ·have hdn : phys.drop (j + 1) = [] := List.drop_of_length_le (by rw [HPL.out]; omega)
       have hcd : contL cur [] = (cur.dropLast, []) := by rw [contL, if_pos he]
       have HCON := qH (show contL a (phys.drop (i + 1)) = (pre ++ cur.dropLast, phys.drop (j + 1)) by rw [HC.out, hdn, hcd])
       have hjeq : (((j : Int) + 1) == (P : Int)) = true := by simp; omega
       have HTB := qH (show (pre ++ cur.dropLast).length ≤ 500000000 by have := HTB.out; rw [hT, List.length_append] at this; rw [List.length_append, List.length_dropLast]; omega)
       obtain ⟨T2, hT2⟩ : ∃ T2, pre ++ cur.dropLast = T2 := ⟨_, rfl⟩
       rw [hT2] at HCON HTB HTd
       obtain ⟨wc, hwc⟩ : ∃ wc, wr.setCell ⟨tb, 1, none⟩ (.string (bs T2)) = wc := ⟨_, rfl⟩
       have HL2 := qH (show LAt wc tb (i + 1, T2) by rw [← hwc]; exact hat.put T2)
       obtain ⟨p0, p1⟩ := HL2.out.cells
       have HO2 := qH (show lnT.Own wc w1.heap.size v xs by rw [← hwc]; exact hox.set (p := ⟨tb, 1, none⟩) HOt.out _)
       have HK2 := qH (show Kp [] w1 wc by rw [← hwc]; exact hkx.setCell (.inr htw) _)
       rw [← HTd.out] at hwc
       clear HLx HOx HKx
       have HLx := HL2
       have HOx := HO2
       have HKx := HK2
       clear hcur hT hTl hat hox hkx HC hcl hPN he hjg hcn hTd hbz hdn hcd hlast hm hT2
       have HTR := qH (trim329 T2 wc (by have := HTB.out; omega))
       have HNX := qH (show (xs ++ (if blankL T2 then [] else [(i + 1, T2)])) ++ linesN (j + 1 + 1) (phys.drop (j + 1)) = linesL s from lines_step HLL.out HA.out HCON.out hij HJP.out HPL.out)
       cases hdw : T2.dropWhile fun b => b == 32 || b == 9 with
       | nil =>
        have hbl : blankL T2 = true := by unfold blankL; rw [hdw]
        rw [hdw] at HTR
        rw [hbl, if_pos rfl, List.append_nil] at HNX
        have he0 : (bs []).toList.isEmpty = true := bs_isEmpty []
        clear hdw hbl
        go_wp2_with (first
         | (go_at_call 45; refine cM (by with_reducible exact HTR.out) ?_; rintro r w5 ⟨rfl, hk⟩; have HK5 := qH (HKx.out.trans hk); have HO5 := qH (HOx.out.kp0 hk); have HL5 := qH (HLx.out.kp hk (by simp)); clear hk; obtain ⟨q0, q1⟩ := HL5.out.cells; obtain ⟨Nb, hNb⟩ : ∃ Nb, w5.heap.size = Nb := ⟨_, rfl⟩; obtain ⟨w7, hw7⟩ : ∃ w7, w5.alloc (.cells #[.int .i64 ((i : Int) + 1), .string (bs T2)] 39) = w7 := ⟨_, rfl⟩; have H7 := qH (ln_push (x := (i + 1, T2)) HK5.out HO5.out hNb hw7)) | (go_at_call 44; refine cM (by with_reducible exact HSF.out) ?_; rintro r w4 ⟨rfl, rfl⟩))
        go_roundg (P - (j + 1))
        case measure => have h1 := HIG.out; have h2 := HJP.out; omega
        case rel => exact ⟨v, xs, j + 1, rfl, rfl, by have := HJP.out; omega, HO5.out, HK5.out, by have := HXL2.out; omega, HNX⟩
       | cons b0 r0 =>
        rw [hdw] at HTR
        have he0 : (bs (b0 :: r0)).toList.isEmpty = false := bs_isEmpty _
        have hz0 : (0 : Int) < ((bs (b0 :: r0)).size : Int) := by simp [bs_size]
        by_cases hb0 : b0 = 35
        ·have hbl : blankL T2 = true := by unfold blankL; rw [hdw, hb0]; rfl
         have hcn : ((b0.toNat : Int) != 35) = false := by rw [hb0]; rfl
         have hcn2 : ((((bs (b0 :: r0))[0]'(by simp [bs_size])).toNat : Int) != 35) = false := hcn
         rw [hbl, if_pos rfl, List.append_nil] at HNX
         clear hdw hbl hb0
         go_wp2_with (first
          | (go_at_call 45; refine cM (by with_reducible exact HTR.out) ?_; rintro r w5 ⟨rfl, hk⟩; have HK5 := qH (HKx.out.trans hk); have HO5 := qH (HOx.out.kp0 hk); have HL5 := qH (HLx.out.kp hk (by simp)); clear hk; obtain ⟨q0, q1⟩ := HL5.out.cells; obtain ⟨Nb, hNb⟩ : ∃ Nb, w5.heap.size = Nb := ⟨_, rfl⟩; obtain ⟨w7, hw7⟩ : ∃ w7, w5.alloc (.cells #[.int .i64 ((i : Int) + 1), .string (bs T2)] 39) = w7 := ⟨_, rfl⟩; have H7 := qH (ln_push (x := (i + 1, T2)) HK5.out HO5.out hNb hw7)) | (go_at_call 44; refine cM (by with_reducible exact HSF.out) ?_; rintro r w4 ⟨rfl, rfl⟩))
         go_roundg (P - (j + 1))
         case measure => have h1 := HIG.out; have h2 := HJP.out; omega
         case rel => exact ⟨v, xs, j + 1, rfl, rfl, by have := HJP.out; omega, HO5.out, HK5.out, by have := HXL2.out; omega, HNX⟩
        ·have hbl : blankL T2 = false := by unfold blankL; rw [hdw]; simpa using hb0
         have hcn : ((b0.toNat : Int) != 35) = true := by
          simp only [bne_iff_ne, ne_eq]
          intro h
          exact hb0 (UInt8.toNat_inj.1 (by have : (35 : UInt8).toNat = 35 := rfl; omega))
         have hcn2 : ((((bs (b0 :: r0))[0]'(by simp [bs_size])).toNat : Int) != 35) = true := hcn
         rw [hbl, if_neg Bool.false_ne_true] at HNX
         clear hdw hbl hb0
         go_wp2_with (first
          | (go_at_call 45; refine cM (by with_reducible exact HTR.out) ?_; rintro r w5 ⟨rfl, hk⟩; have HK5 := qH (HKx.out.trans hk); have HO5 := qH (HOx.out.kp0 hk); have HL5 := qH (HLx.out.kp hk (by simp)); clear hk; obtain ⟨q0, q1⟩ := HL5.out.cells; obtain ⟨Nb, hNb⟩ : ∃ Nb, w5.heap.size = Nb := ⟨_, rfl⟩; obtain ⟨w7, hw7⟩ : ∃ w7, w5.alloc (.cells #[.int .i64 ((i : Int) + 1), .string (bs T2)] 39) = w7 := ⟨_, rfl⟩; have H7 := qH (ln_push (x := (i + 1, T2)) HK5.out HO5.out hNb hw7))
          | (at_builtin; refine wpList_append_r (r := lnT) rfl (.tmp 73) (.tmp 75) rfl w1.heap.size v xs rfl H7.out.2.1 Nb 1 (i + 1, T2) rfl H7.out.2.2 HXL.out H7.out.1.size ?_; intro v8 w8 hown8 hgr8; have HO8 := qH hown8; have HK8 := qH (kp_grownK H7.out.1 hgr8 fun b hb => (H7.out.2.1.ge b hb).1); clear hown8 hgr8) | (go_at_call 44; refine cM (by with_reducible exact HSF.out) ?_; rintro r w4 ⟨rfl, rfl⟩))
         go_roundg (P - (j + 1))
         case measure => have h1 := HIG.out; have h2 := HJP.out; omega
         case rel => exact ⟨v8, xs ++ [(i + 1, T2)], j + 1, rfl, rfl, by have := HJP.out; omega, HO8.out, HK8.out, by rw [List.length_append, List.length_singleton]; have := HXL2.out; omega, HNX⟩
      ·have hdn : ∃ b, phys[j + 1]? = some b := ⟨_, List.getElem?_eq_getElem (by rw [HPL.out]; omega)⟩
       obtain ⟨nb, hnb⟩ := hdn
       have hnl : nb.length ≤ 10000 := HPB.out nb (List.mem_of_getElem? hnb)
       have hjeq : (((j : Int) + 1) == (P : Int)) = false := by simp; omega
       have hcb : wr.cell? ⟨A, j + 1, none⟩ = some (.string (bs nb)) := (HS.out.kp HA1.out hkx) (j + 1) nb hnb
       have hjz2 : (j : Int) + 1 < (P : Int) := by omega
       obtain ⟨T2, hT2⟩ : ∃ T2, pre ++ cur.dropLast = T2 := ⟨_, rfl⟩
       have hT2l : T2.length ≤ (j + 1) * 10000 := by rw [← hT2, List.length_append, List.length_dropLast]; have := congrArg List.length hT; rw [List.length_append] at this; omega
       rw [hT2] at HTd
       have HC2 := qH (show contL a (phys.drop (i + 1)) = (T2 ++ (contL nb (phys.drop (j + 1 + 1))).1, (contL nb (phys.drop (j + 1 + 1))).2) by
        rw [HC.out, drop_get hnb, contL, if_pos he, ← hT2, List.append_assoc])
       obtain ⟨wc, hwc⟩ : ∃ wc, wr.setCell ⟨tb, 1, none⟩ (.string (bs T2)) = wc := ⟨_, rfl⟩
       have hat2 : LAt wc tb (i + 1, T2) := by rw [← hwc]; exact hat.put T2
       have hox2 : lnT.Own wc w1.heap.size v xs := by rw [← hwc]; exact hox.set (p := ⟨tb, 1, none⟩) HOt.out _
       have hkx2 : Kp [] w1 wc := by rw [← hwc]; exact hkx.setCell (.inr htw) _
       have hcb2 : wc.cell? ⟨A, j + 1, none⟩ = some (.string (bs nb)) := (HS.out.kp HA1.out hkx2) (j + 1) nb hnb
       obtain ⟨p0, p1⟩ := hat2.cells
       have pf := fun o => hat2.frz (o := o)
       have HAT2 := qH hat2
       have HOX2 := qH hox2
       have HKX2 := qH hkx2
       rw [← HTd.out] at hwc
       have hadd := fun W => @run_add_strO Tryz.prog W (bs T2) (bs nb) (by rw [bs_size, bs_size]; omega)
       have HAD := qH (bs_appO T2 nb)
       have HNB := qH hnb
       have HLEN := qH (show (T2 ++ nb).length ≤ (j + 1 + 1) * 10000 by rw [List.length_append]; omega)
       clear hcur hT hTl hat hox hkx HC hcl hPN he hjg hcn hTd hbz hlast hm hT2 hat2 hox2 hkx2 hnb hnl hT2l
       go_wp2_with (first
        | (go_at_call 44; refine cM (by with_reducible exact HSF.out) ?_; rintro r w4 ⟨rfl, rfl⟩))
       go_region
       all_goals
        go_wp2
        rw [HAD.out]
        go_roundg (P - (j + 1))
        case measure => have := HJG.out; omega
        case rel =>
         exact ⟨j + 1, T2 ++ nb, T2, nb, rfl, by have := HJP.out; omega, by omega, HNB.out, rfl, HLEN.out, LAt.put (x := (i + 1, T2)) HAT2.out _, HOX2.out.set (p := ⟨tb, 1, none⟩) HOt.out _, (HKX2.out.setCell (.inr htw) _).drew 1, HC2⟩
   ·have hie : i = P := by omega
    have HEX := qH (show xs = linesL s by
     have h := HLL.out
     rw [hie, List.drop_of_length_le (by rw [HPL.out]; exact Nat.le_refl _)] at h
     simpa [linesN] using h)
    have hiz : ¬ ((i : Int) < (P : Int)) := by omega
    clear hie
    go_wp2
    go_ret
    rw [← HEX.out]
    exact ⟨_, rfl, HO.out.down (by have := HK1.out.size; omega), HK1.out.trans HK.out⟩
 ·have hph : physL s = piecesL s := by unfold physL; rw [hgl, if_neg (fun h => hz (Option.some.inj h))]
  have hle2 : (bs last).toList.isEmpty = false := by
   rw [hle]
   cases last with
   | nil => exact absurd rfl hz
   | cons _ _ => rfl
  obtain ⟨phys, hphys⟩ : ∃ phys, physL s = phys := ⟨_, rfl⟩
  have HPL := qH (show phys.length = n + 1 by rw [← hphys, hph, hn])
  have HSUB := qH (show ∀ W, SRow W A (piecesL s) → SRow W A phys from fun W h => by rw [← hphys, hph]; exact h)
  have HPB := qH (show ∀ p ∈ phys, p.length ≤ 10000 from fun p hp => by
   rw [← hphys, hph] at hp
   have := hpl p hp
   omega)
  have HPN := qH (show n + 1 ≤ 10001 by omega)
  have HL0 := qH (show linesN 1 phys = linesL s by unfold linesL; rw [hphys])
  have HLST := qH hlast
  clear hpl hpn hn hgl hph hle hz hphys hm hlast
  go_enter Tryz.func17, Tryz.ntmps17
  go_wp2_with (go_at_call 43; refine cM (by with_reducible exact HSP.out) ?_; rintro r w1 ⟨rfl, hS, hk1, hsz⟩; have hcl := hS n last HLST.out; have HS := qH (HSUB.out _ hS); have HK1 := qH hk1; have HA1 := qH (show A < w1.heap.size by omega); clear hS hk1 hsz)
  generalize hPn : n + 1 = P at *
  go_loopg [4, 5] P (fun g s4 s5 wx => ∃ v xs i, v = s4 ∧ s5 = .int .i64 ((i : Nat) : Int) ∧ i + g = P ∧ lnT.Own wx w1.heap.size v xs ∧ Kp [] w1 wx ∧ xs.length ≤ i ∧ Hid (xs ++ linesN (i + 1) (phys.drop i) = linesL s))
  case atStart => exact ⟨_, [], 0, rfl, rfl, by omega, RT.Own.nil _ _ _, Kp.refl _ _, by simp, qH (by rw [List.nil_append, List.drop_zero]; exact HL0.out)⟩
  case round =>
   obtain ⟨v, xs, i, rfl, rfl, hig, hown, hkp, hxi, HLL⟩ := hrel
   have HO := qH hown
   have HK := qH hkp
   clear hown hkp
   by_cases hiP : i < P
   ·have hiz : (i : Int) < (P : Int) := by omega
    obtain ⟨a, ha⟩ : ∃ a, phys[i]? = some a := ⟨_, List.getElem?_eq_getElem (by rw [HPL.out]; exact hiP)⟩
    have HA := qH (show phys.drop i = a :: phys.drop (i + 1) from drop_get ha)
    have hca : wr.cell? ⟨A, i, none⟩ = some (.string (bs a)) := (HS.out.kp HA1.out HK.out) i a ha
    have hal : a.length ≤ 10000 := HPB.out a (List.mem_of_getElem? ha)
    have HXL := qH (show xs.length ≤ 1000000 by have := HPN.out; omega)
    have HXL2 := qH hxi
    have hPN := HPN.out
    have hwi : IntKind.i64.wrap ((i : Int) + 1) = (i : Int) + 1 := by rw [IntKind.wrap_i64]; omega
    obtain ⟨tb, htb⟩ : ∃ tb, wr.heap.size = tb := ⟨_, rfl⟩
    obtain ⟨wb, hwb⟩ : ∃ wb, wr.alloc (.cells #[.int .i64 ((i : Int) + 1), .string (bs a)] 39) = wb := ⟨_, rfl⟩
    have hTb : LAt wb tb (i + 1, a) := by
     have h := heap_alloc_last wr (.cells #[.int .i64 ((i : Int) + 1), .string (bs a)] 39)
     rw [hwb, htb] at h
     exact h
    have hkb : Kp [] wr wb := by rw [← hwb]; exact (Kp.refl [] wr).alloc _
    have HTb := qH hTb
    have HKb := qH (HK.out.trans hkb)
    have HOb := qH (HO.out.kp0 hkb)
    have HOt := qH (show ∀ b, v.ownBlock = some b → b ≠ tb from fun b hb => by have := (HO.out.ge b hb).2; omega)
    have htw : w1.heap.size ≤ tb := by rw [← htb]; exact HK.out.size
    have HIG := qH hig
    have HGA := qH ha
    have HAL := qH hal
    clear hTb hkb ha hal hxi hPN hig
    go_wp2
    go_loopg [5] (P - i) (fun g2 s5 wx => ∃ j T pre cur, s5 = .int .i64 ((j : Nat) : Int) ∧ j + g2 = P ∧ i ≤ j ∧ phys[j]? = some cur ∧ T = pre ++ cur ∧ T.length ≤ (j + 1) * 10000 ∧ LAt wx tb (i + 1, T) ∧ lnT.Own wx w1.heap.size v xs ∧ Kp [] w1 wx ∧
     Hid (contL a (phys.drop (i + 1)) = (pre ++ (contL cur (phys.drop (j + 1))).1, (contL cur (phys.drop (j + 1))).2)))
    case atStart =>
     have := HAL.out
     exact ⟨i, a, [], a, rfl, by omega, Nat.le_refl _, HGA.out, rfl, by omega, HTb.out, HOb.out, HKb.out, qH rfl⟩
    case round =>
     obtain ⟨j, T, pre, cur, rfl, hjg, hij, hcur, hT, hTl, hat, hox, hkx, HC⟩ := hrel
     have HLx := qH hat
     have HOx := qH hox
     have HKx := qH hkx
     have hjP : j < P := by rw [← HPL.out]; exact (List.getElem?_eq_some_iff.1 hcur).1
     have HJP := qH hjP
     have HJG := qH hjg
     have hjz : (j : Int) < (P : Int) := by omega
     have hcc : wr.cell? ⟨A, j, none⟩ = some (.string (bs cur)) := (HS.out.kp HA1.out hkx) j cur hcur
     have hcl : cur.length ≤ 10000 := HPB.out cur (List.mem_of_getElem? hcur)
     obtain ⟨q0, q1⟩ := hat.cells
     have qf := fun o => hat.frz (o := o)
     have HSF := qH (suf92 cur wr (by omega))
     have hPN := HPN.out
     have HTB := qH (show T.length ≤ 500000000 by omega)
     have hwj : IntKind.i64.wrap ((j : Int) + 1) = (j : Int) + 1 := by rw [IntKind.wrap_i64]; omega
     cases he : endsB cur with
     | false =>
      rw [show (cur.getLast? == some 92) = false from he] at HSF
      have HCON := qH (show contL a (phys.drop (i + 1)) = (T, phys.drop (j + 1)) by rw [HC.out, cont_no he, hT])
      clear hcur hT hTl hat hox hkx HC hcl hPN he hjg
      have HTR := qH (trim329 T wr (by have := HTB.out; omega))
      have HNX := qH (show (xs ++ (if blankL T then [] else [(i + 1, T)])) ++ linesN (j + 1 + 1) (phys.drop (j + 1)) = linesL s from lines_step HLL.out HA.out HCON.out hij HJP.out HPL.out)
      cases hdw : T.dropWhile fun b => b == 32 || b == 9 with
      | nil =>
       have hbl : blankL T = true := by unfold blankL; rw [hdw]
       rw [hdw] at HTR
       rw [hbl, if_pos rfl, List.append_nil] at HNX
       have he0 : (bs []).toList.isEmpty = true := bs_isEmpty []
       clear hdw hbl
       go_wp2_with (first
        | (go_at_call 45; refine cM (by with_reducible exact HTR.out) ?_; rintro r w5 ⟨rfl, hk⟩; have HK5 := qH (HKx.out.trans hk); have HO5 := qH (HOx.out.kp0 hk); have HL5 := qH (HLx.out.kp hk (by simp)); clear hk; obtain ⟨q0, q1⟩ := HL5.out.cells; obtain ⟨Nb, hNb⟩ : ∃ Nb, w5.heap.size = Nb := ⟨_, rfl⟩; obtain ⟨w7, hw7⟩ : ∃ w7, w5.alloc (.cells #[.int .i64 ((i : Int) + 1), .string (bs T)] 39) = w7 := ⟨_, rfl⟩; have H7 := qH (ln_push (x := (i + 1, T)) HK5.out HO5.out hNb hw7)) | (go_at_call 44; refine cM (by with_reducible exact HSF.out) ?_; rintro r w4 ⟨rfl, rfl⟩))
       go_roundg (P - (j + 1))
       case measure => have h1 := HIG.out; have h2 := HJP.out; omega
       case rel => exact ⟨v, xs, j + 1, rfl, rfl, by have := HJP.out; omega, HO5.out, HK5.out, by have := HXL2.out; omega, HNX⟩
      | cons b0 r0 =>
       rw [hdw] at HTR
       have he0 : (bs (b0 :: r0)).toList.isEmpty = false := bs_isEmpty _
       have hz0 : (0 : Int) < ((bs (b0 :: r0)).size : Int) := by simp [bs_size]
       by_cases hb0 : b0 = 35
       ·have hbl : blankL T = true := by unfold blankL; rw [hdw, hb0]; rfl
        have hcn : ((b0.toNat : Int) != 35) = false := by rw [hb0]; rfl
        have hcn2 : ((((bs (b0 :: r0))[0]'(by simp [bs_size])).toNat : Int) != 35) = false := hcn
        rw [hbl, if_pos rfl, List.append_nil] at HNX
        clear hdw hbl hb0
        go_wp2_with (first
         | (go_at_call 45; refine cM (by with_reducible exact HTR.out) ?_; rintro r w5 ⟨rfl, hk⟩; have HK5 := qH (HKx.out.trans hk); have HO5 := qH (HOx.out.kp0 hk); have HL5 := qH (HLx.out.kp hk (by simp)); clear hk; obtain ⟨q0, q1⟩ := HL5.out.cells; obtain ⟨Nb, hNb⟩ : ∃ Nb, w5.heap.size = Nb := ⟨_, rfl⟩; obtain ⟨w7, hw7⟩ : ∃ w7, w5.alloc (.cells #[.int .i64 ((i : Int) + 1), .string (bs T)] 39) = w7 := ⟨_, rfl⟩; have H7 := qH (ln_push (x := (i + 1, T)) HK5.out HO5.out hNb hw7)) | (go_at_call 44; refine cM (by with_reducible exact HSF.out) ?_; rintro r w4 ⟨rfl, rfl⟩))
        go_roundg (P - (j + 1))
        case measure => have h1 := HIG.out; have h2 := HJP.out; omega
        case rel => exact ⟨v, xs, j + 1, rfl, rfl, by have := HJP.out; omega, HO5.out, HK5.out, by have := HXL2.out; omega, HNX⟩
       ·have hbl : blankL T = false := by unfold blankL; rw [hdw]; simpa using hb0
        have hcn : ((b0.toNat : Int) != 35) = true := by
         simp only [bne_iff_ne, ne_eq]
         intro h
         exact hb0 (UInt8.toNat_inj.1 (by have : (35 : UInt8).toNat = 35 := rfl; omega))
        have hcn2 : ((((bs (b0 :: r0))[0]'(by simp [bs_size])).toNat : Int) != 35) = true := hcn
        rw [hbl, if_neg Bool.false_ne_true] at HNX
        clear hdw hbl hb0
        go_wp2_with (first
         | (go_at_call 45; refine cM (by with_reducible exact HTR.out) ?_; rintro r w5 ⟨rfl, hk⟩; have HK5 := qH (HKx.out.trans hk); have HO5 := qH (HOx.out.kp0 hk); have HL5 := qH (HLx.out.kp hk (by simp)); clear hk; obtain ⟨q0, q1⟩ := HL5.out.cells; obtain ⟨Nb, hNb⟩ : ∃ Nb, w5.heap.size = Nb := ⟨_, rfl⟩; obtain ⟨w7, hw7⟩ : ∃ w7, w5.alloc (.cells #[.int .i64 ((i : Int) + 1), .string (bs T)] 39) = w7 := ⟨_, rfl⟩; have H7 := qH (ln_push (x := (i + 1, T)) HK5.out HO5.out hNb hw7))
         | (at_builtin; refine wpList_append_r (r := lnT) rfl (.tmp 73) (.tmp 75) rfl w1.heap.size v xs rfl H7.out.2.1 Nb 1 (i + 1, T) rfl H7.out.2.2 HXL.out H7.out.1.size ?_; intro v8 w8 hown8 hgr8; have HO8 := qH hown8; have HK8 := qH (kp_grownK H7.out.1 hgr8 fun b hb => (H7.out.2.1.ge b hb).1); clear hown8 hgr8) | (go_at_call 44; refine cM (by with_reducible exact HSF.out) ?_; rintro r w4 ⟨rfl, rfl⟩))
        go_roundg (P - (j + 1))
        case measure => have h1 := HIG.out; have h2 := HJP.out; omega
        case rel => exact ⟨v8, xs ++ [(i + 1, T)], j + 1, rfl, rfl, by have := HJP.out; omega, HO8.out, HK8.out, by rw [List.length_append, List.length_singleton]; have := HXL2.out; omega, HNX⟩
     | true =>
      rw [show (cur.getLast? == some 92) = true from he] at HSF
      have hcn : cur ≠ [] := by rintro rfl; cases he
      obtain ⟨m, hm⟩ : ∃ m, T.length = m + 1 := by
       have := List.length_pos_iff.2 hcn
       have e := congrArg List.length hT
       rw [List.length_append] at e
       exact ⟨T.length - 1, by omega⟩
      have hTd : (bs T).extract 0 m = bs (pre ++ cur.dropLast) := by
       rw [bs_take, hT, show m = T.length - 1 by omega, hT, ← List.dropLast_eq_take, List.dropLast_append_of_ne_nil hcn]
      have hbz : ((bs T).size : Int) = ((m + 1 : Nat) : Int) := by rw [bs_size, hm]
      have HTd := qH hTd
      have hwm : IntKind.i64.wrap ((m : Int) + 1 - 1) = (m : Int) := by rw [IntKind.wrap_i64]; omega
      have hwm2 : IntKind.i64.wrap (((bs T).size : Int) - 1) = (m : Int) := by rw [hbz, IntKind.wrap_i64]; omega
      have hms : (m : Int) ≤ ((bs T).size : Int) := by rw [hbz]; omega
      have hms2 : m ≤ (bs T).size := by omega
      by_cases hlast : j + 1 = P
      ·have hdn : phys.drop (j + 1) = [] := List.drop_of_length_le (by rw [HPL.out]; omega)
       have hcd : contL cur [] = (cur.dropLast, []) := by rw [contL, if_pos he]
       have HCON := qH (show contL a (phys.drop (i + 1)) = (pre ++ cur.dropLast, phys.drop (j + 1)) by rw [HC.out, hdn, hcd])
       have hjeq : (((j : Int) + 1) == (P : Int)) = true := by simp; omega
       have HTB := qH (show (pre ++ cur.dropLast).length ≤ 500000000 by have := HTB.out; rw [hT, List.length_append] at this; rw [List.length_append, List.length_dropLast]; omega)
       obtain ⟨T2, hT2⟩ : ∃ T2, pre ++ cur.dropLast = T2 := ⟨_, rfl⟩
       rw [hT2] at HCON HTB HTd
       obtain ⟨wc, hwc⟩ : ∃ wc, wr.setCell ⟨tb, 1, none⟩ (.string (bs T2)) = wc := ⟨_, rfl⟩
       have HL2 := qH (show LAt wc tb (i + 1, T2) by rw [← hwc]; exact hat.put T2)
       obtain ⟨p0, p1⟩ := HL2.out.cells
       have HO2 := qH (show lnT.Own wc w1.heap.size v xs by rw [← hwc]; exact hox.set (p := ⟨tb, 1, none⟩) HOt.out _)
       have HK2 := qH (show Kp [] w1 wc by rw [← hwc]; exact hkx.setCell (.inr htw) _)
       rw [← HTd.out] at hwc
       clear HLx HOx HKx
       have HLx := HL2
       have HOx := HO2
       have HKx := HK2
       clear hcur hT hTl hat hox hkx HC hcl hPN he hjg hcn hTd hbz hdn hcd hlast hm hT2
       have HTR := qH (trim329 T2 wc (by have := HTB.out; omega))
       have HNX := qH (show (xs ++ (if blankL T2 then [] else [(i + 1, T2)])) ++ linesN (j + 1 + 1) (phys.drop (j + 1)) = linesL s from lines_step HLL.out HA.out HCON.out hij HJP.out HPL.out)
       cases hdw : T2.dropWhile fun b => b == 32 || b == 9 with
       | nil =>
        have hbl : blankL T2 = true := by unfold blankL; rw [hdw]
        rw [hdw] at HTR
        rw [hbl, if_pos rfl, List.append_nil] at HNX
        have he0 : (bs []).toList.isEmpty = true := bs_isEmpty []
        clear hdw hbl
        go_wp2_with (first
         | (go_at_call 45; refine cM (by with_reducible exact HTR.out) ?_; rintro r w5 ⟨rfl, hk⟩; have HK5 := qH (HKx.out.trans hk); have HO5 := qH (HOx.out.kp0 hk); have HL5 := qH (HLx.out.kp hk (by simp)); clear hk; obtain ⟨q0, q1⟩ := HL5.out.cells; obtain ⟨Nb, hNb⟩ : ∃ Nb, w5.heap.size = Nb := ⟨_, rfl⟩; obtain ⟨w7, hw7⟩ : ∃ w7, w5.alloc (.cells #[.int .i64 ((i : Int) + 1), .string (bs T2)] 39) = w7 := ⟨_, rfl⟩; have H7 := qH (ln_push (x := (i + 1, T2)) HK5.out HO5.out hNb hw7)) | (go_at_call 44; refine cM (by with_reducible exact HSF.out) ?_; rintro r w4 ⟨rfl, rfl⟩))
        go_roundg (P - (j + 1))
        case measure => have h1 := HIG.out; have h2 := HJP.out; omega
        case rel => exact ⟨v, xs, j + 1, rfl, rfl, by have := HJP.out; omega, HO5.out, HK5.out, by have := HXL2.out; omega, HNX⟩
       | cons b0 r0 =>
        rw [hdw] at HTR
        have he0 : (bs (b0 :: r0)).toList.isEmpty = false := bs_isEmpty _
        have hz0 : (0 : Int) < ((bs (b0 :: r0)).size : Int) := by simp [bs_size]
        by_cases hb0 : b0 = 35
        ·have hbl : blankL T2 = true := by unfold blankL; rw [hdw, hb0]; rfl
         have hcn : ((b0.toNat : Int) != 35) = false := by rw [hb0]; rfl
         have hcn2 : ((((bs (b0 :: r0))[0]'(by simp [bs_size])).toNat : Int) != 35) = false := hcn
         rw [hbl, if_pos rfl, List.append_nil] at HNX
         clear hdw hbl hb0
         go_wp2_with (first
          | (go_at_call 45; refine cM (by with_reducible exact HTR.out) ?_; rintro r w5 ⟨rfl, hk⟩; have HK5 := qH (HKx.out.trans hk); have HO5 := qH (HOx.out.kp0 hk); have HL5 := qH (HLx.out.kp hk (by simp)); clear hk; obtain ⟨q0, q1⟩ := HL5.out.cells; obtain ⟨Nb, hNb⟩ : ∃ Nb, w5.heap.size = Nb := ⟨_, rfl⟩; obtain ⟨w7, hw7⟩ : ∃ w7, w5.alloc (.cells #[.int .i64 ((i : Int) + 1), .string (bs T2)] 39) = w7 := ⟨_, rfl⟩; have H7 := qH (ln_push (x := (i + 1, T2)) HK5.out HO5.out hNb hw7)) | (go_at_call 44; refine cM (by with_reducible exact HSF.out) ?_; rintro r w4 ⟨rfl, rfl⟩))
         go_roundg (P - (j + 1))
         case measure => have h1 := HIG.out; have h2 := HJP.out; omega
         case rel => exact ⟨v, xs, j + 1, rfl, rfl, by have := HJP.out; omega, HO5.out, HK5.out, by have := HXL2.out; omega, HNX⟩
        ·have hbl : blankL T2 = false := by unfold blankL; rw [hdw]; simpa using hb0
         have hcn : ((b0.toNat : Int) != 35) = true := by
          simp only [bne_iff_ne, ne_eq]
          intro h
          exact hb0 (UInt8.toNat_inj.1 (by have : (35 : UInt8).toNat = 35 := rfl; omega))
         have hcn2 : ((((bs (b0 :: r0))[0]'(by simp [bs_size])).toNat : Int) != 35) = true := hcn
         rw [hbl, if_neg Bool.false_ne_true] at HNX
         clear hdw hbl hb0
         go_wp2_with (first
          | (go_at_call 45; refine cM (by with_reducible exact HTR.out) ?_; rintro r w5 ⟨rfl, hk⟩; have HK5 := qH (HKx.out.trans hk); have HO5 := qH (HOx.out.kp0 hk); have HL5 := qH (HLx.out.kp hk (by simp)); clear hk; obtain ⟨q0, q1⟩ := HL5.out.cells; obtain ⟨Nb, hNb⟩ : ∃ Nb, w5.heap.size = Nb := ⟨_, rfl⟩; obtain ⟨w7, hw7⟩ : ∃ w7, w5.alloc (.cells #[.int .i64 ((i : Int) + 1), .string (bs T2)] 39) = w7 := ⟨_, rfl⟩; have H7 := qH (ln_push (x := (i + 1, T2)) HK5.out HO5.out hNb hw7))
          | (at_builtin; refine wpList_append_r (r := lnT) rfl (.tmp 73) (.tmp 75) rfl w1.heap.size v xs rfl H7.out.2.1 Nb 1 (i + 1, T2) rfl H7.out.2.2 HXL.out H7.out.1.size ?_; intro v8 w8 hown8 hgr8; have HO8 := qH hown8; have HK8 := qH (kp_grownK H7.out.1 hgr8 fun b hb => (H7.out.2.1.ge b hb).1); clear hown8 hgr8) | (go_at_call 44; refine cM (by with_reducible exact HSF.out) ?_; rintro r w4 ⟨rfl, rfl⟩))
         go_roundg (P - (j + 1))
         case measure => have h1 := HIG.out; have h2 := HJP.out; omega
         case rel => exact ⟨v8, xs ++ [(i + 1, T2)], j + 1, rfl, rfl, by have := HJP.out; omega, HO8.out, HK8.out, by rw [List.length_append, List.length_singleton]; have := HXL2.out; omega, HNX⟩
      ·have hdn : ∃ b, phys[j + 1]? = some b := ⟨_, List.getElem?_eq_getElem (by rw [HPL.out]; omega)⟩
       obtain ⟨nb, hnb⟩ := hdn
       have hnl : nb.length ≤ 10000 := HPB.out nb (List.mem_of_getElem? hnb)
       have hjeq : (((j : Int) + 1) == (P : Int)) = false := by simp; omega
       have hcb : wr.cell? ⟨A, j + 1, none⟩ = some (.string (bs nb)) := (HS.out.kp HA1.out hkx) (j + 1) nb hnb
       have hjz2 : (j : Int) + 1 < (P : Int) := by omega
       obtain ⟨T2, hT2⟩ : ∃ T2, pre ++ cur.dropLast = T2 := ⟨_, rfl⟩
       have hT2l : T2.length ≤ (j + 1) * 10000 := by rw [← hT2, List.length_append, List.length_dropLast]; have := congrArg List.length hT; rw [List.length_append] at this; omega
       rw [hT2] at HTd
       have HC2 := qH (show contL a (phys.drop (i + 1)) = (T2 ++ (contL nb (phys.drop (j + 1 + 1))).1, (contL nb (phys.drop (j + 1 + 1))).2) by
        rw [HC.out, drop_get hnb, contL, if_pos he, ← hT2, List.append_assoc])
       obtain ⟨wc, hwc⟩ : ∃ wc, wr.setCell ⟨tb, 1, none⟩ (.string (bs T2)) = wc := ⟨_, rfl⟩
       have hat2 : LAt wc tb (i + 1, T2) := by rw [← hwc]; exact hat.put T2
       have hox2 : lnT.Own wc w1.heap.size v xs := by rw [← hwc]; exact hox.set (p := ⟨tb, 1, none⟩) HOt.out _
       have hkx2 : Kp [] w1 wc := by rw [← hwc]; exact hkx.setCell (.inr htw) _
       have hcb2 : wc.cell? ⟨A, j + 1, none⟩ = some (.string (bs nb)) := (HS.out.kp HA1.out hkx2) (j + 1) nb hnb
       obtain ⟨p0, p1⟩ := hat2.cells
       have pf := fun o => hat2.frz (o := o)
       have HAT2 := qH hat2
       have HOX2 := qH hox2
       have HKX2 := qH hkx2
       rw [← HTd.out] at hwc
       have hadd := fun W => @run_add_strO Tryz.prog W (bs T2) (bs nb) (by rw [bs_size, bs_size]; omega)
       have HAD := qH (bs_appO T2 nb)
       have HNB := qH hnb
       have HLEN := qH (show (T2 ++ nb).length ≤ (j + 1 + 1) * 10000 by rw [List.length_append]; omega)
       clear hcur hT hTl hat hox hkx HC hcl hPN he hjg hcn hTd hbz hlast hm hT2 hat2 hox2 hkx2 hnb hnl hT2l
       go_wp2_with (first
        | (go_at_call 44; refine cM (by with_reducible exact HSF.out) ?_; rintro r w4 ⟨rfl, rfl⟩))
       go_region
       all_goals
        go_wp2
        rw [HAD.out]
        go_roundg (P - (j + 1))
        case measure => have := HJG.out; omega
        case rel =>
         exact ⟨j + 1, T2 ++ nb, T2, nb, rfl, by have := HJP.out; omega, by omega, HNB.out, rfl, HLEN.out, LAt.put (x := (i + 1, T2)) HAT2.out _, HOX2.out.set (p := ⟨tb, 1, none⟩) HOt.out _, (HKX2.out.setCell (.inr htw) _).drew 1, HC2⟩
   ·have hie : i = P := by omega
    have HEX := qH (show xs = linesL s by
     have h := HLL.out
     rw [hie, List.drop_of_length_le (by rw [HPL.out]; exact Nat.le_refl _)] at h
     simpa [linesN] using h)
    have hiz : ¬ ((i : Int) < (P : Int)) := by omega
    clear hie
    go_wp2
    go_ret
    rw [← HEX.out]
    exact ⟨_, rfl, HO.out.down (by have := HK1.out.size; omega), HK1.out.trans HK.out⟩
end Go.Proofs.YtkkibibecgcbmaaGreatDoor.Lx
