/- LxZA -/
import Derived.Test.YtkkibibecgcbmaaGreatDoorQLxZ
open Go.Lib renaming hid → qH
open Go.Calls renaming mono → cM
set_option maxRecDepth 100000
set_option maxHeartbeats 16000000
namespace Go.Proofs.YtkkibibecgcbmaaGreatDoor.Lx
open Go.RowKit
theorem all_mid {p : UInt8 → Bool} {l : List UInt8} {i : Nat} (h1 : 1 ≤ i) (hi : i < l.length) (h : ((l.take i).drop 1).all p = true) (hp : p l[i] = true) : ((l.take (i + 1)).drop 1).all p = true := by
 rw [List.take_add_one, List.getElem?_eq_getElem hi, List.drop_append_of_le_length (by rw [List.length_take]; omega), List.all_append, h]
 simp [hp]
theorem span_mid {p : UInt8 → Bool} {r1 s1 : List UInt8} {c : UInt8} {i : Nat} (hr : r1 = c :: s1) (h1 : 1 ≤ i) (h : ((r1.take i).drop 1).all p = true) (hn : ∀ hi : i < r1.length, p r1[i] = false) : spanL p s1 = ((r1.take i).drop 1, r1.drop i) := by
 subst hr
 obtain ⟨j, rfl⟩ : ∃ j, i = j + 1 := ⟨i - 1, by omega⟩
 rw [List.take_succ_cons, List.drop_succ_cons, List.drop_zero] at h
 rw [List.take_succ_cons, List.drop_succ_cons, List.drop_zero, List.drop_succ_cons]
 exact span_at h (fun hi => by
  have := hn (by simp; omega)
  simpa using this)
theorem ops_cell2 {w W : World} {S : List Nat} (hk : Kp S (w.alloc (.cells opsCells 9)) W) (hs : w.heap.size ∉ S) {j : Nat} {o : List UInt8} (h : opsL[j]? = some o) : W.cell? ⟨w.heap.size, j, none⟩ = some (.string (bs o)) := by
 have hb := (hk.block w.heap.size (by simp) hs).trans (heap_alloc_last w (.cells opsCells 9))
 rw [cell_of_row _ _ _ _ _ _ hb]
 have hj := (List.getElem?_eq_some_iff.1 h).1
 have hj6 : j < 6 := hj
 match j, hj6 with
 | 0, _ => cases h; rfl
 | 1, _ => cases h; rfl
 | 2, _ => cases h; rfl
 | 3, _ => cases h; rfl
 | 4, _ => cases h; rfl
 | 5, _ => cases h; rfl
theorem nmT_nil (kk : List UInt8) (c : UInt8) (s2 : List UInt8) : nmT kk [] (c :: s2) = .bad := rfl
theorem nmT_yes {kk nn : List UInt8} (hn : nn ≠ []) (s2 : List UInt8) : nmT kk nn (125 :: s2) = opL kk nn s2 := by simp [nmT, hn]
theorem nmT_no {kk nn : List UInt8} {c : UInt8} (hn : nn ≠ []) (hc : c ≠ 125) (s2 : List UInt8) : nmT kk nn (c :: s2) = .bad := by simp [nmT, hn, hc]
theorem ops_ne {j : Nat} {o : List UInt8} (h : opsL[j]? = some o) : o ≠ [] ∧ o.length ≤ 2 := by
 have h1 : ∀ o ∈ opsL, (!o.isEmpty && decide (o.length ≤ 2)) = true := by decide
 have := h1 o (List.mem_of_getElem? h)
 rw [Bool.and_eq_true, decide_eq_true_eq] at this
 exact ⟨by rintro rfl; simp at this, this.2⟩
theorem preV_nil (x : Rd (List UInt8)) : preV [] x = x := by cases x <;> rfl
theorem by_push {w1 wr w7 : World} {v : Value} {acc : List UInt8} {B Nb : Nat} {b : UInt8} (hk : Kp [] w1 wr) (ho : byT.Own wr B v acc) (hNb : wr.heap.size = Nb) (hw7 : wr.alloc (.cells #[.int .u8 (b.toNat : Int)] 5) = w7) : Kp [] w1 w7 ∧ byT.Own w7 B v acc ∧ w7.rangeAt Nb 0 (byT.cf b) := by
 have hk7 : Kp [] wr w7 := by rw [← hw7]; exact (Kp.refl [] wr).alloc _
 refine ⟨hk.trans hk7, ho.kp0 hk7, fun j u hj => ?_⟩
 rw [← hw7, ← hNb, cell_of_row _ _ _ _ _ _ (heap_alloc_last wr _), List.getElem?_toArray, Nat.zero_add]
 exact hj
theorem op_prefix {s oo : List UInt8} (h : (oo = [] ∧ opOf s = none) ∨ (oo ≠ [] ∧ opOf s = some oo)) : oo.length ≤ s.length := by
 rcases h with ⟨rfl, _⟩ | ⟨_, h⟩
 ·simp
 ·have := List.find?_some h
  exact (List.isPrefixOf_iff_prefix.1 this).length_le
theorem token_any (s : List UInt8) (w : World) (hl : s.length ≤ 1024) : Calls Tryz.prog 78 #[.string (bs s)] w fun r w' => ∃ t rest, ∃ e : Nat, r = .returned (.tuple #[.agg (tokC t), .string (bs rest), .int .i64 (e : Int)]) ∧ TokR s t rest e ∧ Kp [] w w' := by
 obtain ⟨R, hR⟩ : ∃ R, w.heap.size = R := ⟨_, rfl⟩
 obtain ⟨T, hT⟩ : ∃ T, R + 1 = T := ⟨_, rfl⟩
 obtain ⟨W0, hW⟩ : ∃ W0, (w.alloc (.cells #[.string ⟨#[]⟩, .string ⟨#[]⟩, .string ⟨#[]⟩, .string ⟨#[]⟩] 81)).alloc (.cells #[.string ⟨#[]⟩, .string ⟨#[]⟩, .string ⟨#[]⟩, .string ⟨#[]⟩] 81) = W0 := ⟨_, rfl⟩
 have hK : Kp [] w W0 := by rw [← hW]; exact ((Kp.refl [] w).alloc _).alloc _
 have hTA : TAt W0 T tok0 := by
  have h := heap_alloc_last (w.alloc (.cells #[.string ⟨#[]⟩, .string ⟨#[]⟩, .string ⟨#[]⟩, .string ⟨#[]⟩] 81)) (.cells #[.string ⟨#[]⟩, .string ⟨#[]⟩, .string ⟨#[]⟩, .string ⟨#[]⟩] 81)
  rw [hW, show (w.alloc (.cells #[.string ⟨#[]⟩, .string ⟨#[]⟩, .string ⟨#[]⟩, .string ⟨#[]⟩] 81)).heap.size = T by simp; omega] at h
  exact h
 have hRA : TAt W0 R tok0 := by
  have h := heap_alloc_last w (.cells #[.string ⟨#[]⟩, .string ⟨#[]⟩, .string ⟨#[]⟩, .string ⟨#[]⟩] 81)
  rw [← hW, ← hR]
  exact (((Kp.refl [] _).alloc _).block _ (by simp) (by simp)).trans h
 have hRT : R ≠ T := by omega
 have hTR : T ≠ R := by omega
 have hRw : w.heap.size ≤ R := by omega
 have hTw : w.heap.size ≤ T := by omega
 obtain ⟨c0, c1, c2, c3⟩ := hTA.cells
 obtain ⟨e0, e1, e2, e3⟩ := hRA.cells
 have cf := fun o => hTA.frz (o := o)
 have rf := fun o => hRA.frz (o := o)
 have HK := qH hK
 have HT := qH hTA
 have HR := qH hRA
 have HU := qH upper_any
 have HNM := qH named_any
 have HL := qH hl
 clear hK hTA hRA hl
 go_enter Tryz.func78, Tryz.ntmps78
 go_upto_block 0 with fail
 go_cut [6] (fun s6 wx => W0 = wx ∧ ∃ i : Nat, s6 = .int .i64 (i : Int) ∧ i ≤ s.length ∧ Hid (spanL upCh s = (s.take i, s.drop i)))
 case first =>
  go_wp2_with fail
  go_loopg [6] s.length (fun g s6 wx => W0 = wx ∧ ∃ i : Nat, s6 = .int .i64 (i : Int) ∧ i + g = s.length ∧ Hid ((s.take i).all upCh = true))
  case atStart => exact ⟨rfl, 0, rfl, by omega, qH rfl⟩
  case round =>
   obtain ⟨rfl, i, rfl, hig, HG3⟩ := hrel
   have hbz : (bs s).size = s.length := bs_size _
   by_cases hi : i < s.length
   ·obtain ⟨g, rfl⟩ : ∃ g, gk = g + 1 := ⟨gk - 1, by omega⟩
    have hi2 : i < (bs s).size := by rw [hbz]; exact hi
    have hiz : (i : Int) < ((bs s).size : Int) := by omega
    have hwi : IntKind.i64.wrap ((i : Int) + 1) = ((i + 1 : Nat) : Int) := by rw [IntKind.wrap_i64]; have := HL.out; omega
    have HI := qH hig
    cases hc : upCh ((bs s)[i]'hi2) with
    | false =>
     have HC := qH (show Calls Tryz.prog 111 #[.int .u8 (((bs s)[i]'hi2).toNat : Int)] W0 fun r w' => r = .returned (.bool false) ∧ W0 = w' from hc ▸ HU.out ((bs s)[i]'hi2) W0)
     have HS := qH (span_at HG3.out (fun _ => hc))
     clear hc hig hi hbz HG3
     go_wp2_with (go_at_call 111; refine cM (by with_reducible exact HC.out) ?_; rintro r w4 ⟨rfl, rfl⟩)
     go_meet
     exact ⟨rfl, i, rfl, by have := HI.out; omega, HS⟩
    | true =>
     have HC := qH (show Calls Tryz.prog 111 #[.int .u8 (((bs s)[i]'hi2).toNat : Int)] W0 fun r w' => r = .returned (.bool true) ∧ W0 = w' from hc ▸ HU.out ((bs s)[i]'hi2) W0)
     have HG2 := qH (show (s.take (i + 1)).all upCh = true from all_at hi HG3.out hc)
     clear hc hig hi hbz
     go_wp2_with (go_at_call 111; refine cM (by with_reducible exact HC.out) ?_; rintro r w4 ⟨rfl, rfl⟩)
     go_roundg g
     case measure => omega
     case rel => exact ⟨rfl, i + 1, rfl, by have := HI.out; omega, HG2⟩
   ·have hiz : ¬ ((i : Int) < ((bs s).size : Int)) := by omega
    have HS := qH (span_at HG3.out (fun h => absurd h hi))
    clear hi hbz HG3
    go_wp2
    go_meet
    exact ⟨rfl, i, rfl, by omega, HS⟩
 case rest =>
 obtain ⟨rfl, i, rfl, hi, HSP⟩ := hcut
 obtain ⟨kk, hkk⟩ : ∃ kk, s.take i = kk := ⟨_, rfl⟩
 obtain ⟨r1, hr1⟩ : ∃ r1, s.drop i = r1 := ⟨_, rfl⟩
 have htl := tokenL_at HSP.out
 rw [hkk, hr1] at htl
 by_cases hi0 : i = 0
 ·have hiz : ((i : Int) == 0) = true := by rw [hi0]; rfl
  rw [if_pos (by rw [← hkk, hi0]; rfl)] at htl
  have HB := qH htl
  clear htl hi hi0 hkk hr1
  go_wp2
  refine tok_end (TAt.all HR.out tok0) rfl rfl rfl rfl ⟨_, [], 82, rfl, TokR.bad HB.out _ _, ?_⟩
  exact ((((HK.out.setCell (.inr hRw) _).setCell (.inr hRw) _).setCell (.inr hRw) _).setCell (.inr hRw) _)
 ·have hiz : ((i : Int) == 0) = false := by simp; exact hi0
  have hkn : kk ≠ [] := by rw [← hkk]; intro h; rw [List.take_eq_nil_iff] at h; rcases h with h | h; exact hi0 h; rw [h] at hi; simp at hi; exact hi0 hi
  rw [if_neg hkn] at htl
  have HTL := qH htl
  have his : (i : Int) ≤ ((bs s).size : Int) := by rw [bs_size]; omega
  have hi00 : (0 : Int) ≤ (i : Int) := by omega
  have HRL := qH (show r1.length ≤ 1024 by rw [← hr1, List.length_drop]; have := HL.out; omega)
  have HKK := qH hkk
  have HR1 := qH hr1
  clear htl hi hi0 hkk hr1
  obtain ⟨W1, hW1⟩ : ∃ W1, (W0.setCell ⟨T, 0, none⟩ (.string (bs kk))).drew = W1 := ⟨_, rfl⟩
  have HT1 := qH (show TAt W1 T ⟨kk, [], [], []⟩ by rw [← hW1]; exact (HT.out.put0 kk).drew)
  have HRR1 := qH (show TAt W1 R tok0 by rw [← hW1]; exact (HR.out.other (p := ⟨T, 0, none⟩) hRT _).drew)
  have HK1 := qH (show Kp [] w W1 by rw [← hW1]; exact (HK.out.setCell (.inr hTw) _).drew 1)
  have HP1 := qH (show Calls Tryz.prog 112 #[.string (bs r1), .string ⟨#[123]⟩] W1 fun r w' => r = .returned (.bool (List.isPrefixOf [123] r1)) ∧ W1 = w' from pre_any r1 [123] W1)
  clear hW
  go_wp2
  go_region
  rw [bs_take, bs_drop, HKK.out, HR1.out, hW1]
  clear hW1 c0 c1 c2 c3 e0 e1 e2 e3 cf rf
  obtain ⟨c0, c1, c2, c3⟩ := HT1.out.cells
  obtain ⟨e0, e1, e2, e3⟩ := HRR1.out.cells
  have cf := fun o => HT1.out.frz (o := o)
  have rf := fun o => HRR1.out.frz (o := o)
  obtain ⟨hb, hbe⟩ : ∃ hb, List.isPrefixOf [123] r1 = hb := ⟨_, rfl⟩
  rw [hbe] at HP1
  have HBE := qH hbe
  clear hbe
  go_upto_if 34 with (go_at_call 112; refine cM (by with_reducible exact HP1.out) ?_; rintro r w4 ⟨rfl, rfl⟩)
  go_cut [0, 6] (fun s0 s6 wx => ∃ nn s2 : List UInt8, s0 = .string (bs s2) ∧ Hid (tokenL s = opL kk nn s2) ∧ TAt wx T ⟨kk, nn, [], []⟩ ∧ TAt wx R tok0 ∧ Kp [] w wx ∧ s2.length ≤ 1024)
  case first =>
   cases hb with
   | false =>
    have hbn : ∀ r, r1 ≠ 123 :: r := fun r hr => by have := (pre_iff 123 r1).2 ⟨r, hr⟩; rw [HBE.out] at this; cases this
    have HX := qH (show tokenL s = opL kk [] r1 by rw [HTL.out, tokM_plain hbn])
    clear hbn
    go_wp2
    go_meet
    exact ⟨[], r1, rfl, HX, HT1.out, HRR1.out, HK1.out, HRL.out⟩
   | true =>
    obtain ⟨s1, hs1⟩ := (pre_iff 123 r1).1 HBE.out
    have HS1 := qH hs1
    have HTN := qH (show tokenL s = nameL kk s1 by rw [HTL.out, hs1]; rfl)
    clear hs1
    go_upto_block 2 with fail
    go_cut [6] (fun s6 wx => W1 = wx ∧ ∃ n : Nat, s6 = .int .i64 (n : Int) ∧ 1 ≤ n ∧ n ≤ r1.length ∧ Hid (spanL nmCh s1 = ((r1.take n).drop 1, r1.drop n)))
    case first =>
     go_wp2_with fail
     go_loopg [6] (r1.length - 1) (fun g s6 wx => W1 = wx ∧ ∃ n : Nat, s6 = .int .i64 (n : Int) ∧ 1 ≤ n ∧ n + g = r1.length ∧ Hid (((r1.take n).drop 1).all nmCh = true))
     case atStart => exact ⟨rfl, 1, rfl, Nat.le_refl _, by rw [HS1.out]; simp; omega, qH (by rw [HS1.out]; rfl)⟩
     case round =>
      obtain ⟨rfl, n, rfl, hn1, hig, HG3⟩ := hrel
      have hbz : (bs r1).size = r1.length := bs_size _
      have HN1 := qH hn1
      by_cases hi : n < r1.length
      ·obtain ⟨g, rfl⟩ : ∃ g, gk = g + 1 := ⟨gk - 1, by omega⟩
       have hi2 : n < (bs r1).size := by rw [hbz]; exact hi
       have hiz : (n : Int) < ((bs r1).size : Int) := by omega
       have hwi : IntKind.i64.wrap ((n : Int) + 1) = ((n + 1 : Nat) : Int) := by rw [IntKind.wrap_i64]; have := HRL.out; omega
       have HI := qH hig
       cases hc : nmCh ((bs r1)[n]'hi2) with
       | false =>
        have HC := qH (show Calls Tryz.prog 113 #[.int .u8 (((bs r1)[n]'hi2).toNat : Int)] W1 fun r w' => r = .returned (.bool false) ∧ W1 = w' from hc ▸ HNM.out ((bs r1)[n]'hi2) W1)
        have HS := qH (span_mid HS1.out HN1.out HG3.out (fun _ => hc))
        clear hc hig hi hbz HG3 hn1
        go_wp2_with (go_at_call 113; refine cM (by with_reducible exact HC.out) ?_; rintro r w4 ⟨rfl, rfl⟩)
        go_meet
        exact ⟨rfl, n, rfl, HN1.out, by have := HI.out; omega, HS⟩
       | true =>
        have HC := qH (show Calls Tryz.prog 113 #[.int .u8 (((bs r1)[n]'hi2).toNat : Int)] W1 fun r w' => r = .returned (.bool true) ∧ W1 = w' from hc ▸ HNM.out ((bs r1)[n]'hi2) W1)
        have HG2 := qH (show ((r1.take (n + 1)).drop 1).all nmCh = true from all_mid HN1.out hi HG3.out hc)
        clear hc hig hi hbz hn1
        go_wp2_with (go_at_call 113; refine cM (by with_reducible exact HC.out) ?_; rintro r w4 ⟨rfl, rfl⟩)
        go_roundg g
        case measure => omega
        case rel => exact ⟨rfl, n + 1, rfl, by omega, by have := HI.out; omega, HG2⟩
      ·have hiz : ¬ ((n : Int) < ((bs r1).size : Int)) := by omega
       have HS := qH (span_mid HS1.out HN1.out HG3.out (fun h => absurd h hi))
       clear hi hbz HG3 hn1
       go_wp2
       go_meet
       exact ⟨rfl, n, rfl, HN1.out, by omega, HS⟩
    case rest =>
    obtain ⟨rfl, n, rfl, hn1, hnl, HSN⟩ := hcut
    have HN1 := qH hn1
    have htn := nameL_at (kk := kk) HSN.out
    rw [← HTN.out] at htn
    by_cases hne : n = r1.length
    ·have hz : ((n : Int) == ((bs r1).size : Int)) = true := by rw [hne]; simp [bs_size]
     have HB := qH (show tokenL s = .cut by rw [htn, hne, List.drop_length]; rfl)
     clear htn hne hn1 hnl
     go_wp2
     refine tok_end (TAt.all HRR1.out ⟨kk, [], [], []⟩) rfl rfl rfl rfl ⟨_, [], 83, rfl, TokR.cut HB.out _ _, ?_⟩
     exact ((((HK1.out.setCell (.inr hRw) _).setCell (.inr hRw) _).setCell (.inr hRw) _).setCell (.inr hRw) _)
    ·have hz : ((n : Int) == ((bs r1).size : Int)) = false := by rw [bs_size]; simp; omega
     have hn2 : n < r1.length := by omega
     have hn3 : n < (bs r1).size := by rw [bs_size]; exact hn2
     have hn4 : (n : Int) < ((bs r1).size : Int) := by omega
     obtain ⟨c, hcv⟩ : ∃ c, r1[n]? = some c := ⟨_, List.getElem?_eq_getElem hn2⟩
     have hcb : (bs r1)[n]'hn3 = c := (List.getElem?_eq_some_iff.1 hcv).2
     rw [drop_get hcv] at htn
     by_cases hno : n = 1
     ·have hz1 : ((n : Int) == 1) = true := by rw [hno]; rfl
      rw [show (r1.take n).drop 1 = [] by rw [hno]; exact List.drop_eq_nil_of_le (by rw [List.length_take]; omega), nmT_nil] at htn
      have HB := qH htn
      clear htn hne hn1 hnl hno hn2 hcv hcb
      go_wp2
      refine tok_end (TAt.all HRR1.out ⟨kk, [], [], []⟩) rfl rfl rfl rfl ⟨_, [], 82, rfl, TokR.bad HB.out _ _, ?_⟩
      exact ((((HK1.out.setCell (.inr hRw) _).setCell (.inr hRw) _).setCell (.inr hRw) _).setCell (.inr hRw) _)
     ·have hz1 : ((n : Int) == 1) = false := by simp; omega
      have hnz : (r1.take n).drop 1 ≠ [] := by
       intro h
       have := congrArg List.length h
       rw [List.length_drop, List.length_take] at this
       simp at this
       omega
      by_cases hc : c = 125
      ·have hcc : ((((bs r1)[n]'hn3).toNat : Int) != 125) = false := by rw [hcb, hc]; rfl
       rw [hc, nmT_yes hnz] at htn
       have HB := qH htn
       obtain ⟨nn, hnn⟩ : ∃ nn, (r1.take n).drop 1 = nn := ⟨_, rfl⟩
       rw [hnn] at HB
       have HNN := qH hnn
       have hw2 : IntKind.i64.wrap ((n : Int) + 1) = (n : Int) + 1 := by rw [IntKind.wrap_i64]; have := HRL.out; omega
       have ha1 : (1 : Int) ≤ (n : Int) := by omega
       have ha2 : (n : Int) ≤ ((bs r1).size : Int) := by omega
       have ha3 : (0 : Int) ≤ (n : Int) + 1 := by omega
       have ha4 : (n : Int) + 1 ≤ ((bs r1).size : Int) := by omega
       have ha5 : ((n : Int) + 1).toNat = n + 1 := by omega
       clear htn hne hn1 hnl hno hn2 hc hnn hcv hcb hnz
       go_wp2
       go_region
       rw [bs_drop, bs_mid, HNN.out]
       go_wp2
       go_meet
       exact ⟨nn, _, rfl, HB, (HT1.out.put1 nn).drew, (HRR1.out.other (p := ⟨T, 1, none⟩) hRT _).drew, (HK1.out.setCell (.inr hTw) _).drew 1, by rw [List.length_drop]; have := HRL.out; omega⟩
      ·have hcc : ((((bs r1)[n]'hn3).toNat : Int) != 125) = true := by
        simp only [bne_iff_ne, ne_eq]
        intro h
        exact hc (UInt8.toNat_inj.1 (by have : (125 : UInt8).toNat = 125 := rfl; rw [hcb] at h; omega))
       rw [nmT_no hnz hc] at htn
       have HB := qH htn
       clear htn hne hn1 hnl hno hn2 hc hcv hcb hnz
       go_wp2
       refine tok_end (TAt.all HRR1.out ⟨kk, [], [], []⟩) rfl rfl rfl rfl ⟨_, [], 82, rfl, TokR.bad HB.out _ _, ?_⟩
       exact ((((HK1.out.setCell (.inr hRw) _).setCell (.inr hRw) _).setCell (.inr hRw) _).setCell (.inr hRw) _)
  case rest =>
  obtain ⟨nn, s2, rfl, HTO, hT2, hR2, hK2, hl2⟩ := hcut
  clear HP1 HBE HTL HRL HKK HR1 HT1 HRR1 HK1 c0 c1 c2 c3 e0 e1 e2 e3 cf rf HSP HT HR HK hiz his hi00 HU HNM
  obtain ⟨O, hO⟩ : ∃ O, wc.heap.size = O := ⟨_, rfl⟩
  obtain ⟨W3, hW3⟩ : ∃ W3, wc.alloc (.cells opsCells 9) = W3 := ⟨_, rfl⟩
  have hop := ops_any wc
  rw [hO, hW3] at hop
  have HOP := qH (show Calls Tryz.prog 114 #[] wc fun r w' => r = .returned (.slice (some ⟨O, 0, none⟩) 6 6) ∧ W3 = w' from hop.mono fun _ _ ⟨h1, h2⟩ => ⟨h1, h2.symm⟩)
  have hk3 : Kp [] wc W3 := by rw [← hW3]; exact (Kp.refl [] wc).alloc _
  have HT3 := qH (hT2.kp hk3 (by simp))
  have HR3 := qH (hR2.kp hk3 (by simp))
  have HK3 := qH (hK2.trans hk3)
  have hTwc : T < wc.heap.size := block_lt hT2
  have HOC := qH (show ∀ (W : World) (j : Nat) (o : List UInt8), Kp [T] W3 W → opsL[j]? = some o → W.cell? ⟨O, j, none⟩ = some (.string (bs o)) from fun W j o hk h => by
   rw [← hW3] at hk
   rw [← hO]
   exact ops_cell2 hk (by simp; omega) h)
  have HL2 := qH hl2
  clear hop hk3 hT2 hR2 hK2 hl2 hO hW3 hTwc
  go_upto_block 4 with (go_at_call 114; refine cM (by with_reducible exact HOP.out) ?_; rintro r w3 ⟨rfl, rfl⟩)
  go_cut [8] (fun s8 wx => ∃ oo : List UInt8, TAt wx T ⟨kk, nn, oo, []⟩ ∧ TAt wx R tok0 ∧ Kp [] w wx ∧ Hid ((oo = [] ∧ opOf s2 = none) ∨ (oo ≠ [] ∧ opOf s2 = some oo)))
  case first =>
   go_wp2_with fail
   go_loopg [8] 6 (fun g s8 wx => ∃ (i : Nat) (oo : List UInt8), s8 = .int .i64 (i : Int) ∧ i + g = 6 ∧ TAt wx T ⟨kk, nn, oo, []⟩ ∧ TAt wx R tok0 ∧ Kp [] w wx ∧ Kp [T] W3 wx ∧ Hid ((oo = [] ∧ (opsL.take i).find? (fun q => q.isPrefixOf s2) = none) ∨ (oo ≠ [] ∧ opOf s2 = some oo)))
   case atStart => exact ⟨0, [], rfl, rfl, HT3.out, HR3.out, HK3.out, Kp.refl _ _, qH (.inl ⟨rfl, rfl⟩)⟩
   case round =>
    obtain ⟨i, oo, rfl, hig, hT4, hR4, hK4, hKT, HFO⟩ := hrel
    obtain ⟨c0, c1, c2, c3⟩ := hT4.cells
    have cf := fun o => hT4.frz (o := o)
    have HT4 := qH hT4
    have HR4 := qH hR4
    have HK4 := qH hK4
    have HKT := qH hKT
    have HI := qH hig
    by_cases hi : i < 6
    ·have hiz : (i : Int) < 6 := by omega
     by_cases ho : oo = []
     ·obtain ⟨o, hoo⟩ : ∃ o, opsL[i]? = some o := ⟨_, List.getElem?_eq_getElem hi⟩
      have hcell := HOC.out _ _ _ hKT hoo
      have hpre := pre_any s2 o wr
      have hfn : (opsL.take i).find? (fun q => q.isPrefixOf s2) = none := by
       rcases HFO.out with h | h
       ·exact h.2
       ·exact absurd ho h.1
      obtain ⟨f1, f2⟩ := opOf_first hfn hoo
      have hoe2 : (bs oo).toList.isEmpty = true := by rw [bs_isEmpty, ho]; rfl
      obtain ⟨g, rfl⟩ : ∃ g, gk = g + 1 := ⟨gk - 1, by omega⟩
      have hwi : IntKind.i64.wrap ((i : Int) + 1) = ((i + 1 : Nat) : Int) := by rw [IntKind.wrap_i64]; omega
      have HON := qH (ops_ne hoo).1
      have HO := qH ho
      cases hp : o.isPrefixOf s2 with
      | false =>
       rw [hp] at hpre
       have HP := qH hpre
       have HF := qH (f2 hp)
       clear hpre hp f1 f2 hfn hoo ho hi hig hT4 hR4 hK4 hKT HFO
       go_wp2_with (go_at_call 112; refine cM (by with_reducible exact HP.out) ?_; rintro r w4 ⟨rfl, rfl⟩)
       go_roundg g
       case measure => omega
       case rel => exact ⟨i + 1, oo, rfl, by have := HI.out; omega, HT4.out, HR4.out, HK4.out, HKT.out, qH (.inl ⟨HO.out, HF.out⟩)⟩
      | true =>
       rw [hp] at hpre
       have HP := qH hpre
       have HF := qH (f1 hp)
       clear hpre hp f1 f2 hfn hoo ho hi hig hT4 hR4 hK4 hKT HFO
       go_wp2_with (go_at_call 112; refine cM (by with_reducible exact HP.out) ?_; rintro r w4 ⟨rfl, rfl⟩)
       go_roundg g
       case measure => omega
       case rel => exact ⟨i + 1, o, rfl, by have := HI.out; omega, HT4.out.put2 o, HR4.out.other (p := ⟨T, 2, none⟩) hRT _, HK4.out.setCell (.inr hTw) _, HKT.out.setCell (.inl (by simp)) _, qH (.inr ⟨HON.out, HF.out⟩)⟩
     ·have hoe2 : (bs oo).toList.isEmpty = false := by rw [bs_isEmpty]; simp [ho]
      have HF := qH (show (oo = [] ∧ opOf s2 = none) ∨ (oo ≠ [] ∧ opOf s2 = some oo) by
       rcases HFO.out with h | h
       ·exact absurd h.1 ho
       ·exact .inr h)
      clear ho hi hig hT4 hR4 hK4 hKT HFO
      go_wp2
      go_meet
      exact ⟨oo, HT4.out, HR4.out, HK4.out, HF⟩
    ·have hiz : ¬ ((i : Int) < 6) := by omega
     have HF := qH (show (oo = [] ∧ opOf s2 = none) ∨ (oo ≠ [] ∧ opOf s2 = some oo) by
      rcases HFO.out with h | h
      ·left
       refine ⟨h.1, ?_⟩
       have := h.2
       rw [show i = 6 by omega] at this
       exact this
      ·exact .inr h)
     clear hi hig hT4 hR4 hK4 hKT HFO
     go_wp2
     go_meet
     exact ⟨oo, HT4.out, HR4.out, HK4.out, HF⟩
  case rest =>
  obtain ⟨oo, hT4, hR4, hK4, HFO⟩ := hcut
  clear HOP HT3 HR3 HK3 HOC
  obtain ⟨c0, c1, c2, c3⟩ := hT4.cells
  obtain ⟨e0, e1, e2, e3⟩ := hR4.cells
  have cf := fun o => hT4.frz (o := o)
  have rf := fun o => hR4.frz (o := o)
  have HT4 := qH hT4
  have HR4 := qH hR4
  have HK4 := qH hK4
  have hol := op_prefix HFO.out
  have hos : ((bs oo).size : Int) ≤ ((bs s2).size : Int) := by rw [bs_size, bs_size]; omega
  obtain ⟨y, hy⟩ : ∃ y, s2.drop oo.length = y := ⟨_, rfl⟩
  have hex : (bs s2).extract (bs oo).size (bs s2).size = bs y := by rw [bs_drop, bs_size, hy]
  have HYL := qH (show y.length ≤ 1024 by rw [← hy, List.length_drop]; have := HL2.out; omega)
  have HY := qH hy
  clear hT4 hR4 hK4 hol hy
  by_cases ho : oo = []
  ·have hoe2 : (bs oo).toList.isEmpty = true := by rw [bs_isEmpty, ho]; rfl
   have HB := qH (show tokenL s = .bad by
    rw [HTO.out]
    rcases HFO.out with h | h
    ·exact opL_none h.2
    ·exact absurd ho h.1)
   clear ho HFO
   go_wp2
   refine tok_end (TAt.all HR4.out ⟨kk, nn, oo, []⟩) rfl rfl rfl rfl ⟨_, [], 82, rfl, TokR.bad HB.out _ _, ?_⟩
   exact ((((HK4.out.setCell (.inr hRw) _).setCell (.inr hRw) _).setCell (.inr hRw) _).setCell (.inr hRw) _)
  ·have hoe2 : (bs oo).toList.isEmpty = false := by rw [bs_isEmpty]; simp [ho]
   have HOF := qH (show opOf s2 = some oo by
    rcases HFO.out with h | h
    ·exact absurd h.1 ho
    ·exact h.2)
   have hpq := fun W => pre_any y [34] W
   cases hq : List.isPrefixOf [34] y with
   | false =>
    rw [hq] at hpq
    have HPQ := qH (show ∀ W, Calls Tryz.prog 112 #[.string (bs y), .string ⟨#[34]⟩] W fun r w' => r = .returned (.bool false) ∧ W = w' from hpq)
    have HB := qH (show tokenL s = .bad by
     rw [HTO.out]
     exact opL_noq HOF.out (fun r hr => by rw [HY.out] at hr; have := (pre_iff 34 y).2 ⟨r, hr⟩; rw [hq] at this; cases this))
    clear ho HFO hq hpq
    go_wp2_with (go_at_call 112; refine cM (by with_reducible exact HPQ.out _) ?_; rintro r w4 ⟨rfl, rfl⟩)
    refine tok_end (TAt.all HR4.out ⟨kk, nn, oo, []⟩) rfl rfl rfl rfl ⟨_, [], 82, rfl, TokR.bad HB.out _ _, ?_⟩
    exact ((((HK4.out.setCell (.inr hRw) _).setCell (.inr hRw) _).setCell (.inr hRw) _).setCell (.inr hRw) _)
   | true =>
    rw [hq] at hpq
    have HPQ := qH (show ∀ W, Calls Tryz.prog 112 #[.string (bs y), .string ⟨#[34]⟩] W fun r w' => r = .returned (.bool true) ∧ W = w' from hpq)
    obtain ⟨r, hyr⟩ := (pre_iff 34 y).1 hq
    have HYR := qH hyr
    have HTV := qH (show tokenL s = valM ⟨kk, nn, oo, []⟩ (valL r) by rw [HTO.out]; exact opL_yes HOF.out (by rw [HY.out, hyr]))
    clear ho HFO hq hpq hyr
    go_wp2_with (go_at_call 112; refine cM (by with_reducible exact HPQ.out _) ?_; rintro r w4 ⟨rfl, rfl⟩)
    have hB4 : wc.heap.size ≤ wc.heap.size := Nat.le_refl _
    have HY1 := qH (show 1 ≤ y.length by rw [HYR.out]; simp)
    clear HPQ c0 c1 c2 c3 e0 e1 e2 e3 cf rf hos hex hoe2 hB4
    go_loopg [9, 10] (y.length - 1) (fun g s9 s10 wx => ∃ (v : Value) (acc : List UInt8) (i : Nat), v = s9 ∧ s10 = .int .i64 (i : Int) ∧ i + g = y.length ∧ acc.length ≤ i ∧ Kp [] wc wx ∧ byT.Own wx wc.heap.size v acc ∧ Hid (valL r = preV acc (valL (y.drop i))))
    case atStart => exact ⟨_, [], 1, rfl, rfl, by have := HY1.out; omega, by simp, Kp.refl _ _, RT.Own.nil _ _ _, qH (by rw [HYR.out, preV_nil]; rfl)⟩
    case round =>
     obtain ⟨v, acc, i, rfl, rfl, hig, hal, hkw, hown, HV⟩ := hrel
     have hT5 := HT4.out.kp hkw (by simp)
     have hR5 := HR4.out.kp hkw (by simp)
     obtain ⟨c0, c1, c2, c3⟩ := hT5.cells
     obtain ⟨e0, e1, e2, e3⟩ := hR5.cells
     have cf := fun o => hT5.frz (o := o)
     have rf := fun o => hR5.frz (o := o)
     have HT5 := qH hT5
     have HR5 := qH hR5
     have HKW := qH hkw
     have HK5 := qH (HK4.out.trans hkw)
     have HO5 := qH hown
     have HI := qH (show i + gk = y.length ∧ acc.length ≤ i ∧ i ≤ 1024 from ⟨hig, hal, by have := HYL.out; omega⟩)
     have HAL := qH (show acc.length ≤ 1000000 by have := HYL.out; omega)
     by_cases hi : i < y.length
     ·have hi2 : i < (bs y).size := by rw [bs_size]; exact hi
      have hiz : (i : Int) < ((bs y).size : Int) := by omega
      have hiq : (i : Int) ≤ ((bs y).size : Int) := by omega
      obtain ⟨b, hb⟩ : ∃ b, (bs y)[i]'hi2 = b := ⟨_, rfl⟩
      have hyb : y[i]? = some b := by rw [← hb]; exact List.getElem?_eq_getElem hi
      have hd := drop_get hyb
      have HVD := qH (show valL r = preV acc (valL (b :: y.drop (i + 1))) by rw [HV.out, hd])
      obtain ⟨j, hj⟩ : ∃ j, i + 1 = j := ⟨_, rfl⟩
      rw [hj] at HVD
      have hwi : IntKind.i64.wrap ((i : Int) + 1) = (j : Int) := by rw [IntKind.wrap_i64]; have := HYL.out; omega
      have HJ := qH hj
      have HII := qH hi
      by_cases h34 : b = 34
      ·have hz34 : ((((bs y)[i]'hi2).toNat : Int) == 34) = true := by rw [hb, h34]; rfl
       have hcv := by_conv hown
       have HB := qH (show tokenL s = .ok ⟨kk, nn, oo, acc⟩ (y.drop j) by rw [HTV.out, HVD.out, h34, valL_quote]; simp [preV, valM])
       obtain ⟨W7, hW7⟩ : ∃ W7, wr.setCell ⟨T, 3, none⟩ (.string (bs acc)) = W7 := ⟨_, rfl⟩
       have hT7 : TAt W7 T ⟨kk, nn, oo, acc⟩ := by rw [← hW7]; exact hT5.put3 acc
       have hR7 : TAt W7 R tok0 := by rw [← hW7]; exact hR5.other (p := ⟨T, 3, none⟩) hRT _
       have HK7 := qH (show Kp [] w W7 by rw [← hW7]; exact HK5.out.setCell (.inr hTw) _)
       obtain ⟨g0, g1, g2, g3⟩ := hT7.cells
       have g0d : W7.drew.cell? ⟨T, 0, none⟩ = some (.string (bs kk)) := g0
       have g1d : W7.drew.cell? ⟨T, 1, none⟩ = some (.string (bs nn)) := g1
       have g2d : W7.drew.cell? ⟨T, 2, none⟩ = some (.string (bs oo)) := g2
       have g3d : W7.drew.cell? ⟨T, 3, none⟩ = some (.string (bs acc)) := g3
       obtain ⟨k0, k1, k2, k3⟩ := hR7.cells
       have gf := fun o => hT7.frz (o := o)
       have kf := fun o => hR7.frz (o := o)
       have kfd : ∀ o, W7.drew.frozen? ⟨R, o, none⟩ = false := kf
       have HR7 := qH hR7
       have hjq : (j : Int) ≤ ((bs y).size : Int) := by omega
       clear hig hal hkw hown hT5 hR5 hi hb hyb hd hj h34 hT7 hR7 HV HO5
       go_wp2
       go_region
       rw [bs_drop]
       go_wp2
       refine tok_end (TAt.all HR7.out ⟨kk, nn, oo, acc⟩).drew rfl rfl rfl rfl ⟨_, _, 0, rfl, TokR.ok HB.out, ?_⟩
       exact ((((HK7.out.setCell (.inr hRw) _).setCell (.inr hRw) _).setCell (.inr hRw) _).setCell (.inr hRw) _).drew 1
      ·have hz34 : ((((bs y)[i]'hi2).toNat : Int) == 34) = false := by
        rw [hb]
        simp only [beq_eq_false_iff_ne, ne_eq]
        intro h
        exact h34 (UInt8.toNat_inj.1 (by have : (34 : UInt8).toNat = 34 := rfl; omega))
       by_cases h9 : b = 9
       ·have hz9 : ((((bs y)[i]'hi2).toNat : Int) == 9) = true := by rw [hb, h9]; rfl
        have HB := qH (show tokenL s = .bad by rw [HTV.out, HVD.out, h9, valL_tab]; rfl)
        clear hig hal hkw hown hT5 hR5 hi hb hyb hd hj h34 h9 HV HO5
        go_wp2
        refine tok_end (TAt.all HR5.out ⟨kk, nn, oo, []⟩) rfl rfl rfl rfl ⟨_, [], 82, rfl, TokR.bad HB.out _ _, ?_⟩
        exact ((((HK5.out.setCell (.inr hRw) _).setCell (.inr hRw) _).setCell (.inr hRw) _).setCell (.inr hRw) _)
       ·have hz9 : ((((bs y)[i]'hi2).toNat : Int) == 9) = false := by
         rw [hb]
         simp only [beq_eq_false_iff_ne, ne_eq]
         intro h
         exact h9 (UInt8.toNat_inj.1 (by have : (9 : UInt8).toNat = 9 := rfl; omega))
        have hpe := pre_any (y.drop i) [92, 34] wr
        rw [← bs_drop] at hpe
        obtain ⟨Nb, hNb⟩ : ∃ Nb, wr.heap.size = Nb := ⟨_, rfl⟩
        cases hp : List.isPrefixOf [92, 34] (y.drop i) with
        | false =>
         rw [hp] at hpe
         have HP := qH (show Calls Tryz.prog 112 #[.string ((bs y).extract i (bs y).size), .string ⟨#[92, 34]⟩] wr fun r w' => r = .returned (.bool false) ∧ wr = w' from hpe)
         have HVN := qH (show valL r = preV (acc ++ [(bs y)[i]'hi2]) (valL (y.drop j)) by rw [HVD.out, valL_one b _ h34 h9 (by rw [← hj, ← hd]; exact hp), preV_app, hb])
         obtain ⟨w7, hw7⟩ : ∃ w7, wr.alloc (.cells #[.int .u8 (((bs y)[i]'hi2).toNat : Int)] 5) = w7 := ⟨_, rfl⟩
         have H7 := qH (by_push (b := (bs y)[i]'hi2) hkw hown hNb hw7)
         clear hig hal hkw hown hT5 hR5 hi hb hyb hd hj h34 h9 HV hpe hp
         go_wp2_with (first
          | (go_at_call 112; refine cM (by with_reducible exact HP.out) ?_; rintro r w4 ⟨rfl, rfl⟩)
          | (at_builtin; refine wpList_append_r (r := byT) rfl (.tmp 135) (.tmp 139) rfl wc.heap.size v acc rfl H7.out.2.1 Nb 1 ((bs y)[i]'hi2) rfl H7.out.2.2 HAL.out H7.out.1.size ?_; intro v8 w8 hown8 hgr8; have HO8 := qH hown8; have HK8 := qH (kp_grownK H7.out.1 hgr8 fun b hb => (H7.out.2.1.ge b hb).1); clear hown8 hgr8))
         go_roundg (y.length - j)
         case measure => have h1 := HI.out; have h2 := HJ.out; have h3 := HII.out; omega
         case rel => exact ⟨v8, _, j, rfl, rfl, by have h1 := HI.out; have h2 := HJ.out; have h3 := HII.out; omega, by have h1 := HI.out; have h2 := HJ.out; rw [List.length_append, List.length_singleton]; omega, HK8.out, HO8.out, HVN⟩
        | true =>
         rw [hp] at hpe
         have HP := qH (show Calls Tryz.prog 112 #[.string ((bs y).extract i (bs y).size), .string ⟨#[92, 34]⟩] wr fun r w' => r = .returned (.bool true) ∧ wr = w' from hpe)
         obtain ⟨t, ht⟩ := List.isPrefixOf_iff_prefix.1 hp
         rw [hd, hj] at ht
         have hb92 : b = 92 := by simpa using (congrArg List.head? ht).symm
         have hdj : y.drop j = 34 :: t := by
          have := congrArg List.tail ht
          simpa using this.symm
         have hyj : y[j]? = some 34 := by rw [← List.head?_drop, hdj]; rfl
         have htj : t = y.drop (j + 1) := by
          have := drop_get hyj
          rw [hdj] at this
          exact (List.cons.inj this).2
         have hjl := (List.getElem?_eq_some_iff.1 hyj).1
         have hj2 : j < (bs y).size := by rw [bs_size]; exact hjl
         have hjb : (bs y)[j]'hj2 = 34 := (List.getElem?_eq_some_iff.1 hyj).2
         have hjz : (j : Int) < ((bs y).size : Int) := by omega
         obtain ⟨m, hm⟩ : ∃ m, j + 1 = m := ⟨_, rfl⟩
         have hwj : IntKind.i64.wrap ((j : Int) + 1) = (m : Int) := by rw [IntKind.wrap_i64]; have := HYL.out; omega
         have HM := qH (show j + 1 = m ∧ j < y.length from ⟨hm, hjl⟩)
         have HVN := qH (show valL r = preV (acc ++ [(bs y)[j]'hj2]) (valL (y.drop m)) by rw [HVD.out, hb92, hdj, htj, hm, valL_esc2, preV_app, hjb])
         obtain ⟨w7, hw7⟩ : ∃ w7, wr.alloc (.cells #[.int .u8 (((bs y)[j]'hj2).toNat : Int)] 5) = w7 := ⟨_, rfl⟩
         have H7 := qH (by_push (b := (bs y)[j]'hj2) hkw hown hNb hw7)
         clear hig hal hkw hown hT5 hR5 hi hb hyb hd hj h34 h9 HV hpe hp ht hb92 hdj hyj htj hjl hjb hm
         go_wp2_with (first
          | (go_at_call 112; refine cM (by with_reducible exact HP.out) ?_; rintro r w4 ⟨rfl, rfl⟩)
          | (at_builtin; refine wpList_append_r (r := byT) rfl (.tmp 135) (.tmp 139) rfl wc.heap.size v acc rfl H7.out.2.1 Nb 1 ((bs y)[j]'hj2) rfl H7.out.2.2 HAL.out H7.out.1.size ?_; intro v8 w8 hown8 hgr8; have HO8 := qH hown8; have HK8 := qH (kp_grownK H7.out.1 hgr8 fun b hb => (H7.out.2.1.ge b hb).1); clear hown8 hgr8))
         go_roundg (y.length - m)
         case measure => have h1 := HI.out; have h2 := HJ.out; have h3 := HM.out; omega
         case rel => exact ⟨v8, _, m, rfl, rfl, by have h1 := HI.out; have h2 := HJ.out; have h3 := HM.out; omega, by have h1 := HI.out; have h2 := HJ.out; have h3 := HM.out; rw [List.length_append, List.length_singleton]; omega, HK8.out, HO8.out, HVN⟩
     ·have hiz : ¬ ((i : Int) < ((bs y).size : Int)) := by rw [bs_size]; omega
      have HB := qH (show tokenL s = .cut by
       rw [HTV.out, HV.out, show y.drop i = [] from List.drop_eq_nil_of_le (by omega), valL_nil]
       rfl)
      clear hig hal hkw hown hT5 hR5 hi HV HO5
      go_wp2
      refine tok_end (TAt.all HR5.out ⟨kk, nn, oo, []⟩) rfl rfl rfl rfl ⟨_, [], 83, rfl, TokR.cut HB.out _ _, ?_⟩
      exact ((((HK5.out.setCell (.inr hRw) _).setCell (.inr hRw) _).setCell (.inr hRw) _).setCell (.inr hRw) _)
end Go.Proofs.YtkkibibecgcbmaaGreatDoor.Lx
