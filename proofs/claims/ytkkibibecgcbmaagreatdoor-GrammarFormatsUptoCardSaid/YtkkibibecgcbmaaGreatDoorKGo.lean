/- Format. -/
import Derived.Test.YtkkibibecgcbmaaGreatDoorKI
namespace Go.Proofs.YtkkibibecgcbmaaGreatDoor
open Go.RowKit
theorem tok_push {w W W7 : World} {Nb : Nat} {x : Lx.Tok} {v : Value} {xs : List Lx.Tok} {B : Nat} (hk : Kp [] w W) (ho : Lx.tokT.Own W B v xs) (hN : W.heap.size = Nb) (hW : W.alloc (.cells (Lx.tokC x) 81) = W7) : Kp [] w W7 ∧ Lx.tokT.Own W7 B v xs ∧ W7.rangeAt Nb 0 (Lx.tokT.cf x) := by
 have hk1 : Kp [] W W7 := by rw [← hW]; exact (Kp.refl [] _).alloc _
 refine ⟨hk.trans hk1, ho.kp0 hk1, ?_⟩
 have h : Lx.TAt (W.alloc (.cells (Lx.tokC x) 81)) W.heap.size x := heap_alloc_last W _
 rw [hW, hN] at h
 exact Lx.TAt.range h
set_option maxRecDepth 100000 in
theorem info81 : (Tryz.prog.info? 81).map (fun i => (i.zero, i.size, i.bytes)) = some (some (.agg #[.string ⟨#[]⟩, .string ⟨#[]⟩, .string ⟨#[]⟩, .string ⟨#[]⟩]), 4, 64) := by kernel_rfl
theorem wr_len : ∀ x ∈ keysG, x.length ≤ 20 := by decide
theorem wro_len : ∀ x ∈ opsG, x.length ≤ 20 := by decide
theorem wrK_len (k : Int) : (wrK k).length ≤ 20 := by
 unfold wrK
 cases h : keysG[k.toNat]? with
 | none => simp
 | some x => exact wr_len x (List.mem_of_getElem? h)
theorem wrO_len (k : Int) : (wrO k).length ≤ 20 := by
 unfold wrO
 cases h : opsG[k.toNat]? with
 | none => simp
 | some x => exact wro_len x (List.mem_of_getElem? h)
set_option maxRecDepth 100000 in
set_option maxHeartbeats 8000000 in
/-- FORMAT. -/
theorem gformat_any {w : World} (hE : Env w) {lv : Value} {l : List Tm} (hh : tmT.Has w lv l) (hl : l.length ≤ 1000000) (hs : ∀ x ∈ l, SmT x) : Calls Tryz.prog 22 #[lv] w fun r w' => r = .returned (.tuple #[.string (bs (formatG l).1), .int .i64 (formatG l).2]) ∧ Kp [] w w' := by
 have HC := Lib.hid (gcheck_any hE hh hl hs)
 obtain ⟨ce, hce⟩ : ∃ ce, checkE l = ce := ⟨_, rfl⟩
 rw [hce] at HC
 have hfe : formatG l = if ce ≠ 0 then ([], ce) else ((Lx.fmtE (l.map tokOf)).1, ((Lx.fmtE (l.map tokOf)).2 : Int)) := by unfold formatG; rw [hce]
 obtain ⟨va, vc, rfl, hrow⟩ := hh.form
 by_cases hc : ce = 0
 ·subst hc
  rw [if_neg (by simp)] at hfe
  obtain ⟨-, -, hte⟩ := checkE_ok hce
  have HFE := Lib.hid hfe
  have HTE := Lib.hid hte
  have HSM := Lib.hid (show ∀ x ∈ l.map tokOf, Lx.Sm x from fun x hx => by
   obtain ⟨t, ht, rfl⟩ := List.mem_map.1 hx
   have h1 := hs t ht
   have h2 := wrK_len t.key
   have h3 := wrO_len t.op
   unfold SmT at h1
   exact ⟨by show (wrK t.key).length ≤ _; omega, by show t.name.length ≤ _; omega, by show (wrO t.op).length ≤ _; omega, by show t.val.length ≤ _; omega⟩)
  have HE := Lib.hid hE
  have HROW := Lib.hid hrow
  have HTO := Lib.hid fun t (h1 : 1 ≤ t.key) (h2 : t.key ≤ 24) W => tokenOf_any t h1 h2 W
  obtain ⟨i3, hi3, hy0, hy1, hy2⟩ := info_parts info81
  clear hce hfe hte hs hE hh hrow
  go_enter Tryz.func22, Tryz.ntmps22
  go_upto_region 4 with (go_at_call 15; refine Calls.mono (by with_reducible exact HC.out) ?_; rintro r w1 ⟨rfl, hk1⟩)
  have HK1 := Lib.hid hk1
  obtain ⟨w2, hrun, hown, hg⟩ := run_make_own w1 w1.heap.size 77 81 i3 _ 4 Tryz.underlying77 hi3 hy0 hy1 .i64 .i64 l.length (by rw [hy2]; omega) (by unfold maxLen; omega) (Nat.le_refl _)
  have HK2 := Lib.hid (show Kp [] w1 w2 from Kp.of_grown_none hg)
  have HO2 := Lib.hid (show Lx.tokT.Own w2 w1.heap.size (.slice (some ⟨w1.heap.size, 0, none⟩) 0 l.length) [] from hown)
  clear hk1 hown hg
  go_wp2
  clear hrun
  go_loopg [5, 18] l.length (fun g s5 s18 wx => ∃ (v : Value) (i : Nat), v = s5 ∧ s18 = .int .i64 (i : Int) ∧ i + g = l.length ∧ Kp [] w1 wx ∧ Lx.tokT.Own wx w1.heap.size v ((l.take i).map tokOf))
  case atStart => exact ⟨_, 0, rfl, rfl, by omega, HK2.out, HO2.out⟩
  case round =>
   obtain ⟨v, i, rfl, rfl, hig, hkp, hov⟩ := hrel
   by_cases hi : i < l.length
   ·obtain ⟨g, rfl⟩ : ∃ g, gk = g + 1 := ⟨gk - 1, by omega⟩
    obtain ⟨b, o, rfl, hbl, hr⟩ := HROW.out (by rintro rfl; simp at hi)
    obtain ⟨x, hx⟩ : ∃ x, l[i]? = some x := ⟨_, List.getElem?_eq_getElem hi⟩
    have hiz : (i : Int) < (l.length : Int) := by omega
    have hr2 : tmT.Row wr b o l := hr.keep ((HK1.out.trans hkp).block b hbl (by simp))
    obtain ⟨c0, c1, c2, c3⟩ := tmRow hr2 hx
    have hwi : IntKind.i64.wrap ((i : Int) + 1) = ((i + 1 : Nat) : Int) := by rw [IntKind.wrap_i64]; omega
    have HI := Lib.hid hig
    obtain ⟨wb, hwb⟩ : ∃ wb, wr.alloc (.cells #[.int .i64 x.key, .string (bs x.name), .int .i64 x.op, .string (bs x.val)] 31) = wb := ⟨_, rfl⟩
    obtain ⟨pb, hpb⟩ : ∃ pb, wr.heap.size = pb := ⟨_, rfl⟩
    have hTb : MAt wb pb x := by
     have h := MAt.new wr x
     unfold tmC at h
     rw [hwb, hpb] at h
     exact h
    obtain ⟨d0, d1, d2, d3⟩ := hTb.cells
    have hkw : Kp [] wr wb := by rw [← hwb]; exact (Kp.refl [] wr).alloc _
    have HKb := Lib.hid (hkp.trans hkw)
    have HOb := Lib.hid (hov.kp0 hkw)
    obtain ⟨q1, q2, -⟩ := termE_key (HTE.out x (List.mem_of_getElem? hx))
    have HT1 := Lib.hid (HTO.out x q1 q2 wb)
    have htk : (l.take (i + 1)).map tokOf = (l.take i).map tokOf ++ [tokOf x] := by rw [List.take_add_one, hx]; simp
    have HTK := Lib.hid htk
    obtain ⟨xs, hxs⟩ : ∃ xs, (l.take i).map tokOf = xs := ⟨_, rfl⟩
    have HXS := Lib.hid (show xs.length ≤ 1000000 by rw [← hxs, List.length_map, List.length_take]; omega)
    rw [hxs] at HOb HTK
    obtain ⟨y, hy⟩ : ∃ y, tokOf x = y := ⟨_, rfl⟩
    rw [hy] at HTK HT1
    unfold Lx.tokC tmC at HT1
    clear hkp hr hr2 hx hig hTb hkw hbl hov hxs htk hy q1 q2
    go_wp2_with (first
     | (go_at_call 51; refine Calls.mono (by with_reducible exact HT1.out) ?_; rintro r w5 ⟨rfl, hk⟩; have HK5 := Lib.hid (HKb.out.trans hk); have HO5 := Lib.hid (HOb.out.kp0 hk); clear hk; obtain ⟨Nb, hNb⟩ : ∃ Nb, w5.heap.size = Nb := ⟨_, rfl⟩; obtain ⟨w7, hw7⟩ : ∃ w7, w5.alloc (.cells #[.string (bs y.key), .string (bs y.name), .string (bs y.op), .string (bs y.val)] 81) = w7 := ⟨_, rfl⟩; have H7 := Lib.hid (tok_push (x := y) HK5.out HO5.out hNb hw7))
     | (at_builtin; refine wpList_append_r (r := Lx.tokT) rfl (.tmp 22) (.tmp 25) rfl w1.heap.size v xs rfl H7.out.2.1 Nb 1 y rfl H7.out.2.2 HXS.out H7.out.1.size ?_; intro v8 w8 hown8 hgr8; have HO8 := Lib.hid hown8; have HG8 := Lib.hid (kp_grown H7.out.1 hgr8 fun b hb => (H7.out.2.1.ge b hb).1); clear hown8 hgr8))
    go_roundg g
    case measure => omega
    case rel => exact ⟨v8, i + 1, rfl, rfl, by have := HI.out; omega, HG8.out, by rw [HTK.out]; exact HO8.out⟩
   ·have hiz : ¬ ((i : Int) < (l.length : Int)) := by omega
    have hie : l.take i = l := List.take_of_length_le (by omega)
    rw [hie] at hov
    have HKP := Lib.hid hkp
    have HF := Lib.hid (Lx.format_any (HE.out.kp0 (HK1.out.trans hkp)).max hov.has (by rw [List.length_map]; exact hl) HSM.out)
    obtain ⟨fs, hfs⟩ : ∃ fs, Lx.fmtE (l.map tokOf) = fs := ⟨_, rfl⟩
    rw [hfs] at HF HFE
    clear hov hkp hig hi hie hfs
    go_wp2_with (go_at_call 52; refine Calls.mono (by with_reducible exact HF.out) ?_; rintro r w9 ⟨rfl, hk⟩; have HK9 := Lib.hid (HKP.out.trans hk); clear hk)
    go_ret2
    rw [HFE.out]
    exact ⟨rfl, HK1.out.trans HK9.out⟩
 ·rw [if_pos hc] at hfe
  have HFE := Lib.hid hfe
  clear hce hfe hE hh hrow
  go_enter Tryz.func22, Tryz.ntmps22
  go_wp2_with (go_at_call 15; refine Calls.mono (by with_reducible exact HC.out) ?_; rintro r w1 ⟨rfl, hk1⟩; have HK1 := Lib.hid hk1; clear hk1)
  go_ret2
  rw [HFE.out]
  exact ⟨rfl, HK1.out⟩
end Go.Proofs.YtkkibibecgcbmaaGreatDoor
