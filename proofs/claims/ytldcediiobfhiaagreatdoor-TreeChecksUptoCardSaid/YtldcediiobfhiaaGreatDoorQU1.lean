/- The reference's order of two lists of names; which text lies beneath another. The reference's Origin: the names of a device's origin. When two devices may not stand in one tree. -/
import Derived.Test.YtldcediiobfhiaaGreatDoorQAB
import Derived.Test.YtldcediiobfhiaaGreatDoorQTu
import Derived.Test.YtldcediiobfhiaaGreatDoorQSh
import Derived.Test.YtldcediiobfhiaaGreatDoorQNa
import Derived.Lib.Replace
import Derived.Test.YtldcediiobfhiaaGreatDoorQRd
import Derived.Test.YtldcediiobfhiaaGreatDoorQGG
import Derived.Test.YtldcediiobfhiaaGreatDoorQMg
import Derived.Test.YtldcediiobfhiaaGreatDoorQRf
import Derived.Test.YtldcediiobfhiaaGreatDoorQDx
namespace Go.Proofs.YtldcediiobfhiaaGreatDoor
open Go.RowKit
theorem st_cellU {w : World} {b o i : Nat} {l : List (List UInt8)} {x : List UInt8} (h : stT.Row w b o l) (hx : l[i]? = some x) : w.cell? ⟨b, o + i, none⟩ = some (.string (bs x)) := by
 have := h i x hx 0 (.string (bs x)) rfl
 rw [show o + i * stT.sz + 0 = o + i by show o + i * 1 + 0 = _; omega] at this
 exact this
theorem qadd_same {P : Program} {f : FuncId} {args : Array Value} {w : World} {a n : Nat} {v : Value}
  (h : Calls P f args (w.drewN (a + n)) fun e w' => e = .returned v ∧ w' = w.drewN (a + n)) :
  Calls P f args (w.drewN (a + n)) fun e w'' => e = .returned v ∧ ∃ m, w'' = w.drewN (a + m) :=
 h.mono fun _ _ ⟨he, hm⟩ => ⟨he, n, hm⟩
theorem cmpN_same {xs ys : List (List UInt8)} {i : Nat} {x : List UInt8} (ha : xs[i]? = some x) (hb : ys[i]? = some x) : De.cmpN (xs.drop i) (ys.drop i) = De.cmpN (xs.drop (i + 1)) (ys.drop (i + 1)) := by
 obtain ⟨h1, rfl⟩ := List.getElem?_eq_some_iff.1 ha
 obtain ⟨h2, h3⟩ := List.getElem?_eq_some_iff.1 hb
 rw [List.drop_eq_getElem_cons h1, List.drop_eq_getElem_cons h2, De.cmpN, if_pos h3.symm]
theorem cmpN_diff {xs ys : List (List UInt8)} {i : Nat} {x y : List UInt8} (ha : xs[i]? = some x) (hb : ys[i]? = some y) (hne : x ≠ y) : De.cmpN (xs.drop i) (ys.drop i) = Lib.compareBytes x y := by
 obtain ⟨h1, rfl⟩ := List.getElem?_eq_some_iff.1 ha
 obtain ⟨h2, rfl⟩ := List.getElem?_eq_some_iff.1 hb
 rw [List.drop_eq_getElem_cons h1, List.drop_eq_getElem_cons h2, De.cmpN, if_neg hne]
theorem cmpN_end {xs ys : List (List UInt8)} {i : Nat} (hx : i ≤ xs.length) (hy : i ≤ ys.length) (h : xs.length ≤ i ∨ ys.length ≤ i) :
  De.cmpN (xs.drop i) (ys.drop i) = if xs.length < ys.length then -1 else if xs.length > ys.length then 1 else 0 := by
 rcases Nat.lt_or_ge i xs.length with h1 | h1
 ·have h2 : i = ys.length := by omega
  subst h2
  rw [List.drop_length, List.drop_eq_getElem_cons h1, De.cmpN, if_neg (by omega), if_pos (by omega)]
 ·have h2 : i = xs.length := by omega
  subst h2
  rw [List.drop_length]
  rcases Nat.lt_or_ge xs.length ys.length with h3 | h3
  ·rw [List.drop_eq_getElem_cons h3, De.cmpN, if_pos h3]
  ·rw [List.drop_of_length_le h3, De.cmpN, if_neg (by omega), if_neg (by omega)]
set_option maxHeartbeats 1000000 in
set_option maxRecDepth 100000 in
theorem refCompare_any (va vb : Value) (xs ys : List (List UInt8)) (w : World) (hlx : xs.length ≤ 1000000) (hly : ys.length ≤ 1000000) (ha : stT.Has w va xs) (hb : stT.Has w vb ys) :
  Calls Tryz.prog 58 #[va, vb] w (Nm.Draws (.int .i64 (De.cmpN xs ys)) w) := by
 obtain ⟨aa, ca, rfl, ha'⟩ := ha.form
 obtain ⟨ab, cb, rfl, hb'⟩ := hb.form
 have Ha := Lib.hid ha'
 have Hb := Lib.hid hb'
 clear ha hb ha' hb'
 obtain ⟨res, hres⟩ : ∃ res, De.cmpN xs ys = res := ⟨_, rfl⟩
 rw [hres]
 have Hres := Lib.hid hres
 clear hres
 go_enter Tryz.func58, Tryz.ntmps58
 go_wp2
 go_loopw [5] (fun s5 wx => ∃ i : Nat, i ≤ xs.length ∧ i ≤ ys.length ∧ s5 = .int .i64 i ∧ De.cmpN (xs.drop i) (ys.drop i) = res ∧ ∃ n, wx = w.drewN n) (fun s5 _ => xs.length - (intOf s5).toNat)
 case atStart => exact ⟨0, by omega, by omega, rfl, Hres.out, 0, rfl⟩
 case round =>
  obtain ⟨i, hix, hiy, rfl, hc, n, rfl⟩ := hrel
  have Hc := Lib.hid hc
  clear hc
  by_cases hlx' : i < xs.length
  ·have hzx : (i : Int) < (xs.length : Int) := by omega
   by_cases hly' : i < ys.length
   ·have hzy : (i : Int) < (ys.length : Int) := by omega
    obtain ⟨x, hx⟩ : ∃ x, xs[i]? = some x := ⟨_, List.getElem?_eq_getElem hlx'⟩
    obtain ⟨y, hy⟩ : ∃ y, ys[i]? = some y := ⟨_, List.getElem?_eq_getElem hly'⟩
    obtain ⟨ba, oa, rfl, _, hra⟩ := Ha.out (fun e => by rw [e] at hx; simp at hx)
    obtain ⟨bb, ob, rfl, _, hrb⟩ := Hb.out (fun e => by rw [e] at hy; simp at hy)
    have h1 := st_cellU hra hx
    have h2 := st_cellU hrb hy
    clear hra hrb
    by_cases hxy : x = y
    ·subst hxy
     have Hs := Lib.hid (cmpN_same hx hy)
     clear hx hy
     go_wp2
     go_quiet (fail)
     go_wp2
     exact ⟨⟨i + 1, by omega, by omega, by go_num, by rw [← Hs.out]; exact Hc.out, _, rfl⟩, by simp [intOf]; omega⟩
    ·have hne : x ≠ y := hxy
     have hq : ((bs x).toList == (bs y).toList) = false := by rw [Lib.toList_data, Lib.toList_data]; exact beq_eq_false_iff_ne.2 hne
     have Hd := Lib.hid (cmpN_diff hx hy hne)
     have Hcb := Lib.hid fun W => Tryz.strings_Compare (bs x) (bs y) W
     clear hx hy hne hxy
     go_wp2
     go_quiet (fail)
     go_wp2
     go_quiet ((go_at_call 97; exact qadd_same (Hcb.out _)))
     go_wp2
     go_ret
     exact ⟨by rw [← Hc.out, Hd.out]; rfl, _, by rw [World.drewN_drewN, World.drewN_drewN]⟩
   ·have hzy : ¬ (i : Int) < (ys.length : Int) := by omega
    have he := cmpN_end (xs := xs) (ys := ys) (i := i) (by omega) (by omega) (.inr (by omega))
    rw [if_neg (by omega), if_pos (by omega)] at he
    have Hr := Lib.hid (Hc.out.symm.trans he)
    have g1 : ¬ (xs.length : Int) < (ys.length : Int) := by omega
    have g2 : (ys.length : Int) < (xs.length : Int) := by omega
    clear he
    go_wp2
    go_ret
    exact ⟨by rw [Hr.out]; rfl, _, rfl⟩
  ·have hzx : ¬ (i : Int) < (xs.length : Int) := by omega
   have he := cmpN_end (xs := xs) (ys := ys) (i := i) (by omega) (by omega) (.inl (by omega))
   by_cases g : xs.length < ys.length
   ·rw [if_pos g] at he
    have Hr := Lib.hid (Hc.out.symm.trans he)
    have g1 : (xs.length : Int) < (ys.length : Int) := by omega
    clear he
    go_wp2
    go_ret
    exact ⟨by rw [Hr.out]; rfl, _, rfl⟩
   ·rw [if_neg g, if_neg (by omega)] at he
    have Hr := Lib.hid (Hc.out.symm.trans he)
    have g1 : ¬ (xs.length : Int) < (ys.length : Int) := by omega
    have g2 : ¬ (ys.length : Int) < (xs.length : Int) := by omega
    clear he
    go_wp2
    go_ret
    exact ⟨by rw [Hr.out]; rfl, _, rfl⟩
/-- Whether one text begins with the other and a slash. -/
def benB (a b : List UInt8) : Bool := (a ++ [47]).isPrefixOf b
theorem app_dataU (a b : ByteArray) : (a ++ b).data.toList = a.data.toList ++ b.data.toList := by simp
set_option maxHeartbeats 400000 in
set_option maxRecDepth 100000 in
theorem refBeneath_any (a b : ByteArray) (w : World) (ha : a.size ≤ 4611686018427387904) :
  Calls Tryz.prog 98 #[.string a, .string b] w fun e w' => e = .returned (.bool (benB a.data.toList b.data.toList)) ∧ w' = w := by
 have hp := fun W => Tryz.strings_HasPrefix b (a ++ ⟨#[47]⟩) W
 rw [app_dataU] at hp
 have Hp := Lib.hid hp
 clear hp
 go_enter Tryz.func98, Tryz.ntmps98
 go_wp2_with fail
 refine (Hp.out _).mono ?_
 rintro e w' ⟨rfl, rfl⟩
 go_wp2
 go_ret
 exact ⟨rfl, rfl⟩
end Go.Proofs.YtldcediiobfhiaaGreatDoor
namespace Go.Proofs.YtldcediiobfhiaaGreatDoor
open Go.RowKit
/-- The names of the origin of a device of a list. -/
def orgL (l : List De.DV) (n : Int) : List (List UInt8) := ((De.upD l l.length n).map fun x => x.1.orig.data.toList).reverse
theorem orgL_len (l : List De.DV) (n : Int) : (orgL l n).length ≤ l.length := by
 unfold orgL
 rw [List.length_reverse, List.length_map]
 have h := De.up_len (l.map (·.1)) l.length n
 rw [← De.upD_fst, List.length_map] at h
 exact h
theorem rev_step {α : Type} {L : List α} {i : Nat} {x : α} (hx : L[i]? = some x) : (L.drop i).reverse = (L.drop (i + 1)).reverse ++ [x] := by
 obtain ⟨h1, rfl⟩ := List.getElem?_eq_some_iff.1 hx
 rw [List.drop_eq_getElem_cons h1, List.reverse_cons]
theorem kp_grownO {w W w' : World} {v : Value} (h : Kp [] w W) (g : W.grownBy w' v.ownBlock) (hv : ∀ b, v.ownBlock = some b → w.heap.size ≤ b) : Kp [] w w' := kp_grownS h g hv
set_option maxHeartbeats 2000000 in
set_option maxRecDepth 100000 in
theorem refOrigin_any (sv : Value) (l : List De.DV) (n : Int) (w : World) (hl : l.length ≤ 1000000) (h : De.DHas w sv l) : Calls Tryz.prog 57 #[.agg #[sv], .int .i64 n] w fun e w' => ∃ u, e = .returned u ∧ stT.Own w' w.heap.size u (orgL l n) ∧ Kp [] w w' := by
 obtain ⟨a, c, hsv, _⟩ := h.form
 have HC := Lib.hid (fun W (hW : Kp [] w W) => De.refChain_any sv l n W hl (h.below hW.bel))
 obtain ⟨N, hN⟩ : ∃ N, l.length = N := ⟨_, rfl⟩
 rw [hN] at hsv hl
 obtain ⟨Bz, hBz⟩ : ∃ Bz, w.heap.size = Bz := ⟨_, rfl⟩
 obtain ⟨R, hR⟩ : ∃ R, orgL l n = R := ⟨_, rfl⟩
 rw [hR, hBz]
 have hR' := hR
 unfold orgL at hR'
 generalize hC : De.upD l l.length n = C at *
 have hCl : C.length ≤ N := by
  have h := De.up_len (l.map (·.1)) l.length n
  rw [← De.upD_fst, List.length_map, hC, hN] at h
  exact h
 have HR := Lib.hid hR'
 subst hsv
 have h0 := heap_alloc_last w (.cells #[.slice a N c] 29)
 rw [hBz] at h0
 have Hk0 := Lib.hid (show Kp [] w (w.alloc (.cells #[.slice a N c] 29)) from (Kp.refl [] w).alloc _)
 have HS0 := Lib.hid (show (w.alloc (.cells #[.slice a N c] 29)).heap.size = Bz + 1 by rw [World.size_alloc, hBz])
 have c0 := cell_of_row _ Bz 0 _ _ _ h0
 simp only [List.getElem?_toArray, List.getElem?_cons_zero] at c0
 clear h0 h hR hR'
 go_enter Tryz.func57, Tryz.ntmps57
 go_upto_region 3 with (go_at_call 73; refine Calls.mono (by with_reducible exact HC.out _ Hk0.out) ?_; rintro e W1 ⟨u, rfl, hown, hb1⟩; have HO := Lib.hid hown; have HK1 := Lib.hid (Hk0.out.trans (Kp.of_bel hb1)); clear hown hb1 c0)
 obtain ⟨ua, uc, hu, hrow⟩ := HO.out.has.form
 have HRow := Lib.hid hrow
 have Hgt := Lib.hid (show Bz ≤ W1.heap.size from by have := HK1.out.size; omega)
 obtain ⟨M, hM⟩ : ∃ M, C.length = M := ⟨_, rfl⟩
 rw [hM] at hu hCl
 have HM := Lib.hid hM
 clear hrow hM hC
 subst hu
 go_wp2
 go_loopw [5, 7] (fun s5 s7 wx => ∃ (i : Nat) (v : Value), i ≤ M ∧ s7 = .int .i64 ((i : Int) - 1) ∧ s5 = v ∧ stT.Own wx W1.heap.size v ((C.drop i).map fun x => x.1.orig.data.toList).reverse ∧ Kp [] W1 wx) (fun _ s7 _ => (intOf s7 + 1).toNat)
 case atStart => exact ⟨M, _, Nat.le_refl _, by go_num, rfl, by
  rw [List.drop_of_length_le (by rw [HM.out]; exact Nat.le_refl _)]
  exact RT.Own.nil stT _ _, Kp.refl [] _⟩
 case round =>
  obtain ⟨i, v, hi, rfl, rfl, hown, hkx⟩ := hrel
  obtain ⟨va, vc, hv⟩ := hown.form
  obtain ⟨L, hL⟩ : ∃ L, ((C.drop i).map fun x => x.1.orig.data.toList).reverse = L := ⟨_, rfl⟩
  have hLl : L.length ≤ 1000000 := by
   rw [← hL, List.length_reverse, List.length_map, List.length_drop, HM.out]
   omega
  rw [hL] at hown hv
  have HL := Lib.hid hL
  have Hown := Lib.hid hown
  have Hkx := Lib.hid hkx
  have HLl := Lib.hid hLl
  clear hown hkx hL hLl
  by_cases hi0 : 1 ≤ i
  ·obtain ⟨k, rfl⟩ : ∃ k, i = k + 1 := ⟨i - 1, by omega⟩
   have hz : (0 : Int) ≤ (k : Int) := by omega
   have he : (((k + 1 : Nat) : Int) - 1) = (k : Int) := by omega
   have hwr : IntKind.i64.wrap ((k : Int) - 1) = (k : Int) - 1 := by rw [IntKind.wrap_i64]; omega
   obtain ⟨x, hx⟩ : ∃ x, C[k]? = some x := ⟨C[k]'(by rw [HM.out]; omega), List.getElem?_eq_getElem _⟩
   obtain ⟨g, o, rfl, hcap, hg, hr⟩ := HRow.out (fun e => by rw [e] at hx; simp at hx)
   obtain ⟨-, -, -, d3, -, -⟩ := De.dvC_cells (hr.at_ k x hx)
   have d3' := cell_kp Hkx.out d3
   have hkM : (k : Int) < (M : Int) := by omega
   have Hx := Lib.hid (show ((C.drop k).map fun x => x.1.orig.data.toList).reverse = L ++ [x.1.orig.data.toList] from by
    rw [← HL.out, ← List.map_reverse, ← List.map_reverse, rev_step hx, List.map_append]
    rfl)
   obtain ⟨Nb, hNb⟩ : ∃ Nb, wr.heap.size = Nb := ⟨_, rfl⟩
   obtain ⟨W7, hW7⟩ : ∃ W, wr.alloc (.cells #[.string x.1.orig] 9) = W := ⟨_, rfl⟩
   have hka : Kp [] wr W7 := by rw [← hW7]; exact (Kp.refl [] _).alloc _
   have Hra := Lib.hid (show W7.rangeAt Nb 0 (stT.cf x.1.orig.data.toList) from by
    intro j u hj
    rw [← hW7, ← hNb]
    rw [cell_of_row _ _ _ _ _ _ (heap_alloc_last wr _)]
    have : stT.cf x.1.orig.data.toList = [.string x.1.orig] := by
     show [Value.string (bs x.1.orig.data.toList)] = _
     rw [bs_of]
    rw [this] at hj
    simpa using hj)
   have HK7 := Lib.hid (Hkx.out.trans hka)
   have Ho7 := Lib.hid (Hown.out.kp0 hka)
   have HB := Lib.hid (show W1.heap.size ≤ W7.heap.size from HK7.out.size)
   rw [he]
   clear hx hr hg hcap d3 hka he
   go_wp2_with (first
    | (at_builtin; refine wpList_append_r (r := stT) rfl (.tmp 18) (.tmp 24) rfl W1.heap.size _ L rfl Ho7.out Nb 1 x.1.orig.data.toList rfl Hra.out HLl.out HB.out ?_; intro v8 w8 hown8 hgr8; have HO8 := Lib.hid hown8; have HK8 := Lib.hid (kp_grownO HK7.out hgr8 fun b hb => (Ho7.out.ge b hb).1); clear hown8 hgr8))
   exact ⟨⟨k, _, by omega, rfl, rfl, by rw [Hx.out]; exact HO8.out, HK8.out⟩, by (simp [intOf] <;> omega)⟩
  ·obtain rfl : i = 0 := by omega
   have Hfin := Lib.hid (show L = R from by rw [← HL.out, ← HR.out, List.drop_zero])
   have hz : ¬ (0 : Int) ≤ ((0 : Nat) : Int) - 1 := by omega
   go_wp2
   go_ret
   exact ⟨_, rfl, by
    show stT.Own wr Bz (.slice va L.length vc) R
    rw [← Hfin.out, ← hv]
    exact Hown.out.down Hgt.out, HK1.out.trans Hkx.out⟩
end Go.Proofs.YtldcediiobfhiaaGreatDoor
namespace Go.Proofs.YtldcediiobfhiaaGreatDoor
open Go.RowKit
def clashD (a b : De.Dev) : Bool := (a.kind == 4 && (b.kind == 4 && (a.name.toList == b.name.toList))) || (De.hasN a.kind && (De.hasN b.kind && ((a.kind == b.kind && a.num == b.num) || ((De.nodeOf a.orig).toList == (De.nodeOf b.orig).toList || (benB (De.nodeOf a.orig).data.toList (De.nodeOf b.orig).data.toList || benB (De.nodeOf b.orig).data.toList (De.nodeOf a.orig).data.toList)))))
set_option maxHeartbeats 8000000 in
set_option maxRecDepth 100000 in
theorem clash_any (a b : De.Dev) (w : World) (hsa : a.orig.size < 1000000) (hsb : b.orig.size < 1000000) (hm : De.Max w) : Calls Tryz.prog 59 #[De.devV a, De.devV b] w (De.Bel (.bool (clashD a b)) w) := by
 have HA := Lib.hid (fun W (h : Below w.heap.size w W) => De.refNode_any a W (by omega) (hm.below h))
 have HB := Lib.hid (fun W (h : Below w.heap.size w W) => De.refNode_any b W (by omega) (hm.below h))
 obtain ⟨r, hr⟩ : ∃ r, clashD a b = r := ⟨_, rfl⟩
 rw [hr]
 unfold clashD at hr
 have hza : (De.nodeOf a.orig).size ≤ 4611686018427387904 := by have := De.nodeOf_size a.orig; omega
 have hzb : (De.nodeOf b.orig).size ≤ 4611686018427387904 := by have := De.nodeOf_size b.orig; omega
 have HZA := Lib.hid hza
 have HZB := Lib.hid hzb
 clear hza hzb hsa hsb hm
 obtain ⟨ai, ap, an, ao, au, ad, al, ak, am, av⟩ := a
 obtain ⟨bi, bp, bn, bo, bu, bd, bl, bk, bm, bv⟩ := b
 unfold De.devV De.devC at *
 unfold De.nodeR at HA HB
 simp only at HA HB hr HZA HZB ⊢
 generalize De.nodeOf ao = sa at *
 generalize De.nodeOf bo = sb at *
 obtain ⟨n, hn⟩ : ∃ n, w.heap.size = n := ⟨_, rfl⟩
 obtain ⟨W0, hW⟩ : ∃ W0, (w.alloc (.cells #[.int .i64 ai, .int .i64 ap, .string an, .string ao, .string au, .string ad, .string al, .int .i64 ak, .int .i64 am, av] 34)).alloc (.cells #[.int .i64 bi, .int .i64 bp, .string bn, .string bo, .string bu, .string bd, .string bl, .int .i64 bk, .int .i64 bm, bv] 34) = W0 := ⟨_, rfl⟩
 have hb0 : Below w.heap.size w W0 := by rw [← hW]; exact ((Below.refl _ w).alloc (Nat.le_refl _) _).alloc (by rw [World.size_alloc]; omega) _
 have hA : De.BoxAt W0 n #[.int .i64 ai, .int .i64 ap, .string an, .string ao, .string au, .string ad, .string al, .int .i64 ak, .int .i64 am, av] := by rw [← hW, ← hn]; exact heap_alloc2_old w _ _
 have hB : De.BoxAt W0 (n + 1) #[.int .i64 bi, .int .i64 bp, .string bn, .string bo, .string bu, .string bd, .string bl, .int .i64 bk, .int .i64 bm, bv] := by
  have := heap_alloc_last (w.alloc (.cells #[.int .i64 ai, .int .i64 ap, .string an, .string ao, .string au, .string ad, .string al, .int .i64 ak, .int .i64 am, av] 34)) (.cells #[.int .i64 bi, .int .i64 bp, .string bn, .string bo, .string bu, .string bd, .string bl, .int .i64 bk, .int .i64 bm, bv] 34)
  rw [hW] at this
  rw [← hn]
  unfold De.BoxAt
  simpa using this
 have HS0 := Lib.hid (show W0.heap.size = n + 2 by rw [← hW, World.size_alloc, World.size_alloc, hn])
 have HK0 := Lib.hid hb0
 have HBA := Lib.hid hA
 have HBB := Lib.hid hB
 have da := hA.cell
 have db := hB.cell
 have Hr := Lib.hid hr
 clear hr hb0 hA hB
 by_cases q0 : (ak == 4 && (bk == 4 && (an.toList == bn.toList))) = true
 ·have Hv := Lib.hid (show r = true from by rw [← Hr.out, q0]; rfl)
  rw [Bool.and_eq_true, Bool.and_eq_true] at q0
  obtain ⟨q1, q2, q3⟩ := q0
  clear HA HB
  go_enter Tryz.func59, Tryz.ntmps59
  go_wp2
  go_ret
  exact ⟨by rw [Hv.out]; rfl, HK0.out⟩
 have q0' : (ak == 4 && (bk == 4 && (an.toList == bn.toList))) = false := by simpa using q0
 have Hr2 := Lib.hid (show (De.hasN ak && (De.hasN bk && ((ak == bk && am == bm) || (sa.toList == sb.toList || (benB sa.data.toList sb.data.toList || benB sb.data.toList sa.data.toList))))) = r from by
  rw [← Hr.out, q0', Bool.false_or])
 have Q0 := Lib.hid q0'
 clear q0 q0'
 have hq : ((ak == 4) = false) ∨ ((ak == 4) = true ∧ (bk == 4) = false) ∨ ((ak == 4) = true ∧ (bk == 4) = true ∧ (an.toList == bn.toList) = false) := by
  have := Q0.out
  cases h1 : (ak == 4) with
  | false => exact .inl rfl
  | true =>
   cases h2 : (bk == 4) with
   | false => exact .inr (.inl ⟨rfl, rfl⟩)
   | true =>
    rw [h1, h2] at this
    exact .inr (.inr ⟨rfl, rfl, by simpa using this⟩)
 have hk4 : (ak == 4) = true → De.hasN ak = false := fun h => by rw [eq_of_beq h]; rfl
 cases hHA : De.hasN ak with
 | false =>
  have Hv := Lib.hid (show r = false from by rw [← Hr2.out, hHA]; rfl)
  rw [hHA] at HA
  cases hHB : De.hasN bk with
  | false =>
   rw [hHB] at HB
   rcases hq with q1 | ⟨q1, q2⟩ | ⟨q1, q2, q3⟩
   all_goals (
    clear hk4 hHA hHB
    go_enter Tryz.func59, Tryz.ntmps59
    go_wp2_with (first
     | (refine wpList_load_row rfl 34 _ rfl n rfl 34 #[.int .i64 ai, .int .i64 ap, .string an, .string ao, .string au, .string ad, .string al, .int .i64 ak, .int .i64 am, av] (0, 0) _ HBA.out Tryz.underlying34 rfl De.info34b ?_)
     | (refine wpList_load_row rfl 34 _ rfl (n + 1) rfl 34 #[.int .i64 bi, .int .i64 bp, .string bn, .string bo, .string bu, .string bd, .string bl, .int .i64 bk, .int .i64 bm, bv] (0, 0) _ HBB2.out Tryz.underlying34 rfl De.info34b ?_)
     | (go_at_call 69; refine Calls.mono (by with_reducible exact HA.out _ HK0.out) ?_; rintro e W1 ⟨rfl, hb1⟩; have Hb1 := Lib.hid hb1; have HBA2 := Lib.hid (show De.BoxAt W1 n #[.int .i64 ai, .int .i64 ap, .string an, .string ao, .string au, .string ad, .string al, .int .i64 ak, .int .i64 am, av] from (hb1.block n (by have := HS0.out; omega)).trans HBA.out); have HBB2 := Lib.hid (show De.BoxAt W1 (n + 1) #[.int .i64 bi, .int .i64 bp, .string bn, .string bo, .string bu, .string bd, .string bl, .int .i64 bk, .int .i64 bm, bv] from (hb1.block (n + 1) (by have := HS0.out; omega)).trans HBB.out); clear hb1 da db)
     | (go_at_call 69; refine Calls.mono (by with_reducible exact HB.out _ (HK0.out.trans (Hb1.out.mono (by have := HS0.out; omega)))) ?_; rintro e W2 ⟨rfl, hb2⟩; have Hb2 := Lib.hid (Hb1.out.trans (hb2.mono Hb1.out.size)); have da := (show De.BoxAt W2 n #[.int .i64 ai, .int .i64 ap, .string an, .string ao, .string au, .string ad, .string al, .int .i64 ak, .int .i64 am, av] from (hb2.block n (by have h1 := HS0.out; have h2 := Hb1.out.size; omega)).trans HBA2.out).cell; have db := (show De.BoxAt W2 (n + 1) #[.int .i64 bi, .int .i64 bp, .string bn, .string bo, .string bu, .string bd, .string bl, .int .i64 bk, .int .i64 bm, bv] from (hb2.block (n + 1) (by have h1 := HS0.out; have h2 := Hb1.out.size; omega)).trans HBB2.out).cell; clear hb2))
    go_ret
    exact ⟨by rw [Hv.out]; rfl, HK0.out.trans (Hb2.out.mono (by have := HS0.out; omega))⟩)
  | true =>
   rw [hHB] at HB
   rcases hq with q1 | ⟨q1, q2⟩ | ⟨q1, q2, q3⟩
   all_goals (
    clear hk4 hHA hHB
    go_enter Tryz.func59, Tryz.ntmps59
    go_wp2_with (first
     | (refine wpList_load_row rfl 34 _ rfl n rfl 34 #[.int .i64 ai, .int .i64 ap, .string an, .string ao, .string au, .string ad, .string al, .int .i64 ak, .int .i64 am, av] (0, 0) _ HBA.out Tryz.underlying34 rfl De.info34b ?_)
     | (refine wpList_load_row rfl 34 _ rfl (n + 1) rfl 34 #[.int .i64 bi, .int .i64 bp, .string bn, .string bo, .string bu, .string bd, .string bl, .int .i64 bk, .int .i64 bm, bv] (0, 0) _ HBB2.out Tryz.underlying34 rfl De.info34b ?_)
     | (go_at_call 69; refine Calls.mono (by with_reducible exact HA.out _ HK0.out) ?_; rintro e W1 ⟨rfl, hb1⟩; have Hb1 := Lib.hid hb1; have HBA2 := Lib.hid (show De.BoxAt W1 n #[.int .i64 ai, .int .i64 ap, .string an, .string ao, .string au, .string ad, .string al, .int .i64 ak, .int .i64 am, av] from (hb1.block n (by have := HS0.out; omega)).trans HBA.out); have HBB2 := Lib.hid (show De.BoxAt W1 (n + 1) #[.int .i64 bi, .int .i64 bp, .string bn, .string bo, .string bu, .string bd, .string bl, .int .i64 bk, .int .i64 bm, bv] from (hb1.block (n + 1) (by have := HS0.out; omega)).trans HBB.out); clear hb1 da db)
     | (go_at_call 69; refine Calls.mono (by with_reducible exact HB.out _ (HK0.out.trans (Hb1.out.mono (by have := HS0.out; omega)))) ?_; rintro e W2 ⟨rfl, hb2⟩; have Hb2 := Lib.hid (Hb1.out.trans (hb2.mono Hb1.out.size)); have da := (show De.BoxAt W2 n #[.int .i64 ai, .int .i64 ap, .string an, .string ao, .string au, .string ad, .string al, .int .i64 ak, .int .i64 am, av] from (hb2.block n (by have h1 := HS0.out; have h2 := Hb1.out.size; omega)).trans HBA2.out).cell; have db := (show De.BoxAt W2 (n + 1) #[.int .i64 bi, .int .i64 bp, .string bn, .string bo, .string bu, .string bd, .string bl, .int .i64 bk, .int .i64 bm, bv] from (hb2.block (n + 1) (by have h1 := HS0.out; have h2 := Hb1.out.size; omega)).trans HBB2.out).cell; clear hb2))
    go_ret
    exact ⟨by rw [Hv.out]; rfl, HK0.out.trans (Hb2.out.mono (by have := HS0.out; omega))⟩)
 | true =>
  have q1 : (ak == 4) = false := by
   cases h : (ak == 4) with
   | false => rfl
   | true => rw [hk4 h] at hHA; cases hHA
  rw [hHA] at HA
  cases hHB : De.hasN bk with
  | false =>
   have Hv := Lib.hid (show r = false from by rw [← Hr2.out, hHA, hHB]; rfl)
   rw [hHB] at HB
   clear hk4 hHA hHB hq
   go_enter Tryz.func59, Tryz.ntmps59
   go_wp2_with (first
    | (refine wpList_load_row rfl 34 _ rfl n rfl 34 #[.int .i64 ai, .int .i64 ap, .string an, .string ao, .string au, .string ad, .string al, .int .i64 ak, .int .i64 am, av] (0, 0) _ HBA.out Tryz.underlying34 rfl De.info34b ?_)
    | (refine wpList_load_row rfl 34 _ rfl (n + 1) rfl 34 #[.int .i64 bi, .int .i64 bp, .string bn, .string bo, .string bu, .string bd, .string bl, .int .i64 bk, .int .i64 bm, bv] (0, 0) _ HBB2.out Tryz.underlying34 rfl De.info34b ?_)
    | (go_at_call 69; refine Calls.mono (by with_reducible exact HA.out _ HK0.out) ?_; rintro e W1 ⟨rfl, hb1⟩; have Hb1 := Lib.hid hb1; have HBA2 := Lib.hid (show De.BoxAt W1 n #[.int .i64 ai, .int .i64 ap, .string an, .string ao, .string au, .string ad, .string al, .int .i64 ak, .int .i64 am, av] from (hb1.block n (by have := HS0.out; omega)).trans HBA.out); have HBB2 := Lib.hid (show De.BoxAt W1 (n + 1) #[.int .i64 bi, .int .i64 bp, .string bn, .string bo, .string bu, .string bd, .string bl, .int .i64 bk, .int .i64 bm, bv] from (hb1.block (n + 1) (by have := HS0.out; omega)).trans HBB.out); clear hb1 da db)
    | (go_at_call 69; refine Calls.mono (by with_reducible exact HB.out _ (HK0.out.trans (Hb1.out.mono (by have := HS0.out; omega)))) ?_; rintro e W2 ⟨rfl, hb2⟩; have Hb2 := Lib.hid (Hb1.out.trans (hb2.mono Hb1.out.size)); have da := (show De.BoxAt W2 n #[.int .i64 ai, .int .i64 ap, .string an, .string ao, .string au, .string ad, .string al, .int .i64 ak, .int .i64 am, av] from (hb2.block n (by have h1 := HS0.out; have h2 := Hb1.out.size; omega)).trans HBA2.out).cell; have db := (show De.BoxAt W2 (n + 1) #[.int .i64 bi, .int .i64 bp, .string bn, .string bo, .string bu, .string bd, .string bl, .int .i64 bk, .int .i64 bm, bv] from (hb2.block (n + 1) (by have h1 := HS0.out; have h2 := Hb1.out.size; omega)).trans HBB2.out).cell; clear hb2))
   go_ret
   exact ⟨by rw [Hv.out]; rfl, HK0.out.trans (Hb2.out.mono (by have := HS0.out; omega))⟩
  | true =>
   have Hv := Lib.hid (show ((ak == bk && am == bm) || (sa.toList == sb.toList || (benB sa.data.toList sb.data.toList || benB sb.data.toList sa.data.toList))) = r from by rw [← Hr2.out, hHA, hHB]; rfl)
   rw [hHB] at HB
   have HN1 := Lib.hid (fun W => refBeneath_any sa sb W HZA.out)
   have HN2 := Lib.hid (fun W => refBeneath_any sb sa W HZB.out)
   clear hk4 hHA hHB hq
   go_enter Tryz.func59, Tryz.ntmps59
   go_upto_region 7 with (first
    | (refine wpList_load_row rfl 34 _ rfl n rfl 34 #[.int .i64 ai, .int .i64 ap, .string an, .string ao, .string au, .string ad, .string al, .int .i64 ak, .int .i64 am, av] (0, 0) _ HBA.out Tryz.underlying34 rfl De.info34b ?_)
    | (refine wpList_load_row rfl 34 _ rfl (n + 1) rfl 34 #[.int .i64 bi, .int .i64 bp, .string bn, .string bo, .string bu, .string bd, .string bl, .int .i64 bk, .int .i64 bm, bv] (0, 0) _ HBB2.out Tryz.underlying34 rfl De.info34b ?_)
    | (go_at_call 69; refine Calls.mono (by with_reducible exact HA.out _ HK0.out) ?_; rintro e W1 ⟨rfl, hb1⟩; have Hb1 := Lib.hid hb1; have HBA2 := Lib.hid (show De.BoxAt W1 n #[.int .i64 ai, .int .i64 ap, .string an, .string ao, .string au, .string ad, .string al, .int .i64 ak, .int .i64 am, av] from (hb1.block n (by have := HS0.out; omega)).trans HBA.out); have HBB2 := Lib.hid (show De.BoxAt W1 (n + 1) #[.int .i64 bi, .int .i64 bp, .string bn, .string bo, .string bu, .string bd, .string bl, .int .i64 bk, .int .i64 bm, bv] from (hb1.block (n + 1) (by have := HS0.out; omega)).trans HBB.out); clear hb1 da db)
    | (go_at_call 69; refine Calls.mono (by with_reducible exact HB.out _ (HK0.out.trans (Hb1.out.mono (by have := HS0.out; omega)))) ?_; rintro e W2 ⟨rfl, hb2⟩; have Hb2 := Lib.hid (Hb1.out.trans (hb2.mono Hb1.out.size)); have da := (show De.BoxAt W2 n #[.int .i64 ai, .int .i64 ap, .string an, .string ao, .string au, .string ad, .string al, .int .i64 ak, .int .i64 am, av] from (hb2.block n (by have h1 := HS0.out; have h2 := Hb1.out.size; omega)).trans HBA2.out).cell; have db := (show De.BoxAt W2 (n + 1) #[.int .i64 bi, .int .i64 bp, .string bn, .string bo, .string bu, .string bd, .string bl, .int .i64 bk, .int .i64 bm, bv] from (hb2.block (n + 1) (by have h1 := HS0.out; have h2 := Hb1.out.size; omega)).trans HBB2.out).cell; clear hb2))
   cases e3 : (sa.toList == sb.toList) with
   | true =>
    have Hx := Lib.hid (show r = true from by rw [← Hv.out, e3]; simp)
    cases e1 : (ak == bk) with
    | false =>
     go_wp2
     go_ret
     exact ⟨by rw [Hx.out]; rfl, HK0.out.trans (Hb2.out.mono (by have := HS0.out; omega))⟩
    | true =>
     cases e2 : (am == bm) with
     | false =>
      go_wp2
      go_ret
      exact ⟨by rw [Hx.out]; rfl, HK0.out.trans (Hb2.out.mono (by have := HS0.out; omega))⟩
     | true =>
      go_wp2
      go_ret
      exact ⟨by rw [Hx.out]; rfl, HK0.out.trans (Hb2.out.mono (by have := HS0.out; omega))⟩
   | false =>
    cases e4 : benB sa.data.toList sb.data.toList with
    | true =>
     rw [e4] at HN1
     have Hx := Lib.hid (show r = true from by rw [← Hv.out, e4]; simp)
     cases e1 : (ak == bk) with
     | false =>
      go_wp2_with (go_at_call 98; refine Calls.mono (by with_reducible exact HN1.out _) ?_; rintro e W3 ⟨rfl, rfl⟩)
      go_ret
      exact ⟨by rw [Hx.out]; rfl, HK0.out.trans (Hb2.out.mono (by have := HS0.out; omega))⟩
     | true =>
      cases e2 : (am == bm) with
      | false =>
       go_wp2_with (go_at_call 98; refine Calls.mono (by with_reducible exact HN1.out _) ?_; rintro e W3 ⟨rfl, rfl⟩)
       go_ret
       exact ⟨by rw [Hx.out]; rfl, HK0.out.trans (Hb2.out.mono (by have := HS0.out; omega))⟩
      | true =>
       go_wp2
       go_ret
       exact ⟨by rw [Hx.out]; rfl, HK0.out.trans (Hb2.out.mono (by have := HS0.out; omega))⟩
    | false =>
     rw [e4] at HN1
     cases e1 : (ak == bk) with
     | false =>
      have Hx := Lib.hid (show r = benB sb.data.toList sa.data.toList from by rw [← Hv.out, e1, e3, e4]; simp)
      go_wp2_with (go_at_call 98; first | (refine Calls.mono (by with_reducible exact HN1.out _) ?_; rintro e W3 ⟨rfl, rfl⟩) | (refine Calls.mono (by with_reducible exact HN2.out _) ?_; rintro e W3 ⟨rfl, rfl⟩))
      go_ret
      exact ⟨by rw [Hx.out]; rfl, HK0.out.trans (Hb2.out.mono (by have := HS0.out; omega))⟩
     | true =>
      cases e2 : (am == bm) with
      | false =>
       have Hx := Lib.hid (show r = benB sb.data.toList sa.data.toList from by rw [← Hv.out, e1, e2, e3, e4]; simp)
       go_wp2_with (go_at_call 98; first | (refine Calls.mono (by with_reducible exact HN1.out _) ?_; rintro e W3 ⟨rfl, rfl⟩) | (refine Calls.mono (by with_reducible exact HN2.out _) ?_; rintro e W3 ⟨rfl, rfl⟩))
       go_ret
       exact ⟨by rw [Hx.out]; rfl, HK0.out.trans (Hb2.out.mono (by have := HS0.out; omega))⟩
      | true =>
       have Hx := Lib.hid (show r = true from by rw [← Hv.out, e1, e2]; simp)
       go_wp2
       go_ret
       exact ⟨by rw [Hx.out]; rfl, HK0.out.trans (Hb2.out.mono (by have := HS0.out; omega))⟩
end Go.Proofs.YtldcediiobfhiaaGreatDoor
