/- Join, Place and Path of the reference. Path of the reference. Origins and paths of drawn trees. -/
import Derived.Test.YtldcediiobfhiaaGreatDoorKU2
import Derived.Test.YtldcediiobfhiaaGreatDoorKV1
import Derived.Test.YtldcediiobfhiaaGreatDoorKV7
import Derived.Test.YtldcediiobfhiaaGreatDoorKU4
namespace Go.Proofs.YtldcediiobfhiaaGreatDoor
open Go.RowKit
set_option maxRecDepth 100000 in
set_option maxHeartbeats 1000000 in
theorem refJoin_any (u : Value) (xs : List (List UInt8)) (B : Nat) (w : World) (h : stT.Own w B u xs) (h0 : xs ≠ []) (hn : xs.length ≤ 1000000) (hJ : (De.pth xs).length ≤ 100000000) :
  Calls Tryz.prog 60 #[u] w fun e w' => e = .returned (.string (bs (De.pth xs))) ∧ Kp [] w w' := by
 rcases h.form2 with ⟨-, rfl⟩ | ⟨g, cap, rfl, -, hg, hcap, -, hrow⟩
 ·exact absurd rfl h0
 cases xs with
 | nil => exact absurd rfl h0
 | cons x K =>
  have hl : 47 :: Lib.join (x :: K) [47] = De.pth (x :: K) := by
   rw [Lib.join_cons, Lib.joinTail, De.pth, List.flatMap_def]
   rfl
  have hJl : (Lib.join (x :: K) [47]).length ≤ 100000000 := by
   rw [← hl] at hJ
   simp only [List.length_cons] at hJ
   omega
  have hmap : ((x :: K).map fun y => bs y).map (fun y : ByteArray => y.data.toList) = x :: K := by
   rw [List.map_map]
   conv => rhs; rw [← List.map_id (x :: K)]
   apply List.map_congr_left
   intro y hy
   simp [bs]
  have hj := Tryz.strings_Join g 0 cap ((x :: K).map fun y => bs y) ⟨#[47]⟩ w (fun j y hy => by
   rw [List.getElem?_map, Option.map_eq_some_iff] at hy
   obtain ⟨z, hz, rfl⟩ := hy
   have := hrow j z hz 0 (.string (bs z)) rfl
   simpa [show stT.sz = 1 from rfl] using this) hg (by rw [List.length_map]; omega) (by rw [List.length_map]; exact hcap) (by
   rw [hmap]
   exact Nat.le_trans hJl (by decide))
  rw [hmap, List.length_map] at hj
  have hj2 : Calls Tryz.prog 99 #[.slice (some ⟨g, 0, none⟩) (x :: K).length cap, .string ⟨#[47]⟩] w fun e w' => e = .returned (.string (bs (Lib.join (x :: K) [47]))) ∧ Below w.heap.size w w' := hj
  have HJ := Lib.hid hj2
  have hs : (bs (Lib.join (x :: K) [47])).size ≤ 100000000 := by rw [bs_size]; exact hJl
  have hfin : (⟨#[47]⟩ : ByteArray) ++ bs (Lib.join (x :: K) [47]) = bs (De.pth (x :: K)) := by
   rw [← hl]
   exact bs_app [47] _
  have HF := Lib.hid hfin
  generalize bs (De.pth (x :: K)) = R at *
  generalize bs (Lib.join (x :: K) [47]) = J at *
  clear hj hj2 hfin hl hJl hJ hmap h hrow hg hcap h0
  generalize (x :: K).length = Z at *
  go_enter Tryz.func60, Tryz.ntmps60
  go_wp2_with (go_at_call 99; refine Calls.mono (by with_reducible exact HJ.out) ?_; rintro e w2 ⟨rfl, hb2⟩; have HB2 := Lib.hid hb2; clear hb2)
  go_ret
  exact ⟨by rw [← HF.out]; rfl, Kp.of_below HB2.out⟩
theorem pth_len (xs : List (List UInt8)) (hx : ∀ x ∈ xs, x.length ≤ 300) : (De.pth xs).length ≤ 301 * xs.length := by
 induction xs with
 | nil => simp [De.pth]
 | cons x K ih =>
  rw [De.pth_cons]
  have h1 := hx x (List.mem_cons_self ..)
  have h2 := ih fun y hy => hx y (List.mem_cons_of_mem _ hy)
  simp only [List.length_cons, List.length_append]
  omega
theorem upD_mem {l : List De.DV} : ∀ (k : Nat) (n : Int) (x : De.DV), x ∈ De.upD l k n → x ∈ l
 | 0, _, _, h => by cases h
 | k + 1, n, x, h => by
  rw [De.upD] at h
  cases hf : De.fndD l n with
  | none => rw [hf] at h; cases h
  | some y =>
   rw [hf] at h
   rcases List.mem_cons.1 h with rfl | h
   ·exact De.fndD_mem hf
   ·exact upD_mem k _ x h
theorem orgL_mem {l : List De.DV} (ho : ∀ x ∈ l, x.1.orig.size ≤ 300) (n : Int) : ∀ y ∈ orgL l n, y.length ≤ 300 := fun y hy => by
 unfold orgL at hy
 rw [List.mem_reverse, List.mem_map] at hy
 obtain ⟨x, hx, rfl⟩ := hy
 have hm := upD_mem l.length n x hx
 have := ho x hm
 rw [Lib.size_eq] at this
 exact this
set_option maxRecDepth 100000 in
set_option maxHeartbeats 1000000 in
theorem refPlace_any (sv : Value) (l : List De.DV) (n : Int) (w : World) (hl : l.length ≤ 100000) (h : De.DHas w sv l) (ho : ∀ x ∈ l, x.1.orig.size ≤ 300) :
  Calls Tryz.prog 19 #[.agg #[sv], .int .i64 n] w fun e w' => e = .returned (.string (bs (De.pth (orgL l n)))) ∧ Kp [] w w' := by
 obtain ⟨a, c, rfl, -⟩ := h.form
 obtain ⟨L, hL⟩ : ∃ L, l.length = L := ⟨_, rfl⟩
 obtain ⟨W1, hW1⟩ : ∃ W1, w.alloc (.cells #[.slice a L c] 29) = W1 := ⟨_, rfl⟩
 obtain ⟨Bz, hBz⟩ : ∃ B, w.heap.size = B := ⟨_, rfl⟩
 have hk1 : Kp [] w W1 := by rw [← hW1]; exact (Kp.refl [] w).alloc _
 have hbx : W1.heap[Bz]? = some (.cells #[.slice a L c] 29 (0, 0)) := by rw [← hW1, ← hBz]; exact heap_alloc_last w _
 have t0 := cell_one hbx
 have hor := refOrigin_any (.slice a l.length c) l n W1 (by omega) (h.below hk1.bel)
 have hlen := orgL_len l n
 have hpl := pth_len _ (orgL_mem ho n)
 obtain ⟨O, hO⟩ : ∃ O, orgL l n = O := ⟨_, rfl⟩
 rw [hO] at hor hlen hpl ⊢
 rw [hL] at hor ⊢
 have HOR := Lib.hid hor
 have HK1 := Lib.hid hk1
 have HLen := Lib.hid (show O.length ≤ 100000 by omega)
 have HPl := Lib.hid (show (De.pth O).length ≤ 100000000 by omega)
 obtain ⟨P, hP⟩ : ∃ P, bs (De.pth O) = P := ⟨_, rfl⟩
 rw [hP]
 have HPP := Lib.hid hP
 clear hor hlen hpl hk1 hbx h ho hO hL hl hP
 go_enter Tryz.func19, Tryz.ntmps19
 go_upto_region 2 with (go_at_call 57; refine Calls.mono (by with_reducible exact HOR.out) ?_; rintro e w2 ⟨u, rfl, hown, hk2⟩; have HOw := Lib.hid hown; have HK2 := Lib.hid (HK1.out.trans hk2); clear hown hk2)
 obtain ⟨ua, uc, hu⟩ := HOw.out.form
 cases hO : O with
 | nil =>
  rw [hO] at hu
  subst hu
  have HE := Lib.hid (show P = ⟨#[]⟩ by rw [← HPP.out, hO]; rfl)
  clear hO
  go_wp2
  go_ret
  exact ⟨by rw [HE.out]; rfl, HK2.out⟩
 | cons x K =>
  have hz : (0 : Int) < ((x :: K).length : Int) := by simp only [List.length_cons]; omega
  have HJ := Lib.hid (refJoin_any u O W1.heap.size w2 HOw.out (by rw [hO]; simp) (by have := HLen.out; omega) HPl.out)
  rw [HPP.out] at HJ
  rw [hO] at hu
  obtain ⟨Z, hZ⟩ : ∃ Z, (x :: K).length = Z := ⟨_, rfl⟩
  rw [hZ] at hu hz
  subst hu
  clear hZ hO
  go_wp2_with (go_at_call 60; refine Calls.mono (by with_reducible exact HJ.out) ?_; rintro e w3 ⟨rfl, hk3⟩; have HK3 := Lib.hid (HK2.out.trans hk3); clear hk3)
  go_ret
  exact ⟨rfl, HK3.out⟩
end Go.Proofs.YtldcediiobfhiaaGreatDoor
namespace Go.Proofs.YtldcediiobfhiaaGreatDoor
open Go.RowKit
/-- The names of the path of a device of a list. -/
def namL (l : List De.DV) (n : Int) : List (List UInt8) := ((De.upD l l.length n).map fun x => x.1.name.data.toList).reverse
theorem pth_snoc (xs : List (List UInt8)) (x : List UInt8) : De.pth (xs ++ [x]) = De.pth xs ++ 47 :: x := by
 rw [De.pth_append, De.pth_cons]
 simp [De.pth]
set_option maxHeartbeats 2000000 in
set_option maxRecDepth 100000 in
theorem refPath_any (sv : Value) (l : List De.DV) (n : Int) (w : World) (hl : l.length ≤ 100000) (h : De.DHas w sv l) (hm : ∀ x ∈ l, x.1.name.size ≤ 300) :
  Calls Tryz.prog 32 #[.agg #[sv], .int .i64 n] w fun e w' => e = .returned (.string (bs (De.pth (namL l n)))) ∧ Kp [] w w' := by
 obtain ⟨a, c, hsv, _⟩ := h.form
 have HC := Lib.hid (fun W (hW : Kp [] w W) => De.refChain_any sv l n W (by omega) (h.below hW.bel))
 obtain ⟨N, hN⟩ : ∃ N, l.length = N := ⟨_, rfl⟩
 rw [hN] at hsv hl
 obtain ⟨Bz, hBz⟩ : ∃ Bz, w.heap.size = Bz := ⟨_, rfl⟩
 obtain ⟨R, hR⟩ : ∃ R, bs (De.pth (namL l n)) = R := ⟨_, rfl⟩
 rw [hR]
 have hR' := hR
 unfold namL at hR'
 have hCm : ∀ x ∈ De.upD l l.length n, x.1.name.size ≤ 300 := fun x hx => hm x (upD_mem _ _ x hx)
 generalize hC : De.upD l l.length n = C at *
 have hCl : C.length ≤ N := by
  have h := De.up_len (l.map (·.1)) l.length n
  rw [← De.upD_fst, List.length_map, hC, hN] at h
  exact h
 have HR := Lib.hid hR'
 have HCM := Lib.hid hCm
 subst hsv
 have h0 := heap_alloc_last w (.cells #[.slice a N c] 29)
 rw [hBz] at h0
 have Hk0 := Lib.hid (show Kp [] w (w.alloc (.cells #[.slice a N c] 29)) from (Kp.refl [] w).alloc _)
 have c0 := cell_of_row _ Bz 0 _ _ _ h0
 simp only [List.getElem?_toArray, List.getElem?_cons_zero] at c0
 clear h0 h hR hR' hm hCm
 go_enter Tryz.func32, Tryz.ntmps32
 go_upto_region 3 with (go_at_call 73; refine Calls.mono (by with_reducible exact HC.out _ Hk0.out) ?_; rintro e W1 ⟨u, rfl, hown, hb1⟩; have HO := Lib.hid hown; have HK1 := Lib.hid (Hk0.out.trans (Kp.of_bel hb1)); clear hown hb1 c0)
 obtain ⟨ua, uc, hu, hrow⟩ := HO.out.has.form
 have HRow := Lib.hid hrow
 obtain ⟨M, hM⟩ : ∃ M, C.length = M := ⟨_, rfl⟩
 rw [hM] at hu hCl
 have HM := Lib.hid hM
 clear hrow hM hC
 subst hu
 go_wp2
 go_loopw [5, 7] (fun s5 s7 wx => ∃ (i : Nat) (u : ByteArray), i ≤ M ∧ s7 = .int .i64 ((i : Int) - 1) ∧ s5 = .string u ∧ (u.data.toList = De.pth ((C.drop i).map fun x => x.1.name.data.toList).reverse ∧ u.size ≤ 301 * (M - i)) ∧ Kp [] W1 wx) (fun _ s7 _ => (intOf s7 + 1).toNat)
 case atStart => exact ⟨M, _, Nat.le_refl _, by go_num, rfl, ⟨by
  rw [List.drop_of_length_le (by rw [HM.out]; exact Nat.le_refl _)]
  rfl, Nat.zero_le _⟩, Kp.refl [] _⟩
 case round =>
  obtain ⟨i, u, hi, rfl, rfl, hus, hkx⟩ := hrel
  have Hus := Lib.hid hus
  have Hkx := Lib.hid hkx
  clear hus hkx
  by_cases hi0 : 1 ≤ i
  ·obtain ⟨k, rfl⟩ : ∃ k, i = k + 1 := ⟨i - 1, by omega⟩
   have hz : (0 : Int) ≤ (k : Int) := by omega
   have he : (((k + 1 : Nat) : Int) - 1) = (k : Int) := by omega
   have hwr : IntKind.i64.wrap ((k : Int) - 1) = (k : Int) - 1 := by rw [IntKind.wrap_i64]; omega
   obtain ⟨x, hx⟩ : ∃ x, C[k]? = some x := ⟨C[k]'(by rw [HM.out]; omega), List.getElem?_eq_getElem _⟩
   obtain ⟨g, o, rfl, hcap, hg, hr⟩ := HRow.out (fun e => by rw [e] at hx; simp at hx)
   obtain ⟨-, -, d2, -, -, -⟩ := De.dvC_cells (hr.at_ k x hx)
   have d2' := cell_kp Hkx.out d2
   have hkM : (k : Int) < (M : Int) := by omega
   have hxs := HCM.out x (List.mem_of_getElem? hx)
   have hus2 : u.size ≤ 40000000 := by have := Hus.out.2; omega
   have Hx := Lib.hid (show ((C.drop k).map fun x => x.1.name.data.toList).reverse = ((C.drop (k + 1)).map fun x => x.1.name.data.toList).reverse ++ [x.1.name.data.toList] from by
    rw [← List.map_reverse, ← List.map_reverse, rev_step hx, List.map_append]
    rfl)
   rw [he]
   clear hx hr hg hcap d2 he
   go_wp2
   exact ⟨⟨k, _, by omega, rfl, rfl, ⟨by
    rw [Hx.out, pth_snoc, ← Hus.out.1]
    simp [ByteArray.data_append], by
    have h1 := Hus.out.2
    have h2 : (⟨#[47]⟩ : ByteArray).size = 1 := rfl
    simp only [ByteArray.size_append]
    omega⟩, Hkx.out⟩, by (simp [intOf] <;> omega)⟩
  ·obtain rfl : i = 0 := by omega
   have Hfin := Lib.hid (show u = R from by
    rw [← HR.out]
    have := Hus.out.1
    rw [List.drop_zero] at this
    rw [← this]
    exact (bs_of u).symm)
   have hz : ¬ (0 : Int) ≤ ((0 : Nat) : Int) - 1 := by omega
   go_wp2
   go_ret
   exact ⟨by rw [← Hfin.out]; rfl, HK1.out.trans Hkx.out⟩
end Go.Proofs.YtldcediiobfhiaaGreatDoor
namespace Go.Proofs.YtldcediiobfhiaaGreatDoor
open Go.RowKit
theorem tape_new {w : World} {lv : Value} (hi : Ints w w.heap.size lv) : Tp (w.alloc (.cells #[lv, .int .i64 0] 27)) w.heap.size 0 :=
 ⟨lv, heap_alloc_last _ _, hi.keep fun b hb => by have := ((Kp.refl [] w).alloc (.cells #[lv, .int .i64 0] 27)).block b hb (by simp); exact this⟩
theorem tree9 {w : World} {tb k : Nat} (hk : k ≤ 400) (h : Tp w tb k) (hm : De.Max w) : Calls Tryz.prog 13 #[.pointer (some ⟨tb, 0, none⟩), .int .i64 9] w fun e w' => ∃ va N vc L, e = .returned (.agg #[.slice va N vc]) ∧ Hid (L.length = N) ∧ N ≤ vc ∧ N ≤ 9 ∧ Hid (TreeAt w' (tb + 1) 9 (.slice va N vc) L) ∧ ∃ k', k' ≤ k + 361 ∧ Hid (Tp w' tb k') ∧ Hid (Kp [tb] w w') := by
 refine (show Calls Tryz.prog 13 #[.pointer (some ⟨tb, 0, none⟩), .int .i64 ((9 : Nat) : Int)] w (TreePost tb k 9 w) from tree_any 9 (by omega) (by omega) h hm).mono ?_
 rintro e w' ⟨v, L, rfl, ht, ⟨k', hk', hT⟩, hkp⟩
 obtain ⟨va, vc, rfl, hvc, -⟩ := ht.any.wform
 exact ⟨va, L.length, vc, L, rfl, Lib.hid rfl, hvc, ht.len, Lib.hid (ht.up (Nat.le_refl _) h.lt), k', by omega, Lib.hid hT, Lib.hid hkp⟩
theorem ancL_fst {L : List De.DV} (ht : De.Tidy (L.map (·.1))) : ∀ (k : Nat) (n : Int), (De.ancL L k n).map (·.1) = De.up (L.map (·.1)) k n
 | 0, _ => rfl
 | k + 1, n => by
  unfold De.up
  rw [De.lastI_fnd ht n]
  cases hp : De.lastI (L.map (·.1)) n with
  | none => rw [De.ancL_none hp]; rfl
  | some p =>
   obtain ⟨a, ha, -⟩ := De.lastI_some hp
   have ha' := ha
   rw [List.getElem?_map, Option.map_eq_some_iff] at ha
   obtain ⟨x, hx, rfl⟩ := ha
   rw [De.ancL_some hp hx, List.map_cons, ancL_fst ht k x.1.par]
   simp only [Option.bind_some, ha']
theorem tree_tok {W : World} {B n : Nat} {v : Value} {L : List De.DV} (h : TreeAt W B n v L) (hn : n ≤ 100000) : De.TOk L :=
 have ho := tree_ok h (by omega)
 ⟨Nat.le_trans h.len hn, ho.wi, ho.wp, fun x hx => (h.sml x hx).1.o, fun x hx => (h.sml x hx).1.n⟩
theorem got_fnd {L : List De.DV} (ht : De.Tidy (L.map (·.1))) (q : Int) : (De.gotL L q).map (·.1) = De.fnd (L.map (·.1)) q := by
 rw [De.lastI_fnd ht q]
 unfold De.gotL
 cases De.lastI (L.map (·.1)) q with
 | none => rfl
 | some p => simp
theorem idx_fnd {L : List De.DV} (q : Int) : ((De.idxP (L.map (·.1)) q).bind fun p => L[p]?).map (·.1) = De.fnd (L.map (·.1)) q := De.fndD_fst L q
theorem has_eq {L : List De.DV} (ht : De.Tidy (L.map (·.1))) (q : Int) : ((De.idxP (L.map (·.1)) q).bind fun p => L[p]?).isSome = (De.gotL L q).isSome := by
 have h1 := congrArg Option.isSome (got_fnd ht q)
 have h2 := congrArg Option.isSome (idx_fnd (L := L) q)
 rw [Option.isSome_map] at h1 h2
 rw [h1, h2]
theorem up_eq (L : List De.DV) (q : Int) : (De.upD L L.length q).map (·.1) = De.ups (L.map (·.1)) q := by
 rw [De.upD_fst]
 unfold De.ups
 rw [List.length_map]
theorem ups_none {l : List De.ADev} {q : Int} (h : De.fnd l q = none) : De.ups l q = [] := by
 unfold De.ups
 cases l.length with
 | zero => rfl
 | succ k => rw [De.up, h]
theorem ups_some {l : List De.ADev} (ht : De.Tidy l) {q : Int} {d : De.ADev} (h : De.fnd l q = some d) : De.ups l q = d :: De.ups l d.par ∧ (d.par = 0 ∨ ∃ p ∈ l, p.idx = d.par) := by
 obtain ⟨hm, rfl⟩ := De.fnd_mem h
 obtain ⟨i, hi, hd⟩ := List.getElem_of_mem hm
 exact ⟨De.ups_of ht (i := i) (by rw [List.getElem?_eq_getElem hi, hd]), ht.parent hm⟩
theorem trl_orig {L : List De.DV} (hv : De.Valid sndA clA (L.map (·.1))) (q : Int) : De.pth (orgL L q) = (De.trlO De.ADev.orig L q).getD [] := by
 have hg := got_fnd hv.tidy q
 rw [up_map]
 unfold De.trlO
 cases hx : De.gotL L q with
 | none =>
  rw [hx] at hg
  rw [ups_none hg.symm]
  rfl
 | some x =>
  rw [hx] at hg
  obtain ⟨h1, h2⟩ := ups_some hv.tidy hg.symm
  rw [h1]
  show De.pth (De.org (L.map (·.1)) x.1) = De.trlA De.ADev.orig L x.1
  unfold De.trlA
  rw [ancL_fst hv.tidy, hv.up7 h2]
  exact (De.trail_org _ _).symm
theorem trl_name {L : List De.DV} (hv : De.Valid sndA clA (L.map (·.1))) (q : Int) : De.pth (namL L q) = (De.trlO De.ADev.name L q).getD [] := by
 have hg := got_fnd hv.tidy q
 have hn : namL L q = ((De.ups (L.map (·.1)) q).map fun x => x.name.data.toList).reverse := by
  rw [← up_eq]
  unfold namL
  rw [List.map_map]
  rfl
 rw [hn]
 unfold De.trlO
 cases hx : De.gotL L q with
 | none =>
  rw [hx] at hg
  rw [ups_none hg.symm]
  rfl
 | some x =>
  rw [hx] at hg
  obtain ⟨h1, h2⟩ := ups_some hv.tidy hg.symm
  rw [h1]
  show De.pth (De.nam (L.map (·.1)) x.1) = De.trlA De.ADev.name L x.1
  unfold De.trlA
  rw [ancL_fst hv.tidy, hv.up7 h2]
  exact (De.trail_nam _ _).symm
theorem trl_some (f : De.ADev → ByteArray) (L : List De.DV) (q : Int) : (De.trlO f L q).isSome = (De.gotL L q).isSome := by
 unfold De.trlO
 rw [Option.isSome_map]
end Go.Proofs.YtldcediiobfhiaaGreatDoor
