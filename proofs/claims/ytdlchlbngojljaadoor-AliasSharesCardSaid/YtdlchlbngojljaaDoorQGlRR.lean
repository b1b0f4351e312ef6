/- The reference's put. -/
import Derived.Test.YtdlchlbngojljaaDoorQRp
import Derived.Deep.RegionHeld
namespace Go.Proofs.YtdlchlbngojljaaDoor.Gl
open Go.RowKit
theorem info52b : (Tryd.prog.info? 96).map (fun i => (i.zero, i.size, i.bytes)) = some (some (.agg #[.int .i64 0, .int .i64 0, .int .i64 0, .int .i64 0, .string ⟨#[]⟩]), 5, 48) := by kernel_rfl
theorem insQ_step {l : List Pr5} {z x : Pr5} {n : Nat} (h : insQ l z = l.take n ++ insQ (l.drop n) z) (hx : l[n]? = some x) (hle : leT x.t z.t = true) : insQ l z = l.take (n + 1) ++ insQ (l.drop (n + 1)) z := by
 obtain ⟨hn, he⟩ := List.getElem?_eq_some_iff.1 hx
 rw [h, List.drop_eq_getElem_cons hn, he, insQ, if_pos hle, List.take_add_one, hx]
 simp
theorem insQ_stop {l : List Pr5} {z : Pr5} {n : Nat} (h : insQ l z = l.take n ++ insQ (l.drop n) z) (hx : ∀ x, l[n]? = some x → leT x.t z.t = false) : insQ l z = l.take n ++ z :: l.drop n := by
 rw [h]
 congr 1
 cases hd : l.drop n with
 | nil => rfl
 | cons x r =>
  have hx' : l[n]? = some x := by
   have := congrArg List.head? hd
   rw [List.head?_drop] at this
   exact this
  rw [insQ, if_neg (by rw [hx x hx']; simp)]
theorem leq_form {s t : List UInt8} (h : s.length = t.length) : leT s t = (Op.bytesLess s t || (s == t)) := by
 unfold leT
 cases hb : Op.bytesLess t s with
 | false =>
  have h1 : lexLe s t := (lexLe_less s t h).2 hb
  cases hc : Op.bytesLess s t with
  | true => rfl
  | false =>
   have h2 : lexLe t s := (lexLe_less t s h.symm).2 hc
   have : s = t := lex_pre (r := []) h h1 (by rw [List.append_nil, List.append_nil]; exact h2)
   rw [beq_iff_eq.2 this]
   rfl
 | true =>
  have h1 : ¬ lexLe s t := fun k => by
   rw [(lexLe_less s t h).1 k] at hb
   cases hb
  have h2 : lexLe t s := by
   rcases lexLe_total t s with k | k
   ·exact k
   ·exact absurd k h1
  rw [(lexLe_less t s h.symm).1 h2]
  have h3 : (s == t) = false := by
   rw [beq_eq_false_iff_ne]
   rintro rfl
   exact h1 (lexLe_refl _)
  rw [h3]
  rfl
theorem row_take {w : World} {g : Nat} {l : List Pr5} (h : PRow w g l) (n : Nat) : ∀ (j : Nat) u, (prsC (l.take n))[j]? = some u → w.cell? ((⟨g, 0, none⟩ : Addr).add j) = some u := fun j u hu => by
 have hadd : (⟨g, 0, none⟩ : Addr).add j = ⟨g, j, none⟩ := by unfold Addr.add; split <;> simp_all
 rw [hadd]
 refine h j u ?_
 have : prsC l = prsC (l.take n) ++ prsC (l.drop n) := by rw [← prsC_append, List.take_append_drop]
 rw [this, List.getElem?_append_left (List.getElem?_eq_some_iff.1 hu).1]
 exact hu
theorem row_drop {w : World} {g cap : Nat} {l : List Pr5} (h : PRow w g l) (n : Nat) (hn : n ≤ l.length ∧ l.length ≤ cap) {ad : Addr} (hd : (if cap = n then some (⟨g, 0, none⟩ : Addr) else some ⟨g, n * 5, none⟩) = some ad) : ∀ (j : Nat) u, (prsC (l.drop n))[j]? = some u → w.cell? (ad.add j) = some u := fun j u hu => by
 have hj := (List.getElem?_eq_some_iff.1 hu).1
 rw [prsC_len, List.length_drop] at hj
 rw [if_neg (by omega)] at hd
 obtain rfl := Option.some.inj hd
 have hadd : (⟨g, n * 5, none⟩ : Addr).add j = ⟨g, n * 5 + j, none⟩ := by
  unfold Addr.add
  split <;> simp_all
 rw [hadd]
 refine h _ u ?_
 have : prsC l = prsC (l.take n) ++ prsC (l.drop n) := by rw [← prsC_append, List.take_append_drop]
 have hl : (prsC (l.take n)).length = n * 5 := by rw [prsC_len, List.length_take]; omega
 rw [this, List.getElem?_append_right (by omega), hl, Nat.add_sub_cancel_left]
 exact hu
theorem pr_new {za zb zi zk : Int} {zt : ByteArray} (w : World) : ∀ (j : Nat) u, ([.int .i64 za, .int .i64 zb, .int .i64 zi, .int .i64 zk, .string zt] : List Value)[j]? = some u → (w.alloc (.cells #[.int .i64 za, .int .i64 zb, .int .i64 zi, .int .i64 zk, .string zt] 96)).cell? ((⟨w.heap.size, 0, none⟩ : Addr).add j) = some u := fun j u hu => by
 have hadd : (⟨w.heap.size, 0, none⟩ : Addr).add j = ⟨w.heap.size, j, none⟩ := by unfold Addr.add; split <;> simp_all
 rw [hadd, cell_of_row _ _ j _ _ _ (heap_alloc_last w (.cells #[.int .i64 za, .int .i64 zb, .int .i64 zi, .int .i64 zk, .string zt] 96))]
 simpa using hu
theorem pr_kept {za zb zi zk : Int} {zt : ByteArray} {w w' : World} {l : List Value} (h : ∀ (j : Nat) u, l[j]? = some u → (w.alloc (.cells #[.int .i64 za, .int .i64 zb, .int .i64 zi, .int .i64 zk, .string zt] 96)).cell? ((⟨w.heap.size, 0, none⟩ : Addr).add j) = some u) (hg : (w.alloc (.cells #[.int .i64 za, .int .i64 zb, .int .i64 zi, .int .i64 zk, .string zt] 96)).grownBy w' none) : ∀ (j : Nat) u, l[j]? = some u → w'.cell? ((⟨w.heap.size, 0, none⟩ : Addr).add j) = some u := fun j u hu => by
 have hadd : (⟨w.heap.size, 0, none⟩ : Addr).add j = ⟨w.heap.size, j, none⟩ := by unfold Addr.add; split <;> simp_all
 have h1 := h j u hu
 rw [hadd] at h1 ⊢
 have hb := hg.block w.heap.size (by simp) (by simp)
 simp only [World.cell?, hb] at h1 ⊢
 exact h1
theorem zc_one {za zb zi zk : Int} {zt : ByteArray} : ∀ u ∈ ([.int .i64 za, .int .i64 zb, .int .i64 zi, .int .i64 zk, .string zt] : List Value), u.oneCell' = true := fun u hu => by
 simp only [List.mem_cons, List.not_mem_nil, or_false] at hu
 rcases hu with rfl | rfl | rfl | rfl | rfl <;> rfl
theorem put_fin {w : World} {B n N : Nat} {v : Value} {l : List Pr5} {z : Pr5} {zs : List Value} (h : w.ownsRow B 96 5 v (0 + n + 1 + (N - n)) ([] ++ prsC (l.take n) ++ zs ++ prsC (l.drop n))) (hins : insQ l z = l.take n ++ z :: l.drop n) (hN : l.length = N) (hn : n ≤ N) (hz : zs = prC z) : PHas w v (insQ l z) := by
 have hp : ([] ++ prsC (l.take n) ++ zs ++ prsC (l.drop n)) = prsC (insQ l z) := by
  rw [hins, hz, List.nil_append, prsC_append, List.append_assoc]
  rfl
 rw [hp] at h
 refine PHas.of_own h ?_
 rw [hins, List.length_append, List.length_take, List.length_cons, List.length_drop]
 omega
/-- What put answers: the list as it came, or one in new memory. -/
def PutPost (l : List Pr5) (z : Pr5) (v : Value) (w : World) (e : Ending) (w' : World) : Prop := ∃ v', e = .returned v' ∧ PHas w' v' (putP l z) ∧ Below w.heap.size w w' ∧ (v' = v ∨ ∀ b, v'.ownBlock = some b → w.heap.size ≤ b)
set_option maxHeartbeats 1500000 in
set_option maxRecDepth 100000 in
theorem put_new (l : List Pr5) (z : Pr5) (g0 c M : Nat) (w : World) (hl : l.length ≤ 1000000000) (hLI : LI M l) (hzM : z.t.length = M) (hc : l.length ≤ c) (hg0 : g0 < w.heap.size) (hr0 : PRow w g0 l) (hfn : l.find? (sameK · z) = none) : Calls Tryd.prog 53 #[.slice (some ⟨g0, 0, none⟩) l.length c, prV z] w (PutPost l z (.slice (some ⟨g0, 0, none⟩) l.length c) w) := by
 have hrow : l ≠ [] → ∃ g, (some (⟨g0, 0, none⟩ : Addr)) = some ⟨g, 0, none⟩ ∧ g < w.heap.size ∧ PRow w g l := fun _ => ⟨g0, rfl, hg0, hr0⟩
 have hv : True := trivial
 have hcN : (l.length : Int) ≤ (c : Int) := by omega
 obtain ⟨i0, hi0, hw0, hw1, hw2⟩ := info_parts info52b
 have HLI := Lib.hid (And.intro hLI hzM)
 have HG0 := Lib.hid hg0
 have HR0 := Lib.hid hr0
 clear hLI hzM hg0 hr0
 obtain ⟨za, hza⟩ : ∃ n : Int, (z.a : Int) = n := ⟨_, rfl⟩
 obtain ⟨zb, hzb⟩ : ∃ n : Int, (z.b : Int) = n := ⟨_, rfl⟩
 obtain ⟨zi, hzi⟩ : ∃ n : Int, (z.i : Int) = n := ⟨_, rfl⟩
 obtain ⟨zk, hzk⟩ : ∃ n : Int, (z.k : Int) = n := ⟨_, rfl⟩
 obtain ⟨zt, hzt⟩ : ∃ n : ByteArray, txt z.t = n := ⟨_, rfl⟩
 have hzv : prV z = .agg #[.int .i64 za, .int .i64 zb, .int .i64 zi, .int .i64 zk, .string zt] := by
  rw [← hza, ← hzb, ← hzi, ← hzk, ← hzt]
  rfl
 rw [hzv]
 have HZ := Lib.hid (And.intro hza (And.intro hzb (And.intro hzi (And.intro hzk hzt))))
 obtain ⟨N, hN⟩ : ∃ N, l.length = N := ⟨_, rfl⟩
 rw [hN] at hl hcN ⊢
 have HN := Lib.hid hN
 have hb1 : Below w.heap.size w (w.alloc (.cells #[.int .i64 za, .int .i64 zb, .int .i64 zi, .int .i64 zk, .string zt] 96)) := (Below.refl _ w).alloc (Nat.le_refl _) _
 have HRow := Lib.hid (fun (h : l ≠ []) => (hrow h).imp fun g hg => And.intro hg.1 (And.intro hg.2.1 (hg.2.2.below hb1 hg.2.1)))
 have hz0 := cell_of_row _ _ 0 _ _ _ (heap_alloc_last w (.cells #[.int .i64 za, .int .i64 zb, .int .i64 zi, .int .i64 zk, .string zt] 96))
 have hz1 := cell_of_row _ _ 1 _ _ _ (heap_alloc_last w (.cells #[.int .i64 za, .int .i64 zb, .int .i64 zi, .int .i64 zk, .string zt] 96))
 have hz2 := cell_of_row _ _ 2 _ _ _ (heap_alloc_last w (.cells #[.int .i64 za, .int .i64 zb, .int .i64 zi, .int .i64 zk, .string zt] 96))
 have hz3 := cell_of_row _ _ 3 _ _ _ (heap_alloc_last w (.cells #[.int .i64 za, .int .i64 zb, .int .i64 zi, .int .i64 zk, .string zt] 96))
 have hz4 := cell_of_row _ _ 4 _ _ _ (heap_alloc_last w (.cells #[.int .i64 za, .int .i64 zb, .int .i64 zi, .int .i64 zk, .string zt] 96))
 simp only [List.getElem?_toArray, List.getElem?_cons_zero, List.getElem?_cons_succ] at hz0 hz1 hz2 hz3 hz4
 have Hb1 := Lib.hid hb1
 have hbox := heap_alloc_last w (.cells #[.int .i64 za, .int .i64 zb, .int .i64 zi, .int .i64 zk, .string zt] 96)
 clear hza hzb hzi hzk hzt hzv hN hb1 hrow hc hv
 go_enter Tryd.func53, Tryd.ntmps53
 go_wp2
 generalize w.alloc (.cells #[.int .i64 za, .int .i64 zb, .int .i64 zi, .int .i64 zk, .string zt] 96) = W1 at *
 obtain ⟨E, hE⟩ : ∃ E, w.heap.size = E := ⟨_, rfl⟩
 rw [hE] at hbox
 have HBox := Lib.hid hbox
 clear hbox
 rw [hE] at hz0 hz1 hz2 hz3 hz4 ⊢
 have HE := Lib.hid hE
 clear hE
 go_loopw [0, 5] (fun s0 s5 wx => ∃ i : Nat, i ≤ N ∧ s0 = .slice (some ⟨g0, 0, none⟩) N c ∧ s5 = .int .i64 (i : Int) ∧ (l.take i).find? (sameK · z) = none ∧ ∃ n, wx = W1.drewN n) (fun _ s5 _ => N - (intOf s5).toNat)
 case atStart => exact ⟨0, by omega, rfl, rfl, rfl, 0, rfl⟩
 case round =>
  obtain ⟨i, hi, rfl, rfl, hfind, n, rfl⟩ := hrel
  have Hf := Lib.hid hfind
  clear hfind
  have hbx : ∀ m, Below w.heap.size w (W1.drewN m) := fun m => drop_below Hb1.out m
  have Hbx := Lib.hid hbx
  clear hbx
  by_cases hlt : i < N
  ·have hiz : (i : Int) < (N : Int) := by omega
   obtain ⟨x, hx⟩ : ∃ x, l[i]? = some x := ⟨l[i]'(by rw [HN.out]; exact hlt), List.getElem?_eq_getElem _⟩
   obtain ⟨g, hge, hg, hr⟩ := HRow.out (fun e => by rw [e] at hx; simp at hx)
   obtain rfl : g0 = g := by simpa using hge
   clear hge
   obtain ⟨d0, d1, d2, d3, d4⟩ := hr.at_ hx
   have hsk : sameK x z = (decide (x.a = z.a) && (decide (x.b = z.b) && (decide (x.i = z.i) && decide (x.k = z.k)))) := rfl
   have hnx := take_find Hf.out hx
   have hat := find_at Hf.out hx
   have e0 : decide (x.a = z.a) = ((x.a : Int) == za) := by rw [← HZ.out.1, Bool.eq_iff_iff, decide_eq_true_eq, beq_iff_eq]; omega
   have e1 : decide (x.b = z.b) = ((x.b : Int) == zb) := by rw [← HZ.out.2.1, Bool.eq_iff_iff, decide_eq_true_eq, beq_iff_eq]; omega
   have e2 : decide (x.i = z.i) = ((x.i : Int) == zi) := by rw [← HZ.out.2.2.1, Bool.eq_iff_iff, decide_eq_true_eq, beq_iff_eq]; omega
   have e3 : decide (x.k = z.k) = ((x.k : Int) == zk) := by rw [← HZ.out.2.2.2.1, Bool.eq_iff_iff, decide_eq_true_eq, beq_iff_eq]; omega
   rw [e0, e1, e2, e3] at hsk
   have Hnx := Lib.hid hnx
   have Hat := Lib.hid hat
   have Hsk := Lib.hid hsk
   have Hx := Lib.hid hx
   clear hsk hnx hat e0 e1 e2 e3 hr hx
   obtain ⟨xa, hxa⟩ : ∃ n : Int, (x.a : Int) = n := ⟨_, rfl⟩
   obtain ⟨xb, hxb⟩ : ∃ n : Int, (x.b : Int) = n := ⟨_, rfl⟩
   obtain ⟨xi, hxi⟩ : ∃ n : Int, (x.i : Int) = n := ⟨_, rfl⟩
   obtain ⟨xk, hxk⟩ : ∃ n : Int, (x.k : Int) = n := ⟨_, rfl⟩
   obtain ⟨xt, hxt⟩ : ∃ n : ByteArray, txt x.t = n := ⟨_, rfl⟩
   rw [hxa] at d0 Hsk
   rw [hxb] at d1 Hsk
   rw [hxi] at d2 Hsk
   rw [hxk] at d3 Hsk
   rw [hxt] at d4
   have HX := Lib.hid hxt
   clear hxa hxb hxi hxk hxt
   cases q0 : (xa == za) with
   | false =>
    have hn := Hnx.out
    have hs : sameK x z = false := by rw [Hsk.out, q0]; rfl
    rw [hs] at hn
    have Hn := Lib.hid hn
    clear hn hs
    go_wp2
    go_quiet (fail)
    go_wp2
    exact ⟨⟨i + 1, by omega, rfl, rfl, Hn.out, _, rfl⟩, by simp [intOf]; omega⟩
   | true =>
    cases q1 : (xb == zb) with
    | false =>
     have hn := Hnx.out
     have hs : sameK x z = false := by rw [Hsk.out, q0, q1]; rfl
     rw [hs] at hn
     have Hn := Lib.hid hn
     clear hn hs
     go_wp2
     go_quiet (fail)
     go_wp2
     exact ⟨⟨i + 1, by omega, rfl, rfl, Hn.out, _, rfl⟩, by simp [intOf]; omega⟩
    | true =>
     cases q2 : (xi == zi) with
     | false =>
      have hn := Hnx.out
      have hs : sameK x z = false := by rw [Hsk.out, q0, q1, q2]; rfl
      rw [hs] at hn
      have Hn := Lib.hid hn
      clear hn hs
      go_wp2
      go_quiet (fail)
      go_wp2
      exact ⟨⟨i + 1, by omega, rfl, rfl, Hn.out, _, rfl⟩, by simp [intOf]; omega⟩
     | true =>
      cases q3 : (xk == zk) with
      | false =>
       have hn := Hnx.out
       have hs : sameK x z = false := by rw [Hsk.out, q0, q1, q2, q3]; rfl
       rw [hs] at hn
       have Hn := Lib.hid hn
       clear hn hs
       go_wp2
       go_quiet (fail)
       go_wp2
       exact ⟨⟨i + 1, by omega, rfl, rfl, Hn.out, _, rfl⟩, by simp [intOf]; omega⟩
      | true =>
       have Hs := Lib.hid (show sameK x z = true from by rw [Hsk.out, q0, q1, q2, q3]; rfl)
       have := Hat.out Hs.out
       rw [hfn] at this
       cases this
  ·obtain rfl : i = N := by omega
   have HN2 := Lib.hid (show l.length = i from HN.out)
   obtain ⟨Wb, hWb⟩ : ∃ Wb, W1.drewN n = Wb := ⟨_, rfl⟩
   have Hbb := Lib.hid (show Below w.heap.size w Wb from by rw [← hWb]; exact Hbx.out n)
   have Hr2 := Lib.hid (show PRow Wb g0 l from by rw [← hWb]; exact (HR0.out.below (Hbx.out n) HG0.out))
   have HgE := Lib.hid (show g0 < Wb.heap.size from by rw [← hWb]; exact Nat.lt_of_lt_of_le HG0.out (Hbx.out n).size)
   have HEr := Lib.hid (show Wb.heap[E]? = some (.cells #[.int .i64 za, .int .i64 zb, .int .i64 zi, .int .i64 zk, .string zt] 96 (0, 0)) from by rw [← hWb]; exact HBox.out)
   have HLI2 := Lib.hid (show LI M l from HLI.out.1)
   have Hres := Lib.hid (show putP l z = insQ l z from by unfold putP; rw [hfn])
   have y4 := cell_of_row Wb E 4 _ _ _ HEr.out
   simp only [List.getElem?_toArray, List.getElem?_cons_zero, List.getElem?_cons_succ] at y4
   rw [hWb]
   clear hWb hz0 hz1 hz2 hz3 hz4 Hf Hbx HRow Hb1 HN HBox
   go_wp2
   go_loopw [6] (fun s6 wx => ∃ n : Nat, n ≤ i ∧ s6 = .int .i64 (n : Int) ∧ insQ l z = l.take n ++ insQ (l.drop n) z ∧ ∃ m, wx = Wb.drewN m) (fun s6 _ => i - (intOf s6).toNat)
   case atStart => exact ⟨0, by omega, rfl, by rw [List.take_zero, List.drop_zero, List.nil_append], 0, rfl⟩
   case round =>
    obtain ⟨n, hn, rfl, hins, m, rfl⟩ := hrel
    have Hins := Lib.hid hins
    clear hins
    by_cases hlt2 : n < i
    ·have hiz : (n : Int) < (i : Int) := by omega
     obtain ⟨x, hx⟩ : ∃ x, l[n]? = some x := ⟨l[n]'(by rw [HN2.out]; exact hlt2), List.getElem?_eq_getElem _⟩
     have d4 := (Hr2.out.at_ hx).2.2.2.2
     have hle : leT x.t z.t = (Op.bytesLess (txt x.t).toList zt.toList || ((txt x.t).toList == zt.toList)) := by
      rw [leq_form (by rw [HLI2.out.len x (List.mem_of_getElem? hx), HLI.out.2]), txt_list, ← HZ.out.2.2.2.2, txt_list]
     obtain ⟨xt, hxt⟩ : ∃ n : ByteArray, txt x.t = n := ⟨_, rfl⟩
     rw [hxt] at d4 hle
     clear hxt
     cases hb1 : Op.bytesLess xt.toList zt.toList with
     | true =>
      rw [hb1] at hle
      have Hn := Lib.hid (insQ_step Hins.out hx hle)
      clear hx hle
      go_wp2
      go_quiet (fail)
      go_wp2
      exact ⟨⟨n + 1, by omega, rfl, Hn.out, _, rfl⟩, by simp [intOf]; omega⟩
     | false =>
      cases hb2 : (xt.toList == zt.toList) with
      | true =>
       rw [hb1, hb2] at hle
       have Hn := Lib.hid (insQ_step Hins.out hx hle)
       clear hx hle
       go_wp2
       go_quiet (fail)
       go_wp2
       exact ⟨⟨n + 1, by omega, rfl, Hn.out, _, rfl⟩, by simp [intOf]; omega⟩
      | false =>
       rw [hb1, hb2] at hle
       have Hn := Lib.hid (insQ_stop Hins.out (fun u hu => by rw [hx] at hu; obtain rfl := Option.some.inj hu; exact hle))
       clear hx hle Hins
       go_wp2
       go_quiet (fail)
       go_wp2
       generalize hWc : World.drewN (World.drewN Wb m) nq = Wc
       have HEc := Lib.hid (show Wc.heap[E]? = some (.cells #[.int .i64 za, .int .i64 zb, .int .i64 zi, .int .i64 zk, .string zt] 96 (0, 0)) from by rw [← hWc]; exact HEr.out)
       have Hrc := Lib.hid (show PRow Wc g0 l from by rw [← hWc]; exact Hr2.out)
       have Hbc := Lib.hid (show Below w.heap.size w Wc from by rw [← hWc]; exact drop_below (drop_below Hbb.out _) _)
       have hGc : g0 < Wc.heap.size := by rw [← hWc]; exact HgE.out
       have hEl : E < Wc.heap.size := (Array.getElem?_eq_some_iff.1 HEc.out).1
       have hlenT : (prsC (l.take n)).length = n * 5 := by rw [prsC_len, List.length_take, HN2.out]; omega
       have hlenD : (prsC (l.drop n)).length = (i - n) * 5 := by rw [prsC_len, List.length_drop, HN2.out]
       have Hcel := Lib.hid (fun W (hb : Below Wc.heap.size Wc W) => row_take (Hrc.out.below hb hGc) n)
       have hCn : (n : Int) ≤ (c : Int) := by omega
       have hnN : (n : Int) ≤ (i : Int) := by omega
       obtain ⟨AD, hAD⟩ : ∃ ad : Addr, (if c = n then some (⟨g0, 0, none⟩ : Addr) else some ⟨g0, n * 5, none⟩) = some ad := by split <;> exact ⟨_, rfl⟩
       have HcelD := Lib.hid (fun W (hb : Below Wc.heap.size Wc W) => row_drop (cap := c) (Hrc.out.below hb hGc) n (by rw [HN2.out]; omega) hAD)
       have hzc : #[.int .i64 za, .int .i64 zb, .int .i64 zi, .int .i64 zk, .string zt].toList = prC z := by rw [← HZ.out.1, ← HZ.out.2.1, ← HZ.out.2.2.1, ← HZ.out.2.2.2.1, ← HZ.out.2.2.2.2]; rfl
       clear hWc Hr2 HEr Hbb HgE
       refine wp_region_held_drew (S := fun wx => wx.heap[E]? = some (.cells #[.int .i64 za, .int .i64 zb, .int .i64 zi, .int .i64 zk, .string zt] 96 (0, 0)) ∧ Below Wc.heap.size Wc wx) (by kernel_rfl) ⟨HEc.out, (Below.refl _ _).drew⟩ (fun hHeld => ?_)
       refine wpAnyH_take (i := 0) (oi := ⟨some 85, .move (.tmp 0), 94, "ref.go:283", #[], none⟩) (v := .slice (some ⟨g0, 0, none⟩) i c) rfl (by kernel_rfl) (by kernel_rfl) (by kernel_rfl) (fun _ _ _ h => h) (Or.inl ⟨by rfl, fun w hSw => by go_simp⟩) (by assumption) ?_
       try simp only [Act.put, List.setIfInBounds_toArray, List.set_cons_zero, List.set_cons_succ]
       refine wpAnyH_take (i := 1) (oi := ⟨some 86, .move (.tmp 6), 3, "ref.go:283", #[], none⟩) (v := .int .i64 (n : Int)) rfl (by kernel_rfl) (by kernel_rfl) (by kernel_rfl) (fun _ _ _ h => h) (Or.inl ⟨by rfl, fun w hSw => by go_simp⟩) (by assumption) ?_
       try simp only [Act.put, List.setIfInBounds_toArray, List.set_cons_zero, List.set_cons_succ]
       refine wpAnyH_take (i := 2) (oi := ⟨some 87, .slice 94 (.tmp 85) none (some (.tmp 86)) none, 94, "ref.go:283", #[⟨0, .data⟩, ⟨1, .data⟩], none⟩) (v := .slice (some ⟨g0, 0, none⟩) n c) rfl (by kernel_rfl) (by kernel_rfl) (by kernel_rfl) (fun _ _ _ h => h) (Or.inl ⟨by rfl, fun w hSw => by go_simp⟩) (by assumption) ?_
       try simp only [Act.put, List.setIfInBounds_toArray, List.set_cons_zero, List.set_cons_succ]
       refine wpAnyH_take (i := 4) (oi := ⟨some 89, .load 96 (.tmp 3), 96, "ref.go:283", #[], none⟩) (v := .agg #[.int .i64 za, .int .i64 zb, .int .i64 zi, .int .i64 zk, .string zt]) rfl (by kernel_rfl) (by kernel_rfl) (by kernel_rfl) (fun _ _ _ h => h) (yieldsIf_load_row (by rfl) 96 (.tmp 3) rfl E rfl 96 #[.int .i64 za, .int .i64 zb, .int .i64 zi, .int .i64 zk, .string zt] (0, 0) _ (fun w h => h.1) Tryd.underlying96 rfl (by rw [hi0]; simp [hw1])) (by assumption) ?_
       try simp only [Act.put, List.setIfInBounds_toArray, List.set_cons_zero, List.set_cons_succ]
       refine wpAnyH_take (i := 7) (oi := ⟨some 92, .move (.tmp 0), 94, "ref.go:283", #[], none⟩) (v := .slice (some ⟨g0, 0, none⟩) i c) rfl (by kernel_rfl) (by kernel_rfl) (by kernel_rfl) (fun _ _ _ h => h) (Or.inl ⟨by rfl, fun w hSw => by go_simp⟩) (by assumption) ?_
       try simp only [Act.put, List.setIfInBounds_toArray, List.set_cons_zero, List.set_cons_succ]
       refine wpAnyH_take (i := 8) (oi := ⟨some 93, .move (.tmp 6), 3, "ref.go:283", #[], none⟩) (v := .int .i64 (n : Int)) rfl (by kernel_rfl) (by kernel_rfl) (by kernel_rfl) (fun _ _ _ h => h) (Or.inl ⟨by rfl, fun w hSw => by go_simp⟩) (by assumption) ?_
       try simp only [Act.put, List.setIfInBounds_toArray, List.set_cons_zero, List.set_cons_succ]
       refine wpAnyH_take (i := 9) (oi := ⟨some 94, .slice 94 (.tmp 92) (some (.tmp 93)) none none, 94, "ref.go:283", #[⟨7, .data⟩, ⟨8, .data⟩], none⟩) (v := .slice (some AD) (i - n) (c - n)) rfl (by kernel_rfl) (by kernel_rfl) (by kernel_rfl) (fun _ _ _ h => h) (Or.inl ⟨by rfl, fun w hSw => by go_simp⟩) (by assumption) ?_
       try simp only [Act.put, List.setIfInBounds_toArray, List.set_cons_zero, List.set_cons_succ]
       refine wpAnyH_ready (rs := [3, 5]) (by kernel_rfl) (by simp) ?_
       refine AllReadyH.cons (o := ⟨some 88, .call { callee := .builtin .append, args := #[.const (.slice none 0 0), .tmp 87], argTypes := #[94, 94] }, 94, "ref.go:283", #[⟨2, .data⟩], none⟩) rfl (fun K hK => ?_) (AllReadyH.cons (o := ⟨some 90, .buildSlice 94 1 #[(0, .tmp 89)], 94, "ref.go:283", #[⟨4, .data⟩], none⟩) rfl (fun K hK => ?_) AllReadyH.nil)
       ·refine step_append_own rfl (.const (.slice none 0 0)) (.tmp 87) 94 rfl Wc.heap.size 96 i0 _ 5 48 Tryd.underlying94 hi0 hw0 hw1 hw2 rfl (by decide) (.slice none 0 0) 0 [] rfl (World.ownsRow_nil _ _ _ _) ⟨g0, 0, none⟩ n c (prsC (l.take n)) rfl hlenT (Hcel.out _ (Below.refl _ _).drew) (prsC_one _) (by unfold maxLen; omega) (by omega) (Nat.le_refl _) ?_
        intro v1 w1 hown1 hgr1
        have hb1 : Below Wc.heap.size Wc w1 := ((Below.refl _ Wc).drew).grown (show Wc.drew.grownBy w1 none from hgr1) (Nat.le_refl _) (fun k hk => by cases hk)
        refine hK.out _ _ ⟨(hb1.block E hEl).trans HEc.out, hb1⟩ (fun hHeld => ?_)
        try simp only [Act.put, List.setIfInBounds_toArray, List.set_cons_zero, List.set_cons_succ]
        clear hK
        refine wpAnyH_ready (rs := [5]) (by kernel_rfl) (by simp) ?_
        refine AllReadyH.cons (o := ⟨some 90, .buildSlice 94 1 #[(0, .tmp 89)], 94, "ref.go:283", #[⟨4, .data⟩], none⟩) rfl (fun K hK => ?_) AllReadyH.nil
        refine step_build_row rfl 94 96 (.tmp 89) rfl #[.int .i64 za, .int .i64 zb, .int .i64 zi, .int .i64 zk, .string zt] i0 _ rfl Tryd.underlying94 hi0 hw0 (by rw [hw1]; rfl) (Nat.succ_pos 4) (by show (5 : Nat) ≤ 2 ^ 24; omega) ?_
        have hb2 : Below Wc.heap.size Wc (w1.alloc (.cells #[.int .i64 za, .int .i64 zb, .int .i64 zi, .int .i64 zk, .string zt] 96)) := hb1.alloc hb1.size _
        refine hK.out _ _ ⟨(hb2.block E hEl).trans HEc.out, hb2⟩ (fun hHeld => ?_)
        try simp only [Act.put, List.setIfInBounds_toArray, List.set_cons_zero, List.set_cons_succ]
        clear hK
        refine wpAnyH_ready (rs := [6]) (by kernel_rfl) (by simp) ?_
        refine AllReadyH.cons (o := ⟨some 91, .call { callee := .builtin .append, args := #[.tmp 88, .tmp 90], argTypes := #[94, 94] }, 94, "ref.go:283", #[⟨3, .data⟩, ⟨5, .data⟩, ⟨3, .chain⟩], none⟩) rfl (fun K hK => ?_) AllReadyH.nil
        refine step_append_own rfl (.tmp 88) (.tmp 90) 94 rfl Wc.heap.size 96 i0 _ 5 48 Tryd.underlying94 hi0 hw0 hw1 hw2 rfl (by decide) v1 (0 + n) ([] ++ prsC (l.take n)) rfl (hown1.alloc _) ⟨w1.heap.size, 0, none⟩ 1 1 [.int .i64 za, .int .i64 zb, .int .i64 zi, .int .i64 zk, .string zt] rfl rfl (pr_new w1) zc_one (by unfold maxLen; omega) (by omega) (hb2.size) ?_
        intro v2 w2 hown2 hgr2
        have hb3 : Below Wc.heap.size Wc w2 := hb2.grown hgr2 hb2.size (fun k hk => (hown1.lt k hk).1)
        refine hK.out _ _ ⟨(hb3.block E hEl).trans HEc.out, hb3⟩ (fun hHeld => ?_)
        try simp only [Act.put, List.setIfInBounds_toArray, List.set_cons_zero, List.set_cons_succ]
        clear hK
        refine wpAnyH_ready (rs := [10]) (by kernel_rfl) (by simp) ?_
        refine AllReadyH.cons (o := ⟨some 95, .call { callee := .builtin .append, args := #[.tmp 91, .tmp 94], argTypes := #[94, 94] }, 94, "ref.go:283", #[⟨6, .data⟩, ⟨9, .data⟩, ⟨6, .chain⟩], none⟩) rfl (fun K hK => ?_) AllReadyH.nil
        refine step_append_own rfl (.tmp 91) (.tmp 94) 94 rfl Wc.heap.size 96 i0 _ 5 48 Tryd.underlying94 hi0 hw0 hw1 hw2 rfl (by decide) v2 (0 + n + 1) ([] ++ prsC (l.take n) ++ [.int .i64 za, .int .i64 zb, .int .i64 zi, .int .i64 zk, .string zt]) rfl (hown2) AD (i - n) (c - n) (prsC (l.drop n)) rfl hlenD (HcelD.out _ hb3) (prsC_one _) (by unfold maxLen; omega) (by omega) (hb3.size) ?_
        intro v3 w3 hown3 hgr3
        have hb4 : Below Wc.heap.size Wc w3 := hb3.grown hgr3 hb3.size (fun k hk => (hown2.lt k hk).1)
        refine hK.out _ _ ⟨(hb4.block E hEl).trans HEc.out, hb4⟩ (fun hHeld => ?_)
        try simp only [Act.put, List.setIfInBounds_toArray, List.set_cons_zero, List.set_cons_succ]
        clear hK
        refine wpAnyH_take (i := 11) (oi := ⟨some 4, .assign (.tmp 95), 94, "ref.go:283", #[⟨10, .data⟩, ⟨10, .chain⟩, ⟨0, .phase⟩, ⟨1, .phase⟩, ⟨2, .phase⟩, ⟨3, .phase⟩, ⟨4, .phase⟩, ⟨5, .phase⟩, ⟨6, .phase⟩, ⟨7, .phase⟩, ⟨8, .phase⟩, ⟨9, .phase⟩, ⟨10, .phase⟩], none⟩) (v := v3) rfl (by kernel_rfl) (by kernel_rfl) (by kernel_rfl) (fun _ _ _ h => h) (Or.inl ⟨by rfl, fun w hSw => by go_simp⟩) (by assumption) ?_
        try simp only [Act.put, List.setIfInBounds_toArray, List.set_cons_zero, List.set_cons_succ]
        refine wpAnyH_done (by kernel_rfl) ?_ _
        have hfin := put_fin hown3 Hn.out HN2.out hn hzc
        have HFin := Lib.hid (show PutPost l z (.slice (some ⟨g0, 0, none⟩) i c) w (.returned v3) w3 from ⟨v3, rfl, by rw [Hres.out]; exact hfin, Hbc.out.trans (hb4.mono Hbc.out.size), Or.inr fun b hb => Nat.le_trans Hbc.out.size (hown3.lt b hb).1⟩)
        clear hfin hown3 hgr3 hown2 hgr2 hown1 hgr1 hb1 hb2 hb3 hb4 hHeld hzc
        go_wp2
        go_ret
        exact HFin.out
       ·refine step_build_row rfl 94 96 (.tmp 89) rfl #[.int .i64 za, .int .i64 zb, .int .i64 zi, .int .i64 zk, .string zt] i0 _ rfl Tryd.underlying94 hi0 hw0 (by rw [hw1]; rfl) (Nat.succ_pos 4) (by show (5 : Nat) ≤ 2 ^ 24; omega) ?_
        have hb1 : Below Wc.heap.size Wc (Wc.drew.alloc (.cells #[.int .i64 za, .int .i64 zb, .int .i64 zi, .int .i64 zk, .string zt] 96)) := ((Below.refl _ Wc).drew).alloc (Nat.le_refl _) _
        refine hK.out _ _ ⟨(hb1.block E hEl).trans HEc.out, hb1⟩ (fun hHeld => ?_)
        try simp only [Act.put, List.setIfInBounds_toArray, List.set_cons_zero, List.set_cons_succ]
        clear hK
        refine wpAnyH_ready (rs := [3]) (by kernel_rfl) (by simp) ?_
        refine AllReadyH.cons (o := ⟨some 88, .call { callee := .builtin .append, args := #[.const (.slice none 0 0), .tmp 87], argTypes := #[94, 94] }, 94, "ref.go:283", #[⟨2, .data⟩], none⟩) rfl (fun K hK => ?_) AllReadyH.nil
        refine step_append_own rfl (.const (.slice none 0 0)) (.tmp 87) 94 rfl Wc.heap.size 96 i0 _ 5 48 Tryd.underlying94 hi0 hw0 hw1 hw2 rfl (by decide) (.slice none 0 0) 0 [] rfl (World.ownsRow_nil _ _ _ _) ⟨g0, 0, none⟩ n c (prsC (l.take n)) rfl hlenT (Hcel.out _ hb1) (prsC_one _) (by unfold maxLen; omega) (by omega) (hb1.size) ?_
        intro v1 w1 hown1 hgr1
        have hgr1' : (Wc.drew.alloc (.cells #[.int .i64 za, .int .i64 zb, .int .i64 zi, .int .i64 zk, .string zt] 96)).grownBy w1 none := hgr1
        have hb2 : Below Wc.heap.size Wc w1 := hb1.grown hgr1' hb1.size (fun k hk => by cases hk)
        have hpz := pr_kept (pr_new Wc.drew) hgr1'
        refine hK.out _ _ ⟨(hb2.block E hEl).trans HEc.out, hb2⟩ (fun hHeld => ?_)
        try simp only [Act.put, List.setIfInBounds_toArray, List.set_cons_zero, List.set_cons_succ]
        clear hK
        refine wpAnyH_ready (rs := [6]) (by kernel_rfl) (by simp) ?_
        refine AllReadyH.cons (o := ⟨some 91, .call { callee := .builtin .append, args := #[.tmp 88, .tmp 90], argTypes := #[94, 94] }, 94, "ref.go:283", #[⟨3, .data⟩, ⟨5, .data⟩, ⟨3, .chain⟩], none⟩) rfl (fun K hK => ?_) AllReadyH.nil
        refine step_append_own rfl (.tmp 88) (.tmp 90) 94 rfl Wc.heap.size 96 i0 _ 5 48 Tryd.underlying94 hi0 hw0 hw1 hw2 rfl (by decide) v1 (0 + n) ([] ++ prsC (l.take n)) rfl (hown1) ⟨Wc.drew.heap.size, 0, none⟩ 1 1 [.int .i64 za, .int .i64 zb, .int .i64 zi, .int .i64 zk, .string zt] rfl rfl hpz zc_one (by unfold maxLen; omega) (by omega) (hb2.size) ?_
        intro v2 w2 hown2 hgr2
        have hb3 : Below Wc.heap.size Wc w2 := hb2.grown hgr2 hb2.size (fun k hk => (hown1.lt k hk).1)
        refine hK.out _ _ ⟨(hb3.block E hEl).trans HEc.out, hb3⟩ (fun hHeld => ?_)
        try simp only [Act.put, List.setIfInBounds_toArray, List.set_cons_zero, List.set_cons_succ]
        clear hK
        refine wpAnyH_ready (rs := [10]) (by kernel_rfl) (by simp) ?_
        refine AllReadyH.cons (o := ⟨some 95, .call { callee := .builtin .append, args := #[.tmp 91, .tmp 94], argTypes := #[94, 94] }, 94, "ref.go:283", #[⟨6, .data⟩, ⟨9, .data⟩, ⟨6, .chain⟩], none⟩) rfl (fun K hK => ?_) AllReadyH.nil
        refine step_append_own rfl (.tmp 91) (.tmp 94) 94 rfl Wc.heap.size 96 i0 _ 5 48 Tryd.underlying94 hi0 hw0 hw1 hw2 rfl (by decide) v2 (0 + n + 1) ([] ++ prsC (l.take n) ++ [.int .i64 za, .int .i64 zb, .int .i64 zi, .int .i64 zk, .string zt]) rfl (hown2) AD (i - n) (c - n) (prsC (l.drop n)) rfl hlenD (HcelD.out _ hb3) (prsC_one _) (by unfold maxLen; omega) (by omega) (hb3.size) ?_
        intro v3 w3 hown3 hgr3
        have hb4 : Below Wc.heap.size Wc w3 := hb3.grown hgr3 hb3.size (fun k hk => (hown2.lt k hk).1)
        refine hK.out _ _ ⟨(hb4.block E hEl).trans HEc.out, hb4⟩ (fun hHeld => ?_)
        try simp only [Act.put, List.setIfInBounds_toArray, List.set_cons_zero, List.set_cons_succ]
        clear hK
        refine wpAnyH_take (i := 11) (oi := ⟨some 4, .assign (.tmp 95), 94, "ref.go:283", #[⟨10, .data⟩, ⟨10, .chain⟩, ⟨0, .phase⟩, ⟨1, .phase⟩, ⟨2, .phase⟩, ⟨3, .phase⟩, ⟨4, .phase⟩, ⟨5, .phase⟩, ⟨6, .phase⟩, ⟨7, .phase⟩, ⟨8, .phase⟩, ⟨9, .phase⟩, ⟨10, .phase⟩], none⟩) (v := v3) rfl (by kernel_rfl) (by kernel_rfl) (by kernel_rfl) (fun _ _ _ h => h) (Or.inl ⟨by rfl, fun w hSw => by go_simp⟩) (by assumption) ?_
        try simp only [Act.put, List.setIfInBounds_toArray, List.set_cons_zero, List.set_cons_succ]
        refine wpAnyH_done (by kernel_rfl) ?_ _
        have hfin := put_fin hown3 Hn.out HN2.out hn hzc
        have HFin := Lib.hid (show PutPost l z (.slice (some ⟨g0, 0, none⟩) i c) w (.returned v3) w3 from ⟨v3, rfl, by rw [Hres.out]; exact hfin, Hbc.out.trans (hb4.mono Hbc.out.size), Or.inr fun b hb => Nat.le_trans Hbc.out.size (hown3.lt b hb).1⟩)
        clear hfin hown3 hgr3 hown2 hgr2 hown1 hgr1 hb1 hb2 hb3 hb4 hHeld hzc
        go_wp2
        go_ret
        exact HFin.out
    ·have hnN : n = i := by omega
     have hd1 : decide (n < i) = false := decide_eq_false hlt2
     have Hn := Lib.hid (insQ_stop Hins.out (fun u hu => by
      have := (List.getElem?_eq_some_iff.1 hu).1
      rw [HN2.out] at this
      omega))
     clear Hins hnN
     go_wp2
     go_quiet (fail)
     go_wp2
     generalize hWc : World.drewN (World.drewN Wb m) nq = Wc
     have HEc := Lib.hid (show Wc.heap[E]? = some (.cells #[.int .i64 za, .int .i64 zb, .int .i64 zi, .int .i64 zk, .string zt] 96 (0, 0)) from by rw [← hWc]; exact HEr.out)
     have Hrc := Lib.hid (show PRow Wc g0 l from by rw [← hWc]; exact Hr2.out)
     have Hbc := Lib.hid (show Below w.heap.size w Wc from by rw [← hWc]; exact drop_below (drop_below Hbb.out _) _)
     have hGc : g0 < Wc.heap.size := by rw [← hWc]; exact HgE.out
     have hEl : E < Wc.heap.size := (Array.getElem?_eq_some_iff.1 HEc.out).1
     have hlenT : (prsC (l.take n)).length = n * 5 := by rw [prsC_len, List.length_take, HN2.out]; omega
     have hlenD : (prsC (l.drop n)).length = (i - n) * 5 := by rw [prsC_len, List.length_drop, HN2.out]
     have Hcel := Lib.hid (fun W (hb : Below Wc.heap.size Wc W) => row_take (Hrc.out.below hb hGc) n)
     have hCn : (n : Int) ≤ (c : Int) := by omega
     have hnN : (n : Int) ≤ (i : Int) := by omega
     obtain ⟨AD, hAD⟩ : ∃ ad : Addr, (if c = n then some (⟨g0, 0, none⟩ : Addr) else some ⟨g0, n * 5, none⟩) = some ad := by split <;> exact ⟨_, rfl⟩
     have HcelD := Lib.hid (fun W (hb : Below Wc.heap.size Wc W) => row_drop (cap := c) (Hrc.out.below hb hGc) n (by rw [HN2.out]; omega) hAD)
     have hzc : #[.int .i64 za, .int .i64 zb, .int .i64 zi, .int .i64 zk, .string zt].toList = prC z := by rw [← HZ.out.1, ← HZ.out.2.1, ← HZ.out.2.2.1, ← HZ.out.2.2.2.1, ← HZ.out.2.2.2.2]; rfl
     clear hWc Hr2 HEr Hbb HgE
     refine wp_region_held_drew (S := fun wx => wx.heap[E]? = some (.cells #[.int .i64 za, .int .i64 zb, .int .i64 zi, .int .i64 zk, .string zt] 96 (0, 0)) ∧ Below Wc.heap.size Wc wx) (by kernel_rfl) ⟨HEc.out, (Below.refl _ _).drew⟩ (fun hHeld => ?_)
     refine wpAnyH_take (i := 0) (oi := ⟨some 85, .move (.tmp 0), 94, "ref.go:283", #[], none⟩) (v := .slice (some ⟨g0, 0, none⟩) i c) rfl (by kernel_rfl) (by kernel_rfl) (by kernel_rfl) (fun _ _ _ h => h) (Or.inl ⟨by rfl, fun w hSw => by go_simp⟩) (by assumption) ?_
     try simp only [Act.put, List.setIfInBounds_toArray, List.set_cons_zero, List.set_cons_succ]
     refine wpAnyH_take (i := 1) (oi := ⟨some 86, .move (.tmp 6), 3, "ref.go:283", #[], none⟩) (v := .int .i64 (n : Int)) rfl (by kernel_rfl) (by kernel_rfl) (by kernel_rfl) (fun _ _ _ h => h) (Or.inl ⟨by rfl, fun w hSw => by go_simp⟩) (by assumption) ?_
     try simp only [Act.put, List.setIfInBounds_toArray, List.set_cons_zero, List.set_cons_succ]
     refine wpAnyH_take (i := 2) (oi := ⟨some 87, .slice 94 (.tmp 85) none (some (.tmp 86)) none, 94, "ref.go:283", #[⟨0, .data⟩, ⟨1, .data⟩], none⟩) (v := .slice (some ⟨g0, 0, none⟩) n c) rfl (by kernel_rfl) (by kernel_rfl) (by kernel_rfl) (fun _ _ _ h => h) (Or.inl ⟨by rfl, fun w hSw => by go_simp⟩) (by assumption) ?_
     try simp only [Act.put, List.setIfInBounds_toArray, List.set_cons_zero, List.set_cons_succ]
     refine wpAnyH_take (i := 4) (oi := ⟨some 89, .load 96 (.tmp 3), 96, "ref.go:283", #[], none⟩) (v := .agg #[.int .i64 za, .int .i64 zb, .int .i64 zi, .int .i64 zk, .string zt]) rfl (by kernel_rfl) (by kernel_rfl) (by kernel_rfl) (fun _ _ _ h => h) (yieldsIf_load_row (by rfl) 96 (.tmp 3) rfl E rfl 96 #[.int .i64 za, .int .i64 zb, .int .i64 zi, .int .i64 zk, .string zt] (0, 0) _ (fun w h => h.1) Tryd.underlying96 rfl (by rw [hi0]; simp [hw1])) (by assumption) ?_
     try simp only [Act.put, List.setIfInBounds_toArray, List.set_cons_zero, List.set_cons_succ]
     refine wpAnyH_take (i := 7) (oi := ⟨some 92, .move (.tmp 0), 94, "ref.go:283", #[], none⟩) (v := .slice (some ⟨g0, 0, none⟩) i c) rfl (by kernel_rfl) (by kernel_rfl) (by kernel_rfl) (fun _ _ _ h => h) (Or.inl ⟨by rfl, fun w hSw => by go_simp⟩) (by assumption) ?_
     try simp only [Act.put, List.setIfInBounds_toArray, List.set_cons_zero, List.set_cons_succ]
     refine wpAnyH_take (i := 8) (oi := ⟨some 93, .move (.tmp 6), 3, "ref.go:283", #[], none⟩) (v := .int .i64 (n : Int)) rfl (by kernel_rfl) (by kernel_rfl) (by kernel_rfl) (fun _ _ _ h => h) (Or.inl ⟨by rfl, fun w hSw => by go_simp⟩) (by assumption) ?_
     try simp only [Act.put, List.setIfInBounds_toArray, List.set_cons_zero, List.set_cons_succ]
     refine wpAnyH_take (i := 9) (oi := ⟨some 94, .slice 94 (.tmp 92) (some (.tmp 93)) none none, 94, "ref.go:283", #[⟨7, .data⟩, ⟨8, .data⟩], none⟩) (v := .slice (some AD) (i - n) (c - n)) rfl (by kernel_rfl) (by kernel_rfl) (by kernel_rfl) (fun _ _ _ h => h) (Or.inl ⟨by rfl, fun w hSw => by go_simp⟩) (by assumption) ?_
     try simp only [Act.put, List.setIfInBounds_toArray, List.set_cons_zero, List.set_cons_succ]
     refine wpAnyH_ready (rs := [3, 5]) (by kernel_rfl) (by simp) ?_
     refine AllReadyH.cons (o := ⟨some 88, .call { callee := .builtin .append, args := #[.const (.slice none 0 0), .tmp 87], argTypes := #[94, 94] }, 94, "ref.go:283", #[⟨2, .data⟩], none⟩) rfl (fun K hK => ?_) (AllReadyH.cons (o := ⟨some 90, .buildSlice 94 1 #[(0, .tmp 89)], 94, "ref.go:283", #[⟨4, .data⟩], none⟩) rfl (fun K hK => ?_) AllReadyH.nil)
     ·refine step_append_own rfl (.const (.slice none 0 0)) (.tmp 87) 94 rfl Wc.heap.size 96 i0 _ 5 48 Tryd.underlying94 hi0 hw0 hw1 hw2 rfl (by decide) (.slice none 0 0) 0 [] rfl (World.ownsRow_nil _ _ _ _) ⟨g0, 0, none⟩ n c (prsC (l.take n)) rfl hlenT (Hcel.out _ (Below.refl _ _).drew) (prsC_one _) (by unfold maxLen; omega) (by omega) (Nat.le_refl _) ?_
      intro v1 w1 hown1 hgr1
      have hb1 : Below Wc.heap.size Wc w1 := ((Below.refl _ Wc).drew).grown (show Wc.drew.grownBy w1 none from hgr1) (Nat.le_refl _) (fun k hk => by cases hk)
      refine hK.out _ _ ⟨(hb1.block E hEl).trans HEc.out, hb1⟩ (fun hHeld => ?_)
      try simp only [Act.put, List.setIfInBounds_toArray, List.set_cons_zero, List.set_cons_succ]
      clear hK
      refine wpAnyH_ready (rs := [5]) (by kernel_rfl) (by simp) ?_
      refine AllReadyH.cons (o := ⟨some 90, .buildSlice 94 1 #[(0, .tmp 89)], 94, "ref.go:283", #[⟨4, .data⟩], none⟩) rfl (fun K hK => ?_) AllReadyH.nil
      refine step_build_row rfl 94 96 (.tmp 89) rfl #[.int .i64 za, .int .i64 zb, .int .i64 zi, .int .i64 zk, .string zt] i0 _ rfl Tryd.underlying94 hi0 hw0 (by rw [hw1]; rfl) (Nat.succ_pos 4) (by show (5 : Nat) ≤ 2 ^ 24; omega) ?_
      have hb2 : Below Wc.heap.size Wc (w1.alloc (.cells #[.int .i64 za, .int .i64 zb, .int .i64 zi, .int .i64 zk, .string zt] 96)) := hb1.alloc hb1.size _
      refine hK.out _ _ ⟨(hb2.block E hEl).trans HEc.out, hb2⟩ (fun hHeld => ?_)
      try simp only [Act.put, List.setIfInBounds_toArray, List.set_cons_zero, List.set_cons_succ]
      clear hK
      refine wpAnyH_ready (rs := [6]) (by kernel_rfl) (by simp) ?_
      refine AllReadyH.cons (o := ⟨some 91, .call { callee := .builtin .append, args := #[.tmp 88, .tmp 90], argTypes := #[94, 94] }, 94, "ref.go:283", #[⟨3, .data⟩, ⟨5, .data⟩, ⟨3, .chain⟩], none⟩) rfl (fun K hK => ?_) AllReadyH.nil
      refine step_append_own rfl (.tmp 88) (.tmp 90) 94 rfl Wc.heap.size 96 i0 _ 5 48 Tryd.underlying94 hi0 hw0 hw1 hw2 rfl (by decide) v1 (0 + n) ([] ++ prsC (l.take n)) rfl (hown1.alloc _) ⟨w1.heap.size, 0, none⟩ 1 1 [.int .i64 za, .int .i64 zb, .int .i64 zi, .int .i64 zk, .string zt] rfl rfl (pr_new w1) zc_one (by unfold maxLen; omega) (by omega) (hb2.size) ?_
      intro v2 w2 hown2 hgr2
      have hb3 : Below Wc.heap.size Wc w2 := hb2.grown hgr2 hb2.size (fun k hk => (hown1.lt k hk).1)
      refine hK.out _ _ ⟨(hb3.block E hEl).trans HEc.out, hb3⟩ (fun hHeld => ?_)
      try simp only [Act.put, List.setIfInBounds_toArray, List.set_cons_zero, List.set_cons_succ]
      clear hK
      refine wpAnyH_ready (rs := [10]) (by kernel_rfl) (by simp) ?_
      refine AllReadyH.cons (o := ⟨some 95, .call { callee := .builtin .append, args := #[.tmp 91, .tmp 94], argTypes := #[94, 94] }, 94, "ref.go:283", #[⟨6, .data⟩, ⟨9, .data⟩, ⟨6, .chain⟩], none⟩) rfl (fun K hK => ?_) AllReadyH.nil
      refine step_append_own rfl (.tmp 91) (.tmp 94) 94 rfl Wc.heap.size 96 i0 _ 5 48 Tryd.underlying94 hi0 hw0 hw1 hw2 rfl (by decide) v2 (0 + n + 1) ([] ++ prsC (l.take n) ++ [.int .i64 za, .int .i64 zb, .int .i64 zi, .int .i64 zk, .string zt]) rfl (hown2) AD (i - n) (c - n) (prsC (l.drop n)) rfl hlenD (HcelD.out _ hb3) (prsC_one _) (by unfold maxLen; omega) (by omega) (hb3.size) ?_
      intro v3 w3 hown3 hgr3
      have hb4 : Below Wc.heap.size Wc w3 := hb3.grown hgr3 hb3.size (fun k hk => (hown2.lt k hk).1)
      refine hK.out _ _ ⟨(hb4.block E hEl).trans HEc.out, hb4⟩ (fun hHeld => ?_)
      try simp only [Act.put, List.setIfInBounds_toArray, List.set_cons_zero, List.set_cons_succ]
      clear hK
      refine wpAnyH_take (i := 11) (oi := ⟨some 4, .assign (.tmp 95), 94, "ref.go:283", #[⟨10, .data⟩, ⟨10, .chain⟩, ⟨0, .phase⟩, ⟨1, .phase⟩, ⟨2, .phase⟩, ⟨3, .phase⟩, ⟨4, .phase⟩, ⟨5, .phase⟩, ⟨6, .phase⟩, ⟨7, .phase⟩, ⟨8, .phase⟩, ⟨9, .phase⟩, ⟨10, .phase⟩], none⟩) (v := v3) rfl (by kernel_rfl) (by kernel_rfl) (by kernel_rfl) (fun _ _ _ h => h) (Or.inl ⟨by rfl, fun w hSw => by go_simp⟩) (by assumption) ?_
      try simp only [Act.put, List.setIfInBounds_toArray, List.set_cons_zero, List.set_cons_succ]
      refine wpAnyH_done (by kernel_rfl) ?_ _
      have hfin := put_fin hown3 Hn.out HN2.out hn hzc
      have HFin := Lib.hid (show PutPost l z (.slice (some ⟨g0, 0, none⟩) i c) w (.returned v3) w3 from ⟨v3, rfl, by rw [Hres.out]; exact hfin, Hbc.out.trans (hb4.mono Hbc.out.size), Or.inr fun b hb => Nat.le_trans Hbc.out.size (hown3.lt b hb).1⟩)
      clear hfin hown3 hgr3 hown2 hgr2 hown1 hgr1 hb1 hb2 hb3 hb4 hHeld hzc
      go_wp2
      go_ret
      exact HFin.out
     ·refine step_build_row rfl 94 96 (.tmp 89) rfl #[.int .i64 za, .int .i64 zb, .int .i64 zi, .int .i64 zk, .string zt] i0 _ rfl Tryd.underlying94 hi0 hw0 (by rw [hw1]; rfl) (Nat.succ_pos 4) (by show (5 : Nat) ≤ 2 ^ 24; omega) ?_
      have hb1 : Below Wc.heap.size Wc (Wc.drew.alloc (.cells #[.int .i64 za, .int .i64 zb, .int .i64 zi, .int .i64 zk, .string zt] 96)) := ((Below.refl _ Wc).drew).alloc (Nat.le_refl _) _
      refine hK.out _ _ ⟨(hb1.block E hEl).trans HEc.out, hb1⟩ (fun hHeld => ?_)
      try simp only [Act.put, List.setIfInBounds_toArray, List.set_cons_zero, List.set_cons_succ]
      clear hK
      refine wpAnyH_ready (rs := [3]) (by kernel_rfl) (by simp) ?_
      refine AllReadyH.cons (o := ⟨some 88, .call { callee := .builtin .append, args := #[.const (.slice none 0 0), .tmp 87], argTypes := #[94, 94] }, 94, "ref.go:283", #[⟨2, .data⟩], none⟩) rfl (fun K hK => ?_) AllReadyH.nil
      refine step_append_own rfl (.const (.slice none 0 0)) (.tmp 87) 94 rfl Wc.heap.size 96 i0 _ 5 48 Tryd.underlying94 hi0 hw0 hw1 hw2 rfl (by decide) (.slice none 0 0) 0 [] rfl (World.ownsRow_nil _ _ _ _) ⟨g0, 0, none⟩ n c (prsC (l.take n)) rfl hlenT (Hcel.out _ hb1) (prsC_one _) (by unfold maxLen; omega) (by omega) (hb1.size) ?_
      intro v1 w1 hown1 hgr1
      have hgr1' : (Wc.drew.alloc (.cells #[.int .i64 za, .int .i64 zb, .int .i64 zi, .int .i64 zk, .string zt] 96)).grownBy w1 none := hgr1
      have hb2 : Below Wc.heap.size Wc w1 := hb1.grown hgr1' hb1.size (fun k hk => by cases hk)
      have hpz := pr_kept (pr_new Wc.drew) hgr1'
      refine hK.out _ _ ⟨(hb2.block E hEl).trans HEc.out, hb2⟩ (fun hHeld => ?_)
      try simp only [Act.put, List.setIfInBounds_toArray, List.set_cons_zero, List.set_cons_succ]
      clear hK
      refine wpAnyH_ready (rs := [6]) (by kernel_rfl) (by simp) ?_
      refine AllReadyH.cons (o := ⟨some 91, .call { callee := .builtin .append, args := #[.tmp 88, .tmp 90], argTypes := #[94, 94] }, 94, "ref.go:283", #[⟨3, .data⟩, ⟨5, .data⟩, ⟨3, .chain⟩], none⟩) rfl (fun K hK => ?_) AllReadyH.nil
      refine step_append_own rfl (.tmp 88) (.tmp 90) 94 rfl Wc.heap.size 96 i0 _ 5 48 Tryd.underlying94 hi0 hw0 hw1 hw2 rfl (by decide) v1 (0 + n) ([] ++ prsC (l.take n)) rfl (hown1) ⟨Wc.drew.heap.size, 0, none⟩ 1 1 [.int .i64 za, .int .i64 zb, .int .i64 zi, .int .i64 zk, .string zt] rfl rfl hpz zc_one (by unfold maxLen; omega) (by omega) (hb2.size) ?_
      intro v2 w2 hown2 hgr2
      have hb3 : Below Wc.heap.size Wc w2 := hb2.grown hgr2 hb2.size (fun k hk => (hown1.lt k hk).1)
      refine hK.out _ _ ⟨(hb3.block E hEl).trans HEc.out, hb3⟩ (fun hHeld => ?_)
      try simp only [Act.put, List.setIfInBounds_toArray, List.set_cons_zero, List.set_cons_succ]
      clear hK
      refine wpAnyH_ready (rs := [10]) (by kernel_rfl) (by simp) ?_
      refine AllReadyH.cons (o := ⟨some 95, .call { callee := .builtin .append, args := #[.tmp 91, .tmp 94], argTypes := #[94, 94] }, 94, "ref.go:283", #[⟨6, .data⟩, ⟨9, .data⟩, ⟨6, .chain⟩], none⟩) rfl (fun K hK => ?_) AllReadyH.nil
      refine step_append_own rfl (.tmp 91) (.tmp 94) 94 rfl Wc.heap.size 96 i0 _ 5 48 Tryd.underlying94 hi0 hw0 hw1 hw2 rfl (by decide) v2 (0 + n + 1) ([] ++ prsC (l.take n) ++ [.int .i64 za, .int .i64 zb, .int .i64 zi, .int .i64 zk, .string zt]) rfl (hown2) AD (i - n) (c - n) (prsC (l.drop n)) rfl hlenD (HcelD.out _ hb3) (prsC_one _) (by unfold maxLen; omega) (by omega) (hb3.size) ?_
      intro v3 w3 hown3 hgr3
      have hb4 : Below Wc.heap.size Wc w3 := hb3.grown hgr3 hb3.size (fun k hk => (hown2.lt k hk).1)
      refine hK.out _ _ ⟨(hb4.block E hEl).trans HEc.out, hb4⟩ (fun hHeld => ?_)
      try simp only [Act.put, List.setIfInBounds_toArray, List.set_cons_zero, List.set_cons_succ]
      clear hK
      refine wpAnyH_take (i := 11) (oi := ⟨some 4, .assign (.tmp 95), 94, "ref.go:283", #[⟨10, .data⟩, ⟨10, .chain⟩, ⟨0, .phase⟩, ⟨1, .phase⟩, ⟨2, .phase⟩, ⟨3, .phase⟩, ⟨4, .phase⟩, ⟨5, .phase⟩, ⟨6, .phase⟩, ⟨7, .phase⟩, ⟨8, .phase⟩, ⟨9, .phase⟩, ⟨10, .phase⟩], none⟩) (v := v3) rfl (by kernel_rfl) (by kernel_rfl) (by kernel_rfl) (fun _ _ _ h => h) (Or.inl ⟨by rfl, fun w hSw => by go_simp⟩) (by assumption) ?_
      try simp only [Act.put, List.setIfInBounds_toArray, List.set_cons_zero, List.set_cons_succ]
      refine wpAnyH_done (by kernel_rfl) ?_ _
      have hfin := put_fin hown3 Hn.out HN2.out hn hzc
      have HFin := Lib.hid (show PutPost l z (.slice (some ⟨g0, 0, none⟩) i c) w (.returned v3) w3 from ⟨v3, rfl, by rw [Hres.out]; exact hfin, Hbc.out.trans (hb4.mono Hbc.out.size), Or.inr fun b hb => Nat.le_trans Hbc.out.size (hown3.lt b hb).1⟩)
      clear hfin hown3 hgr3 hown2 hgr2 hown1 hgr1 hb1 hb2 hb3 hb4 hHeld hzc
      go_wp2
      go_ret
      exact HFin.out
end Go.Proofs.YtdlchlbngojljaaDoor.Gl
