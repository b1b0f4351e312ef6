/- The reference's put where the list keeps a pair of the key. The reference's put into no list. -/
import Derived.Test.YtdlchlbngojljaaDoorQGlRR
import Derived.Deep.Upon
namespace Go.Proofs.YtdlchlbngojljaaDoor.Gl
open Go.RowKit
set_option maxHeartbeats 1500000 in
set_option maxRecDepth 100000 in
theorem put_keep (l : List Pr5) (z : Pr5) (g0 c M : Nat) (w : World) (hl : l.length ≤ 1000000000) (hLI : LI M l) (hzM : z.t.length = M) (hc : l.length ≤ c) (hg0 : g0 < w.heap.size) (hr0 : PRow w g0 l) (y : Pr5) (hfn : l.find? (sameK · z) = some y) (hle : leT y.t z.t = true) : Calls Tryd.prog 53 #[.slice (some ⟨g0, 0, none⟩) l.length c, prV z] w (PutPost l z (.slice (some ⟨g0, 0, none⟩) l.length c) w) := by
 have hrow : l ≠ [] → ∃ g, (some (⟨g0, 0, none⟩ : Addr)) = some ⟨g, 0, none⟩ ∧ g < w.heap.size ∧ PRow w g l := fun _ => ⟨g0, rfl, hg0, hr0⟩
 have hv : True := trivial
 have hcN : (l.length : Int) ≤ (c : Int) := by omega
 obtain ⟨i0, hi0, hw0, hw1, hw2⟩ := info_parts info52b
 have HLI := Lib.hid (And.intro hLI hzM)
 have HG0 := Lib.hid hg0
 have HR0 := Lib.hid hr0
 have Hle := Lib.hid hle
 clear hLI hzM hg0 hr0 hle
 obtain ⟨za, hza⟩ : ∃ n : Int, (z.a : Int) = n := ⟨_, rfl⟩
 obtain ⟨zb, hzb⟩ : ∃ n : Int, (z.b : Int) = n := ⟨_, rfl⟩
 obtain ⟨zi, hzi⟩ : ∃ n : Int, (z.i : Int) = n := ⟨_, rfl⟩
 obtain ⟨zk, hzk⟩ : ∃ n : Int, (z.k : Int) = n := ⟨_, rfl⟩
 obtain ⟨zt, hzt⟩ : ∃ n : ByteArray, txt z.t = n := ⟨_, rfl⟩
 have hzv : prV z = .agg #[.int .i64 za, .int .i64 zb, .int .i64 zi, .int .i64 zk, .string zt] := by
  rw [← hza, ← hzb, ← hzi, ← hzk, ← hzt]
  rfl
 rw [hzv]
 have HZ := Lib.hid (And.intro hza (And.intro hzb (And.intro hzi (And.intro hzk hzt))))
 obtain ⟨N, hN⟩ : ∃ N, l.length = N := ⟨_, rfl⟩
 rw [hN] at hl hcN ⊢
 have HN := Lib.hid hN
 have hb1 : Below w.heap.size w (w.alloc (.cells #[.int .i64 za, .int .i64 zb, .int .i64 zi, .int .i64 zk, .string zt] 96)) := (Below.refl _ w).alloc (Nat.le_refl _) _
 have HRow := Lib.hid (fun (h : l ≠ []) => (hrow h).imp fun g hg => And.intro hg.1 (And.intro hg.2.1 (hg.2.2.below hb1 hg.2.1)))
 have hz0 := cell_of_row _ _ 0 _ _ _ (heap_alloc_last w (.cells #[.int .i64 za, .int .i64 zb, .int .i64 zi, .int .i64 zk, .string zt] 96))
 have hz1 := cell_of_row _ _ 1 _ _ _ (heap_alloc_last w (.cells #[.int .i64 za, .int .i64 zb, .int .i64 zi, .int .i64 zk, .string zt] 96))
 have hz2 := cell_of_row _ _ 2 _ _ _ (heap_alloc_last w (.cells #[.int .i64 za, .int .i64 zb, .int .i64 zi, .int .i64 zk, .string zt] 96))
 have hz3 := cell_of_row _ _ 3 _ _ _ (heap_alloc_last w (.cells #[.int .i64 za, .int .i64 zb, .int .i64 zi, .int .i64 zk, .string zt] 96))
 have hz4 := cell_of_row _ _ 4 _ _ _ (heap_alloc_last w (.cells #[.int .i64 za, .int .i64 zb, .int .i64 zi, .int .i64 zk, .string zt] 96))
 simp only [List.getElem?_toArray, List.getElem?_cons_zero, List.getElem?_cons_succ] at hz0 hz1 hz2 hz3 hz4
 have Hb1 := Lib.hid hb1
 have hbox := heap_alloc_last w (.cells #[.int .i64 za, .int .i64 zb, .int .i64 zi, .int .i64 zk, .string zt] 96)
 clear hza hzb hzi hzk hzt hzv hN hb1 hrow hc hv
 go_enter Tryd.func53, Tryd.ntmps53
 go_wp2
 generalize w.alloc (.cells #[.int .i64 za, .int .i64 zb, .int .i64 zi, .int .i64 zk, .string zt] 96) = W1 at *
 obtain ⟨E, hE⟩ : ∃ E, w.heap.size = E := ⟨_, rfl⟩
 rw [hE] at hbox
 have HBox := Lib.hid hbox
 clear hbox
 rw [hE] at hz0 hz1 hz2 hz3 hz4 ⊢
 have HE := Lib.hid hE
 clear hE
 go_loopw [0, 5] (fun s0 s5 wx => ∃ i : Nat, i ≤ N ∧ s0 = .slice (some ⟨g0, 0, none⟩) N c ∧ s5 = .int .i64 (i : Int) ∧ (l.take i).find? (sameK · z) = none ∧ ∃ n, wx = W1.drewN n) (fun _ s5 _ => N - (intOf s5).toNat)
 case atStart => exact ⟨0, by omega, rfl, rfl, rfl, 0, rfl⟩
 case round =>
  obtain ⟨i, hi, rfl, rfl, hfind, n, rfl⟩ := hrel
  have Hf := Lib.hid hfind
  clear hfind
  have hbx : ∀ m, Below w.heap.size w (W1.drewN m) := fun m => drop_below Hb1.out m
  have Hbx := Lib.hid hbx
  clear hbx
  by_cases hlt : i < N
  ·have hiz : (i : Int) < (N : Int) := by omega
   obtain ⟨x, hx⟩ : ∃ x, l[i]? = some x := ⟨l[i]'(by rw [HN.out]; exact hlt), List.getElem?_eq_getElem _⟩
   obtain ⟨g, hge, hg, hr⟩ := HRow.out (fun e => by rw [e] at hx; simp at hx)
   obtain rfl : g0 = g := by simpa using hge
   clear hge
   obtain ⟨d0, d1, d2, d3, d4⟩ := hr.at_ hx
   have hsk : sameK x z = (decide (x.a = z.a) && (decide (x.b = z.b) && (decide (x.i = z.i) && decide (x.k = z.k)))) := rfl
   have hnx := take_find Hf.out hx
   have hat := find_at Hf.out hx
   have e0 : decide (x.a = z.a) = ((x.a : Int) == za) := by rw [← HZ.out.1, Bool.eq_iff_iff, decide_eq_true_eq, beq_iff_eq]; omega
   have e1 : decide (x.b = z.b) = ((x.b : Int) == zb) := by rw [← HZ.out.2.1, Bool.eq_iff_iff, decide_eq_true_eq, beq_iff_eq]; omega
   have e2 : decide (x.i = z.i) = ((x.i : Int) == zi) := by rw [← HZ.out.2.2.1, Bool.eq_iff_iff, decide_eq_true_eq, beq_iff_eq]; omega
   have e3 : decide (x.k = z.k) = ((x.k : Int) == zk) := by rw [← HZ.out.2.2.2.1, Bool.eq_iff_iff, decide_eq_true_eq, beq_iff_eq]; omega
   rw [e0, e1, e2, e3] at hsk
   have Hnx := Lib.hid hnx
   have Hat := Lib.hid hat
   have Hsk := Lib.hid hsk
   have Hx := Lib.hid hx
   clear hsk hnx hat e0 e1 e2 e3 hr hx
   obtain ⟨xa, hxa⟩ : ∃ n : Int, (x.a : Int) = n := ⟨_, rfl⟩
   obtain ⟨xb, hxb⟩ : ∃ n : Int, (x.b : Int) = n := ⟨_, rfl⟩
   obtain ⟨xi, hxi⟩ : ∃ n : Int, (x.i : Int) = n := ⟨_, rfl⟩
   obtain ⟨xk, hxk⟩ : ∃ n : Int, (x.k : Int) = n := ⟨_, rfl⟩
   obtain ⟨xt, hxt⟩ : ∃ n : ByteArray, txt x.t = n := ⟨_, rfl⟩
   rw [hxa] at d0 Hsk
   rw [hxb] at d1 Hsk
   rw [hxi] at d2 Hsk
   rw [hxk] at d3 Hsk
   rw [hxt] at d4
   have HX := Lib.hid hxt
   clear hxa hxb hxi hxk hxt
   cases q0 : (xa == za) with
   | false =>
    have hn := Hnx.out
    have hs : sameK x z = false := by rw [Hsk.out, q0]; rfl
    rw [hs] at hn
    have Hn := Lib.hid hn
    clear hn hs
    go_wp2
    go_quiet (fail)
    go_wp2
    exact ⟨⟨i + 1, by omega, rfl, rfl, Hn.out, _, rfl⟩, by simp [intOf]; omega⟩
   | true =>
    cases q1 : (xb == zb) with
    | false =>
     have hn := Hnx.out
     have hs : sameK x z = false := by rw [Hsk.out, q0, q1]; rfl
     rw [hs] at hn
     have Hn := Lib.hid hn
     clear hn hs
     go_wp2
     go_quiet (fail)
     go_wp2
     exact ⟨⟨i + 1, by omega, rfl, rfl, Hn.out, _, rfl⟩, by simp [intOf]; omega⟩
    | true =>
     cases q2 : (xi == zi) with
     | false =>
      have hn := Hnx.out
      have hs : sameK x z = false := by rw [Hsk.out, q0, q1, q2]; rfl
      rw [hs] at hn
      have Hn := Lib.hid hn
      clear hn hs
      go_wp2
      go_quiet (fail)
      go_wp2
      exact ⟨⟨i + 1, by omega, rfl, rfl, Hn.out, _, rfl⟩, by simp [intOf]; omega⟩
     | true =>
      cases q3 : (xk == zk) with
      | false =>
       have hn := Hnx.out
       have hs : sameK x z = false := by rw [Hsk.out, q0, q1, q2, q3]; rfl
       rw [hs] at hn
       have Hn := Lib.hid hn
       clear hn hs
       go_wp2
       go_quiet (fail)
       go_wp2
       exact ⟨⟨i + 1, by omega, rfl, rfl, Hn.out, _, rfl⟩, by simp [intOf]; omega⟩
      | true =>
       have Hs := Lib.hid (show sameK x z = true from by rw [Hsk.out, q0, q1, q2, q3]; rfl)
       have hfy := Hat.out Hs.out
       rw [hfn] at hfy
       have hyx : y = x := Option.some.inj hfy
       have hleX : (Op.bytesLess xt.toList zt.toList || (xt.toList == zt.toList)) = true := by
        rw [← HX.out, ← HZ.out.2.2.2.2, txt_list, txt_list, ← leq_form (by rw [HLI.out.1.len x (List.mem_of_getElem? Hx.out), HLI.out.2]), ← hyx]
        exact Hle.out
       have HP := Lib.hid (show putP l z = l from by unfold putP; rw [hfn]; exact if_pos Hle.out)
       have HFin := Lib.hid (fun wx (hb : Below w.heap.size w wx) => (show PutPost l z (.slice (some ⟨g0, 0, none⟩) N c) w (.returned (.slice (some ⟨g0, 0, none⟩) N c)) wx from ⟨_, rfl, by rw [HP.out]; exact Or.inr ⟨g0, c, by rw [HN.out], by rw [HN.out]; omega, Nat.lt_of_lt_of_le HG0.out hb.size, HR0.out.below hb HG0.out⟩, hb, Or.inl rfl⟩))
       clear hfy hyx
       cases hb1 : Op.bytesLess xt.toList zt.toList with
       | true =>
        clear hleX
        go_wp2
        go_quiet (fail)
        go_wp2
        go_quiet (fail)
        go_wp2
        go_ret
        exact HFin.out _ (drop_below (drop_below (Hbx.out _) _) _)
       | false =>
        have hb2 : (xt.toList == zt.toList) = true := by rw [hb1] at hleX; simpa using hleX
        clear hleX
        go_wp2
        go_quiet (fail)
        go_wp2
        go_quiet (fail)
        go_wp2
        go_ret
        exact HFin.out _ (drop_below (drop_below (Hbx.out _) _) _)
  ·obtain rfl : i = N := by omega
   have hh := Hf.out
   rw [List.take_of_length_le (by rw [HN.out]; omega), hfn] at hh
   cases hh
end Go.Proofs.YtdlchlbngojljaaDoor.Gl
namespace Go.Proofs.YtdlchlbngojljaaDoor.Gl
open Go.RowKit
theorem step_append_none {P : Program} {ops : Array Oper} {o : Oper} {a : Act} {w : World} {K : Act → World → Prop} {Q : Exit → Act → World → Prop} {E : Prop} (hg : o.guard = none) (s x : Operand) (t : TypeId) (hop : o.op = Op.call { callee := Callee.builtin Builtin.append, args := #[s, x], argTypes := #[t, t] })
  (e : TypeId) (i : TypeInfo) (h1 : P.underlying t = some (.slice e)) (h2 : P.info? e = some i) (b : Option Addr) (sl sc : Nat) (hle : sl ≤ sc) (hs : a.eval s = .slice b sl sc) (hx : a.eval x = .slice none 0 0) (hK : K (a.put o.dst (.slice b sl sc)) w) :
  if Region.wanted o (yielded ops a.tmps) = true then Oper.wp P o a w K Q else E := by
 have hw : Region.wanted o (yielded ops a.tmps) = true := by simp [Region.wanted, hg]
 rw [if_pos hw]
 have hrun := run_append_nothing w t t o.type e i h1 h2 b sl sc hle (.slice none 0 0) (Src.ofNil w h1 0)
 unfold Oper.wp
 simp [execOp, hop, resolve, invoke, builtin, hs, hx, hrun, Result.andThen]
 exact hK
set_option maxHeartbeats 1500000 in
set_option maxRecDepth 100000 in
theorem put_nil (z : Pr5) (w : World) : Calls Tryd.prog 53 #[.slice none 0 0, prV z] w (PutPost [] z (.slice none 0 0) w) := by
 obtain ⟨i0, hi0, hw0, hw1, hw2⟩ := info_parts info52b
 obtain ⟨za, hza⟩ : ∃ n : Int, (z.a : Int) = n := ⟨_, rfl⟩
 obtain ⟨zb, hzb⟩ : ∃ n : Int, (z.b : Int) = n := ⟨_, rfl⟩
 obtain ⟨zi, hzi⟩ : ∃ n : Int, (z.i : Int) = n := ⟨_, rfl⟩
 obtain ⟨zk, hzk⟩ : ∃ n : Int, (z.k : Int) = n := ⟨_, rfl⟩
 obtain ⟨zt, hzt⟩ : ∃ n : ByteArray, txt z.t = n := ⟨_, rfl⟩
 have hzv : prV z = .agg #[.int .i64 za, .int .i64 zb, .int .i64 zi, .int .i64 zk, .string zt] := by
  rw [← hza, ← hzb, ← hzi, ← hzk, ← hzt]
  rfl
 rw [hzv]
 have HZ := Lib.hid (And.intro hza (And.intro hzb (And.intro hzi (And.intro hzk hzt))))
 have hb1 : Below w.heap.size w (w.alloc (.cells #[.int .i64 za, .int .i64 zb, .int .i64 zi, .int .i64 zk, .string zt] 96)) := (Below.refl _ w).alloc (Nat.le_refl _) _
 have hz0 := cell_of_row _ _ 0 _ _ _ (heap_alloc_last w (.cells #[.int .i64 za, .int .i64 zb, .int .i64 zi, .int .i64 zk, .string zt] 96))
 have hz1 := cell_of_row _ _ 1 _ _ _ (heap_alloc_last w (.cells #[.int .i64 za, .int .i64 zb, .int .i64 zi, .int .i64 zk, .string zt] 96))
 have hz2 := cell_of_row _ _ 2 _ _ _ (heap_alloc_last w (.cells #[.int .i64 za, .int .i64 zb, .int .i64 zi, .int .i64 zk, .string zt] 96))
 have hz3 := cell_of_row _ _ 3 _ _ _ (heap_alloc_last w (.cells #[.int .i64 za, .int .i64 zb, .int .i64 zi, .int .i64 zk, .string zt] 96))
 have hz4 := cell_of_row _ _ 4 _ _ _ (heap_alloc_last w (.cells #[.int .i64 za, .int .i64 zb, .int .i64 zi, .int .i64 zk, .string zt] 96))
 simp only [List.getElem?_toArray, List.getElem?_cons_zero, List.getElem?_cons_succ] at hz0 hz1 hz2 hz3 hz4
 have Hb1 := Lib.hid hb1
 have hbox := heap_alloc_last w (.cells #[.int .i64 za, .int .i64 zb, .int .i64 zi, .int .i64 zk, .string zt] 96)
 clear hza hzb hzi hzk hzt hzv hb1
 go_enter Tryd.func53, Tryd.ntmps53
 go_wp2
 generalize w.alloc (.cells #[.int .i64 za, .int .i64 zb, .int .i64 zi, .int .i64 zk, .string zt] 96) = W1 at *
 obtain ⟨E, hE⟩ : ∃ E, w.heap.size = E := ⟨_, rfl⟩
 rw [hE] at hbox
 have HBox := Lib.hid hbox
 clear hbox
 rw [hE] at hz0 hz1 hz2 hz3 hz4 ⊢
 have HE := Lib.hid hE
 clear hE
 go_loopw [0, 5] (fun s0 s5 wx => s0 = .slice none 0 0 ∧ s5 = .int .i64 0 ∧ ∃ n, wx = W1.drewN n) (fun _ _ _ => 0)
 case atStart => exact ⟨rfl, rfl, 0, rfl⟩
 case round =>
  obtain ⟨rfl, rfl, n, rfl⟩ := hrel
  go_wp2
  go_loopw [6] (fun s6 wx => s6 = .int .i64 0 ∧ ∃ n, wx = W1.drewN n) (fun _ _ => 0)
  case atStart => exact ⟨rfl, _, rfl⟩
  case round =>
   obtain ⟨rfl, m, rfl⟩ := hrel
   go_wp2
   go_quiet (fail)
   go_wp2
   generalize hWc : World.drewN (World.drewN W1 m) nq = Wc
   have HEc := Lib.hid (show Wc.heap[E]? = some (.cells #[.int .i64 za, .int .i64 zb, .int .i64 zi, .int .i64 zk, .string zt] 96 (0, 0)) from by rw [← hWc]; exact HBox.out)
   have Hbc := Lib.hid (show Below w.heap.size w Wc from by rw [← hWc]; exact drop_below (drop_below Hb1.out _) _)
   have hEl : E < Wc.heap.size := (Array.getElem?_eq_some_iff.1 HEc.out).1
   have hzc : #[.int .i64 za, .int .i64 zb, .int .i64 zi, .int .i64 zk, .string zt].toList = prC z := by rw [← HZ.out.1, ← HZ.out.2.1, ← HZ.out.2.2.1, ← HZ.out.2.2.2.1, ← HZ.out.2.2.2.2]; rfl
   clear hWc HBox Hb1 hz0 hz1 hz2 hz3 hz4
   refine wp_region_held_drew (S := fun wx => wx.heap[E]? = some (.cells #[.int .i64 za, .int .i64 zb, .int .i64 zi, .int .i64 zk, .string zt] 96 (0, 0)) ∧ Below Wc.heap.size Wc wx) (by kernel_rfl) ⟨HEc.out, (Below.refl _ _).drew⟩ (fun hHeld => ?_)
   refine wpAnyH_take (i := 0) (oi := ⟨some 85, .move (.tmp 0), 94, "ref.go:283", #[], none⟩) (v := .slice none 0 0) rfl (by kernel_rfl) (by kernel_rfl) (by kernel_rfl) (fun _ _ _ h => h) (Or.inl ⟨by rfl, fun w hSw => by go_simp⟩) (by assumption) ?_
   try simp only [Act.put, List.setIfInBounds_toArray, List.set_cons_zero, List.set_cons_succ]
   refine wpAnyH_take (i := 1) (oi := ⟨some 86, .move (.tmp 6), 3, "ref.go:283", #[], none⟩) (v := .int .i64 0) rfl (by kernel_rfl) (by kernel_rfl) (by kernel_rfl) (fun _ _ _ h => h) (Or.inl ⟨by rfl, fun w hSw => by go_simp⟩) (by assumption) ?_
   try simp only [Act.put, List.setIfInBounds_toArray, List.set_cons_zero, List.set_cons_succ]
   refine wpAnyH_take (i := 2) (oi := ⟨some 87, .slice 94 (.tmp 85) none (some (.tmp 86)) none, 94, "ref.go:283", #[⟨0, .data⟩, ⟨1, .data⟩], none⟩) (v := .slice none 0 0) rfl (by kernel_rfl) (by kernel_rfl) (by kernel_rfl) (fun _ _ _ h => h) (Or.inl ⟨by rfl, fun w hSw => by go_simp⟩) (by assumption) ?_
   try simp only [Act.put, List.setIfInBounds_toArray, List.set_cons_zero, List.set_cons_succ]
   refine wpAnyH_take (i := 4) (oi := ⟨some 89, .load 96 (.tmp 3), 96, "ref.go:283", #[], none⟩) (v := .agg #[.int .i64 za, .int .i64 zb, .int .i64 zi, .int .i64 zk, .string zt]) rfl (by kernel_rfl) (by kernel_rfl) (by kernel_rfl) (fun _ _ _ h => h) (yieldsIf_load_row (by rfl) 96 (.tmp 3) rfl E rfl 96 #[.int .i64 za, .int .i64 zb, .int .i64 zi, .int .i64 zk, .string zt] (0, 0) _ (fun w h => h.1) Tryd.underlying96 rfl (by rw [hi0]; simp [hw1])) (by assumption) ?_
   try simp only [Act.put, List.setIfInBounds_toArray, List.set_cons_zero, List.set_cons_succ]
   refine wpAnyH_take (i := 7) (oi := ⟨some 92, .move (.tmp 0), 94, "ref.go:283", #[], none⟩) (v := .slice none 0 0) rfl (by kernel_rfl) (by kernel_rfl) (by kernel_rfl) (fun _ _ _ h => h) (Or.inl ⟨by rfl, fun w hSw => by go_simp⟩) (by assumption) ?_
   try simp only [Act.put, List.setIfInBounds_toArray, List.set_cons_zero, List.set_cons_succ]
   refine wpAnyH_take (i := 8) (oi := ⟨some 93, .move (.tmp 6), 3, "ref.go:283", #[], none⟩) (v := .int .i64 0) rfl (by kernel_rfl) (by kernel_rfl) (by kernel_rfl) (fun _ _ _ h => h) (Or.inl ⟨by rfl, fun w hSw => by go_simp⟩) (by assumption) ?_
   try simp only [Act.put, List.setIfInBounds_toArray, List.set_cons_zero, List.set_cons_succ]
   refine wpAnyH_take (i := 9) (oi := ⟨some 94, .slice 94 (.tmp 92) (some (.tmp 93)) none none, 94, "ref.go:283", #[⟨7, .data⟩, ⟨8, .data⟩], none⟩) (v := .slice none 0 0) rfl (by kernel_rfl) (by kernel_rfl) (by kernel_rfl) (fun _ _ _ h => h) (Or.inl ⟨by rfl, fun w hSw => by go_simp⟩) (by assumption) ?_
   try simp only [Act.put, List.setIfInBounds_toArray, List.set_cons_zero, List.set_cons_succ]
   refine wpAnyH_ready (rs := [3, 5]) (by kernel_rfl) (by simp) ?_
   refine AllReadyH.cons (o := ⟨some 88, .call { callee := .builtin .append, args := #[.const (.slice none 0 0), .tmp 87], argTypes := #[94, 94] }, 94, "ref.go:283", #[⟨2, .data⟩], none⟩) rfl (fun K hK => ?_) (AllReadyH.cons (o := ⟨some 90, .buildSlice 94 1 #[(0, .tmp 89)], 94, "ref.go:283", #[⟨4, .data⟩], none⟩) rfl (fun K hK => ?_) AllReadyH.nil)
   ·refine step_append_none rfl (.const (.slice none 0 0)) (.tmp 87) 94 rfl 96 i0 Tryd.underlying94 hi0 none 0 0 (Nat.le_refl _) rfl rfl ?_
    refine hK.out _ _ ⟨HEc.out, (Below.refl _ Wc).drew⟩ (fun hHeld => ?_)
    try simp only [Act.put, List.setIfInBounds_toArray, List.set_cons_zero, List.set_cons_succ]
    clear hK
    refine wpAnyH_ready (rs := [5]) (by kernel_rfl) (by simp) ?_
    refine AllReadyH.cons (o := ⟨some 90, .buildSlice 94 1 #[(0, .tmp 89)], 94, "ref.go:283", #[⟨4, .data⟩], none⟩) rfl (fun K hK => ?_) AllReadyH.nil
    refine step_build_row rfl 94 96 (.tmp 89) rfl #[.int .i64 za, .int .i64 zb, .int .i64 zi, .int .i64 zk, .string zt] i0 _ rfl Tryd.underlying94 hi0 hw0 (by rw [hw1]; rfl) (Nat.succ_pos 4) (by show (5 : Nat) ≤ 2 ^ 24; omega) ?_
    have hb1 : Below Wc.heap.size Wc (Wc.drew.alloc (.cells #[.int .i64 za, .int .i64 zb, .int .i64 zi, .int .i64 zk, .string zt] 96)) := ((Below.refl _ Wc).drew).alloc (Nat.le_refl _) _
    refine hK.out _ _ ⟨(hb1.block E hEl).trans HEc.out, hb1⟩ (fun hHeld => ?_)
    try simp only [Act.put, List.setIfInBounds_toArray, List.set_cons_zero, List.set_cons_succ]
    clear hK
    refine wpAnyH_ready (rs := [6]) (by kernel_rfl) (by simp) ?_
    refine AllReadyH.cons (o := ⟨some 91, .call { callee := .builtin .append, args := #[.tmp 88, .tmp 90], argTypes := #[94, 94] }, 94, "ref.go:283", #[⟨3, .data⟩, ⟨5, .data⟩, ⟨3, .chain⟩], none⟩) rfl (fun K hK => ?_) AllReadyH.nil
    refine step_append_own rfl (.tmp 88) (.tmp 90) 94 rfl Wc.heap.size 96 i0 _ 5 48 Tryd.underlying94 hi0 hw0 hw1 hw2 rfl (by decide) (.slice none 0 0) 0 [] rfl (World.ownsRow_nil _ _ _ _) ⟨Wc.drew.heap.size, 0, none⟩ 1 1 [.int .i64 za, .int .i64 zb, .int .i64 zi, .int .i64 zk, .string zt] rfl rfl (pr_new Wc.drew) zc_one (by unfold maxLen; omega) (by omega) (hb1.size) ?_
    intro v2 w2 hown2 hgr2
    have hb3 : Below Wc.heap.size Wc w2 := hb1.grown hgr2 hb1.size (fun k hk => by cases hk)
    obtain ⟨b2, c2, hv2, hc2⟩ : ∃ b c, v2 = .slice b 1 c ∧ 1 ≤ c := by
     rcases hown2.2 with ⟨hv, h0⟩ | ⟨g, cap, cur, hv, _, _, hc, _, _, _⟩
     ·cases h0
     ·exact ⟨_, _, hv, hc⟩
    have hfin := hown2
    rw [hv2]
    refine hK.out _ _ ⟨(hb3.block E hEl).trans HEc.out, hb3⟩ (fun hHeld => ?_)
    try simp only [Act.put, List.setIfInBounds_toArray, List.set_cons_zero, List.set_cons_succ]
    clear hK
    refine wpAnyH_ready (rs := [10]) (by kernel_rfl) (by simp) ?_
    refine AllReadyH.cons (o := ⟨some 95, .call { callee := .builtin .append, args := #[.tmp 91, .tmp 94], argTypes := #[94, 94] }, 94, "ref.go:283", #[⟨6, .data⟩, ⟨9, .data⟩, ⟨6, .chain⟩], none⟩) rfl (fun K hK => ?_) AllReadyH.nil
    refine step_append_none rfl (.tmp 91) (.tmp 94) 94 rfl 96 i0 Tryd.underlying94 hi0 b2 1 c2 hc2 rfl rfl ?_
    refine hK.out _ _ ⟨(hb3.block E hEl).trans HEc.out, hb3⟩ (fun hHeld => ?_)
    try simp only [Act.put, List.setIfInBounds_toArray, List.set_cons_zero, List.set_cons_succ]
    clear hK
    refine wpAnyH_take (i := 11) (oi := ⟨some 4, .assign (.tmp 95), 94, "ref.go:283", #[⟨10, .data⟩, ⟨10, .chain⟩, ⟨0, .phase⟩, ⟨1, .phase⟩, ⟨2, .phase⟩, ⟨3, .phase⟩, ⟨4, .phase⟩, ⟨5, .phase⟩, ⟨6, .phase⟩, ⟨7, .phase⟩, ⟨8, .phase⟩, ⟨9, .phase⟩, ⟨10, .phase⟩], none⟩) (v := .slice b2 1 c2) rfl (by kernel_rfl) (by kernel_rfl) (by kernel_rfl) (fun _ _ _ h => h) (Or.inl ⟨by rfl, fun w hSw => by go_simp⟩) (by assumption) ?_
    try simp only [Act.put, List.setIfInBounds_toArray, List.set_cons_zero, List.set_cons_succ]
    refine wpAnyH_done (by kernel_rfl) ?_ _
    have hph : PHas w2 (.slice b2 1 c2) (insQ [] z) := by
     rw [← hv2]
     refine PHas.of_own (B := Wc.heap.size) (l := [z]) ?_ rfl
     have e : prsC [z] = [] ++ [.int .i64 za, .int .i64 zb, .int .i64 zi, .int .i64 zk, .string zt] := by
      show prC z ++ [] = _
      rw [List.append_nil, List.nil_append]
      exact hzc.symm
     rw [e]
     exact hfin
    have HFin := Lib.hid (show PutPost [] z (.slice none 0 0) w (.returned (.slice b2 1 c2)) w2 from ⟨_, rfl, hph, Hbc.out.trans (hb3.mono Hbc.out.size), Or.inr fun b hb => by rw [← hv2] at hb; exact Nat.le_trans Hbc.out.size (hfin.lt b hb).1⟩)
    clear hph hfin hown2 hgr2 hb1 hb3 hHeld hzc
    go_wp2
    go_ret
    exact HFin.out
   ·refine step_build_row rfl 94 96 (.tmp 89) rfl #[.int .i64 za, .int .i64 zb, .int .i64 zi, .int .i64 zk, .string zt] i0 _ rfl Tryd.underlying94 hi0 hw0 (by rw [hw1]; rfl) (Nat.succ_pos 4) (by show (5 : Nat) ≤ 2 ^ 24; omega) ?_
    have hb1 : Below Wc.heap.size Wc (Wc.drew.alloc (.cells #[.int .i64 za, .int .i64 zb, .int .i64 zi, .int .i64 zk, .string zt] 96)) := ((Below.refl _ Wc).drew).alloc (Nat.le_refl _) _
    refine hK.out _ _ ⟨(hb1.block E hEl).trans HEc.out, hb1⟩ (fun hHeld => ?_)
    try simp only [Act.put, List.setIfInBounds_toArray, List.set_cons_zero, List.set_cons_succ]
    clear hK
    refine wpAnyH_ready (rs := [3]) (by kernel_rfl) (by simp) ?_
    refine AllReadyH.cons (o := ⟨some 88, .call { callee := .builtin .append, args := #[.const (.slice none 0 0), .tmp 87], argTypes := #[94, 94] }, 94, "ref.go:283", #[⟨2, .data⟩], none⟩) rfl (fun K hK => ?_) AllReadyH.nil
    refine step_append_none rfl (.const (.slice none 0 0)) (.tmp 87) 94 rfl 96 i0 Tryd.underlying94 hi0 none 0 0 (Nat.le_refl _) rfl rfl ?_
    refine hK.out _ _ ⟨(hb1.block E hEl).trans HEc.out, hb1⟩ (fun hHeld => ?_)
    try simp only [Act.put, List.setIfInBounds_toArray, List.set_cons_zero, List.set_cons_succ]
    clear hK
    refine wpAnyH_ready (rs := [6]) (by kernel_rfl) (by simp) ?_
    refine AllReadyH.cons (o := ⟨some 91, .call { callee := .builtin .append, args := #[.tmp 88, .tmp 90], argTypes := #[94, 94] }, 94, "ref.go:283", #[⟨3, .data⟩, ⟨5, .data⟩, ⟨3, .chain⟩], none⟩) rfl (fun K hK => ?_) AllReadyH.nil
    refine step_append_own rfl (.tmp 88) (.tmp 90) 94 rfl Wc.heap.size 96 i0 _ 5 48 Tryd.underlying94 hi0 hw0 hw1 hw2 rfl (by decide) (.slice none 0 0) 0 [] rfl (World.ownsRow_nil _ _ _ _) ⟨Wc.drew.heap.size, 0, none⟩ 1 1 [.int .i64 za, .int .i64 zb, .int .i64 zi, .int .i64 zk, .string zt] rfl rfl (pr_new Wc.drew) zc_one (by unfold maxLen; omega) (by omega) (hb1.size) ?_
    intro v2 w2 hown2 hgr2
    have hb3 : Below Wc.heap.size Wc w2 := hb1.grown hgr2 hb1.size (fun k hk => by cases hk)
    obtain ⟨b2, c2, hv2, hc2⟩ : ∃ b c, v2 = .slice b 1 c ∧ 1 ≤ c := by
     rcases hown2.2 with ⟨hv, h0⟩ | ⟨g, cap, cur, hv, _, _, hc, _, _, _⟩
     ·cases h0
     ·exact ⟨_, _, hv, hc⟩
    have hfin := hown2
    rw [hv2]
    refine hK.out _ _ ⟨(hb3.block E hEl).trans HEc.out, hb3⟩ (fun hHeld => ?_)
    try simp only [Act.put, List.setIfInBounds_toArray, List.set_cons_zero, List.set_cons_succ]
    clear hK
    refine wpAnyH_ready (rs := [10]) (by kernel_rfl) (by simp) ?_
    refine AllReadyH.cons (o := ⟨some 95, .call { callee := .builtin .append, args := #[.tmp 91, .tmp 94], argTypes := #[94, 94] }, 94, "ref.go:283", #[⟨6, .data⟩, ⟨9, .data⟩, ⟨6, .chain⟩], none⟩) rfl (fun K hK => ?_) AllReadyH.nil
    refine step_append_none rfl (.tmp 91) (.tmp 94) 94 rfl 96 i0 Tryd.underlying94 hi0 b2 1 c2 hc2 rfl rfl ?_
    refine hK.out _ _ ⟨(hb3.block E hEl).trans HEc.out, hb3⟩ (fun hHeld => ?_)
    try simp only [Act.put, List.setIfInBounds_toArray, List.set_cons_zero, List.set_cons_succ]
    clear hK
    refine wpAnyH_take (i := 11) (oi := ⟨some 4, .assign (.tmp 95), 94, "ref.go:283", #[⟨10, .data⟩, ⟨10, .chain⟩, ⟨0, .phase⟩, ⟨1, .phase⟩, ⟨2, .phase⟩, ⟨3, .phase⟩, ⟨4, .phase⟩, ⟨5, .phase⟩, ⟨6, .phase⟩, ⟨7, .phase⟩, ⟨8, .phase⟩, ⟨9, .phase⟩, ⟨10, .phase⟩], none⟩) (v := .slice b2 1 c2) rfl (by kernel_rfl) (by kernel_rfl) (by kernel_rfl) (fun _ _ _ h => h) (Or.inl ⟨by rfl, fun w hSw => by go_simp⟩) (by assumption) ?_
    try simp only [Act.put, List.setIfInBounds_toArray, List.set_cons_zero, List.set_cons_succ]
    refine wpAnyH_done (by kernel_rfl) ?_ _
    have hph : PHas w2 (.slice b2 1 c2) (insQ [] z) := by
     rw [← hv2]
     refine PHas.of_own (B := Wc.heap.size) (l := [z]) ?_ rfl
     have e : prsC [z] = [] ++ [.int .i64 za, .int .i64 zb, .int .i64 zi, .int .i64 zk, .string zt] := by
      show prC z ++ [] = _
      rw [List.append_nil, List.nil_append]
      exact hzc.symm
     rw [e]
     exact hfin
    have HFin := Lib.hid (show PutPost [] z (.slice none 0 0) w (.returned (.slice b2 1 c2)) w2 from ⟨_, rfl, hph, Hbc.out.trans (hb3.mono Hbc.out.size), Or.inr fun b hb => by rw [← hv2] at hb; exact Nat.le_trans Hbc.out.size (hfin.lt b hb).1⟩)
    clear hph hfin hown2 hgr2 hb1 hb3 hHeld hzc
    go_wp2
    go_ret
    exact HFin.out
end Go.Proofs.YtdlchlbngojljaaDoor.Gl
