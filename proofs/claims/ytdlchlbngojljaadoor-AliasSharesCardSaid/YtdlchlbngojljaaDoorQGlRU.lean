/- The reference's put where the list's pair of the key has a later text. -/
import Derived.Test.YtdlchlbngojljaaDoorQRs
namespace Go.Proofs.YtdlchlbngojljaaDoor.Gl
open Go.RowKit
theorem erase_at : ∀ {l : List Pr5} {z x : Pr5} {i : Nat}, (l.take i).find? (sameK · z) = none → l[i]? = some x → sameK x z = true → l.eraseP (sameK · z) = l.take i ++ l.drop (i + 1)
 | [], _, _, _, _, hx, _ => by simp at hx
 | y :: l, z, x, 0, _, hx, hs => by
  simp only [List.getElem?_cons_zero, Option.some.injEq] at hx
  subst hx
  rw [List.eraseP_cons_of_pos (p := (sameK · z)) hs]
  rfl
 | y :: l, z, x, i + 1, hf, hx, hs => by
  rw [List.take_succ_cons, List.find?_cons] at hf
  cases hy : sameK y z with
  | true => rw [hy] at hf; cases hf
  | false =>
   rw [hy] at hf
   rw [List.eraseP_cons_of_neg (p := (sameK · z)) (by rw [hy]; simp), erase_at hf (by simpa using hx) hs]
   rfl
set_option maxHeartbeats 1500000 in
set_option maxRecDepth 100000 in
theorem put_over (l : List Pr5) (z : Pr5) (g0 c M : Nat) (w : World) (hl : l.length ≤ 1000000000) (hLI : LI M l) (hzM : z.t.length = M) (hc : l.length ≤ c) (hg0 : g0 < w.heap.size) (hr0 : PRow w g0 l) (y : Pr5) (hfn : l.find? (sameK · z) = some y) (hle : leT y.t z.t = false) : Calls Tryd.prog 53 #[.slice (some ⟨g0, 0, none⟩) l.length c, prV z] w (PutPost l z (.slice (some ⟨g0, 0, none⟩) l.length c) w) := by
 have hrow : l ≠ [] → ∃ g, (some (⟨g0, 0, none⟩ : Addr)) = some ⟨g, 0, none⟩ ∧ g < w.heap.size ∧ PRow w g l := fun _ => ⟨g0, rfl, hg0, hr0⟩
 have hv : True := trivial
 have hcN : (l.length : Int) ≤ (c : Int) := by omega
 obtain ⟨i0, hi0, hw0, hw1, hw2⟩ := info_parts info52b
 have HLI := Lib.hid (And.intro hLI hzM)
 have HG0 := Lib.hid hg0
 have HR0 := Lib.hid hr0
 have Hle := Lib.hid hle
 clear hLI hzM hg0 hr0 hle
 obtain ⟨za, hza⟩ : ∃ n : Int, (z.a : Int) = n := ⟨_, rfl⟩
 obtain ⟨zb, hzb⟩ : ∃ n : Int, (z.b : Int) = n := ⟨_, rfl⟩
 obtain ⟨zi, hzi⟩ : ∃ n : Int, (z.i : Int) = n := ⟨_, rfl⟩
 obtain ⟨zk, hzk⟩ : ∃ n : Int, (z.k : Int) = n := ⟨_, rfl⟩
 obtain ⟨zt, hzt⟩ : ∃ n : ByteArray, txt z.t = n := ⟨_, rfl⟩
 have hzv : prV z = .agg #[.int .i64 za, .int .i64 zb, .int .i64 zi, .int .i64 zk, .string zt] := by
  rw [← hza, ← hzb, ← hzi, ← hzk, ← hzt]
  rfl
 rw [hzv]
 have HZ := Lib.hid (And.intro hza (And.intro hzb (And.intro hzi (And.intro hzk hzt))))
 obtain ⟨N, hN⟩ : ∃ N, l.length = N := ⟨_, rfl⟩
 rw [hN] at hl hcN ⊢
 have HN := Lib.hid hN
 have hb1 : Below w.heap.size w (w.alloc (.cells #[.int .i64 za, .int .i64 zb, .int .i64 zi, .int .i64 zk, .string zt] 96)) := (Below.refl _ w).alloc (Nat.le_refl _) _
 have HRow := Lib.hid (fun (h : l ≠ []) => (hrow h).imp fun g hg => And.intro hg.1 (And.intro hg.2.1 (hg.2.2.below hb1 hg.2.1)))
 have hz0 := cell_of_row _ _ 0 _ _ _ (heap_alloc_last w (.cells #[.int .i64 za, .int .i64 zb, .int .i64 zi, .int .i64 zk, .string zt] 96))
 have hz1 := cell_of_row _ _ 1 _ _ _ (heap_alloc_last w (.cells #[.int .i64 za, .int .i64 zb, .int .i64 zi, .int .i64 zk, .string zt] 96))
 have hz2 := cell_of_row _ _ 2 _ _ _ (heap_alloc_last w (.cells #[.int .i64 za, .int .i64 zb, .int .i64 zi, .int .i64 zk, .string zt] 96))
 have hz3 := cell_of_row _ _ 3 _ _ _ (heap_alloc_last w (.cells #[.int .i64 za, .int .i64 zb, .int .i64 zi, .int .i64 zk, .string zt] 96))
 have hz4 := cell_of_row _ _ 4 _ _ _ (heap_alloc_last w (.cells #[.int .i64 za, .int .i64 zb, .int .i64 zi, .int .i64 zk, .string zt] 96))
 simp only [List.getElem?_toArray, List.getElem?_cons_zero, List.getElem?_cons_succ] at hz0 hz1 hz2 hz3 hz4
 have Hb1 := Lib.hid hb1
 have hbox := heap_alloc_last w (.cells #[.int .i64 za, .int .i64 zb, .int .i64 zi, .int .i64 zk, .string zt] 96)
 clear hza hzb hzi hzk hzt hzv hN hb1 hrow hc hv
 go_enter Tryd.func53, Tryd.ntmps53
 go_wp2
 generalize w.alloc (.cells #[.int .i64 za, .int .i64 zb, .int .i64 zi, .int .i64 zk, .string zt] 96) = W1 at *
 obtain ⟨E, hE⟩ : ∃ E, w.heap.size = E := ⟨_, rfl⟩
 rw [hE] at hbox
 have HBox := Lib.hid hbox
 clear hbox
 rw [hE] at hz0 hz1 hz2 hz3 hz4 ⊢
 have HE := Lib.hid hE
 clear hE
 go_loopw [0, 5] (fun s0 s5 wx => ∃ i : Nat, i ≤ N ∧ s0 = .slice (some ⟨g0, 0, none⟩) N c ∧ s5 = .int .i64 (i : Int) ∧ (l.take i).find? (sameK · z) = none ∧ ∃ n, wx = W1.drewN n) (fun _ s5 _ => N - (intOf s5).toNat)
 case atStart => exact ⟨0, by omega, rfl, rfl, rfl, 0, rfl⟩
 case round =>
  obtain ⟨i, hi, rfl, rfl, hfind, n, rfl⟩ := hrel
  have Hf := Lib.hid hfind
  clear hfind
  have hbx : ∀ m, Below w.heap.size w (W1.drewN m) := fun m => drop_below Hb1.out m
  have Hbx := Lib.hid hbx
  clear hbx
  by_cases hlt : i < N
  ·have hiz : (i : Int) < (N : Int) := by omega
   obtain ⟨x, hx⟩ : ∃ x, l[i]? = some x := ⟨l[i]'(by rw [HN.out]; exact hlt), List.getElem?_eq_getElem _⟩
   obtain ⟨g, hge, hg, hr⟩ := HRow.out (fun e => by rw [e] at hx; simp at hx)
   obtain rfl : g0 = g := by simpa using hge
   clear hge
   obtain ⟨d0, d1, d2, d3, d4⟩ := hr.at_ hx
   have hsk : sameK x z = (decide (x.a = z.a) && (decide (x.b = z.b) && (decide (x.i = z.i) && decide (x.k = z.k)))) := rfl
   have hnx := take_find Hf.out hx
   have hat := find_at Hf.out hx
   have e0 : decide (x.a = z.a) = ((x.a : Int) == za) := by rw [← HZ.out.1, Bool.eq_iff_iff, decide_eq_true_eq, beq_iff_eq]; omega
   have e1 : decide (x.b = z.b) = ((x.b : Int) == zb) := by rw [← HZ.out.2.1, Bool.eq_iff_iff, decide_eq_true_eq, beq_iff_eq]; omega
   have e2 : decide (x.i = z.i) = ((x.i : Int) == zi) := by rw [← HZ.out.2.2.1, Bool.eq_iff_iff, decide_eq_true_eq, beq_iff_eq]; omega
   have e3 : decide (x.k = z.k) = ((x.k : Int) == zk) := by rw [← HZ.out.2.2.2.1, Bool.eq_iff_iff, decide_eq_true_eq, beq_iff_eq]; omega
   rw [e0, e1, e2, e3] at hsk
   have Hnx := Lib.hid hnx
   have Hat := Lib.hid hat
   have Hsk := Lib.hid hsk
   have Hx := Lib.hid hx
   clear hsk hnx hat e0 e1 e2 e3 hr hx
   obtain ⟨xa, hxa⟩ : ∃ n : Int, (x.a : Int) = n := ⟨_, rfl⟩
   obtain ⟨xb, hxb⟩ : ∃ n : Int, (x.b : Int) = n := ⟨_, rfl⟩
   obtain ⟨xi, hxi⟩ : ∃ n : Int, (x.i : Int) = n := ⟨_, rfl⟩
   obtain ⟨xk, hxk⟩ : ∃ n : Int, (x.k : Int) = n := ⟨_, rfl⟩
   obtain ⟨xt, hxt⟩ : ∃ n : ByteArray, txt x.t = n := ⟨_, rfl⟩
   rw [hxa] at d0 Hsk
   rw [hxb] at d1 Hsk
   rw [hxi] at d2 Hsk
   rw [hxk] at d3 Hsk
   rw [hxt] at d4
   have HX := Lib.hid hxt
   clear hxa hxb hxi hxk hxt
   cases q0 : (xa == za) with
   | false =>
    have hn := Hnx.out
    have hs : sameK x z = false := by rw [Hsk.out, q0]; rfl
    rw [hs] at hn
    have Hn := Lib.hid hn
    clear hn hs
    go_wp2
    go_quiet (fail)
    go_wp2
    exact ⟨⟨i + 1, by omega, rfl, rfl, Hn.out, _, rfl⟩, by simp [intOf]; omega⟩
   | true =>
    cases q1 : (xb == zb) with
    | false =>
     have hn := Hnx.out
     have hs : sameK x z = false := by rw [Hsk.out, q0, q1]; rfl
     rw [hs] at hn
     have Hn := Lib.hid hn
     clear hn hs
     go_wp2
     go_quiet (fail)
     go_wp2
     exact ⟨⟨i + 1, by omega, rfl, rfl, Hn.out, _, rfl⟩, by simp [intOf]; omega⟩
    | true =>
     cases q2 : (xi == zi) with
     | false =>
      have hn := Hnx.out
      have hs : sameK x z = false := by rw [Hsk.out, q0, q1, q2]; rfl
      rw [hs] at hn
      have Hn := Lib.hid hn
      clear hn hs
      go_wp2
      go_quiet (fail)
      go_wp2
      exact ⟨⟨i + 1, by omega, rfl, rfl, Hn.out, _, rfl⟩, by simp [intOf]; omega⟩
     | true =>
      cases q3 : (xk == zk) with
      | false =>
       have hn := Hnx.out
       have hs : sameK x z = false := by rw [Hsk.out, q0, q1, q2, q3]; rfl
       rw [hs] at hn
       have Hn := Lib.hid hn
       clear hn hs
       go_wp2
       go_quiet (fail)
       go_wp2
       exact ⟨⟨i + 1, by omega, rfl, rfl, Hn.out, _, rfl⟩, by simp [intOf]; omega⟩
      | true =>
       have Hs := Lib.hid (show sameK x z = true from by rw [Hsk.out, q0, q1, q2, q3]; rfl)
       have hfy := Hat.out Hs.out
       rw [hfn] at hfy
       have hyx : y = x := Option.some.inj hfy
       have hleX : (Op.bytesLess xt.toList zt.toList || (xt.toList == zt.toList)) = false := by
        rw [← HX.out, ← HZ.out.2.2.2.2, txt_list, txt_list, ← leq_form (by rw [HLI.out.1.len x (List.mem_of_getElem? Hx.out), HLI.out.2]), ← hyx]
        exact Hle.out
       have HP := Lib.hid (show putP l z = insQ (l.take i ++ l.drop (i + 1)) z from by unfold putP; rw [hfn, ← erase_at Hf.out Hx.out Hs.out]; exact if_neg (by rw [Hle.out]; simp))
       clear hfy hyx
       have hq1 : Op.bytesLess xt.toList zt.toList = false := by cases h : Op.bytesLess xt.toList zt.toList <;> simp_all
       have hq2 : (xt.toList == zt.toList) = false := by cases h : (xt.toList == zt.toList) <;> simp_all
       clear hleX
       go_wp2
       go_quiet (fail)
       obtain ⟨nq1, hnq1⟩ : ∃ m, m = nq := ⟨_, rfl⟩
       subst hnq1
       go_wp2
       go_quiet (fail)
       go_wp2
       generalize hWa : World.drewN (World.drewN (World.drewN W1 n) nq1) nq = Wa
       have HEa := Lib.hid (show Wa.heap[E]? = some (.cells #[.int .i64 za, .int .i64 zb, .int .i64 zi, .int .i64 zk, .string zt] 96 (0, 0)) from by rw [← hWa]; exact HBox.out)
       have Hba := Lib.hid (show Below w.heap.size w Wa from by rw [← hWa]; exact drop_below (drop_below (Hbx.out _) _) _)
       have hGa : g0 < Wa.heap.size := Nat.lt_of_lt_of_le HG0.out Hba.out.size
       have Hra := Lib.hid (show PRow Wa g0 l from HR0.out.below Hba.out HG0.out)
       have hEa : E < Wa.heap.size := (Array.getElem?_eq_some_iff.1 HEa.out).1
       have hlenT : (prsC (l.take i)).length = i * 5 := by rw [prsC_len, List.length_take, HN.out]; omega
       have hlenD : (prsC (l.drop (i + 1))).length = (N - (i + 1)) * 5 := by rw [prsC_len, List.length_drop, HN.out]
       have HcelT := Lib.hid (fun W (hb : Below Wa.heap.size Wa W) => row_take (Hra.out.below hb hGa) i)
       have hCn : (i : Int) ≤ (c : Int) := by omega
       have hnN : (i : Int) + 1 ≤ (N : Int) := by omega
       have hwr : IntKind.i64.wrap ((i : Int) + 1) = (i : Int) + 1 := by
        have h1 : (0 : Int) ≤ (i : Int) := Int.natCast_nonneg i
        have h2 : (i : Int) ≤ 1000000000 := by omega
        rw [IntKind.wrap_i64]; omega
       obtain ⟨AD, hAD⟩ : ∃ ad : Addr, (if c = i + 1 then some (⟨g0, 0, none⟩ : Addr) else some ⟨g0, (i + 1) * 5, none⟩) = some ad := by split <;> exact ⟨_, rfl⟩
       have HcelD := Lib.hid (fun W (hb : Below Wa.heap.size Wa W) => row_drop (cap := c) (Hra.out.below hb hGa) (i + 1) (by rw [HN.out]; omega) hAD)
       have hlen2 : 0 + i + (N - (i + 1)) = (l.take i ++ l.drop (i + 1)).length := by rw [List.length_append, List.length_take, List.length_drop, HN.out]; omega
       have hLI2 : LI M (l.take i ++ l.drop (i + 1)) := by rw [← erase_at Hf.out Hx.out Hs.out]; exact HLI.out.1.erase z
       have hres := HP.out
       obtain ⟨l2, hl2⟩ : ∃ l2, l.take i ++ l.drop (i + 1) = l2 := ⟨_, rfl⟩
       rw [hl2] at hlen2 hLI2 hres
       have HLI2 := Lib.hid hLI2
       have Hres := Lib.hid hres
       have hl2n : l2.length ≤ 1000000000 := by rw [← hlen2]; omega
       clear hWa hLI2 hres HP Hra HBox Hbx Hb1 HRow HX Hnx Hat Hsk Hx Hs Hf hz0 hz1 hz2 hz3 hz4 d0 d1 d2 d3 d4 q0 q1 q2 q3 hq1 hq2 hfn
       refine wp_region_held_drew (S := fun wx => wx.heap[E]? = some (.cells #[.int .i64 za, .int .i64 zb, .int .i64 zi, .int .i64 zk, .string zt] 96 (0, 0)) ∧ Below Wa.heap.size Wa wx) (by kernel_rfl) ⟨HEa.out, (Below.refl _ _).drew⟩ (fun hHeld => ?_)
       refine wpAnyH_take (i := 0) (oi := ⟨some 60, .move (.tmp 0), 94, "ref.go:275", #[], none⟩) (v := .slice (some ⟨g0, 0, none⟩) N c) rfl (by kernel_rfl) (by kernel_rfl) (by kernel_rfl) (fun _ _ _ h => h) (Or.inl ⟨by rfl, fun w hSw => by go_simp⟩) (by assumption) ?_
       try simp only [Act.put, List.setIfInBounds_toArray, List.set_cons_zero, List.set_cons_succ]
       refine wpAnyH_take (i := 1) (oi := ⟨some 61, .move (.tmp 5), 3, "ref.go:275", #[], none⟩) (v := .int .i64 (i : Int)) rfl (by kernel_rfl) (by kernel_rfl) (by kernel_rfl) (fun _ _ _ h => h) (Or.inl ⟨by rfl, fun w hSw => by go_simp⟩) (by assumption) ?_
       try simp only [Act.put, List.setIfInBounds_toArray, List.set_cons_zero, List.set_cons_succ]
       refine wpAnyH_take (i := 2) (oi := ⟨some 62, .slice 94 (.tmp 60) none (some (.tmp 61)) none, 94, "ref.go:275", #[⟨0, .data⟩, ⟨1, .data⟩], none⟩) (v := .slice (some ⟨g0, 0, none⟩) i c) rfl (by kernel_rfl) (by kernel_rfl) (by kernel_rfl) (fun _ _ _ h => h) (Or.inl ⟨by rfl, fun w hSw => by go_simp⟩) (by assumption) ?_
       try simp only [Act.put, List.setIfInBounds_toArray, List.set_cons_zero, List.set_cons_succ]
       refine wpAnyH_take (i := 4) (oi := ⟨some 64, .move (.tmp 0), 94, "ref.go:275", #[], none⟩) (v := .slice (some ⟨g0, 0, none⟩) N c) rfl (by kernel_rfl) (by kernel_rfl) (by kernel_rfl) (fun _ _ _ h => h) (Or.inl ⟨by rfl, fun w hSw => by go_simp⟩) (by assumption) ?_
       try simp only [Act.put, List.setIfInBounds_toArray, List.set_cons_zero, List.set_cons_succ]
       refine wpAnyH_take (i := 5) (oi := ⟨some 65, .move (.tmp 5), 3, "ref.go:275", #[], none⟩) (v := .int .i64 (i : Int)) rfl (by kernel_rfl) (by kernel_rfl) (by kernel_rfl) (fun _ _ _ h => h) (Or.inl ⟨by rfl, fun w hSw => by go_simp⟩) (by assumption) ?_
       try simp only [Act.put, List.setIfInBounds_toArray, List.set_cons_zero, List.set_cons_succ]
       refine wpAnyH_take (i := 6) (oi := ⟨some 66, .binOp .add 3 (.tmp 65) (.const (.int .i64 1)) 3, 3, "ref.go:275", #[⟨5, .data⟩], none⟩) (v := .int .i64 ((i : Int) + 1)) rfl (by kernel_rfl) (by kernel_rfl) (by kernel_rfl) (fun _ _ _ h => h) (Or.inl ⟨by rfl, fun w hSw => by go_simp⟩) (by assumption) ?_
       try simp only [Act.put, List.setIfInBounds_toArray, List.set_cons_zero, List.set_cons_succ]
       refine wpAnyH_take (i := 7) (oi := ⟨some 67, .slice 94 (.tmp 64) (some (.tmp 66)) none none, 94, "ref.go:275", #[⟨4, .data⟩, ⟨6, .data⟩], none⟩) (v := .slice (some AD) (N - (i + 1)) (c - (i + 1))) rfl (by kernel_rfl) (by kernel_rfl) (by kernel_rfl) (fun _ _ _ h => h) (Or.inl ⟨by rfl, fun w hSw => by (go_simp; exact fun hneg => absurd hneg (by omega))⟩) (by assumption) ?_
       try simp only [Act.put, List.setIfInBounds_toArray, List.set_cons_zero, List.set_cons_succ]
       refine wpAnyH_ready (rs := [3]) (by kernel_rfl) (by simp) ?_
       refine AllReadyH.cons (o := ⟨some 63, .call { callee := .builtin .append, args := #[.const (.slice none 0 0), .tmp 62], argTypes := #[94, 94] }, 94, "ref.go:275", #[⟨2, .data⟩], none⟩) rfl (fun K hK => ?_) AllReadyH.nil
       refine step_append_own rfl (.const (.slice none 0 0)) (.tmp 62) 94 rfl Wa.heap.size 96 i0 _ 5 48 Tryd.underlying94 hi0 hw0 hw1 hw2 rfl (by decide) (.slice none 0 0) 0 [] rfl (World.ownsRow_nil _ _ _ _) ⟨g0, 0, none⟩ i c (prsC (l.take i)) rfl hlenT (HcelT.out _ (Below.refl _ _).drew) (prsC_one _) (by unfold maxLen; omega) (by omega) (Nat.le_refl _) ?_
       intro v1 w1 hown1 hgr1
       have hb1 : Below Wa.heap.size Wa w1 := ((Below.refl _ Wa).drew).grown (show Wa.drew.grownBy w1 none from hgr1) (Nat.le_refl _) (fun k hk => by cases hk)
       refine hK.out _ _ ⟨(hb1.block E hEa).trans HEa.out, hb1⟩ (fun hHeld => ?_)
       try simp only [Act.put, List.setIfInBounds_toArray, List.set_cons_zero, List.set_cons_succ]
       clear hK
       refine wpAnyH_ready (rs := [8]) (by kernel_rfl) (by simp) ?_
       refine AllReadyH.cons (o := ⟨some 68, .call { callee := .builtin .append, args := #[.tmp 63, .tmp 67], argTypes := #[94, 94] }, 94, "ref.go:275", #[⟨3, .data⟩, ⟨7, .data⟩, ⟨3, .chain⟩], none⟩) rfl (fun K hK => ?_) AllReadyH.nil
       refine step_append_own rfl (.tmp 63) (.tmp 67) 94 rfl Wa.heap.size 96 i0 _ 5 48 Tryd.underlying94 hi0 hw0 hw1 hw2 rfl (by decide) v1 (0 + i) ([] ++ prsC (l.take i)) rfl (hown1) AD (N - (i + 1)) (c - (i + 1)) (prsC (l.drop (i + 1))) rfl hlenD (HcelD.out _ hb1) (prsC_one _) (by unfold maxLen; omega) (by omega) (hb1.size) ?_
       intro v2 w2 hown2 hgr2
       have hb2 : Below Wa.heap.size Wa w2 := hb1.grown hgr2 hb1.size (fun k hk => (hown1.lt k hk).1)
       refine hK.out _ _ ⟨(hb2.block E hEa).trans HEa.out, hb2⟩ (fun hHeld => ?_)
       try simp only [Act.put, List.setIfInBounds_toArray, List.set_cons_zero, List.set_cons_succ]
       clear hK
       refine wpAnyH_take (i := 9) (oi := ⟨some 0, .assign (.tmp 68), 94, "ref.go:275", #[⟨8, .data⟩, ⟨8, .chain⟩, ⟨0, .phase⟩, ⟨1, .phase⟩, ⟨2, .phase⟩, ⟨3, .phase⟩, ⟨4, .phase⟩, ⟨5, .phase⟩, ⟨6, .phase⟩, ⟨7, .phase⟩, ⟨8, .phase⟩], none⟩) (v := v2) rfl (by kernel_rfl) (by kernel_rfl) (by kernel_rfl) (fun _ _ _ h => h) (Or.inl ⟨by rfl, fun w hSw => by go_simp⟩) (by assumption) ?_
       try simp only [Act.put, List.setIfInBounds_toArray, List.set_cons_zero]
       refine wpAnyH_done (by kernel_rfl) ?_ _
       have hPl : ([] ++ prsC (l.take i) ++ prsC (l.drop (i + 1))) = prsC l2 := by rw [List.nil_append, ← prsC_append, hl2]
       rw [hPl] at hown2
       have hP2 := PHas.of_own hown2 hlen2
       have Hbw := Lib.hid (show Below w.heap.size w w2 from Hba.out.trans (hb2.mono Hba.out.size))
       have HE2 := Lib.hid (show w2.heap[E]? = some (.cells #[.int .i64 za, .int .i64 zb, .int .i64 zi, .int .i64 zk, .string zt] 96 (0, 0)) from (hb2.block E hEa).trans HEa.out)
       clear hPl hown2 hown1 hgr1 hgr2 hb1 hb2 hHeld HcelD hAD hnN hCn HcelT hlenD hlenT hEa hGa Hba HEa hlen2 hl2 hlt hiz
       clear hwr
       rcases hP2 with ⟨rfl, rfl⟩ | ⟨g2, c2, rfl, hc2, hg2, hr2⟩
       ·go_wp2
        go_loopw [6] (fun s6 wx => s6 = .int .i64 0 ∧ ∃ n, wx = w2.drewN n) (fun _ _ => 0)
        case atStart => exact ⟨rfl, 0, rfl⟩
        case round =>
         obtain ⟨rfl, m, rfl⟩ := hrel
         go_wp2
         go_quiet (fail)
         go_wp2
         generalize hWc : World.drewN (World.drewN w2 m) nq = Wc
         have HEc := Lib.hid (show Wc.heap[E]? = some (.cells #[.int .i64 za, .int .i64 zb, .int .i64 zi, .int .i64 zk, .string zt] 96 (0, 0)) from by rw [← hWc]; exact HE2.out)
         have Hbc := Lib.hid (show Below w.heap.size w Wc from by rw [← hWc]; exact drop_below (drop_below Hbw.out _) _)
         have hEl : E < Wc.heap.size := (Array.getElem?_eq_some_iff.1 HEc.out).1
         have hzc : #[.int .i64 za, .int .i64 zb, .int .i64 zi, .int .i64 zk, .string zt].toList = prC z := by rw [← HZ.out.1, ← HZ.out.2.1, ← HZ.out.2.2.1, ← HZ.out.2.2.2.1, ← HZ.out.2.2.2.2]; rfl
         clear hWc HE2 Hbw
         refine wp_region_held_drew (S := fun wx => wx.heap[E]? = some (.cells #[.int .i64 za, .int .i64 zb, .int .i64 zi, .int .i64 zk, .string zt] 96 (0, 0)) ∧ Below Wc.heap.size Wc wx) (by kernel_rfl) ⟨HEc.out, (Below.refl _ _).drew⟩ (fun hHeld => ?_)
         refine wpAnyH_take (i := 0) (oi := ⟨some 85, .move (.tmp 0), 94, "ref.go:283", #[], none⟩) (v := .slice none 0 0) rfl (by kernel_rfl) (by kernel_rfl) (by kernel_rfl) (fun _ _ _ h => h) (Or.inl ⟨by rfl, fun w hSw => by go_simp⟩) (by assumption) ?_
         try simp only [Act.put, List.setIfInBounds_toArray, List.set_cons_zero, List.set_cons_succ]
         refine wpAnyH_take (i := 1) (oi := ⟨some 86, .move (.tmp 6), 3, "ref.go:283", #[], none⟩) (v := .int .i64 0) rfl (by kernel_rfl) (by kernel_rfl) (by kernel_rfl) (fun _ _ _ h => h) (Or.inl ⟨by rfl, fun w hSw => by go_simp⟩) (by assumption) ?_
         try simp only [Act.put, List.setIfInBounds_toArray, List.set_cons_zero, List.set_cons_succ]
         refine wpAnyH_take (i := 2) (oi := ⟨some 87, .slice 94 (.tmp 85) none (some (.tmp 86)) none, 94, "ref.go:283", #[⟨0, .data⟩, ⟨1, .data⟩], none⟩) (v := .slice none 0 0) rfl (by kernel_rfl) (by kernel_rfl) (by kernel_rfl) (fun _ _ _ h => h) (Or.inl ⟨by rfl, fun w hSw => by go_simp⟩) (by assumption) ?_
         try simp only [Act.put, List.setIfInBounds_toArray, List.set_cons_zero, List.set_cons_succ]
         refine wpAnyH_take (i := 4) (oi := ⟨some 89, .load 96 (.tmp 3), 96, "ref.go:283", #[], none⟩) (v := .agg #[.int .i64 za, .int .i64 zb, .int .i64 zi, .int .i64 zk, .string zt]) rfl (by kernel_rfl) (by kernel_rfl) (by kernel_rfl) (fun _ _ _ h => h) (yieldsIf_load_row (by rfl) 96 (.tmp 3) rfl E rfl 96 #[.int .i64 za, .int .i64 zb, .int .i64 zi, .int .i64 zk, .string zt] (0, 0) _ (fun w h => h.1) Tryd.underlying96 rfl (by rw [hi0]; simp [hw1])) (by assumption) ?_
         try simp only [Act.put, List.setIfInBounds_toArray, List.set_cons_zero, List.set_cons_succ]
         refine wpAnyH_take (i := 7) (oi := ⟨some 92, .move (.tmp 0), 94, "ref.go:283", #[], none⟩) (v := .slice none 0 0) rfl (by kernel_rfl) (by kernel_rfl) (by kernel_rfl) (fun _ _ _ h => h) (Or.inl ⟨by rfl, fun w hSw => by go_simp⟩) (by assumption) ?_
         try simp only [Act.put, List.setIfInBounds_toArray, List.set_cons_zero, List.set_cons_succ]
         refine wpAnyH_take (i := 8) (oi := ⟨some 93, .move (.tmp 6), 3, "ref.go:283", #[], none⟩) (v := .int .i64 0) rfl (by kernel_rfl) (by kernel_rfl) (by kernel_rfl) (fun _ _ _ h => h) (Or.inl ⟨by rfl, fun w hSw => by go_simp⟩) (by assumption) ?_
         try simp only [Act.put, List.setIfInBounds_toArray, List.set_cons_zero, List.set_cons_succ]
         refine wpAnyH_take (i := 9) (oi := ⟨some 94, .slice 94 (.tmp 92) (some (.tmp 93)) none none, 94, "ref.go:283", #[⟨7, .data⟩, ⟨8, .data⟩], none⟩) (v := .slice none 0 0) rfl (by kernel_rfl) (by kernel_rfl) (by kernel_rfl) (fun _ _ _ h => h) (Or.inl ⟨by rfl, fun w hSw => by go_simp⟩) (by assumption) ?_
         try simp only [Act.put, List.setIfInBounds_toArray, List.set_cons_zero, List.set_cons_succ]
         refine wpAnyH_ready (rs := [3, 5]) (by kernel_rfl) (by simp) ?_
         refine AllReadyH.cons (o := ⟨some 88, .call { callee := .builtin .append, args := #[.const (.slice none 0 0), .tmp 87], argTypes := #[94, 94] }, 94, "ref.go:283", #[⟨2, .data⟩], none⟩) rfl (fun K hK => ?_) (AllReadyH.cons (o := ⟨some 90, .buildSlice 94 1 #[(0, .tmp 89)], 94, "ref.go:283", #[⟨4, .data⟩], none⟩) rfl (fun K hK => ?_) AllReadyH.nil)
         ·refine step_append_none rfl (.const (.slice none 0 0)) (.tmp 87) 94 rfl 96 i0 Tryd.underlying94 hi0 none 0 0 (Nat.le_refl _) rfl rfl ?_
          refine hK.out _ _ ⟨HEc.out, (Below.refl _ Wc).drew⟩ (fun hHeld => ?_)
          try simp only [Act.put, List.setIfInBounds_toArray, List.set_cons_zero, List.set_cons_succ]
          clear hK
          refine wpAnyH_ready (rs := [5]) (by kernel_rfl) (by simp) ?_
          refine AllReadyH.cons (o := ⟨some 90, .buildSlice 94 1 #[(0, .tmp 89)], 94, "ref.go:283", #[⟨4, .data⟩], none⟩) rfl (fun K hK => ?_) AllReadyH.nil
          refine step_build_row rfl 94 96 (.tmp 89) rfl #[.int .i64 za, .int .i64 zb, .int .i64 zi, .int .i64 zk, .string zt] i0 _ rfl Tryd.underlying94 hi0 hw0 (by rw [hw1]; rfl) (Nat.succ_pos 4) (by show (5 : Nat) ≤ 2 ^ 24; omega) ?_
          have hb1 : Below Wc.heap.size Wc (Wc.drew.alloc (.cells #[.int .i64 za, .int .i64 zb, .int .i64 zi, .int .i64 zk, .string zt] 96)) := ((Below.refl _ Wc).drew).alloc (Nat.le_refl _) _
          refine hK.out _ _ ⟨(hb1.block E hEl).trans HEc.out, hb1⟩ (fun hHeld => ?_)
          try simp only [Act.put, List.setIfInBounds_toArray, List.set_cons_zero, List.set_cons_succ]
          clear hK
          refine wpAnyH_ready (rs := [6]) (by kernel_rfl) (by simp) ?_
          refine AllReadyH.cons (o := ⟨some 91, .call { callee := .builtin .append, args := #[.tmp 88, .tmp 90], argTypes := #[94, 94] }, 94, "ref.go:283", #[⟨3, .data⟩, ⟨5, .data⟩, ⟨3, .chain⟩], none⟩) rfl (fun K hK => ?_) AllReadyH.nil
          refine step_append_own rfl (.tmp 88) (.tmp 90) 94 rfl Wc.heap.size 96 i0 _ 5 48 Tryd.underlying94 hi0 hw0 hw1 hw2 rfl (by decide) (.slice none 0 0) 0 [] rfl (World.ownsRow_nil _ _ _ _) ⟨Wc.drew.heap.size, 0, none⟩ 1 1 [.int .i64 za, .int .i64 zb, .int .i64 zi, .int .i64 zk, .string zt] rfl rfl (pr_new Wc.drew) zc_one (by unfold maxLen; omega) (by omega) (hb1.size) ?_
          intro v2 w2 hown2 hgr2
          have hb3 : Below Wc.heap.size Wc w2 := hb1.grown hgr2 hb1.size (fun k hk => by cases hk)
          obtain ⟨b2, c2, hv2, hc2⟩ : ∃ b c, v2 = .slice b 1 c ∧ 1 ≤ c := by
           rcases hown2.2 with ⟨hv, h0⟩ | ⟨g, cap, cur, hv, _, _, hc, _, _, _⟩
           ·cases h0
           ·exact ⟨_, _, hv, hc⟩
          have hfin := hown2
          rw [hv2]
          refine hK.out _ _ ⟨(hb3.block E hEl).trans HEc.out, hb3⟩ (fun hHeld => ?_)
          try simp only [Act.put, List.setIfInBounds_toArray, List.set_cons_zero, List.set_cons_succ]
          clear hK
          refine wpAnyH_ready (rs := [10]) (by kernel_rfl) (by simp) ?_
          refine AllReadyH.cons (o := ⟨some 95, .call { callee := .builtin .append, args := #[.tmp 91, .tmp 94], argTypes := #[94, 94] }, 94, "ref.go:283", #[⟨6, .data⟩, ⟨9, .data⟩, ⟨6, .chain⟩], none⟩) rfl (fun K hK => ?_) AllReadyH.nil
          refine step_append_none rfl (.tmp 91) (.tmp 94) 94 rfl 96 i0 Tryd.underlying94 hi0 b2 1 c2 hc2 rfl rfl ?_
          refine hK.out _ _ ⟨(hb3.block E hEl).trans HEc.out, hb3⟩ (fun hHeld => ?_)
          try simp only [Act.put, List.setIfInBounds_toArray, List.set_cons_zero, List.set_cons_succ]
          clear hK
          refine wpAnyH_take (i := 11) (oi := ⟨some 4, .assign (.tmp 95), 94, "ref.go:283", #[⟨10, .data⟩, ⟨10, .chain⟩, ⟨0, .phase⟩, ⟨1, .phase⟩, ⟨2, .phase⟩, ⟨3, .phase⟩, ⟨4, .phase⟩, ⟨5, .phase⟩, ⟨6, .phase⟩, ⟨7, .phase⟩, ⟨8, .phase⟩, ⟨9, .phase⟩, ⟨10, .phase⟩], none⟩) (v := .slice b2 1 c2) rfl (by kernel_rfl) (by kernel_rfl) (by kernel_rfl) (fun _ _ _ h => h) (Or.inl ⟨by rfl, fun w hSw => by go_simp⟩) (by assumption) ?_
          try simp only [Act.put, List.setIfInBounds_toArray, List.set_cons_zero, List.set_cons_succ]
          refine wpAnyH_done (by kernel_rfl) ?_ _
          have hph : PHas w2 (.slice b2 1 c2) (insQ [] z) := by
           rw [← hv2]
           refine PHas.of_own (B := Wc.heap.size) (l := [z]) ?_ rfl
           have e : prsC [z] = [] ++ [.int .i64 za, .int .i64 zb, .int .i64 zi, .int .i64 zk, .string zt] := by
            show prC z ++ [] = _
            rw [List.append_nil, List.nil_append]
            exact hzc.symm
           rw [e]
           exact hfin
          have HFin := Lib.hid (show PutPost l z (.slice (some ⟨g0, 0, none⟩) N c) w (.returned (.slice b2 1 c2)) w2 from ⟨_, rfl, by rw [Hres.out]; exact hph, Hbc.out.trans (hb3.mono Hbc.out.size), Or.inr fun b hb => by rw [← hv2] at hb; exact Nat.le_trans Hbc.out.size (hfin.lt b hb).1⟩)
          clear hph hfin hown2 hgr2 hb1 hb3 hHeld hzc
          go_wp2
          go_ret
          exact HFin.out
         ·refine step_build_row rfl 94 96 (.tmp 89) rfl #[.int .i64 za, .int .i64 zb, .int .i64 zi, .int .i64 zk, .string zt] i0 _ rfl Tryd.underlying94 hi0 hw0 (by rw [hw1]; rfl) (Nat.succ_pos 4) (by show (5 : Nat) ≤ 2 ^ 24; omega) ?_
          have hb1 : Below Wc.heap.size Wc (Wc.drew.alloc (.cells #[.int .i64 za, .int .i64 zb, .int .i64 zi, .int .i64 zk, .string zt] 96)) := ((Below.refl _ Wc).drew).alloc (Nat.le_refl _) _
          refine hK.out _ _ ⟨(hb1.block E hEl).trans HEc.out, hb1⟩ (fun hHeld => ?_)
          try simp only [Act.put, List.setIfInBounds_toArray, List.set_cons_zero, List.set_cons_succ]
          clear hK
          refine wpAnyH_ready (rs := [3]) (by kernel_rfl) (by simp) ?_
          refine AllReadyH.cons (o := ⟨some 88, .call { callee := .builtin .append, args := #[.const (.slice none 0 0), .tmp 87], argTypes := #[94, 94] }, 94, "ref.go:283", #[⟨2, .data⟩], none⟩) rfl (fun K hK => ?_) AllReadyH.nil
          refine step_append_none rfl (.const (.slice none 0 0)) (.tmp 87) 94 rfl 96 i0 Tryd.underlying94 hi0 none 0 0 (Nat.le_refl _) rfl rfl ?_
          refine hK.out _ _ ⟨(hb1.block E hEl).trans HEc.out, hb1⟩ (fun hHeld => ?_)
          try simp only [Act.put, List.setIfInBounds_toArray, List.set_cons_zero, List.set_cons_succ]
          clear hK
          refine wpAnyH_ready (rs := [6]) (by kernel_rfl) (by simp) ?_
          refine AllReadyH.cons (o := ⟨some 91, .call { callee := .builtin .append, args := #[.tmp 88, .tmp 90], argTypes := #[94, 94] }, 94, "ref.go:283", #[⟨3, .data⟩, ⟨5, .data⟩, ⟨3, .chain⟩], none⟩) rfl (fun K hK => ?_) AllReadyH.nil
          refine step_append_own rfl (.tmp 88) (.tmp 90) 94 rfl Wc.heap.size 96 i0 _ 5 48 Tryd.underlying94 hi0 hw0 hw1 hw2 rfl (by decide) (.slice none 0 0) 0 [] rfl (World.ownsRow_nil _ _ _ _) ⟨Wc.drew.heap.size, 0, none⟩ 1 1 [.int .i64 za, .int .i64 zb, .int .i64 zi, .int .i64 zk, .string zt] rfl rfl (pr_new Wc.drew) zc_one (by unfold maxLen; omega) (by omega) (hb1.size) ?_
          intro v2 w2 hown2 hgr2
          have hb3 : Below Wc.heap.size Wc w2 := hb1.grown hgr2 hb1.size (fun k hk => by cases hk)
          obtain ⟨b2, c2, hv2, hc2⟩ : ∃ b c, v2 = .slice b 1 c ∧ 1 ≤ c := by
           rcases hown2.2 with ⟨hv, h0⟩ | ⟨g, cap, cur, hv, _, _, hc, _, _, _⟩
           ·cases h0
           ·exact ⟨_, _, hv, hc⟩
          have hfin := hown2
          rw [hv2]
          refine hK.out _ _ ⟨(hb3.block E hEl).trans HEc.out, hb3⟩ (fun hHeld => ?_)
          try simp only [Act.put, List.setIfInBounds_toArray, List.set_cons_zero, List.set_cons_succ]
          clear hK
          refine wpAnyH_ready (rs := [10]) (by kernel_rfl) (by simp) ?_
          refine AllReadyH.cons (o := ⟨some 95, .call { callee := .builtin .append, args := #[.tmp 91, .tmp 94], argTypes := #[94, 94] }, 94, "ref.go:283", #[⟨6, .data⟩, ⟨9, .data⟩, ⟨6, .chain⟩], none⟩) rfl (fun K hK => ?_) AllReadyH.nil
          refine step_append_none rfl (.tmp 91) (.tmp 94) 94 rfl 96 i0 Tryd.underlying94 hi0 b2 1 c2 hc2 rfl rfl ?_
          refine hK.out _ _ ⟨(hb3.block E hEl).trans HEc.out, hb3⟩ (fun hHeld => ?_)
          try simp only [Act.put, List.setIfInBounds_toArray, List.set_cons_zero, List.set_cons_succ]
          clear hK
          refine wpAnyH_take (i := 11) (oi := ⟨some 4, .assign (.tmp 95), 94, "ref.go:283", #[⟨10, .data⟩, ⟨10, .chain⟩, ⟨0, .phase⟩, ⟨1, .phase⟩, ⟨2, .phase⟩, ⟨3, .phase⟩, ⟨4, .phase⟩, ⟨5, .phase⟩, ⟨6, .phase⟩, ⟨7, .phase⟩, ⟨8, .phase⟩, ⟨9, .phase⟩, ⟨10, .phase⟩], none⟩) (v := .slice b2 1 c2) rfl (by kernel_rfl) (by kernel_rfl) (by kernel_rfl) (fun _ _ _ h => h) (Or.inl ⟨by rfl, fun w hSw => by go_simp⟩) (by assumption) ?_
          try simp only [Act.put, List.setIfInBounds_toArray, List.set_cons_zero, List.set_cons_succ]
          refine wpAnyH_done (by kernel_rfl) ?_ _
          have hph : PHas w2 (.slice b2 1 c2) (insQ [] z) := by
           rw [← hv2]
           refine PHas.of_own (B := Wc.heap.size) (l := [z]) ?_ rfl
           have e : prsC [z] = [] ++ [.int .i64 za, .int .i64 zb, .int .i64 zi, .int .i64 zk, .string zt] := by
            show prC z ++ [] = _
            rw [List.append_nil, List.nil_append]
            exact hzc.symm
           rw [e]
           exact hfin
          have HFin := Lib.hid (show PutPost l z (.slice (some ⟨g0, 0, none⟩) N c) w (.returned (.slice b2 1 c2)) w2 from ⟨_, rfl, by rw [Hres.out]; exact hph, Hbc.out.trans (hb3.mono Hbc.out.size), Or.inr fun b hb => by rw [← hv2] at hb; exact Nat.le_trans Hbc.out.size (hfin.lt b hb).1⟩)
          clear hph hfin hown2 hgr2 hb1 hb3 hHeld hzc
          go_wp2
          go_ret
          exact HFin.out
       ·obtain ⟨N2, hN2⟩ : ∃ N2, l2.length = N2 := ⟨_, rfl⟩
        rw [hN2] at hc2 hl2n ⊢
        have hcN2 : (N2 : Int) ≤ (c2 : Int) := by omega
        have HN2 := Lib.hid hN2
        have Hbb := Hbw
        have Hr2 := Lib.hid hr2
        have HgE := Lib.hid hg2
        have HEr := HE2
        have y4 := cell_of_row w2 E 4 _ _ _ HE2.out
        simp only [List.getElem?_toArray, List.getElem?_cons_zero, List.getElem?_cons_succ] at y4
        clear hr2 hg2 hN2 Hbw HE2 hi
        go_wp2
        go_loopw [6] (fun s6 wx => ∃ n : Nat, n ≤ N2 ∧ s6 = .int .i64 (n : Int) ∧ insQ l2 z = l2.take n ++ insQ (l2.drop n) z ∧ ∃ m, wx = w2.drewN m) (fun s6 _ => N2 - (intOf s6).toNat)
        case atStart => exact ⟨0, by omega, rfl, by rw [List.take_zero, List.drop_zero, List.nil_append], 0, rfl⟩
        case round =>
         obtain ⟨n, hn, rfl, hins, m, rfl⟩ := hrel
         have Hins := Lib.hid hins
         clear hins
         by_cases hlt2 : n < N2
         ·have hiz : (n : Int) < (N2 : Int) := by omega
          obtain ⟨x, hx⟩ : ∃ x, l2[n]? = some x := ⟨l2[n]'(by rw [HN2.out]; exact hlt2), List.getElem?_eq_getElem _⟩
          have d4 := (Hr2.out.at_ hx).2.2.2.2
          have hle : leT x.t z.t = (Op.bytesLess (txt x.t).toList zt.toList || ((txt x.t).toList == zt.toList)) := by
           rw [leq_form (by rw [HLI2.out.len x (List.mem_of_getElem? hx), HLI.out.2]), txt_list, ← HZ.out.2.2.2.2, txt_list]
          obtain ⟨xt, hxt⟩ : ∃ n : ByteArray, txt x.t = n := ⟨_, rfl⟩
          rw [hxt] at d4 hle
          clear hxt
          cases hb1 : Op.bytesLess xt.toList zt.toList with
          | true =>
           rw [hb1] at hle
           have Hn := Lib.hid (insQ_step Hins.out hx hle)
           clear hx hle
           go_wp2
           go_quiet (fail)
           go_wp2
           exact ⟨⟨n + 1, by omega, rfl, Hn.out, _, rfl⟩, by simp [intOf]; omega⟩
          | false =>
           cases hb2 : (xt.toList == zt.toList) with
           | true =>
            rw [hb1, hb2] at hle
            have Hn := Lib.hid (insQ_step Hins.out hx hle)
            clear hx hle
            go_wp2
            go_quiet (fail)
            go_wp2
            exact ⟨⟨n + 1, by omega, rfl, Hn.out, _, rfl⟩, by simp [intOf]; omega⟩
           | false =>
            rw [hb1, hb2] at hle
            have Hn := Lib.hid (insQ_stop Hins.out (fun u hu => by rw [hx] at hu; obtain rfl := Option.some.inj hu; exact hle))
            clear hx hle Hins
            go_wp2
            go_quiet (fail)
            go_wp2
            generalize hWc : World.drewN (World.drewN w2 m) nq = Wc
            have HEc := Lib.hid (show Wc.heap[E]? = some (.cells #[.int .i64 za, .int .i64 zb, .int .i64 zi, .int .i64 zk, .string zt] 96 (0, 0)) from by rw [← hWc]; exact HEr.out)
            have Hrc := Lib.hid (show PRow Wc g2 l2 from by rw [← hWc]; exact Hr2.out)
            have Hbc := Lib.hid (show Below w.heap.size w Wc from by rw [← hWc]; exact drop_below (drop_below Hbb.out _) _)
            have hGc : g2 < Wc.heap.size := by rw [← hWc]; exact HgE.out
            have hEl : E < Wc.heap.size := (Array.getElem?_eq_some_iff.1 HEc.out).1
            have hlenT : (prsC (l2.take n)).length = n * 5 := by rw [prsC_len, List.length_take, HN2.out]; omega
            have hlenD : (prsC (l2.drop n)).length = (N2 - n) * 5 := by rw [prsC_len, List.length_drop, HN2.out]
            have Hcel := Lib.hid (fun W (hb : Below Wc.heap.size Wc W) => row_take (Hrc.out.below hb hGc) n)
            have hCn : (n : Int) ≤ (c2 : Int) := by omega
            have hnN : (n : Int) ≤ (N2 : Int) := by omega
            obtain ⟨AD, hAD⟩ : ∃ ad : Addr, (if c2 = n then some (⟨g2, 0, none⟩ : Addr) else some ⟨g2, n * 5, none⟩) = some ad := by split <;> exact ⟨_, rfl⟩
            have HcelD := Lib.hid (fun W (hb : Below Wc.heap.size Wc W) => row_drop (cap := c2) (Hrc.out.below hb hGc) n (by rw [HN2.out]; omega) hAD)
            have hzc : #[.int .i64 za, .int .i64 zb, .int .i64 zi, .int .i64 zk, .string zt].toList = prC z := by rw [← HZ.out.1, ← HZ.out.2.1, ← HZ.out.2.2.1, ← HZ.out.2.2.2.1, ← HZ.out.2.2.2.2]; rfl
            clear hWc Hr2 HEr Hbb HgE
            refine wp_region_held_drew (S := fun wx => wx.heap[E]? = some (.cells #[.int .i64 za, .int .i64 zb, .int .i64 zi, .int .i64 zk, .string zt] 96 (0, 0)) ∧ Below Wc.heap.size Wc wx) (by kernel_rfl) ⟨HEc.out, (Below.refl _ _).drew⟩ (fun hHeld => ?_)
            refine wpAnyH_take (i := 0) (oi := ⟨some 85, .move (.tmp 0), 94, "ref.go:283", #[], none⟩) (v := .slice (some ⟨g2, 0, none⟩) N2 c2) rfl (by kernel_rfl) (by kernel_rfl) (by kernel_rfl) (fun _ _ _ h => h) (Or.inl ⟨by rfl, fun w hSw => by go_simp⟩) (by assumption) ?_
            try simp only [Act.put, List.setIfInBounds_toArray, List.set_cons_zero, List.set_cons_succ]
            refine wpAnyH_take (i := 1) (oi := ⟨some 86, .move (.tmp 6), 3, "ref.go:283", #[], none⟩) (v := .int .i64 (n : Int)) rfl (by kernel_rfl) (by kernel_rfl) (by kernel_rfl) (fun _ _ _ h => h) (Or.inl ⟨by rfl, fun w hSw => by go_simp⟩) (by assumption) ?_
            try simp only [Act.put, List.setIfInBounds_toArray, List.set_cons_zero, List.set_cons_succ]
            refine wpAnyH_take (i := 2) (oi := ⟨some 87, .slice 94 (.tmp 85) none (some (.tmp 86)) none, 94, "ref.go:283", #[⟨0, .data⟩, ⟨1, .data⟩], none⟩) (v := .slice (some ⟨g2, 0, none⟩) n c2) rfl (by kernel_rfl) (by kernel_rfl) (by kernel_rfl) (fun _ _ _ h => h) (Or.inl ⟨by rfl, fun w hSw => by go_simp⟩) (by assumption) ?_
            try simp only [Act.put, List.setIfInBounds_toArray, List.set_cons_zero, List.set_cons_succ]
            refine wpAnyH_take (i := 4) (oi := ⟨some 89, .load 96 (.tmp 3), 96, "ref.go:283", #[], none⟩) (v := .agg #[.int .i64 za, .int .i64 zb, .int .i64 zi, .int .i64 zk, .string zt]) rfl (by kernel_rfl) (by kernel_rfl) (by kernel_rfl) (fun _ _ _ h => h) (yieldsIf_load_row (by rfl) 96 (.tmp 3) rfl E rfl 96 #[.int .i64 za, .int .i64 zb, .int .i64 zi, .int .i64 zk, .string zt] (0, 0) _ (fun w h => h.1) Tryd.underlying96 rfl (by rw [hi0]; simp [hw1])) (by assumption) ?_
            try simp only [Act.put, List.setIfInBounds_toArray, List.set_cons_zero, List.set_cons_succ]
            refine wpAnyH_take (i := 7) (oi := ⟨some 92, .move (.tmp 0), 94, "ref.go:283", #[], none⟩) (v := .slice (some ⟨g2, 0, none⟩) N2 c2) rfl (by kernel_rfl) (by kernel_rfl) (by kernel_rfl) (fun _ _ _ h => h) (Or.inl ⟨by rfl, fun w hSw => by go_simp⟩) (by assumption) ?_
            try simp only [Act.put, List.setIfInBounds_toArray, List.set_cons_zero, List.set_cons_succ]
            refine wpAnyH_take (i := 8) (oi := ⟨some 93, .move (.tmp 6), 3, "ref.go:283", #[], none⟩) (v := .int .i64 (n : Int)) rfl (by kernel_rfl) (by kernel_rfl) (by kernel_rfl) (fun _ _ _ h => h) (Or.inl ⟨by rfl, fun w hSw => by go_simp⟩) (by assumption) ?_
            try simp only [Act.put, List.setIfInBounds_toArray, List.set_cons_zero, List.set_cons_succ]
            refine wpAnyH_take (i := 9) (oi := ⟨some 94, .slice 94 (.tmp 92) (some (.tmp 93)) none none, 94, "ref.go:283", #[⟨7, .data⟩, ⟨8, .data⟩], none⟩) (v := .slice (some AD) (N2 - n) (c2 - n)) rfl (by kernel_rfl) (by kernel_rfl) (by kernel_rfl) (fun _ _ _ h => h) (Or.inl ⟨by rfl, fun w hSw => by go_simp⟩) (by assumption) ?_
            try simp only [Act.put, List.setIfInBounds_toArray, List.set_cons_zero, List.set_cons_succ]
            refine wpAnyH_ready (rs := [3, 5]) (by kernel_rfl) (by simp) ?_
            refine AllReadyH.cons (o := ⟨some 88, .call { callee := .builtin .append, args := #[.const (.slice none 0 0), .tmp 87], argTypes := #[94, 94] }, 94, "ref.go:283", #[⟨2, .data⟩], none⟩) rfl (fun K hK => ?_) (AllReadyH.cons (o := ⟨some 90, .buildSlice 94 1 #[(0, .tmp 89)], 94, "ref.go:283", #[⟨4, .data⟩], none⟩) rfl (fun K hK => ?_) AllReadyH.nil)
            ·refine step_append_own rfl (.const (.slice none 0 0)) (.tmp 87) 94 rfl Wc.heap.size 96 i0 _ 5 48 Tryd.underlying94 hi0 hw0 hw1 hw2 rfl (by decide) (.slice none 0 0) 0 [] rfl (World.ownsRow_nil _ _ _ _) ⟨g2, 0, none⟩ n c2 (prsC (l2.take n)) rfl hlenT (Hcel.out _ (Below.refl _ _).drew) (prsC_one _) (by unfold maxLen; omega) (by omega) (Nat.le_refl _) ?_
             intro v1 w1 hown1 hgr1
             have hb1 : Below Wc.heap.size Wc w1 := ((Below.refl _ Wc).drew).grown (show Wc.drew.grownBy w1 none from hgr1) (Nat.le_refl _) (fun k hk => by cases hk)
             refine hK.out _ _ ⟨(hb1.block E hEl).trans HEc.out, hb1⟩ (fun hHeld => ?_)
             try simp only [Act.put, List.setIfInBounds_toArray, List.set_cons_zero, List.set_cons_succ]
             clear hK
             refine wpAnyH_ready (rs := [5]) (by kernel_rfl) (by simp) ?_
             refine AllReadyH.cons (o := ⟨some 90, .buildSlice 94 1 #[(0, .tmp 89)], 94, "ref.go:283", #[⟨4, .data⟩], none⟩) rfl (fun K hK => ?_) AllReadyH.nil
             refine step_build_row rfl 94 96 (.tmp 89) rfl #[.int .i64 za, .int .i64 zb, .int .i64 zi, .int .i64 zk, .string zt] i0 _ rfl Tryd.underlying94 hi0 hw0 (by rw [hw1]; rfl) (Nat.succ_pos 4) (by show (5 : Nat) ≤ 2 ^ 24; omega) ?_
             have hb2 : Below Wc.heap.size Wc (w1.alloc (.cells #[.int .i64 za, .int .i64 zb, .int .i64 zi, .int .i64 zk, .string zt] 96)) := hb1.alloc hb1.size _
             refine hK.out _ _ ⟨(hb2.block E hEl).trans HEc.out, hb2⟩ (fun hHeld => ?_)
             try simp only [Act.put, List.setIfInBounds_toArray, List.set_cons_zero, List.set_cons_succ]
             clear hK
             refine wpAnyH_ready (rs := [6]) (by kernel_rfl) (by simp) ?_
             refine AllReadyH.cons (o := ⟨some 91, .call { callee := .builtin .append, args := #[.tmp 88, .tmp 90], argTypes := #[94, 94] }, 94, "ref.go:283", #[⟨3, .data⟩, ⟨5, .data⟩, ⟨3, .chain⟩], none⟩) rfl (fun K hK => ?_) AllReadyH.nil
             refine step_append_own rfl (.tmp 88) (.tmp 90) 94 rfl Wc.heap.size 96 i0 _ 5 48 Tryd.underlying94 hi0 hw0 hw1 hw2 rfl (by decide) v1 (0 + n) ([] ++ prsC (l2.take n)) rfl (hown1.alloc _) ⟨w1.heap.size, 0, none⟩ 1 1 [.int .i64 za, .int .i64 zb, .int .i64 zi, .int .i64 zk, .string zt] rfl rfl (pr_new w1) zc_one (by unfold maxLen; omega) (by omega) (hb2.size) ?_
             intro v2 w2 hown2 hgr2
             have hb3 : Below Wc.heap.size Wc w2 := hb2.grown hgr2 hb2.size (fun k hk => (hown1.lt k hk).1)
             refine hK.out _ _ ⟨(hb3.block E hEl).trans HEc.out, hb3⟩ (fun hHeld => ?_)
             try simp only [Act.put, List.setIfInBounds_toArray, List.set_cons_zero, List.set_cons_succ]
             clear hK
             refine wpAnyH_ready (rs := [10]) (by kernel_rfl) (by simp) ?_
             refine AllReadyH.cons (o := ⟨some 95, .call { callee := .builtin .append, args := #[.tmp 91, .tmp 94], argTypes := #[94, 94] }, 94, "ref.go:283", #[⟨6, .data⟩, ⟨9, .data⟩, ⟨6, .chain⟩], none⟩) rfl (fun K hK => ?_) AllReadyH.nil
             refine step_append_own rfl (.tmp 91) (.tmp 94) 94 rfl Wc.heap.size 96 i0 _ 5 48 Tryd.underlying94 hi0 hw0 hw1 hw2 rfl (by decide) v2 (0 + n + 1) ([] ++ prsC (l2.take n) ++ [.int .i64 za, .int .i64 zb, .int .i64 zi, .int .i64 zk, .string zt]) rfl (hown2) AD (N2 - n) (c2 - n) (prsC (l2.drop n)) rfl hlenD (HcelD.out _ hb3) (prsC_one _) (by unfold maxLen; omega) (by omega) (hb3.size) ?_
             intro v3 w3 hown3 hgr3
             have hb4 : Below Wc.heap.size Wc w3 := hb3.grown hgr3 hb3.size (fun k hk => (hown2.lt k hk).1)
             refine hK.out _ _ ⟨(hb4.block E hEl).trans HEc.out, hb4⟩ (fun hHeld => ?_)
             try simp only [Act.put, List.setIfInBounds_toArray, List.set_cons_zero, List.set_cons_succ]
             clear hK
             refine wpAnyH_take (i := 11) (oi := ⟨some 4, .assign (.tmp 95), 94, "ref.go:283", #[⟨10, .data⟩, ⟨10, .chain⟩, ⟨0, .phase⟩, ⟨1, .phase⟩, ⟨2, .phase⟩, ⟨3, .phase⟩, ⟨4, .phase⟩, ⟨5, .phase⟩, ⟨6, .phase⟩, ⟨7, .phase⟩, ⟨8, .phase⟩, ⟨9, .phase⟩, ⟨10, .phase⟩], none⟩) (v := v3) rfl (by kernel_rfl) (by kernel_rfl) (by kernel_rfl) (fun _ _ _ h => h) (Or.inl ⟨by rfl, fun w hSw => by go_simp⟩) (by assumption) ?_
             try simp only [Act.put, List.setIfInBounds_toArray, List.set_cons_zero, List.set_cons_succ]
             refine wpAnyH_done (by kernel_rfl) ?_ _
             have hfin := put_fin hown3 Hn.out HN2.out hn hzc
             have HFin := Lib.hid (show PutPost l z (.slice (some ⟨g0, 0, none⟩) N c) w (.returned v3) w3 from ⟨v3, rfl, by rw [Hres.out]; exact hfin, Hbc.out.trans (hb4.mono Hbc.out.size), Or.inr fun b hb => Nat.le_trans Hbc.out.size (hown3.lt b hb).1⟩)
             clear hfin hown3 hgr3 hown2 hgr2 hown1 hgr1 hb1 hb2 hb3 hb4 hHeld hzc
             go_wp2
             go_ret
             exact HFin.out
            ·refine step_build_row rfl 94 96 (.tmp 89) rfl #[.int .i64 za, .int .i64 zb, .int .i64 zi, .int .i64 zk, .string zt] i0 _ rfl Tryd.underlying94 hi0 hw0 (by rw [hw1]; rfl) (Nat.succ_pos 4) (by show (5 : Nat) ≤ 2 ^ 24; omega) ?_
             have hb1 : Below Wc.heap.size Wc (Wc.drew.alloc (.cells #[.int .i64 za, .int .i64 zb, .int .i64 zi, .int .i64 zk, .string zt] 96)) := ((Below.refl _ Wc).drew).alloc (Nat.le_refl _) _
             refine hK.out _ _ ⟨(hb1.block E hEl).trans HEc.out, hb1⟩ (fun hHeld => ?_)
             try simp only [Act.put, List.setIfInBounds_toArray, List.set_cons_zero, List.set_cons_succ]
             clear hK
             refine wpAnyH_ready (rs := [3]) (by kernel_rfl) (by simp) ?_
             refine AllReadyH.cons (o := ⟨some 88, .call { callee := .builtin .append, args := #[.const (.slice none 0 0), .tmp 87], argTypes := #[94, 94] }, 94, "ref.go:283", #[⟨2, .data⟩], none⟩) rfl (fun K hK => ?_) AllReadyH.nil
             refine step_append_own rfl (.const (.slice none 0 0)) (.tmp 87) 94 rfl Wc.heap.size 96 i0 _ 5 48 Tryd.underlying94 hi0 hw0 hw1 hw2 rfl (by decide) (.slice none 0 0) 0 [] rfl (World.ownsRow_nil _ _ _ _) ⟨g2, 0, none⟩ n c2 (prsC (l2.take n)) rfl hlenT (Hcel.out _ hb1) (prsC_one _) (by unfold maxLen; omega) (by omega) (hb1.size) ?_
             intro v1 w1 hown1 hgr1
             have hgr1' : (Wc.drew.alloc (.cells #[.int .i64 za, .int .i64 zb, .int .i64 zi, .int .i64 zk, .string zt] 96)).grownBy w1 none := hgr1
             have hb2 : Below Wc.heap.size Wc w1 := hb1.grown hgr1' hb1.size (fun k hk => by cases hk)
             have hpz := pr_kept (pr_new Wc.drew) hgr1'
             refine hK.out _ _ ⟨(hb2.block E hEl).trans HEc.out, hb2⟩ (fun hHeld => ?_)
             try simp only [Act.put, List.setIfInBounds_toArray, List.set_cons_zero, List.set_cons_succ]
             clear hK
             refine wpAnyH_ready (rs := [6]) (by kernel_rfl) (by simp) ?_
             refine AllReadyH.cons (o := ⟨some 91, .call { callee := .builtin .append, args := #[.tmp 88, .tmp 90], argTypes := #[94, 94] }, 94, "ref.go:283", #[⟨3, .data⟩, ⟨5, .data⟩, ⟨3, .chain⟩], none⟩) rfl (fun K hK => ?_) AllReadyH.nil
             refine step_append_own rfl (.tmp 88) (.tmp 90) 94 rfl Wc.heap.size 96 i0 _ 5 48 Tryd.underlying94 hi0 hw0 hw1 hw2 rfl (by decide) v1 (0 + n) ([] ++ prsC (l2.take n)) rfl (hown1) ⟨Wc.drew.heap.size, 0, none⟩ 1 1 [.int .i64 za, .int .i64 zb, .int .i64 zi, .int .i64 zk, .string zt] rfl rfl hpz zc_one (by unfold maxLen; omega) (by omega) (hb2.size) ?_
             intro v2 w2 hown2 hgr2
             have hb3 : Below Wc.heap.size Wc w2 := hb2.grown hgr2 hb2.size (fun k hk => (hown1.lt k hk).1)
             refine hK.out _ _ ⟨(hb3.block E hEl).trans HEc.out, hb3⟩ (fun hHeld => ?_)
             try simp only [Act.put, List.setIfInBounds_toArray, List.set_cons_zero, List.set_cons_succ]
             clear hK
             refine wpAnyH_ready (rs := [10]) (by kernel_rfl) (by simp) ?_
             refine AllReadyH.cons (o := ⟨some 95, .call { callee := .builtin .append, args := #[.tmp 91, .tmp 94], argTypes := #[94, 94] }, 94, "ref.go:283", #[⟨6, .data⟩, ⟨9, .data⟩, ⟨6, .chain⟩], none⟩) rfl (fun K hK => ?_) AllReadyH.nil
             refine step_append_own rfl (.tmp 91) (.tmp 94) 94 rfl Wc.heap.size 96 i0 _ 5 48 Tryd.underlying94 hi0 hw0 hw1 hw2 rfl (by decide) v2 (0 + n + 1) ([] ++ prsC (l2.take n) ++ [.int .i64 za, .int .i64 zb, .int .i64 zi, .int .i64 zk, .string zt]) rfl (hown2) AD (N2 - n) (c2 - n) (prsC (l2.drop n)) rfl hlenD (HcelD.out _ hb3) (prsC_one _) (by unfold maxLen; omega) (by omega) (hb3.size) ?_
             intro v3 w3 hown3 hgr3
             have hb4 : Below Wc.heap.size Wc w3 := hb3.grown hgr3 hb3.size (fun k hk => (hown2.lt k hk).1)
             refine hK.out _ _ ⟨(hb4.block E hEl).trans HEc.out, hb4⟩ (fun hHeld => ?_)
             try simp only [Act.put, List.setIfInBounds_toArray, List.set_cons_zero, List.set_cons_succ]
             clear hK
             refine wpAnyH_take (i := 11) (oi := ⟨some 4, .assign (.tmp 95), 94, "ref.go:283", #[⟨10, .data⟩, ⟨10, .chain⟩, ⟨0, .phase⟩, ⟨1, .phase⟩, ⟨2, .phase⟩, ⟨3, .phase⟩, ⟨4, .phase⟩, ⟨5, .phase⟩, ⟨6, .phase⟩, ⟨7, .phase⟩, ⟨8, .phase⟩, ⟨9, .phase⟩, ⟨10, .phase⟩], none⟩) (v := v3) rfl (by kernel_rfl) (by kernel_rfl) (by kernel_rfl) (fun _ _ _ h => h) (Or.inl ⟨by rfl, fun w hSw => by go_simp⟩) (by assumption) ?_
             try simp only [Act.put, List.setIfInBounds_toArray, List.set_cons_zero, List.set_cons_succ]
             refine wpAnyH_done (by kernel_rfl) ?_ _
             have hfin := put_fin hown3 Hn.out HN2.out hn hzc
             have HFin := Lib.hid (show PutPost l z (.slice (some ⟨g0, 0, none⟩) N c) w (.returned v3) w3 from ⟨v3, rfl, by rw [Hres.out]; exact hfin, Hbc.out.trans (hb4.mono Hbc.out.size), Or.inr fun b hb => Nat.le_trans Hbc.out.size (hown3.lt b hb).1⟩)
             clear hfin hown3 hgr3 hown2 hgr2 hown1 hgr1 hb1 hb2 hb3 hb4 hHeld hzc
             go_wp2
             go_ret
             exact HFin.out
         ·have hnN : n = N2 := by omega
          have hd1 : decide (n < N2) = false := decide_eq_false hlt2
          have Hn := Lib.hid (insQ_stop Hins.out (fun u hu => by
           have := (List.getElem?_eq_some_iff.1 hu).1
           rw [HN2.out] at this
           omega))
          clear Hins hnN
          go_wp2
          go_quiet (fail)
          go_wp2
          generalize hWc : World.drewN (World.drewN w2 m) nq = Wc
          have HEc := Lib.hid (show Wc.heap[E]? = some (.cells #[.int .i64 za, .int .i64 zb, .int .i64 zi, .int .i64 zk, .string zt] 96 (0, 0)) from by rw [← hWc]; exact HEr.out)
          have Hrc := Lib.hid (show PRow Wc g2 l2 from by rw [← hWc]; exact Hr2.out)
          have Hbc := Lib.hid (show Below w.heap.size w Wc from by rw [← hWc]; exact drop_below (drop_below Hbb.out _) _)
          have hGc : g2 < Wc.heap.size := by rw [← hWc]; exact HgE.out
          have hEl : E < Wc.heap.size := (Array.getElem?_eq_some_iff.1 HEc.out).1
          have hlenT : (prsC (l2.take n)).length = n * 5 := by rw [prsC_len, List.length_take, HN2.out]; omega
          have hlenD : (prsC (l2.drop n)).length = (N2 - n) * 5 := by rw [prsC_len, List.length_drop, HN2.out]
          have Hcel := Lib.hid (fun W (hb : Below Wc.heap.size Wc W) => row_take (Hrc.out.below hb hGc) n)
          have hCn : (n : Int) ≤ (c2 : Int) := by omega
          have hnN : (n : Int) ≤ (N2 : Int) := by omega
          obtain ⟨AD, hAD⟩ : ∃ ad : Addr, (if c2 = n then some (⟨g2, 0, none⟩ : Addr) else some ⟨g2, n * 5, none⟩) = some ad := by split <;> exact ⟨_, rfl⟩
          have HcelD := Lib.hid (fun W (hb : Below Wc.heap.size Wc W) => row_drop (cap := c2) (Hrc.out.below hb hGc) n (by rw [HN2.out]; omega) hAD)
          have hzc : #[.int .i64 za, .int .i64 zb, .int .i64 zi, .int .i64 zk, .string zt].toList = prC z := by rw [← HZ.out.1, ← HZ.out.2.1, ← HZ.out.2.2.1, ← HZ.out.2.2.2.1, ← HZ.out.2.2.2.2]; rfl
          clear hWc Hr2 HEr Hbb HgE
          refine wp_region_held_drew (S := fun wx => wx.heap[E]? = some (.cells #[.int .i64 za, .int .i64 zb, .int .i64 zi, .int .i64 zk, .string zt] 96 (0, 0)) ∧ Below Wc.heap.size Wc wx) (by kernel_rfl) ⟨HEc.out, (Below.refl _ _).drew⟩ (fun hHeld => ?_)
          refine wpAnyH_take (i := 0) (oi := ⟨some 85, .move (.tmp 0), 94, "ref.go:283", #[], none⟩) (v := .slice (some ⟨g2, 0, none⟩) N2 c2) rfl (by kernel_rfl) (by kernel_rfl) (by kernel_rfl) (fun _ _ _ h => h) (Or.inl ⟨by rfl, fun w hSw => by go_simp⟩) (by assumption) ?_
          try simp only [Act.put, List.setIfInBounds_toArray, List.set_cons_zero, List.set_cons_succ]
          refine wpAnyH_take (i := 1) (oi := ⟨some 86, .move (.tmp 6), 3, "ref.go:283", #[], none⟩) (v := .int .i64 (n : Int)) rfl (by kernel_rfl) (by kernel_rfl) (by kernel_rfl) (fun _ _ _ h => h) (Or.inl ⟨by rfl, fun w hSw => by go_simp⟩) (by assumption) ?_
          try simp only [Act.put, List.setIfInBounds_toArray, List.set_cons_zero, List.set_cons_succ]
          refine wpAnyH_take (i := 2) (oi := ⟨some 87, .slice 94 (.tmp 85) none (some (.tmp 86)) none, 94, "ref.go:283", #[⟨0, .data⟩, ⟨1, .data⟩], none⟩) (v := .slice (some ⟨g2, 0, none⟩) n c2) rfl (by kernel_rfl) (by kernel_rfl) (by kernel_rfl) (fun _ _ _ h => h) (Or.inl ⟨by rfl, fun w hSw => by go_simp⟩) (by assumption) ?_
          try simp only [Act.put, List.setIfInBounds_toArray, List.set_cons_zero, List.set_cons_succ]
          refine wpAnyH_take (i := 4) (oi := ⟨some 89, .load 96 (.tmp 3), 96, "ref.go:283", #[], none⟩) (v := .agg #[.int .i64 za, .int .i64 zb, .int .i64 zi, .int .i64 zk, .string zt]) rfl (by kernel_rfl) (by kernel_rfl) (by kernel_rfl) (fun _ _ _ h => h) (yieldsIf_load_row (by rfl) 96 (.tmp 3) rfl E rfl 96 #[.int .i64 za, .int .i64 zb, .int .i64 zi, .int .i64 zk, .string zt] (0, 0) _ (fun w h => h.1) Tryd.underlying96 rfl (by rw [hi0]; simp [hw1])) (by assumption) ?_
          try simp only [Act.put, List.setIfInBounds_toArray, List.set_cons_zero, List.set_cons_succ]
          refine wpAnyH_take (i := 7) (oi := ⟨some 92, .move (.tmp 0), 94, "ref.go:283", #[], none⟩) (v := .slice (some ⟨g2, 0, none⟩) N2 c2) rfl (by kernel_rfl) (by kernel_rfl) (by kernel_rfl) (fun _ _ _ h => h) (Or.inl ⟨by rfl, fun w hSw => by go_simp⟩) (by assumption) ?_
          try simp only [Act.put, List.setIfInBounds_toArray, List.set_cons_zero, List.set_cons_succ]
          refine wpAnyH_take (i := 8) (oi := ⟨some 93, .move (.tmp 6), 3, "ref.go:283", #[], none⟩) (v := .int .i64 (n : Int)) rfl (by kernel_rfl) (by kernel_rfl) (by kernel_rfl) (fun _ _ _ h => h) (Or.inl ⟨by rfl, fun w hSw => by go_simp⟩) (by assumption) ?_
          try simp only [Act.put, List.setIfInBounds_toArray, List.set_cons_zero, List.set_cons_succ]
          refine wpAnyH_take (i := 9) (oi := ⟨some 94, .slice 94 (.tmp 92) (some (.tmp 93)) none none, 94, "ref.go:283", #[⟨7, .data⟩, ⟨8, .data⟩], none⟩) (v := .slice (some AD) (N2 - n) (c2 - n)) rfl (by kernel_rfl) (by kernel_rfl) (by kernel_rfl) (fun _ _ _ h => h) (Or.inl ⟨by rfl, fun w hSw => by go_simp⟩) (by assumption) ?_
          try simp only [Act.put, List.setIfInBounds_toArray, List.set_cons_zero, List.set_cons_succ]
          refine wpAnyH_ready (rs := [3, 5]) (by kernel_rfl) (by simp) ?_
          refine AllReadyH.cons (o := ⟨some 88, .call { callee := .builtin .append, args := #[.const (.slice none 0 0), .tmp 87], argTypes := #[94, 94] }, 94, "ref.go:283", #[⟨2, .data⟩], none⟩) rfl (fun K hK => ?_) (AllReadyH.cons (o := ⟨some 90, .buildSlice 94 1 #[(0, .tmp 89)], 94, "ref.go:283", #[⟨4, .data⟩], none⟩) rfl (fun K hK => ?_) AllReadyH.nil)
          ·refine step_append_own rfl (.const (.slice none 0 0)) (.tmp 87) 94 rfl Wc.heap.size 96 i0 _ 5 48 Tryd.underlying94 hi0 hw0 hw1 hw2 rfl (by decide) (.slice none 0 0) 0 [] rfl (World.ownsRow_nil _ _ _ _) ⟨g2, 0, none⟩ n c2 (prsC (l2.take n)) rfl hlenT (Hcel.out _ (Below.refl _ _).drew) (prsC_one _) (by unfold maxLen; omega) (by omega) (Nat.le_refl _) ?_
           intro v1 w1 hown1 hgr1
           have hb1 : Below Wc.heap.size Wc w1 := ((Below.refl _ Wc).drew).grown (show Wc.drew.grownBy w1 none from hgr1) (Nat.le_refl _) (fun k hk => by cases hk)
           refine hK.out _ _ ⟨(hb1.block E hEl).trans HEc.out, hb1⟩ (fun hHeld => ?_)
           try simp only [Act.put, List.setIfInBounds_toArray, List.set_cons_zero, List.set_cons_succ]
           clear hK
           refine wpAnyH_ready (rs := [5]) (by kernel_rfl) (by simp) ?_
           refine AllReadyH.cons (o := ⟨some 90, .buildSlice 94 1 #[(0, .tmp 89)], 94, "ref.go:283", #[⟨4, .data⟩], none⟩) rfl (fun K hK => ?_) AllReadyH.nil
           refine step_build_row rfl 94 96 (.tmp 89) rfl #[.int .i64 za, .int .i64 zb, .int .i64 zi, .int .i64 zk, .string zt] i0 _ rfl Tryd.underlying94 hi0 hw0 (by rw [hw1]; rfl) (Nat.succ_pos 4) (by show (5 : Nat) ≤ 2 ^ 24; omega) ?_
           have hb2 : Below Wc.heap.size Wc (w1.alloc (.cells #[.int .i64 za, .int .i64 zb, .int .i64 zi, .int .i64 zk, .string zt] 96)) := hb1.alloc hb1.size _
           refine hK.out _ _ ⟨(hb2.block E hEl).trans HEc.out, hb2⟩ (fun hHeld => ?_)
           try simp only [Act.put, List.setIfInBounds_toArray, List.set_cons_zero, List.set_cons_succ]
           clear hK
           refine wpAnyH_ready (rs := [6]) (by kernel_rfl) (by simp) ?_
           refine AllReadyH.cons (o := ⟨some 91, .call { callee := .builtin .append, args := #[.tmp 88, .tmp 90], argTypes := #[94, 94] }, 94, "ref.go:283", #[⟨3, .data⟩, ⟨5, .data⟩, ⟨3, .chain⟩], none⟩) rfl (fun K hK => ?_) AllReadyH.nil
           refine step_append_own rfl (.tmp 88) (.tmp 90) 94 rfl Wc.heap.size 96 i0 _ 5 48 Tryd.underlying94 hi0 hw0 hw1 hw2 rfl (by decide) v1 (0 + n) ([] ++ prsC (l2.take n)) rfl (hown1.alloc _) ⟨w1.heap.size, 0, none⟩ 1 1 [.int .i64 za, .int .i64 zb, .int .i64 zi, .int .i64 zk, .string zt] rfl rfl (pr_new w1) zc_one (by unfold maxLen; omega) (by omega) (hb2.size) ?_
           intro v2 w2 hown2 hgr2
           have hb3 : Below Wc.heap.size Wc w2 := hb2.grown hgr2 hb2.size (fun k hk => (hown1.lt k hk).1)
           refine hK.out _ _ ⟨(hb3.block E hEl).trans HEc.out, hb3⟩ (fun hHeld => ?_)
           try simp only [Act.put, List.setIfInBounds_toArray, List.set_cons_zero, List.set_cons_succ]
           clear hK
           refine wpAnyH_ready (rs := [10]) (by kernel_rfl) (by simp) ?_
           refine AllReadyH.cons (o := ⟨some 95, .call { callee := .builtin .append, args := #[.tmp 91, .tmp 94], argTypes := #[94, 94] }, 94, "ref.go:283", #[⟨6, .data⟩, ⟨9, .data⟩, ⟨6, .chain⟩], none⟩) rfl (fun K hK => ?_) AllReadyH.nil
           refine step_append_own rfl (.tmp 91) (.tmp 94) 94 rfl Wc.heap.size 96 i0 _ 5 48 Tryd.underlying94 hi0 hw0 hw1 hw2 rfl (by decide) v2 (0 + n + 1) ([] ++ prsC (l2.take n) ++ [.int .i64 za, .int .i64 zb, .int .i64 zi, .int .i64 zk, .string zt]) rfl (hown2) AD (N2 - n) (c2 - n) (prsC (l2.drop n)) rfl hlenD (HcelD.out _ hb3) (prsC_one _) (by unfold maxLen; omega) (by omega) (hb3.size) ?_
           intro v3 w3 hown3 hgr3
           have hb4 : Below Wc.heap.size Wc w3 := hb3.grown hgr3 hb3.size (fun k hk => (hown2.lt k hk).1)
           refine hK.out _ _ ⟨(hb4.block E hEl).trans HEc.out, hb4⟩ (fun hHeld => ?_)
           try simp only [Act.put, List.setIfInBounds_toArray, List.set_cons_zero, List.set_cons_succ]
           clear hK
           refine wpAnyH_take (i := 11) (oi := ⟨some 4, .assign (.tmp 95), 94, "ref.go:283", #[⟨10, .data⟩, ⟨10, .chain⟩, ⟨0, .phase⟩, ⟨1, .phase⟩, ⟨2, .phase⟩, ⟨3, .phase⟩, ⟨4, .phase⟩, ⟨5, .phase⟩, ⟨6, .phase⟩, ⟨7, .phase⟩, ⟨8, .phase⟩, ⟨9, .phase⟩, ⟨10, .phase⟩], none⟩) (v := v3) rfl (by kernel_rfl) (by kernel_rfl) (by kernel_rfl) (fun _ _ _ h => h) (Or.inl ⟨by rfl, fun w hSw => by go_simp⟩) (by assumption) ?_
           try simp only [Act.put, List.setIfInBounds_toArray, List.set_cons_zero, List.set_cons_succ]
           refine wpAnyH_done (by kernel_rfl) ?_ _
           have hfin := put_fin hown3 Hn.out HN2.out hn hzc
           have HFin := Lib.hid (show PutPost l z (.slice (some ⟨g0, 0, none⟩) N c) w (.returned v3) w3 from ⟨v3, rfl, by rw [Hres.out]; exact hfin, Hbc.out.trans (hb4.mono Hbc.out.size), Or.inr fun b hb => Nat.le_trans Hbc.out.size (hown3.lt b hb).1⟩)
           clear hfin hown3 hgr3 hown2 hgr2 hown1 hgr1 hb1 hb2 hb3 hb4 hHeld hzc
           go_wp2
           go_ret
           exact HFin.out
          ·refine step_build_row rfl 94 96 (.tmp 89) rfl #[.int .i64 za, .int .i64 zb, .int .i64 zi, .int .i64 zk, .string zt] i0 _ rfl Tryd.underlying94 hi0 hw0 (by rw [hw1]; rfl) (Nat.succ_pos 4) (by show (5 : Nat) ≤ 2 ^ 24; omega) ?_
           have hb1 : Below Wc.heap.size Wc (Wc.drew.alloc (.cells #[.int .i64 za, .int .i64 zb, .int .i64 zi, .int .i64 zk, .string zt] 96)) := ((Below.refl _ Wc).drew).alloc (Nat.le_refl _) _
           refine hK.out _ _ ⟨(hb1.block E hEl).trans HEc.out, hb1⟩ (fun hHeld => ?_)
           try simp only [Act.put, List.setIfInBounds_toArray, List.set_cons_zero, List.set_cons_succ]
           clear hK
           refine wpAnyH_ready (rs := [3]) (by kernel_rfl) (by simp) ?_
           refine AllReadyH.cons (o := ⟨some 88, .call { callee := .builtin .append, args := #[.const (.slice none 0 0), .tmp 87], argTypes := #[94, 94] }, 94, "ref.go:283", #[⟨2, .data⟩], none⟩) rfl (fun K hK => ?_) AllReadyH.nil
           refine step_append_own rfl (.const (.slice none 0 0)) (.tmp 87) 94 rfl Wc.heap.size 96 i0 _ 5 48 Tryd.underlying94 hi0 hw0 hw1 hw2 rfl (by decide) (.slice none 0 0) 0 [] rfl (World.ownsRow_nil _ _ _ _) ⟨g2, 0, none⟩ n c2 (prsC (l2.take n)) rfl hlenT (Hcel.out _ hb1) (prsC_one _) (by unfold maxLen; omega) (by omega) (hb1.size) ?_
           intro v1 w1 hown1 hgr1
           have hgr1' : (Wc.drew.alloc (.cells #[.int .i64 za, .int .i64 zb, .int .i64 zi, .int .i64 zk, .string zt] 96)).grownBy w1 none := hgr1
           have hb2 : Below Wc.heap.size Wc w1 := hb1.grown hgr1' hb1.size (fun k hk => by cases hk)
           have hpz := pr_kept (pr_new Wc.drew) hgr1'
           refine hK.out _ _ ⟨(hb2.block E hEl).trans HEc.out, hb2⟩ (fun hHeld => ?_)
           try simp only [Act.put, List.setIfInBounds_toArray, List.set_cons_zero, List.set_cons_succ]
           clear hK
           refine wpAnyH_ready (rs := [6]) (by kernel_rfl) (by simp) ?_
           refine AllReadyH.cons (o := ⟨some 91, .call { callee := .builtin .append, args := #[.tmp 88, .tmp 90], argTypes := #[94, 94] }, 94, "ref.go:283", #[⟨3, .data⟩, ⟨5, .data⟩, ⟨3, .chain⟩], none⟩) rfl (fun K hK => ?_) AllReadyH.nil
           refine step_append_own rfl (.tmp 88) (.tmp 90) 94 rfl Wc.heap.size 96 i0 _ 5 48 Tryd.underlying94 hi0 hw0 hw1 hw2 rfl (by decide) v1 (0 + n) ([] ++ prsC (l2.take n)) rfl (hown1) ⟨Wc.drew.heap.size, 0, none⟩ 1 1 [.int .i64 za, .int .i64 zb, .int .i64 zi, .int .i64 zk, .string zt] rfl rfl hpz zc_one (by unfold maxLen; omega) (by omega) (hb2.size) ?_
           intro v2 w2 hown2 hgr2
           have hb3 : Below Wc.heap.size Wc w2 := hb2.grown hgr2 hb2.size (fun k hk => (hown1.lt k hk).1)
           refine hK.out _ _ ⟨(hb3.block E hEl).trans HEc.out, hb3⟩ (fun hHeld => ?_)
           try simp only [Act.put, List.setIfInBounds_toArray, List.set_cons_zero, List.set_cons_succ]
           clear hK
           refine wpAnyH_ready (rs := [10]) (by kernel_rfl) (by simp) ?_
           refine AllReadyH.cons (o := ⟨some 95, .call { callee := .builtin .append, args := #[.tmp 91, .tmp 94], argTypes := #[94, 94] }, 94, "ref.go:283", #[⟨6, .data⟩, ⟨9, .data⟩, ⟨6, .chain⟩], none⟩) rfl (fun K hK => ?_) AllReadyH.nil
           refine step_append_own rfl (.tmp 91) (.tmp 94) 94 rfl Wc.heap.size 96 i0 _ 5 48 Tryd.underlying94 hi0 hw0 hw1 hw2 rfl (by decide) v2 (0 + n + 1) ([] ++ prsC (l2.take n) ++ [.int .i64 za, .int .i64 zb, .int .i64 zi, .int .i64 zk, .string zt]) rfl (hown2) AD (N2 - n) (c2 - n) (prsC (l2.drop n)) rfl hlenD (HcelD.out _ hb3) (prsC_one _) (by unfold maxLen; omega) (by omega) (hb3.size) ?_
           intro v3 w3 hown3 hgr3
           have hb4 : Below Wc.heap.size Wc w3 := hb3.grown hgr3 hb3.size (fun k hk => (hown2.lt k hk).1)
           refine hK.out _ _ ⟨(hb4.block E hEl).trans HEc.out, hb4⟩ (fun hHeld => ?_)
           try simp only [Act.put, List.setIfInBounds_toArray, List.set_cons_zero, List.set_cons_succ]
           clear hK
           refine wpAnyH_take (i := 11) (oi := ⟨some 4, .assign (.tmp 95), 94, "ref.go:283", #[⟨10, .data⟩, ⟨10, .chain⟩, ⟨0, .phase⟩, ⟨1, .phase⟩, ⟨2, .phase⟩, ⟨3, .phase⟩, ⟨4, .phase⟩, ⟨5, .phase⟩, ⟨6, .phase⟩, ⟨7, .phase⟩, ⟨8, .phase⟩, ⟨9, .phase⟩, ⟨10, .phase⟩], none⟩) (v := v3) rfl (by kernel_rfl) (by kernel_rfl) (by kernel_rfl) (fun _ _ _ h => h) (Or.inl ⟨by rfl, fun w hSw => by go_simp⟩) (by assumption) ?_
           try simp only [Act.put, List.setIfInBounds_toArray, List.set_cons_zero, List.set_cons_succ]
           refine wpAnyH_done (by kernel_rfl) ?_ _
           have hfin := put_fin hown3 Hn.out HN2.out hn hzc
           have HFin := Lib.hid (show PutPost l z (.slice (some ⟨g0, 0, none⟩) N c) w (.returned v3) w3 from ⟨v3, rfl, by rw [Hres.out]; exact hfin, Hbc.out.trans (hb4.mono Hbc.out.size), Or.inr fun b hb => Nat.le_trans Hbc.out.size (hown3.lt b hb).1⟩)
           clear hfin hown3 hgr3 hown2 hgr2 hown1 hgr1 hb1 hb2 hb3 hb4 hHeld hzc
           go_wp2
           go_ret
           exact HFin.out
  ·obtain rfl : i = N := by omega
   have hh := Hf.out
   rw [List.take_of_length_le (by rw [HN.out]; omega), hfn] at hh
   cases hh
end Go.Proofs.YtdlchlbngojljaaDoor.Gl
