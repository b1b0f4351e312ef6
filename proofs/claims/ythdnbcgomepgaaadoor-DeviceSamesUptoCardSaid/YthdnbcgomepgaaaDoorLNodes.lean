/- DeviceNodes: the walk. -/
import Derived.Test.YthdnbcgomepgaaaDoorNo
namespace Go.Proofs.YthdnbcgomepgaaaDoor
open Go.RowKit

theorem ints_go {w W : World} {lv : Value} (h : Ints w w.heap.size lv) (hb : Below w.heap.size w W) : Ints W W.heap.size lv := by
  rcases h.keep (fun b hbl => hb.block b hbl) with h | ⟨b, o, n, c, hv, hbl, hz⟩
  · exact .inl h
  · exact .inr ⟨b, o, n, c, hv, Nat.lt_of_lt_of_le hbl hb.size, hz⟩
theorem has_slice {w : World} {v : Value} {l : List Atr} (h : Has w v l) : ∃ a n c, v = .slice a n c := by
  obtain ⟨a, c, hv, _⟩ := h.form
  exact ⟨_, _, _, hv⟩

theorem seg_two {W : World} {S : Nat} {c1 c2 : Array Value} (h : W.heap[S]? = some (.cells (c1 ++ c2) 24 (0, 0))) : Seg W S 0 c1 ∧ Seg W S c1.size c2 := by
  refine ⟨fun j v hv => ?_, fun j v hv => ?_⟩
  · rw [cell_of_row _ _ _ _ _ _ h, Nat.zero_add, Array.getElem?_append_left (Array.getElem?_eq_some_iff.1 hv).1]
    exact hv
  · rw [cell_of_row _ _ _ _ _ _ h, Array.getElem?_append_right (by omega), Nat.add_sub_cancel_left]
    exact hv

set_option maxHeartbeats 2000000 in
set_option maxRecDepth 100000 in
theorem deviceNodes_walk (d : Dev) (la : Option Addr) (ln lc : Nat) (w : World) (hm : Max w) {l : List Atr} (g : Has w d.av l ∧ l.length ≤ 9223372036854775807 ∧ Sized d l) (h : Ints w w.heap.size (.slice la ln lc)) :
    Calls Tryd.prog 7 #[devV d, .slice la ln lc] w (Bel (.bool true) w) := by
  have hv := (zero_of_info (P := Tryd.prog) info24).1
  have hi := (zero_of_info (P := Tryd.prog) info24).2
  obtain ⟨hH, hlen, hZ⟩ := g
  obtain ⟨idx, par, name, orig, sub, drv, ali, kind, num, av⟩ := d
  obtain ⟨da, dn, dc, hav⟩ := has_slice hH
  simp only at hav
  subst hav
  unfold devV devC
  simp only
  have HM := Lib.hid hm
  have hb1 := box_below w (.cells #[.int .i64 idx, .int .i64 par, .string name, .string orig, .string sub, .string drv, .string ali, .int .i64 kind, .int .i64 num, .slice da dn dc] 24)
  have hT := tape_new (w.alloc (.cells #[.int .i64 idx, .int .i64 par, .string name, .string orig, .string sub, .string drv, .string ali, .int .i64 kind, .int .i64 num, .slice da dn dc] 24)) _ (ints_go h hb1)
  have HSo := Lib.hid (sound_any (w.alloc (.cells #[.int .i64 idx, .int .i64 par, .string name, .string orig, .string sub, .string drv, .string ali, .int .i64 kind, .int .i64 num, .slice da dn dc] 24)).heap.size 0 _ (by omega) hT)
  have hsz1 : (w.alloc (.cells #[.int .i64 idx, .int .i64 par, .string name, .string orig, .string sub, .string drv, .string ali, .int .i64 kind, .int .i64 num, .slice da dn dc] 24)).heap.size = w.heap.size + 1 := by simp
  rw [hsz1] at HSo
  have hR : BoxAt ((w.alloc (.cells #[.int .i64 idx, .int .i64 par, .string name, .string orig, .string sub, .string drv, .string ali, .int .i64 kind, .int .i64 num, .slice da dn dc] 24)).alloc (.cells #[.slice la ln lc, .int .i64 0] 30)) w.heap.size #[.int .i64 idx, .int .i64 par, .string name, .string orig, .string sub, .string drv, .string ali, .int .i64 kind, .int .i64 num, .slice da dn dc] := (Below.heap_alloc _ _ _ (by simp)).trans (heap_last w _)
  have hb2 : Below w.heap.size w ((w.alloc (.cells #[.int .i64 idx, .int .i64 par, .string name, .string orig, .string sub, .string drv, .string ali, .int .i64 kind, .int .i64 num, .slice da dn dc] 24)).alloc (.cells #[.slice la ln lc, .int .i64 0] 30)) := hb1.alloc (by simp) _
  have HP := Lib.hid (And.intro hH (And.intro hR hb2))
  clear hm hH hR hb1 hb2 hT h
  go_enter Tryd.func7, Tryd.ntmps7
  go_wp2_with fail
  refine HSo.out.mono ?_
  rintro e W1 ⟨d2, l2, k2, rfl, hown, hgood, hlen2, hk2, hT, hg, hs2⟩
  obtain ⟨ea, en, ec, hav2⟩ := owns_slice hown
  obtain ⟨jdx, jar, mame, mrig, mub, mrv, mli, mind, mum, av2⟩ := d2
  simp only at hav2 hs2
  subst hav2
  unfold devV devC
  simp only
  have hZ2 : Sized (⟨jdx, jar, mame, mrig, mub, mrv, mli, mind, mum, .slice ea en ec⟩ : Dev) l2 := ⟨by have := hs2.1; simp only; omega, by have := hs2.2.1; simp only; omega, by have := hs2.2.2.1; simp only; omega, by have := hs2.2.2.2.1; simp only; omega, by have := hs2.2.2.2.2; simp only; omega, fun a ha => by have := hgood.2 a ha; omega⟩
  have hb3 : Below w.heap.size w W1 := HP.out.2.2.grown hg HP.out.2.2.size fun k hk => by cases hk; simp
  have hR1 : BoxAt W1 w.heap.size #[.int .i64 idx, .int .i64 par, .string name, .string orig, .string sub, .string drv, .string ali, .int .i64 kind, .int .i64 num, .slice da dn dc] := (hg.block _ (block_lt HP.out.2.1) (fun e => by have := Option.some.inj e; omega)).trans HP.out.2.1
  have hn := heap_last W1 (.cells zeroC 24)
  have hstored : BoxAt ((W1.alloc (.cells zeroC 24)).setRow W1.heap.size #[.int .i64 jdx, .int .i64 jar, .string mame, .string mrig, .string mub, .string mrv, .string mli, .int .i64 mind, .int .i64 mum, .slice ea en ec]) W1.heap.size #[.int .i64 jdx, .int .i64 jar, .string mame, .string mrig, .string mub, .string mrv, .string mli, .int .i64 mind, .int .i64 mum, .slice ea en ec] := setRow_heap _ W1.heap.size zeroC _ 24 (0, 0) hn
  have hold : ∀ b, b < W1.heap.size → ((W1.alloc (.cells zeroC 24)).setRow W1.heap.size #[.int .i64 jdx, .int .i64 jar, .string mame, .string mrig, .string mub, .string mrv, .string mli, .int .i64 mind, .int .i64 mum, .slice ea en ec]).heap[b]? = W1.heap[b]? := fun b hb => by
    have h1 : ((W1.alloc (.cells zeroC 24)).setRow W1.heap.size #[.int .i64 jdx, .int .i64 jar, .string mame, .string mrig, .string mub, .string mrv, .string mli, .int .i64 mind, .int .i64 mum, .slice ea en ec]).heap[b]? = (W1.alloc (.cells zeroC 24)).heap[b]? := by simp [World.setRow, Array.getElem?_modify, Nat.ne_of_gt hb]
    exact h1.trans (Below.heap_alloc W1 _ b hb)
  have hb4 : Below W1.heap.size W1 ((W1.alloc (.cells zeroC 24)).setRow W1.heap.size #[.int .i64 jdx, .int .i64 jar, .string mame, .string mrig, .string mub, .string mrv, .string mli, .int .i64 mind, .int .i64 mum, .slice ea en ec]) := below_setRow ((Below.refl _ W1).alloc (Nat.le_refl _) _) (Nat.le_refl _) _
  have hR2 : BoxAt ((W1.alloc (.cells zeroC 24)).setRow W1.heap.size #[.int .i64 jdx, .int .i64 jar, .string mame, .string mrig, .string mub, .string mrv, .string mli, .int .i64 mind, .int .i64 mum, .slice ea en ec]) w.heap.size #[.int .i64 idx, .int .i64 par, .string name, .string orig, .string sub, .string drv, .string ali, .int .i64 kind, .int .i64 num, .slice da dn dc] := (hold _ (block_lt hR1)).trans hR1
  have HQ := Lib.hid (And.intro hn (And.intro hstored (And.intro hR2 (And.intro (hb3.trans (hb4.mono hb3.size)) (And.intro (hown.has.below hb4) (HP.out.1.below (hb3.trans (hb4.mono hb3.size))))))))
  have HZ := Lib.hid hZ
  have HZ2 := Lib.hid hZ2
  clear hown hT hg hs2 hb3 hR1 hn hstored hold hb4 hR2 HSo HP hZ hZ2 hgood
  go_wp2_with (first
    | (refine wpList_store_row rfl 24 _ _ rfl W1.heap.size #[.int .i64 jdx, .int .i64 jar, .string mame, .string mrig, .string mub, .string mrv, .string mli, .int .i64 mind, .int .i64 mum, .slice ea en ec] rfl rfl 24 _ HQ.out.1 hi rfl (by simp [Value.oneCell']) ?_)
    | (refine wpList_load_row rfl 24 _ rfl w.heap.size rfl 24 _ _ _ HQ.out.2.2.1 Tryd.underlying24 rfl hi ?_)
    | (refine wpList_load_row rfl 24 _ rfl W1.heap.size rfl 24 _ _ _ HQ.out.2.1 Tryd.underlying24 rfl hi ?_))
  have hS0 : ((W1.alloc (.cells zeroC 24)).setRow W1.heap.size #[.int .i64 jdx, .int .i64 jar, .string mame, .string mrig, .string mub, .string mrv, .string mli, .int .i64 mind, .int .i64 mum, .slice ea en ec]).heap.size = W1.heap.size + 1 := by simp [World.setRow]
  have hlast := heap_last ((W1.alloc (.cells zeroC 24)).setRow W1.heap.size #[.int .i64 jdx, .int .i64 jar, .string mame, .string mrig, .string mub, .string mrv, .string mli, .int .i64 mind, .int .i64 mum, .slice ea en ec]) (.cells (#[.int .i64 idx, .int .i64 par, .string name, .string orig, .string sub, .string drv, .string ali, .int .i64 kind, .int .i64 num, .slice da dn dc] ++ #[.int .i64 jdx, .int .i64 jar, .string mame, .string mrig, .string mub, .string mrv, .string mli, .int .i64 mind, .int .i64 mum, .slice ea en ec]) 24)
  have hsegs := seg_two hlast
  rw [hS0] at hsegs
  have hsz10 : (#[.int .i64 idx, .int .i64 par, .string name, .string orig, .string sub, .string drv, .string ali, .int .i64 kind, .int .i64 num, .slice da dn dc] : Array Value).size = 10 := rfl
  rw [hsz10] at hsegs
  have HS1 := Lib.hid (show Seg (((W1.alloc (.cells zeroC 24)).setRow W1.heap.size #[.int .i64 jdx, .int .i64 jar, .string mame, .string mrig, .string mub, .string mrv, .string mli, .int .i64 mind, .int .i64 mum, .slice ea en ec]).alloc (.cells #[.int .i64 idx, .int .i64 par, .string name, .string orig, .string sub, .string drv, .string ali, .int .i64 kind, .int .i64 num, .slice da dn dc, .int .i64 jdx, .int .i64 jar, .string mame, .string mrig, .string mub, .string mrv, .string mli, .int .i64 mind, .int .i64 mum, .slice ea en ec] 24)) (W1.heap.size + 1) 0 #[.int .i64 idx, .int .i64 par, .string name, .string orig, .string sub, .string drv, .string ali, .int .i64 kind, .int .i64 num, .slice da dn dc] from hsegs.1)
  have HS2 := Lib.hid (show Seg (((W1.alloc (.cells zeroC 24)).setRow W1.heap.size #[.int .i64 jdx, .int .i64 jar, .string mame, .string mrig, .string mub, .string mrv, .string mli, .int .i64 mind, .int .i64 mum, .slice ea en ec]).alloc (.cells #[.int .i64 idx, .int .i64 par, .string name, .string orig, .string sub, .string drv, .string ali, .int .i64 kind, .int .i64 num, .slice da dn dc, .int .i64 jdx, .int .i64 jar, .string mame, .string mrig, .string mub, .string mrv, .string mli, .int .i64 mind, .int .i64 mum, .slice ea en ec] 24)) (W1.heap.size + 1) 10 #[.int .i64 jdx, .int .i64 jar, .string mame, .string mrig, .string mub, .string mrv, .string mli, .int .i64 mind, .int .i64 mum, .slice ea en ec] from hsegs.2)
  have HB := Lib.hid (HQ.out.2.2.2.1.alloc HQ.out.2.2.2.1.size (.cells #[.int .i64 idx, .int .i64 par, .string name, .string orig, .string sub, .string drv, .string ali, .int .i64 kind, .int .i64 num, .slice da dn dc, .int .i64 jdx, .int .i64 jar, .string mame, .string mrig, .string mub, .string mrv, .string mli, .int .i64 mind, .int .i64 mum, .slice ea en ec] 24))
  have HH1 := Lib.hid (HQ.out.2.2.2.2.2.below ((Below.refl _ _).alloc (Nat.le_refl _) (.cells #[.int .i64 idx, .int .i64 par, .string name, .string orig, .string sub, .string drv, .string ali, .int .i64 kind, .int .i64 num, .slice da dn dc, .int .i64 jdx, .int .i64 jar, .string mame, .string mrig, .string mub, .string mrv, .string mli, .int .i64 mind, .int .i64 mum, .slice ea en ec] 24)))
  have HH2 := Lib.hid (HQ.out.2.2.2.2.1.below ((Below.refl _ _).alloc (Nat.le_refl _) (.cells #[.int .i64 idx, .int .i64 par, .string name, .string orig, .string sub, .string drv, .string ali, .int .i64 kind, .int .i64 num, .slice da dn dc, .int .i64 jdx, .int .i64 jar, .string mame, .string mrig, .string mub, .string mrv, .string mli, .int .i64 mind, .int .i64 mum, .slice ea en ec] 24)))
  have hSl : W1.heap.size + 1 < (((W1.alloc (.cells zeroC 24)).setRow W1.heap.size #[.int .i64 jdx, .int .i64 jar, .string mame, .string mrig, .string mub, .string mrv, .string mli, .int .i64 mind, .int .i64 mum, .slice ea en ec]).alloc (.cells #[.int .i64 idx, .int .i64 par, .string name, .string orig, .string sub, .string drv, .string ali, .int .i64 kind, .int .i64 num, .slice da dn dc, .int .i64 jdx, .int .i64 jar, .string mame, .string mrig, .string mub, .string mrv, .string mli, .int .i64 mind, .int .i64 mum, .slice ea en ec] 24)).heap.size := by simp [World.setRow]
  clear hS0 hlast hsegs hsz10 HQ hsz1
  generalize ((W1.alloc (.cells zeroC 24)).setRow W1.heap.size #[.int .i64 jdx, .int .i64 jar, .string mame, .string mrig, .string mub, .string mrv, .string mli, .int .i64 mind, .int .i64 mum, .slice ea en ec]).alloc (.cells #[.int .i64 idx, .int .i64 par, .string name, .string orig, .string sub, .string drv, .string ali, .int .i64 kind, .int .i64 num, .slice da dn dc, .int .i64 jdx, .int .i64 jar, .string mame, .string mrig, .string mub, .string mrv, .string mli, .int .i64 mind, .int .i64 mum, .slice ea en ec] 24) = W2 at *
  generalize W1.heap.size + 1 = S at *
  go_loopw [7] (fun s7 wx => ∃ i : Nat, i ≤ 2 ∧ s7 = .int .i64 (i : Int) ∧ Below W2.heap.size W2 wx) (fun s7 _ => 2 - (intOf s7).toNat)
  case atStart => exact ⟨0, by omega, rfl, Below.refl _ _⟩
  case round =>
    obtain ⟨i, hi2, rfl, hbl⟩ := hrel
    have Hbl := Lib.hid hbl
    clear hbl
    match i, hi2 with
    | 0, _ =>
      have c0 : wr.cell? ⟨S, 0, none⟩ = some (.int .i64 idx) := (HS1.out.below hSl Hbl.out) 0 _ rfl
      have c1 : wr.cell? ⟨S, 1, none⟩ = some (.int .i64 par) := (HS1.out.below hSl Hbl.out) 1 _ rfl
      have c2 : wr.cell? ⟨S, 2, none⟩ = some (.string name) := (HS1.out.below hSl Hbl.out) 2 _ rfl
      have c3 : wr.cell? ⟨S, 3, none⟩ = some (.string orig) := (HS1.out.below hSl Hbl.out) 3 _ rfl
      have c4 : wr.cell? ⟨S, 4, none⟩ = some (.string sub) := (HS1.out.below hSl Hbl.out) 4 _ rfl
      have c5 : wr.cell? ⟨S, 5, none⟩ = some (.string drv) := (HS1.out.below hSl Hbl.out) 5 _ rfl
      have c6 : wr.cell? ⟨S, 6, none⟩ = some (.string ali) := (HS1.out.below hSl Hbl.out) 6 _ rfl
      have c7 : wr.cell? ⟨S, 7, none⟩ = some (.int .i64 kind) := (HS1.out.below hSl Hbl.out) 7 _ rfl
      have c8 : wr.cell? ⟨S, 8, none⟩ = some (.int .i64 num) := (HS1.out.below hSl Hbl.out) 8 _ rfl
      have c9 : wr.cell? ⟨S, 9, none⟩ = some (.slice da dn dc) := (HS1.out.below hSl Hbl.out) 9 _ rfl
      have HN := Lib.hid (fun W (h : Below W2.heap.size W2 W) => node_any (⟨idx, par, name, orig, sub, drv, ali, kind, num, .slice da dn dc⟩ : Dev) W (by have := HZ.out.og; omega) (HM.out.below (HB.out.trans (h.mono HB.out.size))))
      have HRN := Lib.hid (fun W (h : Below W2.heap.size W2 W) => refNode_any (⟨idx, par, name, orig, sub, drv, ali, kind, num, .slice da dn dc⟩ : Dev) W (by have := HZ.out.og; omega) (HM.out.below (HB.out.trans (h.mono HB.out.size))))
      have HCk := Lib.hid (fun W (h : Below W2.heap.size W2 W) => check_any (⟨idx, par, name, orig, sub, drv, ali, kind, num, .slice da dn dc⟩ : Dev) l W hlen (HH1.out.below h) HZ.out (HM.out.below (HB.out.trans (h.mono HB.out.size))))
      have HLk := Lib.hid (fun W => linkC (nodeOf (⟨idx, par, name, orig, sub, drv, ali, kind, num, .slice da dn dc⟩ : Dev).orig) W (by have := nodeOf_size (⟨idx, par, name, orig, sub, drv, ali, kind, num, .slice da dn dc⟩ : Dev).orig; have := HZ.out.og; omega))
      have hcl := @check_link (⟨idx, par, name, orig, sub, drv, ali, kind, num, .slice da dn dc⟩ : Dev) l
      unfold nodeR at HN HRN
      generalize checkE (⟨idx, par, name, orig, sub, drv, ali, kind, num, .slice da dn dc⟩ : Dev) l = E at *
      unfold devV devC at HN HRN HCk
      simp only at HN HRN HCk HLk hcl
      generalize hasN kind = nb at *
      generalize nodeOf _ = nd at *
      generalize lnkB nd = lb at *
      have Hcl := Lib.hid hcl
      obtain ⟨X, hX⟩ : ∃ X, (if nb = true then nd else (⟨#[]⟩ : ByteArray)) = X := ⟨_, rfl⟩
      rw [hX] at HN HRN
      have HX0 := Lib.hid hX
      clear hcl hX
      go_wp2_with fail
      refine (HN.out _ Hbl.out).mono ?_
      rintro e W3 ⟨rfl, hb⟩
      have HX := Lib.hid (Hbl.out.trans (hb.mono Hbl.out.size))
      clear hb c0 c1 c2 c3 c4 c5 c6 c7 c8 c9
      have d0 : W3.cell? ⟨S, 0, none⟩ = some (.int .i64 idx) := (HS1.out.below hSl HX.out) 0 _ rfl
      have d1 : W3.cell? ⟨S, 1, none⟩ = some (.int .i64 par) := (HS1.out.below hSl HX.out) 1 _ rfl
      have d2 : W3.cell? ⟨S, 2, none⟩ = some (.string name) := (HS1.out.below hSl HX.out) 2 _ rfl
      have d3 : W3.cell? ⟨S, 3, none⟩ = some (.string orig) := (HS1.out.below hSl HX.out) 3 _ rfl
      have d4 : W3.cell? ⟨S, 4, none⟩ = some (.string sub) := (HS1.out.below hSl HX.out) 4 _ rfl
      have d5 : W3.cell? ⟨S, 5, none⟩ = some (.string drv) := (HS1.out.below hSl HX.out) 5 _ rfl
      have d6 : W3.cell? ⟨S, 6, none⟩ = some (.string ali) := (HS1.out.below hSl HX.out) 6 _ rfl
      have d7 : W3.cell? ⟨S, 7, none⟩ = some (.int .i64 kind) := (HS1.out.below hSl HX.out) 7 _ rfl
      have d8 : W3.cell? ⟨S, 8, none⟩ = some (.int .i64 num) := (HS1.out.below hSl HX.out) 8 _ rfl
      have d9 : W3.cell? ⟨S, 9, none⟩ = some (.slice da dn dc) := (HS1.out.below hSl HX.out) 9 _ rfl
      go_wp2_with fail
      refine (HRN.out _ HX.out).mono ?_
      rintro e W4 ⟨rfl, hb⟩
      have HX := Lib.hid (HX.out.trans (hb.mono HX.out.size))
      clear hb d0 d1 d2 d3 d4 d5 d6 d7 d8 d9
      have c0 : W4.cell? ⟨S, 0, none⟩ = some (.int .i64 idx) := (HS1.out.below hSl HX.out) 0 _ rfl
      have c1 : W4.cell? ⟨S, 1, none⟩ = some (.int .i64 par) := (HS1.out.below hSl HX.out) 1 _ rfl
      have c2 : W4.cell? ⟨S, 2, none⟩ = some (.string name) := (HS1.out.below hSl HX.out) 2 _ rfl
      have c3 : W4.cell? ⟨S, 3, none⟩ = some (.string orig) := (HS1.out.below hSl HX.out) 3 _ rfl
      have c4 : W4.cell? ⟨S, 4, none⟩ = some (.string sub) := (HS1.out.below hSl HX.out) 4 _ rfl
      have c5 : W4.cell? ⟨S, 5, none⟩ = some (.string drv) := (HS1.out.below hSl HX.out) 5 _ rfl
      have c6 : W4.cell? ⟨S, 6, none⟩ = some (.string ali) := (HS1.out.below hSl HX.out) 6 _ rfl
      have c7 : W4.cell? ⟨S, 7, none⟩ = some (.int .i64 kind) := (HS1.out.below hSl HX.out) 7 _ rfl
      have c8 : W4.cell? ⟨S, 8, none⟩ = some (.int .i64 num) := (HS1.out.below hSl HX.out) 8 _ rfl
      have c9 : W4.cell? ⟨S, 9, none⟩ = some (.slice da dn dc) := (HS1.out.below hSl HX.out) 9 _ rfl
      cases nb with
      | false =>
        go_wp2
        exact ⟨⟨1, by omega, rfl, HX.out⟩, by simp [intOf]⟩
      | true =>
        have hXn : nd = X := HX0.out
        subst hXn
        go_wp2_with fail
        refine (HCk.out _ HX.out).mono ?_
        rintro e W5 ⟨rfl, hb⟩
        have HX := Lib.hid (HX.out.trans (hb.mono HX.out.size))
        clear hb c0 c1 c2 c3 c4 c5 c6 c7 c8 c9
        by_cases hE : E = 0
        · have hlb := Hcl.out hE (by trivial)
          subst hE hlb
          go_wp2_with fail
          refine (HLk.out _).mono ?_
          rintro e W6 ⟨rfl, hb⟩
          have HX := Lib.hid (HX.out.trans (hb.mono HX.out.size))
          clear hb
          go_wp2
          exact ⟨⟨1, by omega, rfl, HX.out⟩, by simp [intOf]⟩
        · have hE' : (E == 0) = false := beq_eq_false_iff_ne.2 hE
          go_wp2
          exact ⟨⟨1, by omega, rfl, HX.out⟩, by simp [intOf]⟩
    | 1, _ =>
      have c0 : wr.cell? ⟨S, 10, none⟩ = some (.int .i64 jdx) := (HS2.out.below hSl Hbl.out) 0 _ rfl
      have c1 : wr.cell? ⟨S, 11, none⟩ = some (.int .i64 jar) := (HS2.out.below hSl Hbl.out) 1 _ rfl
      have c2 : wr.cell? ⟨S, 12, none⟩ = some (.string mame) := (HS2.out.below hSl Hbl.out) 2 _ rfl
      have c3 : wr.cell? ⟨S, 13, none⟩ = some (.string mrig) := (HS2.out.below hSl Hbl.out) 3 _ rfl
      have c4 : wr.cell? ⟨S, 14, none⟩ = some (.string mub) := (HS2.out.below hSl Hbl.out) 4 _ rfl
      have c5 : wr.cell? ⟨S, 15, none⟩ = some (.string mrv) := (HS2.out.below hSl Hbl.out) 5 _ rfl
      have c6 : wr.cell? ⟨S, 16, none⟩ = some (.string mli) := (HS2.out.below hSl Hbl.out) 6 _ rfl
      have c7 : wr.cell? ⟨S, 17, none⟩ = some (.int .i64 mind) := (HS2.out.below hSl Hbl.out) 7 _ rfl
      have c8 : wr.cell? ⟨S, 18, none⟩ = some (.int .i64 mum) := (HS2.out.below hSl Hbl.out) 8 _ rfl
      have c9 : wr.cell? ⟨S, 19, none⟩ = some (.slice ea en ec) := (HS2.out.below hSl Hbl.out) 9 _ rfl
      have HN := Lib.hid (fun W (h : Below W2.heap.size W2 W) => node_any (⟨jdx, jar, mame, mrig, mub, mrv, mli, mind, mum, .slice ea en ec⟩ : Dev) W (by have := HZ2.out.og; omega) (HM.out.below (HB.out.trans (h.mono HB.out.size))))
      have HRN := Lib.hid (fun W (h : Below W2.heap.size W2 W) => refNode_any (⟨jdx, jar, mame, mrig, mub, mrv, mli, mind, mum, .slice ea en ec⟩ : Dev) W (by have := HZ2.out.og; omega) (HM.out.below (HB.out.trans (h.mono HB.out.size))))
      have HCk := Lib.hid (fun W (h : Below W2.heap.size W2 W) => check_any (⟨jdx, jar, mame, mrig, mub, mrv, mli, mind, mum, .slice ea en ec⟩ : Dev) l2 W (by omega) (HH2.out.below h) HZ2.out (HM.out.below (HB.out.trans (h.mono HB.out.size))))
      have HLk := Lib.hid (fun W => linkC (nodeOf (⟨jdx, jar, mame, mrig, mub, mrv, mli, mind, mum, .slice ea en ec⟩ : Dev).orig) W (by have := nodeOf_size (⟨jdx, jar, mame, mrig, mub, mrv, mli, mind, mum, .slice ea en ec⟩ : Dev).orig; have := HZ2.out.og; omega))
      have hcl := @check_link (⟨jdx, jar, mame, mrig, mub, mrv, mli, mind, mum, .slice ea en ec⟩ : Dev) l2
      unfold nodeR at HN HRN
      generalize checkE (⟨jdx, jar, mame, mrig, mub, mrv, mli, mind, mum, .slice ea en ec⟩ : Dev) l2 = E at *
      unfold devV devC at HN HRN HCk
      simp only at HN HRN HCk HLk hcl
      generalize hasN mind = nb at *
      generalize nodeOf _ = nd at *
      generalize lnkB nd = lb at *
      have Hcl := Lib.hid hcl
      obtain ⟨X, hX⟩ : ∃ X, (if nb = true then nd else (⟨#[]⟩ : ByteArray)) = X := ⟨_, rfl⟩
      rw [hX] at HN HRN
      have HX0 := Lib.hid hX
      clear hcl hX
      go_wp2_with fail
      refine (HN.out _ Hbl.out).mono ?_
      rintro e W3 ⟨rfl, hb⟩
      have HX := Lib.hid (Hbl.out.trans (hb.mono Hbl.out.size))
      clear hb c0 c1 c2 c3 c4 c5 c6 c7 c8 c9
      have d0 : W3.cell? ⟨S, 10, none⟩ = some (.int .i64 jdx) := (HS2.out.below hSl HX.out) 0 _ rfl
      have d1 : W3.cell? ⟨S, 11, none⟩ = some (.int .i64 jar) := (HS2.out.below hSl HX.out) 1 _ rfl
      have d2 : W3.cell? ⟨S, 12, none⟩ = some (.string mame) := (HS2.out.below hSl HX.out) 2 _ rfl
      have d3 : W3.cell? ⟨S, 13, none⟩ = some (.string mrig) := (HS2.out.below hSl HX.out) 3 _ rfl
      have d4 : W3.cell? ⟨S, 14, none⟩ = some (.string mub) := (HS2.out.below hSl HX.out) 4 _ rfl
      have d5 : W3.cell? ⟨S, 15, none⟩ = some (.string mrv) := (HS2.out.below hSl HX.out) 5 _ rfl
      have d6 : W3.cell? ⟨S, 16, none⟩ = some (.string mli) := (HS2.out.below hSl HX.out) 6 _ rfl
      have d7 : W3.cell? ⟨S, 17, none⟩ = some (.int .i64 mind) := (HS2.out.below hSl HX.out) 7 _ rfl
      have d8 : W3.cell? ⟨S, 18, none⟩ = some (.int .i64 mum) := (HS2.out.below hSl HX.out) 8 _ rfl
      have d9 : W3.cell? ⟨S, 19, none⟩ = some (.slice ea en ec) := (HS2.out.below hSl HX.out) 9 _ rfl
      go_wp2_with fail
      refine (HRN.out _ HX.out).mono ?_
      rintro e W4 ⟨rfl, hb⟩
      have HX := Lib.hid (HX.out.trans (hb.mono HX.out.size))
      clear hb d0 d1 d2 d3 d4 d5 d6 d7 d8 d9
      have c0 : W4.cell? ⟨S, 10, none⟩ = some (.int .i64 jdx) := (HS2.out.below hSl HX.out) 0 _ rfl
      have c1 : W4.cell? ⟨S, 11, none⟩ = some (.int .i64 jar) := (HS2.out.below hSl HX.out) 1 _ rfl
      have c2 : W4.cell? ⟨S, 12, none⟩ = some (.string mame) := (HS2.out.below hSl HX.out) 2 _ rfl
      have c3 : W4.cell? ⟨S, 13, none⟩ = some (.string mrig) := (HS2.out.below hSl HX.out) 3 _ rfl
      have c4 : W4.cell? ⟨S, 14, none⟩ = some (.string mub) := (HS2.out.below hSl HX.out) 4 _ rfl
      have c5 : W4.cell? ⟨S, 15, none⟩ = some (.string mrv) := (HS2.out.below hSl HX.out) 5 _ rfl
      have c6 : W4.cell? ⟨S, 16, none⟩ = some (.string mli) := (HS2.out.below hSl HX.out) 6 _ rfl
      have c7 : W4.cell? ⟨S, 17, none⟩ = some (.int .i64 mind) := (HS2.out.below hSl HX.out) 7 _ rfl
      have c8 : W4.cell? ⟨S, 18, none⟩ = some (.int .i64 mum) := (HS2.out.below hSl HX.out) 8 _ rfl
      have c9 : W4.cell? ⟨S, 19, none⟩ = some (.slice ea en ec) := (HS2.out.below hSl HX.out) 9 _ rfl
      cases nb with
      | false =>
        go_wp2
        exact ⟨⟨2, by omega, rfl, HX.out⟩, by simp [intOf]⟩
      | true =>
        have hXn : nd = X := HX0.out
        subst hXn
        go_wp2_with fail
        refine (HCk.out _ HX.out).mono ?_
        rintro e W5 ⟨rfl, hb⟩
        have HX := Lib.hid (HX.out.trans (hb.mono HX.out.size))
        clear hb c0 c1 c2 c3 c4 c5 c6 c7 c8 c9
        by_cases hE : E = 0
        · have hlb := Hcl.out hE (by trivial)
          subst hE hlb
          go_wp2_with fail
          refine (HLk.out _).mono ?_
          rintro e W6 ⟨rfl, hb⟩
          have HX := Lib.hid (HX.out.trans (hb.mono HX.out.size))
          clear hb
          go_wp2
          exact ⟨⟨2, by omega, rfl, HX.out⟩, by simp [intOf]⟩
        · have hE' : (E == 0) = false := beq_eq_false_iff_ne.2 hE
          go_wp2
          exact ⟨⟨2, by omega, rfl, HX.out⟩, by simp [intOf]⟩
    | 2, _ =>
      have HK := Lib.hid (known_any wr (HM.out.below (HB.out.trans (Hbl.out.mono HB.out.size))))
      go_wp2_with fail
      refine HK.out.mono ?_
      rintro e W3 ⟨rfl, hb⟩
      have HX := Lib.hid ((HB.out.trans (Hbl.out.mono HB.out.size)).trans (hb.mono (HB.out.trans (Hbl.out.mono HB.out.size)).size))
      clear hb
      go_wp2
      go_ret
      exact ⟨rfl, HX.out⟩
end Go.Proofs.YthdnbcgomepgaaaDoor
