/- DeviceChecks: the walk. -/
import Derived.Test.YthdnbcgomepgaaaDoorRm
import Derived.Test.YthdnbcgomepgaaaDoorLNodes
import Derived.Test.YthdnbcgomepgaaaDoorSp
namespace Go.Proofs.YthdnbcgomepgaaaDoor
open Go.RowKit

theorem keep2 {W2 W W' : World} {A D : Nat} {idx par kind num jdx jar mind mum : Int} {name orig sub drv ali mame mrig mub mrv mli : ByteArray} {da ea : Option Addr} {dn dc en ec : Nat} (hb : Below W.heap.size W W') (hA : A < W2.heap.size) (hD : D < W2.heap.size) (h : W.cell? ⟨A, 0, none⟩ = some (.int .i64 idx) ∧ W.cell? ⟨A, 1, none⟩ = some (.int .i64 par) ∧ W.cell? ⟨A, 2, none⟩ = some (.string name) ∧ W.cell? ⟨A, 3, none⟩ = some (.string orig) ∧ W.cell? ⟨A, 4, none⟩ = some (.string sub) ∧ W.cell? ⟨A, 5, none⟩ = some (.string drv) ∧ W.cell? ⟨A, 6, none⟩ = some (.string ali) ∧ W.cell? ⟨A, 7, none⟩ = some (.int .i64 kind) ∧ W.cell? ⟨A, 8, none⟩ = some (.int .i64 num) ∧ W.cell? ⟨A, 9, none⟩ = some (.slice da dn dc) ∧ W.cell? ⟨D, 0, none⟩ = some (.int .i64 jdx) ∧ W.cell? ⟨D, 1, none⟩ = some (.int .i64 jar) ∧ W.cell? ⟨D, 2, none⟩ = some (.string mame) ∧ W.cell? ⟨D, 3, none⟩ = some (.string mrig) ∧ W.cell? ⟨D, 4, none⟩ = some (.string mub) ∧ W.cell? ⟨D, 5, none⟩ = some (.string mrv) ∧ W.cell? ⟨D, 6, none⟩ = some (.string mli) ∧ W.cell? ⟨D, 7, none⟩ = some (.int .i64 mind) ∧ W.cell? ⟨D, 8, none⟩ = some (.int .i64 mum) ∧ W.cell? ⟨D, 9, none⟩ = some (.slice ea en ec) ∧ Below W2.heap.size W2 W) : W'.cell? ⟨A, 0, none⟩ = some (.int .i64 idx) ∧ W'.cell? ⟨A, 1, none⟩ = some (.int .i64 par) ∧ W'.cell? ⟨A, 2, none⟩ = some (.string name) ∧ W'.cell? ⟨A, 3, none⟩ = some (.string orig) ∧ W'.cell? ⟨A, 4, none⟩ = some (.string sub) ∧ W'.cell? ⟨A, 5, none⟩ = some (.string drv) ∧ W'.cell? ⟨A, 6, none⟩ = some (.string ali) ∧ W'.cell? ⟨A, 7, none⟩ = some (.int .i64 kind) ∧ W'.cell? ⟨A, 8, none⟩ = some (.int .i64 num) ∧ W'.cell? ⟨A, 9, none⟩ = some (.slice da dn dc) ∧ W'.cell? ⟨D, 0, none⟩ = some (.int .i64 jdx) ∧ W'.cell? ⟨D, 1, none⟩ = some (.int .i64 jar) ∧ W'.cell? ⟨D, 2, none⟩ = some (.string mame) ∧ W'.cell? ⟨D, 3, none⟩ = some (.string mrig) ∧ W'.cell? ⟨D, 4, none⟩ = some (.string mub) ∧ W'.cell? ⟨D, 5, none⟩ = some (.string mrv) ∧ W'.cell? ⟨D, 6, none⟩ = some (.string mli) ∧ W'.cell? ⟨D, 7, none⟩ = some (.int .i64 mind) ∧ W'.cell? ⟨D, 8, none⟩ = some (.int .i64 mum) ∧ W'.cell? ⟨D, 9, none⟩ = some (.slice ea en ec) ∧ Below W2.heap.size W2 W' := by
  obtain ⟨a0, a1, a2, a3, a4, a5, a6, a7, a8, a9, e0, e1, e2, e3, e4, e5, e6, e7, e8, e9, hB⟩ := h
  have hA' : A < W.heap.size := Nat.lt_of_lt_of_le hA hB.size
  have hD' : D < W.heap.size := Nat.lt_of_lt_of_le hD hB.size
  have ka : ∀ i, W'.cell? ⟨A, i, none⟩ = W.cell? ⟨A, i, none⟩ := fun i => hb.cell (p := ⟨A, i, none⟩) hA'
  have kd : ∀ i, W'.cell? ⟨D, i, none⟩ = W.cell? ⟨D, i, none⟩ := fun i => hb.cell (p := ⟨D, i, none⟩) hD'
  simp only [ka, kd]
  exact ⟨a0, a1, a2, a3, a4, a5, a6, a7, a8, a9, e0, e1, e2, e3, e4, e5, e6, e7, e8, e9, hB.trans (hb.mono hB.size)⟩

theorem last2 {W2 W : World} {A D : Nat} {idx par kind num jdx jar mind mum : Int} {name orig sub drv ali mame mrig mub mrv mli : ByteArray} {da ea : Option Addr} {dn dc en ec : Nat} (h : W.cell? ⟨A, 0, none⟩ = some (.int .i64 idx) ∧ W.cell? ⟨A, 1, none⟩ = some (.int .i64 par) ∧ W.cell? ⟨A, 2, none⟩ = some (.string name) ∧ W.cell? ⟨A, 3, none⟩ = some (.string orig) ∧ W.cell? ⟨A, 4, none⟩ = some (.string sub) ∧ W.cell? ⟨A, 5, none⟩ = some (.string drv) ∧ W.cell? ⟨A, 6, none⟩ = some (.string ali) ∧ W.cell? ⟨A, 7, none⟩ = some (.int .i64 kind) ∧ W.cell? ⟨A, 8, none⟩ = some (.int .i64 num) ∧ W.cell? ⟨A, 9, none⟩ = some (.slice da dn dc) ∧ W.cell? ⟨D, 0, none⟩ = some (.int .i64 jdx) ∧ W.cell? ⟨D, 1, none⟩ = some (.int .i64 jar) ∧ W.cell? ⟨D, 2, none⟩ = some (.string mame) ∧ W.cell? ⟨D, 3, none⟩ = some (.string mrig) ∧ W.cell? ⟨D, 4, none⟩ = some (.string mub) ∧ W.cell? ⟨D, 5, none⟩ = some (.string mrv) ∧ W.cell? ⟨D, 6, none⟩ = some (.string mli) ∧ W.cell? ⟨D, 7, none⟩ = some (.int .i64 mind) ∧ W.cell? ⟨D, 8, none⟩ = some (.int .i64 mum) ∧ W.cell? ⟨D, 9, none⟩ = some (.slice ea en ec) ∧ Below W2.heap.size W2 W) : Below W2.heap.size W2 W := h.2.2.2.2.2.2.2.2.2.2.2.2.2.2.2.2.2.2.2.2

set_option maxHeartbeats 4000000 in
set_option maxRecDepth 100000 in
theorem deviceChecks_walk (d : Dev) (la : Option Addr) (ln lc : Nat) (w : World) (hm : Max w) {l : List Atr} (g : Has w d.av l ∧ l.length ≤ 9223372036854775807 ∧ Sized d l) (h : Ints w w.heap.size (.slice la ln lc)) :
    Calls Tryd.prog 3 #[devV d, .slice la ln lc] w (Bel (.bool true) w) := by
  have hv := (zero_of_info (P := Tryd.prog) info24).1
  have hi := (zero_of_info (P := Tryd.prog) info24).2
  obtain ⟨hH, hlen, hZ⟩ := g
  obtain ⟨idx, par, name, orig, sub, drv, ali, kind, num, av⟩ := d
  obtain ⟨ad, cc, hav, hrow⟩ := hH.form
  simp only at hav
  subst hav
  unfold devV devC
  simp only
  have HM := Lib.hid hm
  have HZ := Lib.hid hZ
  have z1 : (name.size : Int) ≤ 4000000000 := by have := hZ.nm; simp only at this; omega
  have z2 : (orig.size : Int) ≤ 4000000000 := by have := hZ.og; simp only at this; omega
  have z3 : (ali.size : Int) ≤ 4000000000 := by have := hZ.al; simp only at this; omega
  have z4 : (0 : Int) ≤ (name.size : Int) := by omega
  have z5 : (0 : Int) ≤ (orig.size : Int) := by omega
  have z6 : (0 : Int) ≤ (ali.size : Int) := by omega
  have hb1 := box_below w (.cells #[.int .i64 idx, .int .i64 par, .string name, .string orig, .string sub, .string drv, .string ali, .int .i64 kind, .int .i64 num, .slice ad l.length cc] 24)
  have HK := Lib.hid (known_any (w.alloc (.cells #[.int .i64 idx, .int .i64 par, .string name, .string orig, .string sub, .string drv, .string ali, .int .i64 kind, .int .i64 num, .slice ad l.length cc] 24)) (hm.below hb1))
  have Hb1 := Lib.hid hb1
  have hfin : ∀ e W, Bel (.bool true) (w.alloc (.cells #[.int .i64 idx, .int .i64 par, .string name, .string orig, .string sub, .string drv, .string ali, .int .i64 kind, .int .i64 num, .slice ad l.length cc] 24)) e W → e = .returned (.bool true) ∧ Below w.heap.size w W := fun e W h => ⟨h.1, Hb1.out.trans (h.2.mono Hb1.out.size)⟩
  have Hfin := Lib.hid hfin
  clear hfin hZ hm
  by_cases q1 : (2000 : Int) < (name.size : Int) + (orig.size : Int) + (ali.size : Int)
  · clear h hH hrow hlen
    go_enter Tryd.func3, Tryd.ntmps3
    go_wp2_with fail
    refine HK.out.mono ?_
    rintro e W hk
    obtain ⟨rfl, hb⟩ := Hfin.out _ _ hk
    go_wp2
    go_ret
    exact ⟨rfl, hb⟩
  by_cases q2 : (60 : Int) < (l.length : Int)
  · clear h hH hrow hlen
    go_enter Tryd.func3, Tryd.ntmps3
    go_wp2_with fail
    refine HK.out.mono ?_
    rintro e W hk
    obtain ⟨rfl, hb⟩ := Hfin.out _ _ hk
    go_wp2
    go_ret
    exact ⟨rfl, hb⟩
  have q1n : ((name.size : Int) + (orig.size : Int) + (ali.size : Int)) ≤ 2000 := by omega
  have hT := tape_new (w.alloc (.cells #[.int .i64 idx, .int .i64 par, .string name, .string orig, .string sub, .string drv, .string ali, .int .i64 kind, .int .i64 num, .slice ad l.length cc] 24)) _ (ints_go h hb1)
  have HSp := Lib.hid (spoilt_any (w.alloc (.cells #[.int .i64 idx, .int .i64 par, .string name, .string orig, .string sub, .string drv, .string ali, .int .i64 kind, .int .i64 num, .slice ad l.length cc] 24)).heap.size 0 _ (by omega) hT)
  have hsz1 : (w.alloc (.cells #[.int .i64 idx, .int .i64 par, .string name, .string orig, .string sub, .string drv, .string ali, .int .i64 kind, .int .i64 num, .slice ad l.length cc] 24)).heap.size = w.heap.size + 1 := by simp
  rw [hsz1] at HSp
  have hR : BoxAt ((w.alloc (.cells #[.int .i64 idx, .int .i64 par, .string name, .string orig, .string sub, .string drv, .string ali, .int .i64 kind, .int .i64 num, .slice ad l.length cc] 24)).alloc (.cells #[.slice la ln lc, .int .i64 0] 30)) w.heap.size #[.int .i64 idx, .int .i64 par, .string name, .string orig, .string sub, .string drv, .string ali, .int .i64 kind, .int .i64 num, .slice ad l.length cc] := (Below.heap_alloc _ _ _ (by simp)).trans (heap_last w _)
  have hb2 : Below w.heap.size w ((w.alloc (.cells #[.int .i64 idx, .int .i64 par, .string name, .string orig, .string sub, .string drv, .string ali, .int .i64 kind, .int .i64 num, .slice ad l.length cc] 24)).alloc (.cells #[.slice la ln lc, .int .i64 0] 30)) := hb1.alloc (by simp) _
  have HP := Lib.hid (And.intro hH (And.intro hR hb2))
  have HL := Lib.hid hlen
  clear hH hR hb1 hb2 hT h hrow Hfin HK Hb1 hlen q1n
  go_enter Tryd.func3, Tryd.ntmps3
  go_wp2_with fail
  refine HSp.out.mono ?_
  rintro e W1 ⟨d2, l2, rfl, hown0, hlen2, hs2, hg⟩
  have hown := hown0.has
  clear hown0
  obtain ⟨ea, en, ec, hav2⟩ := has_slice hown
  obtain ⟨jdx, jar, mame, mrig, mub, mrv, mli, mind, mum, av2⟩ := d2
  simp only at hav2
  subst hav2
  unfold devV devC
  simp only
  have hb3 : Below w.heap.size w W1 := HP.out.2.2.grown hg HP.out.2.2.size fun k hk => by cases hk; simp
  have hR1 : BoxAt W1 w.heap.size #[.int .i64 idx, .int .i64 par, .string name, .string orig, .string sub, .string drv, .string ali, .int .i64 kind, .int .i64 num, .slice ad l.length cc] := (hg.block _ (block_lt HP.out.2.1) (fun e => by have := Option.some.inj e; omega)).trans HP.out.2.1
  have hn := heap_last W1 (.cells zeroC 24)
  have hstored : BoxAt ((W1.alloc (.cells zeroC 24)).setRow W1.heap.size #[.int .i64 jdx, .int .i64 jar, .string mame, .string mrig, .string mub, .string mrv, .string mli, .int .i64 mind, .int .i64 mum, .slice ea en ec]) W1.heap.size #[.int .i64 jdx, .int .i64 jar, .string mame, .string mrig, .string mub, .string mrv, .string mli, .int .i64 mind, .int .i64 mum, .slice ea en ec] := setRow_heap _ W1.heap.size zeroC _ 24 (0, 0) hn
  have hold : ∀ b, b < W1.heap.size → ((W1.alloc (.cells zeroC 24)).setRow W1.heap.size #[.int .i64 jdx, .int .i64 jar, .string mame, .string mrig, .string mub, .string mrv, .string mli, .int .i64 mind, .int .i64 mum, .slice ea en ec]).heap[b]? = W1.heap[b]? := fun b hb => by
    have h1 : ((W1.alloc (.cells zeroC 24)).setRow W1.heap.size #[.int .i64 jdx, .int .i64 jar, .string mame, .string mrig, .string mub, .string mrv, .string mli, .int .i64 mind, .int .i64 mum, .slice ea en ec]).heap[b]? = (W1.alloc (.cells zeroC 24)).heap[b]? := by simp [World.setRow, Array.getElem?_modify, Nat.ne_of_gt hb]
    exact h1.trans (Below.heap_alloc W1 _ b hb)
  have hb4 : Below W1.heap.size W1 ((W1.alloc (.cells zeroC 24)).setRow W1.heap.size #[.int .i64 jdx, .int .i64 jar, .string mame, .string mrig, .string mub, .string mrv, .string mli, .int .i64 mind, .int .i64 mum, .slice ea en ec]) := below_setRow ((Below.refl _ W1).alloc (Nat.le_refl _) _) (Nat.le_refl _) _
  have hR2 : BoxAt ((W1.alloc (.cells zeroC 24)).setRow W1.heap.size #[.int .i64 jdx, .int .i64 jar, .string mame, .string mrig, .string mub, .string mrv, .string mli, .int .i64 mind, .int .i64 mum, .slice ea en ec]) w.heap.size #[.int .i64 idx, .int .i64 par, .string name, .string orig, .string sub, .string drv, .string ali, .int .i64 kind, .int .i64 num, .slice ad l.length cc] := (hold _ (block_lt hR1)).trans hR1
  have hBel : Below w.heap.size w ((W1.alloc (.cells zeroC 24)).setRow W1.heap.size #[.int .i64 jdx, .int .i64 jar, .string mame, .string mrig, .string mub, .string mrv, .string mli, .int .i64 mind, .int .i64 mum, .slice ea en ec]) := hb3.trans (hb4.mono hb3.size)
  have hH1 : Has ((W1.alloc (.cells zeroC 24)).setRow W1.heap.size #[.int .i64 jdx, .int .i64 jar, .string mame, .string mrig, .string mub, .string mrv, .string mli, .int .i64 mind, .int .i64 mum, .slice ea en ec]) (.slice ad l.length cc) l := HP.out.1.below hBel
  have hH2 : Has ((W1.alloc (.cells zeroC 24)).setRow W1.heap.size #[.int .i64 jdx, .int .i64 jar, .string mame, .string mrig, .string mub, .string mrv, .string mli, .int .i64 mind, .int .i64 mum, .slice ea en ec]) (.slice ea en ec) l2 := hown.below hb4
  have Hn := Lib.hid hn
  have HQ := Lib.hid (And.intro hstored (And.intro hR2 (And.intro hBel (And.intro hH1 hH2))))
  have HZ2 := Lib.hid hs2
  have HL2 := Lib.hid hlen2
  clear hown hg hs2 hb3 hR1 hn hstored hold hb4 hR2 HSp HP hBel hH1 hH2 hlen2
  go_wp2_with (refine wpList_store_row rfl 24 _ _ rfl W1.heap.size #[.int .i64 jdx, .int .i64 jar, .string mame, .string mrig, .string mub, .string mrv, .string mli, .int .i64 mind, .int .i64 mum, .slice ea en ec] rfl rfl 24 _ Hn.out hi rfl (by simp [Value.oneCell']) ?_)
  obtain ⟨hD, hA, hBel, hH1, hH2⟩ := HQ.out
  clear Hn HQ hsz1
  generalize ((W1.alloc (.cells zeroC 24)).setRow W1.heap.size #[.int .i64 jdx, .int .i64 jar, .string mame, .string mrig, .string mub, .string mrv, .string mli, .int .i64 mind, .int .i64 mum, .slice ea en ec]) = W2 at *
  generalize W1.heap.size = D at *
  have HBel := Lib.hid hBel
  obtain ⟨A, hAe⟩ : ∃ A, w.heap.size = A := ⟨_, rfl⟩
  rw [hAe] at hA ⊢
  have hAl := block_lt hA
  have hDl := block_lt hD
  have hst : W2.drew.cell? ⟨A, 0, none⟩ = some (.int .i64 idx) ∧ W2.drew.cell? ⟨A, 1, none⟩ = some (.int .i64 par) ∧ W2.drew.cell? ⟨A, 2, none⟩ = some (.string name) ∧ W2.drew.cell? ⟨A, 3, none⟩ = some (.string orig) ∧ W2.drew.cell? ⟨A, 4, none⟩ = some (.string sub) ∧ W2.drew.cell? ⟨A, 5, none⟩ = some (.string drv) ∧ W2.drew.cell? ⟨A, 6, none⟩ = some (.string ali) ∧ W2.drew.cell? ⟨A, 7, none⟩ = some (.int .i64 kind) ∧ W2.drew.cell? ⟨A, 8, none⟩ = some (.int .i64 num) ∧ W2.drew.cell? ⟨A, 9, none⟩ = some (.slice ad l.length cc) ∧ W2.drew.cell? ⟨D, 0, none⟩ = some (.int .i64 jdx) ∧ W2.drew.cell? ⟨D, 1, none⟩ = some (.int .i64 jar) ∧ W2.drew.cell? ⟨D, 2, none⟩ = some (.string mame) ∧ W2.drew.cell? ⟨D, 3, none⟩ = some (.string mrig) ∧ W2.drew.cell? ⟨D, 4, none⟩ = some (.string mub) ∧ W2.drew.cell? ⟨D, 5, none⟩ = some (.string mrv) ∧ W2.drew.cell? ⟨D, 6, none⟩ = some (.string mli) ∧ W2.drew.cell? ⟨D, 7, none⟩ = some (.int .i64 mind) ∧ W2.drew.cell? ⟨D, 8, none⟩ = some (.int .i64 mum) ∧ W2.drew.cell? ⟨D, 9, none⟩ = some (.slice ea en ec) ∧ Below W2.heap.size W2 W2.drew := by
    have ka : ∀ i, W2.drew.cell? ⟨A, i, none⟩ = (#[.int .i64 idx, .int .i64 par, .string name, .string orig, .string sub, .string drv, .string ali, .int .i64 kind, .int .i64 num, .slice ad l.length cc] : Array Value)[i]? := fun i => cell_of_row W2.drew A i _ _ _ hA
    have kd : ∀ i, W2.drew.cell? ⟨D, i, none⟩ = (#[.int .i64 jdx, .int .i64 jar, .string mame, .string mrig, .string mub, .string mrv, .string mli, .int .i64 mind, .int .i64 mum, .slice ea en ec] : Array Value)[i]? := fun i => cell_of_row W2.drew D i _ _ _ hD
    simp only [ka, kd]
    exact ⟨rfl, rfl, rfl, rfl, rfl, rfl, rfl, rfl, rfl, rfl, rfl, rfl, rfl, rfl, rfl, rfl, rfl, rfl, rfl, rfl, (Below.refl _ _).drew⟩
  have hmx : ∀ W, Below W2.heap.size W2 W → Max W := fun W hb => HM.out.below (hBel.trans (hb.mono hBel.size))
  have HC1 := Lib.hid (fun W (h : W.cell? ⟨A, 0, none⟩ = some (.int .i64 idx) ∧ W.cell? ⟨A, 1, none⟩ = some (.int .i64 par) ∧ W.cell? ⟨A, 2, none⟩ = some (.string name) ∧ W.cell? ⟨A, 3, none⟩ = some (.string orig) ∧ W.cell? ⟨A, 4, none⟩ = some (.string sub) ∧ W.cell? ⟨A, 5, none⟩ = some (.string drv) ∧ W.cell? ⟨A, 6, none⟩ = some (.string ali) ∧ W.cell? ⟨A, 7, none⟩ = some (.int .i64 kind) ∧ W.cell? ⟨A, 8, none⟩ = some (.int .i64 num) ∧ W.cell? ⟨A, 9, none⟩ = some (.slice ad l.length cc) ∧ W.cell? ⟨D, 0, none⟩ = some (.int .i64 jdx) ∧ W.cell? ⟨D, 1, none⟩ = some (.int .i64 jar) ∧ W.cell? ⟨D, 2, none⟩ = some (.string mame) ∧ W.cell? ⟨D, 3, none⟩ = some (.string mrig) ∧ W.cell? ⟨D, 4, none⟩ = some (.string mub) ∧ W.cell? ⟨D, 5, none⟩ = some (.string mrv) ∧ W.cell? ⟨D, 6, none⟩ = some (.string mli) ∧ W.cell? ⟨D, 7, none⟩ = some (.int .i64 mind) ∧ W.cell? ⟨D, 8, none⟩ = some (.int .i64 mum) ∧ W.cell? ⟨D, 9, none⟩ = some (.slice ea en ec) ∧ Below W2.heap.size W2 W) => check_any (⟨idx, par, name, orig, sub, drv, ali, kind, num, .slice ad l.length cc⟩ : Dev) l W HL.out (hH1.below h.2.2.2.2.2.2.2.2.2.2.2.2.2.2.2.2.2.2.2.2) HZ.out (hmx W h.2.2.2.2.2.2.2.2.2.2.2.2.2.2.2.2.2.2.2.2))
  have HR1 := Lib.hid (fun W (h : W.cell? ⟨A, 0, none⟩ = some (.int .i64 idx) ∧ W.cell? ⟨A, 1, none⟩ = some (.int .i64 par) ∧ W.cell? ⟨A, 2, none⟩ = some (.string name) ∧ W.cell? ⟨A, 3, none⟩ = some (.string orig) ∧ W.cell? ⟨A, 4, none⟩ = some (.string sub) ∧ W.cell? ⟨A, 5, none⟩ = some (.string drv) ∧ W.cell? ⟨A, 6, none⟩ = some (.string ali) ∧ W.cell? ⟨A, 7, none⟩ = some (.int .i64 kind) ∧ W.cell? ⟨A, 8, none⟩ = some (.int .i64 num) ∧ W.cell? ⟨A, 9, none⟩ = some (.slice ad l.length cc) ∧ W.cell? ⟨D, 0, none⟩ = some (.int .i64 jdx) ∧ W.cell? ⟨D, 1, none⟩ = some (.int .i64 jar) ∧ W.cell? ⟨D, 2, none⟩ = some (.string mame) ∧ W.cell? ⟨D, 3, none⟩ = some (.string mrig) ∧ W.cell? ⟨D, 4, none⟩ = some (.string mub) ∧ W.cell? ⟨D, 5, none⟩ = some (.string mrv) ∧ W.cell? ⟨D, 6, none⟩ = some (.string mli) ∧ W.cell? ⟨D, 7, none⟩ = some (.int .i64 mind) ∧ W.cell? ⟨D, 8, none⟩ = some (.int .i64 mum) ∧ W.cell? ⟨D, 9, none⟩ = some (.slice ea en ec) ∧ Below W2.heap.size W2 W) => refCheck_any (⟨idx, par, name, orig, sub, drv, ali, kind, num, .slice ad l.length cc⟩ : Dev) l W HL.out (hH1.below h.2.2.2.2.2.2.2.2.2.2.2.2.2.2.2.2.2.2.2.2) HZ.out (hmx W h.2.2.2.2.2.2.2.2.2.2.2.2.2.2.2.2.2.2.2.2))
  have HC2 := Lib.hid (fun W (h : W.cell? ⟨A, 0, none⟩ = some (.int .i64 idx) ∧ W.cell? ⟨A, 1, none⟩ = some (.int .i64 par) ∧ W.cell? ⟨A, 2, none⟩ = some (.string name) ∧ W.cell? ⟨A, 3, none⟩ = some (.string orig) ∧ W.cell? ⟨A, 4, none⟩ = some (.string sub) ∧ W.cell? ⟨A, 5, none⟩ = some (.string drv) ∧ W.cell? ⟨A, 6, none⟩ = some (.string ali) ∧ W.cell? ⟨A, 7, none⟩ = some (.int .i64 kind) ∧ W.cell? ⟨A, 8, none⟩ = some (.int .i64 num) ∧ W.cell? ⟨A, 9, none⟩ = some (.slice ad l.length cc) ∧ W.cell? ⟨D, 0, none⟩ = some (.int .i64 jdx) ∧ W.cell? ⟨D, 1, none⟩ = some (.int .i64 jar) ∧ W.cell? ⟨D, 2, none⟩ = some (.string mame) ∧ W.cell? ⟨D, 3, none⟩ = some (.string mrig) ∧ W.cell? ⟨D, 4, none⟩ = some (.string mub) ∧ W.cell? ⟨D, 5, none⟩ = some (.string mrv) ∧ W.cell? ⟨D, 6, none⟩ = some (.string mli) ∧ W.cell? ⟨D, 7, none⟩ = some (.int .i64 mind) ∧ W.cell? ⟨D, 8, none⟩ = some (.int .i64 mum) ∧ W.cell? ⟨D, 9, none⟩ = some (.slice ea en ec) ∧ Below W2.heap.size W2 W) => check_any (⟨jdx, jar, mame, mrig, mub, mrv, mli, mind, mum, .slice ea en ec⟩ : Dev) l2 W (by have := HL2.out; omega) (hH2.below h.2.2.2.2.2.2.2.2.2.2.2.2.2.2.2.2.2.2.2.2) HZ2.out (hmx W h.2.2.2.2.2.2.2.2.2.2.2.2.2.2.2.2.2.2.2.2))
  have HR2 := Lib.hid (fun W (h : W.cell? ⟨A, 0, none⟩ = some (.int .i64 idx) ∧ W.cell? ⟨A, 1, none⟩ = some (.int .i64 par) ∧ W.cell? ⟨A, 2, none⟩ = some (.string name) ∧ W.cell? ⟨A, 3, none⟩ = some (.string orig) ∧ W.cell? ⟨A, 4, none⟩ = some (.string sub) ∧ W.cell? ⟨A, 5, none⟩ = some (.string drv) ∧ W.cell? ⟨A, 6, none⟩ = some (.string ali) ∧ W.cell? ⟨A, 7, none⟩ = some (.int .i64 kind) ∧ W.cell? ⟨A, 8, none⟩ = some (.int .i64 num) ∧ W.cell? ⟨A, 9, none⟩ = some (.slice ad l.length cc) ∧ W.cell? ⟨D, 0, none⟩ = some (.int .i64 jdx) ∧ W.cell? ⟨D, 1, none⟩ = some (.int .i64 jar) ∧ W.cell? ⟨D, 2, none⟩ = some (.string mame) ∧ W.cell? ⟨D, 3, none⟩ = some (.string mrig) ∧ W.cell? ⟨D, 4, none⟩ = some (.string mub) ∧ W.cell? ⟨D, 5, none⟩ = some (.string mrv) ∧ W.cell? ⟨D, 6, none⟩ = some (.string mli) ∧ W.cell? ⟨D, 7, none⟩ = some (.int .i64 mind) ∧ W.cell? ⟨D, 8, none⟩ = some (.int .i64 mum) ∧ W.cell? ⟨D, 9, none⟩ = some (.slice ea en ec) ∧ Below W2.heap.size W2 W) => refCheck_any (⟨jdx, jar, mame, mrig, mub, mrv, mli, mind, mum, .slice ea en ec⟩ : Dev) l2 W (by have := HL2.out; omega) (hH2.below h.2.2.2.2.2.2.2.2.2.2.2.2.2.2.2.2.2.2.2.2) HZ2.out (hmx W h.2.2.2.2.2.2.2.2.2.2.2.2.2.2.2.2.2.2.2.2))
  have HKn := Lib.hid (fun W (h : W.cell? ⟨A, 0, none⟩ = some (.int .i64 idx) ∧ W.cell? ⟨A, 1, none⟩ = some (.int .i64 par) ∧ W.cell? ⟨A, 2, none⟩ = some (.string name) ∧ W.cell? ⟨A, 3, none⟩ = some (.string orig) ∧ W.cell? ⟨A, 4, none⟩ = some (.string sub) ∧ W.cell? ⟨A, 5, none⟩ = some (.string drv) ∧ W.cell? ⟨A, 6, none⟩ = some (.string ali) ∧ W.cell? ⟨A, 7, none⟩ = some (.int .i64 kind) ∧ W.cell? ⟨A, 8, none⟩ = some (.int .i64 num) ∧ W.cell? ⟨A, 9, none⟩ = some (.slice ad l.length cc) ∧ W.cell? ⟨D, 0, none⟩ = some (.int .i64 jdx) ∧ W.cell? ⟨D, 1, none⟩ = some (.int .i64 jar) ∧ W.cell? ⟨D, 2, none⟩ = some (.string mame) ∧ W.cell? ⟨D, 3, none⟩ = some (.string mrig) ∧ W.cell? ⟨D, 4, none⟩ = some (.string mub) ∧ W.cell? ⟨D, 5, none⟩ = some (.string mrv) ∧ W.cell? ⟨D, 6, none⟩ = some (.string mli) ∧ W.cell? ⟨D, 7, none⟩ = some (.int .i64 mind) ∧ W.cell? ⟨D, 8, none⟩ = some (.int .i64 mum) ∧ W.cell? ⟨D, 9, none⟩ = some (.slice ea en ec) ∧ Below W2.heap.size W2 W) => known_any W (hmx W h.2.2.2.2.2.2.2.2.2.2.2.2.2.2.2.2.2.2.2.2))
  have Hst := Lib.hid hst
  generalize checkE (⟨idx, par, name, orig, sub, drv, ali, kind, num, .slice ad l.length cc⟩ : Dev) l = E1 at *
  generalize checkE (⟨jdx, jar, mame, mrig, mub, mrv, mli, mind, mum, .slice ea en ec⟩ : Dev) l2 = E2 at *
  unfold devV devC at HC1 HR1 HC2 HR2
  simp only at HC1 HR1 HC2 HR2
  clear hst hmx hBel hH1 hH2 hA hD
  go_region_held3 (fun w' => w'.cell? ⟨A, 0, none⟩ = some (.int .i64 idx) ∧ w'.cell? ⟨A, 1, none⟩ = some (.int .i64 par) ∧ w'.cell? ⟨A, 2, none⟩ = some (.string name) ∧ w'.cell? ⟨A, 3, none⟩ = some (.string orig) ∧ w'.cell? ⟨A, 4, none⟩ = some (.string sub) ∧ w'.cell? ⟨A, 5, none⟩ = some (.string drv) ∧ w'.cell? ⟨A, 6, none⟩ = some (.string ali) ∧ w'.cell? ⟨A, 7, none⟩ = some (.int .i64 kind) ∧ w'.cell? ⟨A, 8, none⟩ = some (.int .i64 num) ∧ w'.cell? ⟨A, 9, none⟩ = some (.slice ad l.length cc) ∧ w'.cell? ⟨D, 0, none⟩ = some (.int .i64 jdx) ∧ w'.cell? ⟨D, 1, none⟩ = some (.int .i64 jar) ∧ w'.cell? ⟨D, 2, none⟩ = some (.string mame) ∧ w'.cell? ⟨D, 3, none⟩ = some (.string mrig) ∧ w'.cell? ⟨D, 4, none⟩ = some (.string mub) ∧ w'.cell? ⟨D, 5, none⟩ = some (.string mrv) ∧ w'.cell? ⟨D, 6, none⟩ = some (.string mli) ∧ w'.cell? ⟨D, 7, none⟩ = some (.int .i64 mind) ∧ w'.cell? ⟨D, 8, none⟩ = some (.int .i64 mum) ∧ w'.cell? ⟨D, 9, none⟩ = some (.slice ea en ec) ∧ Below W2.heap.size W2 w') (first | exact Hst.out | exact keep2 (by assumption) hAl hDl (by assumption)) (first
    | (go_at_call 12; refine Calls.mono (by with_reducible exact HC1.out _ (by assumption)) ?_; rintro e W ⟨rfl, hb⟩)
    | (go_at_call 13; refine Calls.mono (by with_reducible exact HR1.out _ (by assumption)) ?_; rintro e W ⟨rfl, hb⟩)
    | (go_at_call 12; refine Calls.mono (by with_reducible exact HC2.out _ (by assumption)) ?_; rintro e W ⟨rfl, hb⟩)
    | (go_at_call 13; refine Calls.mono (by with_reducible exact HR2.out _ (by assumption)) ?_; rintro e W ⟨rfl, hb⟩)
    | (go_at_call 10; refine Calls.mono (by with_reducible exact HKn.out _ (by assumption)) ?_; rintro e W ⟨rfl, hb⟩))
  all_goals
    go_wp2
    go_ret
    exact ⟨rfl, HBel.out.trans ((last2 (by assumption)).mono HBel.out.size)⟩
end Go.Proofs.YthdnbcgomepgaaaDoor
