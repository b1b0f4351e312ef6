/- The ancestors of a device, collected. -/
import Derived.Test.YthblgkjmjfhkdaaKDeF
import Derived.Maps.AppendAt
import Derived.RangeFuncBox
import Derived.Sort.CutIn
namespace Go.Proofs.Ythblgkjmjfhkdaa.De
open Go.RowKit Go.Shelf Go.Maps
attribute [local go_sem] Oper.semAt_some

theorem anc_stops (F : Fence) (n : Nat) (h7 : F.fn 89) (hro : F.round = none) (hn : 1 ≤ n) (n₀ Bd Bv V M N c : Nat) (par : Int) (a : Option Addr) (l : List DV) (D : DataW Unit) (w : World)
    (hwf : (Lit.int .i64 par).wf = true) (hwl : ∀ x ∈ l, (Lit.int .i64 x.1.par).wf = true) (hn₀ : n₀ ≤ w.heap.size) (hI : It n₀ w Bd Bv V M N c par a l D) :
    SeqStopsK F n Try.prog 89 #[.pointer (some ⟨Bd, 0, none⟩), .pointer (some ⟨Bv, 0, none⟩)] (adE (l := l)) (Below n₀) (fun ys => ys.map (fun p : AD l => p.1) = ancL l 7 par) (fun _ => True) 7 w := fun lo J Jx W hW _ _ hY h0 => by
  refine (anc1_in F n h7 hro hn lo n₀ Bd Bv V M N c par a l D J Jx hwf hwl hY W (hI.keep (hW.mono hn₀)) h0).mono ?_
  rintro e W' ⟨he, ⟨ys, hys, hj⟩ | ⟨pre, hj⟩⟩
  · exact ⟨he, .inl ⟨ys, hys, hj⟩⟩
  · exact ⟨he, .inr ⟨pre, trivial, hj⟩⟩
def valsA {l : List DV} (pre : List (AD l)) : List DV := pre.map (fun p : AD l => p.1)
theorem valsA_snoc {l : List DV} (pre : List (AD l)) (x : AD l) : dvsC (valsA (pre ++ [x])) = dvsC (valsA pre) ++ dvC x.1.1 x.1.2 := by
  unfold valsA
  rw [List.map_append, dvsC_append]
  simp [dvsC]
theorem valsA_len {l : List DV} (pre : List (AD l)) : (valsA pre).length = pre.length := by simp [valsA]
set_option maxRecDepth 100000 in
set_option maxHeartbeats 4000000 in
theorem appendSeq_any (w : World) (Bd Bv V M N c : Nat) (par : Int) (a : Option Addr) (l : List DV) (D : DataW Unit)
    (hwf : (Lit.int .i64 par).wf = true) (hwl : ∀ x ∈ l, (Lit.int .i64 x.1.par).wf = true) (hsl : ∀ x ∈ l, ∃ b n c, x.2 = .slice b n c) (hI : It w.heap.size w Bd Bv V M N c par a l D) :
    Calls Try.prog 88 #[.slice none 0 0, .func (.func 89) #[] #[.pointer (some ⟨Bd, 0, none⟩), .pointer (some ⟨Bv, 0, none⟩)]] w fun e w' => ∃ u, e = .returned u ∧ w'.ownsRow w.heap.size 26 10 u (ancL l 7 par).length (dvsC (ancL l 7 par)) ∧ Below w.heap.size w w' := by
  obtain ⟨i0, hi0, hz0, hz1, hz2⟩ := info_parts info34
  refine (callsIn_wide (n := 5)).1 ?_
  refine callsIn_of_wp_marks Try.func88 rfl trivial (wpIn_wide.2 ?_) rfl
  simp only [Try.ntmps88, List.size_toArray, List.length_cons, List.length_nil, Nat.reduceAdd, Nat.reduceSub, Array.replicate_succ, Array.replicate_zero, List.push_toArray, List.append_toArray, List.nil_append, List.cons_append]
  go_wp2
  obtain ⟨Bs, hBs⟩ : ∃ B, w.heap.size = B := ⟨_, rfl⟩
  have bO := Boxed.new w 33 (.slice none 0 0)
  have hB0 : Below w.heap.size w (w.alloc (.cells #[.slice none 0 0] 33)) := (Below.refl _ w).alloc (Nat.le_refl _) _
  have hsz : (w.alloc (.cells #[.slice none 0 0] 33)).heap.size = Bs + 1 := by simp [hBs]
  generalize hW1 : w.alloc (.cells #[.slice none 0 0] 33) = w1 at *
  have hI1 := hI.keep hB0
  rw [hBs] at bO hB0 hI1 ⊢
  refine (wpIn_wide (n := 5)).1 (wpIn_rangeFunc_ownH (F := Fence.wide) rfl (by omega : 1 ≤ 5) (gf := 89) (lb := #[.pointer (some ⟨Bd, 0, none⟩), .pointer (some ⟨Bv, 0, none⟩)]) rfl trivial (enters_of Try.func89 (by kernel_rfl) rfl)
    (anc_stops Fence.wide 4 trivial rfl (by omega) Bs Bd Bv V M N c par a l D w1 hwf hwl (by omega) hI1) belowK_t (belowK_b (by omega)) (Below.refl _ _) (fun _ => rfl)
    (fun pre W => (∃ v, Boxed W Bs 33 v ∧ W.ownsRow Bs 26 10 v pre.length (dvsC (valsA pre)) ∧ True) ∧ Below Bs w W) (fun _ _ _ => False)
    (OwnFrom.and (Own.from (holdsRow_own Bs Bs 33 26 10 (fun pre : List (AD l) => pre.length) (fun pre => dvsC (valsA pre)) (fun _ _ => True)) _) (ownFrom_below (by omega) (by omega))) (fun _ _ _ _ _ hs _ _ => hs)
    ⟨⟨_, bO, World.ownsRow_nil _ _ _ _, trivial⟩, hB0⟩
    (fun x a' W => ∃ Bx, Bs < Bx ∧ BoxAt W Bx (dvC x.1.1 x.1.2).toArray ∧ a' = { tmps := #[.slice none 0 0, .func (.func 89) #[] #[.pointer (some ⟨Bd, 0, none⟩), .pointer (some ⟨Bv, 0, none⟩)], .pointer (some ⟨Bs, 0, none⟩), undef, .slice none 0 0, .pointer (some ⟨Bx, 0, none⟩), .func (.func 89) #[] #[.pointer (some ⟨Bd, 0, none⟩), .pointer (some ⟨Bv, 0, none⟩)], .agg (dvC x.1.1 x.1.2).toArray, undef, undef, undef, undef, undef], defers := [] })
    ?hAx ?assign ?body ?done ?stop)
  case hAx =>
    intro x a' _ A B row hs hg hr
    obtain ⟨Bx, h1, h2, h3⟩ := hs
    refine ⟨Bx, h1, (hg.block Bx (block_lt h2) fun e => ?_).trans h2, h3⟩
    obtain ⟨_, o, ho, hc⟩ := hr Bx e.symm
    unfold BoxAt at h2
    rw [h2] at ho
    cases ho
    cases hc
  case assign =>
    intro lo pre x W K hi hK
    obtain ⟨⟨ad, v⟩, hx⟩ := x
    obtain ⟨b, n, c, hv⟩ := hsl _ hx
    simp only at hv
    subst hv
    unfold adE
    unfold dvC at hK
    gi_wp2
    obtain ⟨⟨u, hu, hrow, -⟩, hB⟩ := hi
    refine hK _ _ ((KeepsOthers.alloc _ _).from _) ((Below.refl Bs W).alloc (by have := hu.lt; omega) _) ⟨⟨u, hu.alloc _, hrow.alloc _, trivial⟩, hB.alloc (by have := hu.lt; omega) _⟩ ⟨W.heap.size, hu.lt, heap_alloc_last _ _, rfl⟩
  case body =>
    rintro lo pre x a' W hl' _ ⟨⟨v, hv, hrow, -⟩, hB⟩ ⟨Bx, hBx, hRA, rfl⟩ hlt
    have hc := hv.cell
    obtain ⟨y, hxy⟩ : ∃ y, x.1.1 = y := ⟨_, rfl⟩
    obtain ⟨xv, hxv⟩ : ∃ y, x.1.2 = y := ⟨_, rfl⟩
    obtain ⟨b, n, c', hv2⟩ := hsl x.1 x.2
    rw [hxv] at hv2
    have hone := Lib.hid (show ∀ u ∈ dvC y xv, u.oneCell' = true from dvC_one (by rw [hv2]; rfl))
    have hvs := valsA_snoc pre x
    rw [hxy, hxv] at hRA hvs ⊢
    have HVS := Lib.hid hvs
    have HRA := Lib.hid (fun i => hRA.cell i)
    have HRb := Lib.hid hRA
    have HI2 := Lib.hid (show (Try.prog.info? 26).map (·.size) = some (dvC y xv).toArray.size from info34b)
    have d0 : W.cell? ⟨Bx, 0, none⟩ = some (.int .i64 y.idx) := HRA.out 0
    have d1 : W.cell? ⟨Bx, 1, none⟩ = some (.int .i64 y.par) := HRA.out 1
    have d2 : W.cell? ⟨Bx, 2, none⟩ = some (.string y.name) := HRA.out 2
    have d3 : W.cell? ⟨Bx, 3, none⟩ = some (.string y.orig) := HRA.out 3
    have d4 : W.cell? ⟨Bx, 4, none⟩ = some (.string y.sub) := HRA.out 4
    have d5 : W.cell? ⟨Bx, 5, none⟩ = some (.string y.drv) := HRA.out 5
    have d6 : W.cell? ⟨Bx, 6, none⟩ = some (.string y.ali) := HRA.out 6
    have d7 : W.cell? ⟨Bx, 7, none⟩ = some (.int .i64 y.kind) := HRA.out 7
    have d8 : W.cell? ⟨Bx, 8, none⟩ = some (.int .i64 y.num) := HRA.out 8
    have d9 : W.cell? ⟨Bx, 9, none⟩ = some (xv) := HRA.out 9
    clear hRA hvs hxy hxv
    subst hv2
    gi_wp2_with (gi_at_builtin; refine wpListIn_append_own _ rfl _ _ 33 rfl Bs 26 i0 _ 10 136 Try.underlying33 hi0 hz0 hz1 hz2 rfl (by decide) _ _ _ rfl (hrow.alloc _) ⟨W.heap.size, 0, none⟩ 1 1 (dvC y _) rfl rfl (cells_new _ _ _) hone.out (by unfold maxLen; omega) (by omega) (by have := hB.size; simp; omega) ?_; intro v' w1 hown' hgrow _; obtain ⟨g', cap', rfl⟩ := ownsRow_succ hown'; obtain ⟨hv1, hv2, hr2, hk2, hb2⟩ := hv.appended (by decide) hrow (by have := hv.lt; omega) (Nat.le_refl _) hown' hgrow; have hc1 := hv1.cell; have hf1 := hv1.frozen)
    refine ⟨hk2.from _, hb2, ⟨_, hv2, ?_, trivial⟩, hB.trans hb2⟩
    rw [HVS.out, List.length_append]
    exact hr2
  case done =>
    rintro Dd xs W hD hxs ⟨⟨v, hv, hrow, -⟩, hB⟩ hK
    have hc := hv.cell
    have hxl : valsA xs = ancL l 7 par := hxs
    have hrow2 := ownsRow_putObj hrow (.deferred none) hK rfl
    rw [hxl, ← valsA_len, hxl] at hrow2
    have HR := Lib.hid hrow2
    have HB := Lib.hid (hB.trans (belowK_b (w := w) (n₀ := Bs) (by omega) W Dd _ (.deferred none) (by omega) hK rfl rfl))
    go_wp2
    refine ⟨by simp, .inl ⟨_, _, rfl, run_takeDeferred hK, ?_⟩⟩
    exact ⟨_, results_tmp rfl _ _ _, v, rfl, by rw [hBs]; exact HR.out, by rw [hBs]; exact HB.out⟩
  case stop =>
    intro D cd pre W _ _ h
    exact h.elim
end Go.Proofs.Ythblgkjmjfhkdaa.De
