/- leftOut. -/
import Derived.Test.YtkkibibecgcbmaaGreatDoorKHj
import Derived.Stop.RegionWithIn
import Derived.Maps.OwnIn
import Derived.Sort.CutIn
namespace Go.Proofs.YtkkibibecgcbmaaGreatDoor
open Go.RowKit Go.Shelf Go.Maps
attribute [local go_sem] Oper.semAt_some

theorem back_any (a : Option Addr) (n c : Nat) (w : World) : Calls Tryz.prog 89 #[.slice a n c] w fun e w' => e = .returned (.func (.func 119) #[] #[.pointer (some ⟨w.heap.size, 0, none⟩)]) ∧ w' = w.alloc (.cells #[.slice a n c] 50) := by
  go_enter Tryz.func89, Tryz.ntmps89
  go_wp2
  go_ret
  exact ⟨rfl, rfl⟩
/-- The bools. -/
def OAt (W : World) (b : Nat) (O : List Bool) : Prop := W.heap[b]? = some (.cells ((O.map Value.bool).toArray) 4 (0, 0))
def fo {L : List RV} (pre : List (PR L)) : (List UInt8 → Bool) × List Bool := (pre.map (fun p : PR L => p.1)).foldl stepO (fun _ => false, List.replicate L.length false)
theorem fo_snoc {L : List RV} (pre : List (PR L)) (x : PR L) : fo (pre ++ [x]) = stepO (fo pre) x.1 := by
  unfold fo
  rw [List.map_append, List.foldl_append]
  rfl
/-- Between two rounds. -/
structure St (w : World) (OB B3 n : Nat) (F : (List UInt8 → Bool) × List Bool) (k : Nat) (W : World) : Prop where
  b3 : Boxed W B3 88 (.slice (some ⟨OB, 0, none⟩) n n)
  b4 : Boxed W (B3 + 1 + 1) 129 (.map (some (B3 + 1)))
  out : OAt W OB F.2
  len : F.2.length = n
  map : ∃ N D, LMap W (B3 + 1) N F.1 D ∧ N ≤ 1000 * k
  kp : Kp [] w W
  sz : B3 + 1 + 1 + 1 < W.heap.size
theorem St.own {w : World} {OB B3 n : Nat} {F : (List UInt8 → Bool) × List Bool} {k : Nat} {W W' : World} {row : Option Nat} (h : St w OB B3 n F k W) (hO : OB < B3) (hw : w.heap.size ≤ B3) (hg : W.grownBy W' row) (hr : ∀ r, row = some r → B3 + 1 + 1 < r) : St w OB B3 n F k W' := by
  have key : ∀ b, b ≤ B3 + 1 + 1 → b < W.heap.size → W'.heap[b]? = W.heap[b]? := fun b hb hl => hg.block b hl fun e => by have := hr b e.symm; omega
  obtain ⟨N, D, hm, hn⟩ := h.map
  exact ⟨(key _ (by omega) h.b3.lt).trans h.b3, (key _ (by omega) h.b4.lt).trans h.b4, (key _ (by omega) (block_lt h.out)).trans h.out, h.len, ⟨N, D, hm.kept (key _ (by omega) hm.lt), hn⟩,
    ⟨hg.os.trans h.kp.os, hg.tape.trans h.kp.tape, hg.output.trans h.kp.output, Nat.le_trans h.kp.size hg.size, fun b hb hc => (key b (by omega) (Nat.lt_of_lt_of_le hb h.kp.size)).trans (h.kp.block b hb hc)⟩, Nat.lt_of_lt_of_le h.sz hg.size⟩
theorem OAt.of_own {W : World} {B n : Nat} {g : Nat} (h : W.ownsRow B 4 1 (.slice (some ⟨g, 0, none⟩) n n) n (madeCells (Value.bool false).cells (n * 1)).toList) : OAt W g (List.replicate n false) := by
  rcases h.2 with ⟨hv, _⟩ | ⟨g', cap, cur, hv, hB, hh, hc, hcm, hcz, ht⟩
  · cases hv
  · cases hv
    unfold OAt
    rw [hh]
    have e : cur.toList = (madeCells (Value.bool false).cells (n * 1)).toList := by
      rw [← ht, List.take_of_length_le (by simp [hcz])]
    have e2 : (madeCells (Value.bool false).cells (n * 1)).toList = List.replicate n (Value.bool false) := by
      rw [Nat.mul_one]
      apply List.ext_getElem
      · simp [madeCells]
      · intro i h1 h2
        simp [madeCells, Value.cells, Nat.mod_one]
    rw [← Array.toArray_toList (xs := cur), e, e2]
    simp
theorem OAt.cell {W : World} {b : Nat} {O : List Bool} (h : OAt W b O) {i : Nat} {q : Bool} (hq : O[i]? = some q) : W.cell? ⟨b, i, none⟩ = some (.bool q) := by
  rw [cell_of_row _ _ _ _ _ _ h]
  simp [hq]
theorem OAt.put {W : World} {b : Nat} {O : List Bool} (h : OAt W b O) (i : Nat) (q : Bool) : OAt (W.setCell ⟨b, i, none⟩ (.bool q)) b (O.set i q) := by
  unfold OAt at h ⊢
  simp [World.setCell, Array.getElem?_modify, h, List.map_set]
theorem OAt.frz {W : World} {b i : Nat} {O : List Bool} (h : OAt W b O) : W.frozen? ⟨b, i, none⟩ = false := by
  unfold OAt at h
  simp [World.frozen?, h]
theorem bl_cells : ∀ O : List Bool, blT.cells O = O.map Value.bool
  | [] => rfl
  | x :: l => by rw [RT.cells_cons, bl_cells l]; rfl
theorem OAt.own {W : World} {b n B : Nat} {O : List Bool} (h : OAt W b O) (hB : B ≤ b) (hn : O.length = n) (hl : n ≤ 1000000) : blT.Own W B (.slice (some ⟨b, 0, none⟩) n n) O := by
  subst hn
  have e := bl_cells O
  refine ⟨blT.cells_len O, .inr ⟨b, O.length, _, rfl, hB, h, Nat.le_refl _, by unfold maxLen; omega, by show _ = O.length * 1; simp, ?_⟩⟩
  rw [e]
  show ((O.map Value.bool).toArray.toList.take (O.length * 1)) = _
  rw [List.take_of_length_le (by simp)]
theorem St.next {w W W' : World} {OB B3 n k : Nat} {F F' : (List UInt8 → Bool) × List Bool} (h : St w OB B3 n F k W) (hk : Kp [OB, B3 + 1] W W') (hO : OB < B3) (hw : w.heap.size ≤ OB) (ho : OAt W' OB F'.2) (hl : F'.2.length = n)
    (hm : ∃ N D, LMap W' (B3 + 1) N F'.1 D ∧ N ≤ 1000 * (k + 1)) : St w OB B3 n F' (k + 1) W' :=
  ⟨(hk.block _ h.b3.lt (by simp; omega)).trans h.b3, (hk.block _ h.b4.lt (by simp; omega)).trans h.b4, ho, hl, hm, h.kp.up hk (fun x hx => .inr (by simp at hx; omega)), Nat.lt_of_lt_of_le h.sz hk.size⟩
theorem kf_of {W W' : World} {OB B3 n : Nat} (hk : Kp [OB, B3 + 1] W W') (hO : OB < B3) (hn : B3 + 1 < n) : KeepsFrom n W W' ∧ Kq OB (B3 + 1 + 1 + 1) W W' :=
  ⟨⟨hk.size, fun k o h1 h2 _ => (hk.block k (Array.getElem?_eq_some_iff.1 h2).1 (by simp; omega)).trans h2⟩, hk.size, fun k h1 h2 => hk.block k h1 (by simp; omega)⟩
theorem LMap.congr {w : World} {M N : Nat} {f g : List UInt8 → Bool} {D : DataW Unit} (h : LMap w M N f D) (e : ∀ s, f s = g s) : LMap w M N g D := by
  rw [show g = f from (funext e).symm]
  exact h
/-- The labels of some terms, and those before. -/
def labT (l : List Tm) (f : List UInt8 → Bool) (s : List UInt8) : Bool := (l.any fun t => t.key == 23 && t.val == s) || f s
theorem labT_snoc {l : List Tm} {j : Nat} {x : Tm} (h : l[j]? = some x) (f : List UInt8 → Bool) (s : List UInt8) : labT (l.take (j + 1)) f s = ((x.key == 23 && x.val == s) || labT (l.take j) f s) := by
  unfold labT
  rw [List.take_add_one, h, List.any_append]
  cases ((l.take j).any fun t => t.key == 23 && t.val == s) <;> simp
set_option maxRecDepth 100000 in
set_option maxHeartbeats 8000000 in
theorem leftOut_any : LeftOut := by
  intro w rv L hl hr hin
  obtain ⟨a, c, rfl, hrow⟩ := hr.form
  obtain ⟨i0, hi0, hz0, hz1, hz2⟩ := info_parts blT.info
  have hmk : ∀ W : World, (Instr.makeMap 129 none).run Tryz.prog W = .ok (.map (some W.heap.size)) (W.alloc (.map #[] 0)) := fun W => run_makeMap 129 W
  refine (callsIn_wide (n := 5)).1 ?_
  refine callsIn_of_wp_marks Tryz.func55 rfl trivial (wpIn_wide.2 ?_) rfl
  simp only [Tryz.ntmps55, List.size_toArray, List.length_cons, List.length_nil, Nat.reduceAdd, Nat.reduceSub, Array.replicate_succ, Array.replicate_zero, List.push_toArray, List.append_toArray, List.nil_append, List.cons_append]
  go_wp2_with (first
    | (at_make; refine wpList_make_full _ rfl (.tmp 10) (.tmp 10) 88 rfl w.heap.size 4 i0 (.bool false) 1 Tryz.underlying88 hi0 hz0 hz1 .i64 .i64 (L.length : Int) (L.length : Int) L.length rfl rfl rfl rfl (by rw [hz2]; show 1 * L.length ≤ _; omega) (by unfold maxLen; omega) (Nat.le_refl _) ?_; intro w2 hown2 hgr2)
    | (go_at_call 89; refine (back_any _ _ _ _).mono ?_; rintro e w' ⟨rfl, rfl⟩))
  obtain ⟨OB, hOB⟩ : ∃ B, w.heap.size = B := ⟨_, rfl⟩
  obtain ⟨B3, hB3⟩ : ∃ B, w2.heap.size = B := ⟨_, rfl⟩
  rw [hOB] at hown2
  have ho2 := OAt.of_own hown2
  have hO3 : OB < B3 := by rw [← hB3]; exact block_lt ho2
  obtain ⟨w3, hw3⟩ : ∃ W, w2.alloc (.cells #[.slice (some ⟨OB, 0, none⟩) L.length L.length] 88) = W := ⟨_, rfl⟩
  obtain ⟨w4, hw4⟩ : ∃ W, w3.alloc (.map #[] 0) = W := ⟨_, rfl⟩
  obtain ⟨w5, hw5⟩ : ∃ W, w4.alloc (.cells #[.map (some (B3 + 1))] 129) = W := ⟨_, rfl⟩
  obtain ⟨w6, hw6⟩ : ∃ W, w5.alloc (.cells #[.slice a L.length c] 50) = W := ⟨_, rfl⟩
  have z3 : w3.heap.size = B3 + 1 := by rw [← hw3]; simp [hB3]
  have z4 : w4.heap.size = B3 + 1 + 1 := by rw [← hw4]; simp [z3]
  have z5 : w5.heap.size = B3 + 1 + 1 + 1 := by rw [← hw5]; simp [z4]
  have z6 : w6.heap.size = B3 + 1 + 1 + 1 + 1 := by rw [← hw6]; simp [z5]
  have k34 : Kp [] w3 w4 := by rw [← hw4]; exact (Kp.refl [] _).alloc _
  have k45 : Kp [] w4 w5 := by rw [← hw5]; exact (Kp.refl [] _).alloc _
  have k56 : Kp [] w5 w6 := by rw [← hw6]; exact (Kp.refl [] _).alloc _
  have k23 : Kp [] w2 w3 := by rw [← hw3]; exact (Kp.refl [] _).alloc _
  have bk : ∀ {A B : World} {b : Nat} {t : TypeId} {v : Value}, Kp [] A B → Boxed A b t v → Boxed B b t v := fun h g => (h.block _ g.lt (by simp)).trans g
  have hSt : St w OB B3 L.length (fo (L := L) []) 0 w6 := ⟨bk (k34.trans (k45.trans k56)) (by have := Boxed.new w2 88 (.slice (some ⟨OB, 0, none⟩) L.length L.length); rw [hw3, hB3] at this; exact this),
    bk k56 (by have := Boxed.new w4 129 (.map (some (B3 + 1))); rw [hw5, z4] at this; exact this),
    ((k23.trans (k34.trans (k45.trans k56))).block _ (block_lt ho2) (by simp)).trans ho2, by simp [fo],
    ⟨0, _, (by have := LMap.made w3; rw [hw4, z3] at this; exact this.kp0 (k45.trans k56)), Nat.le_refl _⟩,
    (Kp.of_grown_none hgr2).trans (k23.trans (k34.trans (k45.trans k56))), by omega⟩
  have hbs : w6.cell? ⟨B3 + 1 + 1 + 1, 0, none⟩ = some (.slice a L.length c) := by
    have := Boxed.new w5 50 (.slice a L.length c)
    rw [hw6, z5] at this
    exact this.cell
  have hOw : w.heap.size ≤ B3 := by omega
  rw [hOB, hB3, hw3, hw4, hw5, hw6]
  have hrow6 : L ≠ [] → ∃ b o, a = some ⟨b, o, none⟩ ∧ b < OB ∧ rvT.Row w6 b o L := fun h => by
    obtain ⟨b, o, e, hb, hr⟩ := hrow h
    exact ⟨b, o, e, by omega, hr.keep (hSt.kp.block b hb (by simp))⟩
  clear hown2 hw3 hw4 hw5 hw6 z3 z4 z5 k34 k45 k56 k23 bk ho2 hgr2 hmk
  refine (wpIn_wide (n := 5)).1 (wpIn_rangeFunc_ownH (F := Fence.wide) rfl (by omega : 1 ≤ 5) (gf := 119) (lb := #[.pointer (some ⟨B3 + 1 + 1 + 1, 0, none⟩)]) rfl trivial (enters_of Tryz.func119 (by kernel_rfl) rfl)
    (back_stops Fence.wide 4 trivial rfl (by omega) (B3 + 1 + 1 + 1) OB L (by omega) a c w6 hbs (by omega) (by omega) hrow6) (fun h g => h.trans g) ?hKb (Below.refl _ _) (fun _ => rfl)
    (fun pre W => St w OB B3 L.length (fo pre) pre.length W) (fun _ _ _ => False) ?hI (fun _ _ _ _ _ hs _ _ => hs) hSt
    (fun x a' W => ∃ Bx, B3 + 1 + 1 + 1 < Bx ∧ RAt W Bx x.1.2 ∧ a' = { tmps := #[.slice a L.length c, undef, .slice none 0 0, .pointer (some ⟨B3, 0, none⟩), .pointer (some ⟨B3 + 1 + 1, 0, none⟩), .int .i64 (x.1.1 : Int), .pointer (some ⟨Bx, 0, none⟩), undef, undef, .slice a L.length c, .int .i64 (L.length : Int), .slice (some ⟨OB, 0, none⟩) L.length L.length, .map (some (B3 + 1)), .slice a L.length c, .func (.func 119) #[] #[.pointer (some ⟨B3 + 1 + 1 + 1, 0, none⟩)], .int .i64 (x.1.1 : Int), .agg #[.string (bs x.1.2.file), .int .i64 x.1.2.line, .slice x.1.2.a x.1.2.n x.1.2.c], undef, undef, undef, undef, undef, undef, undef, undef, undef, undef, undef, undef, undef, undef, undef, undef, undef, undef, undef, undef, undef, undef, undef, undef, undef, undef], defers := [] })
    ?hAx ?assign ?body ?done ?stop)
  case hKb =>
    intro W l o o' h1 _ _ _
    exact Kq.putObj W o' (by omega) (by omega)
  case hI =>
    intro pre A B row h hg hr
    exact h.own hO3 hOw hg fun r e => by have := (hr r e).1; omega
  case hAx =>
    intro x a' _ A B row hs hg hr
    obtain ⟨Bx, h1, h2, h3⟩ := hs
    refine ⟨Bx, h1, (hg.block Bx (block_lt h2) fun e => ?_).trans h2, h3⟩
    obtain ⟨_, o, ho, hc⟩ := hr Bx e.symm
    unfold RAt at h2
    rw [h2] at ho
    cases ho
    cases hc
  case assign =>
    intro l pre x W K hi hK
    unfold prE
    gi_wp2
    exact hK _ _ ((KeepsOthers.alloc _ _).from _) (Kq.of_kp ((Kp.refl [] W).alloc _)) (hi.own hO3 hOw (World.grownBy_alloc W _ none) (fun r e => by cases e)) ⟨W.heap.size, hi.sz, heap_alloc_last _ _, rfl⟩
  case body =>
    rintro l pre x a' W hl' _ hi ⟨Bx, hBx, hRA, rfl⟩ hlt
    obtain ⟨i, hxi⟩ : ∃ i, x.1.1 = i := ⟨_, rfl⟩
    obtain ⟨y, hxy⟩ : ∃ y, x.1.2 = y := ⟨_, rfl⟩
    have hx : L[i]? = some y := by rw [← hxi, ← hxy]; exact x.2
    have hST0 := fo_snoc pre x
    rw [show x.1 = (i, y) from Prod.ext hxi hxy] at hST0
    rw [hxi, hxy]
    rw [hxy] at hRA
    clear hxi hxy
    have hy := List.mem_of_getElem? (show L[i]? = some y from hx)
    have hiL : i < L.length := (List.getElem?_eq_some_iff.1 (show L[i]? = some y from hx)).1
    obtain ⟨hyi, hyt⟩ := hin y hy
    obtain ⟨N, D, hm, hN⟩ := hi.map
    have hST : fo (pre ++ [x]) = stepO (fo pre) (i, y) := hST0
    clear hST0
    obtain ⟨f, hf⟩ : ∃ f, (fo pre).1 = f := ⟨_, rfl⟩
    obtain ⟨O, hO⟩ : ∃ O, (fo pre).2 = O := ⟨_, rfl⟩
    obtain ⟨lb, hlb⟩ : ∃ b, y.l.any (lostP f) = b := ⟨_, rfl⟩
    unfold stepO at hST
    rw [hf, hO] at hST
    simp only [hlb] at hST
    rw [hf] at hm
    have hOA := hi.out
    have hOl := hi.len
    rw [hO] at hOA hOl
    have c3 := hi.b3.cell
    have c4 := hi.b4.cell
    have hRA : RAt W Bx y := hRA
    obtain ⟨e0, e1, e2⟩ := hRA.cells
    have HLW := Lib.hid fun W' (h : Kp [] W W') => leads_any (l := y.l) hyi.2 (fun t ht => (hyt.2.2.1 t ht).1) ((hyi.kp0 hi.kp).kp0 h).1 (hm.kp0 h)
    rw [hlb] at HLW
    have HI := Lib.hid hi
    have HRA := Lib.hid hRA
    have HM := Lib.hid hm
    have HN := Lib.hid hN
    have HOA := Lib.hid hOA
    have HST := Lib.hid hST
    have HYI := Lib.hid hyi
    have HYT := Lib.hid hyt
    have hiz : (i : Int) < (L.length : Int) := by omega
    have hOi : i < O.length := by omega
    clear hi hRA hm hN hOA hyi hyt hin hrow hrow6 hr hSt hbs hST hf hO hy
    have hfn90 : Fence.wide.fn 90 := trivial
    obtain ⟨q, hq⟩ : ∃ q, O[i]? = some q := ⟨_, List.getElem?_eq_getElem hOi⟩
    have HQ := Lib.hid hq
    clear hq
    dsimp only
    gi_upto_region 6 with fail
    gi_cut [] from 17 (fun wx => ∃ W1, Kp [] W W1 ∧ wx = W1.setCell ⟨OB, i, none⟩ (.bool lb))
    case first =>
      rename_i J K' hJ hK'
      gi_region_with (first
        | (gi_at_call 90; refine (CallsIn.inRound l ((callsIn_wide (n := _)).2 (HLW.out _ ((Kp.refl [] W).drew 1)))).mono ?_; rintro e W1 ⟨rfl, hk1⟩; have HK1 := Lib.hid (show Kp [] W W1 from ((Kp.refl [] W).drew 1).trans hk1); have g3 := (show Boxed W1 B3 88 _ from (HK1.out.block _ HI.out.b3.lt (by simp)).trans HI.out.b3).cell; have g4 := (show OAt W1 OB O from (HK1.out.block _ (block_lt HOA.out) (by simp)).trans HOA.out); have g5 := fun i => g4.frz (i := i); have g6 := g4.cell HQ.out; have g7 := (HRA.out.kp HK1.out).cells.2.2; dsimp only))
      all_goals
        refine hK' _ _ (hJ _ _ ?_)
        (repeat apply Exists.intro)
        refine ⟨⟨_, HK1.out, rfl⟩, rfl⟩
    case rest =>
      obtain ⟨W1, hk1, rfl⟩ := hcut
      obtain ⟨W2, hW2⟩ : ∃ W2, W1.setCell ⟨OB, i, none⟩ (.bool lb) = W2 := ⟨_, rfl⟩
      have s4 : OAt W2 OB (O.set i lb) := by
        rw [← hW2]
        exact OAt.put ((hk1.block _ (block_lt HOA.out) (by simp)).trans HOA.out) i lb
      have hkw : Kp [OB, B3 + 1] W W2 := by
        rw [← hW2]
        exact (hk1.mono (by simp)).setCell (.inl (by simp)) _
      have hm2 : LMap W2 (B3 + 1) N f D := by
        rw [← hW2]
        exact (HM.out.kp0 hk1).kept (Below.heap_setCell _ _ _ _ (by show B3 + 1 ≠ OB; omega))
      rw [hW2]
      have b3 : Boxed W2 B3 88 (.slice (some ⟨OB, 0, none⟩) L.length L.length) := (hkw.block _ HI.out.b3.lt (by simp; omega)).trans HI.out.b3
      have b4 : Boxed W2 (B3 + 1 + 1) 129 (.map (some (B3 + 1))) := (hkw.block _ HI.out.b4.lt (by simp; omega)).trans HI.out.b4
      have hra2 : RAt W2 Bx y := (hkw.block Bx (block_lt HRA.out) (by simp; omega)).trans HRA.out
      have d3 := b3.cell
      have d6 : W2.cell? ⟨OB, i, none⟩ = some (.bool lb) := s4.cell (List.getElem?_set_self hOi)
      have hkw2 : Kp [] w W2 := HI.out.kp.up hkw (fun x hx => .inr (by simp at hx; omega))
      have hlen : ∀ X : PR L, (pre ++ [X]).length = pre.length + 1 := fun X => by simp
      have HKW := Lib.hid hkw
      have HK2 := Lib.hid hkw2
      have HS4 := Lib.hid s4
      have HB4 := Lib.hid b4
      have HM2 := Lib.hid hm2
      have HN6 := Lib.hid (show B3 + 1 < B3 + 1 + 1 + 1 + 1 by omega)
      clear hk1 hW2 s4 hkw hm2 b3 b4 hkw2 c3 c4 e0 e1 e2
      cases lb with
      | true =>
        rw [if_pos rfl] at HST
        have HE := Lib.hid (show KeepsFrom w6.heap.size W W2 ∧ Kq OB (B3 + 1 + 1 + 1) W W2 ∧ St w OB B3 L.length (fo (pre ++ [x])) (pre ++ [x]).length W2 from by
          obtain ⟨q1, q2⟩ := kf_of (n := w6.heap.size) HKW.out hO3 (by omega)
          refine ⟨q1, q2, ?_⟩
          rw [HST.out, hlen]
          exact HI.out.next HKW.out hO3 (by omega) HS4.out (by rw [List.length_set]; exact hOl) ⟨N, D, HM2.out, by have := HN.out; omega⟩)
        gi_wp2
        exact HE.out
      | false =>
        rw [if_neg (by simp)] at HST
        obtain ⟨g0, g1, g2⟩ := hra2.cells
        obtain ⟨ya, yc, hv, hyrow⟩ := HYI.out.1.form
        obtain ⟨v1, v2, v3⟩ := Value.slice.inj hv
        rw [v1, v2, v3] at g2
        have HYR := Lib.hid hyrow
        clear hyrow hv hra2 v1 v2 v3
        have hyl : y.l.length ≤ 6 := HYT.out.2.1
        gi_wp2
        gi_loopw [31] (fun s wr => ∃ (j N' : Nat) (D' : DataW Unit), s = .int .i64 (j : Int) ∧ j ≤ y.l.length ∧ LMap wr (B3 + 1) N' (labT (y.l.take j) f) D' ∧ N' ≤ 1000 * pre.length + j ∧ Kp [B3 + 1] W2 wr) (fun s _ => y.l.length - (intOf s).toNat)
        case atStart => exact ⟨0, N, D, rfl, Nat.zero_le _, HM2.out.congr (fun s => by simp [labT]), HN.out, Kp.refl _ _⟩
        case round =>
          obtain ⟨j, N', D', rfl, hj, hmj, hNj, hkj⟩ := hrel
          have HMJ := Lib.hid hmj
          have HNJ := Lib.hid hNj
          have HKJ := Lib.hid hkj
          have HJ := Lib.hid hj
          by_cases hlt : j < y.l.length
          · obtain ⟨x, hxx⟩ : ∃ x, y.l[j]? = some x := ⟨_, List.getElem?_eq_getElem hlt⟩
            obtain ⟨b, o, rfl, hb, hr⟩ := HYR.out (by rintro h; rw [h] at hlt; simp at hlt)
            have hkwr : Kp [] w wr := HK2.out.up hkj (fun x hx => .inr (by simp at hx; omega))
            obtain ⟨c0, c1, c2, c3⟩ := tmRow (hr.keep (hkwr.block b hb (by simp))) hxx
            have b4 : Boxed wr (B3 + 1 + 1) 129 (.map (some (B3 + 1))) := (hkj.block _ HB4.out.lt (by simp)).trans HB4.out
            have hjz : (j : Int) < (y.l.length : Int) := by omega
            have hwj : IntKind.i64.wrap ((j : Int) + 1) = ((j + 1 : Nat) : Int) := by rw [IntKind.wrap_i64]; omega
            obtain ⟨B8, hB8⟩ : ∃ B, wr.heap.size = B := ⟨_, rfl⟩
            obtain ⟨w7, hw7⟩ : ∃ W, wr.alloc (.cells #[.int .i64 x.key, .string (bs x.name), .int .i64 x.op, .string (bs x.val)] 31) = W := ⟨_, rfl⟩
            have hk7 : Kp [] wr w7 := by rw [← hw7]; exact (Kp.refl [] _).alloc _
            have hma : MAt w7 B8 x := by rw [← hw7, ← hB8]; exact MAt.new wr x
            obtain ⟨z0, z1, z2, z3⟩ := hma.cells
            have b5 : Boxed w7 (B3 + 1 + 1) 129 (.map (some (B3 + 1))) := (hk7.block _ b4.lt (by simp)).trans b4
            have b6 := b5.cell
            clear b4 b5
            have HM7 := Lib.hid (hmj.kp0 hk7)
            have HK7 := Lib.hid ((hkj.up hk7 (by simp) : Kp [B3 + 1] W2 w7))
            have HLS := Lib.hid (fun s => labT_snoc hxx f s)
            have hsx := (HYT.out.2.2.1 x (List.mem_of_getElem? hxx)).1.2
            have HSX := Lib.hid hsx
            clear hr hkwr hma hk7 hmj hkj hNj hj hxx hsx
            by_cases h23 : x.key = 23
            · have HLS2 := Lib.hid (show ∀ s, (s == x.val || labT (y.l.take j) f s) = labT (y.l.take (j + 1)) f s from fun s => by rw [HLS.out s, h23, BEq.comm (a := s)]; rfl)
              rw [h23] at c0 z0 hw7
              gi_wp2_with (gi_at_mapUpdate; refine wpListIn_mapUpdate_own _ rfl _ _ _ 129 rfl 9 4 lawS Tryz.underlying129 _ (B3 + 1) N' D' rfl HM7.out.own (by have := HNJ.out; unfold maxLen; omega) _ _ (.string x.val) rfl rfl (keyS (by have := HSX.out; omega)) (.lit (.bool true)) [] (boolE true) ?_; intro w8 hown8 hgr8; have HM8 := Lib.hid ((LMap.put (by have := HSX.out; omega) HM7.out hown8).congr HLS2.out); have HK8 := Lib.hid (HK7.out.trans (Kp.of_grown hgr8)); clear hown8 hgr8)
              go_roundw
              case rel => exact ⟨j + 1, N' + 1, _, rfl, by omega, HM8.out, by have := HNJ.out; omega, HK8.out⟩
              case measure => simp only [intOf]; omega
            · have h23b : (x.key == 23) = false := by simpa using h23
              have HLS2 := Lib.hid (show ∀ s, labT (y.l.take j) f s = labT (y.l.take (j + 1)) f s from fun s => by rw [HLS.out s, h23b]; simp)
              gi_wp2
              go_roundw
              case rel => exact ⟨j + 1, N', D', rfl, by omega, HM7.out.congr HLS2.out, by have := HNJ.out; omega, HK7.out⟩
              case measure => simp only [intOf]; omega
          · have hje : j = y.l.length := by omega
            have hjz : ¬ (j : Int) < (y.l.length : Int) := by omega
            have HE := Lib.hid (show KeepsFrom (B3 + 1 + 1 + 1 + 1) W wr ∧ Kq OB (B3 + 1 + 1 + 1) W wr ∧ St w OB B3 L.length (fo (pre ++ [x])) (pre ++ [x]).length wr from by
              have hke : Kp [OB, B3 + 1] W wr := HKW.out.up HKJ.out (fun x hx => .inl (by simp at hx; simp [hx]))
              obtain ⟨q1, q2⟩ := kf_of hke hO3 HN6.out
              refine ⟨q1, q2, ?_⟩
              rw [HST.out, hlen]
              refine HI.out.next hke hO3 (by omega) ((HKJ.out.block _ (block_lt HS4.out) (by simp; omega)).trans HS4.out) (by rw [List.length_set]; exact hOl) ⟨N', D', ?_, by have := HNJ.out; omega⟩
              refine HMJ.out.congr fun s => ?_
              rw [hje, List.take_length]
              rfl)
            clear hmj hNj hkj hje
            gi_wp2
            exact HE.out
  case done =>
    rintro D xs W hD hxs hi hK
    have hfo : (fo xs).2 = outL L := by unfold fo; rw [hxs]; exact back_all fun x hx => (hin x hx).2
    have c3 := hi.b3.cell
    have HI2 := Lib.hid (hi.own hO3 hOw (grownBy_putObj' W D (.deferred none)) fun r e => by cases e; omega)
    have HF := Lib.hid hfo
    clear hfo hi hin hrow hrow6 hr hSt hbs
    go_wp2
    refine ⟨by simp, .inl ⟨_, _, rfl, run_takeDeferred hK, ?_⟩⟩
    refine ⟨_, results_tmp rfl _ _ _, _, rfl, ?_, HI2.out.kp⟩
    have := HI2.out.out.own (show w.heap.size ≤ OB by omega) HI2.out.len (by omega)
    rw [HF.out] at this
    exact this
  case stop =>
    intro D cd pre W _ _ h
    exact h.elim
end Go.Proofs.YtkkibibecgcbmaaGreatDoor
