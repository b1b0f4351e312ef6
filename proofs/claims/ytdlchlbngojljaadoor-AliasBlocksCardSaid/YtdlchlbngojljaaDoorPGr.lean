/- A search, its skips and its steps. step: the least byte that both can take. -/
import Derived.Test.YtdlchlbngojljaaDoorPGlQ
namespace Go.Proofs.YtdlchlbngojljaaDoor.Gl
open Go.RowKit
structure SK where
 (ao bo : Option Addr)
 (ca cb ga gb Sb M1 M2 : Nat)
/-- The search of two alternatives lies in the block Sb. -/
structure SAt (K : SK) (a b : List El) (w : World) : Prop where
 blk : w.heap[K.Sb]? = some (.cells #[.slice K.ao a.length K.ca, .slice K.bo b.length K.cb, .map (some K.M1), .map (some K.M2)] 129 (0, 0))
 oa : 0 < a.length → K.ao = some ⟨K.ga, 0, none⟩
 ob : 0 < b.length → K.bo = some ⟨K.gb, 0, none⟩
 ea : ElsAt w K.ga a
 eb : ElsAt w K.gb b
 tab : TabAt w
theorem ElsAt.fr {X : Nat → Prop} {w w' : World} {g : Nat} {l : List El} (h : ElsAt w g l) (hf : Fr X w w') (hx : 0 < l.length → ¬ X g) : ElsAt w' g l := fun i e he => by
 have hl := (List.getElem?_eq_some_iff.1 he).1
 have hg := hx (by omega)
 obtain ⟨h1, h2, h3⟩ := h i e he
 have hlt := cell_lt h2
 exact ⟨fun j hj => (hf.cell (p := ⟨g, i * 6 + j, none⟩) hlt hg).trans (h1 j hj), (hf.cell (p := ⟨g, i * 6 + 4, none⟩) hlt hg).trans h2, (hf.cell (p := ⟨g, i * 6 + 5, none⟩) hlt hg).trans h3⟩
theorem SAt.fr {X : Nat → Prop} {K : SK} {a b : List El} {w w' : World} (h : SAt K a b w) (hf : Fr X w w') (hS : ¬ X K.Sb) (ha : 0 < a.length → ¬ X K.ga) (hb : 0 < b.length → ¬ X K.gb) (h1 : ¬ X 0) : SAt K a b w' :=
 ⟨(hf.block K.Sb (Array.getElem?_eq_some_iff.1 h.blk).1 hS).trans h.blk, h.oa, h.ob, h.ea.fr hf ha, h.eb.fr hf hb, fun k hk => (hf.cell (p := ⟨0, k, none⟩) h.tab.lt h1).trans (h.tab k hk)⟩
theorem SAt.below {K : SK} {a b : List El} {w w' : World} (h : SAt K a b w) (hb : Below w.heap.size w w') : SAt K a b w' := h.fr (X := fun _ => False) (Fr.of_below hb) (fun h => h) (fun _ h => h) (fun _ h => h) (fun h => h)
theorem info83 : (Tryd.prog.info? 132).map (fun i => (i.zero, i.size)) = some (some (.agg #[.int .i64 0, .int .i64 0]), 2) := by kernel_rfl
/-- The results (a pair in its cell, a bool). -/
theorem results_skip {f : Func} {w : World} {tmps : Array Value} {g : Nat} {c : Array Value} {ok : Bool} {fr : Nat × Nat} (hf : f.results = #[.cell 4 132, .tmp 5]) (hc : c.size = 2) (hp : tmps.getD 4 undef = .pointer (some ⟨g, 0, none⟩)) (hq : tmps.getD 5 undef = .bool ok) (hg : w.heap[g]? = some (.cells c 132 fr)) :
  (results f tmps).run Tryd.prog w = .ok (.tuple #[.agg c, .bool ok]) w := by
 have hi : (Tryd.prog.info? 132).map (·.size) = some c.size := by rw [hc]; exact (zero_of_info (P := Tryd.prog) info83).2
 have hl := run_loadVar_row (P := Tryd.prog) w g 132 132 c fr _ hg Tryd.underlying132 rfl hi
 have hp' : tmps[4]?.getD undef = .pointer (some ⟨g, 0, none⟩) := by simpa using hp
 have hq' : tmps[5]?.getD undef = .bool ok := by simpa using hq
 simp [results, hf, hp', hq', asAddr, hl, Result.andThen]
theorem two_stores {W : World} {g : Nat} {c : Array Value} {x y : Value} (h : W.heap[g]? = some (.cells c 132 (0, 0))) (hc : c.size = 2) : ((W.setCell ⟨g, 0, none⟩ x).setCell ⟨g, 1, none⟩ y).heap[g]? = some (.cells #[x, y] 132 (0, 0)) := by
 rw [block_setCell4 (block_setCell4 h x) y]
 obtain ⟨l⟩ := c
 match l, hc with
 | [_, _], _ => rfl
theorem below_two {W : World} {w : World} {B g : Nat} {x y : Value} (h : Below B w W) (hg : B ≤ g) : Below B w ((W.setCell ⟨g, 0, none⟩ x).setCell ⟨g, 1, none⟩ y) := (h.setCell hg x).setCell hg y
set_option maxHeartbeats 400000 in
set_option maxRecDepth 100000 in
theorem skipOurs_any (K : SK) (a b : List El) (i k : Nat) (w : World) (hS : SAt K a b w) (hi : i ≤ 4096) (hk : k ≤ 4096) (hal : a.length ≤ 4096) :
  Calls Tryd.prog 93 #[.pointer (some ⟨K.Sb, 0, none⟩), .agg #[.int .i64 i, .int .i64 k]] w (Bel (.tuple #[.agg #[.int .i64 ((i : Int) + 1), .int .i64 k], .bool (starAt a i)]) w) := by
 have hv := (zero_of_info (P := Tryd.prog) info83).1
 have hii : (i : Int) ≤ 4096 := by omega
 have hki : (k : Int) ≤ 4096 := by omega
 have s0 := cell_of_row w K.Sb 0 _ _ _ hS.blk
 simp only [List.getElem?_toArray, List.getElem?_cons_zero] at s0
 have hoa := hS.oa
 have hea := hS.ea
 have hlt := cell_lt s0
 obtain ⟨N, hN⟩ : ∃ N, a.length = N := ⟨_, rfl⟩
 have HN := Lib.hid hN
 rw [hN] at s0 hoa hal
 have hNi : (N : Int) ≤ 4096 := by omega
 obtain ⟨ao, bo, ca, cb, ga, gb, Sb, M1, M2⟩ := K
 simp only at *
 clear hN
 have Hea := Lib.hid hea
 clear hea hS
 by_cases hlt2 : (i : Int) < (N : Int)
 ·obtain rfl := hoa (by omega)
  obtain ⟨e, he⟩ : ∃ e, a[i]? = some e := ⟨a[i]'(by rw [HN.out]; omega), List.getElem?_eq_getElem _⟩
  have hst : starAt a i = e.star := by unfold starAt; rw [he]; rfl
  rw [hst]
  obtain ⟨_, h4, _⟩ := Hea.out i e he
  have hltg := cell_lt h4
  generalize e.star = st at *
  clear he hst
  go_enter Tryd.func93, Tryd.ntmps93
  go_wp2
  have g3 := box3_0 w (.cells #[.int .i64 i, .int .i64 k] 132) (.cells #[.int .i64 0, .int .i64 0] 132) (.cells #[.int .i64 ((i : Int) + 1), .int .i64 k] 132)
  have g4 := box3_1 w (.cells #[.int .i64 i, .int .i64 k] 132) (.cells #[.int .i64 0, .int .i64 0] 132) (.cells #[.int .i64 ((i : Int) + 1), .int .i64 k] 132)
  have g6 := box3_2 w (.cells #[.int .i64 i, .int .i64 k] 132) (.cells #[.int .i64 0, .int .i64 0] 132) (.cells #[.int .i64 ((i : Int) + 1), .int .i64 k] 132)
  have gb' := box3_below w (.cells #[.int .i64 i, .int .i64 k] 132) (.cells #[.int .i64 0, .int .i64 0] 132) (.cells #[.int .i64 ((i : Int) + 1), .int .i64 k] 132)
  generalize ((w.alloc (.cells #[.int .i64 i, .int .i64 k] 132)).alloc (.cells #[.int .i64 0, .int .i64 0] 132)).alloc (.cells #[.int .i64 ((i : Int) + 1), .int .i64 k] 132) = W at *
  have c30 := cell_of_row W w.heap.size 0 _ _ _ g3
  have c31 := cell_of_row W w.heap.size 1 _ _ _ g3
  have c40 := cell_of_row W (w.heap.size + 1) 0 _ _ _ g4
  have c41 := cell_of_row W (w.heap.size + 1) 1 _ _ _ g4
  have c60 := cell_of_row W (w.heap.size + 2) 0 _ _ _ g6
  have c61 := cell_of_row W (w.heap.size + 2) 1 _ _ _ g6
  have f40 := frozen_of_row W (w.heap.size + 1) 0 _ _ g4
  have f41 := frozen_of_row W (w.heap.size + 1) 1 _ _ g4
  have t0 := (gb'.cell (p := ⟨Sb, 0, none⟩) hlt).trans s0
  have t1 := (gb'.cell (p := ⟨ga, i * 6 + 4, none⟩) hltg).trans h4
  simp only [List.getElem?_toArray, List.getElem?_cons_zero, List.getElem?_cons_succ] at c30 c31 c40 c41 c60 c61
  have G4 := Lib.hid g4
  have Gb := Lib.hid gb'
  clear g3 g4 g6 gb' s0 h4
  go_region
  all_goals
   go_wp2
   exact bodyPost_ret (results_skip (c := #[.int .i64 ((i : Int) + 1), .int .i64 k]) rfl rfl rfl rfl (two_stores G4.out rfl)) rfl ⟨rfl, (below_two Gb.out (by omega)).drew⟩
 ·have hst : starAt a i = false := by
   unfold starAt
   rw [List.getElem?_eq_none (by rw [HN.out]; omega)]
   rfl
  rw [hst]
  go_enter Tryd.func93, Tryd.ntmps93
  go_wp2
  have g3 := box3_0 w (.cells #[.int .i64 i, .int .i64 k] 132) (.cells #[.int .i64 0, .int .i64 0] 132) (.cells #[.int .i64 ((i : Int) + 1), .int .i64 k] 132)
  have g4 := box3_1 w (.cells #[.int .i64 i, .int .i64 k] 132) (.cells #[.int .i64 0, .int .i64 0] 132) (.cells #[.int .i64 ((i : Int) + 1), .int .i64 k] 132)
  have g6 := box3_2 w (.cells #[.int .i64 i, .int .i64 k] 132) (.cells #[.int .i64 0, .int .i64 0] 132) (.cells #[.int .i64 ((i : Int) + 1), .int .i64 k] 132)
  have gb' := box3_below w (.cells #[.int .i64 i, .int .i64 k] 132) (.cells #[.int .i64 0, .int .i64 0] 132) (.cells #[.int .i64 ((i : Int) + 1), .int .i64 k] 132)
  generalize ((w.alloc (.cells #[.int .i64 i, .int .i64 k] 132)).alloc (.cells #[.int .i64 0, .int .i64 0] 132)).alloc (.cells #[.int .i64 ((i : Int) + 1), .int .i64 k] 132) = W at *
  have c30 := cell_of_row W w.heap.size 0 _ _ _ g3
  have c31 := cell_of_row W w.heap.size 1 _ _ _ g3
  have c40 := cell_of_row W (w.heap.size + 1) 0 _ _ _ g4
  have c41 := cell_of_row W (w.heap.size + 1) 1 _ _ _ g4
  have c60 := cell_of_row W (w.heap.size + 2) 0 _ _ _ g6
  have c61 := cell_of_row W (w.heap.size + 2) 1 _ _ _ g6
  have f40 := frozen_of_row W (w.heap.size + 1) 0 _ _ g4
  have f41 := frozen_of_row W (w.heap.size + 1) 1 _ _ g4
  have t0 := (gb'.cell (p := ⟨Sb, 0, none⟩) hlt).trans s0
  simp only [List.getElem?_toArray, List.getElem?_cons_zero, List.getElem?_cons_succ] at c30 c31 c40 c41 c60 c61
  have G4 := Lib.hid g4
  have Gb := Lib.hid gb'
  have hpd : decide (i < N) = false := decide_eq_false (by omega)
  have hpd2 : decide ((i : Int) < (N : Int)) = false := decide_eq_false (by omega)
  clear g3 g4 g6 gb' s0
  go_region
  all_goals
   go_wp2
   exact bodyPost_ret (results_skip (c := #[.int .i64 ((i : Int) + 1), .int .i64 k]) rfl rfl rfl rfl (two_stores G4.out rfl)) rfl ⟨rfl, (below_two Gb.out (by omega)).drew⟩
set_option maxHeartbeats 400000 in
set_option maxRecDepth 100000 in
theorem skipTheirs_any (K : SK) (a b : List El) (i k : Nat) (w : World) (hS : SAt K a b w) (hi : i ≤ 4096) (hk : k ≤ 4096) (hal : b.length ≤ 4096) :
  Calls Tryd.prog 94 #[.pointer (some ⟨K.Sb, 0, none⟩), .agg #[.int .i64 i, .int .i64 k]] w (Bel (.tuple #[.agg #[.int .i64 i, .int .i64 ((k : Int) + 1)], .bool (starAt b k)]) w) := by
 have hv := (zero_of_info (P := Tryd.prog) info83).1
 have hii : (i : Int) ≤ 4096 := by omega
 have hki : (k : Int) ≤ 4096 := by omega
 have s0 := cell_of_row w K.Sb 1 _ _ _ hS.blk
 simp only [List.getElem?_toArray, List.getElem?_cons_zero, List.getElem?_cons_succ] at s0
 have hoa := hS.ob
 have hea := hS.eb
 have hlt := cell_lt s0
 obtain ⟨N, hN⟩ : ∃ N, b.length = N := ⟨_, rfl⟩
 have HN := Lib.hid hN
 rw [hN] at s0 hoa hal
 have hNi : (N : Int) ≤ 4096 := by omega
 obtain ⟨ao, bo, ca, cb, ga, gb, Sb, M1, M2⟩ := K
 simp only at *
 clear hN
 have Hea := Lib.hid hea
 clear hea hS
 by_cases hlt2 : (k : Int) < (N : Int)
 ·obtain rfl := hoa (by omega)
  obtain ⟨e, he⟩ : ∃ e, b[k]? = some e := ⟨b[k]'(by rw [HN.out]; omega), List.getElem?_eq_getElem _⟩
  have hst : starAt b k = e.star := by unfold starAt; rw [he]; rfl
  rw [hst]
  obtain ⟨_, h4, _⟩ := Hea.out k e he
  have hltg := cell_lt h4
  generalize e.star = st at *
  clear he hst
  go_enter Tryd.func94, Tryd.ntmps94
  go_wp2
  have g3 := box3_0 w (.cells #[.int .i64 i, .int .i64 k] 132) (.cells #[.int .i64 0, .int .i64 0] 132) (.cells #[.int .i64 i, .int .i64 ((k : Int) + 1)] 132)
  have g4 := box3_1 w (.cells #[.int .i64 i, .int .i64 k] 132) (.cells #[.int .i64 0, .int .i64 0] 132) (.cells #[.int .i64 i, .int .i64 ((k : Int) + 1)] 132)
  have g6 := box3_2 w (.cells #[.int .i64 i, .int .i64 k] 132) (.cells #[.int .i64 0, .int .i64 0] 132) (.cells #[.int .i64 i, .int .i64 ((k : Int) + 1)] 132)
  have gb' := box3_below w (.cells #[.int .i64 i, .int .i64 k] 132) (.cells #[.int .i64 0, .int .i64 0] 132) (.cells #[.int .i64 i, .int .i64 ((k : Int) + 1)] 132)
  generalize ((w.alloc (.cells #[.int .i64 i, .int .i64 k] 132)).alloc (.cells #[.int .i64 0, .int .i64 0] 132)).alloc (.cells #[.int .i64 i, .int .i64 ((k : Int) + 1)] 132) = W at *
  have c30 := cell_of_row W w.heap.size 0 _ _ _ g3
  have c31 := cell_of_row W w.heap.size 1 _ _ _ g3
  have c40 := cell_of_row W (w.heap.size + 1) 0 _ _ _ g4
  have c41 := cell_of_row W (w.heap.size + 1) 1 _ _ _ g4
  have c60 := cell_of_row W (w.heap.size + 2) 0 _ _ _ g6
  have c61 := cell_of_row W (w.heap.size + 2) 1 _ _ _ g6
  have f40 := frozen_of_row W (w.heap.size + 1) 0 _ _ g4
  have f41 := frozen_of_row W (w.heap.size + 1) 1 _ _ g4
  have t0 := (gb'.cell (p := ⟨Sb, 1, none⟩) hlt).trans s0
  have t1 := (gb'.cell (p := ⟨gb, k * 6 + 4, none⟩) hltg).trans h4
  simp only [List.getElem?_toArray, List.getElem?_cons_zero, List.getElem?_cons_succ] at c30 c31 c40 c41 c60 c61
  have G4 := Lib.hid g4
  have Gb := Lib.hid gb'
  clear g3 g4 g6 gb' s0 h4
  go_region
  all_goals
   go_wp2
   exact bodyPost_ret (results_skip (c := #[.int .i64 i, .int .i64 ((k : Int) + 1)]) rfl rfl rfl rfl (two_stores G4.out rfl)) rfl ⟨rfl, (below_two Gb.out (by omega)).drew⟩
 ·have hst : starAt b k = false := by
   unfold starAt
   rw [List.getElem?_eq_none (by rw [HN.out]; omega)]
   rfl
  rw [hst]
  go_enter Tryd.func94, Tryd.ntmps94
  go_wp2
  have g3 := box3_0 w (.cells #[.int .i64 i, .int .i64 k] 132) (.cells #[.int .i64 0, .int .i64 0] 132) (.cells #[.int .i64 i, .int .i64 ((k : Int) + 1)] 132)
  have g4 := box3_1 w (.cells #[.int .i64 i, .int .i64 k] 132) (.cells #[.int .i64 0, .int .i64 0] 132) (.cells #[.int .i64 i, .int .i64 ((k : Int) + 1)] 132)
  have g6 := box3_2 w (.cells #[.int .i64 i, .int .i64 k] 132) (.cells #[.int .i64 0, .int .i64 0] 132) (.cells #[.int .i64 i, .int .i64 ((k : Int) + 1)] 132)
  have gb' := box3_below w (.cells #[.int .i64 i, .int .i64 k] 132) (.cells #[.int .i64 0, .int .i64 0] 132) (.cells #[.int .i64 i, .int .i64 ((k : Int) + 1)] 132)
  generalize ((w.alloc (.cells #[.int .i64 i, .int .i64 k] 132)).alloc (.cells #[.int .i64 0, .int .i64 0] 132)).alloc (.cells #[.int .i64 i, .int .i64 ((k : Int) + 1)] 132) = W at *
  have c30 := cell_of_row W w.heap.size 0 _ _ _ g3
  have c31 := cell_of_row W w.heap.size 1 _ _ _ g3
  have c40 := cell_of_row W (w.heap.size + 1) 0 _ _ _ g4
  have c41 := cell_of_row W (w.heap.size + 1) 1 _ _ _ g4
  have c60 := cell_of_row W (w.heap.size + 2) 0 _ _ _ g6
  have c61 := cell_of_row W (w.heap.size + 2) 1 _ _ _ g6
  have f40 := frozen_of_row W (w.heap.size + 1) 0 _ _ g4
  have f41 := frozen_of_row W (w.heap.size + 1) 1 _ _ g4
  have t0 := (gb'.cell (p := ⟨Sb, 1, none⟩) hlt).trans s0
  simp only [List.getElem?_toArray, List.getElem?_cons_zero, List.getElem?_cons_succ] at c30 c31 c40 c41 c60 c61
  have G4 := Lib.hid g4
  have Gb := Lib.hid gb'
  have hpd : decide (k < N) = false := decide_eq_false (by omega)
  have hpd2 : decide ((k : Int) < (N : Int)) = false := decide_eq_false (by omega)
  clear g3 g4 g6 gb' s0
  go_region
  all_goals
   go_wp2
   exact bodyPost_ret (results_skip (c := #[.int .i64 i, .int .i64 ((k : Int) + 1)]) rfl rfl rfl rfl (two_stores G4.out rfl)) rfl ⟨rfl, (below_two Gb.out (by omega)).drew⟩
end Go.Proofs.YtdlchlbngojljaaDoor.Gl
namespace Go.Proofs.YtdlchlbngojljaaDoor.Gl
open Go.RowKit
def stepV (a b : List El) (i k : Nat) : Value := match a[i]?, b[k]? with
 | some e, some f => if e.star && f.star then .tuple #[.agg #[.int .i64 i, .int .i64 k], .int .u8 0, .bool false] else
  .tuple #[.agg #[.int .i64 ((if e.star then i else i + 1 : Nat) : Int), .int .i64 ((if f.star then k else k + 1 : Nat) : Int)], .int .u8 (((leastS fun c => e.set c && f.set c).getD 0).toNat : Int), .bool (leastS fun c => e.set c && f.set c).isSome]
 | _, _ => .tuple #[.agg #[.int .i64 i, .int .i64 k], .int .u8 0, .bool false]
theorem results_step {w : World} {tmps : Array Value} {g : Nat} {c : Array Value} {x y : Value} {fr : Nat × Nat} (hc : c.size = 2) (hp : tmps.getD 4 undef = .pointer (some ⟨g, 0, none⟩)) (hx : tmps.getD 5 undef = x) (hy : tmps.getD 6 undef = y) (hg : w.heap[g]? = some (.cells c 132 fr)) :
  (results Tryd.f95 tmps).run Tryd.prog w = .ok (.tuple #[.agg c, x, y]) w := by
 have hi : (Tryd.prog.info? 132).map (·.size) = some c.size := by rw [hc]; exact (zero_of_info (P := Tryd.prog) info83).2
 have hl := run_loadVar_row (P := Tryd.prog) w g 132 132 c fr _ hg Tryd.underlying132 rfl hi
 have hp' : tmps[4]?.getD undef = .pointer (some ⟨g, 0, none⟩) := by simpa using hp
 have hx' : tmps[5]?.getD undef = x := by simpa using hx
 have hy' : tmps[6]?.getD undef = y := by simpa using hy
 simp [results, hp', hx', hy', asAddr, hl, Result.andThen]
set_option maxHeartbeats 1000000 in
set_option maxRecDepth 100000 in
theorem step_any (K : SK) (a b : List El) (i k : Nat) (w : World) (hS : SAt K a b w) (hi : i ≤ a.length) (hk : k ≤ b.length) (hal : a.length ≤ 4096) (hbl : b.length ≤ 4096) :
  Calls Tryd.prog 95 #[.pointer (some ⟨K.Sb, 0, none⟩), .agg #[.int .i64 i, .int .i64 k]] w (Bel (stepV a b i k) w) := by
 have hv := (zero_of_info (P := Tryd.prog) info83).1
 have s0 := cell_of_row w K.Sb 0 _ _ _ hS.blk
 have s1 := cell_of_row w K.Sb 1 _ _ _ hS.blk
 simp only [List.getElem?_toArray, List.getElem?_cons_zero, List.getElem?_cons_succ] at s0 s1
 have hoa := hS.oa
 have hob := hS.ob
 have hea := hS.ea
 have heb := hS.eb
 have hT := hS.tab
 have hlt := cell_lt s0
 obtain ⟨N, hN⟩ : ∃ N, a.length = N := ⟨_, rfl⟩
 obtain ⟨M, hM⟩ : ∃ M, b.length = M := ⟨_, rfl⟩
 have HN := Lib.hid hN
 have HM := Lib.hid hM
 rw [hN] at s0 hoa hal hi
 rw [hM] at s1 hob hbl hk
 have hNi : (N : Int) ≤ 4096 := by omega
 have hMi : (M : Int) ≤ 4096 := by omega
 have hii : (i : Int) ≤ 4096 := by omega
 have hki : (k : Int) ≤ 4096 := by omega
 obtain ⟨ao, bo, ca, cb, ga, gb, Sb, M1, M2⟩ := K
 simp only at *
 have HS := Lib.hid hS
 have Hea := Lib.hid hea
 have Heb := Lib.hid heb
 have HT := Lib.hid hT
 clear hN hM hea heb hS hT
 by_cases hin : i = N
 ·subst hin
  have hst : stepV a b i k = .tuple #[.agg #[.int .i64 i, .int .i64 k], .int .u8 0, .bool false] := by
   unfold stepV
   rw [List.getElem?_eq_none (by rw [HN.out]; omega)]
  rw [hst]
  have hq : ((i : Int) == (i : Int)) = true := by simp
  clear hst
  have hg := box2_1 w (.cells #[.int .i64 i, .int .i64 k] 132) (.cells #[.int .i64 0, .int .i64 0] 132)
  have hg0 := box2_0 w (.cells #[.int .i64 i, .int .i64 k] 132) (.cells #[.int .i64 0, .int .i64 0] 132)
  have hbw := box2_below w (.cells #[.int .i64 i, .int .i64 k] 132) (.cells #[.int .i64 0, .int .i64 0] 132)
  have t0 := (hbw.cell (p := ⟨Sb, 0, none⟩) hlt).trans s0
  have t1 := (hbw.cell (p := ⟨Sb, 1, none⟩) hlt).trans s1
  go_enter Tryd.func95, Tryd.ntmps95
  go_wp2
  generalize (w.alloc (.cells #[.int .i64 i, .int .i64 k] 132)).alloc (.cells #[.int .i64 0, .int .i64 0] 132) = W at *
  have c30 := cell_of_row W w.heap.size 0 _ _ _ hg0
  have c31 := cell_of_row W w.heap.size 1 _ _ _ hg0
  have c40 := cell_of_row W (w.heap.size + 1) 0 _ _ _ hg
  have c41 := cell_of_row W (w.heap.size + 1) 1 _ _ _ hg
  have f40 := frozen_of_row W (w.heap.size + 1) 0 _ _ hg
  have f41 := frozen_of_row W (w.heap.size + 1) 1 _ _ hg
  simp only [List.getElem?_toArray, List.getElem?_cons_zero, List.getElem?_cons_succ] at c30 c31 c40 c41
  have Hg := Lib.hid hg
  have Hg0 := Lib.hid hg0
  have Hbw := Lib.hid hbw
  clear hg hg0 hbw
  go_quiet (fail)
  go_wp2
  exact bodyPost_ret (results_step (c := #[.int .i64 i, .int .i64 k]) rfl rfl rfl rfl (two_stores (by exact Hg.out) rfl)) rfl ⟨rfl, below_two (drewN_below Hbw.out _) (by omega)⟩
 by_cases hkm : k = M
 ·subst hkm
  have hst : stepV a b i k = .tuple #[.agg #[.int .i64 i, .int .i64 k], .int .u8 0, .bool false] := by
   unfold stepV
   rw [List.getElem?_eq_none (l := b) (by rw [HM.out]; omega)]
   split
   ·rename_i h1 h2; simp at h2
   ·rfl
  rw [hst]
  have hq0 : ((i : Int) == (N : Int)) = false := by rw [beq_eq_false_iff_ne]; omega
  have hq : ((k : Int) == (k : Int)) = true := by simp
  clear hst
  have hg := box2_1 w (.cells #[.int .i64 i, .int .i64 k] 132) (.cells #[.int .i64 0, .int .i64 0] 132)
  have hg0 := box2_0 w (.cells #[.int .i64 i, .int .i64 k] 132) (.cells #[.int .i64 0, .int .i64 0] 132)
  have hbw := box2_below w (.cells #[.int .i64 i, .int .i64 k] 132) (.cells #[.int .i64 0, .int .i64 0] 132)
  have t0 := (hbw.cell (p := ⟨Sb, 0, none⟩) hlt).trans s0
  have t1 := (hbw.cell (p := ⟨Sb, 1, none⟩) hlt).trans s1
  go_enter Tryd.func95, Tryd.ntmps95
  go_wp2
  generalize (w.alloc (.cells #[.int .i64 i, .int .i64 k] 132)).alloc (.cells #[.int .i64 0, .int .i64 0] 132) = W at *
  have c30 := cell_of_row W w.heap.size 0 _ _ _ hg0
  have c31 := cell_of_row W w.heap.size 1 _ _ _ hg0
  have c40 := cell_of_row W (w.heap.size + 1) 0 _ _ _ hg
  have c41 := cell_of_row W (w.heap.size + 1) 1 _ _ _ hg
  have f40 := frozen_of_row W (w.heap.size + 1) 0 _ _ hg
  have f41 := frozen_of_row W (w.heap.size + 1) 1 _ _ hg
  simp only [List.getElem?_toArray, List.getElem?_cons_zero, List.getElem?_cons_succ] at c30 c31 c40 c41
  have Hg := Lib.hid hg
  have Hg0 := Lib.hid hg0
  have Hbw := Lib.hid hbw
  clear hg hg0 hbw
  go_quiet (fail)
  go_wp2
  exact bodyPost_ret (results_step (c := #[.int .i64 i, .int .i64 k]) rfl rfl rfl rfl (two_stores (by exact Hg.out) rfl)) rfl ⟨rfl, below_two (drewN_below Hbw.out _) (by omega)⟩
 have hiN : (i : Int) < (N : Int) := by omega
 have hkM : (k : Int) < (M : Int) := by omega
 obtain rfl := hoa (by omega)
 obtain rfl := hob (by omega)
 obtain ⟨e, he⟩ : ∃ e, a[i]? = some e := ⟨a[i]'(by rw [HN.out]; omega), List.getElem?_eq_getElem _⟩
 obtain ⟨f, hf⟩ : ∃ f, b[k]? = some f := ⟨b[k]'(by rw [HM.out]; omega), List.getElem?_eq_getElem _⟩
 obtain ⟨hes, he4, _⟩ := Hea.out i e he
 obtain ⟨hfs, hf4, _⟩ := Heb.out k f hf
 have hltga := cell_lt he4
 have hltgb := cell_lt hf4
 have hq0 : ((i : Int) == (N : Int)) = false := by rw [beq_eq_false_iff_ne]; omega
 have hq1 : ((k : Int) == (M : Int)) = false := by rw [beq_eq_false_iff_ne]; omega
 have hst : stepV a b i k = if e.star && f.star then .tuple #[.agg #[.int .i64 i, .int .i64 k], .int .u8 0, .bool false] else
  .tuple #[.agg #[.int .i64 ((if e.star then i else i + 1 : Nat) : Int), .int .i64 ((if f.star then k else k + 1 : Nat) : Int)], .int .u8 (((leastS fun c => e.set c && f.set c).getD 0).toNat : Int), .bool (leastS fun c => e.set c && f.set c).isSome] := by
  unfold stepV
  rw [he, hf]
 rw [hst]
 have w0 := hes 0 (by omega)
 have w1 := hes 1 (by omega)
 have w2 := hes 2 (by omega)
 have w3 := hes 3 (by omega)
 have v0 := hfs 0 (by omega)
 have v1 := hfs 1 (by omega)
 have v2 := hfs 2 (by omega)
 have v3 := hfs 3 (by omega)
 rw [Nat.add_zero] at w0 v0
 clear hst hes hfs he hf
 cases h1 : e.star with
 | true =>
  cases h2 : f.star with
  | true =>
   rw [h1] at he4
   rw [h2] at hf4
   have hg := box2_1 w (.cells #[.int .i64 i, .int .i64 k] 132) (.cells #[.int .i64 0, .int .i64 0] 132)
   have hg0 := box2_0 w (.cells #[.int .i64 i, .int .i64 k] 132) (.cells #[.int .i64 0, .int .i64 0] 132)
   have hbw := box2_below w (.cells #[.int .i64 i, .int .i64 k] 132) (.cells #[.int .i64 0, .int .i64 0] 132)
   have t0 := (hbw.cell (p := ⟨Sb, 0, none⟩) hlt).trans s0
   have t1 := (hbw.cell (p := ⟨Sb, 1, none⟩) hlt).trans s1
   go_enter Tryd.func95, Tryd.ntmps95
   go_wp2
   generalize (w.alloc (.cells #[.int .i64 i, .int .i64 k] 132)).alloc (.cells #[.int .i64 0, .int .i64 0] 132) = W at *
   have c30 := cell_of_row W w.heap.size 0 _ _ _ hg0
   have c31 := cell_of_row W w.heap.size 1 _ _ _ hg0
   have c40 := cell_of_row W (w.heap.size + 1) 0 _ _ _ hg
   have c41 := cell_of_row W (w.heap.size + 1) 1 _ _ _ hg
   have f40 := frozen_of_row W (w.heap.size + 1) 0 _ _ hg
   have f41 := frozen_of_row W (w.heap.size + 1) 1 _ _ hg
   simp only [List.getElem?_toArray, List.getElem?_cons_zero, List.getElem?_cons_succ] at c30 c31 c40 c41
   have Hg := Lib.hid hg
   have Hg0 := Lib.hid hg0
   have Hbw := Lib.hid hbw
   clear hg hg0 hbw
   have u4 := (Hbw.out.cell (p := ⟨ga, i * 6 + 4, none⟩) hltga).trans he4
   have x4 := (Hbw.out.cell (p := ⟨gb, k * 6 + 4, none⟩) hltgb).trans hf4
   go_quiet (fail)
   go_wp2
   go_quiet (fail)
   go_wp2
   all_goals exact bodyPost_ret (results_step (c := #[.int .i64 i, .int .i64 k]) rfl rfl rfl rfl (two_stores (by exact Hg.out) rfl)) rfl ⟨rfl, below_two (drewN_below Hbw.out _) (by omega)⟩
  | false =>
   rw [h1] at he4
   rw [h2] at hf4
   have hg := box2_1 w (.cells #[.int .i64 i, .int .i64 k] 132) (.cells #[.int .i64 0, .int .i64 0] 132)
   have hg0 := box2_0 w (.cells #[.int .i64 i, .int .i64 k] 132) (.cells #[.int .i64 0, .int .i64 0] 132)
   have hbw := box2_below w (.cells #[.int .i64 i, .int .i64 k] 132) (.cells #[.int .i64 0, .int .i64 0] 132)
   have t0 := (hbw.cell (p := ⟨Sb, 0, none⟩) hlt).trans s0
   have t1 := (hbw.cell (p := ⟨Sb, 1, none⟩) hlt).trans s1
   go_enter Tryd.func95, Tryd.ntmps95
   go_wp2
   generalize (w.alloc (.cells #[.int .i64 i, .int .i64 k] 132)).alloc (.cells #[.int .i64 0, .int .i64 0] 132) = W at *
   have c30 := cell_of_row W w.heap.size 0 _ _ _ hg0
   have c31 := cell_of_row W w.heap.size 1 _ _ _ hg0
   have c40 := cell_of_row W (w.heap.size + 1) 0 _ _ _ hg
   have c41 := cell_of_row W (w.heap.size + 1) 1 _ _ _ hg
   have f40 := frozen_of_row W (w.heap.size + 1) 0 _ _ hg
   have f41 := frozen_of_row W (w.heap.size + 1) 1 _ _ hg
   simp only [List.getElem?_toArray, List.getElem?_cons_zero, List.getElem?_cons_succ] at c30 c31 c40 c41
   have Hg := Lib.hid hg
   have Hg0 := Lib.hid hg0
   have Hbw := Lib.hid hbw
   clear hg hg0 hbw
   have f30 := frozen_of_row W w.heap.size 0 _ _ Hg0.out
   have f31 := frozen_of_row W w.heap.size 1 _ _ Hg0.out
   have u4 := (Hbw.out.cell (p := ⟨ga, i * 6 + 4, none⟩) hltga).trans he4
   have x4 := (Hbw.out.cell (p := ⟨gb, k * 6 + 4, none⟩) hltgb).trans hf4
   have n1 : w.heap.size ≠ ga := by omega
   have n2 : w.heap.size ≠ gb := by omega
   clear he4 hf4 s0 s1
   go_quiet (fail)
   revert nq
   intro m1
   go_wp2
   go_quiet (fail)
   go_wp2
   have hb5 : Below w.heap.size w ((W.drewN (m1 + nq)).setCell ⟨w.heap.size, 1, none⟩ (.int .i64 ((k : Int) + 1))) := ((drewN_below Hbw.out (m1 + nq)).setCell (Nat.le_refl _) _)
   have h3 : ((W.drewN (m1 + nq)).setCell ⟨w.heap.size, 1, none⟩ (.int .i64 ((k : Int) + 1))).heap[w.heap.size]? = some (.cells #[.int .i64 i, .int .i64 ((k : Int) + 1)] 132 (0, 0)) := (block_setCell4 (show (W.drewN (m1 + nq)).heap[w.heap.size]? = _ from Hg0.out) (.int .i64 ((k : Int) + 1)))
   have h4 : ((W.drewN (m1 + nq)).setCell ⟨w.heap.size, 1, none⟩ (.int .i64 ((k : Int) + 1))).heap[w.heap.size + 1]? = some (.cells #[.int .i64 0, .int .i64 0] 132 (0, 0)) := by
    rw [Below.heap_setCell _ _ _ _ (by simp)]
    exact Hg.out
   clear c30 c31 c40 c41 f40 f41 f30 f31 u4 x4 t0 t1
   generalize ((W.drewN (m1 + nq)).setCell ⟨w.heap.size, 1, none⟩ (.int .i64 ((k : Int) + 1))) = W5 at *
   have y0 := (hb5.cell (p := ⟨ga, i * 6, none⟩) hltga).trans w0
   have y1 := (hb5.cell (p := ⟨ga, i * 6 + 1, none⟩) hltga).trans w1
   have y2 := (hb5.cell (p := ⟨ga, i * 6 + 2, none⟩) hltga).trans w2
   have y3 := (hb5.cell (p := ⟨ga, i * 6 + 3, none⟩) hltga).trans w3
   have z0 := (hb5.cell (p := ⟨gb, k * 6, none⟩) hltgb).trans v0
   have z1 := (hb5.cell (p := ⟨gb, k * 6 + 1, none⟩) hltgb).trans v1
   have z2 := (hb5.cell (p := ⟨gb, k * 6 + 2, none⟩) hltgb).trans v2
   have z3 := (hb5.cell (p := ⟨gb, k * 6 + 3, none⟩) hltgb).trans v3
   have hsz5 : w.heap.size + 1 < W5.heap.size := (Array.getElem?_eq_some_iff.1 h4).1
   have hlv := fun W h => least_any (fun c => e.set c && f.set c) W h
   simp only [leastV_eq] at hlv
   have hbo := both_any e.set f.set
   obtain ⟨R, hR⟩ : ∃ R : UInt8 → Bool, (fun c => e.set c && f.set c) = R := ⟨_, rfl⟩
   rw [hR] at hbo
   simp only [hR] at hlv
   have Hboth := Lib.hid hbo
   have Hleast := Lib.hid hlv
   have Hb5 := Lib.hid hb5
   have H3 := Lib.hid h3
   have H4 := Lib.hid h4
   clear hbo hlv hb5 h3 h4 w0 w1 w2 w3 v0 v1 v2 v3
   go_region_with (first
    | (go_at_call 101; refine (Hboth.out _).mono ?_; rintro ed W6 ⟨rfl, hb6⟩)
    | (go_at_call 84; refine (Hleast.out _ (HT.out.below (Hb5.out.drew.trans (hb6.mono Hb5.out.size)))).mono ?_; rintro ed W7 ⟨rfl, hb7⟩))
   all_goals
    have hb67 := hb6.trans (hb7.mono hb6.size)
    have q3 := (hb67.block w.heap.size (Nat.lt_of_succ_lt hsz5)).trans H3.out
    have q4 := (hb67.block (w.heap.size + 1) hsz5).trans H4.out
    have Hbz := Lib.hid (Hb5.out.drew.trans (hb67.mono Hb5.out.size))
    have d0 := cell_of_row W7 w.heap.size 0 _ _ _ q3
    have d1 := cell_of_row W7 w.heap.size 1 _ _ _ q3
    have d2 := cell_of_row W7 (w.heap.size + 1) 0 _ _ _ q4
    have d3 := cell_of_row W7 (w.heap.size + 1) 1 _ _ _ q4
    have d4 := frozen_of_row W7 (w.heap.size + 1) 0 _ _ q4
    have d5 := frozen_of_row W7 (w.heap.size + 1) 1 _ _ q4
    simp only [List.getElem?_toArray, List.getElem?_cons_zero, List.getElem?_cons_succ] at d0 d1 d2 d3
    have Q4 := Lib.hid q4
    clear q3 q4 hb67 hb6 hb7
    go_wp2
    refine bodyPost_ret (results_step (c := #[.int .i64 i, .int .i64 ((k : Int) + 1)]) rfl rfl rfl rfl (two_stores (by exact Q4.out) rfl)) rfl ⟨?_, below_two Hbz.out (by omega)⟩
    subst hR
    simp
 | false =>
  cases h2 : f.star with
  | true =>
   rw [h1] at he4
   rw [h2] at hf4
   have hg := box2_1 w (.cells #[.int .i64 i, .int .i64 k] 132) (.cells #[.int .i64 0, .int .i64 0] 132)
   have hg0 := box2_0 w (.cells #[.int .i64 i, .int .i64 k] 132) (.cells #[.int .i64 0, .int .i64 0] 132)
   have hbw := box2_below w (.cells #[.int .i64 i, .int .i64 k] 132) (.cells #[.int .i64 0, .int .i64 0] 132)
   have t0 := (hbw.cell (p := ⟨Sb, 0, none⟩) hlt).trans s0
   have t1 := (hbw.cell (p := ⟨Sb, 1, none⟩) hlt).trans s1
   go_enter Tryd.func95, Tryd.ntmps95
   go_wp2
   generalize (w.alloc (.cells #[.int .i64 i, .int .i64 k] 132)).alloc (.cells #[.int .i64 0, .int .i64 0] 132) = W at *
   have c30 := cell_of_row W w.heap.size 0 _ _ _ hg0
   have c31 := cell_of_row W w.heap.size 1 _ _ _ hg0
   have c40 := cell_of_row W (w.heap.size + 1) 0 _ _ _ hg
   have c41 := cell_of_row W (w.heap.size + 1) 1 _ _ _ hg
   have f40 := frozen_of_row W (w.heap.size + 1) 0 _ _ hg
   have f41 := frozen_of_row W (w.heap.size + 1) 1 _ _ hg
   simp only [List.getElem?_toArray, List.getElem?_cons_zero, List.getElem?_cons_succ] at c30 c31 c40 c41
   have Hg := Lib.hid hg
   have Hg0 := Lib.hid hg0
   have Hbw := Lib.hid hbw
   clear hg hg0 hbw
   have f30 := frozen_of_row W w.heap.size 0 _ _ Hg0.out
   have f31 := frozen_of_row W w.heap.size 1 _ _ Hg0.out
   have u4 := (Hbw.out.cell (p := ⟨ga, i * 6 + 4, none⟩) hltga).trans he4
   have x4 := (Hbw.out.cell (p := ⟨gb, k * 6 + 4, none⟩) hltgb).trans hf4
   have n1 : w.heap.size ≠ ga := by omega
   have n2 : w.heap.size ≠ gb := by omega
   clear he4 hf4 s0 s1
   go_quiet (fail)
   revert nq
   intro m1
   go_wp2
   go_quiet (fail)
   go_wp2
   have hb5 : Below w.heap.size w ((W.drewN (m1 + nq)).setCell ⟨w.heap.size, 0, none⟩ (.int .i64 ((i : Int) + 1))) := ((drewN_below Hbw.out (m1 + nq)).setCell (Nat.le_refl _) _)
   have h3 : ((W.drewN (m1 + nq)).setCell ⟨w.heap.size, 0, none⟩ (.int .i64 ((i : Int) + 1))).heap[w.heap.size]? = some (.cells #[.int .i64 ((i : Int) + 1), .int .i64 k] 132 (0, 0)) := (block_setCell4 (show (W.drewN (m1 + nq)).heap[w.heap.size]? = _ from Hg0.out) (.int .i64 ((i : Int) + 1)))
   have h4 : ((W.drewN (m1 + nq)).setCell ⟨w.heap.size, 0, none⟩ (.int .i64 ((i : Int) + 1))).heap[w.heap.size + 1]? = some (.cells #[.int .i64 0, .int .i64 0] 132 (0, 0)) := by
    rw [Below.heap_setCell _ _ _ _ (by simp)]
    exact Hg.out
   clear c30 c31 c40 c41 f40 f41 f30 f31 u4 x4 t0 t1
   generalize ((W.drewN (m1 + nq)).setCell ⟨w.heap.size, 0, none⟩ (.int .i64 ((i : Int) + 1))) = W5 at *
   have y0 := (hb5.cell (p := ⟨ga, i * 6, none⟩) hltga).trans w0
   have y1 := (hb5.cell (p := ⟨ga, i * 6 + 1, none⟩) hltga).trans w1
   have y2 := (hb5.cell (p := ⟨ga, i * 6 + 2, none⟩) hltga).trans w2
   have y3 := (hb5.cell (p := ⟨ga, i * 6 + 3, none⟩) hltga).trans w3
   have z0 := (hb5.cell (p := ⟨gb, k * 6, none⟩) hltgb).trans v0
   have z1 := (hb5.cell (p := ⟨gb, k * 6 + 1, none⟩) hltgb).trans v1
   have z2 := (hb5.cell (p := ⟨gb, k * 6 + 2, none⟩) hltgb).trans v2
   have z3 := (hb5.cell (p := ⟨gb, k * 6 + 3, none⟩) hltgb).trans v3
   have hsz5 : w.heap.size + 1 < W5.heap.size := (Array.getElem?_eq_some_iff.1 h4).1
   have hlv := fun W h => least_any (fun c => e.set c && f.set c) W h
   simp only [leastV_eq] at hlv
   have hbo := both_any e.set f.set
   obtain ⟨R, hR⟩ : ∃ R : UInt8 → Bool, (fun c => e.set c && f.set c) = R := ⟨_, rfl⟩
   rw [hR] at hbo
   simp only [hR] at hlv
   have Hboth := Lib.hid hbo
   have Hleast := Lib.hid hlv
   have Hb5 := Lib.hid hb5
   have H3 := Lib.hid h3
   have H4 := Lib.hid h4
   clear hbo hlv hb5 h3 h4 w0 w1 w2 w3 v0 v1 v2 v3
   go_region_with (first
    | (go_at_call 101; refine (Hboth.out _).mono ?_; rintro ed W6 ⟨rfl, hb6⟩)
    | (go_at_call 84; refine (Hleast.out _ (HT.out.below (Hb5.out.drew.trans (hb6.mono Hb5.out.size)))).mono ?_; rintro ed W7 ⟨rfl, hb7⟩))
   all_goals
    have hb67 := hb6.trans (hb7.mono hb6.size)
    have q3 := (hb67.block w.heap.size (Nat.lt_of_succ_lt hsz5)).trans H3.out
    have q4 := (hb67.block (w.heap.size + 1) hsz5).trans H4.out
    have Hbz := Lib.hid (Hb5.out.drew.trans (hb67.mono Hb5.out.size))
    have d0 := cell_of_row W7 w.heap.size 0 _ _ _ q3
    have d1 := cell_of_row W7 w.heap.size 1 _ _ _ q3
    have d2 := cell_of_row W7 (w.heap.size + 1) 0 _ _ _ q4
    have d3 := cell_of_row W7 (w.heap.size + 1) 1 _ _ _ q4
    have d4 := frozen_of_row W7 (w.heap.size + 1) 0 _ _ q4
    have d5 := frozen_of_row W7 (w.heap.size + 1) 1 _ _ q4
    simp only [List.getElem?_toArray, List.getElem?_cons_zero, List.getElem?_cons_succ] at d0 d1 d2 d3
    have Q4 := Lib.hid q4
    clear q3 q4 hb67 hb6 hb7
    go_wp2
    refine bodyPost_ret (results_step (c := #[.int .i64 ((i : Int) + 1), .int .i64 k]) rfl rfl rfl rfl (two_stores (by exact Q4.out) rfl)) rfl ⟨?_, below_two Hbz.out (by omega)⟩
    subst hR
    simp
  | false =>
   rw [h1] at he4
   rw [h2] at hf4
   have hg := box2_1 w (.cells #[.int .i64 i, .int .i64 k] 132) (.cells #[.int .i64 0, .int .i64 0] 132)
   have hg0 := box2_0 w (.cells #[.int .i64 i, .int .i64 k] 132) (.cells #[.int .i64 0, .int .i64 0] 132)
   have hbw := box2_below w (.cells #[.int .i64 i, .int .i64 k] 132) (.cells #[.int .i64 0, .int .i64 0] 132)
   have t0 := (hbw.cell (p := ⟨Sb, 0, none⟩) hlt).trans s0
   have t1 := (hbw.cell (p := ⟨Sb, 1, none⟩) hlt).trans s1
   go_enter Tryd.func95, Tryd.ntmps95
   go_wp2
   generalize (w.alloc (.cells #[.int .i64 i, .int .i64 k] 132)).alloc (.cells #[.int .i64 0, .int .i64 0] 132) = W at *
   have c30 := cell_of_row W w.heap.size 0 _ _ _ hg0
   have c31 := cell_of_row W w.heap.size 1 _ _ _ hg0
   have c40 := cell_of_row W (w.heap.size + 1) 0 _ _ _ hg
   have c41 := cell_of_row W (w.heap.size + 1) 1 _ _ _ hg
   have f40 := frozen_of_row W (w.heap.size + 1) 0 _ _ hg
   have f41 := frozen_of_row W (w.heap.size + 1) 1 _ _ hg
   simp only [List.getElem?_toArray, List.getElem?_cons_zero, List.getElem?_cons_succ] at c30 c31 c40 c41
   have Hg := Lib.hid hg
   have Hg0 := Lib.hid hg0
   have Hbw := Lib.hid hbw
   clear hg hg0 hbw
   have f30 := frozen_of_row W w.heap.size 0 _ _ Hg0.out
   have f31 := frozen_of_row W w.heap.size 1 _ _ Hg0.out
   have u4 := (Hbw.out.cell (p := ⟨ga, i * 6 + 4, none⟩) hltga).trans he4
   have x4 := (Hbw.out.cell (p := ⟨gb, k * 6 + 4, none⟩) hltgb).trans hf4
   have n1 : w.heap.size ≠ ga := by omega
   have n2 : w.heap.size ≠ gb := by omega
   clear he4 hf4 s0 s1
   go_quiet (fail)
   revert nq
   intro m1
   go_wp2
   go_quiet (fail)
   go_wp2
   have hb5 : Below w.heap.size w (((W.drewN (m1 + nq)).setCell ⟨w.heap.size, 0, none⟩ (.int .i64 ((i : Int) + 1))).setCell ⟨w.heap.size, 1, none⟩ (.int .i64 ((k : Int) + 1))) := (((drewN_below Hbw.out (m1 + nq)).setCell (Nat.le_refl _) _).setCell (Nat.le_refl _) _)
   have h3 : (((W.drewN (m1 + nq)).setCell ⟨w.heap.size, 0, none⟩ (.int .i64 ((i : Int) + 1))).setCell ⟨w.heap.size, 1, none⟩ (.int .i64 ((k : Int) + 1))).heap[w.heap.size]? = some (.cells #[.int .i64 ((i : Int) + 1), .int .i64 ((k : Int) + 1)] 132 (0, 0)) := (block_setCell4 (block_setCell4 (show (W.drewN (m1 + nq)).heap[w.heap.size]? = _ from Hg0.out) (.int .i64 ((i : Int) + 1))) (.int .i64 ((k : Int) + 1)))
   have h4 : (((W.drewN (m1 + nq)).setCell ⟨w.heap.size, 0, none⟩ (.int .i64 ((i : Int) + 1))).setCell ⟨w.heap.size, 1, none⟩ (.int .i64 ((k : Int) + 1))).heap[w.heap.size + 1]? = some (.cells #[.int .i64 0, .int .i64 0] 132 (0, 0)) := by
    rw [Below.heap_setCell _ _ _ _ (by simp), Below.heap_setCell _ _ _ _ (by simp)]
    exact Hg.out
   clear c30 c31 c40 c41 f40 f41 f30 f31 u4 x4 t0 t1
   generalize (((W.drewN (m1 + nq)).setCell ⟨w.heap.size, 0, none⟩ (.int .i64 ((i : Int) + 1))).setCell ⟨w.heap.size, 1, none⟩ (.int .i64 ((k : Int) + 1))) = W5 at *
   have y0 := (hb5.cell (p := ⟨ga, i * 6, none⟩) hltga).trans w0
   have y1 := (hb5.cell (p := ⟨ga, i * 6 + 1, none⟩) hltga).trans w1
   have y2 := (hb5.cell (p := ⟨ga, i * 6 + 2, none⟩) hltga).trans w2
   have y3 := (hb5.cell (p := ⟨ga, i * 6 + 3, none⟩) hltga).trans w3
   have z0 := (hb5.cell (p := ⟨gb, k * 6, none⟩) hltgb).trans v0
   have z1 := (hb5.cell (p := ⟨gb, k * 6 + 1, none⟩) hltgb).trans v1
   have z2 := (hb5.cell (p := ⟨gb, k * 6 + 2, none⟩) hltgb).trans v2
   have z3 := (hb5.cell (p := ⟨gb, k * 6 + 3, none⟩) hltgb).trans v3
   have hsz5 : w.heap.size + 1 < W5.heap.size := (Array.getElem?_eq_some_iff.1 h4).1
   have hlv := fun W h => least_any (fun c => e.set c && f.set c) W h
   simp only [leastV_eq] at hlv
   have hbo := both_any e.set f.set
   obtain ⟨R, hR⟩ : ∃ R : UInt8 → Bool, (fun c => e.set c && f.set c) = R := ⟨_, rfl⟩
   rw [hR] at hbo
   simp only [hR] at hlv
   have Hboth := Lib.hid hbo
   have Hleast := Lib.hid hlv
   have Hb5 := Lib.hid hb5
   have H3 := Lib.hid h3
   have H4 := Lib.hid h4
   clear hbo hlv hb5 h3 h4 w0 w1 w2 w3 v0 v1 v2 v3
   go_region_with (first
    | (go_at_call 101; refine (Hboth.out _).mono ?_; rintro ed W6 ⟨rfl, hb6⟩)
    | (go_at_call 84; refine (Hleast.out _ (HT.out.below (Hb5.out.drew.trans (hb6.mono Hb5.out.size)))).mono ?_; rintro ed W7 ⟨rfl, hb7⟩))
   all_goals
    have hb67 := hb6.trans (hb7.mono hb6.size)
    have q3 := (hb67.block w.heap.size (Nat.lt_of_succ_lt hsz5)).trans H3.out
    have q4 := (hb67.block (w.heap.size + 1) hsz5).trans H4.out
    have Hbz := Lib.hid (Hb5.out.drew.trans (hb67.mono Hb5.out.size))
    have d0 := cell_of_row W7 w.heap.size 0 _ _ _ q3
    have d1 := cell_of_row W7 w.heap.size 1 _ _ _ q3
    have d2 := cell_of_row W7 (w.heap.size + 1) 0 _ _ _ q4
    have d3 := cell_of_row W7 (w.heap.size + 1) 1 _ _ _ q4
    have d4 := frozen_of_row W7 (w.heap.size + 1) 0 _ _ q4
    have d5 := frozen_of_row W7 (w.heap.size + 1) 1 _ _ q4
    simp only [List.getElem?_toArray, List.getElem?_cons_zero, List.getElem?_cons_succ] at d0 d1 d2 d3
    have Q4 := Lib.hid q4
    clear q3 q4 hb67 hb6 hb7
    go_wp2
    refine bodyPost_ret (results_step (c := #[.int .i64 ((i : Int) + 1), .int .i64 ((k : Int) + 1)]) rfl rfl rfl rfl (two_stores (by exact Q4.out) rfl)) rfl ⟨?_, below_two Hbz.out (by omega)⟩
    subst hR
    simp
end Go.Proofs.YtdlchlbngojljaaDoor.Gl
