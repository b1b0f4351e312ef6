/- A search, its skips and its steps. -/
import Derived.Test.YtdlchlbngojljaaDoorKGlQ
namespace Go.Proofs.YtdlchlbngojljaaDoor.Gl
open Go.RowKit

structure SK where
  (ao bo : Option Addr)
  (ca cb ga gb Sb M1 M2 : Nat)

/-- The search of two alternatives lies in the block Sb. -/
structure SAt (K : SK) (a b : List El) (w : World) : Prop where
  blk : w.heap[K.Sb]? = some (.cells #[.slice K.ao a.length K.ca, .slice K.bo b.length K.cb, .map (some K.M1), .map (some K.M2)] 129 (0, 0))
  oa : 0 < a.length → K.ao = some ⟨K.ga, 0, none⟩
  ob : 0 < b.length → K.bo = some ⟨K.gb, 0, none⟩
  ea : ElsAt w K.ga a
  eb : ElsAt w K.gb b
  tab : TabAt w

theorem ElsAt.fr {X : Nat → Prop} {w w' : World} {g : Nat} {l : List El} (h : ElsAt w g l) (hf : Fr X w w') (hx : 0 < l.length → ¬ X g) : ElsAt w' g l := fun i e he => by
  have hl := (List.getElem?_eq_some_iff.1 he).1
  have hg := hx (by omega)
  obtain ⟨h1, h2, h3⟩ := h i e he
  have hlt := cell_lt h2
  exact ⟨fun j hj => (hf.cell (p := ⟨g, i * 6 + j, none⟩) hlt hg).trans (h1 j hj), (hf.cell (p := ⟨g, i * 6 + 4, none⟩) hlt hg).trans h2, (hf.cell (p := ⟨g, i * 6 + 5, none⟩) hlt hg).trans h3⟩

theorem SAt.fr {X : Nat → Prop} {K : SK} {a b : List El} {w w' : World} (h : SAt K a b w) (hf : Fr X w w') (hS : ¬ X K.Sb) (ha : 0 < a.length → ¬ X K.ga) (hb : 0 < b.length → ¬ X K.gb) (h1 : ¬ X 0) : SAt K a b w' :=
  ⟨(hf.block K.Sb (Array.getElem?_eq_some_iff.1 h.blk).1 hS).trans h.blk, h.oa, h.ob, h.ea.fr hf ha, h.eb.fr hf hb, fun k hk => (hf.cell (p := ⟨0, k, none⟩) h.tab.lt h1).trans (h.tab k hk)⟩

theorem SAt.below {K : SK} {a b : List El} {w w' : World} (h : SAt K a b w) (hb : Below w.heap.size w w') : SAt K a b w' := h.fr (X := fun _ => False) (Fr.of_below hb) (fun h => h) (fun _ h => h) (fun _ h => h) (fun h => h)

theorem info83 : (Tryd.prog.info? 132).map (fun i => (i.zero, i.size)) = some (some (.agg #[.int .i64 0, .int .i64 0]), 2) := by kernel_rfl

/-- The results (a pair in its cell, a bool). -/
theorem results_skip {f : Func} {w : World} {tmps : Array Value} {g : Nat} {c : Array Value} {ok : Bool} {fr : Nat × Nat} (hf : f.results = #[.cell 4 132, .tmp 5]) (hc : c.size = 2) (hp : tmps.getD 4 undef = .pointer (some ⟨g, 0, none⟩)) (hq : tmps.getD 5 undef = .bool ok) (hg : w.heap[g]? = some (.cells c 132 fr)) :
    (results f tmps).run Tryd.prog w = .ok (.tuple #[.agg c, .bool ok]) w := by
  have hi : (Tryd.prog.info? 132).map (·.size) = some c.size := by rw [hc]; exact (zero_of_info (P := Tryd.prog) info83).2
  have hl := run_loadVar_row (P := Tryd.prog) w g 132 132 c fr _ hg Tryd.underlying132 rfl hi
  have hp' : tmps[4]?.getD undef = .pointer (some ⟨g, 0, none⟩) := by simpa using hp
  have hq' : tmps[5]?.getD undef = .bool ok := by simpa using hq
  simp [results, hf, hp', hq', asAddr, hl, Result.andThen]

theorem two_stores {W : World} {g : Nat} {c : Array Value} {x y : Value} (h : W.heap[g]? = some (.cells c 132 (0, 0))) (hc : c.size = 2) : ((W.setCell ⟨g, 0, none⟩ x).setCell ⟨g, 1, none⟩ y).heap[g]? = some (.cells #[x, y] 132 (0, 0)) := by
  rw [block_setCell4 (block_setCell4 h x) y]
  obtain ⟨l⟩ := c
  match l, hc with
  | [_, _], _ => rfl

theorem below_two {W : World} {w : World} {B g : Nat} {x y : Value} (h : Below B w W) (hg : B ≤ g) : Below B w ((W.setCell ⟨g, 0, none⟩ x).setCell ⟨g, 1, none⟩ y) := (h.setCell hg x).setCell hg y

set_option maxHeartbeats 400000 in
set_option maxRecDepth 100000 in
theorem skipOurs_any (K : SK) (a b : List El) (i k : Nat) (w : World) (hS : SAt K a b w) (hi : i ≤ 4096) (hk : k ≤ 4096) (hal : a.length ≤ 4096) :
    Calls Tryd.prog 93 #[.pointer (some ⟨K.Sb, 0, none⟩), .agg #[.int .i64 i, .int .i64 k]] w (Bel (.tuple #[.agg #[.int .i64 ((i : Int) + 1), .int .i64 k], .bool (starAt a i)]) w) := by
  have hv := (zero_of_info (P := Tryd.prog) info83).1
  have hii : (i : Int) ≤ 4096 := by omega
  have hki : (k : Int) ≤ 4096 := by omega
  have s0 := cell_of_row w K.Sb 0 _ _ _ hS.blk
  simp only [List.getElem?_toArray, List.getElem?_cons_zero] at s0
  have hoa := hS.oa
  have hea := hS.ea
  have hlt := cell_lt s0
  obtain ⟨N, hN⟩ : ∃ N, a.length = N := ⟨_, rfl⟩
  have HN := Lib.hid hN
  rw [hN] at s0 hoa hal
  have hNi : (N : Int) ≤ 4096 := by omega
  obtain ⟨ao, bo, ca, cb, ga, gb, Sb, M1, M2⟩ := K
  simp only at *
  clear hN
  have Hea := Lib.hid hea
  clear hea hS
  by_cases hlt2 : (i : Int) < (N : Int)
  · obtain rfl := hoa (by omega)
    obtain ⟨e, he⟩ : ∃ e, a[i]? = some e := ⟨a[i]'(by rw [HN.out]; omega), List.getElem?_eq_getElem _⟩
    have hst : starAt a i = e.star := by unfold starAt; rw [he]; rfl
    rw [hst]
    obtain ⟨_, h4, _⟩ := Hea.out i e he
    have hltg := cell_lt h4
    generalize e.star = st at *
    clear he hst
    go_enter Tryd.func93, Tryd.ntmps93
    go_wp2
    have g3 := box3_0 w (.cells #[.int .i64 i, .int .i64 k] 132) (.cells #[.int .i64 0, .int .i64 0] 132) (.cells #[.int .i64 ((i : Int) + 1), .int .i64 k] 132)
    have g4 := box3_1 w (.cells #[.int .i64 i, .int .i64 k] 132) (.cells #[.int .i64 0, .int .i64 0] 132) (.cells #[.int .i64 ((i : Int) + 1), .int .i64 k] 132)
    have g6 := box3_2 w (.cells #[.int .i64 i, .int .i64 k] 132) (.cells #[.int .i64 0, .int .i64 0] 132) (.cells #[.int .i64 ((i : Int) + 1), .int .i64 k] 132)
    have gb' := box3_below w (.cells #[.int .i64 i, .int .i64 k] 132) (.cells #[.int .i64 0, .int .i64 0] 132) (.cells #[.int .i64 ((i : Int) + 1), .int .i64 k] 132)
    generalize ((w.alloc (.cells #[.int .i64 i, .int .i64 k] 132)).alloc (.cells #[.int .i64 0, .int .i64 0] 132)).alloc (.cells #[.int .i64 ((i : Int) + 1), .int .i64 k] 132) = W at *
    have c30 := cell_of_row W w.heap.size 0 _ _ _ g3
    have c31 := cell_of_row W w.heap.size 1 _ _ _ g3
    have c40 := cell_of_row W (w.heap.size + 1) 0 _ _ _ g4
    have c41 := cell_of_row W (w.heap.size + 1) 1 _ _ _ g4
    have c60 := cell_of_row W (w.heap.size + 2) 0 _ _ _ g6
    have c61 := cell_of_row W (w.heap.size + 2) 1 _ _ _ g6
    have f40 := frozen_of_row W (w.heap.size + 1) 0 _ _ g4
    have f41 := frozen_of_row W (w.heap.size + 1) 1 _ _ g4
    have t0 := (gb'.cell (p := ⟨Sb, 0, none⟩) hlt).trans s0
    have t1 := (gb'.cell (p := ⟨ga, i * 6 + 4, none⟩) hltg).trans h4
    simp only [List.getElem?_toArray, List.getElem?_cons_zero, List.getElem?_cons_succ] at c30 c31 c40 c41 c60 c61
    have G4 := Lib.hid g4
    have Gb := Lib.hid gb'
    clear g3 g4 g6 gb' s0 h4
    go_region
    all_goals
      go_wp2
      exact bodyPost_ret (results_skip (c := #[.int .i64 ((i : Int) + 1), .int .i64 k]) rfl rfl rfl rfl (two_stores G4.out rfl)) rfl ⟨rfl, (below_two Gb.out (by omega)).drew⟩
  · have hst : starAt a i = false := by
      unfold starAt
      rw [List.getElem?_eq_none (by rw [HN.out]; omega)]
      rfl
    rw [hst]
    go_enter Tryd.func93, Tryd.ntmps93
    go_wp2
    have g3 := box3_0 w (.cells #[.int .i64 i, .int .i64 k] 132) (.cells #[.int .i64 0, .int .i64 0] 132) (.cells #[.int .i64 ((i : Int) + 1), .int .i64 k] 132)
    have g4 := box3_1 w (.cells #[.int .i64 i, .int .i64 k] 132) (.cells #[.int .i64 0, .int .i64 0] 132) (.cells #[.int .i64 ((i : Int) + 1), .int .i64 k] 132)
    have g6 := box3_2 w (.cells #[.int .i64 i, .int .i64 k] 132) (.cells #[.int .i64 0, .int .i64 0] 132) (.cells #[.int .i64 ((i : Int) + 1), .int .i64 k] 132)
    have gb' := box3_below w (.cells #[.int .i64 i, .int .i64 k] 132) (.cells #[.int .i64 0, .int .i64 0] 132) (.cells #[.int .i64 ((i : Int) + 1), .int .i64 k] 132)
    generalize ((w.alloc (.cells #[.int .i64 i, .int .i64 k] 132)).alloc (.cells #[.int .i64 0, .int .i64 0] 132)).alloc (.cells #[.int .i64 ((i : Int) + 1), .int .i64 k] 132) = W at *
    have c30 := cell_of_row W w.heap.size 0 _ _ _ g3
    have c31 := cell_of_row W w.heap.size 1 _ _ _ g3
    have c40 := cell_of_row W (w.heap.size + 1) 0 _ _ _ g4
    have c41 := cell_of_row W (w.heap.size + 1) 1 _ _ _ g4
    have c60 := cell_of_row W (w.heap.size + 2) 0 _ _ _ g6
    have c61 := cell_of_row W (w.heap.size + 2) 1 _ _ _ g6
    have f40 := frozen_of_row W (w.heap.size + 1) 0 _ _ g4
    have f41 := frozen_of_row W (w.heap.size + 1) 1 _ _ g4
    have t0 := (gb'.cell (p := ⟨Sb, 0, none⟩) hlt).trans s0
    simp only [List.getElem?_toArray, List.getElem?_cons_zero, List.getElem?_cons_succ] at c30 c31 c40 c41 c60 c61
    have G4 := Lib.hid g4
    have Gb := Lib.hid gb'
    have hpd : decide (i < N) = false := decide_eq_false (by omega)
    have hpd2 : decide ((i : Int) < (N : Int)) = false := decide_eq_false (by omega)
    clear g3 g4 g6 gb' s0
    go_region
    all_goals
      go_wp2
      exact bodyPost_ret (results_skip (c := #[.int .i64 ((i : Int) + 1), .int .i64 k]) rfl rfl rfl rfl (two_stores G4.out rfl)) rfl ⟨rfl, (below_two Gb.out (by omega)).drew⟩

set_option maxHeartbeats 400000 in
set_option maxRecDepth 100000 in
theorem skipTheirs_any (K : SK) (a b : List El) (i k : Nat) (w : World) (hS : SAt K a b w) (hi : i ≤ 4096) (hk : k ≤ 4096) (hal : b.length ≤ 4096) :
    Calls Tryd.prog 94 #[.pointer (some ⟨K.Sb, 0, none⟩), .agg #[.int .i64 i, .int .i64 k]] w (Bel (.tuple #[.agg #[.int .i64 i, .int .i64 ((k : Int) + 1)], .bool (starAt b k)]) w) := by
  have hv := (zero_of_info (P := Tryd.prog) info83).1
  have hii : (i : Int) ≤ 4096 := by omega
  have hki : (k : Int) ≤ 4096 := by omega
  have s0 := cell_of_row w K.Sb 1 _ _ _ hS.blk
  simp only [List.getElem?_toArray, List.getElem?_cons_zero, List.getElem?_cons_succ] at s0
  have hoa := hS.ob
  have hea := hS.eb
  have hlt := cell_lt s0
  obtain ⟨N, hN⟩ : ∃ N, b.length = N := ⟨_, rfl⟩
  have HN := Lib.hid hN
  rw [hN] at s0 hoa hal
  have hNi : (N : Int) ≤ 4096 := by omega
  obtain ⟨ao, bo, ca, cb, ga, gb, Sb, M1, M2⟩ := K
  simp only at *
  clear hN
  have Hea := Lib.hid hea
  clear hea hS
  by_cases hlt2 : (k : Int) < (N : Int)
  · obtain rfl := hoa (by omega)
    obtain ⟨e, he⟩ : ∃ e, b[k]? = some e := ⟨b[k]'(by rw [HN.out]; omega), List.getElem?_eq_getElem _⟩
    have hst : starAt b k = e.star := by unfold starAt; rw [he]; rfl
    rw [hst]
    obtain ⟨_, h4, _⟩ := Hea.out k e he
    have hltg := cell_lt h4
    generalize e.star = st at *
    clear he hst
    go_enter Tryd.func94, Tryd.ntmps94
    go_wp2
    have g3 := box3_0 w (.cells #[.int .i64 i, .int .i64 k] 132) (.cells #[.int .i64 0, .int .i64 0] 132) (.cells #[.int .i64 i, .int .i64 ((k : Int) + 1)] 132)
    have g4 := box3_1 w (.cells #[.int .i64 i, .int .i64 k] 132) (.cells #[.int .i64 0, .int .i64 0] 132) (.cells #[.int .i64 i, .int .i64 ((k : Int) + 1)] 132)
    have g6 := box3_2 w (.cells #[.int .i64 i, .int .i64 k] 132) (.cells #[.int .i64 0, .int .i64 0] 132) (.cells #[.int .i64 i, .int .i64 ((k : Int) + 1)] 132)
    have gb' := box3_below w (.cells #[.int .i64 i, .int .i64 k] 132) (.cells #[.int .i64 0, .int .i64 0] 132) (.cells #[.int .i64 i, .int .i64 ((k : Int) + 1)] 132)
    generalize ((w.alloc (.cells #[.int .i64 i, .int .i64 k] 132)).alloc (.cells #[.int .i64 0, .int .i64 0] 132)).alloc (.cells #[.int .i64 i, .int .i64 ((k : Int) + 1)] 132) = W at *
    have c30 := cell_of_row W w.heap.size 0 _ _ _ g3
    have c31 := cell_of_row W w.heap.size 1 _ _ _ g3
    have c40 := cell_of_row W (w.heap.size + 1) 0 _ _ _ g4
    have c41 := cell_of_row W (w.heap.size + 1) 1 _ _ _ g4
    have c60 := cell_of_row W (w.heap.size + 2) 0 _ _ _ g6
    have c61 := cell_of_row W (w.heap.size + 2) 1 _ _ _ g6
    have f40 := frozen_of_row W (w.heap.size + 1) 0 _ _ g4
    have f41 := frozen_of_row W (w.heap.size + 1) 1 _ _ g4
    have t0 := (gb'.cell (p := ⟨Sb, 1, none⟩) hlt).trans s0
    have t1 := (gb'.cell (p := ⟨gb, k * 6 + 4, none⟩) hltg).trans h4
    simp only [List.getElem?_toArray, List.getElem?_cons_zero, List.getElem?_cons_succ] at c30 c31 c40 c41 c60 c61
    have G4 := Lib.hid g4
    have Gb := Lib.hid gb'
    clear g3 g4 g6 gb' s0 h4
    go_region
    all_goals
      go_wp2
      exact bodyPost_ret (results_skip (c := #[.int .i64 i, .int .i64 ((k : Int) + 1)]) rfl rfl rfl rfl (two_stores G4.out rfl)) rfl ⟨rfl, (below_two Gb.out (by omega)).drew⟩
  · have hst : starAt b k = false := by
      unfold starAt
      rw [List.getElem?_eq_none (by rw [HN.out]; omega)]
      rfl
    rw [hst]
    go_enter Tryd.func94, Tryd.ntmps94
    go_wp2
    have g3 := box3_0 w (.cells #[.int .i64 i, .int .i64 k] 132) (.cells #[.int .i64 0, .int .i64 0] 132) (.cells #[.int .i64 i, .int .i64 ((k : Int) + 1)] 132)
    have g4 := box3_1 w (.cells #[.int .i64 i, .int .i64 k] 132) (.cells #[.int .i64 0, .int .i64 0] 132) (.cells #[.int .i64 i, .int .i64 ((k : Int) + 1)] 132)
    have g6 := box3_2 w (.cells #[.int .i64 i, .int .i64 k] 132) (.cells #[.int .i64 0, .int .i64 0] 132) (.cells #[.int .i64 i, .int .i64 ((k : Int) + 1)] 132)
    have gb' := box3_below w (.cells #[.int .i64 i, .int .i64 k] 132) (.cells #[.int .i64 0, .int .i64 0] 132) (.cells #[.int .i64 i, .int .i64 ((k : Int) + 1)] 132)
    generalize ((w.alloc (.cells #[.int .i64 i, .int .i64 k] 132)).alloc (.cells #[.int .i64 0, .int .i64 0] 132)).alloc (.cells #[.int .i64 i, .int .i64 ((k : Int) + 1)] 132) = W at *
    have c30 := cell_of_row W w.heap.size 0 _ _ _ g3
    have c31 := cell_of_row W w.heap.size 1 _ _ _ g3
    have c40 := cell_of_row W (w.heap.size + 1) 0 _ _ _ g4
    have c41 := cell_of_row W (w.heap.size + 1) 1 _ _ _ g4
    have c60 := cell_of_row W (w.heap.size + 2) 0 _ _ _ g6
    have c61 := cell_of_row W (w.heap.size + 2) 1 _ _ _ g6
    have f40 := frozen_of_row W (w.heap.size + 1) 0 _ _ g4
    have f41 := frozen_of_row W (w.heap.size + 1) 1 _ _ g4
    have t0 := (gb'.cell (p := ⟨Sb, 1, none⟩) hlt).trans s0
    simp only [List.getElem?_toArray, List.getElem?_cons_zero, List.getElem?_cons_succ] at c30 c31 c40 c41 c60 c61
    have G4 := Lib.hid g4
    have Gb := Lib.hid gb'
    have hpd : decide (k < N) = false := decide_eq_false (by omega)
    have hpd2 : decide ((k : Int) < (N : Int)) = false := decide_eq_false (by omega)
    clear g3 g4 g6 gb' s0
    go_region
    all_goals
      go_wp2
      exact bodyPost_ret (results_skip (c := #[.int .i64 i, .int .i64 ((k : Int) + 1)]) rfl rfl rfl rfl (two_stores G4.out rfl)) rfl ⟨rfl, (below_two Gb.out (by omega)).drew⟩

end Go.Proofs.YtdlchlbngojljaaDoor.Gl
