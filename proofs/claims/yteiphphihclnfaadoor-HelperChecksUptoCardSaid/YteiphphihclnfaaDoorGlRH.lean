/- The reference's places and one. -/
import Derived.Test.YteiphphihclnfaaDoorGlRG
import Derived.Deep.OwnRows
import Derived.Deep.QuietTactic
import Derived.BigQuiet
namespace Go.Proofs.YteiphphihclnfaaDoor.Gl
open Go.RowKit

/-- A row of truth values at the beginning of a block. -/
def BRow (w : World) (b n : Nat) (f : Nat → Bool) : Prop := ∃ c : Array Value, w.heap[b]? = some (.cells c 4 (0, 0)) ∧ ∀ i, i < n → c[i]? = some (.bool (f i))
theorem BRow.cell {w : World} {b n : Nat} {f : Nat → Bool} (h : BRow w b n f) (i : Nat) (hi : i < n) : w.cell? ⟨b, i, none⟩ = some (.bool (f i)) := by
  obtain ⟨c, hb, hc⟩ := h
  rw [cell_of_row w b i c _ _ hb, hc i hi]
theorem BRow.frozen {w : World} {b n : Nat} {f : Nat → Bool} (h : BRow w b n f) (i : Nat) : w.frozen? ⟨b, i, none⟩ = false := by
  obtain ⟨c, hb, _⟩ := h
  exact frozen_of_row w b i _ _ hb
theorem BRow.lt {w : World} {b n : Nat} {f : Nat → Bool} (h : BRow w b n f) : b < w.heap.size := by
  obtain ⟨c, hb, _⟩ := h
  exact (Array.getElem?_eq_some_iff.1 hb).1
theorem BRow.congr {w : World} {b n : Nat} {f g : Nat → Bool} (h : BRow w b n f) (e : ∀ i, i < n → f i = g i) : BRow w b n g := by
  obtain ⟨c, hb, hc⟩ := h
  exact ⟨c, hb, fun i hi => by rw [hc i hi, e i hi]⟩
theorem BRow.of_block {w w' : World} {b n : Nat} {f : Nat → Bool} (h : BRow w b n f) (e : w'.heap[b]? = w.heap[b]?) : BRow w' b n f := by
  obtain ⟨c, hb, hc⟩ := h
  exact ⟨c, e.trans hb, hc⟩
theorem BRow.below {w w' : World} {b n B : Nat} {f : Nat → Bool} (h : BRow w b n f) (hb : Below B w w') (hB : b < B) : BRow w' b n f := h.of_block (hb.block b hB)
theorem BRow.set {w : World} {b n : Nat} {f : Nat → Bool} (h : BRow w b n f) (i : Nat) (v : Bool) : BRow (w.setCell ⟨b, i, none⟩ (.bool v)) b n (fun j => if j = i then v else f j) := by
  obtain ⟨c, hb, hc⟩ := h
  refine ⟨c.setIfInBounds i (.bool v), block_setCell4 hb _, fun j hj => ?_⟩
  have hjs : j < c.size := by
    have := hc j hj
    exact (Array.getElem?_eq_some_iff.1 this).1
  rw [Array.getElem?_setIfInBounds]
  by_cases e : i = j
  · subst e
    simp [hjs]
  · rw [if_neg e, hc j hj]
    simp only [if_neg (fun h : j = i => e h.symm)]
theorem BRow.made {w : World} {n : Nat} : BRow (w.alloc (.cells (madeCells #[.bool false] n) 4)) w.heap.size n (fun _ => false) := by
  obtain ⟨c, hb, _, hc⟩ := World.rowIs_made w (.bool false) n 4
  exact ⟨c, hb, fun i hi => hc i hi⟩
/-- The slice of such a row. -/
def BAt (w : World) (v : Value) (n : Nat) (f : Nat → Bool) : Prop := ∃ b c, v = .slice (some ⟨b, 0, none⟩) n c ∧ n ≤ c ∧ BRow w b n f

/-- An alternative, as a value. -/
def PSl (w : World) (v : Value) (a : List El) : Prop := ∃ aj cj gj, v = .slice aj a.length cj ∧ (0 < a.length → aj = some ⟨gj, 0, none⟩) ∧ gj < w.heap.size ∧ PElsAt w gj a
theorem PElsAt.below {w w' : World} {g B : Nat} {l : List El} (h : PElsAt w g l) (hb : Below B w w') (hB : g < B) : PElsAt w' g l := fun i e he =>
  ⟨(hb.cell (p := ⟨g, i * 130, none⟩) hB).trans (h i e he).1, (hb.cell (p := ⟨g, i * 130 + 1, none⟩) hB).trans (h i e he).2.1, fun c hc => (hb.cell (p := ⟨g, i * 130 + (2 + c), none⟩) hB).trans ((h i e he).2.2 c hc)⟩
theorem PSl.below {w w' : World} {v : Value} {a : List El} (h : PSl w v a) (hb : Below w.heap.size w w') : PSl w' v a := by
  obtain ⟨aj, cj, gj, h1, h2, h3, h4⟩ := h
  exact ⟨aj, cj, gj, h1, h2, Nat.lt_of_lt_of_le h3 hb.size, h4.below hb h3⟩

theorem info4b : (Tryd.prog.info? 4).map (fun i => (i.zero, i.size, i.bytes)) = some (some (.bool false), 1, 1) := by kernel_rfl

theorem placesA_step (l : List El) (A : Nat → Bool) (i : Nat) : (placesA l A i i && starAt l i) = false → ∀ k, placesA l A (i + 1) k = placesA l A i k := by
  intro h k
  rw [placesA_succ]
  split
  · rename_i hk
    rw [hk, h, Bool.or_false]
  · rfl
theorem placesA_put (l : List El) (A : Nat → Bool) (i : Nat) (h : (placesA l A i i && starAt l i) = true) (k : Nat) : placesA l A (i + 1) k = if k = i + 1 then true else placesA l A i k := by
  rw [placesA_succ, h, Bool.or_true]
theorem starAt_get {l : List El} {i : Nat} {e : El} (h : l[i]? = some e) : starAt l i = e.star := by
  unfold starAt
  rw [h]
  rfl

def bools (n : Nat) (A : Nat → Bool) : List Value := (List.range n).map fun i => .bool (A i)
theorem bools_len (n : Nat) (A : Nat → Bool) : (bools n A).length = n := by simp [bools]
theorem bools_get (n : Nat) (A : Nat → Bool) (i : Nat) (h : i < n) : (bools n A)[i]? = some (.bool (A i)) := by simp [bools, h]

theorem brow_of_own {w : World} {B n : Nat} {A : Nat → Bool} {v : Value} (h : w.ownsRow B 4 1 v n (bools n A)) (hn : 0 < n) : ∃ g cap, v = .slice (some ⟨g, 0, none⟩) n cap ∧ n ≤ cap ∧ B ≤ g ∧ BRow w g n A := by
  rcases h.2 with ⟨_, h0⟩ | ⟨g, cap, cur, rfl, hB, hg, hc, _, hsz, ht⟩
  · omega
  · refine ⟨g, cap, rfl, hc, hB, cur, hg, fun i hi => ?_⟩
    have h1 : (cur.toList.take (n * 1))[i]? = some (.bool (A i)) := by rw [ht, bools_get n A i hi]
    rw [List.getElem?_take, if_pos (by omega)] at h1
    simpa using h1

set_option maxHeartbeats 1000000 in
set_option maxRecDepth 100000 in
theorem places_any (l : List El) (A : Nat → Bool) (vl sv : Value) (w : World) (hl : l.length ≤ 256) (hv : PSl w vl l) (hs : BAt w sv (l.length + 1) A) :
    Calls Tryd.prog 60 #[vl, sv] w (fun e w' => ∃ v, e = .returned v ∧ BAt w' v (l.length + 1) (placesA l A l.length) ∧ Below w.heap.size w w') := by
  obtain ⟨i0, hi0, hz0, hz1, hz2⟩ := info_parts info4b
  obtain ⟨b, c, rfl, hbc, hrow⟩ := hs
  obtain ⟨aj, cj, gj, rfl, haj, hgj, hels⟩ := hv
  obtain ⟨N, hN⟩ : ∃ N, l.length + 1 = N := ⟨_, rfl⟩
  rw [hN] at hrow hbc ⊢
  have hnews : ∀ (j : Nat) u, (bools N A)[j]? = some u → w.cell? ((⟨b, 0, none⟩ : Addr).add j) = some u := fun j u hu => by
    have hadd : (⟨b, 0, none⟩ : Addr).add j = ⟨b, j, none⟩ := by unfold Addr.add; split <;> simp_all
    have hj : j < N := by
      have := (List.getElem?_eq_some_iff.1 hu).1
      rwa [bools_len] at this
    rw [bools_get N A j hj] at hu
    rw [hadd, hrow.cell j hj]
    exact hu
  have hone : ∀ u ∈ bools N A, u.oneCell' = true := fun u hu => by
    obtain ⟨i, _, rfl⟩ := List.mem_map.1 hu
    rfl
  have Hnews := Lib.hid hnews
  have Hels := Lib.hid hels
  have HN := Lib.hid hN
  have Hgj := Lib.hid hgj
  clear hnews hels hrow hgj
  go_enter Tryd.func60, Tryd.ntmps60
  go_wp2_with (at_builtin; refine wpList_append_own _ rfl _ _ 99 rfl w.heap.size 4 i0 _ 1 1 Tryd.underlying99 hi0 hz0 hz1 hz2 rfl (by decide) _ 0 [] rfl (World.ownsRow_nil _ _ _ _) ⟨b, 0, none⟩ N c (bools N A) rfl (by rw [bools_len]; omega) Hnews.out hone (by unfold maxLen; omega) (by omega) (Nat.le_refl _) ?_; intro v1 w1 hown1 hgrow1 _; rw [Nat.zero_add, List.nil_append] at hown1; obtain ⟨g1, cap1, hv1, hc1, hg1, hrow1⟩ := brow_of_own hown1 (by omega); subst hv1; have Hrow1 := Lib.hid hrow1; have Hgrow1 := Lib.hid (show w.grownBy w1 none from hgrow1); have Hg1 := Lib.hid hg1; clear hown1 hgrow1 hrow1 hg1)
  go_loopw [6] (fun s6 wx => ∃ i : Nat, i ≤ l.length ∧ s6 = .int .i64 (i : Int) ∧ BRow wx g1 N (placesA l A i) ∧ Below w.heap.size w wx) (fun s6 _ => l.length - (intOf s6).toNat)
  case atStart => exact ⟨0, by omega, rfl, Hrow1.out, (Below.refl _ w).grown Hgrow1.out (Nat.le_refl _) fun k hk => by cases hk⟩
  case round =>
    obtain ⟨i, hi, rfl, hrow, hb⟩ := hrel
    have Hrow := Lib.hid hrow
    have Hb := Lib.hid hb
    clear hrow hb
    by_cases hlt : i < l.length
    · have hiz : (i : Int) < (l.length : Int) := by omega
      have hiN : (i : Int) < (N : Int) := by have := HN.out; omega
      have hiN1 : (i : Int) + 1 < (N : Int) := by have := HN.out; omega
      obtain ⟨e, he⟩ : ∃ e, l[i]? = some e := ⟨_, List.getElem?_eq_getElem hlt⟩
      have hst := starAt_get he
      obtain rfl := haj (by omega)
      have hcA := Hrow.out.cell i (by omega)
      have hcS := (Hb.out.cell (p := ⟨gj, i * 130, none⟩) Hgj.out).trans (Hels.out i e he).1
      have hc1 := Hrow.out.cell (i + 1) (by omega)
      have hf1 := Hrow.out.frozen (i + 1)
      have hstep := placesA_step l A i
      have hput := placesA_put l A i
      rw [hst] at hstep hput
      have Hstep := Lib.hid hstep
      have Hput := Lib.hid hput
      clear hst hstep hput he
      generalize hbo : placesA l A i i = bo at *
      generalize e.star = st at *
      clear hbo
      cases bo with
      | false =>
        have hn := Hrow.out.congr fun k _ => (Hstep.out rfl k).symm
        have Hn := Lib.hid hn
        clear hn Hput Hstep
        go_wp2
        exact ⟨⟨i + 1, by omega, rfl, Hn.out, Hb.out⟩, by simp [intOf]; omega⟩
      | true =>
        cases st with
        | false =>
          have hn := Hrow.out.congr fun k _ => (Hstep.out rfl k).symm
          have Hn := Lib.hid hn
          clear hn Hput Hstep
          go_wp2
          exact ⟨⟨i + 1, by omega, rfl, Hn.out, Hb.out⟩, by simp [intOf]; omega⟩
        | true =>
          have hn := (Hrow.out.set (i + 1) true).congr fun k _ => (Hput.out rfl k).symm
          have Hn := Lib.hid hn
          clear hn Hput Hstep
          go_wp2
          exact ⟨⟨i + 1, by omega, rfl, Hn.out, Hb.out.setCell (p := ⟨g1, i + 1, none⟩) Hg1.out _⟩, by simp [intOf]; omega⟩
    · obtain rfl : i = l.length := by omega
      go_wp2
      go_ret
      exact ⟨_, rfl, ⟨g1, cap1, rfl, hc1, Hrow.out⟩, Hb.out⟩
end Go.Proofs.YteiphphihclnfaaDoor.Gl
