/- The reference's Parse by a pattern's alternatives; its Check. The reference's places and one. The reference's one. The reference's Match. -/
import Derived.Test.YtdlchlbngojljaaDoorPRe
import Derived.Deep.OwnRows
import Derived.Deep.QuietTactic
import Derived.BigQuiet
import Derived.Test.YtdlchlbngojljaaDoorPGlM
namespace Go.Proofs.YtdlchlbngojljaaDoor.Gl
open Go.RowKit
theorem all_allIn (p : List UInt8) : allIn TextSet p = p.all isText := congrArg (fun f => p.all f) (funext fun b => text_iff b)
theorem parse_none {p : ByteArray} (h : altsP p.data.toList = none) (hp : p.size ≤ 256) (w : World) : Calls Tryd.prog 49 #[.string p] w (Bel (.tuple #[.slice none 0 0, .bool false]) w) := by
 have hsz := Lib.size_eq p
 refine (parse_any p w hp).mono ?_
 rintro e w' ⟨hb, h1⟩
 refine ⟨?_, hb⟩
 unfold altsP at h
 rw [if_neg (by omega), all_allIn] at h
 split at h
 ·rename_i h2
  rw [if_pos h2] at h1
  exact h1
 ·rename_i h2
  rw [if_neg h2] at h1
  rw [Option.map_eq_none_iff.1 h] at h1
  exact h1
theorem parse_some {p : ByteArray} {L : List (List El)} (h : altsP p.data.toList = some L) (hp : p.size ≤ 256) (w : World) : Calls Tryd.prog 49 #[.string p] w (fun e w' => Below w.heap.size w w' ∧ ∃ v, e = .returned (.tuple #[v, .bool true]) ∧ PAltsAt w' v L) := by
 have hsz := Lib.size_eq p
 refine (parse_any p w hp).mono ?_
 rintro e w' ⟨hb, h1⟩
 refine ⟨hb, ?_⟩
 obtain ⟨_, h2, T, hT, rfl⟩ := altsP_parts h
 rw [if_neg (by rw [h2]; simp), hT] at h1
 exact h1
theorem altsP_short {p : ByteArray} {L : List (List El)} (h : altsP p.data.toList = some L) : p.size ≤ 256 := by
 have := (altsP_parts h).1
 rwa [← Lib.size_eq] at this
set_option maxHeartbeats 400000 in
set_option maxRecDepth 100000 in
theorem refCheck_any (p : ByteArray) (w : World) (hp : p.size ≤ 4611686018427387904) : Calls Tryd.prog 48 #[.string p] w (Bel (.int .i64 (errP p.data.toList)) w) := by
 have hsz := Lib.size_eq p
 by_cases h256 : 256 < p.size
 ·have hi : (256 : Int) < (p.size : Int) := by omega
  have he : errP p.data.toList = 21 := by
   unfold errP
   rw [if_pos (by omega)]
  rw [he]
  clear he hsz
  go_enter Tryd.func48, Tryd.ntmps48
  go_wp2
  go_ret
  exact ⟨rfl, Below.refl _ _⟩
 ·have hi : ¬ (256 : Int) < (p.size : Int) := by omega
  cases h : altsP p.data.toList with
  | none =>
   have hc := parse_none h (by omega)
   have he : errP p.data.toList = 20 := by
    unfold errP
    rw [if_neg (by omega), h]
    rfl
   rw [he]
   have Hc := Lib.hid hc
   clear hc h he hsz
   go_enter Tryd.func48, Tryd.ntmps48
   go_wp2_with fail
   refine (Hc.out _).mono ?_
   rintro e W1 ⟨rfl, hb⟩
   go_wp2
   go_ret
   exact ⟨rfl, hb⟩
  | some L =>
   have hc := parse_some h (by omega)
   rw [errP_some h]
   have Hc := Lib.hid hc
   clear hc h hsz
   go_enter Tryd.func48, Tryd.ntmps48
   go_wp2_with fail
   refine (Hc.out _).mono ?_
   rintro e W1 ⟨hb, v, rfl, hv⟩
   go_wp2
   go_ret
   exact ⟨rfl, hb⟩
end Go.Proofs.YtdlchlbngojljaaDoor.Gl
namespace Go.Proofs.YtdlchlbngojljaaDoor.Gl
open Go.RowKit
/-- A row of truth values at the beginning of a block. -/
def BRow (w : World) (b n : Nat) (f : Nat → Bool) : Prop := ∃ c : Array Value, w.heap[b]? = some (.cells c 4 (0, 0)) ∧ ∀ i, i < n → c[i]? = some (.bool (f i))
theorem BRow.cell {w : World} {b n : Nat} {f : Nat → Bool} (h : BRow w b n f) (i : Nat) (hi : i < n) : w.cell? ⟨b, i, none⟩ = some (.bool (f i)) := by
 obtain ⟨c, hb, hc⟩ := h
 rw [cell_of_row w b i c _ _ hb, hc i hi]
theorem BRow.frozen {w : World} {b n : Nat} {f : Nat → Bool} (h : BRow w b n f) (i : Nat) : w.frozen? ⟨b, i, none⟩ = false := by
 obtain ⟨c, hb, _⟩ := h
 exact frozen_of_row w b i _ _ hb
theorem BRow.lt {w : World} {b n : Nat} {f : Nat → Bool} (h : BRow w b n f) : b < w.heap.size := by
 obtain ⟨c, hb, _⟩ := h
 exact (Array.getElem?_eq_some_iff.1 hb).1
theorem BRow.congr {w : World} {b n : Nat} {f g : Nat → Bool} (h : BRow w b n f) (e : ∀ i, i < n → f i = g i) : BRow w b n g := by
 obtain ⟨c, hb, hc⟩ := h
 exact ⟨c, hb, fun i hi => by rw [hc i hi, e i hi]⟩
theorem BRow.of_block {w w' : World} {b n : Nat} {f : Nat → Bool} (h : BRow w b n f) (e : w'.heap[b]? = w.heap[b]?) : BRow w' b n f := by
 obtain ⟨c, hb, hc⟩ := h
 exact ⟨c, e.trans hb, hc⟩
theorem BRow.below {w w' : World} {b n B : Nat} {f : Nat → Bool} (h : BRow w b n f) (hb : Below B w w') (hB : b < B) : BRow w' b n f := h.of_block (hb.block b hB)
theorem BRow.set {w : World} {b n : Nat} {f : Nat → Bool} (h : BRow w b n f) (i : Nat) (v : Bool) : BRow (w.setCell ⟨b, i, none⟩ (.bool v)) b n (fun j => if j = i then v else f j) := by
 obtain ⟨c, hb, hc⟩ := h
 refine ⟨c.setIfInBounds i (.bool v), block_setCell4 hb _, fun j hj => ?_⟩
 have hjs : j < c.size := by
  have := hc j hj
  exact (Array.getElem?_eq_some_iff.1 this).1
 rw [Array.getElem?_setIfInBounds]
 by_cases e : i = j
 ·subst e
  simp [hjs]
 ·rw [if_neg e, hc j hj]
  simp only [if_neg (fun h : j = i => e h.symm)]
theorem BRow.made {w : World} {n : Nat} : BRow (w.alloc (.cells (madeCells #[.bool false] n) 4)) w.heap.size n (fun _ => false) := by
 obtain ⟨c, hb, _, hc⟩ := World.rowIs_made w (.bool false) n 4
 exact ⟨c, hb, fun i hi => hc i hi⟩
/-- The slice of such a row. -/
def BAt (w : World) (v : Value) (n : Nat) (f : Nat → Bool) : Prop := ∃ b c, v = .slice (some ⟨b, 0, none⟩) n c ∧ n ≤ c ∧ BRow w b n f
/-- An alternative, as a value. -/
def PSl (w : World) (v : Value) (a : List El) : Prop := ∃ aj cj gj, v = .slice aj a.length cj ∧ (0 < a.length → aj = some ⟨gj, 0, none⟩) ∧ gj < w.heap.size ∧ PElsAt w gj a
theorem PElsAt.below {w w' : World} {g B : Nat} {l : List El} (h : PElsAt w g l) (hb : Below B w w') (hB : g < B) : PElsAt w' g l := fun i e he =>
 ⟨(hb.cell (p := ⟨g, i * 130, none⟩) hB).trans (h i e he).1, (hb.cell (p := ⟨g, i * 130 + 1, none⟩) hB).trans (h i e he).2.1, fun c hc => (hb.cell (p := ⟨g, i * 130 + (2 + c), none⟩) hB).trans ((h i e he).2.2 c hc)⟩
theorem PSl.below {w w' : World} {v : Value} {a : List El} (h : PSl w v a) (hb : Below w.heap.size w w') : PSl w' v a := by
 obtain ⟨aj, cj, gj, h1, h2, h3, h4⟩ := h
 exact ⟨aj, cj, gj, h1, h2, Nat.lt_of_lt_of_le h3 hb.size, h4.below hb h3⟩
theorem info4b : (Tryd.prog.info? 4).map (fun i => (i.zero, i.size, i.bytes)) = some (some (.bool false), 1, 1) := by kernel_rfl
theorem placesA_step (l : List El) (A : Nat → Bool) (i : Nat) : (placesA l A i i && starAt l i) = false → ∀ k, placesA l A (i + 1) k = placesA l A i k := by
 intro h k
 rw [placesA_succ]
 split
 ·rename_i hk
  rw [hk, h, Bool.or_false]
 ·rfl
theorem placesA_put (l : List El) (A : Nat → Bool) (i : Nat) (h : (placesA l A i i && starAt l i) = true) (k : Nat) : placesA l A (i + 1) k = if k = i + 1 then true else placesA l A i k := by
 rw [placesA_succ, h, Bool.or_true]
theorem starAt_get {l : List El} {i : Nat} {e : El} (h : l[i]? = some e) : starAt l i = e.star := by
 unfold starAt
 rw [h]
 rfl
def bools (n : Nat) (A : Nat → Bool) : List Value := (List.range n).map fun i => .bool (A i)
theorem bools_len (n : Nat) (A : Nat → Bool) : (bools n A).length = n := by simp [bools]
theorem bools_get (n : Nat) (A : Nat → Bool) (i : Nat) (h : i < n) : (bools n A)[i]? = some (.bool (A i)) := by simp [bools, h]
theorem brow_of_own {w : World} {B n : Nat} {A : Nat → Bool} {v : Value} (h : w.ownsRow B 4 1 v n (bools n A)) (hn : 0 < n) : ∃ g cap, v = .slice (some ⟨g, 0, none⟩) n cap ∧ n ≤ cap ∧ B ≤ g ∧ BRow w g n A := by
 rcases h.2 with ⟨_, h0⟩ | ⟨g, cap, cur, rfl, hB, hg, hc, _, hsz, ht⟩
 ·omega
 ·refine ⟨g, cap, rfl, hc, hB, cur, hg, fun i hi => ?_⟩
  have h1 : (cur.toList.take (n * 1))[i]? = some (.bool (A i)) := by rw [ht, bools_get n A i hi]
  rw [List.getElem?_take, if_pos (by omega)] at h1
  simpa using h1
set_option maxHeartbeats 1000000 in
set_option maxRecDepth 100000 in
theorem places_any (l : List El) (A : Nat → Bool) (vl sv : Value) (w : World) (hl : l.length ≤ 256) (hv : PSl w vl l) (hs : BAt w sv (l.length + 1) A) :
  Calls Tryd.prog 86 #[vl, sv] w (fun e w' => ∃ v, e = .returned v ∧ BAt w' v (l.length + 1) (placesA l A l.length) ∧ Below w.heap.size w w') := by
 obtain ⟨i0, hi0, hz0, hz1, hz2⟩ := info_parts info4b
 obtain ⟨b, c, rfl, hbc, hrow⟩ := hs
 obtain ⟨aj, cj, gj, rfl, haj, hgj, hels⟩ := hv
 obtain ⟨N, hN⟩ : ∃ N, l.length + 1 = N := ⟨_, rfl⟩
 rw [hN] at hrow hbc ⊢
 have hnews : ∀ (j : Nat) u, (bools N A)[j]? = some u → w.cell? ((⟨b, 0, none⟩ : Addr).add j) = some u := fun j u hu => by
  have hadd : (⟨b, 0, none⟩ : Addr).add j = ⟨b, j, none⟩ := by unfold Addr.add; split <;> simp_all
  have hj : j < N := by
   have := (List.getElem?_eq_some_iff.1 hu).1
   rwa [bools_len] at this
  rw [bools_get N A j hj] at hu
  rw [hadd, hrow.cell j hj]
  exact hu
 have hone : ∀ u ∈ bools N A, u.oneCell' = true := fun u hu => by
  obtain ⟨i, _, rfl⟩ := List.mem_map.1 hu
  rfl
 have Hnews := Lib.hid hnews
 have Hels := Lib.hid hels
 have HN := Lib.hid hN
 have Hgj := Lib.hid hgj
 clear hnews hels hrow hgj
 go_enter Tryd.func86, Tryd.ntmps86
 go_wp2_with (at_builtin; refine wpList_append_own _ rfl _ _ 155 rfl w.heap.size 4 i0 _ 1 1 Tryd.underlying155 hi0 hz0 hz1 hz2 rfl (by decide) _ 0 [] rfl (World.ownsRow_nil _ _ _ _) ⟨b, 0, none⟩ N c (bools N A) rfl (by rw [bools_len]; omega) Hnews.out hone (by unfold maxLen; omega) (by omega) (Nat.le_refl _) ?_; intro v1 w1 hown1 hgrow1 _; rw [Nat.zero_add, List.nil_append] at hown1; obtain ⟨g1, cap1, hv1, hc1, hg1, hrow1⟩ := brow_of_own hown1 (by omega); subst hv1; have Hrow1 := Lib.hid hrow1; have Hgrow1 := Lib.hid (show w.grownBy w1 none from hgrow1); have Hg1 := Lib.hid hg1; clear hown1 hgrow1 hrow1 hg1)
 go_loopw [6] (fun s6 wx => ∃ i : Nat, i ≤ l.length ∧ s6 = .int .i64 (i : Int) ∧ BRow wx g1 N (placesA l A i) ∧ Below w.heap.size w wx) (fun s6 _ => l.length - (intOf s6).toNat)
 case atStart => exact ⟨0, by omega, rfl, Hrow1.out, (Below.refl _ w).grown Hgrow1.out (Nat.le_refl _) fun k hk => by cases hk⟩
 case round =>
  obtain ⟨i, hi, rfl, hrow, hb⟩ := hrel
  have Hrow := Lib.hid hrow
  have Hb := Lib.hid hb
  clear hrow hb
  by_cases hlt : i < l.length
  ·have hiz : (i : Int) < (l.length : Int) := by omega
   have hiN : (i : Int) < (N : Int) := by have := HN.out; omega
   have hiN1 : (i : Int) + 1 < (N : Int) := by have := HN.out; omega
   obtain ⟨e, he⟩ : ∃ e, l[i]? = some e := ⟨_, List.getElem?_eq_getElem hlt⟩
   have hst := starAt_get he
   obtain rfl := haj (by omega)
   have hcA := Hrow.out.cell i (by omega)
   have hcS := (Hb.out.cell (p := ⟨gj, i * 130, none⟩) Hgj.out).trans (Hels.out i e he).1
   have hc1 := Hrow.out.cell (i + 1) (by omega)
   have hf1 := Hrow.out.frozen (i + 1)
   have hstep := placesA_step l A i
   have hput := placesA_put l A i
   rw [hst] at hstep hput
   have Hstep := Lib.hid hstep
   have Hput := Lib.hid hput
   clear hst hstep hput he
   generalize hbo : placesA l A i i = bo at *
   generalize e.star = st at *
   clear hbo
   cases bo with
   | false =>
    have hn := Hrow.out.congr fun k _ => (Hstep.out rfl k).symm
    have Hn := Lib.hid hn
    clear hn Hput Hstep
    go_wp2
    exact ⟨⟨i + 1, by omega, rfl, Hn.out, Hb.out⟩, by simp [intOf]; omega⟩
   | true =>
    cases st with
    | false =>
     have hn := Hrow.out.congr fun k _ => (Hstep.out rfl k).symm
     have Hn := Lib.hid hn
     clear hn Hput Hstep
     go_wp2
     exact ⟨⟨i + 1, by omega, rfl, Hn.out, Hb.out⟩, by simp [intOf]; omega⟩
    | true =>
     have hn := (Hrow.out.set (i + 1) true).congr fun k _ => (Hput.out rfl k).symm
     have Hn := Lib.hid hn
     clear hn Hput Hstep
     go_wp2
     exact ⟨⟨i + 1, by omega, rfl, Hn.out, Hb.out.setCell (p := ⟨g1, i + 1, none⟩) Hg1.out _⟩, by simp [intOf]; omega⟩
  ·obtain rfl : i = l.length := by omega
   go_wp2
   go_ret
   exact ⟨_, rfl, ⟨g1, cap1, rfl, hc1, Hrow.out⟩, Hb.out⟩
end Go.Proofs.YtdlchlbngojljaaDoor.Gl
namespace Go.Proofs.YtdlchlbngojljaaDoor.Gl
open Go.RowKit
def hitB (l : List El) (j : Nat) (c : UInt8) : Bool := match l[j]? with | some e => !e.star && e.set c | none => false
/-- The next places, as far as n elements give them. -/
def nextN (l : List El) (A : Nat → Bool) (c : UInt8) (n k : Nat) : Bool := (decide (k < n) && (A k && starAt l k)) || (match k with
 | 0 => false
 | j + 1 => decide (j < n) && (A j && hitB l j c))
theorem nextN_zero (l : List El) (A : Nat → Bool) (c : UInt8) (k : Nat) : nextN l A c 0 k = false := by
 unfold nextN
 cases k <;> simp
theorem nextN_all (l : List El) (A : Nat → Bool) (c : UInt8) (k : Nat) (hk : k ≤ l.length) : nextN l A c l.length k = nextA l A c k := by
 unfold nextN nextA hitB
 have h1 : (decide (k < l.length) && (A k && starAt l k)) = (A k && starAt l k) := by
  cases hs : starAt l k with
  | false => simp
  | true => rw [decide_eq_true (starAt_lt hs), Bool.true_and]
 rw [h1]
 congr 1
 cases k with
 | zero => rfl
 | succ j =>
  simp only [decide_eq_true (show j < l.length by omega), Bool.true_and]
  rfl
theorem nextN_same (l : List El) (A : Nat → Bool) (c : UInt8) (n : Nat) (h1 : (A n && starAt l n) = false) (h2 : (A n && hitB l n c) = false) (k : Nat) : nextN l A c (n + 1) k = nextN l A c n k := by
 unfold nextN
 congr 1
 ·by_cases hk : k = n
  ·subst hk
   rw [h1]
   simp
  ·congr 1
   rw [decide_eq_decide]
   omega
 ·cases k with
  | zero => rfl
  | succ j =>
   by_cases hj : j = n
   ·subst hj
    simp [h2]
   ·simp only
    congr 1
    rw [decide_eq_decide]
    omega
theorem nextN_star (l : List El) (A : Nat → Bool) (c : UInt8) (n : Nat) (h1 : (A n && starAt l n) = true) (h2 : (A n && hitB l n c) = false) (k : Nat) : nextN l A c (n + 1) k = if k = n then true else nextN l A c n k := by
 split
 ·rename_i hk
  subst hk
  unfold nextN
  rw [h1]
  simp
 ·rename_i hk
  unfold nextN
  congr 1
  ·congr 1
   rw [decide_eq_decide]
   omega
  ·cases k with
   | zero => rfl
   | succ j =>
    by_cases hj : j = n
    ·subst hj
     simp [h2]
    ·simp only
     congr 1
     rw [decide_eq_decide]
     omega
theorem nextN_hit (l : List El) (A : Nat → Bool) (c : UInt8) (n : Nat) (h1 : (A n && starAt l n) = false) (h2 : (A n && hitB l n c) = true) (k : Nat) : nextN l A c (n + 1) k = if k = n + 1 then true else nextN l A c n k := by
 split
 ·rename_i hk
  subst hk
  unfold nextN
  simp [h2]
 ·rename_i hk
  unfold nextN
  congr 1
  ·by_cases hk : k = n
   ·subst hk
    rw [h1]
    simp
   ·congr 1
    rw [decide_eq_decide]
    omega
  ·cases k with
   | zero => rfl
   | succ j =>
    simp only
    congr 1
    rw [decide_eq_decide]
    omega
theorem made_first (w : World) (N : Nat) : BRow (w.alloc (.cells ((madeCells #[.bool false] N).setIfInBounds 0 (.bool true)) 4)) w.heap.size N (fun i => decide (i = 0)) := by
 obtain ⟨c, hb, hc⟩ := (BRow.made (w := w) (n := N))
 have h1 := heap_alloc_last w (.cells (madeCells #[.bool false] N) 4)
 rw [h1] at hb
 obtain rfl : madeCells #[.bool false] N = c := by cases hb; rfl
 refine ⟨_, heap_alloc_last w _, fun i hi => ?_⟩
 have hs : i < (madeCells #[.bool false] N).size := (Array.getElem?_eq_some_iff.1 (hc i hi)).1
 rw [Array.getElem?_setIfInBounds]
 by_cases e : 0 = i
 ·subst e
  simp [hs]
 ·rw [if_neg e, hc i hi]
  simp only [decide_eq_false (fun h : i = 0 => e h.symm)]
set_option maxHeartbeats 2000000 in
set_option maxRecDepth 100000 in
theorem one_any (l : List El) (s : ByteArray) (vl : Value) (w : World) (hl : l.length ≤ 256) (hs : s.size ≤ 4611686018427387904) (ht : s.data.toList.all isText = true) (hok : ∀ e ∈ l, e.ok) (hv : PSl w vl l) :
  Calls Tryd.prog 61 #[vl, .string s] w (Bel (.bool (mB l s.data.toList)) w) := by
 have hR := one_match hok s.data.toList ht
 obtain ⟨R, hRe⟩ : ∃ R, mB l s.data.toList = R := ⟨_, rfl⟩
 rw [hRe] at hR ⊢
 have Hvl := Lib.hid hv
 obtain ⟨aj, cj, gj, rfl, haj, hgj, hels⟩ := hv
 obtain ⟨N, hN⟩ : ∃ N, l.length + 1 = N := ⟨_, rfl⟩
 have hNi : (l.length : Int) + 1 = (N : Int) := by omega
 have hmk := fun W => run_make_row' (P := Tryd.prog) 155 4 (.bool false) 1 Tryd.underlying155 info4b rfl .i64 .i64 N (by omega) (by omega) W
 have Hels := Lib.hid hels
 have HN := Lib.hid hN
 have Hgj := Lib.hid hgj
 have HR := Lib.hid hR
 have Ht := Lib.hid ht
 have hplaces := fun A sv W (hb : Below w.heap.size w W) (h : BAt W sv N A) => places_any l A (.slice aj l.length cj) sv W hl (Hvl.out.below hb) (by rw [hN]; exact h)
 rw [hN] at hplaces
 have HPl := Lib.hid hplaces
 have h0N : (0 : Int) < (N : Int) := by omega
 have hmade := BRow.made (w := w) (n := N)
 have hc0 := hmade.cell 0 (by omega)
 have hf0 := hmade.frozen 0
 have hstart : BAt (w.alloc (.cells ((madeCells #[.bool false] N).setIfInBounds 0 (.bool true)) 4)) (.slice (some ⟨w.heap.size, 0, none⟩) N N) N (fun i => decide (i = 0)) := ⟨_, _, rfl, Nat.le_refl _, made_first w N⟩
 have hb0 : Below w.heap.size w (w.alloc (.cells ((madeCells #[.bool false] N).setIfInBounds 0 (.bool true)) 4)) := (Below.refl _ w).alloc (Nat.le_refl _) _
 have Hst := Lib.hid (And.intro hstart hb0)
 clear hels hN hgj hR ht hplaces hmade hstart hb0 hRe
 go_enter Tryd.func61, Tryd.ntmps61
 go_wp2_with fail
 refine (HPl.out _ _ _ Hst.out.2 Hst.out.1).mono ?_
 rintro ed W1 ⟨v, rfl, hv1, hb1⟩
 have Hv1 := Lib.hid hv1
 have Hb1 := Lib.hid (Hst.out.2.trans (hb1.mono Hst.out.2.size))
 clear hv1 hb1 hc0 hf0
 obtain ⟨b1, c1, rfl, hbc1, hr1⟩ := Hv1.out
 clear Hv1
 have Hr1 := Lib.hid hr1
 clear hr1 Hst
 go_wp2
 go_loopw [5, 6] (fun s5 s6 wx => ∃ (k : Nat) (A : Nat → Bool) (bA cA : Nat), k ≤ s.size ∧ s6 = .int .i64 (k : Int) ∧ s5 = .slice (some ⟨bA, 0, none⟩) N cA ∧ N ≤ cA ∧ BRow wx bA N A ∧ runA l A (s.data.toList.drop k) l.length = R ∧ Below w.heap.size w wx) (fun _ s6 _ => s.size - (intOf s6).toNat)
 case atStart => exact ⟨0, _, b1, c1, by omega, rfl, rfl, hbc1, Hr1.out, by rw [List.drop_zero]; exact HR.out, Hb1.out⟩
 case round =>
  obtain ⟨k, A, bA, cA, hk, rfl, rfl, hcA, hrow, hrun, hb⟩ := hrel
  have Hrow := Lib.hid hrow
  have Hrun := Lib.hid hrun
  have Hb := Lib.hid hb
  clear hrow hrun hb Hr1 Hb1
  by_cases hlt : (k : Int) < (s.size : Int)
  ·obtain ⟨x, hx⟩ : ∃ x : UInt8, s[k]'(by omega) = x := ⟨_, rfl⟩
   have hxl : s.data.toList[k]? = some x := by rw [← hx]; exact Lib.data_getElem? s k (by omega)
   have hd := drop_at8 hxl
   have hxt : isText x = true := List.all_eq_true.1 Ht.out x (List.mem_of_getElem? hxl)
   have hx127 : x.toNat ≤ 126 := by
    unfold isText at hxt
    simp only [Bool.and_eq_true, decide_eq_true_eq] at hxt
    exact hxt.2
   have hrun2 := Hrun.out
   rw [hd] at hrun2
   have Hrun2 := Lib.hid (show runA l (placesA l (nextA l A x) l.length) (s.data.toList.drop (k + 1)) l.length = R from hrun2)
   have hxi : (x.toNat : Int) < 128 := by omega
   have hmade := BRow.made (w := wr) (n := N)
   have Hmade := Lib.hid (hmade.congr fun j _ => (nextN_zero l A x j).symm)
   have HrowA := Lib.hid (Hrow.out.of_block (Below.heap_alloc wr (.cells (madeCells #[.bool false] N) 4) _ Hrow.out.lt))
   have HbA := Lib.hid (Hb.out.alloc Hb.out.size (.cells (madeCells #[.bool false] N) 4))
   have hne : bA < wr.heap.size := Hrow.out.lt
   have hle : w.heap.size ≤ wr.heap.size := Hb.out.size
   clear hxl hd hxt hrun2 hmade Hrun
   go_wp2
   obtain ⟨g2, hg2⟩ : ∃ g, wr.heap.size = g := ⟨_, rfl⟩
   rw [hg2] at Hmade hne hle ⊢
   have Hle := Lib.hid hle
   have Hne := Lib.hid hne
   generalize wr.alloc (.cells (madeCells #[.bool false] N) 4) = W2 at *
   clear hg2 hle hne Hrow Hb
   go_loopw [8] (fun s8 wx => ∃ i : Nat, i ≤ l.length ∧ s8 = .int .i64 (i : Int) ∧ BRow wx bA N A ∧ BRow wx g2 N (nextN l A x i) ∧ Below w.heap.size w wx) (fun s8 _ => l.length - (intOf s8).toNat)
   case atStart => exact ⟨0, by omega, rfl, HrowA.out, Hmade.out, HbA.out⟩
   case round =>
    obtain ⟨i, hi, rfl, hra, hrn, hb⟩ := hrel
    have Hra := Lib.hid hra
    have Hrn := Lib.hid hrn
    have Hb := Lib.hid hb
    clear hra hrn hb HrowA Hmade HbA
    by_cases hli : i < l.length
    ·have hiz : (i : Int) < (l.length : Int) := by omega
     have hiN : (i : Int) < (N : Int) := by have := HN.out; omega
     have hiN1 : (i : Int) + 1 < (N : Int) := by have := HN.out; omega
     obtain ⟨e, he⟩ : ∃ e, l[i]? = some e := ⟨_, List.getElem?_eq_getElem hli⟩
     have hst := starAt_get he
     have hhit : hitB l i x = (!e.star && e.set x) := by
      unfold hitB
      rw [he]
     obtain rfl := haj (by omega)
     have hcA := Hra.out.cell i (by omega)
     have hcS := (Hb.out.cell (p := ⟨gj, i * 130, none⟩) Hgj.out).trans (Hels.out i e he).1
     have hcX := (Hb.out.cell (p := ⟨gj, i * 130 + (2 + x.toNat), none⟩) Hgj.out).trans ((Hels.out i e he).2.2 x.toNat (by omega))
     rw [UInt8.ofNat_toNat, ← Nat.add_assoc] at hcX
     have hsame := nextN_same l A x i
     have hstar := nextN_star l A x i
     have hhit2 := nextN_hit l A x i
     rw [hst, hhit] at hsame hstar hhit2
     have hset : setOfE e x = (!e.star && e.set x) := by
      unfold setOfE
      cases e.star <;> simp
     rw [hset] at hcX
     have hgN : g2 ≠ bA := by have := Hne.out; omega
     have hc1 := Hrn.out.cell i (by omega)
     have hf1 := Hrn.out.frozen i
     have hc2 := Hrn.out.cell (i + 1) (by omega)
     have hf2 := Hrn.out.frozen (i + 1)
     have Hsame := Lib.hid hsame
     have Hstar := Lib.hid hstar
     have Hhit := Lib.hid hhit2
     clear hst hhit hsame hstar hhit2 hset he
     generalize hbo : A i = bo at *
     generalize e.star = st at *
     generalize e.set x = sx at *
     have Hbo := Lib.hid hbo
     clear hbo
     cases bo with
     | false =>
      have Hn := Lib.hid (Hrn.out.congr fun k _ => (Hsame.out rfl rfl k).symm)
      clear hc1 hf1 hc2 hf2
      go_wp2
      go_quiet (fail)
      go_wp2
      exact ⟨⟨i + 1, by omega, rfl, Hra.out.of_block rfl, Hn.out.of_block rfl, ⟨Hb.out.os, Hb.out.tape, Hb.out.output, Hb.out.size, Hb.out.block⟩⟩, by simp [intOf]; omega⟩
     | true =>
      cases st with
      | true =>
       have Hn := Lib.hid ((Hrn.out.set i true).congr fun k _ => (Hstar.out rfl rfl k).symm)
       have Hra2 := Lib.hid (Hra.out.of_block (Below.heap_setCell wr ⟨g2, i, none⟩ (.bool true) bA (Ne.symm hgN)))
       have hcA2 := Hra2.out.cell i (by omega)
       rw [Hbo.out] at hcA2
       have Hb2 := Lib.hid (Hb.out.setCell (p := ⟨g2, i, none⟩) Hle.out (.bool true))
       have hcS2 := (Hb2.out.cell (p := ⟨gj, i * 130, none⟩) Hgj.out).trans ((Hb.out.cell (p := ⟨gj, i * 130, none⟩) Hgj.out).symm.trans hcS)
       go_wp2
       go_quiet (fail)
       go_wp2
       exact ⟨⟨i + 1, by omega, rfl, Hra2.out.of_block rfl, Hn.out.of_block rfl, ⟨Hb2.out.os, Hb2.out.tape, Hb2.out.output, Hb2.out.size, Hb2.out.block⟩⟩, by simp [intOf]; omega⟩
      | false =>
       cases sx with
       | false =>
        have Hn := Lib.hid (Hrn.out.congr fun k _ => (Hsame.out rfl rfl k).symm)
        clear hc1 hf1 hc2 hf2
        go_wp2
        go_quiet (fail)
        go_wp2
        exact ⟨⟨i + 1, by omega, rfl, Hra.out.of_block rfl, Hn.out.of_block rfl, ⟨Hb.out.os, Hb.out.tape, Hb.out.output, Hb.out.size, Hb.out.block⟩⟩, by simp [intOf]; omega⟩
       | true =>
        clear hc1 hf1
        go_wp2
        go_quiet (fail)
        go_wp2
        have hd : BRow (wr.drewN nq) g2 N (nextN l A x i) := Hrn.out.of_block rfl
        have hbd : Below w.heap.size w (wr.drewN nq) := ⟨Hb.out.os, Hb.out.tape, Hb.out.output, Hb.out.size, Hb.out.block⟩
        exact ⟨⟨i + 1, by omega, rfl, Hra.out.of_block (Below.heap_setCell (wr.drewN nq) ⟨g2, i + 1, none⟩ (.bool true) bA (Ne.symm hgN)), (hd.set (i + 1) true).congr fun k _ => (Hhit.out rfl rfl k).symm, hbd.setCell (p := ⟨g2, i + 1, none⟩) Hle.out _⟩, by simp [intOf]; omega⟩
    ·obtain rfl : i = l.length := by omega
     have Hn := Lib.hid (Hrn.out.congr fun k hk => nextN_all l A x k (by have := HN.out; omega))
     have HC := Lib.hid (HPl.out (nextA l A x) (.slice (some ⟨g2, 0, none⟩) N N) wr Hb.out ⟨g2, N, rfl, Nat.le_refl _, Hn.out⟩)
     go_wp2_with fail
     refine HC.out.mono ?_
     rintro ed W3 ⟨v, rfl, ⟨b3, c3, rfl, hbc3, hr3⟩, hb3⟩
     have Hr3 := Lib.hid hr3
     have Hb3 := Lib.hid (Hb.out.trans (hb3.mono Hb.out.size))
     clear hr3 hb3
     go_wp2
     exact ⟨⟨k + 1, _, b3, c3, by omega, rfl, rfl, hbc3, Hr3.out, Hrun2.out, Hb3.out⟩, by simp [intOf]; omega⟩
  ·obtain rfl : k = s.size := by omega
   have hrun2 := Hrun.out
   rw [Lib.size_eq, List.drop_length] at hrun2
   have hrun3 : A l.length = R := hrun2
   have hcl := Hrow.out.cell l.length (by have := HN.out; omega)
   rw [hrun3] at hcl
   have hlN : (l.length : Int) < (N : Int) := by have := HN.out; omega
   clear hrun2 hrun3
   go_wp2
   go_ret
   exact ⟨rfl, Hb.out⟩
end Go.Proofs.YtdlchlbngojljaaDoor.Gl
namespace Go.Proofs.YtdlchlbngojljaaDoor.Gl
open Go.RowKit
theorem palts_get {w w' : World} {v : Value} {L : List (List El)} {j : Nat} {a : List El} (h : PAltsAt w v L) (hb : Below w.heap.size w w') (hj : L[j]? = some a) : ∃ G cap aj cj, v = .slice (some ⟨G, 0, none⟩) L.length cap ∧ w'.cell? ⟨G, j, none⟩ = some (.slice aj a.length cj) ∧ PSl w' (.slice aj a.length cj) a := by
 obtain ⟨G, cap, hv, hG, _, hrow⟩ := h
 obtain ⟨aj, cj, gj, hc, h1, h2, h3⟩ := hrow j a hj
 exact ⟨G, cap, aj, cj, hv, (hb.cell (p := ⟨G, j, none⟩) hG).trans hc, PSl.below ⟨aj, cj, gj, rfl, h1, h2, h3⟩ hb⟩
theorem palts_form {w : World} {v : Value} {L : List (List El)} (h : PAltsAt w v L) : ∃ G cap, v = .slice (some ⟨G, 0, none⟩) L.length cap := by
 obtain ⟨G, cap, hv, _⟩ := h
 exact ⟨G, cap, hv⟩
set_option maxHeartbeats 1000000 in
set_option maxRecDepth 100000 in
theorem refMatch_any (p s : ByteArray) (w : World) (hp : p.size ≤ 4611686018427387904) (hs : s.size ≤ 4611686018427387904) : Calls Tryd.prog 41 #[.string p, .string s] w (Bel (.bool (patB p.data.toList s.data.toList)) w) := by
 have hck := fun W => refCheck_any p W hp
 have hpr := fun W => printable_any s W hs
 cases h : altsP p.data.toList with
 | none =>
  have hv : patB p.data.toList s.data.toList = false := by unfold patB; rw [h]
  have Hv := Lib.hid hv
  have hne : (errP p.data.toList != 0) = true := by
   rcases errP_none h with h1 | h1 <;> rw [h1] <;> rfl
  generalize errP p.data.toList = E at *
  have Hck := Lib.hid hck
  clear hck h hv hpr
  go_enter Tryd.func41, Tryd.ntmps41
  go_wp2_with fail
  refine (Hck.out _).mono ?_
  rintro e W1 ⟨rfl, hb⟩
  go_wp2
  go_ret
  exact ⟨by rw [Hv.out]; rfl, hb⟩
 | some L =>
  have hv : patB p.data.toList s.data.toList = L.any fun a => mB a s.data.toList := by unfold patB; rw [h]
  rw [errP_some h] at hck
  have hgd := altsP_good h
  have hps := parse_some h (altsP_short h)
  obtain ⟨R, hR⟩ : ∃ R, patB p.data.toList s.data.toList = R := ⟨_, rfl⟩
  rw [hR]
  rw [hR] at hv
  have Hck := Lib.hid hck
  have Hv := Lib.hid hv
  have Hgd := Lib.hid hgd
  have Hps := Lib.hid hps
  cases ht : s.data.toList.all isText with
  | false =>
   rw [ht] at hpr
   have hf : R = false := by
    rw [hv, List.any_eq_false]
    intro a ha hm
    have := mB_text (fun e he => (hgd.2.2 a ha).2 e he |>.1) _ hm
    rw [ht] at this
    cases this
   have Hf := Lib.hid hf
   have Hpr := Lib.hid hpr
   clear hck hpr h hv hgd hps hR hf ht
   go_enter Tryd.func41, Tryd.ntmps41
   go_wp2_with fail
   refine (Hck.out _).mono ?_
   rintro e W1 ⟨rfl, hb⟩
   have Hb := Lib.hid hb
   clear hb
   go_wp2_with fail
   refine (Hpr.out _).mono ?_
   rintro e W2 ⟨rfl, rfl⟩
   go_wp2
   go_ret
   exact ⟨by rw [Hf.out]; rfl, Hb.out⟩
  | true =>
   rw [ht] at hpr
   have Hpr := Lib.hid hpr
   have Ht := Lib.hid ht
   have hLl : (L.length : Int) ≤ 257 := by have := hgd.2.1; omega
   clear hck hpr h hv hgd hps hR ht
   go_enter Tryd.func41, Tryd.ntmps41
   go_wp2_with fail
   refine (Hck.out _).mono ?_
   rintro e W1 ⟨rfl, hb⟩
   have Hb := Lib.hid hb
   clear hb
   go_wp2_with fail
   refine (Hpr.out _).mono ?_
   rintro e W2 ⟨rfl, hw2⟩
   have hw3 := hw2.symm
   subst hw3
   clear hw2
   go_wp2_with fail
   refine (Hps.out _).mono ?_
   rintro e W3 ⟨hb3, v, rfl, hv3⟩
   obtain ⟨G, cap, rfl⟩ := palts_form hv3
   have Hb3 := Lib.hid (Hb.out.trans (hb3.mono Hb.out.size))
   have Hv3 := Lib.hid hv3
   clear hb3 hv3
   go_wp2
   go_loopw [7] (fun s7 wx => ∃ i : Nat, i ≤ L.length ∧ s7 = .int .i64 (i : Int) ∧ ((L.take i).any fun a => mB a s.data.toList) = false ∧ Below W3.heap.size W3 wx) (fun s7 _ => L.length - (intOf s7).toNat)
   case atStart => exact ⟨0, by omega, rfl, rfl, Below.refl _ _⟩
   case round =>
    obtain ⟨i, hi, rfl, hany, hbx⟩ := hrel
    have Hany := Lib.hid hany
    have Hbx := Lib.hid hbx
    clear hany hbx
    by_cases hlt : i < L.length
    ·have hiz : (i : Int) < (L.length : Int) := by omega
     obtain ⟨a, ha⟩ : ∃ a, L[i]? = some a := ⟨_, List.getElem?_eq_getElem hlt⟩
     have ham : a ∈ L := List.mem_of_getElem? ha
     obtain ⟨G', cap', aj, cj, hG, hc, hps⟩ := palts_get Hv3.out Hbx.out ha
     obtain ⟨rfl, rfl⟩ : G = G' ∧ cap = cap' := by simpa using hG
     have Hone := Lib.hid (one_any a s (.slice aj a.length cj) wr (Hgd.out.2.2 a ham).1 hs Ht.out (fun e he => ((Hgd.out.2.2 a ham).2 e he).1) hps)
     have hnext : ((L.take (i + 1)).any fun a => mB a s.data.toList) = mB a s.data.toList := by
      rw [List.take_add_one, ha, List.any_append, Hany.out]
      simp
     have htrue : mB a s.data.toList = true → R = true := fun hm => by
      rw [Hv.out, List.any_eq_true]
      exact ⟨a, ham, hm⟩
     have Hnext := Lib.hid hnext
     have Htrue := Lib.hid htrue
     clear hnext htrue hps hG ham ha
     generalize mB a s.data.toList = m at *
     go_wp2_with fail
     refine Hone.out.mono ?_
     rintro e W4 ⟨rfl, hb4⟩
     have Hb4 := Lib.hid (Hbx.out.trans (hb4.mono Hbx.out.size))
     clear hb4
     cases m with
     | true =>
      go_wp2
      go_ret
      exact ⟨by rw [Htrue.out (by simp)]; rfl, Hb3.out.trans (Hb4.out.mono Hb3.out.size)⟩
     | false =>
      go_wp2
      exact ⟨⟨i + 1, by omega, rfl, Hnext.out, Hb4.out⟩, by simp [intOf]; omega⟩
    ·obtain rfl : i = L.length := by omega
     have hf : R = false := by
      have := Hany.out
      rw [List.take_length] at this
      rw [Hv.out, this]
     have Hf := Lib.hid hf
     clear hf
     go_wp2
     go_ret
     exact ⟨by rw [Hf.out]; rfl, Hb3.out.trans (Hbx.out.mono Hb3.out.size)⟩
end Go.Proofs.YtdlchlbngojljaaDoor.Gl
