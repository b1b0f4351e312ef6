/- Receive. -/
import Derived.Test.YtikjbhjdpamceaaC
import Derived.Test.YtikjbhjdpamceaaD1
import Derived.Deep.DeepCutAuto
namespace Go.Proofs.Ytikjbhjdpamceaa
open Go.RowKit

def RecvPost (sb rb cap k : Nat) (l : List Ev) (lost : Bool) (w : World) (r : Ending) (w' : World) : Prop :=
  ∃ g, r = .returned (.slice (some ⟨g, 0, none⟩) k k) ∧ w.heap.size ≤ g ∧ w'.heap[g]? = some (.cells (evsC (l.take k)).toArray 42 (0, 0)) ∧ Que w' sb rb cap (l.drop k) lost ∧ Kp [sb, rb] w w'
def RowIs (w0 : World) (g : Nat) (evs : List Ev) (w : World) : Prop := w.heap[g]? = some (.cells (evsC evs).toArray 42 (0, 0)) ∧ Kp [] w0 w
def Clearing (w0 : World) (sb rb cap cc f k g : Nat) (l : List Ev) (sp : List Value) (lost : Bool) (w : World) : Prop :=
  ∃ ring, Clr l f cap k ring ∧ w.heap[sb]? = some (.cells (skC rb cap cc f l.length lost) 52 (0, 0)) ∧ w.heap[rb]? = some (.cells (evsC ring ++ sp).toArray 42 (0, 0)) ∧ w.heap[g]? = some (.cells (evsC (l.take k)).toArray 42 (0, 0)) ∧ Kp [sb, rb] w0 w

theorem RowIs.put {w0 w : World} {g : Nat} {evs : List Ev} (h : RowIs w0 g evs w) (hg : w0.heap.size ≤ g) (evs' : List Ev) : RowIs w0 g evs' (w.drew.setRow g (evsC evs').toArray) :=
  ⟨setRow_heap w.drew g _ _ 42 (0, 0) h.1, (h.2.drew 1).setRow (.inr hg) _⟩
theorem RowIs.draw {w0 w : World} {g : Nat} {evs : List Ev} (h : RowIs w0 g evs w) : RowIs w0 g evs w.drew := ⟨h.1, h.2.drew 1⟩

theorem Clearing.next {w0 w : World} {sb rb cap cc f k g i p : Nat} {l ring : List Ev} {sp : List Value} {lost : Bool} (hc : Clr l f cap k ring) (hs : w.heap[sb]? = some (.cells (skC rb cap cc f l.length lost) 52 (0, 0))) (hr : w.heap[rb]? = some (.cells (evsC ring ++ sp).toArray 42 (0, 0)))
    (hg : w.heap[g]? = some (.cells (evsC (l.take k)).toArray 42 (0, 0))) (hk : Kp [sb, rb] w0 w) (hsr : sb ≠ rb) (hgr : g ≠ rb) (hlc : l.length ≤ cap) (hc1 : 1 ≤ cap) (hi : i < k) (hp : (f + i) % cap = p) (m : Nat) :
    Clearing w0 sb rb cap cc f k g l sp lost (put5 (w.drewN m) rb p ev0) := by
  have hpl : p < ring.length := by rw [hc.1, ← hp]; exact Nat.mod_lt _ (by omega)
  refine ⟨ring.set p ev0, by rw [← hp]; exact hc.set hlc hi, (put5_other _ _ _ _ hsr).trans hs, put5_heap (w := w.drewN m) ev0 hr hpl, (put5_other _ _ _ _ hgr).trans hg, put5_kp (hk.drew m) (.inl (by simp)) p ev0⟩

set_option maxHeartbeats 1000000 in
set_option maxRecDepth 100000 in
theorem receive_any {w : World} {sb rb cap : Nat} {l : List Ev} {lost : Bool} (z : Int) (k : Nat) (h : Que w sb rb cap l lost) (hk0 : k ≤ l.length) (hmm : min (max z 0) (l.length : Int) = (k : Int)) :
    Calls Try.prog 11 #[.pointer (some ⟨sb, 0, none⟩), .int .i64 z] w (RecvPost sb rb cap k l lost w) := by
  obtain ⟨cc, f, ring, sp, hs, hx⟩ := h
  have hcc := hs.cc1
  have hcm := hs.cc2
  obtain ⟨c0, c1, c2, c3⟩ := skCells hs.hs
  have hc1 := hs.cap1
  have hc2 := hs.cap2
  have hlc := hs.hn
  have hff := hs.hf
  have hsl := block_lt hs.hs
  have hrl := block_lt hs.hr
  have hm := fun W => make_events W k (by omega)
  obtain ⟨g, hge⟩ : ∃ g, w.heap.size = g := ⟨_, rfl⟩
  obtain ⟨w1, hw1⟩ : ∃ w1, w.alloc (.cells (evsC (List.replicate k ev0)).toArray 42) = w1 := ⟨_, rfl⟩
  have hR1 : RowIs w g (List.replicate k ev0) w1 := by
    rw [← hw1, ← hge]
    exact ⟨al_new _ _, (Kp.refl [] w).alloc _⟩
  have hsk : ∀ W, Kp [] w W → Sk W sb rb cap cc f ring sp l.length lost := fun W hW => hs.keep (hW.block _ hsl (by simp)) (hW.block _ hrl (by simp))
  obtain ⟨n, hn⟩ : ∃ n, min k (cap - f) = n := ⟨_, rfl⟩
  obtain ⟨evs1, hevs1⟩ : ∃ evs1, l.take n ++ (List.replicate k ev0).drop n = evs1 := ⟨_, rfl⟩
  have hnl : (l.take n).length = n := by rw [List.length_take]; omega
  have he1l : evs1.length = k := by rw [← hevs1, List.length_append, hnl, List.length_drop, List.length_replicate]; omega
  have hcopy1 : (Builtin.copy_ #[23, 23] 3 #[.slice (some ⟨g, 0, none⟩) k k, .slice (some ⟨rb, f * 5, none⟩) (cap - f) (cc - f)]).run Try.prog w1.drew = .ok (.int .i64 (n : Int)) (w1.drew.setRow g (evsC evs1).toArray) := by
    have := run_copy_ev w1.drew 3 g 0 k k ⟨rb, f * 5, none⟩ (cap - f) (cc - f) n (List.replicate k ev0) (l.take n) hR1.1 (by rw [← hn]; exact Nat.min_comm _ _) hnl
      (src_ev (w := w1.drew) (hsk _ hR1.2).hr f (l.take n) ⟨n, recv_short hs.len hff hlc hx (by omega) (by omega)⟩) (by simp; omega)
    rw [Nat.zero_mul, List.take_zero, List.nil_append, Nat.zero_add, hevs1] at this
    exact this
  have hcopy2 : ∀ W, RowIs w g evs1 W → (n < k) → (Builtin.copy_ #[23, 23] 3 #[.slice (some ⟨g, n * 5, none⟩) (k - n) (k - n), .slice (some ⟨rb, 0, none⟩) cap cc]).run Try.prog W.drew = .ok (.int .i64 ((k - n : Nat) : Int)) (W.drew.setRow g (evsC (l.take k)).toArray) := fun W hW hnk => by
    have hnc : n = cap - f := by omega
    have := run_copy_ev W.drew 3 g n (k - n) (k - n) ⟨rb, 0 * 5, none⟩ cap cc (k - n) evs1 (ring.take (k - n)) hW.1 (by simp only [Nat.min_def]; split <;> omega) (by rw [List.length_take, hs.len]; omega)
      (src_ev (w := W.drew) (hsk _ hW.2).hr 0 (ring.take (k - n)) ⟨k - n, by simp⟩) (by omega)
    rw [Nat.zero_mul] at this
    rw [this]
    have e1 : evs1.take n = l.take n := by rw [← hevs1, List.take_append_of_le_length (by omega), List.take_of_length_le (by omega)]
    have e2 : evs1.drop (n + (k - n)) = [] := List.drop_of_length_le (by omega)
    have e3 : l.take n ++ ring.take (k - n) = l.take k := by
      rw [← recv_long hs.len hff hlc hx hk0 (by omega), ← hnc]
      rw [← recv_short hs.len hff hlc hx (show n ≤ l.length by omega) (by omega), List.take_of_length_le (by simp; rw [hs.len]; omega)]
    rw [e1, e2, List.append_nil, e3]
    rfl
  have hcopy3 : n = k → evs1 = l.take k := fun e => by rw [← hevs1, e, List.drop_of_length_le (by simp), List.append_nil]
  have hfi : (f : Int) ≤ (cap : Int) := by omega
  have hfn : ¬ (cc = f) := by omega
  have hcs : ∀ W, Kp [] w W → W.cell? ⟨sb, 0, none⟩ = some (.slice (some ⟨rb, 0, none⟩) cap cc) ∧ W.cell? ⟨sb, 1, none⟩ = some (.int .i64 (f : Int)) := fun W hW => ⟨(skCells (hsk W hW).hs).1, (skCells (hsk W hW).hs).2.1⟩
  have hk63 : k ≤ 9223372036854775807 := by omega
  have hc63 : cap ≤ 9223372036854775807 := by omega
  obtain ⟨d0, d1⟩ := hcs w1 hR1.2
  have HC1 := Lib.hid hcopy1
  have HC2 := Lib.hid hcopy2
  have HC3 := Lib.hid hcopy3
  have HCS := Lib.hid hcs
  have HR1 := Lib.hid hR1
  have HSK := Lib.hid hsk
  have HX := Lib.hid hx
  have HG := Lib.hid hge
  have HNE := Lib.hid hs.ne
  have HW := Lib.hid hw1
  have HN := Lib.hid hn
  have hnk : n ≤ k := by omega
  have hnki : (n : Int) ≤ (k : Int) := by omega
  have hn0 : (0 : Int) ≤ (n : Int) := by omega
  clear hcopy1 hcopy2 hcopy3 hcs hR1 hsk hx hs hnl he1l hevs1
  go_enter Try.func11, Try.ntmps11
  go_wp2_with fail
  clear hm hw1 c0 c1 c2 c3 hmm hge hn
  go_cut [6] (fun s6 wx => s6 = .int .i64 (n : Int) ∧ RowIs w g evs1 wx)
  case first =>
    have hC := HC1.out
    go_region
    all_goals
      go_wp2
      go_meet
      exact ⟨rfl, HR1.out.put (Nat.le_of_eq HG.out) _⟩
  case rest =>
  obtain ⟨rfl, hR2⟩ := hcut
  obtain ⟨e0, e1⟩ := HCS.out wc hR2.2
  have HR2 := Lib.hid hR2
  clear hR2
  go_wp2_with fail
  go_cut [6] (fun s6 wx => s6 = .int .i64 (n : Int) ∧ RowIs w g (l.take k) wx)
  case first =>
    by_cases hnk2 : n = k
    · have hC := run_copy_ev wc.drew 3 g 0 0 0 ⟨rb, 0, none⟩ cap cc 0 evs1 [] HR2.out.1 (Nat.min_zero _).symm rfl (fun j v hj => by simp [evsC] at hj) (Nat.zero_le _)
      rw [Nat.zero_mul, List.take_zero, List.nil_append, List.nil_append, List.drop_zero] at hC
      have hgi : (Builtin.copy_ #[23, 23] 3 #[.slice (some ⟨g, 0, none⟩) 0 0, .slice (some ⟨rb, 0, none⟩) cap cc]).run Try.prog wc.drew = .ok (.int .i64 0) (wc.drew.setRow g (evsC evs1).toArray) := hC
      have HE := Lib.hid (HC3.out hnk2)
      have hks : k - n = 0 := by omega
      clear hC
      subst hnk2
      go_region
      all_goals
        go_wp2
        go_meet
        exact ⟨rfl, by rw [← HE.out]; exact HR2.out.put (Nat.le_of_eq HG.out) _⟩
    · have hC := HC2.out wc HR2.out (by omega)
      have hkn : ¬ (k = n) := by omega
      go_region
      all_goals
        go_wp2
        go_meet
        exact ⟨rfl, HR2.out.put (Nat.le_of_eq HG.out) _⟩
  case rest =>
  have hsr := HNE.out
  have hgr : g ≠ rb := by have := HG.out; omega
  have hgs : g ≠ sb := by have := HG.out; omega
  have hclr : Clearing w sb rb cap cc f k g l sp lost wc := by
    have hR := hcut.2
    have hS := HSK.out wc hR.2
    exact ⟨ring, ⟨hS.len, fun j x hj _ => HX.out j x hj⟩, hS.hs, hS.hr, hR.1, hR.2.mono (by simp)⟩
  have HCL := Lib.hid hclr
  have HSR := Lib.hid hsr
  have HGR := Lib.hid hgr
  have HGS := Lib.hid hgs
  clear hclr hcut hsr hgr hgs e0 e1 d0 d1 HC1 HC2 HC3 HCS HR1 HR2 HSK HX HW HN hnk hnki hn0 hfi hfn hk63 hc63 HNE
  go_wp2_with fail
  go_loopw [37] (fun s37 wx => ∃ i : Nat, i ≤ k ∧ s37 = .int .i64 (i : Int) ∧ Clearing w sb rb cap cc f k g l sp lost wx) (fun s37 _ => k - (intOf s37).toNat)
  case atStart => exact ⟨0, Nat.zero_le _, rfl, HCL.out⟩
  case round =>
    obtain ⟨i, hik, rfl, ring', hc', hs', hr', hg', hk'⟩ := hrel
    by_cases hlt : i < k
    · have hlti : (i : Int) < (k : Int) := by omega
      have hpl := fun m => place_any (w := wr.drewN m) i hs' hc1 hc2 hff (by omega)
      have hp : (f + i) % cap < ring'.length := by rw [hc'.1]; exact Nat.mod_lt _ (by omega)
      obtain ⟨y, hy⟩ : ∃ y, ring'[(f + i) % cap]? = some y := ⟨_, List.getElem?_eq_getElem hp⟩
      obtain ⟨r0, r1, r2, r3, r4⟩ := row5 hr' hy
      have g0 := row5f hr' ((f + i) % cap * 5)
      have g1 := row5f hr' ((f + i) % cap * 5 + 1)
      have g2 := row5f hr' ((f + i) % cap * 5 + 2)
      have g3 := row5f hr' ((f + i) % cap * 5 + 3)
      have g4 := row5f hr' ((f + i) % cap * 5 + 4)
      have c0 := (skCells hs').1
      obtain ⟨p, hpe⟩ : ∃ p, (f + i) % cap = p := ⟨_, rfl⟩
      have hnx := fun m => Clearing.next hc' hs' hr' hg' hk' HSR.out HGR.out hlc hc1 hlt hpe m
      rw [hpe] at hpl hp r0 r1 r2 r3 r4 g0 g1 g2 g3 g4
      rw [hc'.1] at hp
      have HP := Lib.hid hpl
      have HX := Lib.hid hnx
      have hpi : (p : Int) < (cap : Int) := by omega
      have hp0 : (0 : Int) ≤ (p : Int) := by omega
      have hwr : IntKind.i64.wrap ((i : Int) + 1) = ((i + 1 : Nat) : Int) := by rw [IntKind.wrap_i64]; omega
      clear hc' hs' hr' hg' hk' hpl hnx hpe hy
      go_wp2
      go_region_with (go_at_call 20; refine (HP.out _).mono ?_; rintro r W2 ⟨rfl, m, rfl⟩)
      all_goals
        go_wp2
        exact ⟨⟨i + 1, by omega, rfl, HX.out _⟩, by simp [intOf]; omega⟩
    · have hik' : i = k := by omega
      have hlti : ¬ ((i : Int) < (k : Int)) := by omega
      subst hik'
      have hpl := place_any (w := wr) i hs' hc1 hc2 hff (by omega)
      obtain ⟨c0, c1, c2, c3⟩ := skCells hs'
      have f1 := skFrozen hs' 1
      have f2 := skFrozen hs' 2
      have hfin : ∀ m, Que (((wr.drewN m).setCell ⟨sb, 1, none⟩ (.int .i64 (((f + i) % cap : Nat) : Int))).setCell ⟨sb, 2, none⟩ (.int .i64 ((l.length - i : Nat) : Int))) sb rb cap (l.drop i) lost := fun m =>
        Que.taken (sp := sp) hcc hcm (by simp [World.setCell, Array.getElem?_modify, hs', skC]) (by simp [World.setCell, Array.getElem?_modify, hr', HSR.out]) hc' hc1 hc2 hlc HSR.out
      have hfg : ∀ m, (((wr.drewN m).setCell ⟨sb, 1, none⟩ (.int .i64 (((f + i) % cap : Nat) : Int))).setCell ⟨sb, 2, none⟩ (.int .i64 ((l.length - i : Nat) : Int))).heap[g]? = some (.cells (evsC (l.take i)).toArray 42 (0, 0)) := fun m => by
        simp [World.setCell, Array.getElem?_modify, hg', HGS.out.symm]
      have hfk := fun m => ((hk'.drew m).setCell (p := ⟨sb, 1, none⟩) (.inl (by simp)) (.int .i64 (((f + i) % cap : Nat) : Int))).setCell (p := ⟨sb, 2, none⟩) (.inl (by simp)) (.int .i64 ((l.length - i : Nat) : Int))
      have hwr : IntKind.i64.wrap ((l.length : Int) - (i : Int)) = ((l.length - i : Nat) : Int) := by rw [IntKind.wrap_i64]; omega
      obtain ⟨p, hpe⟩ : ∃ p, (f + i) % cap = p := ⟨_, rfl⟩
      rw [hpe] at hpl hfin hfg hfk
      have HP := Lib.hid hpl
      have H1 := Lib.hid hfin
      have H2 := Lib.hid hfg
      have H3 := Lib.hid hfk
      clear hc' hs' hr' hg' hk' hpl hfin hfg hfk hpe
      go_wp2_with fail
      refine HP.out.mono ?_
      rintro r W2 ⟨rfl, m, rfl⟩
      go_wp2
      go_ret
      exact ⟨g, rfl, Nat.le_of_eq HG.out, H2.out m, H1.out m, H3.out m⟩
end Go.Proofs.Ytikjbhjdpamceaa
