/- sound: a sound device, drawn from a tape. -/
import Derived.Test.YthdnbcgomepgaaaDoorJ
namespace Go.Proofs.YthdnbcgomepgaaaDoor
open Go.RowKit

def smallA (l : List Atr) : Prop := ∀ a ∈ l, a.1.size ≤ 100 ∧ a.2.size ≤ 100
theorem small_set {l : List Atr} {n v : ByteArray} (h : smallA l) (hn : n.size ≤ 100) (hv : v.size ≤ 100) : smallA (setP n v l) := fun x hx => by
  unfold setP at hx
  rcases List.mem_append.1 hx with hx | hx
  · exact h x (List.mem_filter.1 hx).1
  · rcases List.mem_append.1 hx with hx | hx
    · rw [mem_one hx]
      exact ⟨hn, hv⟩
    · exact h x (List.mem_filter.1 hx).1
theorem n5_small : ∀ x ∈ N5, x.size ≤ 100 := by
  intro x hx
  simp only [N5, List.mem_cons, List.not_mem_nil, or_false] at hx
  rcases hx with rfl | rfl | rfl | rfl | rfl <;> decide
theorem v4_small : ∀ x ∈ V4, x.size ≤ 100 := by
  intro x hx
  simp only [V4, List.mem_cons, List.not_mem_nil, or_false] at hx
  rcases hx with rfl | rfl | rfl | rfl <;> decide

def AttrsPost2 (tb k : Nat) (w : World) (e : Ending) (w' : World) : Prop := ∃ u l k', e = .returned u ∧ Owns w' w.heap.size u l ∧ (Good l ∧ smallA l) ∧ l.length ≤ 4 ∧ k' ≤ k + 9 ∧ Tape w' tb k' ∧ w.grownBy w' (some tb)

set_option maxHeartbeats 1000000 in
set_option maxRecDepth 100000 in
theorem attrs2_any (tb k : Nat) (w : World) (hk : k ≤ 1000) (h : Tape w tb k) : Calls Tryd.prog 14 #[.pointer (some ⟨tb, 0, none⟩)] w (AttrsPost2 tb k w) := by
  have HN := Lib.hid (next_any tb k 5 w (by omega) (by omega) (by omega) h)
  have htb := h.lt
  clear h
  go_enter Tryd.func14, Tryd.ntmps14
  go_wp2_with fail
  refine HN.out.mono ?_
  rintro e W ⟨r, hr, rfl, hT, hg, hsz⟩
  go_wp2_with fail
  go_loopw [3, 4] (fun s3 s4 wx => ∃ (m kt : Nat) (acc : List Atr), m ≤ 4 ∧ s4 = .int .i64 m ∧ Owns wx w.heap.size s3 acc ∧ (Good acc ∧ smallA acc) ∧ acc.length + m ≤ 4 ∧ kt + 2 * m ≤ k + 9 ∧ Tape wx tb kt ∧ w.grownBy wx (some tb)) (fun _ s4 _ => (intOf s4).toNat)
  case atStart => exact ⟨r, k + 1, [], by omega, rfl, Owns.nil _ _, ⟨good_nil, fun _ h => by cases h⟩, by simp; omega, by omega, hT, hg⟩
  case round =>
    clear hT hg HN
    obtain ⟨m, kt, acc, hm, rfl, hown, hgood, hacc, hkt, hT, hg⟩ := hrel
    cases m with
    | zero =>
      have hz : ¬ ((0 : Int) < ((0 : Nat) : Int)) := by omega
      go_wp2
      go_ret
      exact ⟨_, acc, kt, rfl, hown, hgood, by omega, by omega, hT, hg⟩
    | succ m =>
      have hz : (0 : Int) < ((m + 1 : Nat) : Int) := by omega
      have H1 := Lib.hid (one5 tb kt wr (by omega) hT)
      go_wp2_with fail
      refine H1.out.mono ?_
      rintro e W1 ⟨x, hx, rfl, hT1, hg1⟩
      have H2 := Lib.hid (one4 tb (kt + 1) W1 (by omega) hT1)
      go_wp2_with fail
      refine H2.out.mono ?_
      rintro e W2 ⟨y, hy, rfl, hT2, hg2⟩
      have hgg := hg1.trans hg2
      have hown2 := hown.tape htb hgg
      have H3 := Lib.hid (refSet_any x y _ acc W2 (by omega) hgood.1.1 hown2.has)
      go_wp2_with fail
      refine H3.out.mono ?_
      rintro e W3 ⟨u, rfl, hown3, hb3⟩
      have hlen := setP_length x y acc
      have hfin : w.grownBy W3 (some tb) := (hg.trans hgg).trans (grown_of_below hb3 _)
      have hown3' := hown3.mono (Nat.le_trans hg.size hgg.size)
      have hT3 := hT2.below hb3
      have hgood3 : Good (setP x y acc) ∧ smallA (setP x y acc) := ⟨good_set x y hgood.1, small_set hgood.2 (n5_small x hx) (v4_small y hy)⟩
      have hwr : IntKind.i64.wrap (((m + 1 : Nat) : Int) - 1) = (m : Int) := by rw [IntKind.wrap_i64]; omega
      clear hgood hown hown2 hown3 hT hT1 hT2 hg hg1 hg2 hx hy hgg hb3 H1 H2 H3
      go_wp2
      exact ⟨⟨m, kt + 2, setP x y acc, by omega, by first | rfl | go_num, hown3', hgood3, by omega, by omega, hT3, hfin⟩, by simp [intOf]⟩

def O4 : List ByteArray := [⟨#[115, 100, 97]⟩, ⟨#[115, 100, 97, 49]⟩, ⟨#[99, 33, 100, 48]⟩, ⟨#[101, 116, 104, 48]⟩]
theorem O4_small : ∀ x ∈ O4, x.size ≤ 100 := by
  intro x hx
  simp only [O4, List.mem_cons, List.not_mem_nil, or_false] at hx
  rcases hx with rfl | rfl | rfl | rfl <;> decide
theorem oneO4 (tb k : Nat) (w : World) (hk : k ≤ 1000000) (h : Tape w tb k) :
    Calls Tryd.prog 16 #[.pointer (some ⟨tb, 0, none⟩), .slice (some ⟨w.heap.size, 0, none⟩) 4 4] (w.alloc (.cells #[.string ⟨#[115, 100, 97]⟩, .string ⟨#[115, 100, 97, 49]⟩, .string ⟨#[99, 33, 100, 48]⟩, .string ⟨#[101, 116, 104, 48]⟩] 9)) fun e w' =>
      ∃ x, x.size ≤ 100 ∧ e = .returned (.string x) ∧ Tape w' tb (k + 1) ∧ w.grownBy w' (some tb) := by
  have ha : ((O4 : List ByteArray).map Value.string).toArray = #[.string ⟨#[115, 100, 97]⟩, .string ⟨#[115, 100, 97, 49]⟩, .string ⟨#[99, 33, 100, 48]⟩, .string ⟨#[101, 116, 104, 48]⟩] := rfl
  have hn : O4.length = 4 := rfl
  have hlt := h.lt
  have h1 := one_any tb k w.heap.size 4 O4 (w.alloc (.cells (O4.map Value.string).toArray 9)) (by rw [hn]; omega) (by rw [hn]; omega) hk (h.below ((Below.refl _ w).alloc (Nat.le_refl _) _)) (by omega) (strs_new w O4 9)
  rw [ha, hn] at h1
  exact h1.mono fun e w' ⟨x, hx, he, hT, hg, _⟩ => ⟨x, O4_small x hx, he, hT, (World.grownBy_alloc _ _ _).trans hg⟩
def S2 : List ByteArray := [⟨#[98, 108, 111, 99, 107]⟩, ⟨#[117, 115, 98]⟩]
theorem S2_small : ∀ x ∈ S2, x.size ≤ 100 := by
  intro x hx
  simp only [S2, List.mem_cons, List.not_mem_nil, or_false] at hx
  rcases hx with rfl | rfl <;> decide
theorem oneS2 (tb k : Nat) (w : World) (hk : k ≤ 1000000) (h : Tape w tb k) :
    Calls Tryd.prog 16 #[.pointer (some ⟨tb, 0, none⟩), .slice (some ⟨w.heap.size, 0, none⟩) 2 2] (w.alloc (.cells #[.string ⟨#[98, 108, 111, 99, 107]⟩, .string ⟨#[117, 115, 98]⟩] 9)) fun e w' =>
      ∃ x, x.size ≤ 100 ∧ e = .returned (.string x) ∧ Tape w' tb (k + 1) ∧ w.grownBy w' (some tb) := by
  have ha : ((S2 : List ByteArray).map Value.string).toArray = #[.string ⟨#[98, 108, 111, 99, 107]⟩, .string ⟨#[117, 115, 98]⟩] := rfl
  have hn : S2.length = 2 := rfl
  have hlt := h.lt
  have h1 := one_any tb k w.heap.size 2 S2 (w.alloc (.cells (S2.map Value.string).toArray 9)) (by rw [hn]; omega) (by rw [hn]; omega) hk (h.below ((Below.refl _ w).alloc (Nat.le_refl _) _)) (by omega) (strs_new w S2 9)
  rw [ha, hn] at h1
  exact h1.mono fun e w' ⟨x, hx, he, hT, hg, _⟩ => ⟨x, S2_small x hx, he, hT, (World.grownBy_alloc _ _ _).trans hg⟩
def D2 : List ByteArray := [⟨#[]⟩, ⟨#[104, 105, 100]⟩]
theorem D2_small : ∀ x ∈ D2, x.size ≤ 100 := by
  intro x hx
  simp only [D2, List.mem_cons, List.not_mem_nil, or_false] at hx
  rcases hx with rfl | rfl <;> decide
theorem oneD2 (tb k : Nat) (w : World) (hk : k ≤ 1000000) (h : Tape w tb k) :
    Calls Tryd.prog 16 #[.pointer (some ⟨tb, 0, none⟩), .slice (some ⟨w.heap.size, 0, none⟩) 2 2] (w.alloc (.cells #[.string ⟨#[]⟩, .string ⟨#[104, 105, 100]⟩] 9)) fun e w' =>
      ∃ x, x.size ≤ 100 ∧ e = .returned (.string x) ∧ Tape w' tb (k + 1) ∧ w.grownBy w' (some tb) := by
  have ha : ((D2 : List ByteArray).map Value.string).toArray = #[.string ⟨#[]⟩, .string ⟨#[104, 105, 100]⟩] := rfl
  have hn : D2.length = 2 := rfl
  have hlt := h.lt
  have h1 := one_any tb k w.heap.size 2 D2 (w.alloc (.cells (D2.map Value.string).toArray 9)) (by rw [hn]; omega) (by rw [hn]; omega) hk (h.below ((Below.refl _ w).alloc (Nat.le_refl _) _)) (by omega) (strs_new w D2 9)
  rw [ha, hn] at h1
  exact h1.mono fun e w' ⟨x, hx, he, hT, hg, _⟩ => ⟨x, D2_small x hx, he, hT, (World.grownBy_alloc _ _ _).trans hg⟩
def A2 : List ByteArray := [⟨#[]⟩, ⟨#[117, 115, 98, 58, 118, 49]⟩]
theorem A2_small : ∀ x ∈ A2, x.size ≤ 100 := by
  intro x hx
  simp only [A2, List.mem_cons, List.not_mem_nil, or_false] at hx
  rcases hx with rfl | rfl <;> decide
theorem oneA2 (tb k : Nat) (w : World) (hk : k ≤ 1000000) (h : Tape w tb k) :
    Calls Tryd.prog 16 #[.pointer (some ⟨tb, 0, none⟩), .slice (some ⟨w.heap.size, 0, none⟩) 2 2] (w.alloc (.cells #[.string ⟨#[]⟩, .string ⟨#[117, 115, 98, 58, 118, 49]⟩] 9)) fun e w' =>
      ∃ x, x.size ≤ 100 ∧ e = .returned (.string x) ∧ Tape w' tb (k + 1) ∧ w.grownBy w' (some tb) := by
  have ha : ((A2 : List ByteArray).map Value.string).toArray = #[.string ⟨#[]⟩, .string ⟨#[117, 115, 98, 58, 118, 49]⟩] := rfl
  have hn : A2.length = 2 := rfl
  have hlt := h.lt
  have h1 := one_any tb k w.heap.size 2 A2 (w.alloc (.cells (A2.map Value.string).toArray 9)) (by rw [hn]; omega) (by rw [hn]; omega) hk (h.below ((Below.refl _ w).alloc (Nat.le_refl _) _)) (by omega) (strs_new w A2 9)
  rw [ha, hn] at h1
  exact h1.mono fun e w' ⟨x, hx, he, hT, hg, _⟩ => ⟨x, A2_small x hx, he, hT, (World.grownBy_alloc _ _ _).trans hg⟩
def E2 : List ByteArray := [⟨#[101, 116, 104, 48]⟩, ⟨#[119, 108, 97, 110, 48]⟩]
theorem E2_small : ∀ x ∈ E2, x.size ≤ 100 := by
  intro x hx
  simp only [E2, List.mem_cons, List.not_mem_nil, or_false] at hx
  rcases hx with rfl | rfl <;> decide
theorem oneE2 (tb k : Nat) (w : World) (hk : k ≤ 1000000) (h : Tape w tb k) :
    Calls Tryd.prog 16 #[.pointer (some ⟨tb, 0, none⟩), .slice (some ⟨w.heap.size, 0, none⟩) 2 2] (w.alloc (.cells #[.string ⟨#[101, 116, 104, 48]⟩, .string ⟨#[119, 108, 97, 110, 48]⟩] 9)) fun e w' =>
      ∃ x, x.size ≤ 100 ∧ e = .returned (.string x) ∧ Tape w' tb (k + 1) ∧ w.grownBy w' (some tb) := by
  have ha : ((E2 : List ByteArray).map Value.string).toArray = #[.string ⟨#[101, 116, 104, 48]⟩, .string ⟨#[119, 108, 97, 110, 48]⟩] := rfl
  have hn : E2.length = 2 := rfl
  have hlt := h.lt
  have h1 := one_any tb k w.heap.size 2 E2 (w.alloc (.cells (E2.map Value.string).toArray 9)) (by rw [hn]; omega) (by rw [hn]; omega) hk (h.below ((Below.refl _ w).alloc (Nat.le_refl _) _)) (by omega) (strs_new w E2 9)
  rw [ha, hn] at h1
  exact h1.mono fun e w' ⟨x, hx, he, hT, hg, _⟩ => ⟨x, E2_small x hx, he, hT, (World.grownBy_alloc _ _ _).trans hg⟩
theorem oneL2 (tb k : Nat) (y : ByteArray) (hy : y.size ≤ 100) (w : World) (hk : k ≤ 1000000) (h : Tape w tb k) :
    Calls Tryd.prog 16 #[.pointer (some ⟨tb, 0, none⟩), .slice (some ⟨w.heap.size, 0, none⟩) 2 2] (w.alloc (.cells #[.string y, .string ⟨#[108, 97, 110, 48]⟩] 9)) fun e w' =>
      ∃ x, x.size ≤ 100 ∧ e = .returned (.string x) ∧ Tape w' tb (k + 1) ∧ w.grownBy w' (some tb) := by
  have ha : (([y, ⟨#[108, 97, 110, 48]⟩] : List ByteArray).map Value.string).toArray = #[.string y, .string ⟨#[108, 97, 110, 48]⟩] := rfl
  have hlt := h.lt
  have h1 := one_any tb k w.heap.size 2 [y, ⟨#[108, 97, 110, 48]⟩] (w.alloc (.cells ([y, ⟨#[108, 97, 110, 48]⟩].map Value.string).toArray 9)) (by simp) (by simp) hk (h.below ((Below.refl _ w).alloc (Nat.le_refl _) _)) (by omega) (strs_new w [y, ⟨#[108, 97, 110, 48]⟩] 9)
  rw [ha] at h1
  refine h1.mono fun e w' ⟨x, hx, he, hT, hg, _⟩ => ⟨x, ?_, he, hT, (World.grownBy_alloc _ _ _).trans hg⟩
  simp only [List.mem_cons, List.not_mem_nil, or_false] at hx
  rcases hx with rfl | rfl
  · exact hy
  · decide

/-- A device in a block of its own. -/
def BoxAt (W : World) (D : Nat) (c : Array Value) : Prop := W.heap[D]? = some (.cells c 24 (0, 0))
theorem BoxAt.cell {W : World} {D : Nat} {c : Array Value} (h : BoxAt W D c) (i : Nat) : W.cell? ⟨D, i, none⟩ = c[i]? := cell_of_row _ _ _ _ _ _ h
theorem BoxAt.frozen {W : World} {D : Nat} {c : Array Value} (h : BoxAt W D c) (i : Nat) : W.frozen? ⟨D, i, none⟩ = false := by
  unfold BoxAt at h
  simp [World.frozen?, h]
theorem BoxAt.set {W : World} {D : Nat} {c : Array Value} (h : BoxAt W D c) (i : Nat) (v : Value) : BoxAt (W.setCell ⟨D, i, none⟩ v) D (c.setIfInBounds i v) := by
  unfold BoxAt at h ⊢
  simp [World.setCell, Array.getElem?_modify, h]
theorem BoxAt.set_other {W : World} {D E : Nat} {c : Array Value} (h : BoxAt W D c) (hne : D ≠ E) (i : Nat) (v : Value) : BoxAt (W.setCell ⟨E, i, none⟩ v) D c := (Below.heap_setCell W ⟨E, i, none⟩ v D hne).trans h
def zeroC : Array Value := #[.int .i64 0, .int .i64 0, .string ⟨#[]⟩, .string ⟨#[]⟩, .string ⟨#[]⟩, .string ⟨#[]⟩, .string ⟨#[]⟩, .int .i64 0, .int .i64 0, .slice none 0 0]
theorem info24 : (Tryd.prog.info? 24).map (fun i => (i.zero, i.size)) = some (some (.agg zeroC), 10) := by kernel_rfl

/-- While a device is made: the tape, the device's block, the block of the result, the attributes. -/
structure DS (w0 : World) (tb R D : Nat) (W : World) (k : Nat) (c : Array Value) (av : Value) (l : List Atr) : Prop where
  box : BoxAt W D c
  res : BoxAt W R zeroC
  own : Owns W w0.heap.size av l
  nD : av.ownBlock ≠ some D
  nR : av.ownBlock ≠ some R
  tp : Tape W tb k
  gr : w0.grownBy W (some tb)
  lt : tb < w0.heap.size
  hR : w0.heap.size ≤ R
  hD : w0.heap.size ≤ D
  ne : R ≠ D
theorem DS.tape {w0 W W' : World} {tb R D k k' : Nat} {c : Array Value} {av : Value} {l : List Atr} (h : DS w0 tb R D W k c av l) (hT : Tape W' tb k') (hg : W.grownBy W' (some tb)) : DS w0 tb R D W' k' c av l :=
  ⟨(hg.block D (block_lt h.box) (fun e => by have := Option.some.inj e; have := h.hD; have := h.lt; omega)).trans h.box, (hg.block R (block_lt h.res) (fun e => by have := Option.some.inj e; have := h.hR; have := h.lt; omega)).trans h.res, h.own.tape h.lt hg, h.nD, h.nR, hT, h.gr.trans hg, h.lt, h.hR, h.hD, h.ne⟩
theorem DS.set {w0 W : World} {tb R D k : Nat} {c : Array Value} {av : Value} {l : List Atr} (h : DS w0 tb R D W k c av l) (i : Nat) (v : Value) : DS w0 tb R D (W.setCell ⟨D, i, none⟩ v) k (c.setIfInBounds i v) av l :=
  ⟨h.box.set i v, h.res.set_other h.ne i v, h.own.keep fun b _ hb => Below.heap_setCell W ⟨D, i, none⟩ v b fun e => h.nD (by rw [hb, e]), h.nD, h.nR,
    h.tp.keep fun b hb => Below.heap_setCell W ⟨D, i, none⟩ v b fun e => by have h1 : b = D := e; have := h.hD; have := h.lt; omega,
    ⟨h.gr.os, h.gr.tape, h.gr.output, by have := h.gr.size; simp [World.setCell]; exact this, fun b hb hn => (Below.heap_setCell W ⟨D, i, none⟩ v b fun e => by have h1 : b = D := e; have := h.hD; omega).trans (h.gr.block b hb hn)⟩, h.lt, h.hR, h.hD, h.ne⟩
theorem DS.alloc {w0 W : World} {tb R D k : Nat} {c : Array Value} {av : Value} {l : List Atr} (h : DS w0 tb R D W k c av l) (o : Obj) : DS w0 tb R D (W.alloc o) k c av l :=
  ⟨(Below.heap_alloc W o D (block_lt h.box)).trans h.box, (Below.heap_alloc W o R (block_lt h.res)).trans h.res, h.own.alloc o, h.nD, h.nR, h.tp.below ((Below.refl _ W).alloc (Nat.le_refl _) o), h.gr.trans (World.grownBy_alloc _ _ _), h.lt, h.hR, h.hD, h.ne⟩
/-- The result is stored. -/
theorem DS.done {w0 W : World} {tb R D k : Nat} {c : Array Value} {av : Value} {l : List Atr} (h : DS w0 tb R D W k c av l) : (W.setRow R c).heap[R]? = some (.cells c 24 (0, 0)) ∧ Owns (W.setRow R c) w0.heap.size av l ∧ Tape (W.setRow R c) tb k ∧ w0.grownBy (W.setRow R c) (some tb) := by
  have ho : ∀ b, b ≠ R → (W.setRow R c).heap[b]? = W.heap[b]? := fun b hb => by simp [World.setRow, Array.getElem?_modify, hb.symm]
  refine ⟨setRow_heap W R zeroC c 24 (0, 0) h.res, h.own.keep fun b _ hb => ho b fun e => h.nR (by rw [hb, e]), h.tp.keep fun b hb => ho b (by have := h.hR; have := h.lt; omega), ⟨h.gr.os, h.gr.tape, h.gr.output, ?_, fun b hb hn => (ho b (by have := h.hR; omega)).trans (h.gr.block b hb hn)⟩⟩
  have := h.gr.size
  simp [World.setRow]
  exact this

def DevPost (tb k : Nat) (w : World) (e : Ending) (w' : World) : Prop := ∃ d l k', e = .returned (devV d) ∧ Owns w' w.heap.size d.av l ∧ (Good l ∧ smallA l) ∧ l.length ≤ 4 ∧ k' ≤ k + 40 ∧ Tape w' tb k' ∧ w.grownBy w' (some tb) ∧
  (d.name.size ≤ 100 ∧ d.orig.size ≤ 100 ∧ d.sub.size ≤ 100 ∧ d.drv.size ≤ 100 ∧ d.ali.size ≤ 100)
end Go.Proofs.YthdnbcgomepgaaaDoor
