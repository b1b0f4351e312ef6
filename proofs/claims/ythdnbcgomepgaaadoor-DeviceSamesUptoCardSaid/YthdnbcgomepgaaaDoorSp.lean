/- spoilt: a sound device with at most one fault. -/
import Derived.Test.YthdnbcgomepgaaaDoorNo
import Derived.Laws.IdiomStrings
import Derived.Deep.RegionHeld3
import Derived.Deep.AppendLies
namespace Go.Proofs.YthdnbcgomepgaaaDoor
open Go.RowKit

theorem sized_of {d : Dev} {l : List Atr} (h2 : d.name.size ≤ 100) (h3 : d.orig.size ≤ 100) (h4 : d.sub.size ≤ 100) (h5 : d.drv.size ≤ 100) (h6 : d.ali.size ≤ 100) (h : smallA l) : Sized d l :=
  ⟨by omega, by omega, by omega, by omega, by omega, fun a ha => by have := h a ha; omega⟩
def X4 : List ByteArray := [⟨#[]⟩, ⟨#[46]⟩, ⟨#[97, 47, 98]⟩, ⟨#[111, 116, 104, 101, 114]⟩]
theorem X4_small : ∀ x ∈ X4, x.size ≤ 100 := by
  intro x hx
  simp only [X4, List.mem_cons, List.not_mem_nil, or_false] at hx
  rcases hx with rfl | rfl | rfl | rfl <;> decide
theorem oneX4 (tb k : Nat) (w : World) (hk : k ≤ 1000000) (h : Tape w tb k) :
    Calls Tryd.prog 16 #[.pointer (some ⟨tb, 0, none⟩), .slice (some ⟨w.heap.size, 0, none⟩) 4 4] (w.alloc (.cells #[.string ⟨#[]⟩, .string ⟨#[46]⟩, .string ⟨#[97, 47, 98]⟩, .string ⟨#[111, 116, 104, 101, 114]⟩] 9)) fun e w' =>
      ∃ x, x.size ≤ 100 ∧ e = .returned (.string x) ∧ Tape w' tb (k + 1) ∧ w.grownBy w' (some tb) := by
  have ha : ((X4 : List ByteArray).map Value.string).toArray = #[.string ⟨#[]⟩, .string ⟨#[46]⟩, .string ⟨#[97, 47, 98]⟩, .string ⟨#[111, 116, 104, 101, 114]⟩] := rfl
  have hn : X4.length = 4 := rfl
  have hlt := h.lt
  have h1 := one_any tb k w.heap.size 4 X4 (w.alloc (.cells (X4.map Value.string).toArray 9)) (by rw [hn]; omega) (by rw [hn]; omega) hk (h.below ((Below.refl _ w).alloc (Nat.le_refl _) _)) (by omega) (strs_new w X4 9)
  rw [ha, hn] at h1
  exact h1.mono fun e w' ⟨x, hx, he, hT, hg, _⟩ => ⟨x, X4_small x hx, he, hT, (World.grownBy_alloc _ _ _).trans hg⟩
def B2 : List ByteArray := [⟨#[]⟩, ⟨#[49]⟩]
theorem B2_small : ∀ x ∈ B2, x.size ≤ 100 := by
  intro x hx
  simp only [B2, List.mem_cons, List.not_mem_nil, or_false] at hx
  rcases hx with rfl | rfl <;> decide
theorem oneB2 (tb k : Nat) (w : World) (hk : k ≤ 1000000) (h : Tape w tb k) :
    Calls Tryd.prog 16 #[.pointer (some ⟨tb, 0, none⟩), .slice (some ⟨w.heap.size, 0, none⟩) 2 2] (w.alloc (.cells #[.string ⟨#[]⟩, .string ⟨#[49]⟩] 9)) fun e w' =>
      ∃ x, x.size ≤ 100 ∧ e = .returned (.string x) ∧ Tape w' tb (k + 1) ∧ w.grownBy w' (some tb) := by
  have ha : ((B2 : List ByteArray).map Value.string).toArray = #[.string ⟨#[]⟩, .string ⟨#[49]⟩] := rfl
  have hn : B2.length = 2 := rfl
  have hlt := h.lt
  have h1 := one_any tb k w.heap.size 2 B2 (w.alloc (.cells (B2.map Value.string).toArray 9)) (by rw [hn]; omega) (by rw [hn]; omega) hk (h.below ((Below.refl _ w).alloc (Nat.le_refl _) _)) (by omega) (strs_new w B2 9)
  rw [ha, hn] at h1
  exact h1.mono fun e w' ⟨x, hx, he, hT, hg, _⟩ => ⟨x, B2_small x hx, he, hT, (World.grownBy_alloc _ _ _).trans hg⟩
theorem oneB2d (tb k : Nat) (w : World) (hk : k ≤ 1000000) (h : Tape w tb k) :
    Calls Tryd.prog 16 #[.pointer (some ⟨tb, 0, none⟩), .slice (some ⟨w.heap.size, 0, none⟩) 2 2] (w.alloc (.cells #[.string ⟨#[]⟩, .string ⟨#[49]⟩] 9)).drew fun e w' =>
      ∃ x, x.size ≤ 100 ∧ e = .returned (.string x) ∧ Tape w' tb (k + 1) ∧ w.grownBy w' (some tb) := by
  have ha : ((B2 : List ByteArray).map Value.string).toArray = #[.string ⟨#[]⟩, .string ⟨#[49]⟩] := rfl
  have hn : B2.length = 2 := rfl
  have hlt := h.lt
  have h1 := one_any tb k w.heap.size 2 B2 (w.alloc (.cells (B2.map Value.string).toArray 9)).drew (by rw [hn]; omega) (by rw [hn]; omega) hk (h.below ((Below.refl _ w).alloc (Nat.le_refl _) _).drew) (by omega) (strs_new w B2 9)
  rw [ha, hn] at h1
  have hd : (w.alloc (.cells #[.string ⟨#[]⟩, .string ⟨#[49]⟩] 9)).grownBy (w.alloc (.cells #[.string ⟨#[]⟩, .string ⟨#[49]⟩] 9)).drew (some tb) := ⟨rfl, rfl, rfl, Nat.le_refl _, fun _ _ _ => rfl⟩
  exact h1.mono fun e w' ⟨x, hx, he, hT, hg, _⟩ => ⟨x, B2_small x hx, he, hT, (World.grownBy_alloc _ _ _).trans (hd.trans hg)⟩
def Y6 : List ByteArray := [⟨#[]⟩, ⟨#[46, 46]⟩, ⟨#[120, 33]⟩, ⟨#[33, 120]⟩, ⟨#[97, 33, 33, 98]⟩, ⟨#[101, 116, 104, 58, 48]⟩]
theorem Y6_small : ∀ x ∈ Y6, x.size ≤ 100 := by
  intro x hx
  simp only [Y6, List.mem_cons, List.not_mem_nil, or_false] at hx
  rcases hx with rfl | rfl | rfl | rfl | rfl | rfl <;> decide
theorem oneY6 (tb k : Nat) (w : World) (hk : k ≤ 1000000) (h : Tape w tb k) :
    Calls Tryd.prog 16 #[.pointer (some ⟨tb, 0, none⟩), .slice (some ⟨w.heap.size, 0, none⟩) 6 6] (w.alloc (.cells #[.string ⟨#[]⟩, .string ⟨#[46, 46]⟩, .string ⟨#[120, 33]⟩, .string ⟨#[33, 120]⟩, .string ⟨#[97, 33, 33, 98]⟩, .string ⟨#[101, 116, 104, 58, 48]⟩] 9)) fun e w' =>
      ∃ x, x.size ≤ 100 ∧ e = .returned (.string x) ∧ Tape w' tb (k + 1) ∧ w.grownBy w' (some tb) := by
  have ha : ((Y6 : List ByteArray).map Value.string).toArray = #[.string ⟨#[]⟩, .string ⟨#[46, 46]⟩, .string ⟨#[120, 33]⟩, .string ⟨#[33, 120]⟩, .string ⟨#[97, 33, 33, 98]⟩, .string ⟨#[101, 116, 104, 58, 48]⟩] := rfl
  have hn : Y6.length = 6 := rfl
  have hlt := h.lt
  have h1 := one_any tb k w.heap.size 6 Y6 (w.alloc (.cells (Y6.map Value.string).toArray 9)) (by rw [hn]; omega) (by rw [hn]; omega) hk (h.below ((Below.refl _ w).alloc (Nat.le_refl _) _)) (by omega) (strs_new w Y6 9)
  rw [ha, hn] at h1
  exact h1.mono fun e w' ⟨x, hx, he, hT, hg, _⟩ => ⟨x, Y6_small x hx, he, hT, (World.grownBy_alloc _ _ _).trans hg⟩

theorem qname (m : Nat) (hm : m ≤ 100) (w : World) : Sem.run Tryd.prog (convert 56 9 (.slice (some ⟨w.heap.size, 0, none⟩) 2 2)) (w.alloc (.cells #[.int .u8 113, .int .u8 (97 + (m : Int))] 5)) = .ok (.string ⟨#[113, UInt8.ofNat (97 + m)]⟩) (w.alloc (.cells #[.int .u8 113, .int .u8 (97 + (m : Int))] 5)) := by
  have h := run_convert_bytes_back (P := Tryd.prog) (w.alloc (.cells #[.int .u8 113, .int .u8 (97 + (m : Int))] 5)) 56 9 5 ⟨w.heap.size, 0, none⟩ 2 [113, UInt8.ofNat (97 + m)] Tryd.underlying56 Tryd.underlying5 Tryd.underlying9 (fun j hj => by
    refine cells_new w #[.int .u8 113, .int .u8 (97 + (m : Int))] 5 j _ ?_
    have hmm : (97 + m) % 256 = 97 + m := Nat.mod_eq_of_lt (by omega)
    match j, hj with
    | 0, _ => rfl
    | 1, _ => simp [UInt8.toNat_ofNat', hmm]
    | n + 2, h => simp at h; omega)
  exact h
theorem qname' (m : Nat) (hm : m ≤ 100) (w : World) : ∃ x : ByteArray, x.size ≤ 100 ∧ Sem.run Tryd.prog (convert 56 9 (.slice (some ⟨w.heap.size, 0, none⟩) 2 2)) (w.alloc (.cells #[.int .u8 113, .int .u8 (97 + (m : Int))] 5)) = .ok (.string x) (w.alloc (.cells #[.int .u8 113, .int .u8 (97 + (m : Int))] 5)) :=
  ⟨_, by show (#[113, UInt8.ofNat (97 + m)] : Array UInt8).size ≤ 100; simp, qname m hm w⟩
theorem DS.swap {w0 W W' : World} {tb R D k : Nat} {c : Array Value} {av u : Value} {l l' : List Atr} (h : DS w0 tb R D W k c av l) (hb : Below W.heap.size W W') (ho : Owns W' W.heap.size u l') : DS w0 tb R D W' k c u l' := by
  have h1 := h.tape (h.tp.below hb) (grown_of_below hb (some tb))
  have hDl := block_lt h.box
  have hRl := block_lt h.res
  have hn : ∀ b, b < W.heap.size → u.ownBlock ≠ some b := fun b hb e => by
    rcases ho.form with ⟨hv, _⟩ | ⟨g, cap, hv, hBg, hgl, _⟩
    · rw [hv] at e
      cases e
    · rw [hv] at e
      have h2 : g = b := Option.some.inj e
      omega
  exact ⟨h1.box, h1.res, ho.mono h.gr.size, hn D hDl, hn R hRl, h1.tp, h1.gr, h1.lt, h1.hR, h1.hD, h1.ne⟩
theorem DS.drew {w0 W : World} {tb R D k : Nat} {c : Array Value} {av : Value} {l : List Atr} (h : DS w0 tb R D W k c av l) : DS w0 tb R D W.drew k c av l :=
  h.tape (h.tp.keep fun _ _ => rfl) ⟨rfl, rfl, rfl, Nat.le_refl _, fun _ _ _ => rfl⟩
theorem DS.same {w0 W W' : World} {tb R D k : Nat} {c : Array Value} {av : Value} {l : List Atr} (h : DS w0 tb R D W k c av l) (h1 : W'.heap = W.heap) (h2 : W'.os = W.os) (h3 : W'.tape = W.tape) (h4 : W'.output = W.output) : DS w0 tb R D W' k c av l :=
  h.tape (h.tp.keep fun _ _ => by rw [h1]) ⟨h2, h3, h4, by rw [h1]; exact Nat.le_refl _, fun _ _ _ => by rw [h1]⟩
theorem oneB2g (tb k b : Nat) (W : World) (hk : k ≤ 1000000) (hT : Tape W tb k) (hb : tb < b) (hc : ∀ (j : Nat) x, B2[j]? = some x → W.cell? ⟨b, j, none⟩ = some (.string x)) :
    Calls Tryd.prog 16 #[.pointer (some ⟨tb, 0, none⟩), .slice (some ⟨b, 0, none⟩) 2 2] W fun e w' =>
      ∃ x, x.size ≤ 100 ∧ e = .returned (.string x) ∧ Tape w' tb (k + 1) ∧ W.grownBy w' (some tb) := by
  have hn : B2.length = 2 := rfl
  have h1 := one_any tb k b 2 B2 W (by rw [hn]; omega) (by rw [hn]; omega) hk hT (by omega) hc
  rw [hn] at h1
  exact h1.mono fun e w' ⟨x, hx, he, hT, hg, _⟩ => ⟨x, B2_small x hx, he, hT, hg⟩
theorem own_lo {w : World} {B b : Nat} {v : Value} {l : List Atr} (h : Owns w B v l) (hb : b < B) : v.ownBlock ≠ some b := fun e => by
  rcases h.form with ⟨hv, _⟩ | ⟨g, cap, hv, hBg, hgl, _⟩
  · rw [hv] at e
    cases e
  · rw [hv] at e
    have h2 : g = b := Option.some.inj e
    omega
theorem DS.grow {w0 W W' : World} {tb R D k : Nat} {c : Array Value} {av : Value} {l l' : List Atr} {gg n cap : Nat} (h : DS w0 tb R D W k c av l) (hg : W.grownBy W' av.ownBlock) (ho : Owns W' w0.heap.size (.slice (some ⟨gg, 0, none⟩) n cap) l') (hat : av.ownBlock = some gg ∨ gg = W.heap.size) : DS w0 tb R D W' k c (.slice (some ⟨gg, 0, none⟩) n cap) l' := by
  have hDl := block_lt h.box
  have hRl := block_lt h.res
  have hne : ∀ b, b < W.heap.size → av.ownBlock ≠ some b → (Value.slice (some ⟨gg, 0, none⟩) n cap).ownBlock ≠ some b := fun b hb hn e => by
    have h2 : gg = b := Option.some.inj e
    rcases hat with h3 | h3
    · exact hn (by rw [h3, h2])
    · omega
  have hlow : ∀ b, b < w0.heap.size → W'.heap[b]? = W.heap[b]? := fun b hb => hg.block b (by have := h.gr.size; omega) fun e => own_lo h.own hb e.symm
  exact ⟨(hg.block D hDl fun e => h.nD e.symm).trans h.box, (hg.block R hRl fun e => h.nR e.symm).trans h.res, ho, hne D hDl h.nD, hne R hRl h.nR, h.tp.keep fun b hb => hlow b (by have := h.lt; omega),
    ⟨hg.os.trans h.gr.os, hg.tape.trans h.gr.tape, hg.output.trans h.gr.output, Nat.le_trans h.gr.size hg.size, fun b hb hn => (hlow b hb).trans (h.gr.block b hb hn)⟩, h.lt, h.hR, h.hD, h.ne⟩
def SpPost (tb : Nat) (w : World) (e : Ending) (w' : World) : Prop := ∃ d l, e = .returned (devV d) ∧ Owns w' w.heap.size d.av l ∧ l.length ≤ 40 ∧ Sized d l ∧ w.grownBy w' (some tb)

set_option maxHeartbeats 2000000 in
set_option maxRecDepth 100000 in
theorem spoilt_any (tb k : Nat) (w : World) (hk : k ≤ 400) (h : Tape w tb k) : Calls Tryd.prog 11 #[.pointer (some ⟨tb, 0, none⟩)] w (SpPost tb w) := by
  have hv := (zero_of_info (P := Tryd.prog) info24).1
  have hi := (zero_of_info (P := Tryd.prog) info24).2
  have htb := h.lt
  have hT0 := h.below ((Below.refl _ w).alloc (Nat.le_refl _) (.cells zeroC 24))
  have hR0 : BoxAt (w.alloc (.cells zeroC 24)) w.heap.size zeroC := heap_last w _
  have hG0 : w.grownBy (w.alloc (.cells zeroC 24)) (some tb) := World.grownBy_alloc _ _ _
  have HC := Lib.hid (And.intro hR0 hG0)
  have HN := Lib.hid (sound_any tb k _ (by omega) hT0)
  clear h hT0 hR0 hG0
  go_enter Tryd.func11, Tryd.ntmps11
  go_wp2_with fail
  refine HN.out.mono ?_
  rintro e W7 ⟨d, l, k8, rfl, hown, hgood, hlen, hk8, hT, hg, hs⟩
  obtain ⟨ua, un, uc, hav⟩ := owns_slice hown
  obtain ⟨idx, par, name, orig, sub, drv, ali, kind, num, av⟩ := d
  simp only at hav hs hown
  subst hav
  obtain ⟨h2, h3, h4, h5, h6⟩ := hs
  have hsm := hgood.2
  unfold devV devC
  simp only
  have hR7 : BoxAt W7 w.heap.size zeroC := (hg.block _ (block_lt HC.out.1) (fun e => by have := Option.some.inj e; omega)).trans HC.out.1
  have hDS := ds_new #[.int .i64 idx, .int .i64 par, .string name, .string orig, .string sub, .string drv, .string ali, .int .i64 kind, .int .i64 num, .slice ua un uc] hR7 hown (by simp) (by simp) hT (HC.out.2.trans hg) htb (Nat.le_refl _)
  have D0 := Lib.hid hDS
  have Hl7 := Lib.hid (heap_last W7 (.cells zeroC 24))
  have hsrt := hgood.1.1
  clear hown hT hg hR7 hDS HN HC hgood
  go_wp2_with (refine wpList_store_row rfl 24 _ _ rfl W7.heap.size #[.int .i64 idx, .int .i64 par, .string name, .string orig, .string sub, .string drv, .string ali, .int .i64 kind, .int .i64 num, .slice ua un uc] rfl rfl 24 _ Hl7.out hi rfl (by simp [Value.oneCell']) ?_)
  generalize (W7.alloc (.cells zeroC 24)).setRow W7.heap.size #[.int .i64 idx, .int .i64 par, .string name, .string orig, .string sub, .string drv, .string ali, .int .i64 kind, .int .i64 num, .slice ua un uc] = W8 at D0 ⊢
  clear Hl7
  generalize W7.heap.size = D at *
  refine (next_any tb k8 16 W8 (by omega) (by omega) (by omega) D0.out.tp).mono ?_
  rintro e W9 ⟨r, hr, rfl, hT, hg, hs⟩
  have D1 := Lib.hid (D0.out.tape hT hg)
  clear hT hg hs D0
  by_cases g0 : r = 0
  · subst g0
    have HO := Lib.hid (next_any tb (k8 + 1) 2 W9 (by omega) (by omega) (by omega) D1.out.tp)
    go_wp2_with fail
    refine HO.out.mono ?_
    rintro e Wa ⟨q, hq, rfl, hT, hg, hs⟩
    obtain ⟨z, hz⟩ : ∃ z : Int, IntKind.i64.wrap ((q : Int) * 1073741825) = z := ⟨_, rfl⟩
    have D2 := Lib.hid (D1.out.tape hT hg)
    clear hT hg HO hs
    have c0 := D2.out.box.cell 0
    simp only [List.getElem?_toArray, List.getElem?_cons_zero] at c0
    have f0 := D2.out.box.frozen 0
    have D3 := Lib.hid (show DS w tb w.heap.size D (Wa.setCell ⟨D, 0, none⟩ (.int .i64 z)) (k8 + 1 + 1) #[.int .i64 z, .int .i64 par, .string name, .string orig, .string sub, .string drv, .string ali, .int .i64 kind, .int .i64 num, .slice ua un uc] (.slice ua un uc) l from D2.out.set 0 _)
    go_wp2_with (first
      | (refine wpList_load_row rfl 24 _ rfl D rfl 24 _ _ _ D3.out.box Tryd.underlying24 rfl hi ?_)
      | (refine wpList_store_row rfl 24 _ _ rfl w.heap.size #[.int .i64 z, .int .i64 par, .string name, .string orig, .string sub, .string drv, .string ali, .int .i64 kind, .int .i64 num, .slice ua un uc] rfl rfl 24 _ D3.out.res hi rfl (by simp [Value.oneCell']) ?_))
    obtain ⟨r_1, r_2, r_3, r_4⟩ := D3.out.done
    exact bodyPost_ret (v := devV (⟨z, par, name, orig, sub, drv, ali, kind, num, .slice ua un uc⟩ : Dev)) (results_cell_row rfl _ _ w.heap.size 24 _ _ _ rfl r_1 Tryd.underlying24 rfl hi) rfl ⟨(⟨z, par, name, orig, sub, drv, ali, kind, num, .slice ua un uc⟩ : Dev), l, rfl, r_2, by omega, (sized_of h2 h3 h4 h5 h6 hsm), r_4⟩
  by_cases g1 : r = 1
  · subst g1
    have c0 := D1.out.box.cell 0
    simp only [List.getElem?_toArray, List.getElem?_cons_zero] at c0
    have f0 := D1.out.box.frozen 0
    have c1 := D1.out.box.cell 1
    simp only [List.getElem?_toArray, List.getElem?_cons_zero, List.getElem?_cons_succ] at c1
    have f1 := D1.out.box.frozen 1
    have D2 := Lib.hid (show DS w tb w.heap.size D (W9.setCell ⟨D, 1, none⟩ (.int .i64 idx)) (k8 + 1) #[.int .i64 idx, .int .i64 idx, .string name, .string orig, .string sub, .string drv, .string ali, .int .i64 kind, .int .i64 num, .slice ua un uc] (.slice ua un uc) l from D1.out.set 1 _)
    go_wp2_with (first
      | (refine wpList_load_row rfl 24 _ rfl D rfl 24 _ _ _ D2.out.box Tryd.underlying24 rfl hi ?_)
      | (refine wpList_store_row rfl 24 _ _ rfl w.heap.size #[.int .i64 idx, .int .i64 idx, .string name, .string orig, .string sub, .string drv, .string ali, .int .i64 kind, .int .i64 num, .slice ua un uc] rfl rfl 24 _ D2.out.res hi rfl (by simp [Value.oneCell']) ?_))
    obtain ⟨r_1, r_2, r_3, r_4⟩ := D2.out.done
    exact bodyPost_ret (v := devV (⟨idx, idx, name, orig, sub, drv, ali, kind, num, .slice ua un uc⟩ : Dev)) (results_cell_row rfl _ _ w.heap.size 24 _ _ _ rfl r_1 Tryd.underlying24 rfl hi) rfl ⟨(⟨idx, idx, name, orig, sub, drv, ali, kind, num, .slice ua un uc⟩ : Dev), l, rfl, r_2, by omega, (sized_of h2 h3 h4 h5 h6 hsm), r_4⟩
  by_cases g2 : r = 2
  · subst g2
    have HO := Lib.hid (oneX4 tb (k8 + 1) W9 (by omega) D1.out.tp)
    go_wp2_with fail
    refine HO.out.mono ?_
    rintro e Wa ⟨x5, hx5, rfl, hT, hg⟩
    have D2 := Lib.hid (D1.out.tape hT hg)
    clear hT hg HO
    have c2 := D2.out.box.cell 2
    simp only [List.getElem?_toArray, List.getElem?_cons_zero, List.getElem?_cons_succ] at c2
    have f2 := D2.out.box.frozen 2
    have D3 := Lib.hid (show DS w tb w.heap.size D (Wa.setCell ⟨D, 2, none⟩ (.string x5)) (k8 + 1 + 1) #[.int .i64 idx, .int .i64 par, .string x5, .string orig, .string sub, .string drv, .string ali, .int .i64 kind, .int .i64 num, .slice ua un uc] (.slice ua un uc) l from D2.out.set 2 _)
    go_wp2_with (first
      | (refine wpList_load_row rfl 24 _ rfl D rfl 24 _ _ _ D3.out.box Tryd.underlying24 rfl hi ?_)
      | (refine wpList_store_row rfl 24 _ _ rfl w.heap.size #[.int .i64 idx, .int .i64 par, .string x5, .string orig, .string sub, .string drv, .string ali, .int .i64 kind, .int .i64 num, .slice ua un uc] rfl rfl 24 _ D3.out.res hi rfl (by simp [Value.oneCell']) ?_))
    obtain ⟨r_1, r_2, r_3, r_4⟩ := D3.out.done
    exact bodyPost_ret (v := devV (⟨idx, par, x5, orig, sub, drv, ali, kind, num, .slice ua un uc⟩ : Dev)) (results_cell_row rfl _ _ w.heap.size 24 _ _ _ rfl r_1 Tryd.underlying24 rfl hi) rfl ⟨(⟨idx, par, x5, orig, sub, drv, ali, kind, num, .slice ua un uc⟩ : Dev), l, rfl, r_2, by omega, (sized_of hx5 h3 h4 h5 h6 hsm), r_4⟩
  by_cases g3 : r = 3
  · subst g3
    have HO := Lib.hid (oneY6 tb (k8 + 1) W9 (by omega) D1.out.tp)
    go_wp2_with fail
    refine HO.out.mono ?_
    rintro e Wa ⟨x5, hx5, rfl, hT, hg⟩
    have D2 := Lib.hid (D1.out.tape hT hg)
    clear hT hg HO
    have c3 := D2.out.box.cell 3
    simp only [List.getElem?_toArray, List.getElem?_cons_zero, List.getElem?_cons_succ] at c3
    have f3 := D2.out.box.frozen 3
    have D3 := Lib.hid (show DS w tb w.heap.size D (Wa.setCell ⟨D, 3, none⟩ (.string x5)) (k8 + 1 + 1) #[.int .i64 idx, .int .i64 par, .string name, .string x5, .string sub, .string drv, .string ali, .int .i64 kind, .int .i64 num, .slice ua un uc] (.slice ua un uc) l from D2.out.set 3 _)
    go_wp2_with (first
      | (refine wpList_load_row rfl 24 _ rfl D rfl 24 _ _ _ D3.out.box Tryd.underlying24 rfl hi ?_)
      | (refine wpList_store_row rfl 24 _ _ rfl w.heap.size #[.int .i64 idx, .int .i64 par, .string name, .string x5, .string sub, .string drv, .string ali, .int .i64 kind, .int .i64 num, .slice ua un uc] rfl rfl 24 _ D3.out.res hi rfl (by simp [Value.oneCell']) ?_))
    obtain ⟨r_1, r_2, r_3, r_4⟩ := D3.out.done
    exact bodyPost_ret (v := devV (⟨idx, par, name, x5, sub, drv, ali, kind, num, .slice ua un uc⟩ : Dev)) (results_cell_row rfl _ _ w.heap.size 24 _ _ _ rfl r_1 Tryd.underlying24 rfl hi) rfl ⟨(⟨idx, par, name, x5, sub, drv, ali, kind, num, .slice ua un uc⟩ : Dev), l, rfl, r_2, by omega, (sized_of h2 hx5 h4 h5 h6 hsm), r_4⟩
  by_cases g4 : r = 4
  · subst g4
    have c4 := D1.out.box.cell 4
    simp only [List.getElem?_toArray, List.getElem?_cons_zero, List.getElem?_cons_succ] at c4
    have f4 := D1.out.box.frozen 4
    have D2 := Lib.hid (show DS w tb w.heap.size D (W9.setCell ⟨D, 4, none⟩ (.string ⟨#[]⟩)) (k8 + 1) #[.int .i64 idx, .int .i64 par, .string name, .string orig, .string ⟨#[]⟩, .string drv, .string ali, .int .i64 kind, .int .i64 num, .slice ua un uc] (.slice ua un uc) l from D1.out.set 4 _)
    go_wp2_with (first
      | (refine wpList_load_row rfl 24 _ rfl D rfl 24 _ _ _ D2.out.box Tryd.underlying24 rfl hi ?_)
      | (refine wpList_store_row rfl 24 _ _ rfl w.heap.size #[.int .i64 idx, .int .i64 par, .string name, .string orig, .string ⟨#[]⟩, .string drv, .string ali, .int .i64 kind, .int .i64 num, .slice ua un uc] rfl rfl 24 _ D2.out.res hi rfl (by simp [Value.oneCell']) ?_))
    obtain ⟨r_1, r_2, r_3, r_4⟩ := D2.out.done
    exact bodyPost_ret (v := devV (⟨idx, par, name, orig, ⟨#[]⟩, drv, ali, kind, num, .slice ua un uc⟩ : Dev)) (results_cell_row rfl _ _ w.heap.size 24 _ _ _ rfl r_1 Tryd.underlying24 rfl hi) rfl ⟨(⟨idx, par, name, orig, ⟨#[]⟩, drv, ali, kind, num, .slice ua un uc⟩ : Dev), l, rfl, r_2, by omega, (sized_of h2 h3 (show (⟨#[]⟩ : ByteArray).size ≤ 100 by decide) h5 h6 hsm), r_4⟩
  by_cases g5 : r = 5
  · subst g5
    have c5 := D1.out.box.cell 5
    simp only [List.getElem?_toArray, List.getElem?_cons_zero, List.getElem?_cons_succ] at c5
    have f5 := D1.out.box.frozen 5
    have D2 := Lib.hid (show DS w tb w.heap.size D (W9.setCell ⟨D, 5, none⟩ (.string ⟨#[97, 32, 98]⟩)) (k8 + 1) #[.int .i64 idx, .int .i64 par, .string name, .string orig, .string sub, .string ⟨#[97, 32, 98]⟩, .string ali, .int .i64 kind, .int .i64 num, .slice ua un uc] (.slice ua un uc) l from D1.out.set 5 _)
    go_wp2_with (first
      | (refine wpList_load_row rfl 24 _ rfl D rfl 24 _ _ _ D2.out.box Tryd.underlying24 rfl hi ?_)
      | (refine wpList_store_row rfl 24 _ _ rfl w.heap.size #[.int .i64 idx, .int .i64 par, .string name, .string orig, .string sub, .string ⟨#[97, 32, 98]⟩, .string ali, .int .i64 kind, .int .i64 num, .slice ua un uc] rfl rfl 24 _ D2.out.res hi rfl (by simp [Value.oneCell']) ?_))
    obtain ⟨r_1, r_2, r_3, r_4⟩ := D2.out.done
    exact bodyPost_ret (v := devV (⟨idx, par, name, orig, sub, ⟨#[97, 32, 98]⟩, ali, kind, num, .slice ua un uc⟩ : Dev)) (results_cell_row rfl _ _ w.heap.size 24 _ _ _ rfl r_1 Tryd.underlying24 rfl hi) rfl ⟨(⟨idx, par, name, orig, sub, ⟨#[97, 32, 98]⟩, ali, kind, num, .slice ua un uc⟩ : Dev), l, rfl, r_2, by omega, (sized_of h2 h3 h4 (show (⟨#[97, 32, 98]⟩ : ByteArray).size ≤ 100 by decide) h6 hsm), r_4⟩
  by_cases g6 : r = 6
  · subst g6
    have c6 := D1.out.box.cell 6
    simp only [List.getElem?_toArray, List.getElem?_cons_zero, List.getElem?_cons_succ] at c6
    have f6 := D1.out.box.frozen 6
    have D2 := Lib.hid (show DS w tb w.heap.size D (W9.setCell ⟨D, 6, none⟩ (.string ⟨#[1]⟩)) (k8 + 1) #[.int .i64 idx, .int .i64 par, .string name, .string orig, .string sub, .string drv, .string ⟨#[1]⟩, .int .i64 kind, .int .i64 num, .slice ua un uc] (.slice ua un uc) l from D1.out.set 6 _)
    go_wp2_with (first
      | (refine wpList_load_row rfl 24 _ rfl D rfl 24 _ _ _ D2.out.box Tryd.underlying24 rfl hi ?_)
      | (refine wpList_store_row rfl 24 _ _ rfl w.heap.size #[.int .i64 idx, .int .i64 par, .string name, .string orig, .string sub, .string drv, .string ⟨#[1]⟩, .int .i64 kind, .int .i64 num, .slice ua un uc] rfl rfl 24 _ D2.out.res hi rfl (by simp [Value.oneCell']) ?_))
    obtain ⟨r_1, r_2, r_3, r_4⟩ := D2.out.done
    exact bodyPost_ret (v := devV (⟨idx, par, name, orig, sub, drv, ⟨#[1]⟩, kind, num, .slice ua un uc⟩ : Dev)) (results_cell_row rfl _ _ w.heap.size 24 _ _ _ rfl r_1 Tryd.underlying24 rfl hi) rfl ⟨(⟨idx, par, name, orig, sub, drv, ⟨#[1]⟩, kind, num, .slice ua un uc⟩ : Dev), l, rfl, r_2, by omega, (sized_of h2 h3 h4 h5 (show (⟨#[1]⟩ : ByteArray).size ≤ 100 by decide) hsm), r_4⟩
  by_cases g7 : r = 7
  · subst g7
    have HO := Lib.hid (next_any tb (k8 + 1) 7 W9 (by omega) (by omega) (by omega) D1.out.tp)
    go_wp2_with fail
    refine HO.out.mono ?_
    rintro e Wa ⟨q, hq, rfl, hT, hg, hs⟩
    obtain ⟨z, hz⟩ : ∃ z : Int, IntKind.i64.wrap ((q : Int) - 1) = z := ⟨_, rfl⟩
    have D2 := Lib.hid (D1.out.tape hT hg)
    clear hT hg HO hs
    have c7 := D2.out.box.cell 7
    simp only [List.getElem?_toArray, List.getElem?_cons_zero, List.getElem?_cons_succ] at c7
    have f7 := D2.out.box.frozen 7
    have D3 := Lib.hid (show DS w tb w.heap.size D (Wa.setCell ⟨D, 7, none⟩ (.int .i64 z)) (k8 + 1 + 1) #[.int .i64 idx, .int .i64 par, .string name, .string orig, .string sub, .string drv, .string ali, .int .i64 z, .int .i64 num, .slice ua un uc] (.slice ua un uc) l from D2.out.set 7 _)
    go_wp2_with (first
      | (refine wpList_load_row rfl 24 _ rfl D rfl 24 _ _ _ D3.out.box Tryd.underlying24 rfl hi ?_)
      | (refine wpList_store_row rfl 24 _ _ rfl w.heap.size #[.int .i64 idx, .int .i64 par, .string name, .string orig, .string sub, .string drv, .string ali, .int .i64 z, .int .i64 num, .slice ua un uc] rfl rfl 24 _ D3.out.res hi rfl (by simp [Value.oneCell']) ?_))
    obtain ⟨r_1, r_2, r_3, r_4⟩ := D3.out.done
    exact bodyPost_ret (v := devV (⟨idx, par, name, orig, sub, drv, ali, z, num, .slice ua un uc⟩ : Dev)) (results_cell_row rfl _ _ w.heap.size 24 _ _ _ rfl r_1 Tryd.underlying24 rfl hi) rfl ⟨(⟨idx, par, name, orig, sub, drv, ali, z, num, .slice ua un uc⟩ : Dev), l, rfl, r_2, by omega, (sized_of h2 h3 h4 h5 h6 hsm), r_4⟩
  by_cases g8 : r = 8
  · subst g8
    have HO := Lib.hid (next_any tb (k8 + 1) 3 W9 (by omega) (by omega) (by omega) D1.out.tp)
    go_wp2_with fail
    refine HO.out.mono ?_
    rintro e Wa ⟨q, hq, rfl, hT, hg, hs⟩
    obtain ⟨z, hz⟩ : ∃ z : Int, IntKind.i64.wrap ((q : Int) - 1) = z := ⟨_, rfl⟩
    have D2 := Lib.hid (D1.out.tape hT hg)
    clear hT hg HO hs
    have c8 := D2.out.box.cell 8
    simp only [List.getElem?_toArray, List.getElem?_cons_zero, List.getElem?_cons_succ] at c8
    have f8 := D2.out.box.frozen 8
    have D3 := Lib.hid (show DS w tb w.heap.size D (Wa.setCell ⟨D, 8, none⟩ (.int .i64 z)) (k8 + 1 + 1) #[.int .i64 idx, .int .i64 par, .string name, .string orig, .string sub, .string drv, .string ali, .int .i64 kind, .int .i64 z, .slice ua un uc] (.slice ua un uc) l from D2.out.set 8 _)
    go_wp2_with (first
      | (refine wpList_load_row rfl 24 _ rfl D rfl 24 _ _ _ D3.out.box Tryd.underlying24 rfl hi ?_)
      | (refine wpList_store_row rfl 24 _ _ rfl w.heap.size #[.int .i64 idx, .int .i64 par, .string name, .string orig, .string sub, .string drv, .string ali, .int .i64 kind, .int .i64 z, .slice ua un uc] rfl rfl 24 _ D3.out.res hi rfl (by simp [Value.oneCell']) ?_))
    obtain ⟨r_1, r_2, r_3, r_4⟩ := D3.out.done
    exact bodyPost_ret (v := devV (⟨idx, par, name, orig, sub, drv, ali, kind, z, .slice ua un uc⟩ : Dev)) (results_cell_row rfl _ _ w.heap.size 24 _ _ _ rfl r_1 Tryd.underlying24 rfl hi) rfl ⟨(⟨idx, par, name, orig, sub, drv, ali, kind, z, .slice ua un uc⟩ : Dev), l, rfl, r_2, by omega, (sized_of h2 h3 h4 h5 h6 hsm), r_4⟩
  by_cases g9 : r = 9
  · subst g9
    obtain ⟨i0, hi0, hz0, hz1, hz2⟩ := info_parts info55
    have c9 := D1.out.box.cell 9
    simp only [List.getElem?_toArray, List.getElem?_cons_zero, List.getElem?_cons_succ] at c9
    have HO := Lib.hid (oneB2d tb (k8 + 1) W9 (by omega) D1.out.tp)
    have D1a := Lib.hid (D1.out.alloc (.cells #[.string ⟨#[]⟩, .string ⟨#[49]⟩] 9))
    go_wp2_with fail
    have htbD := D1.out.tp.lt
    have ca := D1a.out.box.cell 9
    simp only [List.getElem?_toArray, List.getElem?_cons_zero, List.getElem?_cons_succ] at ca
    have cad : (W9.alloc (.cells #[.string ⟨#[]⟩, .string ⟨#[49]⟩] 9)).drew.cell? ⟨D, 9, none⟩ = some (.slice ua un uc) := ca
    have hneD : D ≠ W9.heap.size := fun e => absurd (block_lt D1.out.box) (by omega)
    have hneD' : W9.heap.size ≠ D := fun e => hneD e.symm
    go_region_law (first
        | (go_simp; refine (oneB2g tb (k8 + 1) W9.heap.size _ (by omega) (by exact D1a.out.tp.keep fun _ _ => rfl) htbD (by exact fun j x hx => strs_new W9 B2 9 j x hx)).mono ?_; rintro e Wa ⟨x5, hx5, rfl, hT, hg⟩; have D2 := Lib.hid ((D1a.out.same (by rfl) (by rfl) (by rfl) (by rfl)).tape hT hg); have D2a := Lib.hid (D2.out.alloc (.cells #[.string ⟨#[97]⟩, .string x5] 55)); have c8 := D2a.out.box.cell 9; simp only [List.getElem?_toArray, List.getElem?_cons_zero, List.getElem?_cons_succ] at c8; have c7 := D2.out.box.cell 9; simp only [List.getElem?_toArray, List.getElem?_cons_zero, List.getElem?_cons_succ] at c7; have hneE : D ≠ Wa.heap.size := (fun e => absurd (block_lt D2.out.box) (by omega)); have hneE' : Wa.heap.size ≠ D := (fun e => hneE e.symm); dsimp only)
        | (refine step_append_lies _ (by rfl) _ _ _ (by rfl) w.heap.size 55 i0 _ 2 32 Tryd.underlying22 hi0 hz0 hz1 hz2 rfl (by omega) (.slice ua un uc) l.length (cellsP l) (by rfl) (by exact D2a.out.own)
            ⟨Wa.heap.size, 0, none⟩ 1 1 [.string ⟨#[97]⟩, .string x5] (by rfl) (by rfl) (by exact fun j u hu => cells_new Wa #[.string ⟨#[97]⟩, .string x5] 55 j u hu) (by simp [Value.oneCell'])
            (by omega) (by unfold maxLen; omega) (by omega) (by exact D2a.out.gr.size) (Wa.heap.size + 1) (by simp) ?_; intro gg cap w1 hown1 hgrow hat hlt; have D3 := Lib.hid ((D2a.out.same (by rfl) (by rfl) (by rfl) (by rfl)).grow hgrow (Owns.append hown1) (by simpa [World.drew] using hat)); have c9' := D3.out.box.cell 9; simp only [List.getElem?_toArray, List.getElem?_cons_zero, List.getElem?_cons_succ] at c9'; have f9' := D3.out.box.frozen 9))
    all_goals
      have D4 := Lib.hid (show DS w tb w.heap.size D (w1.setCell ⟨D, 9, none⟩ (.slice (some ⟨gg, 0, none⟩) (l.length + 1) cap)) (k8 + 1 + 1) #[.int .i64 idx, .int .i64 par, .string name, .string orig, .string sub, .string drv, .string ali, .int .i64 kind, .int .i64 num, .slice (some ⟨gg, 0, none⟩) (l.length + 1) cap] (.slice (some ⟨gg, 0, none⟩) (l.length + 1) cap) (l ++ [(⟨#[97]⟩, x5)]) from D3.out.set 9 _)
      have hsa : smallA (l ++ [(⟨#[97]⟩, x5)]) := fun a ha => by
        rcases List.mem_append.1 ha with ha | ha
        · exact hsm a ha
        · have := List.mem_singleton.1 ha
          subst this
          exact ⟨show (⟨#[97]⟩ : ByteArray).size ≤ 100 by decide, hx5⟩
      have hll : (l ++ [((⟨#[97]⟩ : ByteArray), x5)]).length ≤ 40 := by rw [List.length_append]; simp; omega
      clear D1 D1a D2 D2a D3 HO c9 ca cad c7 c8 c9' f9' hown1 hgrow hat hT hg
      go_wp2_with (first
        | (refine wpList_load_row rfl 24 _ rfl D rfl 24 _ _ _ D4.out.box Tryd.underlying24 rfl hi ?_)
        | (refine wpList_store_row rfl 24 _ _ rfl w.heap.size #[.int .i64 idx, .int .i64 par, .string name, .string orig, .string sub, .string drv, .string ali, .int .i64 kind, .int .i64 num, .slice (some ⟨gg, 0, none⟩) (l.length + 1) cap] rfl rfl 24 _ D4.out.res hi rfl (by simp [Value.oneCell']) ?_))
      obtain ⟨r_1, r_2, r_3, r_4⟩ := D4.out.done
      exact bodyPost_ret (v := devV (⟨idx, par, name, orig, sub, drv, ali, kind, num, .slice (some ⟨gg, 0, none⟩) (l.length + 1) cap⟩ : Dev)) (results_cell_row rfl _ _ w.heap.size 24 _ _ _ rfl r_1 Tryd.underlying24 rfl hi) rfl ⟨(⟨idx, par, name, orig, sub, drv, ali, kind, num, .slice (some ⟨gg, 0, none⟩) (l.length + 1) cap⟩ : Dev), l ++ [(⟨#[97]⟩, x5)], rfl, r_2, hll, (sized_of h2 h3 h4 h5 h6 hsa), r_4⟩
  by_cases g10 : r = 10
  · subst g10
    go_wp2_with fail
    go_loopw [4] (fun s4 wx => ∃ (m kt ub uk : Nat) (ux : Option Addr) (acc : List Atr), m ≤ 25 ∧ s4 = .int .i64 m ∧ DS w tb w.heap.size D wx kt #[.int .i64 idx, .int .i64 par, .string name, .string orig, .string sub, .string drv, .string ali, .int .i64 kind, .int .i64 num, .slice ux ub uk] (.slice ux ub uk) acc ∧ Srt acc ∧ smallA acc ∧ acc.length ≤ m + 4 ∧ kt ≤ k8 + m + 1) (fun s4 _ => 25 - (intOf s4).toNat)
    case atStart => exact ⟨0, k8 + 1, un, uc, ua, l, by omega, rfl, D1.out, hsrt, hsm, by omega, by omega⟩
    case round =>
      clear D1
      obtain ⟨m, kt, ub, uk, ux, acc, hm, rfl, hD, hss, hsa, hacc, hkt⟩ := hrel
      have D2 := Lib.hid hD
      clear hD
      have HO := Lib.hid (next_any tb kt 2 wr (by omega) (by omega) (by omega) D2.out.tp)
      go_wp2_with fail
      refine HO.out.mono ?_
      rintro e Wa ⟨q, hq, rfl, hT, hg, hs⟩
      have D3 := Lib.hid (D2.out.tape hT hg)
      clear hT hg HO hs D2
      have hwr : IntKind.i64.wrap (24 + (q : Int)) = ((24 + q : Nat) : Int) := by rw [IntKind.wrap_i64]; omega
      by_cases hlt : m < 24 + q
      · have hd : ((m : Nat) : Int) < ((24 + q : Nat) : Int) := by omega
        have c9 := D3.out.box.cell 9
        simp only [List.getElem?_toArray, List.getElem?_cons_zero, List.getElem?_cons_succ] at c9
        obtain ⟨x, hname, kc⟩ := qname' m (by omega) Wa
        have D4 := Lib.hid (D3.out.alloc (.cells #[.int .u8 113, .int .u8 (97 + (m : Int))] 5))
        have H3 := Lib.hid (refSet_any x ⟨#[49]⟩ (.slice ux ub uk) acc _ (by omega) hss D4.out.own.has)
        go_wp2_with (rw [kc])
        refine H3.out.mono ?_
        rintro e W3 ⟨u, rfl, hown3, hb3⟩
        obtain ⟨va, vn, vc, rfl⟩ := owns_slice hown3
        have D5 := Lib.hid (D4.out.swap hb3 hown3)
        have hlen3 := setP_length x ⟨#[49]⟩ acc
        have hss3 := srt_setP x ⟨#[49]⟩ hss
        have hsa3 := small_set (n := x) (v := ⟨#[49]⟩) hsa hname (show (⟨#[49]⟩ : ByteArray).size ≤ 100 by decide)
        clear D3 D4 H3 hown3 hb3 kc c9 hss hsa
        have c9 := D5.out.box.cell 9
        simp only [List.getElem?_toArray, List.getElem?_cons_zero, List.getElem?_cons_succ] at c9
        have f9 := D5.out.box.frozen 9
        have D6 := Lib.hid (show DS w tb w.heap.size D (W3.setCell ⟨D, 9, none⟩ (.slice va vn vc)) (kt + 1) #[.int .i64 idx, .int .i64 par, .string name, .string orig, .string sub, .string drv, .string ali, .int .i64 kind, .int .i64 num, .slice va vn vc] (.slice va vn vc) (setP x ⟨#[49]⟩ acc) from D5.out.set 9 _)
        have hw1 : IntKind.i64.wrap ((m : Int) + 1) = ((m + 1 : Nat) : Int) := by rw [IntKind.wrap_i64]; omega
        go_wp2
        exact ⟨⟨m + 1, kt + 1, vn, vc, va, setP x ⟨#[49]⟩ acc, by omega, by first | rfl | go_num, D6.out, hss3, hsa3, by omega, by omega⟩, by simp [intOf]; omega⟩
      · have hd : ¬ ((m : Nat) : Int) < ((24 + q : Nat) : Int) := by omega
        go_wp2_with (first
          | (refine wpList_load_row rfl 24 _ rfl D rfl 24 _ _ _ D3.out.box Tryd.underlying24 rfl hi ?_)
          | (refine wpList_store_row rfl 24 _ _ rfl w.heap.size #[.int .i64 idx, .int .i64 par, .string name, .string orig, .string sub, .string drv, .string ali, .int .i64 kind, .int .i64 num, .slice ux ub uk] rfl rfl 24 _ D3.out.res hi rfl (by simp [Value.oneCell']) ?_))
        obtain ⟨r_1, r_2, r_3, r_4⟩ := D3.out.done
        exact bodyPost_ret (v := devV (⟨idx, par, name, orig, sub, drv, ali, kind, num, .slice ux ub uk⟩ : Dev)) (results_cell_row rfl _ _ w.heap.size 24 _ _ _ rfl r_1 Tryd.underlying24 rfl hi) rfl ⟨(⟨idx, par, name, orig, sub, drv, ali, kind, num, .slice ux ub uk⟩ : Dev), acc, rfl, r_2, by omega, (sized_of h2 h3 h4 h5 h6 hsa), r_4⟩
  have z0 : ((r : Int) == 0) = false := beq_eq_false_iff_ne.2 (by omega)
  have z1 : ((r : Int) == 1) = false := beq_eq_false_iff_ne.2 (by omega)
  have z2 : ((r : Int) == 2) = false := beq_eq_false_iff_ne.2 (by omega)
  have z3 : ((r : Int) == 3) = false := beq_eq_false_iff_ne.2 (by omega)
  have z4 : ((r : Int) == 4) = false := beq_eq_false_iff_ne.2 (by omega)
  have z5 : ((r : Int) == 5) = false := beq_eq_false_iff_ne.2 (by omega)
  have z6 : ((r : Int) == 6) = false := beq_eq_false_iff_ne.2 (by omega)
  have z7 : ((r : Int) == 7) = false := beq_eq_false_iff_ne.2 (by omega)
  have z8 : ((r : Int) == 8) = false := beq_eq_false_iff_ne.2 (by omega)
  have z9 : ((r : Int) == 9) = false := beq_eq_false_iff_ne.2 (by omega)
  have z10 : ((r : Int) == 10) = false := beq_eq_false_iff_ne.2 (by omega)
  go_wp2_with (first
    | (refine wpList_load_row rfl 24 _ rfl D rfl 24 _ _ _ D1.out.box Tryd.underlying24 rfl hi ?_)
    | (refine wpList_store_row rfl 24 _ _ rfl w.heap.size #[.int .i64 idx, .int .i64 par, .string name, .string orig, .string sub, .string drv, .string ali, .int .i64 kind, .int .i64 num, .slice ua un uc] rfl rfl 24 _ D1.out.res hi rfl (by simp [Value.oneCell']) ?_))
  obtain ⟨r_1, r_2, r_3, r_4⟩ := D1.out.done
  exact bodyPost_ret (v := devV (⟨idx, par, name, orig, sub, drv, ali, kind, num, .slice ua un uc⟩ : Dev)) (results_cell_row rfl _ _ w.heap.size 24 _ _ _ rfl r_1 Tryd.underlying24 rfl hi) rfl ⟨(⟨idx, par, name, orig, sub, drv, ali, kind, num, .slice ua un uc⟩ : Dev), l, rfl, r_2, by omega, (sized_of h2 h3 h4 h5 h6 hsm), r_4⟩
end Go.Proofs.YthdnbcgomepgaaaDoor
