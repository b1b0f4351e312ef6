/- The modules that are drawn; an alias that is drawn. -/
import Derived.Test.YtdlchlbngojljaaDoorPM
import Derived.Great.BuildSlice
namespace Go.Proofs.YtdlchlbngojljaaDoor
open Go.RowKit Go.Maps Go.Sort
theorem wpList_build_row {P : Program} {ops : Array Oper} {rest : List Oper} {o : Oper} {a : Act} {w : World} {Q : Exit → Act → World → Prop} (hg : o.guard = none) (t e : TypeId) (x : Operand) (ho : o.op = .buildSlice t 1 #[(0, x)])
  (cs : Array Value) (ie : TypeInfo) (z : Value) (hx : a.eval x = .agg cs)
  (hu : P.underlying t = some (.slice e)) (hie : P.info? e = some ie) (hz : ie.zero = some z) (hs : ie.size = cs.size) (hpos : 0 < cs.size) (hsmall : cs.size ≤ 2 ^ 24)
  (h : wpList P ops Q rest (a.put o.dst (.slice (some ⟨w.heap.size, 0, none⟩) 1 1)) (w.alloc (.cells cs e))) : wpList P ops Q (o :: rest) a w := by
 refine wpList_buildSlice hg t e 1 #[(0, x)] ho cs ie z hu hie hz (by rw [hs]; omega) (by rw [hs]; omega) ?_ h
 have hp : ((#[(0, x)] : Array (Nat × Operand)).map fun (i, x) => (i, a.eval x)).toList = (([Value.agg cs].zipIdx 0).map fun x => (x.2, x.1)) := by
  simp [hx]
 rw [hp, hs]
 have hf := Great.fill_whole hpos [Value.agg cs] ((Array.range (1 * cs.size)).map (z.cells[· % z.cells.size]!)) (fun v hv => by rw [List.mem_singleton.1 hv]; rfl) (by simp)
 rw [hf]
 congr 1
 simp [Value.cells]
theorem grow_at {w : World} {B : Nat} (hB : w.heap.size = B) (os : Array Obj) (i : Nat) : (grow w os).heap[B + i]? = os[i]? := by
 subst hB
 simp [grow, Array.getElem?_append]
 omega
theorem kp_grow (w : World) (os : Array Obj) : Kp [] w (grow w os) := ⟨rfl, rfl, rfl, by simp, fun k hk _ => heap_grow_old w os hk⟩
def mO0 : Obj := .cells #[.string ⟨#[117, 115, 98, 58, 118, 49, 42]⟩] 9
def mO1 : Obj := .cells #[.string ⟨#[112, 99, 105, 58, 100, 50]⟩, .string ⟨#[117, 115, 98, 58, 118, 50]⟩] 9
def mO2 : Obj := .cells #[.string ⟨#[99, 111, 114, 101]⟩] 9
def mO3 : Obj := .cells #[.string ⟨#[101, 120, 116, 114, 97]⟩] 9
def mO4 : Obj := .cells #[.string ⟨#[104, 105, 100]⟩] 9
def mO5 : Obj := .cells #[.string ⟨#[117, 115, 98, 58, 42]⟩] 9
def mO6 : Obj := .cells #[.string ⟨#[101, 120, 116, 114, 97]⟩] 9
def mO7 : Obj := .cells #[.string ⟨#[112, 99, 105, 58, 42]⟩] 9
def mO8 : Obj := .cells #[.string ⟨#[114, 105, 110, 103, 50]⟩] 9
def mO9 : Obj := .cells #[.string ⟨#[114, 105, 110, 103]⟩] 9
def mOr (B : Nat) : Obj := .cells #[.string ⟨#[104, 105, 100]⟩, .slice (some ⟨B, 0, none⟩) 1 1, .slice none 0 0, .slice none 0 0, .slice none 0 0, .bool false, .string ⟨#[110, 105, 99]⟩, .slice (some ⟨B + 1, 0, none⟩) 2 2, .slice (some ⟨B + 1 + 1, 0, none⟩) 1 1, .slice none 0 0, .slice none 0 0, .bool false, .string ⟨#[99, 111, 114, 101]⟩, .slice none 0 0, .slice none 0 0, .slice none 0 0, .slice (some ⟨B + 1 + 1 + 1, 0, none⟩) 1 1, .bool false, .string ⟨#[101, 120, 116, 114, 97]⟩, .slice none 0 0, .slice none 0 0, .slice (some ⟨B + 1 + 1 + 1 + 1, 0, none⟩) 1 1, .slice none 0 0, .bool false, .string ⟨#[111, 116, 104, 101, 114]⟩, .slice (some ⟨B + 1 + 1 + 1 + 1 + 1, 0, none⟩) 1 1, .slice none 0 0, .slice (some ⟨B + 1 + 1 + 1 + 1 + 1 + 1, 0, none⟩) 1 1, .slice none 0 0, .bool false, .string ⟨#[98, 97, 100]⟩, .slice (some ⟨B + 1 + 1 + 1 + 1 + 1 + 1 + 1, 0, none⟩) 1 1, .slice none 0 0, .slice none 0 0, .slice none 0 0, .bool true, .string ⟨#[114, 105, 110, 103]⟩, .slice none 0 0, .slice (some ⟨B + 1 + 1 + 1 + 1 + 1 + 1 + 1 + 1, 0, none⟩) 1 1, .slice none 0 0, .slice none 0 0, .bool false, .string ⟨#[114, 105, 110, 103, 50]⟩, .slice none 0 0, .slice (some ⟨B + 1 + 1 + 1 + 1 + 1 + 1 + 1 + 1 + 1, 0, none⟩) 1 1, .slice none 0 0, .slice none 0 0, .bool false] 51
def allMx (B : Nat) : List Mx := [(⟨[104, 105, 100], ⟨some ⟨B, 0, none⟩, 1, 1⟩, ⟨none, 0, 0⟩, ⟨none, 0, 0⟩, ⟨none, 0, 0⟩, false⟩, ⟨[104, 105, 100], [[117, 115, 98, 58, 118, 49, 42]]⟩), (⟨[110, 105, 99], ⟨some ⟨B + 1, 0, none⟩, 2, 2⟩, ⟨some ⟨B + 1 + 1, 0, none⟩, 1, 1⟩, ⟨none, 0, 0⟩, ⟨none, 0, 0⟩, false⟩, ⟨[110, 105, 99], [[112, 99, 105, 58, 100, 50], [117, 115, 98, 58, 118, 50]]⟩), (⟨[99, 111, 114, 101], ⟨none, 0, 0⟩, ⟨none, 0, 0⟩, ⟨none, 0, 0⟩, ⟨some ⟨B + 1 + 1 + 1, 0, none⟩, 1, 1⟩, false⟩, ⟨[99, 111, 114, 101], []⟩), (⟨[101, 120, 116, 114, 97], ⟨none, 0, 0⟩, ⟨none, 0, 0⟩, ⟨some ⟨B + 1 + 1 + 1 + 1, 0, none⟩, 1, 1⟩, ⟨none, 0, 0⟩, false⟩, ⟨[101, 120, 116, 114, 97], []⟩), (⟨[111, 116, 104, 101, 114], ⟨some ⟨B + 1 + 1 + 1 + 1 + 1, 0, none⟩, 1, 1⟩, ⟨none, 0, 0⟩, ⟨some ⟨B + 1 + 1 + 1 + 1 + 1 + 1, 0, none⟩, 1, 1⟩, ⟨none, 0, 0⟩, false⟩, ⟨[111, 116, 104, 101, 114], [[117, 115, 98, 58, 42]]⟩), (⟨[98, 97, 100], ⟨some ⟨B + 1 + 1 + 1 + 1 + 1 + 1 + 1, 0, none⟩, 1, 1⟩, ⟨none, 0, 0⟩, ⟨none, 0, 0⟩, ⟨none, 0, 0⟩, true⟩, ⟨[98, 97, 100], [[112, 99, 105, 58, 42]]⟩), (⟨[114, 105, 110, 103], ⟨none, 0, 0⟩, ⟨some ⟨B + 1 + 1 + 1 + 1 + 1 + 1 + 1 + 1, 0, none⟩, 1, 1⟩, ⟨none, 0, 0⟩, ⟨none, 0, 0⟩, false⟩, ⟨[114, 105, 110, 103], []⟩), (⟨[114, 105, 110, 103, 50], ⟨none, 0, 0⟩, ⟨some ⟨B + 1 + 1 + 1 + 1 + 1 + 1 + 1 + 1 + 1, 0, none⟩, 1, 1⟩, ⟨none, 0, 0⟩, ⟨none, 0, 0⟩, false⟩, ⟨[114, 105, 110, 103, 50], []⟩)]
def mW (w : World) (B : Nat) : World := ((((((((((w.alloc mO0).alloc mO1).alloc mO2).alloc mO3).alloc mO4).alloc mO5).alloc mO6).alloc mO7).alloc mO8).alloc mO9).alloc (mOr B)
theorem mW_eq (w : World) (B : Nat) : mW w B = grow w #[mO0, mO1, mO2, mO3, mO4, mO5, mO6, mO7, mO8, mO9, mOr B] := by
 unfold mW
 simp only [alloc_eq_grow, grow_grow]
 rfl
theorem kp_mW (w : World) (B : Nat) : Kp [] w (mW w B) := by rw [mW_eq]; exact kp_grow w _
set_option maxRecDepth 100000 in
theorem ms_mW {w : World} {B : Nat} (hB : w.heap.size = B) : Ms B (mW w B) (.slice (some ⟨B + 1 + 1 + 1 + 1 + 1 + 1 + 1 + 1 + 1 + 1, 0, none⟩) 8 8) (allMx B) := by
 have h : ∀ i, (mW w B).heap[B + i]? = #[mO0, mO1, mO2, mO3, mO4, mO5, mO6, mO7, mO8, mO9, mOr B][i]? := fun i => by rw [mW_eq]; exact grow_at hB _ i
 have hr := h 10
 have h0 := h 0
 have h1 := h 1
 have h5 := h 5
 have h7 := h 7
 refine ⟨⟨.inr ⟨_, 0, 8, rfl, block_lt hr, RT.row_of (r := mdT) (cur := mdT.cells (allMx B)) hr rfl⟩, fun b hb => (by cases hb; dsimp only; omega)⟩, fun x hx => ?_⟩
 simp only [allMx, List.mem_cons, List.not_mem_nil, or_false] at hx
 rcases hx with rfl | rfl | rfl | rfl | rfl | rfl | rfl | rfl
 ·exact ⟨rfl, .inr ⟨_, 0, 1, rfl, block_lt h0, RT.row_of (r := stT) (cur := [.string (bs [117, 115, 98, 58, 118, 49, 42])]) h0 rfl⟩, fun b hb => (by cases hb; dsimp only; omega)⟩
 ·exact ⟨rfl, .inr ⟨_, 0, 2, rfl, block_lt h1, RT.row_of (r := stT) (cur := [.string (bs [112, 99, 105, 58, 100, 50]), .string (bs [117, 115, 98, 58, 118, 50])]) h1 rfl⟩, fun b hb => (by cases hb; dsimp only; omega)⟩
 ·exact ⟨rfl, .inl ⟨none, 0, rfl, rfl⟩, fun b hb => by cases hb⟩
 ·exact ⟨rfl, .inl ⟨none, 0, rfl, rfl⟩, fun b hb => by cases hb⟩
 ·exact ⟨rfl, .inr ⟨_, 0, 1, rfl, block_lt h5, RT.row_of (r := stT) (cur := [.string (bs [117, 115, 98, 58, 42])]) h5 rfl⟩, fun b hb => (by cases hb; dsimp only; omega)⟩
 ·exact ⟨rfl, .inr ⟨_, 0, 1, rfl, block_lt h7, RT.row_of (r := stT) (cur := [.string (bs [112, 99, 105, 58, 42])]) h7 rfl⟩, fun b hb => (by cases hb; dsimp only; omega)⟩
 ·exact ⟨rfl, .inl ⟨none, 0, rfl, rfl⟩, fun b hb => by cases hb⟩
 ·exact ⟨rfl, .inl ⟨none, 0, rfl, rfl⟩, fun b hb => by cases hb⟩
/-- The modules that may be drawn. -/
def allMd : List Md := [⟨[104, 105, 100], [[117, 115, 98, 58, 118, 49, 42]]⟩, ⟨[110, 105, 99], [[112, 99, 105, 58, 100, 50], [117, 115, 98, 58, 118, 50]]⟩, ⟨[99, 111, 114, 101], []⟩, ⟨[101, 120, 116, 114, 97], []⟩, ⟨[111, 116, 104, 101, 114], [[117, 115, 98, 58, 42]]⟩, ⟨[98, 97, 100], [[112, 99, 105, 58, 42]]⟩, ⟨[114, 105, 110, 103], []⟩, ⟨[114, 105, 110, 103, 50], []⟩]
theorem allMx_map (B : Nat) : (allMx B).map (·.2) = allMd := rfl
set_option maxRecDepth 100000 in
theorem row_mW {w : World} {B : Nat} (hB : w.heap.size = B) : mdT.Row (mW w B) (B + 1 + 1 + 1 + 1 + 1 + 1 + 1 + 1 + 1 + 1) 0 (allMx B) ∧ B + 1 + 1 + 1 + 1 + 1 + 1 + 1 + 1 + 1 + 1 < (mW w B).heap.size := by
 have hr : (mW w B).heap[B + 10]? = some (mOr B) := by rw [mW_eq]; exact grow_at hB _ 10
 exact ⟨RT.row_of (r := mdT) (cur := mdT.cells (allMx B)) hr rfl, block_lt hr⟩
theorem info51c : ∃ ie : TypeInfo, Tryd.prog.info? 51 = some ie ∧ ie.zero = some (.agg #[.string ⟨#[]⟩, .slice none 0 0, .slice none 0 0, .slice none 0 0, .slice none 0 0, .bool false]) ∧ ie.size = 6 := by
 obtain ⟨i0, h1, h2, h3, h4⟩ := info_parts mdT.info
 exact ⟨i0, h1, h2, h3⟩
theorem kp_ownT {tb : Nat} {w W w' : World} {v : Value} (h : Kp [tb] w W) (g : W.grownBy w' v.ownBlock) (hv : ∀ b, v.ownBlock = some b → w.heap.size ≤ b) : Kp [tb] w w' :=
 ⟨g.os.trans h.os, g.tape.trans h.tape, g.output.trans h.output, Nat.le_trans h.size g.size, fun k hk hn => (g.block k (Nat.lt_of_lt_of_le hk h.size) fun e => by have := hv k e.symm; omega).trans (h.block k hk hn)⟩
def MdRes (tb k : Nat) (w w' : World) (v : Value) : Prop := ∃ (l : List Mx) (k' : Nat), Ms w.heap.size w' v l ∧ (l.map (·.2)).Sublist allMd ∧ k' ≤ k + 8 ∧ Tp w' tb k' ∧ Kp [tb] w w'
def MdPost (tb k : Nat) (w : World) (e : Ending) (w' : World) : Prop := ∃ (v : Value), MdRes tb k w w' v ∧ e = .returned v
set_option maxHeartbeats 8000000 in
set_option maxRecDepth 100000 in
theorem modules_any {w : World} {tb k : Nat} (hk : k ≤ 100000) (h : Tp w tb k) : Calls Tryd.prog 22 #[.pointer (some ⟨tb, 0, none⟩)] w (MdPost tb k w) := by
 obtain ⟨B, hB⟩ : ∃ B, w.heap.size = B := ⟨_, rfl⟩
 obtain ⟨W, hW⟩ : ∃ W, mW w B = W := ⟨_, rfl⟩
 have hms := ms_mW hB
 have hkw := kp_mW w B
 have hrw := row_mW hB
 rw [hW] at hms hkw hrw
 have htp : Tp W tb k := h.kp hkw (by simp)
 have htb := h.lt
 unfold MdPost
 have hlen : (allMx B).length = 8 := rfl
 have HMs := Lib.hid hms
 have Hkw := Lib.hid hkw
 have HTp := Lib.hid htp
 have HB := Lib.hid hB
 have HW := Lib.hid hW
 have HtB := Lib.hid (show tb < B from hB ▸ htb)
 have Hrow := Lib.hid hrw
 have Hon := Lib.hid (RT.Own.nil mdT W W.heap.size)
 obtain ⟨ie, hie, hiz, his⟩ := info51c
 have Hie := Lib.hid (And.intro hie (And.intro hiz his))
 clear hms hkw hW hB h htp htb hrw hie hiz his
 simp only [mW, mOr, mO0, mO1, mO2, mO3, mO4, mO5, mO6, mO7, mO8, mO9] at HW
 go_enter Tryd.func22, Tryd.ntmps22
 go_upto_region 2 with fail
 rw [HB.out, HW.out]
 go_wp2
 go_loopw [4, 5] (fun s4 s5 wx => ∃ (i k' : Nat) (l : List Mx), i ≤ 8 ∧ s5 = .int .i64 (i : Int) ∧ Hid (mdT.Own wx W.heap.size s4 l) ∧ Hid (l.Sublist ((allMx B).take i)) ∧ Hid (k' ≤ k + i) ∧ Hid (Tp wx tb k') ∧ Hid (Kp [tb] W wx)) (fun _ s5 _ => 8 - (intOf s5).toNat)
 case atStart => exact ⟨0, k, [], by omega, rfl, Hon, Lib.hid (by simp), Lib.hid (by omega), HTp, Lib.hid (Kp.refl _ W)⟩
 case round =>
  clear Hon
  obtain ⟨i, k', l, hi, rfl, hO, hl, hkk, hT, hK⟩ := hrel
  by_cases hlt : i < 8
  ·have hiz : (i : Int) < 8 := by omega
   obtain ⟨x, hx⟩ : ∃ x, (allMx B)[i]? = some x := ⟨_, List.getElem?_eq_getElem (by rw [hlen]; exact hlt)⟩
   have Hx := Lib.hid hx
   have HN := Lib.hid (show Calls Tryd.prog 15 #[.pointer (some ⟨tb, 0, none⟩), .int .i64 4] wr (fun e w' => ∃ r : Nat, r < 4 ∧ e = .returned (.int .i64 r) ∧ Tp w' tb (k' + 1) ∧ Kp [tb] wr w') from next_kp 4 (by decide) (by decide) (by have := hkk.out; omega) hT.out)
   have Htk := Lib.hid (show (allMx B).take (i + 1) = (allMx B).take i ++ [x] by rw [List.take_add_one, hx]; rfl)
   clear hx
   go_wp2_with fail
   refine Calls.mono (by with_reducible exact HN.out) ?_
   rintro e w2 ⟨r, hr, rfl, hT2, hk2⟩
   have HT2 := Lib.hid hT2
   have hbO : ∀ b, b ∈ [tb] → b < W.heap.size := fun b hb => by simp at hb; subst hb; have := HtB.out; have := HB.out; have := Hkw.out.size; omega
   have HO2 := Lib.hid (show mdT.Own w2 W.heap.size _ l from hO.out.kp hk2 fun b hb hm => by have := (hO.out.ge b hb).1; have := hbO b hm; omega)
   have HK2 := Lib.hid (hK.out.trans hk2)
   have hll : l.length ≤ 8 := by have := hl.out.length_le; rw [List.length_take, hlen] at this; omega
   clear hT2 hk2 hbO
   by_cases hr0 : r = 0
   ·subst hr0
    go_wp2
    refine ⟨⟨i + 1, k' + 1, l, by omega, by go_num, HO2, Lib.hid (by rw [Htk.out]; exact hl.out.trans (List.sublist_append_left _ _)), Lib.hid (by have := hkk.out; omega), HT2, HK2⟩, by simp [intOf]; omega⟩
   ·have hrz : (0 : Int) < (r : Int) := by omega
    have hr2 : mdT.Row w2 (B + 1 + 1 + 1 + 1 + 1 + 1 + 1 + 1 + 1 + 1) 0 (allMx B) := Hrow.out.1.keep (HK2.out.block _ Hrow.out.2 (by simp; have := HtB.out; omega))
    have hra : w2.rangeAt (B + 1 + 1 + 1 + 1 + 1 + 1 + 1 + 1 + 1 + 1) (i * 6) (meC x.1).toList := by have := row_at hr2 Hx.out; rwa [Nat.zero_add] at this
    have HRow := Lib.hid hra
    have hk4 := (Kp.refl [] w2).alloc (.cells (meC x.1) 51)
    have HO4 := Lib.hid (HO2.out.kp0 hk4)
    have HT4 := Lib.hid (HT2.out.kp hk4 (by simp))
    have HK4 := Lib.hid (HK2.out.trans (hk4.mono (by simp)))
    have Hc4 := Lib.hid (show (w2.alloc (.cells (meC x.1) 51)).rangeAt w2.heap.size 0 (mdT.cf x) from fun m u hm => by
     rw [Nat.zero_add, cell_of_row _ _ _ _ _ _ (heap_alloc_last w2 _)]
     simpa [mdT] using hm)
    have HBs := Lib.hid (show W.heap.size ≤ (w2.alloc (.cells (meC x.1) 51)).heap.size from HK4.out.size)
    have Hps := Lib.hid (show 0 < (meC x.1).size ∧ (meC x.1).size ≤ 2 ^ 24 from ⟨show 0 < 6 by omega, show 6 ≤ 2 ^ 24 by omega⟩)
    clear hr2 hra hk4
    go_wp2_with (first | (refine wpList_load_mid rfl 51 _ rfl (B + 1 + 1 + 1 + 1 + 1 + 1 + 1 + 1 + 1 + 1) (i * 6) rfl (meC x.1).toList _ HRow.out Tryd.underlying51 rfl info51 ?_) | (refine wpList_build_row rfl 27 51 _ rfl (meC x.1) ie _ rfl Tryd.underlying27 Hie.out.1 Hie.out.2.1 Hie.out.2.2 Hps.out.1 Hps.out.2 ?_) | (refine wpList_append_r (r := mdT) rfl _ _ rfl W.heap.size _ _ rfl HO4.out w2.heap.size 1 x rfl Hc4.out (by omega) HBs.out ?_; intro v5 w5 hown5 hgr5))
    have hT5 : Tp w5 tb (k' + 1) := HT4.out.keep fun b hb => hgr5.block b (Nat.lt_of_le_of_lt hb HT4.out.lt) (fun e => by have := (HO4.out.ge b e.symm).1; have := HtB.out; have := HB.out; have := Hkw.out.size; omega)
    refine ⟨⟨i + 1, k' + 1, l ++ [x], by omega, by go_num, Lib.hid hown5, Lib.hid (by rw [Htk.out]; exact hl.out.append (List.Sublist.refl _)), Lib.hid (by have := hkk.out; omega), Lib.hid hT5, Lib.hid (kp_ownT HK4.out hgr5 (fun c hc => (HO4.out.ge c hc).1))⟩, by simp [intOf]; omega⟩
  ·have hiz : ¬ ((i : Int) < 8) := by omega
   have hi8 : i = 8 := by omega
   have hl9 := hl.out
   rw [List.take_of_length_le (by rw [hlen]; omega)] at hl9
   have hKf := hK.out
   have hms2 : Ms B wr _ l := ⟨hO.out.hasB (by have := HB.out; have := Hkw.out.size; omega), fun y hy => by
    have hy2 := HMs.out.ok y (hl9.subset hy)
    exact ⟨hy2.1, hy2.2.kp hKf (by intro z hz; simp at hz; subst hz; exact HtB.out)⟩⟩
   have HMs2 := Lib.hid hms2
   have Hl9 := Lib.hid (show (l.map (·.2)).Sublist allMd from by rw [← allMx_map B]; exact hl9.map _)
   have HKf := Lib.hid (Hkw.out.mono (by simp : ∀ x ∈ ([] : List Nat), x ∈ [tb]) |>.trans hKf)
   clear hl9 hKf hms2
   go_wp2
   go_ret
   exact ⟨_, ⟨l, k', by rw [HB.out]; exact HMs2.out, Hl9.out, by have := hkk.out; omega, hT.out, HKf.out⟩, rfl⟩
end Go.Proofs.YtdlchlbngojljaaDoor
