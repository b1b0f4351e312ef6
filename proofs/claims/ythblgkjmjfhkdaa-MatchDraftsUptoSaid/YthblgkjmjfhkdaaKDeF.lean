/- The iterator over the ancestors of a device. -/
import Derived.Test.YthblgkjmjfhkdaaKDeE
import Derived.RangeFuncNested
import Derived.RangeFuncBound
import Derived.RangeFuncCalls
import Derived.RangeFuncLeaves
import Derived.Shelf.Abstract
import Derived.WalkKit
import Derived.OwnWalkIn
import Derived.TacticsInMore
import Derived.LoopNIn
import Derived.LoopIn
import Derived.Maps.OwnIn
namespace Go.Proofs.Ythblgkjmjfhkdaa.De
open Go.RowKit Go.Shelf Go.Maps
attribute [local go_sem] Oper.semAt_some

/-- Going up from a parent's number: at most so many devices. -/
def ancL (l : List DV) : Nat → Int → List DV
  | 0, _ => []
  | k + 1, p => match lastI (l.map (·.1)) p with
    | none => []
    | some q => match l[q]? with
      | none => []
      | some x => x :: ancL l k x.1.par
theorem ancL_none {l : List DV} {p : Int} (h : lastI (l.map (·.1)) p = none) : ∀ k, ancL l k p = []
  | 0 => rfl
  | k + 1 => by rw [ancL, h]
theorem ancL_some {l : List DV} {p : Int} {q : Nat} {x : DV} (h : lastI (l.map (·.1)) p = some q) (hx : l[q]? = some x) (k : Nat) : ancL l (k + 1) p = x :: ancL l k x.1.par := by rw [ancL, h]; simp only [hx]
theorem ancL_mem {l : List DV} : ∀ (k : Nat) (p : Int) (x : DV), x ∈ ancL l k p → x ∈ l
  | 0, _, _, h => by cases h
  | k + 1, p, x, h => by
    rw [ancL] at h
    cases hp : lastI (l.map (·.1)) p with
    | none => rw [hp] at h; cases h
    | some q =>
      rw [hp] at h
      simp only at h
      cases hx : l[q]? with
      | none => rw [hx] at h; cases h
      | some y =>
        rw [hx] at h
        rcases List.mem_cons.1 h with rfl | h
        · exact List.mem_of_getElem? hx
        · exact ancL_mem k _ x h
theorem ancL_len {l : List DV} : ∀ (k : Nat) (p : Int), (ancL l k p).length ≤ k
  | 0, _ => Nat.le_refl _
  | k + 1, p => by
    rw [ancL]
    cases lastI (l.map (·.1)) p with
    | none => simp
    | some q =>
      simp only
      cases l[q]? with
      | none => simp
      | some y =>
        have := ancL_len (l := l) k y.1.par
        simp
        omega
/-- What the iterator reads. -/
structure It (n₀ : Nat) (W : World) (Bd Bv V M N c : Nat) (par : Int) (a : Option Addr) (l : List DV) (D : DataW Unit) : Prop where
  bd : W.cell? ⟨Bd, 1, none⟩ = some (.int .i64 par)
  hd : Bd < n₀
  bv : W.cell? ⟨Bv, 0, none⟩ = some (.pointer (some ⟨V, 0, none⟩))
  hv : Bv < n₀
  v0 : W.cell? ⟨V, 0, none⟩ = some (.slice a N c)
  v1 : W.cell? ⟨V, 1, none⟩ = some (.map (some M))
  hV : V < n₀
  im : IMap W M N (lastI (l.map (·.1))) D
  hM : M < n₀
  len : l.length = N
  row : l ≠ [] → ∃ g o, a = some ⟨g, o, none⟩ ∧ g < n₀ ∧ ∀ (j : Nat) x, l[j]? = some x → W.rangeAt g (o + j * 10) (dvC x.1 x.2)
theorem It.keep {n₀ : Nat} {W W' : World} {Bd Bv V M N c : Nat} {par : Int} {a : Option Addr} {l : List DV} {D : DataW Unit} (h : It n₀ W Bd Bv V M N c par a l D) (hb : Below n₀ W W') : It n₀ W' Bd Bv V M N c par a l D :=
  ⟨(hb.cell (p := ⟨Bd, 1, none⟩) h.hd).trans h.bd, h.hd, (hb.cell (p := ⟨Bv, 0, none⟩) h.hv).trans h.bv, h.hv, (hb.cell (p := ⟨V, 0, none⟩) h.hV).trans h.v0, (hb.cell (p := ⟨V, 1, none⟩) h.hV).trans h.v1, h.hV,
    h.im.kept (hb.block M h.hM), h.hM, h.len, fun hl => by
      obtain ⟨g, o, e, hg, hr⟩ := h.row hl
      exact ⟨g, o, e, hg, fun j x hx m v hv => (hb.cell (p := ⟨g, o + j * 10 + m, none⟩) hg).trans (hr j x hx m v hv)⟩⟩
abbrev AD (l : List DV) : Type := { x : DV // x ∈ l }
def adE {l : List DV} (x : AD l) : Array Value := #[.agg #[.int .i64 x.1.1.idx, .int .i64 x.1.1.par, .string x.1.1.name, .string x.1.1.orig, .string x.1.1.sub, .string x.1.1.drv, .string x.1.1.ali, .int .i64 x.1.1.kind, .int .i64 x.1.1.num, x.1.2]]
set_option maxRecDepth 100000 in
set_option maxHeartbeats 4000000 in
theorem anc1_in (F : Fence) (n : Nat) (h7 : F.fn 89) (hro : F.round = none) (hn : 1 ≤ n) (lo n₀ Bd Bv V M N c : Nat) (par : Int) (a : Option Addr) (l : List DV) (D : DataW Unit) (J Jx : List (AD l) → World → Prop)
    (hwf : (Lit.int .i64 par).wf = true) (hwl : ∀ x ∈ l, (Lit.int .i64 x.1.par).wf = true)
    (hY : ∀ pre x W, J pre W → pre.length < 7 → YieldAt F (n - 1) Try.prog lo (adE x) W fun e W' =>
      (e = .returned (.bool true) ∧ J (pre ++ [x]) W' ∧ Below n₀ W W') ∨ (e = .returned (.bool false) ∧ Jx (pre ++ [x]) W'))
    (W : World) (hI : It n₀ W Bd Bv V M N c par a l D) (h0 : J [] W) :
    CallsIn F n Try.prog 89 #[.func (.yield lo) #[] #[], .pointer (some ⟨Bd, 0, none⟩), .pointer (some ⟨Bv, 0, none⟩)] W fun e W' => (∃ v, e = .returned v) ∧
      ((∃ ys, ys.map (fun p : AD l => p.1) = ancL l 7 par ∧ J ys W') ∨ (∃ pre, Jx pre W')) := by
  have hb1 := hI.bd
  refine callsIn_of_wp Try.func89 rfl h7 ?_ hro
  simp only [Try.ntmps89, List.size_toArray, List.length_cons, List.length_nil, Nat.reduceAdd, Nat.reduceSub, Array.replicate_succ, Array.replicate_zero, List.push_toArray, List.append_toArray, List.nil_append, List.cons_append]
  gi_wp2
  gi_loopw [4, 9] (fun p s wr => ∃ (k : Nat) (q : Int) (ys : List (AD l)), k ≤ 7 ∧ s = .int .i64 (k : Int) ∧ p = .int .i64 q ∧ (Lit.int .i64 q).wf = true ∧ ys.map (fun p : AD l => p.1) ++ ancL l (7 - k) q = ancL l 7 par ∧ ys.length = k ∧ J ys wr ∧ It n₀ wr Bd Bv V M N c par a l D)
    (fun _ s _ => 7 - (intOf s).toNat)
  case atStart => exact ⟨0, par, [], Nat.zero_le _, rfl, rfl, hwf, rfl, rfl, h0, hI⟩
  case round =>
    obtain ⟨k, q, ys, hk, rfl, rfl, hq, hys, hyl, hJs, hIt⟩ := hrel
    have bv := hIt.bv
    have v0 := hIt.v0
    have v1 := hIt.v1
    have HO := Lib.hid hIt.im.own
    by_cases hlt : k < 7
    · have hk7 : (k : Int) < 7 := by omega
      cases hp : lastI (l.map (·.1)) q with
      | none =>
        have hh := hIt.im.has q hq
        rw [hp] at hh
        have Hh := Lib.hid hh
        have hys2 : ys.map (fun p : AD l => p.1) = ancL l 7 par := by rw [← hys, ancL_none hp, List.append_nil]
        have Hys := Lib.hid hys2
        have HJ := Lib.hid hJs
        have Hq := Lib.hid (keyI hq)
        clear hh hys hys2 hp hJs hIt hI
        gi_wp2_with (gi_at_lookup; refine wpListIn_lookup_own_ok_int _ rfl _ _ 106 rfl 3 3 .i64 lawI Try.underlying106 Try.underlying3 (Try.zeroValue3 _) M N D rfl HO.out _ _ rfl Hq.out ?_; intro c hat hwc; rw [Hh.out]; clear hat hwc)
        refine ⟨fun _ h => (by cases h), ?_⟩
        gi_wp2
        refine bodyPost_ret (results_none rfl _ _ _) rfl ?_
        exact ⟨⟨_, rfl⟩, .inl ⟨_, Hys.out, HJ.out⟩⟩
      | some j =>
        obtain ⟨y, hy, -⟩ := lastI_some hp
        rw [List.getElem?_map, Option.map_eq_some_iff] at hy
        obtain ⟨x, hx, -⟩ := hy
        have hxm := List.mem_of_getElem? hx
        have hjN : j < N := by rw [← hIt.len]; exact (List.getElem?_eq_some_iff.1 hx).1
        have hjz : (j : Int) < (N : Int) := by omega
        obtain ⟨g, o, rfl, hg, hr⟩ := hIt.row (by rintro rfl; simp at hx)
        have hys2 : (ys ++ [(⟨x, hxm⟩ : AD l)]).map (fun p : AD l => p.1) ++ ancL l (7 - (k + 1)) x.1.par = ancL l 7 par := by
          rw [← hys, show 7 - k = (7 - (k + 1)) + 1 by omega, ancL_some hp hx]
          simp
        obtain ⟨fn, tmps, assign, body, hy, hR⟩ := hY ys ⟨x, hxm⟩ wr hJs (by omega)
        have hrx := hr j x hx
        have c0 : wr.cell? ⟨g, o + j * 10, none⟩ = some (.int .i64 x.1.idx) := hrx 0 _ rfl
        have c1 : wr.cell? ⟨g, o + j * 10 + 1, none⟩ = some (.int .i64 x.1.par) := hrx 1 _ rfl
        have c2 : wr.cell? ⟨g, o + j * 10 + 2, none⟩ = some (.string x.1.name) := hrx 2 _ rfl
        have c3 : wr.cell? ⟨g, o + j * 10 + 3, none⟩ = some (.string x.1.orig) := hrx 3 _ rfl
        have c4 : wr.cell? ⟨g, o + j * 10 + 4, none⟩ = some (.string x.1.sub) := hrx 4 _ rfl
        have c5 : wr.cell? ⟨g, o + j * 10 + 5, none⟩ = some (.string x.1.drv) := hrx 5 _ rfl
        have c6 : wr.cell? ⟨g, o + j * 10 + 6, none⟩ = some (.string x.1.ali) := hrx 6 _ rfl
        have c7 : wr.cell? ⟨g, o + j * 10 + 7, none⟩ = some (.int .i64 x.1.kind) := hrx 7 _ rfl
        have c8 : wr.cell? ⟨g, o + j * 10 + 8, none⟩ = some (.int .i64 x.1.num) := hrx 8 _ rfl
        have c9 : wr.cell? ⟨g, o + j * 10 + 9, none⟩ = some (x.2) := hrx 9 _ rfl
        have hh := hIt.im.has q hq
        have hat' := hIt.im.val q j hq hp
        rw [hp] at hh
        have Hh := Lib.hid hh
        have Hat := Lib.hid hat'
        have Hys := Lib.hid hys2
        have Hq := Lib.hid (keyI hq)
        have HIt := Lib.hid hIt
        have Hwx := Lib.hid (hwl x hxm)
        have Hr := Lib.hid (fun W' (hb : Below n₀ wr W') => (hb.cell (p := ⟨g, o + j * 10 + 1, none⟩) hg).trans c1)
        clear hh hys hys2 hp hJs hIt hI hat' hrx hr hx
        unfold adE at hy
        dsimp only at hy
        gi_wp2_with (gi_at_lookup; refine wpListIn_lookup_own_ok_int _ rfl _ _ 106 rfl 3 3 .i64 lawI Try.underlying106 Try.underlying3 (Try.zeroValue3 _) M N D rfl HO.out _ _ rfl Hq.out ?_; intro c hat hwc; rw [Hh.out]; rw [Hat.out] at hat; obtain rfl : (j : Int) = c := (by simpa using hat); clear hat hwc)
        refine hR.mono ?_
        rintro e W3 (⟨rfl, hJ3, hk3⟩ | ⟨rfl, hJx3⟩)
        · have HI3 := Lib.hid (HIt.out.keep hk3)
          have bv := HI3.out.bv
          have v0 := HI3.out.v0
          have c1 := Hr.out _ hk3
          gi_wp2
          go_roundw
          case rel => exact ⟨k + 1, x.1.par, ys ++ [⟨x, hxm⟩], by omega, rfl, rfl, Hwx.out, Hys.out, by simp [hyl], hJ3, HI3.out⟩
          case measure => simp [intOf]; omega
        · gi_wp2
          refine bodyPost_ret (results_none rfl _ _ _) rfl ?_
          exact ⟨⟨_, rfl⟩, .inr ⟨_, hJx3⟩⟩
    · obtain rfl : k = 7 := by omega
      have hys2 : ys.map (fun p : AD l => p.1) = ancL l 7 par := by rw [← hys]; simp [ancL]
      gi_wp2
      go_end0
      exact ⟨⟨_, rfl⟩, .inl ⟨_, hys2, hJs⟩⟩
end Go.Proofs.Ythblgkjmjfhkdaa.De
