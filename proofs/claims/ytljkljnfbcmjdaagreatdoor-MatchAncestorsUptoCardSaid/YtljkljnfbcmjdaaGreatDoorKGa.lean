/- Terms in memory; Match of both. -/
import Derived.Test.YtljkljnfbcmjdaaGreatDoorKAB
import Derived.Deep.Upon
set_option maxRecDepth 100000
namespace Go.Proofs.YtljkljnfbcmjdaaGreatDoor
open Go.RowKit
structure Tm where
 key : Int
 name : List UInt8
 op : Int
 val : List UInt8
 deriving DecidableEq
def matchB (o : Int) : Bool := o == 1 || o == 2
def tmC (t : Tm) : Array Value := #[.int .i64 t.key, .string (bs t.name), .int .i64 t.op, .string (bs t.val)]
def SmT (t : Tm) : Prop := t.name.length ≤ 100000000 ∧ t.val.length ≤ 100000000
def MAt (w : World) (b : Nat) (t : Tm) : Prop := w.heap[b]? = some (.cells (tmC t) 46 (0, 0))
theorem MAt.new (w : World) (t : Tm) : MAt (w.alloc (.cells (tmC t) 46)) w.heap.size t := heap_alloc_last _ _
theorem MAt.cells {w : World} {b : Nat} {t : Tm} (h : MAt w b t) : w.cell? ⟨b, 0, none⟩ = some (.int .i64 t.key) ∧ w.cell? ⟨b, 1, none⟩ = some (.string (bs t.name)) ∧ w.cell? ⟨b, 2, none⟩ = some (.int .i64 t.op) ∧ w.cell? ⟨b, 3, none⟩ = some (.string (bs t.val)) := by
 refine ⟨?_, ?_, ?_, ?_⟩ <;> rw [cell_of_row _ _ _ _ _ _ h] <;> rfl
theorem MAt.kp {w w' : World} {b : Nat} {t : Tm} {s : List Nat} (h : MAt w b t) (hk : Kp s w w') (hs : b ∉ s) : MAt w' b t := (hk.block b (block_lt h) hs).trans h
theorem match_any (t : Tm) (w : World) : Calls Tryz.prog 33 #[.agg (tmC t)] w fun e w' => e = .returned (.bool (matchB t.op)) ∧ Kp [] w w' := by
 obtain ⟨k, n, o, v⟩ := t
 have hk := fun y => (Kp.refl [] w).alloc (.cells (tmC ⟨k, n, y, v⟩) 46)
 have HK := Lib.hid hk
 clear hk
 unfold matchB
 unfold tmC at HK ⊢
 simp only at HK ⊢
 by_cases h1 : o = 1
 ·subst h1
  go_enter Tryz.func33, Tryz.ntmps33
  go_wp2
  go_ret
  exact ⟨rfl, HK.out _⟩
 ·by_cases h2 : o = 2
  ·subst h2
   go_enter Tryz.func33, Tryz.ntmps33
   go_wp2
   go_ret
   exact ⟨rfl, HK.out _⟩
  ·have HB := Lib.hid (show (o == 1 || o == 2) = false by simp [h1, h2])
   go_enter Tryz.func33, Tryz.ntmps33
   go_wp2
   go_ret
   exact ⟨by rw [HB.out]; rfl, HK.out _⟩
set_option maxHeartbeats 4000000 in
theorem refMatch_any (t : Tm) (W : World) : Calls Tryz.prog 53 #[.agg #[.int .i64 t.key, .string (bs t.name), .int .i64 t.op, .string (bs t.val)]] W fun e W' => e = .returned (.bool (matchB t.op)) ∧ Kp [] W W' := by
 obtain ⟨W1, hW1⟩ : ∃ W1, W.alloc (.cells #[.int .i64 t.key, .string (bs t.name), .int .i64 t.op, .string (bs t.val)] 46) = W1 := ⟨_, rfl⟩
 obtain ⟨B, hB⟩ : ∃ B, W.heap.size = B := ⟨_, rfl⟩
 have hk : Kp [] W W1 := by rw [← hW1]; exact (Kp.refl [] W).alloc _
 have hb : MAt W1 B t := by rw [← hW1, ← hB]; exact MAt.new W t
 obtain ⟨c0, c1, c2, c3⟩ := hb.cells
 have HK := Lib.hid hk
 clear hk hb
 have hm : matchB t.op = ((t.op == 1) || (t.op == 2)) := rfl
 obtain ⟨b1, h1⟩ : ∃ b, (t.op == 1) = b := ⟨_, rfl⟩
 obtain ⟨b2, h2⟩ : ∃ b, (t.op == 2) = b := ⟨_, rfl⟩
 rw [hm, h1, h2]
 clear hm
 cases b1 <;> cases b2 <;>
 ·go_enter Tryz.func53, Tryz.ntmps53
  go_wp2
  go_ret
  exact ⟨rfl, HK.out⟩
noncomputable def tmT : RT Tm where
 sz := 4
 ty := 46
 sl := 23
 bt := 48
 z := .agg #[.int .i64 0, .string ⟨#[]⟩, .int .i64 0, .string ⟨#[]⟩]
 cf := fun x => (tmC x).toList
 pos := by decide
 len := fun _ => rfl
 one := fun x v hv => by
  simp only [tmC, List.mem_cons, List.not_mem_nil, or_false] at hv
  rcases hv with rfl | rfl | rfl | rfl <;> rfl
 und := Tryz.underlying23
 info := by kernel_rfl
 zs := rfl
 btl := by decide
theorem tmRow {w : World} {b o : Nat} {l : List Tm} (h : tmT.Row w b o l) {j : Nat} {x : Tm} (hx : l[j]? = some x) :
  w.cell? ⟨b, o + j * 4, none⟩ = some (.int .i64 x.key) ∧ w.cell? ⟨b, o + j * 4 + 1, none⟩ = some (.string (bs x.name)) ∧ w.cell? ⟨b, o + j * 4 + 2, none⟩ = some (.int .i64 x.op) ∧ w.cell? ⟨b, o + j * 4 + 3, none⟩ = some (.string (bs x.val)) :=
 ⟨h j x hx 0 _ rfl, h j x hx 1 _ rfl, h j x hx 2 _ rfl, h j x hx 3 _ rfl⟩
theorem MAt.range {w : World} {b : Nat} {x : Tm} (h : MAt w b x) : w.rangeAt b 0 (tmT.cf x) := fun j v hv => by
 rw [Nat.zero_add, cell_of_row _ _ _ _ _ _ h]
 have : (tmC x).toList[j]? = some v := hv
 rwa [Array.getElem?_toList] at this
def tm0 : Tm := ⟨0, [], 0, []⟩
theorem MAt.frz {w : World} {b o : Nat} {x : Tm} (h : MAt w b x) : w.frozen? ⟨b, o, none⟩ = false := by simp [World.frozen?, MAt] at h ⊢; simp [h]
theorem MAt.all {w : World} {b : Nat} {x : Tm} (h : MAt w b x) (y : Tm) : MAt ((((w.setCell ⟨b, 0, none⟩ (.int .i64 y.key)).setCell ⟨b, 1, none⟩ (.string (bs y.name))).setCell ⟨b, 2, none⟩ (.int .i64 y.op)).setCell ⟨b, 3, none⟩ (.string (bs y.val))) b y := by
 unfold MAt at h ⊢
 simp [World.setCell, Array.getElem?_modify, h, tmC]
theorem tm_end {fn : Func} {p : Nat} {a : Act} {W : World} {R : Nat} {x : Tm} {Q : Ending → World → Prop} (hr : fn.results = #[.cell p 46]) (h : MAt W R x) (h2 : a.tmps.getD p undef = .pointer (some ⟨R, 0, none⟩)) (hd : a.defers = [])
  (hq : Q (.returned (.agg (tmC x))) W) : bodyPost Tryz.prog fn Q .ret a W := by
 obtain ⟨z0, z1, z2, z3⟩ := h.cells
 refine bodyPost_ret (v := .agg (tmC x)) ?_ hd hq
 rw [Array.getD_eq_getD_getElem?] at h2
 simp [results, hr, go_sem, h2, z0, z1, z2, z3]
 rfl
theorem MAt.other {w : World} {b : Nat} {x : Tm} (h : MAt w b x) {p : Addr} (hp : b ≠ p.block) (v : Value) : MAt (w.setCell p v) b x := (Below.heap_setCell _ _ _ _ hp).trans h
end Go.Proofs.YtljkljnfbcmjdaaGreatDoor
