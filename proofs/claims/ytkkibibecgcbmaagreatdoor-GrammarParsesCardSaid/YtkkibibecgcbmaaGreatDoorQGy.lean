/- Gy -/
import Derived.Test.YtkkibibecgcbmaaGreatDoorQGx
import Derived.Deep.Upon
set_option maxRecDepth 100000
namespace Go.Proofs.YtkkibibecgcbmaaGreatDoor
open Go.RowKit
def valO (l : List Tm) (k : Int) : Option (List UInt8) := (l.find? fun t => t.key == k).map (·.val)
end Go.Proofs.YtkkibibecgcbmaaGreatDoor
namespace Go.Proofs.YtkkibibecgcbmaaGreatDoor
open Go.RowKit
structure RV where
 file : List UInt8
 line : Int
 a : Option Addr
 n : Nat
 c : Nat
 l : List Tm
def rvC (x : RV) : Array Value := #[.string (bs x.file), .int .i64 x.line, .slice x.a x.n x.c]
noncomputable def rvT : RT RV where
 sz := 3
 ty := 63
 sl := 50
 bt := 48
 z := .agg #[.string ⟨#[]⟩, .int .i64 0, .slice none 0 0]
 cf := fun x => (rvC x).toList
 pos := by decide
 len := fun _ => rfl
 one := fun x v hv => by
  simp only [rvC, List.mem_cons, List.not_mem_nil, or_false] at hv
  rcases hv with rfl | rfl | rfl <;> rfl
 und := Tryz.underlying50
 info := by kernel_rfl
 zs := rfl
 btl := by decide
def Ins (W : World) (B : Nat) (x : RV) : Prop := tmT.Own W B (.slice x.a x.n x.c) x.l
theorem own_ne {W : World} {B B' : Nat} {v u : Value} {L : List RV} {m : List Tm} (h : rvT.Own W B v L) (h' : tmT.Own W B' u m) : ∀ b, v.ownBlock = some b → u.ownBlock ≠ some b := fun b hb hu => by
 rcases h.2 with ⟨hv, _⟩ | ⟨g, cap, cur, hv, _, hh, _⟩
 ·rw [hv] at hb
  cases hb
 ·rcases h'.2 with ⟨hv', _⟩ | ⟨g', cap', cur', hv', _, hh', _⟩
  ·rw [hv'] at hu
   cases hu
  ·rw [hv] at hb
   rw [hv'] at hu
   have e1 : g = b := by simpa [Value.ownBlock] using hb
   have e2 : g' = b := by simpa [Value.ownBlock] using hu
   subst e1
   subst e2
   rw [hh] at hh'
   exact absurd (Obj.cells.inj (Option.some.inj hh')).2.1 (by decide)
theorem Ins.tb {W W' : World} {B tb : Nat} {x : RV} (h : Ins W B x) (hB : tb < B) (hk : Kp [tb] W W') : Ins W' B x := own_tb h hB hk
theorem Ins.grown {W W' : World} {B : Nat} {v : Value} {L : List RV} {x : RV} {B' : Nat} (h : Ins W B x) (hv : rvT.Own W B' v L) (g : W.grownBy W' v.ownBlock) : Ins W' B x :=
 RT.Own.keep h fun b hb hu => g.block b hb fun e => own_ne hv h b e.symm hu
end Go.Proofs.YtkkibibecgcbmaaGreatDoor
namespace Go.Proofs.YtkkibibecgcbmaaGreatDoor
open Go.RowKit
def RV.pl (x : RV) : List UInt8 × Int × List Tm := (x.file, x.line, x.l)
end Go.Proofs.YtkkibibecgcbmaaGreatDoor
namespace Go.Proofs.YtkkibibecgcbmaaGreatDoor
open Go.RowKit
end Go.Proofs.YtkkibibecgcbmaaGreatDoor
namespace Go.Proofs.YtkkibibecgcbmaaGreatDoor
open Go.RowKit
def RT.Any {α : Type} (r : RT α) (w : World) (v : Value) (l : List α) : Prop := (v = .slice none 0 0 ∧ l = []) ∨ ∃ b p c, v = .slice (some ⟨b, p, none⟩) l.length c ∧ r.Row w b p l
theorem RT.Own.any {α : Type} {r : RT α} {w : World} {B : Nat} {v : Value} {l : List α} (h : r.Own w B v l) : r.Any w v l := by
 rcases h.form2 with ⟨h1, h2⟩ | ⟨g, cap, h1, _, _, _, _, h2⟩
 ·exact .inl ⟨h1, h2⟩
 ·exact .inr ⟨g, 0, cap, h1, h2⟩
def RV.to (x : RV) : Option (List UInt8) := valO x.l 24
end Go.Proofs.YtkkibibecgcbmaaGreatDoor
