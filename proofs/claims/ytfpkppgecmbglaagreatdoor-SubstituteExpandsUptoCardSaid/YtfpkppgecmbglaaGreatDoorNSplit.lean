
/- strings.SplitSeq at a separator of one byte: what its iterator hands out. -/
import Derived.Test.YtfpkppgecmbglaaGreatDoorNA
import Derived.Test.YtfpkppgecmbglaaGreatDoorNSeq
import Derived.Test.YtfpkppgecmbglaaGreatDoorShelf
import Derived.WalkKit
import Derived.OwnWalkIn
import Derived.TacticsIn
import Derived.TacticsInMore
import Derived.LoopNIn
import Derived.LoopIn
import Derived.RegionIn
import Derived.Shelf.RegionOpen
namespace Go.Proofs.YtfpkppgecmbglaaGreatDoor.Nm
open Go.RowKit Go.Shelf

attribute [local go_sem] Oper.semAt_some

/-- The pieces of l between the bytes c. -/
def pieces (c : UInt8) : List UInt8 → List (List UInt8)
  | [] => [[]]
  | x :: r => if x = c then [] :: pieces c r else
    match pieces c r with
    | [] => [[x]]
    | p :: ps => (x :: p) :: ps

theorem pieces_ne (c : UInt8) : ∀ l, pieces c l ≠ []
  | [] => by simp [pieces]
  | x :: r => by
    unfold pieces
    split
    · simp
    · split <;> simp

theorem pieces_none (c : UInt8) : ∀ l, Lib.indexByte l c < 0 → pieces c l = [l]
  | [], _ => rfl
  | x :: r, h => by
    by_cases hx : x = c
    · subst hx; simp [Lib.indexByte] at h
    · have hr : Lib.indexByte r c < 0 := by
        unfold Lib.indexByte at h
        rw [if_neg (by simpa using hx)] at h
        split at h
        · rename_i h1; have := eq_of_beq h1; omega
        · have := Lib.indexByte_ge r c; omega
      rw [pieces, if_neg hx, pieces_none c r hr]

theorem pieces_some (c : UInt8) : ∀ l (o : Nat), Lib.indexByte l c = (o : Int) → pieces c l = l.take o :: pieces c (l.drop (o + 1))
  | [], o, h => by simp [Lib.indexByte] at h
  | x :: r, o, h => by
    by_cases hx : x = c
    · subst hx
      simp [Lib.indexByte] at h
      obtain rfl : o = 0 := by omega
      simp [pieces]
    · unfold Lib.indexByte at h
      rw [if_neg (by simpa using hx)] at h
      split at h
      · omega
      · rename_i h1
        have h2 := Lib.indexByte_ge r c
        have h3 : Lib.indexByte r c ≠ -1 := by simpa using h1
        obtain ⟨k, rfl⟩ : ∃ k, o = k + 1 := ⟨o - 1, by omega⟩
        rw [pieces, if_neg hx, pieces_some c r k (by omega)]
        simp

theorem index_lt {l : List UInt8} {c : UInt8} {o : Nat} (h : Lib.indexByte l c = (o : Int)) : o < l.length := by
  have := (Lib.indexByte_some h).1
  exact (List.getElem?_eq_some_iff.1 this).1

def piecesB (c : UInt8) (s : ByteArray) : List ByteArray := (pieces c s.data.toList).map fun p => ⟨p.toArray⟩

theorem toArray_toList (s : ByteArray) : (⟨s.data.toList.toArray⟩ : ByteArray) = s := by cases s; simp
theorem piecesB_none (c : UInt8) (s : ByteArray) (h : Lib.indexByte s.data.toList c < 0) : piecesB c s = [s] := by
  unfold piecesB
  rw [pieces_none c _ h]
  simp only [List.map_cons, List.map_nil, toArray_toList]
theorem piecesB_some (c : UInt8) (s : ByteArray) (o : Nat) (h : Lib.indexByte s.data.toList c = (o : Int)) : piecesB c s = s.extract 0 o :: piecesB c (s.extract (o + 1) s.size) := by
  unfold piecesB
  rw [pieces_some c _ o h, Lib.extract_to_end, Lib.extract_eq s 0 o]
  simp

/-- The three boxes of an iterator of SplitSeq, laid at n0. -/
structure Boxes (n0 : Nat) (c : UInt8) (r : ByteArray) (W : World) : Prop where
  s : W.cell? ⟨n0, 0, none⟩ = some (.string r)
  f : W.frozen? ⟨n0, 0, none⟩ = false
  sep : W.cell? ⟨n0 + 1, 0, none⟩ = some (.string ⟨#[c]⟩)
  save : W.cell? ⟨n0 + 2, 0, none⟩ = some (.int .i64 0)

def KpBox (n0 : Nat) (A B : World) : Prop := ∀ k, n0 ≤ k → k < n0 + 3 → B.heap[k]? = A.heap[k]?
def StBox (n0 : Nat) (A B : World) : Prop := ∃ v, B = A.setCell ⟨n0, 0, none⟩ v
theorem Boxes.kept {n0 : Nat} {c : UInt8} {r : ByteArray} {A B : World} (h : Boxes n0 c r A) (k : KpBox n0 A B) : Boxes n0 c r B :=
  ⟨(World.cell?_of_block (k n0 (by omega) (by omega))).trans h.s, (World.frozen?_of_block (k n0 (by omega) (by omega))).trans h.f,
   (World.cell?_of_block (k (n0 + 1) (by omega) (by omega))).trans h.sep, (World.cell?_of_block (k (n0 + 2) (by omega) (by omega))).trans h.save⟩
theorem Boxes.set {n0 : Nat} {c : UInt8} {r : ByteArray} {A : World} (h : Boxes n0 c r A) (r' : ByteArray) : Boxes n0 c r' (A.setCell ⟨n0, 0, none⟩ (.string r')) := by
  refine ⟨World.cell?_setCell_same' _ _ _ (by rw [h.s]; rfl), by rw [World.frozen?_setCell]; exact h.f, ?_, ?_⟩
  · exact (World.cell?_of_block (Below.heap_setCell _ _ _ _ (by simp))).trans h.sep
  · exact (World.cell?_of_block (Below.heap_setCell _ _ _ _ (by simp))).trans h.save
def boxLen (n0 : Nat) (W : World) : Nat := match W.cell? ⟨n0, 0, none⟩ with
  | some (.string r) => r.size
  | _ => 0
theorem boxLen_eq {n0 : Nat} {c : UInt8} {r : ByteArray} {W : World} (h : Boxes n0 c r W) : boxLen n0 W = r.size := by unfold boxLen; rw [h.s]

set_option maxRecDepth 100000 in
set_option maxHeartbeats 1000000 in
theorem split_steps (n n0 : Nat) (c : UInt8) (s : ByteArray) (hs : s.size ≤ 4611686018427387904) (W : World) (hW : Boxes n0 c s W) :
    SeqSteps Fence.wide n Tryz.prog 157 #[.pointer (some ⟨n0 + 1, 0, none⟩), .pointer (some ⟨n0, 0, none⟩), .pointer (some ⟨n0 + 2, 0, none⟩)] (fun x : ByteArray => #[.string x])
      (StBox n0) (KpBox n0) 0 (piecesB c s) W := by
  intro l J Jx hJR _ hY h0
  refine callsIn_of_wp Tryz.func157 rfl trivial ?_ rfl
  simp only [Tryz.ntmps157, List.size_toArray, List.length_cons, List.length_nil, Nat.reduceAdd, Nat.reduceSub, Array.replicate_succ, Array.replicate_zero, List.push_toArray, List.append_toArray, List.nil_append, List.cons_append]
  have hsep := hW.sep
  gi_wp2
  gi_loopw [7] (fun _ wr => ∃ (pre : List ByteArray) (r : ByteArray), r.size ≤ 4611686018427387904 ∧ piecesB c s = pre ++ piecesB c r ∧ Boxes n0 c r wr ∧ J pre wr) (fun _ wr => boxLen n0 wr)
  case atStart => exact ⟨[], s, hs, rfl, hW, h0⟩
  case round =>
    obtain ⟨pre, r, hr, hx, hb, hJ⟩ := hrel
    have Hx := Lib.hid hx
    clear hx
    have h1 := hb.s
    have h2 := hb.sep
    have h3 := hb.save
    by_cases hneg : Lib.indexByte r.data.toList c < 0
    · have hi : Lib.indexByte r.data.toList c = -1 := by have := Lib.indexByte_ge r.data.toList c; omega
      have hidx : ∀ W', Calls Tryz.prog 51 #[.string r, .string ⟨#[c]⟩] W' fun e w' => e = .returned (.int .i64 (-1)) ∧ w' = W' := fun W' => by rw [← hi]; exact Tryz.strings_Index_one r c W'
      obtain ⟨fn, tmps, assign, body, hy, hR⟩ := hY pre r wr hJ ⟨[], by rw [Hx.out, piecesB_none c r hneg]⟩ (Nat.zero_le _)
      have Hn := Lib.hid (piecesB_none c r hneg)
      clear hi hneg
      have Hidx := Lib.hid hidx
      clear hidx
      gi_wp2_with fail
      refine ⟨trivial, fun h => (by cases h), (callsIn_wide.2 (Hidx.out _)).mono ?_⟩
      rintro e w' ⟨rfl, rfl⟩
      gi_wp2
      refine ⟨fun h => (by cases h), hR.mono ?_⟩
      rintro e W3 (⟨rfl, hJ3, hk3⟩ | ⟨rfl, hJx3, _⟩)
      · gi_wp2
        go_end0
        exact ⟨⟨_, rfl⟩, .inl (by rw [Hx.out, Hn.out]; exact hJ3)⟩
      · gi_wp2
        go_end0
        exact ⟨⟨_, rfl⟩, .inr ⟨_, by rw [Hx.out, Hn.out]; exact List.prefix_refl _, hJx3⟩⟩
    · obtain ⟨o, ho⟩ : ∃ o : Nat, Lib.indexByte r.data.toList c = (o : Int) := ⟨(Lib.indexByte r.data.toList c).toNat, by omega⟩
      have hidx : ∀ W', Calls Tryz.prog 51 #[.string r, .string ⟨#[c]⟩] W' fun e w' => e = .returned (.int .i64 (o : Int)) ∧ w' = W' := fun W' => by rw [← ho]; exact Tryz.strings_Index_one r c W'
      have Hs := Lib.hid (piecesB_some c r o ho)
      have hlt : o < r.size := by have := index_lt ho; rwa [← Lib.size_eq] at this
      have hlt' : (o : Int) < (r.size : Int) := by omega
      obtain ⟨fn, tmps, assign, body, hy, hR⟩ := hY pre (r.extract 0 o) wr hJ ⟨piecesB c (r.extract (o + 1) r.size), by rw [Hx.out, Hs.out]⟩ (Nat.zero_le _)
      clear ho hneg
      have Hidx := Lib.hid hidx
      clear hidx
      gi_wp2_with fail
      refine ⟨trivial, fun h => (by cases h), (callsIn_wide.2 (Hidx.out _)).mono ?_⟩
      rintro e w' ⟨rfl, rfl⟩
      gi_wp2
      refine ⟨fun h => (by cases h), hR.mono ?_⟩
      rintro e W3 (⟨rfl, hJ3, hk3⟩ | ⟨rfl, hJx3, _⟩)
      · have hb3 := hb.kept hk3
        have g1 := hb3.s
        have g2 := hb3.sep
        have g3 := hb3.save
        have g4 := hb3.f
        gi_wp2
        go_roundw
        case rel => exact ⟨pre ++ [r.extract 0 o], r.extract (o + 1) r.size, by simp; omega, by rw [Hx.out, Hs.out]; simp, hb3.set _, hJR _ _ _ hJ3 ⟨_, rfl⟩⟩
        case measure => rw [boxLen_eq (hb3.set _), boxLen_eq hb]; simp; omega
      · gi_wp2
        refine bodyPost_ret (results_none rfl _ _ _) rfl ?_
        exact ⟨⟨_, rfl⟩, .inr ⟨_, by rw [Hx.out, Hs.out]; exact ⟨piecesB c (r.extract (o + 1) r.size), by simp⟩, hJx3⟩⟩
end Go.Proofs.YtfpkppgecmbglaaGreatDoor.Nm
