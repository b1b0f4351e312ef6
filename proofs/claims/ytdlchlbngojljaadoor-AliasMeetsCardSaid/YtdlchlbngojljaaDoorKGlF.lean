/- Rows of bytes; beginning. -/
import Derived.Test.YtdlchlbngojljaaDoorKGlE
import Derived.Maps.AppendAt
import Derived.Laws.BytesString
import Derived.Laws.BytesArg
namespace Go.Proofs.YtdlchlbngojljaaDoor.Gl
open Go.RowKit
theorem info5 : (Tryd.prog.info? 5).map (fun i => (i.zero, i.size, i.bytes)) = some (some (.int .u8 0), 1, 1) := by kernel_rfl
def u8v (b : UInt8) : Value := .int .u8 (b.toNat : Int)
theorem grown_below {B : Nat} {w w1 : World} {v : Value} {k : Nat} {xs : List Value} {tmp : Obj} (hrow : w.ownsRow B 5 1 v k xs) (hB : B ≤ w.heap.size) (hg : (w.alloc tmp).grownBy w1 v.ownBlock) : Below B w w1 :=
 ((Below.refl B w).alloc hB tmp).grown hg (by simp; omega) fun j ej => by
  rcases hrow.2 with ⟨rfl, _⟩ | ⟨g, cap, cur, rfl, hb, _, _⟩
  ·simp [Value.ownBlock] at ej
  ·obtain rfl : g = j := by simpa [Value.ownBlock] using ej
   exact hb
theorem ownsRow_below {w w' : World} {B : Nat} {t : TypeId} {k n : Nat} {v : Value} {xs : List Value} (h : w.ownsRow B t k v n xs) (hb : Below w.heap.size w w') : w'.ownsRow B t k v n xs := by
 refine ⟨h.1, ?_⟩
 rcases h.2 with h1 | ⟨g, cap, cur, hv, hB, hg, rest⟩
 ·exact Or.inl h1
 ·refine Or.inr ⟨g, cap, cur, hv, hB, ?_, rest⟩
  rw [hb.block g, hg]
  exact (Array.getElem?_eq_some_iff.1 hg).1
set_option maxRecDepth 100000 in
theorem run_string_owned {w : World} {B : Nat} {v : Value} {l : List UInt8} (hrow : w.ownsRow B 5 1 v l.length (l.map u8v)) : (convert 101 9 v).run Tryd.prog w = .ok (.string ⟨l.toArray⟩) w := by
 rcases hrow.2 with ⟨rfl, h0⟩ | ⟨g, cap, cur, rfl, hb, hg, h1, h2, h3, h4⟩
 ·have hl : l = [] := List.length_eq_zero_iff.1 h0
  subst hl
  rw [run_convert_bytes_string (e := 5) w 101 9 none 0 0 Tryd.underlying101 Tryd.underlying5 Tryd.underlying9]
  simp [Conv.bytesToString, go_sem]
  rfl
 ·have := run_convert_bytes_arg (P := Tryd.prog) w 101 5 Tryd.underlying101 Tryd.underlying5 g 0 l.length cap (l.map fun b => (b.toNat : Int)) (by simp) (fun i hi => by
   rw [Nat.zero_add, cell_of_row w g i cur 5 (0, 0) hg]
   have h5 : (cur.toList.take (l.length * 1))[i]? = (l.map u8v)[i]? := by rw [h4]
   rw [Nat.mul_one, List.getElem?_take, if_pos hi] at h5
   rw [← Array.getElem?_toList, h5]
   simp [List.getElem?_eq_getElem hi, u8v]) 9 Tryd.underlying9
  rw [this]
  congr 2
  unfold strOfNums
  simp [List.map_map, Function.comp_def]
/-- The bytes that stand for themselves in front of the first other element. -/
def begB : List El → List UInt8
 | [] => []
 | e :: r => if e.self then (leastS e.set).getD 0 :: begB r else []
theorem begB_take {l : List El} {i : Nat} {e : El} (h : l[i]? = some e) (hs : e.self = false) (hall : ∀ (j : Nat) (f : El), j < i → l[j]? = some f → f.self = true) : begB l = (l.take i).map fun e => (leastS e.set).getD 0 := by
 induction l generalizing i with
 | nil => simp at h
 | cons f r ih =>
  cases i with
  | zero =>
   simp at h
   subst h
   simp [begB, hs]
  | succ i =>
   rw [begB, hall 0 f (by omega) rfl, if_pos rfl, ih (by simpa using h) (fun j g hj hg => hall (j + 1) g (by omega) (by simpa using hg))]
   simp
theorem begB_all {l : List El} (hall : ∀ (j : Nat) (f : El), l[j]? = some f → f.self = true) : begB l = l.map fun e => (leastS e.set).getD 0 := by
 induction l with
 | nil => rfl
 | cons f r ih =>
  rw [begB, hall 0 f rfl, if_pos rfl, ih (fun j g hg => hall (j + 1) g (by simpa using hg))]
  simp
def minB (e : El) : UInt8 := (leastS e.set).getD 0
theorem leastV_eq (S : UInt8 → Bool) : leastV S = .tuple #[.int .u8 (((leastS S).getD 0).toNat : Int), .bool (leastS S).isSome] := by
 unfold leastV
 cases leastS S <;> rfl
set_option maxHeartbeats 400000 in
set_option maxRecDepth 100000 in
theorem beginning_any (a : Option Addr) (cap g : Nat) (l : List El) (w : World) (ha : 0 < l.length → a = some ⟨g, 0, none⟩) (hE : ElsAt w g l) (hl : l.length ≤ 4096) (hT : TabAt w) (hg : g < w.heap.size) :
  Calls Tryd.prog 58 #[.slice a l.length cap] w (Bel (.string ⟨(begB l).toArray⟩) w) := by
 obtain ⟨i0, hi, hz0, hz1, hz2⟩ := info_parts info5
 obtain ⟨L, hL⟩ : ∃ L, l.length = L := ⟨_, rfl⟩
 have HE := Lib.hid hE
 have HL := Lib.hid hL
 have hLs : (L : Int) ≤ 4096 := by omega
 rw [hL] at ha ⊢
 have Ha := Lib.hid ha
 have HT := Lib.hid hT
 clear hE hL hl ha hT
 go_enter Tryd.func58, Tryd.ntmps58
 go_wp2
 go_loopw [3, 10] (fun s3 s10 wx => ∃ i : Nat, i ≤ L ∧ s10 = .int .i64 i ∧ wx.ownsRow w.heap.size 5 1 s3 i (((l.take i).map minB).map u8v) ∧ (∀ j f, j < i → l[j]? = some f → f.self = true) ∧ Below w.heap.size w wx) (fun _ s10 _ => L - (intOf s10).toNat)
 case atStart => exact ⟨0, by omega, rfl, World.ownsRow_nil w _ _ _, fun j _ hj _ => absurd hj (by omega), Below.refl _ _⟩
 case round =>
  obtain ⟨i, hi', rfl, hr, hall, hbel⟩ := hrel
  have Hr := Lib.hid hr
  have Hall := Lib.hid hall
  have Hbel := Lib.hid hbel
  clear hr hall hbel
  by_cases hlt : (i : Int) < (L : Int)
  ·have hiL : i < l.length := by rw [HL.out]; omega
   obtain ⟨e, he⟩ : ∃ e, l[i]? = some e := ⟨l[i], List.getElem?_eq_getElem hiL⟩
   obtain rfl := Ha.out (by omega)
   obtain ⟨hset, hstar, hself⟩ := HE.out i e he
   have c0 := (Hbel.out.cell (p := ⟨g, i * 6 + 0, none⟩) hg).trans (hset 0 (by omega))
   have c1 := (Hbel.out.cell (p := ⟨g, i * 6 + 1, none⟩) hg).trans (hset 1 (by omega))
   have c2 := (Hbel.out.cell (p := ⟨g, i * 6 + 2, none⟩) hg).trans (hset 2 (by omega))
   have c3 := (Hbel.out.cell (p := ⟨g, i * 6 + 3, none⟩) hg).trans (hset 3 (by omega))
   have c4 := (Hbel.out.cell (p := ⟨g, i * 6 + 4, none⟩) hg).trans hstar
   have c5 := (Hbel.out.cell (p := ⟨g, i * 6 + 5, none⟩) hg).trans hself
   rw [Nat.add_zero] at c0
   cases hes : e.self with
   | true =>
    rw [hes] at c5
    clear hset hstar hself
    have Hall1 := Lib.hid (show ∀ (j : Nat) (f : El), j < i + 1 → l[j]? = some f → f.self = true from fun j f hj hf => by
     rcases Nat.lt_or_ge j i with h1 | h1
     ·exact Hall.out j f h1 hf
     ·obtain rfl : j = i := by omega
      rw [he] at hf
      cases hf
      exact hes)
    have hstep : ((l.take (i + 1)).map minB).map u8v = ((l.take i).map minB).map u8v ++ [u8v (minB e)] := by
     rw [List.take_add_one, he]
     simp [Option.toList]
    have Hstep := Lib.hid hstep
    clear hstep
    go_wp2_with fail
    have hb1 : Below wr.heap.size wr (wr.alloc (.cells #[.int .u64 (wd e.set 0), .int .u64 (wd e.set 1), .int .u64 (wd e.set 2), .int .u64 (wd e.set 3), .bool e.star, .bool true] 108)) := (Below.refl _ _).alloc (Nat.le_refl _) _
    have hsz1 : (wr.alloc (.cells #[.int .u64 (wd e.set 0), .int .u64 (wd e.set 1), .int .u64 (wd e.set 2), .int .u64 (wd e.set 3), .bool e.star, .bool true] 108)).heap.size = wr.heap.size + 1 := by simp
    generalize wr.alloc (.cells #[.int .u64 (wd e.set 0), .int .u64 (wd e.set 1), .int .u64 (wd e.set 2), .int .u64 (wd e.set 3), .bool e.star, .bool true] 108) = W0 at hb1 hsz1 ⊢
    refine (least_any e.set W0 (HT.out.below (Hbel.out.trans (hb1.mono Hbel.out.size)))).mono ?_
    rintro ed W1 ⟨rfl, hb2⟩
    rw [leastV_eq]
    have hbW : Below wr.heap.size wr W1 := hb1.trans (hb2.mono (by omega))
    have hrW := ownsRow_below Hr.out hbW
    have HrW := Lib.hid hrW
    have HbW := Lib.hid (Hbel.out.trans (hbW.mono Hbel.out.size))
    have hBW : w.heap.size ≤ W1.heap.size := HbW.out.size
    have hm : (leastS e.set).getD 0 = minB e := rfl
    rw [hm]
    have hmi : ((minB e).toNat : Int) < 256 := by have := UInt8.toNat_lt (minB e); omega
    generalize (leastS e.set).isSome = ok
    clear hrW hb1 hb2 hsz1 hbW
    go_wp2_with (at_builtin; refine wpList_append_own _ rfl _ _ 101 rfl w.heap.size 5 i0 _ 1 1 Tryd.underlying101 hi hz0 hz1 hz2 rfl (by decide) _ _ _ rfl (HrW.out.alloc _) ⟨W1.heap.size, 0, none⟩ 1 1 [u8v (minB e)] rfl rfl (cell_one_new _ _ _) (by simp [u8v, Value.oneCell']) (by unfold maxLen; omega) (by omega) (by simp; omega) ?_; intro v' w1 hown' hgrow _; have Hown := Lib.hid hown'; have Hgrow := Lib.hid hgrow; clear hown' hgrow)
    go_roundw
    case rel => exact ⟨i + 1, by omega, by go_num, by rw [Hstep.out]; exact Hown.out, Hall1.out, HbW.out.trans (grown_below HrW.out hBW Hgrow.out)⟩
    case measure => simp [intOf]; omega
   | false =>
    rw [hes] at c5
    have hv : begB l = (l.take i).map minB := begB_take he hes Hall.out
    obtain ⟨bs, hbs⟩ : ∃ bs, (l.take i).map minB = bs := ⟨_, rfl⟩
    have hlen : bs.length = i := by rw [← hbs, List.length_map, List.length_take]; omega
    rw [hbs] at hv
    have hr := Hr.out
    rw [hbs, ← hlen] at hr
    have Hv := Lib.hid hv
    clear hset hstar hself hv hbs
    have hb1 : Below wr.heap.size wr (wr.alloc (.cells #[.int .u64 (wd e.set 0), .int .u64 (wd e.set 1), .int .u64 (wd e.set 2), .int .u64 (wd e.set 3), .bool e.star, .bool false] 108)) := (Below.refl _ _).alloc (Nat.le_refl _) _
    have hconv := run_string_owned (ownsRow_below hr hb1)
    have Hb1 := Lib.hid (Hbel.out.trans (hb1.mono Hbel.out.size))
    clear hb1 hr
    go_wp2
    go_ret
    exact ⟨by rw [Hv.out]; rfl, Hb1.out⟩
  ·obtain rfl : i = L := by omega
   have hv : begB l = l.map minB := begB_all fun j f hf => Hall.out j f (by have := (List.getElem?_eq_some_iff.1 hf).1; rw [HL.out] at this; exact this) hf
   have hr := Hr.out
   rw [← HL.out, List.take_length] at hr
   obtain ⟨bs, hbs⟩ : ∃ bs, l.map minB = bs := ⟨_, rfl⟩
   have hlen : bs.length = l.length := by rw [← hbs, List.length_map]
   rw [hbs] at hv hr
   rw [← hlen] at hr
   have hconv := run_string_owned hr
   have Hv := Lib.hid hv
   clear hr hv hbs
   go_wp2
   go_ret
   exact ⟨by rw [Hv.out]; rfl, Hbel.out⟩
end Go.Proofs.YtdlchlbngojljaaDoor.Gl
